import PyProof.Rows.All
import Wide.All
import OpenK.AllK
import Wide.FinOn
import Lean
import PyProof.EqAt
import PyProof.EqKinds
import PyProof.TupleCall
import PyProof.AttrMissHeap
import PySem.Challenge.RW_smallrooms_k34_whole_read_once
set_option Elab.async false
set_option linter.all false
set_option maxRecDepth 100000
set_option Elab.async false
set_option linter.all false
set_option maxRecDepth 100000
namespace L2
open PySem PySem.Spec PyProof.Rows
abbrev Key:=Sum Int Str
def zmx:Key->Value->Bool
 | .inl k,v=>Value.isInt k v
 | .inr x,v=>Value.isStrOf x v
def q4m(w:World):Key->Int
 | .inl k=>hashInt k
 | .inr x=>hashStr w x
theorem z2h:∀{k:Key} {v:Value},zmx k v=true->(∃i t,k=Sum.inl i/\v=Value.int i t)\/(∃x t,k=Sum.inr x/\v=Value.str x t)
 | .inl i,v,h=>by
  obtain⟨t,e⟩:=Value.isInt_shape (k:=i) (v:=v) h
  exact .inl ⟨i,t,rfl,e⟩
 | .inr x,v,h=>by
  obtain⟨t,e⟩:=Value.isStrOf_shape (x:=x) (v:=v) h
  exact .inr ⟨x,t,rfl,e⟩
theorem zso(i:Int)(t:Tok):zmx (.inl i) (.int i t)=true:=by simp[zmx,Value.isInt]
theorem zsn(x:Str)(t:Tok):zmx (.inr x) (.str x t)=true:=by simp[zmx,Value.isStrOf]
theorem q1q(a b:Int):decide ((Sum.inl a:Key)=Sum.inl b)=(a == b):=by
 by_cases e:a=b
 ·subst e; simp
 ·have h:¬ (Sum.inl a:Key)=Sum.inl b:=fun q=>e (Sum.inl.inj q)
  rw [decide_eq_false h]
  exact(beq_eq_false_iff_ne.mpr e).symm
theorem zx9(a b:Str):decide ((Sum.inr a:Key)=Sum.inr b)=decide (a=b):=by
 by_cases e:a=b
 ·subst e; simp
 ·have h:¬ (Sum.inr a:Key)=Sum.inr b:=fun q=>e (Sum.inr.inj q)
  rw [decide_eq_false h,decide_eq_false e]
theorem q1p(a:Int)(b:Str):decide ((Sum.inl a:Key)=Sum.inr b)=false:=decide_eq_false (fun q=>nomatch q)
theorem q1o(a:Str)(b:Int):decide ((Sum.inr a:Key)=Sum.inl b)=false:=decide_eq_false (fun q=>nomatch q)
def z34(prog:Program)(w:World):PySem.KeyKind prog w Key where
 is:=zmx
 hash:=q4m w
 inj:=fun v a b ha hb=>by
  rcases z2h ha with⟨i,t,rfl,rfl⟩ | ⟨x,t,rfl,rfl⟩
  ·rcases z2h hb with⟨j,u,rfl,e⟩ | ⟨y,u,rfl,e⟩
   ·injection e with e1 _; rw [e1]
   ·exact nomatch e
  ·rcases z2h hb with⟨j,u,rfl,e⟩ | ⟨y,u,rfl,e⟩
   ·exact nomatch e
   ·injection e with e1 _; rw [e1]
 byValue:=fun k v h=>by
  rcases z2h h with⟨i,t,rfl,rfl⟩ | ⟨x,t,rfl,rfl⟩<;>rfl
 pyHash:=fun hv h=>by
  rcases z2h hv with⟨i,t,rfl,rfl⟩ | ⟨x,t,rfl,rfl⟩
  ·exact wpAny_pyHash_int h
  ·exact wpAny_pyHash_str h
 eqBool:=fun hu hv h=>by
  rcases z2h hu with⟨i,t,rfl,rfl⟩ | ⟨x,t,rfl,rfl⟩
  ·rcases z2h hv with⟨j,u,rfl,rfl⟩ | ⟨y,u,rfl,rfl⟩
   ·rw [q1q] at h; exact wpAny_eqBool_int h
   ·rw [q1p] at h; exact SeqAt.EqAt.int_str i t y u _ _ _ _ h
  ·rcases z2h hv with⟨j,u,rfl,rfl⟩ | ⟨y,u,rfl,rfl⟩
   ·rw [q1o] at h; exact SeqAt.EqAt.str_int x t j u _ _ _ _ h
   ·rw [zx9] at h; exact wpAny_eqBool_str h
 «strs»:=fun k x t v h=>by
  rcases z2h h with⟨i,u,rfl,e⟩ | ⟨y,u,rfl,e⟩
  ·exact nomatch e
  ·injection e with e1 _
   subst e1
   cases v<;>rfl
theorem zmt(prog:Program)(w:World)(i:Int)(t:Tok):(z34 prog w).is (.inl i) (.int i t)=true:=zso i t
theorem zms(prog:Program)(w:World)(x:Str)(t:Tok):(z34 prog w).is (.inr x) (.str x t)=true:=zsn x t
end L2
namespace L2
open PySem PySem.Spec PyProof.Rows
inductive V where
 | non | bl (b:Bool) | int (i:Int) | str (x:Str) | byt (b:Array UInt8) | flt (b:UInt64) | ref (a:Addr) | ty (n:String)
 deriving DecidableEq
def RelV:V->Value->Prop
 | .non,u=>u=Value.none
 | .bl b,u=>u=Value.bool b
 | .int i,u=>∃t,u=Value.int i t
 | .str x,u=>∃t,u=Value.str x t
 | .byt b,u=>∃t,u=Value.bytes b t
 | .flt b,u=>∃t,u=Value.float b t
 | .ref a,u=>u=Value.ref a
 | .ty n,u=>u=Value.type n
abbrev Vals:List V->List Value->Prop:=Paired RelV
theorem Vals.length{xs:List V}{us:List Value}(r:Vals xs us):xs.length=us.length:=Paired.length r
theorem Vals.get:∀{xs:List V} {us:List Value} {i:Nat} {x:V},Vals xs us->xs[i]?=some x->∃u,us[i]?=some u/\RelV x u
 | _,_,_,_,.nil,e=>by simp at e
 | _,_,0,_,.cons r _,e=>by simp at e; subst e; exact⟨_,rfl,r⟩
 | _,_,i+1,x,.cons _ t,e=>by
  obtain⟨u,h1,h2⟩:=Vals.get (i:=i) (x:=x) t (by simpa using e)
  exact⟨u,by simpa using h1,h2⟩
theorem Vals.set{x:V}{u:Value}(r:RelV x u):∀{xs:List V} {us:List Value} (i:Nat),Vals xs us->Vals (xs.set i x) (us.set i u)
 | _,_,_,.nil=>.nil
 | _,_,0,.cons _ t=>.cons r t
 | _,_,i+1,.cons q t=>.cons q (Vals.set r i t)
theorem Vals.append:∀{xs ys:List V} {us ws:List Value},Vals xs us->Vals ys ws->Vals (xs++ys) (us++ws)
 | _,_,_,_,.nil,s=>s
 | _,_,_,_,.cons r t,s=>.cons r (Vals.append t s)
theorem Vals.take:∀{xs:List V} {us:List Value} (n:Nat),Vals xs us->Vals (xs.take n) (us.take n)
 | _,_,0,_=>.nil
 | _,_,_+1,.nil=>.nil
 | _,_,n+1,.cons r t=>.cons r (Vals.take n t)
theorem Vals.drop:∀{xs:List V} {us:List Value} (n:Nat),Vals xs us->Vals (xs.drop n) (us.drop n)
 | _,_,0,r=>r
 | _,_,_+1,.nil=>.nil
 | _,_,n+1,.cons _ t=>Vals.drop n t
def RelO:Option V->Option Value->Prop
 | some v,some u=>RelV v u
 | none,none=>True
 | _,_=>False
def KV{κ : Type}:List (κ×V)->List (κ×Value)->Prop:=Paired fun(p : κ×V) (q : κ×Value)=>p.1=q.1/\RelV p.2 q.2
def kV:Key->V
 | .inl i=>.int i
 | .inr x=>.str x
inductive HO where
 | lst (xs:List V)
 | tup (xs:List V)
 | dK (kvs:List (Key×V)) | dT (kvs:List (List Key×V))
 | set (S:Int->Bool) (n:Nat)
 | ins (C dx:Addr) (fs:List (Str×V))
 | own (x:Addr)
 | xd (fs:List (Str×V))
 | met (f x:Addr)
 | rng (lo hi:Int)
 | frz (o:Obj) (u:HO)
 | tbl (ps:Array Value)
 | ext (φ : Heap->Prop)
abbrev Hp:=Addr->Option HO
def upd(H:Hp)(a:Addr)(o:HO):Hp:=fun b=>if b=a then some o else H b
theorem z01{H:Hp}{a:Addr}{o:HO}:upd H a o a=some o:=by unfold upd; rw [if_pos rfl]
theorem z0a{H:Hp}{a b:Addr}{o:HO}(h:b≠a):upd H a o b=H b:=by unfold upd; rw [if_neg h]
theorem zg0{H:Hp}{a b:Addr}{o u:HO}(h:H a=some o)(h':H b=some u)(d:o≠u):a≠b:=by
 intro e; subst e; rw [h] at h'; exact d (Option.some.inj h')
theorem z0h{H:Hp}{a b:Addr}{o:HO}(h:H a=some o)(h':H b=none):a≠b:=by
 intro e; subst e; rw [h] at h'; cases h'
section
variable(P:Program)(w:World)
def ObjOk(H:Hp)(h:Heap)(a:Addr):HO->Prop
 | .lst xs=>xs.length<=sizeLine/\∃(its:List Value) (n:Nat),Vals xs its/\h.get? a=some {cls:=.type "list",data:=.seq its.toArray n}
 | .tup xs=>xs.length<=sizeLine/\∃its:List Value,Vals xs its/\IsTup h a its.toArray
 | .dK kvs=>kvs.length<=sizeLine/\(a == sysModules)=false/\∃vs,KV kvs vs/\h.DictOf (z34 P w) a vs
 | .dT kvs=>kvs.length<=sizeLine/\(a == sysModules)=false/\∃xs:List (List Key×Addr×Value),
   Paired (fun(p:List Key×V) (q:List Key×Addr×Value)=>p.1=q.1/\H q.2.1=some (.tup (p.1.map kV))/\RelV p.2 q.2.2) kvs xs/\
   ∃o es ep,h.get? a=some o/\o.ExactDict/\o.data=.dict es ep/\es.toList=xs.map (entryOfKey (tupleKind (z34 P w)))/\(xs.map (·.1)).Nodup
 | .set S n=>h.SetOf (intKind P w) a S n
 | .ins C dx fs=>H dx=some (.own a)/\fs.length<=1000/\dx≠a/\h.get? a=some (PySem.W.instObj C dx)/\
   ∃mA,h.Ns1 dx mA/\(∀f,RelO (fs.lookup f) (mA f))/\PySem.Within mA (fs.map (·.1))
 | .own _=>∃o,h.get? a=some o
 | .xd fs=>∃mA,h.Ns1 a mA/\∀f,RelO (fs.lookup f) (mA f)
 | .rng lo hi=>∃t u v,h.get? a=some {cls:=.type "range",data:=.fields #[.int lo t,.int hi u,.int 1 v]}
 | .frz o u=>h.get? a=some o/\ObjOk H h a u
 | .tbl ps=>h.get? a=some {cls:=.none,data:=.fields ps}
 | .met f x=>h.get? a=some (PySem.W.methodObj (.ref f) (.ref x))
 | .ext φ=>φ h/\(∃o,h.get? a=some o)/\∀h1 h2:Heap,φ h1->(∀o,h1.get? a=some o->h2.get? a=some o)->φ h2
def HOk(H:Hp)(h:Heap):Prop:=∀a o,H a=some o->ObjOk P w H h a o
end
section
variable{P:Program}{w:World}{H H':Hp}{h h':Heap}{a:Addr}{o:HO}
theorem ObjOk.lt(x:ObjOk P w H h a o):a < h.objs.size:=by
 cases o with
 | lst xs=>obtain⟨_,_,_,_,e⟩:=x; exact Heap.lt_size e
 | tup xs=>obtain⟨_,_,_,p⟩:=x; exact p.lt
 | dK kvs=>obtain⟨_,_,_,_,o,_,_,e,_⟩:=x; exact Heap.lt_size e
 | dT kvs=>obtain⟨_,_,_,_,o,_,_,e,_⟩:=x; exact Heap.lt_size e
 | set S n=>obtain⟨o,_,_,_,e,_⟩:=x; exact Heap.lt_size e
 | ins C dx fs=>obtain⟨_,_,_,e,_⟩:=x; exact Heap.lt_size e
 | own y=>obtain⟨_,e⟩:=x; exact Heap.lt_size e
 | xd fs=>obtain⟨_,⟨_,_,_,e,_⟩,_⟩:=x; exact Heap.lt_size e
 | rng lo hi=>obtain⟨_,_,_,e⟩:=x; exact Heap.lt_size e
 | frz ob u=>obtain⟨e,_⟩:=x; exact Heap.lt_size e
 | tbl ps=>exact Heap.lt_size (show h.get? a=some _ from x)
 | met f y=>exact Heap.lt_size (show h.get? a=some _ from x)
 | ext φ=>obtain⟨_,⟨_,e⟩,_⟩:=x; exact Heap.lt_size e
theorem Paired.mapP{α β : Type}{F G : α->β->Prop}:∀{l₁:List α} {l₂:List β},Paired F l₁ l₂->(∀a b,F a b->G a b)->Paired G l₁ l₂
 | _,_,.nil,_=>.nil
 | _,_,.cons r t,f=>.cons (f _ _ r) (Paired.mapP t f)
theorem ObjOk.stay(x:ObjOk P w H h a o)(k:∀b u,(b=a\/H b=some (.own a))->h.get? b=some u->h'.get? b=some u)
  (ho:∀b,H b=some (.own a)->H' b=some (.own a)) (ht:∀b xs,H b=some (.tup xs)->H' b=some (.tup xs)):ObjOk P w H' h' a o:=by
 induction o with
 | lst xs=>obtain⟨z,its,n,r,e⟩:=x; exact⟨z,its,n,r,k _ _ (.inl rfl) e⟩
 | tup xs=>obtain⟨z,its,r,ob,e,c⟩:=x; exact⟨z,its,r,ob,k _ _ (.inl rfl) e,c⟩
 | dK kvs=>obtain⟨z,y,vs,r,ob,es,ep,e,c⟩:=x; exact⟨z,y,vs,r,ob,es,ep,k _ _ (.inl rfl) e,c⟩
 | dT kvs=>
  obtain⟨z,y,xs,r,ob,es,ep,e,c⟩:=x
  exact⟨z,y,xs,Paired.mapP r fun p q z=>⟨z.1,ht _ _ z.2.1,z.2.2⟩,ob,es,ep,k _ _ (.inl rfl) e,c⟩
 | set S n=>obtain⟨ob,es,ep,t,e,c⟩:=x; exact⟨ob,es,ep,t,k _ _ (.inl rfl) e,c⟩
 | ins C dx fs=>
  obtain⟨d,z,ne,e,mA,⟨od,es,ep,e2,c⟩,r⟩:=x
  exact⟨ho _ d,z,ne,k _ _ (.inl rfl) e,mA,⟨od,es,ep,k _ _ (.inr d) e2,c⟩,r⟩
 | own y=>obtain⟨ob,e⟩:=x; exact⟨ob,k _ _ (.inl rfl) e⟩
 | xd fs=>obtain⟨mA,⟨od,es,ep,e,c⟩,r⟩:=x; exact⟨mA,⟨od,es,ep,k _ _ (.inl rfl) e,c⟩,r⟩
 | rng lo hi=>obtain⟨t,u,v,e⟩:=x; exact⟨t,u,v,k _ _ (.inl rfl) e⟩
 | frz ob u ih=>obtain⟨e,q⟩:=x; exact⟨k _ _ (.inl rfl) e,ih q⟩
 | tbl ps=>
  have e:h.get? a=some {cls:=.none,data:=.fields ps}:=x
  show h'.get? a=some {cls:=.none,data:=.fields ps}
  exact k a _ (.inl rfl) e
 | met f y=>
  have e:h.get? a=some (PySem.W.methodObj (.ref f) (.ref y)):=x
  show h'.get? a=some (PySem.W.methodObj (.ref f) (.ref y))
  exact k a _ (.inl rfl) e
 | ext φ=>obtain⟨p,⟨o,e⟩,st⟩:=x; exact⟨st _ _ p fun o q=>k _ _ (.inl rfl) q,⟨o,k _ _ (.inl rfl) e⟩,st⟩
theorem HOk.lt(x:HOk P w H h)(e:H a=some o):a < h.objs.size:=(x a o e).lt
theorem HOk.fresh(x:HOk P w H h)(e:h.objs.size<=a):H a=none:=by
 cases q:H a with
 | none=>rfl
 | some u=>exact absurd (Nat.lt_of_lt_of_le (x.lt q) e) (Nat.lt_irrefl _)
theorem HOk.kept(x:HOk P w H h)(k:∀b u,h.get? b=some u->h'.get? b=some u):HOk P w H h':=fun a o e=>
 (x a o e).stay (fun b u _ q=>k b u q) (fun _ q=>q) fun _ _ q=>q
theorem HOk.laid(x:HOk P w H h)(k:∀b u,h.get? b=some u->h'.get? b=some u)(hp:h.objs.size<=a)(new:ObjOk P w (upd H a o) h' a o):HOk P w (upd H a o) h':=fun b u e=>by
 have hn:=x.fresh hp
 by_cases hb:b=a
 ·subst hb; rw [z01] at e; cases e; exact new
 ·rw [z0a hb] at e
  exact(x b u e).stay (fun c v _ q=>k c v q) (fun c q=>by rw [z0a (z0h q hn)]; exact q) fun c xs q=>by rw [z0a (z0h q hn)]; exact q
end
def Rd(H:Hp)(a:Addr)(u:HO):Prop:=H a=some u\/∃o,H a=some (.frz o u)
theorem Rd.of{H:Hp}{a:Addr}{u:HO}(h:H a=some u):Rd H a u:=.inl h
theorem Rd.ok{P:Program}{w:World}{H:Hp}{h:Heap}{a:Addr}{u:HO}(r:Rd H a u)(x:HOk P w H h):ObjOk P w H h a u:=by
 rcases r with r | ⟨o,r⟩
 ·exact x a u r
 ·obtain⟨_,q⟩:=x a _ r
  exact q
def Mut:Option HO->Prop
 | some (.lst _)=>True
 | some (.dK _)=>True
 | some (.dT _)=>True
 | some (.set _ _)=>True
 | some (.ins _ _ _)=>True
 | some (.ext _)=>True
 | _=>False
section
variable{P:Program}{w:World}{H:Hp}{h h':Heap}{x e:Addr}{o':HO}
theorem HOk.write(ok:HOk P w H h)(mu:Mut (H x))(he:e=x\/H e=some (.own x))(k:∀b u,b≠e->h.get? b=some u->h'.get? b=some u)(heo:∃u,h'.get? e=some u)
  (new:ObjOk P w (upd H x o') h' x o'):HOk P w (upd H x o') h':=fun b u q=>by
 have nown:∀c y,H c=some (.own y)->c≠x:=fun c y r z=>by subst z; rw [r] at mu; exact mu
 have ntup:∀c xs,H c=some (.tup xs)->c≠x:=fun c xs r z=>by subst z; rw [r] at mu; exact mu
 by_cases hb:b=x
 ·subst hb; rw [z01] at q; cases q; exact new
 ·rw [z0a hb] at q
  by_cases hbe:b=e
  ·have q':H b=some (.own x):=by
    rcases he with z | z
    ·exact absurd (hbe.trans z) hb
    ·rw [hbe]; exact z
   rw [q] at q'; cases q'
   obtain⟨v,hv⟩:=heo
   exact⟨v,by rw [hbe]; exact hv⟩
  ·refine(ok b u q).stay (fun c v hc r=>k c v ?_ r) (fun c r=>by rw [z0a (nown c b r)]; exact r) fun c xs r=>by rw [z0a (ntup c xs r)]; exact r
   rcases hc with rfl | hc
   ·exact hbe
   ·rintro rfl
    rcases he with z | z
    ·exact nown c b hc z
    ·rw [hc] at z; cases z; exact hb rfl
end
structure Un(fs ex:List Addr)(H H':Hp)(h h':Heap):Prop where
 keep:∀b o,h.get? b=some o->H b=none->b∉fs->b∉ex->h'.get? b=some o
 slot:∀b o,h.get? b=some o->H b=none->b∈fs->b∉ex->∃sl,h'.get? b=some {o with slots:=sl}
 free:∀b o,h.get? b=some o->H b=none->b∉ex->H' b=none
 there:∀b o,h.get? b=some o->b∉ex->∃o',h'.get? b=some o'
 tups:∀b xs,H b=some (.tup xs)->H' b=some (.tup xs)
 frzs:∀b o u,H b=some (.frz o u)->H' b=some (.frz o u)
 tbls:∀b ps,H b=some (.tbl ps)->∃more,H' b=some (.tbl (ps++more))
section
variable{fs fs' ex ex':List Addr}{H H1 H2:Hp}{h h1 h2 h':Heap}{a x e:Addr}{o:HO}
theorem Un.any(u:Un fs ex H H1 h h1){b:Addr}{ob:Obj}(q:h.get? b=some ob)(n:H b=none)(hx:b∉ex):∃sl,h1.get? b=some {ob with slots:=sl}:=by
 by_cases hb:b∈fs
 ·exact u.slot b ob q n hb hx
 ·exact⟨ob.slots,u.keep b ob q n hb hx⟩
theorem Un.trans(a:Un fs ex H H1 h h1)(b:Un fs ex H1 H2 h1 h2):Un fs ex H H2 h h2 where
 keep:=fun c ob q n hc hx=>b.keep c ob (a.keep c ob q n hc hx) (a.free c ob q n hx) hc hx
 slot:=fun c ob q n hc hx=>by
  obtain⟨sl,e1⟩:=a.slot c ob q n hc hx
  obtain⟨sl',e2⟩:=b.slot c _ e1 (a.free c ob q n hx) hc hx
  exact⟨sl',e2⟩
 free:=fun c ob q n hx=>by
  obtain⟨o',e1⟩:=a.there c ob q hx
  exact b.free c o' e1 (a.free c ob q n hx) hx
 there:=fun c ob q hx=>by
  obtain⟨o',e1⟩:=a.there c ob q hx
  exact b.there c o' e1 hx
 tups:=fun c xs q=>b.tups c xs (a.tups c xs q)
 frzs:=fun c ob xs q=>b.frzs c ob xs (a.frzs c ob xs q)
 tbls:=fun c ps q=>by
  obtain⟨m1,e1⟩:=a.tbls c ps q
  obtain⟨m2,e2⟩:=b.tbls c _ e1
  exact⟨m1++m2,by rw [e2,Array.append_assoc]⟩
theorem Un.kept(k:∀b u,h.get? b=some u->h'.get? b=some u):Un fs ex H H h h':=
 ⟨fun b ob q _ _ _=>k b ob q,fun b ob q _ _ _=>⟨ob.slots,k b ob q⟩,fun _ _ _ n _=>n,fun b ob q _=>⟨ob,k b ob q⟩,fun _ _ q=>q,fun _ _ _ q=>q,fun _ ps q=>⟨#[],by rw [q]; simp⟩⟩
theorem Un.refl:Un fs ex H H h h:=Un.kept fun _ _ q=>q
theorem Un.laid(k:∀b u,h.get? b=some u->h'.get? b=some u)(hp:h.objs.size<=a)(hn:H a=none):Un fs ex H (upd H a o) h h' where
 keep:=fun b u q _ _ _=>k b u q
 slot:=fun b u q _ _ _=>⟨u.slots,k b u q⟩
 free:=fun b u q n _=>by rw [z0a (Nat.ne_of_lt (Nat.lt_of_lt_of_le (Heap.lt_size q) hp))]; exact n
 there:=fun b u q _=>⟨u,k b u q⟩
 tups:=fun b xs q=>by rw [z0a (z0h q hn)]; exact q
 frzs:=fun b u xs q=>by rw [z0a (z0h q hn)]; exact q
 tbls:=fun b ps q=>⟨#[],by rw [z0a (z0h q hn),q]; simp⟩
theorem Un.write(mu:Mut (H x))(he:e=x\/H e=some (.own x))(k:∀b u,b≠e->h.get? b=some u->h'.get? b=some u)(heo:∃u,h'.get? e=some u):Un fs ex H (upd H x o) h h':=by
 have hx:∀b,H b=none->b≠x:=fun b n z=>by subst z; rw [n] at mu; exact mu
 have hb:∀b,H b=none->b≠e:=fun b n z=>by
  subst z
  rcases he with r | r
  ·exact hx b n r
  ·rw [n] at r; cases r
 have hm:∀b u,H b=some u->¬ Mut (some u)->b≠x:=fun b u q nm z=>by subst z; rw [q] at mu; exact nm mu
 refine⟨fun b u q n _ _=>k b u (hb b n) q,fun b u q n _ _=>⟨u.slots,k b u (hb b n) q⟩,fun b u q n _=>by rw [z0a (hx b n)]; exact n,fun b u q _=>?_,
  fun b xs q=>by rw [z0a (hm b _ q fun z=>z)]; exact q,fun b u xs q=>by rw [z0a (hm b _ q fun z=>z)]; exact q,fun b ps q=>⟨#[],by rw [z0a (hm b _ q fun z=>z),q]; simp⟩⟩
 by_cases hbe:b=e
 ·subst hbe; exact heo
 ·exact⟨u,k b u hbe q⟩
end
def trk(h:Heap)(H:Hp):List Addr:=(List.range h.objs.size).filter fun a=>(H a).isSome
def zn2(h:Heap)(H:Hp):Heap:=PySem.W.hideAll h (trk h H)
theorem zkp(h:Heap)(H:Hp):(zn2 h H).objs.size=h.objs.size:=PySem.W.hideAll_size _ _
theorem zom{h:Heap}{H:Hp}{b:Addr}{o:Obj}(e:h.get? b=some o)(n:H b=none):(zn2 h H).get? b=some o:=
 PySem.W.hideAll_get _ e fun hm=>by
  have q:(H b).isSome=true:=(List.mem_filter.mp hm).2
  rw [n] at q; simp at q
theorem zs9{h:Heap}{H:Hp}{b:Addr}{o:Obj}(e:(zn2 h H).get? b=some o):h.get? b=some o/\H b=none:=by
 have e':h.get? b=some o:=PySem.W.of_hideAll (trk h H) e
 refine⟨e',?_⟩
 cases q:H b with
 | none=>rfl
 | some x=>
  have hm:b∈trk h H:=List.mem_filter.mpr ⟨List.mem_range.mpr (Heap.lt_size e'),by simp[q]⟩
  have z:(zn2 h H).get? b=none:=PySem.W.hideAll_none (trk h H) hm
  rw [z] at e; cases e
def q08(g h:Heap)(L:Addr):List (Addr×Obj):=(List.range h.objs.size).filterMap fun a=>if a=L\/(g.get? a).isSome=true then none else(h.get? a).map fun o=>(a,o)
def rest(g h:Heap)(L d:Addr):List (Addr×Obj):=(q08 g h L).filter fun p=>decide (p.1≠d)
end L2
namespace L2
open PySem PySem.Spec PyProof.Rows
structure Mod(K:PySem.W.Frag)(mg:Str->Option Value)(base:Heap):Prop where
 kin:K.In base
 glob:base.Ns mainGlobals mg
 blt:∃mb,base.Ns builtinsNs mb/\∀x:Str,x≠"__name__"->mb x=bootBuiltins x
 nolimit:base.NoLimit
structure Cx where
 prog:Program
 w:World
 K:PySem.W.Frag
 mg:Str->Option Value
 base:Heap
 A:Around
 N:List Str
 s₀:Shared
 H₀:Hp
 env:Env
 outer:List Env
 stack:List Env
 ex:List Addr
 fn:Str->Bool
 calm:Bool
 pn:List (Addr×Obj)
 xe:Value->Shared->Prop
def frs(l:List Env):List Addr:=l.filterMap (·.frame)
abbrev Cx.fs(X:Cx):List Addr:=frs X.outer
def Vis(sc:Scope)(x:Str):Prop:=sc.names.lookup x=some .local\/sc.names.lookup x=some .cell\/sc.names.lookup x=some .free
def Loc(sc:Scope)(x:Str):Prop:=sc.names.lookup x=some .local\/sc.names.lookup x=some .cell
def Look(env:Env)(h:Heap)(m:Str->Option Value)(x:Str)(u:Value):Prop:=
 (env.kindOf x=some .local/\m x=some u)\/((env.kindOf x=some .cell\/env.kindOf x=some .free)/\∃c,env.cells.lookup x=some c/\h.IsCell c (some u))
structure Cx.Ok(X:Cx):Prop where
 mod:Mod X.K X.mg X.base
 kind:X.env.scope.kind=.function
 glob:X.env.globals=mainGlobals
 blt:X.env.builtins=builtinsNs
 above:X.s₀.heap.objs.size<=X.env.locals
 inj:∀x y c,X.env.cells.lookup x=some c->X.env.cells.lookup y=some c->x=y
 has:∀x,(X.env.kindOf x=some .cell\/X.env.kindOf x=some .free)->∃c,X.env.cells.lookup x=some c
 cab:∀x c,X.fn x=true->X.env.cells.lookup x=some c->X.s₀.heap.objs.size<=c
 hd:X.calm=true->X.A.handled=none
 frames:X.A.frames=some X.stack
 stk:X.stack=X.outer\/(X.stack=X.env::X.outer/\X.env.frame=some X.env.locals)
 exf:∀b∈X.ex,b≠X.env.locals/\∀x c,X.env.cells.lookup x=some c->c≠b
 bs:∀b o,X.base.get? b=some o->X.s₀.heap.get? b=some o/\X.H₀ b=none
 bsz:X.base.objs.size<=X.s₀.heap.objs.size
 noex:∀b o,X.base.get? b=some o->b∉X.ex
 exfs:∀b∈X.ex,b∉X.fs
 funs:X.s₀.heap.FunFrames X.base X.outer
 frf:∀b∈X.fs,X.H₀ b=none
structure Inv(X:Cx)(pins:List (Addr×Obj))(σ : List (Option V))(H:Hp)(s:Shared):Prop where
 ok:X.Ok
 os:s.os=X.s₀.os
 bare:AllBare s.gens
 base:Un X.fs X.ex X.H₀ H X.s₀.heap s.heap
 loc:∃m,s.heap.Ns X.env.locals m/\∀(i:Nat) (x:Str) (v:V),X.N[i]?=some x->σ[i]?=some (some v)->Vis X.env.scope x->∃u,RelV v u/\Look X.env s.heap m x u
 cell:∀x c,X.env.cells.lookup x=some c->∃v,s.heap.IsCell c v
 free:H X.env.locals=none
 freeC:∀x c,X.env.cells.lookup x=some c->H c=none
 pin:∀p∈X.pn++pins,s.heap.get? p.1=some p.2/\H p.1=none/\p.1≠X.env.locals/\p.1∉X.fs/\∀v,p.2.data≠.cell v
 hok:HOk X.prog X.w H s.heap
 len : σ.length=X.N.length
section
variable{X:Cx}{pins:List (Addr×Obj)}{σ : List (Option V)}{H H':Hp}{s:Shared}{h':Heap}
theorem Cx.Ok.nofr(ok:X.Ok){b:Addr}{o:Obj}(e:X.base.get? b=some o):b∉X.fs:=fun hb=>by
 have:=(ok.funs.mem hb).1
 rw [e] at this; cases this
theorem Inv.bs(I:Inv X pins σ H s):∀b o,X.base.get? b=some o->s.heap.get? b=some o/\H b=none:=fun b o e=>
 ⟨I.base.keep b o (I.ok.bs b o e).1 (I.ok.bs b o e).2 (I.ok.nofr e) (I.ok.noex b o e),I.base.free b o (I.ok.bs b o e).1 (I.ok.bs b o e).2 (I.ok.noex b o e)⟩
theorem Inv.bk(I:Inv X pins σ H s):∀b o,X.base.get? b=some o->s.heap.get? b=some o:=fun b o e=>(I.bs b o e).1
theorem Inv.mod(I:Inv X pins σ H s):Mod X.K X.mg X.base:=I.ok.mod
theorem Inv.kIn(I:Inv X pins σ H s):X.K.In s.heap:=I.ok.mod.kin.keeps I.bk
theorem Inv.nolimit(I:Inv X pins σ H s):s.heap.NoLimit:=I.ok.mod.nolimit.keeps I.bk
theorem Inv.lt(I:Inv X pins σ H s):X.env.locals < s.heap.objs.size:=let ⟨_,hn,_⟩:=I.loc; hn.lt
theorem Inv.sz(I:Inv X pins σ H s):X.s₀.heap.objs.size<=s.heap.objs.size:=Nat.le_trans I.ok.above (Nat.le_of_lt I.lt)
theorem Inv.nofs(I:Inv X pins σ H s){a:Addr}(h:s.heap.objs.size<=a):a∉X.fs:=fun hb=>by
 obtain⟨_,o,ho,_⟩:=I.ok.funs.mem hb
 exact absurd (Nat.lt_of_lt_of_le (Heap.lt_size ho) (Nat.le_trans I.sz h)) (Nat.lt_irrefl _)
theorem Inv.cne(I:Inv X pins σ H s):∀x c,X.env.cells.lookup x=some c->c≠X.env.locals:=fun x c e z=>by
 obtain⟨v,o,ho,hd⟩:=I.cell x c e
 obtain⟨m,⟨o',es,ep,ho',hd',_⟩,_⟩:=I.loc
 rw [z,ho'] at ho; cases ho; rw [hd'] at hd; cases hd
theorem Inv.funs(I:Inv X pins σ H s):s.heap.FunFrames X.base X.outer:=by
 have all:∀(l:List Env),(∀b∈frs l,b∈X.fs)->X.s₀.heap.FunFrames X.base l->s.heap.FunFrames X.base l:=by
  intro l
  induction l with
  | nil=>intro _ _; trivial
  | cons env r ih=>
   intro hs hl
   obtain⟨hk,⟨L,o,hf,hn,ho,hd⟩,hr⟩:=hl
   have hL:L∈X.fs:=hs L (by unfold frs; rw [List.filterMap_cons,hf]; exact List.mem_cons_self)
   obtain⟨sl,e⟩:=I.base.slot L o ho (I.ok.frf L hL) hL fun z=>I.ok.exfs L z hL
   exact⟨hk,⟨L,_,hf,hn,e,hd⟩,ih (fun b hb=>hs b (by unfold frs; rw [List.filterMap_cons,hf]; exact List.mem_cons_of_mem _ hb)) hr⟩
 exact all X.outer (fun _ hb=>hb) I.ok.funs
theorem Inv.stack(I:Inv X pins σ H s):s.heap.FunFrames X.base X.stack:=by
 rcases I.ok.stk with e | ⟨e,hf⟩
 ·rw [e]; exact I.funs
 ·rw [e]
  obtain⟨m,hn,_⟩:=I.loc
  refine .cons (by rw [I.ok.kind]; decide) hf hn ?_ I.funs
  exact Heap.get?_none_of_le (Nat.le_trans I.ok.bsz I.ok.above)
theorem Inv.stkSub(I:Inv X pins σ H s):∀b∈frs X.stack,b∈X.env.locals::X.fs:=fun b hb=>by
 rcases I.ok.stk with e | ⟨e,hf⟩
 ·rw [e] at hb; exact List.mem_cons_of_mem _ hb
 ·rw [e] at hb
  unfold frs at hb
  rw [List.filterMap_cons,hf] at hb
  exact hb
theorem Inv.stkFree(I:Inv X pins σ H s):∀b∈frs X.stack,H b=none:=fun b hb=>by
 rcases List.mem_cons.mp (I.stkSub b hb) with e | hb
 ·rw [e]; exact I.free
 ·obtain⟨_,o,ho,_⟩:=I.ok.funs.mem hb
  exact I.base.free b o ho (I.ok.frf b hb) fun z=>I.ok.exfs b z hb
theorem Inv.step{g':Array GenState}{t':Nat}{d':Drawn}{ch:List Addr}(I:Inv X pins σ H s)
  (hch:∀b∈ch,(b∈X.ex\/X.s₀.heap.objs.size<=b)/\b≠X.env.locals/\(∀x c,X.env.cells.lookup x=some c->c≠b)/\∀p∈X.pn++pins,p.1≠b)
  (keep:∀b o,b≠X.env.locals->b∉X.fs->b∉ch->s.heap.get? b=some o->H b=none->h'.get? b=some o)
  (slot:∀b o,b≠X.env.locals->b∈X.fs->b∉ch->s.heap.get? b=some o->H b=none->∃sl,h'.get? b=some {o with slots:=sl}) (free:∀b o,b∉ch->s.heap.get? b=some o->H b=none->H' b=none)
  (there:∀b o,b∉ch->s.heap.get? b=some o->∃o',h'.get? b=some o')
  (tups:∀b xs,H b=some (.tup xs)->H' b=some (.tup xs)) (frzs:∀b o u,H b=some (.frz o u)->H' b=some (.frz o u)) (tbls:∀b ps,H b=some (.tbl ps)->∃more,H' b=some (.tbl (ps++more)))
  (ns:∀m,s.heap.Ns X.env.locals m->h'.Ns X.env.locals m) (hok:HOk X.prog X.w H' h') (hg:AllBare g') :
  Inv X pins σ H' {s with heap:=h',gens:=g',drawn:=d',toks:=t'}:=by
 have neL:∀b o,X.s₀.heap.get? b=some o->b≠X.env.locals:=fun b o e=>Nat.ne_of_lt (Nat.lt_of_lt_of_le (Heap.lt_size e) I.ok.above)
 have neC:∀b o,X.s₀.heap.get? b=some o->b∉X.ex->b∉ch:=fun b o e hx hb=>by
  rcases(hch b hb).1 with z | z
  ·exact hx z
  ·exact absurd (Nat.lt_of_lt_of_le (Heap.lt_size e) z) (Nat.lt_irrefl _)
 have cellK:∀x c,X.env.cells.lookup x=some c->∀v,s.heap.IsCell c v->h'.IsCell c v:=fun x c e v ⟨o,ho,hd⟩=>by
  have nch:c∉ch:=fun z=>(hch c z).2.2.1 x c e rfl
  by_cases hc:c∈X.fs
  ·obtain⟨sl,q⟩:=slot c o (I.cne x c e) hc nch ho (I.freeC x c e)
   exact⟨_,q,hd⟩
  ·exact⟨o,keep c o (I.cne x c e) hc nch ho (I.freeC x c e),hd⟩
 refine⟨I.ok,I.os,hg,⟨fun b o e n hb hx=>?_,fun b o e n hb hx=>?_,fun b o e n hx=>?_,fun b o e hx=>?_,fun b xs e=>tups b xs (I.base.tups b xs e),fun b o xs e=>frzs b o xs (I.base.frzs b o xs e),fun b ps e=>?_⟩,?_,fun x c e=>?_,?_,fun x c e=>?_,fun p hp=>?_,hok,I.len⟩
 ·exact keep b o (neL b o e) hb (neC b o e hx) (I.base.keep b o e n hb hx) (I.base.free b o e n hx)
 ·obtain⟨sl,e1⟩:=I.base.slot b o e n hb hx
  obtain⟨sl',e2⟩:=slot b _ (neL b o e) hb (neC b o e hx) e1 (I.base.free b o e n hx)
  exact⟨sl',e2⟩
 ·obtain⟨o',e1⟩:=I.base.there b o e hx
  exact free b o' (neC b o e hx) e1 (I.base.free b o e n hx)
 ·obtain⟨o',e1⟩:=I.base.there b o e hx
  exact there b o' (neC b o e hx) e1
 ·obtain⟨m1,e1⟩:=I.base.tbls b ps e
  obtain⟨m2,e2⟩:=tbls b _ e1
  exact⟨m1++m2,by rw [e2,Array.append_assoc]⟩
 ·obtain⟨m,hn,hl⟩:=I.loc
  refine⟨m,ns m hn,fun i x v e1 e2 e3=>?_⟩
  obtain⟨u,r,l⟩:=hl i x v e1 e2 e3
  refine⟨u,r,?_⟩
  rcases l with l | ⟨k,c,e,z⟩
  ·exact .inl l
  ·exact .inr ⟨k,c,e,cellK x c e _ z⟩
 ·obtain⟨v,z⟩:=I.cell x c e
  exact⟨v,cellK x c e v z⟩
 ·obtain⟨m,⟨o,_,_,ho,_⟩,_⟩:=I.loc
  exact free _ o (fun z=>(hch _ z).2.1 rfl) ho I.free
 ·obtain⟨v,o,ho,hd⟩:=I.cell x c e
  exact free c o (fun z=>(hch c z).2.2.1 x c e rfl) ho (I.freeC x c e)
 ·obtain⟨e,n,ne,nf,d⟩:=I.pin p hp
  have nch:p.1∉ch:=fun z=>(hch p.1 z).2.2.2 p hp rfl
  exact⟨keep p.1 p.2 ne nf nch e n,free p.1 p.2 nch e n,ne,nf,d⟩
theorem Inv.un{t':Nat}(I:Inv X pins σ H s)(u:Un X.fs [] H H' s.heap h')(hok:HOk X.prog X.w H' h'):Inv X pins σ H' {s with heap:=h',toks:=t'}:=by
 obtain⟨m,⟨o,es,ep,ho,r⟩,_⟩:=id I.loc
 obtain⟨sl,hL⟩:=u.any ho I.free (by simp)
 exact I.step (g':=s.gens) (d':=s.drawn) (ch:=[]) (fun _ z=>nomatch z) (fun b o _ hb _ e n=>u.keep b o e n hb (by simp)) (fun b o _ hb _ e n=>u.slot b o e n hb (by simp)) (fun b o _ e n=>u.free b o e n (by simp)) (fun b o _ e=>u.there b o e (by simp)) u.tups u.frzs u.tbls (fun m' hm=>by
  obtain⟨o',es',ep',ho',r'⟩:=hm
  rw [ho] at ho'; cases ho'
  exact⟨_,es',ep',hL,r'⟩) hok I.bare
theorem Inv.call{g':Array GenState}{t':Nat}{d':Drawn}{ch:List Addr}(I:Inv X pins σ H s)(u:Un (frs X.stack) ch H H' s.heap h')(hok:HOk X.prog X.w H' h')(hg:AllBare g')
  (hch:∀b∈ch,(b∈X.ex\/X.s₀.heap.objs.size<=b)/\b≠X.env.locals/\(∀x c,X.env.cells.lookup x=some c->c≠b)/\∀p∈X.pn++pins,p.1≠b) :
  Inv X pins σ H' {s with heap:=h',gens:=g',drawn:=d',toks:=t'}:=by
 obtain⟨m,⟨o,es,ep,ho,r⟩,_⟩:=id I.loc
 obtain⟨sl,hL⟩:=u.any ho I.free fun z=>(hch _ z).2.1 rfl
 exact I.step (ch:=ch) hch (fun b o hL hb hc e n=>u.keep b o e n (fun z=>(List.mem_cons.mp (I.stkSub b z)).elim hL hb) hc) (fun b o _ _ hc e n=>u.any e n hc) (fun b o hc e n=>u.free b o e n hc) (fun b o hc e=>u.there b o e hc) u.tups u.frzs u.tbls (fun m' hm=>by
  obtain⟨o',es',ep',ho',r'⟩:=hm
  rw [ho] at ho'; cases ho'
  exact⟨_,es',ep',hL,r'⟩) hok hg
theorem Inv.turned{t':Nat}{it:Addr}(I:Inv X pins σ H s)(k:∀b o,b≠it->s.heap.get? b=some o->h'.get? b=some o)(hn:H it=none)(hL:it≠X.env.locals)
  (h1:it∈X.ex\/X.s₀.heap.objs.size<=it) (h2:∀x c,X.env.cells.lookup x=some c->c≠it) (h3:∀p∈X.pn++pins,p.1≠it):Inv X pins σ H {s with heap:=h',toks:=t'}:=by
 have nit:∀b u,H b=some u->b≠it:=fun b u e z=>by rw [z,hn] at e; cases e
 refine I.step (g':=s.gens) (d':=s.drawn) (ch:=[it]) (fun b hb=>?_) (fun b o _ _ hc e _=>k b o (fun z=>hc (by simp[z])) e) (fun b o _ _ hc e _=>⟨o.slots,k b o (fun z=>hc (by simp[z])) e⟩) (fun _ _ _ _ n=>n)
  (fun b o hc e=>⟨o,k b o (fun z=>hc (by simp[z])) e⟩) (fun _ _ e=>e) (fun _ _ _ e=>e) (fun b ps e=>⟨#[],by rw [e]; simp⟩) (fun m hm=>?_) (fun b u e=>?_) I.bare
 ·have e:b=it:=by simpa using hb
  subst e
  exact⟨h1,hL,h2,h3⟩
 ·obtain⟨o,es,ep,ho,r⟩:=hm
  exact⟨o,es,ep,k _ o (Ne.symm hL) ho,r⟩
 ·refine(I.hok b u e).stay (fun c v hc q=>k c v ?_ q) (fun _ q=>q) fun _ _ q=>q
  rcases hc with z | z
  ·rw [z]; exact nit b u e
  ·exact nit c _ z
theorem Inv.tok(I:Inv X pins σ H s)(t:Nat):Inv X pins σ H {s with toks:=t}:=I.un (h':=s.heap) (t':=t) Un.refl I.hok
theorem Inv.kept{t':Nat}(I:Inv X pins σ H s)(k:∀b u,s.heap.get? b=some u->h'.get? b=some u):Inv X pins σ H {s with heap:=h',toks:=t'}:=I.un (Un.kept k) (I.hok.kept k)
theorem Inv.laid{a:Addr}{o:HO}{t':Nat}(I:Inv X pins σ H s)(k:∀b u,s.heap.get? b=some u->h'.get? b=some u)(hp:s.heap.objs.size<=a)(new:ObjOk X.prog X.w (upd H a o) h' a o) :
  Inv X pins σ (upd H a o) {s with heap:=h',toks:=t'}:=I.un (Un.laid k hp (I.hok.fresh hp)) (I.hok.laid k hp new)
theorem Inv.write{x e:Addr}{o:HO}{t':Nat}(I:Inv X pins σ H s)(mu:Mut (H x))(he:e=x\/H e=some (.own x))(k:∀b u,b≠e->s.heap.get? b=some u->h'.get? b=some u)(heo:∃u,h'.get? e=some u)
  (new:ObjOk X.prog X.w (upd H x o) h' x o):Inv X pins σ (upd H x o) {s with heap:=h',toks:=t'}:=I.un (Un.write mu he k heo) (I.hok.write mu he k heo new)
theorem Inv.pins_of{pins':List (Addr×Obj)}(I:Inv X pins σ H s)(h:∀p∈pins',s.heap.get? p.1=some p.2/\H p.1=none/\p.1≠X.env.locals/\p.1∉X.fs/\∀v,p.2.data≠.cell v):Inv X pins' σ H s:=
 ⟨I.ok,I.os,I.bare,I.base,I.loc,I.cell,I.free,I.freeC,fun p hp=>(List.mem_append.mp hp).elim (fun z=>I.pin p (List.mem_append_left _ z)) (h p),I.hok,I.len⟩
theorem ziu{N:List Str}(hN:N.Nodup){i j:Nat}{x:Str}(a:N[i]?=some x)(b:N[j]?=some x):i=j:=by
 obtain⟨h1,e1⟩:=List.getElem?_eq_some_iff.mp a
 obtain⟨h2,e2⟩:=List.getElem?_eq_some_iff.mp b
 exact(List.getElem_inj hN).mp (e1.trans e2.symm)
theorem zjv{M:Model}{A:Around}{E:Value->Shared->Prop}{i:Nat}{x:Str}{v:V}{u:Value}{Q:Unit->Shared->Prop}(I:Inv X pins σ H s)(hN:X.N.Nodup)(hi:X.N[i]?=some x)(hx:Loc X.env.scope x)(r:RelV v u)
  (h:∀s',Inv X pins (σ.set i (some v)) H s'->(∃a,Heap.SameBut a s.heap s'.heap/\(a=X.env.locals\/X.env.cells.lookup x=some a))->Q () s') (hf:X.fn x=true\/X.env.scope.names.lookup x=some .local:=by first | exact .inl rfl | exact .inr rfl | assumption):wpAny M A (storeName X.env x u) Q E s:=by
 obtain⟨m,hn,hl⟩:=id I.loc
 have hcls:(X.env.scope.kind == .class || (X.env.scope.kind == .module && X.env.locals !=X.env.globals))=false:=by rw [I.ok.kind]; rfl
 have hiσ : i < σ.length:=by rw [I.len]; exact(List.getElem?_eq_some_iff.mp hi).1
 have cne:=I.cne
 have tracked:∀{a:Addr} {h':Heap},(∃o,s.heap.get? a=some o/\H a=none)->Heap.SameBut a s.heap h'->HOk X.prog X.w H h':=fun {a h'} ha hs b ob e=>by
  obtain⟨_,_,hfree⟩:=ha
  refine(I.hok b ob e).stay (fun c w' hc q=>(hs.2 c ?_).trans q) (fun _ q=>q) fun _ _ q=>q
  rintro rfl
  rcases hc with rfl | hc
  ·rw [hfree] at e; cases e
  ·rw [hfree] at hc; cases hc
 rcases hx with hk | hk
 ·refine wpAny_storeName_local hk hn (fun h' hn' hs=>?_) hcls
  obtain⟨oL,_,_,hoL,_⟩:=id hn
  refine h _ ⟨I.ok,I.os,I.bare,⟨fun b o e n hb hx=>?_,fun b o e n hb hx=>?_,I.base.free,fun b o e hx=>?_,I.base.tups,I.base.frzs,I.base.tbls⟩,⟨_,hn',fun j y v' e1 e2 e3=>?_⟩,fun y c e=>?_,I.free,I.freeC,fun p hp=>?_,tracked ⟨oL,hoL,I.free⟩ hs,by simpa using I.len⟩ ⟨_,hs,.inl rfl⟩
  ·exact(hs.2 b (Nat.ne_of_lt (Nat.lt_of_lt_of_le (Heap.lt_size e) I.ok.above))).trans (I.base.keep b o e n hb hx)
  ·obtain⟨sl,e1⟩:=I.base.slot b o e n hb hx
   exact⟨sl,(hs.2 b (Nat.ne_of_lt (Nat.lt_of_lt_of_le (Heap.lt_size e) I.ok.above))).trans e1⟩
  ·obtain⟨o',e1⟩:=I.base.there b o e hx
   exact⟨o',(hs.2 b (Nat.ne_of_lt (Nat.lt_of_lt_of_le (Heap.lt_size e) I.ok.above))).trans e1⟩
  ·by_cases hj:j=i
   ·subst hj
    rw [hi] at e1; cases e1
    rw [List.getElem?_set_self hiσ] at e2
    cases e2
    exact⟨u,r,.inl ⟨hk,by simp⟩⟩
   ·rw [List.getElem?_set_ne (Ne.symm hj)] at e2
    obtain⟨u',r',q⟩:=hl j y v' e1 e2 e3
    refine⟨u',r',?_⟩
    rcases q with⟨k,e⟩ | ⟨k,c,e,z⟩
    ·refine .inl ⟨k,?_⟩
     have:y≠x:=fun e=>hj (ziu hN e1 (e ▸ hi))
     simp[this,e]
    ·exact .inr ⟨k,c,e,z.sameBut hs (cne y c e)⟩
  ·obtain⟨w',z⟩:=I.cell y c e
   exact⟨w',z.sameBut hs (cne y c e)⟩
  ·obtain⟨e,n,ne,nf,d⟩:=I.pin p hp
   exact⟨(hs.2 p.1 ne).trans e,n,ne,nf,d⟩
 ·have hfn:X.fn x=true:=by
   rcases hf with z | z
   ·exact z
   ·rw [z] at hk; cases hk
  obtain⟨c,hc⟩:=I.ok.has x (.inl hk)
  obtain⟨w',z⟩:=I.cell x c hc
  refine wpAny_storeName_cell I.ok.kind hk hc z (fun h' hc' hs=>?_)
  obtain⟨oc,hoc,hocd⟩:=id z
  refine h {s with heap:=h'} ⟨I.ok,I.os,I.bare,⟨fun b o e n hb hx=>?_,fun b o e n hb hx=>?_,I.base.free,fun b o e hx=>?_,I.base.tups,I.base.frzs,I.base.tbls⟩,⟨m,hn.sameBut hs (Ne.symm (cne x c hc)),fun j y v' e1 e2 e3=>?_⟩,fun y c' e=>?_,I.free,I.freeC,fun p hp=>?_,tracked ⟨oc,hoc,I.freeC x c hc⟩ hs,by simpa using I.len⟩ ⟨c,hs,.inr hc⟩
  ·exact(hs.2 b (Nat.ne_of_lt (Nat.lt_of_lt_of_le (Heap.lt_size e) (I.ok.cab x c hfn hc)))).trans (I.base.keep b o e n hb hx)
  ·obtain⟨sl,e1⟩:=I.base.slot b o e n hb hx
   exact⟨sl,(hs.2 b (Nat.ne_of_lt (Nat.lt_of_lt_of_le (Heap.lt_size e) (I.ok.cab x c hfn hc)))).trans e1⟩
  ·obtain⟨o',e1⟩:=I.base.there b o e hx
   exact⟨o',(hs.2 b (Nat.ne_of_lt (Nat.lt_of_lt_of_le (Heap.lt_size e) (I.ok.cab x c hfn hc)))).trans e1⟩
  ·by_cases hj:j=i
   ·subst hj
    rw [hi] at e1; cases e1
    rw [List.getElem?_set_self hiσ] at e2
    cases e2
    exact⟨u,r,.inr ⟨.inl hk,c,hc,hc'⟩⟩
   ·rw [List.getElem?_set_ne (Ne.symm hj)] at e2
    obtain⟨u',r',q⟩:=hl j y v' e1 e2 e3
    refine⟨u',r',?_⟩
    rcases q with q | ⟨k,c',e,z'⟩
    ·exact .inl q
    ·refine .inr ⟨k,c',e,z'.sameBut hs ?_⟩
     rintro rfl
     exact hj (ziu hN e1 (I.ok.inj _ _ _ e hc ▸ hi))
  ·by_cases hcc:c'=c
   ·subst hcc; exact⟨_,hc'⟩
   ·obtain⟨w2,z2⟩:=I.cell y c' e
    exact⟨w2,z2.sameBut hs hcc⟩
  ·obtain⟨e,n,ne,nf,d⟩:=I.pin p hp
   refine⟨(hs.2 p.1 ?_).trans e,n,ne,nf,d⟩
   intro q
   rw [q,hoc] at e
   have q':oc=p.2:=Option.some.inj e
   exact d w' (by rw [<- q']; exact hocd)
theorem zo0{M:Model}{A:Around}{E:Value->Shared->Prop}{i:Nat}{x:Str}{v:V}{u:Value}{Q:Unit->Shared->Prop}(I:Inv X pins σ H s)(hN:X.N.Nodup)(hi:X.N[i]?=some x)(hx:Loc X.env.scope x)(r:RelV v u)
  (h:∀s',Inv X pins (σ.set i (some v)) H s'->Q () s') (hf:X.fn x=true\/X.env.scope.names.lookup x=some .local:=by first | exact .inl rfl | exact .inr rfl | assumption):wpAny M A (storeName X.env x u) Q E s:=
 zjv I hN hi hx r (fun s' I' _=>h s' I') hf
theorem Inv.call'{s':Shared}{ch:List Addr}(I:Inv X pins σ H s)(ho:s'.os=s.os)(u:Un (frs X.stack) ch H H' s.heap s'.heap)(hok:HOk X.prog X.w H' s'.heap)(hg:AllBare s'.gens)
  (hch:∀b∈ch,(b∈X.ex\/X.s₀.heap.objs.size<=b)/\b≠X.env.locals/\(∀x c,X.env.cells.lookup x=some c->c≠b)/\∀p∈X.pn++pins,p.1≠b):Inv X pins σ H' s':=by
 obtain⟨h',g',d',t',o'⟩:=s'
 have e:o'=s.os:=ho
 subst e
 exact I.call (g':=g') (t':=t') (d':=d') u hok hg hch
end
abbrev XK:=Value->Option Addr->Hp->Prop
abbrev St:=List (Option V)
abbrev VK:=V->Hp->Prop
abbrev TE:=St->Hp->VK->Prop
abbrev TT:=St->Hp->(Bool->Hp->Prop)->Prop
abbrev TA:=St->Hp->(List V->Hp->Prop)->Prop
structure Ends where
 nx:St->Hp->Prop
 rt:VK
 bk:St->Hp->Prop:=fun _ _=>False
 ct:St->Hp->Prop:=fun _ _=>False
abbrev TS:=Ends->St->Hp->Prop
def EP(X:Cx)(pins:List (Addr×Obj))(σ : St)(Q:VK)(u:Value)(s':Shared):Prop:=∃v H',Inv X pins σ H' s'/\RelV v u/\Q v H'
def TP(X:Cx)(pins:List (Addr×Obj))(σ : St)(Q:Bool->Hp->Prop)(b:Bool)(s':Shared):Prop:=∃H',Inv X pins σ H' s'/\Q b H'
def AP(X:Cx)(pins:List (Addr×Obj))(σ : St)(Q:List V->Hp->Prop)(us:List Value)(s':Shared):Prop:=∃vs H',Inv X pins σ H' s'/\Vals vs us/\Q vs H'
def SP(X:Cx)(pins:List (Addr×Obj))(D:Ends)(f:Flow)(s':Shared):Prop:=
 match f with
 | .next=>∃ σ' H',Inv X pins σ' H' s'/\D.nx σ' H'
 | .brk=>∃ σ' H',Inv X pins σ' H' s'/\D.bk σ' H'
 | .cont=>∃ σ' H',Inv X pins σ' H' s'/\D.ct σ' H'
 | .ret u=>∃v σ' H',Inv X pins σ' H' s'/\RelV v u/\D.rt v H'
def PE(X:Cx)(e:Expr)(t:TE):Prop:=
 ∀(pins:List (Addr×Obj)) (s:Shared) (σ : St) (H:Hp) (Q:VK),Inv X pins σ H s->t σ H Q->wpAny (model X.prog X.w) X.A (eval e X.env) (EP X pins σ Q) X.xe s
def PT(X:Cx)(e:Expr)(t:TT):Prop:=
 ∀(pins:List (Addr×Obj)) (s:Shared) (σ : St) (H:Hp) (Q:Bool->Hp->Prop),Inv X pins σ H s->t σ H Q->wpAny (model X.prog X.w) X.A (isTrue e X.env (eval e X.env)) (TP X pins σ Q) X.xe s
def PW(X:Cx)(e:Expr)(t:TT):Prop:=
 ∀(whole:Sem Value) (pins:List (Addr×Obj)) (s:Shared) (σ : St) (H:Hp) (Q:Bool->Hp->Prop),Inv X pins σ H s->t σ H Q->wpAny (model X.prog X.w) X.A (isTrue e X.env whole) (TP X pins σ Q) X.xe s
theorem PW.pt{X:Cx}{e:Expr}{t:TT}(h:PW X e t):PT X e t:=h _
def PA(X:Cx)(es:List Expr)(t:TA):Prop:=
 ∀(pos:Pos) (pins:List (Addr×Obj)) (s:Shared) (σ : St) (H:Hp) (Q:List V->Hp->Prop),Inv X pins σ H s->t σ H Q->wpAny (model X.prog X.w) X.A (spliced (backTo pos (starEach es X.env))) (AP X pins σ Q) X.xe s
def PS(X:Cx)(st:Stmt)(t:TS):Prop:=
 ∀(pins:List (Addr×Obj)) (s:Shared) (σ : St) (H:Hp) (D:Ends),Inv X pins σ H s->t D σ H->wpAny (model X.prog X.w) X.A (exec st X.env) (SP X pins D) X.xe s
def PSs(X:Cx)(st:List Stmt)(t:TS):Prop:=
 ∀(pins:List (Addr×Obj)) (s:Shared) (σ : St) (H:Hp) (D:Ends),Inv X pins σ H s->t D σ H->wpAny (model X.prog X.w) X.A (execs st X.env) (SP X pins D) X.xe s
theorem thn{α : Type}{t:Sem α}{Q Q' : α->Shared->Prop}{M:Model}{A:Around}{E:Value->Shared->Prop}{s:Shared}(h:wpAny M A t Q E s)(hQ:∀a s,Q a s->Q' a s):wpAny M A t Q' E s:=wpAny_mono h hQ fun _ _ x=>x
end L2
namespace L2
open PySem PySem.Spec PyProof.Rows
section
variable{X:Cx}
def zpe(i:Nat):TE:=fun σ H Q=>∃v,σ[i]?=some (some v)/\Q v H
def tC(v:V):TE:=fun _ H Q=>Q v H
theorem z00{i:Nat}{x:Str}{pos:Pos}(hN:X.N[i]?=some x)(hv:Vis X.env.scope x) (hd:(x == ("__debug__" : Str))=false:=by decide) (hcd:(x == ("__classdict__" : Str))=false:=by decide):PE X (.Name x pos) (zpe i):=by
 intro pins s σ H Q I h
 obtain⟨v,e,h⟩:=h
 obtain⟨m,hn,hl⟩:=I.loc
 obtain⟨u,r,l⟩:=hl i x v hN e hv
 have fin:EP X pins σ Q u s:=⟨v,H,I,r,h⟩
 rcases l with⟨hk,hm⟩ | ⟨hk,c,hc,hcell⟩
 ·exact wpAny_Name (wpAny_loadName_local I.ok.kind hk hn hm fin) hd
 ·rcases hk with hk | hk
  ·exact wpAny_Name (wpAny_loadName_cell I.ok.kind hk hc hcell fin) hd
  ·exact wpAny_Name (wpAny_loadName_free I.ok.kind hk hc hcell fin hcd) hd
theorem z06{i j pos}:PE X (.Constant (.int i) j pos) (tC (.int i)):=fun _ _ _ H _ I h=>wpAny_Constant_int ⟨.int i,H,I.tok _,⟨_,rfl⟩,h⟩
theorem zpy{b j pos}:PE X (.Constant (.bool b) j pos) (tC (.bl b)):=fun _ _ _ H _ I h=>Constant_bool ⟨.bl b,H,I,rfl,h⟩
theorem z1v{j pos}:PE X (.Constant .none j pos) (tC .non):=fun _ _ _ H _ I h=>Constant_none ⟨.non,H,I,rfl,h⟩
theorem z0y{x j pos}:PE X (.Constant (.str x) j pos) (tC (.str x)):=fun _ _ _ H _ I h=>Calls.Constant_str ⟨.str x,H,I.tok _,⟨_,rfl⟩,h⟩
def Gl(X:Cx)(x:Str):Prop:=X.env.kindOf x=some .globalImplicit
theorem ziy{E:Value->Shared->Prop}{pins:List (Addr×Obj)}{s:Shared}{σ : St}{H:Hp}{x:Str}{u:Value}{pos:Pos}{Q:Value->Shared->Prop}(I:Inv X pins σ H s)(hg:Gl X x)(hm:X.mg x=some u)(h:Q u s)
  (hd:(x == ("__debug__" : Str))=false:=by decide):wpAny (model X.prog X.w) X.A (eval (.Name x pos) X.env) Q E s:=
 Calls.Name_function_global I.ok.kind hg (Calls.loadGlobal_global (by rw [I.ok.glob]; exact I.mod.glob.keeps I.bk) hm h) hd
theorem ze4{E:Value->Shared->Prop}{pins:List (Addr×Obj)}{s:Shared}{σ : St}{H:Hp}{x:Str}{u:Value}{pos:Pos}{Q:Value->Shared->Prop}(I:Inv X pins σ H s)(hg:Gl X x)(hm:X.mg x=none)(hv:bootBuiltins x=some u)(h:Q u s)
  (hn:x≠"__name__":=by decide) (hd:(x == ("__debug__" : Str))=false:=by decide):wpAny (model X.prog X.w) X.A (eval (.Name x pos) X.env) Q E s:=by
 obtain⟨mb,h1,h2⟩:=I.mod.blt
 exact Calls.Name_function_global I.ok.kind hg (Calls.loadGlobal_builtin (by rw [I.ok.glob]; exact I.mod.glob.keeps I.bk) hm (by rw [I.ok.blt]; exact h1.keeps I.bk) ((h2 x hn).trans hv) h) hd
theorem zyr{x:Str}{v:V}{u:Value}{pos:Pos}(hg:Gl X x)(hm:X.mg x=some u)(r:RelV v u) (hd:(x == ("__debug__" : Str))=false:=by decide):PE X (.Name x pos) (tC v):=
 fun _ _ _ H _ I h=>ziy I hg hm ⟨v,H,I,r,h⟩ hd
theorem ziq{x:Str}{v:V}{u:Value}{pos:Pos}(hg:Gl X x)(hm:X.mg x=none)(hv:bootBuiltins x=some u)(r:RelV v u) (hn:x≠"__name__":=by decide) (hd:(x == ("__debug__" : Str))=false:=by decide):PE X (.Name x pos) (tC v):=
 fun _ _ _ H _ I h=>ze4 I hg hm hv ⟨v,H,I,r,h⟩ hn hd
variable{a b:Expr}{ta tb:TE}{pos:Pos}
def tB(t:TE):TT:=fun σ H Q=>t σ H fun x H1=>∃c,x=.bl c/\Q c H1
theorem zad{e:Expr}{t:TE}(h:PE X e t)(he:∀whole,isTrue e X.env whole=(do let v <- whole; standAt e.pos; holding [v] (truthy v)):=by intro _; rfl):PT X e (tB t):=by
 intro pins s σ H Q I hw
 refine isTrue_plain (thn (h pins s σ H _ I hw) fun v s1 ⟨x,H1,I1,r1,q1⟩=>?_) (he _)
 obtain⟨d,rfl,q⟩:=q1
 cases r1
 exact wpAny_truthy_bool ⟨H1,I1,q⟩
variable{tA tB':TT}{rest:List Expr}
def zxy(t u:TT):TT:=fun σ H Q=>t σ H fun c H1=>if c=true then u σ H1 Q else Q false H1
def tOr(t u:TT):TT:=fun σ H Q=>t σ H fun c H1=>if c=true then Q true H1 else u σ H1 Q
def zxw(t:TT):TT:=fun σ H Q=>t σ H fun c H1=>Q (!c) H1
theorem zmg(ha:PT X a tA):PW X (.BoolOp .And [a] pos) tA:=by
 intro wh pins s σ H Q I h
 refine isTrue_and (thn (ha pins s σ H Q I h) fun c s1 e=>?_)
 cases c with
 | true=>exact isTrue_and_nil e
 | false=>exact e
theorem zfs(ha:PT X a tA):PW X (.BoolOp .Or [a] pos) tA:=by
 intro wh pins s σ H Q I h
 refine isTrue_or (thn (ha pins s σ H Q I h) fun c s1 e=>?_)
 cases c with
 | false=>exact isTrue_or_nil e
 | true=>exact e
theorem zrj(ha:PT X a tA)(hb:PW X (.BoolOp .And (b::rest) pos) tB'):PW X (.BoolOp .And (a::b::rest) pos) (zxy tA tB'):=by
 intro wh pins s σ H Q I h
 refine isTrue_and (thn (ha pins s σ H _ I h) fun c s1 ⟨H1,I1,q1⟩=>?_)
 cases c with
 | true=>exact hb wh pins s1 σ H1 Q I1 q1
 | false=>exact⟨H1,I1,q1⟩
theorem zmf(ha:PT X a tA)(hb:PW X (.BoolOp .Or (b::rest) pos) tB'):PW X (.BoolOp .Or (a::b::rest) pos) (tOr tA tB'):=by
 intro wh pins s σ H Q I h
 refine isTrue_or (thn (ha pins s σ H _ I h) fun c s1 ⟨H1,I1,q1⟩=>?_)
 cases c with
 | true=>exact⟨H1,I1,q1⟩
 | false=>exact hb wh pins s1 σ H1 Q I1 q1
theorem zfu(ha:PT X a tA):PT X (.UnaryOp .Not a pos) (zxw tA):=by
 intro pins s σ H Q I h
 exact isTrue_not (ha pins s σ H (fun c H1=>Q (!c) H1) I h)
def zly(ta tb:TE):TE:=fun σ H Q=>ta σ H fun x H1=>∃c,x=.bl c/\if c=true then tb σ H1 Q else Q (.bl false) H1
def q0g(ta tb:TE):TE:=fun σ H Q=>ta σ H fun x H1=>∃c,x=.bl c/\if c=true then Q (.bl true) H1 else tb σ H1 Q
def zlt(ta:TE):TE:=fun σ H Q=>ta σ H fun x H1=>∃c,x=.bl c/\Q (.bl (!c)) H1
theorem zo9{op}{t:TE}(h:PE X a t):PE X (.BoolOp op [a] pos) t:=fun pins s σ H Q I hw=>BoolOp_one (h pins s σ H Q I hw)
theorem zk4(ha:PE X a ta)(hb:PE X (.BoolOp .And (b::rest) pos) tb):PE X (.BoolOp .And (a::b::rest) pos) (zly ta tb):=by
 intro pins s σ H Q I h
 refine BoolOp_and (thn (ha pins s σ H _ I h) fun v s1 ⟨x,H1,I1,r1,q1⟩=>?_)
 obtain⟨c,rfl,q1⟩:=q1
 cases r1
 refine wpAny_truthy_bool ?_
 cases c with
 | true=>exact hb pins s1 σ H1 Q I1 q1
 | false=>exact⟨.bl false,H1,I1,rfl,q1⟩
theorem q16(ha:PE X a ta):PE X (.UnaryOp .Not a pos) (zlt ta):=by
 intro pins s σ H Q I h
 refine UnaryOp_ (thn (ha pins s σ H _ I h) fun v s1 ⟨x,H1,I1,r1,q1⟩=>?_)
 obtain⟨c,rfl,q1⟩:=q1
 cases r1
 exact not_of (wpAny_truthy_bool ⟨.bl (!c),H1,I1,rfl,q1⟩)
def tIf(t:TT)(ta tb:TE):TE:=fun σ H Q=>t σ H fun c H1=>if c=true then ta σ H1 Q else tb σ H1 Q
theorem zey{c:Expr}(hc:PT X c tA)(ha:PE X a ta)(hb:PE X b tb):PE X (.IfExp c a b pos) (tIf tA ta tb):=by
 intro pins s σ H Q I h
 refine wpAny_IfExp (thn (hc pins s σ H _ I h) fun d s1 ⟨H1,I1,q1⟩=>?_)
 cases d with
 | true=>exact ha pins s1 σ H1 Q I1 q1
 | false=>exact hb pins s1 σ H1 Q I1 q1
end
end L2
namespace L2
open PySem PySem.Spec PyProof.Rows
def SqL(K:PySem.W.Frag)(H:Hp)(a:Addr)(xs:List V):Prop:=
 Rd H a (.lst xs)\/
  ∃(o:Obj) (its:Array Value) (n:Nat),K.lookup a=some o/\o.cls=.type "list"/\o.dict=none/\o.data=.seq its n/\its.size<=sizeLine/\Vals xs its.toList
def SqT(K:PySem.W.Frag)(H:Hp)(a:Addr)(xs:List V):Prop:=
 Rd H a (.tup xs)\/
  ∃(o:Obj) (its:Array Value) (n:Nat),K.lookup a=some o/\o.cls=.type "tuple"/\o.data=.seq its n/\its.size<=sizeLine/\Vals xs its.toList
def q4w:Value->Option V
 | .none=>some .non
 | .bool b=>some (.bl b)
 | .int i _=>some (.int i)
 | .str x _=>some (.str x)
 | .bytes b _=>some (.byt b)
 | .float b _=>some (.flt b)
 | .ref a=>some (.ref a)
 | .type n=>some (.ty n)
 | _=>none
theorem RelV.abs{x:V}{u:Value}(r:RelV x u):q4w u=some x:=by
 cases x with
 | non=>cases r; rfl
 | bl _=>cases r; rfl
 | int _=>obtain⟨t,rfl⟩:=r; rfl
 | str _=>obtain⟨t,rfl⟩:=r; rfl
 | byt _=>obtain⟨t,rfl⟩:=r; rfl
 | flt _=>obtain⟨t,rfl⟩:=r; rfl
 | ref _=>cases r; rfl
 | ty _=>cases r; rfl
theorem RelV.inj{x y:V}{u:Value}(r:RelV x u)(q:RelV y u):x=y:=Option.some.inj (r.abs.symm.trans q.abs)
theorem Vals.inj:∀{xs ys:List V} {us:List Value},Vals xs us->Vals ys us->xs=ys
 | _,_,_,.nil,.nil=>rfl
 | _,_,_,.cons r t,.cons r' t'=>by rw [r.inj r',Vals.inj t t']
section
variable{X:Cx}{pins:List (Addr×Obj)}{σ : St}{H:Hp}{s:Shared}{a:Addr}{xs ys:List V}
theorem SqL.of{K:PySem.W.Frag}(h:H a=some (.lst xs)):SqL K H a xs:=.inl (.inl h)
theorem SqT.of{K:PySem.W.Frag}(h:H a=some (.tup xs)):SqT K H a xs:=.inl (.inl h)
theorem Inv.list(I:Inv X pins σ H s)(h:SqL X.K H a xs):∃its:List Value,Vals xs its/\PlainL s.heap a its.toArray/\xs.length<=sizeLine:=by
 rcases h with h | ⟨o,its,n,hk,hc,hd,hs,hz,r⟩
 ·obtain⟨z,its,n,r,e⟩:=h.ok I.hok
  exact⟨its,r,⟨_,n,e,rfl,rfl,rfl⟩,z⟩
 ·refine⟨its.toList,r,⟨o,n,I.kIn a o hk,hc,hd,by simpa using hs⟩,?_⟩
  have e:=r.length
  simp only[Array.length_toList] at e
  omega
theorem Inv.tuple(I:Inv X pins σ H s)(h:SqT X.K H a xs):∃its:List Value,Vals xs its/\IsTup s.heap a its.toArray/\xs.length<=sizeLine:=by
 rcases h with h | ⟨o,its,n,hk,hc,hs,hz,r⟩
 ·obtain⟨z,its,r,p⟩:=h.ok I.hok
  exact⟨its,r,p,z⟩
 ·refine⟨its.toList,r,⟨o,I.kIn a o hk,hc,n,by simpa using hs⟩,?_⟩
  have e:=r.length
  simp only[Array.length_toList] at e
  omega
theorem Inv.list_inj(I:Inv X pins σ H s)(h:SqL X.K H a xs)(h':SqL X.K H a ys):xs=ys:=by
 obtain⟨its,r,⟨o,n,e,_,_,d⟩,_⟩:=I.list h
 obtain⟨its',r',⟨o',n',e',_,_,d'⟩,_⟩:=I.list h'
 rw [e] at e'; cases e'
 rw [d] at d'
 injection d' with d1 _
 have:its=its':=by simpa using congrArg Array.toList d1
 subst this
 exact r.inj r'
theorem Inv.tuple_inj(I:Inv X pins σ H s)(h:SqT X.K H a xs)(h':SqT X.K H a ys):xs=ys:=by
 obtain⟨its,r,⟨o,e,_,n,d⟩,_⟩:=I.tuple h
 obtain⟨its',r',⟨o',e',_,n',d'⟩,_⟩:=I.tuple h'
 rw [e] at e'; cases e'
 rw [d] at d'
 injection d' with d1 _
 have:its=its':=by simpa using congrArg Array.toList d1
 subst this
 exact r.inj r'
end
abbrev Cx.wish(X:Cx)(E:Value->Shared->Prop):Cx:={X with xe:=E}
abbrev Cx.nox(X:Cx):Cx:=X.wish fun _ _=>False
theorem Cx.Ok.wish{X:Cx}(ok:X.Ok)(E:Value->Shared->Prop):(X.wish E).Ok:=
 ⟨ok.mod,ok.kind,ok.glob,ok.blt,ok.above,ok.inj,ok.has,ok.cab,ok.hd,ok.frames,ok.stk,ok.exf,ok.bs,ok.bsz,ok.noex,ok.exfs,ok.funs,ok.frf⟩
theorem Cx.Ok.unwish{X:Cx}{E:Value->Shared->Prop}(ok:(X.wish E).Ok):X.Ok:=
 ⟨ok.mod,ok.kind,ok.glob,ok.blt,ok.above,ok.inj,ok.has,ok.cab,ok.hd,ok.frames,ok.stk,ok.exf,ok.bs,ok.bsz,ok.noex,ok.exfs,ok.funs,ok.frf⟩
section
variable{X:Cx}{pins:List (Addr×Obj)}{σ : St}{H:Hp}{s:Shared}{E:Value->Shared->Prop}
theorem Inv.wish(I:Inv X pins σ H s)(E:Value->Shared->Prop):Inv (X.wish E) pins σ H s:=⟨I.ok.wish E,I.os,I.bare,I.base,I.loc,I.cell,I.free,I.freeC,I.pin,I.hok,I.len⟩
theorem Inv.unwish(I:Inv (X.wish E) pins σ H s):Inv X pins σ H s:=⟨I.ok.unwish,I.os,I.bare,I.base,I.loc,I.cell,I.free,I.freeC,I.pin,I.hok,I.len⟩
theorem SP.unwish{D:Ends}{f:Flow}{s':Shared}(h:SP (X.wish E) pins D f s'):SP X pins D f s':=by
 cases f with
 | next=>obtain⟨σ',H',I,q⟩:=h; exact⟨σ',H',I.unwish,q⟩
 | brk=>obtain⟨σ',H',I,q⟩:=h; exact⟨σ',H',I.unwish,q⟩
 | cont=>obtain⟨σ',H',I,q⟩:=h; exact⟨σ',H',I.unwish,q⟩
 | ret u=>obtain⟨v,σ',H',I,r,q⟩:=h; exact⟨v,σ',H',I.unwish,r,q⟩
theorem PE.nox{e:Expr}{t:TE}(h:PE X.nox e t):PE X e t:=fun pins s σ H Q I hw=>
 wpAny_mono (h pins s σ H Q (I.wish _) hw) (fun _ _ ⟨v,H',I',r,q⟩=>⟨v,H',I'.unwish,r,q⟩) fun _ _ z=>False.elim z
theorem PT.nox{e:Expr}{t:TT}(h:PT X.nox e t):PT X e t:=fun pins s σ H Q I hw=>
 wpAny_mono (h pins s σ H Q (I.wish _) hw) (fun _ _ ⟨H',I',q⟩=>⟨H',I'.unwish,q⟩) fun _ _ z=>False.elim z
theorem PSs.nox{st:List Stmt}{t:TS}(h:PSs X.nox st t):PSs X st t:=fun pins s σ H D I hw=>
 wpAny_mono (h pins s σ H D (I.wish _) hw) (fun _ _ q=>q.unwish) fun _ _ z=>False.elim z
end
section
variable{X:Cx}{st:Stmt}{rest:List Stmt}{t u:TS}{e:Expr}{te:TE}{pos:Pos}
def zlu:TS:=fun D σ H=>D.nx σ H
def zun(t u:TS):TS:=fun D σ H=>t {D with nx:=u D} σ H
theorem z0f:PSs X [] zlu:=fun _ _ σ H _ I h=>wpAny_execs_nil ⟨σ,H,I,h⟩
theorem z02(h1:PS X st t)(h2:PSs X rest u):PSs X (st::rest) (zun t u):=by
 intro pins s σ H D I h
 refine wpAny_execs_cons (thn (h1 pins s σ H {D with nx:=u D} I h) fun f s1 q=>?_)
 cases f with
 | next=>
  obtain⟨σ',H',I',q⟩:=q
  exact h2 pins s1 σ' H' D I' q
 | ret v=>exact q
 | brk=>exact q
 | cont=>exact q
theorem z07(h1:PS X st t):PSs X [st] t:=by
 intro pins s σ H D I h
 refine wpAny_execs_cons (thn (h1 pins s σ H D I h) fun f s1 q=>?_)
 cases f with
 | next=>exact wpAny_execs_nil q
 | ret v=>exact q
 | brk=>exact q
 | cont=>exact q
def zfm:TS:=fun D σ H=>D.bk σ H
def zpi:TS:=fun D σ H=>D.ct σ H
theorem zv2:PS X (.Break pos) zfm:=fun _ _ σ H _ I h=>wpAny_Break ⟨σ,H,I,h⟩
theorem Inv.quiet{pins:List (Addr×Obj)}{σ : St}{H:Hp}{s:Shared}(I:Inv X pins σ H s):interactive X.env=false:=by simp[interactive,I.ok.kind]
def zlv(te:TE):TS:=fun D σ H=>te σ H fun _ H1=>D.nx σ H1
theorem zd6(he:PE X e te)(hs:swapsWith e none pos.line X.env=pure false:=by rfl):PS X (.Expr e pos) (zlv te):=by
 intro pins s σ H D I h
 exact wpAny_Expr_any (thn (he pins s σ H _ I h) fun v s1 ⟨x,H1,I1,r1,q1⟩=>⟨σ,H1,I1,q1⟩) I.quiet hs
def zxv(te:TE):TS:=fun D σ H=>te σ H D.rt
theorem z0b(he:PE X e te):PS X (.Return (some e) pos) (zxv te):=by
 intro pins s σ H D I h
 exact wpAny_Return_some (thn (he pins s σ H _ I h) fun v s1 ⟨x,H1,I1,r1,q1⟩=>⟨x,σ,H1,I1,r1,q1⟩)
def zpf:TS:=fun D _ H=>D.rt .non H
def zuq(c:TT)(t u:TS):TS:=fun D σ H=>c σ H fun b H1=>if b=true then t D σ H1 else u D σ H1
theorem z1h{c:Expr}{a b:List Stmt}{tc:TT}(hc:PT X c tc)(ha:PSs X a t)(hb:PSs X b u):PS X (.If c a b pos) (zuq tc t u):=by
 intro pins s σ H D I h
 refine wpAny_If (thn (hc pins s σ H _ I h) fun d s1 ⟨H1,I1,q1⟩=>?_)
 cases d with
 | true=>exact ha pins s1 σ H1 D I1 q1
 | false=>exact hb pins s1 σ H1 D I1 q1
def zfh:TS:=fun _ _ _=>False
theorem zim:PS X st zfh:=fun _ _ _ _ _ _ h=>h.elim
end
abbrev TG:=V->St->Hp->(St->Hp->Prop)->Prop
abbrev TGs:=List V->St->Hp->(St->Hp->Prop)->Prop
def PG(X:Cx)(target:Expr)(t:TG):Prop:=
 ∀(pins:List (Addr×Obj)) (s:Shared) (σ : St) (H:Hp) (v:V) (u:Value) (Q:St->Hp->Prop),Inv X pins σ H s->RelV v u->t v σ H Q->
  wpAny (model X.prog X.w) X.A (assign target X.env u) (fun _ s'=>∃ σ' H',Inv X pins σ' H' s'/\Q σ' H') X.xe s
def PGs(X:Cx)(ts:List Expr)(t:TGs):Prop:=
 ∀(pins:List (Addr×Obj)) (s:Shared) (σ : St) (H:Hp) (vs:List V) (us:List Value) (Q:St->Hp->Prop),Inv X pins σ H s->Vals vs us->t vs σ H Q->
  wpAny (model X.prog X.w) X.A (assignInOrder ((assignEach ts X.env).map (·.2)) us) (fun _ s'=>∃ σ' H',Inv X pins σ' H' s'/\Q σ' H') X.xe s
section
variable{X:Cx}{pos:Pos}
def zgr(i:Nat):TG:=fun v σ H Q=>Q (σ.set i (some v)) H
theorem z1k{i:Nat}{x:Str}(hN:X.N.Nodup)(hi:X.N[i]?=some x)(hx:Loc X.env.scope x)(hf:X.fn x=true\/X.env.scope.names.lookup x=some .local:=by first | exact .inl rfl | exact .inr rfl | assumption):PG X (.Name x pos) (zgr i):=by
 intro pins s σ H v u Q I r h
 exact wpAny_assign_Name (zo0 I hN hi hx r (fun s' I'=>⟨_,H,I',h⟩) hf)
def zzp:TGs:=fun vs σ H Q=>vs=[]/\Q σ H
def zn3(t:TG)(u:TGs):TGs:=fun vs σ H Q=>∃v r,vs=v::r/\t v σ H fun σ' H'=>u r σ' H' Q
theorem zas:PGs X [] zzp:=by
 intro pins s σ H vs us Q I r h
 obtain⟨e,h⟩:=h
 subst e
 cases r
 exact assignInOrder_nil ⟨σ,H,I,h⟩
theorem z2u{e:Expr}{es:List Expr}{t:TG}{u:TGs}(h1:PG X e t)(h2:PGs X es u)
  (hs:(assignEach (e::es) X.env).map (·.2)=assign e X.env::(assignEach es X.env).map (·.2):=by rfl):PGs X (e::es) (zn3 t u):=by
 intro pins s σ H vs us Q I r h
 obtain⟨v,vr,e1,h⟩:=h
 subst e1
 cases r with
 | cons r rr=>
  rw [hs]
  refine assignInOrder_cons (thn (h1 pins s σ H _ _ _ I r h) fun _ s1 ⟨σ1,H1,I1,q1⟩=>?_)
  exact h2 pins s1 σ1 H1 _ _ Q I1 rr q1
def zxe(K:PySem.W.Frag)(n:Nat)(t:TGs):TG:=fun v σ H Q=>∃a xs,v=.ref a/\SqT K H a xs/\xs.length=n/\t xs σ H Q
theorem zfx{es:List Expr}{k:Nat}{t:TGs}{n:Nat}(hc:X.calm=true)(h:PGs X es t)
  (hn:(assignEach es X.env).length=n:=by rfl) (hst:(assignEach es X.env).findIdx? (·.1)=none:=by rfl):PG X (.Tuple es k pos) (zxe X.K n t):=by
 intro pins s σ H v u Q I r hw
 obtain⟨a,xs,e1,hq,hl,hw⟩:=hw
 subst e1
 cases r
 obtain⟨its,rv,ht,hz⟩:=I.tuple hq
 refine assign_Tuple_tuple (I.ok.hd hc) ht (by simp[hn,<- hl,rv.length]) hst fun h' hx=>?_
 have I1:Inv X pins σ H {s with heap:=h'}:=I.kept (t':=s.toks) fun b o e=>hx b o (Nat.ne_of_lt (Heap.lt_size e)) e
 exact h pins _ σ H xs _ Q I1 (by simpa using rv) hw
def zwt(te:TE)(g:TG):TS:=fun D σ H=>te σ H fun x H1=>g x σ H1 D.nx
theorem z19{i:Nat}{x:Str}{e:Expr}{te:TE}{pos':Pos}(hN:X.N.Nodup)(hi:X.N[i]?=some x)(hx:Loc X.env.scope x)(he:PE X e te)(hs:swapsWith e (some (.Name x pos')) pos.line X.env=pure false:=by rfl)(hf:X.fn x=true\/X.env.scope.names.lookup x=some .local:=by first | exact .inl rfl | exact .inr rfl | assumption) :
  PS X (.Assign [.Name x pos'] e pos) (zwt te (zgr i)):=by
 intro pins s σ H D I h
 refine wpAny_Assign_Name (thn (he pins s σ H _ I h) fun v s1 ⟨y,H1,I1,r1,q1⟩=>?_) hs
 exact zo0 I1 hN hi hx r1 (fun s2 I2=>⟨_,H1,I2,q1⟩) hf
end
section
variable{X:Cx}{pos:Pos}
def q0s(c:TT)(tb:TS):TS:=fun D σ H=>∃W:Nat->St->Hp->Prop,(∃m,W m σ H)/\∀m σ H,W m σ H->
 c σ H fun b H1=>if b=true then ∃N:St->Hp->Prop,(∀ σ' H',N σ' H'->∃m',m' < m/\W m' σ' H')/\tb {D with nx:=N,ct:=N,bk:=D.nx} σ H1 else D.nx σ H1
theorem zv1{c:Expr}{body:List Stmt}{tc:TT}{tb:TS}(hp:PassesOwn (model X.prog X.w) X.A X.env X.xe)(hc:PT X c tc)(hb:PSs X body tb):PS X (.While c body [] pos) (q0s tc tb):=by
 intro pins s σ H D I h
 obtain⟨W,⟨m0,w0⟩,turn⟩:=h
 refine wpAny_While (codeAny_whileLoop (fun n s'=>∃ σ' H',Inv X pins σ' H' s'/\W n σ' H') ?_ m0 ⟨σ,H,I,w0⟩)
 rintro n s1 ⟨σ1,H1,I1,w1⟩
 refine wpAny_passesOwn hp (thn (hc pins s1 σ1 H1 _ I1 (turn n σ1 H1 w1)) fun b s2 ⟨H2,I2,q2⟩=>?_)
 cases b with
 | true=>
  obtain⟨N,hN,q2⟩:=q2
  rw [if_pos rfl]
  refine wpAny_passesOwn hp (thn (hb pins s2 σ1 H2 _ I2 q2) fun f s3 q3=>?_)
  cases f with
  | next=>
   obtain⟨σ3,H3,I3,n3⟩:=q3
   obtain⟨m',hm,w3⟩:=hN σ3 H3 n3
   exact⟨m',hm,σ3,H3,I3,w3⟩
  | cont=>
   obtain⟨σ3,H3,I3,n3⟩:=q3
   obtain⟨m',hm,w3⟩:=hN σ3 H3 n3
   exact⟨m',hm,σ3,H3,I3,w3⟩
  | brk=>exact q3
  | ret v=>exact q3
 | false=>
  rw [if_neg Bool.false_ne_true]
  exact wpAny_execs_nil ⟨σ1,H2,I2,q2⟩
end
structure It where
 go:Nat->Hp->Prop
 yld:Nat->Hp->V->Hp->Prop
 stop:Nat->Hp->Prop
def FpOk(X:Cx)(pins:List (Addr×Obj))(H:Hp)(b:Addr):Prop:=
 H b=none/\b≠X.env.locals/\b∉X.fs/\(b∈X.ex\/X.s₀.heap.objs.size<=b)/\(∀x c,X.env.cells.lookup x=some c->c≠b)/\∀p∈X.pn++pins,p.1≠b
theorem Inv.fpOk{X:Cx}{pins:List (Addr×Obj)}{σ : St}{H H':Hp}{s:Shared}{b:Addr}(I:Inv X pins σ H s)(hb:s.heap.objs.size<=b)(hn:H' b=none):FpOk X pins H' b:=by
 refine⟨hn,Nat.ne_of_gt (Nat.lt_of_lt_of_le I.lt hb),I.nofs hb,.inr (Nat.le_trans I.sz hb),fun x c e z=>?_,fun p hp z=>?_⟩
 ·obtain⟨v,q⟩:=I.cell x c e
  exact absurd (Nat.lt_of_lt_of_le q.lt (by rw [z]; exact hb)) (Nat.lt_irrefl _)
 ·exact absurd (Nat.lt_of_lt_of_le (Heap.lt_size (I.pin p hp).1) (by rw [z]; exact hb)) (Nat.lt_irrefl _)
structure Turn(P:Program)(w:World)(K:PySem.W.Frag)(tg:Expr)(J:It)(fp:List Addr)(it:Addr)(tn:Nat->Heap->Prop):Prop where
 mem:it∈fp
 obj:∀i h,tn i h->∀b∈fp,∃o,h.get? b=some o/\∀v,o.data≠.cell v
 keep:∀i h h',tn i h->(∀b∈fp,∀o,h.get? b=some o->h'.get? b=some o)->tn i h'
 item:∀(X:Cx),X.prog=P->X.w=w->X.K=K->X.calm=true->∀(i:Nat) (pins:List (Addr×Obj)) (s:Shared) (σ : St) (H:Hp) (E:Value->Shared->Prop),Inv X pins σ H s->(∀b∈fp,FpOk X pins H b)->tn i s.heap->J.go i H->
  wpAny (model P w) X.A (pyNext (.ref it)) (fun r s1=>∃u,r=some u/\
   wpAny (model P w) X.A (letOwnedTupleGo tg (.ref it) u) (fun _ s2=>∃x H',Inv X pins σ H' s2/\RelV x u/\J.yld i H x H'/\tn (i+1) s2.heap/\∀b∈fp,H' b=none) E s1) E s
 done:∀(X:Cx),X.prog=P->X.w=w->X.K=K->X.calm=true->∀(i:Nat) (pins:List (Addr×Obj)) (s:Shared) (σ : St) (H:Hp) (E:Value->Shared->Prop),Inv X pins σ H s->(∀b∈fp,FpOk X pins H b)->tn i s.heap->J.stop i H->
  wpAny (model P w) X.A (pyNext (.ref it)) (fun r s1=>r=none/\Inv X pins σ H s1) E s
 self:∀(A:Around) (i:Nat) (s:Shared) (Q:Value->Shared->Prop) (E:Value->Shared->Prop),tn i s.heap->Q (.ref it) s->wpAny (model P w) A (pyIter (.ref it)) Q E s
abbrev TI:=St->Hp->(It->Hp->Prop)->Prop
def PIE(X:Cx)(pins:List (Addr×Obj))(σ : St)(tg:Expr)(R:It->Hp->Prop)(itv:Value)(s2:Shared):Prop:=
 ∃(it:Addr) (fp:List Addr) (tn:Nat->Heap->Prop) (J:It) (H':Hp),itv=.ref it/\Inv X pins σ H' s2/\Turn X.prog X.w X.K tg J fp it tn/\tn 0 s2.heap/\(∀b∈fp,FpOk X pins H' b)/\R J H'
def PI(X:Cx)(tg iter:Expr)(wi:TI):Prop:=
 ∀(pins:List (Addr×Obj)) (s:Shared) (σ : St) (H:Hp) (R:It->Hp->Prop),Inv X pins σ H s->wi σ H R->
  wpAny (model X.prog X.w) X.A (eval iter X.env) (fun v s1=>wpAny (model X.prog X.w) X.A (pyIter v) (PIE X pins σ tg R) X.xe s1) X.xe s
theorem zw3{M:Model}{A:Around}{E:Value->Shared->Prop}{s:Shared}{tg:Expr}{it:Addr}{u:Value}{o:Obj}{n:String}{vs:Array Value}{Q:Unit->Shared->Prop}(ho:s.heap.get? it=some o)(hc:o.cls=.type n)(hd:o.data=.fields vs)
    (hn:["enumerate","zip","dict_itemiterator","dict_reverseitemiterator","odict_iterator","itertools.zip_longest","itertools.pairwise"].contains n=false) (hQ:Q () s):wpAny M A (letOwnedTupleGo tg (.ref it) u) Q E s:=by
  unfold letOwnedTupleGo
  cases tg<;>first
    | exact wpAny_pure hQ
    | (cases u<;>first
        | exact wpAny_pure hQ
        | (refine wpAny_bind (wpAny_load ho ?_)
           rw [hc,hd]
           show wpAny M A (if(["enumerate","zip","dict_itemiterator","dict_reverseitemiterator","odict_iterator","itertools.zip_longest","itertools.pairwise"].contains n && vs[0]? == some (rawInt _))=true then _ else _) Q E s
           rw [if_neg (by intro h; rw [hn,Bool.false_and] at h; cases h)]
           exact wpAny_pure hQ))
def Itl(K:PySem.W.Frag)(a:Addr):It:=
 ⟨fun i H=>∃xs x,SqL K H a xs/\xs[i]?=some x,fun i H x H'=>H'=H/\∀xs,SqL K H a xs->xs[i]?=some x,fun i H=>∃xs,SqL K H a xs/\xs.length<=i⟩
def Itt(K:PySem.W.Frag)(a:Addr):It:=
 ⟨fun i H=>∃xs x,SqT K H a xs/\xs[i]?=some x,fun i H x H'=>H'=H/\∀xs,SqT K H a xs->xs[i]?=some x,fun i H=>∃xs,SqT K H a xs/\xs.length<=i⟩
def Itr(lo:Int)(n:Nat):It:=⟨fun i _=>i < n,fun i H x H'=>H'=H/\x=.int (lo+i),fun i _=>n<=i⟩
theorem zqw{P:Program}{w:World}{K:PySem.W.Frag}{tg:Expr}(a it:Addr):Turn P w K tg (Itl K a) [it] it (fun i h=>h.IsListIter it a i) where
 mem:=by simp
 obj:=fun i h st b hb=>by
  have e:b=it:=by simpa using hb
  subst e
  obtain⟨o,e,c,d⟩:=st
  exact⟨o,e,fun v z=>by rw [d] at z; cases z⟩
 keep:=fun i h h' st k=>st.at fun o e=>k it (by simp) o e
 item:=by
  intro X hP hw hK hc i pins s σ H E I hf st hg
  subst hP hw hK
  obtain⟨xs,x,hq,hx⟩:=hg
  obtain⟨its,rv,p,hz⟩:=I.list hq
  obtain⟨u,hu,ru⟩:=rv.get hx
  obtain⟨f0,f1,f2,f3,f4,f5⟩:=hf it (by simp)
  refine wpAny_pyNext_list_item st p.isList (x:=u) (by simpa using hu) fun h' st' sb=>?_
  have I1:Inv X pins σ H {s with heap:=h'}:=I.turned (t':=s.toks) (fun b o hb e=>(sb.2 b hb).trans e) f0 f1 f3 f4 f5
  obtain⟨o,e,c,d⟩:=id st'
  exact⟨u,rfl,zw3 (s:={s with heap:=h'}) e c d (by decide) ⟨x,H,I1,ru,⟨rfl,fun ys hy=>by rw [I.list_inj hy hq]; exact hx⟩,st',fun b hb=>(hf b hb).1⟩⟩
 done:=by
  intro X hP hw hK hc i pins s σ H E I hf st hg
  subst hP hw hK
  obtain⟨xs,hq,hx⟩:=hg
  obtain⟨its,rv,p,hz⟩:=I.list hq
  obtain⟨f0,f1,f2,f3,f4,f5⟩:=hf it (by simp)
  have hl:=rv.length
  exact wpAny_pyNext_list_end (I.ok.hd hc) st p.isList (by simp; omega) fun h' eb=>⟨rfl,I.turned (t':=s.toks) (fun b o hb e=>eb b o hb e) f0 f1 f3 f4 f5⟩
 self:=fun _ _ _ _ _ st h=>wpAny_pyIter_listiter st h
theorem zpb{P:Program}{w:World}{K:PySem.W.Frag}{tg:Expr}(a it:Addr):Turn P w K tg (Itt K a) [it] it (fun i h=>h.IsTupleIter it a i) where
 mem:=by simp
 obj:=fun i h st b hb=>by
  have e:b=it:=by simpa using hb
  subst e
  obtain⟨o,e,c,d⟩:=st
  exact⟨o,e,fun v z=>by rw [d] at z; cases z⟩
 keep:=fun i h h' st k=>st.at fun o e=>k it (by simp) o e
 item:=by
  intro X hP hw hK hc i pins s σ H E I hf st hg
  subst hP hw hK
  obtain⟨xs,x,hq,hx⟩:=hg
  obtain⟨its,rv,p,hz⟩:=I.tuple hq
  obtain⟨u,hu,ru⟩:=rv.get hx
  obtain⟨f0,f1,f2,f3,f4,f5⟩:=hf it (by simp)
  refine wpAny_pyNext_tuple_item st (show s.heap.IsTuple a its.toArray from p) (x:=u) (by simpa using hu) fun h' st' sb=>?_
  have I1:Inv X pins σ H {s with heap:=h'}:=I.turned (t':=s.toks) (fun b o hb e=>(sb.2 b hb).trans e) f0 f1 f3 f4 f5
  obtain⟨o,e,c,d⟩:=id st'
  exact⟨u,rfl,zw3 (s:={s with heap:=h'}) e c d (by decide) ⟨x,H,I1,ru,⟨rfl,fun ys hy=>by rw [I.tuple_inj hy hq]; exact hx⟩,st',fun b hb=>(hf b hb).1⟩⟩
 done:=by
  intro X hP hw hK hc i pins s σ H E I hf st hg
  subst hP hw hK
  obtain⟨xs,hq,hx⟩:=hg
  obtain⟨its,rv,p,hz⟩:=I.tuple hq
  obtain⟨f0,f1,f2,f3,f4,f5⟩:=hf it (by simp)
  have hl:=rv.length
  exact wpAny_pyNext_tuple_end (I.ok.hd hc) st (show s.heap.IsTuple a its.toArray from p) (by simp; omega) fun h' eb=>⟨rfl,I.turned (t':=s.toks) (fun b o hb e=>eb b o hb e) f0 f1 f3 f4 f5⟩
 self:=fun _ _ _ _ _ st h=>wpAny_pyIter_tupleiter st h
theorem zpc{P:Program}{w:World}{K:PySem.W.Frag}{tg:Expr}(it:Addr)(lo:Int)(n:Nat):Turn P w K tg (Itr lo n) [it] it (fun i h=>IsRangeIter h it (lo+(i:Nat) * 1) ((n:Int) - (i:Nat)) 1) where
 mem:=by simp
 obj:=fun i h st b hb=>by
  have e:b=it:=by simpa using hb
  subst e
  exact⟨_,st,fun v z=>by
   have z':Data.fields _=Data.cell v:=z
   cases z'⟩
 keep:=fun i h h' st k=>k it (by simp) _ st
 item:=by
  intro X hP hw hK hc i pins s σ H E I hf st hg
  subst hP hw hK
  obtain⟨f0,f1,f2,f3,f4,f5⟩:=hf it (by simp)
  have W:=Walks.range (prog:=X.prog) (w:=X.w) (I.ok.hd hc) it lo 1 n
  refine W.item i s _ _ hg st fun v h' tk hv st' kk=>?_
  obtain⟨t,rfl⟩:=hv
  have I1:Inv X pins σ H {s with heap:=h',toks:=tk}:=I.turned (fun b o hb e=>kk b o (by simpa using hb) e) f0 f1 f3 f4 f5
  refine⟨_,rfl,zw3 (s:={s with heap:=h',toks:=tk}) (n:="range_iterator") st' rfl rfl (by decide) ⟨.int (lo+i),H,I1,⟨t,?_⟩,⟨rfl,rfl⟩,st',fun b hb=>(hf b hb).1⟩⟩
  rw [Int.mul_one]
 done:=by
  intro X hP hw hK hc i pins s σ H E I hf st hg
  subst hP hw hK
  obtain⟨f0,f1,f2,f3,f4,f5⟩:=hf it (by simp)
  exact wpAny_pyNext_range_end (I.ok.hd hc) st (by have:n<=i:=hg; omega) fun h' eb=>⟨rfl,I.turned (t':=s.toks) (fun b o hb e=>eb b o hb e) f0 f1 f3 f4 f5⟩
 self:=fun _ _ _ _ _ st h=>wpAny_pyIter_rangeiter st h
end L2
namespace L2
open PySem PySem.Spec PyProof.Rows
section
variable{X:Cx}{tg:Expr}
def zzn(K:PySem.W.Frag)(tl:TE):TI:=fun σ H R=>tl σ H fun x H1=>∃a,x=.ref a/\(∃xs,SqL K H1 a xs)/\R (Itl K a) H1
def q3j(K:PySem.W.Frag)(tl:TE):TI:=fun σ H R=>tl σ H fun x H1=>∃a,x=.ref a/\(∃xs,SqT K H1 a xs)/\R (Itt K a) H1
theorem zfw{l:Expr}{tl:TE}(hl:PE X l tl):PI X tg l (zzn X.K tl):=by
 intro pins s σ H R I h
 refine thn (hl pins s σ H _ I h) fun v s1 ⟨x,H1,I1,r1,q1⟩=>?_
 obtain⟨a,e,⟨xs,hq⟩,q⟩:=q1
 subst e
 cases r1
 obtain⟨its,rv,p,hz⟩:=I1.list hq
 refine wpAny_pyIter_list p.isList ?_
 refine⟨s1.heap.objs.size,[s1.heap.objs.size],_,_,H1,rfl,I1.kept (t':=s1.toks) fun b o e=>Heap.get?_push_of_some _ e,zqw a _,⟨_,Heap.get?_push_size _ rfl,rfl,rfl⟩,fun b hb=>?_,q⟩
 have e:b=s1.heap.objs.size:=by simpa using hb
 subst e
 exact I1.fpOk (Nat.le_refl _) (I1.hok.fresh (Nat.le_refl _))
theorem zk3{l:Expr}{tl:TE}(hl:PE X l tl):PI X tg l (q3j X.K tl):=by
 intro pins s σ H R I h
 refine thn (hl pins s σ H _ I h) fun v s1 ⟨x,H1,I1,r1,q1⟩=>?_
 obtain⟨a,e,⟨xs,hq⟩,q⟩:=q1
 subst e
 cases r1
 obtain⟨its,rv,p,hz⟩:=I1.tuple hq
 refine wpAny_pyIter_tuple (show s1.heap.IsTuple a its.toArray from p) ?_
 refine⟨s1.heap.objs.size,[s1.heap.objs.size],_,_,H1,rfl,I1.kept (t':=s1.toks) fun b o e=>Heap.get?_push_of_some _ e,zpb a _,⟨_,Heap.get?_push_size _ rfl,rfl,rfl⟩,fun b hb=>?_,q⟩
 have e:b=s1.heap.objs.size:=by simpa using hb
 subst e
 exact I1.fpOk (Nat.le_refl _) (I1.hok.fresh (Nat.le_refl _))
theorem zo7{pins:List (Addr×Obj)}{σ : St}{H:Hp}{s:Shared}{R:It->Hp->Prop}{E:Value->Shared->Prop}{lo hi:Int}{t u v:Tok}{tk:Nat}(I:Inv X pins σ H s)(h1 : -(2 ^ 62)<=lo)(h2:lo < 2 ^ 62)(h3 : -(2 ^ 62)<=hi)(h4:hi < 2 ^ 62)
  (q:R (Itr lo (hi - lo).toNat) H):wpAny (model X.prog X.w) X.A (pyIter (.ref s.heap.objs.size)) (PIE X pins σ tg R) E {s with heap:=s.heap.push {cls:=.type "range",data:=.fields #[.int lo t,.int hi u,.int 1 v]},toks:=tk}:=by
 refine wpAny_pyIter_range (IsRange.new ..) (small_one h1 h2 h3 h4) ?_
 have I1:Inv X pins σ H {s with heap:=s.heap.push {cls:=.type "range",data:=.fields #[.int lo t,.int hi u,.int 1 v]},toks:=tk}:=I.kept fun b o e=>Heap.get?_push_of_some _ e
 refine⟨(s.heap.push {cls:=.type "range",data:=.fields #[.int lo t,.int hi u,.int 1 v]}).objs.size,[(s.heap.push {cls:=.type "range",data:=.fields #[.int lo t,.int hi u,.int 1 v]}).objs.size],_,_,H,rfl,
  I1.kept (t':=tk) fun b o e=>Heap.get?_push_of_some _ e,zpc _ lo (hi - lo).toNat,?_,fun b hb=>?_,q⟩
 ·have e1:lo+((0:Nat):Int) * 1=lo:=by simp
  have e2:(((hi - lo).toNat:Nat):Int) - ((0:Nat):Int)=Builtin.Range.rangeSize lo hi 1:=by rw [rangeSize_one]; split<;>omega
  show IsRangeIter _ _ (lo+((0:Nat):Int) * 1) ((((hi - lo).toNat:Nat):Int) - ((0:Nat):Int)) 1
  rw [e1,e2]
  exact Heap.get?_push_size _ rfl
 ·have e:b=(s.heap.push {cls:=.type "range",data:=.fields #[.int lo t,.int hi u,.int 1 v]}).objs.size:=by simpa using hb
  subst e
  exact I1.fpOk (Nat.le_refl _) (I1.hok.fresh (Nat.le_refl _))
def q1w(ta:TA):TI:=fun σ H R=>ta σ H fun vs H1=>∃j:Int,vs=[.int j]/\-(2 ^ 62)<=j/\j < 2 ^ 62/\R (Itr 0 j.toNat) H1
def zzm(ta:TA):TI:=fun σ H R=>ta σ H fun vs H1=>∃i j:Int,vs=[.int i,.int j]/\(-(2 ^ 62)<=i/\i < 2 ^ 62/\-(2 ^ 62)<=j/\j < 2 ^ 62)/\R (Itr i (j - i).toNat) H1
theorem zrq{a:Expr}{ta:TA}{p pos:Pos} (hg:Gl X "range") (hm:X.mg "range" = none) (ha:PA X [a] ta) (hs:starEach [a] X.env=[(false,eval a X.env)]:=by rfl):PI X tg (.Call (.Name "range" p) [a] [] pos) (q1w ta):=by
 intro pins s σ H R I h
 refine Call_ (ze4 I hg hm boot_range (PyProof.Rows.callWith_type1 (thn (ha pos pins s σ H _ I h) fun us s1 ⟨vs,H1,I1,r1,q1⟩=>?_) hs rfl))
 obtain⟨j,e,q1,q2,q⟩:=q1
 subst e
 cases r1 with
 | cons r rr=>
  cases rr
  obtain⟨t,rfl⟩:=r
  exact call_range_1 (zo7 I1 (by omega) (by omega) q1 q2 (by simpa using q))
theorem zrp{a b:Expr}{ta:TA}{p pos:Pos} (hg:Gl X "range") (hm:X.mg "range" = none) (ha:PA X [a,b] ta) (hs:starEach [a,b] X.env=[(false,eval a X.env),(false,eval b X.env)]:=by rfl) (hs2:starEach [b] X.env=[(false,eval b X.env)]:=by rfl) :
  PI X tg (.Call (.Name "range" p) [a,b] [] pos) (zzm ta):=by
 intro pins s σ H R I h
 refine Call_ (ze4 I hg hm boot_range (PyProof.Rows.callWith_type1 (thn (ha pos pins s σ H _ I h) fun us s1 ⟨vs,H1,I1,r1,q1⟩=>?_) (by rw [hs,hs2]) (by rw [hs2]; rfl)))
 obtain⟨i,j,e,⟨q1,q2,q3,q4⟩,q⟩:=q1
 subst e
 cases r1 with
 | cons r rr=>
  cases rr with
  | cons r' rr=>
   cases rr
   obtain⟨t,rfl⟩:=r
   obtain⟨t',rfl⟩:=r'
   exact call_range_2 (zo7 I1 q1 q2 q3 q4 q)
def zuc(wi:TI)(g:TG)(tb:TS):TS:=fun D σ H=>wi σ H fun J H1=>∃W:Nat->Nat->St->Hp->Prop,(∃m,W 0 m σ H1)/\∀i m σ H,W i m σ H->
 (J.stop i H/\D.nx σ H)\/(J.go i H/\∃N:St->Hp->Prop,(∀ σ' H',N σ' H'->∃m',m' < m/\W (i+1) m' σ' H')/\∀x H',J.yld i H x H'->g x σ H' fun σ2 H2=>tb {D with nx:=N,ct:=N,bk:=D.nx} σ2 H2)
def zk2(fp:List Addr)(h:Heap):List (Addr×Obj):=fp.filterMap fun b=>(h.get? b).map fun o=>(b,o)
theorem z9s{fp:List Addr}{h:Heap}{b:Addr}{o:Obj}(hb:b∈fp)(e:h.get? b=some o):(b,o)∈zk2 fp h:=List.mem_filterMap.mpr ⟨b,hb,by rw [e]; rfl⟩
theorem zs8{fp:List Addr}{h:Heap}{p:Addr×Obj}(hp:p∈zk2 fp h):p.1∈fp/\h.get? p.1=some p.2:=by
 obtain⟨b,hb,e⟩:=List.mem_filterMap.mp hp
 cases q:h.get? b with
 | none=>rw [q] at e; cases e
 | some o=>
  rw [q] at e
  have e':(b,o)=p:=Option.some.inj e
  subst e'
  exact⟨hb,q⟩
theorem Inv.pinned{pins:List (Addr×Obj)}{σ : St}{H:Hp}{s:Shared}{fp:List Addr}(I:Inv X pins σ H s)(hf:∀b∈fp,FpOk X pins H b)(ho:∀b∈fp,∃o,s.heap.get? b=some o/\∀v,o.data≠.cell v):Inv X (pins++zk2 fp s.heap) σ H s:=
 I.pins_of fun p hp=>(List.mem_append.mp hp).elim (fun z=>I.pin p (List.mem_append_right _ z)) fun z=>by
  obtain⟨hb,e⟩:=zs8 z
  obtain⟨f0,f1,f2,_⟩:=hf p.1 hb
  obtain⟨o,e',d⟩:=ho p.1 hb
  rw [e] at e'; cases e'
  exact⟨e,f0,f1,f2,d⟩
theorem Inv.unpinned{pins pl:List (Addr×Obj)}{σ : St}{H:Hp}{s:Shared}(I:Inv X (pins++pl) σ H s):Inv X pins σ H s:=I.pins_of fun p hp=>I.pin p (List.mem_append_right _ (List.mem_append_left _ hp))
theorem ze2{iter:Expr}{body:List Stmt}{wi:TI}{g:TG}{tb:TS}{pos:Pos}(hp:PassesOwn (model X.prog X.w) X.A X.env X.xe)(hc:X.calm=true)(hi:PI X tg iter wi)(hg:PG X tg g)(hb:PSs X body tb)
  (hs:∀x,foldedSetIterable iter X.env x=pure x:=by intro _; rfl):PS X (.For tg iter body [] pos) (zuc wi g tb):=by
 intro pins s σ H D I h
 refine wpAny_For (thn (hi pins s σ H _ I h) fun v s1 h1=>thn h1 fun itv s2 h2=>?_) hs
 obtain⟨it,fp,tn,J,H2,e,I2,T,st2,f2,W,⟨m0,w0⟩,turn⟩:=h2
 subst e
 have stat:∀{H':Hp},(∀b∈fp,H' b=none)->∀b∈fp,FpOk X pins H' b:=fun hn b hb=>⟨hn b hb,(f2 b hb).2⟩
 refine codeAny_forLoop_any (fun n s'=>∃i σ' H',Inv X pins σ' H' s'/\tn i s'.heap/\(∀b∈fp,H' b=none)/\W i n σ' H') ?_ m0 ⟨0,σ,H2,I2,st2,fun b hb=>(f2 b hb).1,w0⟩
 rintro n s3 ⟨i,σ3,H3,I3,st3,fr3,w3⟩
 rcases turn i n σ3 H3 w3 with⟨stop,qn⟩ | ⟨go,N,hN,step⟩
 ·refine wpAny_passesOwn hp (thn (T.done X rfl rfl rfl hc i pins s3 σ3 H3 X.xe I3 (stat fr3) st3 stop) fun r s4 ⟨hr,I4⟩=>?_)
  subst hr
  exact wpAny_execs_nil ⟨σ3,H3,I4,qn⟩
 ·refine wpAny_passesOwn hp (thn (T.item X rfl rfl rfl hc i pins s3 σ3 H3 X.xe I3 (stat fr3) st3 go) fun r s4 ⟨u,hr,h4⟩=>?_)
  subst hr
  refine wpAny_passesOwn hp (thn h4 fun _ s5 ⟨x,H5,I5,r5,y5,st5,fr5⟩=>?_)
  have I5':=I5.pinned (stat fr5) (T.obj _ _ st5)
  refine wpAny_passesOwn hp (thn (hg _ s5 σ3 H5 x u _ I5' r5 (step x H5 y5)) fun _ s6 ⟨σ6,H6,I6,q6⟩=>?_)
  refine wpAny_passesOwn hp (thn (hb _ s6 σ6 H6 _ I6 q6) fun f s7 q7=>?_)
  have again:∀{σ7:St} {H7:Hp},Inv X (pins++zk2 fp s5.heap) σ7 H7 s7->N σ7 H7->∃m,m < n/\∃i σ' H',Inv X pins σ' H' s7/\tn i s7.heap/\(∀b∈fp,H' b=none)/\W i m σ' H':=fun {σ7 H7} I7 n7=>by
   obtain⟨m',hm,w7⟩:=hN σ7 H7 n7
   refine⟨m',hm,i+1,σ7,H7,I7.unpinned,T.keep _ _ _ st5 fun b hb o e=>(I7.pin (b,o) (List.mem_append_right _ (List.mem_append_right _ (z9s hb e)))).1,fun b hb=>?_,w7⟩
   obtain⟨o,e,d⟩:=T.obj _ _ st5 b hb
   exact(I7.pin (b,o) (List.mem_append_right _ (List.mem_append_right _ (z9s hb e)))).2.1
  cases f with
  | next=>obtain⟨σ7,H7,I7,n7⟩:=q7; exact again I7 n7
  | cont=>obtain⟨σ7,H7,I7,n7⟩:=q7; exact again I7 n7
  | brk=>obtain⟨σ7,H7,I7,q7⟩:=q7; exact⟨σ7,H7,I7.unpinned,q7⟩
  | ret v=>obtain⟨x7,σ7,H7,I7,r7,q7⟩:=q7; exact⟨x7,σ7,H7,I7.unpinned,r7,q7⟩
end
theorem zw6{K:PySem.W.Frag}{a:Addr}{xs:List V}{g:TG}{tb:TS}{D:Ends}{σ : St}{H:Hp}(Pv:Nat->St->Hp->Prop)(h0:Pv 0 σ H)(hl:∀i σ H,i<=xs.length->Pv i σ H->SqL K H a xs)
  (hs:∀i x σ H,xs[i]?=some x->Pv i σ H->g x σ H fun σ2 H2=>tb {D with nx:=Pv (i+1),ct:=Pv (i+1),bk:=D.nx} σ2 H2) (hd:∀ σ H,Pv xs.length σ H->D.nx σ H) :
  ∃W:Nat->Nat->St->Hp->Prop,(∃m,W 0 m σ H)/\∀i m σ H,W i m σ H->
   ((Itl K a).stop i H/\D.nx σ H)\/((Itl K a).go i H/\∃N:St->Hp->Prop,(∀ σ' H',N σ' H'->∃m',m' < m/\W (i+1) m' σ' H')/\∀x H',(Itl K a).yld i H x H'->g x σ H' fun σ2 H2=>tb {D with nx:=N,ct:=N,bk:=D.nx} σ2 H2):=by
 refine⟨fun i m σ H=>m=xs.length - i/\i<=xs.length/\Pv i σ H,⟨xs.length,by simp,Nat.zero_le _,h0⟩,?_⟩
 rintro i m σ H ⟨rfl,hi,p⟩
 have q:=hl i σ H hi p
 by_cases hlt:i < xs.length
 ·refine .inr ⟨⟨xs,xs[i],q,by simp[hlt]⟩,Pv (i+1),fun σ' H' p'=>⟨xs.length - (i+1),by omega,rfl,hlt,p'⟩,fun x H' y=>?_⟩
  obtain⟨e,y⟩:=y
  subst e
  exact hs i x σ _ (y xs q) p
 ·have e:i=xs.length:=by omega
  subst e
  exact .inl ⟨⟨xs,q,Nat.le_refl _⟩,hd σ H p⟩
theorem zt2{K:PySem.W.Frag}{a:Addr}{xs:List V}{g:TG}{tb:TS}{D:Ends}{σ : St}{H:Hp}(Pv:Nat->St->Hp->Prop)(h0:Pv 0 σ H)(hl:∀i σ H,i<=xs.length->Pv i σ H->SqT K H a xs)
  (hs:∀i x σ H,xs[i]?=some x->Pv i σ H->g x σ H fun σ2 H2=>tb {D with nx:=Pv (i+1),ct:=Pv (i+1),bk:=D.nx} σ2 H2) (hd:∀ σ H,Pv xs.length σ H->D.nx σ H) :
  ∃W:Nat->Nat->St->Hp->Prop,(∃m,W 0 m σ H)/\∀i m σ H,W i m σ H->
   ((Itt K a).stop i H/\D.nx σ H)\/((Itt K a).go i H/\∃N:St->Hp->Prop,(∀ σ' H',N σ' H'->∃m',m' < m/\W (i+1) m' σ' H')/\∀x H',(Itt K a).yld i H x H'->g x σ H' fun σ2 H2=>tb {D with nx:=N,ct:=N,bk:=D.nx} σ2 H2):=by
 refine⟨fun i m σ H=>m=xs.length - i/\i<=xs.length/\Pv i σ H,⟨xs.length,by simp,Nat.zero_le _,h0⟩,?_⟩
 rintro i m σ H ⟨rfl,hi,p⟩
 have q:=hl i σ H hi p
 by_cases hlt:i < xs.length
 ·refine .inr ⟨⟨xs,xs[i],q,by simp[hlt]⟩,Pv (i+1),fun σ' H' p'=>⟨xs.length - (i+1),by omega,rfl,hlt,p'⟩,fun x H' y=>?_⟩
  obtain⟨e,y⟩:=y
  subst e
  exact hs i x σ _ (y xs q) p
 ·have e:i=xs.length:=by omega
  subst e
  exact .inl ⟨⟨xs,q,Nat.le_refl _⟩,hd σ H p⟩
theorem zt3{lo:Int}{n:Nat}{g:TG}{tb:TS}{D:Ends}{σ : St}{H:Hp}(Pv:Nat->St->Hp->Prop)(h0:Pv 0 σ H)
  (hs:∀i σ H,i < n->Pv i σ H->g (.int (lo+i)) σ H fun σ2 H2=>tb {D with nx:=Pv (i+1),ct:=Pv (i+1),bk:=D.nx} σ2 H2) (hd:∀ σ H,Pv n σ H->D.nx σ H) :
  ∃W:Nat->Nat->St->Hp->Prop,(∃m,W 0 m σ H)/\∀i m σ H,W i m σ H->
   ((Itr lo n).stop i H/\D.nx σ H)\/((Itr lo n).go i H/\∃N:St->Hp->Prop,(∀ σ' H',N σ' H'->∃m',m' < m/\W (i+1) m' σ' H')/\∀x H',(Itr lo n).yld i H x H'->g x σ H' fun σ2 H2=>tb {D with nx:=N,ct:=N,bk:=D.nx} σ2 H2):=by
 refine⟨fun i m σ H=>m=n - i/\i<=n/\Pv i σ H,⟨n,by simp,Nat.zero_le _,h0⟩,?_⟩
 rintro i m σ H ⟨rfl,hi,p⟩
 by_cases hlt:i < n
 ·refine .inr ⟨hlt,Pv (i+1),fun σ' H' p'=>⟨n - (i+1),by omega,rfl,hlt,p'⟩,fun x H' y=>?_⟩
  obtain⟨e,y⟩:=y
  subst e y
  exact hs i σ _ hlt p
 ·have e:i=n:=by omega
  subst e
  exact .inl ⟨Nat.le_refl _,hd σ H p⟩
end L2
namespace L2
open PySem PySem.Spec PyProof.Rows
abbrev R2:=V->V->Hp->VK->Prop
def OpR(X:Cx)(f:Value->Value->Sem Value)(r:R2):Prop:=
 ∀(pins:List (Addr×Obj)) (s:Shared) (σ : St) (H:Hp) (x y:V) (v u:Value) (Q:VK),Inv X pins σ H s->RelV x v->RelV y u->r x y H Q->
  wpAny (model X.prog X.w) X.A (f v u) (EP X pins σ Q) X.xe s
def UnR(X:Cx)(f:Value->Sem Value)(r:V->Hp->VK->Prop):Prop:=
 ∀(pins:List (Addr×Obj)) (s:Shared) (σ : St) (H:Hp) (x:V) (v:Value) (Q:VK),Inv X pins σ H s->RelV x v->r x H Q->
  wpAny (model X.prog X.w) X.A (f v) (EP X pins σ Q) X.xe s
def CallR(X:Cx)(f:Value)(r:List V->Hp->VK->Prop):Prop:=
 ∀(pins:List (Addr×Obj)) (s:Shared) (σ : St) (H:Hp) (xs:List V) (us:List Value) (Q:VK),Inv X pins σ H s->Vals xs us->r xs H Q->
  wpAny (model X.prog X.w) X.A (call f us) (EP X pins σ Q) X.xe s
def tOp(r:R2)(ta tb:TE):TE:=fun σ H Q=>ta σ H fun x H1=>tb σ H1 fun y H2=>r x y H2 Q
def tUn(r:V->Hp->VK->Prop)(ta:TE):TE:=fun σ H Q=>ta σ H fun x H1=>r x H1 Q
def rI(C:Int->Int->Prop)(g:Int->Int->V):R2:=fun x y H Q=>∃i j,x=.int i/\y=.int j/\C i j/\Q (g i j) H
def rI0(g:Int->Int->V):R2:=fun x y H Q=>∃i j,x=.int i/\y=.int j/\Q (g i j) H
def rU(g:Int->V):V->Hp->VK->Prop:=fun x H Q=>∃i,x=.int i/\Q (g i) H
section
variable{X:Cx}{a b c:Expr}{ta tb tc:TE}{pos:Pos}
theorem q3m(ha:PE X a ta)(hb:PE X b tb){pins:List (Addr×Obj)}{s:Shared}{σ : St}{H:Hp}{R:V->V->Hp->Prop}(I:Inv X pins σ H s)
  (h:ta σ H fun x H1=>tb σ H1 fun y H2=>R x y H2) {Q:Value->Shared->Prop} {f:Value->Value->Sem Value}
  (hf:∀v u s2 x y H2,Inv X pins σ H2 s2->RelV x v->RelV y u->R x y H2->wpAny (model X.prog X.w) X.A (f v u) Q X.xe s2) :
  wpAny (model X.prog X.w) X.A (eval a X.env) (fun v s₁=>wpAny (model X.prog X.w) X.A (eval b X.env) (fun u s₂=>wpAny (model X.prog X.w) X.A (f v u) Q X.xe s₂) X.xe s₁) X.xe s:=by
 refine thn (ha pins s σ H _ I h) fun v s1 ⟨x,H1,I1,r1,q1⟩=>?_
 refine thn (hb pins s1 σ H1 _ I1 q1) fun u s2 ⟨y,H2,I2,r2,q2⟩=>?_
 exact hf v u s2 x y H2 I2 r1 r2 q2
theorem z1n{op:Operator}{r:R2}(ho:OpR X (binaryOp op) r)(ha:PE X a ta)(hb:PE X b tb):PE X (.BinOp a op b pos) (tOp r ta tb):=by
 intro pins s σ H Q I h
 exact wpAny_BinOp (q3m ha hb I h fun v u s2 x y H2 I2 rx ry q=>ho pins s2 σ H2 x y v u Q I2 rx ry q)
theorem zv7{op:UnaryOp}{r:V->Hp->VK->Prop}(ho:UnR X (unaryOp op) r)(ha:PE X a ta):PE X (.UnaryOp op a pos) (tUn r ta):=by
 intro pins s σ H Q I h
 exact UnaryOp_ (thn (ha pins s σ H _ I h) fun v s1 ⟨x,H1,I1,r1,q1⟩=>ho pins s1 σ H1 x v Q I1 r1 q1)
theorem opI{f:Value->Value->Sem Value}{C:Int->Int->Prop}{g:Int->Int->Int}
  (rule:∀(i j:Int) (t u:Tok) (s:Shared) (Q:Value->Shared->Prop) (E:Value->Shared->Prop),C i j->Q (.int (g i j) s.toks) {s with toks:=s.toks+1}->wpAny (model X.prog X.w) X.A (f (.int i t) (.int j u)) Q E s) :
  OpR X f (rI C fun i j=>.int (g i j)):=by
 intro pins s σ H x y v u Q I rx ry h
 obtain⟨i,j,rfl,rfl,hc,q⟩:=h
 obtain⟨t,rfl⟩:=rx
 obtain⟨t',rfl⟩:=ry
 exact rule i j t t' s _ _ hc ⟨.int (g i j),H,I.tok _,⟨_,rfl⟩,q⟩
theorem q3z{f:Value->Value->Sem Value}{g:Int->Int->Int}
  (rule:∀(i j:Int) (t u:Tok) (s:Shared) (Q:Value->Shared->Prop) (E:Value->Shared->Prop),Q (.int (g i j) s.toks) {s with toks:=s.toks+1}->wpAny (model X.prog X.w) X.A (f (.int i t) (.int j u)) Q E s) :
  OpR X f (rI0 fun i j=>.int (g i j)):=by
 intro pins s σ H x y v u Q I rx ry h
 obtain⟨i,j,rfl,rfl,q⟩:=h
 obtain⟨t,rfl⟩:=rx
 obtain⟨t',rfl⟩:=ry
 exact rule i j t t' s _ _ ⟨.int (g i j),H,I.tok _,⟨_,rfl⟩,q⟩
theorem q2t{f:Value->Value->Sem Value}{g:Int->Int->Bool}
  (rule:∀(i j:Int) (t u:Tok) (s:Shared) (Q:Value->Shared->Prop) (E:Value->Shared->Prop),Q (.bool (g i j)) s->wpAny (model X.prog X.w) X.A (f (.int i t) (.int j u)) Q E s) :
  OpR X f (rI0 fun i j=>.bl (g i j)):=by
 intro pins s σ H x y v u Q I rx ry h
 obtain⟨i,j,rfl,rfl,q⟩:=h
 obtain⟨t,rfl⟩:=rx
 obtain⟨t',rfl⟩:=ry
 exact rule i j t t' s _ _ ⟨.bl (g i j),H,I,rfl,q⟩
def q51(i j:Int):Prop:=0 < j/\j < 1073741824
def q3r(i j:Int):Prop:=j≠0/\j.natAbs < 1073741824
def CMul(i j:Int):Prop:=(-(2 ^ 64) < i/\i < 2 ^ 64)\/(-(2 ^ 64) < j/\j < 2 ^ 64)
theorem CMul.ok{i j:Int}(h:CMul i j):IntMulOk i j:=by
 rcases h with⟨h1,h2⟩ | ⟨h1,h2⟩
 ·exact .of_left (intBits_le_64 h1 h2)
 ·exact .of_right (intBits_le_64 h1 h2)
theorem z5i:OpR X (binaryOp .Add) (rI0 fun i j=>.int (i+j)):=q3z fun _ _ _ _ _ _ _ q=>add_int q
theorem zk7:OpR X (binaryOp .Sub) (rI0 fun i j=>.int (i - j)):=q3z fun _ _ _ _ _ _ _ q=>sub_int q
theorem zae:OpR X (binaryOp .Mult) (rI CMul fun i j=>.int (i * j)):=opI fun _ _ _ _ _ _ _ hc q=>mul_int q hc.ok
theorem zyx:OpR X (binaryOp .FloorDiv) (rI q51 fun i j=>.int (i / j)):=opI fun i j _ _ _ _ _ hc q=>by
 have h1:(0:Int) < j:=hc.1
 have h2:j < 1073741824:=hc.2
 exact floordiv_int (by omega) (by rw [Int.fdiv_eq_ediv_of_nonneg i (by omega)]; exact q) (.inl (PyProof.noPylong_small (by omega)))
theorem zvh:OpR X (binaryOp .FloorDiv) (rI q3r fun i j=>.int (i.fdiv j)):=opI fun _ _ _ _ _ _ _ hc q=>floordiv_int hc.1 q (.inl (PyProof.noPylong_small hc.2))
theorem zoc:OpR X (binaryOp .Mod) (rI (fun _ j=>0 < j) fun i j=>.int (i % j)):=opI fun i j _ _ _ _ _ hc q=>by
 have h1:(0:Int) < j:=hc
 exact mod_int' (by omega) (by rw [Int.fmod_eq_emod_of_nonneg i (by omega)]; exact q)
theorem unI{f:Value->Sem Value}{g:Int->Int}
  (rule:∀(i:Int) (t:Tok) (s:Shared) (Q:Value->Shared->Prop) (E:Value->Shared->Prop),Q (.int (g i) s.toks) {s with toks:=s.toks+1}->wpAny (model X.prog X.w) X.A (f (.int i t)) Q E s) :
  UnR X f (rU fun i=>.int (g i)):=by
 intro pins s σ H x v Q I rx h
 obtain⟨i,rfl,q⟩:=h
 obtain⟨t,rfl⟩:=rx
 exact rule i t s _ _ ⟨.int (g i),H,I.tok _,⟨_,rfl⟩,q⟩
theorem znx:UnR X (unaryOp .USub) (rU fun i=>.int (-i)):=unI fun _ _ _ _ _ q=>neg_int q
end
def q2r:V->V->Bool
 | .non,.non=>true | .non,.int _=>true | .int _,.non=>true | .non,.bl _=>true | .bl _,.non=>true | .non,.str _=>true | .str _,.non=>true
 | .int _,.int _=>true | .bl _,.bl _=>true | .str _,.str _=>true | .byt _,.byt _=>true
 | .int _,.str _=>true | .str _,.int _=>true | .bl _,.str _=>true | .str _,.bl _=>true
 | _,_=>false
def rEq:R2:=fun x y H Q=>q2r x y=true/\Q (.bl (decide (x=y))) H
def rNe:R2:=fun x y H Q=>q2r x y=true/\Q (.bl (!decide (x=y))) H
theorem zth{i j:Int}:decide (V.int i=V.int j)=(i == j):=by
 rw [Bool.eq_iff_iff]
 simp
theorem zxh{i j:Bool}:decide (V.bl i=V.bl j)=(i == j):=by
 rw [Bool.eq_iff_iff]
 simp
theorem ztg{i j:Str}:decide (V.str i=V.str j)=(i == j):=by
 rw [Bool.eq_iff_iff]
 simp
theorem zti{i j:Array UInt8}:decide (V.byt i=V.byt j)=(i.toList == j.toList):=by
 rw [Bool.eq_iff_iff]
 cases i
 cases j
 simp
section
variable{X:Cx}{a b c:Expr}{ta tb tc:TE}{pos:Pos}
theorem z1q{pins:List (Addr×Obj)}{σ : St}{H:Hp}{s:Shared}{Q:VK}{k k':Bool}(I:Inv X pins σ H s)(q:Q (.bl k) H)(e:k=k'):EP X pins σ Q (.bool k') s:=by
 subst e
 exact⟨.bl k,H,I,rfl,q⟩
theorem q1f:OpR X (compareOp .Eq) rEq:=by
 intro pins s σ H x y v u Q I rx ry h
 obtain⟨hs,q⟩:=h
 cases x with
 | non=>
  cases rx
  cases y with
  | non=>cases ry; exact PySem.EqNone.eq_none_none (z1q I q (by simp))
  | bl j=>cases ry; exact PySem.EqNone.eq_none_bool (z1q I q (by simp))
  | int j=>obtain⟨t',rfl⟩:=ry; exact PySem.EqNone.eq_none_int (z1q I q (by simp))
  | str j=>obtain⟨t',rfl⟩:=ry; exact PySem.EqNone.eq_none_str (z1q I q (by simp))
  | _=>exact absurd (show false=true from hs) Bool.false_ne_true
 | bl i=>
  cases rx
  cases y with
  | non=>cases ry; exact PySem.EqNone.eq_bool_none (z1q I q (by simp))
  | bl j=>cases ry; exact eq_bool (z1q I q zxh)
  | str j=>obtain⟨t',rfl⟩:=ry; exact PySem.EqMixed.eq_bool_str (z1q I q (by simp))
  | _=>exact absurd (show false=true from hs) Bool.false_ne_true
 | int i=>
  obtain⟨t,rfl⟩:=rx
  cases y with
  | non=>cases ry; exact PySem.EqNone.eq_int_none (z1q I q (by simp))
  | int j=>obtain⟨t',rfl⟩:=ry; exact eq_int (z1q I q zth)
  | str j=>obtain⟨t',rfl⟩:=ry; exact PySem.EqMixed.eq_int_str (z1q I q (by simp))
  | _=>exact absurd (show false=true from hs) Bool.false_ne_true
 | str i=>
  obtain⟨t,rfl⟩:=rx
  cases y with
  | non=>cases ry; exact PySem.EqNone.eq_str_none (z1q I q (by simp))
  | bl j=>cases ry; exact PySem.EqMixed.eq_str_bool (z1q I q (by simp))
  | int j=>obtain⟨t',rfl⟩:=ry; exact PySem.EqMixed.eq_str_int (z1q I q (by simp))
  | str j=>obtain⟨t',rfl⟩:=ry; exact eq_str (z1q I q ztg)
  | _=>exact absurd (show false=true from hs) Bool.false_ne_true
 | byt i=>
  obtain⟨t,rfl⟩:=rx
  cases y with
  | byt j=>obtain⟨t',rfl⟩:=ry; exact PySem.W.eq_bytes (z1q I q zti)
  | _=>exact absurd (show false=true from hs) Bool.false_ne_true
 | _=>cases y<;>exact absurd (show false=true from hs) Bool.false_ne_true
theorem q1b:OpR X (compareOp .NotEq) rNe:=by
 intro pins s σ H x y v u Q I rx ry h
 obtain⟨hs,q⟩:=h
 cases x with
 | non=>
  cases rx
  cases y with
  | non=>cases ry; exact PySem.EqNone.ne_none_none (z1q I q (by simp))
  | bl j=>cases ry; exact PySem.EqNone.ne_none_bool (z1q I q (by simp))
  | int j=>obtain⟨t',rfl⟩:=ry; exact PySem.EqNone.ne_none_int (z1q I q (by simp))
  | str j=>obtain⟨t',rfl⟩:=ry; exact PySem.EqNone.ne_none_str (z1q I q (by simp))
  | _=>exact absurd (show false=true from hs) Bool.false_ne_true
 | bl i=>
  cases rx
  cases y with
  | non=>cases ry; exact PySem.EqNone.ne_bool_none (z1q I q (by simp))
  | bl j=>cases ry; exact ne_bool (z1q I q (congrArg not zxh))
  | str j=>obtain⟨t',rfl⟩:=ry; exact PySem.EqMixed.ne_bool_str (z1q I q (by simp))
  | _=>exact absurd (show false=true from hs) Bool.false_ne_true
 | int i=>
  obtain⟨t,rfl⟩:=rx
  cases y with
  | non=>cases ry; exact PySem.EqNone.ne_int_none (z1q I q (by simp))
  | int j=>obtain⟨t',rfl⟩:=ry; exact ne_int (z1q I q (congrArg not zth))
  | str j=>obtain⟨t',rfl⟩:=ry; exact PySem.EqMixed.ne_int_str (z1q I q (by simp))
  | _=>exact absurd (show false=true from hs) Bool.false_ne_true
 | str i=>
  obtain⟨t,rfl⟩:=rx
  cases y with
  | non=>cases ry; exact PySem.EqNone.ne_str_none (z1q I q (by simp))
  | bl j=>cases ry; exact PySem.EqMixed.ne_str_bool (z1q I q (by simp))
  | int j=>obtain⟨t',rfl⟩:=ry; exact PySem.EqMixed.ne_str_int (z1q I q (by simp))
  | str j=>obtain⟨t',rfl⟩:=ry; exact ne_str (z1q I q (congrArg not ztg))
  | _=>exact absurd (show false=true from hs) Bool.false_ne_true
 | byt i=>
  obtain⟨t,rfl⟩:=rx
  cases y with
  | byt j=>obtain⟨t',rfl⟩:=ry; exact PySem.W.ne_bytes (z1q I q (congrArg not zti))
  | _=>exact absurd (show false=true from hs) Bool.false_ne_true
 | _=>cases y<;>exact absurd (show false=true from hs) Bool.false_ne_true
theorem zvf:OpR X (compareOp .Lt) (rI0 fun i j=>.bl (decide (i < j))):=q2t fun _ _ _ _ _ _ _ q=>lt_int q
theorem q1c:OpR X (compareOp .LtE) (rI0 fun i j=>.bl (decide (i<=j))):=q2t fun _ _ _ _ _ _ _ q=>le_int q
theorem zvg:OpR X (compareOp .Gt) (rI0 fun i j=>.bl (decide (j < i))):=q2t fun _ _ _ _ _ _ _ q=>gt_int q
theorem q3e:OpR X (compareOp .GtE) (rI0 fun i j=>.bl (decide (j<=i))):=q2t fun _ _ _ _ _ _ _ q=>ge_int q
theorem zrw:OpR X (compareOp .Lt) (fun x y H Q=>∃i j,x=.str i/\y=.str j/\Q (.bl (decide (i.cps.toList < j.cps.toList))) H):=by
 intro pins s σ H x y v u Q I rx ry h
 obtain⟨i,j,rfl,rfl,q⟩:=h
 obtain⟨t,rfl⟩:=rx
 obtain⟨t',rfl⟩:=ry
 exact lt_str (z1q I q rfl)
theorem q1d:OpR X (compareOp .Is) (fun x y H Q=>y=.non/\Q (.bl (decide (x=.non))) H):=by
 intro pins s σ H x y v u Q I rx ry h
 obtain⟨rfl,q⟩:=h
 cases ry
 refine is_none_gen (z1q I q ?_)
 cases x<;>first
  | (cases rx; rfl)
  | (obtain⟨t,rfl⟩:=rx; rfl)
theorem zyu:OpR X (compareOp .IsNot) (fun x y H Q=>y=.non/\Q (.bl (!decide (x=.non))) H):=by
 intro pins s σ H x y v u Q I rx ry h
 obtain⟨rfl,q⟩:=h
 cases ry
 refine isnot_none_gen (z1q I q ?_)
 cases x<;>first
  | (cases rx; rfl)
  | (obtain⟨t,rfl⟩:=rx; rfl)
theorem OpR.or{f:Value->Value->Sem Value}{r r':R2}(h:OpR X f r)(h':OpR X f r'):OpR X f (fun x y H Q=>r x y H Q\/r' x y H Q):=by
 intro pins s σ H x y v u Q I rx ry q
 rcases q with q | q
 ·exact h pins s σ H x y v u Q I rx ry q
 ·exact h' pins s σ H x y v u Q I rx ry q
theorem z0j(b:Expr){op:CmpOp}(h:op≠.In:=by decide)(h2:op≠.NotIn:=by decide):behindInMarks op b=false:=by
 have e1:(op == CmpOp.In)=false:=by cases op<;>first | rfl | exact absurd rfl h
 have e2:(op == CmpOp.NotIn)=false:=by cases op<;>first | rfl | exact absurd rfl h2
 cases b<;>simp[behindInMarks,e1,e2]
theorem z97{op:CmpOp}{r:R2}(ho:OpR X (compareOp op) r)(ha:PE X a ta)(hb:PE X b tb)(hm:behindInMarks op b=false):PE X (.Compare a [op] [b] pos) (tOp r ta tb):=by
 intro pins s σ H Q I h
 exact wpAny_Compare1 (q3m ha hb I h fun v u s2 x y H2 I2 rx ry q=>ho pins s2 σ H2 x y v u Q I2 rx ry q) hm
def zlr(t:TE):TT:=fun σ H Q=>t σ H fun x H'=>∃k,x=.bl k/\Q k H'
theorem z0d{op:CmpOp}{r:R2}(ho:OpR X (compareOp op) r)(ha:PE X a ta)(hb:PE X b tb)(hm:behindInMarks op b=false):PT X (.Compare a [op] [b] pos) (zlr (tOp r ta tb)):=by
 intro pins s σ H Q I h
 refine wpAny_isTrue_Compare1 (thn (ha pins s σ H _ I h) fun v s1 ⟨x,H1,I1,r1,q1⟩=>thn (hb pins s1 σ H1 _ I1 q1) fun u s2 ⟨y,H2,I2,r2,q2⟩=>
  thn (ho pins s2 σ H2 x y v u _ I2 r1 r2 q2) fun c s3 ⟨z,H3,I3,r3,k,e,q3⟩=>?_) hm
 subst e
 cases r3
 exact wpAny_truthy_bool ⟨H3,I3,q3⟩
def zhu(r r':R2)(ta tb tc:TE):TE:=fun σ H Q=>ta σ H fun x H1=>tb σ H1 fun y H2=>r x y H2 fun z H3=>∃k,z=.bl k/\
 (if k=true then tc σ H3 fun w' H4=>r' y w' H4 Q else Q (.bl false) H3)
theorem zog:(sizeLine:Nat) < 2 ^ 63:=by rw [sizeLine_eq]; decide
theorem zxr{x:V}{us:List Value}(r:Vals [x] us):∃u,us=[u]/\RelV x u:=by
 cases r with
 | cons r1 r2=>cases r2; exact⟨_,rfl,r1⟩
theorem q0p{x y:V}{us:List Value}(r:Vals [x,y] us):∃u w',us=[u,w']/\RelV x u/\RelV y w':=by
 cases r with
 | cons r1 r2=>
  cases r2 with
  | cons r3 r4=>cases r4; exact⟨_,_,rfl,r1,r3⟩
theorem zcl(hc:X.calm=true):CallR X (.builtin "max") (fun xs H Q=>∃i j,xs=[.int i,.int j]/\Q (.int (if j > i then j else i)) H):=by
 intro pins s σ H xs us Q I r h
 obtain⟨i,j,rfl,q⟩:=h
 obtain⟨u,w',rfl,⟨t,rfl⟩,⟨t',rfl⟩⟩:=q0p r
 refine max_two_ints (I.ok.hd hc) fun h' tk k=>⟨_,H,I.kept k,?_,q⟩
 by_cases hj:j > i
 ·rw [if_pos hj,if_pos hj]; exact⟨_,rfl⟩
 ·rw [if_neg hj,if_neg hj]; exact⟨_,rfl⟩
theorem zck(hc:X.calm=true):CallR X (.builtin "min") (fun xs H Q=>∃i j,xs=[.int i,.int j]/\Q (.int (if j < i then j else i)) H):=by
 intro pins s σ H xs us Q I r h
 obtain⟨i,j,rfl,q⟩:=h
 obtain⟨u,w',rfl,⟨t,rfl⟩,⟨t',rfl⟩⟩:=q0p r
 refine min_two_ints (I.ok.hd hc) fun h' tk k=>⟨_,H,I.kept k,?_,q⟩
 by_cases hj:j < i
 ·rw [if_pos hj,if_pos hj]; exact⟨_,rfl⟩
 ·rw [if_neg hj,if_neg hj]; exact⟨_,rfl⟩
end
end L2
namespace L2
open PySem PySem.Spec PyProof.Rows
structure ObjM(h:Heap)(x dx C:Addr)(mA:Str->Option Value):Prop where
 obj:h.get? x=some (PySem.W.instObj C dx)
 ns:h.Ns1 dx mA
 ne:dx≠x
theorem zsk{h:Heap}{dx:Addr}{mA:Str->Option Value}(n:h.Ns1 dx mA):∃od,h.get? dx=some od/\∀name,PySem.W.lookIn name od=some (mA name):=by
 obtain⟨o,es,ep,ho,hd,hk,_,hm⟩:=n
 refine⟨o,ho,fun name=>?_⟩
 have e:=hm name
 unfold nsFind findBy at e
 rw [<- Array.find?_toList] at e
 unfold PySem.W.lookIn
 rw [hd]
 dsimp only
 split
 ·rename_i y q
  rw [q] at e
  exact congrArg some e
 ·rename_i q
  rw [q] at e
  have a:es.toList.any (·.refKey)=false:=by
   rw [List.any_eq_false]
   intro y hy
   obtain⟨z,t,hkey⟩:=hk y (Array.mem_toList_iff.mp hy)
   simp[DictEntry.refKey,hkey]
  have a':¬ es.toList.any (·.refKey)=true:=by rw [a]; exact Bool.false_ne_true
  rw [if_neg a']
  exact congrArg some e
theorem ObjM.look{h:Heap}{x dx C:Addr}{mA:Str->Option Value}(I:ObjM h x dx C mA):∃od,PySem.W.InstAt h x (PySem.W.instObj C dx) C (some od)/\∀name,PySem.W.lookIn name od=some (mA name):=
 let ⟨od,ho,hl⟩:=zsk I.ns
 ⟨od,⟨I.obj,rfl,rfl,ho⟩,hl⟩
section
variable{prog:Program}{w:World}{A:Around}{E:Value->Shared->Prop}{s:Shared}{K:PySem.W.Frag}{x dx C f:Addr}{mA:Str->Option Value}{name:Str}{v:Value}
theorem zzo{expr:Bool}{Q:Value->Shared->Prop}(X:K.In s.heap)(I:ObjM s.heap x dx C mA)(hg:PySem.W.plainGet K C name=true)(hh:PySem.W.hasDictIn K C=true)
  (ha:PySem.W.findIn K (.ref C) name=some none) (hv:mA name=some v) (hv':PySem.W.handedIn v=true) (h:Q v {s with toks:=s.toks+1}) :
  wpAny (model prog w) A (getAttr (.ref x) name expr) Q E s:=by
 obtain⟨od,J,hl⟩:=I.look
 exact PySem.W.get_value X J (PySem.W.plainGet_of hg).1 (PySem.W.findObj_own hh ha rfl (by rw [hl,hv])) hv' h
theorem zy4{ns:List Str}{Q:Unit->Shared->Prop}(X:K.In s.heap)(I:ObjM s.heap x dx C mA)
  (hs:PySem.W.findIn K (.ref C) "__setattr__" = some (some (.builtin "object.__setattr__"))) (hp:PySem.W.plainOver K C=true) (ht:PySem.W.takerIn K C name=some none) (hh:PySem.W.hasDictIn K C=true)
  (hw:PySem.Within mA ns) (hsz:ns.length<=sizeLine)
  (h:∀h',ObjM h' x dx C (fun y=>if y=name then some v else mA y)->Heap.SameBut dx s.heap h'->Q () {s with heap:=h',toks:=s.toks+2}) :
  wpAny (model prog w) A (setAttr (.ref x) name v) Q E s:=by
 obtain⟨od,J,hl⟩:=I.look
 refine PySem.W.set_plain X J hs (PySem.W.osa_open (s:={s with toks:=s.toks+1}) (r:=none) X J hp ht fun b=>?_)
 obtain⟨cd,hc,hd'⟩:=PySem.W.any_some hh
 have hx:s.heap.get? x=some ⟨.ref C,some dx,.plain,#[]⟩:=I.obj
 refine wpAny_bind (wpAny_pure (wpAny_bind (wpAny_bind (wpAny_loadPart hx (wpAny_bind (PySem.W.Looks.here (s:={s with toks:=s.toks+1}) (PySem.W.looks_clsIn X hc) ?_))))))
 rw [hd']
 refine wpAny_pure (a:=some dx) (wpAny_bind (wpAny_pure (wpAny_bind ?_)))
 refine wpAny_nsSet1 (s:={s with toks:=s.toks+1}) I.ns fun h' hn2 hs2=>?_
 obtain⟨oD,esD,epD,hoD,hdD,hcD⟩:=hn2.count (PySem.Within.cons name v hw)
 refine wpAny_bind (wpAny_lookBehind hoD (by rw [hdD]; exact pastItsLine_dict (Nat.le_trans hcD (by rw [List.length_cons]; omega))) ?_)
 exact wpAny_pure (h _ ⟨(hs2.2 _ (Ne.symm I.ne)).trans I.obj,hn2,I.ne⟩ hs2)
theorem zvr{R:Result->Shared->Prop}{vs:List Value}{kw:List (Str×Value)}(X:K.In s.heap)(hm:PySem.W.makesIn K C=true)
  (hi:PySem.W.findIn K (.ref C) "__init__" = some (some (.ref f))) (hf:PySem.W.typeIn K (.ref f)=some (.type "function"))
  (h:codeAny (model prog w) (A.under (.builtin "type.__call__" ⟨.ref C::vs,kw⟩)) (.call (.ref f) ⟨.ref (s.heap.objs.size+1)::vs,kw⟩) (PySem.W.InitBack (s.heap.objs.size+1) R)
   {s with heap:=(s.heap.push PySem.W.emptyDict).push (PySem.W.instObj C s.heap.objs.size)}) :
  codeAny (model prog w) A (.call (.ref C) ⟨vs,kw⟩) R s:=by
 obtain⟨hh,g,d,t,os⟩:=s
 exact PySem.W.make_core (PySem.W.makes_of X hm) (PySem.W.looks_findIn X hi) (fun self=>PySem.W.bind_fn X self hf) (.inl rfl) h
end
def zcn(f:Str)(v:V):List (Str×V)->List (Str×V)
 | []=>[(f,v)]
 | (g,x)::r=>if g=f then(g,v)::r else(g,x)::zcn f v r
theorem zg5(f g:Str)(v:V):∀fs:List (Str×V),(zcn f v fs).lookup g=if g=f then some v else fs.lookup g
 | []=>by
  show List.lookup g [(f,v)]=_
  by_cases h:g=f
  ·have hb:(g == f)=true:=beq_iff_eq.mpr h
   simp only[List.lookup,hb,if_pos h]
  ·have hb:(g == f)=false:=beq_eq_false_iff_ne.mpr h
   simp only[List.lookup,hb,if_neg h]
 | (k,x)::r=>by
  have ih:=zg5 f g v r
  rw [show zcn f v ((k,x)::r)=(if k=f then(k,v)::r else(k,x)::zcn f v r) from rfl]
  by_cases hk:k=f
  ·rw [if_pos hk]
   by_cases h:g=k
   ·have hb:(g == k)=true:=beq_iff_eq.mpr h
    simp only[List.lookup,hb,if_pos (h.trans hk)]
   ·have hb:(g == k)=false:=beq_eq_false_iff_ne.mpr h
    simp only[List.lookup,hb,if_neg (fun e:g=f=>h (e.trans hk.symm))]
  ·rw [if_neg hk]
   by_cases h:g=k
   ·have hb:(g == k)=true:=beq_iff_eq.mpr h
    simp only[List.lookup,hb,if_neg (fun e:g=f=>hk (h.symm.trans e))]
   ·have hb:(g == k)=false:=beq_eq_false_iff_ne.mpr h
    simp only[List.lookup,hb]
    exact ih
theorem zgg(f:Str)(v:V):∀fs:List (Str×V),f∈(zcn f v fs).map (·.1)/\∀g,g∈fs.map (·.1)->g∈(zcn f v fs).map (·.1)
 | []=>⟨by simp[zcn],fun g h=>by simp at h⟩
 | (k,x)::r=>by
  obtain⟨i1,i2⟩:=zgg f v r
  rw [show zcn f v ((k,x)::r)=(if k=f then(k,v)::r else(k,x)::zcn f v r) from rfl]
  by_cases hk:k=f
  ·rw [if_pos hk]
   subst hk
   exact⟨by simp,fun g h=>by simpa using h⟩
  ·rw [if_neg hk]
   refine⟨?_,fun g h=>?_⟩
   ·rw [List.map_cons]
    exact List.mem_cons_of_mem _ i1
   ·rw [List.map_cons] at h |-
    rcases List.mem_cons.mp h with e | e
    ·exact List.mem_cons.mpr (.inl e)
    ·exact List.mem_cons_of_mem _ (i2 g e)
theorem zgf(f:Str)(v:V):∀fs:List (Str×V),(zcn f v fs).length<=fs.length+1
 | []=>by simp[zcn]
 | (k,x)::r=>by
  have ih:=zgf f v r
  rw [show zcn f v ((k,x)::r)=(if k=f then(k,v)::r else(k,x)::zcn f v r) from rfl]
  by_cases hk:k=f
  ·rw [if_pos hk,List.length_cons,List.length_cons]; omega
  ·rw [if_neg hk,List.length_cons,List.length_cons]; omega
theorem RelO.some_of{v:V}{o:Option Value}(r:RelO (some v) o):∃u,o=some u/\RelV v u:=by
 cases o with
 | none=>exact(show False from r).elim
 | some u=>exact⟨u,rfl,r⟩
theorem zt1{v:V}{u:Value}(r:RelV v u):PySem.W.handedIn u=true:=by
 cases v with
 | non=>cases (show u=Value.none from r); rfl
 | bl b=>cases (show u=Value.bool b from r); rfl
 | int i=>obtain⟨t,e⟩:=(show ∃t,u=Value.int i t from r); cases e; rfl
 | str x=>obtain⟨t,e⟩:=(show ∃t,u=Value.str x t from r); cases e; rfl
 | byt b=>obtain⟨t,e⟩:=(show ∃t,u=Value.bytes b t from r); cases e; rfl
 | flt b=>obtain⟨t,e⟩:=(show ∃t,u=Value.float b t from r); cases e; rfl
 | ref a=>cases (show u=Value.ref a from r); rfl
 | ty n=>cases (show u=Value.type n from r); rfl
section
variable{P:Program}{w:World}{H H':Hp}{h h':Heap}{a C dx:Addr}{fs fs':List (Str×V)}
theorem zn1(hok:HOk P w H h)(e:H a=some (.ins C dx fs)):∃mA,ObjM h a dx C mA/\(∀f,RelO (fs.lookup f) (mA f))/\PySem.Within mA (fs.map (·.1))/\fs.length<=1000/\H dx=some (.own a):=by
 obtain⟨d,z,ne,ob,mA,n,r,q⟩:=(show ObjOk P w H h a (.ins C dx fs) from hok a _ e)
 exact⟨mA,⟨ob,n,ne⟩,r,q,z,d⟩
end
structure Cls(K:PySem.W.Frag)(C:Addr):Prop where
 pg:PySem.W.plainGet K C Str.empty=true
 hd:PySem.W.hasDictIn K C=true
 po:PySem.W.plainOver K C=true
 sa:PySem.W.findIn K (.ref C) "__setattr__" = some (some (.builtin "object.__setattr__"))
theorem Cls.get{K:PySem.W.Frag}{C:Addr}(c:Cls K C)(f:Str):PySem.W.plainGet K C f=true:=c.pg
def NoAttr(K:PySem.W.Frag)(C:Addr)(f:Str):Prop:=PySem.W.findIn K (.ref C) f=some none
theorem NoAttr.taker{K:PySem.W.Frag}{C:Addr}{f:Str}(n:NoAttr K C f):PySem.W.takerIn K C f=some none:=by
 unfold PySem.W.takerIn
 rw [show PySem.W.findIn K (.ref C) f=some none from n]
 rfl
structure Con(K:PySem.W.Frag)(C:Addr)(f:Str)(v:V)(u:Value):Prop where
 at_:PySem.W.findIn K (.ref C) f=some (some u)
 rel:RelV v u
 get:PySem.W.specialIn K u "__get__" = some none
 cp:PySem.W.copiedNames.contains f=false
structure Meth(K:PySem.W.Frag)(C:Addr)(m:Str)(f:Addr):Prop where
 at_:PySem.W.findIn K (.ref C) m=some (some (.ref f))
 fn:PySem.W.isFn K (.ref f)=true
 kp:PySem.W.keepIn K (.ref f)=true
section
variable{X:Cx}{pins:List (Addr×Obj)}{σ : St}{H:Hp}{s:Shared}{a C dx:Addr}{fs:List (Str×V)}{f:Str}{v:V}{A:Around}{E:Value->Shared->Prop}
theorem zqe{b:Bool}{Q:Value->Shared->Prop}(I:Inv X pins σ H s)(e:H a=some (.ins C dx fs))(c:Cls X.K C)(n:NoAttr X.K C f)(l:fs.lookup f=some v)
  (h:∀u s',Inv X pins σ H s'->RelV v u->Q u s'):wpAny (model X.prog X.w) A (getAttr (.ref a) f b) Q E s:=by
 obtain⟨mA,O,r,_,_,_⟩:=zn1 I.hok e
 obtain⟨u,hu,ru⟩:=RelO.some_of (v:=v) (o:=mA f) (by rw [<- l]; exact r f)
 exact zzo I.kIn O (c.get f) c.hd n hu (zt1 ru) (h u _ (I.tok _) ru)
theorem zpl{y:V}{u:Value}{Q:Unit->Shared->Prop}(I:Inv X pins σ H s)(e:H a=some (.ins C dx fs))(c:Cls X.K C)(n:NoAttr X.K C f)(hl:fs.length < 1000)(ry:RelV y u)
  (h:∀s',Inv X pins σ (upd H a (.ins C dx (zcn f y fs))) s'->Q () s'):wpAny (model X.prog X.w) A (setAttr (.ref a) f u) Q E s:=by
 obtain⟨mA,O,r,wi,_,ho⟩:=zn1 I.hok e
 have hz:(fs.map (·.1)).length<=sizeLine:=by rw [List.length_map,sizeLine_eq]; omega
 refine zy4 I.kIn O c.sa c.po n.taker c.hd wi hz fun h' O' sb=>h _ ?_
 have hd:∃o,h'.get? dx=some o:=let ⟨o,_,_,e',_⟩:=O'.ns; ⟨o,e'⟩
 refine I.write (x:=a) (e:=dx) (by rw [e]; exact True.intro) (.inr ho) (fun b q hb z=>(sb.2 b hb).trans z) hd ?_
 refine⟨by rw [z0a O.ne]; exact ho,?_,O.ne,O'.obj,_,O'.ns,fun g=>?_,fun g hg=>?_⟩
 ·have:=zgf f y fs; omega
 ·show RelO ((zcn f y fs).lookup g) (if g=f then some u else mA g)
  rw [zg5]
  by_cases q:g=f
  ·rw [if_pos q,if_pos q]; exact ry
  ·rw [if_neg q,if_neg q]; exact r g
 ·by_cases q:g=f
  ·rw [q]; exact(zgg f y fs).1
  ·refine(zgg f y fs).2 g (wi g fun z=>hg ?_)
   show(if g=f then some u else mA g)=none
   rw [if_neg q]; exact z
theorem Inv.made(I:Inv X pins σ H s):Inv X pins σ (upd (upd H s.heap.objs.size (.own (s.heap.objs.size+1))) (s.heap.objs.size+1) (.ins C s.heap.objs.size []))
  {s with heap:=(s.heap.push PySem.W.emptyDict).push (PySem.W.instObj C s.heap.objs.size)}:=by
 have e1:(s.heap.push PySem.W.emptyDict).get? s.heap.objs.size=some PySem.W.emptyDict:=Heap.get?_push_size s.heap rfl
 have e2:((s.heap.push PySem.W.emptyDict).push (PySem.W.instObj C s.heap.objs.size)).get? (s.heap.objs.size+1)=some (PySem.W.instObj C s.heap.objs.size):=by
  have:=Heap.get?_push_size (s.heap.push PySem.W.emptyDict) (o:=PySem.W.instObj C s.heap.objs.size) rfl
  rwa [Heap.size_push] at this
 have e3:(s.heap.push PySem.W.emptyDict).Ns s.heap.objs.size (fun _=>none):=⟨PySem.W.emptyDict,#[],_,e1,rfl,(fun e he=>absurd he (by simp)),fun _=>rfl⟩
 have I1:=I.laid (a:=s.heap.objs.size) (o:=.own (s.heap.objs.size+1)) (h':=s.heap.push PySem.W.emptyDict) (t':=s.toks) (fun b u q=>Heap.get?_push_of_some _ q) (Nat.le_refl _) ⟨_,e1⟩
 refine I1.laid (a:=s.heap.objs.size+1) (o:=.ins C s.heap.objs.size []) (t':=s.toks) (fun b u q=>Heap.get?_push_of_some _ q) (Nat.le_of_eq (Heap.size_push _ _)) ?_
 have ne:s.heap.objs.size≠s.heap.objs.size+1:=Nat.ne_of_lt (Nat.lt_succ_self _)
 refine⟨by rw [z0a ne,z01],Nat.zero_le _,ne,e2,fun _=>none,(Heap.Ns1.of_empty e3).at fun o q=>Heap.get?_push_of_some _ q,fun _=>True.intro,fun y hy=>absurd rfl hy⟩
theorem q07{prog:Program}{w:World}{env:Env}{e:Expr}{f:Str}{pos:Pos}{s:Shared}{Q:Value->Shared->Prop}(hb:attributeBase e f env (eval e env)=eval e env)
  (h:wpAny (model prog w) A (eval e env) (fun o s₁=>wpAny (model prog w) A (getAttr o f true) Q E s₁) E s):wpAny (model prog w) A (eval (.Attribute e f pos) env) Q E s:=
 Attribute_any_ h (by rw [arm_eval_Attribute,hb])
end
def q2q(K:PySem.W.Frag)(ta:TE)(f:Str):TE:=fun σ H Q=>ta σ H fun x H1=>∃a C dx fs v,x=.ref a/\H1 a=some (.ins C dx fs)/\Cls K C/\NoAttr K C f/\fs.lookup f=some v/\Q v H1
def q38(K:PySem.W.Frag)(ta tv:TE)(f:Str):TS:=fun D σ H=>tv σ H fun y H1=>ta σ H1 fun x H2=>∃a C dx fs,x=.ref a/\H2 a=some (.ins C dx fs)/\Cls K C/\NoAttr K C f/\fs.length < 1000/\
 D.nx σ (upd H2 a (.ins C dx (zcn f y fs)))
section
variable{X:Cx}{o e value:Expr}{f:Str}{pos pos' tpos:Pos}{ta tv:TE}
theorem zrr(he:PE X e ta)(hb:attributeBase e f X.env (eval e X.env)=eval e X.env):PE X (.Attribute e f pos) (q2q X.K ta f):=by
 intro pins s σ H Q I h
 refine q07 hb (thn (he pins s σ H _ I h) fun u s1 ⟨x,H1,I1,rx,a,C,dx,fs,v,ex,ea,c,n,l,q⟩=>?_)
 subst ex
 obtain rfl:u=Value.ref a:=rx
 exact zqe I1 ea c n l fun u' s2 I2 ru=>⟨v,H1,I2,ru,q⟩
theorem zrl(ha:PE X o ta)(hv:PE X value tv)(hs:swapsWith value (some (.Attribute o f pos')) pos.line X.env=pure false):PS X (.Assign [.Attribute o f pos'] value pos) (q38 X.K ta tv f):=by
 intro pins s σ H D I h
 refine plainObj_wpAny_Assign_Attribute (thn (hv pins s σ H _ I h) fun u s1 ⟨y,H1,I1,ry,q⟩=>thn (ha pins s1 σ H1 _ I1 q) fun ov s2 ⟨x,H2,I2,rx,a,C,dx,fs,ex,ea,c,n,l,q2⟩=>?_) hs
 subst ex
 obtain rfl:ov=Value.ref a:=rx
 exact zpl I2 ea c n l ry fun s3 I3=>⟨σ,_,I3,q2⟩
end
section
variable{X:Cx}{pins:List (Addr×Obj)}{σ : St}{H:Hp}{s:Shared}{A:Around}{E:Value->Shared->Prop}{Q:Value->Shared->Prop}{c:Value}{b:Bool}
inductive TyOf (K:PySem.W.Frag) (H:Hp):V->Value->Prop where
 | non:TyOf K H .non (.type "NoneType")
 | bl (x:Bool):TyOf K H (.bl x) (.type "bool")
 | int (i:Int):TyOf K H (.int i) (.type "int")
 | str (x:Str):TyOf K H (.str x) (.type "str")
 | flt (x:UInt64):TyOf K H (.flt x) (.type "float")
 | lst {a:Addr} {xs:List V} (e:H a=some (.lst xs)):TyOf K H (.ref a) (.type "list")
 | frz {a:Addr} {o:Obj} {xs:List V} (e:H a=some (.frz o (.lst xs))):TyOf K H (.ref a) (.type "list")
 | tup {a:Addr} {xs:List V} (e:H a=some (.tup xs)):TyOf K H (.ref a) (.type "tuple")
 | dK {a:Addr} {kvs:List (Key×V)} (e:H a=some (.dK kvs)):TyOf K H (.ref a) (.type "dict")
 | dT {a:Addr} {kvs:List (List Key×V)} (e:H a=some (.dT kvs)):TyOf K H (.ref a) (.type "dict")
 | ins {a C dx:Addr} {fs:List (Str×V)} (e:H a=some (.ins C dx fs)) (cl:Cls K C) (ha:PySem.W.findIn K (.ref C) "__class__" = some (some (.builtin "object.__class__")))
   (hn:PySem.W.specialIn K (.builtin "object.__class__") "__get__" = some (some (.builtin "getset_descriptor.__get__"))) (htk:PySem.W.takesIn K (.builtin "object.__class__")=some true)
   (hm:PySem.W.mroIn K C (.type "object")=some true):TyOf K H (.ref a) (.ref C)
theorem zsw{x:V}{u t:Value}(I:Inv X pins σ H s)(rx:RelV x u)(ty:TyOf X.K H x t)(e:PySem.W.kitOne X.K t c=some b)(h:∀tk,Q (.bool b) {s with toks:=tk}) :
  wpAny (model X.prog X.w) A (call (.builtin "isinstance") [u,c]) Q E s:=by
 cases ty with
 | non=>cases (show u=Value.none from rx); exact PySem.W.kia_one PySem.W.kitx_none I.kIn True.intro e (fun z=>nomatch z) h
 | bl y=>cases (show u=Value.bool y from rx); exact PySem.W.kia_one PySem.W.kitx_bool I.kIn True.intro e (fun z=>nomatch z) h
 | int i=>obtain⟨t,q⟩:=(show ∃t,u=Value.int i t from rx); cases q; exact PySem.W.kia_one PySem.W.kitx_int I.kIn True.intro e (fun z=>nomatch z) h
 | str y=>obtain⟨t,q⟩:=(show ∃t,u=Value.str y t from rx); cases q; exact PySem.W.kia_one PySem.W.kitx_str I.kIn True.intro e (fun z=>nomatch z) h
 | flt y=>obtain⟨t,q⟩:=(show ∃t,u=Value.float y t from rx); cases q; exact PySem.W.kia_one PySem.W.kitx_float I.kIn True.intro e (fun z=>nomatch z) h
 | @lst a xs ea=>
  cases (show u=Value.ref a from rx)
  obtain⟨_,_,n,_,h1⟩:=(show ObjOk X.prog X.w H s.heap a (.lst xs) from I.hok a _ ea)
  exact PySem.W.kia_one PySem.W.kitx_list I.kIn ⟨_,h1,rfl⟩ e (fun z=>nomatch z) h
 | @frz a ob xs ea=>
  cases (show u=Value.ref a from rx)
  obtain⟨_,_,_,n,_,h1⟩:=(show ObjOk X.prog X.w H s.heap a (.frz ob (.lst xs)) from I.hok a _ ea)
  exact PySem.W.kia_one PySem.W.kitx_list I.kIn ⟨_,h1,rfl⟩ e (fun z=>nomatch z) h
 | @tup a xs ea=>
  cases (show u=Value.ref a from rx)
  obtain⟨_,_,_,p⟩:=(show ObjOk X.prog X.w H s.heap a (.tup xs) from I.hok a _ ea)
  obtain⟨o,h1,h2,_⟩:=p
  exact PySem.W.kia_one PySem.W.kitx_tuple I.kIn ⟨o,h1,h2⟩ e (fun z=>nomatch z) h
 | @dK a kvs ea=>
  cases (show u=Value.ref a from rx)
  obtain⟨_,_,vs,_,p⟩:=(show ObjOk X.prog X.w H s.heap a (.dK kvs) from I.hok a _ ea)
  obtain⟨o,es,ep,h1,h2,_⟩:=p
  exact PySem.W.kia_one PySem.W.kitx_dict I.kIn ⟨o,h1,h2.1⟩ e (fun z=>nomatch z) h
 | @dT a kvs ea=>
  cases (show u=Value.ref a from rx)
  obtain⟨_,_,xs,_,o,es,ep,h1,h2,_⟩:=(show ObjOk X.prog X.w H s.heap a (.dT kvs) from I.hok a _ ea)
  exact PySem.W.kia_one PySem.W.kitx_dict I.kIn ⟨o,h1,h2.1⟩ e (fun z=>nomatch z) h
 | @ins a C dx fs ea cl ha hn htk hm=>
  cases (show u=Value.ref a from rx)
  obtain⟨mA,O,_⟩:=zn1 I.hok ea
  obtain⟨od,J,_⟩:=O.look
  exact PySem.W.kia_one (PySem.W.kitx_own (cl.get _) cl.hd ha hn htk hm) I.kIn J e (fun z=>nomatch z) h
end
end L2
namespace L2
open PySem PySem.Spec PyProof.Rows
structure Room(k:Nat)(A:Around):Prop where
 hd:A.handled=none
 dp:A.depth+3 * k+5 < recursionLimit
 un:A.units+16 * k+200 < cLine
theorem Room.mono{j k:Nat}{A:Around}(r:Room k A)(h:j<=k):Room j A:=⟨r.hd,by have:=r.dp; omega,by have:=r.un; omega⟩
theorem Room.deeper{k:Nat}{A:Around}(r:Room (k+1) A)(env:Env):Room k (A.deeper env):=
 ⟨r.hd,by have:=r.dp; show A.depth+1+3 * k+5 < _; omega,by have:=r.un; show A.units+3+16 * k+200 < _; omega⟩
theorem zq7{A:Around}{C:Addr}{us:List Value}{kw:List (Str×Value)}:(A.under (.builtin "type.__call__" ⟨.ref C::us,kw⟩)).depth=A.depth+1:=by
 first | rfl | simp[Around.under,Code.weight,Code.isCreation,Code.isGuard,Code.isCaller,Code.frames,Code.isFrame,guardIds]
theorem zq6{A:Around}{C:Addr}{us:List Value}{kw:List (Str×Value)}:(A.under (.builtin "type.__call__" ⟨.ref C::us,kw⟩)).units=A.units+1:=by
 first | rfl | simp[Around.under,Code.cUnits,Code.frames,Code.isFrame]
theorem Room.make{k:Nat}{A:Around}(r:Room (k+1) A)(C:Addr)(us:List Value)(kw:List (Str×Value)):Room k (A.under (.builtin "type.__call__" ⟨.ref C::us,kw⟩)):=
 ⟨r.hd,by have:=r.dp; rw [zq7]; omega,by have:=r.un; rw [zq6]; omega⟩
theorem Room.depth{k:Nat}{A:Around}(r:Room k A):A.depth < recursionLimit:=by have:=r.dp; omega
theorem Room.units{k:Nat}{A:Around}(r:Room k A):A.units+64 < cLine:=by have:=r.un; omega
def zuo:TA:=fun _ H Q=>Q [] H
def zbj(ta:TE)(tr:TA):TA:=fun σ H Q=>ta σ H fun x H1=>tr σ H1 fun xs H2=>Q (x::xs) H2
section
variable{X:Cx}{e:Expr}{es:List Expr}{te:TE}{t:TA}{pos:Pos}
theorem z03:PA X [] zuo:=fun _ _ _ _ H Q I h=>Calls.spliced_nil ⟨[],H,I,.nil,h⟩
theorem zyt(ha:PE X e te)(hr:PA X es t)(hs:starEach (e::es) X.env=(false,eval e X.env)::starEach es X.env:=by rfl):PA X (e::es) (zbj te t):=by
 intro pos pins s σ H Q I h
 rw [hs]
 show wpAny _ _ (spliced ((false,eval e X.env)::backTo pos (starEach es X.env))) _ _ s
 refine Calls.spliced_cons (thn (ha pins s σ H _ I h) fun u s1 ⟨x,H1,I1,r1,q1⟩=>?_)
 exact thn (hr pos pins s1 σ H1 _ I1 q1) fun us s2 ⟨xs,H2,I2,r2,q2⟩=>⟨x::xs,H2,I2,.cons r1 r2,q2⟩
def zxu(t:TA):TE:=fun σ H Q=>t σ H fun xs H1=>xs.length<=sizeLine/\∀p,H1 p=none->Q (.ref p) (upd H1 p (.tup xs))
def zxx(t:TA):TE:=fun σ H Q=>t σ H fun xs H1=>xs.length<=sizeLine/\∀p,H1 p=none->Q (.ref p) (upd H1 p (.lst xs))
theorem z1a{x1}(h:PA X es t):PE X (.Tuple es x1 pos) (zxu t):=by
 intro pins s σ H Q I hq
 refine wpAny_Tuple_spliced (thn (h pos pins s σ H _ I hq) fun us s1 ⟨xs,H1,I1,r,z,q⟩=>⟨by rw [<- r.length]; exact z,?_⟩)
 have hf:H1 s1.heap.objs.size=none:=I1.hok.fresh (Nat.le_refl _)
 refine⟨.ref s1.heap.objs.size,upd H1 s1.heap.objs.size (.tup xs),I1.laid (t':=s1.toks) (fun b u e=>Heap.get?_push_of_some _ e) (Nat.le_refl _) ?_,rfl,q _ hf⟩
 exact⟨z,us,r,⟨_,Heap.get?_push_size _ rfl,rfl,_,rfl⟩⟩
theorem z95(h:PA X es t):PE X (.List es pos) (zxx t):=by
 intro pins s σ H Q I hq
 refine wpAny_List_spliced (thn (h pos pins s σ H _ I hq) fun us s1 ⟨xs,H1,I1,r,z,q⟩=>⟨by rw [<- r.length]; exact z,?_⟩)
 have hf:H1 s1.heap.objs.size=none:=I1.hok.fresh (Nat.le_refl _)
 refine⟨.ref s1.heap.objs.size,upd H1 s1.heap.objs.size (.lst xs),I1.laid (t':=s1.toks) (fun b u e=>Heap.get?_push_of_some _ e) (Nat.le_refl _) ?_,rfl,q _ hf⟩
 exact⟨z,us,0,r,Heap.get?_push_size _ rfl⟩
end
abbrev Sp:=List V->Hp->VK->XK->Prop
abbrev CXT:=List Env->Hp->Shared->XK->Value->Shared->Prop
structure Env0(P:Program)(w:World)(K:PySem.W.Frag)(mg:Str->Option Value)(base:Heap)(A:Around)(outer:List Env)(s:Shared)(H:Hp):Prop where
 frames:A.frames=some outer
 mod:Mod K mg base
 bs:∀b o,base.get? b=some o->s.heap.get? b=some o/\H b=none
 bsz:base.objs.size<=s.heap.objs.size
 funs:s.heap.FunFrames base outer
 frf:∀b∈frs outer,H b=none
 hok:HOk P w H s.heap
 bare:AllBare s.gens
def CE(outer:List Env)(P:Program)(w:World)(H:Hp)(s:Shared)(Q:VK)(u:Value)(s':Shared):Prop:=
 ∃v H',s'.os=s.os/\AllBare s'.gens/\Un (frs outer) [] H H' s.heap s'.heap/\HOk P w H' s'.heap/\RelV v u/\Q v H'
def CR(CX:CXT)(outer:List Env)(P:Program)(w:World)(H:Hp)(s:Shared)(Q:VK)(E:XK)(r:Result)(s':Shared):Prop:=
 match r with
 | .ok (.ret u)=>CE outer P w H s Q u s'
 | .ok _=>False
 | .error e=>CX outer H s E e s'
structure FnOk(P:Program)(w:World)(K:PySem.W.Frag)(mg:Str->Option Value)(base:Heap)(CX:CXT)(k:Nat)(f:Addr)(fd:FuncData)(ps:List Str)(sp:Sp):Prop where
 len:∀vs H Q E,sp vs H Q E->vs.length=ps.length
 run:∀(A:Around) (outer:List Env) (s:Shared) (H:Hp) (args:Args) (us:List Value) (vs:List V) (Q:VK) (E:XK),Room k A->Env0 P w K mg base A outer s H->BindsTo s fd args (ps.zip us)->Vals vs us->sp vs H Q E->
  codeAny (model P w) A (.call (.ref f) args) (CR CX outer P w H s Q E) s
theorem FnOk.imp{P:Program}{w:World}{K:PySem.W.Frag}{mg:Str->Option Value}{base:Heap}{CX:CXT}{k:Nat}{f:Addr}{fd:FuncData}{ps:List Str}{sp sp':Sp}(F:FnOk P w K mg base CX k f fd ps sp)
  (h:∀vs H Q E,sp' vs H Q E->sp vs H Q E):FnOk P w K mg base CX k f fd ps sp':=
 ⟨fun vs H Q E q=>F.len vs H Q E (h _ _ _ _ q),fun A outer s H args us vs Q E hr he hb hv hs=>F.run A outer s H args us vs Q E hr he hb hv (h _ _ _ _ hs)⟩
theorem Env0.make{P:Program}{w:World}{K:PySem.W.Frag}{mg:Str->Option Value}{base:Heap}{A:Around}{outer:List Env}{s:Shared}{H:Hp}(e:Env0 P w K mg base A outer s H)(C:Addr)(us:List Value)(kw:List (Str×Value)) :
  Env0 P w K mg base (A.under (.builtin "type.__call__" ⟨.ref C::us,kw⟩)) outer s H:=⟨by first | exact e.frames | (simpa [Around.under,Code.envs,Code.isFrame,pushEnvs] using e.frames),e.mod,e.bs,e.bsz,e.funs,e.frf,e.hok,e.bare⟩
section
variable{X:Cx}{pins:List (Addr×Obj)}{σ : St}{H:Hp}{s s':Shared}
theorem Inv.env0(I:Inv X pins σ H s):Env0 X.prog X.w X.K X.mg X.base X.A X.stack s H:=
 ⟨I.ok.frames,I.ok.mod,I.bs,Nat.le_trans I.ok.bsz I.sz,I.stack,I.stkFree,I.hok,I.bare⟩
theorem Inv.after{Q:VK}{u:Value}(I:Inv X pins σ H s)(h:CE X.stack X.prog X.w H s Q u s'):EP X pins σ Q u s':=by
 obtain⟨v,H',os,bare,un,hok,r,q⟩:=h
 obtain⟨hh,g,d,t,os'⟩:=s'
 obtain rfl:os'=s.os:=os
 exact⟨v,H',I.call (h':=hh) (g':=g) (d':=d) (t':=t) (ch:=[]) un hok bare (fun b z=>absurd z (by simp)),r,q⟩
end
def zju(sp:Sp)(dvs:List V)(E:XK)(t:TA):TE:=fun σ H Q=>t σ H fun vs H1=>sp (vs++dvs) H1 Q E
def zup(C:Addr)(sp:Sp)(dvs:List V)(E:XK)(t:TA):TE:=fun σ H Q=>t σ H fun vs H1=>∀x dx,H1 x=none->H1 dx=none->dx≠x->
 sp (.ref x::(vs++dvs)) (upd (upd H1 dx (.own x)) x (.ins C dx [])) (fun v H2=>v=.non/\Q (.ref x) H2) E
def Binds(K:PySem.W.Frag)(fd:FuncData)(ps:List Str)(ds:List Value):Prop:=
 ∀(s:Shared) (us:List Value),K.In s.heap->(us++ds).length=ps.length->BindsTo s fd ⟨us,[]⟩ (ps.zip (us++ds))
theorem Binds.all{K:PySem.W.Frag}{fd:FuncData}{ps:List Str}(h:∀us:List Value,us.length=ps.length->bindArgs fd ⟨us,[]⟩=pure (ps.zip us)):Binds K fd ps []:=fun s us _ hl=>by
 rw [List.append_nil] at hl |-
 exact .of_eq (h us hl)
def zub(CX:CXT)(X:Cx)(E:XK):Prop:=∀(pins:List (Addr×Obj)) (σ : St) (H:Hp) (s:Shared) (e:Value) (s':Shared),Inv X pins σ H s->CX X.stack H s E e s'->X.xe e s'
section
variable{X:Cx}{CX:CXT}{k:Nat}{f C:Addr}{fd:FuncData}{ps:List Str}{sp:Sp}{dvs:List V}{ds:List Value}{E:XK}{x m:Str}{p pos apos:Pos}{e o:Expr}{es:List Expr}{ta:TE}{t:TA}
theorem zwz{pins:List (Addr×Obj)}{σ : St}{H:Hp}{s:Shared}{Q:VK}{us:List Value}{vs:List V}(F:FnOk X.prog X.w X.K X.mg X.base CX k f fd ps sp)(hr:Room k X.A)(hb:Binds X.K fd ps ds)(hd:Vals dvs ds)(hx:zub CX X E)
  (I:Inv X pins σ H s) (r:Vals vs us) (h:sp (vs++dvs) H Q E):wpAny (model X.prog X.w) X.A (call (.ref f) us) (EP X pins σ Q) X.xe s:=by
 have r2:Vals (vs++dvs) (us++ds):=r.append hd
 have hl:(us++ds).length=ps.length:=by rw [<- r2.length]; exact F.len _ _ _ _ h
 refine wpAny_call (codeAny_mono (F.run X.A X.stack s H ⟨us,[]⟩ (us++ds) (vs++dvs) Q E hr I.env0 (hb s us I.kIn hl) r2 h) fun r s' hq=>?_)
 cases r with
 | error e=>exact hx pins σ H s e s' I hq
 | ok fl=>
  cases fl with
  | ret u=>exact I.after hq
  | next=>exact False.elim hq
  | brk=>exact False.elim hq
  | cont=>exact False.elim hq
structure Mk(K:PySem.W.Frag)(C f:Addr):Prop where
 makes:PySem.W.makesIn K C=true
 init:PySem.W.findIn K (.ref C) "__init__" = some (some (.ref f))
 fn:PySem.W.isFn K (.ref f)=true
 kp:PySem.W.keepIn K (.ref C)=true
theorem zuw{pins:List (Addr×Obj)}{σ : St}{H:Hp}{s:Shared}{Q:VK}{us:List Value}{vs:List V}(M:Mk X.K C f)(F:FnOk X.prog X.w X.K X.mg X.base CX k f fd ps sp)(hr:Room (k+1) X.A)(hb:Binds X.K fd ps ds)(hd:Vals dvs ds)
  (hx:zub CX X E) (I:Inv X pins σ H s) (r:Vals vs us)
  (h:∀x dx,H x=none->H dx=none->dx≠x->sp (.ref x::(vs++dvs)) (upd (upd H dx (.own x)) x (.ins C dx [])) (fun v H2=>v=.non/\Q (.ref x) H2) E) :
  wpAny (model X.prog X.w) X.A (call (.ref C) us) (EP X pins σ Q) X.xe s:=by
 have hq:=h (s.heap.objs.size+1) s.heap.objs.size (I.hok.fresh (Nat.le_succ _)) (I.hok.fresh (Nat.le_refl _)) (Nat.ne_of_lt (Nat.lt_succ_self _))
 have I2:=Inv.made (C:=C) I
 have r2:Vals (V.ref (s.heap.objs.size+1)::(vs++dvs)) (Value.ref (s.heap.objs.size+1)::(us++ds)):=.cons rfl (r.append hd)
 have hl:(Value.ref (s.heap.objs.size+1)::us++ds).length=ps.length:=by
  have e:=r2.length
  rw [F.len _ _ _ _ hq] at e
  exact e.symm
 refine wpAny_call (zvr (f:=f) I.kIn M.makes M.init (beq_iff_eq.mp M.fn) (codeAny_mono (F.run _ X.stack _ _ ⟨Value.ref (s.heap.objs.size+1)::us,[]⟩ (Value.ref (s.heap.objs.size+1)::(us++ds)) _ _ E (hr.make C us [])
  (I2.env0.make C us []) (hb _ (Value.ref (s.heap.objs.size+1)::us) I2.kIn hl) r2 hq) fun r s' hq'=>?_))
 cases r with
 | error e=>exact hx pins σ _ _ e s' I2 hq'
 | ok fl=>
  cases fl with
  | ret u=>
   obtain⟨v,H',I3,rv,ev,q3⟩:=I2.after hq'
   subst ev
   exact⟨rv,⟨V.ref (s.heap.objs.size+1),H',I3,rfl,q3⟩⟩
  | next=>exact False.elim hq'
  | brk=>exact False.elim hq'
  | cont=>exact False.elim hq'
theorem zyq(M:Mk X.K C f)(F:FnOk X.prog X.w X.K X.mg X.base CX k f fd ps sp)(hr:Room (k+1) X.A)(hg:Gl X x)(hm:X.mg x=some (.ref C))(hb:Binds X.K fd ps ds)(hd:Vals dvs ds)(hx:zub CX X E)
  (ha:PA X (e::es) t) (hdb:(x == ("__debug__" : Str))=false:=by decide) (he:starEach (e::es) X.env=(false,eval e X.env)::starEach es X.env:=by rfl) (hpl:(backTo pos (starEach es X.env)).any (·.1)=false:=by rfl) :
  PE X (.Call (.Name x p) (e::es) [] pos) (zup C sp dvs E t):=by
 intro pins s σ H Q I h
 refine wpAny_Call_Name_kw (ziy I hg hm ?_ hdb)
 refine PySem.W.callWith_K (h₀:=X.base) I.ok.mod.kin M.kp (thn (ha pos pins s σ H _ I h) fun us s1 ⟨vs,H1,I1,r,q⟩=>⟨I1.kIn,?_⟩) he hpl
 exact zuw M F hr hb hd hx I1 r q
end
section
variable{X:Cx}{CX:CXT}{k:Nat}{f C:Addr}{fd:FuncData}{ps ks:List Str}{sp:Sp}{E:XK}{x m:Str}{p pos apos kpos:Pos}{e o:Expr}{es:List Expr}{kws:List Keyword}{te ta:TE}{t tk:TA}{nm:Option Str}
structure KBinds(K:PySem.W.Frag)(fd:FuncData)(ps ks:List Str)(g:List Value->List Value->List Value)(gV:List V->List V->List V):Prop where
 to:∀(s:Shared) (us ws:List Value),K.In s.heap->(g us ws).length=ps.length->BindsTo s fd ⟨us,ks.zip ws⟩ (ps.zip (g us ws))
 rel:∀{vs:List V} {us:List Value} {zs:List V} {ws:List Value},Vals vs us->Vals zs ws->Vals (gV vs zs) (g us ws)
variable{g:List Value->List Value->List Value}{gV:List V->List V->List V}
end
structure FnScope(N P:List Str)(sc:Scope):Prop where
 kind:sc.kind=.function
 co:sc.isCoroutine=false
 gen:sc.isGenerator=false
 nd:N.Nodup
 pre:N.take P.length=P
 par:∀x∈P,sc.names.lookup x=some .local\/sc.names.lookup x=some .cell
 nofree:∀y∈sc.names,y.2≠.free
theorem zli{kindOf:Str->Option NameKind}{x:Str}:∀{binds:List (Str×Value)} {m:Str->Option Value},(∀v,(x,v)∉binds)->bindL kindOf binds m x=m x
 | [],_,_=>rfl
 | (n,v)::r,m,h=>by
  unfold bindL
  rw [zli fun w hw=>h w (List.mem_cons_of_mem _ hw)]
  split
  ·have:x≠n:=by rintro rfl; exact h v List.mem_cons_self
   simp[this]
  ·rfl
theorem zlk{kindOf:Str->Option NameKind}{x:Str}:∀{binds:List (Str×Value)} {m:Str->Option Value},(∀v,(x,v)∉binds)->bindC kindOf binds m x=m x
 | [],_,_=>rfl
 | (n,v)::r,m,h=>by
  unfold bindC
  rw [zlk fun w hw=>h w (List.mem_cons_of_mem _ hw)]
  split
  ·rfl
  ·have:x≠n:=by rintro rfl; exact h v List.mem_cons_self
   simp[this]
theorem zlj{kindOf:Str->Option NameKind}{x:Str}{v:Value}:∀{P:List Str} {vs:List Value} {i:Nat} {m:Str->Option Value},P.Nodup->P[i]?=some x->vs[i]?=some v->kindOf x=some .local->
  bindL kindOf (P.zip vs) m x=some v
 | [],_,_,_,_,h,_,_=>by simp at h
 | _::_,[],_,_,_,_,h,_=>by simp at h
 | p::P,w::vs,0,m,nd,h1,h2,hk=>by
  simp at h1 h2; subst h1; subst h2
  show bindL kindOf ((p,w)::P.zip vs) m p=_
  unfold bindL
  rw [zli fun v hv=>(List.nodup_cons.mp nd).1 (List.of_mem_zip hv).1,if_pos hk]
  simp
 | p::P,w::vs,i+1,m,nd,h1,h2,hk=>by
  show bindL kindOf ((p,w)::P.zip vs) m x=_
  unfold bindL
  exact zlj (i:=i) (List.nodup_cons.mp nd).2 (by simpa using h1) (by simpa using h2) hk
theorem zll{kindOf:Str->Option NameKind}{x:Str}{v:Value}:∀{P:List Str} {vs:List Value} {i:Nat} {m:Str->Option Value},P.Nodup->P[i]?=some x->vs[i]?=some v->kindOf x≠some .local->
  bindC kindOf (P.zip vs) m x=some v
 | [],_,_,_,_,h,_,_=>by simp at h
 | _::_,[],_,_,_,_,h,_=>by simp at h
 | p::P,w::vs,0,m,nd,h1,h2,hk=>by
  simp at h1 h2; subst h1; subst h2
  show bindC kindOf ((p,w)::P.zip vs) m p=_
  unfold bindC
  rw [zlk fun v hv=>(List.nodup_cons.mp nd).1 (List.of_mem_zip hv).1,if_neg hk]
  simp
 | p::P,w::vs,i+1,m,nd,h1,h2,hk=>by
  show bindC kindOf ((p,w)::P.zip vs) m x=_
  unfold bindC
  exact zll (i:=i) (List.nodup_cons.mp nd).2 (by simpa using h1) (by simpa using h2) hk
def start(N:List Str)(vs:List V):St:=vs.map some++List.replicate (N.length - vs.length) none
def zjr(CX:CXT)(P:Program)(w:World)(K:PySem.W.Frag)(mg:Str->Option Value)(base:Heap)(N:List Str)(qual:Str)(scope:Scope)(f:Addr)(cd:Value)(A:Around)(outer:List Env)(s:Shared)(H:Hp)(E:XK):Cx where
 prog:=P
 w:=w
 K:=K
 mg:=mg
 base:=base
 A:=A.deeper (envOfC qual scope s.heap.objs.size f cd)
 N:=N
 s₀:=s
 H₀:=H
 env:=envOfC qual scope s.heap.objs.size f cd
 outer:=outer
 stack:=envOfC qual scope s.heap.objs.size f cd::outer
 ex:=[]
 calm:=true
 fn:=fun _=>true
 pn:=[]
 xe:=fun e s'=>wpAny (model P w) (A.deeper (envOfC qual scope s.heap.objs.size f cd)) (leaving (envOfC qual scope s.heap.objs.size f cd) e) (fun _ s''=>CX outer H s E e s'') (fun e' s''=>CX outer H s E e' s'') s'
theorem zoz{sc:Scope}{n:Nat}{x:Str}(h:sc.names.lookup x=some .cell):∃c,(cellsFrom n sc.names []).lookup x=some c:=by
 have q:=PySem.W.cellsFrom_some sc.names n [] (.inl h)
 exact Option.isSome_iff_exists.mp q
theorem zsx{CX:CXT}{P:Program}{w:World}{K:PySem.W.Frag}{mg:Str->Option Value}{base:Heap}{N ps:List Str}{qual:Str}{scope:Scope}{f:Addr}{cd:Value}{A:Around}{outer:List Env}{s s1:Shared}{H:Hp}{E:XK}{us:List Value}{vs:List V}
  (S:FnScope N ps scope) (hd:A.handled=none) (e0:Env0 P w K mg base A outer s H) (hl:vs.length=ps.length) (r:Vals vs us)
  (x:InCallC s s.heap.objs.size (bindL (envOfC qual scope s.heap.objs.size f cd).kindOf (ps.zip us) fun _=>none) (cellsFrom (s.heap.objs.size+1) scope.names []) (bindC (envOfC qual scope s.heap.objs.size f cd).kindOf (ps.zip us) fun _=>none) s1) :
  Inv (zjr CX P w K mg base N qual scope f cd A outer s H E) [] (start N vs) H s1:=by
 have hpl:ps.length<=N.length:=by have:=congrArg List.length S.pre; rw [List.length_take] at this; omega
 obtain⟨h1,tk,rfl,hk⟩:=x.done
 have noA:∀b:Addr,b∉(zjr CX P w K mg base N qual scope f cd A outer s H E).ex:=fun b z=>absurd (show b∈([]:List Addr) from z) (by simp)
 refine⟨⟨e0.mod,S.kind,rfl,rfl,Nat.le_refl _,fun y z c h1 h2=>?_,fun y hy=>?_,fun y c _ h=>?_,fun _=>hd,Around.frames_deeper e0.frames,.inr ⟨rfl,rfl⟩,fun b z=>absurd z (noA b),e0.bs,e0.bsz,fun b _ _=>noA b,fun b z=>absurd z (noA b),e0.funs,e0.frf⟩,
  rfl,e0.bare,Un.kept hk,⟨_,x.toInCall.ns,fun i y v h1 h2 h3=>?_⟩,fun y c h=>⟨_,x.cell y c h⟩,e0.hok.fresh (Nat.le_refl _),fun y c h=>?_,fun p hp=>absurd (show p∈([]:List (Addr×Obj)) from hp) (by simp),e0.hok.kept hk,?_⟩
 ·exact name_of_addr x.apart (PySem.mem_of_lookup h1) (PySem.mem_of_lookup h2)
 ·have hy:scope.names.lookup y=some .cell\/scope.names.lookup y=some .free:=hy
  rcases hy with hy | hy
  ·exact zoz hy
  ·exact absurd rfl (S.nofree _ (PySem.mem_of_lookup hy))
 ·exact Nat.le_of_lt (x.above y c (PySem.mem_of_lookup h))
 ·have hi:i < vs.length:=by
   unfold start at h2
   by_cases hi:i < vs.length
   ·exact hi
   ·rw [List.getElem?_append_right (by simpa using hi)] at h2
    rw [List.getElem?_replicate] at h2
    split at h2<;>cases h2
  have ha:vs[i]?=some v:=by
   unfold start at h2
   rw [List.getElem?_append_left (by simpa using hi),List.getElem?_map] at h2
   cases e:vs[i]? with
   | none=>rw [e] at h2; cases h2
   | some a=>rw [e] at h2; cases h2; rfl
  obtain⟨u,hu,rv⟩:=r.get ha
  have hp:ps[i]?=some y:=by
   rw [<- S.pre,List.getElem?_take_of_lt (by omega)]; exact h1
  have ndP:ps.Nodup:=by rw [<- S.pre]; exact S.nd.sublist (List.take_sublist _ _)
  refine⟨u,rv,?_⟩
  rcases S.par y (List.mem_of_getElem? hp) with k | k
  ·exact .inl ⟨k,zlj ndP hp hu k⟩
  ·obtain⟨c,e⟩:=zoz (n:=s.heap.objs.size+1) k
   refine .inr ⟨.inl k,c,e,?_⟩
   have q:=x.cell y c e
   rw [zll ndP hp hu (by show scope.names.lookup y≠_; rw [k]; decide)] at q
   exact q
 ·exact e0.hok.fresh (Nat.le_of_lt (x.above y c (PySem.mem_of_lookup h)))
 ·unfold start
  show _=N.length
  rw [List.length_append,List.length_map,List.length_replicate]
  omega
theorem q21{CX:CXT}{P:Program}{w:World}{K:PySem.W.Frag}{mg:Str->Option Value}{base:Heap}{k:Nat}{f:Addr}{name qual:Str}{params:Arguments}{body:List Stmt}{scope:Scope}{dV kV doc pm cdv ct oc:Value}{an od:Option Addr}
  {osl:Array (Option Value)} {N ps:List Str} {sp:Sp} (lk:K.lookup f=some ⟨oc,od,.func (PySem.W.fnOf name qual params body scope dV kV doc pm an cdv ct),osl⟩) (hcd:PySem.W.codeIn K cdv qual=true) (S:FnScope N ps scope)
  (len:∀vs H Q E,sp vs H Q E->vs.length=ps.length)
  (hbody:∀(A:Around) (outer:List Env) (s:Shared) (H:Hp) (vs:List V) (Q:VK) (E:XK),Room k (A.deeper (envOfC qual scope s.heap.objs.size f cdv))->sp vs H Q E->
   ∃t,PSs (zjr CX P w K mg base N qual scope f cdv A outer s H E) body t/\t {nx:=fun _ H'=>Q .non H',rt:=Q} (start N vs) H) :
  FnOk P w K mg base CX (k+1) f (PySem.W.fnOf name qual params body scope dV kV doc pm an cdv ct) ps sp:=by
 refine⟨len,fun A outer s H args us vs Q E hr e0 hb r hsp=>?_⟩
 have hl:=len _ _ _ _ hsp
 have KX:K.In s.heap:=e0.mod.kin.keeps fun b o e=>(e0.bs b o e).1
 have lim:s.heap.NoLimit:=e0.mod.nolimit.keeps fun b o e=>(e0.bs b o e).1
 have hkind:∀y∈ps.zip us,scope.names.lookup y.1=some .local\/(scope.names.lookup y.1=some .cell/\((cellsFrom (s.heap.objs.size+1) scope.names []).lookup y.1).isSome=true):=fun⟨n,v⟩ hy=>by
  rcases S.par n (List.of_mem_zip hy).1 with q | q
  ·exact .inl q
  ·exact .inr ⟨q,PySem.W.cellsFrom_some _ _ _ (.inl q)⟩
 refine codeAny_call_function hr.depth (KX _ _ lk) rfl S.co S.gen rfl (PySem.W.codeRec_of KX hcd) (hb _ _ _ _ ?_)
 refine wpAny_newFunctionEnv_cells S.kind hkind fun env he s1 x=>?_
 subst he
 refine⟨lim.keeps x.toInCall.keep,codeAny_func ?_⟩
 obtain⟨t,ht,hq⟩:=hbody A outer s H vs Q E (hr.deeper _) hsp
 have I:Inv (zjr CX P w K mg base N qual scope f cdv A outer s H E) [] (start N vs) H s1:=zsx S hr.hd e0 hl r x
 refine wpAny_mono (ht [] s1 (start N vs) H _ I hq) (fun fl s' hs=>?_) fun e s' hs=>hs
 have fin:∀{σ':St} {H':Hp} {v:V} {u:Value},Inv (zjr CX P w K mg base N qual scope f cdv A outer s H E) [] σ' H' s'->RelV v u->Q v H'->CE outer P w H s Q u s':=
  fun {σ' H' v u} J rv q=>⟨v,H',J.os,J.bare,J.base,J.hok,rv,q⟩
 cases fl with
 | ret u=>
  obtain⟨v,σ',H',J,rv,q⟩:=hs
  exact fin J rv q
 | next=>
  obtain⟨σ',H',J,q⟩:=hs
  exact fin (v:=V.non) (u:=Value.none) J rfl q
 | brk=>
  obtain⟨_,_,_,q⟩:=hs
  exact False.elim q
 | cont=>
  obtain⟨_,_,_,q⟩:=hs
  exact False.elim q
end L2
namespace L2
open PySem PySem.Spec PyProof.Rows
section
variable{X:Cx}{x:Str}{p pos:Pos}{e:Expr}{es:List Expr}{t:TA}{id T:String}{r:List V->Hp->VK->Prop}
def tCB(r:List V->Hp->VK->Prop)(t:TA):TE:=fun σ H Q=>t σ H fun vs H1=>r vs H1 Q
theorem zvd(hc:CallR X (.builtin id) r)(hg:Gl X x)(hm:X.mg x=none)(hv:bootBuiltins x=some (.builtin id))(ha:PA X (e::es) t) (hn:x≠"__name__":=by decide) (hdb:(x == ("__debug__" : Str))=false:=by decide)
  (he:starEach (e::es) X.env=(false,eval e X.env)::starEach es X.env:=by rfl) (hpl:(backTo pos (starEach es X.env)).any (·.1)=false:=by rfl):PE X (.Call (.Name x p) (e::es) [] pos) (tCB r t):=by
 intro pins s σ H Q I h
 refine wpAny_Call_Name_kw (ze4 I hg hm hv ?_ hn hdb)
 exact PyProof.Rows.callWith_builtin1 (thn (ha pos pins s σ H _ I h) fun us s1 ⟨vs,H1,I1,r1,q1⟩=>hc pins s1 σ H1 vs us Q I1 r1 q1) he hpl
theorem zrt(hc:CallR X (.type T) r)(hg:Gl X x)(hm:X.mg x=none)(hv:bootBuiltins x=some (.type T))(ha:PA X (e::es) t) (hn:x≠"__name__":=by decide) (hdb:(x == ("__debug__" : Str))=false:=by decide)
  (he:starEach (e::es) X.env=(false,eval e X.env)::starEach es X.env:=by rfl) (hpl:(backTo pos (starEach es X.env)).any (·.1)=false:=by rfl):PE X (.Call (.Name x p) (e::es) [] pos) (tCB r t):=by
 intro pins s σ H Q I h
 refine wpAny_Call_Name_kw (ze4 I hg hm hv ?_ hn hdb)
 exact PyProof.Rows.callWith_type1 (thn (ha pos pins s σ H _ I h) fun us s1 ⟨vs,H1,I1,r1,q1⟩=>hc pins s1 σ H1 vs us Q I1 r1 q1) he hpl
end
end L2
namespace HT
open PySem PyProof.Rows
section
open PySem.SeqAt
open PySem.AutoSeq1 (wpAny_loadPart')
open PySem.MeetsSeq PySem.MeetsSeq2 PySem.MeetsSeq3
end
section
variable{prog:Program}{w:World}{A:Around}{E:Value->Shared->Prop}{s:Shared}
theorem q04{t b:Addr}{vs ws:List Value}{Q:Value->Shared->Prop}(ht:IsTup s.heap t vs.toArray)(hb:IsTup s.heap b ws.toArray)(hv:vs≠[])
  (h1:ws=[]->Q (.ref t) s) (h2:ws≠[]->Q (.ref s.heap.objs.size) {s with heap:=s.heap.push {cls:=.type "tuple",data:=.seq (vs++ws).toArray}})
  (hsz:vs.length+ws.length<=sizeLine):wpAny (model prog w) A (binaryOp .Add (.ref t) (.ref b)) Q E s:=by
 obtain⟨⟨cls,dd,data,sl⟩,ho,hc,n,hd⟩:=id ht
 obtain⟨⟨cls2,dd2,data2,sl2⟩,ho2,hc2,n2,hd2⟩:=id hb
 simp only at hc hd hc2 hd2
 subst hc hd hc2 hd2
 have e:vs.toArray++ws.toArray=(vs++ws).toArray:=by simp
 by_cases hw:ws=[]
 ·exact concat_meets ⟨_,ho,rfl⟩ ⟨_,ho2,rfl⟩ noFill_tuple_add seq_tuple_add PySem.F.slot_tuple_add PySem.F.entry_tuple_add (PySem.F.args_tuple_add_2 _ _)
   (tuple_addW1 t b vs.toArray ws.toArray n n2 dd dd2 sl sl2 (by simpa using hv) (by simp[hw])) ⟨ho,ho2,h1 hw⟩
 ·refine concat_meets ⟨_,ho,rfl⟩ ⟨_,ho2,rfl⟩ noFill_tuple_add seq_tuple_add PySem.F.slot_tuple_add PySem.F.entry_tuple_add (PySem.F.args_tuple_add_2 _ _)
   (tuple_addW2 t b vs.toArray ws.toArray n n2 dd dd2 sl sl2 (by simpa using hv) (by simpa using hw) (by rw [List.size_toArray,List.size_toArray]; exact hsz)) ⟨ho,ho2,?_⟩
  rw [e]
  exact h2 hw
def sIx(n d:Nat):Option Int->Nat
 | none=>d
 | some v=>if v < 0 then(v+(n:Int)).toNat else min v.toNat n
theorem q11(n d:Nat)(hd:d<=n)(o:Option Int):sIx n d o<=n:=by
 cases o with
 | none=>exact hd
 | some v=>
  show(if v < 0 then(v+(n:Int)).toNat else min v.toNat n)<=n
  by_cases hv:v < 0
  ·rw [if_pos hv]; omega
  ·rw [if_neg hv]; exact Nat.min_le_right _ _
theorem zu2(v:Int)(n d:Nat):(if v < 0 then max (v+(n:Int)) 0 else min v (n:Int))=((sIx n d (some v):Nat):Int):=by
 show(if v < 0 then max (v+(n:Int)) 0 else min v (n:Int))=(((if v < 0 then(v+(n:Int)).toNat else min v.toNat n):Nat):Int)
 by_cases hv:v < 0
 ·simp only[if_pos hv]; omega
 ·simp only[if_neg hv]; omega
theorem zqq(lo hi:Option Int)(n:Nat):Builtin.Slice.sliceAdjust lo hi 1 (n:Int)=(((sIx n 0 lo:Nat):Int),((sIx n n hi:Nat):Int)):=by
 have h1:¬ ((1:Int) < 0):=by omega
 unfold Builtin.Slice.sliceAdjust
 simp only[h1,if_false]
 refine Prod.ext ?_ ?_
 ·cases lo with
  | none=>rfl
  | some v=>exact zu2 v n 0
 ·cases hi with
  | none=>rfl
  | some v=>exact zu2 v n n
theorem zpx(i j:Nat):Builtin.Slice.slicePlaces (i:Int) (j:Int) 1=j - i:=by
 unfold Builtin.Slice.slicePlaces
 have h1:(1:Int) > 0:=by omega
 simp only[h1,if_true,Int.ediv_one]
 split<;>omega
theorem zhx{v:Value}{o:Option Int}{Q:Option Int->Shared->Prop}(p:IsPart v o)(h:Q o s):wpAny (model prog w) A (Builtin.Slice.slicePartIndex v) Q E s:=by
 cases p with
 | none=>exact slicePart_none h
 | int i t=>exact slicePart_int h
theorem z8i{sl:Addr}{vl vu:Value}{lo hi:Option Int}{n:Nat}{Q:Int×Int×Nat->Shared->Prop}(hs:s.heap.IsSliceOf sl vl vu .none)(pl:IsPart vl lo)(pu:IsPart vu hi)
  (h:Q (((sIx n 0 lo:Nat):Int),1,sIx n n hi - sIx n 0 lo) s):wpAny (model prog w) A (Builtin.Slice.sliceApplied (.ref sl) (pure (n:Int))) Q E s:=by
 obtain⟨os,hos,hcs,hds⟩:=id hs
 unfold Builtin.Slice.sliceApplied Builtin.Slice.sliceFields
 refine wpAny_bind (wpAny_bind (wpAny_field hos hds (x:=vl) rfl (wpAny_bind (wpAny_field hos hds (x:=vu) rfl (wpAny_bind (wpAny_field hos hds (x:=.none) rfl (wpAny_pure ?_)))))))
 refine wpAny_bind (slicePart_none ?_)
 show wpAny _ _ (if((1:Int) == 0)=true then _ else _) _ _ s
 rw [if_neg (by decide)]
 refine wpAny_bind (zhx pl (wpAny_bind (zhx pu (wpAny_bind (wpAny_pure ?_)))))
 show wpAny _ _ (match Builtin.Slice.sliceAdjust lo hi 1 (n:Int) with | (lo,hi)=>pure (lo,(1:Int),Builtin.Slice.slicePlaces lo hi 1)) _ _ s
 rw [zqq lo hi n]
 show wpAny _ _ (pure (((sIx n 0 lo:Nat):Int),(1:Int),Builtin.Slice.slicePlaces ((sIx n 0 lo:Nat):Int) ((sIx n n hi:Nat):Int) 1)) _ _ s
 rw [zpx]
 exact wpAny_pure h
theorem zv4(xs:Array Value)(i k:Nat):((List.range k).filterMap fun(m:Nat)=>xs[((i:Int)+(m:Int) * 1).toNat]?).toArray=((xs.toList.drop i).take k).toArray:=by
 have e:(fun(m:Nat)=>xs[((i:Int)+(m:Int) * 1).toNat]?)=fun m=>xs[i+m]?:=by
  funext m
  have:((i:Int)+(m:Int) * 1).toNat=i+m:=by omega
  rw [this]
 rw [e]
 have:=pick_run xs i k
 rw [List.filterMap_map] at this
 have e2:((fun x=>xs[x]?) ∘ fun x=>i+x)=fun m=>xs[i+m]?:=rfl
 rw [e2] at this
 rw [this]
theorem zdo{t sl:Addr}{items:Array Value}{vl vu:Value}{lo hi:Option Int}{Q:Value->Shared->Prop}(ht:IsTup s.heap t items)(hs:s.heap.IsSliceOf sl vl vu .none)(pl:IsPart vl lo)(pu:IsPart vu hi)
  (hw:¬ (sIx items.size 0 lo=0/\sIx items.size items.size hi=items.size))
  (h:Q (.ref s.heap.objs.size) {s with heap:=s.heap.push {cls:=.type "tuple",data:=.seq ((items.toList.drop (sIx items.size 0 lo)).take (sIx items.size items.size hi - sIx items.size 0 lo)).toArray}})
  (hsz:items.size<=sizeLine):wpAny (model prog w) A (getItem (.ref t) (.ref sl)) Q E s:=by
 have htake:sizeOk (.seq ((items.toList.drop (sIx items.size 0 lo)).take (sIx items.size items.size hi - sIx items.size 0 lo)).toArray):=by
  show((items.toList.drop (sIx items.size 0 lo)).take (sIx items.size items.size hi - sIx items.size 0 lo)).toArray.size<=sizeLine
  rw [List.size_toArray,List.length_take,List.length_drop,Array.length_toList]
  omega
 have hj:sIx items.size items.size hi<=items.size:=q11 _ _ (Nat.le_refl _) hi
 obtain⟨os,hos,hcs,hds⟩:=id hs
 have hTs:s.TypeIs (.ref sl) "slice":=⟨os,hos,hcs⟩
 unfold getItem
 try with_reducible refine wpAny_holding ?_
 first | refine wpAny_bind (wpAny_pure ?_) | skip
 refine wpAny_bind (wpAny_sequenceKey ht.typeIs (by decide) ?_)
 refine wpAny_bind (wpAny_callSpecial?_slot (name:=Str.ofString "__getitem__") ht.typeIs PyProof.Rows.slot_tuple_getitem
  (wpAny_call_entry PyProof.Rows.slot_tuple_getitem ht.typeIs entry_tuple_getitem ?_ (args_tuple_getitem _ _)))
 show wpAny _ _ (Builtin.Tuple.tupleItemsOf (.ref t) >>= _) _ _ s
 refine wpAny_bind (tupleItemsOf_ ht ?_)
 refine wpAny_bind (wpAny_typeOf hTs ?_)
 rw [if_pos (by decide)]
 refine wpAny_bind (z8i hs pl pu ?_)
 have hno:¬ ((((sIx items.size 0 lo:Nat):Int) == 0 && (1:Int) == 1 && (sIx items.size items.size hi - sIx items.size 0 lo) == items.size)=true):=by
  intro q
  rw [Bool.and_eq_true,Bool.and_eq_true] at q
  have q1:((sIx items.size 0 lo:Nat):Int)=0:=eq_of_beq q.1.1
  have q2:sIx items.size items.size hi - sIx items.size 0 lo=items.size:=eq_of_beq q.2
  exact hw ⟨by omega,by omega⟩
 show wpAny _ _ (if(((sIx items.size 0 lo:Nat):Int) == 0 && (1:Int) == 1 && (sIx items.size items.size hi - sIx items.size 0 lo) == items.size)=true then _ else _) _ _ s
 rw [if_neg hno,zv4]
 first
  | exact wpAny_bind (m:=Builtin.Tuple.tupleExact _) (wpAny_newObj_type (wpAny_pure ⟨_,rfl,wpAny_pure h⟩) htake)
  | exact wpAny_bind (m:=Builtin.Tuple.tupleExact _) (wpAny_newObj_type (wpAny_bind (wpAny_pure (wpAny_pure ⟨_,rfl,wpAny_pure h⟩))) htake)
  | exact wpAny_bind (wpAny_bind (m:=Builtin.Tuple.tupleExact _) (wpAny_newObj_type (wpAny_pure (wpAny_pure ⟨_,rfl,wpAny_pure h⟩)) htake))
  | exact wpAny_bind (wpAny_bind (m:=Builtin.Tuple.tupleExact _) (wpAny_newObj_type (wpAny_pure ⟨_,rfl,wpAny_pure h⟩) htake))
end
end HT
namespace L2
open PySem PySem.Spec PyProof.Rows
abbrev TO:=St->Hp->(Option Int->Hp->Prop)->Prop
def PO(X:Cx)(e:Option Expr)(t:TO):Prop:=
 ∀(pins:List (Addr×Obj)) (s:Shared) (σ : St) (H:Hp) (Q:Option Int->Hp->Prop),Inv X pins σ H s->t σ H Q->
  wpAny (model X.prog X.w) X.A (evalPart e X.env) (fun u s'=>∃o H',Inv X pins σ H' s'/\IsPart u o/\Q o H') X.xe s
def zao:TO:=fun _ H Q=>Q none H
def zls(t:TE):TO:=fun σ H Q=>t σ H fun x H1=>∃i,x=.int i/\Q (some i) H1
theorem zi6{ns:List Int}:∀{us:List Value},Vals (ns.map V.int) us->IntsAre us ns:=by
 induction ns with
 | nil=>intro us r; rw [List.map_nil] at r; cases r; exact .nil
 | cons n ns ih=>
  intro us r
  rw [List.map_cons] at r
  cases r with
  | cons r1 r2=>
   obtain⟨t,e⟩:=r1
   subst e
   exact .cons n t (ih r2)
section
variable{X:Cx}{e:Expr}{te:TE}{lo hi:Option Expr}{tl th:TO}{pos p2:Pos}
theorem zym:PO X none zao:=by
 intro pins s σ H Q I h
 rw [evalPart_none]
 exact wpAny_pure ⟨none,H,I,.none,h⟩
theorem zyl(h:PE X e te):PO X (some e) (zls te):=by
 intro pins s σ H Q I hw
 rw [evalPart_some]
 refine thn (h pins s σ H _ I hw) fun u s1 ⟨x,H1,I1,r1,q1⟩=>?_
 obtain⟨i,rfl,q⟩:=q1
 obtain⟨t,rfl⟩:=r1
 exact⟨some i,H1,I1,.int i t,q⟩
def SlR(X:Cx)(r:V->Option Int->Option Int->Hp->VK->Prop):Prop:=
 ∀(pins:List (Addr×Obj)) (s:Shared) (σ : St) (H:Hp) (x:V) (v vl vu:Value) (lo hi:Option Int) (sl:Addr) (Q:VK),Inv X pins σ H s->RelV x v->s.heap.IsSliceOf sl vl vu .none->IsPart vl lo->IsPart vu hi->r x lo hi H Q->
  ∃T id,typeLookup (.type T) "__getitem__" = pure (some (.builtin id))/\s.TypeIs v T/\wpAny (model X.prog X.w) X.A (getItem v (.ref sl)) (EP X pins σ Q) X.xe s
theorem SlR.or{r r':V->Option Int->Option Int->Hp->VK->Prop}(h:SlR X r)(h':SlR X r'):SlR X (fun x lo hi H Q=>r x lo hi H Q\/r' x lo hi H Q):=by
 intro pins s σ H x v vl vu lo hi sl Q I rx hs pl pu q
 rcases q with q | q
 ·exact h pins s σ H x v vl vu lo hi sl Q I rx hs pl pu q
 ·exact h' pins s σ H x v vl vu lo hi sl Q I rx hs pl pu q
def tSl(r:V->Option Int->Option Int->Hp->VK->Prop)(te:TE)(tl th:TO):TE:=fun σ H Q=>te σ H fun x H1=>tl σ H1 fun l H2=>th σ H2 fun u H3=>r x l u H3 Q
theorem zv8{r:V->Option Int->Option Int->Hp->VK->Prop}(hr:SlR X r)(he:PE X e te)(hl:PO X lo tl)(hu:PO X hi th):PE X (.Subscript e (.Slice lo hi none p2) pos) (tSl r te tl th):=by
 intro pins s σ H Q I h
 refine Subscript_ (thn (he pins s σ H _ I h) fun v s1 ⟨x,H1,I1,r1,q1⟩=>?_)
 refine wpAny_Slice (thn (hl pins s1 σ H1 _ I1 q1) fun vl s2 ⟨l,H2,I2,pl,q2⟩=>thn (hu pins s2 σ H2 _ I2 q2) fun vu s3 ⟨u,H3,I3,pu,q3⟩=>?_)
 rw [evalPart_none]
 refine wpAny_pure ?_
 have I4:Inv X pins σ H3 {s3 with heap:=s3.heap.push {cls:=.type "slice",data:=.fields #[vl,vu,.none]}}:=I3.kept (t':=s3.toks) fun b ob q=>Heap.get?_push_of_some _ q
 obtain⟨T,id,hT,ht,hg⟩:=hr pins {s3 with heap:=s3.heap.push {cls:=.type "slice",data:=.fields #[vl,vu,.none]}} σ H3 x v vl vu l u s3.heap.objs.size Q I4 r1 (Heap.IsSliceOf.new ..) pl pu q3
 show wpAny (model X.prog X.w) X.A (subscriptTail e (.Slice lo hi none p2) v (.ref s3.heap.objs.size)) (EP X pins σ Q) X.xe {s3 with heap:=s3.heap.push {cls:=.type "slice",data:=.fields #[vl,vu,.none]}}
 exact tail_any (ops:=[.ref s3.heap.objs.size,v]) ht hT hg (by with_unfolding_all rfl)
def q0n(xs:List V)(lo hi:Option Int):List V:=(xs.drop (HT.sIx xs.length 0 lo)).take (HT.sIx xs.length xs.length hi - HT.sIx xs.length 0 lo)
theorem znl(xs:List V)(lo hi:Option Int):(q0n xs lo hi).length<=xs.length:=by
 unfold q0n
 rw [List.length_take,List.length_drop]
 omega
def zyb(K:PySem.W.Frag):V->Option Int->Option Int->Hp->VK->Prop:=fun x lo hi H Q=>∃a xs,x=.ref a/\SqT K H a xs/\
 ¬ (HT.sIx xs.length 0 lo=0/\HT.sIx xs.length xs.length hi=xs.length)/\∀p,H p=none->Q (.ref p) (upd H p (.tup (q0n xs lo hi)))
theorem q0w:SlR X (zyb X.K):=by
 intro pins s σ H x v vl vu lo hi sl Q I rx hs pl pu h
 obtain⟨a,xs,rfl,hx,hw,q⟩:=h
 cases rx
 obtain⟨its,r,ht,hz⟩:=I.tuple hx
 have hlen:its.toArray.size=xs.length:=by rw [List.size_toArray]; exact r.length.symm
 refine⟨"tuple",_,PyProof.Rows.slot_tuple_getitem.lookup,ht.typeIs,?_⟩
 refine HT.zdo ht hs pl pu (by rw [hlen]; exact hw) ?_ (by rw [hlen]; exact hz)
 rw [hlen]
 refine⟨.ref s.heap.objs.size,_,I.laid (t':=s.toks) (o:=.tup (q0n xs lo hi)) (fun b ob q=>Heap.get?_push_of_some _ q) (Nat.le_refl _) ?_,rfl,q _ (I.hok.fresh (Nat.le_refl _))⟩
 exact⟨Nat.le_trans (znl xs lo hi) hz,_,(r.drop (HT.sIx xs.length 0 lo)).take (HT.sIx xs.length xs.length hi - HT.sIx xs.length 0 lo),IsTup.new _ _⟩
def q39(K:PySem.W.Frag):R2:=fun x y H Q=>∃a b xs ys,x=.ref a/\y=.ref b/\SqT K H a xs/\SqT K H b ys/\xs≠[]/\xs.length+ys.length<=sizeLine/\
 (ys=[]->Q (.ref a) H)/\(ys≠[]->∀p,H p=none->Q (.ref p) (upd H p (.tup (xs++ys))))
theorem Vals.nil_iff{xs:List V}{us:List Value}(r:Vals xs us):us=[]↔xs=[]:=by
 cases r with
 | nil=>simp
 | cons _ _=>simp
theorem zyy:OpR X (binaryOp .Add) (q39 X.K):=by
 intro pins s σ H x y v u Q I rx ry h
 obtain⟨a,b,xs,ys,rfl,rfl,ha,hb,hx,hz,q1,q2⟩:=h
 cases rx
 cases ry
 obtain⟨its,r1,p1,_⟩:=I.tuple ha
 obtain⟨its2,r2,p2,_⟩:=I.tuple hb
 refine HT.q04 p1 p2 (fun z=>hx (r1.nil_iff.mp z)) (fun z=>⟨.ref a,H,I,rfl,q1 (r2.nil_iff.mp z)⟩) (fun z=>?_) (by rw [<- r1.length,<- r2.length]; exact hz)
 refine⟨.ref s.heap.objs.size,_,I.laid (t':=s.toks) (o:=.tup (xs++ys)) (fun b ob q=>Heap.get?_push_of_some _ q) (Nat.le_refl _) ?_,rfl,q2 (fun w=>z (r2.nil_iff.mpr w)) _ (I.hok.fresh (Nat.le_refl _))⟩
 exact⟨by rw [List.length_append]; exact hz,_,r1.append r2,IsTup.new _ _⟩
end
end L2
namespace L2
open PySem PySem.Spec PyProof.Rows
def ixN(n:Nat)(i:Int):Option Nat:=if 0<=i then(if i < n then some i.toNat else none) else if -(n:Int)<=i then some (i+n).toNat else none
def atI{α : Type}(xs:List α)(i:Int):Option α:=(ixN xs.length i).bind fun j=>xs[j]?
theorem zzh{n:Nat}{i:Int}{j:Nat}(h:ixN n i=some j):seqIndex? i n=some j/\j < n/\-(n:Int)<=i/\i < n:=by
 unfold ixN at h
 by_cases h0:0<=i
 ·rw [if_pos h0] at h
  by_cases h1:i < n
  ·rw [if_pos h1] at h
   have e:i.toNat=j:=Option.some.inj h
   exact⟨by rw [seqIndex_of h0 h1,e],by omega,by omega,h1⟩
  ·rw [if_neg h1] at h; cases h
 ·rw [if_neg h0] at h
  by_cases h1 : -(n:Int)<=i
  ·rw [if_pos h1] at h
   have e:(i+n).toNat=j:=Option.some.inj h
   exact⟨by rw [seqIndex_neg (by omega) h1,e],by omega,h1,by omega⟩
  ·rw [if_neg h1] at h; cases h
theorem zu8{α : Type}{xs:List α}{i:Int}{v : α}(h:atI xs i=some v):∃j,seqIndex? i xs.length=some j/\xs[j]?=some v/\j < xs.length/\-(xs.length:Int)<=i/\i < xs.length:=by
 unfold atI at h
 cases e:ixN xs.length i with
 | none=>rw [e] at h; cases h
 | some j=>
  rw [e] at h
  obtain⟨h1,h2,h3,h4⟩:=zzh e
  exact⟨j,h1,h,h2,h3,h4⟩
theorem z1c{α : Type}{xs:List α}{j:Nat}{v : α}(h:xs[j]?=some v):atI xs (j:Int)=some v:=by
 have hj:j < xs.length:=(List.getElem?_eq_some_iff.mp h).1
 have e:ixN xs.length (j:Int)=some j:=by
  unfold ixN
  rw [if_pos (by omega),if_pos (by omega)]; simp
 unfold atI; rw [e]; exact h
theorem zp6{α : Type}(xs:List α)(v : α):atI (xs++[v]) (-1)=some v:=by
 have hl:(xs++[v]).length=xs.length+1:=by simp
 have e:ixN (xs++[v]).length (-1)=some xs.length:=by
  unfold ixN
  rw [hl,if_neg (by decide),if_pos (by omega)]
  congr 1
  omega
 unfold atI
 rw [e]
 show(xs++[v])[xs.length]?=some v
 simp
def q0a(b:Expr):Prop:=∀o i,subscripted b false o i=operate [o,i] (getItem o i)
def IxR(X:Cx)(r:R2):Prop:=
 ∀(value slice:Expr) (pins:List (Addr×Obj)) (s:Shared) (σ : St) (H:Hp) (x y:V) (v u:Value) (Q:VK),Inv X pins σ H s->RelV x v->RelV y u->r x y H Q->
  subscripted slice false v u=operate [v,u] (getItem v u)->wpAny (model X.prog X.w) X.A (subscriptTail value slice v u) (EP X pins σ Q) X.xe s
def MtR(X:Cx)(id:String)(r:V->List V->Hp->VK->Prop):Prop:=
 ∀(pins:List (Addr×Obj)) (s:Shared) (σ : St) (H:Hp) (x:V) (xs:List V) (v:Value) (us:List Value) (Q:VK),Inv X pins σ H s->RelV x v->Vals xs us->r x xs H Q->
  wpAny (model X.prog X.w) X.A (call (.builtin id) (v::us)) (EP X pins σ Q) X.xe s
section
variable{X:Cx}{a b:Expr}{ta tb:TE}{pos:Pos}
theorem IxR.or{r r':R2}(h:IxR X r)(h':IxR X r'):IxR X (fun x y H Q=>r x y H Q\/r' x y H Q):=by
 intro value slice pins s σ H x y v u Q I rx ry q hs
 rcases q with q | q
 ·exact h value slice pins s σ H x y v u Q I rx ry q hs
 ·exact h' value slice pins s σ H x y v u Q I rx ry q hs
theorem MtR.or{id:String}{r r':V->List V->Hp->VK->Prop}(h:MtR X id r)(h':MtR X id r'):MtR X id (fun x xs H Q=>r x xs H Q\/r' x xs H Q):=by
 intro pins s σ H x xs v us Q I rx rs q
 rcases q with q | q
 ·exact h pins s σ H x xs v us Q I rx rs q
 ·exact h' pins s σ H x xs v us Q I rx rs q
theorem z0r{r:R2}(hr:IxR X r)(ha:PE X a ta)(hb:PE X b tb)(hs:q0a b):PE X (.Subscript a b pos) (tOp r ta tb):=by
 intro pins s σ H Q I h
 exact Subscript_ (q3m ha hb I h fun v u s2 x y H2 I2 rx ry q=>hr a b pins s2 σ H2 x y v u Q I2 rx ry q (hs _ _))
def zuz(K:PySem.W.Frag):R2:=fun x y H Q=>∃p xs i v,x=.ref p/\y=.int i/\SqL K H p xs/\atI xs i=some v/\Q v H
def zlm(K:PySem.W.Frag):R2:=fun x y H Q=>∃p xs i v,x=.ref p/\y=.int i/\SqT K H p xs/\atI xs i=some v/\Q v H
def zyd:R2:=fun x y H Q=>∃z i c,x=.str z/\y=.int i/\z.length<=sizeLine/\atI z.cps.toList i=some c/\Q (.str ⟨#[c]⟩) H
theorem zdh:IxR X (zuz X.K):=by
 intro value slice pins s σ H x y v u Q I rx ry h hs
 obtain⟨p,xs,i,z,rfl,rfl,hq,he,q⟩:=h
 cases rx
 obtain⟨t,rfl⟩:=ry
 obtain⟨its,r,pl,hz⟩:=I.list hq
 obtain⟨j,h1,h2,h3,h4,h5⟩:=zu8 he
 obtain⟨w,ew,rw'⟩:=r.get h2
 have hl:=r.length
 have hn:=zog
 have fin:EP X pins σ Q w s:=⟨z,H,I,rw',q⟩
 by_cases h0:0<=i
 ·have hj:i.toNat=j:=by
   rw [seqIndex_of h0 h5] at h1
   exact Option.some.inj h1
  exact item_listR pl.isList h0 (by omega) (by rw [hj]; simpa using ew) fin hs
 ·have hj:(i+(its.toArray.size:Int)).toNat=j:=by
   rw [seqIndex_neg (by omega) h4] at h1
   rw [List.size_toArray,<- hl]
   exact Option.some.inj h1
  exact subscriptTail_builtinR (x:=w) pl.isList.typeIs slot_list_getitem.lookup
   (wpAny_getItem_list_neg (Q:=fun r s'=>r=w/\EP X pins σ Q r s') pl.isList (by omega) (by rw [List.size_toArray]<;>omega) (by omega) (by rw [hj]; simpa using ew) ⟨rfl,fin⟩) hs
theorem z0g:IxR X (zlm X.K):=by
 intro value slice pins s σ H x y v u Q I rx ry h hs
 obtain⟨p,xs,i,z,rfl,rfl,hq,he,q⟩:=h
 cases rx
 obtain⟨t,rfl⟩:=ry
 obtain⟨its,r,pl,hz⟩:=I.tuple hq
 obtain⟨j,h1,h2,h3,h4,h5⟩:=zu8 he
 obtain⟨w,ew,rw'⟩:=r.get h2
 have hl:=r.length
 have hn:=zog
 have fin:EP X pins σ Q w s:=⟨z,H,I,rw',q⟩
 exact subscriptTail_builtinR (x:=w) pl.typeIs slot_tuple_getitem.lookup
  (getItem_tuple (j:=j) (Q:=fun r s'=>r=w/\EP X pins σ Q r s') pl (by omega) (by omega) (by rw [List.size_toArray,<- hl]; exact h1) (by simpa using ew) ⟨rfl,fin⟩) hs
def rIx(K:PySem.W.Frag):R2:=fun x y H Q=>zuz K x y H Q\/zlm K x y H Q\/zyd x y H Q
theorem Inv.lst{pins:List (Addr×Obj)}{σ : St}{H:Hp}{s:Shared}{p:Addr}{xs:List V}(I:Inv X pins σ H s)(h:H p=some (.lst xs)) :
  ∃(its:List Value) (n:Nat),Vals xs its/\s.heap.get? p=some {cls:=.type "list",data:=.seq its.toArray n}/\xs.length<=sizeLine:=by
 obtain⟨z,its,n,r,e⟩:=I.hok p _ h
 exact⟨its,n,r,e,z⟩
def q3x(K:PySem.W.Frag):V->Option Int->Option Int->Hp->VK->Prop:=fun x lo hi H Q=>∃a xs,x=.ref a/\SqL K H a xs/\∀p,H p=none->Q (.ref p) (upd H p (.lst (q0n xs lo hi)))
def zku:V->Bool
 | .non=>true
 | .bl _=>true
 | .int _=>true
 | .str _=>true
 | _=>false
def eqV:V->V->Bool
 | .non,.non=>true
 | .bl a,.bl b=>a == b
 | .bl a,.int b=>(if a then 1 else 0) == b
 | .int a,.bl b=>a == (if b then 1 else 0)
 | .int a,.int b=>a == b
 | .str a,.str b=>a == b
 | _,_=>false
def inV(x:V)(xs:List V):Bool:=xs.any fun y=>eqV y x
theorem zlf:CallR X (.builtin "len") (fun xs H Q=>∃p ys,xs=[.ref p]/\(SqL X.K H p ys\/SqT X.K H p ys)/\Q (.int ys.length) H):=by
 intro pins s σ H xs us Q I r h
 obtain⟨p,ys,rfl,hq,q⟩:=h
 obtain⟨u,rfl,rx⟩:=zxr r
 cases rx
 have hn:=zog
 rcases hq with hq | hq
 ·obtain⟨its,r',pl,hz⟩:=I.list hq
  have hlen:=r'.length
  exact Calls.call_len_list pl.isList (by simp only[List.size_toArray]<;>omega) ⟨.int ys.length,H,I.tok _,⟨s.toks+1,by rw [List.size_toArray,hlen]⟩,q⟩
 ·obtain⟨its,r',pl,hz⟩:=I.tuple hq
  have hlen:=r'.length
  exact len_tuple pl (by simp only[List.size_toArray]<;>omega) ⟨.int ys.length,H,I.tok _,⟨s.toks+1,by rw [List.size_toArray,hlen]⟩,q⟩
theorem zle:CallR X (.builtin "len") (fun xs H Q=>∃z,xs=[.str z]/\z.length<=sizeLine/\Q (.int z.length) H):=by
 intro pins s σ H xs us Q I r h
 obtain⟨z,rfl,hz,q⟩:=h
 obtain⟨u,rfl,t,rfl⟩:=zxr r
 have hn:=zog
 exact len_str (by omega) ⟨.int z.length,H,I.tok _,⟨_,rfl⟩,q⟩
theorem CallR.or{f:Value}{r r':List V->Hp->VK->Prop}(h:CallR X f r)(h':CallR X f r'):CallR X f (fun xs H Q=>r xs H Q\/r' xs H Q):=by
 intro pins s σ H xs us Q I rs q
 rcases q with q | q
 ·exact h pins s σ H xs us Q I rs q
 ·exact h' pins s σ H xs us Q I rs q
theorem zcj:CallR X (.type "tuple") (fun xs H Q=>∃p ys,xs=[.ref p]/\((SqL X.K H p ys/\∀l,H l=none->Q (.ref l) (upd H l (.tup ys)))\/(SqT X.K H p ys/\Q (.ref p) H))):=by
 intro pins s σ H xs us Q I r h
 obtain⟨p,ys,rfl,h⟩:=h
 obtain⟨u,rfl,rx⟩:=zxr r
 cases rx
 rcases h with⟨hq,q⟩ | ⟨hq,q⟩
 ·obtain⟨its,r',pl,hz⟩:=I.list hq
  have hlen:=r'.length
  refine call_tuple_list pl.isList (fun h' kp=>?_) (by simp only[List.size_toArray]<;>omega)
  have I1:Inv X pins σ H {s with heap:=h'}:=I.kept (t':=s.toks) kp
  have I2:Inv X pins σ (upd H h'.objs.size (.tup ys)) {s with heap:=h'.push {cls:=.type "tuple",data:=.seq its.toArray}}:=
   I1.laid (t':=s.toks) (fun b o e=>Heap.get?_push_of_some _ e) (Nat.le_refl _) (show ObjOk X.prog X.w _ _ _ (.tup ys) from⟨hz,its,r',IsTup.new _ _⟩)
  exact⟨.ref h'.objs.size,_,I2,rfl,q _ (I1.hok.fresh (Nat.le_refl _))⟩
 ·obtain⟨its,r',pl,hz⟩:=I.tuple hq
  exact call_tuple_same pl ⟨.ref p,H,I,rfl,q⟩
def tyV(K:PySem.W.Frag)(T:String)(x:V)(H:Hp):Prop:=match x with
 | .str _=>T = "str"
 | .int _=>T = "int"
 | .ref p=>(T = "list"/\∃xs,SqL K H p xs)\/(T = "tuple"/\∃o,K.lookup p=some o/\o.cls=.type "tuple"/\o.dict=none)\/
   (T = "dict"/\((∃kvs,H p=some (.dK kvs))\/∃kvs,H p=some (.dT kvs)))\/(T = "set"/\∃S n,H p=some (.set S n))
 | _=>False
theorem q0q{pins:List (Addr×Obj)}{σ : St}{H:Hp}{s:Shared}{T:String}{x:V}{v:Value}(I:Inv X pins σ H s)(r:RelV x v)(ty:tyV X.K T x H) :
  s.TypeIs v T/\∀a,v=.ref a->∃ob,s.heap.get? a=some ob/\ob.dict=none:=by
 cases x with
 | str z=>
  obtain⟨t,rfl⟩:=r
  cases (show T = "str" from ty)
  exact⟨typeIs_str s z t,fun _ e=>nomatch e⟩
 | int i=>
  obtain⟨t,rfl⟩:=r
  cases (show T = "int" from ty)
  exact⟨typeIs_int s i t,fun _ e=>nomatch e⟩
 | ref p=>
  cases r
  rcases ty with⟨rfl,xs,hq⟩ | ⟨rfl,o,hk,hc,hd⟩ | ⟨rfl,hk⟩ | ⟨rfl,S,n,hk⟩
  ·obtain⟨its,_,pl,_⟩:=I.list hq
   refine⟨pl.isList.typeIs,fun a e=>?_⟩
   cases e
   obtain⟨o,n,e,c,hd,_⟩:=pl
   exact⟨o,e,hd⟩
  ·refine⟨⟨o,I.kIn p o hk,hc⟩,fun a e=>?_⟩
   cases e
   exact⟨o,I.kIn _ o hk,hd⟩
  ·have z:∃o,s.heap.get? p=some o/\o.ExactDict:=by
    rcases hk with⟨kvs,hk⟩ | ⟨kvs,hk⟩
    ·obtain⟨_,_,_,_,o,_,_,e,ex,_⟩:=I.hok p _ hk
     exact⟨o,e,ex⟩
    ·obtain⟨_,_,_,_,o,_,_,e,ex,_⟩:=I.hok p _ hk
     exact⟨o,e,ex⟩
   obtain⟨o,e,ex⟩:=z
   refine⟨⟨o,e,ex.1⟩,fun a e2=>?_⟩
   cases e2
   exact⟨o,e,ex.2.1⟩
  ·obtain⟨o,_,_,_,e,ex,_⟩:=I.hok p _ hk
   refine⟨⟨o,e,ex.1⟩,fun a e2=>?_⟩
   cases e2
   exact⟨o,e,ex.2.1⟩
 | _=>exact False.elim ty
def tBM(K:PySem.W.Frag)(T:String)(r:V->List V->Hp->VK->Prop)(to:TE)(t:TA):TE:=fun σ H Q=>to σ H fun x H1=>tyV K T x H1/\t σ H1 fun xs H2=>r x xs H2 Q
variable{o e:Expr}{es:List Expr}{to:TE}{t:TA}{name:Str}{apos cpos:Pos}{T id:String}{r:V->List V->Hp->VK->Prop}
theorem zrv(pa:PlainAttrs T)(slot:Slot T name id) (hty:typeOf (.builtin id)=pure (.type "method_descriptor")) (hm:MtR X id r) (ho:PE X o to) (ha:PA X (e::es) t)
  (hbase:attributeBase o name X.env (eval o X.env)=eval o X.env:=by rfl)
  (hfew:((backTo cpos (starEach (e::es) X.env)).all (fun x=>!x.1) && (backToKw cpos (keywordEach [] X.env)).all (fun x=>x.1.isSome)
   && decide ((e::es).length+([]:List Keyword).length+(if([]:List Keyword).isEmpty then 0 else 1) < 30))=true:=by rfl)
  (hline:(apos.endLine == cpos.line)=true:=by rfl) (hs:starEach (e::es) X.env=(false,eval e X.env)::starEach es X.env:=by rfl) (hplain:(backTo cpos (starEach es X.env)).any (·.1)=false:=by rfl) :
  PE X (.Call (.Attribute o name apos) (e::es) [] cpos) (tBM X.K T r to t):=by
 intro pins s σ H Q I h
 refine wpAny_Call_method_late hbase hfew hline rfl (thn (ho pins s σ H _ I h) fun v s1 ⟨x,H1,I1,r1,ty,q1⟩=>?_)
 obtain⟨h1,h2⟩:=q0q I1 r1 ty
 refine⟨T,id,pa,slot,hty,h1,h2,?_⟩
 have hA:=ha cpos pins s1 σ H1 _ I1 q1
 rw [hs] at hA |-
 refine Calls.callWith_builtin (by show(false || (backTo cpos (starEach es X.env)).any (·.1))=false; rw [hplain]<;>rfl) (Calls.evalArgs_plain ?_)
 exact thn hA fun us s2 ⟨vs,H2,I2,r2,q2⟩=>hm pins s2 σ H2 x vs v us Q I2 r1 r2 q2
end
end L2
namespace L2
open PySem PySem.Spec PyProof.Rows
def MtM(X:Cx)(id:String)(r:V->List V->Hp->VK->Prop):Prop:=
 ∀(pins:List (Addr×Obj)) (s:Shared) (σ : St) (H:Hp) (x:V) (xs:List V) (v:Value) (us:List Value) (Q:VK),Inv X pins σ H s->RelV x v->Vals xs us->r x xs H Q->
  wpAny (model X.prog X.w) X.A (call (.builtin id) (v::us)) (EP X pins σ Q) X.xe s
theorem Vals.one:∀{x:V} {us:List Value},Vals [x] us->∃u,us=[u]/\RelV x u
 | _,_,.cons r .nil=>⟨_,rfl,r⟩
theorem Vals.two:∀{x y:V} {us:List Value},Vals [x,y] us->∃u v,us=[u,v]/\RelV x u/\RelV y v
 | _,_,_,.cons r (.cons q .nil)=>⟨_,_,rfl,r,q⟩
theorem Vals.zero:∀{us:List Value},Vals [] us->us=[]
 | _,.nil=>rfl
theorem Vals.eraseIdx:∀{xs:List V} {us:List Value} (i:Nat),Vals xs us->Vals (xs.eraseIdx i) (us.eraseIdx i)
 | _,_,_,.nil=>.nil
 | _,_,0,.cons _ t=>t
 | _,_,i+1,.cons r t=>.cons r (Vals.eraseIdx i t)
theorem zkj{α : Type}:∀(l:List α) (i:Nat),(l.eraseIdx i).length<=l.length
 | [],_=>Nat.le_refl _
 | _::_,0=>Nat.le_succ _
 | _::r,i+1=>Nat.succ_le_succ (zkj r i)
theorem zkt(its:List Value):∀(k:Nat) (acc:List Value),
  List.foldl (fun x1 x2=>x1++x2) acc.toArray (List.replicate k its.toArray)=(acc++(List.replicate k its).flatten).toArray
 | 0,acc=>by simp
 | k+1,acc=>by
  have e:acc.toArray++its.toArray=(acc++its).toArray:=by simp
  have e2:(acc++its)++(List.replicate k its).flatten=acc++(List.replicate (k+1) its).flatten:=by
   rw [List.replicate_succ,List.flatten_cons,List.append_assoc]
  rw [<- e2,<- zkt its k (acc++its),<- e,List.replicate_succ,List.foldl_cons]
section
variable{X:Cx}{pins:List (Addr×Obj)}{σ : St}{H:Hp}{s:Shared}{l b:Addr}{xs ys zs:List V}
theorem Inv.lset{its its':List Value}{n:Nat}{f:Array Value->Array Value}{t':Nat}(I:Inv X pins σ H s)(hH:H l=some (.lst xs))
  (e:s.heap.get? l=some {cls:=.type "list",data:=.seq its.toArray n}) (hf:f its.toArray=its'.toArray) (hv:Vals ys its') (hz:ys.length<=sizeLine) :
  Inv X pins σ (upd H l (.lst ys)) {s with heap:=s.heap.update l (Obj.mapSeq f),toks:=t'}:=by
 have q:=PySem.IsL.update e f
 rw [hf] at q
 refine I.write (x:=l) (e:=l) (by rw [hH]; exact trivial) (.inl rfl) (fun b' u hb hu=>(Heap.get?_update_other s.heap (Obj.mapSeq f) (Ne.symm hb)).trans hu) ⟨_,q⟩ ?_
 exact⟨hz,its',_,hv,q⟩
theorem Inv.lstM(I:Inv X pins σ H s)(hH:H l=some (.lst xs)):xs.length<=sizeLine/\∃(its:List Value) (n:Nat),Vals xs its/\xs.length=its.length/\s.heap.get? l=some {cls:=.type "list",data:=.seq its.toArray n}:=by
 obtain⟨z,its,n,r,e⟩:=I.hok l _ hH
 exact⟨z,its,n,r,r.length,e⟩
theorem zvo{n:Nat}(h:n<=sizeLine):Builtin.List.listTooLong n=false:=by
 unfold Builtin.List.listTooLong
 exact decide_eq_false (by omega)
end
section
variable{X:Cx}
def zar:V->List V->Hp->VK->Prop:=fun x vs H Q=>∃l xs y,x=.ref l/\vs=[y]/\H l=some (.lst xs)/\xs.length < sizeLine/\Q .non (upd H l (.lst (xs++[y])))
theorem zkc:MtM X "list.append" zar:=by
 intro pins s σ H x vs v us Q I rx rv h
 obtain⟨l,xs,y,rfl,rfl,hH,hz,q⟩:=h
 cases rx
 obtain⟨u,rfl,ru⟩:=rv.one
 obtain⟨z,its,n,r,hl,e⟩:=I.lstM hH
 refine call_meets F.slot_list_append ⟨_,e,rfl⟩ F.entry_list_append (F.args_list_append_2 _ _) (PySem.list_append l its.toArray n u (by rw [List.size_toArray]; omega)) ⟨e,?_⟩
 refine⟨.non,_,I.lset (its':=its++[u]) hH e (by simp) (r.append (.cons ru .nil)) ?_,rfl,q⟩
 rw [List.length_append,List.length_singleton]
 omega
def zaq:V->List V->Hp->VK->Prop:=fun x vs H Q=>∃l b xs zs,x=.ref l/\vs=[.ref b]/\H l=some (.lst xs)/\H b=some (.lst zs)/\xs.length+zs.length<=sizeLine/\Q .non (upd H l (.lst (xs++zs)))
theorem zkb:MtM X "list.extend" zaq:=by
 intro pins s σ H x vs v us Q I rx rv h
 obtain⟨l,b,xs,zs,rfl,rfl,hH,hB,hz,q⟩:=h
 cases rx
 obtain⟨u,rfl,ru⟩:=rv.one
 cases ru
 obtain⟨z,its,n,r,hl,e⟩:=I.lstM hH
 obtain⟨z2,its2,n2,r2,hl2,e2⟩:=I.lstM hB
 have hsz:its.toArray.size+its2.toArray.size<=sizeLine:=by rw [List.size_toArray,List.size_toArray]; omega
 have hlong:¬ (!its.toArray.isEmpty && Builtin.List.listTooLong (its.toArray.size+its2.toArray.size))=true:=by
  rw [zvo hsz,Bool.and_false]
  exact Bool.false_ne_true
 refine call_meets F.slot_list_extend ⟨_,e,rfl⟩ F.entry_list_extend (F.args_list_extend_2 _ _)
  (AutoSeq1.list_extend_list_list_0 l its.toArray n b its2.toArray n2 hlong (by rw [List.size_toArray]; omega) (by omega)) ⟨e,e2,?_⟩
 refine⟨.non,_,I.lset (its':=its++its2) hH e (by simp) (r.append r2) ?_,rfl,q⟩
 rw [List.length_append]
 omega
def zx1:V->List V->Hp->VK->Prop:=fun x vs H Q=>∃l xs i k y,x=.ref l/\vs=[.int i]/\H l=some (.lst xs)/\-(2 ^ 63)<=i/\i < 2 ^ 63/\seqIndex? i xs.length=some k/\xs[k]?=some y/\Q y (upd H l (.lst (xs.eraseIdx k)))
theorem zvp:MtM X "list.pop" zx1:=by
 intro pins s σ H x vs v us Q I rx rv h
 obtain⟨l,xs,i,k,y,rfl,rfl,hH,h1,h2,hk,hy,q⟩:=h
 cases rx
 obtain⟨u,rfl,ru⟩:=rv.one
 obtain⟨t,rfl⟩:=ru
 obtain⟨z,its,n,r,hl,e⟩:=I.lstM hH
 obtain⟨w,hw,rw'⟩:=r.get hy
 refine call_meets F.slot_list_pop ⟨_,e,rfl⟩ F.entry_list_pop (F.args_list_pop_2 _ _)
  (MeetsSeq.list_pop_at l its.toArray n i t k w (fitsIndex_both h1 h2) (by rw [List.size_toArray,<- hl]; exact hk) (by rw [<- Array.getElem?_toList]; exact hw) (by rw [List.size_toArray]; omega)) ⟨e,?_⟩
 refine⟨y,_,I.lset (its':=its.eraseIdx k) hH e ?_ (r.eraseIdx k) ?_,rw',q⟩
 ·show its.toArray.eraseIdxIfInBounds k=(its.eraseIdx k).toArray
  rw [List.eraseIdxIfInBounds_toArray]
 ·have:=zkj xs k
  omega
def q0k:R2:=fun x y H Q=>∃l b xs zs,x=.ref l/\y=.ref b/\H l=some (.lst xs)/\H b=some (.lst zs)/\xs.length+zs.length<=sizeLine/\∀p,H p=none->Q (.ref p) (upd H p (.lst (xs++zs)))
def q0i:R2:=fun x y H Q=>∃l k xs,x=.ref l/\y=.int k/\H l=some (.lst xs)/\-(2 ^ 63)<=k/\k < 2 ^ 63/\xs.length * k.toNat<=sizeLine/\
 ∀p,H p=none->Q (.ref p) (upd H p (.lst (List.replicate k.toNat xs).flatten))
theorem zze{α : Type}(xs:List α)(k:Nat):(List.replicate k xs).flatten.length=k * xs.length:=by
 induction k with
 | zero=>simp
 | succ k ih=>rw [List.replicate_succ,List.flatten_cons,List.length_append,ih,Nat.succ_mul,Nat.add_comm]
end
section
variable{prog:Program}{w:World}{A:Around}{E:Value->Shared->Prop}{s:Shared}
end
section
variable{X:Cx}
end
end L2
namespace Att
open PySem PySem.W PySem.Calls PyProof.Rows
theorem zgj{P:Params}{h:Heap}:∀(ns:List Int) (vs:List Value),WellAll P h vs (ns.map WData.int)->IntsAre vs ns:=by
 intro ns
 induction ns with
 | nil=>
  intro vs w
  rw [List.map_nil] at w
  cases w
  exact .nil
 | cons n ns ih=>
  intro vs w
  rw [List.map_cons] at w
  cases w with
  | cons a b=>
   cases a
   exact .cons _ _ (ih _ b)
theorem zrc{l:OpenLaw}{n:Nat}(hn:l.most=some n){P:Params}{h:Heap}{args:List WData}{vals:List Value}
  (hpre:l.row.toRowW.claim.pre args=true) (hwl:WellAll P h vals args) :
  ∃a vs ns,vals=[Value.ref a]/\args=[WData.list (ns.map WData.int)]/\h.get? a=some {cls:=.type "list",data:=.seq vs.toArray}/\IntsAre vs ns/\ns.length<=n:=by
 have hsh:WShape.hasAll [] args [.list .int]=true:=(pre_splitW hpre).1
 have hc:l.pre.holds [] {args:=args}=true:=(pre_splitW hpre).2
 obtain⟨d,r,rfl,h1,h2⟩:=hasAllW_cons hsh
 obtain rfl:=hasAllW_nil h2
 obtain⟨xs,rfl,h3⟩:=hasW_list h1
 obtain⟨ns,rfl⟩:=items_int h3
 have hlen:ns.length<=n:=by
  unfold OpenLaw.pre at hc
  have h4:(WTm.not (.lt (.lit (.int (n:Int))) (.len (.arg 0)))).holds [] {args:=[.list (ns.map .int)]}=true:=by
   have h4:=(holds_andW hc).1
   rw [hn] at h4
   exact h4
  have h5:=condW_of h4 (w_not (w_lt w_lit (w_len_list (w_arg rfl))))
  rw [List.length_map] at h5
  refine Nat.le_of_not_lt fun q=>?_
  have q':(n:Int) < ((ns.length:Nat):Int):=by omega
  first
   | (rw [decide_eq_true q'] at h5; exact absurd h5 (by decide))
   | (simp at h5; omega)
 cases hwl with
 | cons w1 w2=>
  cases w2
  cases w1 with
  | list ho hall=>exact⟨_,_,ns,rfl,rfl,ho,zgj ns _ hall,hlen⟩
theorem zrm(l:OpenLaw)(args:List WData):l.row.toRowW.claim.post args (.bool true) args=true:=
 postW_of (r:=l.row.toRowW) (X:=(true == true))
  (show WShape.has [] (.bool true) .bool=true by first | rfl | decide | simp[WShape.has,WShape.arms,WShape.armsAll])
  (show(WTm.eq .res (.lit (.bool true))).value [] {args:=args,res:=some (.bool true),after:=args}=some (.bool (true == true)) from w_eq_bool (w_res rfl) w_lit) rfl
theorem zh0{l:OpenLaw}{n:Nat}{q:Program}{loose:List Str}{XP:(Str->Option Value)->Heap->Prop}{YP:World->Heap->Prop}{d:DefRec}
  (hn:l.most=some n) (hdf:d.params.defaults=[])
  (call:∀(w:World) (s₀ s₁:Shared) (mg mb:Str->Option Value) (fa:Addr) (o:Obj) (pm cd doc:Value) (a:Addr) (vs:List Value) (ns:List Int),
   Ground q loose [] XP w s₀ mg mb s₁.heap->YP w s₁.heap->
   s₁.heap.get? fa=some o->o.data=.func (docDef d.name d.params d.body d.scope pm cd doc)->s₁.heap.CodeRec cd d.name->mg d.name=some (.ref fa)->
   s₁.heap.get? a=some {cls:=.type "list",data:=.seq vs.toArray}->IntsAre vs ns->ns.length<=n->s₁.gens = #[]->
   codeAny (model l.prog w) callerA (.call (.ref fa) ⟨[.ref a],[]⟩) (fun r s'=>r=.ok (.ret (.bool true))/\OldK s₁.heap s'.heap/\s'.os=s₁.os/\AllBare s'.gens) s₁) :
  WalkO q loose XP YP l.row.toRowW d [] (fun f vs=>PySem.call f vs):=by
 intro w s₀ s₁ mg mb G Y fa o pm cd doc dV kV ho hd hcd hD hmg hg args vals as hpre hlay hrd hwl hlo
 obtain rfl:dV=.none:=Dflts.none hD hdf
 obtain rfl:kV=.none:=Dflts.noKw hD
 obtain⟨a,vs,ns,rfl,rfl,hobj,hints,hlen⟩:=zrc hn hpre hwl
 refine enter_call (codeAny_mono (call w s₀ s₁ mg mb fa o pm cd doc a vs ns G Y ho (fd_plain hd) hcd hmg hobj hints hlen hg) fun r s' hq=>?_)
 obtain⟨rfl,h2,h3,h4⟩:=hq
 exact⟨.inl ⟨.bool true,.bool true,[],rfl,fun _=>rfl,.bool true,zrm l _,fun _=>⟨List.Pairwise.nil,fun _ hm=>(nomatch hm)⟩⟩,h2,h3,h4⟩
section
variable{prog:Program}{w:World}{A:Around}{E:Value->Shared->Prop}{s:Shared}{K:Frag}
def q45(h:Heap)(L d:Addr):List (Addr×Obj):=(List.range h.objs.size).filterMap fun a=>if a=L\/a=d then none else(h.get? a).map fun o=>(a,o)
end
end Att
namespace L2
open PySem PySem.Spec PyProof.Rows
theorem zfg:∀{vs:List Value} {ns:List Int},IntsAre vs ns->Vals (ns.map V.int) vs
 | _,_,.nil=>.nil
 | _,_,.cons n t h=>.cons ⟨t,rfl⟩ (zfg h)
def q3o(H:Hp):Prop:=∀b,H b=none\/∃o xs,H b=some (.frz o (.lst xs))
theorem zvv{P:Program}{w:World}{K:PySem.W.Frag}{mg mb:Str->Option Value}{CX:CXT}{k:Nat}{fa a:Addr}{fd:FuncData}{x:Str}{sp:Sp}{s₁:Shared}{vs:List Value}{ns:List Int}
  (KX:K.In s₁.heap) (hns:s₁.heap.Ns mainGlobals mg) (hb:s₁.heap.Ns builtinsNs mb) (hbb:∀x:Str,x≠"__name__"->mb x=bootBuiltins x) (hlim:s₁.heap.NoLimit) (hg:s₁.gens = #[])
  (ha:s₁.heap.get? a=some {cls:=.type "list",data:=.seq vs.toArray}) (hi:IntsAre vs ns) (hl:ns.length<=sizeLine) (hr:Room k callerA)
  (F:∀base:Heap,K.In base->base.Ns mainGlobals mg->FnOk P w K mg base CX k fa fd [x] sp) (hbind:∀(s:Shared) (u:Value),BindsTo s fd ⟨[u],[]⟩ [(x,u)])
  (hsp:∀H:Hp,q3o H->SqL K H a (ns.map V.int)->sp [.ref a] H (fun v _=>v=.bl true) fun _ _ _=>False)
  (hCX:∀H e s',CX [] H s₁ (fun _ _ _=>False) e s'->False) :
  codeAny (model P w) callerA (.call (.ref fa) ⟨[.ref a],[]⟩) (fun r s'=>r=.ok (.ret (.bool true))/\OldK s₁.heap s'.heap/\s'.os=s₁.os/\AllBare s'.gens) s₁:=by
 have rv:=zfg hi
 have lenV:=hi.length
 have core:∀H:Hp,q3o H->SqL K H a (ns.map V.int)->HOk P w H s₁.heap->(∀b,H b≠none->b=a)->(H a≠none->K.lookup a=none)->
   codeAny (model P w) callerA (.call (.ref fa) ⟨[.ref a],[]⟩) (fun r s'=>r=.ok (.ret (.bool true))/\OldK s₁.heap s'.heap/\s'.os=s₁.os/\AllBare s'.gens) s₁:=by
  intro H hO hS hok hA hK
  have base_of:∀{b:Addr} {o:Obj},s₁.heap.get? b=some o->H b=none->(zn2 s₁.heap H).get? b=some o:=fun e n=>zom e n
  have noA:∀{b:Addr} {o:Obj} {es:Array DictEntry} {ep:Nat},s₁.heap.get? b=some o->o.data=.dict es ep->H b=none:=fun {b o es ep} e d=>by
   cases q:H b with
   | none=>rfl
   | some u=>
    have e':b=a:=hA b (by rw [q]; simp)
    subst e'
    rw [ha] at e; cases e
    have d':Data.seq vs.toArray _=Data.dict es ep:=d
    cases d'
  have nsK:∀{b:Addr} {m:Str->Option Value},s₁.heap.Ns b m->(zn2 s₁.heap H).Ns b m:=fun {b m} ⟨o,es,ep,e,d,r⟩=>⟨o,es,ep,base_of e (noA e d),d,r⟩
  have hKb:K.In (zn2 s₁.heap H):=fun b o e=>base_of (KX b o e) (by
   cases q:H b with
   | none=>rfl
   | some u=>
    have e':b=a:=hA b (by rw [q]; simp)
    subst e'
    rw [hK (by rw [q]; simp)] at e; cases e)
  have hM:Mod K mg (zn2 s₁.heap H):=⟨hKb,nsK hns,⟨mb,nsK hb,hbb⟩,let ⟨mc,h1,h2⟩:=hlim; ⟨mc,nsK h1,h2⟩⟩
  have e0:Env0 P w K mg (zn2 s₁.heap H) callerA [] s₁ H:=⟨rfl,hM,fun b o e=>zs9 e,Nat.le_of_eq (zkp _ _),trivial,fun b hb=>absurd (show b∈([]:List Addr) from hb) (by simp),hok,.of_eq hg⟩
  refine codeAny_mono ((F _ hKb (nsK hns)).run callerA [] s₁ H ⟨[.ref a],[]⟩ [.ref a] [.ref a] _ _ hr e0 (hbind s₁ (.ref a)) (.cons rfl .nil) (hsp H hO hS)) fun r s' h=>?_
  cases r with
  | error e=>exact(hCX H e s' h).elim
  | ok fl=>
   cases fl with
   | next=>exact False.elim h
   | brk=>exact False.elim h
   | cont=>exact False.elim h
   | ret u=>
    obtain⟨v,H',os,bare,un,hok',r',q⟩:=h
    have q':v=.bl true:=q
    subst q'
    obtain rfl:u=Value.bool true:=r'
    refine⟨rfl,OldK.of_keep fun b o e=>?_,os,bare⟩
    cases q:H b with
    | none=>exact un.keep b o e q (by intro z; exact absurd (show b∈([]:List Addr) from z) (by simp)) (by simp)
    | some u=>
     rcases hO b with z | ⟨ob,xs,z⟩
     ·rw [q] at z; cases z
     ·have z2:=un.frzs b ob _ z
      obtain⟨e1,_⟩:=hok b _ z
      obtain⟨e2,_⟩:=hok' b _ z2
      rw [e] at e1; cases e1
      exact e2
 cases hk:K.lookup a with
 | some o=>
  have e:=KX a o hk
  rw [ha] at e
  cases e
  refine core (fun _=>none) (fun _=>.inl rfl) (.inr ⟨_,vs.toArray,_,hk,rfl,rfl,rfl,by rw [List.size_toArray,lenV]; exact hl,by simpa using rv⟩) (fun b u z=>by have z':(none:Option HO)=some u:=z; cases z') (fun b z=>absurd rfl z) fun z=>absurd rfl z
 | none=>
  refine core (fun b=>if b=a then some (.frz {cls:=.type "list",data:=.seq vs.toArray} (.lst (ns.map V.int))) else none) (fun b=>?_) (.inl (.inr ⟨{cls:=.type "list",data:=.seq vs.toArray},if_pos rfl⟩)) (fun b u z=>?_) (fun b z=>?_) fun _=>hk
  ·by_cases hb:b=a
   ·exact .inr ⟨_,_,if_pos hb⟩
   ·exact .inl (if_neg hb)
  ·by_cases hb:b=a
   ·have z':=(if_pos hb).symm.trans z
    cases z'
    subst hb
    exact⟨ha,by rw [List.length_map]; exact hl,vs,_,rv,ha⟩
   ·have z':=(if_neg hb).symm.trans z
    cases z'
  ·by_cases hb:b=a
   ·exact hb
   ·exact absurd (if_neg hb) z
end L2
namespace L2
open PySem PySem.Spec PyProof.Rows
abbrev KOf{K:PySem.W.Frag}{h:Heap}(_:K.In h):PySem.W.Frag:=K
theorem q2z{l:PySem.W.OpenLaw}{n k:Nat}{q:Program}{loose:List Str}{XP:(Str->Option Value)->Heap->Prop}{YP:World->Heap->Prop}{d:DefRec}{K:Params->PySem.W.Frag}{CX:World->CXT}{sp:World->Sp}{x:Str}
  (hn:l.most=some n) (hn2:n<=sizeLine) (hdf:d.params.defaults=[]) (hr:Room k callerA)
  (hY:∀(w:World) (h:Heap),YP w h->(K w.params).In h)
  (F:∀(w:World) (mg:Str->Option Value) (fa:Addr) (h:Heap),(K w.params).In h->h.Ns mainGlobals mg->mg d.name=some (.ref fa)->
   ∃fd:FuncData,(∀(s:Shared) (u:Value),BindsTo s fd ⟨[u],[]⟩ [(x,u)])/\
    ∀base:Heap,(K w.params).In base->base.Ns mainGlobals mg->FnOk l.prog w (K w.params) mg base (CX w) k fa fd [x] (sp w))
  (hsp:∀(w:World) (H:Hp) (a:Addr) (ns:List Int),ns.length<=n->q3o H->SqL (K w.params) H a (ns.map V.int)->sp w [.ref a] H (fun v _=>v=.bl true) fun _ _ _=>False)
  (hCX:∀(w:World) (H:Hp) (s:Shared) (e:Value) (s':Shared),CX w [] H s (fun _ _ _=>False) e s'->False) :
  PySem.W.WalkO q loose XP YP l.row.toRowW d [] (fun f vs=>PySem.call f vs):=by
 refine Att.zh0 hn hdf fun w s₀ s₁ mg mb fa o pm cd doc a vs ns G Y ho hd hcd hmg hobj hints hlen hg=>?_
 have KX:=hY w _ Y
 obtain⟨fd,hb,hF⟩:=F w mg fa _ KX G.T.g hmg
 exact zvv KX G.T.g G.T.b G.T.builtins G.T.nolimit hg hobj hints (Nat.le_trans hlen hn2) hr hF hb (fun H hO hS=>hsp w H a ns hlen hO hS) fun H e s'=>hCX w H s₁ e s'
end L2
namespace L2
open PySem PySem.Spec PyProof.Rows
def defArgs(s:Stmt):Arguments:=match s with
 | .FunctionDef _ a _ _ _ _ _ _ _ _=>a
 | _=>{posonlyargs:=[],args:=[],vararg:=none,kwonlyargs:=[],kw_defaults:=[],kwarg:=none,defaults:=[]}
def defBody(s:Stmt):List Stmt:=match s with
 | .FunctionDef _ _ b _ _ _ _ _ _ _=>b
 | _=>[]
def defScope(s:Stmt):Scope:=match s with
 | .FunctionDef _ _ _ _ _ _ sc _ _ _=>sc
 | _=>{kind:=.function,names:=[],isGenerator:=false,isCoroutine:=false}
abbrev CX0:CXT:=fun _ _ _ _ _ _=>False
abbrev E0:XK:=fun _ _ _=>False
structure Fun(K:PySem.W.Frag)(x qual:Str)(st:Stmt)(f:Addr)(fd:FuncData):Prop where
 ex:∃(oc:Value) (od:Option Addr) (kV doc pm:Value) (an:Option Addr) (cdv ct:Value) (osl:Array (Option Value)),
  fd=PySem.W.fnOf x qual (defArgs st) (defBody st) (defScope st) .none kV doc pm an cdv ct/\K.lookup f=some ⟨oc,od,.func fd,osl⟩/\PySem.W.codeIn K cdv qual=true
 kp:PySem.W.keepIn K (.ref f)=true
section
variable{P:Program}{w:World}{K:PySem.W.Frag}{mg:Str->Option Value}{base:Heap}
theorem Fun.ok{x qual:Str}{st:Stmt}{f:Addr}{fd:FuncData}{N ps:List Str}{k:Nat}{sp:Sp}(F:Fun K x qual st f fd)(S:FnScope N ps (defScope st))(len:∀vs H Q E,sp vs H Q E->vs.length=ps.length)
  (hbody:∀(cdv:Value) (A:Around) (outer:List Env) (s:Shared) (H:Hp) (vs:List V) (Q:VK) (E:XK),Room k (A.deeper (envOfC qual (defScope st) s.heap.objs.size f cdv))->sp vs H Q E->
   ∃t,PSs (zjr CX0 P w K mg base N qual (defScope st) f cdv A outer s H E).nox (defBody st) t/\t {nx:=fun _ H'=>Q .non H',rt:=Q} (start N vs) H):FnOk P w K mg base CX0 (k+1) f fd ps sp:=by
 obtain⟨oc,od,kV,doc,pm,an,cdv,ct,osl,rfl,lk,hcd⟩:=F.ex
 refine q21 lk hcd S len fun A outer s H vs Q E hr hsp=>?_
 obtain⟨t,h,q⟩:=hbody cdv A outer s H vs Q E hr hsp
 exact⟨t,h.nox,q⟩
theorem Fun.binds{x qual:Str}{st:Stmt}{f:Addr}{fd:FuncData}{ps:List Str}(F:Fun K x qual st f fd)
  (h:∀(kV doc pm:Value) (an:Option Addr) (cdv ct:Value) (us:List Value),us.length=ps.length->bindArgs (PySem.W.fnOf x qual (defArgs st) (defBody st) (defScope st) .none kV doc pm an cdv ct) ⟨us,[]⟩=pure (ps.zip us)):Binds K fd ps []:=by
 obtain⟨oc,od,kV,doc,pm,an,cdv,ct,osl,rfl,lk,hcd⟩:=F.ex
 exact .all (h kV doc pm an cdv ct)
theorem z16{x qual:Str}{st:Stmt}{f:Addr}{oc:Value}{od an:Option Addr}{osl:Array (Option Value)}{kV doc pm cdv ct:Value}(l:K.lookup f=some ⟨oc,od,.func (PySem.W.fnOf x qual (defArgs st) (defBody st) (defScope st) .none kV doc pm an cdv ct),osl⟩)
  (c:PySem.W.codeIn K cdv qual=true) (k:PySem.W.keepIn K (.ref f)=true):Fun K x qual st f (PySem.W.fnOf x qual (defArgs st) (defBody st) (defScope st) .none kV doc pm an cdv ct):=⟨⟨oc,od,kV,doc,pm,an,cdv,ct,osl,rfl,l,c⟩,k⟩
end
theorem z20{n:Nat}(h:n<=1000):n < sizeLine:=Nat.lt_of_le_of_lt h (by decide)
section
variable{X:Cx}
theorem pv(i:Nat){x:Str}{pos:Pos}(hN:X.N[i]?=some x:=by rfl)(hv:Vis X.env.scope x:=by first | exact Or.inl rfl | exact Or.inr (Or.inl rfl) | exact Or.inr (Or.inr rfl)) (hd:(x == ("__debug__" : Str))=false:=by decide)
  (hcd:(x == ("__classdict__" : Str))=false:=by decide):PE X (.Name x pos) (zpe i):=z00 hN hv hd hcd
end
def Same(H H':Hp):Prop:=∀b o,H b=some o->H' b=some o
theorem Same.refl(H:Hp):Same H H:=fun _ _ h=>h
theorem Same.trans{H H1 H2:Hp}(a:Same H H1)(b:Same H1 H2):Same H H2:=fun c o h=>b c o (a c o h)
theorem Same.free{H H':Hp}(e:Same H H'){l:Addr}(h:H' l=Option.none):H l=Option.none:=by
 cases q:H l with
 | none=>rfl
 | some o=>
  rw [e l o q] at h
  cases h
theorem Same.seq{K:PySem.W.Frag}{H H':Hp}{a:Addr}{xs:List V}(e:Same H H')(h:SqL K H a xs):SqL K H' a xs:=by
 rcases h with(h | ⟨o,h⟩) | h
 ·exact .inl (.inl (e _ _ h))
 ·exact .inl (.inr ⟨o,e _ _ h⟩)
 ·exact .inr h
end L2
set_option Elab.async false
set_option linter.all false
set_option maxRecDepth 100000
namespace L2
open PySem PySem.Spec PyProof.Rows
theorem znm(env:Env):∀(names:List (Str×NameKind)) (acc:List (Str×Addr)),(∀y∈names,y.2=.free->∃c,env.cells.lookup y.1=some c)->(∀x c,acc.lookup x=some c->env.cells.lookup x=some c)->
  ∃cl,(forIn names acc fun(p:Str×NameKind) (r:List (Str×Addr))=>(match p with | (name,kind)=>if(kind == NameKind.free)=true then(do let c <- cellOf env name; pure (ForInStep.yield ((name,c)::r))) else pure (ForInStep.yield r)):Sem (List (Str×Addr)))=pure cl/\
   (∀x c,cl.lookup x=some c->env.cells.lookup x=some c)/\(∀x,(∃c,acc.lookup x=some c)->∃c,cl.lookup x=some c)/\(∀y∈names,y.2=.free->∃c,cl.lookup y.1=some c)
 | [],acc,_,ha=>⟨acc,by simp,ha,fun _ h=>h,fun _ h=>absurd h (by simp)⟩
 | (n,k)::r,acc,hn,ha=>by
  by_cases hk:k=.free
  ·obtain⟨c,hc⟩:=hn (n,k) List.mem_cons_self hk
   have ha':∀x c',((n,c)::acc).lookup x=some c'->env.cells.lookup x=some c':=fun x c' h=>by
    by_cases hx:x=n
    ·subst hx
     rw [List.lookup_cons_self] at h
     cases h; exact hc
    ·have hx':(x == n)=false:=by simpa using hx
     simp only[List.lookup_cons,hx'] at h
     exact ha x c' h
   obtain⟨cl,e,p1,p2,p3⟩:=znm env r ((n,c)::acc) (fun y hy=>hn y (List.mem_cons_of_mem _ hy)) ha'
   refine⟨cl,?_,p1,fun x ⟨c',hc'⟩=>p2 x ?_,fun y hy hf=>?_⟩
   ·have hco:cellOf env n=pure c:=by unfold cellOf; rw [hc]
    rw [List.forIn_cons]
    subst hk
    simp only[beq_self_eq_true,if_true,hco,pure_bind]
    exact e
   ·by_cases hx:x=n
    ·exact⟨c,by subst hx; rw [List.lookup_cons_self]⟩
    ·have hx':(x == n)=false:=by simpa using hx
     exact⟨c',by simp only[List.lookup_cons,hx']; exact hc'⟩
   ·rcases List.mem_cons.mp hy with rfl | hy
    ·exact p2 _ ⟨c,by rw [List.lookup_cons_self]⟩
    ·exact p3 y hy hf
  ·obtain⟨cl,e,p1,p2,p3⟩:=znm env r acc (fun y hy=>hn y (List.mem_cons_of_mem _ hy)) ha
   refine⟨cl,?_,p1,p2,fun y hy hf=>?_⟩
   ·have hb:(k == NameKind.free)=false:=by simpa using hk
    rw [List.forIn_cons]
    simp only[hb,Bool.false_eq_true,if_false,pure_bind]
    exact e
   ·rcases List.mem_cons.mp hy with rfl | hy
    ·exact absurd hf hk
    ·exact p3 y hy hf
theorem zu1{scope:Scope}{env:Env}(h:∀y∈scope.names,y.2=.free->∃c,env.cells.lookup y.1=some c) :
  ∃cl,closureFor scope env=pure cl/\(∀x c,cl.lookup x=some c->env.cells.lookup x=some c)/\(∀y∈scope.names,y.2=.free->∃c,cl.lookup y.1=some c):=by
 obtain⟨cl,e,p1,_,p3⟩:=znm env scope.names [] h (fun x c q=>by simp at q)
 refine⟨cl,?_,p1,p3⟩
 unfold closureFor
 simp only[bind_pure]
 exact e
theorem z6u{env:Env}:∀{names:List (Str×NameKind)} {x:Str} {k:NameKind},(names.map fun(n,k)=>if(k == NameKind.free && env.scope.kind == .function && env.kindOf n == some .cell) then(n,NameKind.cell) else(n,k)).lookup x=some k->
  (∀y∈names,y.2≠.cell)->k=.cell\/k=.free->names.lookup x=some .free
 | [],_,_,h,_,_=>by simp at h
 | (n,k0)::r,x,k,h,hc,hk=>by
  have ih:=@z6u env r x k
  rw [List.map_cons] at h
  cases hx:x == n with
  | true=>
   have hn:k0≠.cell:=hc (n,k0) List.mem_cons_self
   simp only[List.lookup_cons,hx]
   by_cases hcnd:(k0 == NameKind.free && env.scope.kind == .function && env.kindOf n == some .cell)=true
   ·have:k0=.free:=by
     simp only[Bool.and_eq_true,beq_iff_eq] at hcnd
     exact hcnd.1.1
    rw [this]
   ·dsimp only at h
    rw [if_neg hcnd] at h
    simp only[List.lookup_cons,hx] at h
    have h:k0=k:=by simpa using h
    subst h
    rcases hk with hk | hk
    ·exact absurd hk hn
    ·rw [hk]
  | false=>
   simp only[List.lookup_cons,hx]
   refine ih ?_ (fun y hy=>hc y (List.mem_cons_of_mem _ hy)) hk
   by_cases hcnd:(k0 == NameKind.free && env.scope.kind == .function && env.kindOf n == some .cell)=true
   ·dsimp only at h
    rw [if_pos hcnd] at h
    simp only[List.lookup_cons,hx] at h; exact h
   ·dsimp only at h
    rw [if_neg hcnd] at h
    simp only[List.lookup_cons,hx] at h; exact h
def z3y(X:Cx)(N':List Str)(scope:Scope)(cl:List (Str×Addr))(C:Addr)(s₀:Shared)(H₀:Hp)(ex:List Addr):Cx:=
 {X with N:=N',s₀:=s₀,H₀:=H₀,env:=compEnvC scope cl C X.env,outer:=X.stack,stack:=X.stack,ex:=ex,fn:=fun _=>false,pn:=[],xe:=fun _ _=>False}
def subσ(mp:List (Option Nat))(σ : St):St:=mp.map fun o=>match o with | none=>none | some i=>(σ[i]?).getD none
def compOk(N:List Str)(on inn:List (Str×NameKind))(N':List Str)(mp:List (Option Nat)):Bool:=
 mp.length == N'.length && (N'.zip mp).all fun p=>match p.2 with
  | none=>true
  | some i=>N[i]? == some p.1 && inn.lookup p.1 == some .free && on.lookup p.1 == some .cell
def PIf(X:Cx)(ifs:List Expr)(t:TT):Prop:=
 ∀(pins:List (Addr×Obj)) (s:Shared) (σ : St) (H:Hp) (Q:Bool->Hp->Prop),Inv X pins σ H s->t σ H Q->
  wpAny (model X.prog X.w) X.A (forIn ifs true fun c r=>if r=true then do let ok <- isTrue c X.env (eval c X.env); pure (ForInStep.yield ok) else pure (ForInStep.yield r)) (TP X pins σ Q) X.xe s
def zwq:TT:=fun _ H Q=>Q true H
theorem z81{X:Cx}:PIf X [] zwq:=fun pins s σ H Q I h=>wpAny_tests_nil ⟨H,I,h⟩
theorem zyn{X:Cx}{c:Expr}{t:TT}(h:PT X c t):PIf X [c] t:=fun pins s σ H Q I q=>wpAny_tests_one (h pins s σ H Q I q)
theorem ztx{prog:Program}{w:World}{A:Around}{s:Shared}{elt target iter:PySem.Expr}{ifs:List PySem.Expr}{scope:Scope}{pos:Pos}{it acc:Value}{env:Env}{R:Result->Shared->Prop}(I:Nat->Shared->Prop)
  (turn:∀n s,I n s->wpAny (model prog w) A (pyNext it) (fun r s₁=>match r with
   | none=>R (.ok .next) s₁
   | some v=>wpAny (model prog w) A (letOwnedTupleGo target it v) (fun _ s₀=>wpAny (model prog w) A (assign target env v) (fun _ s₂=>
     wpAny (model prog w) A (forIn ifs true fun c r=>if r=true then do let ok <- isTrue c env (eval c env); pure (ForInStep.yield ok) else pure (ForInStep.yield r)) (fun ok s₃=>if ok=true then wpAny (model prog w) A (eval elt env) (fun x s₄=>
      wpAny (model prog w) A (call (.builtin "list.append") [acc,x]) (fun _ s₅=>∃m,m < n/\I m s₅) (fun _ _=>False) s₄) (fun _ _=>False) s₃
      else ∃m,m < n/\I m s₃) (fun _ _=>False) s₂)
     (fun _ _=>False) s₀) (fun _ _=>False) s₁) (fun _ _=>False) s)
  (n:Nat) (h:I n s):codeAny (model prog w) A (.compLoop (.ListComp elt [⟨target,iter,ifs,0⟩] scope pos) 0 it acc env) R s:=by
 refine codeAny_loop rfl I (fun n s hI=>?_) n h
 show wpAny _ A ((compTurn (.ListComp elt [⟨target,iter,ifs,0⟩] scope pos) 0 it acc env).onRaise (fun x=>do noteFrame x env; theTreesLotGoes x)) _ _ s
 refine wpAny_noted ?_
 rw [compTurn_list]
 refine wpAny_bind (wpAny_standAt (wpAny_bind (wpAny_mono (turn n s hI) (fun r s₁ h₁=>?_) fun _ _ h'=>h'.elim)))
 cases r with
 | none=>exact wpAny_pure h₁
 | some v=>
  refine wpAny_bind (wpAny_mono h₁ (fun _ s₀ h₀'=>?_) fun _ _ h'=>h'.elim)
  refine wpAny_bind (wpAny_mono h₀' (fun _ s₂ h₂=>?_) fun _ _ h'=>h'.elim)
  refine wpAny_bind (wpAny_mono h₂ (fun okb s₃ h₃=>?_) fun _ _ h'=>h'.elim)
  cases okb with
  | false=>exact wpAny_pure ⟨rfl,h₃⟩
  | true=>exact wpAny_bind (wpAny_bind (wpAny_mono h₃ (fun x s₄ h₄=>wpAny_bind (wpAny_mono h₄ (fun _ s₅ h₅=>wpAny_pure (wpAny_pure ⟨rfl,h₅⟩)) fun _ _ h'=>h'.elim)) fun _ _ h'=>h'.elim))
theorem Inv.track{X:Cx}{pins:List (Addr×Obj)}{σ : St}{H:Hp}{s:Shared}{a:Addr}{o:HO}(I:Inv X pins σ H s)(hn:H a=none)(f:FpOk X pins H a)(new:ObjOk X.prog X.w (upd H a o) s.heap a o):Inv X pins σ (upd H a o) s:=by
 obtain⟨_,f1,f2,f3,f4,f5⟩:=f
 have na:∀b u,H b=some u->b≠a:=fun b u e=>z0h e hn
 have J:=I.step (g':=s.gens) (t':=s.toks) (d':=s.drawn) (ch:=[a]) (h':=s.heap) (H':=upd H a o) (fun b hb=>by
   have e:b=a:=by simpa using hb
   subst e
   exact⟨f3,f1,f4,f5⟩) (fun b o _ _ _ e _=>e) (fun b o _ _ _ e _=>⟨o.slots,e⟩) (fun b o hb _ n=>by rw [z0a (by simpa using hb)]; exact n) (fun b o _ e=>⟨o,e⟩)
  (fun b xs e=>by rw [z0a (na b _ e)]; exact e) (fun b o u e=>by rw [z0a (na b _ e)]; exact e) (fun b ps e=>⟨#[],by rw [z0a (na b _ e),e]; simp⟩) (fun m hm=>hm) (fun b u e=>by
   by_cases hb:b=a
   ·subst hb; rw [z01] at e; cases e; exact new
   ·rw [z0a hb] at e
    exact(I.hok b u e).stay (fun c v _ q=>q) (fun c q=>by rw [z0a (na c _ q)]; exact q) fun c xs q=>by rw [z0a (na c _ q)]; exact q) I.bare
 exact J
def zh7(wi:TI)(g:TG)(tt:TT)(te:TE)(mp:List (Option Nat)):TE:=fun σ H Q=>wi σ H fun J H1=>∃W:Nat->Nat->List V->St->Hp->Prop,(∃m,W 0 m [] (subσ mp σ) H1)/\∀i m ys σ H,W i m ys σ H->
 (J.stop i H/\ys.length<=sizeLine/\∀p,H p=none->Q (.ref p) (upd H p (.lst ys)))\/(J.go i H/\ys.length < sizeLine/\∃N:List V->St->Hp->Prop,(∀ys' σ' H',N ys' σ' H'->∃m',m' < m/\W (i+1) m' ys' σ' H')/\∀x H',J.yld i H x H'->g x σ H' fun σ2 H2=>tt σ2 H2 fun b H3=>
  if b=true then te σ2 H3 (fun v H4=>N (ys++[v]) σ2 H4) else N ys σ2 H3)
structure CompS(X:Cx)(N':List Str)(scope:Scope)(mp:List (Option Nat)):Prop where
 kind:scope.kind=.function
 nocell:∀y∈scope.names,y.2≠.cell
 locs:∀y∈scope.names,y.2=.local->scope.names.lookup y.1=some .local
 frees:∀y∈scope.names,y.2=.free->X.env.scope.names.lookup y.1=some .cell
 ok:compOk X.N X.env.scope.names scope.names N' mp=true
theorem zqn{N:List Str}{on inn:List (Str×NameKind)}{N':List Str}{mp:List (Option Nat)}(h:compOk N on inn N' mp=true):mp.length=N'.length/\∀(j:Nat) (x:Str) (i:Nat),N'[j]?=some x->mp[j]?=some (some i)->N[i]?=some x/\inn.lookup x=some .free/\on.lookup x=some .cell:=by
 unfold compOk at h
 rw [Bool.and_eq_true] at h
 obtain⟨h1,h2⟩:=h
 refine⟨by simpa using h1,fun j x i e1 e2=>?_⟩
 have hm:(x,some i)∈N'.zip mp:=by
  refine List.mem_of_getElem? (i:=j) ?_
  rw [List.getElem?_zip_eq_some]
  exact⟨e1,e2⟩
 have q:=List.all_eq_true.mp h2 _ hm
 simp only[Bool.and_eq_true,beq_iff_eq] at q
 exact⟨q.1.1,q.1.2,q.2⟩
theorem subσ_get{mp:List (Option Nat)}{σ : St}{j:Nat}{v:V}(h:(subσ mp σ)[j]?=some (some v)):∃i,mp[j]?=some (some i)/\σ[i]?=some (some v):=by
 unfold subσ at h
 rw [List.getElem?_map] at h
 cases e:mp[j]? with
 | none=>rw [e] at h; cases h
 | some o=>
  rw [e] at h
  cases o with
  | none=>simp at h
  | some i=>
   refine⟨i,rfl,?_⟩
   cases e2 : σ[i]? with
   | none=>simp[e2] at h
   | some z=>
    simp[e2] at h
    rw [h]
section
variable{X:Cx}{pins:List (Addr×Obj)}{σ : St}{H:Hp}
theorem zl5{elt tg iter:Expr}{ifs:List Expr}{scope:Scope}{pos:Pos}{N':List Str}{mp:List (Option Nat)}{g:TG}{tt:TT}{te:TE}{s₂:Shared}{it:Addr}{fp:List Addr}{tn:Nat->Heap->Prop}{J:It}{cl:List (Str×Addr)}
  {Qe:V->Hp->Prop} {RR:Value->Addr->Result->Shared->Prop} {E:Value->Shared->Prop} (hc:X.calm=true) (S:CompS X N' scope mp)
  (hcl:∀x c,cl.lookup x=some c->X.env.cells.lookup x=some c) (hcf:∀y∈scope.names,y.2=.free->∃c,cl.lookup y.1=some c)
  (hg:∀C s₀ H₀ ex,PG (z3y X N' scope cl C s₀ H₀ ex) tg g) (ht:∀C s₀ H₀ ex,PIf (z3y X N' scope cl C s₀ H₀ ex) ifs tt) (he:∀C s₀ H₀ ex,PE (z3y X N' scope cl C s₀ H₀ ex) elt te)
  (I:Inv X pins σ H s₂) (T:Turn X.prog X.w X.K tg J fp it tn) (st:tn 0 s₂.heap) (hf:∀b∈fp,FpOk X pins H b)
  (hw:∃W:Nat->Nat->List V->St->Hp->Prop,(∃m,W 0 m [] (subσ mp σ) H)/\∀i m ys σ H,W i m ys σ H->
   (J.stop i H/\ys.length<=sizeLine/\∀p,H p=none->Qe (.ref p) (upd H p (.lst ys)))\/(J.go i H/\ys.length < sizeLine/\∃N:List V->St->Hp->Prop,(∀ys' σ' H',N ys' σ' H'->∃m',m' < m/\W (i+1) m' ys' σ' H')/\∀x H',J.yld i H x H'->g x σ H' fun σ2 H2=>tt σ2 H2 fun b H3=>
  if b=true then te σ2 H3 (fun v H4=>N (ys++[v]) σ2 H4) else N ys σ2 H3))
  (hR:∀(D C:Addr) (H':Hp) (s':Shared),Inv X pins σ H' s'->Qe (.ref D) H'->(∃m,s'.heap.Ns C m)->FpOk X pins H' C->RR (.ref D) C (.ok .next) s') :
  wpAny (model X.prog X.w) X.A (newList []) (fun acc s₃=>wpAny (model X.prog X.w) X.A (newFunctionEnv scope X.env.globals cl [] X.env.qual none .none (some X.env)) (fun cenv s₄=>
   codeAny (model X.prog X.w) X.A (.compStart (.ListComp elt [⟨tg,iter,ifs,0⟩] scope pos) 0 (.ref it) acc {cenv with scope:=relabel scope X.env}) (RR acc cenv.locals) s₄) E s₃) E s₂:=by
 obtain⟨W,⟨m0,w0⟩,turn⟩:=hw
 refine wpAny_newObj_type (wpAny_newFunctionEnv S.nocell (by intro y hy; simp at hy) (fun h₁ hns₁ hsb₁=>?_) S.kind)
 dsimp only at hns₁ hsb₁ |-
 generalize hH2:s₂.heap.push {cls:=.type "list",dict:=none,data:=.seq ([]:List Value).toArray}=H2 at hns₁ hsb₁ |-
 have hCs:H2.objs.size=s₂.heap.objs.size+1:=by rw [<- hH2,Heap.size_push]
 have I3:Inv X pins σ H {s₂ with heap:=H2}:=by
  rw [<- hH2]
  exact I.kept (t':=s₂.toks) fun b o e=>Heap.get?_push_of_some _ e
 have k1:∀b u,H2.get? b=some u->h₁.get? b=some u:=fun b u e=>hsb₁.extBut b u (Nat.ne_of_lt (Heap.lt_size e)) (Heap.get?_push_of_some _ e)
 have accOk:FpOk X pins H s₂.heap.objs.size:=I.fpOk (Nat.le_refl _) (I.hok.fresh (Nat.le_refl _))
 have COk:FpOk X pins H H2.objs.size:=I3.fpOk (Nat.le_refl _) (I3.hok.fresh (Nat.le_refl _))
 have fpLt:∀b∈fp,b < s₂.heap.objs.size:=fun b hb=>let ⟨o,e,_⟩:=T.obj 0 _ st b hb; Heap.lt_size e
 have accNf:s₂.heap.objs.size∉fp:=fun z=>absurd (fpLt _ z) (Nat.lt_irrefl _)
 have accNC:s₂.heap.objs.size≠H2.objs.size:=by rw [hCs]; exact Nat.ne_of_lt (Nat.lt_succ_self _)
 have exAll:∀b∈s₂.heap.objs.size::fp,FpOk X pins H b:=fun b hb=>(List.mem_cons.mp hb).elim (fun e=>e ▸ accOk) (hf b)
 have exNC:∀b∈s₂.heap.objs.size::fp,b≠H2.objs.size:=fun b hb=>(List.mem_cons.mp hb).elim (fun e=>e ▸ accNC) fun z=>Nat.ne_of_lt (Nat.lt_trans (fpLt b z) (by rw [hCs]; exact Nat.lt_succ_self _))
 have stkN:∀b,FpOk X pins H b->b∉frs X.stack:=fun b f z=>(List.mem_cons.mp (I.stkSub b z)).elim f.2.1 f.2.2.1
 have ok':(z3y X N' scope cl H2.objs.size {s₂ with heap:=H2} H (s₂.heap.objs.size::fp)).Ok:=by
  refine⟨I.ok.mod,S.kind,I.ok.glob,I.ok.blt,Nat.le_refl _,fun x y c h1 h2=>I.ok.inj x y c (hcl x c h1) (hcl y c h2),fun x hx=>?_,fun x c hx=>absurd hx (by show ¬ false=true; decide),I.ok.hd,I.ok.frames,.inl rfl,
   fun b hb=>⟨exNC b hb,fun x c e=>(exAll b hb).2.2.2.2.1 x c (hcl x c e)⟩,fun b o e=>I3.bs b o e,Nat.le_trans I.ok.bsz I3.sz,fun b o e hb=>?_,fun b hb=>stkN b (exAll b hb),I3.stack,I3.stkFree⟩
  ·have hx':(relabel scope X.env).names.lookup x=some .cell\/(relabel scope X.env).names.lookup x=some .free:=hx
   have hfree:scope.names.lookup x=some .free:=by
    rcases hx' with z | z
    ·exact z6u z S.nocell (.inl rfl)
    ·exact z6u z S.nocell (.inr rfl)
   exact hcf (x,.free) (PySem.mem_of_lookup hfree) rfl
  ·rcases(exAll b hb).2.2.2.1 with z | z
   ·exact I.ok.noex b o e z
   ·exact absurd (Nat.lt_of_lt_of_le (Heap.lt_size e) (Nat.le_trans I.ok.bsz z)) (Nat.lt_irrefl _)
 obtain⟨hml,hmp⟩:=zqn S.ok
 let XC:=z3y X N' scope cl H2.objs.size {s₂ with heap:=H2} H (s₂.heap.objs.size::fp)
 have J4:Inv (z3y X N' scope cl H2.objs.size {s₂ with heap:=H2} H (s₂.heap.objs.size::fp)) [] (subσ mp σ) H {s₂ with heap:=h₁,toks:=s₂.toks+([]:List (Str×Value)).length}:=by
  refine⟨ok',rfl,I.bare,Un.kept k1,⟨_,hns₁,fun j x v e1 e2 e3=>?_⟩,fun x c e=>?_,COk.1,fun x c e=>I.freeC x c (hcl x c e),fun p hp=>absurd (show p∈([]:List (Addr×Obj)) from hp) (by simp),I3.hok.kept k1,by show(subσ mp σ).length=N'.length; unfold subσ; rw [List.length_map,hml]⟩
  ·obtain⟨i,q1,q2⟩:=subσ_get e2
   obtain⟨n1,n2,n3⟩:=hmp j x i e1 q1
   obtain⟨m,hn,hl⟩:=I3.loc
   obtain⟨u,ru,lk⟩:=hl i x v n1 q2 (.inr (.inl n3))
   refine⟨u,ru,?_⟩
   rcases lk with⟨z,_⟩ | ⟨_,c,ec,z⟩
   ·have z':X.env.scope.names.lookup x=some .local:=z
    rw [n3] at z'; cases z'
   ·obtain⟨c',ec'⟩:=hcf (x,.free) (PySem.mem_of_lookup n2) rfl
    have e4:=hcl x c' ec'
    rw [ec] at e4; cases e4
    refine .inr ⟨?_,c,ec',?_⟩
    ·have z3:(relabel scope X.env).names.lookup x=some .local\/(relabel scope X.env).names.lookup x=some .cell\/(relabel scope X.env).names.lookup x=some .free:=e3
     rcases z3 with z3 | z3 | z3
     ·exfalso
      have:∀(names:List (Str×NameKind)),names.lookup x=some .free->(names.map fun(n,k)=>if(k == NameKind.free && X.env.scope.kind == .function && X.env.kindOf n == some .cell) then(n,NameKind.cell) else(n,k)).lookup x≠some .local:=by
       intro names
       induction names with
       | nil=>intro h; simp at h
       | cons p r ih=>
        obtain⟨n,k⟩:=p
        intro h
        cases hx:x == n with
        | true=>
         simp only[List.lookup_cons,hx] at h
         cases h
         rw [List.map_cons]
         dsimp only
         split<;>simp[List.lookup_cons,hx]
        | false=>
         simp only[List.lookup_cons,hx] at h
         rw [List.map_cons]
         dsimp only
         split<;>(simp only[List.lookup_cons,hx]; exact ih h)
      exact this scope.names n2 z3
     ·exact .inl z3
     ·exact .inr z3
    ·obtain⟨o,ho,hd⟩:=z
     exact⟨o,k1 _ _ ho,hd⟩
  ·obtain⟨v,o,ho,hd⟩:=I3.cell x c (hcl x c e)
   exact⟨v,o,k1 _ _ ho,hd⟩
 have acc4:h₁.get? s₂.heap.objs.size=some {cls:=.type "list",data:=.seq ([]:List Value).toArray 0}:=k1 _ _ (by rw [<- hH2]; exact Heap.get?_push_size _ rfl)
 have st4:tn 0 h₁:=T.keep _ _ _ st fun b _ o e=>k1 b o (by rw [<- hH2]; exact Heap.get?_push_of_some _ e)
 have fp4:∀{H':Hp},(∀b∈fp,H' b=none)->∀b∈fp,FpOk (z3y X N' scope cl H2.objs.size {s₂ with heap:=H2} H (s₂.heap.objs.size::fp)) [] H' b:=fun hn b hb=>
  ⟨hn b hb,exNC b (List.mem_cons_of_mem _ hb),stkN b (hf b hb),.inl (List.mem_cons_of_mem _ hb),fun x c e=>(hf b hb).2.2.2.2.1 x c (hcl x c e),fun p hp=>absurd (show p∈([]:List (Addr×Obj)) from hp) (by simp)⟩
 have acc5:∀{H':Hp},H' s₂.heap.objs.size=none->FpOk (z3y X N' scope cl H2.objs.size {s₂ with heap:=H2} H (s₂.heap.objs.size::fp)) [] H' s₂.heap.objs.size:=fun hn=>
  ⟨hn,accNC,stkN _ accOk,.inl List.mem_cons_self,fun x c e=>accOk.2.2.2.2.1 x c (hcl x c e),fun p hp=>absurd (show p∈([]:List (Addr×Obj)) from hp) (by simp)⟩
 have loop:∀s₃:Shared,s₃ = {s₂ with heap:=h₁,toks:=s₂.toks+([]:List (Str×Value)).length}->
   codeAny (model X.prog X.w) X.A (.compLoop (.ListComp elt [⟨tg,iter,ifs,0⟩] scope pos) 0 (.ref it) (.ref s₂.heap.objs.size) (compEnvC scope cl H2.objs.size X.env)) (RR (.ref s₂.heap.objs.size) H2.objs.size) s₃:=by
  rintro s₃ rfl
  refine ztx (fun n s'=>∃i σ' H' ys its k,Inv (z3y X N' scope cl H2.objs.size {s₂ with heap:=H2} H (s₂.heap.objs.size::fp)) [] σ' H' s'/\tn i s'.heap/\(∀b∈fp,H' b=none)/\H' s₂.heap.objs.size=none/\
   Vals ys its/\s'.heap.get? s₂.heap.objs.size=some {cls:=.type "list",data:=.seq its.toArray k}/\W i n ys σ' H') ?_ m0 ⟨0,subσ mp σ,H,[],[],0,J4,st4,fun b hb=>(hf b hb).1,accOk.1,.nil,acc4,w0⟩
  rintro n s5 ⟨i,σ5,H5,ys,its,k,J5,st5,fr5,an5,vy,ea,w5⟩
  have zv:its.length=ys.length:=vy.length.symm
  have pinOk:∀{σ':St} {H':Hp} {s':Shared} {o:Obj},Inv XC [] σ' H' s'->H' s₂.heap.objs.size=none->s'.heap.get? s₂.heap.objs.size=some o->(∀v,o.data≠.cell v)->Inv XC [(s₂.heap.objs.size,o)] σ' H' s':=fun {σ' H' s' o} J a1 a2 a3=>J.pins_of fun p hp=>by
   have e:p=(s₂.heap.objs.size,o):=by simpa using hp
   subst e
   exact⟨a2,a1,accNC,stkN _ accOk,a3⟩
  have fp5:∀{H':Hp} {o:Obj},(∀b∈fp,H' b=none)->∀b∈fp,FpOk XC [(s₂.heap.objs.size,o)] H' b:=fun {H' o} hn b hb=>by
   obtain⟨c1,c2,c3,c4,c5,_⟩:=fp4 hn b hb
   refine⟨c1,c2,c3,c4,c5,fun p hp=>?_⟩
   have e:p=(s₂.heap.objs.size,o):=by
    have hp':p∈([]++[(s₂.heap.objs.size,o)]:List (Addr×Obj)):=hp
    simpa using hp'
   subst e
   intro z
   exact accNf (by rw [show s₂.heap.objs.size=b from z]; exact hb)
  have noc:∀(us:List Value) (k:Nat) (v:Option Value),({cls:=.type "list",data:=.seq us.toArray k}:Obj).data≠.cell v:=fun us k v z=>by
   have z':Data.seq us.toArray k=Data.cell v:=z
   cases z'
  have J5p:=pinOk J5 an5 ea (noc its k)
  rcases turn i n ys σ5 H5 w5 with⟨stop,zl,qn⟩ | ⟨go,zl,N,hN,step⟩
  ·refine thn (T.done XC rfl rfl rfl hc i _ s5 σ5 H5 _ J5p (fp5 fr5) st5 stop) fun r s6 ⟨hr,J6⟩=>?_
   subst hr
   have I6:Inv X pins σ H5 s6:=I3.call' (ch:=s₂.heap.objs.size::fp) (show s6.os=_ from J6.os) J6.base J6.hok J6.bare fun b hb=>let ⟨_,a1,_,a3,a4,a5⟩:=exAll b hb; ⟨a3,a1,a4,a5⟩
   have ea6:s6.heap.get? s₂.heap.objs.size=some {cls:=.type "list",data:=.seq its.toArray k}:=(J6.pin _ (List.mem_append_right _ (List.mem_singleton.mpr rfl))).1
   have I7:Inv X pins σ (upd H5 s₂.heap.objs.size (.lst ys)) s6:=I6.track an5 ⟨an5,accOk.2⟩ ⟨zl,its,k,vy,ea6⟩
   obtain⟨m,hm,_⟩:=J6.loc
   exact hR _ _ _ s6 I7 (qn _ an5) ⟨m,hm⟩ ⟨by rw [z0a (Ne.symm accNC)]; exact J6.free,COk.2⟩
  ·refine thn (T.item XC rfl rfl rfl hc i _ s5 σ5 H5 _ J5p (fp5 fr5) st5 go) fun r s6 ⟨u,hr,h6⟩=>?_
   subst hr
   refine thn h6 fun _ s7 ⟨x,H7,J7,r7,y7,st7,fr7⟩=>?_
   have an7:H7 s₂.heap.objs.size=none:=(J7.pin _ (List.mem_append_right _ (List.mem_singleton.mpr rfl))).2.1
   have J7':=J7.pinned (fp5 fr7) (T.obj _ _ st7)
   refine thn (hg _ _ _ _ _ s7 σ5 H7 x u _ J7' r7 (step x H7 y7)) fun _ s8 ⟨σ8,H8,J8,q8⟩=>?_
   refine thn (ht _ _ _ _ _ s8 σ8 H8 _ J8 q8) fun b s9 ⟨H9,J9,q9⟩=>?_
   have znt:∀{σ':St} {H':Hp} {s':Shared},Inv XC ([(s₂.heap.objs.size,({cls:=.type "list",data:=.seq its.toArray k}:Obj))]++zk2 fp s7.heap) σ' H' s'->
     Inv XC [] σ' H' s'/\tn (i+1) s'.heap/\(∀b∈fp,H' b=none)/\H' s₂.heap.objs.size=none/\s'.heap.get? s₂.heap.objs.size=some {cls:=.type "list",data:=.seq its.toArray k}:=fun {σ' H' s'} K=>by
    have pa:=K.pin (s₂.heap.objs.size,{cls:=.type "list",data:=.seq its.toArray k}) (List.mem_append_right _ (List.mem_append_left _ (List.mem_singleton.mpr rfl)))
    refine⟨K.pins_of (fun p hp=>absurd hp (by simp)),T.keep _ _ _ st7 fun b hb o e=>(K.pin (b,o) (List.mem_append_right _ (List.mem_append_right _ (z9s hb e)))).1,fun b hb=>?_,pa.2.1,pa.1⟩
    obtain⟨o,e,d⟩:=T.obj _ _ st7 b hb
    exact(K.pin (b,o) (List.mem_append_right _ (List.mem_append_right _ (z9s hb e)))).2.1
   cases b with
   | false=>
    rw [if_neg Bool.false_ne_true] at q9
    rw [if_neg Bool.false_ne_true]
    obtain⟨m',hm',w'⟩:=hN _ _ _ q9
    obtain⟨K1,K2,K3,K4,K5⟩:=znt J9
    exact⟨m',hm',i+1,σ8,H9,ys,its,k,K1,K2,K3,K4,vy,K5,w'⟩
   | true=>
    rw [if_pos rfl] at q9
    rw [if_pos rfl]
    refine thn (he _ _ _ _ _ s9 σ8 H9 _ J9 q9) fun z s10 ⟨v,H10,J10,r10,q10⟩=>?_
    obtain⟨m',hm',w'⟩:=hN _ _ _ q10
    obtain⟨K1,K2,K3,K4,K5⟩:=znt J10
    refine call_meets F.slot_list_append ⟨_,K5,rfl⟩ F.entry_list_append (F.args_list_append_2 _ _) (PySem.list_append s₂.heap.objs.size its.toArray k z (by rw [List.size_toArray]; omega)) ⟨K5,?_⟩
    have qa:=PySem.IsL.update K5 (fun x_1=>x_1.push z)
    have eqa:its.toArray.push z=(its++[z]).toArray:=by simp
    rw [eqa] at qa
    have kk:∀b o,b≠s₂.heap.objs.size->s10.heap.get? b=some o->(s10.heap.update s₂.heap.objs.size (Obj.mapSeq fun x_1=>x_1.push z)).get? b=some o:=fun b o hb hu=>(Heap.get?_update_other s10.heap (Obj.mapSeq fun x_1=>x_1.push z) (Ne.symm hb)).trans hu
    obtain⟨d0,d1,d2,d3,d4,d5⟩:=acc5 K4
    have K1':=K1.turned (h':=s10.heap.update s₂.heap.objs.size (Obj.mapSeq fun x_1=>x_1.push z)) (t':=s10.toks) kk d0 d1 d3 d4 d5
    exact⟨m',hm',i+1,σ8,H10,ys++[v],its++[z],_,K1',T.keep _ _ _ K2 (fun b hb o e=>kk b o (fun y=>accNf (by rw [<- y]; exact hb)) e),K3,K4,vy.append (.cons r10 .nil),qa,w'⟩
 exact codeAny_compStart_list (loop _ rfl) (T.self _ _ _ _ _ st4 (loop _ rfl))
theorem z96{elt tg iter:Expr}{ifs:List Expr}{scope:Scope}{pos:Pos}(N':List Str)(mp:List (Option Nat)){wi:TI}{g:TG}{tt:TT}{te:TE}(hc:X.calm=true)(S:CompS X N' scope mp)(hi:PI X tg iter wi)
  (hg:∀cl C s₀ H₀ ex,PG (z3y X N' scope cl C s₀ H₀ ex) tg g) (ht:∀cl C s₀ H₀ ex,PIf (z3y X N' scope cl C s₀ H₀ ex) ifs tt) (he:∀cl C s₀ H₀ ex,PE (z3y X N' scope cl C s₀ H₀ ex) elt te)
  (hs:∀x,foldedSetIterable iter X.env x=pure x:=by intro _; rfl):PE X (.ListComp elt [⟨tg,iter,ifs,0⟩] scope pos) (zh7 wi g tt te mp):=by
 intro pins s σ H Q I h
 obtain⟨cl,e0,e1,e2⟩:=zu1 (scope:=scope) (env:=X.env) fun y hy hf=>I.ok.has y.1 (.inl (S.frees y hy hf))
 rw [eval_ListComp]
 refine wpAny_comprehension_free (use:=none) rfl hs e0 S.kind S.locs (thn (hi pins s σ H _ I h) fun v s1 h1=>thn h1 fun itv s2 h2=>?_)
 obtain⟨it,fp,tn,J,H2,e,I2,T,st2,f2,hw⟩:=h2
 subst e
 refine zl5 (Qe:=Q) (RR:=fun acc C=>compPost (model X.prog X.w) X.A X.xe none (EP X pins σ Q) acc C) hc S e1 e2 (hg cl) (ht cl) (he cl) I2 T st2 f2 hw fun D C H' s' I' q ⟨m,hm⟩ ⟨f0,f1,_,f3,f4,f5⟩=>?_
 exact⟨m,hm,fun h' sb=>⟨.ref D,H',I'.turned (t':=s'.toks) (fun b o hb e=>(sb.2 b hb).trans e) f0 f1 f3 f4 f5,rfl,q⟩⟩
theorem zrk{elt tg iter:Expr}{ifs:List Expr}{scope:Scope}{pos pos' cpos:Pos}{i:Nat}{x:Str}(N':List Str)(mp:List (Option Nat)){wi:TI}{g:TG}{tt:TT}{te:TE}(hN:X.N.Nodup)(hxi:X.N[i]?=some x)(hx:Loc X.env.scope x)
  (hc:X.calm=true) (S:CompS X N' scope mp) (hi:PI X tg iter wi)
  (hg:∀cl C s₀ H₀ ex,PG (z3y X N' scope cl C s₀ H₀ ex) tg g) (ht:∀cl C s₀ H₀ ex,PIf (z3y X N' scope cl C s₀ H₀ ex) ifs tt) (he:∀cl C s₀ H₀ ex,PE (z3y X N' scope cl C s₀ H₀ ex) elt te)
  (hsw:swapsWith (.ListComp elt [⟨tg,iter,ifs,0⟩] scope cpos) (some (.Name x pos')) pos.line X.env=pure true:=by rfl)
  (hs:∀x,foldedSetIterable iter X.env x=pure x:=by intro _; rfl) (hf:X.fn x=true\/X.env.scope.names.lookup x=some .local:=by first | exact .inl rfl | exact .inr rfl | assumption) :
  PS X (.Assign [.Name x pos'] (.ListComp elt [⟨tg,iter,ifs,0⟩] scope cpos) pos) (zwt (zh7 wi g tt te mp) (zgr i)):=by
 intro pins s σ H D I h
 obtain⟨cl,e0,e1,e2⟩:=zu1 (scope:=scope) (env:=X.env) fun y hy hf=>I.ok.has y.1 (.inl (S.frees y hy hf))
 rw [exec_Assign_Name_used _ _ _ _ hsw]
 refine wpAny_bind (wpAny_standAt (wpAny_bind ?_))
 show wpAny _ X.A (do let _ <- comprehension (.ListComp elt [⟨tg,iter,ifs,0⟩] scope cpos) scope X.env _ (newList []) false (eval iter X.env) (some (assign (.Name x pos') X.env))) _ _ s
 refine wpAny_bind (wpAny_mono (wpAny_comprehension_free (use:=some (assign (.Name x pos') X.env)) (Q:=fun _ s'=>SP X pins D .next s') rfl hs e0 S.kind S.locs
  (thn (hi pins s σ H _ I h) fun v s1 h1=>thn h1 fun itv s2 h2=>?_)) (fun _ s' hq=>wpAny_pure (wpAny_pure hq)) fun _ _ e=>e)
 obtain⟨it,fp,tn,J,H2,e,I2,T,st2,f2,hw⟩:=h2
 subst e
 refine zl5 (Qe:=fun x H1=>zgr i x σ H1 D.nx) (RR:=fun acc C=>compPost (model X.prog X.w) X.A X.xe (some (assign (.Name x pos') X.env)) (fun _ s'=>SP X pins D .next s') acc C) hc S e1 e2 (hg cl) (ht cl) (he cl) I2 T st2 f2 hw fun D' C H' s' I' q ⟨m,hm⟩ ⟨f0,f1,_,f3,f4,f5⟩=>?_
 show wpAny _ X.A (assign (.Name x pos') X.env (.ref D')) _ _ _
 refine wpAny_assign_Name (zjv I' hN hxi hx (v:=.ref D') rfl (fun s'' I'' ⟨a,sb,ha⟩=>?_) hf)
 have hCa:C≠a:=by
  rcases ha with ha | ha
  ·rw [ha]; exact f1
  ·exact fun z=>f4 x a ha z.symm
 refine⟨m,hm.sameBut sb hCa,fun h' sb'=>?_⟩
 exact⟨_,H',I''.turned (t':=s''.toks) (fun b o hb e=>(sb'.2 b hb).trans e) f0 f1 f3 f4 f5,q⟩
end
section
variable{K:PySem.W.Frag}{a:Addr}{xs:List V}{g:TG}{tt:TT}{te:TE}{σ : St}{H:Hp}{Q:VK}
abbrev zaa(J:It)(g:TG)(tt:TT)(te:TE)(Q:VK)(σ : St)(H:Hp):Prop:=∃W:Nat->Nat->List V->St->Hp->Prop,(∃m,W 0 m [] σ H)/\∀i m ys σ H,W i m ys σ H->
 (J.stop i H/\ys.length<=sizeLine/\∀p,H p=none->Q (.ref p) (upd H p (.lst ys)))\/(J.go i H/\ys.length < sizeLine/\∃N:List V->St->Hp->Prop,(∀ys' σ' H',N ys' σ' H'->∃m',m' < m/\W (i+1) m' ys' σ' H')/\∀x H',J.yld i H x H'->g x σ H' fun σ2 H2=>tt σ2 H2 fun b H3=>
  if b=true then te σ2 H3 (fun v H4=>N (ys++[v]) σ2 H4) else N ys σ2 H3)
theorem zce(Pv:Nat->List V->St->Hp->Prop)(h0:Pv 0 [] σ H)(hz:xs.length < sizeLine)(hy:∀i ys σ H,Pv i ys σ H->ys.length<=i)(hl:∀i ys σ H,i<=xs.length->Pv i ys σ H->SqL K H a xs)
  (hs:∀i ys x σ H,xs[i]?=some x->Pv i ys σ H->g x σ H fun σ2 H2=>tt σ2 H2 fun b H3=>if b=true then te σ2 H3 (fun v H4=>Pv (i+1) (ys++[v]) σ2 H4) else Pv (i+1) ys σ2 H3)
  (hd:∀ys σ H,Pv xs.length ys σ H->∀p,H p=none->Q (.ref p) (upd H p (.lst ys))):zaa (Itl K a) g tt te Q σ H:=by
 refine⟨fun i m ys σ H=>m=xs.length - i/\i<=xs.length/\Pv i ys σ H,⟨xs.length,by simp,Nat.zero_le _,h0⟩,?_⟩
 rintro i m ys σ H ⟨rfl,hi,p⟩
 have q:=hl i ys σ H hi p
 have hyl:=hy i ys σ H p
 by_cases hlt:i < xs.length
 ·refine .inr ⟨⟨xs,xs[i],q,by simp[hlt]⟩,by omega,Pv (i+1),fun ys' σ' H' p'=>⟨xs.length - (i+1),by omega,rfl,hlt,p'⟩,fun x H' y=>?_⟩
  obtain⟨e,y⟩:=y
  subst e
  exact hs i ys x σ _ (y xs q) p
 ·have e:i=xs.length:=by omega
  subst e
  exact .inl ⟨⟨xs,q,Nat.le_refl _⟩,by omega,hd ys σ H p⟩
theorem zoy(Pv:Nat->List V->St->Hp->Prop)(h0:Pv 0 [] σ H)(hz:xs.length < sizeLine)(hy:∀i ys σ H,Pv i ys σ H->ys.length<=i)(hl:∀i ys σ H,i<=xs.length->Pv i ys σ H->SqT K H a xs)
  (hs:∀i ys x σ H,xs[i]?=some x->Pv i ys σ H->g x σ H fun σ2 H2=>tt σ2 H2 fun b H3=>if b=true then te σ2 H3 (fun v H4=>Pv (i+1) (ys++[v]) σ2 H4) else Pv (i+1) ys σ2 H3)
  (hd:∀ys σ H,Pv xs.length ys σ H->∀p,H p=none->Q (.ref p) (upd H p (.lst ys))):zaa (Itt K a) g tt te Q σ H:=by
 refine⟨fun i m ys σ H=>m=xs.length - i/\i<=xs.length/\Pv i ys σ H,⟨xs.length,by simp,Nat.zero_le _,h0⟩,?_⟩
 rintro i m ys σ H ⟨rfl,hi,p⟩
 have q:=hl i ys σ H hi p
 have hyl:=hy i ys σ H p
 by_cases hlt:i < xs.length
 ·refine .inr ⟨⟨xs,xs[i],q,by simp[hlt]⟩,by omega,Pv (i+1),fun ys' σ' H' p'=>⟨xs.length - (i+1),by omega,rfl,hlt,p'⟩,fun x H' y=>?_⟩
  obtain⟨e,y⟩:=y
  subst e
  exact hs i ys x σ _ (y xs q) p
 ·have e:i=xs.length:=by omega
  subst e
  exact .inl ⟨⟨xs,q,Nat.le_refl _⟩,by omega,hd ys σ H p⟩
end
end L2
set_option Elab.async false
set_option linter.all false
set_option maxRecDepth 100000
namespace L2
open PySem PySem.Spec PyProof.Rows
section
variable{X:Cx}
def zfr(K:PySem.W.Frag):R2:=fun x y H Q=>∃a b xs ys,x=.ref a/\y=.ref b/\SqT K H a xs/\SqT K H b ys/\xs.length+ys.length<=sizeLine/\
 (xs=[]->Q (.ref b) H)/\(xs≠[]->ys=[]->Q (.ref a) H)/\(xs≠[]->ys≠[]->∀p,H p=none->Q (.ref p) (upd H p (.tup (xs++ys))))
theorem z2v:OpR X (binaryOp .Add) (zfr X.K):=by
 intro pins s σ H x y v u Q I rx ry h
 obtain⟨a,b,xs,ys,rfl,rfl,ha,hb,hz,q0,q1,q2⟩:=h
 by_cases hx:xs=[]
 ·cases rx
  cases ry
  obtain⟨its,r1,p1,_⟩:=I.tuple ha
  obtain⟨its2,r2,p2,_⟩:=I.tuple hb
  obtain⟨⟨cls,dd,data,sl⟩,ho,hc,n,hd⟩:=id p1
  obtain⟨⟨cls2,dd2,data2,sl2⟩,ho2,hc2,n2,hd2⟩:=id p2
  simp only at hc hd hc2 hd2
  subst hc hd hc2 hd2
  have he:its=[]:=r1.nil_iff.mpr hx
  exact concat_meets ⟨_,ho,rfl⟩ ⟨_,ho2,rfl⟩ noFill_tuple_add seq_tuple_add PySem.F.slot_tuple_add PySem.F.entry_tuple_add (PySem.F.args_tuple_add_2 _ _)
   (tuple_addW0 a b its.toArray its2.toArray n n2 dd dd2 sl sl2 (by simp[he])) ⟨ho,ho2,⟨.ref b,H,I,rfl,q0 hx⟩⟩
 ·exact zyy pins s σ H _ _ v u Q I rx ry ⟨a,b,xs,ys,rfl,rfl,ha,hb,hx,hz,q1 hx,q2 hx⟩
def zow:V->PyData
 | .bl b=>.bool b
 | .int i=>.int i
 | .str x=>.str x
 | _=>.none
theorem zps{h:Heap}{x:V}{u:Value}(r:RelV x u)(f:zku x=true):Reads h u (zow x) []:=by
 cases x with
 | non=>cases r; exact .none
 | bl b=>cases r; exact .bool b
 | int i=>obtain⟨t,rfl⟩:=r; exact .int i t
 | str z=>obtain⟨t,rfl⟩:=r; exact .str z t
 | _=>exact absurd (show false=true from f) Bool.false_ne_true
theorem zbl{h:Heap}:∀{xs:List V} {us:List Value},Vals xs us->xs.all zku=true->ReadsAll h us (xs.map zow) []
 | _,_,.nil,_=>.nil
 | _::_,_::_,.cons r t,f=>by
  rw [List.all_cons,Bool.and_eq_true] at f
  exact .cons (zps r f.1) (zbl t f.2)
def okV:V->Bool
 | .non=>true
 | .bl _=>true
 | .int _=>true
 | .str z=>PyData.strOk z
 | _=>false
theorem okV.flat{x:V}(h:okV x=true):zku x=true:=by
 cases x<;>first | rfl | exact absurd (show false=true from h) Bool.false_ne_true
theorem okV.all{xs:List V}(h:xs.all okV=true):xs.all zku=true:=List.all_eq_true.mpr fun x hx=>okV.flat (List.all_eq_true.mp h x hx)
theorem zoh:∀(xs:List V),xs.all okV=true->PyData.canLayAll0 (xs.map zow)=true/\PyData.depthAll (xs.map zow)<=1
 | [],_=>by simp[PyData.canLayAll0,PyData.depthAll]
 | x::xs,hz=>by
  rw [List.all_cons,Bool.and_eq_true] at hz
  have h1:(zow x).canLay0=true/\(zow x).depth<=1:=by
   cases x with
   | str z=>exact⟨by simpa [zow,PyData.canLay0,okV] using hz.1,by simp[zow,PyData.depth]⟩
   | _=>exact⟨by simp[zow,PyData.canLay0],by simp[zow,PyData.depth]⟩
  have h2:=zoh xs hz.2
  simp only[List.map_cons,PyData.canLayAll0,PyData.depthAll,h1.1,h2.1,Bool.and_self,true_and]
  have a1:=h1.2
  have a2:=h2.2
  omega
theorem z80{xs:List V}(h:xs.all okV=true):SeqAt.shaped (.list (xs.map zow))=true:=by
 have q:=zoh xs h
 unfold SeqAt.shaped
 simp only[PyData.canLay0,PyData.depth,q.1,Bool.true_and]
 have:=q.2
 exact decide_eq_true (by omega)
theorem Inv.readsL{pins:List (Addr×Obj)}{σ : St}{H:Hp}{s:Shared}{a:Addr}{xs:List V}(I:Inv X pins σ H s)(h:SqL X.K H a xs)(f:xs.all okV=true):∃as,Reads s.heap (.ref a) (.list (xs.map zow)) as:=by
 obtain⟨its,r,⟨o,n,e,c,_,d⟩,_⟩:=I.list h
 exact⟨_,.list e c d (by simpa using zbl r (okV.all f))⟩
def eqL(xs ys:List V):Bool:=PyData.eqv (.list (xs.map zow)) (.list (ys.map zow))
def q3y(K:PySem.W.Frag)(neg:Bool):R2:=fun x y H Q=>∃a b xs ys,x=.ref a/\y=.ref b/\SqL K H a xs/\SqL K H b ys/\xs.all okV=true/\ys.all okV=true/\Q (.bl (if neg then !eqL xs ys else eqL xs ys)) H
theorem q1e(hu:X.A.units+64 < cLine):OpR X (compareOp .Eq) (q3y X.K false):=by
 intro pins s σ H x y v u Q I rx ry h
 obtain⟨a,b,xs,ys,rfl,rfl,ha,hb,fa,fb,q⟩:=h
 cases rx; cases ry
 obtain⟨as,ra⟩:=I.readsL ha fa
 obtain⟨bs,rb⟩:=I.readsL hb fb
 exact eq_dataH ra rb (z80 fa) (z80 fb) hu ⟨.bl _,H,I,rfl,q⟩
theorem q19(hu:X.A.units+64 < cLine):OpR X (compareOp .NotEq) (q3y X.K true):=by
 intro pins s σ H x y v u Q I rx ry h
 obtain⟨a,b,xs,ys,rfl,rfl,ha,hb,fa,fb,q⟩:=h
 cases rx; cases ry
 obtain⟨as,ra⟩:=I.readsL ha fa
 obtain⟨bs,rb⟩:=I.readsL hb fb
 exact ne_dataH ra rb (z80 fa) (z80 fb) hu ⟨.bl _,H,I,rfl,q⟩
theorem zta(xs:List V):eqL xs []=xs.isEmpty:=by
 cases xs<;>simp[eqL,PyData.eqv,PyData.eqvAll]
theorem znr:CallR X (.builtin "isinstance") (fun xs H Q=>∃x n t b,xs=[x,.ty n]/\TyOf X.K H x t/\PySem.W.kitOne X.K t (.type n)=some b/\Q (.bl b) H):=by
 intro pins s σ H xs us Q I r h
 obtain⟨x,n,t,b,rfl,ty,e,q⟩:=h
 obtain⟨u,u2,rfl,r1,r2⟩:=r.two
 cases r2
 exact zsw I r1 ty e fun tk=>⟨.bl b,H,I.tok tk,rfl,q⟩
theorem zgy:∀{bs:List Bool} {us:List Value},Vals (bs.map V.bl) us->us=bs.map Value.bool
 | [],_,.nil=>rfl
 | b::bs,_::_,.cons r t=>by
  cases r
  rw [zgy t]; rfl
theorem zjo(hh:X.calm=true):CallR X (.builtin "all") (fun xs H Q=>∃(p:Addr) (bs:List Bool),xs=[.ref p]/\SqL X.K H p (bs.map V.bl)/\Q (.bl (bs.all id)) H):=by
 intro pins s σ H xs us Q I r h
 obtain⟨p,bs,rfl,hq,q⟩:=h
 obtain⟨u,rfl,r1⟩:=r.one
 cases r1
 obtain⟨its,rv,pl,hz⟩:=I.list hq
 have eb:=zgy rv
 subst eb
 have hl:=pl.isList
 have hlt:p < s.heap.objs.size:=by obtain⟨_,e,_⟩:=hl; exact Heap.lt_size e
 refine call_all_walk (wpAny_pyIter_list hl ?_)
 refine⟨s.heap.objs.size,[s.heap.objs.size,p],[s.heap.objs.size],(bs.map Value.bool).toArray.size,_,_,fun i=>(bs[i]?).getD true,rfl,Walks.list (A:=X.A.in1) (I.ok.hd hh) _ p (Nat.ne_of_lt hlt) (bs.map Value.bool).toArray,
  ⟨⟨_,Heap.get?_push_size _ rfl,rfl,rfl⟩,hl.push _⟩,fun i v s' Q' E' hP hQ=>?_,fun h' tk hk=>?_⟩
 ·have e:(bs.map Value.bool)[i]?=some v:=by simpa using hP
  rw [List.getElem?_map] at e
  cases eb:bs[i]? with
  | none=>rw [eb] at e; cases e
  | some b=>
   rw [eb] at e
   have e':Value.bool b=v:=Option.some.inj e
   subst e'
   simp only[eb,Option.getD_some] at hQ
   exact wpAny_truthy_bool hQ
 ·have e:((List.range (bs.map Value.bool).toArray.size).all fun i=>(bs[i]?).getD true)=bs.all id:=by
   have z:(bs.map Value.bool).toArray.size=bs.length:=by simp
   rw [z,Bool.eq_iff_iff,List.all_eq_true,List.all_eq_true]
   constructor
   ·intro h b hb
    obtain⟨i,hi,rfl⟩:=List.getElem_of_mem hb
    have:=h i (List.mem_range.mpr hi)
    simpa [List.getElem?_eq_getElem hi] using this
   ·intro h i hi
    have hi':=List.mem_range.mp hi
    simp only[List.getElem?_eq_getElem hi',Option.getD_some]
    exact h _ (List.getElem_mem hi')
  rw [e]
  exact⟨.bl _,H,I.kept (fun b o e=>hk b o (fun hm=>by rw [List.mem_singleton.mp hm] at e; exact Nat.lt_irrefl _ (Heap.lt_size e)) (Heap.get?_push_of_some _ e)),rfl,q⟩
def Its(z:Str):It:=⟨fun i _=>i < z.cps.size,fun i H x H'=>H'=H/\∃c,z.cps[i]?=some c/\x=.str ⟨#[c]⟩,fun i _=>i=z.cps.size⟩
def q4o(tl:TE):TI:=fun σ H R=>tl σ H fun x H1=>∃z,x=.str z/\R (Its z) H1
open PySem.AutoSeq1 (wpAny_loadPart') in
theorem q0f(l:Addr)(items:Array Value)(n:Nat)(dd:Option Addr)(sl:Array (Option Value))(x:Int)(u:Tok)(h2:2<=x)(hx:x < 2 ^ 62)(hne:items.isEmpty=false)(hz:items.size * x.toNat<=sizeLine) :
  Meets (Builtin.«tuple.__mul__» ⟨[.ref l,.int x u],[]⟩) (fun _ R s=>s.heap.get? l=some {cls:=.type "tuple",dict:=dd,data:=.seq items n,slots:=sl}/\R (.ok (.ret (Value.ref s.heap.objs.size))) {s with heap:=s.heap.push {cls:=Value.type "tuple",data:=Data.seq (List.foldl (fun x1 x2=>x1++x2) #[] (List.replicate x.toNat items))},toks:=s.toks}):=
 .of_wp fun prog w A R s h=>by
  obtain⟨hp,g,d,tk,os⟩:=s; obtain⟨hl,h⟩:=h
  have f1:=AutoSeq1.idx_int
  have hs:sizeLine=16777216:=sizeLine_eq
  have hm:((items.size * x.toNat:Nat):Int)=(items.size:Int) * x:=by
   rw [Int.natCast_mul,Int.toNat_of_nonneg (by omega)]
  have c0:¬ (decide (x < -2 ^ 63) || decide (x ≥ 2 ^ 63))=true:=by
   simp only[Bool.or_eq_true,decide_eq_true_eq,not_or]
   omega
  have c1:¬ (items.isEmpty || x == 1)=true:=by
   rw [hne,Bool.false_or]
   simp only[beq_iff_eq]
   omega
  have c2:¬ (decide (x<=0) || items.isEmpty)=true:=by
   rw [hne,Bool.or_false]
   simp only[decide_eq_true_eq]
   omega
  have c3:¬ ((items.size:Int) * x > (2 ^ 63 - 1) / 8):=by
   rw [<- hm]
   have:(2 ^ 63 - 1:Int) / 8=1152921504606846975:=by decide
   rw [this]
   omega
  have c4:¬ Builtin.Tuple.tupleTooMany ((items.size:Int) * x)=true:=by
   unfold Builtin.Tuple.tupleTooMany
   simp only[decide_eq_true_eq]
   rw [<- hm]
   omega
  wp_walk using wpAny_loadPart' hl
  refine PySem.W.KFB.if_not (Bool.eq_false_iff.mpr c0) ?_
  wp_walk using wpAny_loadPart' hl
  refine PySem.W.KFB.if_not (Bool.eq_false_iff.mpr c1) ?_
  refine PySem.W.KFB.if_not (Bool.eq_false_iff.mpr c2) ?_
  dsimp only
  rw [if_neg c3]
  refine PySem.W.KFB.if_not (Bool.eq_false_iff.mpr c4) ?_
  refine wpAny_bind (wpAny_newObj_type (wpAny_pure ⟨_,rfl,h⟩) ?_)
  show(List.foldl (fun x1 x2=>x1++x2) #[] (List.replicate x.toNat items)).size<=sizeLine
  have e:=zkt items.toList x.toNat []
  rw [List.nil_append] at e
  have e2:items.toList.toArray=items:=by simp
  rw [e2] at e
  rw [show([]:List Value).toArray = #[] from rfl] at e
  rw [e,List.size_toArray,zze,Array.length_toList,Nat.mul_comm]
  exact hz
def zpt(K:PySem.W.Frag):R2:=fun x y H Q=>∃l k xs,x=.ref l/\y=.int k/\SqT K H l xs/\2<=k/\k < 2 ^ 62/\xs≠[]/\xs.length * k.toNat<=sizeLine/\
 ∀p,H p=none->Q (.ref p) (upd H p (.tup (List.replicate k.toNat xs).flatten))
end
end L2
set_option Elab.async false
set_option linter.all false
set_option maxRecDepth 100000
namespace L2
open PySem PySem.Spec PyProof.Rows
section
variable{X:Cx}
def Seq(K:PySem.W.Frag)(H:Hp)(a:Addr):Prop:=(∃xs,SqL K H a xs)\/∃xs,SqT K H a xs
theorem zvi(hu:X.A.units+64 < cLine):OpR X (compareOp .Eq) (fun x y H Q=>∃a z,x=.ref a/\y=.str z/\Seq X.K H a/\Q (.bl false) H):=by
 intro pins s σ H x y v u Q I rx ry h
 obtain⟨a,z,rfl,rfl,hq,q⟩:=h
 cases rx
 obtain⟨t,rfl⟩:=ry
 show wpAny _ _ (richCompare .Eq _ _) _ _ _
 rcases hq with⟨xs,hq⟩ | ⟨xs,hq⟩
 ·obtain⟨its,r,pl,hz⟩:=I.list hq
  exact SeqAt.RcAt.list_str z t pl.isList (by omega) _ _ _ _ ⟨.bl false,H,I,rfl,q⟩
 ·obtain⟨its,r,pl,hz⟩:=I.tuple hq
  exact SeqAt.RcAt.tuple_str z t (show s.heap.IsTuple a its.toArray from pl) (by omega) _ _ _ _ ⟨.bl false,H,I,rfl,q⟩
def isN:V->Bool
 | .non=>true
 | _=>false
def q0j:R2:=fun x y H Q=>∃i j,x=.str i/\y=.str j/\Q (.bl (!decide (j.cps.toList < i.cps.toList))) H
def zyc:R2:=fun x y H Q=>∃i j,x=.str i/\y=.str j/\Q (.bl (decide (i.cps.toList < j.cps.toList))) H
def q2y(K:PySem.W.Frag)(x y:V)(H:Hp)(b:Bool):Prop:=(q2r x y=true/\b=decide (x=y))\/
 (∃a c xs ys,x=.ref a/\y=.ref c/\SqL K H a xs/\SqL K H c ys/\xs.all okV=true/\ys.all okV=true/\b=eqL xs ys)\/(∃a z,x=.ref a/\y=.str z/\Seq K H a/\b=false)
def qEq(K:PySem.W.Frag):R2:=fun x y H Q=>∃b,q2y K x y H b/\Q (.bl b) H
def qNe(K:PySem.W.Frag):R2:=fun x y H Q=>∃b,((q2r x y=true/\b=decide (x=y))\/(∃a c xs ys,x=.ref a/\y=.ref c/\SqL K H a xs/\SqL K H c ys/\xs.all okV=true/\ys.all okV=true/\b=eqL xs ys))/\Q (.bl (!b)) H
def q4z(K:PySem.W.Frag)(x y:V)(H:Hp)(b:Bool):Prop:=(∃p xs,y=.ref p/\(SqL K H p xs\/SqT K H p xs)/\zku x=true/\xs.all zku=true/\b=inV x xs)\/
 (∃i j,x=.str i/\y=.str j/\b = !(Builtin.Str.occurrences j i 0 j.length 1).isEmpty)\/
 (∃p xs,x=.non/\y=.ref p/\SqL K H p xs/\(∀v∈xs,v=.non\/∃a ys,v=.ref a/\SqT K H a ys)/\b=xs.any isN)
def qIn(K:PySem.W.Frag):R2:=fun x y H Q=>∃b,q4z K x y H b/\Q (.bl b) H
def q0b(K:PySem.W.Frag)(x y:V)(H:Hp)(b:Bool):Prop:=(∃p xs,y=.ref p/\(SqL K H p xs\/SqT K H p xs)/\zku x=true/\xs.all zku=true/\b = !inV x xs)\/
 (∃i j,x=.str i/\y=.str j/\b = !(!(Builtin.Str.occurrences j i 0 j.length 1).isEmpty))\/
 (∃a p xs,x=.ref a/\y=.ref p/\Seq K H a/\SqT K H p xs/\(∀v∈xs,∃z,v=.str z)/\b=true)
def zi1(K:PySem.W.Frag):R2:=fun x y H Q=>∃b,q0b K x y H b/\Q (.bl b) H
def q0c(K:PySem.W.Frag)(x:V)(H:Hp)(n:Nat):Prop:=(∃p ys,x=.ref p/\(SqL K H p ys\/SqT K H p ys)/\n=ys.length)\/∃z,x=.str z/\z.length<=sizeLine/\n=z.length
def zyh(K:PySem.W.Frag):List V->Hp->VK->Prop:=fun xs H Q=>∃x n,xs=[x]/\q0c K x H n/\Q (.int n) H
def zyi:R2:=fun x y H Q=>y=.non/\Q (.bl (decide (x=.non))) H
def zma:R2:=fun x y H Q=>y=.non/\Q (.bl (!decide (x=.non))) H
def q0m:R2:=fun x y H Q=>∃a b,x=.bl a/\y=.bl b/\Q (.bl (a == b)) H
def zpv:R2:=fun x y H Q=>∃a b,x=.bl a/\y=.bl b/\Q (.bl (a !=b)) H
theorem gEq(hu:X.A.units+64 < cLine):OpR X (compareOp .Eq) (qEq X.K):=by
 intro pins s σ H x y v u Q I rx ry h
 obtain⟨b,h,q⟩:=h
 rcases h with⟨h,rfl⟩ | ⟨a,c,xs,ys,h1,h2,h3,h4,h5,h6,rfl⟩ | ⟨a,z,h1,h2,h3,rfl⟩
 ·exact q1f pins s σ H x y v u Q I rx ry ⟨h,q⟩
 ·exact q1e hu pins s σ H x y v u Q I rx ry ⟨a,c,xs,ys,h1,h2,h3,h4,h5,h6,q⟩
 ·exact zvi hu pins s σ H x y v u Q I rx ry ⟨a,z,h1,h2,h3,q⟩
theorem gNe(hu:X.A.units+64 < cLine):OpR X (compareOp .NotEq) (qNe X.K):=by
 intro pins s σ H x y v u Q I rx ry h
 obtain⟨b,h,q⟩:=h
 rcases h with⟨h,rfl⟩ | ⟨a,c,xs,ys,h1,h2,h3,h4,h5,h6,rfl⟩
 ·exact q1b pins s σ H x y v u Q I rx ry ⟨h,q⟩
 ·exact q19 hu pins s σ H x y v u Q I rx ry ⟨a,c,xs,ys,h1,h2,h3,h4,h5,h6,q⟩
theorem q2u:CallR X (.builtin "len") (zyh X.K):=by
 intro pins s σ H xs us Q I r h
 obtain⟨x,n,rfl,h,q⟩:=h
 rcases h with⟨p,ys,rfl,h,rfl⟩ | ⟨z,rfl,hz,rfl⟩
 ·exact zlf pins s σ H _ us Q I r ⟨p,ys,rfl,h,q⟩
 ·exact zle pins s σ H _ us Q I r ⟨z,rfl,hz,q⟩
theorem zfy:OpR X (compareOp .Eq) (rI0 fun i j=>.bl (decide (i=j))):=by
 intro pins s σ H x y v u Q I rx ry h
 obtain⟨i,j,rfl,rfl,q⟩:=h
 refine q1f pins s σ H _ _ v u Q I rx ry ⟨rfl,?_⟩
 have e:decide (V.int i=V.int j)=decide (i=j):=by simp
 rw [e]; exact q
theorem q1a:OpR X (compareOp .NotEq) (rI0 fun i j=>.bl (!decide (i=j))):=by
 intro pins s σ H x y v u Q I rx ry h
 obtain⟨i,j,rfl,rfl,q⟩:=h
 refine q1b pins s σ H _ _ v u Q I rx ry ⟨rfl,?_⟩
 have e:decide (V.int i=V.int j)=decide (i=j):=by simp
 rw [e]; exact q
theorem zqg:OpR X (compareOp .Is) zyi:=q1d
theorem zqf:OpR X (compareOp .IsNot) zma:=zyu
theorem q4r:OpR X (compareOp .Lt) zyc:=zrw
def zme(K:PySem.W.Frag):List V->Hp->VK->Prop:=fun xs H Q=>∃x n b,xs=[x,.ty n]/\(∃t,TyOf K H x t/\PySem.W.kitOne K t (.type n)=some b)/\Q (.bl b) H
theorem zw4:CallR X (.builtin "isinstance") (zme X.K):=by
 intro pins s σ H xs us Q I r h
 obtain⟨x,n,b,rfl,⟨t,h1,h2⟩,q⟩:=h
 exact znr pins s σ H _ us Q I r ⟨x,n,t,b,rfl,h1,h2,q⟩
end
def zgi:Expr->Bool
 | .Starred ..=>true
 | _=>false
def z2x:List Expr->Bool
 | []=>true
 | e::r=>!zgi e && z2x r
theorem z10{e:Expr}{es:List Expr}{env:Env}(h:zgi e=false):starEach (e::es) env=(false,eval e env)::starEach es env:=by
 cases e<;>first | rfl | exact absurd (show true=false from h) (by decide)
theorem z2w{pos:Pos}{env:Env}:∀{es:List Expr},z2x es=true->(backTo pos (starEach es env)).any (·.1)=false
 | [],_=>rfl
 | e::r,h=>by
  rw [z2x,Bool.and_eq_true,Bool.not_eq_true'] at h
  rw [z10 h.1]
  have q:=z2w (pos:=pos) (env:=env) h.2
  show(false || (backTo pos (starEach r env)).any (·.1))=false
  rw [q]; rfl
theorem z09{X:Cx}{e:Expr}{es:List Expr}{te:TE}{t:TA}(ha:PE X e te)(hr:PA X es t)(h:zgi e=false:=by rfl):PA X (e::es) (zbj te t):=zyt ha hr (z10 h)
structure Callee(P:Program)(w:World)(K:PySem.W.Frag)(mg:Str->Option Value)(base:Heap)(x:Str)(ps:List Str)(k:Nat)(sp:Sp):Prop where
 ex:∃f fd,FnOk P w K mg base CX0 k f fd ps sp/\mg x=some (.ref f)/\PySem.W.keepIn K (.ref f)=true/\Binds K fd ps []
theorem z15{X:Cx}{x:Str}{ps:List Str}{k j:Nat}{sp:Sp}{e:Expr}{es:List Expr}{t:TA}{p pos:Pos}(C:Callee X.prog X.w X.K X.mg X.base x ps k sp)(hr:Room j X.A)(hk:k<=j)(ha:PA X (e::es) t)(hg:Gl X x:=by rfl)
  (hdb:(x == ("__debug__" : Str))=false:=by decide) (hst:z2x (e::es)=true:=by rfl) :
  PE X (.Call (.Name x p) (e::es) [] pos) (zju sp [] E0 t):=by
 have hst':=hst
 rw [z2x,Bool.and_eq_true,Bool.not_eq_true'] at hst'
 have he:=z10 (es:=es) (env:=X.env) hst'.1
 have hpl:=z2w (pos:=pos) (env:=X.env) hst'.2
 obtain⟨f,fd,F,hm,hkp,hb⟩:=C
 intro pins s σ H Q I h
 refine wpAny_Call_Name_kw (ziy I hg hm ?_ hdb)
 refine PySem.W.callWith_K (h₀:=X.base) I.ok.mod.kin hkp (thn (ha pos pins s σ H _ I h) fun us s1 ⟨vs,H1,I1,r,q⟩=>⟨I1.kIn,?_⟩) he hpl
 exact zwz F (hr.mono hk) hb .nil (fun _ _ _ _ _ _ _ z=>z.elim) I1 r q
theorem z4q{X:Cx}{x:Str}{p pos:Pos}{e:Expr}{es:List Expr}{t:TA}{id:String}{r:List V->Hp->VK->Prop}(hc:CallR X (.builtin id) r)(hg:Gl X x)(hm:X.mg x=none)(hv:bootBuiltins x=some (.builtin id))(ha:PA X (e::es) t) (hn:x≠"__name__") (hdb:(x == ("__debug__" : Str))=false)
  (hst:z2x (e::es)=true:=by rfl):PE X (.Call (.Name x p) (e::es) [] pos) (tCB r t):=by
 have hst':=hst
 rw [z2x,Bool.and_eq_true,Bool.not_eq_true'] at hst'
 exact zvd hc hg hm hv ha hn hdb (z10 hst'.1) (z2w hst'.2)
theorem zys{X:Cx}{x:Str}{p pos:Pos}{e:Expr}{es:List Expr}{t:TA}{T:String}{r:List V->Hp->VK->Prop}(hc:CallR X (.type T) r)(hg:Gl X x)(hm:X.mg x=none)(hv:bootBuiltins x=some (.type T))(ha:PA X (e::es) t) (hn:x≠"__name__") (hdb:(x == ("__debug__" : Str))=false)
  (hst:z2x (e::es)=true:=by rfl):PE X (.Call (.Name x p) (e::es) [] pos) (tCB r t):=by
 have hst':=hst
 rw [z2x,Bool.and_eq_true,Bool.not_eq_true'] at hst'
 exact zrt hc hg hm hv ha hn hdb (z10 hst'.1) (z2w hst'.2)
structure GC(mg:Str->Option Value)(x:Str)(v:V):Prop where
 ex:∃u,mg x=some u/\RelV v u
theorem zva{X:Cx}{x:Str}{v:V}{pos:Pos}(h:GC X.mg x v)(hg:Gl X x:=by rfl) (hd:(x == ("__debug__" : Str))=false:=by decide):PE X (.Name x pos) (tC v):=by
 obtain⟨u,hm,r⟩:=h
 exact zyr hg hm r hd
def zu0(N:List Str)(on:List (Str×NameKind))(sc:Scope)(N':List Str)(mp:List (Option Nat)):Bool:=
 sc.kind == .function && sc.names.all (fun y=>y.2 !=.cell) && sc.names.all (fun y=>y.2 !=.local || sc.names.lookup y.1 == some .local) && sc.names.all (fun y=>y.2 !=.free || on.lookup y.1 == some .cell) && compOk N on sc.names N' mp
theorem CompS.of{X:Cx}{N':List Str}{sc:Scope}{mp:List (Option Nat)}(h:zu0 X.N X.env.scope.names sc N' mp=true):CompS X N' sc mp:=by
 unfold zu0 at h
 simp only[Bool.and_eq_true,beq_iff_eq] at h
 obtain⟨⟨⟨⟨h1,h2⟩,h3⟩,h4⟩,h5⟩:=h
 refine⟨h1,fun y hy=>?_,fun y hy e=>?_,fun y hy e=>?_,h5⟩
 ·have:=List.all_eq_true.mp h2 y hy
  simpa using this
 ·have:=List.all_eq_true.mp h3 y hy
  simp only[e,Bool.or_eq_true,beq_iff_eq] at this
  rcases this with z | z
  ·exact absurd z (by decide)
  ·exact z
 ·have:=List.all_eq_true.mp h4 y hy
  simp only[e,Bool.or_eq_true,beq_iff_eq] at this
  rcases this with z | z
  ·exact absurd z (by decide)
  ·exact z
theorem opK{X:Cx}{K:PySem.W.Frag}{f:Value->Value->Sem Value}{r:PySem.W.Frag->R2}(h:OpR X f (r X.K))(hK:X.K=K):OpR X f (r K):=hK ▸ h
theorem ixK{X:Cx}{K:PySem.W.Frag}{r:PySem.W.Frag->R2}(h:IxR X (r X.K))(hK:X.K=K):IxR X (r K):=hK ▸ h
theorem zyp{X:Cx}{K:PySem.W.Frag}{es:List Expr}{k:Nat}{t:TGs}{n:Nat}{pos:Pos}(hK:X.K=K)(hc:X.calm=true)(h:PGs X es t)(hn:(assignEach es X.env).length=n:=by rfl)(hst:(assignEach es X.env).findIdx? (·.1)=none:=by rfl):PG X (.Tuple es k pos) (zxe K n t):=hK ▸ zfx hc h hn hst
def q1v:Expr->Bool
 | .ListComp ..=>true
 | .SetComp ..=>true
 | .DictComp ..=>true
 | _=>false
theorem z04{e:Expr}{t:Option Expr}{l:Nat}{env:Env}(h:q1v e=false):swapsWith e t l env=pure false:=by
 cases e<;>first | rfl | exact absurd (show true=false from h) (by decide)
inductive Dm where
 | non | bl (b:Bool) | int (i:Int) | str (x:Str) | tup (ds:List Dm) | lst
mutual
inductive Dt (H:Hp):V->Dm->Prop where
 | non:Dt H .non .non
 | bl (b:Bool):Dt H (.bl b) (.bl b)
 | int (i:Int):Dt H (.int i) (.int i)
 | str (x:Str):Dt H (.str x) (.str x)
 | tup {a:Addr} {xs:List V} {ds:List Dm}:H a=some (.tup xs)->DtA H xs ds->Dt H (.ref a) (.tup ds)
 | lst {a:Addr} {xs:List V}:H a=some (.lst xs)->Dt H (.ref a) .lst
inductive DtA (H:Hp):List V->List Dm->Prop where
 | nil:DtA H [] []
 | cons {x:V} {xs:List V} {d:Dm} {ds:List Dm}:Dt H x d->DtA H xs ds->DtA H (x::xs) (d::ds)
end
structure Kp(H H':Hp):Prop where
 t:∀b xs,H b=some (.tup xs)->H' b=some (.tup xs)
 l:∀b xs,H b=some (.lst xs)->∃ys,H' b=some (.lst ys)
theorem Kp.refl(H:Hp):Kp H H:=⟨fun _ _ h=>h,fun _ xs h=>⟨xs,h⟩⟩
theorem Kp.trans{H H1 H2:Hp}(a:Kp H H1)(b:Kp H1 H2):Kp H H2:=⟨fun c xs h=>b.t c xs (a.t c xs h),fun c xs h=>let ⟨ys,e⟩:=a.l c xs h; b.l c ys e⟩
theorem Same.kp{H H':Hp}(s:Same H H'):Kp H H':=⟨fun b xs h=>s b _ h,fun b xs h=>⟨xs,s b _ h⟩⟩
theorem z05{H:Hp}{p:Addr}(h:H p=none)(o:HO):Same H (upd H p o):=fun b u q=>by rw [z0a (z0h q h)]; exact q
theorem Kp.new{H:Hp}{p:Addr}(h:H p=none)(o:HO):Kp H (upd H p o):=(z05 h o).kp
theorem Kp.set{H:Hp}{p:Addr}{xs ys:List V}(h:H p=some (.lst xs)):Kp H (upd H p (.lst ys)):=
 ⟨fun b zs e=>by rw [z0a (zg0 e h (by intro z; cases z))]; exact e,fun b zs e=>by
  by_cases hb:b=p
  ·subst hb; exact⟨ys,z01⟩
  ·exact⟨zs,by rw [z0a hb]; exact e⟩⟩
mutual
theorem Dt.kp{H H':Hp}(k:Kp H H'):∀{v:V} {d:Dm},Dt H v d->Dt H' v d
 | _,_,.non=>.non
 | _,_,.bl b=>.bl b
 | _,_,.int i=>.int i
 | _,_,.str x=>.str x
 | _,_,.tup e r=>.tup (k.t _ _ e) (DtA.kp k r)
 | _,_,.lst e=>let ⟨_,e'⟩:=k.l _ _ e; .lst e'
theorem DtA.kp{H H':Hp}(k:Kp H H'):∀{xs:List V} {ds:List Dm},DtA H xs ds->DtA H' xs ds
 | _,_,.nil=>.nil
 | _,_,.cons r t=>.cons (Dt.kp k r) (DtA.kp k t)
end
theorem DtA.length{H:Hp}:∀{xs:List V} {ds:List Dm},DtA H xs ds->xs.length=ds.length
 | _,_,.nil=>rfl
 | _,_,.cons _ t=>by rw [List.length_cons,List.length_cons,DtA.length t]
theorem DtA.append{H:Hp}:∀{xs ys:List V} {ds es:List Dm},DtA H xs ds->DtA H ys es->DtA H (xs++ys) (ds++es)
 | _,_,_,_,.nil,h=>h
 | _,_,_,_,.cons r t,h=>.cons r (DtA.append t h)
theorem DtA.get{H:Hp}:∀{xs:List V} {ds:List Dm} {i:Nat} {x:V},DtA H xs ds->xs[i]?=some x->∃d,ds[i]?=some d/\Dt H x d
 | _,_,_,_,.nil,e=>by simp at e
 | _,_,0,_,.cons r _,e=>by simp at e; subst e; exact⟨_,rfl,r⟩
 | _,_,i+1,x,.cons _ t,e=>by
  obtain⟨d,h1,h2⟩:=DtA.get (i:=i) (x:=x) t (by simpa using e)
  exact⟨d,by simpa using h1,h2⟩
theorem Dt.tupI{H:Hp}{v:V}{ds:List Dm}(h:Dt H v (.tup ds)):∃a xs,v=.ref a/\H a=some (.tup xs)/\DtA H xs ds:=by
 cases h with
 | tup e r=>exact⟨_,_,rfl,e,r⟩
end L2
set_option Elab.async false
set_option linter.all false
set_option maxRecDepth 100000
namespace L2
open PySem PySem.Spec PyProof.Rows
section
variable{X:Cx}
def zmc(K:PySem.W.Frag):List V->Hp->VK->Prop:=fun xs H Q=>∃(a:Addr) (ns:List Int),xs=[.ref a]/\SqL K H a (ns.map V.int)/\0 < ns.length/\∀M,M∈ns->(∀a∈ns,M<=a)->Q (.int M) H
def zmd(K:PySem.W.Frag):List V->Hp->VK->Prop:=fun xs H Q=>∃(a:Addr) (ns:List Int),xs=[.ref a]/\SqL K H a (ns.map V.int)/\0 < ns.length/\∀M,M∈ns->(∀a∈ns,a<=M)->Q (.int M) H
theorem zlc(hc:X.calm=true):CallR X (.builtin "min") (zmc X.K):=by
 intro pins s σ H xs us Q I r h
 obtain⟨a,ns,rfl,hq,hne,q⟩:=h
 obtain⟨u,rfl,r1⟩:=r.one
 cases r1
 obtain⟨its,rv,pl,hz⟩:=I.list hq
 have hi:=zi6 rv
 obtain⟨xs,e⟩:=hi.allInts.items
 have hns:ns=xs.toList.map (·.1):=by
  rw [<- hi.numsOf,<- nums_intItems,<- e]
 have hsz:0 < xs.size:=by
  have h3:=hne; rw [hns,List.length_map,Array.length_toList] at h3; exact h3
 have hl:=pl.isList
 rw [e] at hl
 refine min_intList (I.ok.hd hc) hl hsz fun v h' tk hv hk=>?_
 obtain⟨t,rfl⟩:=intItems_at hv
 obtain⟨h1,h2⟩:=argBest_lt (numAt xs) (xs.size - 1)
 refine⟨.int _,H,I.kept hk,⟨_,rfl⟩,q _ ?_ fun a ha=>?_⟩
 ·rw [hns,numAt_eq]; exact getD_mem (by rw [List.length_map,Array.length_toList]; omega)
 ·rw [hns] at ha
  obtain⟨j,hj,rfl⟩:=mem_getD ha
  rw [List.length_map,Array.length_toList] at hj
  rw [<- numAt_eq]; exact h2 j (by omega)
theorem zld(hc:X.calm=true):CallR X (.builtin "max") (zmd X.K):=by
 intro pins s σ H xs us Q I r h
 obtain⟨a,ns,rfl,hq,hne,q⟩:=h
 obtain⟨u,rfl,r1⟩:=r.one
 cases r1
 obtain⟨its,rv,pl,hz⟩:=I.list hq
 have hi:=zi6 rv
 obtain⟨xs,e⟩:=hi.allInts.items
 have hns:ns=xs.toList.map (·.1):=by
  rw [<- hi.numsOf,<- nums_intItems,<- e]
 have hsz:0 < xs.size:=by
  have h3:=hne; rw [hns,List.length_map,Array.length_toList] at h3; exact h3
 have hl:=pl.isList
 rw [e] at hl
 refine max_intList (I.ok.hd hc) hl hsz fun v h' tk hv hk=>?_
 obtain⟨t,rfl⟩:=intItems_at hv
 obtain⟨h1,h2⟩:=argBest_gt (numAt xs) (xs.size - 1)
 refine⟨.int _,H,I.kept hk,⟨_,rfl⟩,q _ ?_ fun a ha=>?_⟩
 ·rw [hns,numAt_eq]; exact getD_mem (by rw [List.length_map,Array.length_toList]; omega)
 ·rw [hns] at ha
  obtain⟨j,hj,rfl⟩:=mem_getD ha
  rw [List.length_map,Array.length_toList] at hj
  rw [<- numAt_eq]; exact h2 j (by omega)
def zi0(K:PySem.W.Frag):List V->Hp->VK->Prop:=fun xs H Q=>∃(a:Addr) (ns:List Int),xs=[.ref a]/\SqL K H a (ns.map V.int)/\ns.length < 64/\∀(l:Addr) (ms:List Int),H l=none->ms.Perm ns->ms.Pairwise (· <= ·)->Q (.ref l) (upd H l (.lst (ms.map V.int)))
def q0h(t ta tb:TT):TT:=fun σ H Q=>t σ H fun c H1=>if c=true then ta σ H1 Q else tb σ H1 Q
mutual
def Dm.dat:Dm->PyData
 | .non=>.none
 | .bl b=>.bool b
 | .int i=>.int i
 | .str x=>.str x
 | .tup ds=>.tuple (zgw ds)
 | .lst=>.none
def zgw:List Dm->List PyData
 | []=>[]
 | d::ds=>d.dat::zgw ds
end
mutual
def Dm.shut:Dm->Bool
 | .tup ds=>zha ds
 | .lst=>false
 | .str x=>PyData.strOk x
 | _=>true
def zha:List Dm->Bool
 | []=>true
 | d::ds=>d.shut && zha ds
end
mutual
theorem Dt.reads{pins:List (Addr×Obj)}{σ : St}{H:Hp}{s:Shared}(I:Inv X pins σ H s):∀{x:V} {d:Dm} {u:Value},Dt H x d->d.shut=true->RelV x u->∃as,Reads s.heap u d.dat as
 | _,_,_,.non,_,r=>by cases r; exact⟨_,.none⟩
 | _,_,_,.bl b,_,r=>by cases r; exact⟨_,.bool b⟩
 | _,_,_,.int i,_,r=>by obtain⟨t,rfl⟩:=r; exact⟨_,.int i t⟩
 | _,_,_,.str x,_,r=>by obtain⟨t,rfl⟩:=r; exact⟨_,.str x t⟩
 | _,_,_,.tup e ra,hs,r=>by
  cases r
  obtain⟨its,rv,⟨o,ho,hc,n,hd⟩,_⟩:=I.tuple (SqT.of e)
  obtain⟨as,q⟩:=DtA.reads I ra (by simpa [Dm.shut] using hs) rv
  exact⟨as,by rw [Dm.dat]; exact .tuple ho hc hd (by simpa using q)⟩
 | _,_,_,.lst _,hs,_=>absurd hs (by simp[Dm.shut])
theorem DtA.reads{pins:List (Addr×Obj)}{σ : St}{H:Hp}{s:Shared}(I:Inv X pins σ H s):∀{xs:List V} {ds:List Dm} {us:List Value},DtA H xs ds->zha ds=true->Vals xs us->∃as,ReadsAll s.heap us (zgw ds) as
 | _,_,_,.nil,_,.nil=>⟨[],by rw [zgw]; exact .nil⟩
 | _,_,_,.cons r t,hs,.cons rv rt=>by
  rw [zha,Bool.and_eq_true] at hs
  obtain⟨as,q1⟩:=Dt.reads I r hs.1 rv
  obtain⟨bs,q2⟩:=DtA.reads I t hs.2 rt
  exact⟨as++bs,by rw [zgw]; exact .cons q1 q2⟩
end
def EqD(H:Hp)(x y:V)(b:Bool):Prop:=∃d e,Dt H x d/\Dt H y e/\(d.shut=true/\SeqAt.shaped d.dat=true)/\(e.shut=true/\SeqAt.shaped e.dat=true)/\b=PyData.eqv d.dat e.dat
def zyj(_:PySem.W.Frag):R2:=fun x y H Q=>∃b,EqD H x y b/\Q (.bl b) H
def q0l(_:PySem.W.Frag):R2:=fun x y H Q=>∃b,EqD H x y b/\Q (.bl (!b)) H
theorem dEq(hu:X.A.units+64 < cLine):OpR X (compareOp .Eq) (zyj X.K):=by
 intro pins s σ H x y v u Q I rx ry h
 obtain⟨b,⟨d,e,dx,dy,⟨s1,s2⟩,⟨s3,s4⟩,rfl⟩,q⟩:=h
 obtain⟨as,ra⟩:=Dt.reads I dx s1 rx
 obtain⟨bs,rb⟩:=Dt.reads I dy s3 ry
 exact eq_dataH ra rb s2 s4 hu ⟨.bl _,H,I,rfl,q⟩
end
end L2
set_option Elab.async false
set_option linter.all false
set_option maxRecDepth 100000
namespace L2
open PySem PySem.Spec PyProof.Rows
section
variable{κ : Type} [DecidableEq κ]
def zig(kvs:List (κ×V))(k : κ):Option V:=(kvs.find? fun kv=>decide (kv.1=k)).map (·.2)
def zew(kvs:List (κ×V))(k : κ)(v:V):List (κ×V):=
 if(kvs.any fun kv=>decide (kv.1=k))=true then kvs.map (fun kv=>if kv.1=k then(kv.1,v) else kv) else kvs++[(k,v)]
theorem zbh{p : κ×V}{r:List (κ×V)}{k : κ}(e:p.1=k):zig (p::r) k=some p.2:=by simp[zig,List.find?_cons,e]
theorem zbi{p : κ×V}{r:List (κ×V)}{k : κ}(e:¬ p.1=k):zig (p::r) k=zig r k:=by simp[zig,List.find?_cons,e]
theorem znw(k : κ):∀kvs:List (κ×V),(kvs.any fun kv=>decide (kv.1=k))=(zig kvs k).isSome
 | []=>rfl
 | p::r=>by
  rw [List.any_cons]
  by_cases e:p.1=k
  ·simp only[zbh e,decide_eq_true e,Bool.true_or,Option.isSome_some]
  ·rw [zbi e,decide_eq_false e,Bool.false_or]; exact znw k r
theorem zge(kvs:List (κ×V))(k : κ)(v:V):(zew kvs k v).length<=kvs.length+1:=by
 unfold zew
 split
 ·rw [List.length_map]; omega
 ·rw [List.length_append,List.length_cons,List.length_nil]; omega
theorem RelO.isSome_eq{o:Option V}{u:Option Value}(r:RelO o u):o.isSome=u.isSome:=by
 cases o with
 | none=>cases u with
  | none=>rfl
  | some _=>exact(show False from r).elim
 | some _=>cases u with
  | none=>exact(show False from r).elim
  | some _=>rfl
theorem RelO.getD{o:Option V}{u:Option Value}{d:V}{d':Value}(r:RelO o u)(rd:RelV d d'):RelV (o.getD d) (u.getD d'):=by
 cases o with
 | none=>cases u with
  | none=>exact rd
  | some _=>exact(show False from r).elim
 | some _=>cases u with
  | none=>exact(show False from r).elim
  | some _=>exact r
theorem KV.val{kvs:List (κ×V)}{vs:List (κ×Value)}(r:KV kvs vs)(k : κ):RelO (zig kvs k) (valueAt vs k):=by
 unfold KV at r
 induction r with
 | nil=>exact True.intro
 | @cons p q ps qs h t ih=>
  obtain⟨h1,h2⟩:=h
  by_cases e:p.1=k
  ·have e':q.1=k:=h1.symm.trans e
   have b:valueAt (q::qs) k=some q.2:=by simp[valueAt,List.find?_cons,e']
   rw [zbh e,b]; exact h2
  ·have e':¬ q.1=k:=fun z=>e (h1.trans z)
   have b:valueAt (q::qs) k=valueAt qs k:=by simp[valueAt,List.find?_cons,e']
   rw [zbi e,b]; exact ih
theorem KV.any{kvs:List (κ×V)}{vs:List (κ×Value)}(r:KV kvs vs)(k : κ):(kvs.any fun kv=>decide (kv.1=k))=vs.any fun kv=>decide (kv.1=k):=by
 unfold KV at r
 induction r with
 | nil=>rfl
 | cons h t ih=>rw [List.any_cons,List.any_cons,ih,h.1]
theorem KV.repl{kvs:List (κ×V)}{vs:List (κ×Value)}(r:KV kvs vs)(k : κ){y:V}{u:Value}(ry:RelV y u) :
  KV (kvs.map fun kv=>if kv.1=k then(kv.1,y) else kv) (vs.map fun kv=>if kv.1=k then(kv.1,u) else kv):=by
 unfold KV at r |-
 induction r with
 | nil=>exact .nil
 | @cons p q ps qs h t ih=>
  rw [List.map_cons,List.map_cons]
  refine .cons ?_ ih
  obtain⟨h1,h2⟩:=h
  by_cases e:p.1=k
  ·rw [if_pos e,if_pos (h1.symm.trans e)]; exact⟨h1,ry⟩
  ·rw [if_neg e,if_neg (fun z=>e (h1.trans z))]; exact⟨h1,h2⟩
theorem KV.put{kvs:List (κ×V)}{vs:List (κ×Value)}(r:KV kvs vs)(k : κ){y:V}{u:Value}(ry:RelV y u):KV (zew kvs k y) (stored vs k u):=by
 unfold zew stored
 rw [r.any k]
 by_cases e:(vs.any fun kv=>decide (kv.1=k))=true
 ·rw [if_pos e,if_pos e]; exact r.repl k ry
 ·rw [if_neg e,if_neg e]; exact Paired.snoc r ⟨rfl,ry⟩
theorem KV.keys{kvs:List (κ×V)}{vs:List (κ×Value)}(r:KV kvs vs):kvs.map (·.1)=vs.map (·.1):=by
 unfold KV at r
 induction r with
 | nil=>rfl
 | cons h t ih=>rw [List.map_cons,List.map_cons,ih,h.1]
theorem KV.length{kvs:List (κ×V)}{vs:List (κ×Value)}(r:KV kvs vs):kvs.length=vs.length:=Paired.length r
end
theorem zvy{P:Program}{w:World}{k:Key}{u:Value}(r:RelV (kV k) u):(z34 P w).is k u=true:=by
 cases k with
 | inl i=>obtain⟨t,e⟩:=(show ∃t,u=Value.int i t from r); subst e; exact zmt P w i t
 | inr x=>obtain⟨t,e⟩:=(show ∃t,u=Value.str x t from r); subst e; exact zms P w x t
theorem zkm{P:Program}{w:World}:∀{ks:List Key} {us:List Value},Vals (ks.map kV) us->ItemsAre (z34 P w) ks us
 | [],_,r=>by rw [List.map_nil] at r; cases r; exact .nil
 | k::ks,_,r=>by
  rw [List.map_cons] at r
  cases r with
  | cons h t=>exact .cons (zvy h) (zkm t)
abbrev KT(H:Hp):List (List Key×V)->List (List Key×Addr×Value)->Prop:=Paired fun p q=>p.1=q.1/\H q.2.1=some (.tup (p.1.map kV))/\RelV p.2 q.2.2
theorem KT.val{H:Hp}{kvs:List (List Key×V)}{xs:List (List Key×Addr×Value)}(r:KT H kvs xs)(k:List Key):RelO (zig kvs k) ((atKey xs k).map (·.2)):=by
 induction r with
 | nil=>exact True.intro
 | @cons p q ps qs h t ih=>
  obtain⟨h1,_,h2⟩:=h
  by_cases e:p.1=k
  ·have e':q.1=k:=h1.symm.trans e
   have b:atKey (q::qs) k=some q.2:=by simp[atKey,List.find?_cons,e']
   rw [zbh e,b]; exact h2
  ·have e':¬ q.1=k:=fun z=>e (h1.trans z)
   have b:atKey (q::qs) k=atKey qs k:=by simp[atKey,List.find?_cons,e']
   rw [zbi e,b]; exact ih
theorem KT.repl{H:Hp}{kvs:List (List Key×V)}{xs:List (List Key×Addr×Value)}(r:KT H kvs xs)(k:List Key){y:V}{u:Value}(ry:RelV y u) :
  KT H (kvs.map fun kv=>if kv.1=k then(kv.1,y) else kv) (xs.map (putAt k u)):=by
 induction r with
 | nil=>exact .nil
 | @cons p q ps qs h t ih=>
  rw [List.map_cons,List.map_cons]
  refine .cons ?_ ih
  obtain⟨h1,h2,h3⟩:=h
  unfold putAt
  by_cases e:p.1=k
  ·rw [if_pos e,if_pos (h1.symm.trans e)]; exact⟨h1,h2,ry⟩
  ·rw [if_neg e,if_neg (fun z=>e (h1.trans z))]; exact⟨h1,h2,h3⟩
theorem KT.put{H:Hp}{kvs:List (List Key×V)}{xs:List (List Key×Addr×Value)}(r:KT H kvs xs)(k:List Key){b:Addr}{y:V}{u:Value}(hb:H b=some (.tup (k.map kV)))(ry:RelV y u) :
  KT H (zew kvs k y) (storedH xs k b u):=by
 have e:(kvs.any fun kv=>decide (kv.1=k))=(atKey xs k).isSome:=by
  rw [znw,(r.val k).isSome_eq,Option.isSome_map]
 unfold zew storedH
 rw [e]
 by_cases q:(atKey xs k).isSome=true
 ·rw [if_pos q,if_pos q]; exact r.repl k ry
 ·rw [if_neg q,if_neg q]; exact Paired.snoc r ⟨rfl,hb,ry⟩
theorem KT.keeps{H H':Hp}{kvs:List (List Key×V)}{xs:List (List Key×Addr×Value)}(r:KT H kvs xs)(ht:∀b ys,H b=some (.tup ys)->H' b=some (.tup ys)):KT H' kvs xs:=
 Paired.mapP r fun _ _ z=>⟨z.1,ht _ _ z.2.1,z.2.2⟩
section
variable{P:Program}{w:World}{H:Hp}{h:Heap}{a:Addr}
theorem q13{u:HO}(ok:HOk P w H h)(e:Rd H a u):ObjOk P w H h a u:=e.ok ok
theorem zqh{kvs:List (Key×V)}(ok:HOk P w H h)(e:Rd H a (.dK kvs)):kvs.length<=sizeLine/\(a == sysModules)=false/\∃vs,KV kvs vs/\h.DictOf (z34 P w) a vs:=
 show ObjOk P w H h a (.dK kvs) from q13 ok e
theorem zzt{kvs:List (Key×V)}(ok:HOk P w H h)(e:H a=some (.dK kvs)):kvs.length<=sizeLine/\(a == sysModules)=false/\∃vs,KV kvs vs/\h.DictOf (z34 P w) a vs:=zqh ok (.inl e)
theorem zoi{ks:List Key}(ok:HOk P w H h)(e:H a=some (.tup (ks.map kV))):(tupleKind (z34 P w)).is h ks a:=by
 obtain⟨_,its,r,o,h1,h2,n,h3⟩:=(show ObjOk P w H h a (.tup (ks.map kV)) from ok a _ e)
 exact⟨o,its.toArray,n,h1,h2,h3,by simpa using zkm r⟩
theorem ztc{kvs:List (List Key×V)}(ok:HOk P w H h)(e:Rd H a (.dT kvs)):kvs.length<=sizeLine/\(a == sysModules)=false/\
  ∃xs,KT H kvs xs/\h.DictOfH (tupleKind (z34 P w)) a xs:=by
 obtain⟨z,y,xs,r,o,es,ep,h1,h2,h3,h4,h5⟩:=(show ObjOk P w H h a (.dT kvs) from q13 ok e)
 refine⟨z,y,xs,r,o,es,ep,h1,h2,h3,h4,fun x hx=>?_,h5⟩
 have all:∀{l:List (List Key×V)} {m:List (List Key×Addr×Value)},KT H l m->∀x∈m,(tupleKind (z34 P w)).is h x.1 x.2.1:=by
  intro l m q
  induction q with
  | nil=>intro x hx; exact nomatch hx
  | @cons p q ps qs hq t ih=>
   intro x hx
   rcases List.mem_cons.mp hx with e | hx
   ·subst e
    exact zoi ok (by rw [<- hq.1]; exact hq.2.1)
   ·exact ih x hx
 exact all r x hx
theorem q3k{kvs:List (List Key×V)}(ok:HOk P w H h)(e:H a=some (.dT kvs)):kvs.length<=sizeLine/\(a == sysModules)=false/\
  ∃xs,KT H kvs xs/\h.DictOfH (tupleKind (z34 P w)) a xs:=ztc ok (.inl e)
end
def DGet(H:Hp)(a:Addr)(y:V)(r:Option V):Prop:=
 (∃kvs k,Rd H a (.dK kvs)/\y=kV k/\r=zig kvs k)\/∃kvs k b,Rd H a (.dT kvs)/\y=.ref b/\H b=some (.tup (k.map kV))/\r=zig kvs k
def DPut(H:Hp)(a:Addr)(y v:V)(H':Hp):Prop:=
 (∃kvs k,H a=some (.dK kvs)/\y=kV k/\kvs.length < sizeLine/\H'=upd H a (.dK (zew kvs k v)))\/
 ∃kvs k b,H a=some (.dT kvs)/\y=.ref b/\H b=some (.tup (k.map kV))/\kvs.length < sizeLine/\H'=upd H a (.dT (zew kvs k v))
theorem DGet.k{H:Hp}{a:Addr}{kvs:List (Key×V)}{k:Key}(e:H a=some (.dK kvs)):DGet H a (kV k) (zig kvs k):=.inl ⟨kvs,k,.inl e,rfl,rfl⟩
theorem DGet.t{H:Hp}{a b:Addr}{kvs:List (List Key×V)}{k:List Key}(e:H a=some (.dT kvs))(eb:H b=some (.tup (k.map kV))):DGet H a (.ref b) (zig kvs k):=.inr ⟨kvs,k,b,.inl e,rfl,eb,rfl⟩
theorem DPut.k{H:Hp}{a:Addr}{kvs:List (Key×V)}{k:Key}{v:V}(e:H a=some (.dK kvs))(hl:kvs.length < sizeLine):DPut H a (kV k) v (upd H a (.dK (zew kvs k v))):=.inl ⟨kvs,k,e,rfl,hl,rfl⟩
theorem DPut.t{H:Hp}{a b:Addr}{kvs:List (List Key×V)}{k:List Key}{v:V}(e:H a=some (.dT kvs))(eb:H b=some (.tup (k.map kV)))(hl:kvs.length < sizeLine) :
  DPut H a (.ref b) v (upd H a (.dT (zew kvs k v))):=.inr ⟨kvs,k,b,e,rfl,eb,hl,rfl⟩
section
variable{X:Cx}{pins:List (Addr×Obj)}{σ : St}{H:Hp}{s:Shared}{a:Addr}{y v:V}{u r:Value}{o:Option V}{A:Around}{E:Value->Shared->Prop}
theorem Inv.big(I:Inv X pins σ H s):sysModules < s.heap.objs.size:=by
 have h:mainGlobals < s.heap.objs.size:=(I.mod.glob.keeps I.bk).lt
 exact Nat.lt_trans (by decide) h
theorem ztv{Q:Value->Shared->Prop}(hu:A.units+1 < cLine)(I:Inv X pins σ H s)(g:DGet H a y (some v))(ry:RelV y u)(h:∀w' s',Inv X pins σ H s'->RelV v w'->Q w' s') :
  wpAny (model X.prog X.w) A (getItem (.ref a) u) Q E s:=by
 rcases g with⟨kvs,k,e,ey,l⟩ | ⟨kvs,k,b,e,ey,eb,l⟩
 ·subst ey
  obtain⟨z,hd,vs,rel,dd⟩:=zqh I.hok e
  obtain⟨w',hw,rw'⟩:=RelO.some_of (v:=v) (o:=valueAt vs k) (by rw [l]; exact rel.val k)
  exact wpAny_getItem_of (zvy ry) dd.mapOf hw (h w' _ (I.tok _) rw')
 ·subst ey
  cases (show u=Value.ref b from ry)
  obtain⟨z,hd,xs,rel,dd⟩:=ztc I.hok e
  obtain⟨w',hw,rw'⟩:=RelO.some_of (v:=v) (o:=(atKey xs k).map (·.2)) (by rw [l]; exact rel.val k)
  obtain⟨p,hp,hp2⟩:=Option.map_eq_some_iff.mp hw
  refine wpAny_getItem_heap (tupleKind_room_in1 hu) (zoi I.hok eb) dd hp ?_
  rw [hp2]
  exact h w' _ (I.tok _) rw'
theorem ztt{h':Heap}{t':Nat}{ob:HO}(I:Inv X pins σ H s)(mu:Mut (H a))(hs:Heap.SameBut a s.heap h')(he:∃q,h'.get? a=some q)(new:ObjOk X.prog X.w (upd H a ob) h' a ob) :
  Inv X pins σ (upd H a ob) {s with heap:=h',toks:=t'}:=
 I.write (x:=a) (e:=a) mu (.inl rfl) (fun b q hb z=>(hs.2 b hb).trans z) he new
theorem zxg{P:Program}{w:World}{H':Hp}{h':Heap}{kvs:List (Key×V)}{vs:List (Key×Value)}(z:kvs.length<=sizeLine)(hd:(a == sysModules)=false)(rel:KV kvs vs)(dd:h'.DictOf (z34 P w) a vs) :
  ObjOk P w H' h' a (.dK kvs):=⟨z,hd,vs,rel,dd⟩
theorem ztu{H':Hp}{Q:Unit->Shared->Prop}(hu:A.units+1 < cLine)(I:Inv X pins σ H s)(g:DPut H a y v H')(ry:RelV y u)(rv:RelV v r)(h:∀s',Inv X pins σ H' s'->Q () s') :
  wpAny (model X.prog X.w) A (setItem (.ref a) u r) Q E s:=by
 rcases g with⟨kvs,k,e,ey,l,eH⟩ | ⟨kvs,k,b,e,ey,eb,l,eH⟩
 ·subst ey eH
  obtain⟨z,hd,vs,rel,dd⟩:=zzt I.hok e
  have hz:vs.length<=sizeLine:=by rw [<- rel.length]; exact z
  have hl:(zew kvs k v).length<=sizeLine:=by have:=zge kvs k v; omega
  refine wpAny_setItem_pairs (hsz:=hz) (zvy ry) dd fun h' dd' hs=>h _ ?_
  have he:∃q,h'.get? a=some q:=let ⟨q,_,_,hq,_⟩:=dd'; ⟨q,hq⟩
  exact ztt I (by rw [e]; exact True.intro) hs he (zxg hl hd (rel.put k rv) dd')
 ·subst ey eH
  cases (show u=Value.ref b from ry)
  obtain⟨z,hd,xs,rel,dd⟩:=q3k I.hok e
  have hz:xs.length<=sizeLine:=by rw [<- Paired.length rel]; exact z
  have hl:(zew kvs k v).length<=sizeLine:=by have:=zge kvs k v; omega
  refine wpAny_setItem_heap (hsz:=hz) (tupleKind_room_in1 hu) (zoi I.hok eb) dd fun h' dd' hs=>h _ ?_
  obtain⟨q,es,ep,hq,h2,h3,h4,_,h5⟩:=dd'
  refine ztt I (by rw [e]; exact True.intro) hs ⟨q,hq⟩ ⟨hl,hd,_,(rel.put k eb rv).keeps fun c ys ec=>?_,q,es,ep,hq,h2,h3,h4,h5⟩
  rw [z0a (zg0 ec e (fun z=>nomatch z))]
  exact ec
end
section
variable{X:Cx}{pins:List (Addr×Obj)}{σ : St}{H:Hp}{s:Shared}{a:Addr}{kvs:List (Key×V)}{k:Key}{u:Value}{A:Around}{E:Value->Shared->Prop}
end
def q4a(i:Expr):Prop:=∀ov iv,subscripted i false ov iv=operate [ov,iv] (getItem ov iv)
theorem zxz{prog:Program}{w:World}{A:Around}{E:Value->Shared->Prop}{s:Shared}{env:Env}{value slice:Expr}{pos:Pos}{T id:String}{Q:Value->Shared->Prop}
  (hl:typeLookup (.type T) "__getitem__" = pure (some (.builtin id))) (hs:q4a slice)
  (h:wpAny (model prog w) A (eval value env) (fun o s₁=>wpAny (model prog w) A (eval slice env) (fun i s₂=>s₂.TypeIs o T/\wpAny (model prog w) A (getItem o i) Q E s₂) E s₁) E s) :
  wpAny (model prog w) A (eval (.Subscript value slice pos) env) Q E s:=by
 refine Subscript_ (wpAny_mono h (fun o s₁ h₁=>wpAny_mono h₁ (fun i s₂ h₂=>?_) fun _ _ x=>x) fun _ _ x=>x)
 obtain⟨hT,h₂⟩:=h₂
 unfold subscriptTail
 refine wpAny_bind ?_
 rw [getitemInPython_of_ne hT.not_modules]
 refine wpAny_bind (wpAny_specialOf hT hl ?_)
 have fin:wpAny (model prog w) A (subscripted slice false o i) (fun r s₃=>wpAny (model prog w) A (letTemporaryGo value o r >>= fun _=>pure r) Q E s₃) E s₂:=by
  rw [hs o i]
  exact wpAny_operating (wpAny_mono h₂ (fun r s₃ h₃=>wpAny_bind (wpAny_letTemporaryGo (wpAny_pure h₃))) fun _ _ x=>x)
 first
  | exact wpAny_pure (wpAny_bind fin)
  | exact wpAny_bind (wpAny_pure (wpAny_bind fin))
  | exact wpAny_bind fin
theorem zn8{X:Cx}{pins:List (Addr×Obj)}{σ : St}{H:Hp}{s:Shared}{a:Addr}{y:V}{o:Option V}(I:Inv X pins σ H s)(g:DGet H a y o):s.TypeIs (.ref a) "dict":=by
 rcases g with⟨kvs,k,e,_,_⟩ | ⟨kvs,k,b,e,_,_,_⟩
 ·obtain⟨_,_,vs,_,dd⟩:=zqh I.hok e
  exact dd.typeIs
 ·obtain⟨_,_,xs,_,dd⟩:=ztc I.hok e
  exact dd.typeIs
def zlw(td ty:TE):TE:=fun σ H Q=>td σ H fun x H1=>ty σ H1 fun y H2=>∃a v,x=.ref a/\DGet H2 a y (some v)/\Q v H2
def q3t(ty td:TE):TE:=fun σ H Q=>ty σ H fun y H1=>td σ H1 fun x H2=>∃a o,x=.ref a/\DGet H2 a y o/\Q (.bl o.isSome) H2
def zm9(td ty tv:TE):TS:=fun D σ H=>tv σ H fun v H1=>td σ H1 fun x H2=>ty σ H2 fun y H3=>∃a H4,x=.ref a/\DPut H3 a y v H4/\D.nx σ H4
section
variable{X:Cx}{o i e value:Expr}{pos pos' tpos:Pos}{td ty tv:TE}
theorem zio(hu:X.A.units+1 < cLine)(ho:PE X o td)(hi:PE X i ty)(hs:q4a i):PE X (.Subscript o i pos) (zlw td ty):=by
 intro pins s σ H Q I h
 refine zxz PySem.F.slot_dict_getitem.lookup hs (thn (ho pins s σ H _ I h) fun u s1 ⟨x,H1,I1,rx,q1⟩=>thn (hi pins s1 σ H1 _ I1 q1) fun iv s2 ⟨y,H2,I2,ry,a,v,ex,g,q2⟩=>?_)
 subst ex
 obtain rfl:u=Value.ref a:=rx
 exact⟨zn8 I2 g,ztv hu I2 g ry fun w' s3 I3 rw'=>⟨v,H2,I3,rw',q2⟩⟩
theorem zd7(hu:X.A.units+1 < cLine)(ho:PE X o td)(hi:PE X i ty)(hv:PE X value tv)(hs:swapsWith value (some (.Subscript o i pos')) pos.line X.env=pure false) :
  PS X (.Assign [.Subscript o i pos'] value pos) (zm9 td ty tv):=by
 intro pins s σ H D I h
 refine wpAny_Assign_Subscript (thn (hv pins s σ H _ I h) fun r s1 ⟨v,H1,I1,rv,q1⟩=>thn (ho pins s1 σ H1 _ I1 q1) fun u s2 ⟨x,H2,I2,rx,q2⟩=>thn (hi pins s2 σ H2 _ I2 q2) fun iv s3 ⟨y,H3,I3,ry,a,H4,ex,g,q3⟩=>?_) hs
 subst ex
 obtain rfl:u=Value.ref a:=rx
 exact ztu hu I3 g ry rv fun s4 I4=>⟨σ,H4,I4,q3⟩
end
theorem zwc{P:Program}{w:World}{H:Hp}(h:Heap)(hb:sysModules < h.objs.size):ObjOk P w H (h.push {cls:=.type "dict",data:=.dict #[]}) h.objs.size (.dK []):=
 ⟨Nat.zero_le _,beq_eq_false_iff_ne.mpr (Ne.symm (Nat.ne_of_lt hb)),[],.nil,Heap.DictOf.new h⟩
theorem zwb{P:Program}{w:World}{H:Hp}(h:Heap)(hb:sysModules < h.objs.size):ObjOk P w H (h.push {cls:=.type "dict",data:=.dict #[]}) h.objs.size (.dT []):=
 ⟨Nat.zero_le _,beq_eq_false_iff_ne.mpr (Ne.symm (Nat.ne_of_lt hb)),[],.nil,_,#[],0,Heap.get?_push_size _ rfl,⟨rfl,rfl,rfl⟩,rfl,rfl,List.nodup_nil⟩
def zfi:TE:=fun _ H Q=>∀p,H p=none->Q (.ref p) (upd H p (.dK []))
def znz:TE:=fun _ H Q=>∀p,H p=none->Q (.ref p) (upd H p (.dT []))
section
variable{X:Cx}{pos:Pos}
theorem zoa:PE X (.Dict [] [] pos) zfi:=fun pins s σ H Q I h=>
 wpAny_Dict_empty ⟨.ref s.heap.objs.size,_,I.laid (a:=s.heap.objs.size) (o:=.dK []) (t':=s.toks) (fun _ _ q=>Heap.get?_push_of_some _ q) (Nat.le_refl _) (zwc s.heap I.big),rfl,h _ (I.hok.fresh (Nat.le_refl _))⟩
theorem zin:PE X (.Dict [] [] pos) znz:=fun pins s σ H Q I h=>
 wpAny_Dict_empty ⟨.ref s.heap.objs.size,_,I.laid (a:=s.heap.objs.size) (o:=.dT []) (t':=s.toks) (fun _ _ q=>Heap.get?_push_of_some _ q) (Nat.le_refl _) (zwb s.heap I.big),rfl,h _ (I.hok.fresh (Nat.le_refl _))⟩
end
def zdz:List (TE×TE)->St->Hp->(List (V×V)->Hp->Prop)->Prop
 | [],_,H,Q=>Q [] H
 | (tk,tv)::r,σ,H,Q=>tk σ H fun x H1=>tv σ H1 fun y H2=>zdz r σ H2 fun ps H3=>Q ((x,y)::ps) H3
def q1l(kvs more:List (Key×V)):List (Key×V):=more.foldl (fun acc kv=>zew acc kv.1 kv.2) kvs
def zph(trs:List (TE×TE)):TE:=fun σ H Q=>∀p,H p=none->zdz trs σ (upd H p (.dK [])) fun ps H2=>H2 p=some (.dK [])/\∃kvs:List (Key×V),ps=kvs.map (fun kv=>(kV kv.1,kv.2))/\kvs.length<=15/\Q (.ref p) (upd H2 p (.dK (q1l [] kvs)))
structure M1(X:Cx)(o:Expr)(m:Str)(apos:Pos)(e:Expr)(cpos:Pos):Prop where
 base:attributeBase o m X.env (eval o X.env)=eval o X.env
 few:((backTo cpos (starEach [e] X.env)).all (fun x=>!x.1) && (backToKw cpos (keywordEach [] X.env)).all (fun x=>x.1.isSome)
  && decide (([e]:List Expr).length+([]:List Keyword).length+(if([]:List Keyword).isEmpty then 0 else 1) < 30))=true
 line:(apos.endLine == cpos.line)=true
 trees:backTo cpos (starEach [e] X.env)=[(false,eval e X.env)]
structure M2(X:Cx)(o:Expr)(m:Str)(apos:Pos)(e f:Expr)(cpos:Pos):Prop where
 base:attributeBase o m X.env (eval o X.env)=eval o X.env
 few:((backTo cpos (starEach [e,f] X.env)).all (fun x=>!x.1) && (backToKw cpos (keywordEach [] X.env)).all (fun x=>x.1.isSome)
  && decide (([e,f]:List Expr).length+([]:List Keyword).length+(if([]:List Keyword).isEmpty then 0 else 1) < 30))=true
 line:(apos.endLine == cpos.line)=true
 trees:backTo cpos (starEach [e,f] X.env)=[(false,eval e X.env),(false,eval f X.env)]
def IsD(H:Hp)(a:Addr):Prop:=(∃kvs,Rd H a (.dK kvs))\/∃kvs,Rd H a (.dT kvs)
theorem zxc{X:Cx}{pins:List (Addr×Obj)}{σ : St}{H:Hp}{s:Shared}{a:Addr}(I:Inv X pins σ H s)(d:IsD H a) :
  s.TypeIs (.ref a) "dict"/\(∀b,Value.ref a=.ref b->∃ob,s.heap.get? b=some ob/\ob.dict=none)/\(a == sysModules)=false:=by
 rcases d with⟨kvs,e⟩ | ⟨kvs,e⟩
 ·obtain⟨_,hd,vs,_,dd⟩:=zqh I.hok e
  refine⟨dd.typeIs,fun b q=>?_,hd⟩
  cases q
  obtain⟨ob,_,_,h1,h2,_⟩:=dd
  exact⟨ob,h1,h2.2.1⟩
 ·obtain⟨_,hd,xs,_,dd⟩:=ztc I.hok e
  refine⟨dd.typeIs,fun b q=>?_,hd⟩
  cases q
  obtain⟨ob,_,_,h1,h2,_⟩:=dd
  exact⟨ob,h1,h2.2.1⟩
section
variable{X:Cx}{pins:List (Addr×Obj)}{σ : St}{H:Hp}{s:Shared}{a:Addr}{y d:V}{u r:Value}{o:Option V}{A:Around}{E:Value->Shared->Prop}
theorem q2c{Q:Value->Shared->Prop}(hu:A.units+1 < cLine)(I:Inv X pins σ H s)(g:DGet H a y o)(ry:RelV y u)(h:∀w' s',Inv X pins σ H s'->RelV (o.getD .non) w'->Q w' s') :
  wpAny (model X.prog X.w) A (call (.builtin "dict.get") [.ref a,u]) Q E s:=by
 rcases g with⟨kvs,k,e,ey,l⟩ | ⟨kvs,k,b,e,ey,eb,l⟩
 ·subst ey
  obtain⟨z,hd,vs,rel,dd⟩:=zqh I.hok e
  refine call_meetsIn PySem.F.slot_dict_get dd.typeIs PySem.F.entry_dict_get (PySem.F.args_dict_get_2 _ _) (meets_dict_get (z34 X.prog X.w) a (zvy ry) hd) ⟨_,dd.mapOf,h _ _ (I.tok _) ?_⟩
  rw [l]
  exact(rel.val k).getD rfl
 ·subst ey
  cases (show u=Value.ref b from ry)
  obtain⟨z,hd,xs,rel,dd⟩:=ztc I.hok e
  refine call_meetsIn PySem.F.slot_dict_get dd.typeIs PySem.F.entry_dict_get (PySem.F.args_dict_get_2 _ _) (meetsH_dict_get (tupleKind (z34 X.prog X.w)) a b hd) ⟨tupleKind_room_in1 hu,k,xs,zoi I.hok eb,dd,h _ _ (I.tok _) ?_⟩
  rw [l]
  exact(rel.val k).getD rfl
end
def zfj(td ty:TE):TE:=fun σ H Q=>td σ H fun x H1=>∃a,x=.ref a/\IsD H1 a/\ty σ H1 fun y H2=>∃o,DGet H2 a y o/\Q (o.getD .non) H2
def q0t(td ty tx:TE):TE:=fun σ H Q=>td σ H fun x H1=>∃a,x=.ref a/\IsD H1 a/\ty σ H1 fun y H2=>tx σ H2 fun z H3=>∃o,DGet H3 a y o/\Q (o.getD z) H3
section
variable{X:Cx}{o e f:Expr}{apos cpos:Pos}{td ty tx:TE}
theorem zvb(hu:X.A.units+1 < cLine)(ho:PE X o td)(he:PE X e ty) (m:M1 X o "get" apos e cpos):PE X (.Call (.Attribute o "get" apos) [e] [] cpos) (zfj td ty):=by
 intro pins s σ H Q I h
 refine wpAny_Call_method m.base m.few m.line PySem.F.plainAttrs_dict PySem.F.slot_dict_get PySem.F.type_dict_get (thn (ho pins s σ H _ I h) fun u s1 ⟨x,H1,I1,rx,a,ex,d,q1⟩=>?_)
 subst ex
 obtain rfl:u=Value.ref a:=rx
 obtain⟨t1,t2,_⟩:=zxc I1 d
 refine⟨t1,t2,?_⟩
 rw [m.trees]
 refine Calls.callWith_builtin rfl (Calls.evalArgs_plain (Calls.spliced_cons (thn (he pins s1 σ H1 _ I1 q1) fun iv s2 ⟨y,H2,I2,ry,ov,g,q2⟩=>Calls.spliced_nil ?_)))
 exact q2c hu I2 g ry fun w' s3 I3 rw'=>⟨_,H2,I3,rw',q2⟩
end
section
variable{X:Cx}{pins:List (Addr×Obj)}{σ : St}{H:Hp}{s:Shared}{a:Addr}{kvs:List (Key×V)}{A:Around}{E:Value->Shared->Prop}
theorem zwi{Q:Value->Shared->Prop}(I:Inv X pins σ H s)(e:Rd H a (.dK kvs))(h:∀p s',H p=none->Inv X pins σ (upd H p (.dK kvs)) s'->Q (.ref p) s'):wpAny (model X.prog X.w) A (call (.type "dict") [.ref a]) Q E s:=by
 obtain⟨z,hd,vs,rel,dd⟩:=zqh I.hok e
 refine kt_call_dict hd dd (by rw [<- rel.length]; exact z) fun h' dd' hs=>?_
 refine h _ _ (I.hok.fresh (Nat.le_refl _)) (I.laid (a:=s.heap.objs.size) (o:=.dK kvs) (t':=s.toks) (fun b q hq=>?_) (Nat.le_refl _) (zxg z (beq_eq_false_iff_ne.mpr (Ne.symm (Nat.ne_of_lt I.big))) rel dd'))
 exact(hs.2 b (Nat.ne_of_lt (Heap.lt_size hq))).trans (Heap.get?_push_of_some _ hq)
end
section
variable{X:Cx}{pins:List (Addr×Obj)}{σ : St}{H:Hp}{s:Shared}{a:Addr}{y:V}{u:Value}{A:Around}{E:Value->Shared->Prop}
end
end L2
namespace L2
open PySem PySem.Spec PyProof.Rows
section
variable{X:Cx}
end
section
variable{κ : Type} [DecidableEq κ]
end
end L2
set_option Elab.async false
set_option linter.all false
set_option maxRecDepth 100000
namespace L2
open PySem PySem.Spec PyProof.Rows
section
variable{X:Cx}
def q4y(K:PySem.W.Frag)(a:Addr)(f:Int->Option Value):Prop:=∃o es ep,K.lookup a=some o/\o.ExactDict/\o.data=.dict es ep/\(∀e∈es,∃k,Value.isInt k e.key=true/\e.hash=hashInt k)/\∀k,findBy Value.isInt es k=f k
def zpg(K:PySem.W.Frag)(td ty:TE):TE:=fun σ H Q=>td σ H fun x H1=>ty σ H1 fun y H2=>∃a k u v f,x=.ref a/\y=.int k/\q4y K a f/\f k=some u/\RelV v u/\Q v H2
end
end L2
set_option Elab.async false
set_option linter.all false
set_option maxRecDepth 100000
namespace L2
open PySem PySem.Spec PyProof.Rows
section
variable{X:Cx}{pins:List (Addr×Obj)}{σ : List (Option V)}{H:Hp}{s:Shared}{h':Heap}
theorem Inv.turnedL{t':Nat}{ch:List Addr}(I:Inv X pins σ H s)(k:∀b o,b∉ch->s.heap.get? b=some o->h'.get? b=some o)(hf:∀b∈ch,FpOk X pins H b):Inv X pins σ H {s with heap:=h',toks:=t'}:=by
 have nit:∀b u,H b=some u->b∉ch:=fun b u e z=>by rw [(hf b z).1] at e; cases e
 refine I.step (g':=s.gens) (d':=s.drawn) (ch:=ch) (fun b hb=>?_) (fun b o _ _ hc e _=>k b o hc e) (fun b o _ _ hc e _=>⟨o.slots,k b o hc e⟩) (fun _ _ _ _ n=>n)
  (fun b o hc e=>⟨o,k b o hc e⟩) (fun _ _ e=>e) (fun _ _ _ e=>e) (fun b ps e=>⟨#[],by rw [e]; simp⟩) (fun m hm=>?_) (fun b u e=>?_) I.bare
 ·obtain⟨_,f1,_,f3,f4,f5⟩:=hf b hb
  exact⟨f3,f1,f4,f5⟩
 ·obtain⟨o,es,ep,ho,r⟩:=hm
  exact⟨o,es,ep,k _ o (fun z=>(hf _ z).2.1 rfl) ho,r⟩
 ·refine(I.hok b u e).stay (fun c v hc q=>k c v ?_ q) (fun _ q=>q) fun _ _ q=>q
  rcases hc with z | z
  ·rw [z]; exact nit b u e
  ·exact nit c _ z
end
def Ite(K:PySem.W.Frag)(a:Addr):It:=
 ⟨fun i H=>∃xs x,SqL K H a xs/\xs[i]?=some x,fun i H x H'=>∃T v,x=.ref T/\H T=none/\H'=upd H T (.tup [.int i,v])/\∀xs,SqL K H a xs->xs[i]?=some v,fun i H=>∃xs,SqL K H a xs/\xs.length<=i⟩
def Itz(K:PySem.W.Frag)(a b:Addr):It:=
 ⟨fun i H=>∃xs ys x y,SqL K H a xs/\SqL K H b ys/\xs[i]?=some x/\ys[i]?=some y,fun i H x H'=>∃T u v,x=.ref T/\H T=none/\H'=upd H T (.tup [u,v])/\(∀xs,SqL K H a xs->xs[i]?=some u)/\∀ys,SqL K H b ys->ys[i]?=some v,
  fun i H=>∃xs ys,SqL K H a xs/\SqL K H b ys/\(xs.length<=i\/ys.length<=i)⟩
theorem zny:(2:Nat)<=sizeLine:=by decide
theorem zqx{P:Program}{w:World}{K:PySem.W.Frag}{elts:List Expr}{kt:Nat}{pt:Pos}(a e it:Addr)(hne:e≠it):Turn P w K (.Tuple elts kt pt) (Ite K a) [e,it] e (fun i h=>(∃old,IsEnum h e it i old)/\h.IsListIter it a i) where
 mem:=by simp
 obj:=fun i h st b hb=>by
  obtain⟨⟨old,he⟩,hi⟩:=st
  rcases List.mem_cons.mp hb with rfl | hb
  ·exact⟨_,he,fun v z=>by cases z⟩
  ·obtain rfl:=List.mem_singleton.mp hb
   obtain⟨o,e',c,d⟩:=hi
   exact⟨o,e',fun v z=>by rw [d] at z; cases z⟩
 keep:=fun i h h' st k=>by
  obtain⟨⟨old,he⟩,hi⟩:=st
  exact⟨⟨old,k e (by simp) _ he⟩,hi.at fun o q=>k it (by simp) o q⟩
 item:=by
  intro X hP hw hK hc i pins s σ H E I hf st hg
  subst hP hw hK
  obtain⟨⟨old,he⟩,hit⟩:=st
  obtain⟨xs,x,hq,hx⟩:=hg
  obtain⟨its,rv,p,hz⟩:=I.list hq
  obtain⟨u,hu,ru⟩:=rv.get hx
  refine wpAny_pyNext_enum_item he hit p.isList (x:=u) (by simpa using hu) hne fun h1 ho hit1 hT hsz hk=>?_
  refine⟨_,rfl,wpAny_letOwnedTupleGo_enum ho fun h2 he2 hs2=>?_⟩
  have helt:e < s.heap.objs.size:=Heap.lt_size he
  have hs2':Heap.SameBut e h1 h2:=hs2
  have kk:∀b o,b∉[e,it]->s.heap.get? b=some o->h2.get? b=some o:=fun b o hb q=>hs2'.extBut b o (fun z=>hb (by simp[z])) (hk b o (fun z=>hb (by simp[z])) (fun z=>hb (by simp[z])) q)
  have I1:Inv X pins σ H {s with heap:=h2,toks:=s.toks+1}:=I.turnedL kk hf
  have hTn:H s.heap.objs.size=none:=I.hok.fresh (Nat.le_refl _)
  have hT2:h2.get? s.heap.objs.size=some {cls:=.type "tuple",data:=.seq #[.int i s.toks,u]}:=hs2'.extBut _ _ (Nat.ne_of_gt helt) hT
  have I2:Inv X pins σ (upd H s.heap.objs.size (.tup [.int i,x])) {s with heap:=h2,toks:=s.toks+1}:=
   I1.track hTn (I.fpOk (Nat.le_refl _) hTn) (show ObjOk X.prog X.w _ h2 _ (.tup [.int i,x]) from⟨zny,[.int i s.toks,u],.cons ⟨_,rfl⟩ (.cons ru .nil),⟨_,hT2,rfl,_,rfl⟩⟩)
  refine⟨.ref s.heap.objs.size,_,I2,rfl,⟨s.heap.objs.size,x,rfl,hTn,rfl,fun ys hy=>by rw [I.list_inj hy hq]; exact hx⟩,⟨⟨u,by simpa using he2⟩,hit1.at fun o q=>(hs2'.2 it hne.symm).trans q⟩,fun b hb=>?_⟩
  have hbl:b < s.heap.objs.size:=by
   rcases List.mem_cons.mp hb with rfl | hb
   ·exact helt
   ·obtain rfl:=List.mem_singleton.mp hb
    obtain⟨o,e',_⟩:=hit
    exact Heap.lt_size e'
  rw [z0a (Nat.ne_of_lt hbl)]
  exact(hf b hb).1
 done:=by
  intro X hP hw hK hc i pins s σ H E I hf st hg
  subst hP hw hK
  obtain⟨⟨old,he⟩,hit⟩:=st
  obtain⟨xs,hq,hx⟩:=hg
  obtain⟨its,rv,p,hz⟩:=I.list hq
  have hl:=rv.length
  exact wpAny_pyNext_enum_end (I.ok.hd hc) he hit p.isList (by simp; omega) fun h' eb=>⟨rfl,I.turnedL (t':=s.toks) (fun b o hb q=>eb b o (fun z=>hb (by simp[z])) q) hf⟩
 self:=fun _ _ _ _ _ st h=>by
  obtain⟨⟨old,he⟩,_⟩:=st
  exact wpAny_pyIter_enum he h
section
variable{X:Cx}
def q1x(K:PySem.W.Frag)(ta:TA):TI:=fun σ H R=>ta σ H fun vs H1=>∃a,vs=[.ref a]/\(∃xs,SqL K H1 a xs)/\R (Ite K a) H1
theorem zyo{elts:List Expr}{kt:Nat}{pt p pos:Pos}{l:Expr}{ta:TA} (hg:Gl X "enumerate") (hm:X.mg "enumerate" = none) (ha:PA X [l] ta) (hst:zgi l=false:=by rfl):PI X (.Tuple elts kt pt) (.Call (.Name "enumerate" p) [l] [] pos) (q1x X.K ta):=by
 intro pins s σ H R I h
 refine Call_ (ze4 I hg hm boot_enumerate (PyProof.Rows.callWith_type1 (thn (ha pos pins s σ H _ I h) fun us s1 ⟨vs,H1,I1,r1,q1⟩=>?_) (z10 hst) rfl))
 obtain⟨a,e,⟨xs,hq⟩,q⟩:=q1
 subst e
 cases r1 with
 | cons r rr=>
  cases rr
  cases r
  obtain⟨its,rv,pl,hz⟩:=I1.list hq
  refine call_enumerate_list pl.isList fun h' he hi hsz hk=>?_
  have I2:Inv X pins σ H1 {s1 with heap:=h'}:=I1.kept (t':=s1.toks) hk
  refine wpAny_pyIter_enum he ?_
  refine⟨s1.heap.objs.size+1,[s1.heap.objs.size+1,s1.heap.objs.size],_,_,H1,rfl,I2,zqx a _ _ (Nat.succ_ne_self _),⟨⟨_,he⟩,hi⟩,fun b hb=>?_,q⟩
  have hle:s1.heap.objs.size<=b:=by
   rcases List.mem_cons.mp hb with rfl | hb
   ·exact Nat.le_succ _
   ·obtain rfl:=List.mem_singleton.mp hb
    exact Nat.le_refl _
  exact I1.fpOk hle (I1.hok.fresh hle)
end
section
variable{X:Cx}
def q4n(K:PySem.W.Frag)(ta:TA):TI:=fun σ H R=>ta σ H fun vs H1=>∃a b,vs=[.ref a,.ref b]/\(∃xs,SqL K H1 a xs)/\(∃ys,SqL K H1 b ys)/\R (Itz K a b) H1
end
end L2
set_option Elab.async false
set_option linter.all false
set_option maxRecDepth 100000
namespace L2
open PySem PySem.Spec PyProof.Rows
theorem Room.units1{k:Nat}{A:Around}(r:Room k A):A.units+1 < cLine:=by have:=r.un; omega
section
variable{X:Cx}
theorem zlg:CallR X (.type "dict") (fun xs H Q=>∃a kvs,xs=[.ref a]/\Rd H a (.dK kvs)/\∀p,H p=none->Q (.ref p) (upd H p (.dK kvs))):=by
 intro pins s σ H xs us Q I r h
 obtain⟨a,kvs,rfl,e,q⟩:=h
 obtain⟨u,rfl,r1⟩:=r.one
 cases r1
 exact zwi I e fun p s' hp I'=>⟨.ref p,_,I',rfl,q p hp⟩
def zhz(K:PySem.W.Frag):List V->Hp->VK->Prop:=fun xs H Q=>∃(a:Addr) (ns:List Str),xs=[.ref a]/\SqL K H a (ns.map V.str)/\ns.length < 64/\∀(l:Addr) (ms:List Str),H l=none->ms.Perm ns->sortedS ms=true->Q (.ref l) (upd H l (.lst (ms.map V.str)))
def zd3(r r' r'':R2)(ta tb tc td:TE):TT:=fun σ H Q=>ta σ H fun x H1=>tb σ H1 fun y H2=>r x y H2 fun z H3=>∃k,z=.bl k/\(if k=true then tc σ H3 fun w H4=>r' y w H4 fun z H5=>∃k,z=.bl k/\
 (if k=true then td σ H5 fun v H6=>r'' w v H6 fun z H7=>∃k,z=.bl k/\Q k H7 else Q false H5) else Q false H3)
def q4p(K:PySem.W.Frag)(tl:TE):TI:=fun σ H R=>tl σ H fun x H1=>∃a,x=.ref a/\(((∃xs,SqL K H1 a xs)/\R (Itl K a) H1)\/((∃xs,SqT K H1 a xs)/\R (Itt K a) H1))
end
theorem zw7{K:PySem.W.Frag}{a:Addr}{xs:List V}{g:TG}{tb:TS}{D:Ends}{σ : St}{H:Hp}(Pv:Nat->St->Hp->Prop)(h0:Pv 0 σ H)(hl:∀i σ H,i<=xs.length->Pv i σ H->SqL K H a xs)
  (hs:∀i x σ H T,xs[i]?=some x->Pv i σ H->H T=none->g (.ref T) σ (upd H T (.tup [.int i,x])) fun σ2 H2=>tb {D with nx:=Pv (i+1),ct:=Pv (i+1),bk:=D.nx} σ2 H2) (hd:∀ σ H,Pv xs.length σ H->D.nx σ H) :
  ∃W:Nat->Nat->St->Hp->Prop,(∃m,W 0 m σ H)/\∀i m σ H,W i m σ H->
   ((Ite K a).stop i H/\D.nx σ H)\/((Ite K a).go i H/\∃N:St->Hp->Prop,(∀ σ' H',N σ' H'->∃m',m' < m/\W (i+1) m' σ' H')/\∀x H',(Ite K a).yld i H x H'->g x σ H' fun σ2 H2=>tb {D with nx:=N,ct:=N,bk:=D.nx} σ2 H2):=by
 refine⟨fun i m σ H=>m=xs.length - i/\i<=xs.length/\Pv i σ H,⟨xs.length,by simp,Nat.zero_le _,h0⟩,?_⟩
 rintro i m σ H ⟨rfl,hi,p⟩
 have q:=hl i σ H hi p
 by_cases hlt:i < xs.length
 ·refine .inr ⟨⟨xs,xs[i],q,by simp[hlt]⟩,Pv (i+1),fun σ' H' p'=>⟨xs.length - (i+1),by omega,rfl,hlt,p'⟩,fun x H' y=>?_⟩
  obtain⟨T,v,rfl,hT,rfl,y⟩:=y
  exact hs i v σ H T (y xs q) p hT
 ·have e:i=xs.length:=by omega
  subst e
  exact .inl ⟨⟨xs,q,Nat.le_refl _⟩,hd σ H p⟩
section
variable{X:Cx}
def q3q(K:PySem.W.Frag)(H:Hp)(x y:V)(b:Bool):Prop:=∃a c xs ys ds es,x=.ref a/\y=.ref c/\SqL K H a xs/\SqL K H c ys/\DtA H xs ds/\DtA H ys es/\zha ds=true/\zha es=true/\SeqAt.shaped (.list (zgw ds))=true/\SeqAt.shaped (.list (zgw es))=true/\b=PyData.eqv (.list (zgw ds)) (.list (zgw es))
def zpw(K:PySem.W.Frag):R2:=fun x y H Q=>∃b,q3q K H x y b/\Q (.bl b) H
def zmb(K:PySem.W.Frag):R2:=fun x y H Q=>∃b,q3q K H x y b/\Q (.bl (!b)) H
theorem Inv.readsDL{pins:List (Addr×Obj)}{σ : St}{H:Hp}{s:Shared}{a:Addr}{xs:List V}{ds:List Dm}(I:Inv X pins σ H s)(h:SqL X.K H a xs)(d:DtA H xs ds)(hs:zha ds=true):∃as,Reads s.heap (.ref a) (.list (zgw ds)) as:=by
 obtain⟨its,r,⟨o,n,e,c,_,dd⟩,_⟩:=I.list h
 obtain⟨as,q⟩:=DtA.reads I d hs r
 exact⟨_,.list e c dd (by simpa using q)⟩
theorem q47(hu:X.A.units+64 < cLine):OpR X (compareOp .NotEq) (zmb X.K):=by
 intro pins s σ H x y v u Q I rx ry h
 obtain⟨b,⟨a,c,xs,ys,ds,es,rfl,rfl,h1,h2,d1,d2,s1,s2,s3,s4,rfl⟩,q⟩:=h
 cases rx; cases ry
 obtain⟨as,ra⟩:=I.readsDL h1 d1 s1
 obtain⟨bs,rb⟩:=I.readsDL h2 d2 s2
 exact ne_dataH ra rb s3 s4 hu ⟨.bl _,H,I,rfl,q⟩
end
end L2
set_option Elab.async false
set_option linter.all false
set_option maxRecDepth 100000
namespace L2
open PySem PySem.Spec PyProof.Rows
def Ris(xs:Array Nat):Prop:=xs.toList.Pairwise (· < ·)
theorem Ris.lt{xs:Array Nat}(h:Ris xs){i j:Nat}(hij:i < j)(hj:j < xs.size)(d:Nat):xs.getD i d < xs.getD j d:=by
 have e:=List.pairwise_iff_getElem.mp h i j (by simp; omega) (by simpa using hj) hij
 simpa [Array.getD,hj,Nat.lt_trans hij hj] using e
end L2
set_option Elab.async false
set_option linter.all false
set_option maxRecDepth 100000
namespace L2
open PySem PySem.Spec PyProof.Rows
section
variable{prog:Program}{w:World}{κ : Type} [DecidableEq κ] (knd:PySem.KeyKind prog w κ) (key:Value->κ)
def SetX(a:Addr)(L:Bool)(ks:List κ)(h:Heap):Prop:=
 ∃o es ep t,h.get? a=some o/\o.ExactSet/\o.data=.set es ep t/\ElemsOf knd es.toList/\ks=es.toList.map (fun e=>key e.2)/\ks.Nodup/\es.size < scanBound/\t.fits es.size=true/\Ris t.place/\t.led=L
variable{knd key}{A:Around}{E:Value->Shared->Prop}{s:Shared}{a:Addr}{L:Bool}{ks:List κ}
theorem SetX.len{h:Heap}(x:SetX knd key a L ks h):ks.length < scanBound:=by
 obtain⟨o,es,ep,t,_,_,_,_,rfl,_,hb,_⟩:=x
 simpa using hb
abbrev q2f(w:World):Bool:=w.params.followText "set-order"
end
end L2
set_option Elab.async false
set_option linter.all false
set_option maxRecDepth 100000
namespace L2
open PySem PySem.Spec PyProof.Rows
section
variable{prog:Program}{w:World}{A:Around}{E:Value->Shared->Prop}{s:Shared}{S I:Addr}{es:Array (Int×Value)}{ep:Nat}{t:SetTable}{o:Obj}
end
end L2
set_option Elab.async false
set_option linter.all false
set_option maxRecDepth 100000
namespace L2
open PySem PySem.Spec PyProof.Rows
section
variable{prog:Program}{w:World}{A:Around}{E:Value->Shared->Prop}{s:Shared}{S I:Addr}{es:Array (Int×Value)}{ep:Nat}{t:SetTable}{o:Obj}
def q4l:Value->Int
 | .int k _=>k
 | _=>0
theorem zj2{k:Int}{v:Value}(h:(intKind prog w).is k v=true):∃t,v=.int k t:=by
 cases v<;>simp[intKind,Value.isInt] at h
 exact⟨_,by rw [h]⟩
end
end L2
set_option Elab.async false
set_option linter.all false
set_option maxRecDepth 100000
namespace L2
open PySem PySem.Spec PyProof.Rows
def q3w(P:Program)(w:World)(p:Addr)(ks:List Int):HO:=.ext (SetX (intKind P w) q4l p (!q2f w) ks)
def q3a(P:Program)(w:World)(K:PySem.W.Frag):List V->Hp->VK->Prop:=fun xs H Q=>∃(a:Addr) (ns:List Int),xs=[.ref a]/\SqL K H a (ns.map V.int)/\ns.length<=1000/\
 ∀(p:Addr) (ks:List Int),H p=none->ks.Nodup->(∀x,x∈ks↔x∈ns)->ks.length<=ns.length->Q (.ref p) (upd H p (q3w P w p ks))
def zv0(P:Program)(w:World):List V->Hp->VK->Prop:=fun xs H Q=>∃(a:Addr) (ks:List Int),xs=[.ref a]/\H a=some (q3w P w a ks)/\ks.length < 64/\
 ∀(l:Addr) (ms:List Int),H l=none->ms.Perm ks->ms.Pairwise (· <= ·)->Q (.ref l) (upd H l (.lst (ms.map V.int)))
section
variable{X:Cx}
end
end L2
set_option Elab.async false
set_option linter.all false
set_option maxRecDepth 100000
namespace L2
open PySem PyProof.Rows
def q4b(P:Program)(w:World)(K:PySem.W.Frag)(mg:Str->Option Value)(base:Heap)(k:Nat)(f:Addr)(sp:Sp):Prop:=∃fd ps,FnOk P w K mg base CX0 k f fd ps sp/\PySem.W.keepIn K (.ref f)=true/\Binds K fd ps []
def zhv(L:Addr->Sp->Prop)(i:Nat)(t:TA):TE:=fun σ H Q=>∃f,σ[i]?=some (some (.ref f))/\∃sp,L f sp/\t σ H fun vs H1=>sp vs H1 Q E0
theorem zvc{X:Cx}{x:Str}{i k j:Nat}{e:Expr}{es:List Expr}{t:TA}{p pos:Pos}(hN:X.N[i]?=some x)(hv:Vis X.env.scope x)(hr:Room j X.A)(hk:k<=j)(ha:PA X (e::es) t)
  (hd:(x == ("__debug__" : Str))=false:=by decide) (hcd:(x == ("__classdict__" : Str))=false:=by decide) (hst:z2x (e::es)=true:=by rfl) :
  PE X (.Call (.Name x p) (e::es) [] pos) (zhv (q4b X.prog X.w X.K X.mg X.base k) i t):=by
 have hst':=hst
 rw [z2x,Bool.and_eq_true,Bool.not_eq_true'] at hst'
 have he:=z10 (es:=es) (env:=X.env) hst'.1
 have hpl:=z2w (pos:=pos) (env:=X.env) hst'.2
 intro pins s σ H Q I h
 obtain⟨f,ei,sp,⟨fd,ps,F,hkp,hb⟩,h⟩:=h
 refine wpAny_Call_Name_kw (thn (z00 (pos:=p) hN hv hd hcd pins s σ H (fun x' H'=>x'=.ref f/\t σ H' fun vs H1=>sp vs H1 Q E0) I ⟨_,ei,rfl,h⟩) fun u s0 ⟨x',H',I',r',ex,h'⟩=>?_)
 subst ex
 cases r'
 refine PySem.W.callWith_K (h₀:=X.base) I'.ok.mod.kin hkp (thn (ha pos pins s0 σ H' _ I' h') fun us s1 ⟨vs,H1,I1,r,q⟩=>⟨I1.kIn,?_⟩) he hpl
 exact zwz F (hr.mono hk) hb .nil (fun _ _ _ _ _ _ _ z=>z.elim) I1 r (by rw [List.append_nil]; exact q)
end L2
set_option Elab.async false
set_option linter.all false
set_option maxRecDepth 100000
namespace L2
open PySem PyProof.Rows
section
variable{P:Program}{w:World}{A:Around}{E:Value->Shared->Prop}{s:Shared}
theorem zod{it t:Addr}{i:Nat}{its:Array Value}{x:Value}{Q:Value->Shared->Prop}(a:s.heap.IsTupleIter it t i)(b:s.heap.IsTuple t its)(c:its[i]?=some x)
  (q:∀h',h'.IsTupleIter it t (i+1)->Heap.SameBut it s.heap h'->Q x {s with heap:=h'}):wpAny (model P w) A (Builtin.SmallTypes.nextOf (.ref it)) Q E s:=by
 have ty:=a.typeIs
 obtain⟨⟨_,dc,_,sl⟩,eo,rfl,rfl⟩:=a
 obtain⟨⟨_,dl,_,ll⟩,el,rfl,nl,rfl⟩:=b
 rw [Builtin.SmallTypes.nextOf]
 refine wpAny_bind (wpAny_callSpecial?_slot (name:="__next__") ty F.slot_tuple_iterator_next (wpAny_call_entry F.slot_tuple_iterator_next ty F.entry_tuple_iterator_next ?_ (F.args_tuple_iterator_next_1 _)))
 wp_walk
 simp only[Int.toNat_natCast,c]
 wp_walk
 exact⟨_,rfl,wpAny_pure (q _ ⟨_,Heap.get?_update_self _ eo rfl,rfl,by simp[Obj.mapFields,rawInt]⟩ (Heap.SameBut.update ..))⟩
theorem z9r{it t:Addr}{i:Nat}{its:Array Value}{Q:Value->Shared->Prop}(hh:A.handled=none)(a:s.heap.IsTupleIter it t i)(b:s.heap.IsTuple t its)(c:its[i]?=none)
  (q:∀h' e,Heap.ExtBut it s.heap h'->(∃o,h'.get? e=some o/\o.cls=.type "StopIteration")->E (.ref e) {s with heap:=h'}):wpAny (model P w) A (Builtin.SmallTypes.nextOf (.ref it)) Q E s:=by
 have ty:=a.typeIs
 obtain⟨⟨_,dc,_,sl⟩,eo,rfl,rfl⟩:=a
 obtain⟨⟨_,dl,_,ll⟩,el,rfl,nl,rfl⟩:=b
 rw [Builtin.SmallTypes.nextOf]
 refine wpAny_bind (wpAny_callSpecial?_slot (name:="__next__") ty F.slot_tuple_iterator_next (wpAny_call_entry F.slot_tuple_iterator_next ty F.entry_tuple_iterator_next ?_ (F.args_tuple_iterator_next_1 _)))
 wp_walk
 simp only[Int.toNat_natCast,c]
 have hh':A.in1.handled=none:=hh
 wp_walk
 rw [raiseNew]
 wp_walk
 exact q _ _ (((Heap.SameBut.update ..).extBut.push _).push _) ⟨_,Heap.get?_push_size _ rfl,rfl⟩
theorem zln(t u:Addr)(xs ys:Array Value):Meets (Builtin.«zip.__new__» ⟨[.type "zip",.ref t,.ref u],[]⟩) (fun _ R s=>s.heap.IsTuple t xs/\s.heap.IsTuple u ys/\
  ∀h',IsZip h' (s.heap.objs.size+4) (s.heap.objs.size+2) (s.heap.objs.size+3) .none->IsPair h' (s.heap.objs.size+2) (.ref s.heap.objs.size) (.ref (s.heap.objs.size+1))->IsPair h' (s.heap.objs.size+3) .none .none->
   h'.IsTupleIter s.heap.objs.size t 0->h'.IsTupleIter (s.heap.objs.size+1) u 0->h'.objs.size=s.heap.objs.size+5->(∀c o,s.heap.get? c=some o->h'.get? c=some o)->R (.ok (.ret (.ref (s.heap.objs.size+4)))) {s with heap:=h'}):=by
 refine .of_wp fun prog w A R s h=>?_
 obtain⟨hp,g,d,tk,os⟩:=s
 obtain⟨h1,h2,h⟩:=h
 have zz:=sub_zip
 have e1:Heap.IsTuple (Shared.heap ⟨hp,g,d,tk,os⟩) t xs:=h1
 have e2:Heap.IsTuple (Shared.heap ⟨hp.push {cls:=.type "tuple_iterator",data:=.fields #[.ref t,.int 0 0]},g,d,tk,os⟩) u ys:=Heap.IsTuple.push h2 _
 wp_walk using wpAny_pyIter_tuple e1,wpAny_pyIter_tuple e2
 refine⟨_,rfl,?_⟩
 have put:∀{k:Heap} {o:Obj} {n:Nat},n=k.objs.size->o.isFreed=false->(k.push o).get? n=some o:=fun e f=>by subst e; exact Heap.get?_push_size _ f
 have up:∀{k:Heap} {o o':Obj} {n:Nat},k.get? n=some o->(k.push o').get? n=some o:=fun e=>Heap.get?_push_of_some _ e
 simp only[Heap.size_push,Nat.add_assoc,Nat.reduceAdd]
 refine h _ ?_ ?_ ?_ ⟨_,up (up (up (up (put rfl rfl)))),rfl,rfl⟩ ⟨_,up (up (up (put (by simp[Heap.size_push]) rfl))),rfl,rfl⟩ (by simp[Heap.size_push]) fun c o x=>up (up (up (up (up x))))
 ·exact put (by simp[Heap.size_push]) rfl
 ·exact up (up (put (by simp[Heap.size_push]) rfl))
 ·exact up (put (by simp[Heap.size_push]) rfl)
def Nx(P:Program)(w:World)(A:Around)(it:Addr)(Q:Value->Shared->Prop)(E:Value->Shared->Prop)(s:Shared):Prop:=wpAny (model P w) A (Builtin.SmallTypes.nextOf (.ref it)) Q E s
theorem zfz{it:Addr}{Q:Value->Shared->Prop}(h:Nx P w A it Q E s):wpAny (model P w) A (Builtin.SmallTypes.nextOf (.ref it)) Q E s:=h
end
end L2
set_option Elab.async false
set_option linter.all false
set_option maxRecDepth 100000
namespace L2
open PySem PyProof.Rows
section
variable{P:Program}{w:World}{A:Around}{E:Value->Shared->Prop}{s:Shared}
set_option maxHeartbeats 8000000 in
theorem zp9{z I O i1 i2 t u:Addr}{k:Nat}{xs ys:Array Value}{x y a b:Value}{Q:Value->Shared->Prop}(D:ZipApart z I O i1 i2 t u)(hz:IsZip s.heap z I O .none)(hI:IsPair s.heap I (.ref i1) (.ref i2))(hO:IsPair s.heap O a b)
  (h1:s.heap.IsTupleIter i1 t k) (h2:s.heap.IsTupleIter i2 u k) (ht:s.heap.IsTuple t xs) (hu:s.heap.IsTuple u ys) (hx:xs[k]?=some x) (hy:ys[k]?=some y)
  (q:∀h',IsZip h' z I O (rawInt s.heap.objs.size)->IsPair h' O x y->h'.IsTupleIter i1 t (k+1)->h'.IsTupleIter i2 u (k+1)->IsPair h' s.heap.objs.size x y->h'.objs.size=s.heap.objs.size+1->
   (∀c o,c≠z->c≠O->c≠i1->c≠i2->s.heap.get? c=some o->h'.get? c=some o)->Q (.ref s.heap.objs.size) {s with heap:=h'}) :
  wpAny (model P w) A (Builtin.«zip.__next__» ⟨[.ref z],[]⟩) (fun fin s'=>∃v,fin=.done (.ret v)/\Q v s') E s:=by
 wp_walk using wpAny_onRaise,zfz
 have m0:Heap.SameBut z s.heap (s.heap.update z (Obj.mapFields fun x=>x.setIfInBounds 0 Value.ellipsis)):=Heap.SameBut.update ..
 have z0:IsZip (s.heap.update z (Obj.mapFields fun x=>x.setIfInBounds 0 Value.ellipsis)) z I O .ellipsis:=Heap.get?_update_self _ hz rfl
 generalize s.heap.update z (Obj.mapFields fun x=>x.setIfInBounds 0 Value.ellipsis)=g0 at m0 z0 |-
 refine zod (h1.extBut m0.extBut D.i1z) (ht.extBut m0.extBut D.l1z) hx fun g1 j1 m1=>?_
 have o1:IsPair g1 O a b:=m1.extBut _ _ D.TOi1 (m0.extBut _ _ D.TOz hO)
 wp_walk using wpAny_onRaise,zfz
 have m2:Heap.SameBut O g1 (g1.update O (Obj.mapSeq fun v=>v.setIfInBounds 0 x)):=Heap.SameBut.update ..
 have o2:IsPair (g1.update O (Obj.mapSeq fun v=>v.setIfInBounds 0 x)) O x b:=Heap.get?_update_self _ o1 rfl
 generalize g1.update O (Obj.mapSeq fun v=>v.setIfInBounds 0 x)=g2 at m2 o2 |-
 refine zod (((h2.extBut m0.extBut D.i2z).extBut m1.extBut D.i12.symm).extBut m2.extBut D.TOi2.symm) (((hu.extBut m0.extBut D.l2z).extBut m1.extBut D.l2i1).extBut m2.extBut D.l2TO) hy fun g3 j3 m3=>?_
 have o3:IsPair g3 O x b:=m3.extBut _ _ D.TOi2 o2
 have z3:IsZip g3 z I O .ellipsis:=m3.extBut _ _ D.i2z.symm (m2.extBut _ _ D.TOz.symm (m1.extBut _ _ D.i1z.symm z0))
 wp_walk using wpAny_onRaise,zfz
 have m4:Heap.SameBut O g3 (g3.update O (Obj.mapSeq fun v=>v.setIfInBounds (0+1) y)):=Heap.SameBut.update ..
 have o4:IsPair (g3.update O (Obj.mapSeq fun v=>v.setIfInBounds (0+1) y)) O x y:=Heap.get?_update_self _ o3 rfl
 generalize g3.update O (Obj.mapSeq fun v=>v.setIfInBounds (0+1) y)=g4 at m4 o4 |-
 have n4:g4.objs.size=s.heap.objs.size:=m4.1.trans (m3.1.trans (m2.1.trans (m1.1.trans m0.1)))
 rw [show((fun v:Array Value=>v.setIfInBounds (0+1) y) #[x,b]).toList.toArray = #[x,y] from rfl]
 have e5:IsPair (g4.push {cls:=.type "tuple",data:=.seq #[x,y]}) g4.objs.size x y:=Heap.get?_push_size _ rfl
 have z4:IsZip (g4.push {cls:=.type "tuple",data:=.seq #[x,y]}) z I O .ellipsis:=Heap.get?_push_of_some _ (m4.extBut _ _ D.TOz.symm z3)
 have k5:∀c o,c≠z->c≠O->c≠i1->c≠i2->s.heap.get? c=some o->(g4.push {cls:=.type "tuple",data:=.seq #[x,y]}).get? c=some o:=fun c o c1 c2 c3 c4 h=>Heap.get?_push_of_some _ (m4.extBut _ _ c2 (m3.extBut _ _ c4 (m2.extBut _ _ c2 (m1.extBut _ _ c3 (m0.extBut _ _ c1 h)))))
 have o5:IsPair (g4.push {cls:=.type "tuple",data:=.seq #[x,y]}) O x y:=Heap.get?_push_of_some _ o4
 have y1:(g4.push {cls:=.type "tuple",data:=.seq #[x,y]}).IsTupleIter i1 t (k+1):=(((j1.extBut m2.extBut D.TOi1.symm).extBut m3.extBut D.i12).extBut m4.extBut D.TOi1.symm).at fun o h=>Heap.get?_push_of_some _ h
 have y2:(g4.push {cls:=.type "tuple",data:=.seq #[x,y]}).IsTupleIter i2 u (k+1):=(j3.extBut m4.extBut D.TOi2.symm).at fun o h=>Heap.get?_push_of_some _ h
 have s5:(g4.push {cls:=.type "tuple",data:=.seq #[x,y]}).objs.size=s.heap.objs.size+1:=by rw [size_push',n4]
 rw [n4] at e5
 rw [n4]
 generalize g4.push {cls:=.type "tuple",data:=.seq #[x,y]}=g5 at e5 z4 k5 o5 y1 y2 s5 |-
 wp_walk
 have m6:Heap.SameBut z g5 ((g5.update z (Obj.mapFields fun v=>v.setIfInBounds 0 (rawInt s.heap.objs.size))).update z (Obj.mapFields fun v=>v.setIfInBounds 1 (Value.bool false))):=(Heap.SameBut.update ..).trans (Heap.SameBut.update ..)
 refine⟨_,rfl,q _ (Heap.get?_update_self _ (Heap.get?_update_self _ z4 rfl) rfl) (m6.extBut _ _ D.TOz o5) (y1.extBut m6.extBut D.i1z) (y2.extBut m6.extBut D.i2z) (m6.extBut _ _ (Nat.ne_of_gt (Heap.lt_size hz)) e5) (m6.1.trans s5) fun c o c1 c2 c3 c4 h=>m6.extBut _ _ c1 (k5 c o c1 c2 c3 c4 h)⟩
set_option maxHeartbeats 8000000 in
theorem zlo{z I O i1 i2 t u:Addr}{k:Nat}{xs ys:Array Value}{a b:Value}{Q:Fin->Shared->Prop}(hh:A.handled=none)(D:ZipApart z I O i1 i2 t u)(hz:IsZip s.heap z I O .none)(hI:IsPair s.heap I (.ref i1) (.ref i2))(hO:IsPair s.heap O a b)
  (h1:s.heap.IsTupleIter i1 t k) (h2:s.heap.IsTupleIter i2 u k) (ht:s.heap.IsTuple t xs) (hu:s.heap.IsTuple u ys) (hend:xs[k]?=none\/ys[k]?=none)
  (q:∀h' e,(∀c o,c≠z->c≠O->c≠i1->c≠i2->s.heap.get? c=some o->h'.get? c=some o)->(∃o,h'.get? e=some o/\o.cls=.type "StopIteration")->E (.ref e) {s with heap:=h'}) :
  wpAny (model P w) A (Builtin.«zip.__next__» ⟨[.ref z],[]⟩) Q E s:=by
 wp_walk using wpAny_onRaise,zfz
 have m0:Heap.SameBut z s.heap (s.heap.update z (Obj.mapFields fun x=>x.setIfInBounds 0 Value.ellipsis)):=Heap.SameBut.update ..
 have z0:IsZip (s.heap.update z (Obj.mapFields fun x=>x.setIfInBounds 0 Value.ellipsis)) z I O .ellipsis:=Heap.get?_update_self _ hz rfl
 generalize s.heap.update z (Obj.mapFields fun x=>x.setIfInBounds 0 Value.ellipsis)=g0 at m0 z0 |-
 cases hx:xs[k]? with
 | none=>
  refine z9r hh (h1.extBut m0.extBut D.i1z) (ht.extBut m0.extBut D.l1z) hx fun g1 e1 m1 he=>?_
  have z1:IsZip g1 z I O .ellipsis:=m1 _ _ D.i1z.symm z0
  obtain⟨oe,ho,hc⟩:=he
  have ne:e1≠z:=fun x=>by subst x; rw [z1] at ho; cases ho; simp at hc
  exact wpAny_setField_rec z1 (by simp) fun h5 _ m5=>q h5 e1 (fun c o c1 c2 c3 c4 h=>m5.extBut _ _ c1 (m1 _ _ c3 (m0.extBut _ _ c1 h))) ⟨oe,m5.extBut _ _ ne ho,hc⟩
 | some x=>
  have hy:ys[k]?=none:=hend.resolve_left (by rw [hx]; simp)
  refine zod (h1.extBut m0.extBut D.i1z) (ht.extBut m0.extBut D.l1z) hx fun g1 j1 m1=>?_
  have o1:IsPair g1 O a b:=m1.extBut _ _ D.TOi1 (m0.extBut _ _ D.TOz hO)
  wp_walk using wpAny_onRaise,zfz
  have m2:Heap.SameBut O g1 (g1.update O (Obj.mapSeq fun v=>v.setIfInBounds 0 x)):=Heap.SameBut.update ..
  generalize g1.update O (Obj.mapSeq fun v=>v.setIfInBounds 0 x)=g2 at m2 |-
  refine z9r hh (((h2.extBut m0.extBut D.i2z).extBut m1.extBut D.i12.symm).extBut m2.extBut D.TOi2.symm) (((hu.extBut m0.extBut D.l2z).extBut m1.extBut D.l2i1).extBut m2.extBut D.l2TO) hy fun g3 e3 m3 he=>?_
  have z3:IsZip g3 z I O .ellipsis:=m3 _ _ D.i2z.symm (m2.extBut _ _ D.TOz.symm (m1.extBut _ _ D.i1z.symm z0))
  obtain⟨oe,ho,hc⟩:=he
  have ne:e3≠z:=fun x=>by subst x; rw [z3] at ho; cases ho; simp at hc
  exact wpAny_setField_rec z3 (by simp) fun h5 _ m5=>q h5 e3 (fun c o c1 c2 c3 c4 h=>m5.extBut _ _ c1 (m3 _ _ c4 (m2.extBut _ _ c2 (m1.extBut _ _ c3 (m0.extBut _ _ c1 h))))) ⟨oe,m5.extBut _ _ ne ho,hc⟩
end
end L2
set_option Elab.async false
set_option linter.all false
set_option maxRecDepth 100000
namespace L2
open PySem PySem.Spec PyProof.Rows
section
variable{P:Program}{w:World}{A:Around}{E:Value->Shared->Prop}{s:Shared}
theorem zqs{z I O i1 i2 t u:Addr}{k:Nat}{xs ys:Array Value}{x y a b:Value}{Q:Option Value->Shared->Prop}(D:ZipApart z I O i1 i2 t u)(hz:IsZip s.heap z I O .none)(hI:IsPair s.heap I (.ref i1) (.ref i2))(hO:IsPair s.heap O a b)
  (h1:s.heap.IsTupleIter i1 t k) (h2:s.heap.IsTupleIter i2 u k) (ht:s.heap.IsTuple t xs) (hu:s.heap.IsTuple u ys) (hx:xs[k]?=some x) (hy:ys[k]?=some y)
  (q:∀h',IsZip h' z I O (rawInt s.heap.objs.size)->IsPair h' O x y->h'.IsTupleIter i1 t (k+1)->h'.IsTupleIter i2 u (k+1)->IsPair h' s.heap.objs.size x y->h'.objs.size=s.heap.objs.size+1->
   (∀c o,c≠z->c≠O->c≠i1->c≠i2->s.heap.get? c=some o->h'.get? c=some o)->Q (some (.ref s.heap.objs.size)) {s with heap:=h'}):wpAny (model P w) A (pyNext (.ref z)) Q E s:=by
 have ty:s.TypeIs (.ref z) "zip":=⟨_,hz,rfl⟩
 rw [pyNext]
 refine wpAny_bind (wpAny_attempt (wpAny_callSpecial?_slot (name:="__next__") ty PySem.F.slot_zip_next (wpAny_call_entry PySem.F.slot_zip_next ty PySem.F.entry_zip_next ?_ (PySem.F.args_zip_next_1 _))))
 exact zp9 D hz hI hO h1 h2 ht hu hx hy fun h' b1 b2 b3 b4 b5 b6 b7=>wpAny_pure (q h' b1 b2 b3 b4 b5 b6 b7)
theorem zui{z I O i1 i2 t u:Addr}{k:Nat}{xs ys:Array Value}{a b:Value}{Q:Option Value->Shared->Prop}(hh:A.handled=none)(D:ZipApart z I O i1 i2 t u)(hz:IsZip s.heap z I O .none)(hI:IsPair s.heap I (.ref i1) (.ref i2))(hO:IsPair s.heap O a b)
  (h1:s.heap.IsTupleIter i1 t k) (h2:s.heap.IsTupleIter i2 u k) (ht:s.heap.IsTuple t xs) (hu:s.heap.IsTuple u ys) (hend:xs[k]?=none\/ys[k]?=none)
  (q:∀h',(∀c o,c≠z->c≠O->c≠i1->c≠i2->s.heap.get? c=some o->h'.get? c=some o)->Q none {s with heap:=h'}):wpAny (model P w) A (pyNext (.ref z)) Q E s:=by
 have ty:s.TypeIs (.ref z) "zip":=⟨_,hz,rfl⟩
 rw [pyNext]
 refine wpAny_bind (wpAny_attempt (wpAny_callSpecial?_slot (name:="__next__") ty PySem.F.slot_zip_next (wpAny_call_entry PySem.F.slot_zip_next ty PySem.F.entry_zip_next (zlo (by simpa using hh) D hz hI hO h1 h2 ht hu hend fun h' e hk he=>?_) (PySem.F.args_zip_next_1 _))))
 obtain⟨o,ho,hc⟩:=he
 exact wpAny_bind (wpAny_isInstance (b:=true) ⟨o,ho,hc⟩ isSubtype_stop (wpAny_pure (q _ hk)))
theorem zu6{t u:Addr}{xs ys:Array Value}{Q:Value->Shared->Prop}(ht:s.heap.IsTuple t xs)(hu:s.heap.IsTuple u ys)
  (h:∀h',IsZip h' (s.heap.objs.size+4) (s.heap.objs.size+2) (s.heap.objs.size+3) .none->IsPair h' (s.heap.objs.size+2) (.ref s.heap.objs.size) (.ref (s.heap.objs.size+1))->IsPair h' (s.heap.objs.size+3) .none .none->
   h'.IsTupleIter s.heap.objs.size t 0->h'.IsTupleIter (s.heap.objs.size+1) u 0->h'.objs.size=s.heap.objs.size+5->(∀c o,s.heap.get? c=some o->h'.get? c=some o)->Q (.ref (s.heap.objs.size+4)) {s with heap:=h'}) :
  wpAny (model P w) A (call (.type "zip") [.ref t,.ref u]) Q E s:=by
 refine callType_new PySem.F.called_zip (by decide) (PySem.F.typeCall_zip_2 _ _) (PySem.F.newCall_zip_2 _ _) (fun obj=>PySem.F.args_object_init_3 obj _ _) PySem.F.entry_zip_new (zln t u xs ys) ⟨ht,hu,fun h' b1 b2 b3 b4 b5 b6 b7=>?_⟩
 exact⟨⟨_,b1,rfl⟩,h h' b1 b2 b3 b4 b5 b6 b7⟩
end
def zxp(K:PySem.W.Frag)(a b:Addr):It:=
 ⟨fun i H=>∃xs ys x y,SqT K H a xs/\SqT K H b ys/\xs[i]?=some x/\ys[i]?=some y,fun i H x H'=>∃T u v,x=.ref T/\H T=none/\H'=upd H T (.tup [u,v])/\(∀xs,SqT K H a xs->xs[i]?=some u)/\∀ys,SqT K H b ys->ys[i]?=some v,
  fun i H=>∃xs ys,SqT K H a xs/\SqT K H b ys/\(xs.length<=i\/ys.length<=i)⟩
theorem zqv{P:Program}{w:World}{K:PySem.W.Frag}{elts:List Expr}{kt:Nat}{pt:Pos}(a b z TI TO i1 i2:Addr)(D:ZipApart z TI TO i1 i2 a b) :
  Turn P w K (.Tuple elts kt pt) (zxp K a b) [z,TI,TO,i1,i2] z (fun i h=>IsZip h z TI TO .none/\IsPair h TI (.ref i1) (.ref i2)/\(∃u v,IsPair h TO u v)/\h.IsTupleIter i1 a i/\h.IsTupleIter i2 b i) where
 mem:=by simp
 obj:=fun i h st c hc=>by
  obtain⟨hz,hTI,⟨u,v,hTO⟩,h1,h2⟩:=st
  simp only[List.mem_cons,List.not_mem_nil,or_false] at hc
  rcases hc with rfl | rfl | rfl | rfl | rfl
  ·exact⟨_,hz,fun v z=>by cases z⟩
  ·exact⟨_,hTI,fun v z=>by cases z⟩
  ·exact⟨_,hTO,fun v z=>by cases z⟩
  ·obtain⟨o,e',c,d⟩:=h1
   exact⟨o,e',fun v z=>by rw [d] at z; cases z⟩
  ·obtain⟨o,e',c,d⟩:=h2
   exact⟨o,e',fun v z=>by rw [d] at z; cases z⟩
 keep:=fun i h h' st k=>by
  obtain⟨hz,hTI,⟨u,v,hTO⟩,h1,h2⟩:=st
  exact⟨k z (by simp) _ hz,k TI (by simp) _ hTI,⟨u,v,k TO (by simp) _ hTO⟩,h1.at fun o q=>k i1 (by simp) o q,h2.at fun o q=>k i2 (by simp) o q⟩
 item:=by
  intro X hP hw hK hc i pins s σ H E I hf st hg
  subst hP hw hK
  obtain⟨hz,hTI,⟨u0,v0,hTO⟩,h1,h2⟩:=st
  obtain⟨xs,ys,x,y,hq,hq2,hx,hy⟩:=hg
  obtain⟨its,rv,p,_⟩:=I.tuple hq
  obtain⟨its2,rv2,p2,_⟩:=I.tuple hq2
  obtain⟨u,hu,ru⟩:=rv.get hx
  obtain⟨u2,hu2,ru2⟩:=rv2.get hy
  refine zqs D hz hTI hTO h1 h2 p p2 (x:=u) (y:=u2) (by simpa using hu) (by simpa using hu2) fun h3 a1 a2 a3 a4 a5 a6 hk=>?_
  refine⟨_,rfl,wpAny_letOwnedTupleGo_zip a1 fun h4 hz4 hs4=>?_⟩
  have hs4':Heap.SameBut z h3 h4:=hs4
  have hzl:z < s.heap.objs.size:=Heap.lt_size hz
  have kk:∀c o,c∉[z,TI,TO,i1,i2]->s.heap.get? c=some o->h4.get? c=some o:=fun c o hc' q=>
   hs4'.extBut c o (fun e=>hc' (by simp[e])) (hk c o (fun e=>hc' (by simp[e])) (fun e=>hc' (by simp[e])) (fun e=>hc' (by simp[e])) (fun e=>hc' (by simp[e])) q)
  have I1:Inv X pins σ H {s with heap:=h4,toks:=s.toks}:=I.turnedL kk hf
  have hTn:H s.heap.objs.size=none:=I.hok.fresh (Nat.le_refl _)
  have hT2:h4.get? s.heap.objs.size=some {cls:=.type "tuple",data:=.seq #[u,u2]}:=hs4'.extBut _ _ (Nat.ne_of_gt hzl) a5
  have I2:Inv X pins σ (upd H s.heap.objs.size (.tup [x,y])) {s with heap:=h4,toks:=s.toks}:=
   I1.track hTn (I.fpOk (Nat.le_refl _) hTn) (show ObjOk X.prog X.w _ h4 _ (.tup [x,y]) from⟨zny,[u,u2],.cons ru (.cons ru2 .nil),⟨_,hT2,rfl,_,rfl⟩⟩)
  refine⟨.ref s.heap.objs.size,_,I2,rfl,⟨s.heap.objs.size,x,y,rfl,hTn,rfl,fun zs hz'=>by rw [I.tuple_inj hz' hq]; exact hx,fun zs hz'=>by rw [I.tuple_inj hz' hq2]; exact hy⟩,
   ⟨hz4,hs4'.extBut _ _ D.TIz (hk _ _ D.TIz D.TITO D.TIi1 D.TIi2 hTI),⟨_,_,hs4'.extBut _ _ D.TOz a2⟩,a3.at fun o q=>(hs4'.2 i1 D.i1z).trans q,a4.at fun o q=>(hs4'.2 i2 D.i2z).trans q⟩,fun c hc'=>?_⟩
  have hcl:c < s.heap.objs.size:=by
   simp only[List.mem_cons,List.not_mem_nil,or_false] at hc'
   rcases hc' with rfl | rfl | rfl | rfl | rfl
   ·exact hzl
   ·exact Heap.lt_size hTI
   ·exact Heap.lt_size hTO
   ·obtain⟨o,e',_⟩:=h1; exact Heap.lt_size e'
   ·obtain⟨o,e',_⟩:=h2; exact Heap.lt_size e'
  rw [z0a (Nat.ne_of_lt hcl)]
  exact(hf c hc').1
 done:=by
  intro X hP hw hK hc i pins s σ H E I hf st hg
  subst hP hw hK
  obtain⟨hz,hTI,⟨u0,v0,hTO⟩,h1,h2⟩:=st
  obtain⟨xs,ys,hq,hq2,hend⟩:=hg
  obtain⟨its,rv,p,_⟩:=I.tuple hq
  obtain⟨its2,rv2,p2,_⟩:=I.tuple hq2
  have e1:=rv.length
  have e2:=rv2.length
  refine zui (I.ok.hd hc) D hz hTI hTO h1 h2 p p2 ?_ fun h' hk=>⟨rfl,I.turnedL (t':=s.toks) (fun c o hc' q=>hk c o (fun e=>hc' (by simp[e])) (fun e=>hc' (by simp[e])) (fun e=>hc' (by simp[e])) (fun e=>hc' (by simp[e])) q) hf⟩
  rcases hend with z | z
  ·exact .inl (by simp; omega)
  ·exact .inr (by simp; omega)
 self:=fun _ _ _ _ _ st h=>wpAny_pyIter_zip st.1 h
section
variable{X:Cx}
def zzl(K:PySem.W.Frag)(ta:TA):TI:=fun σ H R=>ta σ H fun vs H1=>∃a b,vs=[.ref a,.ref b]/\(∃xs,SqT K H1 a xs)/\(∃ys,SqT K H1 b ys)/\R (zxp K a b) H1
theorem zro{elts:List Expr}{kt:Nat}{pt p pos:Pos}{l l2:Expr}{ta:TA} (hg:Gl X "zip") (hm:X.mg "zip" = none) (ha:PA X [l,l2] ta) (hst:zgi l=false:=by rfl) (hst2:zgi l2=false:=by rfl):PI X (.Tuple elts kt pt) (.Call (.Name "zip" p) [l,l2] [] pos) (zzl X.K ta):=by
 intro pins s σ H R I h
 have hpl:=z2w (pos:=pos) (env:=X.env) (es:=[l2]) (by simp[z2x,hst2])
 refine Call_ (ze4 I hg hm boot_zip (PyProof.Rows.callWith_type1 (thn (ha pos pins s σ H _ I h) fun us s1 ⟨vs,H1,I1,r1,q1⟩=>?_) (z10 hst) hpl))
 obtain⟨a,b,e,⟨xs,hq⟩,⟨ys,hq2⟩,q⟩:=q1
 subst e
 cases r1 with
 | cons r rr=>
  cases rr with
  | cons r2 rr=>
   cases rr
   cases r
   cases r2
   obtain⟨its,rv,pl,_⟩:=I1.tuple hq
   obtain⟨its2,rv2,pl2,_⟩:=I1.tuple hq2
   have hla:a < s1.heap.objs.size:=by obtain⟨_,e,_⟩:=pl; exact Heap.lt_size e
   have hlb:b < s1.heap.objs.size:=by obtain⟨_,e,_⟩:=pl2; exact Heap.lt_size e
   refine zu6 pl pl2 fun h' hz hTI hTO h1 h2 hsz hk=>?_
   have I2:Inv X pins σ H1 {s1 with heap:=h'}:=I1.kept (t':=s1.toks) hk
   refine wpAny_pyIter_zip hz ?_
   refine⟨s1.heap.objs.size+4,[s1.heap.objs.size+4,s1.heap.objs.size+2,s1.heap.objs.size+3,s1.heap.objs.size,s1.heap.objs.size+1],_,_,H1,rfl,I2,zqv a b _ _ _ _ _ (zipApart_new hla hlb),⟨hz,hTI,⟨_,_,hTO⟩,h1,h2⟩,fun c hc=>?_,q⟩
   have hle:s1.heap.objs.size<=c:=by
    simp only[List.mem_cons,List.not_mem_nil,or_false] at hc
    rcases hc with rfl | rfl | rfl | rfl | rfl<;>first | exact Nat.le_refl _ | exact Nat.le_add_right _ _
   exact I1.fpOk hle (I1.hok.fresh hle)
end
section
variable{prog:Program}{w:World}{A:Around}{E:Value->Shared->Prop}{s:Shared}
theorem zb0{t sl:Addr}{items:Array Value}{vl vu:Value}{lo hi:Option Int}{Q:Value->Shared->Prop}(ht:IsTup s.heap t items)(hs:s.heap.IsSliceOf sl vl vu .none)(pl:IsPart vl lo)(pu:IsPart vu hi)
  (hw:HT.sIx items.size 0 lo=0/\HT.sIx items.size items.size hi=items.size) (h:Q (.ref t) s):wpAny (model prog w) A (getItem (.ref t) (.ref sl)) Q E s:=by
 obtain⟨os,hos,hcs,hds⟩:=id hs
 have ts:s.TypeIs (.ref sl) "slice":=⟨os,hos,hcs⟩
 unfold getItem
 try with_reducible refine wpAny_holding ?_
 first | refine wpAny_bind (wpAny_pure ?_) | skip
 refine wpAny_bind (wpAny_sequenceKey ht.typeIs (by decide) ?_)
 refine wpAny_bind (wpAny_callSpecial?_slot (name:=Str.ofString "__getitem__") ht.typeIs PyProof.Rows.slot_tuple_getitem (wpAny_call_entry PyProof.Rows.slot_tuple_getitem ht.typeIs entry_tuple_getitem ?_ (args_tuple_getitem _ _)))
 show wpAny _ _ (Builtin.Tuple.tupleItemsOf (.ref t) >>= _) _ _ s
 refine wpAny_bind (PyProof.Rows.tupleItemsOf_ ht (wpAny_bind (wpAny_typeOf ts ?_)))
 rw [if_pos (by decide)]
 refine wpAny_bind (HT.z8i hs pl pu ?_)
 refine wpAny_ite_split (fun _=>?_) (fun c=>absurd ?_ c)
 ·unfold Builtin.Tuple.tupleIsExact
  refine wpAny_bind (wpAny_bind (wpAny_typeOf ht.typeIs (wpAny_pure ?_)))
  refine wpAny_ite_split (fun _=>?_) (fun c=>absurd (by decide) c)
  exact wpAny_bind (wpAny_rule (wpAny_pure ⟨_,rfl,wpAny_pure h⟩))
 ·rw [hw.1,hw.2]
  simp
end
section
variable{X:Cx}
def q14(K:PySem.W.Frag):V->Option Int->Option Int->Hp->VK->Prop:=fun x lo hi H Q=>∃a xs,x=.ref a/\SqT K H a xs/\
 (((HT.sIx xs.length 0 lo=0/\HT.sIx xs.length xs.length hi=xs.length)/\Q (.ref a) H)\/(¬ (HT.sIx xs.length 0 lo=0/\HT.sIx xs.length xs.length hi=xs.length)/\∀p,H p=none->Q (.ref p) (upd H p (.tup (q0n xs lo hi)))))
theorem zy3:SlR X (q14 X.K):=by
 intro pins s σ H x v vl vu lo hi sl Q I rx hs pl pu h
 obtain⟨a,xs,rfl,hx,⟨hw,q⟩ | ⟨hw,q⟩⟩:=h
 ·cases rx
  obtain⟨its,r,ht,hz⟩:=I.tuple hx
  have hlen:its.toArray.size=xs.length:=by rw [List.size_toArray]; exact r.length.symm
  exact⟨"tuple",_,PyProof.Rows.slot_tuple_getitem.lookup,ht.typeIs,zb0 ht hs pl pu (by rw [hlen]; exact hw) ⟨.ref a,H,I,rfl,q⟩⟩
 ·exact q0w pins s σ H (.ref a) v vl vu lo hi sl Q I rx hs pl pu ⟨a,xs,rfl,hx,hw,q⟩
end
theorem ztw{K:PySem.W.Frag}{a b:Addr}{xs ys:List V}{g:TG}{tt:TT}{te:TE}{Q:VK}{σ : St}{H:Hp}(hxy:ys.length<=xs.length)(Pv:Nat->List V->St->Hp->Prop)(h0:Pv 0 [] σ H)(hz:ys.length < sizeLine)(hy:∀i zs σ H,Pv i zs σ H->zs.length<=i)(hl:∀i zs σ H,i<=ys.length->Pv i zs σ H->SqT K H a xs/\SqT K H b ys)
  (hs:∀i zs x y σ H T,xs[i]?=some x->ys[i]?=some y->Pv i zs σ H->H T=none->g (.ref T) σ (upd H T (.tup [x,y])) fun σ2 H2=>tt σ2 H2 fun b H3=>if b=true then te σ2 H3 (fun v H4=>Pv (i+1) (zs++[v]) σ2 H4) else Pv (i+1) zs σ2 H3)
  (hd:∀zs σ H,Pv ys.length zs σ H->∀p,H p=none->Q (.ref p) (upd H p (.lst zs))):zaa (zxp K a b) g tt te Q σ H:=by
 refine⟨fun i m zs σ H=>m=ys.length - i/\i<=ys.length/\Pv i zs σ H,⟨ys.length,by simp,Nat.zero_le _,h0⟩,?_⟩
 rintro i m zs σ H ⟨rfl,hi,p⟩
 have q:=hl i zs σ H hi p
 have hyl:=hy i zs σ H p
 by_cases hlt:i < ys.length
 ·refine .inr ⟨⟨xs,ys,xs[i]'(by omega),ys[i],q.1,q.2,by simp,by simp⟩,by omega,Pv (i+1),fun ys' σ' H' p'=>⟨ys.length - (i+1),by omega,rfl,hlt,p'⟩,fun x H' y=>?_⟩
  obtain⟨T,u,v,rfl,hT,rfl,y1,y2⟩:=y
  exact hs i zs u v σ H T (y1 xs q.1) (y2 ys q.2) p hT
 ·have e:i=ys.length:=by omega
  subst e
  exact .inl ⟨⟨xs,ys,q.1,q.2,.inr (Nat.le_refl _)⟩,by omega,hd zs σ H p⟩
theorem zru{P:Program}{w:World}{K:PySem.W.Frag}{mg:Str->Option Value}{base:Heap}{X:Cx}{x:Str}{i k j:Nat}{e:Expr}{es:List Expr}{t:TA}{p pos:Pos}(eP:X.prog=P)(ew:X.w=w)(eK:X.K=K)(em:X.mg=mg)(eb:X.base=base)
  (hN:X.N[i]?=some x) (hv:Vis X.env.scope x) (hr:Room j X.A) (hk:k<=j) (ha:PA X (e::es) t)
  (hd:(x == ("__debug__" : Str))=false:=by decide) (hcd:(x == ("__classdict__" : Str))=false:=by decide) (hst:z2x (e::es)=true:=by rfl) :
  PE X (.Call (.Name x p) (e::es) [] pos) (zhv (q4b P w K mg base k) i t):=by
 subst eP ew eK em eb
 exact zvc hN hv hr hk ha hd hcd hst
end L2
set_option Elab.async false
set_option linter.all false
set_option maxRecDepth 100000
namespace L2
open PySem PySem.Spec PyProof.Rows
inductive DX where
 | c (d:Dm) | var (i:Nat) | tup (l:List DX) | lst (l:List DX) | cat (a b:DX) | lof (a:DX)
def q4u:Dm->Dm->Dm
 | .tup x,.tup y=>.tup (x++y)
 | _,_=>.non
mutual
def DX.val(ρ : Nat->Dm):DX->Dm
 | .c d=>d
 | .var i=>ρ i
 | .tup l=>.tup (q30 ρ l)
 | .lst _=>.lst
 | .cat a b=>q4u (a.val ρ) (b.val ρ)
 | .lof _=>.lst
def q30(ρ : Nat->Dm):List DX->List Dm
 | []=>[]
 | x::r=>x.val ρ::q30 ρ r
end
mutual
def DX.Fit(ρ : Nat->Dm)(σ : St)(H:Hp):DX->Prop
 | .c _=>True
 | .var i=>∃v,σ[i]?=some (some v)/\Dt H v (ρ i)
 | .tup l=>l.length<=1000/\q2x ρ σ H l
 | .lst l=>l.length<=1000/\q2x ρ σ H l
 | .cat a b=>a.Fit ρ σ H/\b.Fit ρ σ H/\∃x y,a.val ρ = .tup x/\b.val ρ = .tup y/\x.length+y.length<=1000
 | .lof a=>a.Fit ρ σ H/\∃x,a.val ρ = .tup x
def q2x(ρ : Nat->Dm)(σ : St)(H:Hp):List DX->Prop
 | []=>True
 | x::r=>x.Fit ρ σ H/\q2x ρ σ H r
end
structure Env(ρ : Nat->Dm)(σ : St)(H:Hp)(vo vt:List Nat):Prop where
 o:∀i∈vo,∃v,σ[i]?=some (some v)/\Dt H v (ρ i)
 t:∀i∈vt,∃ds,ρ i=.tup ds/\ds.length<=100
def tDX(x:DX):TE:=fun σ H Q=>∃ ρ,x.Fit ρ σ H/\∀v H',Same H H'->Dt H' v (x.val ρ)->Q v H'
def q3s(l:List DX):TA:=fun σ H Q=>∃ ρ,q2x ρ σ H l/\∀vs H',Same H H'->DtA H' vs (q30 ρ l)->Q vs H'
section
variable{X:Cx}
end
end L2
set_option Elab.async false
set_option linter.all false
set_option maxRecDepth 100000
namespace L2
open PySem PySem.Spec PyProof.Rows PySem.W
def ltI:List Int->List Int->Bool
 | _,[]=>false
 | [],_::_=>true
 | a::x,b::y=>if a=b then ltI x y else decide (a < b)
theorem zx5:∀{x y:List Int},ltI x y=true->ltI y x=false
 | _,[],h=>by cases ‹List Int›<;>simp[ltI] at h
 | [],b::y,_=>by simp[ltI]
 | a::x,b::y,h=>by
  rw [ltI] at h |-
  by_cases e:a=b
  ·subst e
   rw [if_pos rfl] at h |-
   exact zx5 h
  ·rw [if_neg e] at h
   rw [if_neg (Ne.symm e)]
   simp only[decide_eq_true_eq,decide_eq_false_iff_not] at h |-
   omega
section
variable{prog:Program}{w:World}{A:Around}{E:Value->Shared->Prop}{s:Shared}
variable{k:SortKind}{vs:List Value}{st:SortSt}
end
end L2
set_option Elab.async false
set_option linter.all false
set_option maxRecDepth 100000
namespace L2
open PySem PySem.Spec PyProof.Rows PySem.W
section
variable{prog:Program}{w:World}{A:Around}{E:Value->Shared->Prop}{s:Shared}
theorem zmy{b:Bool}{Q:Bool->Shared->Prop}:∀(x y:List Int) (us vs:List Value) (i:Nat) (fin:Bool),ItemsAre (intKind prog w) x us->ItemsAre (intKind prog w) y vs->fin=decide (us.length < vs.length)->Q (ltI x y) s->KatLex prog w A b fin Q (us.zip vs) i s:=by
 intro x
 induction x with
 | nil=>
  intro y us vs i fin hx hy hf h
  cases hx
  rw [List.zip_nil_left]
  refine kat_nil ?_
  cases hy with
  | nil=>rw [hf]; simpa [ltI] using h
  | cons _ _=>rw [hf]; simpa [ltI] using h
 | cons a x ih=>
  intro y us vs i fin hx hy hf h
  cases hx with
  | @cons _ u _ us h1 hx=>
   cases hy with
   | nil=>
    rw [List.zip_nil_right]
    refine kat_nil ?_
    rw [hf]
    simpa [ltI] using h
   | @cons c v y vs h2 hy=>
    obtain⟨t1,rfl⟩:=zj2 h1
    obtain⟨t2,rfl⟩:=zj2 h2
    rw [List.zip_cons_cons]
    refine kat_cons (wpAny_eqBool_int ?_)
    rw [ltI] at h
    by_cases e:a=c
    ·rw [show(a == c)=true from beq_iff_eq.mpr e]
     rw [if_pos e] at h
     exact kat_yes (ih y us vs (i+1) fin hx hy (by simpa using hf) h)
    ·rw [show(a == c)=false from beq_eq_false_iff_ne.mpr e]
     rw [if_neg e] at h
     refine kat_no ?_
     cases b && i == 0 with
     | true=>exact oneLt_int h
     | false=>exact kat_one _ _ (wpAny_lt_int h)
theorem zzb{b:Bool}{x y:List Int}{a c:Addr}{Q:Bool->Shared->Prop}(hx:IsTupleKey (intKind prog w) s.heap x a)(hy:IsTupleKey (intKind prog w) s.heap y c)(h:Q (ltI x y) s):wpAny (model prog w) A (keyLt' (tuples' b) (.ref a) (.ref c)) Q E s:=by
 obtain⟨oa,xs,na,hoa,_,hda,hia⟩:=hx
 obtain⟨ob,ys,nb,hob,_,hdb,hib⟩:=hy
 exact kat_lt hoa hda hob hdb (zmy x y _ _ 0 _ hia hib (by simp) h)
end
def z4c(p:List Int):Dm:=.tup (p.map Dm.int)
theorem zc3{H:Hp}:∀{xs:List V} {p:List Int},DtA H xs (p.map Dm.int)->xs=p.map V.int
 | _,[],.nil=>rfl
 | _,_::_,.cons (.int _) r=>by rw [List.map_cons,<- zc3 r]
section
variable{X:Cx}{pins:List (Addr×Obj)}{σ : St}{H:Hp}{s:Shared}
theorem zoj:∀{p:List Int} {us:List Value},Vals (p.map V.int) us->ItemsAre (intKind X.prog X.w) p us
 | [],_,.nil=>.nil
 | i::p,_,.cons r t=>by
  obtain⟨k,rfl⟩:=r
  exact .cons (intKind_is _ _ _ _) (zoj t)
theorem Inv.path(I:Inv X pins σ H s){v:V}{p:List Int}{u:Value}(d:Dt H v (z4c p))(r:RelV v u):∃a,u=.ref a/\IsTupleKey (intKind X.prog X.w) s.heap p a:=by
 cases d with
 | tup e ra=>
  cases r
  obtain⟨its,rv,⟨o,ho,hc,n,hd⟩,_⟩:=I.tuple (SqT.of e)
  have:=zc3 ra
  subst this
  exact⟨_,rfl,o,its.toArray,n,ho,hc,hd,zoj rv⟩
end
end L2
set_option Elab.async false
set_option linter.all false
set_option maxRecDepth 100000
namespace L2
open PySem PyProof.Rows
open AutoSeq1 (wpAny_loadPart')
theorem zkw(l:Addr)(items:Array Value)(n:Nat)(dct:Option Addr)(sl:Array (Option Value)) :
  Meets (Builtin.«enumerate.__new__» ⟨[.type "enumerate",.ref l],[]⟩) (fun _ R s=>s.heap.get? l=some {cls:=.type "tuple",dict:=dct,data:=.seq items n,slots:=sl}/\
   R (.ok (.ret (.ref (s.heap.push {cls:=.type "tuple_iterator",data:=.fields #[.ref l,.int 0 0]}).objs.size)))
    {s with heap:=(s.heap.push {cls:=.type "tuple_iterator",data:=.fields #[.ref l,.int 0 0]}).push {cls:=.type "enumerate",data:=.fields #[.none,.bool false,.ref s.heap.objs.size,rawInt 0,.none,.none]}}):=
 .of_wp fun prog w A R s h=>by
  obtain⟨hp,g,d,tk,os⟩:=s; obtain⟨hl,h⟩:=h
  have hsub:=sub_enumerate
  have hL:Heap.IsTuple (Shared.heap ⟨hp,g,d,tk,os⟩) l items:=⟨_,hl,rfl,n,rfl⟩
  wp_walk using wpAny_loadPart' hl
  refine wpAny_stack_any fun st=>wpAny_pure ?_
  split
  ·rename_i c _ _ _ _ _
   cases (c == Value.type "enumerate")
   ·wp_walk using wpAny_loadPart' hl,wpAny_pyIter_tuple hL
    exact⟨_,rfl,h⟩
   ·wp_walk using wpAny_loadPart' hl,wpAny_pyIter_tuple hL
    exact⟨_,rfl,h⟩
  ·wp_walk using wpAny_loadPart' hl,wpAny_pyIter_tuple hL
   exact⟨_,rfl,h⟩
section
variable{prog:Program}{w:World}{A:Around}{E:Value->Shared->Prop}{s:Shared}
theorem zqp{l:Addr}{items:Array Value}{Q:Value->Shared->Prop}(hL:s.heap.IsTuple l items)
  (h:∀h',IsEnum h' (s.heap.objs.size+1) s.heap.objs.size 0 .none->h'.IsTupleIter s.heap.objs.size l 0->h'.objs.size=s.heap.objs.size+2->
   (∀b o,s.heap.get? b=some o->h'.get? b=some o)->Q (.ref (s.heap.objs.size+1)) {s with heap:=h'}) :
  wpAny (model prog w) A (call (.type "enumerate") [.ref l]) Q E s:=by
 obtain⟨⟨c,dct,dt,sl⟩,hl,hc,n,hd⟩:=hL
 replace hc:c=.type "tuple":=hc
 replace hd:dt=.seq items n:=hd
 subst hc hd
 refine callType_new F.called_enumerate (by decide) (F.typeCall_enumerate_1 _) (F.newCall_enumerate_1 _) (fun obj=>F.args_object_init_2 obj _) F.entry_enumerate_new
  (zkw l items n dct sl) ⟨hl,?_⟩
 have hz:(s.heap.push {cls:=.type "tuple_iterator",data:=.fields #[.ref l,.int 0 0]}).objs.size=s.heap.objs.size+1:=Heap.size_push ..
 show _/\_
 rw [hz]
 have he:IsEnum ((s.heap.push {cls:=.type "tuple_iterator",data:=.fields #[.ref l,.int 0 0]}).push
   {cls:=.type "enumerate",data:=.fields #[.none,.bool false,.ref s.heap.objs.size,rawInt 0,.none,.none]}) (s.heap.objs.size+1) s.heap.objs.size 0 .none:=by
  have:=Heap.get?_push_size (s.heap.push {cls:=.type "tuple_iterator",data:=.fields #[.ref l,.int 0 0]})
   (o:={cls:=.type "enumerate",data:=.fields #[.none,.bool false,.ref s.heap.objs.size,rawInt 0,.none,.none]}) rfl
  rw [hz] at this; exact this
 refine⟨⟨_,he,rfl⟩,h _ he ⟨_,Heap.get?_push_of_some _ (Heap.get?_push_size _ rfl),rfl,rfl⟩ (by rw [Heap.size_push,hz]) fun b o x=>Heap.get?_push_of_some _ (Heap.get?_push_of_some _ x)⟩
theorem ztb{e it l:Addr}{i:Nat}{items:Array Value}{old:Value}{Q:Option Value->Shared->Prop}(hh:A.handled=none)(he:IsEnum s.heap e it i old)(hit:s.heap.IsTupleIter it l i)(hl:s.heap.IsTuple l items)(hx:items[i]?=none)
  (hQ:∀h',Heap.ExtBut it s.heap h'->Q none {s with heap:=h'}):wpAny (model prog w) A (pyNext (.ref e)) Q E s:=by
 have hT:s.TypeIs (.ref e) "enumerate":=⟨_,he,rfl⟩
 unfold pyNext
 refine wpAny_bind (wpAny_attempt (wpAny_callSpecial?_slot (name:=Str.ofString "__next__") hT F.slot_enumerate_next
  (wpAny_call_entry F.slot_enumerate_next hT F.entry_enumerate_next ?_ (F.args_enumerate_next_1 _))))
 show wpAny _ _ (field (.ref e) 2 >>= _) _ _ _
 refine wpAny_bind (wpAny_field he rfl (x:=.ref it) rfl ?_)
 refine wpAny_bind (z9r hh hit hl hx fun h' x he' hx'=>?_)
 obtain⟨o,ho,hc⟩:=hx'
 refine wpAny_bind (wpAny_isInstance (T:="StopIteration") (b:=true) ⟨o,ho,hc⟩ isSubtype_stop ?_)
 exact wpAny_pure (hQ _ he')
end
theorem q28{prog:Program}{w:World}{A:Around}(hh:A.handled=none)(it l:Addr)(hne:l≠it)(items:Array Value) :
  Draws prog w A it [it,l] items.size (fun i v=>items[i]?=some v) (fun i h=>h.IsTupleIter it l i/\h.IsTuple l items) where
 live:=fun _ _ st=>let ⟨o,ho,_⟩:=st.1; ⟨o,ho⟩
 frame:=fun _ _ _ st hk=>⟨st.1.at fun o e=>hk it (by simp) o e,let ⟨o,ho,r⟩:=st.2; ⟨o,hk l (by simp) o ho,r⟩⟩
 item:=fun i s Q E hi st hQ=>by
  refine zod st.1 st.2 (x:=items[i]) (by simp[hi]) fun h' hit' hs'=>?_
  exact hQ _ h' s.toks (by simp[hi]) ⟨hit',st.2.extBut hs'.extBut hne⟩ hs'
 done:=fun s Q E st hE=>z9r hh st.1 st.2 (by simp) hE
def q0d(K:PySem.W.Frag)(a:Addr):It:=
 ⟨fun i H=>∃xs x,SqT K H a xs/\xs[i]?=some x,fun i H x H'=>∃T v,x=.ref T/\H T=none/\H'=upd H T (.tup [.int i,v])/\∀xs,SqT K H a xs->xs[i]?=some v,fun i H=>∃xs,SqT K H a xs/\xs.length<=i⟩
theorem zpd{P:Program}{w:World}{K:PySem.W.Frag}{elts:List Expr}{kt:Nat}{pt:Pos}(a e it:Addr)(hne:e≠it)(hea:e≠a)(hai:a≠it):Turn P w K (.Tuple elts kt pt) (q0d K a) [e,it] e (fun i h=>(∃old,IsEnum h e it i old)/\h.IsTupleIter it a i) where
 mem:=by simp
 obj:=fun i h st b hb=>by
  obtain⟨⟨old,he⟩,hi⟩:=st
  rcases List.mem_cons.mp hb with rfl | hb
  ·exact⟨_,he,fun v z=>by cases z⟩
  ·obtain rfl:=List.mem_singleton.mp hb
   obtain⟨o,e',c,d⟩:=hi
   exact⟨o,e',fun v z=>by rw [d] at z; cases z⟩
 keep:=fun i h h' st k=>by
  obtain⟨⟨old,he⟩,hi⟩:=st
  exact⟨⟨old,k e (by simp) _ he⟩,hi.at fun o q=>k it (by simp) o q⟩
 item:=by
  intro X hP hw hK hc i pins s σ H E I hf st hg
  subst hP hw hK
  obtain⟨⟨old,he⟩,hit⟩:=st
  obtain⟨xs,x,hq,hx⟩:=hg
  obtain⟨its,rv,p,hz⟩:=I.tuple hq
  obtain⟨u,hu,ru⟩:=rv.get hx
  have hui:its.toArray[i]?=some u:=by simpa using hu
  have hlt:i < its.toArray.size:=by
   rcases Nat.lt_or_ge i its.toArray.size with c | c
   ·exact c
   ·rw [Array.getElem?_eq_none c] at hui; cases hui
  refine wpAny_pyNext_enum_itemD (q28 (A:=X.A.in1) (show X.A.in1.handled=none from I.ok.hd hc) it a hai its.toArray) he ⟨hit,p⟩ hlt hne (by simp[hne,hea]) fun y h1 tk hy ho hst1 hT hsz hk=>?_
  have hy':its.toArray[i]?=some y:=hy
  obtain rfl:u=y:=by rw [hui] at hy'; exact Option.some.inj hy'
  have hit1:=hst1.1
  refine⟨_,rfl,wpAny_letOwnedTupleGo_enum ho fun h2 he2 hs2=>?_⟩
  have helt:e < s.heap.objs.size:=Heap.lt_size he
  have hs2':Heap.SameBut e h1 h2:=hs2
  have kk:∀b o,b∉[e,it]->s.heap.get? b=some o->h2.get? b=some o:=fun b o hb q=>hs2'.extBut b o (fun z=>hb (by simp[z])) (hk b o (fun z=>hb (by simp[z])) (fun z=>hb (by simp[z])) q)
  have I1:Inv X pins σ H {s with heap:=h2,toks:=tk+1}:=I.turnedL kk hf
  have hTn:H s.heap.objs.size=none:=I.hok.fresh (Nat.le_refl _)
  have hT2:h2.get? s.heap.objs.size=some {cls:=.type "tuple",data:=.seq #[.int i tk,u]}:=hs2'.extBut _ _ (Nat.ne_of_gt helt) hT
  have I2:Inv X pins σ (upd H s.heap.objs.size (.tup [.int i,x])) {s with heap:=h2,toks:=tk+1}:=
   I1.track hTn (I.fpOk (Nat.le_refl _) hTn) (show ObjOk X.prog X.w _ h2 _ (.tup [.int i,x]) from⟨zny,[.int i tk,u],.cons ⟨_,rfl⟩ (.cons ru .nil),⟨_,hT2,rfl,_,rfl⟩⟩)
  refine⟨.ref s.heap.objs.size,_,I2,rfl,⟨s.heap.objs.size,x,rfl,hTn,rfl,fun ys hy=>by rw [I.tuple_inj hy hq]; exact hx⟩,⟨⟨u,by simpa using he2⟩,hit1.at fun o q=>(hs2'.2 it hne.symm).trans q⟩,fun b hb=>?_⟩
  have hbl:b < s.heap.objs.size:=by
   rcases List.mem_cons.mp hb with rfl | hb
   ·exact helt
   ·obtain rfl:=List.mem_singleton.mp hb
    obtain⟨o,e',_⟩:=hit
    exact Heap.lt_size e'
  rw [z0a (Nat.ne_of_lt hbl)]
  exact(hf b hb).1
 done:=by
  intro X hP hw hK hc i pins s σ H E I hf st hg
  subst hP hw hK
  obtain⟨⟨old,he⟩,hit⟩:=st
  obtain⟨xs,hq,hx⟩:=hg
  obtain⟨its,rv,p,hz⟩:=I.tuple hq
  have hl:=rv.length
  exact ztb (I.ok.hd hc) he hit p (by simp; omega) fun h' eb=>⟨rfl,I.turnedL (t':=s.toks) (fun b o hb q=>eb b o (fun z=>hb (by simp[z])) q) hf⟩
 self:=fun _ _ _ _ _ st h=>by
  obtain⟨⟨old,he⟩,_⟩:=st
  exact wpAny_pyIter_enum he h
section
variable{X:Cx}
def zsy(K:PySem.W.Frag)(ta:TA):TI:=fun σ H R=>ta σ H fun vs H1=>∃a,vs=[.ref a]/\(∃xs,SqT K H1 a xs)/\R (q0d K a) H1
theorem zo8{elts:List Expr}{kt:Nat}{pt p pos:Pos}{l:Expr}{ta:TA} (hg:Gl X "enumerate") (hm:X.mg "enumerate" = none) (ha:PA X [l] ta) (hst:zgi l=false:=by rfl):PI X (.Tuple elts kt pt) (.Call (.Name "enumerate" p) [l] [] pos) (zsy X.K ta):=by
 intro pins s σ H R I h
 refine Call_ (ze4 I hg hm boot_enumerate (PyProof.Rows.callWith_type1 (thn (ha pos pins s σ H _ I h) fun us s1 ⟨vs,H1,I1,r1,q1⟩=>?_) (z10 hst) rfl))
 obtain⟨a,e,⟨xs,hq⟩,q⟩:=q1
 subst e
 cases r1 with
 | cons r rr=>
  cases rr
  cases r
  obtain⟨its,rv,pl,hz⟩:=I1.tuple hq
  have hal:a < s1.heap.objs.size:=by
   obtain⟨o,e,_⟩:=pl
   exact Heap.lt_size e
  refine zqp pl fun h' he hi hsz hk=>?_
  have I2:Inv X pins σ H1 {s1 with heap:=h'}:=I1.kept (t':=s1.toks) hk
  refine wpAny_pyIter_enum he ?_
  refine⟨s1.heap.objs.size+1,[s1.heap.objs.size+1,s1.heap.objs.size],_,_,H1,rfl,I2,zpd a _ _ (Nat.succ_ne_self _) (Nat.ne_of_gt (Nat.lt_succ_of_lt hal)) (Nat.ne_of_lt hal),⟨⟨_,he⟩,hi⟩,fun b hb=>?_,q⟩
  have hle:s1.heap.objs.size<=b:=by
   rcases List.mem_cons.mp hb with rfl | hb
   ·exact Nat.le_succ _
   ·obtain rfl:=List.mem_singleton.mp hb
    exact Nat.le_refl _
  exact I1.fpOk hle (I1.hok.fresh hle)
end
theorem zks{K:PySem.W.Frag}{a:Addr}{xs:List V}{g:TG}{tb:TS}{D:Ends}{σ : St}{H:Hp}(Pv:Nat->St->Hp->Prop)(h0:Pv 0 σ H)(hl:∀i σ H,i<=xs.length->Pv i σ H->SqT K H a xs)
  (hs:∀i x σ H T,xs[i]?=some x->Pv i σ H->H T=none->g (.ref T) σ (upd H T (.tup [.int i,x])) fun σ2 H2=>tb {D with nx:=Pv (i+1),ct:=Pv (i+1),bk:=D.nx} σ2 H2) (hd:∀ σ H,Pv xs.length σ H->D.nx σ H) :
  ∃W:Nat->Nat->St->Hp->Prop,(∃m,W 0 m σ H)/\∀i m σ H,W i m σ H->
   ((q0d K a).stop i H/\D.nx σ H)\/((q0d K a).go i H/\∃N:St->Hp->Prop,(∀ σ' H',N σ' H'->∃m',m' < m/\W (i+1) m' σ' H')/\∀x H',(q0d K a).yld i H x H'->g x σ H' fun σ2 H2=>tb {D with nx:=N,ct:=N,bk:=D.nx} σ2 H2):=by
 refine⟨fun i m σ H=>m=xs.length - i/\i<=xs.length/\Pv i σ H,⟨xs.length,by simp,Nat.zero_le _,h0⟩,?_⟩
 rintro i m σ H ⟨rfl,hi,p⟩
 have q:=hl i σ H hi p
 by_cases hlt:i < xs.length
 ·refine .inr ⟨⟨xs,xs[i],q,by simp[hlt]⟩,Pv (i+1),fun σ' H' p'=>⟨xs.length - (i+1),by omega,rfl,hlt,p'⟩,fun x H' y=>?_⟩
  obtain⟨T,v,rfl,hT,rfl,y⟩:=y
  exact hs i v σ H T (y xs q) p hT
 ·have e:i=xs.length:=by omega
  subst e
  exact .inl ⟨⟨xs,q,Nat.le_refl _⟩,hd σ H p⟩
end L2
set_option Elab.async false
set_option linter.all false
set_option maxRecDepth 100000
namespace L2
open PySem PySem.Spec PyProof.Rows
section
variable{prog:Program}{w:World}{A:Around}{E:Value->Shared->Prop}{s:Shared}{S:Addr}
end
def zm5(P:Program)(w:World)(p:Addr)(ks:List Str):HO:=.ext (SetX (PySem.strKind P w) strOf p (!q2f w) ks)
section
variable{X:Cx}
end
end L2
set_option Elab.async false
set_option linter.all false
set_option maxRecDepth 100000
namespace L2
open PySem PySem.Spec PyProof.Rows PySem.W
def zqr(r:Nat->Nat)(n:Nat):Nat->Nat->(Bool->Shared->Prop)->Shared->Prop:=fun i j C s=>i < n/\j < n/\C (decide (r i < r j)) s
theorem zu9{α : Type}{r:Nat->Nat}{n:Nat}{cmp:Nat->Nat->(Bool->Shared->Prop)->Shared->Prop}{s:Shared}{Q : α->Shared->Prop}(hc:∀i j C,i < n->j < n->C (decide (r i < r j)) s->cmp i j C s) :
  ∀(t:KasT α),t.kasWp (zqr r n) (fun a s'=>Q a s) s->t.kasWp cmp Q s
 | .ret a,h=>h
 | .ask i j k,⟨h1,h2,h⟩=>hc i j _ h1 h2 (zu9 hc (k _) h)
section
variable{r:Nat->Nat}{n:Nat}{s:Shared}
theorem zh1{α : Type}{i j:Nat}{T1 T2:KasT α}{Q : α->Shared->Prop}(hi:i < n)(hj:j < n)(h1:r i < r j->T1.kasWp (zqr r n) Q s)(h2:¬ r i < r j->T2.kasWp (zqr r n) Q s):(KasT.ask i j fun c=>if c=true then T1 else T2).kasWp (zqr r n) Q s:=by
 refine⟨hi,hj,?_⟩
 by_cases c:r i < r j
 ·have:=h1 c
  simpa [c] using this
 ·have:=h2 c
  simpa [c] using this
def rk(r:Nat->Nat)(p:Array Nat)(i:Nat):Nat:=r (p.getD i 0)
def Asc(r:Nat->Nat)(p:Array Nat)(m:Nat):Prop:=∀i j,i < j->j < m->rk r p i < rk r p j
def Dsc(r:Nat->Nat)(p:Array Nat)(m:Nat):Prop:=∀i j,i < j->j < m->rk r p j < rk r p i
structure PermN(r:Nat->Nat)(n:Nat)(p:Array Nat):Prop where
 sz:p.size=n
 lt:∀i,i < n->p.getD i 0 < n
 inj:∀i j,i < n->j < n->rk r p i=rk r p j->i=j
 pm:p.toList.Perm (List.range n)
theorem PermN.of(hr:∀i j,i < n->j < n->r i=r j->i=j){p:Array Nat}(h:p.toList.Perm (List.range n)):PermN r n p:=by
 have sz:p.size=n:=by simpa using h.length_eq
 have lt:∀i,i < n->p.getD i 0 < n:=fun i hi=>by
  have hi':i < p.size:=by omega
  have:p.getD i 0∈p.toList:=by simp[Array.getD,hi']
  simpa using h.mem_iff.mp this
 refine⟨sz,lt,fun i j hi hj e=>?_,h⟩
 have e':=hr _ _ (lt i hi) (lt j hj) e
 have nd:p.toList.Nodup:=h.nodup_iff.mpr List.nodup_range
 have hi':i < p.size:=by omega
 have hj':j < p.size:=by omega
 have:p.toList[i]'(by simpa using hi')=p.toList[j]'(by simpa using hj'):=by simpa [Array.getD,hi',hj'] using e'
 exact(List.getElem_inj nd).mp this
theorem zj7{p q:Array Nat}{i j:Nat}(h:p[i]?=q[j]?):p.getD i 0=q.getD j 0:=by
 have e1:p.getD i 0=(p[i]?).getD 0:=by simp
 have e2:q.getD j 0=(q[j]?).getD 0:=by simp
 rw [e1,e2,h]
theorem q3n{p:Array Nat}(P:PermN r n p){Q:Nat->Shared->Prop}:∀(f m:Nat),1<=m->m+f<=n->Asc r p m->(∀k,m<=k->k<=m+f->Asc r p k->(k < m+f->rk r p k < rk r p (k - 1))->Q k s)->(kas_asc p f m).kasWp (zqr r n) Q s
 | 0,m,h1,h2,h,q=>q m (Nat.le_refl _) (Nat.le_refl _) h (fun z=>absurd z (by omega))
 | f+1,m,h1,h2,h,q=>by
  refine zh1 (P.lt _ (by omega)) (P.lt _ (by omega)) (fun c=>?_) (fun(c:¬ rk r p m < rk r p (m - 1))=>?_)
  ·exact q m (Nat.le_refl _) (by omega) h (fun _=>c)
  ·refine q3n P f (m+1) (by omega) (by omega) (fun i j hij hj=>?_) fun k k1 k2 k3 k4=>q k (by omega) (by omega) k3 (fun z=>k4 (by omega))
   have last:rk r p (m - 1) < rk r p m:=by
    have:rk r p (m - 1)≠rk r p m:=fun e=>by have:=P.inj _ _ (by omega) (by omega) e; omega
    omega
   by_cases e:j=m
   ·subst e
    by_cases e2:i=j - 1
    ·rw [e2]; exact last
    ·exact Nat.lt_trans (h i (j - 1) (by omega) (by omega)) last
   ·exact h i j hij (by omega)
theorem q29{p:Array Nat}(P:PermN r n p){Q:Array Nat×Nat×Nat->Shared->Prop}:∀(f m:Nat),1<=m->m+f<=n->Dsc r p m->(∀k,m<=k->k<=m+f->Dsc r p k->Q (p,k,0) s)->(kas_desc f p m 0).kasWp (zqr r n) Q s
 | 0,m,h1,h2,h,q=>q m (Nat.le_refl _) (Nat.le_refl _) h
 | f+1,m,h1,h2,h,q=>by
  refine zh1 (P.lt _ (by omega)) (P.lt _ (by omega)) (fun c=>?_) (fun(c:¬ rk r p m < rk r p (m - 1))=>?_)
  ·rw [if_neg (by omega)]
   refine q29 P f (m+1) (by omega) (by omega) (fun i j hij hj=>?_) fun k k1 k2 k3=>q k (by omega) (by omega) k3
   by_cases e:j=m
   ·subst e
    by_cases e2:i=j - 1
    ·rw [e2]; exact c
    ·exact Nat.lt_trans c (h i (j - 1) (by omega) (by omega))
   ·exact h i j hij (by omega)
  ·have last:rk r p (m - 1) < rk r p m:=by
    have:rk r p (m - 1)≠rk r p m:=fun e=>by have:=P.inj _ _ (by omega) (by omega) e; omega
    omega
   refine zh1 (P.lt _ (by omega)) (P.lt _ (by omega)) (fun c=>?_) (fun c=>absurd last c)
   exact q m (Nat.le_refl _) (by omega) h
theorem zux(hr:∀i j,i < n->j < n->r i=r j->i=j){p:Array Nat}(P:PermN r n p)(i j:Nat):PermN r n (kas_rev p i j):=
 .of hr ((Array.perm_iff_toList_perm.mp (mirror_perm _ _ _ _)).trans P.pm)
theorem zx0{p:Array Nat}{m:Nat}(hm:m<=p.size)(k:Nat)(hk:k < m):rk r (kas_rev p 0 m) k=rk r p (m - 1 - k):=by
 have e:=getElem?_mirror_all (xs:=p) (i:=0) hm k
 rw [if_pos (by omega)] at e
 show r _=r _
 rw [show kas_rev p 0 m=mirror p 0 m ((m - 0) / 2) from rfl,zj7 e]
 congr 2
 omega
theorem q0r(hr:∀i j,i < n->j < n->r i=r j->i=j){p:Array Nat}(P:PermN r n p){m:Nat}{Q:Nat×Array Nat->Shared->Prop}(h1:1<=m)(h2:m<=n)(h:Dsc r p m)
  (q:∀k p',PermN r n p'->1<=k->k<=n->Asc r p' k->Q (k,p') s):(kas_tail3 m n p).kasWp (zqr r n) Q s:=by
 unfold kas_tail3
 rw [KasT.kasWp_bind]
 have P':=zux hr P 0 m
 refine q3n P' (n - m) m h1 (by omega) (fun i j hij hj=>?_) fun k k1 k2 k3 _=>q k _ P' (by omega) (by omega) k3
 rw [zx0 (by rw [P.sz]; exact h2) _ (by omega),zx0 (by rw [P.sz]; exact h2) _ hj]
 exact h _ _ (by omega) (by omega)
theorem zte(hr:∀i j,i < n->j < n->r i=r j->i=j){p:Array Nat}(P:PermN r n p){m:Nat}{Q:Nat×Array Nat->Shared->Prop}(h2:m+1<=n)(h:Dsc r p (m+1))
  (q:∀k p',PermN r n p'->1<=k->k<=n->Asc r p' k->Q (k,p') s):(kas_descPart m n p).kasWp (zqr r n) Q s:=by
 unfold kas_descPart
 rw [KasT.kasWp_bind]
 refine q29 P (n - (m+1)) (m+1) (by omega) (by omega) h fun k k1 k2 k3=>?_
 rw [if_neg (show ¬ (p,k,0).2.2 > 0 from Nat.lt_irrefl 0)]
 have a1:1<=k:=by omega
 have a2:k<=n:=by omega
 exact q0r hr P a1 a2 k3 q
theorem q2d(hr:∀i j,i < n->j < n->r i=r j->i=j){p:Array Nat}(P:PermN r n p){Q:Nat×Array Nat->Shared->Prop}(h1:1<=n)
  (q:∀k p',PermN r n p'->1<=k->k<=n->Asc r p' k->Q (k,p') s):(kas_count n p).kasWp (zqr r n) Q s:=by
 unfold kas_count
 rw [KasT.kasWp_bind]
 refine q3n P (n - 1) 1 (Nat.le_refl _) (by omega) (fun i j hij hj=>by omega) fun m m1 m2 m3 m4=>?_
 by_cases e:m=n
 ·rw [if_pos (by simpa using e)]
  exact q m p P m1 (by omega) m3
 ·rw [if_neg (by simpa using e)]
  by_cases e2:m > 1
  ·rw [if_pos e2]
   refine zh1 (P.lt _ (by omega)) (P.lt _ (by omega)) (fun c=>?_) (fun c=>absurd (m3 0 (m - 1) (by omega) (by omega)) c)
   exact q m p P m1 (by omega) m3
  ·rw [if_neg e2]
   obtain rfl:m=1:=by omega
   refine zte hr P (by omega) (fun i j hij hj=>?_) q
   obtain rfl:i=0:=by omega
   obtain rfl:j=1:=by omega
   exact m4 (by omega)
theorem zrn{p:Array Nat}(P:PermN r n p){k:Nat}(hk:k < n)(hs:Asc r p k){Q:Nat->Shared->Prop}:∀(f l u:Nat),l<=u->u<=k->u - l<=f->(∀i,i < l->rk r p i < rk r p k)->(∀i,u<=i->i < k->rk r p k < rk r p i)->
  (∀m,m<=k->(∀i,i < m->rk r p i < rk r p k)->(∀i,m<=i->i < k->rk r p k < rk r p i)->Q m s)->(kas_place p k f l u).kasWp (zqr r n) Q s
 | 0,l,u,h1,h2,h3,lo,hi,q=>by
  obtain rfl:l=u:=by omega
  exact q l h2 lo hi
 | f+1,l,u,h1,h2,h3,lo,hi,q=>by
  unfold kas_place
  by_cases e:l ≥ u
  ·rw [if_pos e]
   obtain rfl:l=u:=by omega
   exact q l h2 lo hi
  ·rw [if_neg e]
   refine zh1 (P.lt _ hk) (P.lt _ (by omega)) (fun c=>?_) (fun(c:¬ rk r p k < rk r p ((l+u) / 2))=>?_)
   ·refine zrn P hk hs f l ((l+u) / 2) (by omega) (by omega) (by omega) lo (fun i h1 h2=>?_) q
    by_cases e2:i=(l+u) / 2
    ·rw [e2]; exact c
    ·exact Nat.lt_trans c (hs _ _ (by omega) h2)
   ·have c':rk r p ((l+u) / 2) < rk r p k:=by
     have:rk r p ((l+u) / 2)≠rk r p k:=fun e=>by have:=P.inj _ _ (by omega) hk e; omega
     omega
    refine zrn P hk hs f ((l+u) / 2+1) u (by omega) h2 (by omega) (fun i h1=>?_) hi q
    by_cases e2:i=(l+u) / 2
    ·rw [e2]; exact c'
    ·exact Nat.lt_trans (hs _ _ (show i < (l+u) / 2 by omega) (by omega)) c'
theorem q49(hr:∀i j,i < n->j < n->r i=r j->i=j){Q:Array Nat->Shared->Prop}:∀(f:Nat) (p:Array Nat) (k:Nat),PermN r n p->k+f=n->Asc r p k->(∀p',PermN r n p'->Asc r p' n->Q p' s)->(kas_bin f p k).kasWp (zqr r n) Q s
 | 0,p,k,P,e,h,q=>by
  obtain rfl:k=n:=e
  exact q p P h
 | f+1,p,k,P,e,h,q=>by
  rw [show kas_bin (f+1) p k=(kas_place p k k 0 k).bind fun l=>kas_bin f (bubble p k (k - l)) (k+1) from rfl,KasT.kasWp_bind]
  have hk:k < n:=by omega
  refine zrn P hk h k 0 k (Nat.zero_le _) (Nat.le_refl _) (by omega) (fun i z=>absurd z (by omega)) (fun i z z'=>absurd z' (by omega)) fun m m1 m2 m3=>?_
  refine q49 hr f _ (k+1) (.of hr ((Array.perm_iff_toList_perm.mp (bubble_perm _ _ _)).trans P.pm)) (by omega) (fun i j hij hj=>?_) q
  have at_:∀x,rk r (bubble p k (k - m)) x=if x=m then rk r p k else if m < x/\x<=k then rk r p (x - 1) else rk r p x:=fun x=>by
   have z:=getElem?_bubble (xs:=p) (src:=k) (by rw [P.sz]; exact hk) (k - m) (by omega) x
   rw [show k - (k - m)=m by omega] at z
   show r _=_
   by_cases e1:x=m
   ·rw [if_pos e1] at z |-
    rw [zj7 z,rk]
   ·rw [if_neg e1] at z |-
    by_cases e2:m < x/\x<=k
    ·rw [if_pos e2] at z |-
     rw [zj7 z,rk]
    ·rw [if_neg e2] at z |-
     rw [zj7 z,rk]
  rw [at_,at_]
  repeat' split
  all_goals first
   | (exfalso; omega)
   | exact m2 _ (by omega)
   | exact m3 _ (by omega) (by omega)
   | exact h _ _ (by omega) (by omega)
theorem q36(hr:∀i j,i < n->j < n->r i=r j->i=j)(h1:1<=n){Q:Array Nat->Shared->Prop}(q:∀p,PermN r n p->Asc r p n->Q p s):(kas_sort n).kasWp (zqr r n) Q s:=by
 unfold kas_sort
 rw [KasT.kasWp_bind]
 refine q2d hr (.of hr (by simp)) h1 fun k p P k1 k2 k3=>?_
 dsimp only
 by_cases e:k < n
 ·rw [if_pos e,show max k 1=k by omega]
  exact q49 hr _ p k P (by omega) k3 q
 ·rw [if_neg e]
  obtain rfl:k=n:=by omega
  exact q p P k3
end
end L2
set_option Elab.async false
set_option linter.all false
set_option maxRecDepth 100000
namespace L2
open PySem PySem.Spec PyProof.Rows PySem.W
structure TabOk(t:SetTable):Prop where
 dm:t.dummies = #[]
 mz:t.mask=7/\t.place.size<=4\/t.mask=31/\t.place.size<=18\/t.mask=127/\t.place.size<=60
 rs:Ris t.place
theorem TabOk.slot{t:SetTable}(T:TabOk t)(j:Nat):t.slot j=if t.place[SetTable.below t.place j]?=some j then .live (SetTable.below t.place j) else .empty:=by
 unfold SetTable.slot
 have:SetTable.has t.dummies j=false:=by rw [T.dm]; rfl
 rw [this]
 simp
end L2
set_option Elab.async false
set_option linter.all false
set_option maxRecDepth 100000
namespace L2
open PySem PySem.Spec PyProof.Rows PySem.W
section
variable{prog:Program}{w:World}{A:Around}{E:Value->Shared->Prop}{s:Shared}{a:Addr}{L:Bool}
theorem zap{n:Nat}(h:n<=1000):n<=sizeLine:=by rw [sizeLine_eq]; omega
theorem z99{vs:List Value}{a:Addr}{n:Nat}{r:Nat->Nat}{P:PySem.Fin->Shared->Prop} (ho:s.heap.get? a=some (seqObj "list" vs.toArray n)) (h64:vs.length < 64) (hr:∀i j,i < vs.length->j < vs.length->r i=r j->i=j)
  (hR:2<=vs.length->∀h':Heap,(∀b o,b≠a->s.heap.get? b=some o->h'.get? b=some o)->∃k,(∀(E:Value->Shared->Prop) (Q:SortKind->Shared->Prop),Q k {s with heap:=h'}->wpAny (model prog w) A (keyKind' vs.toArray) Q E {s with heap:=h'})/\
   ∀i j,i < vs.length->j < vs.length->∀(E:Value->Shared->Prop) (Q:Bool->Shared->Prop),Q (decide (r i < r j)) {s with heap:=h'}->wpAny (model prog w) A (keyLt' k (vs.getD i .none) (vs.getD j .none)) Q E {s with heap:=h'})
  (h:∀p,PermN r vs.length p->Asc r p vs.length->P (.done (.ret .none)) {s with heap:=sortedHeap s.heap a vs (p.toList.map fun i=>vs.getD i .none).toArray}) :
  wpAny (model prog w) A (Builtin.«list.sort» ⟨[.ref a],[]⟩) P E s:=by
 rw [list_sort_plain]
 have hz:vs.length<=sizeLine:=zap (by omega)
 have ha:a < s.heap.objs.size:=Heap.lt_size ho
 refine wpAny_bind (listItems_at ho rfl ?_)
 refine wpAny_bind (listUpdate_at ho rfl ?_ (by simpa using hz) (Nat.zero_le _))
 obtain⟨e1,ho1⟩:∃e1,(s.heap.update a (Obj.mapSeq fun _=>#[])).get? a=some (seqObj "list" #[] e1):=⟨_,get?_update_seq ho (fun _=>#[])⟩
 refine wpAny_bind (seqEpoch_at ho1 rfl ?_)
 refine wpAny_bind (wpAny_newTuple ?_ (by simpa using hz))
 refine wpAny_bind (wpAny_newList ?_ (Nat.zero_le _))
 refine wpAny_holding ?_
 have ho6:(((s.heap.update a (Obj.mapSeq fun _=>#[])).push (seqObj "tuple" vs.toArray 0)).push (seqObj "list" #[] 0)).get? a=some (seqObj "list" #[] e1):=by
  rw [Heap.get?_push_ne _ _ _ (by rw [size_push',Heap.size_update]; exact Nat.ne_of_lt (Nat.lt_succ_of_lt ha)),Heap.get?_push_ne _ _ _ (by rw [Heap.size_update]; exact Nat.ne_of_lt ha)]
  exact ho1
 have hkeep:∀b o,b≠a->s.heap.get? b=some o->(((s.heap.update a (Obj.mapSeq fun _=>#[])).push (seqObj "tuple" vs.toArray 0)).push (seqObj "list" #[] 0)).get? b=some o:=fun b o hb e=>by
  refine Heap.get?_push_of_some _ (Heap.get?_push_of_some _ ?_)
  rw [Heap.get?_update_ne _ _ _ _ hb]
  exact e
 show wpAny (model prog w) A _ P E {s with heap:=((s.heap.update a (Obj.mapSeq fun _=>#[])).push (seqObj "tuple" vs.toArray 0)).push (seqObj "list" #[] 0)}
 dsimp only
 have hsz:vs.toArray.size=vs.length:=by simp
 by_cases h2:vs.toArray.size < 2
 ·rw [if_pos h2,if_pos h2]
  refine wpAny_bind (wpAny_pure ?_)
  rw [StateT.run_pure]
  refine wpAny_bind (wpAny_pure ?_)
  dsimp only
  refine wpAny_bind (seqEpoch_at ho6 rfl ?_)
  refine wpAny_bind (listUpdate_at ho6 rfl ?_ (Nat.zero_le _) (by rw [Array.size_map]; show(pairsOf vs).size<=_; rw [pairsOf_size]; exact Nat.le_succ_of_le hz))
  simp only[bne_self_eq_false,Bool.false_eq_true,if_false]
  have e:(arrOf (SortSt.mk' general' (vs.toArray.zip vs.toArray) #[] 7 none)).map (·.2)=vs.toArray:=by
   show(vs.toArray.zip vs.toArray).map (·.2)=_
   apply Array.toList_inj.mp
   simp[List.map_snd_zip]
  rw [e]
  have z:=h (List.toArray (List.range vs.length)) (.of hr (by simp)) (fun i j hij hj=>by rw [hsz] at h2; omega)
  have ev:((List.toArray (List.range vs.length)).toList.map fun i=>vs.getD i Value.none)=vs:=by
   refine List.ext_getElem (by simp) fun i h1 h2=>?_
   simp[h2]
  rw [ev] at z
  exact wpAny_pure z
 ·rw [if_neg h2,if_neg h2]
  rw [hsz] at h2
  obtain⟨kk,hK,hRi⟩:=hR (by omega) _ hkeep
  refine wpAny_bind (hK _ _ ?_)
  refine wpAny_bind (wpAny_mono (kat_run (κ:=kk) (Q:=fun st' s'=>∃p:Array Nat,PermN r vs.length p/\Asc r p vs.length/\arrOf st'=p.map (kas_item (vs.toArray.zip vs.toArray))/\failedOf st'=none/\s' = {s with heap:=((s.heap.update a (Obj.mapSeq fun _=>#[])).push (seqObj "tuple" vs.toArray 0)).push (seqObj "list" #[] 0)})
   (G:=fun p s'=>PermN r vs.length p/\Asc r p vs.length/\s' = {s with heap:=((s.heap.update a (Obj.mapSeq fun _=>#[])).push (seqObj "tuple" vs.toArray 0)).push (seqObj "list" #[] 0)})
   rfl (by omega) h64 (fun p' st' s' a1 a2 a3 ⟨a4,a5,a6⟩=>⟨p',a4,a5,a2,a3,a6⟩) (zu9 (r:=r) (fun i j C hi hj hc=>hRi i j hi hj _ _ hc) _ (q36 hr (by omega) fun p P1 P2=>⟨P1,P2,rfl⟩))) ?_ fun _ _ e=>e)
  rintro⟨⟨⟩,st'⟩ s' ⟨p,P1,P2,har,hf,rfl⟩
  dsimp only at har hf |-
  have e:=kat_snds (ks:=vs) (vs:=vs) rfl har
  refine wpAny_bind (seqEpoch_at ho6 rfl ?_)
  refine wpAny_bind (listUpdate_at ho6 rfl ?_ (Nat.zero_le _) (by rw [e,List.size_toArray,List.length_map,Array.length_toList,P1.sz]; exact Nat.le_succ_of_le hz))
  rw [hf]
  simp only[bne_self_eq_false,Bool.false_eq_true,if_false,e]
  exact wpAny_pure (h p P1 P2)
end
theorem zv6{α β : Type}{f : α->β}{l m:List β}(h:l.Perm m):∀ps:List α,m=ps.map f->∃ps':List α,ps'.Perm ps/\l=ps'.map f:=by
 induction h with
 | nil=>
  intro ps e
  cases ps with
  | nil=>exact⟨[],.refl _,rfl⟩
  | cons _ _=>cases e
 | cons x _ ih=>
  intro ps e
  cases ps with
  | nil=>cases e
  | cons p ps=>
   injection e with e1 e2
   obtain⟨ps',q,e3⟩:=ih ps e2
   exact⟨p::ps',q.cons p,by rw [List.map_cons,<- e3,e1]⟩
 | swap x y l=>
  intro ps e
  match ps,e with
  | p::q::ps,e=>
   injection e with e1 e2
   injection e2 with e2 e3
   exact⟨q::p::ps,.swap ..,by rw [List.map_cons,List.map_cons,<- e1,<- e2,<- e3]⟩
 | trans _ _ ih1 ih2=>
  intro ps e
  obtain⟨ps1,q1,e1⟩:=ih2 ps e
  obtain⟨ps2,q2,e2⟩:=ih1 ps1 e1
  exact⟨ps2,q2.trans q1,e2⟩
theorem ziw:∀x:List Int,ltI x x=false
 | []=>rfl
 | a::x=>by rw [ltI,if_pos rfl]; exact ziw x
section
variable{prog:Program}{w:World}{A:Around}{E:Value->Shared->Prop}{s:Shared}{S:Addr}
theorem zqz{h:Heap}:∀{vs:List Value},(∀v∈vs,∃b p,v=.ref b/\p≠[]/\IsTupleKey (intKind prog w) h p b)->∃fs,KatTups h vs fs/\fs.length=vs.length/\∀f∈fs,∃n t,f=.int n t
 | [],_=>⟨[],.nil,rfl,fun f h=>absurd h (by simp)⟩
 | v::vs,hv=>by
  obtain⟨fs,k,l,f⟩:=zqz fun x hx=>hv x (.tail _ hx)
  obtain⟨b,p,rfl,h0,o,its,n,ho,hc,hd,hi⟩:=hv v (.head _)
  obtain⟨its⟩:=its
  cases hi with
  | nil=>exact absurd rfl h0
  | @cons i v x vs h1 hx=>
   obtain⟨t1,rfl⟩:=zj2 h1
   refine⟨.int i t1::fs,.cons ho hc hd rfl k,by simp[l],fun g hg=>?_⟩
   rcases List.mem_cons.mp hg with rfl | hg
   ·exact⟨_,_,rfl⟩
   ·exact f g hg
end
def adV:V->Addr
 | .ref a=>a
 | _=>0
def RisP(ps:List (List Int)):Prop:=(∀p∈ps,p≠[])/\ps.Pairwise (fun p q=>ltI p q=true)/\ps.length<=60
section
variable{X:Cx}{pins:List (Addr×Obj)}{σ : St}{H:Hp}{s:Shared}
theorem zky(I:Inv X pins σ H s):∀{ps:List (List Int)} {vs:List V},DtA H vs (ps.map z4c)->vs=(vs.map adV).map V.ref/\vs.length=ps.length/\∀j,j < (vs.map adV).length->IsTupleKey (intKind X.prog X.w) s.heap (ps.getD j []) ((vs.map adV).getD j 0)
 | [],_,.nil=>⟨rfl,rfl,fun j h=>absurd h (by simp)⟩
 | p::ps,_,.cons d t=>by
  obtain⟨e,l,f⟩:=zky I t
  cases d with
  | @tup a xs ds e1 ra=>
   obtain⟨b,eb,kb⟩:=I.path (v:=.ref a) (p:=p) (Dt.tup e1 ra) (show RelV (.ref a) (.ref a) from rfl)
   cases eb
   refine⟨by rw [List.map_cons,List.map_cons,<- e]; rfl,by simp[l],fun j hj=>?_⟩
   cases j with
   | zero=>exact kb
   | succ j=>exact f j (by simpa using hj)
theorem RisP.lt{ps:List (List Int)}(R:RisP ps){i j:Nat}(hi:i < ps.length)(hj:j < ps.length):ltI (ps.getD i []) (ps.getD j [])=decide (i < j):=by
 have up:∀i j,i < j->j < ps.length->ltI (ps.getD i []) (ps.getD j [])=true:=fun i j hij hj=>by
  rw [List.getD_eq_getElem?_getD,List.getD_eq_getElem?_getD,List.getElem?_eq_getElem (by omega),List.getElem?_eq_getElem hj]
  exact List.pairwise_iff_getElem.mp R.2.1 i j (by omega) hj hij
 rcases Nat.lt_trichotomy i j with z | rfl | z
 ·rw [up i j z hj,decide_eq_true z]
 ·rw [ziw,decide_eq_false (Nat.lt_irrefl _)]
 ·rw [zx5 (up j i z hi),decide_eq_false (by omega)]
theorem RisP.inj{ps:List (List Int)}(R:RisP ps){i j:Nat}(hi:i < ps.length)(hj:j < ps.length)(e:ps.getD i []=ps.getD j []):i=j:=by
 have a:=R.lt hi hj
 have b:=R.lt hj hi
 rw [e,ziw] at a b
 have a:=of_decide_eq_false a.symm
 have b:=of_decide_eq_false b.symm
 omega
theorem zhr:∀as:List Addr,Vals (as.map V.ref) (as.map Value.ref)
 | []=>.nil
 | a::as=>.cons rfl (zhr as)
end
end L2
set_option Elab.async false
set_option linter.all false
set_option maxRecDepth 100000
namespace L2
open PySem PySem.Spec PyProof.Rows PySem.W
section
variable{prog:Program}{w:World}{A:Around}{E:Value->Shared->Prop}{s:Shared}
end
def q33(K:PySem.W.Frag)(ta:TA)(tc:TE):TE:=fun σ H Q=>ta σ H fun vs H1=>tc σ H1 fun y H2=>∃(a:Addr) (ns:List Int) (d:Int),vs=[.ref a]/\y=.int d/\SqL K H2 a (ns.map V.int)/\∀M,((ns=[]/\M=d)\/(M∈ns/\∀a∈ns,a<=M))->Q (.int M) H2
def q4f(K:PySem.W.Frag):List V->Hp->VK->Prop:=fun xs H Q=>∃(a:Addr) (ns:List Int),xs=[.ref a]/\SqL K H a (ns.map V.int)/\Q (.int ns.sum) H
section
variable{X:Cx}
end
theorem zlx{K:PySem.W.Frag}{ta:TA}{g:TG}{tt:TT}{te:TE}{mp:List (Option Nat)}{σ : St}{H:Hp}{Q:VK}:zh7 (zsy K ta) g tt te mp σ H Q=ta σ H fun vs H1=>∃a,vs=[.ref a]/\(∃xs,SqT K H1 a xs)/\zaa (q0d K a) g tt te Q (subσ mp σ) H1:=rfl
end L2
set_option Elab.async false
set_option linter.all false
set_option maxRecDepth 100000
namespace L2
open PySem PySem.Spec PyProof.Rows PySem.W
def zye:V->List V->Hp->VK->Prop:=fun x vs H Q=>∃(l:Addr) (ss:List Str) (y:Str),x=.ref l/\vs=[.str y]/\H l=some (.lst (ss.map V.str))/\Q (.int (ss.count y:Nat)) H
section
variable{X:Cx}
theorem Inv.grow{pins:List (Addr×Obj)}{σ : St}{H H':Hp}{s:Shared}{h':Heap}{t':Nat}(I:Inv X pins σ H s)(k:∀b u,s.heap.get? b=some u->h'.get? b=some u)(sm:Same H H')(old:∀b,b < s.heap.objs.size->H b=none->H' b=none)
  (new:∀b u,H b=none->H' b=some u->ObjOk X.prog X.w H' h' b u):Inv X pins σ H' {s with heap:=h',toks:=t'}:=by
 refine I.un ⟨fun b u q _ _ _=>k b u q,fun b u q _ _ _=>⟨u.slots,k b u q⟩,fun b u q n _=>old b (Heap.lt_size q) n,fun b u q _=>⟨u,k b u q⟩,fun b xs q=>sm _ _ q,fun b u xs q=>sm _ _ q,fun b ps q=>⟨#[],by rw [sm _ _ q]; simp⟩⟩ fun b u e=>?_
 cases hb:H b with
 | none=>exact new b u hb e
 | some u'=>
  have:=sm _ _ hb
  rw [e] at this
  cases this
  exact(I.hok b u hb).stay (fun c v _ q=>k c v q) (fun c q=>sm _ _ q) fun c xs q=>sm _ _ q
end
def zkn(v d:Addr):HO:=.ext fun h=>h.IsItemsView v d
def zri:V->List V->Hp->VK->Prop:=fun x vs H Q=>∃(d:Addr) (kvs:List (Key×V)),x=.ref d/\vs=[]/\H d=some (.dK kvs)/\∀p,H p=none->Q (.ref p) (upd H p (zkn p d))
def q18(p:Str×Int):Dm:=.tup [.str p.1,.int p.2]
def zpu:List V->Hp->VK->Prop:=fun xs H Q=>∃(v d:Addr) (kvs:List (Str×Int)) (ρ : Str->Nat),xs=[.ref v]/\H v=some (zkn v d)/\H d=some (.dK (kvs.map fun p=>(Sum.inr p.1,V.int p.2)))/\kvs.length < 64/\
 (∀p∈kvs,∀q∈kvs,decide (p.1.cps.toList < q.1.cps.toList)=decide (ρ p.1 < ρ q.1)/\(ρ p.1 = ρ q.1->p.1=q.1))/\
 ∀(l:Addr) (H':Hp) (ws:List V) (ms:List (Str×Int)),Same H H'->H l=none->H' l=some (.lst ws)->DtA H' ws (ms.map q18)->ms.Perm kvs->ms.Pairwise (fun p q=>ρ p.1 < ρ q.1)->Q (.ref l) H'
section
variable{prog:Program}{w:World}{A:Around}{E:Value->Shared->Prop}{s:Shared}
theorem zzc{x y:Str}{a c:Addr}{ox oy:Obj}{xs ys:Array Value}{n m:Nat}{t u:Tok}{d e:Value}{Q:Bool->Shared->Prop}(ha:s.heap.get? a=some ox)(da:ox.data=.seq xs n)(hc:s.heap.get? c=some oy)(dc:oy.data=.seq ys m)
  (ex:xs.toList=[.str x t,d]) (ey:ys.toList=[.str y u,e]) (hne:x≠y) (h:Q (decide (x.cps.toList < y.cps.toList)) s):wpAny (model prog w) A (keyLt' (tuples' true) (.ref a) (.ref c)) Q E s:=by
 refine kat_lt ha da hc dc ?_
 rw [ex,ey,List.zip_cons_cons]
 refine kat_cons (wpAny_eqBool_str ?_)
 rw [decide_eq_false hne]
 exact kat_no (oneLt_str h)
end
section
variable{prog:Program}{w:World}{A:Around}{E:Value->Shared->Prop}{s:Shared}{K:Type} [DecidableEq K] {knd:PySem.KeyKind prog w K}
theorem ziz{r d:Addr}{kvs:List (K×Value)}{ep:Nat}{Q:List Value->Shared->Prop}(hh:A.handled=none)(hv:s.heap.IsItemsView r d)(hm:s.heap.DictAt knd d kvs ep)(hn:kvs.length<=sizeLine)
  (q:∀(h':Heap) (tk:Nat) (as:List Addr),s.heap.objs.size<=h'.objs.size->(∀b o,s.heap.get? b=some o->h'.get? b=some o)->as.length=kvs.length->KdxG knd kvs s.heap.objs.size h' as->Q (as.map Value.ref) {s with heap:=h',toks:=tk}) :
  wpAny (model prog w) A (collect (.ref r)) Q E s:=by
 have hr:r < s.heap.objs.size:=let ⟨_,ho,_⟩:=hv; Heap.lt_size ho
 have hd:d < s.heap.objs.size:=hm.lt_size
 unfold collect
 refine wpAny_bind (wpAny_runValue (codeAny_builtin PySem.F.entry_proto_collect ?_))
 rw [Around.under_plainId PySem.F.plain_proto_collect]
 refine wpAny_bind (wpAny_newList (wpAny_pure ⟨plainId_quiet PySem.F.plain_list_iadd _,codeAny_builtin PySem.F.entry_list_iadd ?_⟩))
 rw [Around.under_plainId PySem.F.plain_list_iadd]
 have e0:(s.heap.push (seqObj "list" #[] 0)).get? s.heap.objs.size=some (seqObj "list" #[] 0):=Heap.get?_push_size _ rfl
 show wpAny _ _ (Builtin.List.listExtendWith (.ref s.heap.objs.size) (.ref r) (.ref s.heap.objs.size)) _ _ {s with heap:=s.heap.push (seqObj "list" #[] 0)}
 have fin:∀(v:Result) (s':Shared),(∃(h':Heap) (tk:Nat) (acc:Array Value) (c:Nat) (as:List Addr),v=.ok (.ret (.ref s.heap.objs.size))/\s' = {s with heap:=h',toks:=tk}/\h'.get? s.heap.objs.size=some {cls:=.type "list",dict:=none,data:=.seq acc c,slots:=#[]}/\acc.toList=as.map Value.ref/\Q (as.map Value.ref) {s with heap:=h',toks:=tk})->
   (match v with | .ok (.ret v)=>wpAny (model prog w) A (match v with | .ref a=>(do match (<- load a).data with | .seq xs _=>pure xs.toList | _=>unsupported "internal:collect") | _=>unsupported "internal:collect") Q E s' | .ok _=>False | .error e=>E e s'):=by
  rintro v s' ⟨h',tk,acc,c,as,rfl,rfl,hS,hacc,hq⟩
  refine wpAny_bind (wpAny_load hS (wpAny_pure ?_))
  rw [hacc]
  exact hq
 refine wpAny_mono (kdx_extend (A:=A) (s:={s with heap:=s.heap.push (seqObj "list" #[] 0)}) (knd:=knd) (kvs:=kvs) (ep:=ep)
  (R:=fun v s'=>∃(h':Heap) (tk:Nat) (acc:Array Value) (c:Nat) (as:List Addr),v=.ok (.ret (.ref s.heap.objs.size))/\s' = {s with heap:=h',toks:=tk}/\h'.get? s.heap.objs.size=some {cls:=.type "list",dict:=none,data:=.seq acc c,slots:=#[]}/\acc.toList=as.map Value.ref/\Q (as.map Value.ref) {s with heap:=h',toks:=tk})
  hh (let ⟨o,ho,x⟩:=hv; ⟨o,Heap.get?_push_of_some _ ho,x⟩) (hm.push _) s.heap.objs.size (Nat.ne_of_gt hr) (Nat.ne_of_lt hd) (.ref s.heap.objs.size) 0 e0 (fun h' tk acc c as hk hS hl g hacc=>⟨h',tk,acc,c,as,rfl,rfl,hS,hacc,?_⟩) hn) (fun f s' z=>?_) (fun e s' z=>fin _ _ z)
 ·refine q h' tk as (Nat.le_of_lt (Heap.lt_size hS)) (fun b o e=>hk b o (Nat.ne_of_lt (Heap.lt_size e)) (Heap.get?_push_of_some _ e)) hl (g.low ?_)
  show s.heap.objs.size<=(s.heap.push _).objs.size
  rw [Heap.size_push]
  exact Nat.le_succ _
 ·cases f with
  | done f=>exact fin _ _ z
  | again c=>exact⟨z.1,codeAny_mono z.2 fun r s2 y=>fin r s2 y⟩
end
def zul:List Addr->List (List V)->Hp->Hp
 | a::as,x::xs,H=>upd (zul as xs H) a (.tup x)
 | _,_,H=>H
theorem zd1:∀{as:List Addr} {xs:List (List V)} {H:Hp} {b:Addr},b∉as->zul as xs H b=H b
 | [],_,_,_,_=>rfl
 | a::as,[],_,_,_=>rfl
 | a::as,x::xs,H,b,h=>by
  rw [zul,z0a (show b≠a from fun z=>h (by rw [z]; exact List.mem_cons_self))]
  exact zd1 fun z=>h (.tail _ z)
theorem zlq:∀{as:List Addr} {xs:List (List V)} {H:Hp} {j:Nat} {a:Addr} {x:List V},as.Pairwise (· < ·)->as[j]?=some a->xs[j]?=some x->zul as xs H a=some (.tup x)
 | [],_,_,_,_,_,_,h,_=>by simp at h
 | a::as,[],_,_,_,_,_,_,h=>by simp at h
 | a::as,x::xs,H,0,b,y,_,h1,h2=>by
  have e1:a=b:=by simpa using h1
  have e2:x=y:=by simpa using h2
  subst e1 e2
  exact z01
 | a::as,x::xs,H,j+1,b,y,hp,h1,h2=>by
  obtain⟨p1,p2⟩:=List.pairwise_cons.mp hp
  have h1':as[j]?=some b:=by simpa using h1
  have hlt:=p1 b (List.mem_of_getElem? h1')
  rw [zul,z0a (Nat.ne_of_gt hlt)]
  exact zlq p2 h1' (by simpa using h2)
theorem zxs:∀{as:List Addr} {xs:List (List V)} {H:Hp} {b:Addr} {u:HO},as.length=xs.length->as.Pairwise (· < ·)->b∈as->zul as xs H b=some u->∃(j:Nat) (x:List V),as[j]?=some b/\xs[j]?=some x/\u=.tup x:=by
 intro as xs H b u hl hp hb e
 obtain⟨j,hj,ej⟩:=List.getElem_of_mem hb
 have h1:as[j]?=some b:=by rw [List.getElem?_eq_getElem hj,ej]
 have h2:xs[j]?=some xs[j]:=List.getElem?_eq_getElem (by omega)
 have z:=zlq (H:=H) hp h1 h2
 rw [e] at z
 cases z
 exact⟨j,_,h1,h2,rfl⟩
section
variable{X:Cx}
theorem zvq:MtM X "dict.items" zri:=by
 intro pins s σ H x vs v us Q I rx rv h
 obtain⟨d,kvs,rfl,rfl,hH,q⟩:=h
 cases rx
 cases rv
 obtain⟨z,hd,xs,rel,dd⟩:=zzt I.hok hH
 have hT:s.TypeIs (.ref d) "dict":=dd.typeIs
 refine call_meetsIn F.slot_dict_items hT F.entry_dict_items (F.args_dict_items_1 _) (meets_dict_items (z34 X.prog X.w) d hd) ⟨⟨_,dd⟩,?_⟩
 have e:=Heap.get?_push_size s.heap (o:={cls:=.type "dict_items",data:=.fields #[.ref d]}) rfl
 refine⟨.ref s.heap.objs.size,_,I.laid (t':=s.toks) (fun b u q=>Heap.get?_push_of_some _ q) (Nat.le_refl _) (show ObjOk X.prog X.w _ _ _ (zkn s.heap.objs.size d) from⟨⟨_,e,rfl,rfl⟩,⟨_,e⟩,fun h1 h2 ⟨o,e1,r⟩ y=>⟨o,y _ e1,r⟩⟩),rfl,q _ (I.hok.fresh (Nat.le_refl _))⟩
theorem zx7{kvs:List (Str×Int)}:∀{vs:List (Key×Value)},KV (kvs.map fun p=>((Sum.inr p.1:Key),V.int p.2)) vs->∀(j:Nat) (k:Key) (x:Value),vs[j]?=some (k,x)->∃p t,kvs[j]?=some p/\k=Sum.inr p.1/\x=.int p.2 t:=by
 induction kvs with
 | nil=>
  intro vs rel j k x e
  cases rel
  simp at e
 | cons p kvs ih=>
  intro vs rel j k x e
  cases rel with
  | cons rr rt=>
   cases j with
   | zero=>
    obtain⟨h1,t,h2⟩:=rr
    simp only[List.getElem?_cons_zero,Option.some.injEq] at e
    subst e
    exact⟨p,t,rfl,h1.symm,h2⟩
   | succ j=>exact ih rt j k x (by simpa using e)
theorem zjc{α : Type}{H:Hp}{f : α->V}{g : α->Dm}:∀{l:List α},(∀i∈l,Dt H (f i) (g i))->DtA H (l.map f) (l.map g)
 | [],_=>.nil
 | i::l,h=>.cons (h i (.head _)) (zjc fun j hj=>h j (.tail _ hj))
theorem zjt{α : Type}{f : α->V}{g : α->Value}:∀{l:List α},(∀i∈l,RelV (f i) (g i))->Vals (l.map f) (l.map g)
 | [],_=>.nil
 | i::l,h=>.cons (h i (.head _)) (zjt fun j hj=>h j (.tail _ hj))
theorem zeu(hc:X.calm=true):CallR X (.builtin "sorted") zpu:=by
 intro pins s σ H xs us Q I r h
 obtain⟨v,d,kvs,ρ,rfl,hv,hd,h64,hρ,q⟩:=h
 obtain⟨u,rfl,r1⟩:=r.one
 cases r1
 have view:s.heap.IsItemsView v d:=(show ObjOk X.prog X.w H s.heap v (zkn v d) from I.hok v _ hv).1
 obtain⟨zl,hsm,xs,rel,dd⟩:=zzt I.hok hd
 obtain⟨ep,da⟩:=dd.dictAt
 have hxl:xs.length=kvs.length:=by have:=rel.length; rw [List.length_map] at this; exact this.symm
 refine Calls.call_function_entry kind_sorted plain_sorted entry_sorted (args_sorted1 _) ?_
 unfold Builtin.«sorted»
 refine wpAny_bind (m:=checkCount "sorted" 1 1 _) (wpAny_pure (wpAny_bind (ziz (A:=X.A.in1) (by simpa using I.ok.hd hc) view da (zap (by omega)) fun h1 tk as hsz k1 hal g=>?_)))
 have hal':as.length=kvs.length:=by omega
 have hpair:∀j a,as[j]?=some a->∃(p:Str×Int) (t u:Tok),kvs[j]?=some p/\h1.get? a=some {cls:=.type "tuple",data:=.seq #[.str p.1 t,.int p.2 u]}:=fun j a ha=>by
  obtain⟨key,k,x,e1,e2,e3⟩:=g.pairs j a ha
  obtain⟨p,t,e4,rfl,rfl⟩:=zx7 rel j k x e1
  rcases z2h (show zmx (Sum.inr p.1) key=true from e2) with⟨i,t',e5,rfl⟩ | ⟨y,t',e5,rfl⟩
  ·cases e5
  ·cases e5
   exact⟨p,t',t,e4,e3⟩
 have hnd:(kvs.map (·.1)).Nodup:=by
  have z:=da.nodup
  have e:xs.map (·.1)=kvs.map fun p=>(Sum.inr p.1:Key):=by
   refine List.ext_getElem? fun j=>?_
   rw [List.getElem?_map,List.getElem?_map]
   cases ej:xs[j]? with
   | none=>
    have:kvs[j]?=none:=by rw [List.getElem?_eq_none_iff] at ej |-; omega
    rw [this]; rfl
   | some kx=>
    obtain⟨k,x⟩:=kx
    obtain⟨p,t,e4,e5,_⟩:=zx7 rel j k x ej
    rw [e4,e5]; rfl
  rw [e] at z
  exact List.pairwise_map.mpr ((List.pairwise_map.mp z).imp fun h e=>h (by rw [e]))
 have hD:∀i,i < kvs.length->kvs[i]?=some (kvs.getD i (⟨#[]⟩,0)):=fun i hi=>by
  rw [List.getD_eq_getElem?_getD,List.getElem?_eq_getElem hi]; rfl
 have hA:∀i,i < kvs.length->as[i]?=some (as.getD i 0):=fun i hi=>by
  rw [List.getD_eq_getElem?_getD,List.getElem?_eq_getElem (by omega)]; rfl
 have hmem:∀i,i < kvs.length->kvs.getD i (⟨#[]⟩,0)∈kvs:=fun i hi=>List.mem_of_getElem? (hD i hi)
 have hat:∀i,i < kvs.length->∃t u,h1.get? (as.getD i 0)=some {cls:=.type "tuple",data:=.seq #[.str (kvs.getD i (⟨#[]⟩,0)).1 t,.int (kvs.getD i (⟨#[]⟩,0)).2 u]}:=fun i hi=>by
  obtain⟨p,t,u,e1,e2⟩:=hpair i _ (hA i hi)
  rw [hD i hi] at e1
  cases e1
  exact⟨t,u,e2⟩
 have hvl:(as.map Value.ref).length=kvs.length:=by rw [List.length_map,hal']
 have hvd:∀i,i < kvs.length->(as.map Value.ref).getD i .none=.ref (as.getD i 0):=fun i hi=>by
  rw [List.getD_eq_getElem?_getD,List.getElem?_map,hA i hi]; rfl
 have hne:∀i j,i < kvs.length->j < kvs.length->(kvs.getD i (⟨#[]⟩,0)).1=(kvs.getD j (⟨#[]⟩,0)).1->i=j:=fun i j hi hj e=>by
  have hi':i < (kvs.map (·.1)).length:=by rw [List.length_map]; exact hi
  have hj':j < (kvs.map (·.1)).length:=by rw [List.length_map]; exact hj
  refine(List.getElem_inj (h₀:=hi') (h₁:=hj') hnd).mp ?_
  rw [List.getElem_map,List.getElem_map]
  have a1:=hD i hi
  have a2:=hD j hj
  rw [List.getElem?_eq_getElem hi] at a1
  rw [List.getElem?_eq_getElem hj] at a2
  rw [Option.some.inj a1,Option.some.inj a2]
  exact e
 refine wpAny_bind (wpAny_newList ?_ (zap (by omega)))
 have eL:(h1.push (seqObj "list" (as.map Value.ref).toArray 0)).get? h1.objs.size=some (seqObj "list" (as.map Value.ref).toArray 0):=Heap.get?_push_size _ rfl
 refine wpAny_bind (wpAny_holding (wpAny_call_entry slot_list_sort ⟨_,eL,rfl⟩ entry_list_sort (z99 (r:=fun i=>ρ (kvs.getD i (⟨#[]⟩,0)).1) eL (by omega) (fun i j hi hj e=>hne i j (by omega) (by omega) ((hρ _ (hmem i (by omega)) _ (hmem j (by omega))).2 e)) (fun h2 h' kp=>?_) fun p P1 P2=>⟨_,rfl,?_⟩) (args_list_sort _)))
 ·have keep:∀i,i < kvs.length->∃t u,h'.get? (as.getD i 0)=some {cls:=.type "tuple",data:=.seq #[.str (kvs.getD i (⟨#[]⟩,0)).1 t,.int (kvs.getD i (⟨#[]⟩,0)).2 u]}:=fun i hi=>by
   obtain⟨t,u,e⟩:=hat i hi
   exact⟨t,u,kp _ _ (Nat.ne_of_lt (Heap.lt_size e)) (Heap.get?_push_of_some _ e)⟩
  have tups:∀(l:List Nat),(∀i∈l,i < kvs.length)->∃fs,KatTups h' (l.map fun i=>(as.map Value.ref).getD i .none) fs/\fs.length=l.length/\∀f∈fs,∃x t,f=.str x t:=by
   intro l
   induction l with
   | nil=>intro _; exact⟨[],.nil,rfl,fun f hf=>absurd hf (by simp)⟩
   | cons i l ih=>
    intro hl
    obtain⟨fs,k,lf,ff⟩:=ih fun j hj=>hl j (.tail _ hj)
    obtain⟨t,u,e⟩:=keep i (hl i (.head _))
    refine⟨.str (kvs.getD i (⟨#[]⟩,0)).1 t::fs,?_,by simp[lf],fun f hf=>?_⟩
    ·rw [List.map_cons,hvd i (hl i (.head _))]
     exact .cons e rfl rfl rfl k
    ·rcases List.mem_cons.mp hf with rfl | hf
     ·exact⟨_,_,rfl⟩
     ·exact ff f hf
  obtain⟨fs,kt,fl,ff⟩:=tups (List.range kvs.length) fun i hi=>List.mem_range.mp hi
  have ev:((List.range kvs.length).map fun i=>(as.map Value.ref).getD i .none)=as.map Value.ref:=by
   refine List.ext_getElem (by simp[hal']) fun i h1 h2=>?_
   simp at h2
   simp[h2]
  rw [ev] at kt
  rw [List.length_range] at fl
  refine⟨tuples' true,fun E Q hQ=>kat_kind (T:=.type "str") kt (by omega) (fun v hv=>?_) rfl hQ,fun i j hi hj E Q hQ=>?_⟩
  ·obtain⟨x,t,rfl⟩:=ff v hv
   exact Looks.of_pure rfl
  ·rw [hvl] at hi hj
   rw [hvd i hi,hvd j hj]
   obtain⟨t1,u1,e1⟩:=keep i hi
   obtain⟨t2,u2,e2⟩:=keep j hj
   by_cases eij:i=j
   ·subst eij
    rw [decide_eq_false (Nat.lt_irrefl _)] at hQ
    rw [e1] at e2
    refine kat_lt e1 rfl e1 rfl ?_
    refine kat_cons (wpAny_eqBool_str ?_)
    rw [decide_eq_true rfl]
    refine kat_yes (kat_cons (wpAny_eqBool_int ?_))
    rw [show((kvs.getD i (⟨#[]⟩,0)).2 == (kvs.getD i (⟨#[]⟩,0)).2)=true from beq_self_eq_true _]
    refine kat_yes (kat_nil ?_)
    simpa using hQ
   ·refine zzc e1 rfl e2 rfl rfl rfl (fun z=>eij (hne i j hi hj z)) ?_
    rw [(hρ _ (hmem i hi) _ (hmem j hj)).1]
    exact hQ
 ·refine wpAny_pure ⟨_,rfl,?_⟩
  rw [hvl] at P1 P2
  obtain⟨n,en⟩:=sortedHeap_at (out:=(p.toList.map fun i=>(as.map Value.ref).getD i Value.none).toArray) eL
  have hin:∀i∈p.toList,i < kvs.length:=fun i hi=>List.mem_range.mp (P1.pm.mem_iff.mp hi)
  have oldF:∀b u,h1.get? b=some u->(sortedHeap (h1.push (seqObj "list" (as.map Value.ref).toArray 0)) h1.objs.size (as.map Value.ref) (p.toList.map fun i=>(as.map Value.ref).getD i Value.none).toArray).get? b=some u:=fun b u hu=>by
   have lb:=Heap.lt_size hu
   rw [sortedHeap_old (Nat.ne_of_lt lb) (by rw [size_push']; exact Nat.lt_succ_of_lt lb)]
   exact Heap.get?_push_of_some _ hu
  have hup:∀a∈as,s.heap.objs.size<=a/\a < h1.objs.size:=fun a ha=>⟨Nat.le_of_lt (g.above a ha),g.there ha⟩
  have nL:h1.objs.size∉as:=fun z=>absurd (hup _ z).2 (Nat.lt_irrefl _)
  have low:∀b,b < s.heap.objs.size->upd (zul as (kvs.map fun p=>[V.str p.1,V.int p.2]) H) h1.objs.size (.lst (p.toList.map fun i=>V.ref (as.getD i 0))) b=H b:=fun b hb=>by
   rw [z0a (Nat.ne_of_lt (Nat.lt_of_lt_of_le hb hsz)),zd1 fun z=>absurd (hup b z).1 (by omega)]
  have sm:Same H (upd (zul as (kvs.map fun p=>[V.str p.1,V.int p.2]) H) h1.objs.size (.lst (p.toList.map fun i=>V.ref (as.getD i 0)))):=fun b u e=>by
   rw [low b (I.hok b u e).lt]; exact e
  have atT:∀i,i < kvs.length->upd (zul as (kvs.map fun p=>[V.str p.1,V.int p.2]) H) h1.objs.size (.lst (p.toList.map fun i=>V.ref (as.getD i 0))) (as.getD i 0)=some (.tup [V.str (kvs.getD i (⟨#[]⟩,0)).1,V.int (kvs.getD i (⟨#[]⟩,0)).2]):=fun i hi=>by
   have ha:=hA i hi
   rw [z0a fun z=>nL (by rw [<- z]; exact List.mem_of_getElem? ha)]
   exact zlq g.rise ha (by rw [List.getElem?_map,hD i hi]; rfl)
  refine⟨.ref h1.objs.size,_,I.grow (t':=tk) (fun b u e=>oldF b u (k1 b u e)) sm (fun b hb e=>(low b hb).trans e) (fun b u e1 e2=>?_),rfl,q h1.objs.size _ _ (p.toList.map fun i=>kvs.getD i (⟨#[]⟩,0)) sm (I.hok.fresh hsz) z01 ?_ ?_ ?_⟩
  ·by_cases hb:b=h1.objs.size
   ·subst hb
    rw [z01] at e2
    cases e2
    refine⟨?_,(p.toList.map fun i=>(as.map Value.ref).getD i Value.none),n,zjt fun i hi=>?_,by simpa [seqObj] using en⟩
    ·rw [List.length_map,Array.length_toList,P1.sz]
     exact zap (by omega)
    ·rw [hvd i (hin i hi)]; rfl
   ·rw [z0a hb] at e2
    by_cases hba:b∈as
    ·obtain⟨j,x,ej,ex,rfl⟩:=zxs (by rw [List.length_map]; exact hal') g.rise hba e2
     obtain⟨p',t,u,e4,e5⟩:=hpair j b ej
     rw [List.getElem?_map,e4] at ex
     cases ex
     exact⟨zny,[.str p'.1 t,.int p'.2 u],.cons ⟨t,rfl⟩ (.cons ⟨u,rfl⟩ .nil),⟨_,oldF b _ e5,rfl,0,rfl⟩⟩
    ·rw [zd1 hba,e1] at e2
     cases e2
  ·rw [List.map_map]
   refine zjc fun i hi=>?_
   exact .tup (atT i (hin i hi)) (.cons (.str _) (.cons (.int _) .nil))
  ·have z:=P1.pm.map fun i=>kvs.getD i ((⟨#[]⟩:Str),(0:Int))
   refine z.trans (.of_eq ?_)
   refine List.ext_getElem (by simp) fun i h1 h2=>?_
   simp[h2]
  ·rw [List.pairwise_map,List.pairwise_iff_getElem]
   intro i j hi hj hij
   have hj':j < p.size:=by simpa using hj
   have z:=P2 i j hij (by rw [<- P1.sz]; exact hj')
   simpa [rk,Array.getD,hj',Nat.lt_trans hij hj'] using z
end
end L2
set_option Elab.async false
set_option linter.all false
set_option maxRecDepth 100000
namespace L2
open PySem PySem.Spec PyProof.Rows PySem.W
section
variable{prog:Program}{w:World}{A:Around}{E:Value->Shared->Prop}{s:Shared}{a:Addr}
end
structure Prw where
 r:Addr
 k:Addr
 x:V
 u:Value
instance:Inhabited Prw:=⟨⟨0,0,.non,.none⟩⟩
section
variable{X:Cx}{pins:List (Addr×Obj)}{σ : St}{H:Hp}{s:Shared}
theorem zk5{α β : Type}{R : α->β->Prop}:∀{l:List α} {m:List β},Paired R l m->l.length=m.length/\∀(j:Nat) (a : α) (b : β),l[j]?=some a->m[j]?=some b->R a b
 | [],_,.nil=>⟨rfl,fun j a b h=>by simp at h⟩
 | x::l,_,.cons r t=>by
  obtain⟨h1,h2⟩:=zk5 t
  refine⟨by simp[h1],fun j a b ha hb=>?_⟩
  cases j with
  | zero=>
   have e1:=Option.some.inj ha
   have e2:=Option.some.inj hb
   subst e1 e2
   exact r
  | succ j=>exact h2 j a b (by simpa using ha) (by simpa using hb)
end
def zwr(td:TE):TE:=fun σ H Q=>td σ H fun x H1=>zri x [] H1 Q
theorem zv9{X:Cx}{o:Expr}{apos cpos:Pos}{td:TE}(ho:PE X o td) (hbase:attributeBase o "items" X.env (eval o X.env)=eval o X.env:=by rfl)
  (hfew:((backTo cpos (starEach [] X.env)).all (fun x=>!x.1) && (backToKw cpos (keywordEach [] X.env)).all (fun x=>x.1.isSome)
   && decide (([]:List Expr).length+([]:List Keyword).length+(if([]:List Keyword).isEmpty then 0 else 1) < 30))=true:=by rfl)
  (hline:(apos.endLine == cpos.line)=true:=by rfl):PE X (.Call (.Attribute o "items" apos) [] [] cpos) (zwr td):=by
 intro pins s σ H Q I h
 refine wpAny_Call_method hbase hfew hline PySem.F.plainAttrs_dict PySem.F.slot_dict_items PySem.F.type_dict_items (thn (ho pins s σ H _ I h) fun u s1 ⟨x,H1,I1,rx,q1⟩=>?_)
 obtain⟨d,kvs,rfl,_,hH,q⟩:=q1
 obtain rfl:u=Value.ref d:=rx
 obtain⟨t1,t2,_⟩:=zxc I1 (.inl ⟨kvs,.inl hH⟩)
 refine⟨t1,t2,?_⟩
 refine Calls.callWith_builtin rfl (PyProof.Rows.evalArgs_nil3 ?_)
 exact zvq pins s1 σ H1 (.ref d) [] (.ref d) [] Q I1 rfl .nil ⟨d,kvs,rfl,rfl,hH,q⟩
def q32(i j k:Nat)(ta:TA):TS:=fun D σ H=>ta σ H fun vs H1=>∃u v w,vs=[u,v,w]/\D.nx (((σ.set i (some u)).set j (some v)).set k (some w)) H1
end L2
set_option Elab.async false
set_option linter.all false
set_option maxRecDepth 100000
namespace L2
open PySem PySem.Spec PyProof.Rows
def zgx(c:Addr)(q:Str):HO:=.ext fun h=>h.CodeRec (.ref c) q
structure LamD where
 qual:Str
 params:Arguments
 body:Expr
 scope:Scope
def zuh(D:LamD)(cl:List (Str×Addr))(f c':Addr):HO:=.ext fun h=>∃pm ctv,h.get? f=some (PySem.W.kla_obj "<lambda>" D.qual D.params D.body D.scope cl pm c' ctv)
def q34(P:Addr)(pos:Pos)(D:LamD)(cl:List (Str×Addr)):TE:=fun σ H Q=>∃ps,H P=some (.tbl ps)/\TriplesOk ps.toList/\
  ((codeAmong pos ps.toList=none/\∀c' f,H c'=none->H f=none->c'≠f->Q (.ref f) (upd (upd (upd H P (.tbl (ps ++ #[rawInt pos.line,rawInt pos.col,.ref c']))) c' (zgx c' D.qual)) f (zuh D cl f c')))\/
   (∃c',codeAmong pos ps.toList=some (.ref c')/\H c'=some (zgx c' D.qual)/\∀f,H f=none->Q (.ref f) (upd H f (zuh D cl f c'))))
section
variable{X:Cx}
theorem q17{params:Arguments}{body:Expr}{scope:Scope}{pos:Pos}{c P:Addr}{cl:List (Str×Addr)}(hdef:defaultsOf params X.env=([],[]))(hcl:closureFor scope X.env=pure cl)(hcode:X.env.code=.ref c)(C:PySem.W.CodeHd X.base c P)(hB:X.base.BuiltinsAt X.mg P)(hgP:mainGlobals≠P) :
  PE X (.Lambda params body scope pos) (q34 P pos ⟨X.env.qual ++ "<lambda>",params,body,scope⟩ cl):=by
 intro pins s σ H Q I h
 obtain⟨ps,hP,ht,h⟩:=h
 have C':PySem.W.CodeHd s.heap c P:=C.keeps I.bk
 have hb:s.heap.BuiltinsAt X.mg P:=by
  obtain⟨bm,ob,a1,a2,a3,a4,a5,a6⟩:=hB
  exact⟨bm,ob,a1,a2,a3,a4,I.bk _ _ a5,a6⟩
 have hg:s.heap.Ns mainGlobals X.mg:=I.mod.glob.keeps I.bk
 have hPo:s.heap.get? P=some (PySem.W.tabObj ps):=I.hok P _ hP
 refine PySem.W.kla_eval hdef ?_
 rcases h with⟨hnf,h⟩ | ⟨c',hf,hc',h⟩
 ·refine PySem.W.kla_makeFunction hcl I.ok.glob hg hcode C' hPo ht hnf hgP hb fun c' ctv h' tk hx hge hlt hrec htb=>?_
  have hcn:H c'=none:=I.hok.fresh hge
  have hsz:s.heap.objs.size<=h'.objs.size:=Nat.le_of_lt (Nat.lt_of_le_of_lt hge hlt)
  have hfn:H h'.objs.size=none:=I.hok.fresh hsz
  have hne:c'≠h'.objs.size:=Nat.ne_of_lt hlt
  have hPc:P≠c':=z0h hP hcn
  have hPf:P≠h'.objs.size:=z0h hP hfn
  have q:=h c' h'.objs.size hcn hfn hne
  generalize hH:upd (upd (upd H P (.tbl (ps ++ #[rawInt pos.line,rawInt pos.col,.ref c']))) c' (zgx c' (X.env.qual ++ "<lambda>"))) h'.objs.size (zuh ⟨X.env.qual ++ "<lambda>",params,body,scope⟩ cl h'.objs.size c')=H' at q
  have far:∀b,b≠P->b≠c'->b≠h'.objs.size->H' b=H b:=fun b h1 h2 h3=>by
   rw [<- hH,z0a h3,z0a h2,z0a h1]
  have atP:H' P=some (.tbl (ps ++ #[rawInt pos.line,rawInt pos.col,.ref c'])):=by rw [<- hH,z0a hPf,z0a hPc,z01]
  have old:∀b u,H b=some u->b≠P->H' b=some u:=fun b u e n=>(far b n (z0h e hcn) (z0h e hfn)).trans e
  have kp:∀b o,b≠P->s.heap.get? b=some o->(h'.push (PySem.W.kla_obj "<lambda>" (X.env.qual ++ "<lambda>") params body scope cl ((X.mg "__name__").getD .none) c' ctv)).get? b=some o:=fun b o n e=>Heap.get?_push_of_some _ (hx b o n e)
  have nP:∀b,H b=none->b≠P:=fun b e z=>by rw [z,hP] at e; cases e
  refine⟨.ref h'.objs.size,H',I.un (t':=tk) ⟨fun b o e n _ _=>kp b o (nP b n) e,fun b o e n _ _=>⟨o.slots,kp b o (nP b n) e⟩,fun b o e n _=>?_,fun b o e _=>?_,fun b xs e=>old b _ e fun z=>(by rw [z,hP] at e; cases e),fun b o u e=>old b _ e fun z=>(by rw [z,hP] at e; cases e),fun b qs e=>?_⟩ fun b u e=>?_,rfl,q⟩
  ·have hlt':=Heap.lt_size e
   rw [far b (nP b n) (Nat.ne_of_lt (Nat.lt_of_lt_of_le hlt' hge)) (Nat.ne_of_lt (Nat.lt_of_lt_of_le hlt' hsz))]
   exact n
  ·by_cases hb':b=P
   ·exact⟨_,by rw [hb']; exact Heap.get?_push_of_some _ htb⟩
   ·exact⟨o,kp b o hb' e⟩
  ·by_cases hb':b=P
   ·rw [hb',hP] at e
    cases e
    exact⟨_,by rw [hb']; exact atP⟩
   ·exact⟨#[],by rw [old b _ e hb']; simp⟩
  ·by_cases h3:b=h'.objs.size
   ·have e':=e
    rw [<- hH,h3,z01] at e'
    cases e'
    rw [h3]
    exact⟨⟨_,_,Heap.get?_push_size _ rfl⟩,⟨_,Heap.get?_push_size _ rfl⟩,fun h1 h2 ⟨pm,ct,z⟩ k=>⟨pm,ct,k _ z⟩⟩
   ·by_cases h2:b=c'
    ·have e':=e
     rw [<- hH,h2,z0a hne,z01] at e'
     cases e'
     rw [h2]
     obtain⟨c₂,oc,vs,t,e2,hoc,hd,hv⟩:=hrec
     cases e2
     exact⟨⟨_,oc,vs,t,rfl,Heap.get?_push_of_some _ hoc,hd,hv⟩,⟨oc,Heap.get?_push_of_some _ hoc⟩,fun h1 h2 ⟨c3,oc,vs,t,e3,z,zd,zv⟩ k=>by cases e3; exact⟨_,oc,vs,t,rfl,k _ z,zd,zv⟩⟩
    ·by_cases h1:b=P
     ·rw [h1,atP] at e
      cases e
      rw [h1]
      exact Heap.get?_push_of_some _ htb
     ·rw [far b h1 h2 h3] at e
      refine(I.hok b u e).stay (fun d v hd e'=>kp d v ?_ e') (fun d e'=>old d _ e' fun z=>(by rw [z,hP] at e'; cases e')) fun d xs e'=>old d _ e' fun z=>(by rw [z,hP] at e'; cases e')
      rcases hd with hd | hd
      ·rw [hd]; exact h1
      ·exact fun z=>by rw [z,hP] at hd; cases hd
 ·refine PySem.W.kla_makeFunctionHit hcl I.ok.glob hg hcode C' hPo ht hf hb fun ctv h' tk hk hsz=>?_
  have hfn:H h'.objs.size=none:=I.hok.fresh hsz
  refine⟨.ref h'.objs.size,upd H h'.objs.size _,I.laid (t':=tk) (fun b u e=>Heap.get?_push_of_some _ (hk b u e)) hsz ?_,rfl,h _ hfn⟩
  exact⟨⟨_,_,Heap.get?_push_size _ rfl⟩,⟨_,Heap.get?_push_size _ rfl⟩,fun h1 h2 ⟨pm,ct,z⟩ k=>⟨pm,ct,k _ z⟩⟩
end
def z5f(c:Addr)(o:Obj):HO:=.ext fun h=>h.get? c=some o
def zjq(cs:List Addr)(H:Hp):Hp:=fun b=>if b∈cs then none else H b
def znt(cs:List Addr)(H H':Hp):Hp:=fun b=>if b∈cs then H b else H' b
theorem zgk{cs:List Addr}{H:Hp}{b:Addr}(h:b∈cs):zjq cs H b=none:=by unfold zjq; rw [if_pos h]
theorem z2i{cs:List Addr}{H:Hp}{b:Addr}(h:b∉cs):zjq cs H b=H b:=by unfold zjq; rw [if_neg h]
theorem zns{cs:List Addr}{H H':Hp}{b:Addr}(h:b∈cs):znt cs H H' b=H b:=by unfold znt; rw [if_pos h]
theorem z8d{cs:List Addr}{H H':Hp}{b:Addr}(h:b∉cs):znt cs H H' b=H' b:=by unfold znt; rw [if_neg h]
theorem z66{cs:List Addr}{H:Hp}{b:Addr}(h:H b=none):zjq cs H b=none:=by
 by_cases hb:b∈cs
 ·exact zgk hb
 ·rw [z2i hb]; exact h
theorem zt0{cs:List Addr}{H:Hp}{b:Addr}{u:HO}(h:zjq cs H b=some u):b∉cs/\H b=some u:=by
 by_cases hb:b∈cs
 ·rw [zgk hb] at h; cases h
 ·exact⟨hb,by rw [z2i hb] at h; exact h⟩
def AreCells(cs:List Addr)(H:Hp):Prop:=∀c∈cs,∃o,H c=some (z5f c o)
theorem AreCells.not{cs:List Addr}{H:Hp}(h:AreCells cs H){b:Addr}{u:HO}(e:H b=some u)(n:∀o,u≠z5f b o):b∉cs:=fun hb=>by
 obtain⟨o,q⟩:=h b hb
 rw [e] at q
 cases q
 exact n o rfl
theorem HOk.hid{P:Program}{w:World}{H:Hp}{h:Heap}{cs:List Addr}(x:HOk P w H h)(k:AreCells cs H):HOk P w (zjq cs H) h:=fun a o e=>by
 obtain⟨_,e'⟩:=zt0 e
 refine(x a o e').stay (fun _ _ _ q=>q) (fun b q=>?_) fun b xs q=>?_
 ·rw [z2i (k.not q fun o=>by unfold z5f; intro z; cases z)]; exact q
 ·rw [z2i (k.not q fun o=>by unfold z5f; intro z; cases z)]; exact q
theorem HOk.ret{P:Program}{w:World}{H H':Hp}{h h':Heap}{cs:List Addr}(x:HOk P w H h)(x':HOk P w H' h')(k:AreCells cs H)(hn:∀c∈cs,H' c=none)(kp:∀c∈cs,∀o,h.get? c=some o->h'.get? c=some o):HOk P w (znt cs H H') h':=fun a o e=>by
 have out:∀{b:Addr} {u:HO},H' b=some u->znt cs H H' b=some u:=fun {b u} e=>by rw [z8d fun hb=>by rw [hn b hb] at e; cases e]; exact e
 by_cases ha:a∈cs
 ·rw [zns ha] at e
  obtain⟨ob,q⟩:=k a ha
  rw [q] at e
  cases e
  obtain⟨z,_,st⟩:=x a _ q
  exact⟨kp a ha _ z,⟨_,kp a ha _ z⟩,st⟩
 ·rw [z8d ha] at e
  exact(x' a o e).stay (fun _ _ _ q=>q) (fun b q=>out q) fun b xs q=>out q
theorem Un.ret{fs:List Addr}{H H':Hp}{h h':Heap}{cs:List Addr}(u:Un fs [] (zjq cs H) H' h h')(k:AreCells cs H):Un fs [] H (znt cs H H') h h':=by
 have nc:∀{b:Addr},H b=none->b∉cs:=fun {b} n hb=>by
  obtain⟨o,q⟩:=k b hb
  rw [n] at q; cases q
 refine⟨fun b o e n hb hx=>u.keep b o e (z66 n) hb hx,fun b o e n hb hx=>u.slot b o e (z66 n) hb hx,fun b o e n hx=>?_,u.there,fun b xs e=>?_,fun b o v e=>?_,fun b ps e=>?_⟩
 ·rw [z8d (nc n)]
  exact u.free b o e (z66 n) hx
 ·have nb:=k.not e fun o=>by unfold z5f; intro z; cases z
  rw [z8d nb]
  exact u.tups b xs (by rw [z2i nb]; exact e)
 ·have nb:=k.not e fun o=>by unfold z5f; intro z; cases z
  rw [z8d nb]
  exact u.frzs b o v (by rw [z2i nb]; exact e)
 ·have nb:=k.not e fun o=>by unfold z5f; intro z; cases z
  rw [z8d nb]
  exact u.tbls b ps (by rw [z2i nb]; exact e)
structure LamScope(ps fr:List Str)(cl:List (Str×Addr))(sc:Scope):Prop where
 kind:sc.kind=.function
 co:sc.isCoroutine=false
 gen:sc.isGenerator=false
 nd:(ps++fr).Nodup
 par:∀x∈ps,sc.names.lookup x=some .local
 free:∀x∈fr,sc.names.lookup x=some .free
 nocell:∀y∈sc.names,y.2≠.cell
 has:∀y∈sc.names,y.2=.free->∃c,cl.lookup y.1=some c
 inj:∀x y c,cl.lookup x=some c->cl.lookup y=some c->x=y
 look:∀x c,(x,c)∈cl->cl.lookup x=some c
def cxL(P:Program)(w:World)(K:PySem.W.Frag)(mg:Str->Option Value)(base:Heap)(N:List Str)(D:LamD)(cl:List (Str×Addr))(f c':Addr)(A:Around)(outer:List PySem.Env)(s:Shared)(H:Hp)(E:XK):Cx where
 prog:=P
 w:=w
 K:=K
 mg:=mg
 base:=base
 A:=A.deeper (PySem.W.envX D.qual D.scope s.heap.objs.size f (.ref c') cl)
 N:=N
 s₀:=s
 H₀:=zjq (cl.map (·.2)) H
 env:=PySem.W.envX D.qual D.scope s.heap.objs.size f (.ref c') cl
 outer:=outer
 stack:=PySem.W.envX D.qual D.scope s.heap.objs.size f (.ref c') cl::outer
 ex:=[]
 calm:=true
 fn:=fun _=>false
 pn:=[]
 xe:=fun e s'=>wpAny (model P w) (A.deeper (PySem.W.envX D.qual D.scope s.heap.objs.size f (.ref c') cl)) (leaving (PySem.W.envX D.qual D.scope s.heap.objs.size f (.ref c') cl) e) (fun _ s''=>CX0 outer H s E e s'') (fun e' s''=>CX0 outer H s E e' s'') s'
theorem zi4{x:Str}{v:Value}:∀{ps:List Str} {us:List Value} {i:Nat},ps.Nodup->ps[i]?=some x->us[i]?=some v->(ps.zip us).lookup x=some v
 | [],_,_,_,h,_=>by simp at h
 | _::_,[],_,_,_,h=>by simp at h
 | p::ps,u::us,0,nd,h1,h2=>by
  simp at h1 h2; subst h1; subst h2
  simp[List.zip_cons_cons,List.lookup]
 | p::ps,u::us,i+1,nd,h1,h2=>by
  have hn:=List.nodup_cons.mp nd
  have h1':ps[i]?=some x:=by simpa using h1
  have hne:(x == p)=false:=by
   rw [beq_eq_false_iff_ne]
   rintro rfl
   exact hn.1 (List.mem_of_getElem? h1')
  rw [List.zip_cons_cons,List.lookup,hne]
  exact zi4 hn.2 h1' (by simpa using h2)
theorem zq8{x:Str}{v:Value}{ps:List Str}{us:List Value}{i:Nat}(nd:ps.Nodup)(hl:ps.length=us.length)(h1:ps[i]?=some x)(h2:us[i]?=some v):(ps.zip us).reverse.lookup x=some v:=by
 have e:(ps.zip us).reverse=ps.reverse.zip us.reverse:=by
  apply List.ext_getElem?
  intro j
  simp[List.zip,List.reverse_zipWith hl]
 have hi:i < ps.length:=(List.getElem?_eq_some_iff.mp h1).1
 rw [e]
 refine zi4 (i:=ps.length - 1 - i) (by unfold List.Nodup; rw [List.pairwise_reverse]; exact nd.imp Ne.symm) ?_ ?_
 ·rw [List.getElem?_reverse (by omega)]
  rw [show ps.length - 1 - (ps.length - 1 - i)=i by omega]
  exact h1
 ·rw [List.getElem?_reverse (by omega)]
  rw [show us.length - 1 - (ps.length - 1 - i)=i by omega]
  exact h2
theorem zzj{P:Program}{w:World}{K:PySem.W.Frag}{mg:Str->Option Value}{base:Heap}{ps fr:List Str}{D:LamD}{cl:List (Str×Addr)}{f c':Addr}{A:Around}{outer:List PySem.Env}{s:Shared}{h1:Heap}{tk:Nat}{H:Hp}{E:XK}{us:List Value}{vs ws:List V}
  (S:LamScope ps fr cl D.scope) (hd:A.handled=none) (e0:Env0 P w K mg base A outer s H) (hl:vs.length=ps.length) (r:Vals vs us) (hlw:ws.length=fr.length)
  (cells:∀c∈cl.map (·.2),∃o x,H c=some (z5f c o)/\o.data=.cell x)
  (hw:∀(i:Nat) (x:Str) (v:V),fr[i]?=some x->ws[i]?=some v->∃c o u,cl.lookup x=some c/\H c=some (z5f c o)/\o.data=.cell (some u)/\RelV v u)
  (hns:h1.Ns s.heap.objs.size fun x=>(ps.zip us).reverse.lookup x) (hk:∀b o,s.heap.get? b=some o->h1.get? b=some o) :
  Inv (cxL P w K mg base (ps++fr) D cl f c' A outer s H E) [] ((vs++ws).map some) (zjq (cl.map (·.2)) H) {s with heap:=h1,toks:=tk}:=by
 have ac:AreCells (cl.map (·.2)) H:=fun c hc=>by
  obtain⟨o,_,q,_⟩:=cells c hc
  exact⟨o,q⟩
 have inC:∀{x:Str} {c:Addr},cl.lookup x=some c->c∈cl.map (·.2):=fun {x c} h=>List.mem_map.mpr ⟨(x,c),PySem.mem_of_lookup h,rfl⟩
 have noA:∀b:Addr,b∉(cxL P w K mg base (ps++fr) D cl f c' A outer s H E).ex:=fun b z=>absurd (show b∈([]:List Addr) from z) (by simp)
 have isC:∀{c:Addr} {o:Obj},H c=some (z5f c o)->s.heap.get? c=some o:=fun q=>(e0.hok _ _ q).1
 refine⟨⟨e0.mod,S.kind,rfl,rfl,Nat.le_refl _,fun y z c h1 h2=>S.inj y z c h1 h2,fun y hy=>?_,fun y c h=>Bool.noConfusion (show false=true from h),fun _=>hd,Around.frames_deeper e0.frames,.inr ⟨rfl,rfl⟩,fun b z=>absurd z (noA b),fun b o e=>⟨(e0.bs b o e).1,z66 (e0.bs b o e).2⟩,e0.bsz,fun b _ _=>noA b,fun b z=>absurd z (noA b),e0.funs,fun b hb=>z66 (e0.frf b hb)⟩,
  rfl,e0.bare,Un.kept hk,⟨_,hns,fun i y v h1 h2 h3=>?_⟩,fun y c h=>?_,z66 (e0.hok.fresh (Nat.le_refl _)),fun y c h=>zgk (inC h),fun p hp=>absurd (show p∈([]:List (Addr×Obj)) from hp) (by simp),(e0.hok.hid ac).kept hk,?_⟩
 ·have hy:D.scope.names.lookup y=some .cell\/D.scope.names.lookup y=some .free:=hy
  rcases hy with hy | hy
  ·exact absurd rfl (S.nocell _ (PySem.mem_of_lookup hy))
  ·exact S.has _ (PySem.mem_of_lookup hy) rfl
 ·have h1':(ps++fr)[i]?=some y:=h1
  rw [List.getElem?_map] at h2
  by_cases hi:i < ps.length
  ·rw [List.getElem?_append_left hi] at h1'
   rw [List.getElem?_append_left (by omega)] at h2
   cases ev:vs[i]? with
   | none=>rw [ev] at h2; cases h2
   | some a=>
    rw [ev] at h2
    cases h2
    obtain⟨u,hu,rv⟩:=r.get ev
    exact⟨u,rv,.inl ⟨S.par y (List.mem_of_getElem? h1'),zq8 (List.nodup_append.mp S.nd).1 (by rw [<- hl,r.length]) h1' hu⟩⟩
  ·rw [List.getElem?_append_right (by omega)] at h1'
   rw [List.getElem?_append_right (by omega),hl] at h2
   cases ev:ws[i - ps.length]? with
   | none=>rw [ev] at h2; cases h2
   | some a=>
    rw [ev] at h2
    cases h2
    obtain⟨c,o,u,hc,q,hd',rv⟩:=hw _ _ _ h1' ev
    exact⟨u,rv,.inr ⟨.inr (S.free y (List.mem_of_getElem? h1')),c,hc,o,hk _ _ (isC q),hd'⟩⟩
 ·obtain⟨o,x,q,hd'⟩:=cells c (inC h)
  exact⟨x,o,hk _ _ (isC q),hd'⟩
 ·show _=(ps++fr).length
  rw [List.length_map,List.length_append,List.length_append,hl,hlw]
theorem zzf{P:Program}{w:World}{K:PySem.W.Frag}{mg:Str->Option Value}{base:Heap}{k:Nat}{ps fr:List Str}{D:LamD}{cl:List (Str×Addr)}{f c':Addr}{A:Around}{outer:List PySem.Env}{s:Shared}{H:Hp}{us:List Value}{vs ws:List V}{Q:VK}
  (S:LamScope ps fr cl D.scope) (hr:Room (k+1) A) (e0:Env0 P w K mg base A outer s H) (hf:H f=some (zuh D cl f c')) (hc:H c'=some (zgx c' D.qual)) (hl:vs.length=ps.length) (r:Vals vs us) (hlw:ws.length=fr.length)
  (cells:∀c∈cl.map (·.2),∃o x,H c=some (z5f c o)/\o.data=.cell x)
  (hw:∀(i:Nat) (x:Str) (v:V),fr[i]?=some x->ws[i]?=some v->∃c o u,cl.lookup x=some c/\H c=some (z5f c o)/\o.data=.cell (some u)/\RelV v u)
  (hbind:∀fd:FuncData,fd.params=D.params->fd.defaults=.none->fd.kwdefaults=.none->fd.scope=D.scope->bindArgs fd ⟨us,[]⟩=pure (ps.zip us))
  (hbody:Room k (A.deeper (PySem.W.envX D.qual D.scope s.heap.objs.size f (.ref c') cl))->∃t,PE (cxL P w K mg base (ps++fr) D cl f c' A outer s H E0) D.body t/\t ((vs++ws).map some) (zjq (cl.map (·.2)) H) fun v H'=>(∀c∈cl.map (·.2),H' c=none)->Q v (znt (cl.map (·.2)) H H')) :
  codeAny (model P w) A (.call (.ref f) ⟨us,[]⟩) (CR CX0 outer P w H s Q E0) s:=by
 obtain⟨⟨pm,ctv,hfo⟩,_⟩:=e0.hok f _ hf
 obtain⟨hcr,_⟩:=e0.hok c' _ hc
 have ac:AreCells (cl.map (·.2)) H:=fun c hc=>by
  obtain⟨o,_,q,_⟩:=cells c hc
  exact⟨o,q⟩
 have lim:s.heap.NoLimit:=e0.mod.nolimit.keeps fun b o e=>(e0.bs b o e).1
 refine PySem.W.kla_callFunE hr.depth hfo rfl S.co S.gen rfl hcr ?_
 rw [hbind _ rfl rfl rfl rfl]
 refine wpAny_pure (wpAny_newFunctionEnv S.nocell (fun y hy=>S.par _ (List.of_mem_zip hy).1) (fun h₁ hns hsb=>⟨lim.fresh _ hsb,?_⟩) S.kind)
 show codeAny _ _ (.expr D.body (PySem.W.envX D.qual D.scope s.heap.objs.size f (.ref c') cl)) _ _
 have hk₁:∀b o,s.heap.get? b=some o->h₁.get? b=some o:=fun b o e=>hsb.extBut b o (Nat.ne_of_lt (Heap.lt_size e)) (Heap.get?_push_of_some _ e)
 obtain⟨t,ht,q⟩:=hbody (hr.deeper _)
 have I:=zzj (K:=K) (f:=f) (c':=c') (E:=E0) (tk:=s.toks+(ps.zip us).length) S hr.hd e0 hl r hlw cells hw hns hk₁
 refine PySem.W.kla_codeExpr (wpAny_mono (ht [] _ _ _ _ I q) (fun u s' hs=>?_) fun e s' hs=>hs)
 obtain⟨v,H',J,rv,qv⟩:=hs
 have nC:∀c∈cl.map (·.2),H' c=none:=fun c hc=>by
  obtain⟨⟨x,c2⟩,hm,rfl⟩:=List.mem_map.mp hc
  exact J.freeC x c2 (S.look x c2 hm)
 replace qv:=qv nC
 refine⟨v,znt (cl.map (·.2)) H H',J.os,J.bare,Un.ret (cs:=cl.map fun x=>x.2) (H:=H) J.base ac,HOk.ret e0.hok J.hok ac nC fun c hc o e=>?_,rv,qv⟩
 refine J.base.keep c o e (zgk hc) (fun z=>?_) (by show c∉([]:List Addr); simp)
 obtain⟨o',q'⟩:=ac c hc
 have:=e0.frf c z
 rw [q'] at this
 cases this
def q2o(P:Program)(w:World)(K:PySem.W.Frag)(mg:Str->Option Value)(base:Heap)(k:Nat)(f:Addr)(H:Hp)(vs:List V)(Q:VK):Prop:=
 ∀(A:Around) (outer:List PySem.Env) (s:Shared) (us:List Value),Room k A->Env0 P w K mg base A outer s H->Vals vs us->codeAny (model P w) A (.call (.ref f) ⟨us,[]⟩) (CR CX0 outer P w H s Q E0) s
def IsLam(H:Hp)(f:Addr):Prop:=∃D cl c',H f=some (zuh D cl f c')
theorem IsLam.at{X:Cx}{pins:List (Addr×Obj)}{σ : St}{H:Hp}{s:Shared}{f:Addr}(h:IsLam H f)(I:Inv X pins σ H s):PySem.W.FnAt f s.heap:=by
 obtain⟨D,cl,c',e⟩:=h
 obtain⟨⟨pm,ctv,q⟩,_⟩:=I.hok f _ e
 exact⟨_,_,_,_,q⟩
def zws(R:Addr->Hp->List V->VK->Prop)(i:Nat)(t:TA):TE:=fun σ H Q=>∃f,σ[i]?=some (some (.ref f))/\IsLam H f/\t σ H fun vs H1=>IsLam H1 f/\R f H1 vs Q
theorem zez{X:Cx}{x:Str}{i k j:Nat}{e:Expr}{es:List Expr}{t:TA}{p pos:Pos}(hN:X.N[i]?=some x)(hv:Vis X.env.scope x)(hr:Room j X.A)(hk:k<=j)(ha:PA X (e::es) t)
  (hd:(x == ("__debug__" : Str))=false:=by decide) (hcd:(x == ("__classdict__" : Str))=false:=by decide) (hst:z2x (e::es)=true:=by rfl) :
  PE X (.Call (.Name x p) (e::es) [] pos) (zws (q2o X.prog X.w X.K X.mg X.base k) i t):=by
 have hst':=hst
 rw [z2x,Bool.and_eq_true,Bool.not_eq_true'] at hst'
 have he:=z10 (es:=es) (env:=X.env) hst'.1
 have hpl:=z2w (pos:=pos) (env:=X.env) hst'.2
 intro pins s σ H Q I h
 obtain⟨f,ei,hl,h⟩:=h
 refine wpAny_Call_Name_kw (thn (z00 (pos:=p) hN hv hd hcd pins s σ H (fun x' H'=>x'=.ref f/\IsLam H' f/\t σ H' fun vs H1=>IsLam H1 f/\q2o X.prog X.w X.K X.mg X.base k f H1 vs Q) I ⟨_,ei,rfl,hl,h⟩) fun u s0 ⟨x',H',I',r',ex,hl',h'⟩=>?_)
 subst ex
 cases r'
 refine PySem.W.callWith_F (first:=[]) (hl'.at I') (thn (ha pos pins s0 σ H' _ I' h') fun us s1 ⟨vs,H1,I1,r,hl1,q⟩=>⟨hl1.at I1,?_⟩) he hpl
 refine wpAny_call (codeAny_mono (q X.A X.stack s1 us (hr.mono hk) I1.env0 r) fun r s' hq=>?_)
 cases r with
 | error e=>exact False.elim hq
 | ok fl=>
  cases fl with
  | ret u=>exact I1.after hq
  | next=>exact False.elim hq
  | brk=>exact False.elim hq
  | cont=>exact False.elim hq
def zfl(sp:Sp)(c:Addr)(i:Nat)(t:TA):TE:=fun σ H Q=>t σ H fun vs H1=>∃v,σ[i]?=some (some v)/\∀o u,o.data=.cell (some u)->RelV v u->H1 c=none->sp vs (upd H1 c (z5f c o)) (fun y H2=>H2 c=some (z5f c o)/\Q y (zjq [c] H2)) E0
theorem zrs{X:Cx}{x y:Str}{c:Addr}{ps:List Str}{i k j:Nat}{sp:Sp}{e:Expr}{es:List Expr}{t:TA}{p pos:Pos}(C:Callee X.prog X.w X.K X.mg X.base x ps k sp)(hr:Room j X.A)(hk:k<=j)(ha:PA X (e::es) t)
  (hN:X.N[i]?=some y) (hc:X.env.cells.lookup y=some c) (hy:X.env.kindOf y=some .cell) (hfn:X.fn y=true) (hg:Gl X x:=by rfl)
  (hdb:(x == ("__debug__" : Str))=false:=by decide) (hst:z2x (e::es)=true:=by rfl) :
  PE X (.Call (.Name x p) (e::es) [] pos) (zfl sp c i t):=by
 have hst':=hst
 rw [z2x,Bool.and_eq_true,Bool.not_eq_true'] at hst'
 have he:=z10 (es:=es) (env:=X.env) hst'.1
 have hpl:=z2w (pos:=pos) (env:=X.env) hst'.2
 obtain⟨f,fd,F,hm,hkp,hb⟩:=C
 intro pins s σ H Q I h
 refine wpAny_Call_Name_kw (ziy I hg hm ?_ hdb)
 refine PySem.W.callWith_K (h₀:=X.base) I.ok.mod.kin hkp (thn (ha pos pins s σ H _ I h) fun us s1 ⟨vs,H1,I1,r,v,ei,q⟩=>⟨I1.kIn,?_⟩) he hpl
 obtain⟨m,hn,hl⟩:=id I1.loc
 obtain⟨u,ru,l⟩:=hl i y v hN ei (.inr (.inl hy))
 have hcell:s1.heap.IsCell c (some u):=by
  rcases l with⟨hk',_⟩ | ⟨_,c2,e2,z⟩
  ·rw [hy] at hk'; cases hk'
  ·rw [hc] at e2; cases e2; exact z
 obtain⟨o,ho,hd⟩:=hcell
 have hcn:H1 c=none:=I1.freeC y c hc
 have q':=q o u hd ru hcn
 have hH:HOk X.prog X.w (upd H1 c (z5f c o)) s1.heap:=fun b w e=>by
  by_cases hb:b=c
  ·subst hb
   rw [z01] at e
   cases e
   exact⟨ho,⟨o,ho⟩,fun h1 h2 z k=>k _ z⟩
  ·rw [z0a hb] at e
   exact(I1.hok b w e).stay (fun _ _ _ q=>q) (fun d z=>by rw [z0a (z0h z hcn)]; exact z) fun d xs z=>by rw [z0a (z0h z hcn)]; exact z
 have cfs:c∉frs X.stack:=fun z=>by
  rcases List.mem_cons.mp (I1.stkSub c z) with z | z
  ·exact I1.cne y c hc z
  ·obtain⟨_,ob,hob,_⟩:=I1.ok.funs.mem z
   exact absurd (Nat.lt_of_lt_of_le (Heap.lt_size hob) (I1.ok.cab y c hfn hc)) (Nat.lt_irrefl _)
 have e0:Env0 X.prog X.w X.K X.mg X.base X.A X.stack s1 (upd H1 c (z5f c o)):=by
  have z:=I1.env0
  refine⟨z.frames,z.mod,fun b ob e=>⟨(z.bs b ob e).1,?_⟩,z.bsz,z.funs,fun b hb=>?_,hH,z.bare⟩
  ·rw [z0a fun w=>?_]
   ·exact(z.bs b ob e).2
   ·subst w
    have:=Heap.lt_size (I1.ok.bs b ob e).1
    exact absurd (Nat.lt_of_lt_of_le this (I1.ok.cab y b hfn hc)) (Nat.lt_irrefl _)
  ·rw [z0a fun w=>cfs (by rw [<- w]; exact hb)]
   exact z.frf b hb
 have hln:us.length=ps.length:=by rw [<- r.length]; exact F.len _ _ _ _ q'
 have hbd:=hb s1 us I1.kIn (by rw [List.append_nil]; exact hln)
 rw [List.append_nil] at hbd
 refine wpAny_call (codeAny_mono (F.run X.A X.stack s1 _ ⟨us,[]⟩ us vs _ E0 (hr.mono hk) e0 hbd r q') fun r s' hq=>?_)
 cases r with
 | error e=>exact False.elim hq
 | ok fl=>
  cases fl with
  | next=>exact False.elim hq
  | brk=>exact False.elim hq
  | cont=>exact False.elim hq
  | ret u2=>
   obtain⟨v2,H2,os,bare,un,hok,rv,hc2,q2⟩:=hq
   have ac:AreCells [c] H2:=fun b hb=>by
    rw [List.mem_singleton] at hb
    subst hb
    exact⟨o,hc2⟩
   obtain⟨hh,g,d,tk,os'⟩:=s'
   obtain rfl:os'=s1.os:=os
   have hco:hh.get? c=some o:=(hok c _ hc2).1
   refine⟨v2,zjq [c] H2,I1.call (h':=hh) (g':=g) (d':=d) (t':=tk) (ch:=[]) ⟨fun b ob e n hb hx=>?_,fun b ob e n hb hx=>?_,fun b ob e n hx=>?_,fun b ob e hx=>un.there b ob e hx,fun b xs e=>?_,fun b ob w e=>?_,fun b qs e=>?_⟩ (hok.hid ac) bare (fun b z=>absurd z (by simp)),rv,q2⟩
   ·by_cases hbc:b=c
    ·subst hbc; rw [ho] at e; cases e; exact hco
    ·exact un.keep b ob e (by rw [z0a hbc]; exact n) hb hx
   ·by_cases hbc:b=c
    ·subst hbc; exact absurd hb cfs
    ·exact un.slot b ob e (by rw [z0a hbc]; exact n) hb hx
   ·by_cases hbc:b=c
    ·subst hbc; exact zgk (List.mem_singleton.mpr rfl)
    ·exact z66 (un.free b ob e (by rw [z0a hbc]; exact n) hx)
   ·have nb:b≠c:=z0h e hcn
    rw [z2i (by simpa using nb)]
    exact un.tups b xs (by rw [z0a nb]; exact e)
   ·have nb:b≠c:=z0h e hcn
    rw [z2i (by simpa using nb)]
    exact un.frzs b ob w (by rw [z0a nb]; exact e)
   ·have nb:b≠c:=z0h e hcn
    rw [z2i (by simpa using nb)]
    exact un.tbls b qs (by rw [z0a nb]; exact e)
end L2
set_option Elab.async false
set_option linter.all false
set_option maxRecDepth 100000
namespace L2
open PySem PySem.Spec PyProof.Rows
def q2n(mg:Str->Option Value)(base:Heap)(tabs:List (Addr×Addr)):Prop:=∀q∈tabs,PySem.W.CodeHd base q.1 q.2/\base.BuiltinsAt mg q.2/\mainGlobals≠q.2
theorem zsl{P:Program}{w:World}{K:PySem.W.Frag}{mg mb:Str->Option Value}{k:Nat}{fa a:Addr}{fd:FuncData}{x:Str}{sp:Sp}{s₁:Shared}{vs:List Value}{ns:List Int}{tabs:List (Addr×Addr)}
  (KX:K.In s₁.heap) (hns:s₁.heap.Ns mainGlobals mg) (hb:s₁.heap.Ns builtinsNs mb) (hbb:∀x:Str,x≠"__name__"->mb x=bootBuiltins x) (hlim:s₁.heap.NoLimit) (hg:s₁.gens = #[])
  (ha:s₁.heap.get? a=some {cls:=.type "list",data:=.seq vs.toArray}) (hi:IntsAre vs ns) (hl:ns.length<=sizeLine) (hr:Room k callerA)
  (hT:PySem.W.TabsAt tabs s₁.heap) (hB:∀q∈tabs,s₁.heap.BuiltinsAt mg q.2) (hK:PySem.W.noTabs K=true)
  (F:∀base:Heap,K.In base->base.Ns mainGlobals mg->q2n mg base tabs->FnOk P w K mg base CX0 k fa fd [x] sp) (hbind:∀(s:Shared) (u:Value),BindsTo s fd ⟨[u],[]⟩ [(x,u)])
  (hsp:∀H:Hp,(∀q∈tabs,H q.2=some (.tbl #[]))->SqL K H a (ns.map V.int)->sp [.ref a] H (fun v _=>v=.bl true) fun _ _ _=>False) :
  codeAny (model P w) callerA (.call (.ref fa) ⟨[.ref a],[]⟩) (fun r s'=>r=.ok (.ret (.bool true))/\OldK s₁.heap s'.heap/\s'.os=s₁.os/\AllBare s'.gens) s₁:=by
 have rv:=zfg hi
 have lenV:=hi.length
 have tabK:∀q∈tabs,K.lookup q.2=none:=fun q hq=>by
  cases e:K.lookup q.2 with
  | none=>rfl
  | some o=>
   have h1:=KX _ _ e
   rw [(hT q hq).2] at h1
   cases h1
   have h2:=List.all_eq_true.mp hK (q.2,_) (PySem.W.mem_of_lookupK e)
   exact absurd (show false=true from h2) Bool.false_ne_true
 have aT:a∉tabs.map (·.2):=fun z=>by
  obtain⟨q,hq,e⟩:=List.mem_map.mp z
  have h1:=(hT q hq).2
  rw [e,ha] at h1
  cases h1
 have core:∀H:Hp,(∀b,H b=none\/(∃o xs,b=a/\H b=some (.frz o (.lst xs)))\/(b∈tabs.map (·.2)/\H b=some (.tbl #[])))->(∀q∈tabs,H q.2=some (.tbl #[]))->SqL K H a (ns.map V.int)->HOk P w H s₁.heap->(H a≠none->K.lookup a=none)->
   codeAny (model P w) callerA (.call (.ref fa) ⟨[.ref a],[]⟩) (fun r s'=>r=.ok (.ret (.bool true))/\OldK s₁.heap s'.heap/\s'.os=s₁.os/\AllBare s'.gens) s₁:=by
  intro H hO hTb hS hok hKa
  have base_of:∀{b:Addr} {o:Obj},s₁.heap.get? b=some o->H b=none->(zn2 s₁.heap H).get? b=some o:=fun e n=>zom e n
  have tabO:∀{b:Addr},b∈tabs.map (·.2)->s₁.heap.get? b=some (PySem.W.tabObj #[]):=fun {b} hb=>by
   obtain⟨q,hq,rfl⟩:=List.mem_map.mp hb
   exact(hT q hq).2
  have noA:∀{b:Addr} {o:Obj},s₁.heap.get? b=some o->b≠a->b∉tabs.map (·.2)->H b=none:=fun {b o} e n1 n2=>by
   rcases hO b with z | ⟨_,_,z,_⟩ | ⟨z,_⟩
   ·exact z
   ·exact absurd z n1
   ·exact absurd z n2
  have nsK:∀{b:Addr} {m:Str->Option Value},s₁.heap.Ns b m->(zn2 s₁.heap H).Ns b m:=fun {b m} ⟨o,es,ep,e,d,r⟩=>by
   refine⟨o,es,ep,base_of e (noA e (fun z=>?_) fun z=>?_),d,r⟩
   ·rw [z,ha] at e; cases e; cases d
   ·rw [tabO z] at e; cases e; cases d
  have hKb:K.In (zn2 s₁.heap H):=fun b o e=>base_of (KX b o e) (by
   rcases hO b with z | ⟨_,_,z,z2⟩ | ⟨z,_⟩
   ·exact z
   ·have:=hKa (by rw [<- z,z2]; simp)
    rw [z,this] at e
    cases e
   ·obtain⟨q,hq,rfl⟩:=List.mem_map.mp z
    rw [tabK q hq] at e
    cases e)
  have hM:Mod K mg (zn2 s₁.heap H):=⟨hKb,nsK hns,⟨mb,nsK hb,hbb⟩,let ⟨mc,h1,h2⟩:=hlim; ⟨mc,nsK h1,h2⟩⟩
  have hTB:q2n mg (zn2 s₁.heap H) tabs:=fun q hq=>by
   obtain⟨o,vs',file,tf,flags,tg,inF,text,tt,e1,r1,r2,r⟩:=(hT q hq).1
   obtain⟨bm,ob,b1,b2,b3,b4,b5,b6,b7,b8⟩:=hB q hq
   refine⟨⟨o,vs',file,tf,flags,tg,inF,text,tt,base_of e1 (noA e1 (fun z=>?_) fun z=>?_),r1,r2,r⟩,⟨bm,ob,b1,b2,b3,b4,base_of b5 (noA b5 (fun z=>?_) fun z=>?_),b6,b7,b8⟩,fun z=>?_⟩
   ·rw [z,ha] at e1; cases e1; exact absurd (show Value.type "list" = Value.type "code" from r1) (by simp)
   ·rw [tabO z] at e1; cases e1; cases r1
   ·rw [z,ha] at b5; cases b5; exact absurd (show Value.type "list" = Value.type "module" from b6) (by simp)
   ·rw [tabO z] at b5; cases b5; cases b6
   ·obtain⟨o',es,ep,e',d,_⟩:=hns
    rw [z,(hT q hq).2] at e'
    cases e'
    cases d
  have e0:Env0 P w K mg (zn2 s₁.heap H) callerA [] s₁ H:=⟨rfl,hM,fun b o e=>zs9 e,Nat.le_of_eq (zkp _ _),trivial,fun b hb=>absurd (show b∈([]:List Addr) from hb) (by simp),hok,.of_eq hg⟩
  refine codeAny_mono ((F _ hKb (nsK hns) hTB).run callerA [] s₁ H ⟨[.ref a],[]⟩ [.ref a] [.ref a] _ _ hr e0 (hbind s₁ (.ref a)) (.cons rfl .nil) (hsp H hTb hS)) fun r s' h=>?_
  cases r with
  | error e=>exact False.elim h
  | ok fl=>
   cases fl with
   | next=>exact False.elim h
   | brk=>exact False.elim h
   | cont=>exact False.elim h
   | ret u=>
    obtain⟨v,H',os,bare,un,hok',r',q⟩:=h
    have q':v=.bl true:=q
    subst q'
    obtain rfl:u=Value.bool true:=r'
    refine⟨rfl,⟨fun b o e=>?_,fun b o e=>un.there b o e (by simp)⟩,os,bare⟩
    rcases hO b with z | ⟨ob,xs,_,z⟩ | ⟨hb,z⟩
    ·exact .inl (un.keep b o e z (by intro z; exact absurd (show b∈([]:List Addr) from z) (by simp)) (by simp))
    ·have z2:=un.frzs b ob _ z
     obtain⟨e1,_⟩:=hok b _ z
     obtain⟨e2,_⟩:=hok' b _ z2
     rw [e] at e1; cases e1
     exact .inl e2
    ·obtain⟨more,z2⟩:=un.tbls b _ z
     have e2:s'.heap.get? b=some {cls:=.none,data:=.fields (#[]++more)}:=hok' b _ z2
     rw [tabO hb] at e
     cases e
     obtain⟨q,hq,rfl⟩:=List.mem_map.mp hb
     exact .inr (.inl ⟨((hT q hq).1.tab (hT q hq).2).isCodeTable,rfl,#[],more,rfl,e2⟩)
 have tin:∀q∈tabs,q.2∈tabs.map (·.2):=fun q hq=>List.mem_map.mpr ⟨q,hq,rfl⟩
 cases hk:K.lookup a with
 | some o=>
  have e:=KX a o hk
  rw [ha] at e
  cases e
  refine core (fun b=>if b∈tabs.map (·.2) then some (.tbl #[]) else none) (fun b=>?_) (fun q hq=>if_pos (tin q hq)) (.inr ⟨_,vs.toArray,_,hk,rfl,rfl,rfl,by rw [List.size_toArray,lenV]; exact hl,by simpa using rv⟩) (fun b u z=>?_) fun z=>absurd (if_neg aT) z
  ·by_cases hb:b∈tabs.map (·.2)
   ·exact .inr (.inr ⟨hb,if_pos hb⟩)
   ·exact .inl (if_neg hb)
  ·by_cases hb:b∈tabs.map (·.2)
   ·have z':=(if_pos hb).symm.trans z
    cases z'
    obtain⟨q,hq,rfl⟩:=List.mem_map.mp hb
    exact(hT q hq).2
   ·have z':=(if_neg hb).symm.trans z
    cases z'
 | none=>
  refine core (fun b=>if b∈tabs.map (·.2) then some (.tbl #[]) else if b=a then some (.frz {cls:=.type "list",data:=.seq vs.toArray} (.lst (ns.map V.int))) else none) (fun b=>?_) (fun q hq=>if_pos (tin q hq)) (.inl (.inr ⟨{cls:=.type "list",data:=.seq vs.toArray},(if_neg aT).trans (if_pos rfl)⟩)) (fun b u z=>?_) fun _=>hk
  ·by_cases hb:b∈tabs.map (·.2)
   ·exact .inr (.inr ⟨hb,if_pos hb⟩)
   ·by_cases hba:b=a
    ·exact .inr (.inl ⟨_,_,hba,(if_neg hb).trans (if_pos hba)⟩)
    ·exact .inl ((if_neg hb).trans (if_neg hba))
  ·by_cases hb:b∈tabs.map (·.2)
   ·have z':=(if_pos hb).symm.trans z
    cases z'
    obtain⟨q,hq,rfl⟩:=List.mem_map.mp hb
    exact(hT q hq).2
   ·have z1:=(if_neg hb).symm.trans z
    by_cases hba:b=a
    ·have z':=(if_pos hba).symm.trans z1
     cases z'
     subst hba
     exact⟨ha,by rw [List.length_map]; exact hl,vs,_,rv,ha⟩
    ·have z':=(if_neg hba).symm.trans z1
     cases z'
theorem zuk{l:PySem.W.OpenLaw}{n k:Nat}{q:Program}{loose:List Str}{XP:(Str->Option Value)->Heap->Prop}{YP:World->Heap->Prop}{d:DefRec}{K:Params->PySem.W.Frag}{sp:World->Sp}{x:Str}{tabs:List (Str×Addr×Addr)}
  (hn:l.most=some n) (hn2:n<=sizeLine) (hdf:d.params.defaults=[]) (hr:Room k callerA)
  (hY:∀(w:World) (h:Heap),YP w h->(K w.params).In h)
  (hK:∀w:World,PySem.W.noTabs (K w.params)=true) (hrec:∀t∈tabs,∃e,(recsOf q).find? (fun e=>e.name == t.1)=some e) (htab:∀(w:World),∀t∈tabs,PySem.W.tabIn (K w.params) t.1=some (t.2.1,t.2.2))
  (F:∀(w:World) (mg:Str->Option Value) (fa:Addr) (h:Heap),(K w.params).In h->h.Ns mainGlobals mg->mg d.name=some (.ref fa)->
   ∃fd:FuncData,(∀(s:Shared) (u:Value),BindsTo s fd ⟨[u],[]⟩ [(x,u)])/\
    ∀base:Heap,(K w.params).In base->base.Ns mainGlobals mg->q2n mg base (tabs.map (·.2))->FnOk l.prog w (K w.params) mg base CX0 k fa fd [x] (sp w))
  (hsp:∀(w:World) (H:Hp) (a:Addr) (ns:List Int),ns.length<=n->(∀q∈tabs.map (·.2),H q.2=some (.tbl #[]))->SqL (K w.params) H a (ns.map V.int)->sp w [.ref a] H (fun v _=>v=.bl true) fun _ _ _=>False) :
  PySem.W.WalkO q loose XP YP l.row.toRowW d [] (fun f vs=>PySem.call f vs):=by
 refine Att.zh0 hn hdf fun w s₀ s₁ mg mb fa o pm cd doc a vs ns G Y ho hd hcd hmg hobj hints hlen hg=>?_
 have KX:=hY w _ Y
 obtain⟨fd,hb,hF⟩:=F w mg fa _ KX G.T.g hmg
 have hT:PySem.W.TabsAt (tabs.map (·.2)) s₁.heap:=fun t ht=>by
  obtain⟨t',ht',rfl⟩:=List.mem_map.mp ht
  obtain⟨e,he⟩:=hrec t' ht'
  exact PySem.W.tab_of G.T KX he (htab w t' ht')
 refine zsl KX G.T.g G.T.b G.T.builtins G.T.nolimit hg hobj hints (Nat.le_trans hlen hn2) hr hT (fun t ht=>?_) (hK w) hF hb fun H hO hS=>hsp w H a ns hlen hO hS
 obtain⟨bm,ob,b1,b2,b3,b4,b5,b6⟩:=G.T.bmain
 refine⟨bm,ob,b1,b2,fun z=>?_,fun z=>?_,b3,b4,b5,b6⟩
 ·obtain⟨o',es,ep,e',hd',_⟩:=G.T.g
  rw [z,e'] at b3
  cases b3
  rw [hd'] at b6
  cases b6
 ·rw [z,(hT t ht).2] at b3
  cases b3
  cases b4
theorem zw5{K:PySem.W.Frag}{a b:Addr}{xs ys:List V}{g:TG}{tb:TS}{D:Ends}{σ : St}{H:Hp}(hxy:xs.length=ys.length)(Pv:Nat->St->Hp->Prop)(h0:Pv 0 σ H)(hl:∀i σ H,i<=xs.length->Pv i σ H->SqT K H a xs/\SqT K H b ys)
  (hs:∀i x y σ H T,xs[i]?=some x->ys[i]?=some y->Pv i σ H->H T=none->g (.ref T) σ (upd H T (.tup [x,y])) fun σ2 H2=>tb {D with nx:=Pv (i+1),ct:=Pv (i+1),bk:=D.nx} σ2 H2) (hd:∀ σ H,Pv xs.length σ H->D.nx σ H) :
  ∃W:Nat->Nat->St->Hp->Prop,(∃m,W 0 m σ H)/\∀i m σ H,W i m σ H->
   ((zxp K a b).stop i H/\D.nx σ H)\/((zxp K a b).go i H/\∃N:St->Hp->Prop,(∀ σ' H',N σ' H'->∃m',m' < m/\W (i+1) m' σ' H')/\∀x H',(zxp K a b).yld i H x H'->g x σ H' fun σ2 H2=>tb {D with nx:=N,ct:=N,bk:=D.nx} σ2 H2):=by
 refine⟨fun i m σ H=>m=xs.length - i/\i<=xs.length/\Pv i σ H,⟨xs.length,by simp,Nat.zero_le _,h0⟩,?_⟩
 rintro i m σ H ⟨rfl,hi,p⟩
 have q:=hl i σ H hi p
 by_cases hlt:i < xs.length
 ·refine .inr ⟨⟨xs,ys,xs[i],ys[i]'(by omega),q.1,q.2,by simp[hlt],by simp⟩,Pv (i+1),fun σ' H' p'=>⟨xs.length - (i+1),by omega,rfl,hlt,p'⟩,fun x H' y=>?_⟩
  obtain⟨T,u,v,rfl,hT,rfl,y1,y2⟩:=y
  exact hs i u v σ H T (y1 xs q.1) (y2 ys q.2) p hT
 ·have e:i=xs.length:=by omega
  subst e
  exact .inl ⟨⟨xs,ys,q.1,q.2,.inl (Nat.le_refl _)⟩,hd σ H p⟩
end L2
set_option Elab.async false
set_option linter.all false
set_option maxRecDepth 100000
namespace L2
open PySem PySem.Spec PyProof.Rows PySem.W
section
variable{prog:Program}{w:World}{A:Around}{E:Value->Shared->Prop}{s:Shared}{a:Addr}
end
section
variable{X:Cx}{pins:List (Addr×Obj)}{σ : St}{H:Hp}{s:Shared}
structure Pkw where
 r:Addr
 k:Value
 u:Value
instance:Inhabited Pkw:=⟨⟨0,.none,.none⟩⟩
end
end L2
set_option Elab.async false
set_option linter.all false
set_option maxRecDepth 100000
namespace L2
open PySem PySem.Spec PyProof.Rows PySem.W
def FlyAt(h:Heap)(l:List PySem.Env)(x T:Addr)(C:Value):Prop:=(∃B:Heap,h.FunFrames B l)/\x∉frs l/\T∉frs l/\T≠x/\∃(oe:Obj) (vs:Array Value) (oT:Obj) (ts:Array Value) (a0:Value),h.get? x=some oe/\oe.cls=C/\vs[0]?=some a0/\oe.data=.fields vs/\vs[1]?=some (.ref T)/\h.get? T=some oT/\oT.data=.fields ts/\ts[3]?=some .none
theorem FlyAt.of{B h:Heap}{l:List PySem.Env}{x:Addr}{C a0:Value}(f:Heap.FlyingW B l x C a0 h):∃T,B.get? T=none/\FlyAt h l x T C:=by
 obtain⟨f1,f2,f3,oe,vs,T,oT,ts,he,⟨hc,h0⟩,hd,h1,hn,ne,hT,hdT,h3⟩:=f
 refine⟨T,hn,⟨B,f3⟩,fun z=>?_,fun z=>?_,ne,oe,vs,oT,ts,a0,he,hc,h0,hd,h1,hT,hdT,h3⟩
 ·obtain⟨_,o,ho,hnf⟩:=f3.mem z
  rw [he] at ho; cases ho
  exact hnf vs hd
 ·obtain⟨_,o,ho,hnf⟩:=f3.mem z
  rw [hT] at ho; cases ho
  exact hnf ts hdT
section
variable{P:Program}{w:World}{h h':Heap}{l:List PySem.Env}{x T:Addr}{H:Hp}
end
def CX1(P:Program)(w:World):CXT:=fun outer H s E e s'=>∃(x T C:Addr) (H':Hp),e=.ref x/\s'.os=s.os/\AllBare s'.gens/\Un (frs outer) [] H H' s.heap s'.heap/\HOk P w H' s'.heap/\FlyAt s'.heap outer x T (.ref C)/\s.heap.get? x=none/\s.heap.get? T=none/\H' x=none/\H' T=none/\E (.ref C) none H'
section
variable{P:Program}{w:World}{K:PySem.W.Frag}{mg:Str->Option Value}{base:Heap}{N:List Str}{qual:Str}{scope:Scope}{f:Addr}{cd:Value}{A:Around}{outer:List PySem.Env}{s₀:Shared}{H₀:Hp}{E:XK}
end
end L2
set_option Elab.async false
set_option linter.all false
set_option maxRecDepth 100000
namespace L2
open PySem PySem.Spec PyProof.Rows PySem.W
structure CalleeX(P:Program)(w:World)(K:PySem.W.Frag)(mg:Str->Option Value)(base:Heap)(x:Str)(ps:List Str)(k:Nat)(sp:Sp):Prop where
 ex:∃f fd,FnOk P w K mg base (CX1 P w) k f fd ps sp/\mg x=some (.ref f)/\PySem.W.keepIn K (.ref f)=true/\Binds K fd ps []
section
variable{P:Program}{w:World}{K:PySem.W.Frag}{mg:Str->Option Value}{base:Heap}
theorem Callee.x{x:Str}{ps:List Str}{k:Nat}{sp:Sp}(C:Callee P w K mg base x ps k sp):CalleeX P w K mg base x ps k sp:=by
 obtain⟨f,fd,F,a,b,c⟩:=C
 refine⟨f,fd,⟨F.len,fun A outer s H args us vs Q E hr e0 hb hv hs=>codeAny_mono (F.run A outer s H args us vs Q E hr e0 hb hv hs) fun r s' hq=>?_⟩,a,b,c⟩
 cases r with
 | error e=>exact False.elim hq
 | ok fl=>cases fl<;>exact hq
end
section
variable{X:Cx}{pins:List (Addr×Obj)}{σ : St}{H:Hp}{s:Shared}{h':Heap}{x T:Addr}
structure Strange(X:Cx)(pins:List (Addr×Obj))(x:Addr):Prop where
 new:X.s₀.heap.get? x=none
 loc:x≠X.env.locals
 cell:∀y c,X.env.cells.lookup y=some c->c≠x
 pin:∀p∈X.pn++pins,p.1≠x
theorem Inv.gone{i:Nat}{n:Str}{m:Str->Option Value}{v:Option Value}{t':Nat}(I:Inv X pins σ H s)(hN:X.N.Nodup)(hi:X.N[i]?=some n)(hn:Heap.Ns h' X.env.locals (fun y=>if y=n then v else m y))(hm:s.heap.Ns X.env.locals m)(hs:Heap.SameBut X.env.locals s.heap h') :
  Inv X pins (σ.set i none) H {s with heap:=h',toks:=t'}:=by
 obtain⟨m0,hn0,hl⟩:=I.loc
 have em:m0=m:=hn0.eq_nsMap.trans hm.eq_nsMap.symm
 subst em
 have cne:=I.cne
 have neL:∀b o,X.s₀.heap.get? b=some o->b≠X.env.locals:=fun b o e=>Nat.ne_of_lt (Nat.lt_of_lt_of_le (Heap.lt_size e) I.ok.above)
 refine⟨I.ok,I.os,I.bare,⟨fun b o e n hb hx=>(hs.2 b (neL b o e)).trans (I.base.keep b o e n hb hx),fun b o e n hb hx=>?_,I.base.free,fun b o e hx=>?_,I.base.tups,I.base.frzs,I.base.tbls⟩,⟨_,hn,fun j y v' e1 e2 e3=>?_⟩,fun y c e=>?_,I.free,I.freeC,fun p hp=>?_,fun b u e=>?_,by simpa using I.len⟩
 ·obtain⟨sl,q⟩:=I.base.slot b o e n hb hx
  exact⟨sl,(hs.2 b (neL b o e)).trans q⟩
 ·obtain⟨o',q⟩:=I.base.there b o e hx
  exact⟨o',(hs.2 b (neL b o e)).trans q⟩
 ·by_cases hj:j=i
  ·subst hj
   have hiσ : j < σ.length:=by rw [I.len]; exact(List.getElem?_eq_some_iff.mp hi).1
   rw [List.getElem?_set_self hiσ] at e2
   cases e2
  ·rw [List.getElem?_set_ne (Ne.symm hj)] at e2
   obtain⟨u,r,q⟩:=hl j y v' e1 e2 e3
   refine⟨u,r,?_⟩
   rcases q with⟨k,e⟩ | ⟨k,c,e,z⟩
   ·refine .inl ⟨k,?_⟩
    have:y≠n:=fun e=>hj (ziu hN e1 (e ▸ hi))
    simp[this,e]
   ·exact .inr ⟨k,c,e,z.sameBut hs (cne y c e)⟩
 ·obtain⟨w',z⟩:=I.cell y c e
  exact⟨w',z.sameBut hs (cne y c e)⟩
 ·obtain⟨e,n,ne,nf,d⟩:=I.pin p hp
  exact⟨(hs.2 p.1 ne).trans e,n,ne,nf,d⟩
 ·refine(I.hok b u e).stay (fun c w' hc q=>(hs.2 c ?_).trans q) (fun _ q=>q) fun _ _ q=>q
  rintro rfl
  rcases hc with rfl | hc
  ·rw [I.free] at e; cases e
  ·rw [I.free] at hc; cases hc
end
end L2
set_option Elab.async false
set_option linter.all false
set_option maxRecDepth 100000
namespace L2
open PySem PySem.Spec PyProof.Rows PySem.W
section
variable{X:Cx}{pins:List (Addr×Obj)}{σ : St}{H:Hp}{s:Shared}{e:Value}
end
end L2
set_option Elab.async false
set_option linter.all false
set_option maxRecDepth 100000
namespace L2
open PySem PySem.Spec PyProof.Rows PySem.W PySem.Builtin PySem.Builtin.ObjectAttr PySem.Builtin.Getset_descriptor PySem.Calls
section
variable{prog:Program}{w:World}{A:Around}{E:Value->Shared->Prop}{s:Shared}{K:PySem.W.Frag}{x C:Addr}
structure ExcC(K:PySem.W.Frag)(C:Addr):Prop where
 cl:(clsIn K C).isSome=true
 hb:subIn K (.ref C) (.type "BaseException")=some true
 hga:findIn K (.ref C) "__getattribute__" = some (some (.builtin "BaseException.__getattribute__"))
 hgh:findIn K (.ref C) "__getattr__" = some none
 ha:findIn K (.ref C) "__class__" = some (some (.builtin "object.__class__"))
 hn:specialIn K (.builtin "object.__class__") "__get__" = some (some (.builtin "getset_descriptor.__get__"))
 htk:takesIn K (.builtin "object.__class__")=some true
 hm:mroIn K C (.type "object")=some true
end
section
variable{X:Cx}
end
section
variable{P:Program}{w:World}{K:PySem.W.Frag}{mg:Str->Option Value}{base:Heap}{N:List Str}{qual:Str}{scope:Scope}{f:Addr}{cd:Value}{A:Around}{outer:List PySem.Env}{s₀:Shared}{H₀:Hp}{E:XK}
end
end L2
set_option Elab.async false
set_option linter.all false
set_option maxRecDepth 100000
namespace L2
open PySem PySem.Spec PyProof.Rows PySem.W
def q3l(s:Stmt)(j:Nat):Stmt:=match s with
 | .ClassDef _ _ _ b _ _ _ _ _ _ _=>(b[j]?).getD s
 | _=>s
structure CalleeM(P:Program)(w:World)(K:PySem.W.Frag)(mg:Str->Option Value)(base:Heap)(C:Addr)(m:Str)(ps:List Str)(k:Nat)(sp:Sp):Prop where
 ex:∃f fd,FnOk P w K mg base CX0 k f fd ps sp/\Meth K C m f/\Binds K fd ps []
structure CalleeI(P:Program)(w:World)(K:PySem.W.Frag)(mg:Str->Option Value)(base:Heap)(C:Addr)(ps:List Str)(k:Nat)(sp:Sp):Prop where
 ex:∃f fd,FnOk P w K mg base CX0 k f fd ps sp/\Mk K C f/\Binds K fd ps []
section
variable{X:Cx}{C:Addr}{m x:Str}{ps:List Str}{k j:Nat}{sp:Sp}{o e:Expr}{es:List Expr}{ta:TE}{t:TA}{p apos pos:Pos}{pl:Sem Bool}
theorem q3c(M:CalleeI X.prog X.w X.K X.mg X.base C ps k sp)(hr:Room j X.A)(hk:k+1<=j)(hg:Gl X x)(hm:X.mg x=some (.ref C))(ha:PA X (e::es) t) (hdb:(x == ("__debug__" : Str))=false:=by decide) (hst:z2x (e::es)=true:=by rfl) :
  PE X (.Call (.Name x p) (e::es) [] pos) (zup C sp [] E0 t):=by
 obtain⟨f,fd,F,hM,hb⟩:=M
 have hst':=hst
 rw [z2x,Bool.and_eq_true,Bool.not_eq_true'] at hst'
 exact zyq hM F (hr.mono hk) hg hm hb .nil (fun _ _ _ _ _ _ _ z=>z.elim) ha hdb (z10 hst'.1) (z2w hst'.2)
end
end L2
set_option Elab.async false
set_option linter.all false
set_option maxRecDepth 100000
namespace L2
open PySem PySem.Spec PyProof.Rows PySem.W
section
variable{P:Program}{w:World}{K:PySem.W.Frag}{mg:Str->Option Value}{base:Heap}{k:Nat}{ps fr N:List Str}{D:LamD}{cl:List (Str×Addr)}{f c':Addr}{A:Around}{outer:List PySem.Env}{s:Shared}{H:Hp}{us:List Value}{vs ws:List V}{Q:VK}{E:XK}
end
end L2
set_option Elab.async false
set_option linter.all false
set_option maxRecDepth 100000
namespace L2
open PySem PySem.Spec PyProof.Rows PySem.W
structure RoomH(k:Nat)(A:Around):Prop where
 dp:A.depth+3 * k+5 < recursionLimit
 un:A.units+16 * k+200 < cLine
theorem Room.h{k:Nat}{A:Around}(r:Room k A):RoomH k A:=⟨r.dp,r.un⟩
structure FnOkH(P:Program)(w:World)(K:PySem.W.Frag)(mg:Str->Option Value)(base:Heap)(k:Nat)(f:Addr)(fd:FuncData)(ps:List Str)(sp:Sp):Prop where
 len:∀vs H Q E,sp vs H Q E->vs.length=ps.length
 run:∀(A:Around) (outer:List PySem.Env) (s:Shared) (H:Hp) (args:Args) (us:List Value) (vs:List V) (Q:VK) (E:XK),RoomH k A->Env0 P w K mg base A outer s H->BindsTo s fd args (ps.zip us)->Vals vs us->sp vs H Q E->
  codeAny (model P w) A (.call (.ref f) args) (CR CX0 outer P w H s Q E) s
end L2
set_option Elab.async false
set_option linter.all false
set_option maxRecDepth 100000
namespace L2
open PySem PySem.Spec PyProof.Rows PySem.W
structure CalleeH(P:Program)(w:World)(K:PySem.W.Frag)(mg:Str->Option Value)(base:Heap)(x:Str)(ps:List Str)(k:Nat)(sp:Sp):Prop where
 ex:∃f fd,FnOkH P w K mg base k f fd ps sp/\mg x=some (.ref f)/\PySem.W.keepIn K (.ref f)=true/\Binds K fd ps []
end L2
set_option Elab.async false
set_option linter.all false
set_option maxRecDepth 100000
namespace L2
open PySem PySem.Spec PyProof.Rows PySem.W
end L2
set_option Elab.async false
set_option linter.all false
set_option maxRecDepth 100000
namespace L2
open PySem PySem.Spec PyProof.Rows PySem.W
end L2
set_option Elab.async false
set_option linter.all false
set_option maxRecDepth 100000
namespace L2
open PySem PySem.Spec PyProof.Rows PySem.W
structure CalleeMX(P:Program)(w:World)(K:PySem.W.Frag)(mg:Str->Option Value)(base:Heap)(C:Addr)(m:Str)(ps:List Str)(k:Nat)(sp:Sp):Prop where
 ex:∃f fd,FnOk P w K mg base (CX1 P w) k f fd ps sp/\Meth K C m f/\Binds K fd ps []
structure CalleeIX(P:Program)(w:World)(K:PySem.W.Frag)(mg:Str->Option Value)(base:Heap)(C:Addr)(ps:List Str)(k:Nat)(sp:Sp):Prop where
 ex:∃f fd,FnOk P w K mg base (CX1 P w) k f fd ps sp/\Mk K C f/\Binds K fd ps []
section
variable{X:Cx}{C:Addr}{m x:Str}{ps:List Str}{k j:Nat}{sp:Sp}{o e:Expr}{es:List Expr}{ta:TE}{t:TA}{p apos pos:Pos}{pl:Sem Bool}{E:XK}
end
end L2
set_option Elab.async false
set_option linter.all false
set_option maxRecDepth 100000
namespace L2
open PySem PySem.Spec PyProof.Rows PySem.W
end L2
set_option Elab.async false
set_option linter.all false
set_option maxRecDepth 100000
namespace L2
open PySem PySem.Spec PyProof.Rows PySem.W
section
variable{σ : St}{H:Hp}{Q:VK}{D:Ends}{N B C:St->Hp->Prop}{R:VK}{te ta tb tc:TE}{tA:TA}{t u:TS}{g:TG}{c c':TT}{T:Bool->Hp->Prop}{i j:Nat}{v x y:V}{b:Bool}{K:PySem.W.Frag}{p:Addr}{xs:List V}
end
end L2
set_option Elab.async false
set_option linter.all false
set_option maxRecDepth 100000
namespace L2
open PySem PySem.Spec PyProof.Rows PySem.W
abbrev zsr(d:Addr)(i n ep:Nat):Obj:={cls:=.type "dict_keyiterator",data:=.fields #[.ref d,.int i 0,.int n 0,.int ep 0]}
section
variable{prog:Program}{w:World}{A:Around}{E:Value->Shared->Prop}{s:Shared}{d I:Addr}{es:Array DictEntry}{ep i:Nat}{o:Obj}
set_option maxHeartbeats 4000000 in
theorem zbq{Q:Option Value->Shared->Prop}(hh:A.handled=none)(eI:s.heap.get? I=some (zsr d i es.size ep))(e:s.heap.get? d=some o)(dd:o.data=.dict es ep)
  (q1:∀h' en,es[i]?=some en->Heap.SameBut I s.heap h'->h'.get? I=some (zsr d (i+1) es.size ep)->Q (some en.key) {s with heap:=h'})
  (q2:∀h',es[i]?=none->Heap.ExtBut I s.heap h'->Q none {s with heap:=h'}):wpAny (model prog w) A (pyNext (.ref I)) Q E s:=by
 have hT:s.TypeIs (.ref I) "dict_keyiterator":=⟨_,eI,rfl⟩
 unfold pyNext
 refine wpAny_bind (wpAny_attempt (wpAny_callSpecial?_slot (name:="__next__") hT F.slot_dict_keyiterator_next (wpAny_call_entry F.slot_dict_keyiterator_next hT F.entry_dict_keyiterator_next ?_ (F.args_dict_keyiterator_next_1 _))))
 unfold Builtin.«dict_keyiterator.__next__»
 wp_walk using wpAny_dictEntries e dd,wpAny_dictEpoch e dd
 rw [if_neg (show ¬ ((i:Int) < 0) by omega),show((i:Int)).toNat=i from rfl]
 cases ei:es[i]? with
 | some en=>
  wp_walk
  refine⟨_,rfl,wpAny_pure ?_⟩
  rw [if_neg (show ¬ (Builtin.Dict_items.ownsTuple ((Manifest.find? "dict_keyiterator").elim "dict_keyiterator" fun x=>x.tpName)=true) by decide+kernel),if_neg]
  ·exact q1 _ en ei (Heap.SameBut.update ..) (Heap.get?_update_self _ eI rfl)
  ·decide+kernel
 | none=>
  wp_walk
  rw [raiseNew]
  wp_walk
  refine wpAny_of_eq isSubtype_stop (wpAny_pure ?_)
  exact q2 _ ei (((Heap.SameBut.update ..).extBut.push _).push _)
set_option maxHeartbeats 4000000 in
theorem zkl{Q:Value->Shared->Prop}(lo:(d == sysModules)=false)(e:s.heap.get? d=some o)(x:o.ExactDict)(dd:o.data=.dict es ep)(q:Q (.ref s.heap.objs.size) {s with heap:=s.heap.push (zsr d 0 es.size ep)}):wpAny (model prog w) A (pyIter (.ref d)) Q E s:=by
 have hT:s.TypeIs (.ref d) "dict":=⟨_,e,x.1⟩
 refine wpAny_pyIter_slot hT F.slot_dict_iter (wpAny_call_entry F.slot_dict_iter hT F.entry_dict_iter ?_ (F.args_dict_iter_1 _))
 unfold Builtin.«dict.__iter__»
 wp_walk using wpAny_dictEntries e dd,wpAny_dictEpoch e dd
 rw [x.1,if_neg (by decide)]
 wp_walk using wpAny_dictEntries e dd,wpAny_dictEpoch e dd
 exact⟨_,rfl,"dict_keyiterator",_,⟨_,Heap.get?_push_size _ rfl,rfl⟩,F.slot_dict_keyiterator_next.lookup,q⟩
theorem zpa(hh:A.handled=none)(hne:d≠I):Walks prog w A I [I,d] [I] es.size (fun i v=>∃en,es[i]?=some en/\v=en.key) (fun i h=>h.get? I=some (zsr d i es.size ep)/\∃o,h.get? d=some o/\o.data=.dict es ep) where
 sub:=fun b hb=>by simp at hb; simp[hb]
 frame:=fun _ _ _ st hk=>⟨hk I (by simp) _ st.1,let ⟨o,e,dd⟩:=st.2; ⟨o,hk d (by simp) o e,dd⟩⟩
 item:=fun i s Q E hi st hQ=>by
  obtain⟨eI,o,e,dd⟩:=st
  refine zbq hh eI e dd (fun h' en hen hs' hit'=>?_) (fun h' hn _=>?_)
  ·exact hQ en.key h' s.toks ⟨en,hen,rfl⟩ ⟨hit',o,(hs'.2 d hne).trans e,dd⟩ fun b o hb e=>(hs'.2 b (fun h=>hb (by simp[h]))).trans e
  ·rw [Array.getElem?_eq_getElem hi] at hn
   cases hn
 done:=fun s Q E st hQ=>by
  obtain⟨eI,o,e,dd⟩:=st
  refine zbq hh eI e dd (fun h' en hen _ _=>?_) (fun h' _ he'=>hQ h' s.toks fun b o hb e=>he' b o (fun h=>hb (by simp[h])) e)
  rw [Array.getElem?_eq_none (Nat.le_refl _)] at hen
  cases hen
 self:=fun _ s Q E st hQ=>wpAny_pyIter_keyiter ⟨_,st.1,rfl,rfl⟩ hQ
theorem zur(lo:(d == sysModules)=false):KdlSrc prog w "dict" d d es.size (fun i v=>∃en,es[i]?=some en/\v=en.key) (fun h=>∃o,h.get? d=some o/\o.ExactDict/\o.data=.dict es ep) where
 type:=fun _ ⟨o,e,x,_⟩=>⟨o,e,x.1⟩
 there:=fun _ ⟨o,e,_⟩=>⟨Heap.lt_size e,Heap.lt_size e⟩
 keep:=fun _ _ ⟨o,e,r⟩ hk=>⟨o,hk d (.inl rfl) o e,r⟩
 notList:=by decide
 notTuple:=by decide
 hint:=fun _ _ _ _ ⟨o,e,x,_⟩ hq=>kdl_hint_dict ⟨o,e,x.1⟩ hq
 iter:=fun _ s hh ⟨o,e,x,dd⟩=>⟨_,_,(fun _ _ hq=>zkl lo e x dd hq),zpa (ep:=ep) hh (Nat.ne_of_lt (Heap.lt_size e)),⟨Heap.get?_push_size _ rfl,o,Heap.get?_push_of_some _ e,dd⟩⟩
end
end L2
set_option Elab.async false
set_option linter.all false
set_option maxRecDepth 100000
namespace L2
open PySem PySem.Spec PyProof.Rows PySem.W
def Itd(d:Addr)(o:Obj)(u:HO)(ks:List V):It:=⟨fun i H=>H d=some (.frz o u)/\i < ks.length,fun i H x H'=>H'=H/\ks[i]?=some x,fun i H=>H d=some (.frz o u)/\ks.length<=i⟩
section
variable{X:Cx}{pins:List (Addr×Obj)}{σ : St}{H:Hp}{s:Shared}
theorem Inv.freeze{d:Addr}{o:Obj}{u:HO}(I:Inv X pins σ H s)(e:H d=some u)(ho:s.heap.get? d=some o)(n1:∀xs,u≠.tup xs)(n2:∀x,u≠.own x)(n3:∀o v,u≠.frz o v)(n4:∀ps,u≠.tbl ps):Inv X pins σ (upd H d (.frz o u)) s:=by
 have out:∀{b:Addr} {v:HO},H b=some v->v≠u->(upd H d (.frz o u)) b=some v:=fun {b v} q n=>by rw [z0a (zg0 q e n)]; exact q
 have hok:HOk X.prog X.w (upd H d (.frz o u)) s.heap:=fun a v q=>by
  by_cases ha:a=d
  ·subst ha
   rw [z01] at q
   cases q
   exact⟨ho,(I.hok a u e).stay (fun _ _ _ q=>q) (fun b q=>out q (Ne.symm (n2 _))) fun b xs q=>out q (Ne.symm (n1 _))⟩
  ·rw [z0a ha] at q
   exact(I.hok a v q).stay (fun _ _ _ q=>q) (fun b q=>out q (Ne.symm (n2 _))) fun b xs q=>out q (Ne.symm (n1 _))
 obtain⟨h,gg,dr,tk,os⟩:=s
 refine I.un (h':=h) (t':=tk) ⟨fun b ob q n _ _=>q,fun b ob q n _ _=>⟨ob.slots,q⟩,fun b ob q n _=>?_,fun b ob q _=>⟨ob,q⟩,fun b xs q=>out q (Ne.symm (n1 _)),fun b ob v q=>out q (Ne.symm (n3 _ _)),fun b ps q=>⟨#[],by rw [out q (Ne.symm (n4 _))]; simp⟩⟩ hok
 rw [z0a (Ne.symm (z0h e n))]
 exact n
theorem zqy{P:Program}{w:World}{K:PySem.W.Frag}{tg:Expr}{d it:Addr}{o:Obj}{u:HO}{ks:List V}{es:Array DictEntry}{ep:Nat}(od:o.data=.dict es ep)(hk:Paired (fun(v:V) (en:DictEntry)=>RelV v en.key) ks es.toList):Turn P w K tg (Itd d o u ks) [it] it (fun i h=>h.get? it=some (zsr d i es.size ep)) where
 mem:=by simp
 obj:=fun i h st b hb=>by
  have e:b=it:=by simpa using hb
  subst e
  exact⟨_,st,fun v z=>by cases z⟩
 keep:=fun i h h' st k=>k it (by simp) _ st
 item:=by
  intro X hP hw hK hc i pins s σ H E I hf st hg
  subst hP hw hK
  obtain⟨hd,hi⟩:=hg
  obtain⟨ho,_⟩:=(show ObjOk X.prog X.w H s.heap d (.frz o u) from I.hok d _ hd)
  obtain⟨f0,f1,f2,f3,f4,f5⟩:=hf it (by simp)
  have hl:ks.length=es.size:=by rw [hk.length]; simp
  refine zbq (I.ok.hd hc) st ho od (fun h' en hen sb st'=>?_) (fun h' hn _=>?_)
  ·have I1:Inv X pins σ H {s with heap:=h'}:=I.turned (t':=s.toks) (fun b ob hb e=>(sb.2 b hb).trans e) f0 f1 f3 f4 f5
   obtain⟨v,hv,rv⟩:∃v,ks[i]?=some v/\RelV v en.key:=by
    obtain⟨v,hv⟩:∃v,ks[i]?=some v:=⟨ks[i],List.getElem?_eq_getElem hi⟩
    exact⟨v,hv,(zk5 hk).2 i v en hv (by rw [Array.getElem?_toList]; exact hen)⟩
   exact⟨_,rfl,zw3 (s:={s with heap:=h'}) st' rfl rfl (by decide) ⟨v,H,I1,rv,⟨rfl,hv⟩,st',fun b hb=>(hf b hb).1⟩⟩
  ·rw [Array.getElem?_eq_getElem (by omega)] at hn
   cases hn
 done:=by
  intro X hP hw hK hc i pins s σ H E I hf st hg
  subst hP hw hK
  obtain⟨hd,hi⟩:=hg
  obtain⟨ho,_⟩:=(show ObjOk X.prog X.w H s.heap d (.frz o u) from I.hok d _ hd)
  obtain⟨f0,f1,f2,f3,f4,f5⟩:=hf it (by simp)
  have hl:ks.length=es.size:=by rw [hk.length]; simp
  refine zbq (I.ok.hd hc) st ho od (fun h' en hen sb st'=>?_) (fun h' hn eb=>?_)
  ·rw [Array.getElem?_eq_none (by omega)] at hen
   cases hen
  ·exact⟨rfl,I.turned (t':=s.toks) (fun b o hb e=>eb b o hb e) f0 f1 f3 f4 f5⟩
 self:=fun _ _ _ _ _ st h=>wpAny_pyIter_keyiter ⟨_,st,rfl,rfl⟩ h
def q1y(tl:TE):TI:=fun σ H R=>tl σ H fun x H1=>∃d kvs,x=.ref d/\Rd H1 d (.dK kvs)/\∀o,R (Itd d o (.dK kvs) (kvs.map fun kv=>kV kv.1)) (upd H1 d (.frz o (.dK kvs)))
def zxd(tl:TE):TI:=fun σ H R=>tl σ H fun x H1=>∃d kvs,x=.ref d/\Rd H1 d (.dT kvs)/\∀(o:Obj) (as:List Addr),Paired (fun(kv:List Key×V) (a:Addr)=>H1 a=some (.tup (kv.1.map kV))) kvs as->R (Itd d o (.dT kvs) (as.map V.ref)) (upd H1 d (.frz o (.dT kvs)))
theorem Rd.frozen{d:Addr}{u:HO}{o:Obj}{P:Program}{w:World}(r:Rd H d u)(x:HOk P w H s.heap)(ho:s.heap.get? d=some o):H d=some u\/upd H d (.frz o u)=H:=by
 rcases r with r | ⟨o',r⟩
 ·exact .inl r
 ·obtain⟨e,_⟩:=(show ObjOk P w H s.heap d (.frz o' u) from x d _ r)
  rw [ho] at e
  cases e
  refine .inr (funext fun b=>?_)
  by_cases hb:b=d
  ·rw [hb,z01,r]
  ·rw [z0a hb]
theorem Inv.frozen{d:Addr}{o:Obj}{u:HO}(I:Inv X pins σ H s)(r:Rd H d u)(ho:s.heap.get? d=some o)(n1:∀xs,u≠.tup xs)(n2:∀x,u≠.own x)(n3:∀o v,u≠.frz o v)(n4:∀ps,u≠.tbl ps):Inv X pins σ (upd H d (.frz o u)) s:=by
 rcases r.frozen I.hok ho with e | e
 ·exact I.freeze e ho n1 n2 n3 n4
 ·rw [e]; exact I
theorem zx8{xs:List (List Key×Addr×Value)}{kvs:List (List Key×V)}:∀{kvs:List (List Key×V)} {xs:List (List Key×Addr×Value)},Paired (fun(p:List Key×V) (q:List Key×Addr×Value)=>p.1=q.1/\H q.2.1=some (.tup (p.1.map kV))/\RelV p.2 q.2.2) kvs xs->
  Paired (fun(kv:List Key×V) (a:Addr)=>H a=some (.tup (kv.1.map kV))) kvs (xs.map (·.2.1))/\Paired (fun(v:V) (en:DictEntry)=>RelV v en.key) ((xs.map (·.2.1)).map V.ref) (xs.map (entryOfKey (tupleKind (z34 X.prog X.w))))
 | [],_,.nil=>⟨.nil,.nil⟩
 | _::_,_::_,.cons r t=>let ⟨a,b⟩:=zx8 (xs:=[]) (kvs:=[]) t; ⟨.cons r.2.1 a,.cons rfl b⟩
theorem zv5{tg l:Expr}{tl:TE}(hl:PE X l tl):PI X tg l (zxd tl):=by
 intro pins s σ H R I h
 refine thn (hl pins s σ H _ I h) fun v s1 ⟨x,H1,I1,r1,q1⟩=>?_
 obtain⟨d,kvs,e,hr,q⟩:=q1
 subst e
 cases r1
 obtain⟨hz,lo,xs,rx,o,es,ep,ho,hx,hd,hes,hn⟩:=(show ObjOk X.prog X.w H1 s1.heap d (.dT kvs) from hr.ok I1.hok)
 have I2:=I1.frozen hr ho (by intro xs z; cases z) (by intro xs z; cases z) (by intro xs y z; cases z) (by intro xs z; cases z)
 obtain⟨ka,kb⟩:=zx8 (X:=X) (xs:=[]) (kvs:=[]) rx
 refine zkl lo ho hx hd ?_
 refine⟨s1.heap.objs.size,[s1.heap.objs.size],_,_,_,rfl,I2.kept (t':=s1.toks) fun b o e=>Heap.get?_push_of_some _ e,zqy (o:=o) (u:=.dT kvs) hd (hes ▸ kb),Heap.get?_push_size _ rfl,fun b hb=>?_,q o _ ka⟩
 have e:b=s1.heap.objs.size:=by simpa using hb
 subst e
 exact I1.fpOk (Nat.le_refl _) (I2.hok.fresh (Nat.le_refl _))
end
section
variable{d:Addr}{o:Obj}{u:HO}{ks:List V}{g:TG}{tb:TS}{D:Ends}{σ : St}{H:Hp}{tt:TT}{te:TE}{Q:VK}
theorem ztz(Pv:Nat->List V->St->Hp->Prop)(h0:Pv 0 [] σ H)(hz:ks.length < sizeLine)(hy:∀i ys σ H,Pv i ys σ H->ys.length<=i)(hl:∀i ys σ H,i<=ks.length->Pv i ys σ H->H d=some (.frz o u))
  (hs:∀i ys x σ H,ks[i]?=some x->Pv i ys σ H->g x σ H fun σ2 H2=>tt σ2 H2 fun b H3=>if b=true then te σ2 H3 (fun v H4=>Pv (i+1) (ys++[v]) σ2 H4) else Pv (i+1) ys σ2 H3)
  (hd:∀ys σ H,Pv ks.length ys σ H->∀p,H p=none->Q (.ref p) (upd H p (.lst ys))):zaa (Itd d o u ks) g tt te Q σ H:=by
 refine⟨fun i m ys σ H=>m=ks.length - i/\i<=ks.length/\Pv i ys σ H,⟨ks.length,by simp,Nat.zero_le _,h0⟩,?_⟩
 rintro i m ys σ H ⟨rfl,hi,p⟩
 have q:=hl i ys σ H hi p
 have hyl:=hy i ys σ H p
 by_cases hlt:i < ks.length
 ·refine .inr ⟨⟨q,hlt⟩,by omega,Pv (i+1),fun ys' σ' H' p'=>⟨ks.length - (i+1),by omega,rfl,hlt,p'⟩,fun x H' y=>?_⟩
  obtain⟨e,y⟩:=y
  subst e
  exact hs i ys x σ _ y p
 ·have e:i=ks.length:=by omega
  subst e
  exact .inl ⟨⟨q,Nat.le_refl _⟩,by omega,hd ys σ H p⟩
end
end L2
set_option Elab.async false
set_option linter.all false
set_option maxRecDepth 100000
namespace L2
open PySem PySem.Spec PyProof.Rows PySem.W
theorem zsg:∀a b:List Int,a≠b->ltI a b=true\/ltI b a=true
 | [],[],h=>absurd rfl h
 | [],_::_,_=>.inl rfl
 | _::_,[],_=>.inr rfl
 | x::a,y::b,h=>by
  unfold ltI
  by_cases e:x=y
  ·subst e
   simp only[if_pos]
   exact zsg a b fun z=>h (by rw [z])
  ·rw [if_neg e,if_neg (Ne.symm e)]
   simp only[decide_eq_true_eq]
   omega
theorem zkd:∀{a b c:List Int},ltI a b=true->ltI b c=true->ltI a c=true
 | [],_::_,_::_,_,_=>rfl
 | [],[],_,h,_=>by simp[ltI] at h
 | _,_::_,[],_,h=>by simp[ltI] at h
 | _::_,[],_,h,_=>by simp[ltI] at h
 | x::a,y::b,z::c,h1,h2=>by
  unfold ltI at h1 h2 |-
  by_cases e1:x=y
  ·subst e1
   rw [if_pos rfl] at h1
   by_cases e2:x=z
   ·subst e2
    rw [if_pos rfl] at h2 |-
    exact zkd h1 h2
   ·rw [if_neg e2] at h2 |-
    exact h2
  ·rw [if_neg e1] at h1
   have h1':=of_decide_eq_true h1
   by_cases e2:y=z
   ·subst e2
    rw [if_neg e1]
    exact h1
   ·rw [if_neg e2] at h2
    have h2':=of_decide_eq_true h2
    rw [if_neg (by omega)]
    exact decide_eq_true (by omega)
theorem zol{α : Type}(x:List Int×α):∀z:List (List Int×α),z.Pairwise (fun p q=>ltI p.1 q.1=true)->(∀y∈z,y.1≠x.1)->∃z':List (List Int×α),z'.Perm (x::z)/\z'.Pairwise (fun p q=>ltI p.1 q.1=true)
 | [],_,_=>⟨[x],.refl _,List.pairwise_singleton _ _⟩
 | y::z,h,n=>by
  obtain⟨h1,h2⟩:=List.pairwise_cons.mp h
  rcases zsg x.1 y.1 (Ne.symm (n y (.head _))) with c | c
  ·exact⟨x::y::z,.refl _,List.pairwise_cons.mpr ⟨fun w hw=>by
    rcases List.mem_cons.mp hw with rfl | hw
    ·exact c
    ·exact zkd c (h1 w hw),h⟩⟩
  ·obtain⟨z',p,r⟩:=zol x z h2 fun w hw=>n w (.tail _ hw)
   refine⟨y::z',(p.cons y).trans (.swap ..),List.pairwise_cons.mpr ⟨fun w hw=>?_,r⟩⟩
   rcases List.mem_cons.mp (p.mem_iff.mp hw) with rfl | hw
   ·exact c
   ·exact h1 w hw
theorem zt6{α : Type}:∀l:List (List Int×α),(l.map (·.1)).Nodup->∃z:List (List Int×α),z.Perm l/\z.Pairwise (fun p q=>ltI p.1 q.1=true)
 | [],_=>⟨[],.refl _,.nil⟩
 | x::l,h=>by
  obtain⟨h1,h2⟩:=List.nodup_cons.mp h
  obtain⟨z,p,r⟩:=zt6 l h2
  obtain⟨z',p',r'⟩:=zol x z r fun y hy e=>h1 (List.mem_map.mpr ⟨y,p.mem_iff.mp hy,e⟩)
  exact⟨z',p'.trans (p.cons x),r'⟩
section
variable{prog:Program}{w:World}{A:Around}{E:Value->Shared->Prop}{s:Shared}{d:Addr}{es:Array DictEntry}{ep:Nat}{o:Obj}
theorem zl6{Q:List Value->Shared->Prop}(hh:A.handled=none)(lo:(d == sysModules)=false)(e:s.heap.get? d=some o)(x:o.ExactDict)(dd:o.data=.dict es ep)(hn:es.size<=sizeLine)
  (q:∀(h':Heap) (tk:Nat),s.heap.objs.size<=h'.objs.size->(∀b u,s.heap.get? b=some u->h'.get? b=some u)->Q (es.toList.map (·.key)) {s with heap:=h',toks:=tk}):wpAny (model prog w) A (collect (.ref d)) Q E s:=by
 have ld:=Heap.lt_size e
 unfold collect
 refine wpAny_bind (wpAny_runValue (codeAny_builtin PySem.F.entry_proto_collect ?_))
 rw [Around.under_plainId PySem.F.plain_proto_collect]
 refine wpAny_bind (wpAny_newList (wpAny_pure ⟨plainId_quiet PySem.F.plain_list_iadd _,codeAny_builtin PySem.F.entry_list_iadd ?_⟩))
 rw [Around.under_plainId PySem.F.plain_list_iadd]
 have e0:(s.heap.push (seqObj "list" #[] 0)).get? s.heap.objs.size=some (seqObj "list" #[] 0):=Heap.get?_push_size _ rfl
 show wpAny _ _ (Builtin.List.listExtendWith (.ref s.heap.objs.size) (.ref d) (.ref s.heap.objs.size)) _ _ {s with heap:=s.heap.push (seqObj "list" #[] 0)}
 have fin:∀(v:Result) (s':Shared),(∃(h':Heap) (tk:Nat) (acc:Array Value) (c:Nat),v=.ok (.ret (.ref s.heap.objs.size))/\s' = {s with heap:=h',toks:=tk}/\h'.get? s.heap.objs.size=some {cls:=.type "list",dict:=none,data:=.seq acc c,slots:=#[]}/\Q acc.toList {s with heap:=h',toks:=tk})->
   (match v with | .ok (.ret v)=>wpAny (model prog w) A (match v with | .ref a=>(do match (<- load a).data with | .seq xs _=>pure xs.toList | _=>unsupported "internal:collect") | _=>unsupported "internal:collect") Q E s' | .ok _=>False | .error e=>E e s'):=by
  rintro v s' ⟨h',tk,acc,c,rfl,rfl,hS,hq⟩
  exact wpAny_bind (wpAny_load hS (wpAny_pure hq))
 refine wpAny_mono (kdl_extend (A:=A) (s:={s with heap:=s.heap.push (seqObj "list" #[] 0)})
  (R:=fun v s'=>∃(h':Heap) (tk:Nat) (acc:Array Value) (c:Nat),v=.ok (.ret (.ref s.heap.objs.size))/\s' = {s with heap:=h',toks:=tk}/\h'.get? s.heap.objs.size=some {cls:=.type "list",dict:=none,data:=.seq acc c,slots:=#[]}/\Q acc.toList {s with heap:=h',toks:=tk})
  (zur (ep:=ep) (es:=es) lo) hh ⟨o,Heap.get?_push_of_some _ e,x,dd⟩ s.heap.objs.size (Nat.ne_of_gt ld) (Nat.ne_of_gt ld) (.ref s.heap.objs.size) 0 e0 (fun h' tk acc c hk hS hacc=>⟨h',tk,acc,c,rfl,rfl,hS,?_⟩) hn) (fun f s' z=>?_) (fun e s' z=>fin _ _ z)
 ·have ea:acc.toList=es.toList.map (·.key):=by
   refine List.ext_getElem (by simp[hacc.1]) fun i h1 h2=>?_
   have hi:i < acc.size:=by simpa using h1
   obtain⟨en,h3,h4⟩:=hacc.2 i acc[i] (by simp[hi])
   have hi2:i < es.size:=by simpa using h2
   rw [Array.getElem?_eq_getElem hi2] at h3
   cases h3
   simp[h4]
  rw [ea]
  exact q h' tk (Nat.le_of_lt (Heap.lt_size hS)) (fun b u z=>hk b u (Nat.ne_of_lt (Heap.lt_size z)) (Heap.get?_push_of_some _ z))
 ·cases f with
  | done f=>exact fin _ _ z
  | again c=>exact⟨z.1,codeAny_mono z.2 fun r s2 y=>fin r s2 y⟩
theorem zm2{as:List Addr}{ps:Nat->List Int}{Q:Value->Shared->Prop}(hh:A.handled=none)(lo:(d == sysModules)=false)(e:s.heap.get? d=some o)(x:o.ExactDict)(dd:o.data=.dict es ep)(hp:(es.toList.map (·.key)).Perm (as.map Value.ref))(hk:∀j,j < as.length->IsTupleKey (intKind prog w) s.heap (ps j) (as.getD j 0))
  (hne:∀j,j < as.length->ps j≠[]) (hlt:∀i j,i < as.length->j < as.length->ltI (ps i) (ps j)=decide (i < j)) (hb:as.length<=60)
  (q:∀(h':Heap) (tk:Nat) (l:Addr) (n:Nat),s.heap.objs.size<=l->(∀b u,s.heap.get? b=some u->h'.get? b=some u)->h'.get? l=some (seqObj "list" (as.map Value.ref).toArray n)->
   Q (.ref l) {s with heap:=h',toks:=tk}):wpAny (model prog w) A (call (.builtin "sorted") [.ref d]) Q E s:=by
 have hes:es.size=as.length:=by simpa using hp.length_eq
 refine Calls.call_function_entry kind_sorted plain_sorted entry_sorted (args_sorted1 _) ?_
 unfold Builtin.«sorted»
 refine wpAny_bind (m:=checkCount "sorted" 1 1 _) (wpAny_pure (wpAny_bind (zl6 (by simpa using hh) lo e x dd (zap (by omega)) fun h1 tk1 z1 k1=>?_)))
 have pv1:=hp
 generalize es.toList.map (·.key)=vs at pv1 hp |-
 have er:as.map Value.ref=(List.range as.length).map fun i=>Value.ref (as.getD i 0):=by
  refine List.ext_getElem (by simp) fun i h1 h2=>?_
  simp at h1
  simp[h1]
 obtain⟨rs,pr,ev⟩:=zv6 pv1 _ er
 have hrl:rs.length=as.length:=by simpa using pr.length_eq
 have hvl:vs.length=as.length:=by rw [ev,List.length_map,hrl]
 have hrlt:∀i,i < as.length->rs.getD i 0 < as.length:=fun i hi=>by
  rw [List.getD_eq_getElem?_getD,List.getElem?_eq_getElem (by omega)]
  exact List.mem_range.mp (pr.mem_iff.mp (List.getElem_mem _))
 have hat:∀i,i < as.length->vs.getD i .none=.ref (as.getD (rs.getD i 0) 0):=fun i hi=>by
  have h1:i < rs.length:=by omega
  simp[ev,h1]
 have hinj:∀i j,i < vs.length->j < vs.length->rs.getD i 0=rs.getD j 0->i=j:=fun i j hi hj z=>by
  have nd:rs.Nodup:=pr.nodup_iff.mpr List.nodup_range
  have h1:i < rs.length:=by omega
  have h2:j < rs.length:=by omega
  rw [List.getD_eq_getElem?_getD,List.getD_eq_getElem?_getD,List.getElem?_eq_getElem h1,List.getElem?_eq_getElem h2] at z
  exact(List.getElem_inj nd).mp z
 refine wpAny_bind (wpAny_newList ?_ (zap (by omega)))
 have eL:(h1.push (seqObj "list" vs.toArray 0)).get? h1.objs.size=some (seqObj "list" vs.toArray 0):=Heap.get?_push_size _ rfl
 have keep:∀b u,s.heap.get? b=some u->(h1.push (seqObj "list" vs.toArray 0)).get? b=some u/\b≠h1.objs.size:=fun b u hu=>by
  have lb:=Heap.lt_size (k1 b u hu)
  exact⟨Heap.get?_push_of_some _ (k1 b u hu),Nat.ne_of_lt lb⟩
 refine wpAny_bind (wpAny_holding (wpAny_call_entry slot_list_sort ⟨_,eL,rfl⟩ entry_list_sort (z99 (r:=fun i=>rs.getD i 0) eL (by omega) hinj (fun h2 h' kp=>?_) fun p P1 P2=>⟨_,rfl,?_⟩) (args_list_sort _)))
 ·have hk':∀j,j < as.length->IsTupleKey (intKind prog w) h' (ps j) (as.getD j 0):=fun j hj=>by
   obtain⟨o,its,n,e,r⟩:=hk j hj
   exact⟨o,its,n,kp _ _ (keep _ _ e).2 (keep _ _ e).1,r⟩
  obtain⟨fs,kt,fl,fi⟩:=zqz (prog:=prog) (w:=w) (h:=h') (vs:=vs) fun v hv=>by
   rw [ev] at hv
   obtain⟨j,hj,rfl⟩:=List.mem_map.mp hv
   have hj':=List.mem_range.mp (pr.mem_iff.mp hj)
   exact⟨_,_,rfl,hne j hj',hk' j hj'⟩
  refine⟨tuples' true,fun E Q hQ=>kat_kind (T:=.type "int") kt (by omega) (fun v hv=>?_) rfl hQ,fun i j hi hj E Q hQ=>?_⟩
  ·obtain⟨n,t,rfl⟩:=fi v hv
   exact Looks.of_pure rfl
  ·rw [hat i (by omega),hat j (by omega)]
   refine zzb (hk' _ (hrlt i (by omega))) (hk' _ (hrlt j (by omega))) ?_
   rw [hlt _ _ (hrlt i (by omega)) (hrlt j (by omega))]
   exact hQ
 ·refine wpAny_pure ⟨_,rfl,?_⟩
  have eo:(p.toList.map fun i=>vs.getD i Value.none)=as.map Value.ref:=by
   have e1:(p.toList.map fun i=>vs.getD i Value.none)=(p.toList.map fun i=>rs.getD i 0).map fun i=>Value.ref (as.getD i 0):=by
    rw [List.map_map]
    refine List.map_congr_left fun i hi=>?_
    have:=List.mem_range.mp (P1.pm.mem_iff.mp hi)
    exact hat i (by omega)
   have e2:(p.toList.map fun i=>rs.getD i 0)=List.range as.length:=by
    refine List.Perm.eq_of_pairwise (le:=(· < ·)) (fun x y _ _ a b=>by omega) ?_ List.pairwise_lt_range ?_
    ·rw [List.pairwise_iff_getElem]
     intro i j hi hj hij
     have hj':j < p.size:=by simpa using hj
     have z:=P2 i j hij (by rw [<- P1.sz]; exact hj')
     simpa [rk,Array.getD,hj',Nat.lt_trans hij hj'] using z
    ·have z:=P1.pm.map fun i=>rs.getD i 0
     refine z.trans ?_
     have:((List.range vs.length).map fun i=>rs.getD i 0)=rs:=by
      refine List.ext_getElem (by simp; omega) fun i h1 h2=>?_
      simp[h2]
     rw [this]
     exact pr
   rw [e1,e2,er]
  rw [eo]
  obtain⟨n,en⟩:=sortedHeap_at (out:=(as.map Value.ref).toArray) eL
  refine q _ tk1 h1.objs.size n z1 (fun b u hu=>?_) en
  have lb:=Heap.lt_size (k1 b u hu)
  rw [sortedHeap_old (Nat.ne_of_lt lb) (by rw [size_push']; exact Nat.lt_succ_of_lt lb)]
  exact Heap.get?_push_of_some _ (k1 b u hu)
end
theorem zn0(H:Hp):∀p:List Int,DtA H (p.map V.int) (p.map Dm.int)
 | []=>.nil
 | x::p=>.cons (.int x) (zn0 H p)
theorem q1r{X:Cx}{pins:List (Addr×Obj)}{σ : St}{H:Hp}{s:Shared}(I:Inv X pins σ H s){a:Addr}{p:List Int}(h:H a=some (.tup (p.map V.int))):IsTupleKey (intKind X.prog X.w) s.heap p a:=by
 have:=(zky (ps:=[p]) (vs:=[.ref a]) I (.cons (.tup h (zn0 H p)) .nil)).2.2 0 (show 0 < 1 by decide)
 exact this
def zyg:List V->Hp->VK->Prop:=fun xs H Q=>∃(d:Addr) (kvs:List (List Key×V)) (ps:List (List Int)),xs=[.ref d]/\Rd H d (.dT kvs)/\kvs.map (·.1)=ps.map (·.map Sum.inl)/\(∀p∈ps,p≠[])/\ps.length<=60/\
 ∀(l:Addr) (vs:List V) (ps':List (List Int)),H l=none->ps'.Perm ps->ps'.Pairwise (fun p q=>ltI p q=true)->DtA H vs (ps'.map z4c)->Q (.ref l) (upd H l (.lst vs))
theorem zwn{H:Hp}:∀{kvs:List (List Key×V)} {ys:List (List Key×Addr×Value)} {ps:List (List Int)},Paired (fun(p:List Key×V) (q:List Key×Addr×Value)=>p.1=q.1/\H q.2.1=some (.tup (p.1.map kV))/\RelV p.2 q.2.2) kvs ys->kvs.map (·.1)=ps.map (·.map Sum.inl)->
  ps.length=ys.length/\ys.map (·.1)=ps.map (·.map Sum.inl)/\∀y∈ps.zip (ys.map (·.2.1)),H y.2=some (.tup (y.1.map V.int))
 | [],_,[],.nil,_=>⟨rfl,rfl,fun y h=>absurd h (by simp)⟩
 | [],_,_::_,.nil,h=>by simp at h
 | _::_,_::_,[],.cons _ _,h=>by simp at h
 | kv::kvs,y::ys,p::ps,.cons r t,h=>by
  rw [List.map_cons,List.map_cons] at h
  injection h with h1 h2
  obtain⟨l,e,m⟩:=zwn t h2
  refine⟨by rw [List.length_cons,List.length_cons,l],by rw [List.map_cons,List.map_cons,e,<- r.1,h1],fun x hx=>?_⟩
  rw [List.map_cons,List.zip_cons_cons] at hx
  rcases List.mem_cons.mp hx with rfl | hx
  ·have:=r.2.1
   rw [h1,List.map_map] at this
   exact this
  ·exact m x hx
theorem z8c{X:Cx}(hc:X.calm=true):CallR X (.builtin "sorted") zyg:=by
 intro pins s σ H xs us Q I r h
 obtain⟨d,kvs,ps,rfl,hr,hks,hne,hb,q⟩:=h
 obtain⟨u,rfl,r1⟩:=r.one
 cases r1
 obtain⟨hz,lo,ys,rx,o,es,ep,ho,hx,hd,hes,hn⟩:=(show ObjOk X.prog X.w H s.heap d (.dT kvs) from hr.ok I.hok)
 obtain⟨hl,hk1,hk2⟩:=zwn rx hks
 have hnd:ps.Nodup:=by
  rw [hk1] at hn
  exact(List.pairwise_map.mp hn).imp fun h e=>h (by rw [e])
 have e1:(ps.zip (ys.map (·.2.1))).map (·.1)=ps:=List.map_fst_zip (by rw [List.length_map]; omega)
 have e2:(ps.zip (ys.map (·.2.1))).map (·.2)=ys.map (·.2.1):=List.map_snd_zip (by rw [List.length_map]; omega)
 obtain⟨z,pz,rz⟩:=zt6 (ps.zip (ys.map (·.2.1))) (by rw [e1]; exact hnd)
 have zl:z.length=ps.length:=by rw [pz.length_eq,List.length_zip,List.length_map]; omega
 have R:RisP (z.map (·.1)):=⟨fun p hp=>hne p (by rw [<- e1]; exact(pz.map (·.1)).mem_iff.mp hp),List.pairwise_map.mpr rz,by rw [List.length_map]; omega⟩
 have pv:(es.toList.map (·.key)).Perm ((z.map (·.2)).map Value.ref):=by
  rw [hes,List.map_map,show((fun x:DictEntry=>x.key) ∘ entryOfKey (tupleKind (z34 X.prog X.w)))=(fun y:List Key×Addr×Value=>Value.ref y.2.1) from rfl]
  have:=((pz.map (·.2)).map Value.ref).symm
  rw [e2,List.map_map] at this
  exact this
 have at_:∀{j:Nat} (hj:j < z.length),H z[j].2=some (.tup (z[j].1.map V.int)):=fun hj=>hk2 _ (pz.mem_iff.mp (List.getElem_mem hj))
 refine zm2 (as:=z.map (·.2)) (ps:=fun j=>(z.map (·.1)).getD j []) (I.ok.hd hc) lo ho hx hd pv (fun j hj=>?_) (fun j hj=>?_) (fun i j hi hj=>R.lt (by simpa using hi) (by simpa using hj)) (by rw [List.length_map]; omega) fun h' tk l n hl' k en=>?_
 ·have hj':j < z.length:=by simpa using hj
  have:=q1r I (at_ hj')
  simpa [hj'] using this
 ·have hj':j < z.length:=by simpa using hj
  refine R.1 _ ?_
  rw [List.getD_eq_getElem?_getD,List.getElem?_eq_getElem (by simpa using hj')]
  exact List.getElem_mem _
 ·refine⟨.ref l,_,I.laid (t':=tk) k hl' (show ObjOk X.prog X.w _ _ _ (.lst ((z.map (·.2)).map V.ref)) from⟨?_,(z.map (·.2)).map Value.ref,n,zhr _,by simpa [seqObj] using en⟩),rfl,q l _ (z.map (·.1)) (I.hok.fresh hl') ?_ R.2.1 ?_⟩
  ·rw [List.length_map,List.length_map]
   exact zap (by omega)
  ·have:=pz.map (·.1)
   rw [e1] at this
   exact this
  ·rw [List.map_map,List.map_map]
   exact zjc fun y hy=>.tup (hk2 y (pz.mem_iff.mp hy)) (zn0 H y.1)
end L2
set_option Elab.async false
set_option linter.all false
set_option maxRecDepth 100000
namespace L2
open PySem PySem.Spec PyProof.Rows PySem.W
def FlK(K:PySem.W.Frag)(H:Hp)(x:V)(d:Dm):Prop:=Dt H x d\/∃(p:Addr) (is:List Int),x=.ref p/\d=.tup (is.map Dm.int)/\SqT K H p (is.map V.int)
theorem FlK.of{K:PySem.W.Frag}{H:Hp}{x:V}{d:Dm}(h:Dt H x d):FlK K H x d:=.inl h
section
variable{X:Cx}{pins:List (Addr×Obj)}{σ : St}{H:Hp}{s:Shared}
theorem zhy{h:Heap}:∀{is:List Int} {us:List Value},Vals (is.map V.int) us->∃as,ReadsAll h us (zgw (is.map Dm.int)) as
 | [],_,.nil=>⟨[],by rw [List.map_nil,zgw]; exact .nil⟩
 | i::is,_,.cons r t=>by
  obtain⟨u,rfl⟩:=r
  obtain⟨as,q⟩:=zhy t
  exact⟨[]++as,by rw [List.map_cons,zgw,Dm.dat]; exact .cons (.int i u) q⟩
theorem FlK.reads(I:Inv X pins σ H s){x:V}{d:Dm}{u:Value}(h:FlK X.K H x d)(hs:d.shut=true)(r:RelV x u):∃as,Reads s.heap u d.dat as:=by
 rcases h with h | ⟨p,is,rfl,rfl,h⟩
 ·exact Dt.reads I h hs r
 ·cases r
  obtain⟨its,rv,⟨o,ho,hc,n,hd⟩,_⟩:=I.tuple h
  obtain⟨as,q⟩:=zhy (h:=s.heap) rv
  exact⟨as,by rw [Dm.dat]; exact .tuple ho hc hd (by simpa using q)⟩
def EqK(K:PySem.W.Frag)(H:Hp)(x y:V)(b:Bool):Prop:=∃d e,FlK K H x d/\FlK K H y e/\(d.shut=true/\SeqAt.shaped d.dat=true)/\(e.shut=true/\SeqAt.shaped e.dat=true)/\b=PyData.eqv d.dat e.dat
def q3b(K:PySem.W.Frag):R2:=fun x y H Q=>∃b,EqK K H x y b/\Q (.bl b) H
end
end L2
set_option maxHeartbeats 0
namespace SR
open PySem L2
abbrev CDF(x:Str):Prop:=(x == ("__classdict__" : Str))=false
abbrev DBF(x:Str):Prop:=(x == ("__debug__" : Str))=false
abbrev GLF(s:Stmt)(x:Str):Prop:=(defScope s).names.lookup x=some NameKind.globalImplicit
def top(i:Nat):Stmt:=PySem.Challenge.pw_smallrooms_k34_whole_read_once.main.body.getD i (.Pass ⟨0,0,0,0⟩)
theorem zu7:bootBuiltins "all" = some (.builtin "all"):=by decide+kernel
theorem q06:bootBuiltins "bool" = some (.type "bool"):=by decide+kernel
theorem q05:bootBuiltins "dict" = some (.type "dict"):=by decide+kernel
theorem q2g:bootBuiltins "int" = some (.type "int"):=by decide+kernel
theorem z5q:bootBuiltins "isinstance" = some (.builtin "isinstance"):=by decide+kernel
theorem zp5:bootBuiltins "len" = some (.builtin "len"):=by decide+kernel
theorem zid:bootBuiltins "max" = some (.builtin "max"):=by decide+kernel
theorem zic:bootBuiltins "min" = some (.builtin "min"):=by decide+kernel
theorem zcm:bootBuiltins "sorted" = some (.builtin "sorted"):=by decide+kernel
theorem zf4:bootBuiltins "tuple" = some (.type "tuple"):=by decide+kernel
theorem z5w:CDF "_law_at":=by decide+kernel
theorem zdw:CDF "_law_cell_here":=by decide+kernel
theorem z9m:CDF "_law_deep":=by decide+kernel
theorem z8b:CDF "_law_drawn":=by decide+kernel
theorem zci:CDF "_law_every":=by decide+kernel
theorem zlb:CDF "_law_expr":=by decide+kernel
theorem zch:CDF "_law_found":=by decide+kernel
theorem zb8:CDF "_law_ins":=by decide+kernel
theorem z51:CDF "_law_k":=by decide+kernel
theorem z6l:CDF "_law_left":=by decide+kernel
theorem zak:CDF "_law_longer":=by decide+kernel
theorem zb7:CDF "_law_low":=by decide+kernel
theorem zla:CDF "_law_many":=by decide+kernel
theorem zl9:CDF "_law_name":=by decide+kernel
theorem znq:CDF "_law_one":=by decide+kernel
theorem z9l:CDF "_law_program":=by decide+kernel
theorem zb6:CDF "_law_row":=by decide+kernel
theorem ze7:CDF "_law_rows":=by decide+kernel
theorem z0l:CDF "_law_script":=by decide+kernel
theorem zl8:CDF "_law_turn":=by decide+kernel
theorem zl7:CDF "_law_word":=by decide+kernel
theorem zjn:CDF "_law_worth":=by decide+kernel
theorem zaj:CDF "_law_worths":=by decide+kernel
theorem zwl:CDF "above":=by decide+kernel
theorem q2e:CDF "at":=by decide+kernel
theorem zwk:CDF "below":=by decide+kernel
theorem zp4:CDF "block":=by decide+kernel
theorem z4u:CDF "book":=by decide+kernel
theorem zu5:CDF "can_be":=by decide+kernel
theorem z28:CDF "deed":=by decide+kernel
theorem zu4:CDF "done":=by decide+kernel
theorem zxo:CDF "end":=by decide+kernel
theorem znp:CDF "ends":=by decide+kernel
theorem zcg:CDF "had":=by decide+kernel
theorem zxn:CDF "has":=by decide+kernel
theorem z6k:CDF "heads":=by decide+kernel
theorem zjm:CDF "high":=by decide+kernel
theorem zxm:CDF "ins":=by decide+kernel
theorem zu3:CDF "is_row":=by decide+kernel
theorem zqo:CDF "is_sure":=by decide+kernel
theorem zp3:CDF "low":=by decide+kernel
theorem zai:CDF "low_or_high":=by decide+kernel
theorem q03:CDF "many":=by decide+kernel
theorem q02:CDF "name":=by decide+kernel
theorem z26:CDF "names":=by decide+kernel
theorem zp2:CDF "notes":=by decide+kernel
theorem z1s:CDF "one":=by decide+kernel
theorem z0q:CDF "other":=by decide+kernel
theorem zjl:CDF "paper":=by decide+kernel
theorem z0u:CDF "path":=by decide+kernel
theorem z3z:CDF "program":=by decide+kernel
theorem z5v:CDF "refusal":=by decide+kernel
theorem zp1:CDF "row":=by decide+kernel
theorem zno:CDF "rows":=by decide+kernel
theorem znn:CDF "self":=by decide+kernel
theorem z1m:CDF "settle":=by decide+kernel
theorem zp0:CDF "shelf":=by decide+kernel
theorem zdv:CDF "stretch":=by decide+kernel
theorem z3m:CDF "term":=by decide+kernel
theorem z3g:CDF "thing":=by decide+kernel
theorem z3e:CDF "walk":=by decide+kernel
theorem zjk:CDF "wants":=by decide+kernel
theorem z4b:CDF "word":=by decide+kernel
theorem z6j:CDF "worth":=by decide+kernel
theorem zcf:CDF "worths":=by decide+kernel
theorem znk:DBF "WIDE":=by decide+kernel
theorem zzz:DBF "Walk":=by decide+kernel
theorem z5t:DBF "_law_at":=by decide+kernel
theorem zl4:DBF "_law_cell":=by decide+kernel
theorem zdu:DBF "_law_cell_here":=by decide+kernel
theorem z9k:DBF "_law_deep":=by decide+kernel
theorem z87:DBF "_law_drawn":=by decide+kernel
theorem zca:DBF "_law_every":=by decide+kernel
theorem zl3:DBF "_law_expr":=by decide+kernel
theorem zgv:DBF "_law_for_one":=by decide+kernel
theorem zc9:DBF "_law_found":=by decide+kernel
theorem zb5:DBF "_law_ins":=by decide+kernel
theorem z50:DBF "_law_k":=by decide+kernel
theorem z6i:DBF "_law_left":=by decide+kernel
theorem zah:DBF "_law_longer":=by decide+kernel
theorem zb4:DBF "_law_low":=by decide+kernel
theorem zl2:DBF "_law_many":=by decide+kernel
theorem zl1:DBF "_law_name":=by decide+kernel
theorem z9j:DBF "_law_once":=by decide+kernel
theorem znj:DBF "_law_one":=by decide+kernel
theorem z3x:DBF "_law_pick":=by decide+kernel
theorem z9i:DBF "_law_program":=by decide+kernel
theorem zb3:DBF "_law_row":=by decide+kernel
theorem ze6:DBF "_law_rows":=by decide+kernel
theorem z0k:DBF "_law_script":=by decide+kernel
theorem zl0:DBF "_law_turn":=by decide+kernel
theorem zkz:DBF "_law_word":=by decide+kernel
theorem zji:DBF "_law_worth":=by decide+kernel
theorem zag:DBF "_law_worths":=by decide+kernel
theorem zwh:DBF "above":=by decide+kernel
theorem zts:DBF "all":=by decide+kernel
theorem zc8:DBF "are_rising_rows":=by decide+kernel
theorem q2b:DBF "at":=by decide+kernel
theorem zwg:DBF "below":=by decide+kernel
theorem zdt:DBF "between":=by decide+kernel
theorem zov:DBF "block":=by decide+kernel
theorem z4t:DBF "book":=by decide+kernel
theorem zia:DBF "book_of":=by decide+kernel
theorem zzy:DBF "bool":=by decide+kernel
theorem ztr:DBF "can_be":=by decide+kernel
theorem z27:DBF "deed":=by decide+kernel
theorem zzx:DBF "dict":=by decide+kernel
theorem z86:DBF "do_block":=by decide+kernel
theorem zqm:DBF "do_deed":=by decide+kernel
theorem zwf:DBF "do_if":=by decide+kernel
theorem ztq:DBF "do_set":=by decide+kernel
theorem zni:DBF "do_while":=by decide+kernel
theorem ztp:DBF "done":=by decide+kernel
theorem zxl:DBF "end":=by decide+kernel
theorem znh:DBF "ends":=by decide+kernel
theorem zng:DBF "go_block":=by decide+kernel
theorem zql:DBF "go_deed":=by decide+kernel
theorem zwe:DBF "go_if":=by decide+kernel
theorem zto:DBF "go_set":=by decide+kernel
theorem znf:DBF "go_while":=by decide+kernel
theorem zc7:DBF "had":=by decide+kernel
theorem zxk:DBF "has":=by decide+kernel
theorem z6h:DBF "heads":=by decide+kernel
theorem zne:DBF "heads_of":=by decide+kernel
theorem zjh:DBF "high":=by decide+kernel
theorem zxj:DBF "ins":=by decide+kernel
theorem q2a:DBF "int":=by decide+kernel
theorem zds:DBF "is_book_within":=by decide+kernel
theorem zqk:DBF "is_held":=by decide+kernel
theorem zgu:DBF "is_paper_row":=by decide+kernel
theorem ztn:DBF "is_row":=by decide+kernel
theorem zqj:DBF "is_sure":=by decide+kernel
theorem zhp:DBF "is_tuple_of":=by decide+kernel
theorem znd:DBF "is_whole":=by decide+kernel
theorem zes:DBF "is_whole_from":=by decide+kernel
theorem z5n:DBF "isinstance":=by decide+kernel
theorem ztm:DBF "joined":=by decide+kernel
theorem zou:DBF "len":=by decide+kernel
theorem zot:DBF "low":=by decide+kernel
theorem zaf:DBF "low_or_high":=by decide+kernel
theorem zzw:DBF "many":=by decide+kernel
theorem zi9:DBF "max":=by decide+kernel
theorem zxi:DBF "met":=by decide+kernel
theorem zi8:DBF "min":=by decide+kernel
theorem zzv:DBF "name":=by decide+kernel
theorem z25:DBF "names":=by decide+kernel
theorem zdr:DBF "names_at_first":=by decide+kernel
theorem zjg:DBF "noted":=by decide+kernel
theorem zos:DBF "notes":=by decide+kernel
theorem znc:DBF "notes_by":=by decide+kernel
theorem z1r:DBF "one":=by decide+kernel
theorem z0p:DBF "other":=by decide+kernel
theorem zjf:DBF "paper":=by decide+kernel
theorem z0t:DBF "path":=by decide+kernel
theorem z3w:DBF "program":=by decide+kernel
theorem z9h:DBF "reckon":=by decide+kernel
theorem z5s:DBF "refusal":=by decide+kernel
theorem zor:DBF "row":=by decide+kernel
theorem znb:DBF "rows":=by decide+kernel
theorem ztl:DBF "run_by":=by decide+kernel
theorem zna:DBF "self":=by decide+kernel
theorem z1l:DBF "settle":=by decide+kernel
theorem zoq:DBF "shelf":=by decide+kernel
theorem zn9:DBF "show":=by decide+kernel
theorem zwd:DBF "shown":=by decide+kernel
theorem zc6:DBF "sorted":=by decide+kernel
theorem zdq:DBF "stretch":=by decide+kernel
theorem zje:DBF "stretch_of":=by decide+kernel
theorem z4a:DBF "stretch_of_ends":=by decide+kernel
theorem zc5:DBF "stretch_of_same":=by decide+kernel
theorem z3l:DBF "term":=by decide+kernel
theorem z3f:DBF "thing":=by decide+kernel
theorem ztk:DBF "traced":=by decide+kernel
theorem zf2:DBF "tuple":=by decide+kernel
theorem z3d:DBF "walk":=by decide+kernel
theorem zer:DBF "walk_by_paper":=by decide+kernel
theorem ztj:DBF "walked":=by decide+kernel
theorem zjd:DBF "wants":=by decide+kernel
theorem z49:DBF "word":=by decide+kernel
theorem z6g:DBF "worth":=by decide+kernel
theorem zb2:DBF "worth_of":=by decide+kernel
theorem zc4:DBF "worths":=by decide+kernel
theorem zsd:("all" : Str)≠"__name__":=by decide+kernel
theorem zz9:("bool" : Str)≠"__name__":=by decide+kernel
theorem zz8:("dict" : Str)≠"__name__":=by decide+kernel
theorem q1j:("int" : Str)≠"__name__":=by decide+kernel
theorem z5l:("isinstance" : Str)≠"__name__":=by decide+kernel
theorem zoe:("len" : Str)≠"__name__":=by decide+kernel
theorem zi3:("max" : Str)≠"__name__":=by decide+kernel
theorem zi2:("min" : Str)≠"__name__":=by decide+kernel
theorem zbp:("sorted" : Str)≠"__name__":=by decide+kernel
theorem zf1:("tuple" : Str)≠"__name__":=by decide+kernel
abbrev z2o:Stmt:=top 6
theorem zm8:FnScope ["thing"] ["thing"] (defScope z2o):=⟨rfl,rfl,rfl,by decide+kernel,rfl,by decide+kernel,by decide+kernel⟩
theorem zen:GLF z2o "bool":=by decide+kernel
theorem zgp:GLF z2o "int":=by decide+kernel
theorem z4i:GLF z2o "isinstance":=by decide+kernel
theorem z6d:Vis (defScope z2o) "thing":=Or.inl (by decide+kernel)
abbrev z0z:Stmt:=top 7
theorem zec:FnScope ["thing","low","high"] ["thing","low","high"] (defScope z0z):=⟨rfl,rfl,rfl,by decide+kernel,rfl,by decide+kernel,by decide+kernel⟩
theorem z70:GLF z0z "is_whole":=by decide+kernel
theorem z8m:Vis (defScope z0z) "high":=Or.inl (by decide+kernel)
theorem z8y:Vis (defScope z0z) "low":=Or.inl (by decide+kernel)
theorem z2s:Vis (defScope z0z) "thing":=Or.inl (by decide+kernel)
abbrev z17:Stmt:=top 8
theorem zhb:FnScope ["thing","many"] ["thing","many"] (defScope z17):=⟨rfl,rfl,rfl,by decide+kernel,rfl,by decide+kernel,by decide+kernel⟩
theorem z71:GLF z17 "isinstance":=by decide+kernel
theorem zc0:GLF z17 "len":=by decide+kernel
theorem za8:GLF z17 "tuple":=by decide+kernel
theorem z9z:Vis (defScope z17) "many":=Or.inl (by decide+kernel)
theorem z4x:Vis (defScope z17) "thing":=Or.inl (by decide+kernel)
abbrev z0o:Stmt:=top 10
theorem zbk:FnScope ["thing","is_row"] ["thing","is_row"] (defScope z0o):=⟨rfl,rfl,rfl,by decide+kernel,rfl,by decide+kernel,by decide+kernel⟩
theorem z4j:GLF z0o "all":=by decide+kernel
theorem z5e:GLF z0o "isinstance":=by decide+kernel
theorem z7t:GLF z0o "tuple":=by decide+kernel
theorem z8u:GLF z0o "zip":=by decide+kernel
theorem z1i:Vis (defScope z0o) "thing":=Or.inl (by decide+kernel)
abbrev z2c:Stmt:=top 12
theorem sc_traced:FnScope ["program","worths","rows"] ["program","worths"] (defScope z2c):=⟨rfl,rfl,rfl,by decide+kernel,rfl,by decide+kernel,by decide+kernel⟩
theorem zet:(defScope z2c).names.lookup ("rows" : Str)=some NameKind.cell:=by decide+kernel
theorem zel:GLF z2c "run_by":=by decide+kernel
theorem zg9:Loc (defScope z2c) "rows":=Or.inr (by decide+kernel)
theorem zb9:Vis (defScope z2c) "program":=Or.inl (by decide+kernel)
theorem zf7:Vis (defScope z2c) "rows":=Or.inr <| Or.inl (by decide+kernel)
theorem zco:Vis (defScope z2c) "worths":=Or.inl (by decide+kernel)
abbrev z23:Stmt:=top 13
theorem sc_run_by:FnScope ["program","worths","settle","names","refusal"] ["program","worths","settle"] (defScope z23):=⟨rfl,rfl,rfl,by decide+kernel,rfl,by decide+kernel,by decide+kernel⟩
theorem zbw:GLF z23 "do_block":=by decide+kernel
theorem z7o:GLF z23 "names_at_first":=by decide+kernel
theorem zem:GLF z23 "sorted":=by decide+kernel
theorem zgo:GLF z23 "tuple":=by decide+kernel
theorem zef:Loc (defScope z23) "names":=Or.inl (by decide+kernel)
theorem zbr:Loc (defScope z23) "refusal":=Or.inl (by decide+kernel)
theorem z8e:Vis (defScope z23) "names":=Or.inl (by decide+kernel)
theorem z6c:Vis (defScope z23) "program":=Or.inl (by decide+kernel)
theorem z6b:Vis (defScope z23) "refusal":=Or.inl (by decide+kernel)
theorem zcr:Vis (defScope z23) "settle":=Or.inl (by decide+kernel)
theorem zcq:Vis (defScope z23) "worths":=Or.inl (by decide+kernel)
abbrev z39:Stmt:=top 14
theorem zpm:FnScope ["worth","path","rows"] ["worth","path","rows"] (defScope z39):=⟨rfl,rfl,rfl,by decide+kernel,rfl,by decide+kernel,by decide+kernel⟩
theorem z9a:GLF z39 "WIDE":=by decide+kernel
theorem z52:Vis (defScope z39) "path":=Or.inl (by decide+kernel)
theorem ze9:Vis (defScope z39) "rows":=Or.inl (by decide+kernel)
theorem z2k:Vis (defScope z39) "worth":=Or.inl (by decide+kernel)
abbrev z0c:Stmt:=top 15
theorem sc_names_at_first:FnScope ["ins","worths","names","row","worth"] ["ins","worths"] (defScope z0c):=⟨rfl,rfl,rfl,by decide+kernel,rfl,by decide+kernel,by decide+kernel⟩
theorem z5d:GLF z0c "is_tuple_of":=by decide+kernel
theorem z4s:GLF z0c "is_whole_from":=by decide+kernel
theorem z9c:GLF z0c "len":=by decide+kernel
theorem z9b:GLF z0c "zip":=by decide+kernel
theorem z7j:Loc (defScope z0c) "names":=Or.inl (by decide+kernel)
theorem z8o:Loc (defScope z0c) "row":=Or.inl (by decide+kernel)
theorem z7i:Loc (defScope z0c) "worth":=Or.inl (by decide+kernel)
theorem z4f:Vis (defScope z0c) "ins":=Or.inl (by decide+kernel)
theorem z3u:Vis (defScope z0c) "names":=Or.inl (by decide+kernel)
theorem z32:Vis (defScope z0c) "row":=Or.inl (by decide+kernel)
theorem z3t:Vis (defScope z0c) "worth":=Or.inl (by decide+kernel)
theorem z3n:Vis (defScope z0c) "worths":=Or.inl (by decide+kernel)
abbrev z0x:Stmt:=top 16
theorem sc_do_block:FnScope ["block","path","names","settle","at","deed","refusal"] ["block","path","names","settle"] (defScope z0x):=⟨rfl,rfl,rfl,by decide+kernel,rfl,by decide+kernel,by decide+kernel⟩
theorem zaz:GLF z0x "do_deed":=by decide+kernel
theorem z9g:GLF z0x "enumerate":=by decide+kernel
theorem zgc:Loc (defScope z0x) "at":=Or.inl (by decide+kernel)
theorem zdg:Loc (defScope z0x) "deed":=Or.inl (by decide+kernel)
theorem za3:Loc (defScope z0x) "refusal":=Or.inl (by decide+kernel)
theorem zfe:Vis (defScope z0x) "at":=Or.inl (by decide+kernel)
theorem zbf:Vis (defScope z0x) "block":=Or.inl (by decide+kernel)
theorem zcz:Vis (defScope z0x) "deed":=Or.inl (by decide+kernel)
theorem zbe:Vis (defScope z0x) "names":=Or.inl (by decide+kernel)
theorem zcy:Vis (defScope z0x) "path":=Or.inl (by decide+kernel)
theorem z5h:Vis (defScope z0x) "refusal":=Or.inl (by decide+kernel)
theorem zam:Vis (defScope z0x) "settle":=Or.inl (by decide+kernel)
abbrev z21:Stmt:=top 17
theorem zpp:FnScope ["deed","path","names","settle"] ["deed","path","names","settle"] (defScope z21):=⟨rfl,rfl,rfl,by decide+kernel,rfl,by decide+kernel,by decide+kernel⟩
theorem zeq:GLF z21 "do_if":=by decide+kernel
theorem zdn:GLF z21 "do_set":=by decide+kernel
theorem zay:GLF z21 "do_while":=by decide+kernel
theorem z2z:Vis (defScope z21) "deed":=Or.inl (by decide+kernel)
theorem z4o:Vis (defScope z21) "names":=Or.inl (by decide+kernel)
theorem z59:Vis (defScope z21) "path":=Or.inl (by decide+kernel)
theorem z44:Vis (defScope z21) "settle":=Or.inl (by decide+kernel)
abbrev z2t:Stmt:=top 18
theorem sc_do_set:FnScope ["deed","path","names","settle","had"] ["deed","path","names","settle"] (defScope z2t):=⟨rfl,rfl,rfl,by decide+kernel,rfl,by decide+kernel,by decide+kernel⟩
theorem zep:GLF z2t "reckon":=by decide+kernel
theorem zhj:Loc (defScope z2t) "had":=Or.inl (by decide+kernel)
theorem z91:Vis (defScope z2t) "deed":=Or.inl (by decide+kernel)
theorem z6r:Vis (defScope z2t) "had":=Or.inl (by decide+kernel)
theorem z8f:Vis (defScope z2t) "names":=Or.inl (by decide+kernel)
theorem zfd:Vis (defScope z2t) "path":=Or.inl (by decide+kernel)
theorem zcx:Vis (defScope z2t) "settle":=Or.inl (by decide+kernel)
abbrev z3k:Stmt:=top 19
theorem sc_do_if:FnScope ["deed","path","names","settle","had"] ["deed","path","names","settle"] (defScope z3k):=⟨rfl,rfl,rfl,by decide+kernel,rfl,by decide+kernel,by decide+kernel⟩
theorem z7s:GLF z3k "do_block":=by decide+kernel
theorem zgq:GLF z3k "reckon":=by decide+kernel
theorem zix:Loc (defScope z3k) "had":=Or.inl (by decide+kernel)
theorem z6t:Vis (defScope z3k) "deed":=Or.inl (by decide+kernel)
theorem z7z:Vis (defScope z3k) "had":=Or.inl (by decide+kernel)
theorem z61:Vis (defScope z3k) "names":=Or.inl (by decide+kernel)
theorem z6s:Vis (defScope z3k) "path":=Or.inl (by decide+kernel)
theorem z58:Vis (defScope z3k) "settle":=Or.inl (by decide+kernel)
abbrev z0w:Stmt:=top 20
theorem sc_do_while:FnScope ["deed","path","names","settle","done","had","refusal"] ["deed","path","names","settle"] (defScope z0w):=⟨rfl,rfl,rfl,by decide+kernel,rfl,by decide+kernel,by decide+kernel⟩
theorem za9:GLF z0w "do_block":=by decide+kernel
theorem zc1:GLF z0w "reckon":=by decide+kernel
theorem z7m:Loc (defScope z0w) "done":=Or.inl (by decide+kernel)
theorem zeh:Loc (defScope z0w) "had":=Or.inl (by decide+kernel)
theorem za2:Loc (defScope z0w) "refusal":=Or.inl (by decide+kernel)
theorem z4n:Vis (defScope z0w) "deed":=Or.inl (by decide+kernel)
theorem z75:Vis (defScope z0w) "done":=Or.inl (by decide+kernel)
theorem z57:Vis (defScope z0w) "had":=Or.inl (by decide+kernel)
theorem z6f:Vis (defScope z0w) "names":=Or.inl (by decide+kernel)
theorem z4m:Vis (defScope z0w) "path":=Or.inl (by decide+kernel)
theorem z5g:Vis (defScope z0w) "refusal":=Or.inl (by decide+kernel)
theorem z60:Vis (defScope z0w) "settle":=Or.inl (by decide+kernel)
abbrev z24:Stmt:=top 21
theorem sc_reckon:FnScope ["term","path","names","settle","one","other"] ["term","path","names","settle"] (defScope z24):=⟨rfl,rfl,rfl,by decide+kernel,rfl,by decide+kernel,by decide+kernel⟩
theorem z8j:GLF z24 "reckon":=by decide+kernel
theorem zbx:GLF z24 "worth_of":=by decide+kernel
theorem zhg:Loc (defScope z24) "one":=Or.inl (by decide+kernel)
theorem zeg:Loc (defScope z24) "other":=Or.inl (by decide+kernel)
theorem z53:Vis (defScope z24) "names":=Or.inl (by decide+kernel)
theorem z6o:Vis (defScope z24) "one":=Or.inl (by decide+kernel)
theorem z3q:Vis (defScope z24) "other":=Or.inl (by decide+kernel)
theorem z2l:Vis (defScope z24) "path":=Or.inl (by decide+kernel)
theorem z1w:Vis (defScope z24) "settle":=Or.inl (by decide+kernel)
theorem z1j:Vis (defScope z24) "term":=Or.inl (by decide+kernel)
abbrev z29:Stmt:=top 22
theorem zm6:FnScope ["word","one","other"] ["word","one","other"] (defScope z29):=⟨rfl,rfl,rfl,by decide+kernel,rfl,by decide+kernel,by decide+kernel⟩
theorem zgm:GLF z29 "max":=by decide+kernel
theorem zgl:GLF z29 "min":=by decide+kernel
theorem z1e:Vis (defScope z29) "one":=Or.inl (by decide+kernel)
theorem z12:Vis (defScope z29) "other":=Or.inl (by decide+kernel)
theorem z1f:Vis (defScope z29) "word":=Or.inl (by decide+kernel)
abbrev z46:Stmt:=top 24
theorem zrd:FnScope ["one","other"] ["one","other"] (defScope z46):=⟨rfl,rfl,rfl,by decide+kernel,rfl,by decide+kernel,by decide+kernel⟩
theorem zj6:GLF z46 "max":=by decide+kernel
theorem zj5:GLF z46 "min":=by decide+kernel
theorem z4w:Vis (defScope z46) "one":=Or.inl (by decide+kernel)
theorem z3r:Vis (defScope z46) "other":=Or.inl (by decide+kernel)
abbrev zed:Stmt:=top 25
theorem q0x:FnScope ["one","other"] ["one","other"] (defScope zed):=⟨rfl,rfl,rfl,by decide+kernel,rfl,by decide+kernel,by decide+kernel⟩
theorem zhl:GLF zed "between":=by decide+kernel
theorem zqd:GLF zed "max":=by decide+kernel
theorem zqc:GLF zed "min":=by decide+kernel
theorem zal:Vis (defScope zed) "one":=Or.inl (by decide+kernel)
theorem z7y:Vis (defScope zed) "other":=Or.inl (by decide+kernel)
abbrev zy8:Stmt:=top 26
abbrev z47:Stmt:=top 27
theorem zpq:FnScope ["low","high"] ["low","high"] (defScope z47):=⟨rfl,rfl,rfl,by decide+kernel,rfl,by decide+kernel,by decide+kernel⟩
theorem z8h:Vis (defScope z47) "high":=Or.inl (by decide+kernel)
theorem z92:Vis (defScope z47) "low":=Or.inl (by decide+kernel)
abbrev z0n:Stmt:=top 28
theorem sc_stretch_of:FnScope ["word","one","other","below","above"] ["word","one","other"] (defScope z0n):=⟨rfl,rfl,rfl,by decide+kernel,rfl,by decide+kernel,by decide+kernel⟩
theorem z4y:GLF z0n "between":=by decide+kernel
theorem za4:GLF z0n "joined":=by decide+kernel
theorem zdk:GLF z0n "max":=by decide+kernel
theorem zdj:GLF z0n "min":=by decide+kernel
theorem z1o:GLF z0n "stretch_of_ends":=by decide+kernel
theorem z5c:GLF z0n "stretch_of_same":=by decide+kernel
theorem za1:Loc (defScope z0n) "above":=Or.inl (by decide+kernel)
theorem za0:Loc (defScope z0n) "below":=Or.inl (by decide+kernel)
theorem z9x:Vis (defScope z0n) "above":=Or.inl (by decide+kernel)
theorem z9w:Vis (defScope z0n) "below":=Or.inl (by decide+kernel)
theorem z36:Vis (defScope z0n) "one":=Or.inl (by decide+kernel)
theorem z11:Vis (defScope z0n) "other":=Or.inl (by decide+kernel)
theorem z1y:Vis (defScope z0n) "word":=Or.inl (by decide+kernel)
abbrev z0i:Stmt:=top 29
theorem sc_stretch_of_same:FnScope ["one","other","is_sure","can_be"] ["one","other"] (defScope z0i):=⟨rfl,rfl,rfl,by decide+kernel,rfl,by decide+kernel,by decide+kernel⟩
theorem z8r:GLF z0i "met":=by decide+kernel
theorem z68:Loc (defScope z0i) "can_be":=Or.inl (by decide+kernel)
theorem z63:Loc (defScope z0i) "is_sure":=Or.inl (by decide+kernel)
theorem z67:Vis (defScope z0i) "can_be":=Or.inl (by decide+kernel)
theorem z5x:Vis (defScope z0i) "is_sure":=Or.inl (by decide+kernel)
theorem z1b:Vis (defScope z0i) "one":=Or.inl (by decide+kernel)
theorem z2g:Vis (defScope z0i) "other":=Or.inl (by decide+kernel)
abbrev z0m:Stmt:=top 30
theorem sc_stretch_of_ends:FnScope ["word","one","other","ends"] ["word","one","other"] (defScope z0m):=⟨rfl,rfl,rfl,by decide+kernel,rfl,by decide+kernel,by decide+kernel⟩
theorem z8t:GLF z0m "max":=by decide+kernel
theorem z8s:GLF z0m "min":=by decide+kernel
theorem z7h:Loc (defScope z0m) "ends":=Or.inl (by decide+kernel)
theorem z2j:Vis (defScope z0m) "ends":=Or.inl (by decide+kernel)
theorem z2p:Vis (defScope z0m) "one":=Or.inl (by decide+kernel)
theorem z6n:Vis (defScope z0m) "other":=Or.inr <| Or.inl (by decide+kernel)
abbrev zre:Stmt:=top 32
abbrev q2s:Stmt:=top 33
abbrev zpr:Stmt:=top 34
abbrev zy6:Stmt:=top 35
abbrev zud:Stmt:=top 36
abbrev zuv:Stmt:=top 37
abbrev zrf:Stmt:=top 38
abbrev zue:Stmt:=top 39
abbrev q0y:Stmt:=top 40
abbrev z3b:Stmt:=q3l (top 43) 0
theorem zk0:FnScope ["self","heads"] ["self","heads"] (defScope z3b):=⟨rfl,rfl,rfl,by decide+kernel,rfl,by decide+kernel,by decide+kernel⟩
theorem zan:Vis (defScope z3b) "heads":=Or.inl (by decide+kernel)
theorem z45:Vis (defScope z3b) "self":=Or.inl (by decide+kernel)
abbrev z4p:Stmt:=top 44
theorem sc_shown:FnScope ["program","paper","notes"] ["program","paper"] (defScope z4p):=⟨rfl,rfl,rfl,by decide+kernel,rfl,by decide+kernel,by decide+kernel⟩
theorem zdl:GLF z4p "notes_by":=by decide+kernel
theorem zgn:GLF z4p "sorted":=by decide+kernel
theorem zga:Loc (defScope z4p) "notes":=Or.inr (by decide+kernel)
theorem zf9:Vis (defScope z4p) "notes":=Or.inr <| Or.inl (by decide+kernel)
theorem zf8:Vis (defScope z4p) "paper":=Or.inl (by decide+kernel)
theorem zcp:Vis (defScope z4p) "program":=Or.inl (by decide+kernel)
abbrev z2a:Stmt:=top 45
theorem sc_notes_by:FnScope ["program","paper","walk"] ["program","paper"] (defScope z2a):=⟨rfl,rfl,rfl,by decide+kernel,rfl,by decide+kernel,by decide+kernel⟩
theorem z6z:GLF z2a "walk_by_paper":=by decide+kernel
theorem zdb:Loc (defScope z2a) "walk":=Or.inl (by decide+kernel)
theorem zba:Vis (defScope z2a) "paper":=Or.inl (by decide+kernel)
theorem z9y:Vis (defScope z2a) "program":=Or.inl (by decide+kernel)
theorem z72:Vis (defScope z2a) "walk":=Or.inl (by decide+kernel)
abbrev z0e:Stmt:=top 46
theorem sc_walk_by_paper:FnScope ["program","thing","heads","walk"] ["program","thing"] (defScope z0e):=⟨rfl,rfl,rfl,by decide+kernel,rfl,by decide+kernel,by decide+kernel⟩
theorem z4d:GLF z0e "are_rising_rows":=by decide+kernel
theorem z6y:GLF z0e "heads_of":=by decide+kernel
theorem z7n:GLF z0e "is_held":=by decide+kernel
theorem z5b:GLF z0e "is_paper_row":=by decide+kernel
theorem z84:GLF z0e "walked":=by decide+kernel
theorem z82:Loc (defScope z0e) "heads":=Or.inl (by decide+kernel)
theorem z8n:Loc (defScope z0e) "walk":=Or.inl (by decide+kernel)
theorem z41:Vis (defScope z0e) "heads":=Or.inl (by decide+kernel)
theorem z6m:Vis (defScope z0e) "program":=Or.inl (by decide+kernel)
theorem z40:Vis (defScope z0e) "thing":=Or.inl (by decide+kernel)
theorem z4e:Vis (defScope z0e) "walk":=Or.inl (by decide+kernel)
abbrev z3p:Stmt:=top 47
abbrev zug:Stmt:=top 48
abbrev z1g:Stmt:=top 49
theorem sc_heads_of:FnScope ["paper","heads","path","shelf"] ["paper"] (defScope z1g):=⟨rfl,rfl,rfl,by decide+kernel,rfl,by decide+kernel,by decide+kernel⟩
theorem zav:GLF z1g "book_of":=by decide+kernel
theorem zbt:Loc (defScope z1g) "heads":=Or.inl (by decide+kernel)
theorem zdd:Loc (defScope z1g) "path":=Or.inl (by decide+kernel)
theorem zbs:Loc (defScope z1g) "shelf":=Or.inl (by decide+kernel)
theorem z6e:Vis (defScope z1g) "heads":=Or.inl (by decide+kernel)
theorem zbc:Vis (defScope z1g) "paper":=Or.inl (by decide+kernel)
theorem zct:Vis (defScope z1g) "path":=Or.inl (by decide+kernel)
theorem zbb:Vis (defScope z1g) "shelf":=Or.inl (by decide+kernel)
abbrev z1p:Stmt:=top 50
theorem sc_book_of:FnScope ["shelf","book","name","low","high"] ["shelf"] (defScope z1p):=⟨rfl,rfl,rfl,by decide+kernel,rfl,by decide+kernel,by decide+kernel⟩
theorem zek:Loc (defScope z1p) "book":=Or.inl (by decide+kernel)
theorem zej:Loc (defScope z1p) "high":=Or.inl (by decide+kernel)
theorem zgd:Loc (defScope z1p) "low":=Or.inl (by decide+kernel)
theorem zei:Loc (defScope z1p) "name":=Or.inl (by decide+kernel)
theorem z8g:Vis (defScope z1p) "book":=Or.inl (by decide+kernel)
theorem zeb:Vis (defScope z1p) "high":=Or.inl (by decide+kernel)
theorem zff:Vis (defScope z1p) "low":=Or.inl (by decide+kernel)
theorem zea:Vis (defScope z1p) "name":=Or.inl (by decide+kernel)
theorem zd0:Vis (defScope z1p) "shelf":=Or.inl (by decide+kernel)
abbrev z3a:Stmt:=top 51
theorem zpn:FnScope ["wants","heads"] ["wants","heads"] (defScope z3a):=⟨rfl,rfl,rfl,by decide+kernel,rfl,by decide+kernel,by decide+kernel⟩
theorem zhm:GLF z3a "all":=by decide+kernel
theorem z7r:GLF z3a "sorted":=by decide+kernel
theorem zcs:Vis (defScope z3a) "heads":=Or.inr <| Or.inl (by decide+kernel)
theorem z74:Vis (defScope z3a) "wants":=Or.inr <| Or.inl (by decide+kernel)
abbrev z30:Stmt:=top 52
abbrev z37:Stmt:=top 53
theorem sc_walked:FnScope ["program","heads","walk"] ["program","heads"] (defScope z37):=⟨rfl,rfl,rfl,by decide+kernel,rfl,by decide+kernel,by decide+kernel⟩
theorem zhk:GLF z37 "Walk":=by decide+kernel
theorem zdi:GLF z37 "book_of":=by decide+kernel
theorem zbu:GLF z37 "go_block":=by decide+kernel
theorem zg8:Loc (defScope z37) "walk":=Or.inl (by decide+kernel)
theorem ze8:Vis (defScope z37) "heads":=Or.inl (by decide+kernel)
theorem z6a:Vis (defScope z37) "program":=Or.inl (by decide+kernel)
theorem z8w:Vis (defScope z37) "walk":=Or.inl (by decide+kernel)
abbrev z14:Stmt:=top 54
theorem sc_go_block:FnScope ["block","path","book","walk","at","deed"] ["block","path","book","walk"] (defScope z14):=⟨rfl,rfl,rfl,by decide+kernel,rfl,by decide+kernel,by decide+kernel⟩
theorem z9f:GLF z14 "enumerate":=by decide+kernel
theorem zax:GLF z14 "go_deed":=by decide+kernel
theorem zgb:Loc (defScope z14) "at":=Or.inl (by decide+kernel)
theorem zdf:Loc (defScope z14) "book":=Or.inl (by decide+kernel)
theorem zde:Loc (defScope z14) "deed":=Or.inl (by decide+kernel)
theorem zfc:Vis (defScope z14) "at":=Or.inl (by decide+kernel)
theorem zbd:Vis (defScope z14) "block":=Or.inl (by decide+kernel)
theorem z4l:Vis (defScope z14) "book":=Or.inl (by decide+kernel)
theorem zcw:Vis (defScope z14) "deed":=Or.inl (by decide+kernel)
theorem zcv:Vis (defScope z14) "path":=Or.inl (by decide+kernel)
theorem zcu:Vis (defScope z14) "walk":=Or.inl (by decide+kernel)
abbrev z2e:Stmt:=top 55
theorem zpo:FnScope ["deed","path","book","walk"] ["deed","path","book","walk"] (defScope z2e):=⟨rfl,rfl,rfl,by decide+kernel,rfl,by decide+kernel,by decide+kernel⟩
theorem zeo:GLF z2e "go_if":=by decide+kernel
theorem zdm:GLF z2e "go_set":=by decide+kernel
theorem zaw:GLF z2e "go_while":=by decide+kernel
theorem z56:Vis (defScope z2e) "book":=Or.inl (by decide+kernel)
theorem z2y:Vis (defScope z2e) "deed":=Or.inl (by decide+kernel)
theorem z55:Vis (defScope z2e) "path":=Or.inl (by decide+kernel)
theorem z54:Vis (defScope z2e) "walk":=Or.inl (by decide+kernel)
abbrev z2d:Stmt:=top 56
theorem sc_go_set:FnScope ["deed","path","book","walk","has","end"] ["deed","path","book","walk"] (defScope z2d):=⟨rfl,rfl,rfl,by decide+kernel,rfl,by decide+kernel,by decide+kernel⟩
theorem zho:GLF z2d "dict":=by decide+kernel
theorem zhn:GLF z2d "show":=by decide+kernel
theorem zhi:Loc (defScope z2d) "end":=Or.inl (by decide+kernel)
theorem zhh:Loc (defScope z2d) "has":=Or.inl (by decide+kernel)
theorem z90:Vis (defScope z2d) "book":=Or.inl (by decide+kernel)
theorem z8z:Vis (defScope z2d) "deed":=Or.inl (by decide+kernel)
theorem zac:Vis (defScope z2d) "end":=Or.inl (by decide+kernel)
theorem zab:Vis (defScope z2d) "has":=Or.inl (by decide+kernel)
theorem zfb:Vis (defScope z2d) "path":=Or.inl (by decide+kernel)
theorem zfa:Vis (defScope z2d) "walk":=Or.inl (by decide+kernel)
abbrev zfp:Stmt:=top 57
abbrev z7e:Stmt:=top 58
abbrev q0z:Stmt:=top 59
abbrev z4h:Stmt:=top 60
theorem sc_show:FnScope ["term","path","book","walk","one","other"] ["term","path","book","walk"] (defScope z4h):=⟨rfl,rfl,rfl,by decide+kernel,rfl,by decide+kernel,by decide+kernel⟩
theorem z85:GLF z4h "noted":=by decide+kernel
theorem ze5:GLF z4h "show":=by decide+kernel
theorem zbv:GLF z4h "stretch_of":=by decide+kernel
theorem zki:Loc (defScope z4h) "one":=Or.inl (by decide+kernel)
theorem zhf:Loc (defScope z4h) "other":=Or.inl (by decide+kernel)
theorem z7x:Vis (defScope z4h) "book":=Or.inl (by decide+kernel)
theorem zdx:Vis (defScope z4h) "one":=Or.inl (by decide+kernel)
theorem zh4:Vis (defScope z4h) "other":=Or.inl (by decide+kernel)
theorem z43:Vis (defScope z4h) "path":=Or.inl (by decide+kernel)
theorem z2b:Vis (defScope z4h) "term":=Or.inl (by decide+kernel)
theorem z42:Vis (defScope z4h) "walk":=Or.inl (by decide+kernel)
abbrev z5a:Stmt:=top 61
theorem zut:FnScope ["stretch","path","walk"] ["stretch","path","walk"] (defScope z5a):=⟨rfl,rfl,rfl,by decide+kernel,rfl,by decide+kernel,by decide+kernel⟩
theorem zj4:GLF z5a "WIDE":=by decide+kernel
theorem zkq:GLF z5a "met":=by decide+kernel
theorem zh6:Vis (defScope z5a) "path":=Or.inl (by decide+kernel)
theorem z4k:Vis (defScope z5a) "stretch":=Or.inl (by decide+kernel)
theorem zh5:Vis (defScope z5a) "walk":=Or.inl (by decide+kernel)
abbrev zuf:Stmt:=top 62
abbrev zy7:Stmt:=top 63
abbrev z31:Stmt:=top 65
theorem zm7:FnScope ["_law_script","_law_k"] ["_law_script","_law_k"] (defScope z31):=⟨rfl,rfl,rfl,by decide+kernel,rfl,by decide+kernel,by decide+kernel⟩
theorem z9e:GLF z31 "len":=by decide+kernel
theorem z2r:Vis (defScope z31) "_law_k":=Or.inl (by decide+kernel)
theorem z18:Vis (defScope z31) "_law_script":=Or.inl (by decide+kernel)
abbrev z1x:Stmt:=top 66
theorem sc_law_pick:FnScope ["_law_script","_law_k","_law_many","_law_drawn"] ["_law_script","_law_k","_law_many"] (defScope z1x):=⟨rfl,rfl,rfl,by decide+kernel,rfl,by decide+kernel,by decide+kernel⟩
theorem z9d:GLF z1x "_law_cell":=by decide+kernel
theorem z83:Loc (defScope z1x) "_law_drawn":=Or.inl (by decide+kernel)
theorem z2q:Vis (defScope z1x) "_law_drawn":=Or.inl (by decide+kernel)
theorem z5y:Vis (defScope z1x) "_law_k":=Or.inl (by decide+kernel)
theorem z8k:Vis (defScope z1x) "_law_many":=Or.inl (by decide+kernel)
theorem z73:Vis (defScope z1x) "_law_script":=Or.inl (by decide+kernel)
abbrev z13:Stmt:=top 67
theorem sc_law_once:FnScope ["_law_script","_law_at","_law_deep","_law_left","_law_word","_law_one"] ["_law_script","_law_at","_law_deep","_law_left"] (defScope z13):=⟨rfl,rfl,rfl,by decide+kernel,rfl,by decide+kernel,by decide+kernel⟩
theorem z4z:GLF z13 "_law_once":=by decide+kernel
theorem z2f:GLF z13 "_law_pick":=by decide+kernel
theorem z98:Loc (defScope z13) "_law_one":=Or.inl (by decide+kernel)
theorem z8p:Loc (defScope z13) "_law_word":=Or.inl (by decide+kernel)
theorem z1d:Vis (defScope z13) "_law_at":=Or.inl (by decide+kernel)
theorem z33:Vis (defScope z13) "_law_deep":=Or.inl (by decide+kernel)
theorem z22:Vis (defScope z13) "_law_left":=Or.inl (by decide+kernel)
theorem z8x:Vis (defScope z13) "_law_one":=Or.inl (by decide+kernel)
theorem z0v:Vis (defScope z13) "_law_script":=Or.inl (by decide+kernel)
theorem z8l:Vis (defScope z13) "_law_word":=Or.inl (by decide+kernel)
abbrev z08:Stmt:=top 68
theorem sc_law_for_one:FnScope ["_law_script","_law_ins","_law_every","_law_k","_law_name","_law_low","_law_longer","_law_worths","_law_expr","_law_program","_law_rows","_law_found"] ["_law_script"] (defScope z08):=⟨rfl,rfl,rfl,by decide+kernel,rfl,by decide+kernel,by decide+kernel⟩
theorem z7q:GLF z08 "_law_once":=by decide+kernel
theorem z3v:GLF z08 "_law_pick":=by decide+kernel
theorem z7p:GLF z08 "enumerate":=by decide+kernel
theorem zbz:GLF z08 "max":=by decide+kernel
theorem zby:GLF z08 "min":=by decide+kernel
theorem za7:GLF z08 "range":=by decide+kernel
theorem za6:GLF z08 "shown":=by decide+kernel
theorem za5:GLF z08 "tuple":=by decide+kernel
theorem z3j:Loc (defScope z08) "_law_every":=Or.inl (by decide+kernel)
theorem z6x:Loc (defScope z08) "_law_expr":=Or.inl (by decide+kernel)
theorem z69:Loc (defScope z08) "_law_found":=Or.inl (by decide+kernel)
theorem z7l:Loc (defScope z08) "_law_ins":=Or.inl (by decide+kernel)
theorem z8q:Loc (defScope z08) "_law_k":=Or.inl (by decide+kernel)
theorem z65:Loc (defScope z08) "_law_longer":=Or.inl (by decide+kernel)
theorem z7k:Loc (defScope z08) "_law_low":=Or.inl (by decide+kernel)
theorem z6w:Loc (defScope z08) "_law_name":=Or.inl (by decide+kernel)
theorem z5m:Loc (defScope z08) "_law_program":=Or.inr (by decide+kernel)
theorem z6v:Loc (defScope z08) "_law_rows":=Or.inl (by decide+kernel)
theorem z64:Loc (defScope z08) "_law_worths":=Or.inr (by decide+kernel)
theorem z3i:Vis (defScope z08) "_law_every":=Or.inl (by decide+kernel)
theorem z6q:Vis (defScope z08) "_law_expr":=Or.inl (by decide+kernel)
theorem z3h:Vis (defScope z08) "_law_found":=Or.inl (by decide+kernel)
theorem z2n:Vis (defScope z08) "_law_ins":=Or.inl (by decide+kernel)
theorem z4g:Vis (defScope z08) "_law_k":=Or.inl (by decide+kernel)
theorem z38:Vis (defScope z08) "_law_longer":=Or.inl (by decide+kernel)
theorem z2m:Vis (defScope z08) "_law_low":=Or.inl (by decide+kernel)
theorem z6p:Vis (defScope z08) "_law_name":=Or.inl (by decide+kernel)
theorem z5j:Vis (defScope z08) "_law_program":=Or.inr <| Or.inl (by decide+kernel)
theorem z3o:Vis (defScope z08) "_law_rows":=Or.inl (by decide+kernel)
theorem z1z:Vis (defScope z08) "_law_script":=Or.inl (by decide+kernel)
abbrev zd5:Stmt:=top 69
theorem sc_law:FnScope ["_law_script","_law_turn"] ["_law_script"] (defScope zd5):=⟨rfl,rfl,rfl,by decide+kernel,rfl,by decide+kernel,by decide+kernel⟩
theorem zau:GLF zd5 "_law_for_one":=by decide+kernel
theorem zkr:GLF zd5 "range":=by decide+kernel
theorem zdc:Loc (defScope zd5) "_law_turn":=Or.inr (by decide+kernel)
theorem z5z:Vis (defScope zd5) "_law_script":=Or.inl (by decide+kernel)
abbrev zwm(J:It)(g:TG)(tb:TS)(D:Ends)(σ : St)(H:Hp):Prop:=∃W:Nat->Nat->St->Hp->Prop,(∃m,W 0 m σ H)/\∀i m σ H,W i m σ H->
 (J.stop i H/\D.nx σ H)\/(J.go i H/\∃N:St->Hp->Prop,(∀ σ' H',N σ' H'->∃m',m' < m/\W (i+1) m' σ' H')/\∀x H',J.yld i H x H'->g x σ H' fun σ2 H2=>tb {D with nx:=N,ct:=N,bk:=D.nx} σ2 H2)
theorem z9o{K:PySem.W.Frag}{tl:TE}{g:TG}{tb:TS}{D:Ends}{σ : St}{H:Hp}:zuc (q3j K tl) g tb D σ H=tl σ H fun x H1=>∃a,x=.ref a/\(∃xs,SqT K H1 a xs)/\zwm (Itt K a) g tb D σ H1:=rfl
theorem z79{K:PySem.W.Frag}{tl:TE}{g:TG}{tb:TS}{D:Ends}{σ : St}{H:Hp}:zuc (zzn K tl) g tb D σ H=tl σ H fun x H1=>∃a,x=.ref a/\(∃xs,SqL K H1 a xs)/\zwm (Itl K a) g tb D σ H1:=rfl
theorem z78{ta:TA}{g:TG}{tb:TS}{D:Ends}{σ : St}{H:Hp}:zuc (q1w ta) g tb D σ H=ta σ H fun vs H1=>∃j:Int,vs=[.int j]/\-(2 ^ 62)<=j/\j < 2 ^ 62/\zwm (Itr 0 j.toNat) g tb D σ H1:=rfl
theorem z7b{K:PySem.W.Frag}{tl:TE}{g:TG}{tt:TT}{te:TE}{mp:List (Option Nat)}{σ : St}{H:Hp}{Q:VK}:zh7 (q3j K tl) g tt te mp σ H Q=tl σ H fun x H1=>∃a,x=.ref a/\(∃xs,SqT K H1 a xs)/\zaa (Itt K a) g tt te Q (subσ mp σ) H1:=rfl
theorem z5r{K:PySem.W.Frag}{tl:TE}{g:TG}{tt:TT}{te:TE}{mp:List (Option Nat)}{σ : St}{H:Hp}{Q:VK}:zh7 (zzn K tl) g tt te mp σ H Q=tl σ H fun x H1=>∃a,x=.ref a/\(∃xs,SqL K H1 a xs)/\zaa (Itl K a) g tt te Q (subσ mp σ) H1:=rfl
theorem z7c{tl:TE}{g:TG}{tt:TT}{te:TE}{mp:List (Option Nat)}{σ : St}{H:Hp}{Q:VK}:zh7 (q4o tl) g tt te mp σ H Q=tl σ H fun x H1=>∃z,x=.str z/\zaa (Its z) g tt te Q (subσ mp σ) H1:=rfl
inductive Wd where
 | add | sub | mul | quo | less | same | min | max
 deriving DecidableEq
def Wd.str:Wd->Str
 | .add=>"add" | .sub=>"sub" | .mul=>"mul" | .quo=>"quo" | .less=>"less" | .same=>"same" | .min=>"min" | .max=>"max"
inductive T where
 | num (i:Int) | nm (x:Str) | op (w:Wd) (a b:T)
def T.enc:T->Dm
 | .num i=>.tup [.str "num",.int i]
 | .nm x=>.tup [.str "name",.str x]
 | .op w a b=>.tup [.str w.str,a.enc,b.enc]
def T.ok(g:List Str):Nat->T->Prop
 | 0,_=>False
 | _+1,.num i=>-32768<=i/\i<=32767
 | _+1,.nm x=>x∈g
 | n+1,.op _ a b=>T.ok g n a/\T.ok g n b
theorem T.ok.mono{g g':List Str}(hg:∀x∈g,x∈g'):∀{n m:Nat} {t:T},T.ok g n t->n<=m->T.ok g' m t
 | 0,_,_,h,_=>h.elim
 | n+1,0,_,_,h=>absurd h (by omega)
 | n+1,m+1,.num i,h,_=>h
 | n+1,m+1,.nm x,h,_=>hg x h
 | n+1,m+1,.op w a b,h,hm=>⟨T.ok.mono hg h.1 (by omega),T.ok.mono hg h.2 (by omega)⟩
inductive D where
 | set (x:Str) (t:T) | ite (t:T) (b c:List D) | whl (t:T) (m:Int) (b:List D)
mutual
def D.enc:D->Dm
 | .set x t=>.tup [.str "set",.str x,t.enc]
 | .ite t b c=>.tup [.str "if",t.enc,.tup (zi7 b),.tup (zi7 c)]
 | .whl t m b=>.tup [.str "while",t.enc,.int m,.tup (zi7 b)]
def zi7:List D->List Dm
 | []=>[]
 | d::r=>d.enc::zi7 r
end
theorem zb1:∀b:List D,(zi7 b).length=b.length
 | []=>by simp[zi7]
 | d::b=>by rw [zi7,List.length_cons,List.length_cons,zb1 b]
def pool:List Str:=["a","b","c","d","x"]
def T.knows(p:List Str):T->Bool
 | .num _=>true
 | .nm x=>p.contains x
 | .op _ a b=>a.knows p && b.knows p
mutual
def kbD(p:List Str):D->Option (List Str)
 | .set x t=>if t.knows p then some (p++[x]) else none
 | .ite t b c=>if t.knows p then(match kbB p b,kbB p c with | some q,some r=>some (q.filter fun x=>r.contains x) | _,_=>none) else none
 | .whl t _ b=>if t.knows p then(match kbB p b with | some _=>some p | none=>none) else none
def kbB(p:List Str):List D->Option (List Str)
 | []=>some p
 | d::r=>match kbD p d with
  | some q=>kbB q r
  | none=>none
end
def Sub(g p:List Str):Prop:=∀x∈g,x∈p
theorem Sub.refl(g:List Str):Sub g g:=fun _ h=>h
theorem Sub.trans{a b c:List Str}(h:Sub a b)(k:Sub b c):Sub a c:=fun x hx=>k x (h x hx)
theorem T.ok.knows{g p:List Str}(hg:Sub g p):∀{n:Nat} {t:T},T.ok g n t->t.knows p=true
 | 0,_,h=>h.elim
 | n+1,.num i,_=>rfl
 | n+1,.nm x,h=>by simpa [T.knows] using hg x h
 | n+1,.op w a b,h=>by simp[T.knows,T.ok.knows hg h.1,T.ok.knows hg h.2]
def Knows(g:List Str)(b:List D)(g':List Str):Prop:=∀p,Sub g p->∃q,kbB p b=some q/\Sub g' q/\Sub p q
def KnowsD(g:List Str)(d:D)(g':List Str):Prop:=∀p,Sub g p->∃q,kbD p d=some q/\Sub g' q/\Sub p q
theorem Knows.nil(g:List Str):Knows g [] g:=fun p h=>⟨p,by simp[kbB],h,Sub.refl p⟩
theorem KnowsD.set{g g':List Str}{x:Str}{t:T}{n:Nat}(ht:t.ok g n)(hs:∀y∈g',y∈g\/y=x):KnowsD g (.set x t) g':=fun p hp=>by
 refine⟨p++[x],by simp[kbD,ht.knows hp],fun y hy=>?_,fun y hy=>List.mem_append_left _ hy⟩
 rcases hs y hy with z | z
 ·exact List.mem_append_left _ (hp y z)
 ·exact List.mem_append_right _ (by simp[z])
theorem KnowsD.ite{g m y g':List Str}{t:T}{b c:List D}{n:Nat}(ht:t.ok g n)(hb:Knows g b m)(hc:Knows g c y)(hs:∀x∈g',x∈m/\x∈y):KnowsD g (.ite t b c) g':=fun p hp=>by
 obtain⟨q,e,s1,s2⟩:=hb p hp
 obtain⟨r,e2,s3,s4⟩:=hc p hp
 refine⟨q.filter fun x=>r.contains x,by simp[kbD,ht.knows hp,e,e2],fun x hx=>?_,fun x hx=>?_⟩
 ·exact List.mem_filter.mpr ⟨s1 x (hs x hx).1,by simpa using s3 x (hs x hx).2⟩
 ·exact List.mem_filter.mpr ⟨s2 x hx,by simpa using s4 x hx⟩
theorem KnowsD.whl{g g1:List Str}{t:T}{m:Int}{b:List D}{n:Nat}(ht:t.ok g n)(hb:Knows g b g1):KnowsD g (.whl t m b) g:=fun p hp=>by
 obtain⟨q,e,s1,s2⟩:=hb p hp
 exact⟨p,by simp[kbD,ht.knows hp,e],hp,Sub.refl p⟩
theorem Knows.sub{g g1:List Str}{b:List D}(h:Knows g b g1):Knows g b g:=fun p hp=>by
 obtain⟨q,e,s1,s2⟩:=h p hp
 exact⟨q,e,hp.trans s2,s2⟩
theorem q2j{xs:List V}{k:Int}(h0:0<=k)(h:k < (xs.length:Int)):∃v,xs[k.toNat]?=some v/\atI xs k=some v:=by
 have hk:k.toNat < xs.length:=by omega
 have ek:k=((k.toNat:Nat):Int):=by omega
 refine⟨xs[k.toNat],List.getElem?_eq_getElem hk,?_⟩
 have q:atI xs ((k.toNat:Nat):Int)=some xs[k.toNat]:=z1c (List.getElem?_eq_getElem hk)
 rw [<- ek] at q
 exact q
theorem znu{α : Type}{c : α->V}{ns:List α}{k:Int}(h0:0<=k)(h:k < (ns.length:Int)):∃v∈ns,atI (ns.map c) k=some (c v):=by
 obtain⟨v,e1,e2⟩:=q2j (xs:=ns.map c) h0 (by rw [List.length_map]; exact h)
 rw [List.getElem?_map] at e1
 cases e:ns[k.toNat]? with
 | none=>rw [e] at e1; cases e1
 | some i=>rw [e] at e1; cases e1; exact⟨i,List.mem_of_getElem? e,e2⟩
theorem zx4(ns:List Int):(ns.map V.int).all okV=true:=by simp[okV]
theorem q1i{g:List Str}(h:Sub g pool):(g.map V.str).all okV=true:=by
 simp only[List.all_map,List.all_eq_true]
 intro x hx
 have:=h x hx
 simp only[pool,List.mem_cons,List.not_mem_nil,or_false] at this
 rcases this with rfl | rfl | rfl | rfl | rfl<;>decide+kernel
theorem zl(n:Nat)(h:n<=1000):n<=sizeLine:=Nat.le_of_lt (z20 h)
theorem q44{K:PySem.W.Frag}{H:Hp}{a:Addr}{xs:List V}(h:SqL K H a xs):q0c K (.ref a) H xs.length:=.inl ⟨a,xs,rfl,.inl h,rfl⟩
theorem q4j{K:PySem.W.Frag}{H:Hp}{a:Addr}{xs:List V}(h:SqT K H a xs):q0c K (.ref a) H xs.length:=.inl ⟨a,xs,rfl,.inr h,rfl⟩
theorem q27{K:PySem.W.Frag}{H:Hp}{a p:Addr}{xs:List V}(h:SqL K H a xs)(ho:xs.all okV=true)(hp:SqL K H p []):q2y K (.ref a) (.ref p) H xs.isEmpty:=.inr (.inl ⟨a,p,xs,[],rfl,rfl,h,hp,ho,rfl,(zta xs).symm⟩)
def Wd.worth:Wd->Int->Int->Int
 | .add,a,b=>a+b
 | .sub,a,b=>a - b
 | .mul,a,b=>a * b
 | .quo,a,b=>a.fdiv b
 | .less,a,b=>if a < b then 1 else 0
 | .same,a,b=>if a=b then 1 else 0
 | .min,a,b=>if b < a then b else a
 | .max,a,b=>if b > a then b else a
def Btw(l v h:Int):Prop:=(l<=v/\v<=h)\/(h<=v/\v<=l)
theorem z7v(x y:Int)(hy:y < 0):x.fdiv y=(-x) / (-y):=by
 rw [<- Int.neg_fdiv_neg,Int.fdiv_eq_ediv_of_nonneg _ (by omega)]
theorem z3c{x y z:Int}(hy:0 < y)(h:y<=z):(0<=x->x / z<=x / y)/\(x < 0->x / y<=x / z):=by
 have hz:0 < z:=by omega
 constructor
 ·intro hx
  rw [Int.le_ediv_iff_mul_le hy]
  have h0:0<=x / z:=Int.ediv_nonneg hx (by omega)
  have h1:x / z * y<=x / z * z:=Int.mul_le_mul_of_nonneg_left h h0
  have h2:x / z * z<=x:=Int.ediv_mul_le x (by omega)
  omega
 ·intro hx
  rw [Int.le_ediv_iff_mul_le hz]
  have h0:x / y < 0:=Int.ediv_neg_of_neg_of_pos hx hy
  have h1:x / y * z<=x / y * y:=by
   have:=Int.mul_le_mul_of_nonneg_left h (show 0 <= -(x / y) by omega)
   rw [Int.neg_mul,Int.neg_mul] at this
   omega
  have h2:x / y * y<=x:=Int.ediv_mul_le x (by omega)
  omega
def Sgn(w:Wd)(c d:Int):Prop:=w=.quo->(0 < c\/d < 0)
theorem q4v{w:Wd}(hs:w≠.same){a b x c d y:Int}(h1:a<=x)(h2:x<=b)(h3:c<=y)(h4:y<=d)(hq:Sgn w c d):Btw (w.worth a y) (w.worth x y) (w.worth b y):=by
 cases w<;>simp only[Wd.worth,Btw]
 ·omega
 ·omega
 ·rcases Int.le_total 0 y with h | h
  ·exact .inl ⟨Int.mul_le_mul_of_nonneg_right h1 h,Int.mul_le_mul_of_nonneg_right h2 h⟩
  ·exact .inr ⟨Int.mul_le_mul_of_nonpos_right h2 h,Int.mul_le_mul_of_nonpos_right h1 h⟩
 ·rcases hq rfl with h | h
  ·have hy:0 < y:=by omega
   rw [Int.fdiv_eq_ediv_of_nonneg _ (by omega),Int.fdiv_eq_ediv_of_nonneg _ (by omega),Int.fdiv_eq_ediv_of_nonneg _ (by omega)]
   exact .inl ⟨Int.ediv_le_ediv hy h1,Int.ediv_le_ediv hy h2⟩
  ·have hy:y < 0:=by omega
   rw [z7v _ _ hy,z7v _ _ hy,z7v _ _ hy]
   exact .inr ⟨Int.ediv_le_ediv (by omega) (by omega),Int.ediv_le_ediv (by omega) (by omega)⟩
 ·right; constructor<;>(repeat' split)<;>omega
 ·exact absurd rfl hs
 ·left; constructor<;>(repeat' split)<;>omega
 ·left; constructor<;>(repeat' split)<;>omega
theorem q48{w:Wd}(hs:w≠.same){x c d y:Int}(h3:c<=y)(h4:y<=d)(hq:Sgn w c d):Btw (w.worth x c) (w.worth x y) (w.worth x d):=by
 cases w<;>simp only[Wd.worth,Btw]
 ·omega
 ·omega
 ·rcases Int.le_total 0 x with h | h
  ·exact .inl ⟨Int.mul_le_mul_of_nonneg_left h3 h,Int.mul_le_mul_of_nonneg_left h4 h⟩
  ·exact .inr ⟨Int.mul_le_mul_of_nonpos_left h h4,Int.mul_le_mul_of_nonpos_left h h3⟩
 ·rcases hq rfl with h | h
  ·rw [Int.fdiv_eq_ediv_of_nonneg _ (by omega),Int.fdiv_eq_ediv_of_nonneg _ (by omega),Int.fdiv_eq_ediv_of_nonneg _ (by omega)]
   rcases(show x < 0\/0<=x by omega) with hx | hx
   ·exact .inl ⟨(z3c (by omega) h3).2 hx,(z3c (by omega) h4).2 hx⟩
   ·exact .inr ⟨(z3c (by omega) h4).1 hx,(z3c (by omega) h3).1 hx⟩
  ·rw [z7v _ _ (by omega),z7v _ _ (by omega),z7v _ _ (by omega)]
   rcases(show -x < 0\/0 <= -x by omega) with hx | hx
   ·exact .inr ⟨(z3c (by omega) (by omega)).2 hx,(z3c (by omega) (by omega)).2 hx⟩
   ·exact .inl ⟨(z3c (by omega) (by omega)).1 hx,(z3c (by omega) (by omega)).1 hx⟩
 ·left; constructor<;>(repeat' split)<;>omega
 ·exact absurd rfl hs
 ·left; constructor<;>(repeat' split)<;>omega
 ·left; constructor<;>(repeat' split)<;>omega
abbrev S:=Option (Int×Int)
def Val(w:Wd)(a b c d v:Int):Prop:=∃x y,a<=x/\x<=b/\c<=y/\y<=d/\(w=.quo->y≠0)/\v=w.worth x y
def ValE(w:Wd)(a b c d v:Int):Prop:=∃x y,(x=a\/x=b)/\(y=c\/y=d\/y = -1\/y=1)/\a<=x/\x<=b/\c<=y/\y<=d/\(w=.quo->y≠0)/\v=w.worth x y
def IsS(w:Wd)(a b c d:Int)(r:S):Prop:=match r with
 | none=>∀v,¬ Val w a b c d v
 | some (lo,hi)=>Val w a b c d lo/\Val w a b c d hi/\(∀v,Val w a b c d v->lo<=v/\v<=hi)/\(w≠.same->ValE w a b c d lo/\ValE w a b c d hi)
theorem ValE.val{w:Wd}{a b c d v:Int}(h:ValE w a b c d v):Val w a b c d v:=by
 obtain⟨x,y,_,_,h1,h2,h3,h4,h5,h6⟩:=h
 exact⟨x,y,h1,h2,h3,h4,h5,h6⟩
theorem Val.mono{w:Wd}{a b c d a' b' c' d' v:Int}(h:Val w a b c d v)(h1:a'<=a)(h2:b<=b')(h3:c'<=c)(h4:d<=d'):Val w a' b' c' d' v:=by
 obtain⟨x,y,k1,k2,k3,k4,k5,k6⟩:=h
 exact⟨x,y,by omega,by omega,by omega,by omega,k5,k6⟩
theorem IsS.unique{w:Wd}{a b c d:Int}{r r':S}(h:IsS w a b c d r)(h':IsS w a b c d r'):r=r':=by
 match r,r',h,h' with
 | none,none,_,_=>rfl
 | none,some (lo,hi),h,h'=>exact absurd h'.1 (h lo)
 | some (lo,hi),none,h,h'=>exact absurd h.1 (h' lo)
 | some (lo,hi),some (lo',hi'),h,h'=>
  have e1:=h.2.2.1 _ h'.1
  have e2:=h.2.2.1 _ h'.2.1
  have e3:=h'.2.2.1 _ h.1
  have e4:=h'.2.2.1 _ h.2.1
  have:lo=lo':=by omega
  have:hi=hi':=by omega
  subst_vars; rfl
structure Hull(ns:List Int)(lo hi:Int):Prop where
 l:lo∈ns
 h:hi∈ns
 all:∀a∈ns,lo<=a/\a<=hi
def z35(w:Wd)(a b c d:Int):List Int:=[w.worth a c,w.worth b c,w.worth a d,w.worth b d]
theorem zw9{w:Wd}(hs:w≠.same){a b c d lo hi:Int}(hcd:c<=d)(hq:Sgn w c d)(h:Hull (z35 w a b c d) lo hi){v:Int}(hv:Val w a b c d v):lo<=v/\v<=hi:=by
 obtain⟨x,y,h1,h2,h3,h4,_,rfl⟩:=hv
 have k1:=h.all (w.worth a c) (by simp[z35])
 have k2:=h.all (w.worth b c) (by simp[z35])
 have k3:=h.all (w.worth a d) (by simp[z35])
 have k4:=h.all (w.worth b d) (by simp[z35])
 have e:=q4v hs h1 h2 h3 h4 hq
 have ea:=q48 hs (x:=a) h3 h4 hq
 have eb:=q48 hs (x:=b) h3 h4 hq
 simp only[Btw] at e ea eb
 omega
theorem z9v{w:Wd}{a b c d v:Int}(hab:a<=b)(hcd:c<=d)(hq:Sgn w c d)(h:v∈z35 w a b c d):ValE w a b c d v:=by
 have hc:w=.quo->c≠0:=fun e=>by rcases hq e with z | z<;>omega
 have hd:w=.quo->d≠0:=fun e=>by rcases hq e with z | z<;>omega
 simp only[z35,List.mem_cons,List.not_mem_nil,or_false] at h
 rcases h with rfl | rfl | rfl | rfl
 ·exact⟨a,c,.inl rfl,.inl rfl,Int.le_refl _,hab,Int.le_refl _,hcd,hc,rfl⟩
 ·exact⟨b,c,.inr rfl,.inl rfl,hab,Int.le_refl _,Int.le_refl _,hcd,hc,rfl⟩
 ·exact⟨a,d,.inl rfl,.inr (.inl rfl),Int.le_refl _,hab,hcd,Int.le_refl _,hd,rfl⟩
 ·exact⟨b,d,.inr rfl,.inr (.inl rfl),hab,Int.le_refl _,hcd,Int.le_refl _,hd,rfl⟩
theorem zc2{w:Wd}(hs:w≠.same){a b c d lo hi:Int}(hab:a<=b)(hcd:c<=d)(hq:Sgn w c d)(h:Hull (z35 w a b c d) lo hi):IsS w a b c d (some (lo,hi)):=
 ⟨(z9v hab hcd hq h.l).val,(z9v hab hcd hq h.h).val,fun _ hv=>zw9 hs hcd hq h hv,fun _=>⟨z9v hab hcd hq h.l,z9v hab hcd hq h.h⟩⟩
def bet(l h:Int):S:=if l > h then none else some (l,h)
def mn(i j:Int):Int:=if j < i then j else i
def mx(i j:Int):Int:=if j > i then j else i
def q3h:S->S->S
 | none,y=>y
 | x,none=>x
 | some (a,b),some (c,d)=>some (mn a c,mx b d)
def zq5:S->S->S
 | none,_=>none
 | _,none=>none
 | some (a,b),some (c,d)=>bet (mx a c) (mn b d)
def znv(x y:S):Bool:=decide (zq5 x y=x)
def IsE(w:Wd)(a b:Int)(o r:S):Prop:=match o with
 | none=>r=none
 | some (c,d)=>∃lo hi,r=some (lo,hi)/\Hull (z35 w a b c d) lo hi
theorem zyf{a b c d:Int}(hab:a<=b)(hcd:c<=d){r1 r2:S}(h1:IsE .quo a b (bet c (mn d (-1))) r1)(h2:IsE .quo a b (bet (mx c 1) d) r2):IsS .quo a b c d (q3h r1 r2):=by
 have hmn:mn d (-1)<=d/\mn d (-1) <= -1/\(mn d (-1)=d\/mn d (-1) = -1):=by unfold mn; split<;>omega
 have hmx:c<=mx c 1/\1<=mx c 1/\(mx c 1=c\/mx c 1=1):=by unfold mx; split<;>omega
 have split:∀v,Val .quo a b c d v->Val .quo a b c (mn d (-1)) v\/Val .quo a b (mx c 1) d v:=by
  rintro v ⟨x,y,k1,k2,k3,k4,k5,k6⟩
  have:=k5 rfl
  rcases Int.lt_or_gt_of_ne this with z | z
  ·exact .inl ⟨x,y,k1,k2,k3,by unfold mn; split<;>omega,k5,k6⟩
  ·exact .inr ⟨x,y,k1,k2,by unfold mx; split<;>omega,k4,k5,k6⟩
 have e1:∀v,Val .quo a b c (mn d (-1)) v->Val .quo a b c d v:=fun v h=>h.mono (Int.le_refl _) (Int.le_refl _) (Int.le_refl _) hmn.1
 have e2:∀v,Val .quo a b (mx c 1) d v->Val .quo a b c d v:=fun v h=>h.mono (Int.le_refl _) (Int.le_refl _) hmx.1 (Int.le_refl _)
 have f1:∀v,ValE .quo a b c (mn d (-1)) v->ValE .quo a b c d v:=by
  rintro v ⟨x,y,k1,k2,k3,k4,k5,k6,k7⟩
  exact⟨x,y,k1,by omega,k3,k4,k5,by omega,k7⟩
 have f2:∀v,ValE .quo a b (mx c 1) d v->ValE .quo a b c d v:=by
  rintro v ⟨x,y,k1,k2,k3,k4,k5,k6,k7⟩
  exact⟨x,y,k1,by omega,k3,k4,by omega,k6,k7⟩
 have g1:∀v,c > mn d (-1)->¬ Val .quo a b c (mn d (-1)) v:=by
  rintro v h ⟨x,y,k1,k2,k3,k4,_⟩; omega
 have g2:∀v,mx c 1 > d->¬ Val .quo a b (mx c 1) d v:=by
  rintro v h ⟨x,y,k1,k2,k3,k4,_⟩; omega
 by_cases q1:c > mn d (-1)
 ·rw [show bet c (mn d (-1))=none from if_pos q1] at h1
  have hr1:r1=none:=h1
  subst hr1
  by_cases q2:mx c 1 > d
  ·rw [show bet (mx c 1) d=none from if_pos q2] at h2
   have hr2:r2=none:=h2
   subst hr2
   intro v hv
   rcases split v hv with z | z
   ·exact g1 v q1 z
   ·exact g2 v q2 z
  ·rw [show bet (mx c 1) d=some (mx c 1,d) from if_neg q2] at h2
   obtain⟨lo,hi,rfl,hh⟩:=h2
   have I:=zc2 (w:=.quo) (fun z=>nomatch z) hab (by omega) (fun _=>.inl (by omega)) hh
   refine⟨e2 _ I.1,e2 _ I.2.1,fun v hv=>?_,fun n=>⟨f2 _ (I.2.2.2 n).1,f2 _ (I.2.2.2 n).2⟩⟩
   rcases split v hv with z | z
   ·exact absurd z (g1 v q1)
   ·exact I.2.2.1 v z
 ·rw [show bet c (mn d (-1))=some (c,mn d (-1)) from if_neg q1] at h1
  obtain⟨lo,hi,rfl,hh⟩:=h1
  have I:=zc2 (w:=.quo) (fun z=>nomatch z) hab (by omega) (fun _=>.inr (by omega)) hh
  by_cases q2:mx c 1 > d
  ·rw [show bet (mx c 1) d=none from if_pos q2] at h2
   have hr2:r2=none:=h2
   subst hr2
   refine⟨e1 _ I.1,e1 _ I.2.1,fun v hv=>?_,fun n=>⟨f1 _ (I.2.2.2 n).1,f1 _ (I.2.2.2 n).2⟩⟩
   rcases split v hv with z | z
   ·exact I.2.2.1 v z
   ·exact absurd z (g2 v q2)
  ·rw [show bet (mx c 1) d=some (mx c 1,d) from if_neg q2] at h2
   obtain⟨lo',hi',rfl,hh'⟩:=h2
   have J:=zc2 (w:=.quo) (fun z=>nomatch z) hab (by omega) (fun _=>.inl (by omega)) hh'
   have p1:mn lo lo'=lo\/mn lo lo'=lo':=by unfold mn; split<;>omega
   have p2:mx hi hi'=hi\/mx hi hi'=hi':=by unfold mx; split<;>omega
   have p3:mn lo lo'<=lo/\mn lo lo'<=lo':=by unfold mn; split<;>omega
   have p4:hi<=mx hi hi'/\hi'<=mx hi hi':=by unfold mx; split<;>omega
   refine⟨?_,?_,fun v hv=>?_,fun n=>⟨?_,?_⟩⟩
   ·rcases p1 with z | z<;>rw [z]
    ·exact e1 _ I.1
    ·exact e2 _ J.1
   ·rcases p2 with z | z<;>rw [z]
    ·exact e1 _ I.2.1
    ·exact e2 _ J.2.1
   ·rcases split v hv with z | z
    ·have:=I.2.2.1 v z; omega
    ·have:=J.2.2.1 v z; omega
   ·rcases p1 with z | z<;>rw [z]
    ·exact f1 _ (I.2.2.2 n).1
    ·exact f2 _ (J.2.2.2 n).1
   ·rcases p2 with z | z<;>rw [z]
    ·exact f1 _ (I.2.2.2 n).2
    ·exact f2 _ (J.2.2.2 n).2
theorem zuu{a b c d:Int}(hab:a<=b)(hcd:c<=d):IsS .same a b c d (some (if(a=c/\b=d)/\a=b then 1 else 0,if zq5 (some (a,b)) (some (c,d))≠none then 1 else 0)):=by
 have hm:(zq5 (some (a,b)) (some (c,d))≠none)↔(a<=d/\c<=b):=by
  show bet (mx a c) (mn b d)≠none↔_
  unfold bet mx mn
  constructor
  ·intro h
   by_cases q:(if c > a then c else a) > (if d < b then d else b)
   ·rw [if_pos q] at h; exact absurd rfl h
   ·revert q; (repeat' split)<;>omega
  ·intro h
   rw [if_neg]
   ·exact fun z=>nomatch z
   ·(repeat' split)<;>omega
 refine⟨?_,?_,?_,fun n=>absurd rfl n⟩
 ·by_cases q:(a=c/\b=d)/\a=b
  ·rw [if_pos q]
   exact⟨a,c,Int.le_refl _,hab,Int.le_refl _,hcd,(fun z=>nomatch z),by simp only[Wd.worth]; rw [if_pos q.1.1]⟩
  ·rw [if_neg q]
   by_cases k:a=c
   ·by_cases k2:b=d
    ·exact⟨a,d,Int.le_refl _,hab,hcd,Int.le_refl _,(fun z=>nomatch z),by simp only[Wd.worth]; rw [if_neg]; omega⟩
    ·by_cases k3:a=b
     ·exact⟨a,d,Int.le_refl _,hab,hcd,Int.le_refl _,(fun z=>nomatch z),by simp only[Wd.worth]; rw [if_neg]; omega⟩
     ·exact⟨b,c,hab,Int.le_refl _,Int.le_refl _,hcd,(fun z=>nomatch z),by simp only[Wd.worth]; rw [if_neg]; omega⟩
   ·exact⟨a,c,Int.le_refl _,hab,Int.le_refl _,hcd,(fun z=>nomatch z),by simp only[Wd.worth]; rw [if_neg k]⟩
 ·by_cases q:zq5 (some (a,b)) (some (c,d))≠none
  ·rw [if_pos q]
   have q2:=hm.mp q
   by_cases k:a<=c
   ·exact⟨c,c,by omega,by omega,by omega,by omega,(fun z=>nomatch z),by simp[Wd.worth]⟩
   ·exact⟨a,a,by omega,by omega,by omega,by omega,(fun z=>nomatch z),by simp[Wd.worth]⟩
  ·rw [if_neg q]
   refine⟨a,c,by omega,by omega,by omega,by omega,(fun z=>nomatch z),?_⟩
   simp only[Wd.worth]
   rw [if_neg]
   intro k
   exact q (hm.mpr (by omega))
 ·rintro v ⟨x,y,k1,k2,k3,k4,_,rfl⟩
  simp only[Wd.worth]
  by_cases q:(a=c/\b=d)/\a=b
  ·have:x=y:=by omega
   rw [if_pos q,if_pos this,if_pos (hm.mpr (by omega))]
   omega
  ·rw [if_neg q]
   by_cases k:x=y
   ·rw [if_pos k,if_pos (hm.mpr (by omega))]; omega
   ·rw [if_neg k]; split<;>omega
def rng(lo:Int)(n:Nat):List Int:=(List.range n).map fun(i:Nat)=>lo+(i:Int)
theorem zib(CX:CXT)(P:Program)(w:World)(K:PySem.W.Frag)(mg:Str->Option Value)(base:Heap)(N:List Str)(qual:Str)(scope:Scope)(f:Addr)(cd:Value)(A:Around)(outer:List Env)(s:Shared)(H:Hp)(E:XK):(zjr CX P w K mg base N qual scope f cd A outer s H E).K=K:=rfl
theorem z5u(CX:CXT)(P:Program)(w:World)(K:PySem.W.Frag)(mg:Str->Option Value)(base:Heap)(N:List Str)(qual:Str)(scope:Scope)(f:Addr)(cd:Value)(A:Around)(outer:List Env)(s:Shared)(H:Hp)(E:XK):(zjr CX P w K mg base N qual scope f cd A outer s H E).nox.K=K:=rfl
theorem z9u(X:Cx)(N':List Str)(scope:Scope)(cl:List (Str×Addr))(C:Addr)(s₀:Shared)(H₀:Hp)(ex:List Addr):(z3y X N' scope cl C s₀ H₀ ex).K=X.K:=rfl
theorem z7a{K:PySem.W.Frag}{ta:TA}{g:TG}{tb:TS}{D:Ends}{σ : St}{H:Hp}:zuc (q1x K ta) g tb D σ H=ta σ H fun vs H1=>∃a,vs=[.ref a]/\(∃xs,SqL K H1 a xs)/\zwm (Ite K a) g tb D σ H1:=rfl
theorem z9n{K:PySem.W.Frag}{ta:TA}{g:TG}{tb:TS}{D:Ends}{σ : St}{H:Hp}:zuc (q4n K ta) g tb D σ H=ta σ H fun vs H1=>∃a b,vs=[.ref a,.ref b]/\(∃xs,SqL K H1 a xs)/\(∃ys,SqL K H1 b ys)/\zwm (Itz K a b) g tb D σ H1:=rfl
theorem z77{ta:TA}{g:TG}{tb:TS}{D:Ends}{σ : St}{H:Hp}:zuc (zzm ta) g tb D σ H=ta σ H fun vs H1=>∃i j:Int,vs=[.int i,.int j]/\(-(2 ^ 62)<=i/\i < 2 ^ 62/\-(2 ^ 62)<=j/\j < 2 ^ 62)/\zwm (Itr i (j - i).toNat) g tb D σ H1:=rfl
theorem z7d{K:PySem.W.Frag}{tl:TE}{g:TG}{tt:TT}{te:TE}{mp:List (Option Nat)}{σ : St}{H:Hp}{Q:VK}:zh7 (q4p K tl) g tt te mp σ H Q=tl σ H fun x H1=>∃a,x=.ref a/\(((∃xs,SqL K H1 a xs)/\zaa (Itl K a) g tt te Q (subσ mp σ) H1)\/((∃xs,SqT K H1 a xs)/\zaa (Itt K a) g tt te Q (subσ mp σ) H1)):=rfl
theorem zcb(CX:CXT)(P:Program)(w:World)(K:PySem.W.Frag)(mg:Str->Option Value)(base:Heap)(N:List Str)(qual:Str)(scope:Scope)(f:Addr)(cd:Value)(A:Around)(outer:List Env)(s:Shared)(H:Hp)(E:XK):(zjr CX P w K mg base N qual scope f cd A outer s H E).prog=P:=rfl
theorem zox(CX:CXT)(P:Program)(w:World)(K:PySem.W.Frag)(mg:Str->Option Value)(base:Heap)(N:List Str)(qual:Str)(scope:Scope)(f:Addr)(cd:Value)(A:Around)(outer:List Env)(s:Shared)(H:Hp)(E:XK):(zjr CX P w K mg base N qual scope f cd A outer s H E).w=w:=rfl
theorem z5o(CX:CXT)(P:Program)(w:World)(K:PySem.W.Frag)(mg:Str->Option Value)(base:Heap)(N:List Str)(qual:Str)(scope:Scope)(f:Addr)(cd:Value)(A:Around)(outer:List Env)(s:Shared)(H:Hp)(E:XK):(zjr CX P w K mg base N qual scope f cd A outer s H E).nox.prog=P:=rfl
theorem z9t(CX:CXT)(P:Program)(w:World)(K:PySem.W.Frag)(mg:Str->Option Value)(base:Heap)(N:List Str)(qual:Str)(scope:Scope)(f:Addr)(cd:Value)(A:Around)(outer:List Env)(s:Shared)(H:Hp)(E:XK):(zjr CX P w K mg base N qual scope f cd A outer s H E).nox.w=w:=rfl
theorem zjj(CX:CXT)(P:Program)(w:World)(K:PySem.W.Frag)(mg:Str->Option Value)(base:Heap)(N:List Str)(qual:Str)(scope:Scope)(f:Addr)(cd:Value)(A:Around)(outer:List Env)(s:Shared)(H:Hp)(E:XK):(zjr CX P w K mg base N qual scope f cd A outer s H E).mg=mg:=rfl
theorem z88(CX:CXT)(P:Program)(w:World)(K:PySem.W.Frag)(mg:Str->Option Value)(base:Heap)(N:List Str)(qual:Str)(scope:Scope)(f:Addr)(cd:Value)(A:Around)(outer:List Env)(s:Shared)(H:Hp)(E:XK):(zjr CX P w K mg base N qual scope f cd A outer s H E).nox.mg=mg:=rfl
theorem zcc(CX:CXT)(P:Program)(w:World)(K:PySem.W.Frag)(mg:Str->Option Value)(base:Heap)(N:List Str)(qual:Str)(scope:Scope)(f:Addr)(cd:Value)(A:Around)(outer:List Env)(s:Shared)(H:Hp)(E:XK):(zjr CX P w K mg base N qual scope f cd A outer s H E).base=base:=rfl
theorem z5p(CX:CXT)(P:Program)(w:World)(K:PySem.W.Frag)(mg:Str->Option Value)(base:Heap)(N:List Str)(qual:Str)(scope:Scope)(f:Addr)(cd:Value)(A:Around)(outer:List Env)(s:Shared)(H:Hp)(E:XK):(zjr CX P w K mg base N qual scope f cd A outer s H E).nox.base=base:=rfl
theorem z89(X:Cx)(N':List Str)(scope:Scope)(cl:List (Str×Addr))(C:Addr)(s₀:Shared)(H₀:Hp)(ex:List Addr):(z3y X N' scope cl C s₀ H₀ ex).prog=X.prog:=rfl
theorem zf3(X:Cx)(N':List Str)(scope:Scope)(cl:List (Str×Addr))(C:Addr)(s₀:Shared)(H₀:Hp)(ex:List Addr):(z3y X N' scope cl C s₀ H₀ ex).w=X.w:=rfl
theorem zcd(X:Cx)(N':List Str)(scope:Scope)(cl:List (Str×Addr))(C:Addr)(s₀:Shared)(H₀:Hp)(ex:List Addr):(z3y X N' scope cl C s₀ H₀ ex).mg=X.mg:=rfl
theorem z8a(X:Cx)(N':List Str)(scope:Scope)(cl:List (Str×Addr))(C:Addr)(s₀:Shared)(H₀:Hp)(ex:List Addr):(z3y X N' scope cl C s₀ H₀ ex).base=X.base:=rfl
theorem z9p{K:PySem.W.Frag}{ta:TA}{g:TG}{tt:TT}{te:TE}{mp:List (Option Nat)}{σ : St}{H:Hp}{Q:VK}:zh7 (zzl K ta) g tt te mp σ H Q=ta σ H fun vs H1=>∃a b,vs=[.ref a,.ref b]/\(∃xs,SqT K H1 a xs)/\(∃ys,SqT K H1 b ys)/\zaa (zxp K a b) g tt te Q (subσ mp σ) H1:=rfl
local macro_rules | `(tactic| walk_at "rd")=>`(tactic| simp only[zun,zuq,zlr,tOp,zpe,tC,zwt,zgr,zxe,zn3,zzp,zxv,zpf,zlv,zlu,tCB,zbj,zuo,zju,tUn,rU,rI0,rI,zxy,tOr,zxw,tB,zly,q0g,zlt,tIf,q0h,zpg,zhu,zlw,zfj,zm9,zfi,zph,zdz,zpi,tSl,zao,zls,zyb,zd3,zhz,zpw,zmb,z7a,z9n,z77,z7d,q3a,zv0,zcb,zox,z5o,z9t,zjj,zcc,z88,z5p,z89,zf3,zcd,z8a,z9p,zhv,q14,q3x,tDX,q3s,zxu,zxx,tBM,
 qEq,qNe,qIn,zi1,zyi,zma,q0m,zpv,zyh,zme,zyj,q0l,zmc,zmd,zi0,rIx,zuz,zlm,zyd,q0k,zfr,q0i,zpt,q0j,zyc,zar,zaq,zfh,zfm,zwq,
 z9o,z79,z78,z7b,z5r,z7c,L2.start,zib,z5u,z9u,List.map_cons,List.map_nil,List.length_cons,List.length_nil,List.replicate_succ,List.replicate_zero,Nat.reduceAdd,Nat.reduceSub,Nat.zero_add,Nat.add_zero,Nat.sub_zero,Nat.sub_self,Nat.add_sub_cancel,
 List.getElem?_cons_zero,List.getElem?_cons_succ,List.set_cons_zero,List.set_cons_succ,List.cons_append,List.nil_append,List.append_nil,List.cons.injEq,Option.some.injEq,V.int.injEq,V.ref.injEq,V.str.injEq,V.bl.injEq,V.ty.injEq,
 reduceCtorEq,false_and,and_false,and_true,true_and,exists_false,exists_const,false_or,or_false,exists_eq_left,exists_eq_left',exists_eq_right,exists_eq_right',exists_and_left,decide_eq_true_eq,Bool.not_eq_true',Bool.decide_eq_true,exists_eq,true_or,or_true,Bool.false_eq_true,if_true,if_false,Bool.true_eq_false,Bool.not_true,Bool.not_false,decide_true,decide_false,List.isEmpty_cons,List.isEmpty_nil,Bool.true_and,Bool.false_and,bne_self_eq_false,beq_self_eq_true])
section
variable{P:Program}{w:World}{K:PySem.W.Frag}{mg:Str->Option Value}{base:Heap}{f:Addr}{fd:FuncData}
def zwx(K:PySem.W.Frag):Sp:=fun vs H Q _=>∃(a:Addr) (ns:List Int) (k:Int),vs=[.ref a,.int k]/\SqL K H a (ns.map V.int)/\0<=k/\∀(i:Int) (H':Hp),Same H H'->Q (.int i) H'
theorem zz2(F:Fun K "_law_cell" "_law_cell" z31 f fd) (b_len:mg "len" = none):FnOk P w K mg base CX0 1 f fd ["_law_script","_law_k"] (zwx K):=by
 refine F.ok zm7 (fun vs H Q E h=>?_) (fun cdv A outer s H vs Q E hr h=>?_)
 ·obtain⟨a,ns,k,rfl,_⟩:=h
  rfl
 obtain⟨a,ns,k,rfl,hS,h0,q⟩:=h
 refine⟨_,(z02 (z1h (z0d zvf (z00 (i:=1) rfl z2r z50 z51) (z4q q2u z9e b_len zp5 (z09 (z00 (i:=0) rfl z18 z0k z0l) z03) zoe zou) (z0j _)) (z07 (z0b (z0r zdh (z00 (i:=0) rfl z18 z0k z0l) (z00 (i:=1) rfl z2r z50 z51) (fun _ _=>rfl)))) z0f)
 (z02 (z1h (z0d (gEq hr.units) (z00 (i:=0) rfl z18 z0k z0l) (z95 z03) (z0j _)) (z07 (z0b z06)) z0f)
 (z07 (z0b (z1n z5i (z1n zae (z0r zdh (z00 (i:=0) rfl z18 z0k z0l) (z1n zoc (z00 (i:=1) rfl z2r z50 z51) (z4q q2u z9e b_len zp5 (z09 (z00 (i:=0) rfl z18 z0k z0l) z03) zoe zou)) (fun _ _=>rfl)) z06) (z00 (i:=1) rfl z2r z50 z51)))))),?_⟩
 walk_at "rd"
 refine⟨_,q44 hS,?_⟩
 rw [List.length_map]
 split
 ·rename_i hk
  obtain⟨i,_,e⟩:=znu (c:=V.int) h0 hk
  exact⟨_,hS,_,e,q i H (Same.refl _)⟩
 ·refine⟨Nat.zero_le _,fun p hp=>?_⟩
  have s1:=z05 hp (.lst [])
  refine⟨_,q27 (s1.seq hS) (zx4 ns) (SqL.of z01),?_⟩
  split
  ·exact q 0 _ s1
  ·rename_i hne
   have hl:0 < (ns.length:Int):=by
    cases ns with
    | nil=>exact absurd rfl hne
    | cons a r=>simp only[List.length_cons]; omega
   obtain⟨i,_,e⟩:=znu (c:=V.int) (ns:=ns) (k:=k % (ns.length:Int)) (Int.emod_nonneg _ (by omega)) (Int.emod_lt_of_pos _ hl)
   exact⟨_,q44 (s1.seq hS),by rw [List.length_map]; exact hl,_,s1.seq hS,_,by rw [List.length_map]; exact e,i,rfl,.inr ⟨by decide,by decide⟩,q _ _ s1⟩
def zo4(K:PySem.W.Frag):Sp:=fun vs H Q _=>∃(a:Addr) (ns:List Int) (k m:Int),vs=[.ref a,.int k,.int m]/\SqL K H a (ns.map V.int)/\0<=k/\0 < m/\∀(i:Int) (H':Hp),0<=i->i < m->Same H H'->Q (.int i) H'
theorem zyz(F:Fun K "_law_pick" "_law_pick" z1x f fd) (c_law_cell:Callee P w K mg base "_law_cell" ["_law_script","_law_k"] 1 (zwx K)):FnOk P w K mg base CX0 2 f fd ["_law_script","_law_k","_law_many"] (zo4 K):=by
 refine F.ok sc_law_pick (fun vs H Q E h=>?_) (fun cdv A outer s H vs Q E hr h=>?_)
 ·obtain⟨a,ns,k,m,rfl,_⟩:=h
  rfl
 obtain⟨a,ns,k,m,rfl,hS,h0,hm,q⟩:=h
 refine⟨_,(z02 (z19 (i:=3) sc_law_pick.nd rfl z83 (z1n zoc (z1n zae (z1n z5i (z15 c_law_cell hr (by omega) (z09 (z00 (i:=0) rfl z73 z0k z0l) (z09 (z00 (i:=1) rfl z5y z50 z51) z03)) z9d zl4) (z1n zae z06 (z1n z5i (z00 (i:=1) rfl z5y z50 z51) z06))) z06) z06) (z04 rfl))
 (z07 (z0b (z1n zoc (z1n zoc (z1n z5i (z1n zae (z00 (i:=3) rfl z2q z87 z8b) (z00 (i:=3) rfl z2q z87 z8b)) (z1n zyx (z00 (i:=3) rfl z2q z87 z8b) z06)) z06) (z00 (i:=2) rfl z8k zl2 zla))))),?_⟩
 walk_at "rd"
 refine⟨a,ns,k,rfl,hS,h0,fun i H' s1=>?_⟩
 walk_at "rd"
 refine⟨.inl ⟨by decide,by decide⟩,.inr ⟨by decide,by decide⟩,by decide,?_⟩
 have e1:0<=(i+6151 * (k+1)) * 40692 % 2147483399:=Int.emod_nonneg _ (by decide)
 have e2:(i+6151 * (k+1)) * 40692 % 2147483399 < 2147483399:=Int.emod_lt_of_pos _ (by decide)
 refine⟨.inl ⟨by omega,by omega⟩,⟨by decide,by decide⟩,by decide,hm,q _ _ (Int.emod_nonneg _ (by omega)) (Int.emod_lt_of_pos _ hm) s1⟩
structure Df(K:PySem.W.Frag)(mg:Str->Option Value)(x:Str)(st:Stmt)(ps:List Str)(f:Addr)(fd:FuncData):Prop where
 F:Fun K x x st f fd
 m:mg x=some (.ref f)
 b:Binds K fd ps []
theorem Df.callee{x:Str}{st:Stmt}{ps:List Str}{k:Nat}{sp:Sp}(d:Df K mg x st ps f fd)(h:FnOk P w K mg base CX0 k f fd ps sp):Callee P w K mg base x ps k sp:=⟨f,fd,h,d.m,d.F.kp,d.b⟩
theorem z9q{H H':Hp}{p:Addr}{o:HO}(s:Same H H')(h:H p=none):Same H (upd H' p o):=fun b u q=>by rw [z0a (z0h q h)]; exact s b u q
end
theorem zd2{K:PySem.W.Frag}{ta:TA}{g:TG}{tb:TS}{D:Ends}{σ : St}{H:Hp}:zuc (zsy K ta) g tb D σ H=ta σ H fun vs H1=>∃a,vs=[.ref a]/\(∃xs,SqT K H1 a xs)/\zwm (q0d K a) g tb D σ H1:=rfl
theorem zr1{K:PySem.W.Frag}{ta:TA}{g:TG}{tb:TS}{D:Ends}{σ : St}{H:Hp}:zuc (zzl K ta) g tb D σ H=ta σ H fun vs H1=>∃a b,vs=[.ref a,.ref b]/\(∃xs,SqT K H1 a xs)/\(∃ys,SqT K H1 b ys)/\zwm (zxp K a b) g tb D σ H1:=rfl
theorem zht{ta:TA}{g:TG}{tt:TT}{te:TE}{mp:List (Option Nat)}{σ : St}{H:Hp}{Q:VK}:zh7 (zzm ta) g tt te mp σ H Q=ta σ H fun vs H1=>∃i j:Int,vs=[.int i,.int j]/\(-(2 ^ 62)<=i/\i < 2 ^ 62/\-(2 ^ 62)<=j/\j < 2 ^ 62)/\zaa (Itr i (j - i).toNat) g tt te Q (subσ mp σ) H1:=rfl
local macro_rules | `(tactic| walk_at "rd7")=>`(tactic| simp only[zht,zws,zr1,q32,q33,zwr,zri,q4f,zye,q0t,zlx,zun,zuq,zlr,tOp,zpe,tC,zwt,zgr,zxe,zn3,zzp,zxv,zpf,zlv,zlu,tCB,zbj,zuo,zju,tUn,rU,rI0,rI,zxy,tOr,zxw,tB,zly,q0g,zlt,tIf,q0h,zpg,zhu,zlw,zfj,zm9,zfi,zph,zdz,zpi,tSl,zao,zls,zyb,zd3,zhz,zpw,zmb,z7a,zd2,z9n,z77,z7d,zcb,zox,z5o,z9t,zjj,zcc,z88,z5p,z89,zf3,zcd,z8a,z9p,zhv,q14,q3x,tDX,q3s,zxu,zxx,tBM,
 qEq,qNe,qIn,zi1,zyi,zma,q0m,zpv,zyh,zme,zyj,q0l,zmc,zmd,zi0,rIx,zuz,zlm,zyd,q0k,q0i,zpt,q0j,zyc,zar,zaq,zfh,zfm,zwq,
 z9o,z79,z78,z7b,z5r,z7c,L2.start,zib,z5u,z9u,List.map_cons,List.map_nil,List.length_cons,List.length_nil,List.replicate_succ,List.replicate_zero,Nat.reduceAdd,Nat.reduceSub,Nat.zero_add,Nat.add_zero,Nat.sub_zero,Nat.sub_self,Nat.add_sub_cancel,
 List.getElem?_cons_zero,List.getElem?_cons_succ,List.set_cons_zero,List.set_cons_succ,List.cons_append,List.nil_append,List.append_nil,List.cons.injEq,Option.some.injEq,V.int.injEq,V.ref.injEq,V.str.injEq,V.bl.injEq,V.ty.injEq,
 reduceCtorEq,false_and,and_false,and_true,true_and,exists_false,exists_const,false_or,or_false,exists_eq_left,exists_eq_left',exists_eq_right,exists_eq_right',exists_and_left,decide_eq_true_eq,Bool.not_eq_true',Bool.decide_eq_true,exists_eq,true_or,or_true,Bool.false_eq_true,if_true,if_false,Bool.true_eq_false,Bool.not_true,Bool.not_false,decide_true,decide_false,List.isEmpty_cons,List.isEmpty_nil,Bool.true_and,Bool.false_and,bne_self_eq_false,beq_self_eq_true])
local macro_rules | `(tactic| walk_at "rd")=>`(tactic| simp only[zun,zuq,zlr,tOp,zpe,tC,zwt,zgr,zxe,zn3,zzp,zxv,zpf,zlv,zlu,tCB,zbj,zuo,zju,tUn,rU,rI0,rI,zxy,tOr,zxw,tB,zly,q0g,zlt,tIf,q0h,zpg,zhu,zlw,zfj,zm9,zfi,zph,zdz,zpi,tSl,zao,zls,zyb,zd3,zhz,zpw,zmb,z7a,z9n,z77,z7d,zxu,zxx,tBM,
 qEq,qNe,qIn,zi1,zyi,zma,q0m,zpv,zyh,zme,zyj,q0l,zmc,zmd,zi0,rIx,zuz,zlm,zyd,q0k,zfr,q0i,zpt,q0j,zyc,zar,zaq,zfh,zfm,zwq,
 z9o,z79,z78,z7b,z5r,z7c,L2.start,zib,z5u,z9u,List.map_cons,List.map_nil,List.length_cons,List.length_nil,List.replicate_succ,List.replicate_zero,Nat.reduceAdd,Nat.reduceSub,Nat.zero_add,Nat.add_zero,Nat.sub_zero,Nat.sub_self,Nat.add_sub_cancel,
 List.getElem?_cons_zero,List.getElem?_cons_succ,List.set_cons_zero,List.set_cons_succ,List.cons_append,List.nil_append,List.append_nil,List.cons.injEq,Option.some.injEq,V.int.injEq,V.ref.injEq,V.str.injEq,V.bl.injEq,V.ty.injEq,
 reduceCtorEq,false_and,and_false,and_true,true_and,exists_false,exists_const,false_or,or_false,exists_eq_left,exists_eq_left',exists_eq_right,exists_eq_right',exists_and_left,decide_eq_true_eq,Bool.not_eq_true',Bool.decide_eq_true,exists_eq,true_or,or_true,Bool.false_eq_true,if_true,if_false,Bool.true_eq_false,Bool.not_true,Bool.not_false,decide_true,decide_false,List.isEmpty_cons,List.isEmpty_nil,Bool.true_and,Bool.false_and,bne_self_eq_false,beq_self_eq_true])
local macro_rules | `(tactic| walk_at "rw")=>`(tactic| simp only[zun,znz,q2q,q3b,zuq,zlr,tOp,zpe,tC,zwt,zgr,zxe,zn3,zzp,zxv,zpf,zlv,zlu,tCB,zbj,zuo,zju,tUn,rU,rI0,rI,zxy,tOr,zxw,tB,zly,q0g,zlt,tIf,q0h,zpg,zhu,zlw,zfj,zm9,zfi,zph,zdz,zpi,tSl,zao,zls,zyb,zd3,zhz,zpw,zmb,z7a,z9n,z77,z7d,zxu,zxx,tBM,
 qEq,qNe,qIn,zi1,zyi,zma,q0m,zpv,zyh,zme,zyj,q0l,zmc,zmd,zi0,rIx,zuz,zlm,zyd,q0k,q0i,zpt,q0j,zyc,zar,zaq,zfh,zfm,zwq,
 z9o,z79,z78,z7b,z5r,z7c,L2.start,zib,z5u,z9u,List.map_cons,List.map_nil,List.length_cons,List.length_nil,List.replicate_succ,List.replicate_zero,Nat.reduceAdd,Nat.reduceSub,Nat.zero_add,Nat.add_zero,Nat.sub_zero,Nat.sub_self,Nat.add_sub_cancel,
 List.getElem?_cons_zero,List.getElem?_cons_succ,List.set_cons_zero,List.set_cons_succ,List.cons_append,List.nil_append,List.append_nil,List.cons.injEq,Option.some.injEq,V.int.injEq,V.ref.injEq,V.str.injEq,V.bl.injEq,V.ty.injEq,
 reduceCtorEq,false_and,and_false,and_true,true_and,exists_false,exists_const,false_or,or_false,exists_eq_left,exists_eq_left',exists_eq_right,exists_eq_right',exists_and_left,decide_eq_true_eq,Bool.not_eq_true',Bool.decide_eq_true,exists_eq,true_or,or_true,Bool.false_eq_true,if_true,if_false,Bool.true_eq_false,Bool.not_true,Bool.not_false,decide_true,decide_false,List.isEmpty_cons,List.isEmpty_nil,Bool.true_and,Bool.false_and,bne_self_eq_false,beq_self_eq_true])
section
variable{P:Program}{w:World}{K:PySem.W.Frag}{mg:Str->Option Value}{base:Heap}{f:Addr}{fd:FuncData}
theorem zdy{a b:TS}{D:Ends}{σ : St}{H:Hp}(h:∀N:St->Hp->Prop,N=b D->a {D with nx:=N} σ H):zun a b D σ H:=h _ rfl
def z8v:S->Dm
 | none=>.non
 | some (a,b)=>.tup [.int a,.int b]
theorem zkx(s:S):(z8v s).shut=true/\SeqAt.shaped (z8v s).dat=true:=by
 match s with
 | none=>exact⟨rfl,rfl⟩
 | some (a,b)=>exact⟨rfl,rfl⟩
theorem zwa(s t:S):PyData.eqv (z8v s).dat (z8v t).dat=decide (s=t):=by
 match s,t with
 | none,none=>rfl
 | none,some (c,d)=>rfl
 | some (a,b),none=>rfl
 | some (a,b),some (c,d)=>
  simp only[z8v,Dm.dat,zgw,PyData.eqv,PyData.eqvAll,Bool.and_true]
  rw [Bool.eq_iff_iff]
  simp
theorem q25{H:Hp}{x y:V}{s t:S}(h:Dt H x (z8v s))(k:Dt H y (z8v t)):EqD H x y (decide (s=t)):=
 ⟨_,_,h,k,zkx s,zkx t,(zwa s t).symm⟩
theorem dtS{H:Hp}{x:V}{s:S}(h:Dt H x (z8v s)):(s=none/\x=.non)\/∃a b p,s=some (a,b)/\x=.ref p/\H p=some (.tup [.int a,.int b]):=by
 match s,h with
 | none,.non=>exact .inl ⟨rfl,rfl⟩
 | some (a,b),.tup e r=>
  rcases r with _ | ⟨r1,_ | ⟨r2,_ | _⟩⟩
  cases r1; cases r2
  exact .inr ⟨a,b,_,rfl,rfl,e⟩
theorem zgt{H:Hp}{p:Addr}{a b:Int}(h:H p=some (.tup [.int a,.int b])):Dt H (.ref p) (z8v (some (a,b))):=.tup h (.cons (.int a) (.cons (.int b) .nil))
theorem eqW{H:Hp}(w v:Wd):q2y K (.str w.str) (.str v.str) H (decide (w=v)):=.inl ⟨rfl,by cases w<;>cases v<;>decide+kernel⟩
def zfn:Sp:=fun vs H Q _=>∃(w:Wd) (a b:Int),vs=[.str w.str,.int a,.int b]/\(w=.quo->b≠0)/\b.natAbs < 1073741824/\Q (.int (w.worth a b)) H
theorem zml(F:Fun K "worth_of" "worth_of" z29 f fd) (b_min:mg "min" = none) (b_max:mg "max" = none):FnOk P w K mg base CX0 1 f fd ["word","one","other"] zfn:=by
 refine F.ok zm6 (fun vs H Q E h=>?_) (fun cdv A outer s H vs Q E hr h=>?_)
 ·obtain⟨w,a,b,rfl,_⟩:=h
  rfl
 obtain⟨w,a,b,rfl,hq,hb,q⟩:=h
 refine⟨_,(z02 (z1h (z0d (gEq hr.units) (z00 (i:=0) rfl z1f z49 z4b) z0y (z0j _)) (z07 (z0b (z1n z5i (z00 (i:=1) rfl z1e z1r z1s) (z00 (i:=2) rfl z12 z0p z0q)))) z0f)
 (z02 (z1h (z0d (gEq hr.units) (z00 (i:=0) rfl z1f z49 z4b) z0y (z0j _)) (z07 (z0b (z1n zk7 (z00 (i:=1) rfl z1e z1r z1s) (z00 (i:=2) rfl z12 z0p z0q)))) z0f)
 (z02 (z1h (z0d (gEq hr.units) (z00 (i:=0) rfl z1f z49 z4b) z0y (z0j _)) (z07 (z0b (z1n zae (z00 (i:=1) rfl z1e z1r z1s) (z00 (i:=2) rfl z12 z0p z0q)))) z0f)
 (z02 (z1h (z0d (gEq hr.units) (z00 (i:=0) rfl z1f z49 z4b) z0y (z0j _)) (z07 (z0b (z1n zvh (z00 (i:=1) rfl z1e z1r z1s) (z00 (i:=2) rfl z12 z0p z0q)))) z0f)
 (z02 (z1h (z0d (gEq hr.units) (z00 (i:=0) rfl z1f z49 z4b) z0y (z0j _)) (z07 (z0b (zey (z0d zvf (z00 (i:=1) rfl z1e z1r z1s) (z00 (i:=2) rfl z12 z0p z0q) (z0j _)) z06 z06))) z0f)
 (z02 (z1h (z0d (gEq hr.units) (z00 (i:=0) rfl z1f z49 z4b) z0y (z0j _)) (z07 (z0b (zey (z0d zfy (z00 (i:=1) rfl z1e z1r z1s) (z00 (i:=2) rfl z12 z0p z0q) (z0j _)) z06 z06))) z0f)
 (z02 (z1h (z0d (gEq hr.units) (z00 (i:=0) rfl z1f z49 z4b) z0y (z0j _)) (z07 (z0b (z4q (zck rfl) zgl b_min zic (z09 (z00 (i:=1) rfl z1e z1r z1s) (z09 (z00 (i:=2) rfl z12 z0p z0q) z03)) zi2 zi8))) z0f)
 (z07 (z0b (z4q (zcl rfl) zgm b_max zid (z09 (z00 (i:=1) rfl z1e z1r z1s) (z09 (z00 (i:=2) rfl z12 z0p z0q) z03)) zi3 zi9)))))))))),?_⟩
 walk_at "rd"
 have hm:CMul a b:=.inr ⟨by omega,by omega⟩
 refine⟨_,eqW w .add,?_⟩
 split
 ·rename_i e; cases of_decide_eq_true e; exact q
 rename_i n1
 refine⟨_,eqW w .sub,?_⟩
 split
 ·rename_i e; cases of_decide_eq_true e; exact q
 rename_i n2
 refine⟨_,eqW w .mul,?_⟩
 split
 ·rename_i e; cases of_decide_eq_true e; exact⟨hm,q⟩
 rename_i n3
 refine⟨_,eqW w .quo,?_⟩
 split
 ·rename_i e; cases of_decide_eq_true e; exact⟨⟨hq rfl,hb⟩,q⟩
 rename_i n4
 refine⟨_,eqW w .less,?_⟩
 split
 ·rename_i e; cases of_decide_eq_true e
  have q:Q (.int (if a < b then 1 else 0)) H:=q
  split
  ·rename_i c; rw [if_pos c] at q; exact q
  ·rename_i c; rw [if_neg c] at q; exact q
 rename_i n5
 refine⟨_,eqW w .same,?_⟩
 split
 ·rename_i e; cases of_decide_eq_true e
  have q:Q (.int (if a=b then 1 else 0)) H:=q
  split
  ·rename_i c; rw [if_pos c] at q; exact q
  ·rename_i c; rw [if_neg c] at q; exact q
 rename_i n6
 refine⟨_,eqW w .min,?_⟩
 split
 ·rename_i e; cases of_decide_eq_true e; exact⟨_,_,⟨rfl,rfl⟩,q⟩
 rename_i n7
 have e:w=.max:=by
  cases w<;>first | rfl | exact absurd rfl (by assumption)
 cases e
 exact⟨_,_,⟨rfl,rfl⟩,q⟩
def zfo:Sp:=fun vs H Q _=>∃(l h:Int),vs=[.int l,.int h]/\∀(r:V) (H':Hp),Same H H'->Dt H' r (z8v (bet l h))->Q r H'
theorem zq4(F:Fun K "between" "between" z47 f fd):FnOk P w K mg base CX0 1 f fd ["low","high"] zfo:=by
 refine F.ok zpq (fun vs H Q E h=>?_) (fun cdv A outer s H vs Q E hr h=>?_)
 ·obtain⟨l,h,rfl,_⟩:=h
  rfl
 obtain⟨l,h,rfl,q⟩:=h
 refine⟨_,(z02 (z1h (z0d zvg (z00 (i:=0) rfl z92 zot zp3) (z00 (i:=1) rfl z8h zjh zjm) (z0j _)) (z07 (z0b z1v)) z0f)
 (z07 (z0b (z1a (z09 (z00 (i:=0) rfl z92 zot zp3) (z09 (z00 (i:=1) rfl z8h zjh zjm) z03)))))),?_⟩
 walk_at "rd"
 split
 ·rename_i c
  rw [show bet l h=none from if_pos c] at q
  exact q _ _ (Same.refl _) .non
 ·rename_i c
  rw [show bet l h=some (l,h) from if_neg c] at q
  exact⟨zl 2 (by decide),fun p hp=>q _ _ (z05 hp _) (zgt z01)⟩
def zy1(g:S->S->S):Sp:=fun vs H Q _=>∃(x y:V) (s t:S),vs=[x,y]/\Dt H x (z8v s)/\Dt H y (z8v t)/\∀(r:V) (H':Hp),Same H H'->Dt H' r (z8v (g s t))->Q r H'
theorem zs5(F:Fun K "joined" "joined" z46 f fd) (b_min:mg "min" = none) (b_max:mg "max" = none):FnOk P w K mg base CX0 1 f fd ["one","other"] (zy1 q3h):=by
 refine F.ok zrd (fun vs H Q E h=>?_) (fun cdv A outer s H vs Q E hr h=>?_)
 ·obtain⟨x,y,s,t,rfl,_⟩:=h
  rfl
 obtain⟨x,y,s,t,rfl,hx,hy,q⟩:=h
 refine⟨_,(z02 (z1h (z0d zqg (z00 (i:=0) rfl z4w z1r z1s) z1v (z0j _)) (z07 (z0b (z00 (i:=1) rfl z3r z0p z0q))) z0f)
 (z02 (z1h (z0d zqg (z00 (i:=1) rfl z3r z0p z0q) z1v (z0j _)) (z07 (z0b (z00 (i:=0) rfl z4w z1r z1s))) z0f)
 (z07 (z0b (z1a (z09 (z4q (zck rfl) zj5 b_min zic (z09 (z0r z0g (z00 (i:=0) rfl z4w z1r z1s) z06 (fun _ _=>rfl)) (z09 (z0r z0g (z00 (i:=1) rfl z3r z0p z0q) z06 (fun _ _=>rfl)) z03)) zi2 zi8) (z09 (z4q (zcl rfl) zj6 b_max zid (z09 (z0r z0g (z00 (i:=0) rfl z4w z1r z1s) z06 (fun _ _=>rfl)) (z09 (z0r z0g (z00 (i:=1) rfl z3r z0p z0q) z06 (fun _ _=>rfl)) z03)) zi3 zi9) z03))))))),zdy fun N1 e1=>?_⟩
 rcases dtS hx with⟨rfl,rfl⟩ | ⟨a,b,p,rfl,rfl,hp⟩<;>rcases dtS hy with⟨rfl,rfl⟩ | ⟨c,d,p2,rfl,rfl,hp2⟩<;>walk_at "rd"
 ·exact q _ _ (Same.refl _) hy
 ·exact q _ _ (Same.refl _) hy
 ·rw [e1]
  walk_at "rd"
  exact q _ _ (Same.refl _) hx
 ·rw [e1]
  walk_at "rd"
  exact⟨_,SqT.of hp,_,rfl,_,SqT.of hp2,_,rfl,_,_,⟨rfl,rfl⟩,_,SqT.of hp,_,rfl,_,SqT.of hp2,_,rfl,_,_,⟨rfl,rfl⟩,zl 2 (by decide),fun p3 hp3=>q _ _ (z05 hp3 _) (zgt z01)⟩
def zy5:S->S->S
 | some (a,b),some (c,d)=>some (if(a=c/\b=d)/\a=b then 1 else 0,if zq5 (some (a,b)) (some (c,d))≠none then 1 else 0)
 | _,_=>none
theorem zbm(F:Fun K "stretch_of_same" "stretch_of_same" z0i f fd) (c_met:Callee P w K mg base "met" ["one","other"] 2 (zy1 zq5)):FnOk P w K mg base CX0 3 f fd ["one","other"] (zy1 zy5):=by
 refine F.ok sc_stretch_of_same (fun vs H Q E h=>?_) (fun cdv A outer s H vs Q E hr h=>?_)
 ·obtain⟨x,y,s,t,rfl,_⟩:=h
  rfl
 obtain⟨x,y,s,t,rfl,hx,hy,q⟩:=h
 refine⟨_,(z02 (z1h (PW.pt (zmf (z0d zqg (z00 (i:=0) rfl z1b z1r z1s) z1v (z0j _)) (zfs (z0d zqg (z00 (i:=1) rfl z2g z0p z0q) z1v (z0j _))))) (z07 (z0b z1v)) z0f)
 (z02 (z19 (i:=2) sc_stretch_of_same.nd rfl z63 (zk4 (z97 (dEq hr.units) (z00 (i:=0) rfl z1b z1r z1s) (z00 (i:=1) rfl z2g z0p z0q) (z0j _)) (zo9 (z97 zfy (z0r z0g (z00 (i:=0) rfl z1b z1r z1s) z06 (fun _ _=>rfl)) (z0r z0g (z00 (i:=0) rfl z1b z1r z1s) z06 (fun _ _=>rfl)) (z0j _)))) (z04 rfl))
 (z02 (z19 (i:=3) sc_stretch_of_same.nd rfl z68 (z97 zqf (z15 c_met hr (by omega) (z09 (z00 (i:=0) rfl z1b z1r z1s) (z09 (z00 (i:=1) rfl z2g z0p z0q) z03)) z8r zxi) z1v (z0j _)) (z04 rfl))
 (z07 (z0b (z1a (z09 (zey (zad (z00 (i:=2) rfl z5x zqj zqo)) z06 z06) (z09 (zey (zad (z00 (i:=3) rfl z67 ztr zu5)) z06 z06) z03)))))))),zdy fun N1 e1=>?_⟩
 rcases dtS hx with⟨rfl,rfl⟩ | ⟨a,b,p,rfl,rfl,hp⟩<;>rcases dtS hy with⟨rfl,rfl⟩ | ⟨c,d,p2,rfl,rfl,hp2⟩<;>walk_at "rd"
 ·exact q _ _ (Same.refl _) .non
 ·exact q _ _ (Same.refl _) .non
 ·exact q _ _ (Same.refl _) .non
 ·rw [e1]
  walk_at "rd"
  have fin:∀u:Int,u=(if(a=c/\b=d)/\a=b then 1 else 0)->zy1 zq5 [V.ref p,V.ref p2] H (fun x H1=>
    if decide (x=V.non)=false then 2<=sizeLine/\∀(p:Addr),H1 p=none->Q (V.ref p) (upd H1 p (HO.tup [V.int u,V.int 1]))
    else 2<=sizeLine/\∀(p:Addr),H1 p=none->Q (V.ref p) (upd H1 p (HO.tup [V.int u,V.int 0]))) E0:=by
   intro u hu
   refine⟨_,_,_,_,rfl,hx,hy,fun r H' s1 dr=>?_⟩
   have hF:∀v:Int,v=(if zq5 (some (a,b)) (some (c,d))≠none then 1 else 0)->zy5 (some (a,b)) (some (c,d))=some (u,v):=by
    intro v hv
    rw [hu,hv]; rfl
   rcases dtS dr with⟨e,rfl⟩ | ⟨a1,b1,p3,e,rfl,_⟩
   ·dsimp only
    rw [if_neg (by simp)]
    rw [hF 0 (by rw [if_neg (by rw [e]; simp)])] at q
    exact⟨zl 2 (by decide),fun p3 hp3=>q _ _ (s1.trans (z05 hp3 _)) (zgt z01)⟩
   ·dsimp only
    rw [if_pos (by simp)]
    rw [hF 1 (by rw [if_pos (by rw [e]; simp)])] at q
    exact⟨zl 2 (by decide),fun p3 hp3=>q _ _ (s1.trans (z05 hp3 _)) (zgt z01)⟩
  refine⟨_,q25 hx hy,?_⟩
  split
  ·rename_i e
   have e:=of_decide_eq_true e
   injection e with e
   injection e with e1 e2
   refine⟨_,SqT.of hp,_,rfl,_,SqT.of hp,_,rfl,_,rfl,_,rfl,?_⟩
   by_cases hab:a=b
   ·simp only[if_pos hab]
    exact fin 1 (by rw [if_pos ⟨⟨e1,e2⟩,hab⟩])
   ·simp only[if_neg hab]
    exact fin 0 (by rw [if_neg fun z=>hab z.2])
  ·rename_i e
   refine fin 0 (by rw [if_neg]; rintro⟨⟨h1,h2⟩,_⟩; exact e (decide_eq_true (by rw [h1,h2])))
def q0e(w:Wd)(s t r:S):Prop:=match s,t with
 | some (a,b),some (c,d)=>∃lo hi,r=some (lo,hi)/\Hull (z35 w a b c d) lo hi
 | _,_=>r=none
def q09(w:Wd)(t:S):Prop:=match t with
 | none=>True
 | some (c,d)=>(w=.quo->c≠0/\d≠0)/\c.natAbs < 1073741824/\d.natAbs < 1073741824
def zww:Sp:=fun vs H Q _=>∃(w:Wd) (x y:V) (s t:S),vs=[.str w.str,x,y]/\Dt H x (z8v s)/\Dt H y (z8v t)/\q09 w t/\∀(r:V) (H':Hp) (o:S),Same H H'->q0e w s t o->Dt H' r (z8v o)->Q r H'
def q50(H:Hp)(w:Wd)(p2:Addr)(ns:List Int)(k:Int)(i:Nat)(ys:List V)(σ':St)(H':Hp):Prop:=H'=H/\(∃t,σ'=[t,some (.str w.str),some (.ref p2)])/\ys=((ns.take i).map fun x=>w.worth x k).map V.int
theorem zbn(F:Fun K "stretch_of_ends" "stretch_of_ends" z0m f fd) (b_min:mg "min" = none) (b_max:mg "max" = none) (c_worth_of:Callee P w K mg base "worth_of" ["word","one","other"] 1 zfn):FnOk P w K mg base CX0 2 f fd ["word","one","other"] zww:=by
 refine F.ok sc_stretch_of_ends (fun vs H Q E h=>?_) (fun cdv A outer s H vs Q E hr h=>?_)
 ·obtain⟨w,x,y,s,t,rfl,_⟩:=h
  rfl
 obtain⟨w,x,y,s,t,rfl,hx,hy,hsm,q⟩:=h
 refine⟨_,(z02 (z1h (PW.pt (zmf (z0d zqg (z00 (i:=1) rfl z2p z1r z1s) z1v (z0j _)) (zfs (z0d zqg (z00 (i:=2) rfl z6n z0p z0q) z1v (z0j _))))) (z07 (z0b z1v)) z0f)
 (z02 (zrk (i:=3) ["low_or_high","word","other"] [none,some 0,some 2] sc_stretch_of_ends.nd rfl z7h rfl (CompS.of (by rfl)) (zk3 (z00 (i:=1) rfl z2p z1r z1s)) (fun _ _ _ _ _=>(z1k (i:=0) (show List.Nodup (["low_or_high","word","other"]:List Str) from by decide+kernel) rfl (Or.inl rfl))) (fun _ _ _ _ _=>z81) (fun _ _ _ _ _=>(z15 c_worth_of hr (by omega) (z09 (z00 (i:=1) rfl (by first | exact Or.inl rfl | exact Or.inr (Or.inl rfl) | exact Or.inr (Or.inr rfl)) z49 z4b) (z09 (z00 (i:=0) rfl (by first | exact Or.inl rfl | exact Or.inr (Or.inl rfl) | exact Or.inr (Or.inr rfl)) zaf zai) (z09 (z0r (ixK (r:=zlm) (K:=K) z0g rfl) (z00 (i:=2) rfl (by first | exact Or.inl rfl | exact Or.inr (Or.inl rfl) | exact Or.inr (Or.inr rfl)) z0p z0q) z06 (fun _ _=>rfl)) z03))) rfl zb2)))
 (z02 (zd6 (zrv PySem.F.plainAttrs_list PySem.F.slot_list_extend PySem.F.type_list_extend zkb (z00 (i:=3) rfl z2j znh znp) (z09 (z96 ["low_or_high","word","other"] [none,some 0,some 2] rfl (CompS.of (by rfl)) (zk3 (z00 (i:=1) rfl z2p z1r z1s)) (fun _ _ _ _ _=>(z1k (i:=0) (show List.Nodup (["low_or_high","word","other"]:List Str) from by decide+kernel) rfl (Or.inl rfl))) (fun _ _ _ _ _=>z81) (fun _ _ _ _ _=>(z15 c_worth_of hr (by omega) (z09 (z00 (i:=1) rfl (by first | exact Or.inl rfl | exact Or.inr (Or.inl rfl) | exact Or.inr (Or.inr rfl)) z49 z4b) (z09 (z00 (i:=0) rfl (by first | exact Or.inl rfl | exact Or.inr (Or.inl rfl) | exact Or.inr (Or.inr rfl)) zaf zai) (z09 (z0r (ixK (r:=zlm) (K:=K) z0g rfl) (z00 (i:=2) rfl (by first | exact Or.inl rfl | exact Or.inr (Or.inl rfl) | exact Or.inr (Or.inr rfl)) z0p z0q) z06 (fun _ _=>rfl)) z03))) rfl zb2))) z03)) (z04 rfl))
 (z07 (z0b (z1a (z09 (z4q (zlc rfl) z8s b_min zic (z09 (z00 (i:=3) rfl z2j znh znp) z03) zi2 zi8) (z09 (z4q (zld rfl) z8t b_max zid (z09 (z00 (i:=3) rfl z2j znh znp) z03) zi3 zi9) z03)))))))),zdy fun N1 e1=>?_⟩
 rcases dtS hx with⟨rfl,rfl⟩ | ⟨a,b,p,rfl,rfl,hp⟩<;>rcases dtS hy with⟨rfl,rfl⟩ | ⟨c,d,p2,rfl,rfl,hp2⟩<;>walk_at "rd"
 ·exact q _ _ none (Same.refl _) rfl .non
 ·exact q _ _ none (Same.refl _) rfl .non
 ·exact q _ _ none (Same.refl _) rfl .non
 ·rw [e1]
  walk_at "rd"
  obtain⟨hq1,hc,hd⟩:=hsm
  have comp:∀(H1:Hp) (j k:Int) (t:Option V) (Q':VK),H1 p=some (.tup [.int a,.int b])->H1 p2=some (.tup [.int c,.int d])->atI [V.int c,V.int d] j=some (.int k)->(w=.quo->k≠0)->k.natAbs < 1073741824->
    (∀p3,H1 p3=none->Q' (.ref p3) (upd H1 p3 (.lst ([w.worth a k,w.worth b k].map V.int))))->
    zaa (Itt K p) (zgr 0) zwq (zju zfn [] E0 (zbj (zpe 1) (zbj (zpe 0) (zbj (tOp (zlm K) (zpe 2) (tC (V.int j))) zuo)))) Q' [t,some (V.str w.str),some (V.ref p2)] H1:=by
   intro H1 j k t Q' g1 g2 hj hk0 hk fin
   refine zoy (K:=K) (a:=p) (xs:=[a,b].map V.int) (q50 H1 w p2 [a,b] k) ⟨rfl,⟨_,rfl⟩,rfl⟩ (z20 (by simp)) ?_ ?_ ?_ ?_
   ·rintro i ys σ' H' ⟨_,_,rfl⟩
    rw [List.length_map,List.length_map,List.length_take]
    omega
   ·rintro i ys σ' H' _ ⟨rfl,_,_⟩
    exact SqT.of g1
   ·rintro i ys v σ' H' hxi ⟨rfl,⟨t,rfl⟩,rfl⟩
    rw [List.getElem?_map] at hxi
    cases hr':([a,b]:List Int)[i]? with
    | none=>rw [hr'] at hxi; cases hxi
    | some x=>
     rw [hr'] at hxi
     have ev:V.int x=v:=by simpa using hxi
     subst ev
     walk_at "rd"
     refine⟨_,SqT.of g2,_,hj,w,x,k,rfl,hk0,hk,rfl,⟨_,rfl⟩,?_⟩
     rw [List.take_add_one,hr',List.map_append,List.map_append]
     rfl
   ·rintro ys σ' H' ⟨rfl,_,rfl⟩ p3 hp3
    exact fin p3 hp3
  refine⟨⟨_,SqT.of hp⟩,comp H 0 c none _ hp hp2 rfl (fun e=>(hq1 e).1) hc fun p3 hp3=>?_⟩
  have s1:=z05 hp3 (.lst ([w.worth a c,w.worth b c].map V.int))
  have e3:(upd H p3 (.lst ([w.worth a c,w.worth b c].map V.int))) p3=_:=z01
  generalize upd H p3 (.lst ([w.worth a c,w.worth b c].map V.int))=U1 at s1 e3 |-
  refine⟨.inl ⟨rfl,_,SqL.of e3⟩,⟨_,SqT.of (s1 _ _ hp)⟩,comp U1 1 d none _ (s1 _ _ hp) (s1 _ _ hp2) rfl (fun e=>(hq1 e).2) hd fun p4 hp4=>?_⟩
  have s2:=z05 hp4 (.lst ([w.worth a d,w.worth b d].map V.int))
  have e4:(upd U1 p4 (.lst ([w.worth a d,w.worth b d].map V.int))) p4=_:=z01
  generalize upd U1 p4 (.lst ([w.worth a d,w.worth b d].map V.int))=U2 at s2 e4 |-
  have e5:upd U2 p3 (.lst (([w.worth a c,w.worth b c].map V.int)++([w.worth a d,w.worth b d].map V.int))) p3=some (.lst ((z35 w a b c d).map V.int)):=z01
  have s3:Same H (upd U2 p3 (.lst (([w.worth a c,w.worth b c].map V.int)++([w.worth a d,w.worth b d].map V.int)))):=z9q (s1.trans s2) hp3
  refine⟨_,rfl,_,rfl,_,s2 _ _ e3,_,e4,zl 4 (by decide),?_⟩
  generalize upd U2 p3 (.lst (([w.worth a c,w.worth b c].map V.int)++([w.worth a d,w.worth b d].map V.int)))=U3 at e5 s3 |-
  refine⟨_,rfl,_,SqL.of e5,by simp[z35],fun lo hlo hlo2=>⟨_,rfl,_,SqL.of e5,by simp[z35],fun hi hhi hhi2=>⟨zl 2 (by decide),fun p5 hp5=>?_⟩⟩⟩
  exact q _ _ (some (lo,hi)) (s3.trans (z05 hp5 _)) ⟨lo,hi,rfl,hlo,hhi,fun v hv=>⟨hlo2 v hv,hhi2 v hv⟩⟩ (zgt z01)
def OfRel(w:Wd)(s t r:S):Prop:=match s,t with
 | some (a,b),some (c,d)=>IsS w a b c d r
 | _,_=>r=none
def okS(n:Nat)(s:S):Prop:=match s with
 | none=>True
 | some (a,b)=>a<=b/\a.natAbs < n/\b.natAbs < n
def q3u:Sp:=fun vs H Q _=>∃(w:Wd) (x y:V) (s t:S),vs=[.str w.str,x,y]/\Dt H x (z8v s)/\Dt H y (z8v t)/\okS 1073741824 s/\okS 1073741824 t/\∀(r:V) (H':Hp) (o:S),Same H H'->OfRel w s t o->Dt H' r (z8v o)->Q r H'
theorem zis(F:Fun K "stretch_of" "stretch_of" z0n f fd) (b_min:mg "min" = none) (b_max:mg "max" = none) (c_between:Callee P w K mg base "between" ["low","high"] 1 zfo) (c_joined:Callee P w K mg base "joined" ["one","other"] 1 (zy1 q3h))
  (c_stretch_of_same:Callee P w K mg base "stretch_of_same" ["one","other"] 3 (zy1 zy5)) (c_stretch_of_ends:Callee P w K mg base "stretch_of_ends" ["word","one","other"] 2 zww):FnOk P w K mg base CX0 4 f fd ["word","one","other"] q3u:=by
 refine F.ok sc_stretch_of (fun vs H Q E h=>?_) (fun cdv A outer s H vs Q E hr h=>?_)
 ·obtain⟨w,x,y,s,t,rfl,_⟩:=h
  rfl
 obtain⟨w,x,y,s,t,rfl,hx,hy,hs,ht,q⟩:=h
 refine⟨_,(z02 (z1h (z0d (gEq hr.units) (z00 (i:=0) rfl z1y z49 z4b) z0y (z0j _)) (z07 (z0b (z15 c_stretch_of_same hr (by omega) (z09 (z00 (i:=1) rfl z36 z1r z1s) (z09 (z00 (i:=2) rfl z11 z0p z0q) z03)) z5c zc5))) z0f)
 (z02 (z1h (PW.pt (zrj (z0d (gEq hr.units) (z00 (i:=0) rfl z1y z49 z4b) z0y (z0j _)) (zmg (z0d zqf (z00 (i:=2) rfl z11 z0p z0q) z1v (z0j _))))) (z02 (z19 (i:=3) sc_stretch_of.nd rfl za0 (z15 c_between hr (by omega) (z09 (z0r z0g (z00 (i:=2) rfl z11 z0p z0q) z06 (fun _ _=>rfl)) (z09 (z4q (zck rfl) zdj b_min zic (z09 (z0r z0g (z00 (i:=2) rfl z11 z0p z0q) z06 (fun _ _=>rfl)) (z09 (zv7 znx z06) z03)) zi2 zi8) z03)) z4y zdt) (z04 rfl))
 (z02 (z19 (i:=4) sc_stretch_of.nd rfl za1 (z15 c_between hr (by omega) (z09 (z4q (zcl rfl) zdk b_max zid (z09 (z0r z0g (z00 (i:=2) rfl z11 z0p z0q) z06 (fun _ _=>rfl)) (z09 z06 z03)) zi3 zi9) (z09 (z0r z0g (z00 (i:=2) rfl z11 z0p z0q) z06 (fun _ _=>rfl)) z03)) z4y zdt) (z04 rfl))
 (z07 (z0b (z15 c_joined hr (by omega) (z09 (z15 c_stretch_of_ends hr (by omega) (z09 (z00 (i:=0) rfl z1y z49 z4b) (z09 (z00 (i:=1) rfl z36 z1r z1s) (z09 (z00 (i:=3) rfl z9w zwg zwk) z03))) z1o z4a) (z09 (z15 c_stretch_of_ends hr (by omega) (z09 (z00 (i:=0) rfl z1y z49 z4b) (z09 (z00 (i:=1) rfl z36 z1r z1s) (z09 (z00 (i:=4) rfl z9x zwh zwl) z03))) z1o z4a) z03)) za4 ztm))))) z0f)
 (z07 (z0b (z15 c_stretch_of_ends hr (by omega) (z09 (z00 (i:=0) rfl z1y z49 z4b) (z09 (z00 (i:=1) rfl z36 z1r z1s) (z09 (z00 (i:=2) rfl z11 z0p z0q) z03))) z1o z4a))))),?_⟩
 walk_at "rd"
 refine⟨_,eqW w .same,?_⟩
 split
 ·rename_i e
  cases of_decide_eq_true e
  refine⟨x,y,s,t,rfl,hx,hy,fun r H' s1 dr=>q r H' _ s1 ?_ dr⟩
  match s,t,hs,ht with
  | none,none,_,_=>exact rfl
  | none,some (c,d),_,_=>exact rfl
  | some (a,b),none,_,_=>exact rfl
  | some (a,b),some (c,d),hs,ht=>exact zuu hs.1 ht.1
 rename_i n1
 have n1:w≠.same:=fun z=>n1 (decide_eq_true z)
 refine⟨_,eqW w .quo,?_⟩
 split
 ·rename_i e
  cases of_decide_eq_true e
  rcases dtS hy with⟨rfl,rfl⟩ | ⟨c,d,p2,rfl,rfl,hp2⟩
  ·rw [if_neg (by simp)]
   refine⟨.quo,x,.non,s,none,rfl,hx,hy,trivial,fun r H' o s1 rel dr=>q r H' o s1 ?_ dr⟩
   match s,rel with
   | none,rel=>exact rel
   | some (a,b),rel=>exact rel
  ·rw [if_pos (by simp)]
   obtain⟨hcd,hc,hd⟩:=ht
   refine⟨_,rfl,_,SqT.of hp2,_,rfl,_,rfl,_,SqT.of hp2,_,rfl,_,_,⟨rfl,rfl⟩,_,_,rfl,fun r1 H1 s1 d1=>?_⟩
   have d1:Dt H1 r1 (z8v (bet c (mn d (-1)))):=d1
   refine⟨_,rfl,_,SqT.of (s1 _ _ hp2),_,rfl,_,_,⟨rfl,rfl⟩,_,rfl,_,SqT.of (s1 _ _ hp2),_,rfl,_,_,rfl,fun r2 H2 s2 d2=>?_⟩
   have d2:Dt H2 r2 (z8v (bet (mx c 1) d)):=d2
   have sm1:q09 .quo (bet c (mn d (-1))):=by
    unfold bet
    split
    ·trivial
    ·rename_i h
     unfold mn at h |-
     split at h<;>rename_i g<;>simp only[g,if_true,if_false]<;>exact⟨fun _=>⟨by omega,by omega⟩,by omega,by omega⟩
   have sm2:q09 .quo (bet (mx c 1) d):=by
    unfold bet
    split
    ·trivial
    ·rename_i h
     unfold mx at h |-
     split at h<;>rename_i g<;>simp only[g,if_true,if_false]<;>exact⟨fun _=>⟨by omega,by omega⟩,by omega,by omega⟩
   refine⟨.quo,x,r1,s,_,rfl,hx.kp (s1.trans s2).kp,d1.kp s2.kp,sm1,fun r3 H3 o3 s3 rel3 d3=>?_⟩
   refine⟨.quo,x,r2,s,_,rfl,hx.kp (s1.trans (s2.trans s3)).kp,d2.kp s3.kp,sm2,fun r4 H4 o4 s4 rel4 d4=>?_⟩
   refine⟨r3,r4,o3,o4,rfl,d3.kp s4.kp,d4,fun r5 H5 s5 d5=>q r5 H5 _ (s1.trans (s2.trans (s3.trans (s4.trans s5)))) ?_ d5⟩
   match s,hs,rel3,rel4 with
   | none,_,rel3,rel4=>
    have e3:o3=none:=by
     revert rel3
     cases bet c (mn d (-1))<;>exact id
    have e4:o4=none:=by
     revert rel4
     cases bet (mx c 1) d<;>exact id
    rw [e3,e4]; exact rfl
   | some (a,b),hs,rel3,rel4=>
    refine zyf hs.1 hcd ?_ ?_
    ·revert rel3
     cases bet c (mn d (-1))<;>exact id
    ·revert rel4
     cases bet (mx c 1) d<;>exact id
 ·rename_i n2
  have n2:w≠.quo:=fun z=>n2 (decide_eq_true z)
  refine⟨w,x,y,s,t,rfl,hx,hy,?_,fun r H' o s1 rel dr=>q r H' o s1 ?_ dr⟩
  ·match t,ht with
   | none,_=>trivial
   | some (c,d),ht=>exact⟨fun z=>absurd z n2,ht.2.1,ht.2.2⟩
  ·match s,t,hs,ht,rel with
   | none,none,_,_,rel=>exact rel
   | none,some (c,d),_,_,rel=>exact rel
   | some (a,b),none,_,_,rel=>exact rel
   | some (a,b),some (c,d),hs,ht,rel=>
    obtain⟨lo,hi,rfl,hh⟩:=rel
    exact zc2 n1 hs.1 ht.1 (fun z=>absurd z n2) hh
end
theorem Same.seqT{K:PySem.W.Frag}{H H':Hp}{a:Addr}{xs:List V}(e:Same H H')(h:SqT K H a xs):SqT K H' a xs:=by
 rcases h with(h | ⟨o,h⟩) | h
 ·exact .inl (.inl (e _ _ h))
 ·exact .inl (.inr ⟨o,e _ _ h⟩)
 ·exact .inr h
def StK(K:PySem.W.Frag)(H:Hp)(x:V)(s:S):Prop:=(s=none/\x=.non)\/∃a b p,s=some (a,b)/\x=.ref p/\SqT K H p [.int a,.int b]
theorem StK.of{K:PySem.W.Frag}{H:Hp}{x:V}{s:S}(h:Dt H x (z8v s)):StK K H x s:=by
 rcases dtS h with h | ⟨a,b,p,h1,h2,h3⟩
 ·exact .inl h
 ·exact .inr ⟨a,b,p,h1,h2,SqT.of h3⟩
theorem StK.same{K:PySem.W.Frag}{H H':Hp}{x:V}{s:S}(h:StK K H x s)(e:Same H H'):StK K H' x s:=by
 rcases h with h | ⟨a,b,p,h1,h2,h3⟩
 ·exact .inl h
 ·exact .inr ⟨a,b,p,h1,h2,Same.seqT e h3⟩
theorem StK.fl{K:PySem.W.Frag}{H:Hp}{x:V}{s:S}(h:StK K H x s):FlK K H x (z8v s):=by
 rcases h with⟨rfl,rfl⟩ | ⟨a,b,p,rfl,rfl,h3⟩
 ·exact .inl .non
 ·exact .inr ⟨p,[a,b],rfl,rfl,h3⟩
section
variable{P:Program}{w:World}{K:PySem.W.Frag}{mg:Str->Option Value}{base:Heap}{f:Addr}{fd:FuncData}
theorem Callee.imp{x:Str}{ps:List Str}{k:Nat}{sp sp':Sp}(h:Callee P w K mg base x ps k sp)(i:∀vs H Q E,sp' vs H Q E->sp vs H Q E):Callee P w K mg base x ps k sp':=by
 obtain⟨f,fd,a,b,c,d⟩:=h
 exact⟨f,fd,a.imp i,b,c,d⟩
def zy0(K:PySem.W.Frag)(g:S->S->S):Sp:=fun vs H Q _=>∃(x y:V) (s t:S),vs=[x,y]/\StK K H x s/\StK K H y t/\∀(r:V) (H':Hp),Same H H'->Dt H' r (z8v (g s t))->Q r H'
theorem zy9{g:S->S->S}(vs:List V)(H:Hp)(Q:VK)(E:XK)(h:zy1 g vs H Q E):zy0 K g vs H Q E:=by
 obtain⟨x,y,s,t,e,h1,h2,q⟩:=h
 exact⟨x,y,s,t,e,.of h1,.of h2,q⟩
theorem zz1(F:Fun K "met" "met" zed f fd) (b_min:mg "min" = none) (b_max:mg "max" = none) (c_between:Callee P w K mg base "between" ["low","high"] 1 zfo):FnOk P w K mg base CX0 2 f fd ["one","other"] (zy0 K zq5):=by
 refine F.ok q0x (fun vs H Q E h=>?_) (fun cdv A outer s H vs Q E hr h=>?_)
 ·obtain⟨x,y,s,t,rfl,_⟩:=h
  rfl
 obtain⟨x,y,s,t,rfl,hx,hy,q⟩:=h
 refine⟨_,(z02 (z1h (PW.pt (zmf (z0d zqg (z00 (i:=0) rfl zal z1r z1s) z1v (z0j _)) (zfs (z0d zqg (z00 (i:=1) rfl z7y z0p z0q) z1v (z0j _))))) (z07 (z0b z1v)) z0f)
 (z07 (z0b (z15 c_between hr (by omega) (z09 (z4q (zcl rfl) zqd b_max zid (z09 (z0r z0g (z00 (i:=0) rfl zal z1r z1s) z06 (fun _ _=>rfl)) (z09 (z0r z0g (z00 (i:=1) rfl z7y z0p z0q) z06 (fun _ _=>rfl)) z03)) zi3 zi9) (z09 (z4q (zck rfl) zqc b_min zic (z09 (z0r z0g (z00 (i:=0) rfl zal z1r z1s) z06 (fun _ _=>rfl)) (z09 (z0r z0g (z00 (i:=1) rfl z7y z0p z0q) z06 (fun _ _=>rfl)) z03)) zi2 zi8) z03)) zhl zdt)))),zdy fun N1 e1=>?_⟩
 rcases hx with⟨rfl,rfl⟩ | ⟨a,b,p,rfl,rfl,hp⟩<;>rcases hy with⟨rfl,rfl⟩ | ⟨c,d,p2,rfl,rfl,hp2⟩<;>walk_at "rd"
 ·exact q _ _ (Same.refl _) .non
 ·exact q _ _ (Same.refl _) .non
 ·exact q _ _ (Same.refl _) .non
 ·rw [e1]
  walk_at "rd"
  exact⟨_,hp,_,rfl,_,hp2,_,rfl,_,_,⟨rfl,rfl⟩,_,hp,_,rfl,_,hp2,_,rfl,_,_,⟨rfl,rfl⟩,_,_,rfl,fun r H' s1 hr'=>q _ _ s1 hr'⟩
end
abbrev Bk:=List (Str×Int×Int)
def BkR(H:Hp)(kvs:List (Key×V))(bk:Bk):Prop:=Paired (fun(p:Key×V) (q:Str×Int×Int)=>p.1=.inr q.1/\Dt H p.2 (z8v (some q.2))) kvs bk
theorem BkR.kp{H H':Hp}{kvs:List (Key×V)}{bk:Bk}(h:BkR H kvs bk)(k:Kp H H'):BkR H' kvs bk:=Paired.mapP h fun _ _ z=>⟨z.1,z.2.kp k⟩
def look:Bk->Str->S
 | [],_=>none
 | q::r,x=>if q.1=x then some q.2 else look r x
def zie(bk:Bk)(x:Str)(s:Int×Int):Bk:=if(bk.any fun q=>decide (q.1=x))=true then bk.map (fun q=>if q.1=x then(q.1,s) else q) else bk++[(x,s)]
theorem BkR.look{H:Hp}{kvs:List (Key×V)}{bk:Bk}(h:BkR H kvs bk)(x:Str):(look bk x=none/\zig kvs (.inr x)=none)\/∃s v,look bk x=some s/\zig kvs (.inr x)=some v/\Dt H v (z8v (some s)):=by
 unfold BkR at h
 induction h with
 | nil=>exact .inl ⟨rfl,rfl⟩
 | cons rr _ ih=>
  rename_i p q _ _ _
  obtain⟨e,d⟩:=rr
  by_cases hx:q.1=x
  ·refine .inr ⟨q.2,p.2,?_,zbh (by rw [e,hx]),d⟩
   unfold SR.look
   rw [if_pos hx]
  ·rw [zbi (by rw [e]; intro z; exact hx (Sum.inr.inj z))]
   unfold SR.look
   rw [if_neg hx]
   exact ih
theorem BkR.any{H:Hp}{kvs:List (Key×V)}{bk:Bk}(h:BkR H kvs bk)(x:Str):(kvs.any fun kv=>decide (kv.1=(Sum.inr x:Key)))=bk.any fun q=>decide (q.1=x):=by
 unfold BkR at h
 induction h with
 | nil=>rfl
 | cons rr _ ih=>
  rename_i p q _ _ _
  rw [List.any_cons,List.any_cons,ih,rr.1,zx9]
theorem BkR.put_map{H:Hp}{x:Str}{v:V}{s:Int×Int}(d:Dt H v (z8v (some s))){kvs:List (Key×V)}{bk:Bk}(h:BkR H kvs bk):BkR H (kvs.map fun kv=>if kv.1=Sum.inr x then(kv.1,v) else kv) (bk.map fun q=>if q.1=x then(q.1,s) else q):=by
 unfold BkR at h |-
 induction h with
 | nil=>exact .nil
 | cons rr _ ih=>
  rename_i p q _ _ _
  rw [List.map_cons,List.map_cons]
  refine .cons ?_ ih
  by_cases hx:q.1=x
  ·rw [if_pos hx,if_pos (show p.1=Sum.inr x by rw [rr.1,hx])]
   exact⟨rr.1,d⟩
  ·rw [if_neg hx,if_neg (show ¬ p.1=Sum.inr x by rw [rr.1]; intro z; exact hx (Sum.inr.inj z))]
   exact rr
theorem BkR.put{H:Hp}{kvs:List (Key×V)}{bk:Bk}(h:BkR H kvs bk)(x:Str){v:V}{s:Int×Int}(d:Dt H v (z8v (some s))):BkR H (zew kvs (.inr x) v) (zie bk x s):=by
 unfold zew zie
 rw [h.any x]
 split
 ·exact h.put_map d
 ·exact Paired.snoc h ⟨rfl,d⟩
theorem BkR.length{H:Hp}{kvs:List (Key×V)}{bk:Bk}(h:BkR H kvs bk):kvs.length=bk.length:=Paired.length h
theorem Rd.same{H H':Hp}{a:Addr}{u:HO}(r:Rd H a u)(s:Same H H'):Rd H' a u:=r.imp (s _ _) fun⟨o,e⟩=>⟨o,s _ _ e⟩
theorem DGet.kr{H:Hp}{a:Addr}{kvs:List (Key×V)}{k:Key}(e:Rd H a (.dK kvs)):DGet H a (kV k) (zig kvs k):=.inl ⟨kvs,k,e,rfl,rfl⟩
def IsBk(H:Hp)(d:Addr)(bk:Bk):Prop:=∃kvs,Rd H d (.dK kvs)/\BkR H kvs bk
theorem IsBk.same{H H':Hp}{d:Addr}{bk:Bk}(h:IsBk H d bk)(s:Same H H'):IsBk H' d bk:=by
 obtain⟨kvs,e,r⟩:=h
 exact⟨kvs,Rd.same e s,r.kp s.kp⟩
def q2w(H:Hp)(r:V)(o:Option Bk):Prop:=match o with
 | none=>r=.non
 | some bk=>∃d,r=.ref d/\IsBk H d bk
theorem zmv{H:Hp}{p:Addr}{kvs kvs':List (Key×V)}(h:H p=some (.dK kvs)):Kp H (upd H p (.dK kvs')):=
 ⟨fun b zs e=>by rw [z0a (zg0 e h (by intro z; cases z))]; exact e,fun b zs e=>⟨zs,by rw [z0a (zg0 e h (by intro z; cases z))]; exact e⟩⟩
section
variable{P:Program}{w:World}{K:PySem.W.Frag}{mg:Str->Option Value}{base:Heap}{f:Addr}{fd:FuncData}
end
theorem q4t{H:Hp}{x:V}{o:Int×Int}(h:Dt H x (z8v (some o))):∃p,x=.ref p/\H p=some (.tup [.int o.1,.int o.2]):=by
 rcases dtS h with⟨e,_⟩ | ⟨a,b,p,e,hx,hp⟩
 ·cases e
 ·cases e; exact⟨p,hx,hp⟩
theorem zjp(bk:Bk)(x:Str)(s:Int×Int):(zie bk x s).length<=bk.length+1:=by
 unfold zie
 split
 ·rw [List.length_map]; omega
 ·rw [List.length_append]; simp
abbrev Pth:=List Int
abbrev Nts:=List (Pth×Int×Int)
def zh3(p:Pth):List Key:=p.map Sum.inl
theorem zir:∀p:Pth,(zh3 p).map kV=p.map V.int
 | []=>rfl
 | i::r=>by
  show kV (.inl i)::(zh3 r).map kV=.int i::r.map V.int
  rw [zir r]; rfl
theorem zf0:∀{p q:Pth},zh3 p=zh3 q->p=q
 | [],[],_=>rfl
 | [],_::_,h=>by cases h
 | _::_,[],h=>by cases h
 | i::p,j::q,h=>by
  have h:Sum.inl i::zh3 p=(Sum.inl j:Key)::zh3 q:=h
  injection h with h1 h2
  injection h1 with h1
  rw [h1,zf0 h2]
theorem zve(p q:Pth):decide (zh3 p=zh3 q)=decide (p=q):=by
 rw [decide_eq_decide]
 exact⟨zf0,fun h=>by rw [h]⟩
def PtA(H:Hp)(v:V)(p:Pth):Prop:=∃a,v=.ref a/\H a=some (.tup (p.map V.int))
theorem PtA.kp{H H':Hp}{v:V}{p:Pth}(h:PtA H v p)(k:Kp H H'):PtA H' v p:=by
 obtain⟨a,e,h⟩:=h
 exact⟨a,e,k.t _ _ h⟩
theorem q2v{K:PySem.W.Frag}{H:Hp}{v:V}{b:Addr}{p q:Pth}{Q:VK}(h:PtA H v p)(hb:H b=some (.tup (q.map V.int)))(hl:p.length+q.length<=1000)(k:∀r H',Same H H'->PtA H' r (p++q)->Q r H'):zfr K v (.ref b) H Q:=by
 obtain⟨a,rfl,ha⟩:=h
 refine⟨a,b,_,_,rfl,rfl,SqT.of ha,SqT.of hb,by rw [List.length_map,List.length_map]; exact zl _ hl,fun e=>?_,fun _ e=>?_,fun _ _ c hc=>?_⟩
 ·have e:p=[]:=by simpa using e
  subst e
  exact k _ _ (Same.refl _) ⟨b,rfl,hb⟩
 ·have e:q=[]:=by simpa using e
  subst e
  exact k _ _ (Same.refl _) ⟨a,rfl,by rw [List.append_nil]; exact ha⟩
 ·exact k _ _ (z05 hc _) ⟨c,rfl,by rw [z01,List.map_append]⟩
def NtR(H:Hp)(kvs:List (List Key×V))(ns:Nts):Prop:=Paired (fun(p:List Key×V) (q:Pth×Int×Int)=>p.1=zh3 q.1/\Dt H p.2 (z8v (some q.2))) kvs ns
theorem NtR.kp{H H':Hp}{kvs:List (List Key×V)}{ns:Nts}(h:NtR H kvs ns)(k:Kp H H'):NtR H' kvs ns:=Paired.mapP h fun _ _ z=>⟨z.1,z.2.kp k⟩
def zsa(ns:Nts)(p:Pth)(s:Int×Int):Nts:=if(ns.any fun q=>decide (q.1=p))=true then ns.map (fun q=>if q.1=p then(q.1,s) else q) else ns++[(p,s)]
theorem zvm(ns:Nts)(p:Pth)(s:Int×Int):(zsa ns p s).length<=ns.length+1:=by
 unfold zsa
 split
 ·rw [List.length_map]; omega
 ·rw [List.length_append]; simp
theorem NtR.any{H:Hp}{kvs:List (List Key×V)}{ns:Nts}(h:NtR H kvs ns)(p:Pth):(kvs.any fun kv=>decide (kv.1=zh3 p))=ns.any fun q=>decide (q.1=p):=by
 unfold NtR at h
 induction h with
 | nil=>rfl
 | cons rr _ ih=>
  rename_i a q _ _ _
  rw [List.any_cons,List.any_cons,ih,rr.1,zve]
theorem NtR.put_map{H:Hp}{p:Pth}{v:V}{s:Int×Int}(d:Dt H v (z8v (some s))){kvs:List (List Key×V)}{ns:Nts}(h:NtR H kvs ns):NtR H (kvs.map fun kv=>if kv.1=zh3 p then(kv.1,v) else kv) (ns.map fun q=>if q.1=p then(q.1,s) else q):=by
 unfold NtR at h |-
 induction h with
 | nil=>exact .nil
 | cons rr _ ih=>
  rename_i a q _ _ _
  rw [List.map_cons,List.map_cons]
  refine .cons ?_ ih
  by_cases hx:q.1=p
  ·rw [if_pos hx,if_pos (show a.1=zh3 p by rw [rr.1,hx])]
   exact⟨rr.1,d⟩
  ·rw [if_neg hx,if_neg (show ¬ a.1=zh3 p by rw [rr.1]; intro z; exact hx (zf0 z))]
   exact rr
theorem NtR.put{H:Hp}{kvs:List (List Key×V)}{ns:Nts}(h:NtR H kvs ns)(p:Pth){v:V}{s:Int×Int}(d:Dt H v (z8v (some s))):NtR H (zew kvs (zh3 p) v) (zsa ns p s):=by
 unfold zew zsa
 rw [h.any p]
 split
 ·exact h.put_map d
 ·exact Paired.snoc h ⟨rfl,d⟩
theorem NtR.length{H:Hp}{kvs:List (List Key×V)}{ns:Nts}(h:NtR H kvs ns):kvs.length=ns.length:=Paired.length h
def SB(n:Addr)(H H':Hp):Prop:=∀b o,H b=some o->H' b=some o\/(∃ob kvs,(o=.dK kvs\/∃o2,o=.frz o2 (.dK kvs))/\H' b=some (.frz ob (.dK kvs)))\/(b=n/\∃k k',o=.dT k/\H' b=some (.dT k'))
theorem SB.of{n:Addr}{H H':Hp}(s:Same H H'):SB n H H':=fun b o h=>.inl (s b o h)
theorem SB.trans{n:Addr}{H H1 H2:Hp}(a:SB n H H1)(b:SB n H1 H2):SB n H H2:=fun c o h=>by
 rcases a c o h with h1 | ⟨ob,kvs,e,h1⟩ | ⟨rfl,k,k',rfl,h1⟩
 ·exact b c o h1
 ·rcases b c _ h1 with h2 | ⟨o2,kv2,e2 | ⟨_,e2⟩,h2⟩ | ⟨_,_,_,e2,_⟩
  ·exact .inr (.inl ⟨ob,kvs,e,h2⟩)
  ·cases e2
  ·cases e2
   exact .inr (.inl ⟨o2,kvs,e,h2⟩)
  ·cases e2
 ·rcases b c _ h1 with h2 | ⟨_,_,e | ⟨_,e⟩,_⟩ | ⟨_,k1,k2,e,h2⟩
  ·exact .inr (.inr ⟨rfl,k,k',rfl,h2⟩)
  ·cases e
  ·cases e
  ·exact .inr (.inr ⟨rfl,k,k2,rfl,h2⟩)
theorem SB.stay{n:Addr}{H H':Hp}(s:SB n H H'){b:Addr}{o:HO}(h:H b=some o)(n1:∀k,o≠.dK k)(n2:∀k,o≠.dT k)(n3:∀ob u,o≠.frz ob u):H' b=some o:=by
 rcases s b o h with h1 | ⟨_,_,e | ⟨_,e⟩,_⟩ | ⟨_,_,_,e,_⟩
 ·exact h1
 ·exact absurd e (n1 _)
 ·exact absurd e (n3 _ _)
 ·exact absurd e (n2 _)
theorem SB.kp{n:Addr}{H H':Hp}(s:SB n H H'):Kp H H':=⟨fun b xs h=>s.stay h (fun _ z=>by cases z) (fun _ z=>by cases z) (fun _ _ z=>by cases z),fun b xs h=>⟨xs,s.stay h (fun _ z=>by cases z) (fun _ z=>by cases z) (fun _ _ z=>by cases z)⟩⟩
theorem SB.ins{n:Addr}{H H':Hp}(s:SB n H H'){a C dx:Addr}{fs:List (Str×V)}(h:H a=some (.ins C dx fs)):H' a=some (.ins C dx fs):=s.stay h (fun _ z=>by cases z) (fun _ z=>by cases z) (fun _ _ z=>by cases z)
theorem SB.bk{n:Addr}{H H':Hp}(s:SB n H H'){d:Addr}{bk:Bk}(h:IsBk H d bk):IsBk H' d bk:=by
 obtain⟨kvs,e,r⟩:=h
 refine⟨kvs,?_,r.kp s.kp⟩
 rcases e with e | ⟨o,e⟩
 ·rcases s _ _ e with h1 | ⟨ob,_,e | ⟨_,e⟩,h1⟩ | ⟨_,_,_,e,_⟩
  ·exact .inl h1
  ·cases e; exact .inr ⟨ob,h1⟩
  ·cases e
  ·cases e
 ·rcases s _ _ e with h1 | ⟨ob,_,e | ⟨_,e⟩,h1⟩ | ⟨_,_,_,e,_⟩
  ·exact .inr ⟨o,h1⟩
  ·cases e
  ·cases e; exact .inr ⟨ob,h1⟩
  ·cases e
structure Wk(K:PySem.W.Frag)(H:Hp)(a n:Addr)(ns:Nts):Prop where
 ob:∃C dx fs,H a=some (.ins C dx fs)/\Cls K C/\NoAttr K C "notes"/\fs.lookup ("notes" : Str)=some (V.ref n)
 nt:∃kvs,H n=some (.dT kvs)/\NtR H kvs ns
theorem Wk.same{K:PySem.W.Frag}{H H':Hp}{a n:Addr}{ns:Nts}(h:Wk K H a n ns)(s:Same H H'):Wk K H' a n ns:=by
 obtain⟨⟨C,dx,fs,e,c,d,l⟩,kvs,e2,r⟩:=h
 exact⟨⟨C,dx,fs,s _ _ e,c,d,l⟩,kvs,s _ _ e2,r.kp s.kp⟩
def q0o:Int×Int:=(-32768,32767)
theorem OfRel.unique{w:Wd}{s t r r':S}(h:OfRel w s t r)(k:OfRel w s t r'):r=r':=by
 match s,t,h,k with
 | none,none,h,k=>exact h.trans k.symm
 | none,some _,h,k=>exact h.trans k.symm
 | some _,none,h,k=>exact h.trans k.symm
 | some (a,b),some (c,d),h,k=>exact IsS.unique h k
open Classical in
noncomputable def stF (w:Wd) (s t:S):S:=if h:∃r,OfRel w s t r then h.choose else none
theorem zwu{w:Wd}{s t r:S}(h:OfRel w s t r):stF w s t=r:=by
 have e:∃r,OfRel w s t r:=⟨r,h⟩
 unfold stF
 rw [dif_pos e]
 exact OfRel.unique e.choose_spec h
def zse(s:S)(p:Pth)(ns:Nts):Nts:=match s with
 | none=>ns
 | some r=>zsa ns p r
theorem ziv(s:S)(p:Pth)(ns:Nts):(zse s p ns).length<=ns.length+1:=by
 cases s with
 | none=>exact Nat.le_succ _
 | some r=>exact zvm ns p r
def zvn(s:S)(p:Pth)(ns:Nts):S×Nts:=(zq5 s (some q0o),zse s p ns)
theorem zmu(s:S):okS 1073741824 (zq5 s (some q0o)):=by
 match s with
 | none=>trivial
 | some (a,b)=>
  show okS _ (bet (mx a (-32768)) (mn b 32767))
  unfold bet
  split
  ·trivial
  ·rename_i h
   unfold mx mn at *
   refine⟨?_,?_,?_⟩<;>(repeat' split at h)<;>(repeat' split)<;>omega
def T.sz:T->Nat
 | .op _ a b=>a.sz+b.sz+1
 | .num _=>1
 | .nm _=>1
noncomputable def shS (bk:Bk):T->Pth->Nts->S×Nts
 | .num i,p,ns=>zvn (some (i,i)) p ns
 | .nm x,p,ns=>zvn (look bk x) p ns
 | .op w a b,p,ns=>
  if(shS bk a (p++[0]) ns).1=none then(none,(shS bk a (p++[0]) ns).2)
  else zvn (stF w (shS bk a (p++[0]) ns).1 (shS bk b (p++[1]) (shS bk a (p++[0]) ns).2).1) p (shS bk b (p++[1]) (shS bk a (p++[0]) ns).2).2
theorem z94(bk:Bk):∀(t:T) (p:Pth) (ns:Nts),(shS bk t p ns).2.length<=ns.length+t.sz
 | .num i,p,ns=>by rw [shS]; exact ziv (some (i,i)) p ns
 | .nm x,p,ns=>by rw [shS]; exact ziv (look bk x) p ns
 | .op w a b,p,ns=>by
  have h1:=z94 bk a (p++[0]) ns
  have h2:=z94 bk b (p++[1]) (shS bk a (p++[0]) ns).2
  rw [shS,T.sz]
  split
  ·dsimp only; omega
  ·have:=ziv (stF w (shS bk a (p++[0]) ns).1 (shS bk b (p++[1]) (shS bk a (p++[0]) ns).2).1) p (shS bk b (p++[1]) (shS bk a (p++[0]) ns).2).2
   dsimp only[zvn]; omega
theorem zwy(bk:Bk)(t:T)(p:Pth)(ns:Nts):okS 1073741824 (shS bk t p ns).1:=by
 cases t with
 | num i=>rw [shS]; exact zmu (some (i,i))
 | nm x=>rw [shS]; exact zmu (look bk x)
 | op w a b=>
  rw [shS]
  split
  ·trivial
  ·exact zmu _
section
variable{P:Program}{w:World}{K:PySem.W.Frag}{mg:Str->Option Value}{base:Heap}{f:Addr}{fd:FuncData}
def zr8(K:PySem.W.Frag):Sp:=fun vs H Q _=>∃(v pv:V) (s:S) (p:Pth) (a n:Addr) (ns:Nts),vs=[v,pv,.ref a]/\Dt H v (z8v s)/\PtA H pv p/\Wk K H a n ns/\ns.length<=900/\∀(r:V) (H':Hp),SB n H H'->Wk K H' a n (zvn s p ns).2->Dt H' r (z8v (zvn s p ns).1)->Q r H'
theorem zvj{rw:Addr} (F:Fun K "noted" "noted" z5a f fd) (g_WIDE:GC mg "WIDE" (.ref rw)) (hW:∀H,SqT K H rw [.int (-32768),.int 32767]) (c_met:Callee P w K mg base "met" ["one","other"] 2 (zy0 K zq5)):FnOk P w K mg base CX0 3 f fd ["stretch","path","walk"] (zr8 K):=by
 refine F.ok zut (fun vs H Q E h=>?_) (fun cdv A outer s H vs Q E hr h=>?_)
 ·obtain⟨v,pv,s,p,a,n,ns,rfl,_⟩:=h
  rfl
 obtain⟨v,pv,s,p,a,n,ns,rfl,hv,hp,hw,hl,q⟩:=h
 refine⟨_,(z02 (z1h (z0d zqf (z00 (i:=0) rfl z4k zdq zdv) z1v (z0j _)) (z07 (zd7 hr.units1 (zrr (z00 (i:=2) rfl zh5 z3d z3e) rfl) (z00 (i:=1) rfl zh6 z0t z0u) (z00 (i:=0) rfl z4k zdq zdv) (z04 rfl))) z0f)
 (z07 (z0b (z15 c_met hr (by omega) (z09 (z00 (i:=0) rfl z4k zdq zdv) (z09 (zva g_WIDE zj4 znk) z03)) zkq zxi)))),?_⟩
 rcases dtS hv with⟨rfl,rfl⟩ | ⟨l,h,pp,rfl,rfl,hpp⟩<;>walk_at "rw"
 ·exact⟨_,_,none,some q0o,rfl,.of hv,.inr ⟨_,_,rw,rfl,rfl,hW _⟩,fun r H' s1 dr=>q r H' (.of s1) (hw.same s1) dr⟩
 ·obtain⟨pa,rfl,hpa⟩:=hp
  obtain⟨⟨C,dx,fs,e,c,d,lk⟩,kvs,e2,r⟩:=hw
  refine⟨C,dx,fs,e,c,d,_,lk,n,rfl,_,DPut.t (k:=zh3 p) e2 (by rw [zir]; exact hpa) (by rw [r.length]; exact z20 (by omega)),?_⟩
  have sb:SB n H (upd H n (.dT (zew kvs (zh3 p) (.ref pp)))):=fun b o hb=>by
   by_cases hn:b=n
   ·subst hn
    rw [e2] at hb
    cases hb
    exact .inr (.inr ⟨rfl,_,_,rfl,z01⟩)
   ·exact .inl (by rw [z0a hn]; exact hb)
  have e3:upd H n (.dT (zew kvs (zh3 p) (.ref pp))) n=_:=z01
  generalize upd H n (.dT (zew kvs (zh3 p) (.ref pp)))=U at sb e3 |-
  have hwU:Wk K U a n (zsa ns p (l,h)):=⟨⟨C,dx,fs,sb.ins e,c,d,lk⟩,_,e3,(r.kp sb.kp).put p (hv.kp sb.kp)⟩
  exact⟨_,_,some (l,h),some q0o,rfl,.of (hv.kp sb.kp),.inr ⟨_,_,rw,rfl,rfl,hW _⟩,fun r H' s1 dr=>q r H' (sb.trans (.of s1)) (hwU.same s1) dr⟩
end
section
variable{P:Program}{w:World}{K:PySem.W.Frag}{mg:Str->Option Value}{base:Heap}{f:Addr}{fd:FuncData}
def T.dp:Nat->T->Prop
 | 0,_=>False
 | n+1,.op _ a b=>T.dp n a/\T.dp n b
 | _+1,_=>True
def zjx(K:PySem.W.Frag)(k:Nat):Sp:=fun vs H Q _=>∃(v pv:V) (t:T) (p:Pth) (d a n:Addr) (bk:Bk) (ns:Nts),vs=[v,pv,.ref d,.ref a]/\Dt H v t.enc/\T.dp k t/\PtA H pv p/\IsBk H d bk/\Wk K H a n ns/\ns.length+t.sz<=900/\p.length+k<=900/\∀(r:V) (H':Hp),SB n H H'->Wk K H' a n (shS bk t p ns).2->Dt H' r (z8v (shS bk t p ns).1)->Q r H'
theorem zsb{k:Nat}{n1 n2 n3 n4:Str}:FnOk P w K mg base CX0 k f fd [n1,n2,n3,n4] (zjx K 0):=by
 have no:∀vs H Q E,¬ zjx K 0 vs H Q E:=fun vs H Q E h=>by
  obtain⟨v,pv,t,p,d,a,n,bk,ns,_,_,h,_⟩:=h
  exact h.elim
 exact⟨fun vs H Q E h=>absurd h (no vs H Q E),fun A outer s H args us vs Q E _ _ _ _ h=>absurd h (no vs H Q E)⟩
theorem zd9{n:Nat} (F:Fun K "show" "show" z4h f fd) (c_noted:Callee P w K mg base "noted" ["stretch","path","walk"] 3 (zr8 K)) (c_stretch_of:Callee P w K mg base "stretch_of" ["word","one","other"] 4 q3u)
  (c_show:Callee P w K mg base "show" ["term","path","book","walk"] (n+5) (zjx K n)):FnOk P w K mg base CX0 (n+6) f fd ["term","path","book","walk"] (zjx K (n+1)):=by
 refine F.ok sc_show (fun vs H Q E h=>?_) (fun cdv A outer s H vs Q E hr h=>?_)
 ·obtain⟨v,pv,t,p,d,a,n,bk,ns,rfl,_⟩:=h
  rfl
 obtain⟨v,pv,t,p,d,a,nn,bk,ns,rfl,hv,ht,hp,hbk,hw,hl,hpl,q⟩:=h
 refine⟨_,(z02 (z1h (z0d (gEq hr.units) (z0r z0g (z00 (i:=0) rfl z2b z3l z3m) z06 (fun _ _=>rfl)) z0y (z0j _)) (z07 (z0b (z15 c_noted hr (by omega) (z09 (z1a (z09 (z0r z0g (z00 (i:=0) rfl z2b z3l z3m) z06 (fun _ _=>rfl)) (z09 (z0r z0g (z00 (i:=0) rfl z2b z3l z3m) z06 (fun _ _=>rfl)) z03))) (z09 (z00 (i:=1) rfl z43 z0t z0u) (z09 (z00 (i:=3) rfl z42 z3d z3e) z03))) z85 zjg))) z0f)
 (z02 (z1h (z0d (gEq hr.units) (z0r z0g (z00 (i:=0) rfl z2b z3l z3m) z06 (fun _ _=>rfl)) z0y (z0j _)) (z07 (z0b (z15 c_noted hr (by omega) (z09 (zvb hr.units1 (z00 (i:=2) rfl z7x z4t z4u) (z0r z0g (z00 (i:=0) rfl z2b z3l z3m) z06 (fun _ _=>rfl)) ⟨rfl,rfl,rfl,rfl⟩) (z09 (z00 (i:=1) rfl z43 z0t z0u) (z09 (z00 (i:=3) rfl z42 z3d z3e) z03))) z85 zjg))) z0f)
 (z02 (z19 (i:=4) sc_show.nd rfl zki (z15 c_show hr (by omega) (z09 (z0r z0g (z00 (i:=0) rfl z2b z3l z3m) z06 (fun _ _=>rfl)) (z09 (z1n z2v (z00 (i:=1) rfl z43 z0t z0u) (z1a (z09 z06 z03))) (z09 (z00 (i:=2) rfl z7x z4t z4u) (z09 (z00 (i:=3) rfl z42 z3d z3e) z03)))) ze5 zn9) (z04 rfl))
 (z02 (z1h (z0d zqg (z00 (i:=4) rfl zdx z1r z1s) z1v (z0j _)) (z07 (z0b z1v)) z0f)
 (z02 (z19 (i:=5) sc_show.nd rfl zhf (z15 c_show hr (by omega) (z09 (z0r z0g (z00 (i:=0) rfl z2b z3l z3m) z06 (fun _ _=>rfl)) (z09 (z1n z2v (z00 (i:=1) rfl z43 z0t z0u) (z1a (z09 z06 z03))) (z09 (z00 (i:=2) rfl z7x z4t z4u) (z09 (z00 (i:=3) rfl z42 z3d z3e) z03)))) ze5 zn9) (z04 rfl))
 (z07 (z0b (z15 c_noted hr (by omega) (z09 (z15 c_stretch_of hr (by omega) (z09 (z0r z0g (z00 (i:=0) rfl z2b z3l z3m) z06 (fun _ _=>rfl)) (z09 (z00 (i:=4) rfl zdx z1r z1s) (z09 (z00 (i:=5) rfl zh4 z0p z0q) z03))) zbv zje) (z09 (z00 (i:=1) rfl z43 z0t z0u) (z09 (z00 (i:=3) rfl z42 z3d z3e) z03))) z85 zjg)))))))),zdy fun N1 e1=>?_⟩
 match t,hv,ht,hl with
 | .num i,hv,_,hl=>
  obtain⟨pv2,xs,rfl,hpv,da⟩:=hv.tupI
  rcases da with _ | ⟨d1,_ | ⟨d2,_ | _⟩⟩
  cases d1; cases d2
  walk_at "rw"
  refine⟨_,SqT.of hpv,_,rfl,_,.inl ⟨rfl,rfl⟩,?_⟩
  rw [if_pos (by decide+kernel)]
  rw [T.sz] at hl
  refine⟨_,SqT.of hpv,_,rfl,_,SqT.of hpv,_,rfl,zl 2 (by decide),fun p1 hp1=>?_⟩
  have s1:=z05 hp1 (HO.tup [.int i,.int i])
  refine⟨_,_,some (i,i),p,a,nn,ns,rfl,zgt z01,hp.kp s1.kp,hw.same s1,by omega,fun r H' s2 w2 dr=>?_⟩
  rw [shS] at q
  exact q r H' (SB.trans (.of s1) s2) w2 dr
 | .nm x,hv,_,hl=>
  obtain⟨pv2,xs,rfl,hpv,da⟩:=hv.tupI
  rcases da with _ | ⟨d1,_ | ⟨d2,_ | _⟩⟩
  cases d1; cases d2
  walk_at "rw"
  refine⟨_,SqT.of hpv,_,rfl,_,.inl ⟨rfl,rfl⟩,?_⟩
  rw [if_neg (by decide+kernel)]
  show N1 _ _
  rw [e1]
  refine zdy fun N2 e2=>?_
  walk_at "rw"
  refine⟨_,SqT.of hpv,_,rfl,_,.inl ⟨rfl,rfl⟩,?_⟩
  rw [if_pos (by decide+kernel)]
  rw [T.sz] at hl
  obtain⟨kvs,hd,rb⟩:=hbk
  refine⟨.inl ⟨_,hd⟩,_,SqT.of hpv,_,rfl,_,DGet.kr (k:=.inr x) hd,?_⟩
  rw [shS] at q
  rcases rb.look x with⟨z1,z2⟩ | ⟨sx,vx,z1,z2,dx⟩
  ·rw [z2]
   rw [z1] at q
   exact⟨_,_,none,p,a,nn,ns,rfl,.non,hp,hw,by omega,q⟩
  ·rw [z2]
   rw [z1] at q
   exact⟨_,_,some sx,p,a,nn,ns,rfl,dx,hp,hw,by omega,q⟩
 | .op w ta tb,hv,ht,hl=>
  obtain⟨pv2,xs,rfl,hpv,da⟩:=hv.tupI
  rcases da with _ | ⟨d1,_ | ⟨d2,_ | ⟨d3,_ | _⟩⟩⟩
  cases d1
  rename_i va vb
  rw [T.sz] at hl
  have hla:=z94 bk ta (p++[0]) ns
  walk_at "rw"
  refine⟨_,SqT.of hpv,_,rfl,_,.inl ⟨rfl,rfl⟩,?_⟩
  rw [if_neg (by cases w<;>decide+kernel)]
  show N1 _ _
  rw [e1]
  refine zdy fun N2 e2=>?_
  walk_at "rw"
  refine⟨_,SqT.of hpv,_,rfl,_,.inl ⟨rfl,rfl⟩,?_⟩
  rw [if_neg (by cases w<;>decide+kernel)]
  show N2 _ _
  rw [e2]
  walk_at "rw"
  refine⟨_,SqT.of hpv,_,rfl,zl 1 (by decide),fun p1 hp1=>?_⟩
  have s1:=z05 hp1 (HO.tup [.int 0])
  have e3:upd H p1 (HO.tup [.int 0]) p1=_:=z01
  generalize upd H p1 (HO.tup [.int 0])=U at s1 e3 |-
  refine q2v (q:=[0]) (hp.kp s1.kp) e3 (by simp; omega) fun r2 H2 s2 hr2=>?_
  have s12:=s1.trans s2
  refine⟨va,r2,ta,p++[0],d,a,nn,bk,ns,rfl,d2.kp s12.kp,ht.1,hr2,hbk.same s12,hw.same s12,by omega,by simp; omega,fun r3 H3 s3 w3 dr3=>?_⟩
  have sb3:SB nn H H3:=SB.trans (.of s12) s3
  rw [shS] at q
  rcases dtS dr3 with⟨z,rfl⟩ | ⟨l,h,pp,z,rfl,hpp⟩
  ·walk_at "rw"
   rw [if_pos z] at q
   exact q _ _ sb3 w3 .non
  ·rw [if_neg (by rw [z]; simp)] at q
   walk_at "rw"
   refine⟨_,SqT.of (sb3.kp.t _ _ hpv),_,rfl,zl 1 (by decide),fun p4 hp4=>?_⟩
   have s4:=z05 hp4 (HO.tup [.int 1])
   have e4:upd H3 p4 (HO.tup [.int 1]) p4=_:=z01
   generalize upd H3 p4 (HO.tup [.int 1])=U4 at s4 e4 |-
   refine q2v (q:=[1]) ((hp.kp sb3.kp).kp s4.kp) e4 (by simp; omega) fun r5 H5 s5 hr5=>?_
   have s45:=s4.trans s5
   have sb5:SB nn H H5:=sb3.trans (.of s45)
   refine⟨vb,r5,tb,p++[1],d,a,nn,bk,(shS bk ta (p++[0]) ns).2,rfl,d3.kp sb5.kp,ht.2,hr5,sb5.bk hbk,w3.same s45,by omega,by simp; omega,fun r6 H6 s6 w6 dr6=>?_⟩
   have sb6:=sb5.trans s6
   have hlb:=z94 bk tb (p++[1]) (shS bk ta (p++[0]) ns).2
   refine⟨_,SqT.of (sb6.kp.t _ _ hpv),_,rfl,w,_,r6,_,_,rfl,(dr3.kp s45.kp).kp s6.kp,dr6,zwy _ _ _ _,zwy _ _ _ _,fun r7 H7 o s7 rel dr7=>?_⟩
   rw [zwu rel] at q
   have sb7:=sb6.trans (.of s7)
   exact⟨r7,pv,o,p,a,nn,(shS bk tb (p++[1]) (shS bk ta (p++[0]) ns).2).2,rfl,dr7,hp.kp sb7.kp,w6.same s7,by omega,fun r8 H8 s8 w8 dr8=>q r8 H8 (sb7.trans s8) w8 dr8⟩
end
theorem zhs{tl:TE}{g:TG}{tb:TS}{D:Ends}{σ : St}{H:Hp}:zuc (q1y tl) g tb D σ H=tl σ H fun x H1=>∃d kvs,x=.ref d/\Rd H1 d (.dK kvs)/\∀o,zwm (Itd d o (.dK kvs) (kvs.map fun kv=>kV kv.1)) g tb D σ (upd H1 d (.frz o (.dK kvs))):=rfl
theorem zfk{tl:TE}{g:TG}{tt:TT}{te:TE}{mp:List (Option Nat)}{σ : St}{H:Hp}{Q:VK}:zh7 (zxd tl) g tt te mp σ H Q=tl σ H fun x H1=>∃d kvs,x=.ref d/\Rd H1 d (.dT kvs)/\∀(o:Obj) (as:List Addr),Paired (fun(kv:List Key×V) (a:Addr)=>H1 a=some (.tup (kv.1.map kV))) kvs as->zaa (Itd d o (.dT kvs) (as.map V.ref)) g tt te Q (subσ mp σ) (upd H1 d (.frz o (.dT kvs))):=rfl
theorem SB.frz{n:Addr}{H:Hp}{d:Addr}{kvs:List (Key×V)}(o:Obj)(h:Rd H d (.dK kvs)):SB n H (upd H d (.frz o (.dK kvs))):=fun b u e=>by
 by_cases hb:b=d
 ·subst hb
  rcases h with h | ⟨o2,h⟩
  ·rw [e] at h; cases h
   exact .inr (.inl ⟨o,kvs,.inl rfl,z01⟩)
  ·rw [e] at h; cases h
   exact .inr (.inl ⟨o,kvs,.inr ⟨_,rfl⟩,z01⟩)
 ·exact .inl (by rw [z0a hb]; exact e)
theorem SB.upd{n:Addr}{H H':Hp}(s:SB n H H'){p:Addr}(h:H p=none)(o:HO):SB n H (upd H' p o):=fun b u e=>by
 have hb:b≠p:=z0h e h
 rw [z0a hb]
 exact s b u e
def jn(s t:Int×Int):Int×Int:=(mn s.1 t.1,mx s.2 t.2)
def zsv(one other acc:Bk)(x:Str):Bk:=match look one x,look other x with
 | some s,some t=>zie acc x (jn s t)
 | _,_=>acc
def zvz(one other:Bk):Bk:=(one.map fun q=>q.1).foldl (zsv one other) []
theorem zsu(one other acc:Bk)(x:Str):(zsv one other acc x).length<=acc.length+1:=by
 unfold zsv
 split
 ·exact zjp _ _ _
 ·omega
theorem zkk(one other:Bk):∀(xs:List Str) (acc:Bk),(xs.foldl (zsv one other) acc).length<=acc.length+xs.length
 | [],acc=>Nat.le_refl _
 | x::r,acc=>by
  have h1:=zsu one other acc x
  have h2:=zkk one other r (zsv one other acc x)
  rw [List.foldl_cons,List.length_cons]
  omega
theorem zst(one other:Bk):(zvz one other).length<=one.length:=by
 have:=zkk one other (one.map fun q=>q.1) []
 rw [List.length_map] at this
 simpa [zvz] using this
def q1s:Option Bk->Option Bk->Option Bk
 | none,o=>o
 | some a,none=>some a
 | some a,some b=>some (zvz a b)
abbrev Bh:=T->Bk->Bool->Option Bk
def zh9(bh:Bh)(t:T)(has:S)(bk:Bk)(so:Bool):Option Bk:=if(if so=true then !znv has (some (0,0)) else znv (some (0,0)) has)=true then bh t bk so else none
mutual
noncomputable def wkD (bh:Bh):D->Pth->Bk->Nts->Option Bk×Nts
 | .set x t,p,bk,ns=>((shS bk t (p++[0]) ns).1.map (zie bk x),(shS bk t (p++[0]) ns).2)
 | .ite t b c,p,bk,ns=>
  (q1s (wkB bh b (p++[1]) 0 (zh9 bh t (shS bk t (p++[0]) ns).1 bk true) (shS bk t (p++[0]) ns).2).1
   (wkB bh c (p++[2]) 0 (zh9 bh t (shS bk t (p++[0]) ns).1 bk false) (wkB bh b (p++[1]) 0 (zh9 bh t (shS bk t (p++[0]) ns).1 bk true) (shS bk t (p++[0]) ns).2).2).1,
   (wkB bh c (p++[2]) 0 (zh9 bh t (shS bk t (p++[0]) ns).1 bk false) (wkB bh b (p++[1]) 0 (zh9 bh t (shS bk t (p++[0]) ns).1 bk true) (shS bk t (p++[0]) ns).2).2).2)
 | .whl _ _ _,_,bk,ns=>(some bk,ns)
noncomputable def wkB (bh:Bh):List D->Pth->Int->Option Bk->Nts->Option Bk×Nts
 | [],_,_,o,ns=>(o,ns)
 | _::_,_,_,none,ns=>(none,ns)
 | d::r,p,i,some bk,ns=>wkB bh r p (i+1) (wkD bh d (p++[i]) bk ns).1 (wkD bh d (p++[i]) bk ns).2
end
mutual
def D.sz:D->Nat
 | .set _ t=>t.sz+3
 | .ite t b c=>t.sz+szB b+szB c+6
 | .whl t _ b=>t.sz+szB b+3
def szB:List D->Nat
 | []=>1
 | d::r=>d.sz+szB r
end
def zh2(bh:Bh):Prop:=∀t bk so b',bh t bk so=some b'->b'.length<=bk.length+2
theorem zjz{bh:Bh}(hb:zh2 bh){t:T}{has:S}{bk b':Bk}{so:Bool}(h:zh9 bh t has bk so=some b'):b'.length<=bk.length+2:=by
 unfold zh9 at h
 generalize (if so=true then !znv has (some (0,0)) else znv (some (0,0)) has)=c at h
 cases c with
 | true=>exact hb _ _ _ _ h
 | false=>cases h
theorem zss{a b:Option Bk}{c:Bk}{k:Nat}(h:q1s a b=some c)(ha:∀x,a=some x->x.length<=k)(hb:∀x,b=some x->x.length<=k):c.length<=k:=by
 match a,b,h with
 | none,b,h=>exact hb _ h
 | some x,none,h=>exact ha _ h
 | some x,some y,h=>
  have h:some (zvz x y)=some c:=h
  injection h with h
  have:=zst x y
  have:=ha x rfl
  rw [<- h]; omega
mutual
theorem zqu{bh:Bh}(hb:zh2 bh):∀(d:D) (p:Pth) (bk:Bk) (ns:Nts),(wkD bh d p bk ns).2.length<=ns.length+d.sz/\∀b',(wkD bh d p bk ns).1=some b'->b'.length<=bk.length+d.sz
 | .set x t,p,bk,ns=>by
  have h1:=z94 bk t (p++[0]) ns
  rw [wkD,D.sz]
  refine⟨by dsimp only; omega,fun b' h=>?_⟩
  dsimp only at h
  cases hs:(shS bk t (p++[0]) ns).1 with
  | none=>rw [hs] at h; cases h
  | some r=>
   rw [hs] at h
   have h:some (zie bk x r)=some b':=h
   injection h with h
   have:=zjp bk x r
   rw [<- h]; omega
 | .ite t b c,p,bk,ns=>by
  have h1:=z94 bk t (p++[0]) ns
  have h2:=zlp hb b (p++[1]) 0 (zh9 bh t (shS bk t (p++[0]) ns).1 bk true) (shS bk t (p++[0]) ns).2
  have h3:=zlp hb c (p++[2]) 0 (zh9 bh t (shS bk t (p++[0]) ns).1 bk false) (wkB bh b (p++[1]) 0 (zh9 bh t (shS bk t (p++[0]) ns).1 bk true) (shS bk t (p++[0]) ns).2).2
  rw [wkD,D.sz]
  refine⟨by have:=h2.1; have:=h3.1; dsimp only; omega,fun b' h=>?_⟩
  refine zss h (fun x hx=>?_) (fun x hx=>?_)
  ·obtain⟨y,e,l⟩:=h2.2 x hx
   have:=zjz hb e
   omega
  ·obtain⟨y,e,l⟩:=h3.2 x hx
   have:=zjz hb e
   omega
 | .whl t m b,p,bk,ns=>by
  rw [wkD]
  exact⟨Nat.le_add_right _ _,fun b' h=>by cases h; exact Nat.le_add_right _ _⟩
theorem zlp{bh:Bh}(hb:zh2 bh):∀(b:List D) (p:Pth) (i:Int) (o:Option Bk) (ns:Nts),(wkB bh b p i o ns).2.length<=ns.length+szB b/\∀b',(wkB bh b p i o ns).1=some b'->∃bk,o=some bk/\b'.length<=bk.length+szB b
 | [],p,i,o,ns=>by
  rw [wkB]
  exact⟨Nat.le_add_right _ _,fun b' h=>⟨b',h,Nat.le_add_right _ _⟩⟩
 | d::r,p,i,none,ns=>by
  rw [wkB]
  exact⟨Nat.le_add_right _ _,fun b' h=>by cases h⟩
 | d::r,p,i,some bk,ns=>by
  have h1:=zqu hb d (p++[i]) bk ns
  have h2:=zlp hb r p (i+1) (wkD bh d (p++[i]) bk ns).1 (wkD bh d (p++[i]) bk ns).2
  rw [wkB,szB]
  refine⟨by have:=h1.1; have:=h2.1; omega,fun b' h=>?_⟩
  obtain⟨y,e,l⟩:=h2.2 b' h
  have:=h1.2 y e
  exact⟨bk,rfl,by omega⟩
end
local macro_rules | `(tactic| walk_at "rx")=>`(tactic| simp only[zun,q38,zup,zcb,zox,z5o,z9t,zjj,zcc,z88,z5p,z89,zf3,zcd,z8a,z9p,zhv,q14,zhs,zd2,zfk,q3t,znz,q2q,q3b,zuq,zlr,tOp,zpe,tC,zwt,zgr,zxe,zn3,zzp,zxv,zpf,zlv,zlu,tCB,zbj,zuo,zju,tUn,rU,rI0,rI,zxy,tOr,zxw,tB,zly,q0g,zlt,tIf,q0h,zpg,zhu,zlw,zfj,zm9,zfi,zph,zdz,zpi,tSl,zao,zls,zyb,zd3,zhz,zpw,zmb,z7a,z9n,z77,z7d,zxu,zxx,tBM,
 qEq,qNe,qIn,zi1,zyi,zma,q0m,zpv,zyh,zme,zyj,q0l,zmc,zmd,zi0,rIx,zuz,zlm,zyd,q0k,q0i,zpt,q0j,zyc,zar,zaq,zfh,zfm,zwq,
 z9o,z79,z78,z7b,z5r,z7c,L2.start,zib,z5u,z9u,List.map_cons,List.map_nil,List.length_cons,List.length_nil,List.replicate_succ,List.replicate_zero,Nat.reduceAdd,Nat.reduceSub,Nat.zero_add,Nat.add_zero,Nat.sub_zero,Nat.sub_self,Nat.add_sub_cancel,
 List.getElem?_cons_zero,List.getElem?_cons_succ,List.set_cons_zero,List.set_cons_succ,List.cons_append,List.nil_append,List.append_nil,List.cons.injEq,Option.some.injEq,V.int.injEq,V.ref.injEq,V.str.injEq,V.bl.injEq,V.ty.injEq,
 reduceCtorEq,false_and,and_false,and_true,true_and,exists_false,exists_const,false_or,or_false,exists_eq_left,exists_eq_left',exists_eq_right,exists_eq_right',exists_and_left,decide_eq_true_eq,Bool.not_eq_true',Bool.decide_eq_true,exists_eq,true_or,or_true,Bool.false_eq_true,if_true,if_false,Bool.true_eq_false,Bool.not_true,Bool.not_false,decide_true,decide_false,List.isEmpty_cons,List.isEmpty_nil,Bool.true_and,Bool.false_and,bne_self_eq_false,beq_self_eq_true])
section
variable{P:Program}{w:World}{K:PySem.W.Frag}{mg:Str->Option Value}{base:Heap}{f:Addr}{fd:FuncData}
def zvl(Pq:T->Prop):Nat->List D->Prop
 | 0,_=>False
 | n+1,b=>∀d∈b,match d with
  | .set _ t=>T.dp 6 t
  | .ite t b c=>T.dp 6 t/\Pq t/\zvl Pq n b/\zvl Pq n c
  | .whl _ _ _=>False
def q3f(Pq:T->Prop)(n:Nat)(d:D):Prop:=match d with
 | .set _ t=>T.dp 6 t
 | .ite t b c=>T.dp 6 t/\Pq t/\zvl Pq n b/\zvl Pq n c
 | .whl _ _ _=>False
def q1u:D->Prop
 | .set _ t=>T.dp 6 t
 | _=>False
def q3i(Pq:T->Prop)(n:Nat):D->Prop
 | .ite t b c=>T.dp 6 t/\Pq t/\zvl Pq n b/\zvl Pq n c
 | _=>False
def zy2(K:PySem.W.Frag)(bh:Bh)(m:Nat)(ok:D->Prop):Sp:=fun vs H Q _=>∃(dv pv:V) (dd:D) (p:Pth) (d a nn:Addr) (bk:Bk) (ns:Nts),vs=[dv,pv,.ref d,.ref a]/\Dt H dv dd.enc/\ok dd/\PtA H pv p/\IsBk H d bk/\Wk K H a nn ns/\ns.length+dd.sz<=900/\bk.length+dd.sz<=900/\p.length+m<=900/\
 ∀(r:V) (H':Hp),SB nn H H'->Wk K H' a nn (wkD bh dd p bk ns).2->q2w H' r (wkD bh dd p bk ns).1->Q r H'
def q0v(K:PySem.W.Frag)(bh:Bh)(Pq:T->Prop)(n:Nat):Sp:=fun vs H Q _=>∃(bv pv ov:V) (b:List D) (p:Pth) (a nn:Addr) (o:Option Bk) (ns:Nts),vs=[bv,pv,ov,.ref a]/\Dt H bv (.tup (zi7 b))/\zvl Pq n b/\PtA H pv p/\q2w H ov o/\Wk K H a nn ns/\ns.length+szB b<=900/\(∀bk,o=some bk->bk.length+szB b<=900)/\p.length+(2 * n+10)<=900/\
 ∀(r:V) (H':Hp),SB nn H H'->Wk K H' a nn (wkB bh b p 0 o ns).2->q2w H' r (wkB bh b p 0 o ns).1->Q r H'
theorem zs6{bh:Bh} (F:Fun K "go_set" "go_set" z2d f fd) (b_dict:mg "dict" = none) (c_show:Callee P w K mg base "show" ["term","path","book","walk"] 11 (zjx K 6)):FnOk P w K mg base CX0 12 f fd ["deed","path","book","walk"] (zy2 K bh 8 q1u):=by
 refine F.ok sc_go_set (fun vs H Q E h=>?_) (fun cdv A outer s H vs Q E hr h=>?_)
 ·obtain⟨dv,pv,dd,p,d,a,nn,bk,ns,rfl,_⟩:=h
  rfl
 obtain⟨dv,pv,dd,p,d,a,nn,bk,ns,rfl,hv,ht,hp,hbk,hw,hl,hlb,hpl,q⟩:=h
 match dd,ht,hv,hl,hlb,q with
 | .set x t,ht,hv,hl,hlb,q=>
  rw [D.sz] at hl hlb
  rw [wkD] at q
  obtain⟨pd,xs,rfl,hpd,da⟩:=hv.tupI
  rcases da with _ | ⟨d1,_ | ⟨d2,_ | ⟨d3,_ | _⟩⟩⟩
  cases d1; cases d2
  rename_i vt
  refine⟨_,(z02 (z19 (i:=4) sc_go_set.nd rfl zhh (z15 c_show hr (by omega) (z09 (z0r z0g (z00 (i:=0) rfl z8z z27 z28) z06 (fun _ _=>rfl)) (z09 (z1n z2v (z00 (i:=1) rfl zfb z0t z0u) (z1a (z09 z06 z03))) (z09 (z00 (i:=2) rfl z90 z4t z4u) (z09 (z00 (i:=3) rfl zfa z3d z3e) z03)))) zhn zn9) (z04 rfl))
 (z02 (z1h (z0d zqg (z00 (i:=4) rfl zab zxk zxn) z1v (z0j _)) (z07 (z0b z1v)) z0f)
 (z02 (z19 (i:=5) sc_go_set.nd rfl zhi (zys zlg zho b_dict q05 (z09 (z00 (i:=2) rfl z90 z4t z4u) z03) zz8 zzx) (z04 rfl))
 (z02 (zd7 hr.units1 (z00 (i:=5) rfl zac zxl zxo) (z0r z0g (z00 (i:=0) rfl z8z z27 z28) z06 (fun _ _=>rfl)) (z00 (i:=4) rfl zab zxk zxn) (z04 rfl))
 (z07 (z0b (z00 (i:=5) rfl zac zxl zxo))))))),?_⟩
  walk_at "rx"
  refine⟨_,SqT.of hpd,_,rfl,zl 1 (by decide),fun p1 hp1=>?_⟩
  have s1:=z05 hp1 (HO.tup [.int 0])
  have e1:upd H p1 (HO.tup [.int 0]) p1=_:=z01
  generalize upd H p1 (HO.tup [.int 0])=U at s1 e1 |-
  refine q2v (q:=[0]) (hp.kp s1.kp) e1 (by simp; omega) fun r2 H2 s2 hr2=>?_
  have s12:=s1.trans s2
  refine⟨vt,r2,t,p++[0],d,a,nn,bk,ns,rfl,d3.kp s12.kp,ht,hr2,hbk.same s12,hw.same s12,by omega,by simp; omega,fun r3 H3 s3 w3 dr3=>?_⟩
  have sb3:SB nn H H3:=SB.trans (.of s12) s3
  rcases dtS dr3 with⟨z,rfl⟩ | ⟨l,h,pp,z,rfl,hpp⟩
  ·walk_at "rx"
   rw [z] at q
   exact q _ _ sb3 w3 rfl
  ·walk_at "rx"
   rw [z] at q
   obtain⟨kvs,hd,rb⟩:=sb3.bk hbk
   refine⟨kvs,hd,fun p4 hp4=>?_⟩
   have s4:=z05 hp4 (HO.dK kvs)
   have e4:upd H3 p4 (HO.dK kvs) p4=_:=z01
   have s5:∀o,Same H3 (upd (upd H3 p4 (HO.dK kvs)) p4 o):=fun o=>z9q s4 hp4
   generalize upd H3 p4 (HO.dK kvs)=U4 at s4 e4 s5 |-
   refine⟨_,SqT.of (s4 _ _ (sb3.kp.t _ _ hpd)),_,rfl,_,DPut.k (k:=.inr x) e4 (by rw [rb.length]; exact z20 (by omega)),?_⟩
   have hk:=s4.kp.trans (zmv (kvs':=zew kvs (.inr x) (V.ref pp)) e4)
   rw [z] at dr3
   exact q _ _ (sb3.trans (.of (s5 _))) (w3.same (s5 _)) ⟨p4,rfl,_,.inl z01,(rb.kp hk).put x (dr3.kp hk)⟩
def noQ:T->Prop:=fun _=>False
theorem zz6{bh:Bh}{n m k:Nat}{n1 n2 n3 n4:Str}:FnOk P w K mg base CX0 k f fd [n1,n2,n3,n4] (zy2 K bh m (q3i noQ n)):=by
 have no:∀vs H Q E,¬ zy2 K bh m (q3i noQ n) vs H Q E:=fun vs H Q E h=>by
  obtain⟨dv,pv,dd,p,d,a,nn,bk,ns,_,_,h,_⟩:=h
  cases dd<;>first | exact h.2.1.elim | exact h.elim
 exact⟨fun vs H Q E h=>absurd h (no vs H Q E),fun A outer s H args us vs Q E _ _ _ _ h=>absurd h (no vs H Q E)⟩
end
section
variable{P:Program}{w:World}{K:PySem.W.Frag}{mg:Str->Option Value}{base:Heap}{f:Addr}{fd:FuncData}
theorem zq0{bh:Bh}{Pq:T->Prop}{n:Nat} (F:Fun K "go_deed" "go_deed" z2e f fd) (c_go_set:Callee P w K mg base "go_set" ["deed","path","book","walk"] 12 (zy2 K bh 8 q1u)) (c_go_if:Callee P w K mg base "go_if" ["deed","path","book","walk"] (3 * n+13) (zy2 K bh (2 * n+11) (q3i Pq n)))
  (c_go_while:Callee P w K mg base "go_while" ["deed","path","book","walk"] 0 (fun _ _ _ _=>False)):FnOk P w K mg base CX0 (3 * n+14) f fd ["deed","path","book","walk"] (zy2 K bh (2 * n+11) (q3f Pq n)):=by
 refine F.ok zpo (fun vs H Q E h=>?_) (fun cdv A outer s H vs Q E hr h=>?_)
 ·obtain⟨dv,pv,dd,p,d,a,nn,bk,ns,rfl,_⟩:=h
  rfl
 obtain⟨dv,pv,dd,p,d,a,nn,bk,ns,rfl,hv,ht,hp,hbk,hw,hl,hlb,hpl,q⟩:=h
 refine⟨_,(z02 (z1h (z0d (gEq hr.units) (z0r z0g (z00 (i:=0) rfl z2y z27 z28) z06 (fun _ _=>rfl)) z0y (z0j _)) (z07 (z0b (z15 c_go_set hr (by omega) (z09 (z00 (i:=0) rfl z2y z27 z28) (z09 (z00 (i:=1) rfl z55 z0t z0u) (z09 (z00 (i:=2) rfl z56 z4t z4u) (z09 (z00 (i:=3) rfl z54 z3d z3e) z03)))) zdm zto))) z0f)
 (z02 (z1h (z0d (gEq hr.units) (z0r z0g (z00 (i:=0) rfl z2y z27 z28) z06 (fun _ _=>rfl)) z0y (z0j _)) (z07 (z0b (z15 c_go_if hr (by omega) (z09 (z00 (i:=0) rfl z2y z27 z28) (z09 (z00 (i:=1) rfl z55 z0t z0u) (z09 (z00 (i:=2) rfl z56 z4t z4u) (z09 (z00 (i:=3) rfl z54 z3d z3e) z03)))) zeo zwe))) z0f)
 (z07 (z0b (z15 c_go_while hr (by omega) (z09 (z00 (i:=0) rfl z2y z27 z28) (z09 (z00 (i:=1) rfl z55 z0t z0u) (z09 (z00 (i:=2) rfl z56 z4t z4u) (z09 (z00 (i:=3) rfl z54 z3d z3e) z03)))) zaw znf))))),zdy fun N1 e1=>?_⟩
 match dd,ht,hv,hl,hlb,q with
 | .set x t,ht,hv,hl,hlb,q=>
  obtain⟨pd,xs,rfl,hpd,da⟩:=id hv.tupI
  rcases da with _ | ⟨d1,_ | ⟨d2,_ | ⟨d3,_ | _⟩⟩⟩
  cases d1
  walk_at "rx"
  refine⟨_,SqT.of hpd,_,rfl,_,.inl ⟨rfl,rfl⟩,?_⟩
  rw [if_pos (by decide+kernel)]
  exact⟨_,pv,.set x t,p,d,a,nn,bk,ns,rfl,hv,ht,hp,hbk,hw,hl,hlb,by omega,q⟩
 | .ite t b c,ht,hv,hl,hlb,q=>
  obtain⟨pd,xs,rfl,hpd,da⟩:=id hv.tupI
  rcases da with _ | ⟨d1,_ | ⟨d2,_ | ⟨d3,_ | ⟨d4,_ | _⟩⟩⟩⟩
  cases d1
  walk_at "rx"
  refine⟨_,SqT.of hpd,_,rfl,_,.inl ⟨rfl,rfl⟩,?_⟩
  rw [if_neg (by decide+kernel)]
  show N1 _ _
  rw [e1]
  walk_at "rx"
  refine⟨_,SqT.of hpd,_,rfl,_,.inl ⟨rfl,rfl⟩,?_⟩
  rw [if_pos (by decide+kernel)]
  exact⟨_,pv,.ite t b c,p,d,a,nn,bk,ns,rfl,hv,ht,hp,hbk,hw,hl,hlb,by omega,q⟩
theorem zn6:∀{b:List D} {ds:List V} {H:Hp} {i:Nat} {x:V},DtA H ds (zi7 b)->ds[i]?=some x->∃d,b[i]?=some d/\Dt H x d.enc
 | [],ds,H,i,x,h,hx=>by
  rw [zi7] at h
  cases h; cases hx
 | d::b,ds,H,i,x,h,hx=>by
  rw [zi7] at h
  cases h with
  | cons h1 h2=>
   cases i with
   | zero=>
    rw [List.getElem?_cons_zero] at hx
    cases hx
    exact⟨d,rfl,h1⟩
   | succ i=>
    rw [List.getElem?_cons_succ] at hx |-
    exact zn6 h2 hx
theorem zz3{Pq:T->Prop}{n:Nat}{b:List D}(h:zvl Pq (n+1) b){d:D}(hd:d∈b):q3f Pq n d:=by
 have:=h d hd
 cases d<;>exact this
def BI(K:PySem.W.Frag)(bh:Bh)(H:Hp)(bv pv:V)(a nn:Addr)(b:List D)(p:Pth)(res:Option Bk×Nts)(i:Nat)(σ':St)(H':Hp):Prop:=
 SB nn H H'/\∃(ov:V) (o:Option Bk) (ns:Nts),(∃t1 t2,σ'=[some bv,some pv,some ov,some (.ref a),t1,t2])/\q2w H' ov o/\Wk K H' a nn ns/\wkB bh (b.drop i) p i o ns=res/\ns.length+szB (b.drop i)<=900/\∀bk,o=some bk->bk.length+szB (b.drop i)<=900
theorem zmo{bh:Bh}{Pq:T->Prop}{n:Nat}(hg:zh2 bh) (F:Fun K "go_block" "go_block" z14 f fd) (b_enumerate:mg "enumerate" = none) (c_go_deed:Callee P w K mg base "go_deed" ["deed","path","book","walk"] (3 * n+14) (zy2 K bh (2 * n+11) (q3f Pq n))):FnOk P w K mg base CX0 (3 * (n+1)+12) f fd ["block","path","book","walk"] (q0v K bh Pq (n+1)):=by
 refine F.ok sc_go_block (fun vs H Q E h=>?_) (fun cdv A outer s H vs Q E hr h=>?_)
 ·obtain⟨bv,pv,ov,b,p,a,nn,o,ns,rfl,_⟩:=h
  rfl
 obtain⟨bv,pv,ov,b,p,a,nn,o,ns,rfl,hv,hok,hp,ho,hw,hl,hlb,hpl,q⟩:=h
 obtain⟨pb,xs,rfl,hpb,da⟩:=hv.tupI
 have hxl:xs.length=b.length:=by rw [da.length,zb1]
 refine⟨_,(z02 (ze2 PassesOwn.never rfl (zo8 z9f b_enumerate (z09 (z00 (i:=0) rfl zbd zov zp4) z03)) (zfx (n:=2) rfl (z2u (z1k (i:=4) sc_go_block.nd rfl zgb) (z2u (z1k (i:=5) sc_go_block.nd rfl zde) zas)))
 (z02 (z1h (z0d zqg (z00 (i:=2) rfl z4l z4t z4u) z1v (z0j _)) (z07 (z0b z1v)) z0f)
 (z07 (z19 (i:=2) sc_go_block.nd rfl zdf (z15 c_go_deed hr (by omega) (z09 (z00 (i:=5) rfl zcw z27 z28) (z09 (z1n z2v (z00 (i:=1) rfl zcv z0t z0u) (z1a (z09 (z00 (i:=4) rfl zfc q2b q2e) z03))) (z09 (z00 (i:=2) rfl z4l z4t z4u) (z09 (z00 (i:=3) rfl zcu z3d z3e) z03)))) zax zql) (z04 rfl)))))
 (z07 (z0b (z00 (i:=2) rfl z4l z4t z4u)))),?_⟩
 walk_at "rx"
 refine⟨⟨_,SqT.of hpb⟩,?_⟩
 refine zks (xs:=xs) (BI K bh H (.ref pb) pv a nn b p (wkB bh b p 0 o ns)) ⟨.of (Same.refl _),ov,o,ns,⟨_,_,rfl⟩,ho,hw,rfl,hl,hlb⟩ ?_ ?_ ?_
 ·rintro i σ' H' _ ⟨sb,_⟩
  exact SqT.of (sb.kp.t _ _ hpb)
 ·rintro i x σ' H' T hx ⟨sb,ov,o,ns',⟨t1,t2,rfl⟩,ho,hw,hres,hl,hlb⟩ hT
  obtain⟨dd,hdd,_⟩:=zn6 da hx
  have s1:=z05 hT (HO.tup [V.int i,x])
  have e1:upd H' T (HO.tup [V.int i,x]) T=_:=z01
  generalize upd H' T (HO.tup [V.int i,x])=U at s1 e1 |-
  have sbU:SB nn H U:=sb.trans (.of s1)
  obtain⟨dd',hdd',dx⟩:=zn6 (DtA.kp sbU.kp da) hx
  rw [hdd] at hdd'
  cases hdd'
  have hmem:dd∈b:=List.mem_of_getElem? hdd
  have hil:i < b.length:=(List.getElem?_eq_some_iff.mp hdd).1
  have hdr:b.drop i=dd::b.drop (i+1):=by
   rw [List.drop_eq_getElem_cons hil]
   congr 1
   have:=(List.getElem?_eq_some_iff.mp hdd).2
   exact this
  rw [hdr] at hres hl hlb
  rw [szB] at hl hlb
  walk_at "rx"
  refine⟨_,SqT.of e1,rfl,_,_,rfl,_,_,rfl,rfl,?_⟩
  match o,ho,hres,hlb with
  | none,ho,hres,_=>
   cases ho
   walk_at "rx"
   rw [wkB] at hres
   rw [<- hres] at q
   exact q _ _ sbU (hw.same s1) rfl
  | some bk,⟨d,e,hbk⟩,hres,hlb=>
   cases e
   have hlb:=hlb bk rfl
   walk_at "rx"
   rw [wkB] at hres
   refine⟨zl 1 (by decide),fun p2 hp2=>?_⟩
   have s2:=z05 hp2 (HO.tup [.int i])
   have e2:upd U p2 (HO.tup [.int i]) p2=_:=z01
   generalize upd U p2 (HO.tup [.int i])=U2 at s2 e2 |-
   refine q2v (q:=[(i:Int)]) ((hp.kp sbU.kp).kp s2.kp) e2 (by simp; omega) fun r3 H3 s3 hr3=>?_
   have s13:=s1.trans (s2.trans s3)
   have sb3:SB nn H H3:=sb.trans (.of s13)
   have gl:=zqu hg dd (p++[(i:Int)]) bk ns'
   refine⟨x,r3,dd,p++[(i:Int)],d,a,nn,bk,ns',rfl,dx.kp (s2.trans s3).kp,zz3 hok hmem,hr3,hbk.same s13,hw.same s13,by omega,by omega,by simp; omega,fun r4 H4 s4 w4 hr4=>?_⟩
   have gl1:=gl.1
   refine⟨sb3.trans s4,r4,_,_,⟨_,_,rfl⟩,hr4,w4,?_,by omega,fun bk' e=>by have:=gl.2 bk' e; omega⟩
   rw [<- hres]; rfl
 ·rintro σ' H' ⟨sb,ov,o,ns',⟨t1,t2,rfl⟩,ho,hw,hres,hl,hlb⟩
  rw [hxl,List.drop_length,wkB] at hres
  walk_at "rx"
  rw [<- hres] at q
  exact q _ _ sb hw ho
end
section
variable{P:Program}{w:World}{K:PySem.W.Frag}{mg:Str->Option Value}{base:Heap}{f:Addr}{fd:FuncData}
theorem ze3{α : Type}{f : α->Dm}{H:Hp}{xs:List V}{b:List α}{i:Nat}{x:V}(h:DtA H xs (b.map f))(hx:xs[i]?=some x):∃d,b[i]?=some d/\Dt H x (f d):=by
 obtain⟨e,he,de⟩:=h.get hx
 rw [List.getElem?_map] at he
 cases hb:b[i]? with
 | none=>rw [hb] at he; cases he
 | some d=>
  rw [hb] at he
  have:f d=e:=by simpa using he
  subst this
  exact⟨d,rfl,de⟩
theorem z76{α : Type}{l:List α}{i:Nat}{x : α}(h:l[i]?=some x):l.take (i+1)=l.take i++[x]:=by
 rw [List.take_add_one,h]; rfl
theorem zw0{H:Hp}{p:Addr}{xs:List V}(h:H p=some (.tup xs)):∃t,TyOf K H (.ref p) t/\PySem.W.kitOne K t (.type "tuple")=some true:=⟨_,.tup h,rfl⟩
abbrev Rw:=Str×Int×Int
def ze1(r:Rw):Dm:=.tup [.str r.1,.int r.2.1,.int r.2.2]
def zlh(rows:List Rw):Bk:=rows.foldl (fun b r=>zie b r.1 r.2) []
def zih:Sp:=fun vs H Q _=>∃(v:V) (rows:List Rw),vs=[v]/\Dt H v (.tup (rows.map ze1))/\rows.length<=900/\∀(d:Addr) (H':Hp),Same H H'->IsBk H' d (zlh rows)->Q (.ref d) H'
theorem zgz:∀(rows:List Rw) (b:Bk),(rows.foldl (fun b r=>zie b r.1 r.2) b).length<=b.length+rows.length
 | [],b=>Nat.le_refl _
 | r::rs,b=>by
  have h1:=zjp b r.1 r.2
  have h2:=zgz rs (zie b r.1 r.2)
  rw [List.foldl_cons,List.length_cons]
  omega
def OI(H:Hp)(v:V)(db:Addr)(rows:List Rw)(i:Nat)(σ':St)(H':Hp):Prop:=
 Same H H'/\(∃t1 t2 t3,σ'=[some v,some (.ref db),t1,t2,t3])/\∃kv,H' db=some (.dK kv)/\BkR H' kv (zlh (rows.take i))
theorem zq3(F:Fun K "book_of" "book_of" z1p f fd):FnOk P w K mg base CX0 1 f fd ["shelf"] zih:=by
 refine F.ok sc_book_of (fun vs H Q E h=>?_) (fun cdv A outer s H vs Q E hr h=>?_)
 ·obtain⟨v,rows,rfl,_⟩:=h
  rfl
 obtain⟨v,rows,rfl,hv,hl,q⟩:=h
 obtain⟨pv,xs,rfl,hpv,da⟩:=hv.tupI
 have hxl:xs.length=rows.length:=by rw [da.length,List.length_map]
 refine⟨_,(z02 (z19 (i:=1) sc_book_of.nd rfl zek zoa (z04 rfl))
 (z02 (ze2 PassesOwn.never rfl (zk3 (z00 (i:=0) rfl zd0 zoq zp0)) (zfx (n:=3) rfl (z2u (z1k (i:=2) sc_book_of.nd rfl zei) (z2u (z1k (i:=3) sc_book_of.nd rfl zgd) (z2u (z1k (i:=4) sc_book_of.nd rfl zej) zas))))
 (z07 (zd7 hr.units1 (z00 (i:=1) rfl z8g z4t z4u) (z00 (i:=2) rfl zea zzv q02) (z1a (z09 (z00 (i:=3) rfl zff zot zp3) (z09 (z00 (i:=4) rfl zeb zjh zjm) z03))) (z04 rfl))))
 (z07 (z0b (z00 (i:=1) rfl z8g z4t z4u))))),?_⟩
 walk_at "rx"
 intro db hdb
 have s1:=z05 hdb (HO.dK [])
 have eb:upd H db (HO.dK []) db=_:=z01
 generalize upd H db (HO.dK [])=U at s1 eb |-
 refine⟨⟨_,SqT.of (s1 _ _ hpv)⟩,?_⟩
 refine zt2 (K:=K) (a:=pv) (xs:=xs) (OI H (.ref pv) db rows) ⟨s1,⟨_,_,_,rfl⟩,[],eb,.nil⟩ ?_ ?_ ?_
 ·rintro i σ' H' _ ⟨s2,_⟩
  exact SqT.of (s2 _ _ hpv)
 ·rintro i x σ' H' hx ⟨s2,⟨t1,t2,t3,rfl⟩,kv,hkv,rkv⟩
  obtain⟨r,hri,dr⟩:=ze3 da hx
  obtain⟨ra,ys,rfl,hra,dra⟩:=dr.tupI
  rcases dra with _ | ⟨u1,_ | ⟨u2,_ | ⟨u3,_ | _⟩⟩⟩
  cases u1; cases u2; cases u3
  have hil:i < rows.length:=(List.getElem?_eq_some_iff.mp hri).1
  walk_at "rx"
  refine⟨_,SqT.of (s2 _ _ hra),rfl,_,_,rfl,_,_,rfl,_,_,rfl,rfl,zl 2 (by decide),fun p3 hp3=>?_⟩
  have s3:=z05 hp3 (HO.tup [V.int r.2.1,V.int r.2.2])
  have e3:upd H' p3 (HO.tup [V.int r.2.1,V.int r.2.2]) p3=_:=z01
  generalize upd H' p3 (HO.tup [V.int r.2.1,V.int r.2.2])=U3 at s3 e3 |-
  have hbl:=zgz (rows.take i) []
  rw [List.length_take,List.length_nil] at hbl
  refine⟨_,DPut.k (k:=.inr r.1) (s3 _ _ hkv) (by rw [rkv.length]; exact z20 (by unfold zlh; omega)),?_⟩
  have hkp:Kp U3 (upd U3 db (.dK (zew kv (.inr r.1) (.ref p3)))):=zmv (s3 _ _ hkv)
  refine⟨z9q (s2.trans s3) hdb,⟨_,_,_,rfl⟩,_,z01,?_⟩
  rw [z76 hri]
  show BkR _ _ (List.foldl _ _ _)
  rw [List.foldl_append]
  exact(rkv.kp (s3.kp.trans hkp)).put r.1 ((zgt e3).kp hkp)
 ·rintro σ' H' ⟨s2,⟨t1,t2,t3,rfl⟩,kv,hkv,rkv⟩
  rw [hxl,List.take_length] at rkv
  walk_at "rx"
  exact q db H' s2 ⟨kv,.inl hkv,rkv⟩
def zo5:Sp:=fun vs H Q _=>∃(p:Addr),vs=[.ref p]/\H p=some (.tup [])/\∀(d:Addr),H d=none->Q (.ref d) (upd H d (.dT []))
theorem zk9(F:Fun K "heads_of" "heads_of" z1g f fd) (c_book_of:Callee P w K mg base "book_of" ["shelf"] 1 zih):FnOk P w K mg base CX0 2 f fd ["paper"] zo5:=by
 refine F.ok sc_heads_of (fun vs H Q E h=>?_) (fun cdv A outer s H vs Q E hr h=>?_)
 ·obtain⟨p,rfl,_⟩:=h
  rfl
 obtain⟨p,rfl,hp,q⟩:=h
 refine⟨_,(z02 (z19 (i:=1) sc_heads_of.nd rfl zbt zin (z04 rfl))
 (z02 (ze2 PassesOwn.never rfl (zk3 (z00 (i:=0) rfl zbc zjf zjl)) (zfx (n:=2) rfl (z2u (z1k (i:=2) sc_heads_of.nd rfl zdd) (z2u (z1k (i:=3) sc_heads_of.nd rfl zbs) zas)))
 (z07 (zd7 hr.units1 (z00 (i:=1) rfl z6e z6h z6k) (z00 (i:=2) rfl zct z0t z0u) (z15 c_book_of hr (by omega) (z09 (z00 (i:=3) rfl zbb zoq zp0) z03) zav zia) (z04 rfl))))
 (z07 (z0b (z00 (i:=1) rfl z6e z6h z6k))))),?_⟩
 walk_at "rx"
 intro db hdb
 have s1:=z05 hdb (HO.dT [])
 have q:=q db hdb
 generalize upd H db (HO.dT [])=U at s1 q |-
 refine⟨⟨_,SqT.of (s1 _ _ hp)⟩,?_⟩
 refine zt2 (K:=K) (a:=p) (xs:=[]) (fun i σ' H'=>H'=U/\∃t1 t2,σ'=[some (.ref p),some (.ref db),t1,t2]) ⟨rfl,_,_,rfl⟩ ?_ ?_ ?_
 ·rintro i σ' H' _ ⟨rfl,_⟩
  exact SqT.of (s1 _ _ hp)
 ·rintro i x σ' H' hx _
  cases hx
 ·rintro σ' H' ⟨rfl,t1,t2,rfl⟩
  walk_at "rx"
  exact q
def zr6:Sp:=fun vs H Q _=>∃(p:Addr) (v:V),vs=[.ref p,v]/\H p=some (.tup [])/\∀H',Same H H'->Q (.bl true) H'
theorem zhe(F:Fun K "are_rising_rows" "are_rising_rows" z0o f fd) (b_isinstance:mg "isinstance" = none) (b_tuple:mg "tuple" = none) (b_all:mg "all" = none) (b_zip:mg "zip" = none):FnOk P w K mg base CX0 4 f fd ["thing","is_row"] zr6:=by
 refine F.ok zbk (fun vs H Q E h=>?_) (fun cdv A outer s H vs Q E hr h=>?_)
 ·obtain⟨p,v,rfl,_⟩:=h
  rfl
 obtain⟨p,v,rfl,hp,q⟩:=h
 refine⟨_,(z02 (z1h (PW.pt (zmf (zfu (zad (z4q zw4 z5e b_isinstance z5q (z09 (z00 (i:=0) rfl z1i z3f z3g) (z09 (ziq (v:=V.ty "tuple") z7t b_tuple zf4 rfl zf1 zf2) z03)) z5l z5n))) (zfs (zfu (zad (z4q (zjo rfl) z4j b_all zu7 (z09 (z96 ["row","is_row"] [none,some 1] rfl (CompS.of (by rfl)) (zk3 (z00 (i:=0) rfl z1i z3f z3g)) (fun _ _ _ _ _=>(z1k (i:=0) (show List.Nodup (["row","is_row"]:List Str) from by decide+kernel) rfl (Or.inl rfl))) (fun _ _ _ _ _=>z81) (fun _ _ _ _ _=>(zru (P:=P) (w:=w) (K:=K) (mg:=mg) (base:=base) (i:=1) (k:=3) rfl rfl rfl rfl rfl rfl (by first | exact Or.inl rfl | exact Or.inr (Or.inl rfl) | exact Or.inr (Or.inr rfl)) hr (by omega) (z09 (z00 (i:=0) rfl (by first | exact Or.inl rfl | exact Or.inr (Or.inl rfl) | exact Or.inr (Or.inr rfl)) zor zp1) z03) ztn zu3))) z03) zsd zts)))))) (z07 (z0b zpy)) z0f)
 (z07 (z0b (z4q (zjo rfl) z4j b_all zu7 (z09 (z96 ["one","other"] [none,none] rfl (CompS.of (by rfl)) (zro z8u b_zip (z09 (z00 (i:=0) rfl z1i z3f z3g) (z09 (zv8 zy3 (z00 (i:=0) rfl z1i z3f z3g) (zyl z06) zym) z03))) (fun _ _ _ _ _=>(zyp (n:=2) (K:=K) rfl rfl (z2u (z1k (i:=0) (show List.Nodup (["one","other"]:List Str) from by decide+kernel) rfl (Or.inl rfl)) (z2u (z1k (i:=1) (show List.Nodup (["one","other"]:List Str) from by decide+kernel) rfl (Or.inl rfl)) zas)))) (fun _ _ _ _ _=>z81) (fun _ _ _ _ _=>(z97 q4r (z0r (ixK (r:=zlm) (K:=K) z0g rfl) (z00 (i:=0) rfl (by first | exact Or.inl rfl | exact Or.inr (Or.inl rfl) | exact Or.inr (Or.inr rfl)) z1r z1s) z06 (fun _ _=>rfl)) (z0r (ixK (r:=zlm) (K:=K) z0g rfl) (z00 (i:=1) rfl (by first | exact Or.inl rfl | exact Or.inr (Or.inl rfl) | exact Or.inr (Or.inr rfl)) z0p z0q) z06 (fun _ _=>rfl)) (z0j _)))) z03) zsd zts)))),?_⟩
 walk_at "rx"
 refine⟨_,_,⟨rfl,rfl⟩,_,zw0 hp,?_⟩
 rw [if_neg (by decide)]
 refine⟨⟨_,SqT.of hp⟩,?_⟩
 refine zoy (K:=K) (a:=p) (xs:=[]) (fun i ys σ' H'=>H'=H/\ys=[]) ⟨rfl,rfl⟩ (z20 (by decide)) ?_ ?_ ?_ ?_
 ·rintro i ys σ' H' ⟨_,rfl⟩
  exact Nat.zero_le _
 ·rintro i ys σ' H' _ ⟨rfl,_⟩
  exact SqT.of hp
 ·rintro i ys v σ' H' hx _
  cases hx
 rintro ys σ' H' ⟨rfl,rfl⟩ pl hpl
 have s1:=z05 hpl (HO.lst [])
 have e1:upd H' pl (HO.lst []) pl=_:=z01
 generalize upd H' pl (HO.lst [])=U1 at s1 e1 |-
 refine⟨_,rfl,[],SqL.of e1,?_⟩
 rw [if_neg (by decide)]
 refine⟨[],SqT.of (s1 _ _ hp),.inl ⟨by decide,p,p,⟨rfl,rfl⟩,⟨_,SqT.of (s1 _ _ hp)⟩,⟨_,SqT.of (s1 _ _ hp)⟩,?_⟩⟩
 refine ztw (K:=K) (xs:=[]) (ys:=[]) (Nat.le_refl _) (fun i zs σ' H'=>H'=U1/\zs=[]) ⟨rfl,rfl⟩ (z20 (by decide)) ?_ ?_ ?_ ?_
 ·rintro i ys σ' H' ⟨_,rfl⟩
  exact Nat.zero_le _
 ·rintro i ys σ' H' _ ⟨rfl,_⟩
  exact⟨SqT.of (s1 _ _ hp),SqT.of (s1 _ _ hp)⟩
 ·rintro i zs x y σ' H' T hx _ _ _
  cases hx
 rintro ys σ' H2 ⟨rfl,rfl⟩ pm hpm
 exact⟨pm,rfl,[],SqL.of z01,q _ (s1.trans (z05 hpm _))⟩
end
section
variable{P:Program}{w:World}{K:PySem.W.Frag}{mg:Str->Option Value}{base:Heap}{f:Addr}{fd:FuncData}
def Chg(o:HO):Prop:=(∃k,o=.dK k)\/(∃k,o=.dT k)\/(∃a k,o=.frz a (.dK k))\/(∃a k,o=.frz a (.dT k))\/∃c d f,o=.ins c d f
structure Keeps(H H':Hp):Prop where
 a:∀b o,¬ Chg o->H b=some o->H' b=some o
theorem q00{xs:List V}:¬ Chg (.tup xs):=by rintro(⟨_,z⟩ | ⟨_,z⟩ | ⟨_,_,z⟩ | ⟨_,_,z⟩ | ⟨_,_,_,z⟩)<;>cases z
theorem q01{xs:List V}:¬ Chg (.lst xs):=by rintro(⟨_,z⟩ | ⟨_,z⟩ | ⟨_,_,z⟩ | ⟨_,_,z⟩ | ⟨_,_,_,z⟩)<;>cases z
theorem Keeps.t{H H':Hp}(h:Keeps H H'):∀b xs,H b=some (.tup xs)->H' b=some (.tup xs):=fun b xs e=>h.a b _ q00 e
theorem Keeps.l{H H':Hp}(h:Keeps H H'):∀b xs,H b=some (.lst xs)->H' b=some (.lst xs):=fun b xs e=>h.a b _ q01 e
theorem Keeps.kp{H H':Hp}(h:Keeps H H'):Kp H H':=⟨h.t,fun b xs e=>⟨xs,h.l b xs e⟩⟩
theorem Keeps.trans{H H1 H2:Hp}(h:Keeps H H1)(k:Keeps H1 H2):Keeps H H2:=⟨fun b o c e=>k.a b o c (h.a b o c e)⟩
theorem Same.keeps{H H':Hp}(s:Same H H'):Keeps H H':=⟨fun b o _ e=>s b _ e⟩
theorem SB.keeps{n:Addr}{H H':Hp}(s:SB n H H'):Keeps H H':=⟨fun b o c h=>by
 rcases s b o h with h1 | ⟨ob,kvs,e | ⟨o2,e⟩,h1⟩ | ⟨_,k,k',e,h1⟩
 ·exact h1
 ·exact absurd (.inl ⟨_,e⟩) c
 ·exact absurd (.inr (.inr (.inl ⟨_,_,e⟩))) c
 ·exact absurd (.inr (.inl ⟨_,e⟩)) c⟩
theorem SB.dT{n:Addr}{H H':Hp}(s:SB n H H'){b:Addr}{k:List (List Key×V)}(h:H b=some (.dT k))(hn:b≠n):H' b=some (.dT k):=by
 rcases s b _ h with h1 | ⟨_,_,e | ⟨_,e⟩,_⟩ | ⟨e,_⟩
 ·exact h1
 ·cases e
 ·cases e
 ·exact absurd e hn
theorem zsp{H:Hp}{x:Addr}{k:List (List Key×V)}{o:HO}(h:Rd H x (.dT k)):Keeps H (upd H x o):=
 ⟨fun b o c e=>by rw [z0a (fun z=>by rcases h with h | ⟨_,h⟩<;>(rw [z,h] at e; cases e); exact c (.inr (.inl ⟨_,rfl⟩)); exact c (.inr (.inr (.inr (.inl ⟨_,_,rfl⟩)))))]; exact e⟩
structure WkC(K:PySem.W.Frag)(C:Addr):Prop where
 c:Cls K C
 nh:NoAttr K C "heads"
 nn:NoAttr K C "notes"
 nw:NoAttr K C "wants"
abbrev wkF(hv:V)(n wn:Addr):List (Str×V):=[("heads",hv),("notes",.ref n),("wants",.ref wn)]
theorem q15(hv:V)(n wn:Addr):zcn ("wants" : Str) (V.ref wn) (zcn ("notes" : Str) (V.ref n) (zcn ("heads" : Str) hv []))=wkF hv n wn:=by
 rfl
theorem zvu{hv:V}{n wn:Addr}:(wkF hv n wn).lookup ("notes" : Str)=some (V.ref n):=by
 rfl
theorem zvt{hv:V}{n wn:Addr}:(wkF hv n wn).lookup ("wants" : Str)=some (V.ref wn):=by
 rfl
def zr3(C:Addr):Sp:=fun vs H Q _=>∃(x dx:Addr) (hv:V),vs=[.ref x,hv]/\H x=some (.ins C dx [])/\∀(n wn:Addr) (H':Hp),(∀b o,b≠x->H b=some o->H' b=some o)->H' x=some (.ins C dx (wkF hv n wn))->H' n=some (.dT [])->H' wn=some (.dT [])->n≠wn->H n=none->Q .non H'
theorem zka{C:Addr} (F:Fun K "__init__" "Walk.__init__" z3b f fd) (t:WkC K C):FnOk P w K mg base CX0 1 f fd ["self","heads"] (zr3 C):=by
 refine F.ok zk0 (fun vs H Q E h=>?_) (fun cdv A outer s H vs Q E hr h=>?_)
 ·obtain⟨x,dx,hv,rfl,_⟩:=h
  rfl
 obtain⟨x,dx,hv,rfl,hx,q⟩:=h
 refine⟨_,(z02 (zrl (f:="heads") (z00 (i:=0) rfl z45 zna znn) (z00 (i:=1) rfl zan z6h z6k) (z04 rfl))
 (z02 (zrl (f:="notes") (z00 (i:=0) rfl z45 zna znn) zin (z04 rfl))
 (z07 (zrl (f:="wants") (z00 (i:=0) rfl z45 zna znn) zin (z04 rfl))))),?_⟩
 walk_at "rx"
 refine⟨_,_,_,hx,t.c,t.nh,by decide,fun n hn=>?_⟩
 have hx1:upd H x (.ins C dx (zcn ("heads" : Str) hv [])) x=_:=z01
 have m1:∀b o,b≠x->H b=some o->(upd H x (.ins C dx (zcn ("heads" : Str) hv []))) b=some o:=fun b o z e=>by rw [z0a z]; exact e
 generalize upd H x (.ins C dx (zcn ("heads" : Str) hv []))=H1 at hx1 m1 hn |-
 have s2:=z05 hn (HO.dT [])
 have en:upd H1 n (HO.dT []) n=_:=z01
 have hx2:=s2 _ _ hx1
 generalize upd H1 n (HO.dT [])=H2 at s2 en hx2 |-
 refine⟨_,_,_,hx2,t.c,t.nn,(show 1 < 1000 from by decide),fun wn hwn=>?_⟩
 have nx:n≠x:=zg0 en hx2 (by intro z; cases z)
 have hx3:upd H2 x (.ins C dx (zcn ("notes" : Str) (.ref n) (zcn ("heads" : Str) hv []))) x=_:=z01
 have m3:∀b o,b≠x->H2 b=some o->(upd H2 x (.ins C dx (zcn ("notes" : Str) (.ref n) (zcn ("heads" : Str) hv [])))) b=some o:=fun b o z e=>by rw [z0a z]; exact e
 generalize upd H2 x (.ins C dx (zcn ("notes" : Str) (.ref n) (zcn ("heads" : Str) hv [])))=H3 at hx3 m3 hwn |-
 have s4:=z05 hwn (HO.dT [])
 have ew:upd H3 wn (HO.dT []) wn=_:=z01
 have hx4:=s4 _ _ hx3
 generalize upd H3 wn (HO.dT [])=H4 at s4 ew hx4 |-
 refine⟨_,_,_,hx4,t.c,t.nw,(show 2 < 1000 from by decide),?_⟩
 have wx:wn≠x:=zg0 ew hx4 (by intro z; cases z)
 rw [q15]
 have en3:=m3 _ _ nx en
 refine q n wn _ (fun b o z e=>?_) z01 ?_ ?_ ?_ ?_
 ·rw [z0a z]
  exact s4 _ _ (m3 _ _ z (s2 _ _ (m1 _ _ z e)))
 ·rw [z0a nx]
  exact s4 _ _ en3
 ·rw [z0a wx]
  exact ew
 ·intro z
  subst z
  rw [en3] at hwn
  cases hwn
 ·cases hHn:H n with
  | none=>rfl
  | some o=>
   rw [m1 _ _ nx hHn] at hn
   cases hn
end
section
variable{P:Program}{w:World}{K:PySem.W.Frag}{mg:Str->Option Value}{base:Heap}{f:Addr}{fd:FuncData}
noncomputable def notesB (bh:Bh) (rows:List Rw) (b:List D):Nts:=(wkB bh b [] 0 (some (zlh rows)) []).2
def zf6(Pq:T->Prop)(n:Nat)(rows:List Rw)(b:List D):Prop:=zvl Pq n b/\rows.length+szB b<=900/\2 * n+10<=900
abbrev zfv(rows:List Rw)(b:List D):Dm:=.tup [.tup (rows.map ze1),.tup (zi7 b)]
def zo2(K:PySem.W.Frag)(Pq:T->Prop)(bh:Bh)(n:Nat)(C:Addr):Sp:=fun vs H Q _=>∃(gv:V) (hd:Addr) (rows:List Rw) (b:List D),vs=[gv,.ref hd]/\Dt H gv (zfv rows b)/\H hd=some (.dT [])/\zf6 Pq n rows b/\
 ∀(a dx nn wn:Addr) (H':Hp),Keeps H H'->H' hd=some (.dT [])->H' a=some (.ins C dx (wkF (.ref hd) nn wn))->H' wn=some (.dT [])->wn≠nn->Wk K H' a nn (notesB bh rows b)->Q (.ref a) H'
theorem zs0{Pq:T->Prop}{bh:Bh}{n:Nat}{C:Addr} (F:Fun K "walked" "walked" z37 f fd) (m_Walk:mg "Walk" = some (.ref C)) (t:WkC K C) (c_Walk_init:CalleeI P w K mg base C ["self","heads"] 1 (zr3 C)) (c_book_of:Callee P w K mg base "book_of" ["shelf"] 1 zih)
  (c_go_block:Callee P w K mg base "go_block" ["block","path","book","walk"] (3 * n+12) (q0v K bh Pq n)):FnOk P w K mg base CX0 (3 * n+13) f fd ["program","heads"] (zo2 K Pq bh n C):=by
 refine F.ok sc_walked (fun vs H Q E h=>?_) (fun cdv A outer s H vs Q E hr h=>?_)
 ·obtain⟨gv,hd,rows,b,rfl,_⟩:=h
  rfl
 obtain⟨gv,hd,rows,b,rfl,hg,hhd,⟨hok,hsz,hn⟩,q⟩:=h
 obtain⟨pg,xs,rfl,hpg,da⟩:=hg.tupI
 rcases da with _ | ⟨d1,_ | ⟨d2,_ | _⟩⟩
 rename_i vr vb
 refine⟨_,(z02 (z19 (i:=2) sc_walked.nd rfl zg8 (q3c c_Walk_init hr (by omega) zhk m_Walk (z09 (z00 (i:=1) rfl ze8 z6h z6k) z03) zzz) (z04 rfl))
 (z02 (zd6 (z15 c_go_block hr (by omega) (z09 (z0r z0g (z00 (i:=0) rfl z6a z3w z3z) z06 (fun _ _=>rfl)) (z09 (z1a z03) (z09 (z15 c_book_of hr (by omega) (z09 (z0r z0g (z00 (i:=0) rfl z6a z3w z3z) z06 (fun _ _=>rfl)) z03) zdi zia) (z09 (z00 (i:=2) rfl z8w z3d z3e) z03)))) zbu zng) (z04 rfl))
 (z07 (z0b (z00 (i:=2) rfl z8w z3d z3e))))),?_⟩
 walk_at "rx"
 intro x dx hx hdx ndx
 have ex0:upd (upd H dx (HO.own x)) x (HO.ins C dx []) x=_:=z01
 have s0:Same H (upd (upd H dx (HO.own x)) x (HO.ins C dx [])):=fun b o e=>by
  rw [z0a (z0h e hx),z0a (z0h e hdx)]; exact e
 generalize upd (upd H dx (HO.own x)) x (HO.ins C dx [])=U at ex0 s0 |-
 refine⟨x,dx,_,rfl,ex0,fun nn wn H1 m1 hx1 hn1 hw1 hne hnn0=>?_⟩
 refine⟨rfl,?_⟩
 have s1:Same H H1:=fun b o e=>m1 b o (z0h e hx) (s0 _ _ e)
 refine⟨_,SqT.of (s1 _ _ hpg),_,rfl,Nat.zero_le _,fun p2 hp2=>?_⟩
 have s2:=z05 hp2 (HO.tup [])
 have e2:upd H1 p2 (HO.tup []) p2=_:=z01
 generalize upd H1 p2 (HO.tup [])=U2 at s2 e2 |-
 have s12:=s1.trans s2
 refine⟨_,SqT.of (s12 _ _ hpg),_,rfl,vr,rows,rfl,d1.kp s12.kp,by omega,fun db H3 s3 hbk=>?_⟩
 have s13:=s12.trans s3
 have s23:=s2.trans s3
 have wk3:Wk K H3 x nn []:=⟨⟨C,dx,_,s23 _ _ hx1,t.c,t.nn,zvu⟩,[],s23 _ _ hn1,.nil⟩
 have hbl:(zlh rows).length<=rows.length:=by
  have:=zgz rows []
  rw [List.length_nil,Nat.zero_add] at this
  exact this
 refine⟨vb,_,_,b,[],x,nn,some (zlh rows),[],rfl,d2.kp s13.kp,hok,⟨p2,rfl,s3 _ _ e2⟩,⟨db,rfl,hbk⟩,wk3,by simp; omega,fun bk e=>by cases e; omega,by simp; omega,fun r H4 s4 w4 _=>?_⟩
 exact q x dx nn wn H4 ((Same.keeps s13).trans s4.keeps) (s4.dT (s13 _ _ hhd) (fun z=>by
   rw [z] at hhd
   have:=s0 _ _ hhd
   rw [hnn0] at this
   cases this)) (s4.ins (s23 _ _ hx1)) (s4.dT (s23 _ _ hw1) (Ne.symm hne)) (Ne.symm hne) w4
def zr9:Sp:=fun vs H Q _=>∃(a b:Addr),vs=[.ref a,.ref b]/\H a=some (.dT [])/\H b=some (.dT [])/\∀(H':Hp),(∀c o,c≠a->H c=some o->H' c=some o)->Keeps H H'->Q (.bl true) H'
theorem zmn(F:Fun K "is_held" "is_held" z3a f fd) (b_sorted:mg "sorted" = none) (b_all:mg "all" = none) (c_is_book_within:Callee P w K mg base "is_book_within" ["one","other"] 0 (fun _ _ _ _=>False)):FnOk P w K mg base CX0 1 f fd ["wants","heads"] zr9:=by
 refine F.ok zpn (fun vs H Q E h=>?_) (fun cdv A outer s H vs Q E hr h=>?_)
 ·obtain⟨a,b,rfl,_⟩:=h
  rfl
 obtain⟨a,b,rfl,ha,hb,q⟩:=h
 refine⟨_,(z02 (z1h (z0d (q47 hr.units) (z4q (z8c rfl) z7r b_sorted zcm (z09 (z00 (i:=0) rfl z74 zjd zjk) z03) zbp zc6) (z4q (z8c rfl) z7r b_sorted zcm (z09 (z00 (i:=1) rfl zcs z6h z6k) z03) zbp zc6) (z0j _)) (z07 (z0b zpy)) z0f)
 (z07 (z0b (z4q (zjo rfl) zhm b_all zu7 (z09 (z96 ["path","wants","heads"] [none,some 0,some 1] rfl (CompS.of (by rfl)) (zv5 (z00 (i:=0) rfl z74 zjd zjk)) (fun _ _ _ _ _=>(z1k (i:=0) (show List.Nodup (["path","wants","heads"]:List Str) from by decide+kernel) rfl (Or.inl rfl))) (fun _ _ _ _ _=>z81) (fun _ _ _ _ _=>(z15 c_is_book_within hr (by omega) (z09 (zio hr.units1 (z00 (i:=1) rfl (by first | exact Or.inl rfl | exact Or.inr (Or.inl rfl) | exact Or.inr (Or.inr rfl)) zjd zjk) (z00 (i:=0) rfl (by first | exact Or.inl rfl | exact Or.inr (Or.inl rfl) | exact Or.inr (Or.inr rfl)) z0t z0u) (fun _ _=>rfl)) (z09 (zio hr.units1 (z00 (i:=2) rfl (by first | exact Or.inl rfl | exact Or.inr (Or.inl rfl) | exact Or.inr (Or.inr rfl)) z6h z6k) (z00 (i:=0) rfl (by first | exact Or.inl rfl | exact Or.inr (Or.inl rfl) | exact Or.inr (Or.inr rfl)) z0t z0u) (fun _ _=>rfl)) z03)) rfl zds))) z03) zsd zts)))),?_⟩
 walk_at "rx"
 refine⟨a,[],[],rfl,.inl ha,rfl,(fun _ h=>by cases h),Nat.zero_le _,fun l vs ps hl hpm _ dvs=>?_⟩
 have hps:ps=[]:=List.Perm.eq_nil hpm
 subst hps
 cases dvs
 have s1:=z05 hl (HO.lst [])
 have e1:upd H l (HO.lst []) l=_:=z01
 generalize upd H l (HO.lst [])=U at s1 e1 |-
 refine⟨b,[],[],rfl,.inl (s1 _ _ hb),rfl,(fun _ h=>by cases h),Nat.zero_le _,fun l2 vs ps hl2 hpm _ dvs=>?_⟩
 have hps:ps=[]:=List.Perm.eq_nil hpm
 subst hps
 cases dvs
 have s2:=z05 hl2 (HO.lst [])
 have e2:upd U l2 (HO.lst []) l2=_:=z01
 generalize upd U l2 (HO.lst [])=U2 at s2 e2 |-
 have s12:=s1.trans s2
 refine⟨true,⟨l,l2,[],[],[],[],rfl,rfl,SqL.of (s2 _ _ e1),SqL.of e2,.nil,.nil,rfl,rfl,rfl,rfl,rfl⟩,?_⟩
 show ∃x,_
 refine⟨[],.inl (s12 _ _ ha),fun o as pr=>?_⟩
 cases pr
 have kf:Keeps U2 (upd U2 a (HO.frz o (.dT []))):=zsp (.inl (s12 _ _ ha))
 have ef:upd U2 a (HO.frz o (.dT [])) a=_:=z01
 have mf:∀c u,c≠a->U2 c=some u->upd U2 a (HO.frz o (.dT [])) c=some u:=fun c u z e=>by rw [z0a z]; exact e
 generalize upd U2 a (HO.frz o (.dT []))=U3 at kf ef mf |-
 refine ztz (fun i ys σ' H'=>H'=U3/\ys=[]) ⟨rfl,rfl⟩ (z20 (by decide)) ?_ ?_ ?_ ?_
 ·rintro i ys σ' H' ⟨_,rfl⟩
  exact Nat.zero_le _
 ·rintro i ys σ' H' _ ⟨rfl,_⟩
  exact ef
 ·rintro i zs x σ' H' hx _
  cases hx
 rintro ys σ' H2 ⟨rfl,rfl⟩ pm hpm
 have s4:=z05 hpm (HO.lst [])
 exact⟨pm,rfl,[],SqL.of z01,q _ (fun c u z e=>s4 _ _ (mf _ _ z (s12 _ _ e))) ((Same.keeps s12).trans (kf.trans (Same.keeps s4)))⟩
end
section
variable{P:Program}{w:World}{K:PySem.W.Frag}{mg:Str->Option Value}{base:Heap}{f:Addr}{fd:FuncData}
def lookN:Nts->Pth->S
 | [],_=>none
 | q::r,p=>if q.1=p then some q.2 else lookN r p
theorem NtR.look{H:Hp}{kvs:List (List Key×V)}{ns:Nts}(h:NtR H kvs ns)(p:Pth):(lookN ns p=none/\zig kvs (zh3 p)=none)\/∃s v,lookN ns p=some s/\zig kvs (zh3 p)=some v/\Dt H v (z8v (some s)):=by
 unfold NtR at h
 induction h with
 | nil=>exact .inl ⟨rfl,rfl⟩
 | cons rr _ ih=>
  rename_i a q _ _ _
  obtain⟨e,d⟩:=rr
  by_cases hx:q.1=p
  ·refine .inr ⟨q.2,a.2,?_,zbh (by rw [e,hx]),d⟩
   rw [lookN,if_pos hx]
  ·rw [zbi (by rw [e]; intro z; exact hx (zf0 z))]
   rw [lookN,if_neg hx]
   exact ih
theorem NtR.keys{H:Hp}{kvs:List (List Key×V)}{ns:Nts}(h:NtR H kvs ns):kvs.map (·.1)=(ns.map (·.1)).map (·.map Sum.inl):=by
 unfold NtR at h
 induction h with
 | nil=>rfl
 | cons rr _ ih=>
  rw [List.map_cons,List.map_cons,List.map_cons,ih,rr.1]; rfl
theorem zg6:∀{ns:Nts} {p:Pth},p∈ns.map (·.1)->∃s,lookN ns p=some s
 | [],_,h=>by cases h
 | q::r,p,h=>by
  rw [lookN]
  by_cases e:q.1=p
  ·exact⟨q.2,if_pos e⟩
  ·rw [if_neg e]
   rw [List.map_cons,List.mem_cons] at h
   exact zg6 (h.resolve_left fun z=>e z.symm)
def q0u(K:PySem.W.Frag)(Pq:T->Prop)(bh:Bh)(n:Nat)(C:Addr):Sp:=fun vs H Q _=>∃(gv:V) (pp:Addr) (rows:List Rw) (b:List D),vs=[gv,.ref pp]/\Dt H gv (zfv rows b)/\H pp=some (.tup [])/\zf6 Pq n rows b/\∀(a nn:Addr) (H':Hp),Keeps H H'->Wk K H' a nn (notesB bh rows b)->Q (.ref a) H'
theorem zd8{Pq:T->Prop}{bh:Bh}{n:Nat}{C:Addr}{v:V} (F:Fun K "walk_by_paper" "walk_by_paper" z0e f fd) (t:WkC K C) (g_is_paper_row:GC mg "is_paper_row" v) (c_are_rising_rows:Callee P w K mg base "are_rising_rows" ["thing","is_row"] 4 zr6) (c_heads_of:Callee P w K mg base "heads_of" ["paper"] 2 zo5)
  (c_walked:Callee P w K mg base "walked" ["program","heads"] (3 * n+13) (zo2 K Pq bh n C)) (c_is_held:Callee P w K mg base "is_held" ["wants","heads"] 1 zr9):FnOk P w K mg base CX0 (3 * n+14) f fd ["program","thing"] (q0u K Pq bh n C):=by
 refine F.ok sc_walk_by_paper (fun vs H Q E h=>?_) (fun cdv A outer s H vs Q E hr h=>?_)
 ·obtain⟨gv,pp,rows,b,rfl,_⟩:=h
  rfl
 obtain⟨gv,pp,rows,b,rfl,hg,hpp,hwk,q⟩:=h
 refine⟨_,(z02 (z1h (zfu (zad (z15 c_are_rising_rows hr (by omega) (z09 (z00 (i:=1) rfl z40 z3f z3g) (z09 (zva g_is_paper_row z5b zgu) z03)) z4d zc8))) (z07 (z0b z1v)) z0f)
 (z02 (z19 (i:=2) sc_walk_by_paper.nd rfl z82 (z15 c_heads_of hr (by omega) (z09 (z00 (i:=1) rfl z40 z3f z3g) z03) z6y zne) (z04 rfl))
 (z02 (z19 (i:=3) sc_walk_by_paper.nd rfl z8n (z15 c_walked hr (by omega) (z09 (z00 (i:=0) rfl z6m z3w z3z) (z09 (z00 (i:=2) rfl z41 z6h z6k) z03)) z84 ztj) (z04 rfl))
 (z02 (z1h (zfu (zad (z15 c_is_held hr (by omega) (z09 (zrr (z00 (i:=3) rfl z4e z3d z3e) rfl) (z09 (z00 (i:=2) rfl z41 z6h z6k) z03)) z7n zqk))) (z07 (z0b z1v)) z0f)
 (z07 (z0b (z00 (i:=3) rfl z4e z3d z3e))))))),?_⟩
 walk_at "rx"
 refine⟨pp,v,rfl,hpp,fun H1 s1=>?_⟩
 walk_at "rx"
 refine⟨pp,rfl,s1 _ _ hpp,fun hd hhd=>?_⟩
 have s2:=z05 hhd (HO.dT [])
 have e2:upd H1 hd (HO.dT []) hd=_:=z01
 generalize upd H1 hd (HO.dT [])=U at s2 e2 |-
 have s12:=s1.trans s2
 refine⟨gv,hd,rows,b,rfl,hg.kp s12.kp,e2,hwk,fun a dx nn wn H3 k3 h3 ha hw hne wk=>?_⟩
 walk_at "rx"
 refine⟨_,_,_,ha,t.c,t.nw,_,zvt,wn,hd,rfl,hw,h3,fun H4 m4 k4=>?_⟩
 walk_at "rx"
 refine q a nn H4 ((Same.keeps s12).trans (k3.trans k4)) ?_
 obtain⟨⟨C',dx',fs,e,c1,d1,l⟩,kvs,e2',r⟩:=wk
 refine⟨⟨C',dx',fs,m4 _ _ (zg0 e hw (by intro z; cases z)) e,c1,d1,l⟩,kvs,m4 _ _ (Ne.symm hne) e2',r.kp k4.kp⟩
def zr7(K:PySem.W.Frag)(Pq:T->Prop)(bh:Bh)(n:Nat):Sp:=fun vs H Q _=>∃(gv:V) (pp:Addr) (rows:List Rw) (b:List D),vs=[gv,.ref pp]/\Dt H gv (zfv rows b)/\H pp=some (.tup [])/\zf6 Pq n rows b/\∀(nn:Addr) (kvs:List (List Key×V)) (H':Hp),Keeps H H'->H' nn=some (.dT kvs)->NtR H' kvs (notesB bh rows b)->Q (.ref nn) H'
theorem zk8{Pq:T->Prop}{bh:Bh}{n:Nat}{C:Addr} (F:Fun K "notes_by" "notes_by" z2a f fd) (c_walk_by_paper:Callee P w K mg base "walk_by_paper" ["program","thing"] (3 * n+14) (q0u K Pq bh n C)):FnOk P w K mg base CX0 (3 * n+15) f fd ["program","paper"] (zr7 K Pq bh n):=by
 refine F.ok sc_notes_by (fun vs H Q E h=>?_) (fun cdv A outer s H vs Q E hr h=>?_)
 ·obtain⟨gv,pp,rows,b,rfl,_⟩:=h
  rfl
 obtain⟨gv,pp,rows,b,rfl,hg,hpp,hwk,q⟩:=h
 refine⟨_,(z02 (z19 (i:=2) sc_notes_by.nd rfl zdb (z15 c_walk_by_paper hr (by omega) (z09 (z00 (i:=0) rfl z9y z3w z3z) (z09 (z00 (i:=1) rfl zba zjf zjl) z03)) z6z zer) (z04 rfl))
 (z02 (z1h (z0d zqg (z00 (i:=2) rfl z72 z3d z3e) z1v (z0j _)) (z07 zim) z0f)
 (z07 (z0b (zrr (z00 (i:=2) rfl z72 z3d z3e) rfl))))),?_⟩
 walk_at "rx"
 refine⟨gv,pp,rows,b,rfl,hg,hpp,hwk,fun a nn H1 k1 wk=>?_⟩
 obtain⟨⟨C',dx',fs,e,c1,d1,l⟩,kvs,e2,r⟩:=wk
 walk_at "rx"
 exact⟨_,_,_,e,c1,d1,_,l,q nn kvs H1 k1 e2 r⟩
def zrg(ns:Nts)(p:Pth):Dm:=match lookN ns p with
 | some s=>.tup [z4c p,.int s.1,.int s.2]
 | none=>.non
def zr5(K:PySem.W.Frag)(Pq:T->Prop)(bh:Bh)(n:Nat):Sp:=fun vs H Q _=>∃(gv:V) (pp:Addr) (rows:List Rw) (b:List D),vs=[gv,.ref pp]/\Dt H gv (zfv rows b)/\H pp=some (.tup [])/\zf6 Pq n rows b/\(∀q∈notesB bh rows b,q.1≠[])/\(notesB bh rows b).length<=60/\
 ∀(l:Addr) (vs:List V) (ps:List Pth) (H':Hp),Keeps H H'->ps.Perm ((notesB bh rows b).map (·.1))->ps.Pairwise (fun p q=>ltI p q=true)->H' l=some (.lst vs)->DtA H' vs (ps.map (zrg (notesB bh rows b)))->Q (.ref l) H'
def HI(U:Hp)(nn:Addr)(ns:Nts)(ps:List Pth)(i:Nat)(ys:List V)(σ':St)(H':Hp):Prop:=Same U H'/\(∃t,σ'=[t,some (.ref nn)])/\DtA H' ys ((ps.take i).map (zrg ns))/\i<=ps.length
theorem zs2{Pq:T->Prop}{bh:Bh}{n:Nat} (F:Fun K "shown" "shown" z4p f fd) (b_sorted:mg "sorted" = none) (c_notes_by:Callee P w K mg base "notes_by" ["program","paper"] (3 * n+15) (zr7 K Pq bh n)):FnOk P w K mg base CX0 (3 * n+16) f fd ["program","paper"] (zr5 K Pq bh n):=by
 refine F.ok sc_shown (fun vs H Q E h=>?_) (fun cdv A outer s H vs Q E hr h=>?_)
 ·obtain⟨gv,pp,rows,b,rfl,_⟩:=h
  rfl
 obtain⟨gv,pp,rows,b,rfl,hg,hpp,hwk,hne,h60,q⟩:=h
 refine⟨_,(z02 (z19 (i:=2) sc_shown.nd rfl zga (z15 c_notes_by hr (by omega) (z09 (z00 (i:=0) rfl zcp z3w z3z) (z09 (z00 (i:=1) rfl zf8 zjf zjl) z03)) zdl znc) (z04 rfl))
 (z07 (z0b (z96 ["path","notes"] [none,some 2] rfl (CompS.of (by rfl)) (zfw (z4q (z8c rfl) zgn b_sorted zcm (z09 (z00 (i:=2) rfl zf9 zos zp2) z03) zbp zc6)) (fun _ _ _ _ _=>(z1k (i:=0) (show List.Nodup (["path","notes"]:List Str) from by decide+kernel) rfl (Or.inl rfl))) (fun _ _ _ _ _=>z81) (fun _ _ _ _ _=>(z1n (opK (r:=zfr) (K:=K) z2v rfl) (z1a (z09 (z00 (i:=0) rfl (by first | exact Or.inl rfl | exact Or.inr (Or.inl rfl) | exact Or.inr (Or.inr rfl)) z0t z0u) z03)) (zio hr.units1 (z00 (i:=1) rfl (by first | exact Or.inl rfl | exact Or.inr (Or.inl rfl) | exact Or.inr (Or.inr rfl)) zos zp2) (z00 (i:=0) rfl (by first | exact Or.inl rfl | exact Or.inr (Or.inl rfl) | exact Or.inr (Or.inr rfl)) z0t z0u) (fun _ _=>rfl)))))))),?_⟩
 walk_at "rx"
 refine⟨gv,pp,rows,b,rfl,hg,hpp,hwk,fun nn kvs H1 k1 e1 r1=>?_⟩
 generalize notesB bh rows b=ns at hne h60 q r1
 refine⟨nn,kvs,ns.map (·.1),rfl,.inl e1,r1.keys,?_,by rw [List.length_map]; exact h60,fun l vs ps hl hpm hpw dvs=>?_⟩
 ·intro p hp
  obtain⟨z,hz,rfl⟩:=List.mem_map.mp hp
  exact hne z hz
 have s2:=z05 hl (HO.lst vs)
 have e2:upd H1 l (HO.lst vs) l=_:=z01
 generalize upd H1 l (HO.lst vs)=U at s2 e2 |-
 have hvl:vs.length=ps.length:=by rw [dvs.length,List.length_map]
 have hpl:ps.length<=60:=by rw [hpm.length_eq,List.length_map]; exact h60
 refine⟨l,rfl,⟨_,SqL.of e2⟩,?_⟩
 refine zce (K:=K) (a:=l) (xs:=vs) (HI U nn ns ps) ⟨Same.refl _,⟨_,rfl⟩,.nil,Nat.zero_le _⟩ (z20 (by omega)) ?_ ?_ ?_ ?_
 ·rintro i ys σ' H' ⟨_,_,d,hi⟩
  rw [d.length,List.length_map,List.length_take]
  omega
 ·rintro i ys σ' H' _ ⟨s3,_⟩
  exact SqL.of (s3 _ _ e2)
 ·rintro i ys x σ' H' hx ⟨s3,⟨t,rfl⟩,d,hi⟩
  obtain⟨p,hp,dp⟩:=ze3 dvs hx
  have hmem:p∈ns.map (·.1):=hpm.mem_iff.mp (List.mem_of_getElem? hp)
  obtain⟨sv,hsv⟩:=zg6 hmem
  obtain⟨px,xs2,rfl,hpx,dpx⟩:=dp.tupI
  rw [zc3 dpx] at hpx
  have s23:=s2.trans s3
  rcases(r1.kp s23.kp).look p with⟨z,_⟩ | ⟨sv',v,z1,z2,dv⟩
  ·rw [hsv] at z; cases z
  have g:=DGet.t (s23 _ _ e1) (k:=zh3 p) (b:=px) (by rw [zir]; exact s23 _ _ hpx)
  rw [z2] at g
  walk_at "rx"
  refine⟨zl 1 (by decide),fun p3 hp3=>?_⟩
  have s4:=z05 hp3 (HO.tup [V.ref px])
  have e4:upd H' p3 (HO.tup [V.ref px]) p3=_:=z01
  have g4:=DGet.t (s4 _ _ (s23 _ _ e1)) (k:=zh3 p) (b:=px) (by rw [zir]; exact s4 _ _ (s23 _ _ hpx))
  rw [z2] at g4
  generalize upd H' p3 (HO.tup [V.ref px])=U4 at s4 e4 g4 |-
  refine⟨v,g4,?_⟩
  obtain⟨pv,rfl,hpv⟩:=q4t (dv.kp s4.kp)
  refine⟨p3,pv,_,_,rfl,rfl,SqT.of e4,SqT.of hpv,zl 3 (by decide),fun z=>(by cases z),fun _ z=>(by cases z),fun _ _ p5 hp5=>?_⟩
  have s5:=z05 hp5 (HO.tup ([V.ref px]++[V.int sv'.1,V.int sv'.2]))
  have hil:i < ps.length:=(List.getElem?_eq_some_iff.mp hp).1
  refine⟨s3.trans (s4.trans s5),⟨_,rfl⟩,?_,hil⟩
  rw [z76 hp,List.map_append]
  refine DtA.append (DtA.kp (s4.trans s5).kp d) (.cons ?_ .nil)
  unfold zrg
  rw [z1]
  exact .tup z01 (.cons (dp.kp (s23.trans (s4.trans s5)).kp) (.cons (.int _) (.cons (.int _) .nil)))
 ·rintro ys σ' H' ⟨s3,_,d,hi⟩ pl hpl2
  rw [hvl,List.take_length] at d
  have s4:=z05 hpl2 (HO.lst ys)
  exact q pl ys ps _ (k1.trans (Same.keeps (s2.trans (s3.trans s4)))) hpm hpw z01 (DtA.kp s4.kp d)
end
section
variable{P:Program}{w:World}{K:PySem.W.Frag}{mg:Str->Option Value}{base:Heap}{f:Addr}{fd:FuncData}
theorem z0s{a b:TS}{D:Ends}{σ : St}{H:Hp}(h:∀N:St->Hp->Prop,N=b D->a {D with nx:=N} σ H):zun a b D σ H:=h _ rfl
theorem zr0{c:TT}{a b:TS}{D:Ends}{σ : St}{H:Hp}(h:∀Y Z:St->Hp->Prop,Y=a D->Z=b D->zuq c (fun _=>Y) (fun _=>Z) D σ H):zuq c a b D σ H:=h _ _ rfl rfl
def pair:List Str:=["a","b","c","d"]
structure okRows(rows:List Rw):Prop where
 len:rows.length<=4
 nm:rows.map (·.1)=pair.take rows.length
 lo:∀r∈rows,-6<=r.2.1/\r.2.1<=r.2.2/\r.2.2<=8
end
section
variable{P:Program}{w:World}{K:PySem.W.Frag}{mg:Str->Option Value}{base:Heap}{f:Addr}{fd:FuncData}
def tyD:Dm->String
 | .non=>"NoneType" | .bl _=>"bool" | .int _=>"int" | .str _=>"str" | .tup _=>"tuple" | .lst=>"list"
theorem q31{H:Hp}{v:V}{d:Dm}(h:Dt H v d):TyOf K H v (.type (tyD d)):=by
 cases h with
 | non=>exact .non
 | bl b=>exact .bl b
 | int i=>exact .int i
 | str x=>exact .str x
 | tup e _=>exact .tup e
 | lst e=>exact .lst e
def isT:Dm->Bool
 | .tup _=>true
 | _=>false
def isI:Dm->Bool
 | .int _=>true
 | .bl _=>true
 | _=>false
def isB:Dm->Bool
 | .bl _=>true
 | _=>false
theorem zqb{H:Hp}{v:V}{d:Dm}(h:Dt H v d):∃t,TyOf K H v t/\PySem.W.kitOne K t (.type "tuple")=some (isT d):=⟨_,q31 h,by cases d<;>rfl⟩
theorem zxt{H:Hp}{v:V}{a b:Dm}(h:Dt H v (.tup [a,b])):∃p x y,v=.ref p/\H p=some (.tup [x,y])/\Dt H x a/\Dt H y b:=by
 obtain⟨p,xs,rfl,e,r⟩:=h.tupI
 rcases r with _ | ⟨r1,_ | ⟨r2,_ | _⟩⟩
 exact⟨p,_,_,rfl,e,r1,r2⟩
theorem zwp{H:Hp}{v:V}{a b c:Dm}(h:Dt H v (.tup [a,b,c])):∃p x y z,v=.ref p/\H p=some (.tup [x,y,z])/\Dt H x a/\Dt H y b/\Dt H z c:=by
 obtain⟨p,xs,rfl,e,r⟩:=h.tupI
 rcases r with _ | ⟨r1,_ | ⟨r2,_ | ⟨r3,_ | _⟩⟩⟩
 exact⟨p,_,_,_,rfl,e,r1,r2,r3⟩
theorem q2p{H:Hp}{v:V}{a b c d:Dm}(h:Dt H v (.tup [a,b,c,d])):∃p x y z u,v=.ref p/\H p=some (.tup [x,y,z,u])/\Dt H x a/\Dt H y b/\Dt H z c/\Dt H u d:=by
 obtain⟨p,xs,rfl,e,r⟩:=h.tupI
 rcases r with _ | ⟨r1,_ | ⟨r2,_ | ⟨r3,_ | ⟨r4,_ | _⟩⟩⟩⟩
 exact⟨p,_,_,_,_,rfl,e,r1,r2,r3,r4⟩
def eqS(d:Dm)(z:Str):Bool:=match d with
 | .str x=>decide (x=z)
 | _=>false
def D.term:D->T
 | .set _ t=>t
 | .ite t _ _=>t
 | .whl t _ _=>t
theorem Wd.ne(w:Wd):eqS (.str w.str) "num" = false/\eqS (.str w.str) "name" = false:=by cases w<;>decide+kernel
abbrev RD:=List Int×D
theorem zxf{H:Hp}:∀p:List Int,DtA H (p.map V.int) (p.map Dm.int)
 | []=>.nil
 | i::p=>.cons (.int i) (zxf p)
theorem zhq{K:PySem.W.Frag}{H:Hp}{Q:VK}{x y:V}{p q:List Int}(dx:Dt H x (z4c p))(dy:Dt H y (z4c q))(hz:p.length+q.length<=1000)(h:∀z H',Same H H'->Dt H' z (z4c (p++q))->Q z H'):zfr K x y H Q:=by
 obtain⟨a,xs,rfl,ha,da⟩:=dx.tupI
 obtain⟨b,ys,rfl,hb,db⟩:=dy.tupI
 have ea:=zc3 da
 have eb:=zc3 db
 subst ea eb
 refine⟨a,b,_,_,rfl,rfl,SqT.of ha,SqT.of hb,?_,fun e=>?_,fun _ e=>?_,fun _ _ r hr=>?_⟩
 ·rw [List.length_map,List.length_map]
  exact Nat.le_of_lt (z20 hz)
 ·have:p=[]:=by simpa using e
  subst this
  exact h _ _ (Same.refl _) dy
 ·have:q=[]:=by simpa using e
  subst this
  rw [List.append_nil] at h
  exact h _ _ (Same.refl _) dx
 ·refine h _ _ (z05 hr _) (.tup z01 ?_)
  rw [<- List.map_append]
  exact zxf _
theorem zhc{H:Hp}{r:Addr}{i:Int}:Dt (upd H r (.tup [.int i])) (.ref r) (z4c [i]):=.tup z01 (.cons (.int i) .nil)
theorem zoo:∀(b:List D) (i:Nat),(zi7 b)[i]?=(b[i]?).map D.enc
 | [],i=>by simp[zi7]
 | d::b,0=>by simp[zi7]
 | d::b,i+1=>by simp[zi7,zoo b i]
theorem zzu{H:Hp}{xs:List V}{b:List D}{i:Nat}{x:V}(h:DtA H xs (zi7 b))(hx:xs[i]?=some x):∃d,b[i]?=some d/\Dt H x d.enc:=by
 obtain⟨e,he,de⟩:=h.get hx
 rw [zoo] at he
 cases hb:b[i]? with
 | none=>rw [hb] at he; cases he
 | some d=>
  rw [hb] at he
  have:d.enc=e:=by simpa using he
  subst this
  exact⟨d,rfl,de⟩
theorem zz{n:Nat}(h:n<=10000):n<=sizeLine:=Nat.le_trans h (by decide)
end
section
variable{P:Program}{w:World}{K:PySem.W.Frag}{mg:Str->Option Value}{base:Heap}{f:Addr}{fd:FuncData}
def okW:Nat->List D->Prop
 | 0,_=>False
 | n+1,b=>b.length<=7/\∀d∈b,match d with
  | .set x t=>x∈pool/\t.ok pool 5
  | .ite t b c=>t.ok pool 5/\okW n b/\okW n c
  | .whl t m b=>t.ok pool 5/\okW n b
abbrev q40(n:Nat)(d:D):Prop:=match d with
 | .set x t=>x∈pool/\t.ok pool 5
 | .ite t b c=>t.ok pool 5/\okW n b/\okW n c
 | .whl t m b=>t.ok pool 5/\okW n b
def D.kind:D->Str
 | .set _ _=>"set"
 | .ite _ _ _=>"if"
 | .whl _ _ _=>"while"
def Fine(n:Nat)(d:Dm):Prop:=d.shut=true/\d.dat.canLay0=true/\d.dat.depth<=n
theorem Fine.mono{n m:Nat}{d:Dm}(h:Fine n d)(k:n<=m):Fine m d:=⟨h.1,h.2.1,Nat.le_trans h.2.2 k⟩
theorem zzq{n:Nat}:∀{ds:List Dm},(∀d∈ds,Fine n d)->zha ds=true/\PyData.canLayAll0 (zgw ds)=true/\PyData.depthAll (zgw ds)<=n
 | [],_=>⟨by simp[zha],by simp[zgw,PyData.canLayAll0],by simp[zgw,PyData.depthAll]⟩
 | d::ds,h=>by
  obtain⟨a,b,c⟩:=zzq (ds:=ds) fun e he=>h e (.tail _ he)
  obtain⟨x,y,z⟩:=h d (.head _)
  refine⟨by simp[zha,x,a],by simp[zgw,PyData.canLayAll0,y,b],?_⟩
  simp only[zgw,PyData.depthAll]
  omega
theorem zon{n:Nat}{ds:List Dm}(h:∀d∈ds,Fine n d):Fine (n+1) (.tup ds):=by
 obtain⟨a,b,c⟩:=zzq h
 exact⟨by simpa [Dm.shut] using a,by simpa [Dm.dat,PyData.canLay0] using b,by simp only[Dm.dat,PyData.depth]; omega⟩
theorem zj8(n:Nat)(i:Int):Fine n (.int i):=⟨by simp[Dm.shut],by simp[Dm.dat,PyData.canLay0],by simp[Dm.dat,PyData.depth]⟩
theorem Fine.eq{n:Nat}{d:Dm}(h:Fine n d)(k:n<=64):d.shut=true/\SeqAt.shaped d.dat=true:=⟨h.1,by
 unfold SeqAt.shaped
 rw [h.2.1,Bool.true_and,decide_eq_true_eq]
 exact Nat.le_trans h.2.2 k⟩
theorem zt5(p:List Int):Fine 1 (z4c p):=zon fun d hd=>by
 obtain⟨i,_,rfl⟩:=List.mem_map.mp hd
 exact zj8 _ _
theorem zw8{d:PyData}(h:d.canLay0=true):PyData.eqv d d=true:=SeqAt.eqv_refl d h
theorem zit:∀(l m:List Str),l.Nodup->(∀x∈l,x∈m)->l.length<=m.length
 | [],m,_,_=>by simp
 | x::l,m,h,hs=>by
  rw [List.nodup_cons] at h
  have hx:=hs x (.head _)
  have ih:=zit l (m.erase x) h.2 fun y hy=>by
   have hne:y≠x:=fun e=>h.1 (e ▸ hy)
   exact(List.mem_erase_of_ne hne).mpr (hs y (.tail _ hy))
  have e:=List.length_erase_of_mem hx
  have hp:=List.length_pos_of_mem hx
  rw [List.length_cons]
  omega
end
section
variable{P:Program}{w:World}{K:PySem.W.Frag}{mg:Str->Option Value}{base:Heap}{f:Addr}{fd:FuncData}
def T.word:T->Str
 | .num _=>"num"
 | .nm _=>"name"
 | .op w _ _=>w.str
def ten:List Str:=["num","name","add","sub","mul","quo","less","same","min","max"]
abbrev Cnt:=List (Str×Int)
def kvC(c:Cnt):List (Key×V):=c.map fun p=>((Sum.inr p.1:Key),V.int p.2)
def z7u(c:Cnt)(x:Str):Option Int:=(c.find? fun p=>decide (p.1=x)).map (·.2)
def zft(c:Cnt)(x:Str)(i:Int):Cnt:=if(c.any fun p=>decide (p.1=x))=true then c.map (fun p=>if p.1=x then(p.1,i) else p) else c++[(x,i)]
def q2m(c:Cnt)(x:Str):Cnt:=zft c x ((z7u c x).getD 0+1)
theorem inr_eq{x y:Str}:((Sum.inr x:Key)=Sum.inr y)↔x=y:=⟨fun h=>by injection h,fun h=>by rw [h]⟩
theorem zwo(x:Str):∀c:Cnt,zig (kvC c) (Sum.inr x)=(z7u c x).map V.int
 | []=>rfl
 | p::c=>by
  have ih:=zwo x c
  unfold zig kvC z7u at ih |-
  rw [List.map_cons,List.find?_cons,List.find?_cons]
  by_cases e:p.1=x
  ·simp[e]
  ·have e':¬ (Sum.inr p.1:Key)=Sum.inr x:=fun z=>e (inr_eq.mp z)
   simp only[e,e',decide_false]
   exact ih
theorem q2k(x:Str)(c:Cnt):((kvC c).any fun kv=>decide (kv.1=Sum.inr x))=c.any fun p=>decide (p.1=x):=by
 unfold kvC
 rw [List.any_map]
 congr 1
 funext p
 show decide ((Sum.inr p.1:Key)=Sum.inr x)=decide (p.1=x)
 by_cases e:p.1=x
 ·rw [decide_eq_true e,decide_eq_true (inr_eq.mpr e)]
 ·rw [decide_eq_false e,decide_eq_false fun z=>e (inr_eq.mp z)]
theorem zx2(x:Str)(i:Int)(c:Cnt):zew (kvC c) (Sum.inr x) (V.int i)=kvC (zft c x i):=by
 unfold zew zft
 rw [q2k]
 split
 ·unfold kvC
  rw [List.map_map,List.map_map]
  refine List.map_congr_left fun p _=>?_
  show(if(Sum.inr p.1:Key)=Sum.inr x then _ else _)=_
  by_cases e:p.1=x
  ·simp[e]
  ·simp[e]
 ·simp[kvC]
def sumC(c:Cnt):Int:=(c.map (·.2)).sum
theorem zev(c:Cnt)(x:Str)(i:Int):(zft c x i).map (·.1)=if x∈c.map (·.1) then c.map (·.1) else c.map (·.1)++[x]:=by
 unfold zft
 have hany:(c.any fun p=>decide (p.1=x))=true↔x∈c.map (·.1):=by
  rw [List.any_eq_true,List.mem_map]
  constructor
  ·rintro⟨p,hp,e⟩; exact⟨p,hp,of_decide_eq_true e⟩
  ·rintro⟨p,hp,e⟩; exact⟨p,hp,decide_eq_true e⟩
 by_cases h:x∈c.map (·.1)
 ·rw [if_pos (hany.mpr h),if_pos h,List.map_map]
  refine List.map_congr_left fun p _=>?_
  show(if p.1=x then(p.1,i) else p).1=p.1
  split<;>rfl
 ·rw [if_neg fun z=>h (hany.mp z),if_neg h,List.map_append]
  rfl
theorem zyk(i:Int)(x:Str):∀c:Cnt,(c.map (·.1)).Nodup->sumC (zft c x i)=sumC c - (z7u c x).getD 0+i:=by
 have upd_:∀c:Cnt,(c.map (·.1)).Nodup->(∀v,z7u c x=some v->sumC (c.map fun p=>if p.1=x then(p.1,i) else p)=sumC c - v+i)/\(z7u c x=none->(c.map fun p=>if p.1=x then(p.1,i) else p)=c/\(c.any fun p=>decide (p.1=x))=false)/\(∀v,z7u c x=some v->(c.any fun p=>decide (p.1=x))=true):=by
  intro c
  induction c with
  | nil=>intro _; exact⟨fun v h=>(by cases h),fun _=>⟨rfl,rfl⟩,fun v h=>(by cases h)⟩
  | cons p c ih=>
   intro hn
   rw [List.map_cons,List.nodup_cons] at hn
   obtain⟨i1,i2,i3⟩:=ih hn.2
   by_cases e:p.1=x
   ·have hno:z7u c x=none:=by
     unfold z7u
     cases hf:c.find? fun p=>decide (p.1=x) with
     | none=>rfl
     | some q=>
      have h1:=List.mem_of_find?_eq_some hf
      have h2:=of_decide_eq_true (List.find?_some (p:=fun p:Str×Int=>decide (p.1=x)) hf)
      exact absurd (List.mem_map.mpr ⟨q,h1,h2.trans e.symm⟩) hn.1
    have hg:z7u (p::c) x=some p.2:=by unfold z7u; rw [List.find?_cons]; simp[e]
    refine⟨fun v h=>?_,fun h=>(by rw [hg] at h; cases h),fun v h=>(by simp[e])⟩
    rw [hg] at h
    have:p.2=v:=Option.some.inj h
    subst this
    rw [List.map_cons,if_pos e,(i2 hno).1]
    simp[sumC]
    omega
   ·have hg:z7u (p::c) x=z7u c x:=by unfold z7u; rw [List.find?_cons]; simp[e]
    rw [hg]
    refine⟨fun v h=>?_,fun h=>?_,fun v h=>?_⟩
    ·have:=i1 v h
     rw [List.map_cons,if_neg e]
     simp only[sumC,List.map_cons,List.sum_cons] at this |-
     omega
    ·obtain⟨j1,j2⟩:=i2 h
     exact⟨by rw [List.map_cons,if_neg e,j1],by rw [List.any_cons,j2]; simp[e]⟩
    ·rw [List.any_cons,i3 v h]; simp
 intro c hn
 obtain⟨h1,h2,h3⟩:=upd_ c hn
 unfold zft
 cases hg:z7u c x with
 | none=>
  rw [if_neg (by rw [(h2 hg).2]; decide)]
  simp[sumC]
 | some v=>
  rw [if_pos (h3 v hg),h1 v hg]
  rfl
structure CntOk(c:Cnt)(n:Nat):Prop where
 nd:(c.map (·.1)).Nodup
 sub:∀p∈c,p.1∈ten
 tot:sumC c=n
theorem CntOk.nil:CntOk [] 0:=⟨.nil,fun p h=>by simp at h,rfl⟩
theorem CntOk.add{c:Cnt}{n:Nat}(h:CntOk c n){x:Str}(hx:x∈ten):CntOk (q2m c x) (n+1):=by
 refine⟨?_,fun p hp=>?_,?_⟩
 ·unfold q2m
  rw [zev]
  split
  ·exact h.nd
  ·rename_i hn
   exact List.nodup_append.mpr ⟨h.nd,by simp,fun a ha b hb e=>hn (by rw [List.mem_singleton] at hb; rw [<- hb,<- e]; exact ha)⟩
 ·have hm:p.1∈(q2m c x).map (·.1):=List.mem_map.mpr ⟨p,hp,rfl⟩
  unfold q2m at hm
  rw [zev] at hm
  split at hm
  ·obtain⟨q,hq,e⟩:=List.mem_map.mp hm
   rw [<- e]; exact h.sub q hq
  ·rcases List.mem_append.mp hm with hm | hm
   ·obtain⟨q,hq,e⟩:=List.mem_map.mp hm
    rw [<- e]; exact h.sub q hq
   ·rw [List.mem_singleton] at hm
    rw [hm]; exact hx
 ·unfold q2m
  rw [zyk _ _ _ h.nd,h.tot]
  omega
theorem CntOk.len{c:Cnt}{n:Nat}(h:CntOk c n):c.length<=10:=by
 have:=zit (c.map (·.1)) ten h.nd fun x hx=>by
  obtain⟨q,hq,e⟩:=List.mem_map.mp hx
  rw [<- e]; exact h.sub q hq
 rw [List.length_map] at this
 exact this
theorem zum{H:Hp}{v:V}{t:T}(h:Dt H v t.enc):∃a y xs,v=.ref a/\H a=some (.tup (.str t.word::y::xs)):=by
 cases t with
 | num i=>
  rw [T.enc] at h
  obtain⟨a,x0,x1,rfl,ha,t0,t1⟩:=zxt h
  cases t0
  exact⟨_,_,_,rfl,ha⟩
 | nm x=>
  rw [T.enc] at h
  obtain⟨a,x0,x1,rfl,ha,t0,t1⟩:=zxt h
  cases t0
  exact⟨_,_,_,rfl,ha⟩
 | op w a b=>
  rw [T.enc] at h
  obtain⟨a,x0,x1,x2,rfl,ha,t0,t1,t2⟩:=zwp h
  cases t0
  exact⟨_,_,_,rfl,ha⟩
theorem ztf{H:Hp}{v:V}{d:D}(h:Dt H v d.enc):∃a xs,v=.ref a/\H a=some (.tup (.str d.kind::xs)):=by
 cases d with
 | set x t=>
  rw [D.enc] at h
  obtain⟨a,x0,x1,x2,rfl,ha,t0,t1,t2⟩:=zwp h
  cases t0
  exact⟨_,_,rfl,ha⟩
 | ite t b c=>
  rw [D.enc] at h
  obtain⟨a,x0,x1,x2,x3,rfl,ha,t0,t1,t2,t3⟩:=q2p h
  cases t0
  exact⟨_,_,rfl,ha⟩
 | whl t m b=>
  rw [D.enc] at h
  obtain⟨a,x0,x1,x2,x3,rfl,ha,t0,t1,t2,t3⟩:=q2p h
  cases t0
  exact⟨_,_,rfl,ha⟩
theorem z1t{x:V}{xs:List V}:atI (x::xs) 0=some x:=z1c (j:=0) rfl
end
section
variable{P:Program}{w:World}{K:PySem.W.Frag}{mg:Str->Option Value}{base:Heap}{f:Addr}{fd:FuncData}
abbrev RI:=List Int×Int
inductive Rs where
 | had (i:Int)
 | ref (w:Str) (p:List Int)
def Rs.enc:Rs->Dm
 | .had i=>.tup [.str "had",.int i]
 | .ref w p=>.tup [.str "refused",.str w,z4c p]
def q12(r:RI):Dm:=.tup [z4c r.1,.int r.2]
def zm5(i:Int)(p:List Int):Rs:=if i < -32768 then .ref "over" p else if i > 32767 then .ref "over" p else .had i
def SameB(l:Addr)(H H':Hp):Prop:=∀a o,a≠l->H a=some o->H' a=some o
theorem SameB.of{l:Addr}{H H':Hp}(h:Same H H'):SameB l H H':=fun a o _ e=>h a o e
theorem SameB.trans{l:Addr}{H H1 H2:Hp}(a:SameB l H H1)(b:SameB l H1 H2):SameB l H H2:=fun x o n e=>b x o n (a x o n e)
theorem SameB.kp{l:Addr}{H H':Hp}{xs ys:List V}(h:SameB l H H')(hl:H l=some (.lst xs))(hl':H' l=some (.lst ys)):Kp H H':=
 ⟨fun b zs q=>h b _ (fun z=>by rw [z,hl] at q; cases q) q,fun b zs q=>by
  by_cases hb:b=l
  ·subst hb; exact⟨ys,hl'⟩
  ·exact⟨zs,h b _ hb q⟩⟩
def z62:Sp:=fun vs H Q _=>∃(wv pv:V) (p:List Int) (l:Addr) (xs:List V),vs=[wv,pv,.ref l]/\Dt H pv (z4c p)/\H l=some (.lst xs)/\xs.length < sizeLine/\
 ((wv=.non/\∀r H',Same H H'->Dt H' r (Rs.ref "zero" p).enc->Q r H')\/∃i,wv=.int i/\∀(r y:V) (H':Hp),SameB l H H'->H' l=some (.lst (xs++[y]))->Dt H' y (q12 (p,i))->Dt H' r (zm5 i p).enc->Q r H')
end
section
variable{P:Program}{w:World}{K:PySem.W.Frag}{mg:Str->Option Value}{base:Heap}{f:Addr}{fd:FuncData}
theorem zpz(F:Fun K "settled" "settled" z39 f fd) {ai:Addr} (g_WIDE:GC mg "WIDE" (.ref ai)) (hI:∀H,SqT K H ai [.int (-32768),.int 32767]):FnOk P w K mg base CX0 1 f fd ["worth","path","rows"] z62:=by
 refine F.ok zpm (fun vs H Q E h=>?_) (fun cdv A outer s H vs Q E hr h=>?_)
 ·obtain⟨wv,pv,p,l,xs,rfl,_⟩:=h
  rfl
 obtain⟨wv,pv,p,l,xs,rfl,hp,hl,hx,h⟩:=h
 refine⟨_,(z02 (z1h (z0d zqg (z00 (i:=0) rfl z2k z6g z6j) z1v (z0j _)) (z07 (z0b (z1a (z09 z0y (z09 z0y (z09 (z00 (i:=1) rfl z52 z0t z0u) z03)))))) z0f)
 (z02 (zd6 (zrv PySem.F.plainAttrs_list PySem.F.slot_list_append PySem.F.type_list_append zkc (z00 (i:=2) rfl ze9 znb zno) (z09 (z1a (z09 (z00 (i:=1) rfl z52 z0t z0u) (z09 (z00 (i:=0) rfl z2k z6g z6j) z03))) z03)) (z04 rfl))
 (z02 (z1h (PW.pt (zmf (z0d zvf (z00 (i:=0) rfl z2k z6g z6j) (z0r z0g (zva g_WIDE z9a znk) z06 (fun _ _=>rfl)) (z0j _)) (zfs (z0d zvg (z00 (i:=0) rfl z2k z6g z6j) (z0r z0g (zva g_WIDE z9a znk) z06 (fun _ _=>rfl)) (z0j _))))) (z07 (z0b (z1a (z09 z0y (z09 z0y (z09 (z00 (i:=1) rfl z52 z0t z0u) z03)))))) z0f)
 (z07 (z0b (z1a (z09 z0y (z09 (z00 (i:=0) rfl z2k z6g z6j) z03)))))))),z0s fun N1 e1=>?_⟩
 walk_at "rd7"
 rcases h with⟨rfl,q⟩ | ⟨i,rfl,q⟩
 ·rw [if_pos rfl]
  refine⟨by decide,fun r hr'=>?_⟩
  have s1:=z05 hr' (HO.tup [V.str "refused",V.str "zero",pv])
  exact q _ _ s1 (.tup z01 (.cons (.str _) (.cons (.str _) (.cons (hp.kp s1.kp) .nil))))
 ·rw [if_neg (by intro z; cases z),e1]
  refine z0s fun N2 e2=>?_
  walk_at "rd7"
  refine⟨.inl ⟨rfl,_,SqL.of hl⟩,by decide,fun y hy=>?_⟩
  have s1:=z05 hy (HO.tup [pv,V.int i])
  have hly:=s1 _ _ hl
  refine⟨xs,hly,hx,?_⟩
  have nyl:y≠l:=fun z=>by rw [z,hl] at hy; cases hy
  have k2:Kp (upd H y (HO.tup [pv,V.int i])) (upd (upd H y (HO.tup [pv,V.int i])) l (HO.lst (xs++[V.ref y]))):=Kp.set hly
  have sB:SameB l H (upd (upd H y (HO.tup [pv,V.int i])) l (HO.lst (xs++[V.ref y]))):=fun a o n e=>by rw [z0a n]; exact s1 _ _ e
  have hU:(upd (upd H y (HO.tup [pv,V.int i])) l (HO.lst (xs++[V.ref y]))) l=some (.lst (xs++[V.ref y])):=z01
  have dy:Dt (upd (upd H y (HO.tup [pv,V.int i])) l (HO.lst (xs++[V.ref y]))) (.ref y) (q12 (p,i)):=.tup (by rw [z0a nyl]; exact z01) (.cons (hp.kp (s1.kp.trans k2)) (.cons (.int _) .nil))
  have dp:=hp.kp (s1.kp.trans k2)
  generalize upd (upd H y (HO.tup [pv,V.int i])) l (HO.lst (xs++[V.ref y]))=U at k2 sB hU dy dp |-
  rw [e2]
  walk_at "rd7"
  have fin:∀(r:Addr) (o:List V),U r=none->Dt (upd U r (HO.tup o)) (.ref r) (zm5 i p).enc->Q (.ref r) (upd U r (HO.tup o)):=fun r o h1 h2=>by
   have s3:=z05 h1 (HO.tup o)
   exact q _ _ _ (sB.trans (SameB.of s3)) (s3 _ _ hU) (dy.kp s3.kp) h2
  refine⟨_,hI U,_,z1c (j:=0) rfl,_,rfl,?_⟩
  split
  ·rename_i hlt
   refine⟨by decide,fun r hr'=>fin r _ hr' ?_⟩
   rw [zm5,if_pos hlt]
   exact .tup z01 (.cons (.str _) (.cons (.str _) (.cons (dp.kp (z05 hr' _).kp) .nil)))
  ·rename_i hlt
   refine⟨_,hI U,_,z1c (j:=1) rfl,_,rfl,?_⟩
   split
   ·rename_i hgt
    refine⟨by decide,fun r hr'=>fin r _ hr' ?_⟩
    rw [zm5,if_neg hlt,if_pos hgt]
    exact .tup z01 (.cons (.str _) (.cons (.str _) (.cons (dp.kp (z05 hr' _).kp) .nil)))
   ·rename_i hgt
    refine⟨by decide,fun r hr'=>fin r _ hr' ?_⟩
    rw [zm5,if_neg hlt,if_neg hgt]
    exact .tup z01 (.cons (.str _) (.cons (.int _) .nil))
end
section
variable{P:Program}{w:World}{K:PySem.W.Frag}{mg:Str->Option Value}{base:Heap}{f:Addr}{fd:FuncData}
def q46(st:Stmt):Expr:=match defBody st with
 | [.Return (some (.Call _ [_,_,e] _ _)) _]=>e
 | [_,.Expr (.Call _ [_,_,e] _ _) _,_]=>e
 | _=>.Name "" ⟨0,0,0,0⟩
def q4k(q:Str)(e:Expr):LamD:=match e with
 | .Lambda ps b sc _=>⟨q,ps,b,sc⟩
 | _=>⟨q,{posonlyargs:=[],args:=[],vararg:=none,kwonlyargs:=[],kw_defaults:=[],kwarg:=none,defaults:=[]},.Name "" ⟨0,0,0,0⟩,{kind:=.function,names:=[],isGenerator:=false,isCoroutine:=false}⟩
def q1n(e:Expr):Pos:=match e with
 | .Lambda _ _ _ p=>p
 | _=>⟨0,0,0,0⟩
abbrev dT:LamD:=q4k ("traced" ++ ".<locals>." ++ "<lambda>") (q46 z2c)
theorem q4h:∀y∈dT.scope.names,y.2=.free->y.1 = "rows":=by decide+kernel
theorem q4i(c:Addr):LamScope ["worth","path"] ["rows"] [("rows",c)] dT.scope:=by
 refine⟨rfl,rfl,rfl,by decide+kernel,by decide+kernel,by decide+kernel,by decide+kernel,fun y hy e=>⟨c,?_⟩,fun x y c' h1 h2=>?_,fun x c' h=>?_⟩
 ·rw [q4h y hy e]
  rfl
 ·have key:∀z:Str,([("rows",c)]:List (Str×Addr)).lookup z=some c'->z = "rows":=fun z h=>by
   by_cases e:z = "rows"
   ·exact e
   ·have:(z == ("rows" : Str))=false:=by simpa using e
    rw [List.lookup,this] at h
    cases h
  rw [key x h1,key y h2]
 ·rw [List.mem_singleton] at h
  cases h
  rfl
def SetOk(f:Addr)(lo:Option Addr)(H:Hp):Prop:=match lo with
 | none=>False
 | some l=>∃c' c o,H f=some (zuh dT [("rows",c)] f c')/\H c'=some (zgx c' dT.qual)/\H c=some (z5f c o)/\o.data=.cell (some (.ref l))
theorem SetOk.lam{f:Addr}{lo:Option Addr}{H:Hp}(h:SetOk f lo H):IsLam H f:=by
 cases lo with
 | none=>exact h.elim
 | some l=>obtain⟨c',c,o,e,_⟩:=h; exact⟨_,_,_,e⟩
def KpE(H H':Hp):Prop:=∀a φ,H a=some (.ext φ)->H' a=some (.ext φ)
theorem KpE.refl(H:Hp):KpE H H:=fun _ _ h=>h
theorem KpE.trans{H H1 H2:Hp}(a:KpE H H1)(b:KpE H1 H2):KpE H H2:=fun x φ h=>b x φ (a x φ h)
theorem Same.kpE{H H':Hp}(s:Same H H'):KpE H H':=fun a φ h=>s _ _ h
theorem KpE.set{H:Hp}{p:Addr}{o u:HO}(h:H p=some o)(n:∀ φ,o≠.ext φ):KpE H (upd H p u):=fun a φ e=>by
 rw [z0a (zg0 e h fun z=>n φ z.symm)]
 exact e
theorem SetOk.kp{f:Addr}{lo:Option Addr}{H H':Hp}(h:SetOk f lo H)(k:KpE H H'):SetOk f lo H':=by
 cases lo with
 | none=>exact h.elim
 | some l=>obtain⟨c',c,o,e,e2,e3,e4⟩:=h; exact⟨c',c,o,k _ _ e,k _ _ e2,k _ _ e3,e4⟩
end
section
variable{P:Program}{w:World}{K:PySem.W.Frag}{mg:Str->Option Value}{base:Heap}{f:Addr}{fd:FuncData}
def Gr(lo:Option Addr)(H H':Hp)(rs:List RI):Prop:=(∀a o,some a≠lo->H a=some o->H' a=some o)/\∀l,lo=some l->∃xs ys,H l=some (.lst xs)/\H' l=some (.lst (xs++ys))/\DtA H' ys (rs.map q12)
def HasL(lo:Option Addr)(H:Hp)(n:Nat):Prop:=∀l,lo=some l->∃xs,H l=some (.lst xs)/\xs.length+n < sizeLine
theorem Gr.kp{lo:Option Addr}{H H':Hp}{rs:List RI}(h:Gr lo H H' rs):Kp H H':=by
 cases lo with
 | none=>exact⟨fun b xs e=>h.1 b _ (by simp) e,fun b xs e=>⟨xs,h.1 b _ (by simp) e⟩⟩
 | some l=>
  obtain⟨xs,ys,e1,e2,_⟩:=h.2 l rfl
  exact SameB.kp (fun a o n e=>h.1 a o (by simpa using n) e) e1 e2
theorem Gr.kpE{lo:Option Addr}{H H':Hp}{rs:List RI}(h:Gr lo H H' rs):KpE H H':=fun a φ e=>by
 refine h.1 a _ (fun z=>?_) e
 obtain⟨xs,ys,e1,_⟩:=h.2 a z.symm
 rw [e1] at e
 cases e
theorem Gr.keep{lo:Option Addr}{H H':Hp}{rs:List RI}(h:Gr lo H H' rs){a:Addr}{o:HO}(e:H a=some o)(n:∀xs,o≠.lst xs):H' a=some o:=h.1 a o (fun z=>by
 obtain⟨xs,ys,e1,_⟩:=h.2 a z.symm
 rw [e1] at e
 cases e
 exact n _ rfl) e
theorem Gr.trans{lo:Option Addr}{H H1 H2:Hp}{r1 r2:List RI}(a:Gr lo H H1 r1)(b:Gr lo H1 H2 r2):Gr lo H H2 (r1++r2):=by
 refine⟨fun x o n e=>b.1 x o n (a.1 x o n e),fun l hl=>?_⟩
 obtain⟨xs,ys,e1,e2,d1⟩:=a.2 l hl
 obtain⟨xs',zs,f1,f2,d2⟩:=b.2 l hl
 rw [e2] at f1
 cases f1
 exact⟨xs,ys++zs,e1,by rw [f2,List.append_assoc],by rw [List.map_append]; exact(d1.kp b.kp).append d2⟩
theorem Gr.same{lo:Option Addr}{H H':Hp}{n:Nat}(s:Same H H')(h:HasL lo H n):Gr lo H H' []:=by
 refine⟨fun a o _ e=>s a o e,fun l hl=>?_⟩
 obtain⟨xs,e,_⟩:=h l hl
 exact⟨xs,[],e,by rw [List.append_nil]; exact s _ _ e,.nil⟩
theorem HasL.on{lo:Option Addr}{H H':Hp}{rs:List RI}{n m:Nat}(h:HasL lo H n)(g:Gr lo H H' rs)(k:rs.length+m<=n):HasL lo H' m:=fun l hl=>by
 obtain⟨xs,e,z⟩:=h l hl
 obtain⟨xs',ys,e1,e2,d⟩:=g.2 l hl
 rw [e] at e1
 cases e1
 have:=d.length
 rw [List.length_map] at this
 exact⟨_,e2,by rw [List.length_append]; omega⟩
theorem HasL.same{lo:Option Addr}{H H':Hp}{n:Nat}(h:HasL lo H n)(s:Same H H'):HasL lo H' n:=fun l hl=>by
 obtain⟨xs,e,z⟩:=h l hl
 exact⟨xs,s _ _ e,z⟩
theorem HasL.mono{lo:Option Addr}{H:Hp}{n m:Nat}(h:HasL lo H n)(k:m<=n):HasL lo H m:=fun l hl=>by
 obtain⟨xs,e,z⟩:=h l hl
 exact⟨xs,e,by omega⟩
theorem q4q:dT.scope.names.lookup ("settled" : Str)=some NameKind.globalImplicit:=by decide+kernel
theorem q4c:Vis dT.scope "worth":=Or.inl (by decide+kernel)
theorem q4e:Vis dT.scope "path":=Or.inl (by decide+kernel)
theorem q4d:Vis dT.scope "rows":=Or.inr (Or.inr (by decide+kernel))
theorem q2i{us:List Value}(hl:us.length=2):∀fd:FuncData,fd.params=dT.params->fd.defaults=.none->fd.kwdefaults=.none->fd.scope=dT.scope->bindArgs fd ⟨us,[]⟩=pure ((["worth","path"]:List Str).zip us):=by
 intro fd h1 h2 h3 h4
 obtain⟨name,qual,params,body,scope,globals,closure,defaults,kwdefaults,doc,pm,an,code,ct,bu⟩:=fd
 cases h1
 cases h2
 cases h3
 cases h4
 match us,hl with
 | [_,_],_=>rfl
theorem zqi:DBF "settled":=by decide+kernel
end
section
variable{P:Program}{w:World}{K:PySem.W.Frag}{mg:Str->Option Value}{base:Heap}{f:Addr}{fd:FuncData}
theorem q1m(c_settled:Callee P w K mg base "settled" ["worth","path","rows"] 1 z62) {H:Hp} {x pv:V} {p:List Int} {Q:VK} {c' c l:Addr} {o:Obj} (hf:H f=some (zuh dT [("rows",c)] f c')) (hc:H c'=some (zgx c' dT.qual)) (hcl:H c=some (z5f c o)) (ho:o.data=.cell (some (.ref l))) (hp:Dt H pv (z4c p))
  (q:z62 [x,pv,.ref l] (zjq [c] H) (fun v H'=>H' c=none->Q v (znt [c] H H')) E0):q2o P w K mg base 2 f H [x,pv] Q:=by
 intro A outer s us hr e0 r
 have hl:us.length=2:=r.length.symm
 refine zzf (k:=1) (ps:=["worth","path"]) (fr:=["rows"]) (ws:=[.ref l]) (q4i c) hr e0 hf hc rfl r rfl (fun c2 hc2=>?_) (fun i x v h1 h2=>?_) (q2i hl) fun hr'=>?_
 ·rw [List.map_cons,List.map_nil,List.mem_singleton] at hc2
  subst hc2
  exact⟨o,_,hcl,ho⟩
 ·match i,h1,h2 with
  | 0,h1,h2=>
   cases h1
   cases h2
   exact⟨c,o,_,rfl,hcl,ho,rfl⟩
  | i+1,h1,_=>simp at h1
 refine⟨_,z15 c_settled hr' (by omega) (z09 (z00 (i:=0) rfl q4c z6g z6j) (z09 (z00 (i:=1) rfl q4e z0t z0u) (z09 (z00 (i:=2) rfl q4d znb zno) z03))) q4q zqi,?_⟩
 rw [List.map_cons,List.map_nil]
 simp only[List.mem_singleton,forall_eq]
 walk_at "rd7"
 exact q
theorem zsm{H:Hp}{c:Addr}{o:Obj}(hc:H c=some (z5f c o)):Kp H (zjq [c] H):=by
 have out:∀{b:Addr} {u:HO},H b=some u->(∀ φ,u≠.ext φ)->zjq [c] H b=some u:=fun {b u} e n=>by
  rw [z2i fun z=>by
   rw [List.mem_singleton.mp z,hc] at e
   cases e
   exact n _ rfl]
  exact e
 exact⟨fun b xs e=>out e fun φ z=>(by cases z),fun b xs e=>⟨xs,out e fun φ z=>(by cases z)⟩⟩
theorem z7w{H H':Hp}{c:Addr}(hn:H' c=none){b:Addr}{u:HO}(e:H' b=some u):znt [c] H H' b=some u:=by
 rw [z8d fun z=>by
  rw [List.mem_singleton.mp z,hn] at e
  cases e]
 exact e
theorem zmw{H H':Hp}{c:Addr}(hn:H' c=none):Kp H' (znt [c] H H'):=⟨fun b xs e=>z7w hn e,fun b xs e=>⟨xs,z7w hn e⟩⟩
theorem zd4(c_settled:Callee P w K mg base "settled" ["worth","path","rows"] 1 z62) {H:Hp} {pv:V} {p:List Int} {i:Int} {lo:Option Addr} {Q:VK} (hS:SetOk f lo H) (hL:HasL lo H 1) (hp:Dt H pv (z4c p))
  (q:∀r H',Gr lo H H' [(p,i)]->Dt H' r (zm5 i p).enc->Q r H'):q2o P w K mg base 2 f H [.int i,pv] Q:=by
 cases lo with
 | none=>exact hS.elim
 | some l=>
  obtain⟨c',c,o,hf,hc,hcl,ho⟩:=hS
  obtain⟨xs,hl,hz⟩:=hL l rfl
  have nlc:l≠c:=fun z=>by rw [z,hcl] at hl; unfold z5f at hl; cases hl
  refine q1m c_settled hf hc hcl ho hp ⟨_,pv,p,l,xs,rfl,hp.kp (zsm hcl),by rw [z2i (by simpa using nlc)]; exact hl,by omega,.inr ⟨i,rfl,fun r y H' sB hl' dy dr hn=>?_⟩⟩
  refine q r _ ⟨fun a u na e=>?_,fun l2 e2=>?_⟩ (dr.kp (zmw hn))
  ·by_cases hac:a=c
   ·subst hac
    rw [zns (by simp)]
    exact e
   ·exact z7w hn (sB a u (fun z=>na (by rw [z])) (by rw [z2i (by simpa using hac)]; exact e))
  ·cases e2
   exact⟨xs,[y],hl,z7w hn hl',.cons (dy.kp (zmw hn)) .nil⟩
theorem zm4(c_settled:Callee P w K mg base "settled" ["worth","path","rows"] 1 z62) {H:Hp} {pv:V} {p:List Int} {lo:Option Addr} {Q:VK} (hS:SetOk f lo H) (hL:HasL lo H 1) (hp:Dt H pv (z4c p))
  (q:∀r H',Gr lo H H' []->Dt H' r (Rs.ref "zero" p).enc->Q r H'):q2o P w K mg base 2 f H [.non,pv] Q:=by
 cases lo with
 | none=>exact hS.elim
 | some l=>
  obtain⟨c',c,o,hf,hc,hcl,ho⟩:=hS
  obtain⟨xs,hl,hz⟩:=hL l rfl
  have nlc:l≠c:=fun z=>by rw [z,hcl] at hl; unfold z5f at hl; cases hl
  have hlh:zjq [c] H l=some (.lst xs):=by rw [z2i (by simpa using nlc)]; exact hl
  refine q1m c_settled hf hc hcl ho hp ⟨_,pv,p,l,xs,rfl,hp.kp (zsm hcl),hlh,by omega,.inl ⟨rfl,fun r H' s2 dr hn=>?_⟩⟩
  refine q r _ ⟨fun a u na e=>?_,fun l2 e2=>?_⟩ (dr.kp (zmw hn))
  ·by_cases hac:a=c
   ·subst hac
    rw [zns (by simp)]
    exact e
   ·exact z7w hn (s2 a u (by rw [z2i (by simpa using hac)]; exact e))
  ·cases e2
   exact⟨xs,[],hl,by rw [List.append_nil]; exact z7w hn (s2 _ _ hlh),.nil⟩
end
section
variable{P:Program}{w:World}{K:PySem.W.Frag}{mg:Str->Option Value}{base:Heap}{f:Addr}{fd:FuncData}
def evT(c:Cnt):T->List Int->Rs×List RI
 | .num i,p=>(zm5 i p,[(p,i)])
 | .nm x,p=>(zm5 ((z7u c x).getD 0) p,[(p,(z7u c x).getD 0)])
 | .op w a b,p=>match evT c a (p++[0]) with
  | (.ref u q,r1)=>(.ref u q,r1)
  | (.had x,r1)=>match evT c b (p++[1]) with
   | (.ref u q,r2)=>(.ref u q,r1++r2)
   | (.had y,r2)=>if w=.quo/\y=0 then(.ref "zero" p,r1++r2) else(zm5 (w.worth x y) p,r1++r2++[(p,w.worth x y)])
abbrev Ref:=Str×List Int
abbrev Out:=Option Ref×Cnt×List RI
def z4r(cond:Cnt->Rs×List RI)(body:Cnt->Out)(p:List Int):Nat->Cnt->Out
 | k,c=>match cond c with
  | (.ref u q,r)=>(some (u,q),c,r)
  | (.had v,r)=>if v=0 then(none,c,r) else match k with
   | 0=>(some ("long",p),c,r)
   | k+1=>match body c with
    | (some e,c1,r1)=>(some e,c1,r++r1)
    | (none,c1,r1)=>match z4r cond body p k c1 with
     | (e,c2,r2)=>(e,c2,r++r1++r2)
mutual
def evD(p:List Int):D->Cnt->Out
 | .set x t,c=>match evT c t (p++[0]) with
  | (.ref u q,r)=>(some (u,q),c,r)
  | (.had v,r)=>(none,zft c x v,r)
 | .ite t b b2,c=>match evT c t (p++[0]) with
  | (.ref u q,r)=>(some (u,q),c,r)
  | (.had v,r)=>if v≠0 then(match evB (p++[1]) 0 b c with | (e,c1,r1)=>(e,c1,r++r1)) else(match evB (p++[2]) 0 b2 c with | (e,c1,r1)=>(e,c1,r++r1))
 | .whl t m b,c=>z4r (fun c=>evT c t (p++[0])) (fun c=>evB (p++[1]) 0 b c) p m.toNat c
def evB(p:List Int)(k:Int):List D->Cnt->Out
 | [],c=>(none,c,[])
 | d::r,c=>match evD (p++[k]) d c with
  | (some e,c1,w)=>(some e,c1,w)
  | (none,c1,w)=>match evB p (k+1) r c1 with
   | (e,c2,w2)=>(e,c2,w++w2)
end
def T.in(g:List Str):T->Prop
 | .num _=>True
 | .nm x=>x∈g
 | .op _ a b=>a.in g/\b.in g
def Has(c:Cnt)(g:List Str):Prop:=∀x∈g,∃v,z7u c x=some v/\-32768<=v/\v<=32767
theorem zil{i v:Int}{p:List Int}(h:zm5 i p=.had v):v=i/\-32768<=i/\i<=32767:=by
 unfold zm5 at h
 split at h
 ·cases h
 ·split at h
  ·cases h
  ·cases h
   omega
theorem zt7{c:Cnt}:∀(t:T) (p:List Int) {v:Int} {r:List RI},evT c t p=(.had v,r)->-32768<=v/\v<=32767
 | .num i,p,v,r,h=>by
  rw [evT] at h
  obtain⟨rfl,h1,h2⟩:=zil (congrArg Prod.fst h)
  exact⟨h1,h2⟩
 | .nm x,p,v,r,h=>by
  rw [evT] at h
  obtain⟨rfl,h1,h2⟩:=zil (congrArg Prod.fst h)
  exact⟨h1,h2⟩
 | .op w a b,p,v,r,h=>by
  rw [evT] at h
  split at h
  ·cases h
  ·split at h
   ·cases h
   ·split at h
    ·cases h
    ·obtain⟨rfl,h1,h2⟩:=zil (congrArg Prod.fst h)
     exact⟨h1,h2⟩
theorem zx3{c:Cnt}{w:Wd}{a b:T}{p:List Int}{u:Str}{q:List Int}{r:List RI}(h:evT c a (p++[0])=(.ref u q,r)):evT c (.op w a b) p=(.ref u q,r):=by rw [evT,h]
theorem zmi{c:Cnt}{w:Wd}{a b:T}{p:List Int}{u:Str}{q:List Int}{x:Int}{r s:List RI}(h:evT c a (p++[0])=(.had x,r))(h2:evT c b (p++[1])=(.ref u q,s)):evT c (.op w a b) p=(.ref u q,r++s):=by rw [evT,h]; simp only[h2]
theorem zmh{c:Cnt}{a b:T}{p:List Int}{x:Int}{r s:List RI}(h:evT c a (p++[0])=(.had x,r))(h2:evT c b (p++[1])=(.had 0,s)):evT c (.op .quo a b) p=(.ref "zero" p,r++s):=by rw [evT,h]; simp[h2]
theorem zob{c:Cnt}{w:Wd}{a b:T}{p:List Int}{x y:Int}{r s:List RI}(h:evT c a (p++[0])=(.had x,r))(h2:evT c b (p++[1])=(.had y,s))(h3:¬ (w=.quo/\y=0)):evT c (.op w a b) p=(zm5 (w.worth x y) p,r++s++[(p,w.worth x y)]):=by rw [evT,h]; simp only[h2]; rw [if_neg h3]
theorem zyw(c:Cnt)(w:Wd)(a b:T)(p:List Int):(evT c a (p++[0])).2.length<=(evT c (.op w a b) p).2.length:=by
 cases h:evT c a (p++[0]) with
 | mk r1 s1=>
  cases r1 with
  | ref u q=>rw [zx3 h]; exact Nat.le_refl _
  | had x=>
   cases h2:evT c b (p++[1]) with
   | mk r2 s2=>
    cases r2 with
    | ref u q=>rw [zmi h h2]; simp
    | had y=>
     by_cases h3:w=.quo/\y=0
     ·obtain⟨rfl,rfl⟩:=h3
      rw [zmh h h2]; simp
     ·rw [zob h h2 h3]; simp only[List.length_append,List.length_cons,List.length_nil]; omega
theorem zyv{c:Cnt}{w:Wd}{a b:T}{p:List Int}{x:Int}{r:List RI}(h:evT c a (p++[0])=(.had x,r)):r.length+(evT c b (p++[1])).2.length<=(evT c (.op w a b) p).2.length:=by
 cases h2:evT c b (p++[1]) with
 | mk r2 s2=>
  cases r2 with
  | ref u q=>rw [zmi h h2]; simp
  | had y=>
   by_cases h3:w=.quo/\y=0
   ·obtain⟨rfl,rfl⟩:=h3
    rw [zmh h h2]; simp
   ·rw [zob h h2 h3]; simp only[List.length_append,List.length_cons,List.length_nil]; omega
def z5k(n:Nat):Sp:=fun vs H Q _=>∃(v:V) (t:T) (pv:V) (p:List Int) (d f:Addr) (c:Cnt) (g:List Str) (lo:Option Addr),vs=[v,pv,.ref d,.ref f]/\Dt H v t.enc/\Dt H pv (z4c p)/\t.ok g n/\n<=5/\p.length+n<=100/\H d=some (.dK (kvC c))/\Has c g/\SetOk f lo H/\HasL lo H ((evT c t p).2.length+1)/\
 ∀(r:V) (H':Hp),Gr lo H H' (evT c t p).2->Dt H' r (evT c t p).1.enc->Q r H'
end
section
variable{P:Program}{w:World}{K:PySem.W.Frag}{mg:Str->Option Value}{base:Heap}{f:Addr}{fd:FuncData}
theorem zmr{k:Nat}{n1 n2 n3 n4:Str}:FnOk P w K mg base CX0 k f fd [n1,n2,n3,n4] (z5k 0):=by
 have no:∀vs H Q E,¬ z5k 0 vs H Q E:=fun vs H Q E h=>by
  obtain⟨v,t,pv,p,d,f,c,g,lo,_,_,_,h,_⟩:=h
  exact h.elim
 exact⟨fun vs H Q E h=>absurd h (no vs H Q E),fun A outer s H args us vs Q E _ _ _ _ h=>absurd h (no vs H Q E)⟩
theorem zn5{H:Hp}{x z:Str}:q2y K (.str x) (.str z) H (decide (x=z)):=.inl ⟨rfl,by simp⟩
theorem zuj{t:T} (h:t.word = "num"):∃i,t=.num i:=by
 cases t with
 | num i=>exact⟨i,rfl⟩
 | nm x=>exact absurd h (show ¬ ("name" : Str) = "num" by decide+kernel)
 | op w a b=>exact absurd h (show ¬ w.str = "num" by cases w<;>decide+kernel)
theorem zqt{t:T} (h:t.word = "name"):∃x,t=.nm x:=by
 cases t with
 | num i=>exact absurd h (show ¬ ("num" : Str) = "name" by decide+kernel)
 | nm x=>exact⟨x,rfl⟩
 | op w a b=>exact absurd h (show ¬ w.str = "name" by cases w<;>decide+kernel)
theorem zxq{t:T} (h1:¬ t.word = "num") (h2:¬ t.word = "name"):∃w a b,t=.op w a b:=by
 cases t with
 | num i=>exact absurd rfl h1
 | nm x=>exact absurd rfl h2
 | op w a b=>exact⟨w,a,b,rfl⟩
theorem ze0{H:Hp}{v:V}{r:Rs}(h:Dt H v r.enc):∃a,v=.ref a/\((∃i,r=.had i/\H a=some (.tup [.str "had",.int i]))\/∃u q y,r=.ref u q/\H a=some (.tup [.str "refused",.str u,y])):=by
 cases r with
 | had i=>
  rw [Rs.enc] at h
  obtain⟨a,x0,x1,rfl,ha,t0,t1⟩:=zxt h
  cases t0; cases t1
  exact⟨a,rfl,.inl ⟨i,rfl,ha⟩⟩
 | ref u q=>
  rw [Rs.enc] at h
  obtain⟨a,x0,x1,x2,rfl,ha,t0,t1,t2⟩:=zwp h
  cases t0; cases t1
  exact⟨a,rfl,.inr ⟨u,q,x2,rfl,ha⟩⟩
theorem z7f:¬ ("had" : Str) = "refused":=by decide+kernel
theorem zs4{n:Nat} (F:Fun K "reckon" "reckon" z24 f fd) (c_worth_of:Callee P w K mg base "worth_of" ["word","one","other"] 1 zfn) (c_settled:Callee P w K mg base "settled" ["worth","path","rows"] 1 z62) (c_reckon:Callee P w K mg base "reckon" ["term","path","names","settle"] (n+2) (z5k n)):FnOk P w K mg base CX0 (n+3) f fd ["term","path","names","settle"] (z5k (n+1)):=by
 refine F.ok sc_reckon (fun vs H Q E h=>?_) (fun cdv A outer s H vs Q E hr h=>?_)
 ·obtain⟨v,t,pv,p,d,f,c,g,lo,rfl,_⟩:=h
  rfl
 obtain⟨v,t,pv,p,d,fs,c,g,lo,rfl,hv,hp,hok,hn,hpl,hd,hh,hS,hL,q⟩:=h
 obtain⟨va,y,tx,rfl,hva⟩:=zum hv
 refine⟨_,(z02 (z1h (z0d (gEq hr.units) (z0r z0g (z00 (i:=0) rfl z1j z3l z3m) z06 (fun _ _=>rfl)) z0y (z0j _)) (z07 (z0b (zez (i:=3) (k:=2) rfl z1w hr (by omega) (z09 (z0r z0g (z00 (i:=0) rfl z1j z3l z3m) z06 (fun _ _=>rfl)) (z09 (z00 (i:=1) rfl z2l z0t z0u) z03)) z1l z1m))) z0f)
 (z02 (z1h (z0d (gEq hr.units) (z0r z0g (z00 (i:=0) rfl z1j z3l z3m) z06 (fun _ _=>rfl)) z0y (z0j _)) (z07 (z0b (zez (i:=3) (k:=2) rfl z1w hr (by omega) (z09 (zio hr.units1 (z00 (i:=2) rfl z53 z25 z26) (z0r z0g (z00 (i:=0) rfl z1j z3l z3m) z06 (fun _ _=>rfl)) (fun _ _=>rfl)) (z09 (z00 (i:=1) rfl z2l z0t z0u) z03)) z1l z1m))) z0f)
 (z02 (z19 (i:=4) sc_reckon.nd rfl zhg (z15 c_reckon hr (by omega) (z09 (z0r z0g (z00 (i:=0) rfl z1j z3l z3m) z06 (fun _ _=>rfl)) (z09 (z1n z2v (z00 (i:=1) rfl z2l z0t z0u) (z1a (z09 z06 z03))) (z09 (z00 (i:=2) rfl z53 z25 z26) (z09 (z00 (i:=3) rfl z1w z1l z1m) z03)))) z8j z9h) (z04 rfl))
 (z02 (z1h (z0d (gEq hr.units) (z0r z0g (z00 (i:=4) rfl z6o z1r z1s) z06 (fun _ _=>rfl)) z0y (z0j _)) (z07 (z0b (z00 (i:=4) rfl z6o z1r z1s))) z0f)
 (z02 (z19 (i:=5) sc_reckon.nd rfl zeg (z15 c_reckon hr (by omega) (z09 (z0r z0g (z00 (i:=0) rfl z1j z3l z3m) z06 (fun _ _=>rfl)) (z09 (z1n z2v (z00 (i:=1) rfl z2l z0t z0u) (z1a (z09 z06 z03))) (z09 (z00 (i:=2) rfl z53 z25 z26) (z09 (z00 (i:=3) rfl z1w z1l z1m) z03)))) z8j z9h) (z04 rfl))
 (z02 (z1h (z0d (gEq hr.units) (z0r z0g (z00 (i:=5) rfl z3q z0p z0q) z06 (fun _ _=>rfl)) z0y (z0j _)) (z07 (z0b (z00 (i:=5) rfl z3q z0p z0q))) z0f)
 (z02 (z1h (PW.pt (zrj (z0d (gEq hr.units) (z0r z0g (z00 (i:=0) rfl z1j z3l z3m) z06 (fun _ _=>rfl)) z0y (z0j _)) (zmg (z0d zfy (z0r z0g (z00 (i:=5) rfl z3q z0p z0q) z06 (fun _ _=>rfl)) z06 (z0j _))))) (z07 (z0b (zez (i:=3) (k:=2) rfl z1w hr (by omega) (z09 z1v (z09 (z00 (i:=1) rfl z2l z0t z0u) z03)) z1l z1m))) z0f)
 (z07 (z0b (zez (i:=3) (k:=2) rfl z1w hr (by omega) (z09 (z15 c_worth_of hr (by omega) (z09 (z0r z0g (z00 (i:=0) rfl z1j z3l z3m) z06 (fun _ _=>rfl)) (z09 (z0r z0g (z00 (i:=4) rfl z6o z1r z1s) z06 (fun _ _=>rfl)) (z09 (z0r z0g (z00 (i:=5) rfl z3q z0p z0q) z06 (fun _ _=>rfl)) z03))) zbx zb2) (z09 (z00 (i:=1) rfl z2l z0t z0u) z03)) z1l z1m)))))))))),z0s fun N1 e1=>?_⟩
 walk_at "rd7"
 refine⟨_,SqT.of hva,_,z1t,_,zn5,?_⟩
 split
 ·rename_i hw
  obtain⟨i,rfl⟩:=zuj (of_decide_eq_true hw)
  rw [T.enc] at hv
  obtain⟨a2,x0,x1,ea,ha2,t0,t1⟩:=zxt hv
  cases ea
  cases t1
  rw [ha2] at hva
  cases hva
  rw [evT] at hL q
  refine⟨hS.lam,_,SqT.of ha2,_,z1c (j:=1) rfl,hS.lam,?_⟩
  exact zd4 c_settled hS (hL.mono (by simp)) hp q
 rename_i hw1
 rw [e1]
 refine z0s fun N2 e2=>?_
 walk_at "rd7"
 refine⟨_,SqT.of hva,_,z1t,_,zn5,?_⟩
 split
 ·rename_i hw
  obtain⟨x,rfl⟩:=zqt (of_decide_eq_true hw)
  rw [T.enc] at hv
  obtain⟨a2,x0,x1,ea,ha2,t0,t1⟩:=zxt hv
  cases ea
  cases t1
  rw [ha2] at hva
  cases hva
  rw [evT] at hL q
  obtain⟨w,hw2,_⟩:=hh x hok
  rw [hw2] at hL q
  have hg:DGet H d (.str x) (some (.int w)):=by
   have:=DGet.k (k:=Sum.inr x) hd
   rw [zwo,hw2] at this
   exact this
  refine⟨hS.lam,_,SqT.of ha2,_,z1c (j:=1) rfl,_,hg,hS.lam,?_⟩
  exact zd4 c_settled hS (hL.mono (by simp)) hp q
 rename_i hw2
 obtain⟨wd,ta,tb,rfl⟩:=zxq (fun z=>hw1 (decide_eq_true z)) fun z=>hw2 (decide_eq_true z)
 rw [e2]
 refine z0s fun N3 e3=>?_
 walk_at "rd7"
 have hv0:=hv
 rw [T.enc] at hv
 obtain⟨a2,x0,xa,xb,ea,ha2,t0,da,db⟩:=zwp hv
 cases ea
 cases t0
 clear hva
 refine⟨_,SqT.of ha2,_,z1c (j:=1) rfl,by decide,fun p1 h1=>?_⟩
 have s1:=z05 h1 (HO.tup [V.int 0])
 refine zhq (hp.kp s1.kp) zhc (by simp; omega) fun z H1 s2 dz=>?_
 have s12:=s1.trans s2
 have l1:=zyw c wd ta tb p
 refine⟨xa,ta,z,_,d,fs,c,g,lo,rfl,da.kp s12.kp,dz,hok.1,by omega,by simp; omega,s12 _ _ hd,hh,hS.kp (Same.kpE s12),(hL.same s12).mono (by omega),fun r1 H2 g1 dr1=>?_⟩
 have G1:Gr lo H H2 (evT c ta (p++[0])).2:=(Gr.same s12 hL).trans g1
 clear g1 s1 s2 s12
 obtain⟨b1,rfl,hb1⟩:=ze0 dr1
 rcases he1:evT c ta (p++[0]) with⟨r1,w1⟩
 rw [he1] at G1 dr1 hb1
 rw [e3]
 refine z0s fun N4 e4=>?_
 walk_at "rd7"
 rcases hb1 with⟨i1,rfl,hb1⟩ | ⟨u,qq,y1,rfl,hb1⟩
 rotate_left
 ·refine⟨_,SqT.of hb1,_,z1t,_,zn5,?_⟩
  rw [if_pos (decide_eq_true rfl)]
  rw [zx3 he1] at q
  exact q _ _ G1 dr1
 refine⟨_,SqT.of hb1,_,z1t,_,zn5,?_⟩
 rw [if_neg (by rw [decide_eq_true_eq]; exact z7f)]
 have ha3:=G1.keep ha2 (by intro xs z; cases z)
 have hd3:=G1.keep hd (by intro xs z; cases z)
 have hp3:=hp.kp G1.kp
 have db3:=db.kp G1.kp
 have hS3:=hS.kp G1.kpE
 have l2:=zyv (w:=wd) (b:=tb) he1
 have hL3:HasL lo H2 ((evT c tb (p++[1])).2.length+1):=hL.on G1 (by show w1.length+_<=_; omega)
 rw [e4]
 refine z0s fun N5 e5=>?_
 walk_at "rd7"
 refine⟨_,SqT.of ha3,_,z1c (j:=2) rfl,by decide,fun p2 h2=>?_⟩
 have s3:=z05 h2 (HO.tup [V.int 1])
 refine zhq (hp3.kp s3.kp) zhc (by simp; omega) fun z2 H3 s4 dz2=>?_
 have s34:=s3.trans s4
 refine⟨xb,tb,z2,_,d,fs,c,g,lo,rfl,db3.kp s34.kp,dz2,hok.2,by omega,by simp; omega,s34 _ _ hd3,hh,hS3.kp (Same.kpE s34),hL3.same s34,fun r2 H4 g2 dr2=>?_⟩
 have G2:Gr lo H2 H4 (evT c tb (p++[1])).2:=(Gr.same s34 hL3).trans g2
 clear g2 s3 s4 s34
 obtain⟨b2,rfl,hb2⟩:=ze0 dr2
 rcases he2:evT c tb (p++[1]) with⟨r2,w2⟩
 rw [he2] at G2 dr2 hb2 hL3
 have hb14:=G2.keep hb1 (by intro xs z; cases z)
 have ha4:=G2.keep ha3 (by intro xs z; cases z)
 have hp4:=hp3.kp G2.kp
 have hS4:=hS3.kp G2.kpE
 have G12:=G1.trans G2
 rw [e5]
 refine z0s fun N6 e6=>?_
 walk_at "rd7"
 rcases hb2 with⟨i2,rfl,hb2⟩ | ⟨u,qq,y1,rfl,hb2⟩
 rotate_left
 ·refine⟨_,SqT.of hb2,_,z1t,_,zn5,?_⟩
  rw [if_pos (decide_eq_true rfl)]
  rw [zmi he1 he2] at q
  exact q _ _ G12 dr2
 refine⟨_,SqT.of hb2,_,z1t,_,zn5,?_⟩
 rw [if_neg (by rw [decide_eq_true_eq]; exact z7f)]
 have hL4:HasL lo H4 1:=hL3.on G2 (Nat.le_refl _)
 have hw2:=zt7 tb (p++[1]) he2
 rw [e6]
 refine z0s fun N7 e7=>?_
 walk_at "rd7"
 refine⟨_,SqT.of ha4,_,z1t,_,zn5,?_⟩
 have last:(wd=.quo->i2≠0)->N7 [some (V.ref va),some pv,some (V.ref d),some (V.ref fs),some (V.ref b1),some (V.ref b2)] H4:=fun hq=>by
  rw [e7]
  walk_at "rd7"
  rw [zob he1 he2 (fun z=>hq z.1 z.2)] at q
  refine⟨hS4.lam,_,SqT.of ha4,_,z1t,_,SqT.of hb14,_,z1c (j:=1) rfl,_,SqT.of hb2,_,z1c (j:=1) rfl,wd,i1,i2,rfl,hq,by omega,?_⟩
  refine⟨hS4.lam,zd4 c_settled hS4 hL4 hp4 fun r H' g dr=>q r H' (G12.trans g) dr⟩
 split
 ·rename_i hq
  have hq':wd=.quo:=by
   have:=of_decide_eq_true hq
   cases wd<;>first | rfl | exact absurd this (by decide+kernel)
  subst hq'
  refine⟨_,SqT.of hb2,_,z1c (j:=1) rfl,_,rfl,?_⟩
  split
  ·rename_i hz
   subst hz
   rw [zmh he1 he2] at q
   refine⟨hS4.lam,hS4.lam,zm4 c_settled hS4 hL4 hp4 fun r H' g dr=>q r H' ?_ dr⟩
   have:=G12.trans g
   rw [List.append_nil] at this
   exact this
  ·rename_i hz
   exact last fun _=>hz
 ·rename_i hq
  exact last fun z=>absurd (decide_eq_true (by rw [z]; rfl)) hq
theorem zif(d:Df K mg "reckon" z24 ["term","path","names","settle"] f fd) (c_worth_of:Callee P w K mg base "worth_of" ["word","one","other"] 1 zfn) (c_settled:Callee P w K mg base "settled" ["worth","path","rows"] 1 z62):∀n:Nat,Callee P w K mg base "reckon" ["term","path","names","settle"] (n+2) (z5k n)
 | 0=>d.callee zmr
 | n+1=>d.callee (zs4 d.F c_worth_of c_settled (zif d c_worth_of c_settled n))
end
section
variable{P:Program}{w:World}{K:PySem.W.Frag}{mg:Str->Option Value}{base:Heap}{f:Addr}{fd:FuncData}
def Gd(d:Addr)(lo:Option Addr)(H H':Hp)(rs:List RI):Prop:=(∀a o,a≠d->some a≠lo->H a=some o->H' a=some o)/\∀l,lo=some l->∃xs ys,H l=some (.lst xs)/\H' l=some (.lst (xs++ys))/\DtA H' ys (rs.map q12)
theorem Gr.gd{d:Addr}{lo:Option Addr}{H H':Hp}{rs:List RI}(h:Gr lo H H' rs):Gd d lo H H' rs:=⟨fun a o _ n e=>h.1 a o n e,h.2⟩
theorem Gd.keep{d:Addr}{lo:Option Addr}{H H':Hp}{rs:List RI}{k:List (Key×V)}(h:Gd d lo H H' rs)(hd:H d=some (.dK k)){a:Addr}{o:HO}(e:H a=some o)(n1:∀xs,o≠.lst xs)(n2:∀k,o≠.dK k):H' a=some o:=h.1 a o (fun z=>by
 rw [z,hd] at e
 cases e
 exact n2 _ rfl) (fun z=>by
 obtain⟨xs,ys,e1,_⟩:=h.2 a z.symm
 rw [e1] at e
 cases e
 exact n1 _ rfl) e
theorem Gd.kp{d:Addr}{lo:Option Addr}{H H':Hp}{rs:List RI}{k:List (Key×V)}(h:Gd d lo H H' rs)(hd:H d=some (.dK k)):Kp H H':=by
 refine⟨fun b xs e=>h.keep hd e (fun _ z=>by cases z) (fun _ z=>by cases z),fun b xs e=>?_⟩
 by_cases hb:some b=lo
 ·obtain⟨xs',ys,e1,e2,_⟩:=h.2 b hb.symm
  exact⟨_,e2⟩
 ·exact⟨xs,h.1 b _ (fun z=>by rw [z,hd] at e; cases e) hb e⟩
theorem Gd.kpE{d:Addr}{lo:Option Addr}{H H':Hp}{rs:List RI}{k:List (Key×V)}(h:Gd d lo H H' rs)(hd:H d=some (.dK k)):KpE H H':=fun a φ e=>h.keep hd e (fun _ z=>by cases z) fun _ z=>by cases z
theorem Gd.trans{d:Addr}{lo:Option Addr}{H H1 H2:Hp}{r1 r2:List RI}{k:List (Key×V)}(a:Gd d lo H H1 r1)(b:Gd d lo H1 H2 r2)(hd:H1 d=some (.dK k)):Gd d lo H H2 (r1++r2):=by
 refine⟨fun x o n1 n2 e=>b.1 x o n1 n2 (a.1 x o n1 n2 e),fun l hl=>?_⟩
 obtain⟨xs,ys,e1,e2,d1⟩:=a.2 l hl
 obtain⟨xs',zs,f1,f2,d2⟩:=b.2 l hl
 rw [e2] at f1
 cases f1
 exact⟨xs,ys++zs,e1,by rw [f2,List.append_assoc],by rw [List.map_append]; exact(d1.kp (b.kp hd)).append d2⟩
theorem Gd.put{d:Addr}{lo:Option Addr}{H H':Hp}{rs:List RI}{k:List (Key×V)}{e:List (Key×V)}(h:Gr lo H H' rs)(hd:H' d=some (.dK k)):Gd d lo H (upd H' d (.dK e)) rs:=by
 refine⟨fun a o n1 n2 z=>by rw [z0a n1]; exact h.1 a o n2 z,fun l hl=>?_⟩
 obtain⟨xs,ys,e1,e2,d1⟩:=h.2 l hl
 exact⟨xs,ys,e1,by rw [z0a fun z=>by rw [z,hd] at e2; cases e2]; exact e2,d1.kp (zmv hd)⟩
theorem HasL.onD{d:Addr}{lo:Option Addr}{H H':Hp}{rs:List RI}{n m:Nat}(h:HasL lo H n)(g:Gd d lo H H' rs)(k:rs.length+m<=n):HasL lo H' m:=fun l hl=>by
 obtain⟨xs,e,z⟩:=h l hl
 obtain⟨xs',ys,e1,e2,d⟩:=g.2 l hl
 rw [e] at e1
 cases e1
 have:=d.length
 rw [List.length_map] at this
 exact⟨_,e2,by rw [List.length_append]; omega⟩
def KeyOk(c:Cnt):Prop:=(c.map (·.1)).Nodup/\∀p∈c,p.1∈pool
theorem KeyOk.put{c:Cnt}(h:KeyOk c){x:Str}(hx:x∈pool)(v:Int):KeyOk (zft c x v):=by
 refine⟨?_,fun p hp=>?_⟩
 ·rw [zev]
  split
  ·exact h.1
  ·rename_i hn
   exact List.nodup_append.mpr ⟨h.1,by simp,fun a ha b hb e=>hn (by rw [List.mem_singleton] at hb; rw [<- hb,<- e]; exact ha)⟩
 ·have hm:p.1∈(zft c x v).map (·.1):=List.mem_map.mpr ⟨p,hp,rfl⟩
  rw [zev] at hm
  split at hm
  ·obtain⟨q,hq,e⟩:=List.mem_map.mp hm
   rw [<- e]; exact h.2 q hq
  ·rcases List.mem_append.mp hm with hm | hm
   ·obtain⟨q,hq,e⟩:=List.mem_map.mp hm
    rw [<- e]; exact h.2 q hq
   ·rw [List.mem_singleton] at hm
    rw [hm]; exact hx
theorem KeyOk.len{c:Cnt}(h:KeyOk c):c.length<=5:=by
 have:=zit (c.map (·.1)) pool h.1 fun x hx=>by
  obtain⟨q,hq,e⟩:=List.mem_map.mp hx
  rw [<- e]; exact h.2 q hq
 rw [List.length_map] at this
 exact this
theorem z48:∀(c:Cnt) (x:Str) (v:Int),z7u (zft c x v) x=some v:=by
 intro c x v
 unfold zft
 split
 ·rename_i h
  induction c with
  | nil=>simp at h
  | cons p c ih=>
   by_cases e:p.1=x
   ·simp[z7u,e]
   ·have h':(c.any fun p=>decide (p.1=x))=true:=by simpa [e] using h
    have:=ih h'
    unfold z7u at this |-
    rw [List.map_cons,if_neg e,List.find?_cons]
    simpa [e] using this
 ·rename_i h
  have hn:∀p∈c,p.1≠x:=fun p hp e=>h (List.any_eq_true.mpr ⟨p,hp,decide_eq_true e⟩)
  unfold z7u
  rw [List.find?_append,List.find?_eq_none.mpr (fun p hp=>by simpa using hn p hp)]
  simp
theorem z3s:∀(c:Cnt) {x y:Str} (v:Int),y≠x->z7u (zft c x v) y=z7u c y:=by
 intro c x y v hne
 unfold zft
 split
 ·rename_i hany
  clear hany
  induction c with
  | nil=>rfl
  | cons p c ih=>
   unfold z7u at ih |-
   rw [List.map_cons,List.find?_cons,List.find?_cons]
   by_cases e:p.1=x
   ·rw [if_pos e]
    have:¬ p.1=y:=fun z=>hne (z.symm.trans e)
    simpa [this] using ih
   ·rw [if_neg e]
    by_cases e2:p.1=y
    ·simp[e2]
    ·simpa [e2] using ih
 ·unfold z7u
  rw [List.find?_append]
  cases hf:c.find? fun p=>decide (p.1=y) with
  | none=>simp[Ne.symm hne]
  | some q=>simp
theorem Has.put{c:Cnt}{g:List Str}(h:Has c g){x:Str}{v:Int}(h1 : -32768<=v)(h2:v<=32767):Has (zft c x v) (g++[x]):=fun y hy=>by
 by_cases e:y=x
 ·rw [e,z48]
  exact⟨v,rfl,h1,h2⟩
 ·rw [z3s c v e]
  rcases List.mem_append.mp hy with hy | hy
  ·exact h y hy
  ·exact absurd (List.mem_singleton.mp hy) e
theorem Has.sub{c:Cnt}{g g':List Str}(h:Has c g)(s:Sub g' g):Has c g':=fun x hx=>h x (s x hx)
theorem zbo{g:List Str}:∀{n:Nat} {t:T},T.ok pool n t->t.knows g=true->T.ok g n t
 | 0,_,h,_=>h.elim
 | n+1,.num i,h,_=>h
 | n+1,.nm x,h,k=>show x∈g by simpa [T.knows] using k
 | n+1,.op w a b,h,k=>by
  rw [T.knows,Bool.and_eq_true] at k
  exact⟨zbo h.1 k.1,zbo h.2 k.2⟩
mutual
theorem zzg:∀(d:D) (p q:List Str),kbD p d=some q->Sub p q
 | .set x t,p,q,h=>by
  rw [kbD] at h
  split at h
  ·cases h
   exact fun y hy=>List.mem_append_left _ hy
  ·cases h
 | .ite t b c,p,q,h=>by
  rw [kbD] at h
  split at h
  ·cases hb:kbB p b with
   | none=>rw [hb] at h; cases h
   | some q1=>
    cases hc:kbB p c with
    | none=>rw [hb,hc] at h; cases h
    | some q2=>
     rw [hb,hc] at h
     cases h
     exact fun y hy=>List.mem_filter.mpr ⟨zgh b p q1 hb y hy,by simpa using zgh c p q2 hc y hy⟩
  ·cases h
 | .whl t m b,p,q,h=>by
  rw [kbD] at h
  split at h
  ·cases hb:kbB p b with
   | none=>rw [hb] at h; cases h
   | some q1=>
    rw [hb] at h
    cases h
    exact Sub.refl p
  ·cases h
theorem zgh:∀(b:List D) (p q:List Str),kbB p b=some q->Sub p q
 | [],p,q,h=>by
  rw [kbB] at h
  cases h
  exact Sub.refl p
 | d::r,p,q,h=>by
  rw [kbB] at h
  cases hd:kbD p d with
  | none=>rw [hd] at h; cases h
  | some q1=>
   rw [hd] at h
   exact(zzg d p q1 hd).trans (zgh r q1 q h)
end
end
section
variable{P:Program}{w:World}{K:PySem.W.Frag}{mg:Str->Option Value}{base:Heap}{f:Addr}{fd:FuncData}
def q3d(o:Option Ref)(H':Hp)(r:V):Prop:=match o with
 | none=>r=.non
 | some e=>Dt H' r (Rs.ref e.1 e.2).enc
def zm1(n:Nat):Sp:=fun vs H Q _=>∃(v:V) (b:List D) (pv:V) (p:List Int) (d f:Addr) (c:Cnt) (g g':List Str) (lo:Option Addr),vs=[v,pv,.ref d,.ref f]/\Dt H v (.tup (zi7 b))/\Dt H pv (z4c p)/\okW n b/\n<=4/\p.length+2 * n<=90/\kbB g b=some g'/\H d=some (.dK (kvC c))/\KeyOk c/\Has c g/\SetOk f lo H/\HasL lo H ((evB p 0 b c).2.2.length+1)/\
 ∀(r:V) (H':Hp),Gd d lo H H' (evB p 0 b c).2.2->H' d=some (.dK (kvC (evB p 0 b c).2.1))->q3d (evB p 0 b c).1 H' r->Q r H'
def zjy(ks:List Str)(n:Nat):Sp:=fun vs H Q _=>∃(v:V) (e:D) (pv:V) (p:List Int) (d f:Addr) (c:Cnt) (g g':List Str) (lo:Option Addr),vs=[v,pv,.ref d,.ref f]/\e.kind∈ks/\Dt H v e.enc/\Dt H pv (z4c p)/\q40 n e/\n<=3/\p.length+2 * n<=89/\kbD g e=some g'/\H d=some (.dK (kvC c))/\KeyOk c/\Has c g/\SetOk f lo H/\HasL lo H ((evD p e c).2.2.length+1)/\
 ∀(r:V) (H':Hp),Gd d lo H H' (evD p e c).2.2->H' d=some (.dK (kvC (evD p e c).2.1))->q3d (evD p e c).1 H' r->Q r H'
theorem zij{c:Cnt}{x:Str}{t:T}{p:List Int}{u:Str}{q:List Int}{r:List RI}(h:evT c t (p++[0])=(.ref u q,r)):evD p (.set x t) c=(some (u,q),c,r):=by rw [evD,h]
theorem zik{c:Cnt}{x:Str}{t:T}{p:List Int}{v:Int}{r:List RI}(h:evT c t (p++[0])=(.had v,r)):evD p (.set x t) c=(none,zft c x v,r):=by rw [evD,h]
theorem zrb(c:Cnt)(x:Str)(t:T)(p:List Int):(evD p (.set x t) c).2.2=(evT c t (p++[0])).2:=by
 rcases h:evT c t (p++[0]) with⟨r,w⟩
 cases r with
 | had v=>rw [zik h]
 | ref u q=>rw [zij h]
theorem zj1{c:Cnt}{t:T}{b b2:List D}{p:List Int}{u:Str}{q:List Int}{r:List RI}(h:evT c t (p++[0])=(.ref u q,r)):evD p (.ite t b b2) c=(some (u,q),c,r):=by rw [evD,h]
theorem zj0{c:Cnt}{t:T}{b b2:List D}{p:List Int}{v:Int}{r:List RI}(h:evT c t (p++[0])=(.had v,r))(hv:v≠0):evD p (.ite t b b2) c=((evB (p++[1]) 0 b c).1,(evB (p++[1]) 0 b c).2.1,r++(evB (p++[1]) 0 b c).2.2):=by rw [evD,h]; simp[hv]
theorem zok{c:Cnt}{t:T}{b b2:List D}{p:List Int}{r:List RI}(h:evT c t (p++[0])=(.had 0,r)):evD p (.ite t b b2) c=((evB (p++[2]) 0 b2 c).1,(evB (p++[2]) 0 b2 c).2.1,r++(evB (p++[2]) 0 b2 c).2.2):=by rw [evD,h]; simp
theorem zzi(c:Cnt)(t:T)(b b2:List D)(p:List Int):(evT c t (p++[0])).2.length<=(evD p (.ite t b b2) c).2.2.length:=by
 rcases h:evT c t (p++[0]) with⟨r,w⟩
 cases r with
 | ref u q=>rw [zj1 h]; exact Nat.le_refl _
 | had v=>
  by_cases hv:v=0
  ·subst hv
   rw [zok h]
   simp
  ·rw [zj0 h hv]
   simp
theorem zsq{g g':List Str}{t:T}{b b2:List D}(h:kbD g (.ite t b b2)=some g'):t.knows g=true/\(∃q,kbB g b=some q)/\∃q,kbB g b2=some q:=by
 rw [kbD] at h
 split at h
 ·rename_i hk
  cases hb:kbB g b with
  | none=>rw [hb] at h; cases h
  | some q1=>
   cases hc:kbB g b2 with
   | none=>rw [hb,hc] at h; cases h
   | some q2=>exact⟨hk,⟨q1,rfl⟩,q2,rfl⟩
 ·cases h
theorem zxa{g g':List Str}{t:T}{m:Int}{b:List D}(h:kbD g (.whl t m b)=some g'):t.knows g=true/\g'=g/\∃q,kbB g b=some q:=by
 rw [kbD] at h
 split at h
 ·rename_i hk
  cases hb:kbB g b with
  | none=>rw [hb] at h; cases h
  | some q1=>
   rw [hb] at h
   cases h
   exact⟨hk,rfl,q1,rfl⟩
 ·cases h
theorem zvs{cond:Cnt->Rs×List RI}{body:Cnt->Out}{p:List Int}(Pv:Cnt->Prop)(hb:∀c,Pv c->Pv (body c).2.1):∀(k:Nat) (c:Cnt),Pv c->Pv (z4r cond body p k c).2.1:=by
 intro k
 induction k with
 | zero=>
  intro c h
  rw [z4r]
  rcases cond c with⟨r,w⟩
  cases r with
  | ref u q=>exact h
  | had v=>by_cases hv:v=0<;>simp[hv,h]
 | succ k ih=>
  intro c h
  rw [z4r]
  rcases cond c with⟨r,w⟩
  cases r with
  | ref u q=>exact h
  | had v=>
   by_cases hv:v=0
   ·simp[hv,h]
   ·have h1:=hb c h
    rcases hbc:body c with⟨e,c1,r1⟩
    rw [hbc] at h1
    cases e with
    | some e=>simp[hv,hbc,h1]
    | none=>
     have h2:=ih c1 h1
     simp only[hv,if_false,hbc]
     exact h2
theorem zsh{cond:Cnt->Rs×List RI}{body:Cnt->Out}{p:List Int}(Pv:Cnt->Prop)(hb:∀c,Pv c->(body c).1=none->Pv (body c).2.1):∀(k:Nat) (c:Cnt),Pv c->(z4r cond body p k c).1=none->Pv (z4r cond body p k c).2.1:=by
 intro k
 induction k with
 | zero=>
  intro c h
  rw [z4r]
  rcases cond c with⟨r,w⟩
  cases r with
  | ref u q=>exact fun _=>h
  | had v=>by_cases hv:v=0<;>simp[hv,h]
 | succ k ih=>
  intro c h
  rw [z4r]
  rcases cond c with⟨r,w⟩
  cases r with
  | ref u q=>exact fun _=>h
  | had v=>
   by_cases hv:v=0
   ·simp[hv,h]
   ·have h1:=hb c h
    rcases hbc:body c with⟨e,c1,r1⟩
    rw [hbc] at h1
    cases e with
    | some e=>simp[hv,hbc]
    | none=>
     have h2:=ih c1 (h1 rfl)
     simp only[hv,if_false,hbc]
     exact h2
mutual
theorem zt8:∀(e:D) (n:Nat) (p:List Int) (c:Cnt),q40 n e->KeyOk c->KeyOk (evD p e c).2.1
 | .set x t,n,p,c,h,k=>by
  rcases he:evT c t (p++[0]) with⟨r,w⟩
  cases r with
  | ref u q=>rw [zij he]; exact k
  | had v=>rw [zik he]; exact k.put h.1 v
 | .ite t b b2,n,p,c,h,k=>by
  rcases he:evT c t (p++[0]) with⟨r,w⟩
  cases r with
  | ref u q=>rw [zj1 he]; exact k
  | had v=>
   by_cases hv:v=0
   ·subst hv
    rw [zok he]
    exact zdp b2 n (p++[2]) 0 c h.2.2 k
   ·rw [zj0 he hv]
    exact zdp b n (p++[1]) 0 c h.2.1 k
 | .whl t m b,n,p,c,h,k=>by
  rw [evD]
  exact zvs KeyOk (fun c1 k1=>zdp b n (p++[1]) 0 c1 h.2 k1) _ c k
theorem zdp:∀(b:List D) (n:Nat) (p:List Int) (i:Int) (c:Cnt),okW n b->KeyOk c->KeyOk (evB p i b c).2.1
 | [],n,p,i,c,h,k=>by rw [evB]; exact k
 | e::r,0,p,i,c,h,k=>h.elim
 | e::r,n+1,p,i,c,h,k=>by
  have h1:=zt8 e n (p++[i]) c (h.2 e (.head _)) k
  rw [evB]
  rcases he:evD (p++[i]) e c with⟨o,c1,w⟩
  rw [he] at h1
  cases o with
  | some u=>exact h1
  | none=>exact zdp r (n+1) p (i+1) c1 ⟨by have:=h.1; rw [List.length_cons] at this; omega,fun d hd=>h.2 d (.tail _ hd)⟩ h1
end
mutual
theorem zt9:∀(e:D) (p:List Int) (c:Cnt) (g g':List Str),kbD g e=some g'->Has c g->(evD p e c).1=none->Has (evD p e c).2.1 g'
 | .set x t,p,c,g,g',hk,h=>by
  rcases he:evT c t (p++[0]) with⟨r,w⟩
  cases r with
  | ref u q=>rw [zij he]; exact fun z=>by cases z
  | had v=>
   rw [zik he]
   intro _
   rw [kbD] at hk
   split at hk
   ·cases hk
    have:=zt7 t (p++[0]) he
    exact h.put this.1 this.2
   ·cases hk
 | .ite t b b2,p,c,g,g',hk,h=>by
  rcases he:evT c t (p++[0]) with⟨r,w⟩
  cases r with
  | ref u q=>rw [zj1 he]; exact fun z=>by cases z
  | had v=>
   obtain⟨_,⟨q1,h1⟩,q2,h2⟩:=zsq hk
   have sub:Sub g' q1/\Sub g' q2:=by
    have hkt:=(zsq hk).1
    rw [kbD,if_pos hkt,h1,h2] at hk
    cases hk
    exact⟨fun x hx=>(List.mem_filter.mp hx).1,fun x hx=>by simpa using(List.mem_filter.mp hx).2⟩
   by_cases hv:v=0
   ·subst hv
    rw [zok he]
    exact fun z=>(zgs b2 (p++[2]) 0 c g q2 h2 h z).sub sub.2
   ·rw [zj0 he hv]
    exact fun z=>(zgs b (p++[1]) 0 c g q1 h1 h z).sub sub.1
 | .whl t m b,p,c,g,g',hk,h=>by
  obtain⟨_,rfl,q1,h1⟩:=zxa hk
  rw [evD]
  exact zsh (fun c=>Has c g') (fun c1 k1 z=>(zgs b (p++[1]) 0 c1 g' q1 h1 k1 z).sub (zgh b g' q1 h1)) _ c h
theorem zgs:∀(b:List D) (p:List Int) (i:Int) (c:Cnt) (g g':List Str),kbB g b=some g'->Has c g->(evB p i b c).1=none->Has (evB p i b c).2.1 g'
 | [],p,i,c,g,g',hk,h=>by
  rw [kbB] at hk
  cases hk
  rw [evB]
  exact fun _=>h
 | e::r,p,i,c,g,g',hk,h=>by
  rw [kbB] at hk
  cases hd:kbD g e with
  | none=>rw [hd] at hk; cases hk
  | some q1=>
   rw [hd] at hk
   have h1:=zt9 e (p++[i]) c g q1 hd h
   rw [evB]
   rcases he:evD (p++[i]) e c with⟨o,c1,w⟩
   rw [he] at h1
   cases o with
   | some u=>exact fun z=>by cases z
   | none=>exact zgs r p (i+1) c1 q1 g' hk (h1 rfl)
end
def zp8(rs:List RI)(o:Out):Out:=(o.1,o.2.1,rs++o.2.2)
theorem zof{cond:Cnt->Rs×List RI}{body:Cnt->Out}{p:List Int}{k:Nat}{c:Cnt}{u:Str}{q:List Int}{r:List RI}(h:cond c=(.ref u q,r)):z4r cond body p k c=(some (u,q),c,r):=by
 cases k<;>rw [z4r,h]
theorem zke{cond:Cnt->Rs×List RI}{body:Cnt->Out}{p:List Int}{k:Nat}{c:Cnt}{r:List RI}(h:cond c=(.had 0,r)):z4r cond body p k c=(none,c,r):=by
 cases k<;>rw [z4r,h]<;>simp
theorem zkf{cond:Cnt->Rs×List RI}{body:Cnt->Out}{p:List Int}{c:Cnt}{v:Int}{r:List RI}(h:cond c=(.had v,r))(hv:v≠0):z4r cond body p 0 c=((some (("long" : Str),p),c,r):Out):=by
 rw [z4r,h]
 simp[hv]
theorem zg3{cond:Cnt->Rs×List RI}{body:Cnt->Out}{p:List Int}{k:Nat}{c c1:Cnt}{v:Int}{r r1:List RI}{e:Ref}(h:cond c=(.had v,r))(hv:v≠0)(hb:body c=(some e,c1,r1)):z4r cond body p (k+1) c=(some e,c1,r++r1):=by
 rw [z4r,h]
 simp[hv,hb]
theorem zg4{cond:Cnt->Rs×List RI}{body:Cnt->Out}{p:List Int}{k:Nat}{c c1:Cnt}{v:Int}{r r1:List RI}(h:cond c=(.had v,r))(hv:v≠0)(hb:body c=(none,c1,r1)):z4r cond body p (k+1) c=zp8 (r++r1) (z4r cond body p k c1):=by
 rw [z4r,h]
 simp[hv,hb,zp8]
def WhI(H:Hp)(va:Addr)(pv:V)(d fs:Addr)(lo:Option Addr)(g:List Str)(t:T)(b:List D)(p:List Int)(M:Nat)(out:Out)(k:Nat)(σ : St)(Hc:Hp):Prop:=∃(j:Nat) (cj:Cnt) (rs:List RI) (x5 x6:Option V),σ = [some (.ref va),some pv,some (.ref d),some (.ref fs),some (.int j),x5,x6]/\j+k=M/\Gd d lo H Hc rs/\Hc d=some (.dK (kvC cj))/\KeyOk cj/\Has cj g/\out=zp8 rs (z4r (fun c=>evT c t (p++[0])) (fun c=>evB (p++[1]) 0 b c) p k cj)
theorem zsj(cond:Cnt->Rs×List RI)(body:Cnt->Out)(p:List Int)(k:Nat)(c:Cnt):(cond c).2.length<=(z4r cond body p k c).2.2.length:=by
 rcases h:cond c with⟨r,w⟩
 cases r with
 | ref u q=>rw [zof h]; exact Nat.le_refl _
 | had v=>
  by_cases hv:v=0
  ·subst hv
   rw [zke h]; exact Nat.le_refl _
  ·cases k with
   | zero=>rw [zkf h hv]; exact Nat.le_refl _
   | succ k=>
    rcases hb:body c with⟨e,c1,r1⟩
    cases e with
    | some e=>rw [zg3 h hv hb]; simp
    | none=>rw [zg4 h hv hb]; simp only[zp8,List.length_append]; omega
theorem zsi{cond:Cnt->Rs×List RI}{body:Cnt->Out}{p:List Int}{k:Nat}{c:Cnt}{v:Int}{r:List RI}(h:cond c=(.had v,r))(hv:v≠0):r.length+(body c).2.2.length<=(z4r cond body p (k+1) c).2.2.length:=by
 rcases hb:body c with⟨e,c1,r1⟩
 cases e with
 | some e=>rw [zg3 h hv hb]; simp
 | none=>rw [zg4 h hv hb]; simp only[zp8,List.length_append]; omega
theorem zja{p:List Int}{k:Int}{e:D}{r:List D}{c c1:Cnt}{u:Ref}{w:List RI}(h:evD (p++[k]) e c=(some u,c1,w)):evB p k (e::r) c=(some u,c1,w):=by rw [evB,h]
theorem zjb{p:List Int}{k:Int}{e:D}{r:List D}{c c1:Cnt}{w:List RI}(h:evD (p++[k]) e c=(none,c1,w)):evB p k (e::r) c=zp8 w (evB p (k+1) r c1):=by rw [evB,h]; rfl
theorem zzr(p:List Int)(k:Int)(e:D)(r:List D)(c:Cnt):(evD (p++[k]) e c).2.2.length<=(evB p k (e::r) c).2.2.length:=by
 rcases h:evD (p++[k]) e c with⟨o,c1,w⟩
 cases o with
 | some u=>rw [zja h]; exact Nat.le_refl _
 | none=>rw [zjb h]; simp[zp8]
theorem zvx{g g':List Str}{e:D}{r:List D}(h:kbB g (e::r)=some g'):∃q,kbD g e=some q/\kbB q r=some g':=by
 rw [kbB] at h
 cases hd:kbD g e with
 | none=>rw [hd] at h; cases h
 | some q=>rw [hd] at h; exact⟨q,rfl,h⟩
theorem ztd{α : Type}:∀{l:List α} {i:Nat} {x : α},l[i]?=some x->l.drop i=x::l.drop (i+1)
 | [],_,_,h=>by simp at h
 | a::l,0,x,h=>by simp at h; simp[h]
 | a::l,i+1,x,h=>by
  have:l[i]?=some x:=by simpa using h
  simpa using ztd this
def BkI(H:Hp)(ab:Addr)(pv:V)(d fs:Addr)(lo:Option Addr)(g':List Str)(b:List D)(p:List Int)(out:Out)(i:Nat)(σ : St)(Hc:Hp):Prop:=∃(ci:Cnt) (gi:List Str) (rs:List RI) (x4 x5 x6:Option V),σ = [some (.ref ab),some pv,some (.ref d),some (.ref fs),x4,x5,x6]/\Gd d lo H Hc rs/\Hc d=some (.dK (kvC ci))/\KeyOk ci/\Has ci gi/\kbB gi (b.drop i)=some g'/\out=zp8 rs (evB p i (b.drop i) ci)
end
section
variable{P:Program}{w:World}{K:PySem.W.Frag}{mg:Str->Option Value}{base:Heap}{f:Addr}{fd:FuncData}
theorem zs7{n:Nat} (F:Fun K "do_set" "do_set" z2t f fd) (c_reckon:Callee P w K mg base "reckon" ["term","path","names","settle"] 7 (z5k 5)):FnOk P w K mg base CX0 8 f fd ["deed","path","names","settle"] (zjy ["set"] n):=by
 refine F.ok sc_do_set (fun vs H Q E h=>?_) (fun cdv A outer s H vs Q E hr h=>?_)
 ·obtain⟨v,e,pv,p,d,f,c,g,g',lo,rfl,_⟩:=h
  rfl
 obtain⟨v,e,pv,p,d,fs,c,g,g',lo,rfl,hk,hv,hp,hok,hn,hpl,hkb,hd,hky,hh,hS,hL,q⟩:=h
 obtain⟨x,t,rfl⟩:∃x t,e=.set x t:=by
  cases e with
  | set x t=>exact⟨x,t,rfl⟩
  | ite t b c=>exact absurd (List.mem_singleton.mp hk) (show ¬ ("if" : Str) = "set" by decide+kernel)
  | whl t m b=>exact absurd (List.mem_singleton.mp hk) (show ¬ ("while" : Str) = "set" by decide+kernel)
 rw [D.enc] at hv
 obtain⟨va,x0,x1,xt,rfl,hva,t0,t1,dt⟩:=zwp hv
 cases t0
 cases t1
 rw [kbD] at hkb
 have hkt:t.knows g=true:=by
  cases hz:t.knows g with
  | true=>rfl
  | false=>rw [hz] at hkb; cases hkb
 have hlen:=zrb c x t p
 refine⟨_,(z02 (z19 (i:=4) sc_do_set.nd rfl zhj (z15 c_reckon hr (by omega) (z09 (z0r z0g (z00 (i:=0) rfl z91 z27 z28) z06 (fun _ _=>rfl)) (z09 (z1n z2v (z00 (i:=1) rfl zfd z0t z0u) (z1a (z09 z06 z03))) (z09 (z00 (i:=2) rfl z8f z25 z26) (z09 (z00 (i:=3) rfl zcx z1l z1m) z03)))) zep z9h) (z04 rfl))
 (z02 (z1h (z0d (gEq hr.units) (z0r z0g (z00 (i:=4) rfl z6r zc7 zcg) z06 (fun _ _=>rfl)) z0y (z0j _)) (z07 (z0b (z00 (i:=4) rfl z6r zc7 zcg))) z0f)
 (z02 (zd7 hr.units1 (z00 (i:=2) rfl z8f z25 z26) (z0r z0g (z00 (i:=0) rfl z91 z27 z28) z06 (fun _ _=>rfl)) (z0r z0g (z00 (i:=4) rfl z6r zc7 zcg) z06 (fun _ _=>rfl)) (z04 rfl))
 (z07 (z0b z1v))))),z0s fun N1 e1=>?_⟩
 walk_at "rd7"
 refine⟨_,SqT.of hva,_,z1c (j:=2) rfl,by decide,fun p1 h1=>?_⟩
 have s1:=z05 h1 (HO.tup [V.int 0])
 refine zhq (hp.kp s1.kp) zhc (by simp; omega) fun z H1 s2 dz=>?_
 have s12:=s1.trans s2
 refine⟨xt,t,z,_,d,fs,c,g,lo,rfl,dt.kp s12.kp,dz,zbo hok.2 hkt,by decide,by simp; omega,s12 _ _ hd,hh,hS.kp (Same.kpE s12),by rw [<- hlen]; exact hL.same s12,fun r1 H2 g1 dr1=>?_⟩
 have G1:Gr lo H H2 (evT c t (p++[0])).2:=(Gr.same s12 hL).trans g1
 clear g1 s1 s2 s12
 have hd2:=G1.keep hd (by intro xs z; cases z)
 have hva2:=G1.keep hva (by intro xs z; cases z)
 obtain⟨b1,rfl,hb1⟩:=ze0 dr1
 rcases he1:evT c t (p++[0]) with⟨r1,w1⟩
 rw [he1] at G1 dr1 hb1
 rw [e1]
 refine z0s fun N2 e2=>?_
 walk_at "rd7"
 rcases hb1 with⟨i1,rfl,hb1⟩ | ⟨u,qq,y1,rfl,hb1⟩
 rotate_left
 ·refine⟨_,SqT.of hb1,_,z1t,_,zn5,?_⟩
  rw [if_pos (decide_eq_true rfl)]
  rw [zij he1] at q
  exact q _ _ G1.gd hd2 dr1
 refine⟨_,SqT.of hb1,_,z1t,_,zn5,?_⟩
 rw [if_neg (by rw [decide_eq_true_eq]; exact z7f)]
 rw [e2]
 walk_at "rd7"
 rw [zik he1] at q
 refine⟨_,SqT.of hb1,_,z1c (j:=1) rfl,_,SqT.of hva2,_,z1c (j:=1) rfl,_,DPut.k (k:=Sum.inr x) hd2 ?_,?_⟩
 ·unfold kvC
  rw [List.length_map]
  exact Nat.lt_of_le_of_lt hky.len (by decide)
 ·exact q _ _ (Gd.put G1 hd2) (by rw [z01,zx2]) rfl
theorem zvk{n:Nat} (F:Fun K "do_if" "do_if" z3k f fd) (c_reckon:Callee P w K mg base "reckon" ["term","path","names","settle"] 7 (z5k 5)) (c_do_block:Callee P w K mg base "do_block" ["block","path","names","settle"] (3 * n+8) (zm1 n)):FnOk P w K mg base CX0 (3 * n+9) f fd ["deed","path","names","settle"] (zjy ["if"] n):=by
 refine F.ok sc_do_if (fun vs H Q E h=>?_) (fun cdv A outer s H vs Q E hr h=>?_)
 ·obtain⟨v,e,pv,p,d,f,c,g,g',lo,rfl,_⟩:=h
  rfl
 obtain⟨v,e,pv,p,d,fs,c,g,g',lo,rfl,hk,hv,hp,hok,hn,hpl,hkb,hd,hky,hh,hS,hL,q⟩:=h
 obtain⟨t,b,b2,rfl⟩:∃t b b2,e=.ite t b b2:=by
  cases e with
  | set x t=>exact absurd (List.mem_singleton.mp hk) (show ¬ ("set" : Str) = "if" by decide+kernel)
  | ite t b c=>exact⟨t,b,c,rfl⟩
  | whl t m b=>exact absurd (List.mem_singleton.mp hk) (show ¬ ("while" : Str) = "if" by decide+kernel)
 rw [D.enc] at hv
 obtain⟨va,x0,xt,xb,xc,rfl,hva,t0,dt,db,dc⟩:=q2p hv
 cases t0
 obtain⟨hkt,⟨q1,hq1⟩,q2,hq2⟩:=zsq hkb
 have hlen:=zzi c t b b2 p
 refine⟨_,(z02 (z19 (i:=4) sc_do_if.nd rfl zix (z15 c_reckon hr (by omega) (z09 (z0r z0g (z00 (i:=0) rfl z6t z27 z28) z06 (fun _ _=>rfl)) (z09 (z1n z2v (z00 (i:=1) rfl z6s z0t z0u) (z1a (z09 z06 z03))) (z09 (z00 (i:=2) rfl z61 z25 z26) (z09 (z00 (i:=3) rfl z58 z1l z1m) z03)))) zgq z9h) (z04 rfl))
 (z02 (z1h (z0d (gEq hr.units) (z0r z0g (z00 (i:=4) rfl z7z zc7 zcg) z06 (fun _ _=>rfl)) z0y (z0j _)) (z07 (z0b (z00 (i:=4) rfl z7z zc7 zcg))) z0f)
 (z02 (z1h (z0d q1a (z0r z0g (z00 (i:=4) rfl z7z zc7 zcg) z06 (fun _ _=>rfl)) z06 (z0j _)) (z07 (z0b (z15 c_do_block hr (by omega) (z09 (z0r z0g (z00 (i:=0) rfl z6t z27 z28) z06 (fun _ _=>rfl)) (z09 (z1n z2v (z00 (i:=1) rfl z6s z0t z0u) (z1a (z09 z06 z03))) (z09 (z00 (i:=2) rfl z61 z25 z26) (z09 (z00 (i:=3) rfl z58 z1l z1m) z03)))) z7s z86))) z0f)
 (z07 (z0b (z15 c_do_block hr (by omega) (z09 (z0r z0g (z00 (i:=0) rfl z6t z27 z28) z06 (fun _ _=>rfl)) (z09 (z1n z2v (z00 (i:=1) rfl z6s z0t z0u) (z1a (z09 z06 z03))) (z09 (z00 (i:=2) rfl z61 z25 z26) (z09 (z00 (i:=3) rfl z58 z1l z1m) z03)))) z7s z86)))))),z0s fun N1 e1=>?_⟩
 walk_at "rd7"
 refine⟨_,SqT.of hva,_,z1c (j:=1) rfl,by decide,fun p1 h1=>?_⟩
 have s1:=z05 h1 (HO.tup [V.int 0])
 refine zhq (hp.kp s1.kp) zhc (by simp; omega) fun z H1 s2 dz=>?_
 have s12:=s1.trans s2
 refine⟨xt,t,z,_,d,fs,c,g,lo,rfl,dt.kp s12.kp,dz,zbo hok.1 hkt,by decide,by simp; omega,s12 _ _ hd,hh,hS.kp (Same.kpE s12),(hL.same s12).mono (by omega),fun r1 H2 g1 dr1=>?_⟩
 have G1:Gr lo H H2 (evT c t (p++[0])).2:=(Gr.same s12 hL).trans g1
 clear g1 s1 s2 s12
 have hd2:=G1.keep hd (by intro xs z; cases z)
 have hva2:=G1.keep hva (by intro xs z; cases z)
 have hp2:=hp.kp G1.kp
 have db2:=db.kp G1.kp
 have dc2:=dc.kp G1.kp
 have hS2:=hS.kp G1.kpE
 obtain⟨b1,rfl,hb1⟩:=ze0 dr1
 rcases he1:evT c t (p++[0]) with⟨r1,w1⟩
 rw [he1] at G1 dr1 hb1
 rw [e1]
 refine z0s fun N2 e2=>?_
 walk_at "rd7"
 rcases hb1 with⟨i1,rfl,hb1⟩ | ⟨u,qq,y1,rfl,hb1⟩
 rotate_left
 ·refine⟨_,SqT.of hb1,_,z1t,_,zn5,?_⟩
  rw [if_pos (decide_eq_true rfl)]
  rw [zj1 he1] at q
  exact q _ _ G1.gd hd2 dr1
 refine⟨_,SqT.of hb1,_,z1t,_,zn5,?_⟩
 rw [if_neg (by rw [decide_eq_true_eq]; exact z7f)]
 rw [e2]
 refine z0s fun N3 e3=>?_
 walk_at "rd7"
 refine⟨_,SqT.of hb1,_,z1c (j:=1) rfl,_,rfl,?_⟩
 by_cases hz:i1=0
 ·subst hz
  rw [zok he1] at q hL
  simp only[if_true,if_false,not_true,ne_eq,not_false_eq_true]
  rw [e3]
  walk_at "rd7"
  refine⟨_,SqT.of hva2,_,z1c (j:=3) rfl,by decide,fun p2 h2=>?_⟩
  have s3:=z05 h2 (HO.tup [V.int 2])
  refine zhq (hp2.kp s3.kp) zhc (by simp; omega) fun z2 H3 s4 dz2=>?_
  have s34:=s3.trans s4
  have hL2:HasL lo H2 ((evB (p++[2]) 0 b2 c).2.2.length+1):=hL.on G1 (by show w1.length+_<=_; rw [List.length_append]; omega)
  refine⟨xc,b2,z2,_,d,fs,c,g,q2,lo,rfl,dc2.kp s34.kp,dz2,hok.2.2,by omega,by simp; omega,hq2,s34 _ _ hd2,hky,hh,hS2.kp (Same.kpE s34),hL2.same s34,fun r2 H4 g2 hd4 ho=>?_⟩
  exact q _ _ (G1.gd.trans (((Gr.same s34 hL2).gd).trans g2 (s34 _ _ hd2)) hd2) hd4 ho
 ·rw [zj0 he1 hz] at q hL
  rw [if_pos (decide_eq_false hz)]
  refine⟨_,SqT.of hva2,_,z1c (j:=2) rfl,by decide,fun p2 h2=>?_⟩
  have s3:=z05 h2 (HO.tup [V.int 1])
  refine zhq (hp2.kp s3.kp) zhc (by simp; omega) fun z2 H3 s4 dz2=>?_
  have s34:=s3.trans s4
  have hL2:HasL lo H2 ((evB (p++[1]) 0 b c).2.2.length+1):=hL.on G1 (by show w1.length+_<=_; rw [List.length_append]; omega)
  refine⟨xb,b,z2,_,d,fs,c,g,q1,lo,rfl,db2.kp s34.kp,dz2,hok.2.1,by omega,by simp; omega,hq1,s34 _ _ hd2,hky,hh,hS2.kp (Same.kpE s34),hL2.same s34,fun r2 H4 g2 hd4 ho=>?_⟩
  exact q _ _ (G1.gd.trans (((Gr.same s34 hL2).gd).trans g2 (s34 _ _ hd2)) hd2) hd4 ho
theorem zmp{n:Nat} (F:Fun K "do_while" "do_while" z0w f fd) (c_reckon:Callee P w K mg base "reckon" ["term","path","names","settle"] 7 (z5k 5)) (c_do_block:Callee P w K mg base "do_block" ["block","path","names","settle"] (3 * n+8) (zm1 n)):FnOk P w K mg base CX0 (3 * n+9) f fd ["deed","path","names","settle"] (zjy ["while"] n):=by
 refine F.ok sc_do_while (fun vs H Q E h=>?_) (fun cdv A outer s H vs Q E hr h=>?_)
 ·obtain⟨v,e,pv,p,d,f,c,g,g',lo,rfl,_⟩:=h
  rfl
 obtain⟨v,e,pv,p,d,fs,c,g,g',lo,rfl,hk,hv,hp,hok,hn,hpl,hkb,hd,hky,hh,hS,hL,q⟩:=h
 obtain⟨t,m,b,rfl⟩:∃t m b,e=.whl t m b:=by
  cases e with
  | set x t=>exact absurd (List.mem_singleton.mp hk) (show ¬ ("set" : Str) = "while" by decide+kernel)
  | ite t b c=>exact absurd (List.mem_singleton.mp hk) (show ¬ ("if" : Str) = "while" by decide+kernel)
  | whl t m b=>exact⟨t,m,b,rfl⟩
 rw [D.enc] at hv
 obtain⟨va,x0,xt,xm,xb,rfl,hva,t0,dt,dm,db⟩:=q2p hv
 cases t0
 cases dm
 obtain⟨hkt,rfl,q1,hq1⟩:=zxa hkb
 refine⟨_,(z02 (z19 (i:=4) sc_do_while.nd rfl z7m z06 (z04 rfl))
 (z07 (zv1 PassesOwn.never (zad zpy)
 (z02 (z19 (i:=5) sc_do_while.nd rfl zeh (z15 c_reckon hr (by omega) (z09 (z0r z0g (z00 (i:=0) rfl z4n z27 z28) z06 (fun _ _=>rfl)) (z09 (z1n z2v (z00 (i:=1) rfl z4m z0t z0u) (z1a (z09 z06 z03))) (z09 (z00 (i:=2) rfl z6f z25 z26) (z09 (z00 (i:=3) rfl z60 z1l z1m) z03)))) zc1 z9h) (z04 rfl))
 (z02 (z1h (z0d (gEq hr.units) (z0r z0g (z00 (i:=5) rfl z57 zc7 zcg) z06 (fun _ _=>rfl)) z0y (z0j _)) (z07 (z0b (z00 (i:=5) rfl z57 zc7 zcg))) z0f)
 (z02 (z1h (z0d zfy (z0r z0g (z00 (i:=5) rfl z57 zc7 zcg) z06 (fun _ _=>rfl)) z06 (z0j _)) (z07 (z0b z1v)) z0f)
 (z02 (z1h (z0d q3e (z00 (i:=4) rfl z75 ztp zu4) (z0r z0g (z00 (i:=0) rfl z4n z27 z28) z06 (fun _ _=>rfl)) (z0j _)) (z07 (z0b (z1a (z09 z0y (z09 z0y (z09 (z00 (i:=1) rfl z4m z0t z0u) z03)))))) z0f)
 (z02 (z19 (i:=6) sc_do_while.nd rfl za2 (z15 c_do_block hr (by omega) (z09 (z0r z0g (z00 (i:=0) rfl z4n z27 z28) z06 (fun _ _=>rfl)) (z09 (z1n z2v (z00 (i:=1) rfl z4m z0t z0u) (z1a (z09 z06 z03))) (z09 (z00 (i:=2) rfl z6f z25 z26) (z09 (z00 (i:=3) rfl z60 z1l z1m) z03)))) za9 z86) (z04 rfl))
 (z02 (z1h (z0d zqf (z00 (i:=6) rfl z5g z5s z5v) z1v (z0j _)) (z07 (z0b (z00 (i:=6) rfl z5g z5s z5v))) z0f)
 (z07 (z19 (i:=4) sc_do_while.nd rfl z7m (z1n z5i (z00 (i:=4) rfl z75 ztp zu4) z06) (z04 rfl)))))))))))),z0s fun N1 e1=>?_⟩
 walk_at "rd7"
 rw [e1]
 have hout:evD p (.whl t m b) c=zp8 [] (z4r (fun c=>evT c t (p++[0])) (fun c=>evB (p++[1]) 0 b c) p m.toNat c):=by rw [evD]; rfl
 generalize evD p (.whl t m b) c=out at hL q hout
 refine⟨WhI H va pv d fs lo g' t b p m.toNat out,⟨m.toNat,0,c,[],none,none,rfl,by omega,(Gr.same (Same.refl H) hL).gd,hd,hky,hh,hout⟩,?_⟩
 rintro k σ Hc ⟨j,cj,rs,x5,x6,rfl,hjk,gd,hdc,hkc,hhc,ho⟩
 refine⟨true,rfl,?_⟩
 show if(true:Bool)=true then _ else _
 rw [if_pos rfl]
 refine⟨fun σ' H'=>∃k',k' < k/\WhI H va pv d fs lo g' t b p m.toNat out k' σ' H',fun _ _ h=>h,z0s fun N2 e2=>?_⟩
 walk_at "rd7"
 have hvac:=gd.keep hd hva (by intro xs z; cases z) (by intro xs z; cases z)
 have kpc:=gd.kp hd
 have hSc:=hS.kp (gd.kpE hd)
 have hpc:=hp.kp kpc
 have dtc:=dt.kp kpc
 have dbc:=db.kp kpc
 have l1:=zsj (fun c=>evT c t (p++[0])) (fun c=>evB (p++[1]) 0 b c) p k cj
 have lo1:out.2.2.length=rs.length+(z4r (fun c=>evT c t (p++[0])) (fun c=>evB (p++[1]) 0 b c) p k cj).2.2.length:=by rw [ho,zp8,List.length_append]
 have hLc:HasL lo Hc ((z4r (fun c=>evT c t (p++[0])) (fun c=>evB (p++[1]) 0 b c) p k cj).2.2.length+1):=hL.onD gd (by omega)
 refine⟨_,SqT.of hvac,_,z1c (j:=1) rfl,by decide,fun p1 h1=>?_⟩
 have s1:=z05 h1 (HO.tup [V.int 0])
 refine zhq (hpc.kp s1.kp) zhc (by simp; omega) fun z H1 s2 dz=>?_
 have s12:=s1.trans s2
 refine⟨xt,t,z,_,d,fs,cj,g',lo,rfl,dtc.kp s12.kp,dz,zbo hok.1 hkt,by decide,by simp; omega,s12 _ _ hdc,hhc,hSc.kp (Same.kpE s12),(hLc.same s12).mono (by omega),fun r1 H2 g1 dr1=>?_⟩
 have G1:Gr lo Hc H2 (evT cj t (p++[0])).2:=(Gr.same s12 hLc).trans g1
 clear g1 s1 s2 s12
 have hd2:=G1.keep hdc (by intro xs z; cases z)
 have hva2:=G1.keep hvac (by intro xs z; cases z)
 have hp2:=hpc.kp G1.kp
 have db2:=dbc.kp G1.kp
 have hS2:=hSc.kp G1.kpE
 obtain⟨b1,rfl,hb1⟩:=ze0 dr1
 rcases he1:evT cj t (p++[0]) with⟨r1,w1⟩
 rw [he1] at G1 dr1 hb1
 have GD:=gd.trans G1.gd hdc
 have l1w:w1.length<=(z4r (fun c=>evT c t (p++[0])) (fun c=>evB (p++[1]) 0 b c) p k cj).2.2.length:=by
  have z:=l1
  simp only[he1] at z
  exact z
 rw [e2]
 refine z0s fun N3 e3=>?_
 walk_at "rd7"
 rcases hb1 with⟨i1,rfl,hb1⟩ | ⟨u,qq,y1,rfl,hb1⟩
 rotate_left
 ·refine⟨_,SqT.of hb1,_,z1t,_,zn5,?_⟩
  rw [if_pos (decide_eq_true rfl)]
  rw [zof (cond:=fun c=>evT c t (p++[0])) he1] at ho
  subst ho
  exact q _ _ GD hd2 dr1
 refine⟨_,SqT.of hb1,_,z1t,_,zn5,?_⟩
 rw [if_neg (by rw [decide_eq_true_eq]; exact z7f)]
 rw [e3]
 refine z0s fun N4 e4=>?_
 walk_at "rd7"
 refine⟨_,SqT.of hb1,_,z1c (j:=1) rfl,_,rfl,?_⟩
 by_cases hz:i1=0
 ·subst hz
  rw [zke (cond:=fun c=>evT c t (p++[0])) he1] at ho
  subst ho
  rw [if_pos (by decide)]
  exact q _ _ GD hd2 rfl
 rw [if_neg (by simpa using hz)]
 rw [e4]
 refine z0s fun N5 e5=>?_
 walk_at "rd7"
 refine⟨_,SqT.of hva2,_,z1c (j:=2) rfl,_,rfl,?_⟩
 cases k with
 | zero=>
  rw [zkf (cond:=fun c=>evT c t (p++[0])) he1 hz] at ho
  subst ho
  rw [if_pos (by omega)]
  refine⟨by decide,fun r hr'=>?_⟩
  have s3:=z05 hr' (HO.tup [V.str "refused",V.str "long",pv])
  refine q _ _ ?_ (s3 _ _ hd2) (.tup z01 (.cons (.str _) (.cons (.str _) (.cons (hp2.kp s3.kp) .nil))))
  have hL2:HasL lo H2 0:=hLc.on G1 (by show w1.length+_<=_; omega)
  have:=GD.trans (Gr.same s3 hL2).gd hd2
  rw [List.append_nil] at this
  exact this
 | succ k=>
  rw [if_neg (by omega)]
  have l2:=zsi (cond:=fun c=>evT c t (p++[0])) (body:=fun c=>evB (p++[1]) 0 b c) (p:=p) (k:=k) he1 hz
  have hL2:HasL lo H2 ((evB (p++[1]) 0 b cj).2.2.length+1):=hLc.on G1 (by show w1.length+_<=_; omega)
  rw [e5]
  refine z0s fun N6 e6=>?_
  walk_at "rd7"
  refine⟨_,SqT.of hva2,_,z1c (j:=3) rfl,by decide,fun p2 h2=>?_⟩
  have s3:=z05 h2 (HO.tup [V.int 1])
  refine zhq (hp2.kp s3.kp) zhc (by simp; omega) fun z2 H3 s4 dz2=>?_
  have s34:=s3.trans s4
  refine⟨xb,b,z2,_,d,fs,cj,g',q1,lo,rfl,db2.kp s34.kp,dz2,hok.2,by omega,by simp; omega,hq1,s34 _ _ hd2,hkc,hhc,hS2.kp (Same.kpE s34),hL2.same s34,fun r2 H4 g2 hd4 ho4=>?_⟩
  have GB:=GD.trans (((Gr.same s34 hL2).gd).trans g2 (s34 _ _ hd2)) hd2
  have hk4:=zdp b n (p++[1]) 0 cj hok.2 hkc
  have hh4:=zgs b (p++[1]) 0 cj g' q1 hq1 hhc
  rcases hb:evB (p++[1]) 0 b cj with⟨ee,c4,w4⟩
  rw [hb] at hd4 ho4 GB hk4 hh4
  rw [e6]
  refine z0s fun N7 e7=>?_
  walk_at "rd7"
  cases ee with
  | some er=>
   rw [zg3 (cond:=fun c=>evT c t (p++[0])) (body:=fun c=>evB (p++[1]) 0 b c) he1 hz hb] at ho
   subst ho
   have hne:r2≠.non:=by
    obtain⟨a4,rfl,_⟩:=ze0 (r:=Rs.ref er.1 er.2) ho4
    intro z
    cases z
   rw [if_pos (decide_eq_false hne)]
   refine q _ _ ?_ hd4 ho4
   show Gd d lo H H4 (rs++(w1++w4))
   rw [<- List.append_assoc]
   exact GB
  | none=>
   rw [zg4 (cond:=fun c=>evT c t (p++[0])) (body:=fun c=>evB (p++[1]) 0 b c) he1 hz hb] at ho
   cases ho4
   rw [if_neg (by simp),e7]
   walk_at "rd7"
   refine⟨k,by omega,j+1,c4,rs++(w1++w4),_,_,rfl,by omega,?_,hd4,hk4,(hh4 rfl).sub (zgh b g' q1 hq1),?_⟩
   ·rw [<- List.append_assoc]
    exact GB
   ·rw [ho]
    simp only[zp8,List.append_assoc]
end
section
variable{P:Program}{w:World}{K:PySem.W.Frag}{mg:Str->Option Value}{base:Heap}{f:Addr}{fd:FuncData}
theorem zq2{n:Nat} (F:Fun K "do_deed" "do_deed" z21 f fd) (c_do_set:Callee P w K mg base "do_set" ["deed","path","names","settle"] 8 (zjy ["set"] n)) (c_do_if:Callee P w K mg base "do_if" ["deed","path","names","settle"] (3 * n+9) (zjy ["if"] n)) (c_do_while:Callee P w K mg base "do_while" ["deed","path","names","settle"] (3 * n+9) (zjy ["while"] n)):FnOk P w K mg base CX0 (3 * n+10) f fd ["deed","path","names","settle"] (zjy ["set","if","while"] n):=by
 refine F.ok zpp (fun vs H Q E h=>?_) (fun cdv A outer s H vs Q E hr h=>?_)
 ·obtain⟨v,e,pv,p,d,f,c,g,g',lo,rfl,_⟩:=h
  rfl
 obtain⟨v,e,pv,p,d,fs,c,g,g',lo,rfl,hk,hv,h⟩:=h
 obtain⟨va,xs,rfl,hva⟩:=ztf hv
 refine⟨_,(z02 (z1h (z0d (gEq hr.units) (z0r z0g (z00 (i:=0) rfl z2z z27 z28) z06 (fun _ _=>rfl)) z0y (z0j _)) (z07 (z0b (z15 c_do_set hr (by omega) (z09 (z00 (i:=0) rfl z2z z27 z28) (z09 (z00 (i:=1) rfl z59 z0t z0u) (z09 (z00 (i:=2) rfl z4o z25 z26) (z09 (z00 (i:=3) rfl z44 z1l z1m) z03)))) zdn ztq))) z0f)
 (z02 (z1h (z0d (gEq hr.units) (z0r z0g (z00 (i:=0) rfl z2z z27 z28) z06 (fun _ _=>rfl)) z0y (z0j _)) (z07 (z0b (z15 c_do_if hr (by omega) (z09 (z00 (i:=0) rfl z2z z27 z28) (z09 (z00 (i:=1) rfl z59 z0t z0u) (z09 (z00 (i:=2) rfl z4o z25 z26) (z09 (z00 (i:=3) rfl z44 z1l z1m) z03)))) zeq zwf))) z0f)
 (z07 (z0b (z15 c_do_while hr (by omega) (z09 (z00 (i:=0) rfl z2z z27 z28) (z09 (z00 (i:=1) rfl z59 z0t z0u) (z09 (z00 (i:=2) rfl z4o z25 z26) (z09 (z00 (i:=3) rfl z44 z1l z1m) z03)))) zay zni))))),z0s fun N1 e1=>?_⟩
 walk_at "rd7"
 refine⟨_,SqT.of hva,_,z1t,_,zn5,?_⟩
 split
 ·rename_i z
  exact⟨_,e,pv,p,d,fs,c,g,g',lo,rfl,by rw [of_decide_eq_true z]; simp,hv,h⟩
 rename_i z1
 rw [e1]
 refine z0s fun N2 e2=>?_
 walk_at "rd7"
 refine⟨_,SqT.of hva,_,z1t,_,zn5,?_⟩
 split
 ·rename_i z
  exact⟨_,e,pv,p,d,fs,c,g,g',lo,rfl,by rw [of_decide_eq_true z]; simp,hv,h⟩
 rename_i z2
 rw [e2]
 walk_at "rd7"
 refine⟨_,e,pv,p,d,fs,c,g,g',lo,rfl,?_,hv,h⟩
 simp only[List.mem_cons,List.not_mem_nil,or_false] at hk |-
 rcases hk with hk | hk | hk
 ·exact absurd (decide_eq_true hk) z1
 ·exact absurd (decide_eq_true hk) z2
 ·exact hk
theorem zmq{n:Nat} (F:Fun K "do_block" "do_block" z0x f fd) (b_enumerate:mg "enumerate" = none) (c_do_deed:Callee P w K mg base "do_deed" ["deed","path","names","settle"] (3 * n+10) (zjy ["set","if","while"] n)):FnOk P w K mg base CX0 (3 * n+11) f fd ["block","path","names","settle"] (zm1 (n+1)):=by
 refine F.ok sc_do_block (fun vs H Q E h=>?_) (fun cdv A outer s H vs Q E hr h=>?_)
 ·obtain⟨v,b,pv,p,d,f,c,g,g',lo,rfl,_⟩:=h
  rfl
 obtain⟨v,b,pv,p,d,fs,c,g,g',lo,rfl,hv,hp,hok,hn,hpl,hkb,hd,hky,hh,hS,hL,q⟩:=h
 obtain⟨ab,xs,rfl,hab,hda⟩:=hv.tupI
 have hxl:xs.length=b.length:=by rw [hda.length,zb1]
 have hout:evB p 0 b c=zp8 [] (evB p ((0:Nat):Int) (b.drop 0) c):=by rw [List.drop_zero]; rfl
 generalize evB p 0 b c=out at hL q hout
 refine⟨_,(z02 (ze2 PassesOwn.never rfl (zo8 z9g b_enumerate (z09 (z00 (i:=0) rfl zbf zov zp4) z03)) (zfx (n:=2) rfl (z2u (z1k (i:=4) sc_do_block.nd rfl zgc) (z2u (z1k (i:=5) sc_do_block.nd rfl zdg) zas)))
 (z02 (z19 (i:=6) sc_do_block.nd rfl za3 (z15 c_do_deed hr (by omega) (z09 (z00 (i:=5) rfl zcz z27 z28) (z09 (z1n z2v (z00 (i:=1) rfl zcy z0t z0u) (z1a (z09 (z00 (i:=4) rfl zfe q2b q2e) z03))) (z09 (z00 (i:=2) rfl zbe z25 z26) (z09 (z00 (i:=3) rfl zam z1l z1m) z03)))) zaz zqm) (z04 rfl))
 (z07 (z1h (z0d zqf (z00 (i:=6) rfl z5h z5s z5v) z1v (z0j _)) (z07 (z0b (z00 (i:=6) rfl z5h z5s z5v))) z0f))))
 (z07 (z0b z1v))),z0s fun N1 e1=>?_⟩
 walk_at "rd7"
 refine⟨⟨_,SqT.of hab⟩,?_⟩
 refine zks (xs:=xs) (BkI H ab pv d fs lo g' b p out) ?start ?lst ?step ?done
 case start=>exact⟨c,g,[],_,_,_,rfl,(Gr.same (Same.refl H) hL).gd,hd,hky,hh,by rw [List.drop_zero]; exact hkb,hout⟩
 case lst=>
  rintro i σ Hc _ ⟨ci,gi,rs,_,_,_,rfl,gd,_⟩
  exact SqT.of (gd.keep hd hab (by intro xs z; cases z) (by intro xs z; cases z))
 case done=>
  rintro σ Hc ⟨ci,gi,rs,_,_,_,rfl,gd,hdc,hkc,hhc,hkb2,ho⟩
  show N1 _ _
  rw [e1]
  walk_at "rd7"
  rw [hxl,List.drop_length,evB] at ho
  subst ho
  refine q _ _ ?_ hdc rfl
  show Gd d lo H Hc (rs++[])
  rw [List.append_nil]
  exact gd
 case step=>
  rintro i x σ Hc Tu hx ⟨ci,gi,rs,_,_,_,rfl,gd,hdc,hkc,hhc,hkb2,ho⟩ hT
  obtain⟨e,hbi,dx⟩:=zzu hda hx
  have hdo:=hok.2 e (List.mem_of_getElem? hbi)
  rw [ztd hbi] at ho hkb2
  obtain⟨q1,hq1,hkr⟩:=zvx hkb2
  have s2:=z05 hT (HO.tup [V.int i,x])
  walk_at "rd7"
  refine⟨_,SqT.of z01,rfl,_,_,rfl,_,_,rfl,rfl,by decide,fun p1 h1=>?_⟩
  have s3:=z05 h1 (HO.tup [V.int i])
  have s23:=s2.trans s3
  have kpc:=gd.kp hd
  refine zhq ((hp.kp kpc).kp s23.kp) zhc (by simp; omega) fun z H1 s4 dz=>?_
  have s24:=s23.trans s4
  have l1:=zzr p i e (b.drop (i+1)) ci
  have lo1:out.2.2.length=rs.length+(evB p i (e::b.drop (i+1)) ci).2.2.length:=by rw [ho,zp8,List.length_append]
  have hLc:HasL lo Hc ((evB p i (e::b.drop (i+1)) ci).2.2.length+1):=hL.onD gd (by omega)
  refine⟨x,e,z,_,d,fs,ci,gi,q1,lo,rfl,by cases e<;>simp[D.kind],(dx.kp kpc).kp s24.kp,dz,hdo,by omega,by simp; omega,hq1,s24 _ _ hdc,hkc,hhc,(hS.kp (gd.kpE hd)).kp (Same.kpE s24),(hLc.same s24).mono (by omega),fun r2 H4 g2 hd4 ho4=>?_⟩
  have GB:=gd.trans (((Gr.same s24 hLc).gd).trans g2 (s24 _ _ hdc)) hdc
  have hk4:=zt8 e n (p++[(i:Int)]) ci hdo hkc
  have hh4:=zt9 e (p++[(i:Int)]) ci gi q1 hq1 hhc
  rcases hb:evD (p++[(i:Int)]) e ci with⟨ee,c4,w4⟩
  rw [hb] at hd4 ho4 GB hk4 hh4
  cases ee with
  | some er=>
   rw [zja hb] at ho
   subst ho
   have hne:r2≠.non:=by
    obtain⟨a4,rfl,_⟩:=ze0 (r:=Rs.ref er.1 er.2) ho4
    intro z
    cases z
   show if decide (r2=V.non)=false then Q r2 H4 else _
   rw [if_pos (decide_eq_false hne)]
   exact q _ _ GB hd4 ho4
  | none=>
   rw [zjb hb] at ho
   cases ho4
   show if decide (V.non=V.non)=false then Q V.non H4 else _
   rw [if_neg (by simp)]
   refine⟨c4,q1,rs++w4,_,_,_,rfl,GB,hd4,hk4,hh4 rfl,hkr,?_⟩
   rw [ho]
   simp only[zp8,List.append_assoc]
   rfl
theorem zz7{k:Nat}{n1 n2 n3 n4:Str}:FnOk P w K mg base CX0 k f fd [n1,n2,n3,n4] (zm1 0):=by
 have no:∀vs H Q E,¬ zm1 0 vs H Q E:=fun vs H Q E h=>by
  obtain⟨v,b,pv,p,d,f,c,g,g',lo,_,_,_,h,_⟩:=h
  exact h.elim
 exact⟨fun vs H Q E h=>absurd h (no vs H Q E),fun A outer s H args us vs Q E _ _ _ _ h=>absurd h (no vs H Q E)⟩
theorem zua{f2 f3 f4 f5:Addr}{fd2 fd3 fd4 fd5:FuncData} (d:Df K mg "do_block" z0x ["block","path","names","settle"] f fd) (d2:Df K mg "do_deed" z21 ["deed","path","names","settle"] f2 fd2) (d3:Df K mg "do_set" z2t ["deed","path","names","settle"] f3 fd3) (d4:Df K mg "do_if" z3k ["deed","path","names","settle"] f4 fd4) (d5:Df K mg "do_while" z0w ["deed","path","names","settle"] f5 fd5) (b_enumerate:mg "enumerate" = none) (c_reckon:Callee P w K mg base "reckon" ["term","path","names","settle"] 7 (z5k 5)):∀n:Nat,Callee P w K mg base "do_block" ["block","path","names","settle"] (3 * n+8) (zm1 n)
 | 0=>d.callee zz7
 | n+1=>d.callee (zmq d.F b_enumerate (d2.callee (zq2 d2.F (d3.callee (zs7 d3.F c_reckon)) (d4.callee (zvk d4.F c_reckon (zua d d2 d3 d4 d5 b_enumerate c_reckon n))) (d5.callee (zmp d5.F c_reckon (zua d d2 d3 d4 d5 b_enumerate c_reckon n))))))
end
section
variable{P:Program}{w:World}{K:PySem.W.Frag}{mg:Str->Option Value}{base:Heap}{f:Addr}{fd:FuncData}
def stB:Cnt->List Rw->List Int->Cnt
 | c,r::rs,w::ws=>stB (zft c r.1 w) rs ws
 | c,_,_=>c
def Fits:List Rw->List Int->Prop
 | [],[]=>True
 | r::rs,w::ws=>r.2.1<=w/\w<=r.2.2/\Fits rs ws
 | _,_=>False
theorem Fits.len:∀{rows:List Rw} {ws:List Int},Fits rows ws->rows.length=ws.length
 | [],[],_=>rfl
 | _::rs,_::ws,h=>by rw [List.length_cons,List.length_cons,Fits.len h.2.2]
 | [],_::_,h=>h.elim
 | _::_,[],h=>h.elim
theorem Fits.at:∀{rows:List Rw} {ws:List Int} {i:Nat} {r:Rw} {w:Int},Fits rows ws->rows[i]?=some r->ws[i]?=some w->r.2.1<=w/\w<=r.2.2
 | r::rs,w::ws,0,_,_,h,e1,e2=>by
  simp at e1 e2
  subst e1; subst e2
  exact⟨h.1,h.2.1⟩
 | r::rs,w::ws,i+1,_,_,h,e1,e2=>Fits.at h.2.2 (by simpa using e1) (by simpa using e2)
 | [],[],_,_,_,_,e1,_=>by simp at e1
 | [],_::_,_,_,_,h,_,_=>h.elim
 | _::_,[],_,_,_,h,_,_=>h.elim
theorem zo1:∀{rows:List Rw} {ws:List Int} {i:Nat} {r:Rw} {w:Int} (c:Cnt),rows[i]?=some r->ws[i]?=some w->stB c (rows.take (i+1)) (ws.take (i+1))=zft (stB c (rows.take i) (ws.take i)) r.1 w
 | r::rs,w::ws,0,_,_,c,e1,e2=>by
  simp at e1 e2
  subst e1; subst e2
  simp[stB]
 | r::rs,w::ws,i+1,_,_,c,e1,e2=>by
  have:=zo1 (i:=i) (zft c r.1 w) (show rs[i]?=some _ by simpa using e1) (show ws[i]?=some _ by simpa using e2)
  simpa [stB] using this
 | [],_,_,_,_,_,e1,_=>by simp at e1
 | _::_,[],_,_,_,_,_,e2=>by simp at e2
theorem zlz:∀(rows:List Rw) (ws:List Int) (c:Cnt),(∀r∈rows,r.1∈pool)->KeyOk c->KeyOk (stB c rows ws)
 | [],_,c,_,h=>by simpa [stB] using h
 | _::_,[],c,_,h=>by simpa [stB] using h
 | r::rs,w::ws,c,hr,h=>by
  rw [stB]
  exact zlz rs ws _ (fun x hx=>hr x (.tail _ hx)) (h.put (hr r (.head _)) w)
theorem zr2:∀(rows:List Rw) (ws:List Int) (c:Cnt) (g:List Str),Fits rows ws->(∀r∈rows,-6<=r.2.1/\r.2.2<=8)->Has c g->Has (stB c rows ws) (g++rows.map (·.1))
 | [],[],c,g,_,_,h=>by simpa [stB] using h
 | r::rs,w::ws,c,g,hf,hr,h=>by
  rw [stB,List.map_cons,show g++r.1::rs.map (·.1)=(g++[r.1])++rs.map (·.1) by simp]
  have h1:=hr r (.head _)
  exact zr2 rs ws _ _ hf.2.2 (fun x hx=>hr x (.tail _ hx)) (h.put (by have:=hf.1; omega) (by have:=hf.2.1; omega))
 | [],_::_,_,_,h,_,_=>h.elim
 | _::_,[],_,_,h,_,_=>h.elim
theorem zk1{rows:List Rw}(h:okRows rows):∀r∈rows,r.1∈pool:=fun r hr=>by
 have h1:r.1∈rows.map (·.1):=List.mem_map.mpr ⟨r,hr,rfl⟩
 rw [h.nm] at h1
 have h2:=List.mem_of_mem_take h1
 simp only[pair,List.mem_cons,List.not_mem_nil,or_false] at h2
 rcases h2 with h2 | h2 | h2 | h2<;>rw [h2]<;>decide+kernel
theorem KeyOk.nil:KeyOk []:=⟨.nil,fun p h=>by simp at h⟩
def zra:Sp:=fun vs H Q _=>∃(iv wv:V) (rows:List Rw) (ws:List Int),vs=[iv,wv]/\Dt H iv (.tup (rows.map ze1))/\Dt H wv (z4c ws)/\okRows rows/\Fits rows ws/\∀(d:Addr) (H':Hp),Same H H'->H d=none->H' d=some (.dK (kvC (stB [] rows ws)))->Q (.ref d) H'
def FsI(H:Hp)(ia wa d:Addr)(rows:List Rw)(ws:List Int)(i:Nat)(σ : St)(Hc:Hp):Prop:=∃(x3 x4:Option V),σ = [some (.ref ia),some (.ref wa),some (.ref d),x3,x4]/\Same H Hc/\Hc d=some (.dK (kvC (stB [] (rows.take i) (ws.take i))))
end
section
variable{P:Program}{w:World}{K:PySem.W.Frag}{mg:Str->Option Value}{base:Heap}{f:Addr}{fd:FuncData}
theorem zw1{H:Hp}{v:V}{d:Dm}(h:Dt H v d):∃t,TyOf K H v t/\PySem.W.kitOne K t (.type "int")=some (isI d):=⟨_,q31 h,by cases d<;>rfl⟩
theorem zko{H:Hp}{v:V}{d:Dm}(h:Dt H v d):∃t,TyOf K H v t/\PySem.W.kitOne K t (.type "bool")=some (isB d):=⟨_,q31 h,by cases d<;>rfl⟩
def zmz:Dm->Bool
 | .int _=>true
 | _=>false
def zxb(d:Dm)(lo hi:Int):Bool:=match d with
 | .int i=>decide (lo<=i) && decide (i<=hi)
 | _=>false
def q1t(d:Dm)(n:Int):Bool:=match d with
 | .tup ds=>decide ((ds.length:Int)=n)
 | _=>false
def q3v(g:Dm->Bool):Sp:=fun vs H Q _=>∃v d,vs=[v]/\Dt H v d/\∀H',Same H H'->Q (.bl (g d)) H'
theorem zmm(F:Fun K "is_whole" "is_whole" z2o f fd) (b_isinstance:mg "isinstance" = none) (b_int:mg "int" = none) (b_bool:mg "bool" = none):FnOk P w K mg base CX0 1 f fd ["thing"] (q3v zmz):=by
 refine F.ok zm8 (fun vs H Q E h=>?_) (fun cdv A outer s H vs Q E hr h=>?_)
 ·obtain⟨v,d,rfl,_⟩:=h
  rfl
 obtain⟨v,d,rfl,hd,q⟩:=h
 refine⟨_,(z07 (z0b (zk4 (z4q zw4 z4i b_isinstance z5q (z09 (z00 (i:=0) rfl z6d z3f z3g) (z09 (ziq (v:=V.ty "int") zgp b_int q2g rfl q1j q2a) z03)) z5l z5n) (zo9 (q16 (z4q zw4 z4i b_isinstance z5q (z09 (z00 (i:=0) rfl z6d z3f z3g) (z09 (ziq (v:=V.ty "bool") zen b_bool q06 rfl zz9 zzy) z03)) z5l z5n)))))),?_⟩
 walk_at "rd"
 refine⟨_,_,⟨rfl,rfl⟩,_,zw1 hd,?_⟩
 have q':=q H (Same.refl _)
 cases d with
 | int i=>exact⟨_,_,⟨rfl,rfl⟩,_,zko hd,q'⟩
 | bl b=>exact⟨_,_,⟨rfl,rfl⟩,_,zko hd,q'⟩
 | non=>exact q'
 | str x=>exact q'
 | tup ds=>exact q'
 | lst=>exact q'
def zwv:Sp:=fun vs H Q _=>∃v d lo hi,vs=[v,.int lo,.int hi]/\Dt H v d/\∀H',Same H H'->Q (.bl (zxb d lo hi)) H'
theorem zee(F:Fun K "is_whole_from" "is_whole_from" z0z f fd) (c_is_whole:Callee P w K mg base "is_whole" ["thing"] 1 (q3v zmz)):FnOk P w K mg base CX0 2 f fd ["thing","low","high"] zwv:=by
 refine F.ok zec (fun vs H Q E h=>?_) (fun cdv A outer s H vs Q E hr h=>?_)
 ·obtain⟨v,d,lo,hi,rfl,_⟩:=h
  rfl
 obtain⟨v,d,lo,hi,rfl,hd,q⟩:=h
 refine⟨_,(z07 (z0b (zk4 (z15 c_is_whole hr (by omega) (z09 (z00 (i:=0) rfl z2s z3f z3g) z03) z70 znd) (zk4 (z97 q1c (z00 (i:=1) rfl z8y zot zp3) (z00 (i:=0) rfl z2s z3f z3g) (z0j _)) (zo9 (z97 q1c (z00 (i:=0) rfl z2s z3f z3g) (z00 (i:=2) rfl z8m zjh zjm) (z0j _))))))),?_⟩
 walk_at "rd"
 refine⟨v,d,rfl,hd,fun H1 s1=>?_⟩
 have q':=q H1 s1
 cases hd with
 | int i=>
  walk_at "rd"
  simp only[zmz,if_true]
  replace q':Q (.bl (decide (lo<=i) && decide (i<=hi))) H1:=q'
  split
  ·rename_i hlo
   rw [decide_eq_true hlo,Bool.true_and] at q'
   exact q'
  ·rename_i hlo
   rw [decide_eq_false hlo,Bool.false_and] at q'
   exact q'
 | _=>exact⟨_,rfl,q'⟩
def zr4:Sp:=fun vs H Q _=>∃v d n,vs=[v,.int n]/\Dt H v d/\∀H',Same H H'->Q (.bl (q1t d n)) H'
theorem zhd(F:Fun K "is_tuple_of" "is_tuple_of" z17 f fd) (b_isinstance:mg "isinstance" = none) (b_len:mg "len" = none) (b_tuple:mg "tuple" = none):FnOk P w K mg base CX0 1 f fd ["thing","many"] zr4:=by
 refine F.ok zhb (fun vs H Q E h=>?_) (fun cdv A outer s H vs Q E hr h=>?_)
 ·obtain⟨v,d,n,rfl,_⟩:=h
  rfl
 obtain⟨v,d,n,rfl,hd,q⟩:=h
 refine⟨_,(z07 (z0b (zk4 (z4q zw4 z71 b_isinstance z5q (z09 (z00 (i:=0) rfl z4x z3f z3g) (z09 (ziq (v:=V.ty "tuple") za8 b_tuple zf4 rfl zf1 zf2) z03)) z5l z5n) (zo9 (z97 zfy (z4q q2u zc0 b_len zp5 (z09 (z00 (i:=0) rfl z4x z3f z3g) z03) zoe zou) (z00 (i:=1) rfl z9z zzw q03) (z0j _)))))),?_⟩
 walk_at "rd"
 refine⟨_,_,⟨rfl,rfl⟩,_,zqb hd,?_⟩
 have q':=q H (Same.refl _)
 cases hd with
 | tup e r=>
  refine⟨_,q4j (SqT.of e),?_⟩
  rw [r.length]
  exact q'
 | _=>exact q'
theorem zda(F:Fun K "names_at_first" "names_at_first" z0c f fd) (b_len:mg "len" = none) (b_zip:mg "zip" = none) (c_is_tuple_of:Callee P w K mg base "is_tuple_of" ["thing","many"] 1 zr4) (c_is_whole_from:Callee P w K mg base "is_whole_from" ["thing","low","high"] 2 zwv):FnOk P w K mg base CX0 3 f fd ["ins","worths"] zra:=by
 refine F.ok sc_names_at_first (fun vs H Q E h=>?_) (fun cdv A outer s H vs Q E hr h=>?_)
 ·obtain⟨iv,wv,rows,ws,rfl,_⟩:=h
  rfl
 obtain⟨iv,wv,rows,ws,rfl,hi,hw,hrow,hfit,q⟩:=h
 obtain⟨ia,is,rfl,hia,dia⟩:=hi.tupI
 obtain⟨wa,us,rfl,hwa,dwa⟩:=hw.tupI
 have lis:is.length=rows.length:=by rw [dia.length,List.length_map]
 have lus:us.length=ws.length:=by rw [dwa.length,List.length_map]
 have hlen:=hfit.len
 refine⟨_,(z02 (z1h (zfu (zad (z15 c_is_tuple_of hr (by omega) (z09 (z00 (i:=1) rfl z3n zc4 zcf) (z09 (z4q q2u z9c b_len zp5 (z09 (z00 (i:=0) rfl z4f zxj zxm) z03) zoe zou) z03)) z5d zhp))) (z07 zim) z0f)
 (z02 (z19 (i:=2) sc_names_at_first.nd rfl z7j zoa (z04 rfl))
 (z02 (ze2 PassesOwn.never rfl (zro z9b b_zip (z09 (z00 (i:=0) rfl z4f zxj zxm) (z09 (z00 (i:=1) rfl z3n zc4 zcf) z03))) (zfx (n:=2) rfl (z2u (z1k (i:=3) sc_names_at_first.nd rfl z8o) (z2u (z1k (i:=4) sc_names_at_first.nd rfl z7i) zas)))
 (z02 (z1h (zfu (zad (z15 c_is_whole_from hr (by omega) (z09 (z00 (i:=4) rfl z3t z6g z6j) (z09 (z0r z0g (z00 (i:=3) rfl z32 zor zp1) z06 (fun _ _=>rfl)) (z09 (z0r z0g (z00 (i:=3) rfl z32 zor zp1) z06 (fun _ _=>rfl)) z03))) z4s zes))) (z07 zim) z0f)
 (z07 (zd7 hr.units1 (z00 (i:=2) rfl z3u z25 z26) (z0r z0g (z00 (i:=3) rfl z32 zor zp1) z06 (fun _ _=>rfl)) (z00 (i:=4) rfl z3t z6g z6j) (z04 rfl)))))
 (z07 (z0b (z00 (i:=2) rfl z3u z25 z26)))))),z0s fun N1 e1=>?_⟩
 walk_at "rd7"
 refine⟨_,.inl ⟨ia,is,rfl,.inr (SqT.of hia),rfl⟩,?_⟩
 refine⟨_,_,_,rfl,hw,fun H1 s1=>⟨_,rfl,?_⟩⟩
 have hy:q1t (z4c ws) (is.length:Int)=true:=by
  show decide _=true
  rw [decide_eq_true_eq,List.length_map,lis,hlen]
 rw [if_neg (by rw [hy]; decide)]
 rw [e1]
 refine z0s fun N2 e2=>?_
 walk_at "rd7"
 intro d hdn
 have s2:=z05 hdn (HO.dK [])
 have s12:=s1.trans s2
 have hdf:H d=none:=s1.free hdn
 rw [e2]
 refine z0s fun N3 e3=>?_
 walk_at "rd7"
 refine⟨_,_,⟨rfl,rfl⟩,⟨_,SqT.of (s12 _ _ hia)⟩,⟨_,SqT.of (s12 _ _ hwa)⟩,?_⟩
 refine zw5 (xs:=is) (ys:=us) (by omega) (FsI H ia wa d rows ws) ?start ?lst ?step ?done
 case start=>exact⟨_,_,rfl,s12,z01⟩
 case lst=>
  rintro i σ Hc _ ⟨_,_,rfl,sc,_⟩
  exact⟨SqT.of (sc _ _ hia),SqT.of (sc _ _ hwa)⟩
 case done=>
  rintro σ Hc ⟨_,_,rfl,sc,hc⟩
  show N3 _ _
  rw [e3]
  walk_at "rd7"
  rw [lis,List.take_length,hlen,List.take_length] at hc
  exact q d Hc sc hdf hc
 case step=>
  rintro i x y σ Hc T hx hy ⟨_,_,rfl,sc,hc⟩ hT
  obtain⟨r,hri,dr⟩:=ze3 dia hx
  obtain⟨wd,hwi,dw⟩:=ze3 dwa hy
  cases dw
  obtain⟨ra,r0,r1,r2,rfl,hra,t0,t1,t2⟩:=zwp dr
  cases t0; cases t1; cases t2
  have s3:=z05 hT (HO.tup [V.ref ra,V.int wd])
  have hra3:=s3 _ _ (sc _ _ hra)
  have hf:=hfit.at hri hwi
  have hk:=zlz (rows.take i) (ws.take i) [] (fun r hr=>zk1 hrow r (List.mem_of_mem_take hr)) KeyOk.nil
  walk_at "rd7"
  refine⟨_,SqT.of z01,rfl,_,_,rfl,_,_,rfl,rfl,_,rfl,_,SqT.of hra3,_,z1c (j:=1) rfl,_,rfl,_,SqT.of hra3,_,z1c (j:=2) rfl,?_⟩
  refine⟨_,_,_,_,rfl,.int wd,fun H2 s4=>⟨_,rfl,?_⟩⟩
  have hy:zxb (.int wd) r.2.1 r.2.2=true:=by
   show(decide (r.2.1<=wd) && decide (wd<=r.2.2))=true
   simp[hf.1,hf.2]
  rw [if_neg (by rw [hy]; decide)]
  have hc4:=s4 _ _ (s3 _ _ hc)
  refine⟨_,rfl,_,SqT.of (s4 _ _ hra3),_,z1t,_,DPut.k (k:=Sum.inr r.1) hc4 ?_,?_⟩
  ·unfold kvC
   rw [List.length_map]
   exact Nat.lt_of_le_of_lt hk.len (by decide)
  ·refine⟨_,_,rfl,z9q (sc.trans (s3.trans s4)) hdf,?_⟩
   rw [z01,zx2,zo1 [] hri hwi]
end
section
variable{P:Program}{w:World}{K:PySem.W.Frag}{mg:Str->Option Value}{base:Heap}{f:Addr}{fd:FuncData}
def zfq(x:Str):Nat:=if x = "a" then 0 else if x = "b" then 1 else if x = "c" then 2 else if x = "d" then 3 else 4
theorem zrh:(pool.all fun x=>pool.all fun y=>(decide (x.cps.toList < y.cps.toList) == decide (zfq x < zfq y)) && (!(decide (zfq x=zfq y)) || decide (x=y)))=true:=by decide+kernel
theorem zuy{x y:Str}(hx:x∈pool)(hy:y∈pool):decide (x.cps.toList < y.cps.toList)=decide (zfq x < zfq y)/\(zfq x=zfq y->x=y):=by
 have h:=zrh
 rw [List.all_eq_true] at h
 have h1:=h x hx
 rw [List.all_eq_true] at h1
 have h2:=h1 y hy
 rw [Bool.and_eq_true,Bool.or_eq_true] at h2
 refine⟨beq_iff_eq.mp h2.1,fun e=>?_⟩
 rcases h2.2 with z | z
 ·rw [decide_eq_true e] at z; cases z
 ·exact of_decide_eq_true z
def q4g(o:Out)(H':Hp)(r:V):Prop:=match o.1 with
 | some e=>Dt H' r (Rs.ref e.1 e.2).enc
 | none=>∃ms:Cnt,ms.Perm o.2.1/\ms.Pairwise (fun p q=>zfq p.1 < zfq q.1)/\Dt H' r (.tup [.str "told",.tup (ms.map q18)])
abbrev evP(rows:List Rw)(b:List D)(ws:List Int):Out:=evB [] 0 b (stB [] rows ws)
def zm0:Sp:=fun vs H Q _=>∃(gv wv:V) (rows:List Rw) (b:List D) (ws:List Int) (f:Addr) (g':List Str) (lo:Option Addr),vs=[gv,wv,.ref f]/\Dt H gv (.tup [.tup (rows.map ze1),.tup (zi7 b)])/\Dt H wv (z4c ws)/\okRows rows/\Fits rows ws/\okW 4 b/\kbB (rows.map (·.1)) b=some g'/\SetOk f lo H/\HasL lo H ((evP rows b ws).2.2.length+1)/\
 ∀(r:V) (H':Hp),Gr lo H H' (evP rows b ws).2.2->q4g (evP rows b ws) H' r->Q r H'
theorem Gd.gr{d:Addr}{lo:Option Addr}{H H1 H':Hp}{rs:List RI}(h:Gd d lo H1 H' rs)(s:Same H H1)(hd:H d=none)(hl:∀l,lo=some l->∃xs,H l=some (.lst xs)):Gr lo H H' rs:=by
 refine⟨fun a o n e=>h.1 a o (z0h e hd) n (s _ _ e),fun l e=>?_⟩
 obtain⟨xs,hx⟩:=hl l e
 obtain⟨xs',ys,e1,e2,d2⟩:=h.2 l e
 rw [s _ _ hx] at e1
 cases e1
 exact⟨xs,ys,hx,e2,d2⟩
theorem HasL.has{lo:Option Addr}{H:Hp}{n:Nat}(h:HasL lo H n):∀l,lo=some l->∃xs,H l=some (.lst xs):=fun l e=>by
 obtain⟨xs,hx,_⟩:=h l e
 exact⟨xs,hx⟩
end
section
variable{P:Program}{w:World}{K:PySem.W.Frag}{mg:Str->Option Value}{base:Heap}{f:Addr}{fd:FuncData}
theorem zs3(F:Fun K "run_by" "run_by" z23 f fd) (b_sorted:mg "sorted" = none) (b_tuple:mg "tuple" = none) (c_names_at_first:Callee P w K mg base "names_at_first" ["ins","worths"] 3 zra) (c_do_block:Callee P w K mg base "do_block" ["block","path","names","settle"] 20 (zm1 4)):FnOk P w K mg base CX0 21 f fd ["program","worths","settle"] zm0:=by
 refine F.ok sc_run_by (fun vs H Q E h=>?_) (fun cdv A outer s H vs Q E hr h=>?_)
 ·obtain⟨gv,wv,rows,b,ws,f,g',lo,rfl,_⟩:=h
  rfl
 obtain⟨gv,wv,rows,b,ws,fs,g',lo,rfl,hg,hw,hrow,hfit,hok,hkb,hS,hL,q⟩:=h
 obtain⟨ga,iv,bv,rfl,hga,di,db⟩:=zxt hg
 refine⟨_,(z02 (z19 (i:=3) sc_run_by.nd rfl zef (z15 c_names_at_first hr (by omega) (z09 (z0r z0g (z00 (i:=0) rfl z6c z3w z3z) z06 (fun _ _=>rfl)) (z09 (z00 (i:=1) rfl zcq zc4 zcf) z03)) z7o zdr) (z04 rfl))
 (z02 (z19 (i:=4) sc_run_by.nd rfl zbr (z15 c_do_block hr (by omega) (z09 (z0r z0g (z00 (i:=0) rfl z6c z3w z3z) z06 (fun _ _=>rfl)) (z09 (z1a z03) (z09 (z00 (i:=3) rfl z8e z25 z26) (z09 (z00 (i:=2) rfl zcr z1l z1m) z03)))) zbw z86) (z04 rfl))
 (z02 (z1h (z0d zqf (z00 (i:=4) rfl z6b z5s z5v) z1v (z0j _)) (z07 (z0b (z00 (i:=4) rfl z6b z5s z5v))) z0f)
 (z07 (z0b (z1a (z09 z0y (z09 (zys zcj zgo b_tuple zf4 (z09 (z4q (zeu rfl) zem b_sorted zcm (z09 (zv9 (z00 (i:=3) rfl z8e z25 z26)) z03) zbp zc6) z03) zf1 zf2) z03)))))))),z0s fun N1 e1=>?_⟩
 walk_at "rd7"
 refine⟨_,SqT.of hga,_,z1t,iv,wv,rows,ws,rfl,di,hw,hrow,hfit,fun d H1 s1 hdn hd=>?_⟩
 rw [e1]
 refine z0s fun N2 e2=>?_
 walk_at "rd7"
 refine⟨_,SqT.of (s1 _ _ hga),_,z1c (j:=1) rfl,Nat.zero_le _,fun p0 hp0=>?_⟩
 have s2:=z05 hp0 (HO.tup [])
 have s12:=s1.trans s2
 have hky:=zlz rows ws [] (zk1 hrow) KeyOk.nil
 have hh:=zr2 rows ws [] [] hfit (fun r hr=>⟨(hrow.lo r hr).1,(hrow.lo r hr).2.2⟩) (fun x hx=>by simp at hx)
 rw [List.nil_append] at hh
 refine⟨bv,b,.ref p0,[],d,fs,stB [] rows ws,_,g',lo,rfl,db.kp s12.kp,.tup z01 .nil,hok,by decide,by decide,hkb,s2 _ _ hd,hky,hh,hS.kp (Same.kpE s12),hL.same s12,fun r H3 gd hd3 ho=>?_⟩
 have G:Gr lo H H3 (evP rows b ws).2.2:=gd.gr s12 hdn hL.has
 have hk3:=zdp b 4 [] 0 _ hok hky
 rw [e2]
 refine z0s fun N3 e3=>?_
 walk_at "rd7"
 change q3d (evP rows b ws).1 H3 r at ho
 change H3 d=some (.dK (kvC (evP rows b ws).2.1)) at hd3
 change KeyOk (evP rows b ws).2.1 at hk3
 rcases hout:evP rows b ws with⟨oo,cc,rr⟩
 rw [hout] at ho hd3 hk3 G q
 cases oo with
 | some er=>
  have hne:r≠.non:=by
   obtain⟨a4,rfl,_⟩:=ze0 (r:=Rs.ref er.1 er.2) ho
   intro z
   cases z
  rw [if_pos (decide_eq_false hne)]
  exact q _ _ G ho
 | none=>
  cases ho
  rw [if_neg (by simp),e3]
  walk_at "rd7"
  refine⟨_,hd3,fun p hp=>?_⟩
  have s6:=z05 hp (zkn p d)
  refine⟨p,d,cc,zfq,rfl,z01,s6 _ _ hd3,Nat.lt_of_le_of_lt hk3.len (by decide),fun x hx y hy=>zuy (hk3.2 x hx) (hk3.2 y hy),fun l7 H7 wt mt s7 f7 h7 d7 pm7 pw7=>?_⟩
  refine⟨_,rfl,_,.inl ⟨SqL.of h7,fun l8 h8=>⟨by decide,fun p9 h9=>?_⟩⟩⟩
  have s8:=z05 h8 (HO.tup wt)
  have s9:=z05 h9 (HO.tup [V.str "told",V.ref l8])
  have s69:=s6.trans (s7.trans (s8.trans s9))
  have hL3:HasL lo H3 0:=by
   have:=hL.on G (m:=0) (by rw [hout]; show rr.length+0<=rr.length+1; omega)
   exact this
  have GG:=G.trans (Gr.same s69 hL3)
  rw [List.append_nil] at GG
  exact q _ _ GG ⟨mt,pm7,pw7,.tup z01 (.cons (.str _) (.cons (.tup (s9 _ _ z01) (d7.kp (s8.trans s9).kp)) .nil))⟩
end
section
variable{P:Program}{w:World}{K:PySem.W.Frag}{mg:Str->Option Value}{base:Heap}{f:Addr}{fd:FuncData}
structure FunC(K:PySem.W.Frag)(x qual:Str)(st:Stmt)(f:Addr)(fd:FuncData)(c:Addr):Prop where
 ex:∃(oc:Value) (od:Option Addr) (kV doc pm:Value) (an:Option Addr) (ct:Value) (osl:Array (Option Value)),
  fd=PySem.W.fnOf x qual (defArgs st) (defBody st) (defScope st) .none kV doc pm an (.ref c) ct/\K.lookup f=some ⟨oc,od,.func fd,osl⟩/\PySem.W.codeIn K (.ref c) qual=true
 kp:PySem.W.keepIn K (.ref f)=true
theorem FunC.ok{P:Program}{w:World}{K:PySem.W.Frag}{mg:Str->Option Value}{base:Heap}{x qual:Str}{st:Stmt}{f c:Addr}{fd:FuncData}{N ps:List Str}{k:Nat}{sp:Sp}(F:FunC K x qual st f fd c)(S:FnScope N ps (defScope st))(len:∀vs H Q E,sp vs H Q E->vs.length=ps.length)
  (hbody:∀(A:Around) (outer:List PySem.Env) (s:Shared) (H:Hp) (vs:List V) (Q:VK) (E:XK),Room k (A.deeper (PyProof.Rows.envOfC qual (defScope st) s.heap.objs.size f (.ref c)))->sp vs H Q E->
   ∃t,PSs (zjr CX0 P w K mg base N qual (defScope st) f (.ref c) A outer s H E).nox (defBody st) t/\t {nx:=fun _ H'=>Q .non H',rt:=Q} (L2.start N vs) H):FnOk P w K mg base CX0 (k+1) f fd ps sp:=by
 obtain⟨oc,od,kV,doc,pm,an,ct,osl,rfl,lk,hcd⟩:=F.ex
 refine q21 lk hcd S len fun A outer s H vs Q E hr hsp=>?_
 obtain⟨t,h,q⟩:=hbody A outer s H vs Q E hr hsp
 exact⟨t,h.nox,q⟩
def TabAt(pt:Addr)(pos:Pos)(q:Str)(H:Hp):Prop:=H pt=some (.tbl #[])\/∃c',H pt=some (.tbl (#[] ++ #[rawInt pos.line,rawInt pos.col,.ref c']))/\H c'=some (zgx c' q)
theorem SameB.kpT{pt:Addr}{ps:Array Value}{H H':Hp}(h:SameB pt H H')(hp:H pt=some (.tbl ps)):Kp H H':=
 ⟨fun b xs e=>h b _ (zg0 e hp (by intro z; cases z)) e,fun b xs e=>⟨xs,h b _ (zg0 e hp (by intro z; cases z)) e⟩⟩
abbrev zv3:Pos:=q1n (q46 z2c)
def zo3(pt:Addr):Sp:=fun vs H Q _=>∃(gv wv:V) (rows:List Rw) (b:List D) (ws:List Int) (g':List Str),vs=[gv,wv]/\Dt H gv (.tup [.tup (rows.map ze1),.tup (zi7 b)])/\Dt H wv (z4c ws)/\okRows rows/\Fits rows ws/\okW 4 b/\kbB (rows.map (·.1)) b=some g'/\(evP rows b ws).2.2.length+1 < sizeLine/\TabAt pt zv3 dT.qual H/\
 ∀(l:Addr) (ys:List V) (H':Hp),SameB pt H H'->H l=none->TabAt pt zv3 dT.qual H'->H' l=some (.lst ys)->DtA H' ys ((evP rows b ws).2.2.map q12)->Q (.ref l) H'
theorem zmj(pos:Pos)(c':Addr):TriplesOk (#[] ++ #[rawInt pos.line,rawInt pos.col,Value.ref c']).toList:=by simp[TriplesOk,rawInt]
theorem zrz(pos:Pos)(c':Addr):codeAmong pos (#[] ++ #[rawInt pos.line,rawInt pos.col,Value.ref c']).toList=some (.ref c'):=by simp[codeAmong,rawInt]
theorem zvw{pt:Addr}{pos:Pos}{D:LamD}{cl:List (Str×Addr)}{σ : St}{H:Hp}{Q:VK}(hT:TabAt pt pos D.qual H)(q:∀(fa c':Addr) (H2:Hp),SameB pt H H2->Kp H H2->H fa=none->H2 fa=some (zuh D cl fa c')->H2 c'=some (zgx c' D.qual)->TabAt pt pos D.qual H2->Q (.ref fa) H2):q34 pt pos D cl σ H Q:=by
 rcases hT with hT | ⟨c',hT,hc'⟩
 ·refine⟨#[],hT,trivial,.inl ⟨rfl,fun c' fa h1 h2 hne=>?_⟩⟩
  have n1:pt≠c':=z0h hT h1
  have n2:pt≠fa:=z0h hT h2
  have sB:SameB pt H (upd (upd (upd H pt (.tbl (#[] ++ #[rawInt pos.line,rawInt pos.col,.ref c']))) c' (zgx c' D.qual)) fa (zuh D cl fa c')):=fun a o n e=>by rw [z0a (z0h e h2),z0a (z0h e h1),z0a n]; exact e
  exact q fa c' _ sB (sB.kpT hT) h2 z01 (by rw [z0a hne,z01]) (.inr ⟨c',by rw [z0a n2,z0a n1,z01],by rw [z0a hne,z01]⟩)
 ·refine⟨_,hT,zmj pos c',.inr ⟨c',zrz pos c',hc',fun fa h1=>?_⟩⟩
  have s1:=z05 h1 (zuh D cl fa c')
  exact q fa c' _ (SameB.of s1) s1.kp h1 z01 (s1 _ _ hc') (.inr ⟨c',s1 _ _ hT,s1 _ _ hc'⟩)
theorem TabAt.kp{pt:Addr}{pos:Pos}{q:Str}{H H':Hp}(h:TabAt pt pos q H)(k:∀a o,(∀xs,o≠.lst xs)->H a=some o->H' a=some o):TabAt pt pos q H':=by
 rcases h with h | ⟨c',h1,h2⟩
 ·exact .inl (k _ _ (by intro xs z; cases z) h)
 ·exact .inr ⟨c',k _ _ (by intro xs z; cases z) h1,k _ _ (by intro xs z; cases z) h2⟩
end
section
variable{P:Program}{w:World}{K:PySem.W.Frag}{mg:Str->Option Value}{base:Heap}{f:Addr}{fd:FuncData}
theorem zs1{c pt:Addr} (F:FunC K "traced" "traced" z2c f fd c) (hC:PySem.W.CodeHd base c pt) (hB:base.BuiltinsAt mg pt) (hgP:mainGlobals≠pt) (c_run_by:Callee P w K mg base "run_by" ["program","worths","settle"] 21 zm0):FnOk P w K mg base CX0 22 f fd ["program","worths"] (zo3 pt):=by
 refine F.ok sc_traced (fun vs H Q E h=>?_) (fun A outer s H vs Q E hr h=>?_)
 ·obtain⟨gv,wv,rows,b,ws,g',rfl,_⟩:=h
  rfl
 obtain⟨gv,wv,rows,b,ws,g',rfl,hg,hw,hrow,hfit,hok,hkb,hz,hT,q⟩:=h
 have hcl_rows:(zjr CX0 P w K mg base ["program","worths","rows"] "traced" (defScope z2c) f (.ref c) A outer s H E).nox.env.cells.lookup ("rows" : Str)=some (s.heap.objs.size+1):=rfl
 refine⟨_,(z02 (z19 (i:=2) sc_traced.nd rfl zg9 (z95 z03) (z04 rfl))
 (z02 (zd6 (zrs (i:=2) c_run_by hr (by omega) (z09 (z00 (i:=0) rfl zb9 z3w z3z) (z09 (z00 (i:=1) rfl zco zc4 zcf) (z09 (q17 (c:=c) (P:=pt) rfl rfl rfl hC hB hgP) z03))) rfl hcl_rows zet rfl zel ztl) (z04 rfl))
 (z07 (z0b (z00 (i:=2) rfl zf7 znb zno))))),z0s fun N1 e1=>?_⟩
 walk_at "rd7"
 refine⟨Nat.zero_le _,fun l hl=>?_⟩
 have s1:=z05 hl (HO.lst [])
 have hll:(upd H l (HO.lst [])) l=some (.lst []):=z01
 generalize upd H l (HO.lst [])=H1 at s1 hll |-
 rw [e1]
 refine z0s fun N2 e2=>?_
 walk_at "rd7"
 show zfl zm0 (s.heap.objs.size+1) 2 (zbj (zpe 0) (zbj (zpe 1) (zbj (q34 pt zv3 dT [("rows",s.heap.objs.size+1)]) zuo))) [some gv,some wv,some (V.ref l)] H1 fun x H1=>N2 [some gv,some wv,some (V.ref l)] H1
 clear hcl_rows
 generalize s.heap.objs.size+1=cc
 simp only[zfl]
 walk_at "rd7"
 have hT1:TabAt pt zv3 dT.qual H1:=hT.kp fun a o _ e=>s1 _ _ e
 have nlp:l≠pt:=fun z=>by
  rcases hT with h | ⟨_,h,_⟩<;>(rw [<- z,hl] at h; cases h)
 refine zvw hT1 fun fa c' H2 sB kp hfa hf hc hT2=>?_
 refine fun o u hd ru hcn=>?_
 cases ru
 have s3:=z05 hcn (z5f cc o)
 have hcc:(upd H2 cc (z5f cc o)) cc=some (z5f cc o):=z01
 have hl2:=sB l _ nlp hll
 have nlc:l≠cc:=z0h hl2 hcn
 have kpA:=s1.kp.trans (kp.trans s3.kp)
 refine⟨gv,wv,rows,b,ws,fa,g',some l,rfl,hg.kp kpA,hw.kp kpA,hrow,hfit,hok,hkb,⟨c',cc,o,s3 _ _ hf,s3 _ _ hc,hcc,hd⟩,fun l' z=>?_,fun r H4 G ho=>?_⟩
 ·cases z
  exact⟨[],s3 _ _ hl2,by simpa using hz⟩
 have hcc4:=G.keep hcc (by intro xs z; unfold z5f at z; cases z)
 refine⟨hcc4,?_⟩
 obtain⟨xs,ys,e3,e4,d4⟩:=G.2 l rfl
 rw [s3 _ _ hl2] at e3
 cases e3
 have out:∀{a:Addr} {o':HO},H4 a=some o'->H2 a≠none->zjq [cc] H4 a=some o':=fun {a o'} e n=>by
  rw [z2i (fun z=>n (by rw [List.mem_singleton.mp z]; exact hcn))]
  exact e
 rw [e2]
 walk_at "rd7"
 refine q l ys _ (fun a o' n e=>?_) hl (hT2.kp fun a o' n e=>out (G.keep (s3 _ _ e) n) (by rw [e]; simp)) ?_ (d4.kp (zsm hcc4))
 ·have h2:=sB a o' n (s1 _ _ e)
  exact out (G.1 a o' (fun z=>by cases z; rw [hl] at e; cases e) (s3 _ _ h2)) (by rw [h2]; simp)
 ·exact out (by simpa using e4) (by rw [hl2]; simp)
end
section
variable{P:Program}{w:World}{K:PySem.W.Frag}{mg:Str->Option Value}{base:Heap}{f:Addr}{fd:FuncData}
def T.nms:T->List Str
 | .num _=>[]
 | .nm x=>[x]
 | .op _ a b=>a.nms++b.nms
def q22:List Wd:=[.add,.sub,.mul,.min,.max]
def T.oneA:T->Nat->Prop
 | .num i,_=>-4<=i/\i<=4
 | .nm _,_=>True
 | .op _ _ _,0=>False
 | .op w a b,n+1=>w∈q22/\a.oneA n/\b.oneA n
abbrev T.one(n:Nat)(t:T):Prop:=t.oneA n
def zhw(n:Nat):Sp:=fun vs H Q _=>∃(a l:Addr) (ns:List Int) (k:Int) (g:List Str) (d:Nat),vs=[.ref a,.int k,.int d,.ref l]/\H a=some (.lst (ns.map V.int))/\a≠l/\0<=k/\H l=some (.lst (g.map V.str))/\Sub g pool/\d < n/\
 ∀(r:V) (H':Hp) (t:T) (g':List Str),SameB l H H'->H' l=some (.lst (g'.map V.str))->Dt H' r t.enc->T.one d t->t.nms++g'=g->Q r H'
theorem zz0{n:Nat} (F:Fun K "_law_once" "_law_once" z13 f fd) (c_law_pick:Callee P w K mg base "_law_pick" ["_law_script","_law_k","_law_many"] 2 (zo4 K)) (c_law_once:Callee P w K mg base "_law_once" ["_law_script","_law_at","_law_deep","_law_left"] (n+2) (zhw n)):FnOk P w K mg base CX0 (n+3) f fd ["_law_script","_law_at","_law_deep","_law_left"] (zhw (n+1)):=by
 refine F.ok sc_law_once (fun vs H Q E h=>?_) (fun cdv A outer s H vs Q E hr h=>?_)
 ·obtain⟨a,l,ns,k,g,d,rfl,_⟩:=h
  rfl
 obtain⟨a,l,ns,k,g,d,rfl,hS,hal,h0,hl,hg,hd,q⟩:=h
 refine⟨_,(z02 (z1h (PW.pt (zmf (z0d zfy (z00 (i:=2) rfl z33 z9k z9m) z06 (z0j _)) (zfs (z0d zfy (z15 c_law_pick hr (by omega) (z09 (z00 (i:=0) rfl z0v z0k z0l) (z09 (z00 (i:=1) rfl z1d z5t z5w) (z09 z06 z03))) z2f z3x) z06 (z0j _))))) (z02 (z1h (PW.pt (zrj (z0d (gNe hr.units) (z00 (i:=3) rfl z22 z6i z6l) (z95 z03) (z0j _)) (zmg (z0d zvg (z15 c_law_pick hr (by omega) (z09 (z00 (i:=0) rfl z0v z0k z0l) (z09 (z1n z5i (z00 (i:=1) rfl z1d z5t z5w) z06) (z09 z06 z03))) z2f z3x) z06 (z0j _))))) (z07 (z0b (z1a (z09 z0y (z09 (zrv PySem.F.plainAttrs_list PySem.F.slot_list_pop PySem.F.type_list_pop zvp (z00 (i:=3) rfl z22 z6i z6l) (z09 z06 z03)) z03))))) z0f)
 (z07 (z0b (z1a (z09 z0y (z09 (z1n zk7 (z15 c_law_pick hr (by omega) (z09 (z00 (i:=0) rfl z0v z0k z0l) (z09 (z1n z5i (z00 (i:=1) rfl z1d z5t z5w) z06) (z09 z06 z03))) z2f z3x) z06) z03)))))) z0f)
 (z02 (z19 (i:=4) sc_law_once.nd rfl z8p (z0r zdh (z95 (z09 z0y (z09 z0y (z09 z0y (z09 z0y (z09 z0y z03)))))) (z15 c_law_pick hr (by omega) (z09 (z00 (i:=0) rfl z0v z0k z0l) (z09 (z1n z5i (z00 (i:=1) rfl z1d z5t z5w) z06) (z09 z06 z03))) z2f z3x) (fun _ _=>rfl)) (z04 rfl))
 (z02 (z19 (i:=5) sc_law_once.nd rfl z98 (z15 c_law_once hr (by omega) (z09 (z00 (i:=0) rfl z0v z0k z0l) (z09 (z1n z5i (z1n zae z06 (z00 (i:=1) rfl z1d z5t z5w)) z06) (z09 (z1n zk7 (z00 (i:=2) rfl z33 z9k z9m) z06) (z09 (z00 (i:=3) rfl z22 z6i z6l) z03)))) z4z z9j) (z04 rfl))
 (z07 (z0b (z1a (z09 (z00 (i:=4) rfl z8l zkz zl7) (z09 (z00 (i:=5) rfl z8x znj znq) (z09 (z15 c_law_once hr (by omega) (z09 (z00 (i:=0) rfl z0v z0k z0l) (z09 (z1n z5i (z1n zae z06 (z00 (i:=1) rfl z1d z5t z5w)) z06) (z09 (z1n zk7 (z00 (i:=2) rfl z33 z9k z9m) z06) (z09 (z00 (i:=3) rfl z22 z6i z6l) z03)))) z4z z9j) z03))))))))),z0s fun N1 e1=>zr0 fun Y Z eY eZ=>?_⟩
 walk_at "rd"
 have leaf:∀(H1:Hp),Same H H1->Y [some (.ref a),some (.int k),some (.int d),some (.ref l),none,none] H1:=by
  intro H1 s1
  rw [eY]
  refine z0s fun N2 e2=>zr0 fun Y2 Z2 eY2 eZ2=>?_
  walk_at "rd"
  have num:∀(H2:Hp),Same H H2->Z2 [some (.ref a),some (.int k),some (.int d),some (.ref l),none,none] H2:=by
   intro H2 s2
   rw [eZ2]
   show N2 _ _
   rw [e2]
   walk_at "rd"
   refine⟨a,ns,k+2,9,rfl,SqL.of (s2 _ _ hS),by omega,by decide,fun j H3 j0 j1 s3=>⟨_,rfl,zl 2 (by decide),fun r hr'=>?_⟩⟩
   have s4:=s2.trans (s3.trans (z05 hr' (HO.tup [V.str "num",V.int (j - 4)])))
   refine q _ _ (.num (j - 4)) g (.of s4) (s4 _ _ hl) (.tup z01 (.cons (.str _) (.cons (.int _) .nil))) ?_ rfl
   exact⟨by omega,by omega⟩
  refine⟨Nat.zero_le _,fun p hp=>?_⟩
  have s2:=z05 hp (HO.lst [])
  have hl2:(upd H1 p (HO.lst [])) l=some (.lst (g.map V.str)):=s2 _ _ (s1 _ _ hl)
  refine⟨_,.inr ⟨_,SqL.of hl2,_,SqL.of z01,q1i hg,rfl,(zta _).symm⟩,?_⟩
  split
  ·rename_i hne
   refine⟨a,ns,k+1,4,rfl,SqL.of (s2 _ _ (s1 _ _ hS)),by omega,by decide,fun j H3 j0 j1 s3=>⟨_,rfl,?_⟩⟩
   have s03:=(s1.trans s2).trans s3
   split
   ·rw [eY2]
    walk_at "rd"
    match g,hne with
    | x::g',_=>
    have hl3:=s03 _ _ hl
    refine⟨.inl ⟨rfl,_,SqL.of hl3⟩,?_⟩
    unfold zx1
    refine⟨l,_,0,0,V.str x,rfl,rfl,hl3,by decide,by decide,by simp[seqIndex?],rfl,zl 2 (by decide),fun r hr'=>?_⟩
    have nrl:l≠r:=fun z=>by rw [<- z,z01] at hr'; cases hr'
    have nr:∀b o,H b=some o->b≠r:=fun b o e z=>by
     subst z
     by_cases hb:b=l
     ·exact nrl hb.symm
     ·rw [z0a hb,s03 _ _ e] at hr'; cases hr'
    refine q _ _ (.nm x) g' (fun b o hb e=>?_) ?_ (.tup z01 (.cons (.str _) (.cons (.str _) .nil))) trivial rfl
    ·rw [z0a (nr b o e),z0a hb]
     exact s03 _ _ e
    ·rw [z0a nrl,z01]
     rfl
   ·exact num _ s03
  ·exact num _ (s1.trans s2)
 have inner:0 < d->∀(H1:Hp),Same H H1->Z [some (.ref a),some (.int k),some (.int d),some (.ref l),none,none] H1:=by
  intro hd0 H1 s1
  rw [eZ]
  show N1 _ _
  rw [e1]
  refine z0s fun N2 e2=>?_
  walk_at "rd"
  refine⟨zl 5 (by decide),fun p hp=>?_⟩
  have s2:=s1.trans (z05 hp (HO.lst [V.str "add",V.str "sub",V.str "mul",V.str "min",V.str "max"]))
  have ep:upd H1 p (HO.lst [V.str "add",V.str "sub",V.str "mul",V.str "min",V.str "max"]) p=_:=z01
  generalize upd H1 p (HO.lst [V.str "add",V.str "sub",V.str "mul",V.str "min",V.str "max"])=U at s2 ep |-
  refine⟨a,ns,k+3,5,rfl,SqL.of (s2 _ _ hS),by omega,by decide,fun j H3 j0 j1 s3=>?_⟩
  obtain⟨v,hv,e⟩:=znu (c:=fun w:Wd=>V.str w.str) (ns:=q22) (k:=j) j0 j1
  refine⟨_,_,rfl,SqL.of (s3 _ _ ep),_,e,?_⟩
  have s4:=s2.trans s3
  rw [e2]
  refine z0s fun N3 e3=>?_
  walk_at "rd"
  have ed:((d:Int) - 1)=((d - 1:Nat):Int):=by omega
  rw [ed]
  refine⟨.inl ⟨by decide,by decide⟩,a,l,ns,2 * k+5,g,d - 1,rfl,s4 _ _ hS,hal,by omega,s4 _ _ hl,hg,by omega,fun r1 H4 t1 g1 s5 l5 d5 o5 n5=>?_⟩
  rw [e3]
  walk_at "rd"
  rw [ed]
  have hg1:Sub g1 pool:=fun x hx=>hg x (by rw [<- n5]; exact List.mem_append_right _ hx)
  have s6:SameB l H H4:=(SameB.of s4).trans s5
  refine⟨.inl ⟨by decide,by decide⟩,a,l,ns,2 * k+6,g1,d - 1,rfl,s6 _ _ hal hS,hal,by omega,l5,hg1,by omega,fun r2 H5 t2 g2 s7 l7 d7 o7 n7=>?_⟩
  refine⟨zl 3 (by decide),fun p3 hp3=>?_⟩
  have s8:=z05 hp3 (HO.tup [V.str v.str,r1,r2])
  refine q _ _ (.op v t1 t2) g2 (s6.trans (s7.trans (.of s8))) (s8 _ _ l7) (.tup z01 (.cons (.str _) (.cons ((d5.kp (s7.kp l5 l7)).kp s8.kp) (.cons (d7.kp s8.kp) .nil)))) ?_ ?_
  ·obtain⟨d',rfl⟩:∃d',d=d'+1:=⟨d - 1,by omega⟩
   exact⟨hv,o5,o7⟩
  ·rw [T.nms,List.append_assoc,n7,n5]
 split
 ·exact leaf H (Same.refl _)
 ·refine⟨a,ns,k,5,rfl,SqL.of hS,h0,by decide,fun i H1 i0 i1 s1=>⟨_,rfl,?_⟩⟩
  split
  ·exact leaf _ s1
  ·exact inner (by omega) _ s1
theorem zsc{k:Nat}{n1 n2 n3 n4:Str}:FnOk P w K mg base CX0 k f fd [n1,n2,n3,n4] (zhw 0):=by
 have no:∀vs H Q E,¬ zhw 0 vs H Q E:=fun vs H Q E h=>by
  obtain⟨a,l,ns,k,g,d,_,_,_,_,_,_,h,_⟩:=h
  omega
 exact⟨fun vs H Q E h=>absurd h (no vs H Q E),fun A outer s H args us vs Q E _ _ _ _ h=>absurd h (no vs H Q E)⟩
theorem zp7(d:Df K mg "_law_once" z13 ["_law_script","_law_at","_law_deep","_law_left"] f fd) (c_law_pick:Callee P w K mg base "_law_pick" ["_law_script","_law_k","_law_many"] 2 (zo4 K)) :
  ∀n:Nat,Callee P w K mg base "_law_once" ["_law_script","_law_at","_law_deep","_law_left"] (n+2) (zhw n)
 | 0=>d.callee zsc
 | n+1=>d.callee (zz0 d.F c_law_pick (zp7 d c_law_pick n))
end
theorem zkg(x y:Pth)(s:Int×Int):∀ns:Nts,lookN (ns.map fun q=>if q.1=x then(q.1,s) else q) y=if y=x then(lookN ns y).map (fun _=>s) else lookN ns y
 | []=>by simp[lookN]
 | q::r=>by
  rw [List.map_cons,lookN,lookN,zkg x y s r]
  by_cases h1:q.1=x
  ·rw [if_pos h1]
   by_cases h2:q.1=y
   ·rw [if_pos h2,if_pos h2,if_pos (by rw [<- h2,h1])]; rfl
   ·rw [if_neg h2,if_neg h2]
  ·rw [if_neg h1]
   by_cases h2:q.1=y
   ·rw [if_pos h2,if_pos h2,if_neg (by rw [<- h2]; exact h1)]
   ·rw [if_neg h2,if_neg h2]
theorem zkh(x:Pth):∀ns:Nts,(ns.any fun q=>decide (q.1=x))=(lookN ns x).isSome
 | []=>rfl
 | q::r=>by
  rw [List.any_cons,lookN,zkh x r]
  by_cases h:q.1=x
  ·rw [if_pos h]; simp[h]
  ·rw [if_neg h]; simp[h]
theorem zi5(x y:Pth)(s:Int×Int):∀ns:Nts,lookN ns x=none->lookN (ns++[(x,s)]) y=if y=x then some s else lookN ns y
 | [],_=>by
  rw [List.nil_append,lookN,lookN]
  by_cases h:x=y
  ·rw [if_pos h,if_pos h.symm]
  ·rw [if_neg h,if_neg (fun z=>h z.symm)]; rfl
 | q::r,hn=>by
  rw [lookN] at hn
  by_cases h:q.1=x
  ·rw [if_pos h] at hn; cases hn
  ·rw [if_neg h] at hn
   rw [List.cons_append,lookN,lookN,zi5 x y s r hn]
   by_cases h2:q.1=y
   ·rw [if_pos h2,if_pos h2,if_neg (by rw [<- h2]; exact h)]
   ·rw [if_neg h2,if_neg h2]
theorem zqa(ns:Nts)(x y:Pth)(s:Int×Int):lookN (zsa ns x s) y=if y=x then some s else lookN ns y:=by
 unfold zsa
 rw [zkh]
 by_cases h:(lookN ns x).isSome=true
 ·rw [if_pos h,zkg]
  by_cases e:y=x
  ·rw [if_pos e,if_pos e,e]
   obtain⟨z,hz⟩:=Option.isSome_iff_exists.mp h
   rw [hz]; rfl
  ·rw [if_neg e,if_neg e]
 ·rw [if_neg h]
  exact zi5 x y s ns (by simpa using h)
theorem z7g(s:S)(ns:Nts)(x y:Pth):lookN (zse s x ns) y=if y=x/\s≠none then s else lookN ns y:=by
 cases s with
 | none=>simp[zse]
 | some r=>
  show lookN (zsa ns x r) y=_
  rw [zqa]
  by_cases e:y=x
  ·rw [if_pos e,if_pos ⟨e,by simp⟩]
  ·rw [if_neg e,if_neg (fun z=>e z.1)]
theorem zm3(bk:Bk):∀(t:T) (p:Pth) (ns:Nts) (q:Pth),¬ p <+: q->lookN (shS bk t p ns).2 q=lookN ns q
 | .num i,p,ns,q,h=>by
  rw [shS]
  show lookN (zse (some (i,i)) p ns) q=_
  rw [z7g,if_neg (fun z=>h (by rw [z.1]; exact List.prefix_refl _))]
 | .nm x,p,ns,q,h=>by
  rw [shS]
  show lookN (zse (look bk x) p ns) q=_
  rw [z7g,if_neg (fun z=>h (by rw [z.1]; exact List.prefix_refl _))]
 | .op w a b,p,ns,q,h=>by
  have ha:=zm3 bk a (p++[0]) ns q (fun z=>h (List.IsPrefix.trans (List.prefix_append _ _) z))
  have hb:=zm3 bk b (p++[1]) (shS bk a (p++[0]) ns).2 q (fun z=>h (List.IsPrefix.trans (List.prefix_append _ _) z))
  rw [shS]
  split
  ·exact ha
  ·show lookN (zse _ _ _) q=_
   rw [z7g,if_neg (fun z=>h (by rw [z.1]; exact List.prefix_refl _)),hb,ha]
theorem zf5(bk:Bk)(x:Str)(s:Int×Int)(h:(bk.any fun q=>decide (q.1=x))=false):zie bk x s=bk++[(x,s)]:=by
 unfold zie
 rw [if_neg (by rw [h]; simp)]
def T.val(e:Str->Int):T->Int
 | .num i=>i
 | .nm x=>e x
 | .op w a b=>w.worth (a.val e) (b.val e)
def InB(bk:Bk)(e:Str->Int):Prop:=∀x s,look bk x=some s->s.1<=e x/\e x<=s.2
def inW(v:Int):Prop:=-32768<=v/\v<=32767
def T.fit(bk:Bk):T->Prop
 | .num i=>inW i
 | .nm x=>∀e,InB bk e->inW (e x)
 | .op w a b=>a.fit bk/\b.fit bk/\∀e,InB bk e->inW (w.worth (a.val e) (b.val e))
structure HullT(bk:Bk)(t:T)(lo hi:Int):Prop where
 all:∀e,InB bk e->lo<=t.val e/\t.val e<=hi
 l:∃e,InB bk e/\t.val e=lo
 h:∃e,InB bk e/\t.val e=hi
theorem z93{e e':Str->Int}:∀{t:T},(∀x∈t.nms,e x=e' x)->t.val e=t.val e'
 | .num i,_=>rfl
 | .nm x,h=>h x (by simp[T.nms])
 | .op w a b,h=>by
  rw [T.val,T.val,z93 fun x hx=>h x (by rw [T.nms]; exact List.mem_append_left _ hx),z93 (t:=b) fun x hx=>h x (by rw [T.nms]; exact List.mem_append_right _ hx)]
theorem zbg{bk:Bk}{a b:T}(hn:(a.nms++b.nms).Nodup){e1 e2:Str->Int}(h1:InB bk e1)(h2:InB bk e2):∃e,InB bk e/\a.val e=a.val e1/\b.val e=b.val e2:=by
 refine⟨fun x=>if x∈a.nms then e1 x else e2 x,fun x s hs=>?_,z93 fun x hx=>if_pos hx,z93 fun x hx=>if_neg fun hx'=>?_⟩
 ·dsimp only
  split
  ·exact h1 x s hs
  ·exact h2 x s hs
 ·exact(List.nodup_append.mp hn).2.2 x hx' x hx rfl
theorem zsz:∀{ns:List Int},ns≠[]->∃lo hi,Hull ns lo hi
 | [],h=>absurd rfl h
 | [a],_=>⟨a,a,by simp,by simp,by simp⟩
 | a::b::r,_=>by
  obtain⟨lo,hi,h1,h2,h3⟩:=zsz (ns:=b::r) (by simp)
  refine⟨mn lo a,mx hi a,?_,?_,fun v hv=>?_⟩
  ·unfold mn; split
   ·exact List.mem_cons_self
   ·exact List.mem_cons_of_mem _ h1
  ·unfold mx; split
   ·exact List.mem_cons_self
   ·exact List.mem_cons_of_mem _ h2
  ·have e1:mn lo a<=lo/\mn lo a<=a:=by unfold mn; split<;>omega
   have e2:hi<=mx hi a/\a<=mx hi a:=by unfold mx; split<;>omega
   rcases List.mem_cons.mp hv with rfl | hv
   ·exact⟨e1.2,e2.2⟩
   ·have:=h3 v hv
    omega
theorem zt4{w:Wd}(h:w∈q22):w≠.same/\w≠.quo:=by
 simp only[q22,List.mem_cons,List.not_mem_nil,or_false] at h
 rcases h with rfl | rfl | rfl | rfl | rfl<;>exact⟨(fun z=>nomatch z),(fun z=>nomatch z)⟩
theorem zg1{s:S}{ns:Nts}{p k:Pth}(h:k∈(zse s p ns).map (·.1)):k∈ns.map (·.1)\/k=p:=by
 cases s with
 | none=>exact .inl h
 | some r=>
  have h:k∈(zsa ns p r).map (·.1):=h
  obtain⟨q,hq,rfl⟩:=List.mem_map.mp h
  unfold zsa at hq
  split at hq
  ·obtain⟨u,hu,e⟩:=List.mem_map.mp hq
   split at e
   ·rw [<- e]; exact .inl (List.mem_map.mpr ⟨u,hu,rfl⟩)
   ·rw [<- e]; exact .inl (List.mem_map.mpr ⟨u,hu,rfl⟩)
  ·rcases List.mem_append.mp hq with hq | hq
   ·exact .inl (List.mem_map.mpr ⟨q,hq,rfl⟩)
   ·right; rw [List.mem_singleton.mp hq]
theorem zex{p q:Pth}{i:Int}(h:p++[i] <+: q):p <+: q:=(List.prefix_append p [i]).trans h
theorem zii(bk:Bk){k:Pth}:∀(t:T) (p:Pth) (ns:Nts),k∈(shS bk t p ns).2.map (·.1)->k∈ns.map (·.1)\/p <+: k
 | .num i,p,ns,h=>by
  rw [shS] at h
  rcases zg1 (s:=some (i,i)) (p:=p) (ns:=ns) h with h | h
  ·exact .inl h
  ·exact .inr (h ▸ List.prefix_refl _)
 | .nm x,p,ns,h=>by
  rw [shS] at h
  rcases zg1 (s:=look bk x) (p:=p) (ns:=ns) h with h | h
  ·exact .inl h
  ·exact .inr (h ▸ List.prefix_refl _)
 | .op w a b,p,ns,h=>by
  have ha:k∈(shS bk a (p++[0]) ns).2.map (·.1)->k∈ns.map (·.1)\/p <+: k:=fun h=>(zii bk a (p++[0]) ns h).imp id zex
  rw [shS] at h
  split at h
  ·exact ha h
  ·have h:k∈(zse _ _ _).map (·.1):=h
   rcases zg1 h with h | h
   ·rcases zii bk b (p++[1]) _ h with h | h
    ·exact ha h
    ·exact .inr (zex h)
   ·exact .inr (h ▸ List.prefix_refl _)
theorem zz5{p q:Pth}{i j:Int}(hij:i≠j)(h:p++[i] <+: q):¬ p++[j] <+: q:=by
 rintro⟨y,e⟩
 obtain⟨x,rfl⟩:=h
 rw [List.append_assoc,List.append_assoc] at e
 have:=List.append_cancel_left e
 rw [List.singleton_append,List.singleton_append] at this
 injection this with h1 h2
 exact hij h1.symm
theorem q1k{p q:Pth}{i:Int}(h:p++[i] <+: q):q≠p:=by
 rintro rfl
 have:=h.length_le
 rw [List.length_append,List.length_singleton] at this
 omega
theorem zq9{s:S}{ns:Nts}{p:Pth}{r:Int×Int}(h:s=some r):lookN (zse s p ns) p=some r:=by
 rw [z7g,h,if_pos ⟨rfl,by simp⟩]
theorem zza{lo hi:Int}(h0:lo<=hi)(h1 : -32768<=lo)(h2:hi<=32767):zq5 (some (lo,hi)) (some q0o)=some (lo,hi):=by
 show bet (mx lo (-32768)) (mn hi 32767)=_
 rw [show mx lo (-32768)=lo by unfold mx; rw [if_neg (by omega)],show mn hi 32767=hi by unfold mn; rw [if_neg (by omega)]]
 unfold bet
 rw [if_neg (by omega)]
def Wn(ns:Nts)(p:Pth):Prop:=∀q s,p <+: q->lookN ns q=some s->-32768<=s.1/\s.2<=32767
structure Got(bk:Bk)(t:T)(p:Pth)(r:S×Nts):Prop where
 ex:∃lo hi,r.1=some (lo,hi)/\lookN r.2 p=some (lo,hi)/\HullT bk t lo hi/\lo<=hi/\-32768<=lo/\hi<=32767
 fit:t.fit bk
theorem zj3{bk:Bk}{t:T}{p:Pth}{ns:Nts}{s:Int×Int}{st:S}(es:st=some s)(hh:HullT bk t s.1 s.2)(h0:s.1<=s.2)(hw:Wn (zvn st p ns).2 p)(hf : -32768<=s.1->s.2<=32767->t.fit bk):Got bk t p (zvn st p ns):=by
 have hl:lookN (zvn st p ns).2 p=some s:=zq9 es
 have h1:=hw p s (List.prefix_refl _) hl
 exact⟨⟨s.1,s.2,by rw [es]; exact zza h0 h1.1 h1.2,hl,hh,h0,h1.1,h1.2⟩,hf h1.1 h1.2⟩
theorem zpk{w:Wd}(hw:w∈q22){a b c d:Int}(hab:a<=b)(hcd:c<=d):∃lo hi,stF w (some (a,b)) (some (c,d))=some (lo,hi)/\Hull (z35 w a b c d) lo hi/\∀x y,a<=x->x<=b->c<=y->y<=d->lo<=w.worth x y/\w.worth x y<=hi:=by
 obtain⟨lo,hi,hh⟩:=zsz (ns:=z35 w a b c d) (by simp[z35])
 have hs:=zt4 hw
 have hq:Sgn w c d:=fun z=>absurd z hs.2
 have I:=zc2 hs.1 hab hcd hq hh
 exact⟨lo,hi,zwu (show OfRel w (some (a,b)) (some (c,d)) (some (lo,hi)) from I),hh,fun x y h1 h2 h3 h4=>I.2.2.1 _ ⟨x,y,h1,h2,h3,h4,fun z=>absurd z hs.2,rfl⟩⟩
theorem q37{bk:Bk}(hb:∀x s,look bk x=some s->s.1<=s.2)(he:∃e,InB bk e):∀(t:T) (d:Nat) (p:Pth) (ns:Nts),T.one d t->t.nms.Nodup->(∀x∈t.nms,∃s,look bk x=some s)->Wn (shS bk t p ns).2 p->Got bk t p (shS bk t p ns)
 | .num i,d,p,ns,_,_,_,hw=>by
  rw [shS] at hw |-
  obtain⟨e,he⟩:=he
  exact zj3 (s:=(i,i)) rfl ⟨fun _ _=>⟨Int.le_refl _,Int.le_refl _⟩,⟨e,he,rfl⟩,e,he,rfl⟩ (Int.le_refl _) hw fun h1 h2=>⟨h1,h2⟩
 | .nm x,d,p,ns,_,_,hk,hw=>by
  rw [shS] at hw |-
  obtain⟨s,hs⟩:=hk x (by simp[T.nms])
  obtain⟨e,he⟩:=he
  have h0:=hb x s hs
  have pt:∀v,s.1<=v->v<=s.2->∃e,InB bk e/\(T.nm x).val e=v:=fun v h1 h2=>⟨fun y=>if y=x then v else e y,fun y r hr=>by
   dsimp only
   split
   ·rename_i z
    rw [z,hs] at hr
    cases hr
    exact⟨h1,h2⟩
   ·exact he y r hr,if_pos rfl⟩
  exact zj3 (s:=s) hs ⟨fun e he=>he x s hs,pt _ (Int.le_refl _) h0,pt _ h0 (Int.le_refl _)⟩ h0 hw fun h1 h2 e he=>by
   have:=he x s hs
   exact⟨by omega,by omega⟩
 | .op w a b,0,p,ns,h,_,_,_=>h.elim
 | .op w a b,d+1,p,ns,h,hn,hk,hw=>by
  rw [T.nms] at hn hk
  have hnn:=List.nodup_append.mp hn
  have n01:(0:Int)≠1:=by decide
  have ia:=q37 hb he a d (p++[0]) ns h.2.1 hnn.1 fun x hx=>hk x (List.mem_append_left _ hx)
  have ib:=q37 hb he b d (p++[1]) (shS bk a (p++[0]) ns).2 h.2.2 hnn.2.1 fun x hx=>hk x (List.mem_append_right _ hx)
  rw [shS] at hw |-
  generalize shS bk a (p++[0]) ns=ra at ia ib hw |-
  have oa:∀q,p++[0] <+: q->lookN (shS bk b (p++[1]) ra.2).2 q=lookN ra.2 q:=fun q hq=>zm3 bk b _ _ q (zz5 n01 hq)
  generalize shS bk b (p++[1]) ra.2=rb at ib hw oa |-
  by_cases hna:ra.1=none
  ·rw [if_pos hna] at hw
   obtain⟨la,ha,e,_⟩:=(ia fun q s hq hs=>hw q s (zex hq) hs).ex
   rw [hna] at e
   cases e
  rw [if_neg hna] at hw |-
  have wb:∀q s i,p++[i] <+: q->lookN rb.2 q=some s->-32768<=s.1/\s.2<=32767:=fun q s i hq hs=>hw q s (zex hq) (by
   show lookN (zse _ p rb.2) q=_
   rw [z7g,if_neg fun z=>q1k hq z.1]
   exact hs)
  obtain⟨⟨la,ha,ea,_,Ha,lha,la1,ha1⟩,fa⟩:=ia fun q s hq hs=>wb q s 0 hq (by rw [oa q hq]; exact hs)
  obtain⟨⟨lb,hb',eb,_,Hb,lhb,lb1,hb1⟩,fb⟩:=ib fun q s hq hs=>wb q s 1 hq hs
  obtain⟨lo,hi,es,hh,hall⟩:=zpk h.1 lha lhb
  rw [ea,eb] at hw |-
  have vall:∀e,InB bk e->lo<=w.worth (a.val e) (b.val e)/\w.worth (a.val e) (b.val e)<=hi:=fun e he=>hall _ _ (Ha.all e he).1 (Ha.all e he).2 (Hb.all e he).1 (Hb.all e he).2
  have cor:∀v∈z35 w la ha lb hb',∃e,InB bk e/\(T.op w a b).val e=v:=by
   intro v hv
   obtain⟨e1,b1,v1⟩:=Ha.l
   obtain⟨e2,b2,v2⟩:=Ha.h
   obtain⟨e3,b3,v3⟩:=Hb.l
   obtain⟨e4,b4,v4⟩:=Hb.h
   simp only[z35,List.mem_cons,List.not_mem_nil,or_false] at hv
   rcases hv with rfl | rfl | rfl | rfl
   ·obtain⟨e,be,z1,z2⟩:=zbg hn b1 b3; exact⟨e,be,by rw [T.val,z1,z2,v1,v3]⟩
   ·obtain⟨e,be,z1,z2⟩:=zbg hn b2 b3; exact⟨e,be,by rw [T.val,z1,z2,v2,v3]⟩
   ·obtain⟨e,be,z1,z2⟩:=zbg hn b1 b4; exact⟨e,be,by rw [T.val,z1,z2,v1,v4]⟩
   ·obtain⟨e,be,z1,z2⟩:=zbg hn b2 b4; exact⟨e,be,by rw [T.val,z1,z2,v2,v4]⟩
  obtain⟨e0,he0⟩:=he
  have h00:=vall e0 he0
  exact zj3 (s:=(lo,hi)) es ⟨vall,cor _ hh.l,cor _ hh.h⟩ (by show lo<=hi; omega) hw fun h1 h2=>⟨fa,fb,fun e he=>by
   have:=vall e he
   have h1 : -32768<=lo:=h1
   have h2:hi<=32767:=h2
   exact⟨by omega,by omega⟩⟩
theorem q4s{bk:Bk}{c:Cnt}(he:InB bk fun x=>(z7u c x).getD 0):∀(t:T) (d:Nat) (p:Pth),T.one d t->t.fit bk->∃rs,evT c t p=(.had (t.val fun x=>(z7u c x).getD 0),rs++[(p,t.val fun x=>(z7u c x).getD 0)]):=by
 have hs:∀(v:Int) (p:Pth),inW v->zm5 v p=.had v:=fun v p h=>by
  unfold zm5
  rw [if_neg (by have:=h.1; omega),if_neg (by have:=h.2; omega)]
 intro t
 induction t with
 | num i=>exact fun d p _ hf=>⟨[],by rw [evT,hs i p hf]; rfl⟩
 | nm x=>exact fun d p _ hf=>⟨[],by rw [evT,hs _ p (hf _ he)]; rfl⟩
 | op w a b iha ihb=>
  intro d p h hf
  match d,h with
  | d+1,h=>
  obtain⟨ra,ea⟩:=iha d (p++[0]) h.2.1 hf.1
  obtain⟨rb,eb⟩:=ihb d (p++[1]) h.2.2 hf.2.1
  refine⟨(ra++[(p++[0],a.val fun x=>(z7u c x).getD 0)])++(rb++[(p++[1],b.val fun x=>(z7u c x).getD 0)]),?_⟩
  rw [zob ea eb fun z=>(zt4 h.1).2 z.1,hs _ p (hf.2.2 _ he)]
  rfl
theorem zrx:∀(t:T) (d:Nat),T.one d t->t.sz+1<=2 ^ (d+1)
 | .num _,d,_=>by rw [T.sz]; have:=Nat.one_le_two_pow (n:=d); rw [Nat.pow_succ]; omega
 | .nm _,d,_=>by rw [T.sz]; have:=Nat.one_le_two_pow (n:=d); rw [Nat.pow_succ]; omega
 | .op w a b,d+1,h=>by
  have h1:=zrx a d h.2.1
  have h2:=zrx b d h.2.2
  rw [T.sz,Nat.pow_succ]
  omega
theorem zry:∀(t:T) (d:Nat) (g:List Str),T.one d t->(∀x∈t.nms,x∈g)->T.ok g (d+1) t
 | .num _,d,g,h,_=>⟨by have:=h.1; omega,by have:=h.2; omega⟩
 | .nm x,d,g,_,h=>h x (by simp[T.nms])
 | .op w a b,d+1,g,h,k=>⟨zry a d g h.2.1 fun x hx=>k x (List.mem_append_left _ hx),zry b d g h.2.2 fun x hx=>k x (List.mem_append_right _ hx)⟩
theorem zwj{lo:Int}{n:Nat}{g:TG}{tt:TT}{te:TE}{Q:VK}{σ : St}{H:Hp}(Pv:Nat->List V->St->Hp->Prop)(h0:Pv 0 [] σ H)(hz:n < sizeLine)(hy:∀i zs σ H,Pv i zs σ H->zs.length<=i)
  (hs:∀i zs σ H,i < n->Pv i zs σ H->g (.int (lo+i)) σ H fun σ2 H2=>tt σ2 H2 fun b H3=>if b=true then te σ2 H3 (fun v H4=>Pv (i+1) (zs++[v]) σ2 H4) else Pv (i+1) zs σ2 H3)
  (hd:∀zs σ H,Pv n zs σ H->∀p,H p=none->Q (.ref p) (upd H p (.lst zs))):zaa (Itr lo n) g tt te Q σ H:=by
 refine⟨fun i m zs σ H=>m=n - i/\i<=n/\Pv i zs σ H,⟨n,by simp,Nat.zero_le _,h0⟩,?_⟩
 rintro i m zs σ H ⟨rfl,hi,p⟩
 have hyl:=hy i zs σ H p
 by_cases hlt:i < n
 ·refine .inr ⟨hlt,by omega,Pv (i+1),fun ys' σ' H' p'=>⟨n - (i+1),by omega,rfl,hlt,p'⟩,fun x H' y=>?_⟩
  obtain⟨e,y⟩:=y
  subst e y
  exact hs i zs σ _ hlt p
 ·have e:i=n:=by omega
  subst e
  exact .inl ⟨Nat.le_refl _,by omega,hd zs σ H p⟩
def AwC(U:Hp)(pv:V)(ws:List Int)(lo:Int)(i:Nat)(ys:List V)(σ':St)(H':Hp):Prop:=Same U H'/\(∃t,σ'=[t,some pv])/\DtA H' ys (((List.range i).map fun(k:Nat)=>ws++[lo+(k:Int)]).map z4c)/\ys.length<=i
def zh8(wss:List (List Int))(r:Rw):List (List Int):=wss.flatMap fun ws=>(List.range (r.2.2+1 - r.2.1).toNat).map fun(k:Nat)=>ws++[r.2.1+(k:Int)]
def evs(rows:List Rw):List (List Int):=rows.foldl zh8 [[]]
theorem zj9(rows:List Rw)(r:Rw):evs (rows++[r])=zh8 (evs rows) r:=by unfold evs; rw [List.foldl_append]; rfl
theorem zsf{wss:List (List Int)}{r:Rw}{ws:List Int}:ws∈zh8 wss r↔∃us w,ws=us++[w]/\us∈wss/\r.2.1<=w/\w<=r.2.2:=by
 unfold zh8
 rw [List.mem_flatMap]
 constructor
 ·rintro⟨us,hu,h⟩
  obtain⟨k,hk,rfl⟩:=List.mem_map.mp h
  have:=List.mem_range.mp hk
  exact⟨us,_,rfl,hu,by omega,by omega⟩
 ·rintro⟨us,w,rfl,hu,h1,h2⟩
  refine⟨us,hu,List.mem_map.mpr ⟨(w - r.2.1).toNat,List.mem_range.mpr (by omega),?_⟩⟩
  rw [show r.2.1+((w - r.2.1).toNat:Int)=w by omega]
theorem fits_snoc:∀{rows:List Rw} {r:Rw} {ws:List Int},Fits (rows++[r]) ws↔∃us w,ws=us++[w]/\Fits rows us/\r.2.1<=w/\w<=r.2.2
 | [],r,ws=>by
  constructor
  ·intro h
   match ws,h with
   | [w],h=>exact⟨[],w,rfl,trivial,h.1,h.2.1⟩
   | [],h=>exact h.elim
   | _::_::_,h=>exact h.2.2.elim
  ·rintro⟨us,w,rfl,h,h1,h2⟩
   match us,h with
   | [],_=>exact⟨h1,h2,trivial⟩
   | _::_,h=>exact h.elim
 | a::rows,r,ws=>by
  constructor
  ·intro h
   match ws,h with
   | v::ws,h=>
    obtain⟨us,w,e,h1,h2⟩:=fits_snoc.mp h.2.2
    exact⟨v::us,w,by rw [e]; rfl,⟨h.1,h.2.1,h1⟩,h2⟩
   | [],h=>exact h.elim
  ·rintro⟨us,w,rfl,h,h1⟩
   match us,h with
   | v::us,h=>exact⟨h.1,h.2.1,fits_snoc.mpr ⟨us,w,rfl,h.2.2,h1⟩⟩
   | [],h=>exact h.elim
theorem zat(rows:List Rw):∀ws,ws∈evs rows↔Fits rows ws:=by
 suffices h:∀n (rows:List Rw),rows.length=n->∀ws,ws∈evs rows↔Fits rows ws from h _ rows rfl
 intro n
 induction n with
 | zero=>
  intro rows e ws
  rw [List.length_eq_zero_iff.mp e]
  show ws∈[[]]↔_
  rw [List.mem_singleton]
  cases ws with
  | nil=>exact⟨fun _=>trivial,fun _=>rfl⟩
  | cons a r=>exact⟨fun z=>(by cases z),fun z=>z.elim⟩
 | succ n ih=>
  intro rows e ws
  have hne:rows≠[]:=fun z=>by rw [z] at e; cases e
  have hd:=List.dropLast_concat_getLast hne
  have hl:rows.dropLast.length=n:=by rw [List.length_dropLast,e]; rfl
  rw [<- hd,zj9,zsf,fits_snoc]
  constructor
  ·rintro⟨us,w,e,hu,h⟩
   exact⟨us,w,e,(ih _ hl us).mp hu,h⟩
  ·rintro⟨us,w,e,hu,h⟩
   exact⟨us,w,e,(ih _ hl us).mpr hu,h⟩
def zjs(A B C D:Int×Int):Bk:=[("a",A),("b",B),("c",C),("d",D)]
def z1u(A B C D:Int×Int):List Rw:=[("a",A),("b",B),("c",C),("d",D)]
theorem q2h(A B C D:Int×Int):zlh (z1u A B C D)=zjs A B C D:=by
 have e1:zie [] "a" A=([("a",A)]:Bk):=zf5 [] "a" A rfl
 have e2:zie [("a",A)] "b" B=([("a",A),("b",B)]:Bk):=zf5 [("a",A)] "b" B (show(decide (("a" : Str) = "b") || false)=false by decide+kernel)
 have e3:zie [("a",A),("b",B)] "c" C=([("a",A),("b",B),("c",C)]:Bk):=zf5 [("a",A),("b",B)] "c" C (show(decide (("a" : Str) = "c") || (decide (("b" : Str) = "c") || false))=false by decide+kernel)
 have e4:zie [("a",A),("b",B),("c",C)] "d" D=([("a",A),("b",B),("c",C),("d",D)]:Bk):=zf5 [("a",A),("b",B),("c",C)] "d" D (show(decide (("a" : Str) = "d") || (decide (("b" : Str) = "d") || (decide (("c" : Str) = "d") || false)))=false by decide+kernel)
 show zie (zie (zie (zie [] "a" A) "b" B) "c" C) "d" D=_
 rw [e1,e2,e3,e4]
 rfl
theorem zx6{A B C D:Int×Int}{x:Str}{s:Int×Int}(h:look (zjs A B C D) x=some s):(x = "a"/\s=A)\/(x = "b"/\s=B)\/(x = "c"/\s=C)\/(x = "d"/\s=D):=by
 unfold zjs at h
 rw [look] at h
 split at h
 ·rename_i e; cases h; exact .inl ⟨e.symm,rfl⟩
 rw [look] at h
 split at h
 ·rename_i e; cases h; exact .inr (.inl ⟨e.symm,rfl⟩)
 rw [look] at h
 split at h
 ·rename_i e; cases h; exact .inr (.inr (.inl ⟨e.symm,rfl⟩))
 rw [look] at h
 split at h
 ·rename_i e; cases h; exact .inr (.inr (.inr ⟨e.symm,rfl⟩))
 rw [look] at h
 cases h
theorem q42:("a" : Str)≠"b"/\("a" : Str)≠"c"/\("a" : Str)≠"d"/\("b" : Str)≠"c"/\("b" : Str)≠"d"/\("c" : Str)≠"d":=by decide+kernel
theorem q43(A B C D:Int×Int):look (zjs A B C D) "a" = some A/\look (zjs A B C D) "b" = some B/\look (zjs A B C D) "c" = some C/\look (zjs A B C D) "d" = some D:=by
 obtain⟨n1,n2,n3,n4,n5,n6⟩:=q42
 unfold zjs
 refine⟨?_,?_,?_,?_⟩
 ·rw [look,if_pos rfl]
 ·rw [look,if_neg n1,look,if_pos rfl]
 ·rw [look,if_neg n2,look,if_neg n4,look,if_pos rfl]
 ·rw [look,if_neg n3,look,if_neg n5,look,if_neg n6,look,if_pos rfl]
theorem q20(A B C D:Int×Int)(a b c d:Int):let g:=fun x=>(z7u (stB [] (z1u A B C D) [a,b,c,d]) x).getD 0; g "a" = a/\g "b" = b/\g "c" = c/\g "d" = d:=by
 obtain⟨n1,n2,n3,n4,n5,n6⟩:=q42
 have e:stB [] (z1u A B C D) [a,b,c,d]=zft (zft (zft (zft [] "a" a) "b" b) "c" c) "d" d:=rfl
 intro g
 refine⟨?_,?_,?_,?_⟩<;>show(z7u (stB [] (z1u A B C D) [a,b,c,d]) _).getD 0=_<;>rw [e]
 ·rw [z3s _ _ n3,z3s _ _ n2,z3s _ _ n1,z48]; rfl
 ·rw [z3s _ _ n5,z3s _ _ n4,z48]; rfl
 ·rw [z3s _ _ n6,z48]; rfl
 ·rw [z48]; rfl
theorem q23{A B C D:Int×Int}{ws:List Int}(h:Fits (z1u A B C D) ws):∃a b c d,ws=[a,b,c,d]/\A.1<=a/\a<=A.2/\B.1<=b/\b<=B.2/\C.1<=c/\c<=C.2/\D.1<=d/\d<=D.2:=by
 match ws,h with
 | [a,b,c,d],h=>exact⟨a,b,c,d,rfl,h.1,h.2.1,h.2.2.1,h.2.2.2.1,h.2.2.2.2.1,h.2.2.2.2.2.1,h.2.2.2.2.2.2.1,h.2.2.2.2.2.2.2.1⟩
 | [],h=>exact h.elim
 | [_],h=>exact h.2.2.elim
 | [_,_],h=>exact h.2.2.2.2.elim
 | [_,_,_],h=>exact h.2.2.2.2.2.2.elim
 | _::_::_::_::_::_,h=>exact h.2.2.2.2.2.2.2.2.elim
theorem zzk{A B C D:Int×Int}{ws:List Int}(h:Fits (z1u A B C D) ws):InB (zjs A B C D) fun x=>(z7u (stB [] (z1u A B C D) ws) x).getD 0:=by
 obtain⟨a,b,c,d,rfl,h1,h2,h3,h4,h5,h6,h7,h8⟩:=q23 h
 obtain⟨g1,g2,g3,g4⟩:=q20 A B C D a b c d
 intro x s hs
 dsimp only at g1 g2 g3 g4 |-
 rcases zx6 hs with⟨rfl,rfl⟩ | ⟨rfl,rfl⟩ | ⟨rfl,rfl⟩ | ⟨rfl,rfl⟩
 ·rw [g1]; exact⟨h1,h2⟩
 ·rw [g2]; exact⟨h3,h4⟩
 ·rw [g3]; exact⟨h5,h6⟩
 ·rw [g4]; exact⟨h7,h8⟩
theorem q41{A B C D:Int×Int}{e:Str->Int}(h:InB (zjs A B C D) e){t:T}(ht:∀x∈t.nms,x∈pair):∃ws,Fits (z1u A B C D) ws/\(t.val fun x=>(z7u (stB [] (z1u A B C D) ws) x).getD 0)=t.val e:=by
 obtain⟨l1,l2,l3,l4⟩:=q43 A B C D
 have f1:=h _ _ l1
 have f2:=h _ _ l2
 have f3:=h _ _ l3
 have f4:=h _ _ l4
 refine⟨[e "a",e "b",e "c",e "d"],⟨f1.1,f1.2,f2.1,f2.2,f3.1,f3.2,f4.1,f4.2,trivial⟩,z93 fun x hx=>?_⟩
 obtain⟨g1,g2,g3,g4⟩:=q20 A B C D (e "a") (e "b") (e "c") (e "d")
 have:=ht x hx
 simp only[pair,List.mem_cons,List.not_mem_nil,or_false] at this
 rcases this with rfl | rfl | rfl | rfl
 ·exact g1
 ·exact g2
 ·exact g3
 ·exact g4
theorem zya{rows:List Rw}(h:rows.map (·.1)=pair):∃A B C D,rows=z1u A B C D:=by
 match rows,h with
 | [(x1,A),(x2,B),(x3,C),(x4,D)],h=>
  have h:[x1,x2,x3,x4]=pair:=h
  unfold pair at h
  injection h with e1 h
  injection h with e2 h
  injection h with e3 h
  injection h with e4 h
  subst e1 e2 e3 e4
  exact⟨A,B,C,D,rfl⟩
theorem q3g{A B C D:Int×Int}(hA:A.1<=A.2)(hB:B.1<=B.2)(hC:C.1<=C.2)(hD:D.1<=D.2){t:T}(h:T.one 3 t)(hn:t.nms.Nodup)(ht:∀x∈t.nms,x∈pair){p:Pth}(hw:Wn (shS (zjs A B C D) t p []).2 p) :
  ∃lo hi,lookN (shS (zjs A B C D) t p []).2 p=some (lo,hi)/\t.fit (zjs A B C D)/\(∀ws,Fits (z1u A B C D) ws->lo<=(t.val fun x=>(z7u (stB [] (z1u A B C D) ws) x).getD 0)/\(t.val fun x=>(z7u (stB [] (z1u A B C D) ws) x).getD 0)<=hi)/\(∃ws,Fits (z1u A B C D) ws/\(t.val fun x=>(z7u (stB [] (z1u A B C D) ws) x).getD 0)=lo)/\∃ws,Fits (z1u A B C D) ws/\(t.val fun x=>(z7u (stB [] (z1u A B C D) ws) x).getD 0)=hi:=by
 have f0:Fits (z1u A B C D) [A.1,B.1,C.1,D.1]:=⟨Int.le_refl _,hA,Int.le_refl _,hB,Int.le_refl _,hC,Int.le_refl _,hD,trivial⟩
 obtain⟨l1,l2,l3,l4⟩:=q43 A B C D
 obtain⟨⟨lo,hi,_,hl,H,_⟩,hf⟩:=q37 (bk:=zjs A B C D) (fun x s hs=>by rcases zx6 hs with⟨rfl,rfl⟩ | ⟨rfl,rfl⟩ | ⟨rfl,rfl⟩ | ⟨rfl,rfl⟩<;>assumption) ⟨_,zzk f0⟩ t 3 p [] h hn (fun x hx=>by
  have:=ht x hx
  simp only[pair,List.mem_cons,List.not_mem_nil,or_false] at this
  rcases this with rfl | rfl | rfl | rfl
  ·exact⟨_,l1⟩
  ·exact⟨_,l2⟩
  ·exact⟨_,l3⟩
  ·exact⟨_,l4⟩) hw
 obtain⟨e1,b1,v1⟩:=H.l
 obtain⟨e2,b2,v2⟩:=H.h
 obtain⟨w1,f1,z1⟩:=q41 b1 ht
 obtain⟨w2,f2,z2⟩:=q41 b2 ht
 exact⟨lo,hi,hl,hf,fun ws fw=>H.all _ (zzk fw),⟨w1,f1,z1.trans v1⟩,w2,f2,z2.trans v2⟩
theorem zg2:∀{p q:Pth},p <+: q->ltI q p=false
 | [],q,_=>by cases q<;>rfl
 | a::p,[],h=>by have:=h.length_le; simp at this
 | a::p,b::q,h=>by
  obtain⟨h1,h2⟩:=List.cons_prefix_cons.mp h
  rw [ltI,if_pos h1.symm]
  exact zg2 h2
theorem zw2{ps:List Pth}{p:Pth}(hp:p∈ps)(hs:ps.Pairwise fun x y=>ltI x y=true)(hk:∀q∈ps,p <+: q):∃r,ps=p::r:=by
 cases ps with
 | nil=>cases hp
 | cons q r=>
  rcases List.mem_cons.mp hp with e | hr
  ·exact⟨r,by rw [e]⟩
  ·have h1:=(List.pairwise_cons.mp hs).1 p hr
   rw [zg2 (hk q List.mem_cons_self)] at h1
   cases h1
local macro_rules | `(tactic| walk_at "ry")=>`(tactic| simp only[zun,zht,q38,zup,zcb,zox,z5o,z9t,zjj,zcc,z88,z5p,z89,zf3,zcd,z8a,z9p,zhv,q14,zhs,zd2,zfk,q3t,znz,q2q,q3b,zuq,zlr,tOp,zpe,tC,zwt,zgr,zxe,zn3,zzp,zxv,zpf,zlv,zlu,tCB,zbj,zuo,zju,tUn,rU,rI0,rI,zxy,tOr,zxw,tB,zly,q0g,zlt,tIf,q0h,zpg,zhu,zlw,zfj,zm9,zfi,zph,zdz,zpi,tSl,zao,zls,zyb,zd3,zhz,zpw,zmb,z7a,z9n,z77,z7d,zxu,zxx,tBM,
 qEq,qNe,qIn,zi1,zyi,zma,q0m,zpv,zyh,zme,zyj,q0l,zmc,zmd,zi0,rIx,zuz,zlm,zyd,q0k,q0i,zpt,q0j,zyc,zar,zaq,zfh,zfm,zwq,
 z9o,z79,z78,z7b,z5r,z7c,L2.start,zib,z5u,z9u,List.map_cons,List.map_nil,List.length_cons,List.length_nil,List.replicate_succ,List.replicate_zero,Nat.reduceAdd,Nat.reduceSub,Nat.zero_add,Nat.add_zero,Nat.sub_zero,Nat.sub_self,Nat.add_sub_cancel,
 List.getElem?_cons_zero,List.getElem?_cons_succ,List.set_cons_zero,List.set_cons_succ,List.cons_append,List.nil_append,List.append_nil,List.cons.injEq,Option.some.injEq,V.int.injEq,V.ref.injEq,V.str.injEq,V.bl.injEq,V.ty.injEq,
 reduceCtorEq,false_and,and_false,and_true,true_and,exists_false,exists_const,false_or,or_false,exists_eq_left,exists_eq_left',exists_eq_right,exists_eq_right',exists_and_left,decide_eq_true_eq,Bool.not_eq_true',Bool.decide_eq_true,exists_eq,true_or,or_true,Bool.false_eq_true,if_true,if_false,Bool.true_eq_false,Bool.not_true,Bool.not_false,decide_true,decide_false,List.isEmpty_cons,List.isEmpty_nil,Bool.true_and,Bool.false_and,bne_self_eq_false,beq_self_eq_true])
section
variable{P:Program}{w:World}{K:PySem.W.Frag}{mg:Str->Option Value}{base:Heap}{f:Addr}{fd:FuncData}
def LsT(o:HO):Prop:=(∃xs,o=.lst xs)\/∃p xs,o=.frz p (.lst xs)
theorem zzd{o:HO}(h:LsT o):¬ Chg o:=by
 rcases h with⟨xs,rfl⟩ | ⟨p,xs,rfl⟩<;>rintro(⟨_,z⟩ | ⟨_,z⟩ | ⟨_,_,z⟩ | ⟨_,_,z⟩ | ⟨_,_,_,z⟩)<;>cases z
theorem SqL.keepL{K:PySem.W.Frag}{H H':Hp}{a:Addr}{xs:List V}(h:SqL K H a xs)(e:∀b o,LsT o->H b=some o->H' b=some o):SqL K H' a xs:=by
 rcases h with(h | ⟨o,h⟩) | h
 ·exact .inl (.inl (e _ _ (.inl ⟨_,rfl⟩) h))
 ·exact .inl (.inr ⟨o,e _ _ (.inr ⟨_,_,rfl⟩) h⟩)
 ·exact .inr h
def zo6(p2:Addr):Sp:=fun vs H Q _=>∃(a:Addr) (ns:List Int),vs=[.ref a]/\H a=some (.lst (ns.map V.int))/\TabAt p2 zv3 dT.qual H/\∀H',TabAt p2 zv3 dT.qual H'->(∀b o,LsT o->H b=some o->H' b=some o)->Q (.bl true) H'
def FoI(H:Hp)(a pn pi:Addr)(j:Nat)(σ : St)(Hc:Hp):Prop:=∃(pe:Addr) (vs es:List V) (rows:List Rw) (x3 x4 x5 x6 x7 x8 x9 x10 x11:Option V),σ = [some (.ref a),some (.ref pi),some (.ref pe),x3,x4,x5,x6,x7,x8,x9,x10,x11]/\Same H Hc/\H pi=none/\Hc pn=some (.lst (pair.map V.str))/\Hc pi=some (.lst vs)/\Hc pe=some (.lst es)/\pe≠pi/\pn≠pi/\DtA Hc vs (rows.map ze1)/\rows.length=j/\rows.map (·.1)=pair.take j/\(∀r∈rows,-6<=r.2.1/\r.2.1<=r.2.2/\r.2.2<=8/\r.2.2<=r.2.1+2)/\DtA Hc es ((evs rows).map z4c)/\(evs rows).length<=3 ^ j
def FoJ(H:Hp)(a pn pi pe pl:Addr)(vs es:List V)(rows:List Rw)(wss:List (List Int))(v3 v4 v5:V)(r:Rw)(j:Nat)(σ : St)(Hc:Hp):Prop:=∃(ys:List V) (x7 x8 x9 x10 x11:Option V),σ = [some (.ref a),some (.ref pi),some (.ref pe),some v3,some v4,some v5,some (.ref pl),x7,x8,x9,x10,x11]/\Same H Hc/\Hc pn=some (.lst (pair.map V.str))/\Hc pi=some (.lst vs)/\Hc pe=some (.lst es)/\Hc pl=some (.lst ys)/\DtA Hc vs (rows.map ze1)/\DtA Hc es (wss.map z4c)/\DtA Hc ys ((zh8 (wss.take j) r).map z4c)
theorem zjw(wss:List (List Int))(r:Rw)(h:r.2.2<=r.2.1+2):(zh8 wss r).length<=3 * wss.length:=by
 unfold zh8
 induction wss with
 | nil=>simp
 | cons w wss ih=>
  rw [List.flatMap_cons,List.length_append,List.length_map,List.length_range,List.length_cons]
  omega
theorem zpj(wss:List (List Int))(ws:List Int)(r:Rw):zh8 (wss++[ws]) r=zh8 wss r++(List.range (r.2.2+1 - r.2.1).toNat).map fun(k:Nat)=>ws++[r.2.1+(k:Int)]:=by
 unfold zh8
 rw [List.flatMap_append]
 simp
theorem zk6:Sub pair pool:=fun x hx=>(List.mem_append_left [("x" : Str)] hx:x∈pair++[("x" : Str)])
theorem zz4(bh:Bh)(rows:List Rw)(t:T):notesB bh rows [.set "x" t]=(shS (zlh rows) t [0,0] []).2:=by
 unfold notesB
 rw [wkB,wkD,wkB]
 rfl
theorem zmk:∀(t:T) (d:Nat),T.one d t->T.dp (d+1) t
 | .num _,d,_=>trivial
 | .nm _,d,_=>trivial
 | .op w a b,d+1,h=>⟨zmk a d h.2.1,zmk b d h.2.2⟩
theorem zn7:∀{t:T} {n m:Nat},T.dp n t->n<=m->T.dp m t
 | _,0,_,h,_=>h.elim
 | .num _,n+1,m+1,_,_=>trivial
 | .nm _,n+1,m+1,_,_=>trivial
 | .op w a b,n+1,m+1,h,k=>⟨zn7 h.1 (by omega),zn7 h.2 (by omega)⟩
theorem TabAt.same{pt:Addr}{pos:Pos}{q:Str}{H H':Hp}(h:TabAt pt pos q H)(s:Same H H'):TabAt pt pos q H':=h.kp fun a o _ e=>s a o e
theorem TabAt.keeps{pt:Addr}{pos:Pos}{q:Str}{H H':Hp}(h:TabAt pt pos q H)(k:Keeps H H'):TabAt pt pos q H':=by
 have n1:∀ps,¬ Chg (.tbl ps):=by rintro ps (⟨_,z⟩ | ⟨_,z⟩ | ⟨_,_,z⟩ | ⟨_,_,z⟩ | ⟨_,_,_,z⟩)<;>cases z
 have n2:∀c q,¬ Chg (zgx c q):=by rintro c q (⟨_,z⟩ | ⟨_,z⟩ | ⟨_,_,z⟩ | ⟨_,_,z⟩ | ⟨_,_,_,z⟩)<;>(unfold zgx at z; cases z)
 rcases h with h | ⟨c',h1,h2⟩
 ·exact .inl (k.a _ _ (n1 _) h)
 ·exact .inr ⟨c',k.a _ _ (n1 _) h1,k.a _ _ (n2 _ _) h2⟩
def RwC(U:Hp)(ps:List Pth)(nt:Nts)(i:Nat)(ys:List V)(σ':St)(H':Hp):Prop:=H'=U/\(∃t,σ'=[t])/\∃kept:List Pth,DtA U ys (kept.map (zrg nt))/\(∀q∈kept,q∈ps)/\kept.length<=i/\(kept=[]->∀q∈ps.take i,∀s,lookN nt q=some s->-32768<=s.1/\s.2<=32767)
theorem zzs(ds:List Dm):PyData.eqv (.list (zgw ds)) (.list (zgw []))=ds.isEmpty:=by
 cases ds with
 | nil=>rfl
 | cons d ds=>simp[zgw,PyData.eqv,PyData.eqvAll]
theorem q26{H:Hp}{fa p:Addr}{vs:List V}{ds:List Dm}(h:H fa=some (.lst vs))(d:DtA H vs ds)(hf:∀e∈ds,Fine 3 e)(hp:H p=some (.lst [])):q3q K H (.ref fa) (.ref p) ds.isEmpty:=by
 obtain⟨f1,f2,f3⟩:=zzq hf
 refine⟨fa,p,vs,[],ds,[],rfl,rfl,SqL.of h,SqL.of hp,d,.nil,f1,rfl,?_,rfl,(zzs ds).symm⟩
 unfold SeqAt.shaped
 rw [Bool.and_eq_true,decide_eq_true_eq]
 exact⟨by simpa [PyData.canLay0] using f2,by simp only[PyData.depth]; omega⟩
theorem zkv(nt:Nts)(p:Pth):Fine 3 (zrg nt p):=by
 unfold zrg
 split
 ·refine zon fun d hd=>?_
  simp only[List.mem_cons,List.not_mem_nil,or_false] at hd
  rcases hd with rfl | rfl | rfl
  ·exact(zt5 p).mono (by decide)
  ·exact zj8 _ _
  ·exact zj8 _ _
 ·exact⟨rfl,rfl,by decide⟩
theorem zg7:∀{ns:Nts} {p:Pth} {s:Int×Int},lookN ns p=some s->p∈ns.map (·.1)
 | [],p,s,h=>by rw [lookN] at h; cases h
 | q::ns,p,s,h=>by
  rw [lookN] at h
  split at h
  ·rename_i e; rw [List.map_cons,<- e]; exact List.mem_cons_self
  ·rw [List.map_cons]; exact List.mem_cons_of_mem _ (zg7 h)
theorem zop{H:Hp}:∀{ds:List Dm} {ys:List V} {d:Dm},DtA H ys (ds++[d])->∃zs y,ys=zs++[y]/\Dt H y d
 | [],ys,d,h=>by
  cases h with
  | cons h1 h2=>cases h2; exact⟨[],_,rfl,h1⟩
 | e::ds,ys,d,h=>by
  cases h with
  | cons h1 h2=>
   obtain⟨zs,y,rfl,hy⟩:=zop h2
   exact⟨_::zs,y,rfl,hy⟩
theorem zn4(c:Cnt):∀(t:T) (p:Pth),(evT c t p).2.length<=t.sz
 | .num i,p=>by rw [evT,T.sz]; exact Nat.le_refl _
 | .nm x,p=>by rw [evT,T.sz]; exact Nat.le_refl _
 | .op w a b,p=>by
  have h1:=zn4 c a (p++[0])
  have h2:=zn4 c b (p++[1])
  rw [evT,T.sz]
  rcases ea:evT c a (p++[0]) with⟨x,r1⟩
  rw [ea] at h1
  cases x with
  | ref u q=>dsimp only at h1 |-; omega
  | had x=>
   rcases eb:evT c b (p++[1]) with⟨y,r2⟩
   rw [eb] at h2
   cases y with
   | ref u q=>dsimp only at h1 h2 |-; rw [List.length_append]; omega
   | had y=>
    dsimp only at h1 h2 |-
    split
    ·rw [List.length_append]; omega
    ·simp only[List.length_append,List.length_singleton]; omega
theorem q24(rows:List Rw)(t:T)(ws:List Int):(evP rows [.set "x" t] ws).2.2=(evT (stB [] rows ws) t [0,0]).2:=by
 show(evB [] 0 [.set "x" t] (stB [] rows ws)).2.2=_
 have h:=zrb (stB [] rows ws) "x" t [0]
 rcases e:evD ([]++[0]) (.set "x" t) (stB [] rows ws) with⟨o,c1,r⟩
 have e':evD [0] (.set "x" t) (stB [] rows ws)=(o,c1,r):=e
 rw [e'] at h
 cases o with
 | some u=>rw [zja e]; exact h
 | none=>
  rw [zjb e,evB]
  show r++[]=_
  rw [List.append_nil]
  exact h
def FdC(U:Hp)(p2 pg:Addr)(rows:List Rw)(t:T)(wss:List (List Int))(i:Nat)(ys:List V)(σ':St)(H':Hp):Prop:=SameB p2 U H'/\TabAt p2 zv3 dT.qual H'/\(∃t,σ'=[t,some (.ref pg)])/\ys=((wss.take i).map fun ws=>t.val fun x=>(z7u (stB [] rows ws) x).getD 0).map V.int/\i<=wss.length
theorem g_i{g:TG}{x:V}{σ : St}{H:Hp}{b:St->Hp->Prop}(h:∀N:St->Hp->Prop,N=b->g x σ H N):g x σ H b:=h _ rfl
theorem zq1{p2:Addr}{bh:Bh} (F:Fun K "_law_for_one" "_law_for_one" z08 f fd) (b_enumerate:mg "enumerate" = none) (b_range:mg "range" = none) (b_tuple:mg "tuple" = none) (b_min:mg "min" = none) (b_max:mg "max" = none) (c_law_pick:Callee P w K mg base "_law_pick" ["_law_script","_law_k","_law_many"] 2 (zo4 K)) (c_law_once:Callee P w K mg base "_law_once" ["_law_script","_law_at","_law_deep","_law_left"] 6 (zhw 4))
  (c_shown:Callee P w K mg base "shown" ["program","paper"] 19 (zr5 K noQ bh 1)) (c_traced:Callee P w K mg base "traced" ["program","worths"] 22 (zo3 p2)):FnOk P w K mg base CX0 23 f fd ["_law_script"] (zo6 p2):=by
 refine F.ok sc_law_for_one (fun vs H Q E h=>?_) (fun cdv A outer s H vs Q E hr h=>?_)
 ·obtain⟨a,ns,rfl,_⟩:=h
  rfl
 obtain⟨a,ns,rfl,hS,hT,q⟩:=h
 refine⟨_,(z02 (z19 (i:=1) sc_law_for_one.nd rfl z7l (z95 z03) (z04 rfl))
 (z02 (z19 (i:=2) sc_law_for_one.nd rfl z3j (z95 (z09 (z1a z03) z03)) (z04 rfl))
 (z02 (ze2 PassesOwn.never rfl (zyo z7p b_enumerate (z09 (z95 (z09 z0y (z09 z0y (z09 z0y (z09 z0y z03))))) z03)) (zfx (n:=2) rfl (z2u (z1k (i:=3) sc_law_for_one.nd rfl z8q) (z2u (z1k (i:=4) sc_law_for_one.nd rfl z6w) zas)))
 (z02 (z19 (i:=5) sc_law_for_one.nd rfl z7k (z1n zk7 (z15 c_law_pick hr (by omega) (z09 (z00 (i:=0) rfl z1z z0k z0l) (z09 (z1n z5i z06 (z1n zae z06 (z00 (i:=3) rfl z4g z50 z51))) (z09 z06 z03))) z3v z3x) z06) (z04 rfl))
 (z02 (zd6 (zrv PySem.F.plainAttrs_list PySem.F.slot_list_append PySem.F.type_list_append zkc (z00 (i:=1) rfl z2n zb5 zb8) (z09 (z1a (z09 (z00 (i:=4) rfl z6p zl1 zl9) (z09 (z00 (i:=5) rfl z2m zb4 zb7) (z09 (z1n z5i (z00 (i:=5) rfl z2m zb4 zb7) (z15 c_law_pick hr (by omega) (z09 (z00 (i:=0) rfl z1z z0k z0l) (z09 (z1n z5i z06 (z1n zae z06 (z00 (i:=3) rfl z4g z50 z51))) (z09 z06 z03))) z3v z3x)) z03)))) z03)) (z04 rfl))
 (z02 (z19 (i:=6) sc_law_for_one.nd rfl z65 (z95 z03) (z04 rfl))
 (z02 (ze2 PassesOwn.never rfl (zfw (z00 (i:=2) rfl z3i zca zci)) (z1k (i:=7) sc_law_for_one.nd rfl z64)
 (z07 (zd6 (zrv PySem.F.plainAttrs_list PySem.F.slot_list_extend PySem.F.type_list_extend zkb (z00 (i:=6) rfl z38 zah zak) (z09 (z96 ["_law_worth","_law_worths"] [none,some 7] rfl (CompS.of (by rfl)) (zrp za7 b_range (z09 (z00 (i:=5) rfl z2m zb4 zb7) (z09 (z1n z5i (z0r z0g (z0r zdh (z00 (i:=1) rfl z2n zb5 zb8) (zv7 znx z06) (fun _ _=>rfl)) z06 (fun _ _=>rfl)) z06) z03))) (fun _ _ _ _ _=>(z1k (i:=0) (show List.Nodup (["_law_worth","_law_worths"]:List Str) from by decide+kernel) rfl (Or.inl rfl))) (fun _ _ _ _ _=>z81) (fun _ _ _ _ _=>(z1n (opK (r:=zfr) (K:=K) z2v rfl) (z00 (i:=1) rfl (by first | exact Or.inl rfl | exact Or.inr (Or.inl rfl) | exact Or.inr (Or.inr rfl)) zag zaj) (z1a (z09 (z00 (i:=0) rfl (by first | exact Or.inl rfl | exact Or.inr (Or.inl rfl) | exact Or.inr (Or.inr rfl)) zji zjn) z03))))) z03)) (z04 rfl))))
 (z07 (z19 (i:=2) sc_law_for_one.nd rfl z3j (z00 (i:=6) rfl z38 zah zak) (z04 rfl))))))))
 (z02 (z19 (i:=8) sc_law_for_one.nd rfl z6x (z15 c_law_once hr (by omega) (z09 (z00 (i:=0) rfl z1z z0k z0l) (z09 z06 (z09 z06 (z09 (z95 (z09 z0y (z09 z0y (z09 z0y (z09 z0y z03))))) z03)))) z7q z9j) (z04 rfl))
 (z02 (z19 (i:=9) sc_law_for_one.nd rfl z5m (z1a (z09 (zys zcj za5 b_tuple zf4 (z09 (z00 (i:=1) rfl z2n zb5 zb8) z03) zf1 zf2) (z09 (z1a (z09 (z1a (z09 z0y (z09 z0y (z09 (z00 (i:=8) rfl z6q zl3 zlb) z03)))) z03)) z03))) (z04 rfl))
 (z02 (z19 (i:=10) sc_law_for_one.nd rfl z6v (z15 c_shown hr (by omega) (z09 (z00 (i:=9) rfl z5j z9i z9l) (z09 (z1a z03) z03)) za6 zwd) (z04 rfl))
 (z02 (z1h (z0d (q47 hr.units) (z96 ["_law_row"] [none] rfl (CompS.of (by rfl)) (zfw (z00 (i:=10) rfl z3o ze6 ze7)) (fun _ _ _ _ _=>(z1k (i:=0) (show List.Nodup (["_law_row"]:List Str) from by decide+kernel) rfl (Or.inl rfl))) (fun _ _ _ _ _=>(zyn (PW.pt (zmf (z0d zvf (z0r (ixK (r:=zlm) (K:=K) z0g rfl) (z00 (i:=0) rfl (by first | exact Or.inl rfl | exact Or.inr (Or.inl rfl) | exact Or.inr (Or.inr rfl)) zb3 zb6) z06 (fun _ _=>rfl)) (zv7 znx z06) (z0j _)) (zfs (z0d zvg (z0r (ixK (r:=zlm) (K:=K) z0g rfl) (z00 (i:=0) rfl (by first | exact Or.inl rfl | exact Or.inr (Or.inl rfl) | exact Or.inr (Or.inr rfl)) zb3 zb6) z06 (fun _ _=>rfl)) z06 (z0j _))))))) (fun _ _ _ _ _=>(z00 (i:=0) rfl (by first | exact Or.inl rfl | exact Or.inr (Or.inl rfl) | exact Or.inr (Or.inr rfl)) zb3 zb6))) (z95 z03) (z0j _)) (z07 (z0b zpy)) z0f)
 (z02 (zrk (i:=11) ["_law_worths","_law_program"] [none,some 9] sc_law_for_one.nd rfl z69 rfl (CompS.of (by rfl)) (zfw (z00 (i:=2) rfl z3i zca zci)) (fun _ _ _ _ _=>(z1k (i:=0) (show List.Nodup (["_law_worths","_law_program"]:List Str) from by decide+kernel) rfl (Or.inl rfl))) (fun _ _ _ _ _=>z81) (fun _ _ _ _ _=>(z0r (ixK (r:=zlm) (K:=K) z0g rfl) (z0r (ixK (r:=zuz) (K:=K) zdh rfl) (z15 c_traced hr (by omega) (z09 (z00 (i:=1) rfl (by first | exact Or.inl rfl | exact Or.inr (Or.inl rfl) | exact Or.inr (Or.inr rfl)) z9i z9l) (z09 (z00 (i:=0) rfl (by first | exact Or.inl rfl | exact Or.inr (Or.inl rfl) | exact Or.inr (Or.inr rfl)) zag zaj) z03)) rfl ztk) (zv7 znx z06) (fun _ _=>rfl)) z06 (fun _ _=>rfl))))
 (z07 (z0b (z97 (dEq hr.units) (z0r zdh (z00 (i:=10) rfl z3o ze6 ze7) z06 (fun _ _=>rfl)) (z1a (z09 (z1a (z09 z06 (z09 z06 z03))) (z09 (z4q (zlc rfl) zby b_min zic (z09 (z00 (i:=11) rfl z3h zc9 zch) z03) zi2 zi8) (z09 (z4q (zld rfl) zbz b_max zid (z09 (z00 (i:=11) rfl z3h zc9 zch) z03) zi3 zi9) z03)))) (z0j _)))))))))))),z0s fun N1 e1=>?_⟩
 walk_at "ry"
 refine⟨Nat.zero_le _,fun pi hpi=>?_⟩
 rw [e1]
 refine z0s fun N2 e2=>?_
 walk_at "ry"
 have s1:=z05 hpi (HO.lst [])
 have h1:upd H pi (HO.lst []) pi=some (.lst []):=z01
 generalize upd H pi (HO.lst [])=H1 at s1 h1 |-
 refine⟨Nat.zero_le _,fun p0 hp0=>⟨by decide,fun pe hpe=>?_⟩⟩
 have s2:=z05 hp0 (HO.tup [])
 have s3:=z05 hpe (HO.lst [V.ref p0])
 have d0:Dt (upd (upd H1 p0 (HO.tup [])) pe (HO.lst [V.ref p0])) (.ref p0) (z4c []):=.tup (s3 _ _ z01) .nil
 have h3:upd (upd H1 p0 (HO.tup [])) pe (HO.lst [V.ref p0]) pe=some (.lst [V.ref p0]):=z01
 have npe:pe≠pi:=fun z=>by rw [z,s2 _ _ h1] at hpe; cases hpe
 generalize upd (upd H1 p0 (HO.tup [])) pe (HO.lst [V.ref p0])=H3 at s3 d0 h3 |-
 rw [e2]
 refine z0s fun N3 e3=>?_
 walk_at "ry"
 refine⟨by decide,fun pn hpn=>⟨⟨_,SqL.of z01⟩,?_⟩⟩
 have s4:=z05 hpn (HO.lst [V.str "a",V.str "b",V.str "c",V.str "d"])
 have h4:upd H3 pn (HO.lst [V.str "a",V.str "b",V.str "c",V.str "d"]) pn=some (.lst (pair.map V.str)):=z01
 have npn:pn≠pi:=fun z=>by rw [z,s3 _ _ (s2 _ _ h1)] at hpn; cases hpn
 generalize upd H3 pn (HO.lst [V.str "a",V.str "b",V.str "c",V.str "d"])=H4 at s4 h4 |-
 have s24:=s2.trans (s3.trans s4)
 refine zw7 (xs:=pair.map V.str) (FoI H a pn pi) ?start ?lst ?step ?done
 case start=>exact⟨pe,[],[.ref p0],[],_,_,_,_,_,_,_,_,_,rfl,s1.trans s24,hpi,h4,s24 _ _ h1,s4 _ _ h3,npe,npn,.nil,rfl,rfl,(fun r h=>by cases h),.cons (d0.kp s4.kp) .nil,by decide⟩
 case lst=>
  rintro i σ Hc _ ⟨pe,vs,es,rows,_,_,_,_,_,_,_,_,_,rfl,sc,_,hn,_⟩
  exact SqL.of hn
 case done=>
  rintro σ Hc ⟨pe,vs,es,rows,_,_,_,_,_,_,_,_,_,rfl,sc,_,hn,hi,he,nei,_,dv,hlen,hnm,hb,de,hle⟩
  show N3 _ _
  rw [e3]
  refine z0s fun N4 e4=>?_
  walk_at "ry"
  refine⟨by decide,fun pq hpq=>?_⟩
  have s5:=z05 hpq (HO.lst [V.str "a",V.str "b",V.str "c",V.str "d"])
  have h5:upd Hc pq (HO.lst [V.str "a",V.str "b",V.str "c",V.str "d"]) pq=some (.lst (pair.map V.str)):=z01
  generalize upd Hc pq (HO.lst [V.str "a",V.str "b",V.str "c",V.str "d"])=H5 at s5 h5 |-
  have naq:a≠pq:=z0h (sc _ _ hS) hpq
  refine⟨a,pq,ns,0,pair,3,rfl,s5 _ _ (sc _ _ hS),naq,Int.le_refl _,h5,zk6,by decide,fun rx H6 t g' s6 l6 dt ot hnt=>?_⟩
  have s56:Same Hc H6:=fun b o e=>s6 b o (z0h e hpq) (s5 _ _ e)
  have hi6:=s56 _ _ hi
  have he6:=s56 _ _ he
  have dv6:=dv.kp s56.kp
  have de6:=de.kp s56.kp
  rw [e4]
  refine z0s fun N5 e5=>?_
  walk_at "ry"
  refine⟨vs,.inl ⟨SqL.of hi6,fun ti hti=>⟨by decide,fun q1 hq1=>⟨by decide,fun q2 hq2=>⟨by decide,fun pg hpg=>?_⟩⟩⟩⟩⟩
  have t1:=z05 hti (HO.tup vs)
  have t2:=z05 hq1 (HO.tup [V.str "set",V.str "x",rx])
  have t3:=z05 hq2 (HO.tup [V.ref q1])
  have t4:=z05 hpg (HO.tup [V.ref ti,V.ref q2])
  have t14:=t1.trans (t2.trans (t3.trans t4))
  have dg:Dt (upd (upd (upd (upd H6 ti (HO.tup vs)) q1 (HO.tup [V.str "set",V.str "x",rx])) q2 (HO.tup [V.ref q1])) pg (HO.tup [V.ref ti,V.ref q2])) (.ref pg) (zfv rows [.set "x" t]):=
   .tup z01 (.cons (.tup (t4 _ _ (t3 _ _ (t2 _ _ z01))) (dv6.kp t14.kp)) (.cons (.tup (t4 _ _ z01) (.cons (.tup (t4 _ _ (t3 _ _ z01)) (.cons (.str _) (.cons (.str _) (.cons (dt.kp t14.kp) .nil)))) .nil)) .nil))
  generalize upd (upd (upd (upd H6 ti (HO.tup vs)) q1 (HO.tup [V.str "set",V.str "x",rx])) q2 (HO.tup [V.ref q1])) pg (HO.tup [V.ref ti,V.ref q2])=H7 at t14 dg |-
  have c7:Same H H7:=sc.trans (s56.trans t14)
  have he7:=t14 _ _ he6
  have de7:=de6.kp t14.kp
  have hnm:rows.map (·.1)=pair:=hnm
  obtain⟨RA,RB,RC,RD,rfl⟩:=zya hnm
  have ht:∀x∈t.nms,x∈pair:=fun x hx=>by rw [<- hnt]; exact List.mem_append_left _ hx
  have hnd:t.nms.Nodup:=(List.nodup_append.mp (hnt ▸ (by decide+kernel:pair.Nodup))).1
  rw [e5]
  refine z0s fun N6 e6=>?_
  walk_at "ry"
  have hsz:=zrx t 3 ot
  have enb:=zz4 bh (z1u RA RB RC RD) t
  rw [q2h] at enb
  have hkeys:∀k∈(notesB bh (z1u RA RB RC RD) [.set "x" t]).map (·.1),([0,0]:Pth) <+: k:=fun k hk=>by
   rw [enb] at hk
   rcases zii _ t [0,0] [] hk with h | h
   ·cases h
   ·exact h
  refine⟨Nat.zero_le _,fun p8 h8=>?_⟩
  have s8:=z05 h8 (HO.tup [])
  refine⟨_,p8,z1u RA RB RC RD,[.set "x" t],rfl,dg.kp s8.kp,z01,⟨fun d hd=>?_,?_,by decide⟩,fun q hq z=>?_,?_,fun lr ws ps H9 k9 hperm hpw h9 d9=>?_⟩
  ·rw [List.mem_singleton.mp hd]
   exact zn7 (zmk t 3 ot) (by decide)
  ·show 4+(t.sz+3+1)<=900
   omega
  ·have:=(hkeys q.1 (List.mem_map.mpr ⟨q,hq,rfl⟩)).length_le
   rw [z] at this
   exact absurd this (by decide)
  ·rw [enb]
   have:=z94 (zjs RA RB RC RD) t [0,0] []
   rw [List.length_nil] at this
   omega
  have c8:=c7.trans s8
  have T9:TabAt p2 zv3 dT.qual H9:=(TabAt.same hT c8).keeps k9
  have stay9:∀b o,LsT o->H b=some o->H9 b=some o:=fun b o ho e=>k9.a _ _ (zzd ho) (c8 _ _ e)
  have he9:=k9.l _ _ (s8 _ _ he7)
  have de9:=(de7.kp s8.kp).kp k9.kp
  have dg9:=(dg.kp s8.kp).kp k9.kp
  rw [enb] at hperm d9 hkeys
  generalize hnt9:(shS (zjs RA RB RC RD) t [0,0] []).2=nt at hperm d9 hkeys
  rw [e6]
  refine z0s fun N7 e7=>zr0 fun Y Z eY eZ=>?_
  walk_at "ry"
  have hps:ws.length=ps.length:=by rw [d9.length,List.length_map]
  have hpsl:ps.length<=60:=by
   rw [hperm.length_eq,List.length_map,<- hnt9]
   have:=z94 (zjs RA RB RC RD) t [0,0] []
   rw [List.length_nil] at this
   omega
  refine⟨⟨_,SqL.of h9⟩,?_⟩
  refine zce (xs:=ws) (RwC H9 ps nt) ⟨rfl,⟨_,rfl⟩,[],.nil,(fun q h=>by cases h),Nat.le_refl _,fun _ q h=>by cases h⟩ (by rw [hps]; exact z20 (by omega)) ?_ ?_ ?_ ?_
  ·rintro i ys σ' H' ⟨_,_,kept,dk,_,hl,_⟩
   rw [dk.length,List.length_map]
   exact hl
  ·rintro i ys σ' H' _ ⟨rfl,_⟩
   exact SqL.of h9
  ·rintro i ys x σ' H' hx ⟨rfl,⟨t0,rfl⟩,kept,dk,hkp,hl,hw⟩
   obtain⟨pp,hpp,dx⟩:=ze3 d9 hx
   have hmem:pp∈ps:=List.mem_of_getElem? hpp
   obtain⟨sp,hsp⟩:=zg6 (hperm.mem_iff.mp hmem)
   rw [zrg,hsp] at dx
   obtain⟨ra,r0,r1,r2,rfl,hra,u0,u1,u2⟩:=zwp dx
   cases u1; cases u2
   have keep:RwC H' ps nt (i+1) (ys++[.ref ra]) [some (.ref ra)] H':=⟨rfl,⟨_,rfl⟩,kept++[pp],by rw [List.map_append]; exact dk.append (.cons (by rw [zrg,hsp]; exact dx) .nil),(fun q hq=>by
    rcases List.mem_append.mp hq with hq | hq
    ·exact hkp q hq
    ·rw [List.mem_singleton.mp hq]; exact hmem),by rw [List.length_append,List.length_singleton]; omega,fun z=>by simp at z⟩
   walk_at "ry"
   refine⟨_,SqT.of hra,_,z1c (j:=1) rfl,_,rfl,?_⟩
   split
   ·exact keep
   ·rename_i h1
    refine⟨_,SqT.of hra,_,z1c (j:=2) rfl,_,rfl,?_⟩
    split
    ·exact keep
    ·rename_i h2
     refine⟨rfl,⟨_,rfl⟩,kept,dk,hkp,by omega,fun z q hq s hs=>?_⟩
     rw [z76 hpp] at hq
     rcases List.mem_append.mp hq with hq | hq
     ·exact hw z q hq s hs
     ·rw [List.mem_singleton.mp hq,hsp] at hs
      cases hs
      exact⟨by omega,by omega⟩
  ·rintro ys σ' H' ⟨rfl,_,kept,dk,hkp,hl,hw⟩ pz hpz
   refine⟨Nat.zero_le _,fun pw hpx=>?_⟩
   have u1:=z05 hpz (HO.lst ys)
   have u2:=z05 hpx (HO.lst [])
   refine⟨_,q26 (u2 _ _ z01) (dk.kp (u1.trans u2).kp) (fun e he=>by obtain⟨q,_,rfl⟩:=List.mem_map.mp he; exact zkv nt q) z01,?_⟩
   have u12:=u1.trans u2
   generalize upd (upd H' pz (HO.lst ys)) pw (HO.lst [])=H10 at u12 |-
   have T10:=TabAt.same T9 u12
   have stay10:∀b o,LsT o->H b=some o->H10 b=some o:=fun b o ho e=>u12 _ _ (stay9 _ _ ho e)
   split
   ·rw [eY]
    walk_at "ry"
    exact q _ T10 stay10
   rename_i hke
   have hke:kept=[]:=by
    cases kept with
    | nil=>rfl
    | cons _ _=>exact absurd rfl hke
   have hw:=hw hke
   rw [hps,List.take_length] at hw
   have hW:Wn (shS (zjs RA RB RC RD) t [0,0] []).2 [0,0]:=fun q s _ hs=>by
    rw [hnt9] at hs
    exact hw q (hperm.mem_iff.mpr (zg7 hs)) s hs
   have hbr:∀r∈z1u RA RB RC RD,r.2.1<=r.2.2:=fun r hr=>(hb r hr).2.1
   obtain⟨lo,hi,hlk,hfit,hall,⟨w1,f1,v1⟩,w2,f2,v2⟩:=q3g (A:=RA) (B:=RB) (C:=RC) (D:=RD) (hbr _ (.head _)) (hbr _ (.tail _ (.head _))) (hbr _ (.tail _ (.tail _ (.head _)))) (hbr _ (.tail _ (.tail _ (.tail _ (.head _))))) ot hnd ht hW
   rw [hnt9] at hlk
   rw [eZ]
   show N7 _ _
   rw [e7]
   refine z0s fun N8 e8=>?_
   walk_at "ry"
   have he10:=u12 _ _ he9
   have de10:=de9.kp u12.kp
   have dg10:=dg9.kp u12.kp
   have hel:es.length=(evs (z1u RA RB RC RD)).length:=by rw [de.length,List.length_map]
   have h81:(evs (z1u RA RB RC RD)).length<=81:=hle
   have hrow:okRows (z1u RA RB RC RD):=⟨Nat.le_refl _,hnm,fun r hr=>⟨(hb r hr).1,(hb r hr).2.1,(hb r hr).2.2.1⟩⟩
   have hok4:=zry t 3 pair ot ht
   have hokW:okW 4 [.set "x" t]:=⟨(show(1:Nat)<=7 by decide),fun d hd=>by
    rw [List.mem_singleton.mp hd]
    exact⟨List.mem_append_right pair (List.mem_singleton.mpr rfl),T.ok.mono zk6 hok4 (by decide)⟩⟩
   have hkb:kbB ((z1u RA RB RC RD).map (·.1)) [.set "x" t]=some (pair++[("x" : Str)]):=by
    rw [hnm]
    show(match (if t.knows pair=true then some (pair++[("x" : Str)]) else none) with | some q=>kbB q [] | none=>none)=_
    rw [if_pos (hok4.knows (Sub.refl _))]
    rfl
   refine⟨⟨_,SqL.of he10⟩,?_⟩
   have kpB:∀{W:Hp},SameB p2 H10 W->Kp H10 W:=fun {W} sB=>by
    rcases T10 with z | ⟨_,z,_⟩
    ·exact sB.kpT z
    ·exact sB.kpT z
   have stB':∀{W:Hp} {b:Addr} {o:HO},LsT o->SameB p2 H10 W->H10 b=some o->W b=some o:=fun {W b o} ho sB e=>sB _ _ (fun z=>by
    rcases T10 with z2 | ⟨_,z2,_⟩<;>(rw [z,z2] at e; cases e; rcases ho with⟨_,z3⟩ | ⟨_,_,z3⟩<;>cases z3)) e
   refine zce (xs:=es) (FdC H10 p2 pg (z1u RA RB RC RD) t (evs (z1u RA RB RC RD))) ⟨.of (Same.refl _),T10,⟨_,rfl⟩,by rw [List.take_zero]; rfl,Nat.zero_le _⟩ (by rw [hel]; exact z20 (by omega)) ?_ ?_ ?_ ?_
   ·rintro i ys σ' W ⟨_,_,_,ey,hi⟩
    rw [ey,List.length_map,List.length_map,List.length_take]
    omega
   ·rintro i ys σ' W _ ⟨sB,_⟩
    exact SqL.of (stB' (.inl ⟨_,rfl⟩) sB he10)
   ·rintro i ys x σ' W hx ⟨sB,TW,⟨t0,rfl⟩,ey,hi⟩
    obtain⟨wv,hwv,dw⟩:=ze3 (de10.kp (kpB sB)) hx
    have fw:=(zat _ wv).mp (List.mem_of_getElem? hwv)
    obtain⟨rs,ers⟩:=q4s (zzk fw) t 3 [0,0] ot hfit
    walk_at "ry"
    refine⟨_,_,z1u RA RB RC RD,[.set "x" t],wv,_,rfl,dg10.kp (kpB sB),dw,hrow,fw,hokW,hkb,?_,TW,fun l us W2 sB2 _ TW2 hl2 d2=>?_⟩
    ·rw [q24]
     have:=zn4 (stB [] (z1u RA RB RC RD) wv) t [0,0]
     exact z20 (by omega)
    rw [q24,ers,List.map_append] at d2
    obtain⟨zs,y,rfl,dy⟩:=zop d2
    obtain⟨ya,y0,y1,rfl,hya,u0,u1⟩:=zxt dy
    cases u1
    refine⟨_,rfl,_,SqL.of hl2,_,zp6 _ _,_,rfl,_,SqT.of hya,_,z1c (j:=1) rfl,sB.trans sB2,TW2,⟨_,rfl⟩,?_,?_⟩
    ·rw [z76 hwv,ey,List.map_append,List.map_append]
     rfl
    ·have:=(List.getElem?_eq_some_iff.mp hwv).1
     omega
   ·rintro ys σ' W ⟨sB,TW,_,ey,_⟩ pf hpf
    rw [hel,List.take_length] at ey
    have vv:=z05 hpf (HO.lst ys)
    have hf1:upd W pf (HO.lst ys) pf=some (.lst ys):=z01
    have TX:=TabAt.same TW vv
    have hlr:=vv _ _ (stB' (.inl ⟨_,rfl⟩) sB (u12 _ _ h9))
    have dlr:=((d9.kp u12.kp).kp (kpB sB)).kp vv.kp
    have stX:∀b o,LsT o->H b=some o->upd W pf (HO.lst ys) b=some o:=fun b o ho e=>vv _ _ (stB' ho sB (stay10 _ _ ho e))
    generalize upd W pf (HO.lst ys)=W1 at hf1 TX hlr dlr stX |-
    rw [e8]
    walk_at "ry"
    obtain⟨pr,eps⟩:=zw2 (hperm.mem_iff.mpr (zg7 hlk)) hpw (fun q hq=>hkeys q (hperm.mem_iff.mp hq))
    rw [eps,List.map_cons] at dlr
    obtain⟨x0,wr,ewr,dx0⟩:∃x0 wr,ws=x0::wr/\Dt W1 x0 (zrg nt [0,0]):=by
     cases dlr with
     | cons h1 h2=>exact⟨_,_,rfl,h1⟩
    rw [ewr] at hlr
    rw [zrg,hlk] at dx0
    have hne:0 < ((evs (z1u RA RB RC RD)).map fun ws=>t.val fun x=>(z7u (stB [] (z1u RA RB RC RD) ws) x).getD 0).length:=List.length_pos_of_mem (List.mem_map.mpr ⟨w1,(zat _ _).mpr f1,rfl⟩)
    refine⟨_,SqL.of hlr,_,z1t,by decide,fun z1 hz1=>?_⟩
    have x1:=z05 hz1 (HO.tup [V.int 0,V.int 0])
    rw [ey] at hf1
    refine⟨_,SqL.of (x1 _ _ hf1),hne,fun M1 m1 m2=>⟨_,SqL.of (x1 _ _ hf1),hne,fun M2 m3 m4=>⟨by decide,fun z2 hz2=>?_⟩⟩⟩
    have x2:=z05 hz2 (HO.tup [V.ref z1,V.int M1,V.int M2])
    have x12:=x1.trans x2
    have eM1:M1=lo:=by
     obtain⟨wa,ha,rfl⟩:=List.mem_map.mp m1
     have q1:=(hall wa ((zat _ _).mp ha)).1
     have q2:=m2 _ (List.mem_map.mpr ⟨w1,(zat _ _).mpr f1,rfl⟩)
     rw [v1] at q2
     omega
    have eM2:M2=hi:=by
     obtain⟨wa,ha,rfl⟩:=List.mem_map.mp m3
     have q1:=(hall wa ((zat _ _).mp ha)).2
     have q2:=m4 _ (List.mem_map.mpr ⟨w2,(zat _ _).mpr f2,rfl⟩)
     rw [v2] at q2
     omega
    have ff:Fine 3 (.tup [z4c [0,0],.int lo,.int hi]):=by
     have:=zkv nt [0,0]
     rw [zrg,hlk] at this
     exact this
    refine⟨true,⟨_,_,dx0.kp x12.kp,.tup z01 (.cons (.tup (x2 _ _ z01) (.cons (.int _) (.cons (.int _) .nil))) (.cons (.int _) (.cons (.int _) .nil))),ff.eq (by decide),?_,?_⟩,?_⟩
    ·rw [eM1,eM2]; exact ff.eq (by decide)
    ·rw [eM1,eM2]; exact(zw8 ff.2.1).symm
    ·exact q _ (TabAt.same TX x12) fun b o ho e=>x12 _ _ (stX b o ho e)
 case step=>
  rintro i x σ Hc T hx ⟨pe,vs,es,rows,_,_,_,_,_,_,_,_,_,rfl,sc,hin,hn,hi,he,nei,nni,dv,hlen,hnm,hb,de,hle⟩ hTn
  have hi4:i < 4:=by have:=(List.getElem?_eq_some_iff.mp hx).1; rw [List.length_map] at this; exact this
  obtain⟨xn,hxn,rfl⟩:∃y,pair[i]?=some y/\x=V.str y:=by
   rw [List.getElem?_map] at hx
   cases e:pair[i]? with
   | none=>rw [e] at hx; cases hx
   | some y=>rw [e] at hx; cases hx; exact⟨y,rfl,rfl⟩
  have s5:=z05 hTn (HO.tup [V.int i,V.str xn])
  have h5:upd Hc T (HO.tup [V.int i,V.str xn]) T=_:=z01
  generalize upd Hc T (HO.tup [V.int i,V.str xn])=H5 at s5 h5 |-
  refine g_i fun N5 e5=>?_
  walk_at "ry"
  refine⟨_,SqT.of h5,rfl,_,_,rfl,_,_,rfl,rfl,?_⟩
  rw [e5]
  refine z0s fun N6 e6=>?_
  walk_at "ry"
  have c5:=sc.trans s5
  refine⟨.inl ⟨by decide,by decide⟩,a,ns,_,9,rfl,SqL.of (c5 _ _ hS),by omega,by decide,fun lo H6 l0 l1 s6=>⟨_,rfl,?_⟩⟩
  rw [e6]
  refine z0s fun N7 e7=>?_
  walk_at "ry"
  have c6:=c5.trans s6
  have h6:=s6 _ _ (s5 _ _ hi)
  refine⟨.inl ⟨rfl,_,SqL.of h6⟩,.inl ⟨by decide,by decide⟩,a,ns,_,3,rfl,SqL.of (c6 _ _ hS),by omega,by decide,fun wd H7 w0 w1 s7=>⟨_,rfl,by decide,fun pt hpt=>?_⟩⟩
  have s8:=z05 hpt (HO.tup [V.str xn,V.int (lo - 4),V.int (lo - 4+wd)])
  have h8:upd H7 pt (HO.tup [V.str xn,V.int (lo - 4),V.int (lo - 4+wd)]) pt=_:=z01
  generalize upd H7 pt (HO.tup [V.str xn,V.int (lo - 4),V.int (lo - 4+wd)])=H8 at s8 h8 |-
  have s68:=s7.trans s8
  have hi8:=s68 _ _ h6
  have s58:=s5.trans (s6.trans s68)
  have hvl:vs.length<=4:=by rw [dv.length,List.length_map,hlen]; omega
  refine⟨_,hi8,Nat.lt_of_le_of_lt hvl (by decide),?_⟩
  have k9:Kp H8 (upd H8 pi (HO.lst (vs++[V.ref pt]))):=Kp.set hi8
  have c9:Same H (upd H8 pi (HO.lst (vs++[V.ref pt]))):=z9q (sc.trans s58) hin
  have h9:upd H8 pi (HO.lst (vs++[V.ref pt])) pi=some (.lst (vs++[V.ref pt])):=z01
  have hn9:upd H8 pi (HO.lst (vs++[V.ref pt])) pn=some (.lst (pair.map V.str)):=by rw [z0a nni]; exact s58 _ _ hn
  have he9:upd H8 pi (HO.lst (vs++[V.ref pt])) pe=some (.lst es):=by rw [z0a nei]; exact s58 _ _ he
  have ht9:=k9.t _ _ h8
  generalize upd H8 pi (HO.lst (vs++[V.ref pt]))=H9 at k9 c9 h9 hn9 he9 ht9 |-
  have dv9:DtA H9 (vs++[V.ref pt]) ((rows++[(xn,lo - 4,lo - 4+wd)]).map ze1):=by
   rw [List.map_append]
   exact((dv.kp s58.kp).kp k9).append (.cons (.tup ht9 (.cons (.str _) (.cons (.int _) (.cons (.int _) .nil)))) .nil)
  have de9:=(de.kp s58.kp).kp k9
  rw [e7]
  refine z0s fun N10 e10=>?_
  walk_at "ry"
  refine⟨Nat.zero_le _,fun pl hpl=>?_⟩
  have s10:=z05 hpl (HO.lst [])
  have h10:upd H9 pl (HO.lst []) pl=some (.lst []):=z01
  generalize upd H9 pl (HO.lst [])=H10 at s10 h10 |-
  rw [e10]
  refine z0s fun N11 e11=>?_
  walk_at "ry"
  have hel:es.length=(evs rows).length:=by rw [de.length,List.length_map]
  have h27:(evs rows).length<=27:=Nat.le_trans hle (Nat.le_trans (Nat.pow_le_pow_right (by decide) (show i<=3 by omega)) (by decide))
  refine⟨⟨_,SqL.of (s10 _ _ he9)⟩,?_⟩
  have npl:pl≠pi/\pl≠pe/\pl≠pn:=⟨(fun z=>by rw [z,h9] at hpl; cases hpl),(fun z=>by rw [z,he9] at hpl; cases hpl),(fun z=>by rw [z,hn9] at hpl; cases hpl)⟩
  have hpl0:=c9.free hpl
  refine zw6 (xs:=es) (FoJ H a pn pi pe pl (vs++[V.ref pt]) es (rows++[(xn,lo - 4,lo - 4+wd)]) (evs rows) (.int i) (.str xn) (.int (lo - 4)) (xn,lo - 4,lo - 4+wd)) ?st2 ?ls2 ?step2 ?done2
  case st2=>exact⟨[],_,_,_,_,_,rfl,c9.trans s10,s10 _ _ hn9,s10 _ _ h9,s10 _ _ he9,h10,dv9.kp s10.kp,de9.kp s10.kp,.nil⟩
  case ls2=>
   rintro j σ Hd _ ⟨ys,_,_,_,_,_,rfl,sd,_,_,hed,_⟩
   exact SqL.of hed
  case done2=>
   rintro σ Hd ⟨ys,_,_,_,_,_,rfl,sd,hnd,hid,hed,hld,dvd,ded,dyd⟩
   show N11 _ _
   rw [e11]
   walk_at "ry"
   rw [hel,List.take_length] at dyd
   refine⟨pl,_,ys,rows++[(xn,lo - 4,lo - 4+wd)],_,_,_,_,_,_,_,_,_,rfl,sd,hin,hnd,hid,hld,npl.1,nni,dvd,by rw [List.length_append,hlen]; rfl,?_,?_,by rw [zj9]; exact dyd,?_⟩
   ·rw [List.map_append,hnm,z76 hxn]; rfl
   ·intro r hr
    rcases List.mem_append.mp hr with hr | hr
    ·exact hb r hr
    ·rw [List.mem_singleton.mp hr]
     show -6<=lo - 4/\lo - 4<=lo - 4+wd/\lo - 4+wd<=8/\lo - 4+wd<=lo - 4+2
     omega
   ·rw [zj9,Nat.pow_succ,Nat.mul_comm]
    exact Nat.le_trans (zjw _ _ (by show lo - 4+wd<=lo - 4+2; omega)) (Nat.mul_le_mul_left _ hle)
  case step2=>
   rintro j y σ Hd hy ⟨ys,_,_,_,_,_,rfl,sd,hnd,hid,hed,hld,dvd,ded,dyd⟩
   obtain⟨ws,hwi,dw⟩:=ze3 ded hy
   have hvr:vs.length=rows.length:=by rw [dv.length,List.length_map]
   obtain⟨rr,hrr,drr⟩:=ze3 (i:=rows.length) dvd (by rw [<- hvr,List.getElem?_append_right (Nat.le_refl _),Nat.sub_self]; rfl)
   rw [List.getElem?_append_right (Nat.le_refl _),Nat.sub_self] at hrr
   cases hrr
   obtain⟨ra,r0,r1,r2,era,hra,t0,t1,t2⟩:=zwp drr
   cases era; cases t0; cases t1; cases t2
   have hwl:ws.length<=4:=by
    have h1:=((zat rows ws).mp (List.mem_of_getElem? hwi)).len
    omega
   walk_at "ry"
   refine⟨.inl ⟨rfl,_,SqL.of hld⟩,_,SqL.of hid,_,zp6 _ _,_,rfl,_,SqT.of hra,_,z1c (j:=2) rfl,_,rfl,_,_,⟨rfl,rfl⟩,⟨by omega,by omega,(show -(2 ^ 62)<=lo - 4+wd+1 by omega),(show lo - 4+wd+1 < 2 ^ 62 by omega)⟩,?_⟩
   have hnn:(lo - 4+wd+1 - (lo - 4)).toNat<=3:=by omega
   refine zwj (AwC Hd y ws (lo - 4)) ⟨Same.refl _,⟨_,rfl⟩,.nil,Nat.le_refl _⟩ (Nat.lt_of_le_of_lt hnn (by decide)) ?_ ?_ ?_
   ·rintro k zs σ' H' ⟨_,_,_,hz⟩
    exact hz
   ·rintro k zs σ' H' hk ⟨sU,⟨t,rfl⟩,dz,hz⟩
    walk_at "ry"
    refine⟨by decide,fun p1 h1=>?_⟩
    have t4:=z05 h1 (HO.tup [V.int (lo - 4+k)])
    refine zhq ((dw.kp sU.kp).kp t4.kp) zhc (by simp; omega) fun v H4 t5 dv=>?_
    have t45:=t4.trans t5
    refine⟨sU.trans t45,⟨_,rfl⟩,?_,by rw [List.length_append,List.length_singleton]; omega⟩
    rw [List.range_succ,List.map_append,List.map_append]
    exact(dz.kp t45.kp).append (.cons dv .nil)
   ·rintro zs σ' H' ⟨sU,_,dz,hz⟩ pz hpz
    have hz:zs.length<=3:=Nat.le_trans hz hnn
    have t6:=z05 hpz (HO.lst zs)
    have tU6:=sU.trans t6
    have hp6:=tU6 _ _ hld
    have hys:ys.length<=81:=by
     rw [dyd.length,List.length_map]
     refine Nat.le_trans (zjw _ _ (by show lo - 4+wd<=lo - 4+2; omega)) ?_
     rw [List.length_take]
     omega
    refine⟨pz,rfl,ys,hp6,zs,z01,Nat.le_of_lt (z20 (by omega)),?_⟩
    have k7:Kp (upd H' pz (HO.lst zs)) (upd (upd H' pz (HO.lst zs)) pl (HO.lst (ys++zs))):=Kp.set hp6
    have kk:=tU6.kp.trans k7
    refine⟨ys++zs,_,_,_,_,_,rfl,z9q (sd.trans tU6) hpl0,by rw [z0a npl.2.2.symm]; exact tU6 _ _ hnd,by rw [z0a npl.1.symm]; exact tU6 _ _ hid,by rw [z0a npl.2.1.symm]; exact tU6 _ _ hed,z01,dvd.kp kk,ded.kp kk,?_⟩
    rw [z76 hwi,zpj,List.map_append]
    exact(dyd.kp kk).append (dz.kp (t6.kp.trans k7))
end
def q3p(H:Hp)(rest:St)(ns:List Int)(p:Int->Bool)(f:Int->Int)(i:Nat)(ys:List V)(σ':St)(H':Hp):Prop:=Same H H'/\(∃t,σ'=t::rest)/\ys=(((ns.take i).filter p).map f).map V.int
theorem zty{K:PySem.W.Frag}{a:Addr}{ns:List Int}{g:TG}{tt:TT}{te:TE}{H:Hp}{Q:VK}{t0:Option V}{rest:St}(p:Int->Bool)(f:Int->Int)(hS:SqL K H a (ns.map V.int))(hn:ns.length<=1000)
  (hs:∀(n:Int) (t:Option V) (H':Hp) (R1:V->St->Hp->Prop) (R0:St->Hp->Prop),n∈ns->Same H H'->(p n=true->∀t H4,Same H H4->R1 (.int (f n)) (t::rest) H4)->(p n=false->∀t H3,Same H H3->R0 (t::rest) H3)->
   g (.int n) (t::rest) H' fun σ2 H2=>tt σ2 H2 fun b H3=>if b=true then te σ2 H3 (fun v H4=>R1 v σ2 H4) else R0 σ2 H3)
  (hd:∀(H':Hp) (l:Addr),Same H H'->H' l=none->Q (.ref l) (upd H' l (.lst (((ns.filter p).map f).map V.int)))):zaa (Itl K a) g tt te Q (t0::rest) H:=by
 refine zce (K:=K) (a:=a) (xs:=ns.map V.int) (q3p H rest ns p f) ⟨Same.refl _,⟨_,rfl⟩,rfl⟩ (z20 (by rw [List.length_map]; exact hn)) ?_ ?_ ?_ ?_
 ·rintro i ys σ' H' ⟨_,_,rfl⟩
  rw [List.length_map,List.length_map]
  exact Nat.le_trans (List.length_filter_le _ _) (by rw [List.length_take]; omega)
 ·rintro i ys σ' H' _ ⟨s,_,_⟩
  exact s.seq hS
 ·rintro i ys v σ' H' hxi ⟨s,⟨t,rfl⟩,rfl⟩
  rw [List.getElem?_map] at hxi
  cases hr':ns[i]? with
  | none=>rw [hr'] at hxi; cases hxi
  | some x=>
   rw [hr'] at hxi
   have ev:V.int x=v:=by simpa using hxi
   subst ev
   have et:ns.take (i+1)=ns.take i++[x]:=by rw [List.take_add_one,hr']; rfl
   refine hs x t H' (fun v σ2 H4=>q3p H rest ns p f (i+1) ((((ns.take i).filter p).map f).map V.int++[v]) σ2 H4) (fun σ2 H3=>q3p H rest ns p f (i+1) ((((ns.take i).filter p).map f).map V.int) σ2 H3) (List.mem_of_getElem? hr') s (fun e t H4 s4=>⟨s4,⟨t,rfl⟩,?_⟩) (fun e t H3 s3=>⟨s3,⟨t,rfl⟩,?_⟩)
   ·rw [et,List.filter_append,List.map_append,List.map_append]
    simp[e]
   ·rw [et,List.filter_append,List.map_append,List.map_append]
    simp[e]
 ·rintro ys σ' H' ⟨s,_,rfl⟩ l hl
  have:=hd H' l s hl
  rw [List.length_map,List.take_length]
  exact this
section
variable{P:Program}{w:World}{K:PySem.W.Frag}{mg:Str->Option Value}{base:Heap}{f:Addr}{fd:FuncData}
def q4x(K:PySem.W.Frag)(a p2:Addr)(ns:List Int)(j:Nat)(σ : St)(Hc:Hp):Prop:=(∃x1,σ = [some (.ref a),x1])/\TabAt p2 zv3 dT.qual Hc/\SqL K Hc a (ns.map V.int)
def zus(K:PySem.W.Frag)(p2:Addr):Sp:=fun vs H Q _=>∃(a:Addr) (ns:List Int),vs=[.ref a]/\SqL K H a (ns.map V.int)/\ns.length<=63/\H p2=some (.tbl #[])/\∀H',Q (.bl true) H'
theorem q1h{p2:Addr} (F:Fun K "law" "law" zd5 f fd) (b_range:mg "range" = none) (c_law_for_one:Callee P w K mg base "_law_for_one" ["_law_script"] 23 (zo6 p2)):FnOk P w K mg base CX0 24 f fd ["_law_script"] (zus K p2):=by
 refine F.ok sc_law (fun vs H Q E h=>?_) (fun cdv A outer s H vs Q E hr h=>?_)
 ·obtain⟨a,ns,rfl,_⟩:=h
  rfl
 obtain⟨a,ns,rfl,hS,hlen,hp2,q⟩:=h
 refine⟨_,(z02 (ze2 PassesOwn.never rfl (zrq zkr b_range (z09 z06 z03)) (z1k (i:=1) sc_law.nd rfl zdc)
 (z02 (z1h (zfu (zad (z15 c_law_for_one hr (by omega) (z09 (z96 ["_law_cell_here","_law_turn"] [none,some 1] rfl (CompS.of (by rfl)) (zfw (z00 (i:=0) rfl z5z z0k z0l)) (fun _ _ _ _ _=>(z1k (i:=0) (show List.Nodup (["_law_cell_here","_law_turn"]:List Str) from by decide+kernel) rfl (Or.inl rfl))) (fun _ _ _ _ _=>z81) (fun _ _ _ _ _=>(z1n z5i (z00 (i:=0) rfl (by first | exact Or.inl rfl | exact Or.inr (Or.inl rfl) | exact Or.inr (Or.inr rfl)) zdu zdw) (z1n zae z06 (z00 (i:=1) rfl (by first | exact Or.inl rfl | exact Or.inr (Or.inl rfl) | exact Or.inr (Or.inr rfl)) zl0 zl8))))) z03) zau zgv))) (z07 (z0b zpy)) z0f)
 (z07 (z1h (z0d (gEq hr.units) (z00 (i:=0) rfl z5z z0k z0l) (z95 z03) (z0j _)) (z07 zv2) z0f))))
 (z07 (z0b zpy))),z0s fun N1 e1=>?_⟩
 walk_at "ry"
 refine⟨by decide,by decide,?_⟩
 refine zt3 (lo:=0) (n:=4) (q4x K a p2 ns) ?start ?step ?done
 case start=>exact⟨⟨_,rfl⟩,.inl hp2,hS⟩
 case done=>
  rintro σ Hc _
  show N1 _ _
  rw [e1]
  exact q _
 case step=>
  rintro j σ Hc hj ⟨⟨x1,rfl⟩,hT,hS⟩
  refine g_i fun N2 e2=>?_
  walk_at "ry"
  rw [e2]
  refine z0s fun N3 e3=>?_
  walk_at "ry"
  refine⟨⟨_,hS⟩,?_⟩
  refine zty (t0:=none) (rest:=[some (V.int (0+(j:Int)))]) (fun _=>true) (fun y=>y+7919 * (0+(j:Int))) hS (by omega) ?_ ?_
  ·intro y t H' R1 R0 hy s hp1 hp0
   walk_at "ry"
   exact⟨.inl ⟨by decide,by decide⟩,hp1 rfl _ _ s⟩
  ·intro Ha pl t1 hpl
   have t2:=z05 hpl (HO.lst (((ns.filter fun _=>true).map fun y=>y+7919 * (0+(j:Int))).map V.int))
   refine⟨pl,_,rfl,z01,TabAt.same hT (t1.trans t2),fun Hb TB kb=>?_⟩
   have hSb:SqL K Hb a (ns.map V.int):=SqL.keepL ((t1.trans t2).seq hS) kb
   walk_at "ry"
   show N3 _ _
   rw [e3]
   walk_at "ry"
   refine⟨Nat.zero_le _,fun p hp=>⟨_,q27 ((z05 hp _).seq hSb) (zx4 ns) (SqL.of z01),?_⟩⟩
   split
   ·show N1 _ _
    rw [e1]
    exact q _
   ·exact⟨⟨_,rfl⟩,TabAt.same TB (z05 hp _),(z05 hp _).seq hSb⟩
end
section
variable{P:Program}{w:World}{K:PySem.W.Frag}{mg:Str->Option Value}{base:Heap}{f:Addr}{fd:FuncData}
theorem q1g{k:Nat}{ps:List Str}:FnOk P w K mg base CX0 k f fd ps (fun _ _ _ _=>False):=⟨fun _ _ _ _ h=>h.elim,fun _ _ _ _ _ _ _ _ _ _ _ _ _ h=>h.elim⟩
end
def bh0:Bh:=fun _ _ _=>none
theorem q1z:zh2 bh0:=fun _ _ _ _ h=>by cases h
theorem q35{K:PySem.W.Frag}{a:Addr}{o:Option Addr}{its:Array Value}{n:Nat}{l:Array (Option Value)}{xs:List V} (h:K.lookup a=some ⟨.type "tuple",o,.seq its n,l⟩) (r:Vals xs its.toList) (hz:its.size<=sizeLine:=by decide):∀H,SqT K H a xs:=fun H=>.inr ⟨_,_,_,h,rfl,rfl,hz,r⟩
theorem q2l{l:PySem.W.OpenLaw}{w:World}{K:PySem.W.Frag}{h:Heap}{mg:Str->Option Value}{fa f0 f1 f2 f3 f4 f5 f6 f7 f8 f9 f10 f11 f12 f13 f14 f15 f16 f17 f18 f19 f20 f21 f22 f23 f24 f25 f26 f27 f28 f29 f30 f31 f32 f33 f34 f35 f36 f37 f38 f39 f40 f41:Addr}(X:K.In h)(G:h.Ns mainGlobals mg) (hfa:mg "law" = some (.ref fa))
  {od0 an0 od1 an1 od2 an2 od3 an3 od4 an4 od5 an5 od6 an6 od7 an7 od8 an8 od9 an9 od10 an10 od11 an11 od12 an12 od13 an13 od14 an14 od15 an15 od16 an16 od17 an17 od18 an18 od19 an19 od20 an20 od21 an21 od22 an22 od23 an23 od24 an24 od25 an25 od26 an26 od27 an27 od28 an28 od29 an29 od30 an30 od31 an31 od32 an32 od33 an33 od34 an34 od35 an35 od36 an36 od37 an37 od38 an38 od39 an39 od40 an40 od41 an41:Option Addr} {sl0 sl1 sl2 sl3 sl4 sl5 sl6 sl7 sl8 sl9 sl10 sl11 sl12 sl13 sl14 sl15 sl16 sl17 sl18 sl19 sl20 sl21 sl22 sl23 sl24 sl25 sl26 sl27 sl28 sl29 sl30 sl31 sl32 sl33 sl34 sl35 sl36 sl37 sl38 sl39 sl40 sl41:Array (Option Value)} {oc0 kV0 dc0 pm0 ct0 cd0 oc1 kV1 dc1 pm1 ct1 cd1 oc2 kV2 dc2 pm2 ct2 cd2 oc3 kV3 dc3 pm3 ct3 cd3 oc4 kV4 dc4 pm4 ct4 oc5 kV5 dc5 pm5 ct5 cd5 oc6 kV6 dc6 pm6 ct6 cd6 oc7 kV7 dc7 pm7 ct7 cd7 oc8 kV8 dc8 pm8 ct8 cd8 oc9 kV9 dc9 pm9 ct9 cd9 oc10 kV10 dc10 pm10 ct10 cd10 oc11 kV11 dc11 pm11 ct11 cd11 oc12 kV12 dc12 pm12 ct12 cd12 oc13 kV13 dc13 pm13 ct13 cd13 oc14 kV14 dc14 pm14 ct14 cd14 oc15 kV15 dc15 pm15 ct15 cd15 oc16 kV16 dc16 pm16 ct16 cd16 oc17 kV17 dc17 pm17 ct17 cd17 oc18 kV18 dc18 pm18 ct18 cd18 oc19 kV19 dc19 pm19 ct19 cd19 oc20 kV20 dc20 pm20 ct20 cd20 oc21 kV21 dc21 pm21 ct21 cd21 oc22 kV22 dc22 pm22 ct22 cd22 oc23 kV23 dc23 pm23 ct23 cd23 oc24 kV24 dc24 pm24 ct24 cd24 oc25 kV25 dc25 pm25 ct25 cd25 oc26 kV26 dc26 pm26 ct26 cd26 oc27 kV27 dc27 pm27 ct27 cd27 oc28 kV28 dc28 pm28 ct28 cd28 oc29 kV29 dc29 pm29 ct29 cd29 oc30 kV30 dc30 pm30 ct30 cd30 oc31 kV31 dc31 pm31 ct31 cd31 oc32 kV32 dc32 pm32 ct32 cd32 oc33 kV33 dc33 pm33 ct33 cd33 oc34 kV34 dc34 pm34 ct34 cd34 oc35 kV35 dc35 pm35 ct35 cd35 oc36 kV36 dc36 pm36 ct36 cd36 oc37 kV37 dc37 pm37 ct37 cd37 oc38 kV38 dc38 pm38 ct38 cd38 oc39 kV39 dc39 pm39 ct39 cd39 oc40 kV40 dc40 pm40 ct40 cd40 oc41 kV41 dc41 pm41 ct41 cd41:Value}
  {e4:Addr} {t4:Addr}
  {ai:Addr} {oi:Option Addr} {ni:Nat} {li:Array (Option Value)} {ti0 ti1:Tok} {a_Walk:Addr}
  (a0:PySem.W.nsIn K mainGlobals "is_whole" = some (some (.ref f0))) (l0:K.lookup f0=some ⟨oc0,od0,.func (PySem.W.fnOf "is_whole" "is_whole" (defArgs z2o) (defBody z2o) (defScope z2o) .none kV0 dc0 pm0 an0 cd0 ct0),sl0⟩) (c0:PySem.W.codeIn K cd0 "is_whole" = true) (k0:PySem.W.keepIn K (.ref f0)=true)
  (a1:PySem.W.nsIn K mainGlobals "is_whole_from" = some (some (.ref f1))) (l1:K.lookup f1=some ⟨oc1,od1,.func (PySem.W.fnOf "is_whole_from" "is_whole_from" (defArgs z0z) (defBody z0z) (defScope z0z) .none kV1 dc1 pm1 an1 cd1 ct1),sl1⟩) (c1:PySem.W.codeIn K cd1 "is_whole_from" = true) (k1:PySem.W.keepIn K (.ref f1)=true)
  (a2:PySem.W.nsIn K mainGlobals "is_tuple_of" = some (some (.ref f2))) (l2:K.lookup f2=some ⟨oc2,od2,.func (PySem.W.fnOf "is_tuple_of" "is_tuple_of" (defArgs z17) (defBody z17) (defScope z17) .none kV2 dc2 pm2 an2 cd2 ct2),sl2⟩) (c2:PySem.W.codeIn K cd2 "is_tuple_of" = true) (k2:PySem.W.keepIn K (.ref f2)=true)
  (a3:PySem.W.nsIn K mainGlobals "are_rising_rows" = some (some (.ref f3))) (l3:K.lookup f3=some ⟨oc3,od3,.func (PySem.W.fnOf "are_rising_rows" "are_rising_rows" (defArgs z0o) (defBody z0o) (defScope z0o) .none kV3 dc3 pm3 an3 cd3 ct3),sl3⟩) (c3:PySem.W.codeIn K cd3 "are_rising_rows" = true) (k3:PySem.W.keepIn K (.ref f3)=true)
  (a4:PySem.W.nsIn K mainGlobals "traced" = some (some (.ref f4))) (l4:K.lookup f4=some ⟨oc4,od4,.func (PySem.W.fnOf "traced" "traced" (defArgs z2c) (defBody z2c) (defScope z2c) .none kV4 dc4 pm4 an4 (.ref e4) ct4),sl4⟩) (c4:PySem.W.codeIn K (.ref e4) "traced" = true) (k4:PySem.W.keepIn K (.ref f4)=true)
  (a5:PySem.W.nsIn K mainGlobals "run_by" = some (some (.ref f5))) (l5:K.lookup f5=some ⟨oc5,od5,.func (PySem.W.fnOf "run_by" "run_by" (defArgs z23) (defBody z23) (defScope z23) .none kV5 dc5 pm5 an5 cd5 ct5),sl5⟩) (c5:PySem.W.codeIn K cd5 "run_by" = true) (k5:PySem.W.keepIn K (.ref f5)=true)
  (a6:PySem.W.nsIn K mainGlobals "settled" = some (some (.ref f6))) (l6:K.lookup f6=some ⟨oc6,od6,.func (PySem.W.fnOf "settled" "settled" (defArgs z39) (defBody z39) (defScope z39) .none kV6 dc6 pm6 an6 cd6 ct6),sl6⟩) (c6:PySem.W.codeIn K cd6 "settled" = true) (k6:PySem.W.keepIn K (.ref f6)=true)
  (a7:PySem.W.nsIn K mainGlobals "names_at_first" = some (some (.ref f7))) (l7:K.lookup f7=some ⟨oc7,od7,.func (PySem.W.fnOf "names_at_first" "names_at_first" (defArgs z0c) (defBody z0c) (defScope z0c) .none kV7 dc7 pm7 an7 cd7 ct7),sl7⟩) (c7:PySem.W.codeIn K cd7 "names_at_first" = true) (k7:PySem.W.keepIn K (.ref f7)=true)
  (a8:PySem.W.nsIn K mainGlobals "do_block" = some (some (.ref f8))) (l8:K.lookup f8=some ⟨oc8,od8,.func (PySem.W.fnOf "do_block" "do_block" (defArgs z0x) (defBody z0x) (defScope z0x) .none kV8 dc8 pm8 an8 cd8 ct8),sl8⟩) (c8:PySem.W.codeIn K cd8 "do_block" = true) (k8:PySem.W.keepIn K (.ref f8)=true)
  (a9:PySem.W.nsIn K mainGlobals "do_deed" = some (some (.ref f9))) (l9:K.lookup f9=some ⟨oc9,od9,.func (PySem.W.fnOf "do_deed" "do_deed" (defArgs z21) (defBody z21) (defScope z21) .none kV9 dc9 pm9 an9 cd9 ct9),sl9⟩) (c9:PySem.W.codeIn K cd9 "do_deed" = true) (k9:PySem.W.keepIn K (.ref f9)=true)
  (a10:PySem.W.nsIn K mainGlobals "do_set" = some (some (.ref f10))) (l10:K.lookup f10=some ⟨oc10,od10,.func (PySem.W.fnOf "do_set" "do_set" (defArgs z2t) (defBody z2t) (defScope z2t) .none kV10 dc10 pm10 an10 cd10 ct10),sl10⟩) (c10:PySem.W.codeIn K cd10 "do_set" = true) (k10:PySem.W.keepIn K (.ref f10)=true)
  (a11:PySem.W.nsIn K mainGlobals "do_if" = some (some (.ref f11))) (l11:K.lookup f11=some ⟨oc11,od11,.func (PySem.W.fnOf "do_if" "do_if" (defArgs z3k) (defBody z3k) (defScope z3k) .none kV11 dc11 pm11 an11 cd11 ct11),sl11⟩) (c11:PySem.W.codeIn K cd11 "do_if" = true) (k11:PySem.W.keepIn K (.ref f11)=true)
  (a12:PySem.W.nsIn K mainGlobals "do_while" = some (some (.ref f12))) (l12:K.lookup f12=some ⟨oc12,od12,.func (PySem.W.fnOf "do_while" "do_while" (defArgs z0w) (defBody z0w) (defScope z0w) .none kV12 dc12 pm12 an12 cd12 ct12),sl12⟩) (c12:PySem.W.codeIn K cd12 "do_while" = true) (k12:PySem.W.keepIn K (.ref f12)=true)
  (a13:PySem.W.nsIn K mainGlobals "reckon" = some (some (.ref f13))) (l13:K.lookup f13=some ⟨oc13,od13,.func (PySem.W.fnOf "reckon" "reckon" (defArgs z24) (defBody z24) (defScope z24) .none kV13 dc13 pm13 an13 cd13 ct13),sl13⟩) (c13:PySem.W.codeIn K cd13 "reckon" = true) (k13:PySem.W.keepIn K (.ref f13)=true)
  (a14:PySem.W.nsIn K mainGlobals "worth_of" = some (some (.ref f14))) (l14:K.lookup f14=some ⟨oc14,od14,.func (PySem.W.fnOf "worth_of" "worth_of" (defArgs z29) (defBody z29) (defScope z29) .none kV14 dc14 pm14 an14 cd14 ct14),sl14⟩) (c14:PySem.W.codeIn K cd14 "worth_of" = true) (k14:PySem.W.keepIn K (.ref f14)=true)
  (a15:PySem.W.nsIn K mainGlobals "joined" = some (some (.ref f15))) (l15:K.lookup f15=some ⟨oc15,od15,.func (PySem.W.fnOf "joined" "joined" (defArgs z46) (defBody z46) (defScope z46) .none kV15 dc15 pm15 an15 cd15 ct15),sl15⟩) (c15:PySem.W.codeIn K cd15 "joined" = true) (k15:PySem.W.keepIn K (.ref f15)=true)
  (a16:PySem.W.nsIn K mainGlobals "met" = some (some (.ref f16))) (l16:K.lookup f16=some ⟨oc16,od16,.func (PySem.W.fnOf "met" "met" (defArgs zed) (defBody zed) (defScope zed) .none kV16 dc16 pm16 an16 cd16 ct16),sl16⟩) (c16:PySem.W.codeIn K cd16 "met" = true) (k16:PySem.W.keepIn K (.ref f16)=true)
  (a17:PySem.W.nsIn K mainGlobals "between" = some (some (.ref f17))) (l17:K.lookup f17=some ⟨oc17,od17,.func (PySem.W.fnOf "between" "between" (defArgs z47) (defBody z47) (defScope z47) .none kV17 dc17 pm17 an17 cd17 ct17),sl17⟩) (c17:PySem.W.codeIn K cd17 "between" = true) (k17:PySem.W.keepIn K (.ref f17)=true)
  (a18:PySem.W.nsIn K mainGlobals "stretch_of" = some (some (.ref f18))) (l18:K.lookup f18=some ⟨oc18,od18,.func (PySem.W.fnOf "stretch_of" "stretch_of" (defArgs z0n) (defBody z0n) (defScope z0n) .none kV18 dc18 pm18 an18 cd18 ct18),sl18⟩) (c18:PySem.W.codeIn K cd18 "stretch_of" = true) (k18:PySem.W.keepIn K (.ref f18)=true)
  (a19:PySem.W.nsIn K mainGlobals "stretch_of_same" = some (some (.ref f19))) (l19:K.lookup f19=some ⟨oc19,od19,.func (PySem.W.fnOf "stretch_of_same" "stretch_of_same" (defArgs z0i) (defBody z0i) (defScope z0i) .none kV19 dc19 pm19 an19 cd19 ct19),sl19⟩) (c19:PySem.W.codeIn K cd19 "stretch_of_same" = true) (k19:PySem.W.keepIn K (.ref f19)=true)
  (a20:PySem.W.nsIn K mainGlobals "stretch_of_ends" = some (some (.ref f20))) (l20:K.lookup f20=some ⟨oc20,od20,.func (PySem.W.fnOf "stretch_of_ends" "stretch_of_ends" (defArgs z0m) (defBody z0m) (defScope z0m) .none kV20 dc20 pm20 an20 cd20 ct20),sl20⟩) (c20:PySem.W.codeIn K cd20 "stretch_of_ends" = true) (k20:PySem.W.keepIn K (.ref f20)=true)
  (a21:PySem.W.nsIn K mainGlobals "shown" = some (some (.ref f21))) (l21:K.lookup f21=some ⟨oc21,od21,.func (PySem.W.fnOf "shown" "shown" (defArgs z4p) (defBody z4p) (defScope z4p) .none kV21 dc21 pm21 an21 cd21 ct21),sl21⟩) (c21:PySem.W.codeIn K cd21 "shown" = true) (k21:PySem.W.keepIn K (.ref f21)=true)
  (a22:PySem.W.nsIn K mainGlobals "notes_by" = some (some (.ref f22))) (l22:K.lookup f22=some ⟨oc22,od22,.func (PySem.W.fnOf "notes_by" "notes_by" (defArgs z2a) (defBody z2a) (defScope z2a) .none kV22 dc22 pm22 an22 cd22 ct22),sl22⟩) (c22:PySem.W.codeIn K cd22 "notes_by" = true) (k22:PySem.W.keepIn K (.ref f22)=true)
  (a23:PySem.W.nsIn K mainGlobals "walk_by_paper" = some (some (.ref f23))) (l23:K.lookup f23=some ⟨oc23,od23,.func (PySem.W.fnOf "walk_by_paper" "walk_by_paper" (defArgs z0e) (defBody z0e) (defScope z0e) .none kV23 dc23 pm23 an23 cd23 ct23),sl23⟩) (c23:PySem.W.codeIn K cd23 "walk_by_paper" = true) (k23:PySem.W.keepIn K (.ref f23)=true)
  (a24:PySem.W.nsIn K mainGlobals "is_paper_row" = some (some (.ref f24))) (l24:K.lookup f24=some ⟨oc24,od24,.func (PySem.W.fnOf "is_paper_row" "is_paper_row" (defArgs z3p) (defBody z3p) (defScope z3p) .none kV24 dc24 pm24 an24 cd24 ct24),sl24⟩) (c24:PySem.W.codeIn K cd24 "is_paper_row" = true) (k24:PySem.W.keepIn K (.ref f24)=true)
  (a25:PySem.W.nsIn K mainGlobals "heads_of" = some (some (.ref f25))) (l25:K.lookup f25=some ⟨oc25,od25,.func (PySem.W.fnOf "heads_of" "heads_of" (defArgs z1g) (defBody z1g) (defScope z1g) .none kV25 dc25 pm25 an25 cd25 ct25),sl25⟩) (c25:PySem.W.codeIn K cd25 "heads_of" = true) (k25:PySem.W.keepIn K (.ref f25)=true)
  (a26:PySem.W.nsIn K mainGlobals "book_of" = some (some (.ref f26))) (l26:K.lookup f26=some ⟨oc26,od26,.func (PySem.W.fnOf "book_of" "book_of" (defArgs z1p) (defBody z1p) (defScope z1p) .none kV26 dc26 pm26 an26 cd26 ct26),sl26⟩) (c26:PySem.W.codeIn K cd26 "book_of" = true) (k26:PySem.W.keepIn K (.ref f26)=true)
  (a27:PySem.W.nsIn K mainGlobals "is_held" = some (some (.ref f27))) (l27:K.lookup f27=some ⟨oc27,od27,.func (PySem.W.fnOf "is_held" "is_held" (defArgs z3a) (defBody z3a) (defScope z3a) .none kV27 dc27 pm27 an27 cd27 ct27),sl27⟩) (c27:PySem.W.codeIn K cd27 "is_held" = true) (k27:PySem.W.keepIn K (.ref f27)=true)
  (a28:PySem.W.nsIn K mainGlobals "is_book_within" = some (some (.ref f28))) (l28:K.lookup f28=some ⟨oc28,od28,.func (PySem.W.fnOf "is_book_within" "is_book_within" (defArgs z30) (defBody z30) (defScope z30) .none kV28 dc28 pm28 an28 cd28 ct28),sl28⟩) (c28:PySem.W.codeIn K cd28 "is_book_within" = true) (k28:PySem.W.keepIn K (.ref f28)=true)
  (a29:PySem.W.nsIn K mainGlobals "walked" = some (some (.ref f29))) (l29:K.lookup f29=some ⟨oc29,od29,.func (PySem.W.fnOf "walked" "walked" (defArgs z37) (defBody z37) (defScope z37) .none kV29 dc29 pm29 an29 cd29 ct29),sl29⟩) (c29:PySem.W.codeIn K cd29 "walked" = true) (k29:PySem.W.keepIn K (.ref f29)=true)
  (a30:PySem.W.nsIn K mainGlobals "go_block" = some (some (.ref f30))) (l30:K.lookup f30=some ⟨oc30,od30,.func (PySem.W.fnOf "go_block" "go_block" (defArgs z14) (defBody z14) (defScope z14) .none kV30 dc30 pm30 an30 cd30 ct30),sl30⟩) (c30:PySem.W.codeIn K cd30 "go_block" = true) (k30:PySem.W.keepIn K (.ref f30)=true)
  (a31:PySem.W.nsIn K mainGlobals "go_deed" = some (some (.ref f31))) (l31:K.lookup f31=some ⟨oc31,od31,.func (PySem.W.fnOf "go_deed" "go_deed" (defArgs z2e) (defBody z2e) (defScope z2e) .none kV31 dc31 pm31 an31 cd31 ct31),sl31⟩) (c31:PySem.W.codeIn K cd31 "go_deed" = true) (k31:PySem.W.keepIn K (.ref f31)=true)
  (a32:PySem.W.nsIn K mainGlobals "go_set" = some (some (.ref f32))) (l32:K.lookup f32=some ⟨oc32,od32,.func (PySem.W.fnOf "go_set" "go_set" (defArgs z2d) (defBody z2d) (defScope z2d) .none kV32 dc32 pm32 an32 cd32 ct32),sl32⟩) (c32:PySem.W.codeIn K cd32 "go_set" = true) (k32:PySem.W.keepIn K (.ref f32)=true)
  (a33:PySem.W.nsIn K mainGlobals "go_if" = some (some (.ref f33))) (l33:K.lookup f33=some ⟨oc33,od33,.func (PySem.W.fnOf "go_if" "go_if" (defArgs zfp) (defBody zfp) (defScope zfp) .none kV33 dc33 pm33 an33 cd33 ct33),sl33⟩) (c33:PySem.W.codeIn K cd33 "go_if" = true) (k33:PySem.W.keepIn K (.ref f33)=true)
  (a34:PySem.W.nsIn K mainGlobals "go_while" = some (some (.ref f34))) (l34:K.lookup f34=some ⟨oc34,od34,.func (PySem.W.fnOf "go_while" "go_while" (defArgs z7e) (defBody z7e) (defScope z7e) .none kV34 dc34 pm34 an34 cd34 ct34),sl34⟩) (c34:PySem.W.codeIn K cd34 "go_while" = true) (k34:PySem.W.keepIn K (.ref f34)=true)
  (a35:PySem.W.nsIn K mainGlobals "show" = some (some (.ref f35))) (l35:K.lookup f35=some ⟨oc35,od35,.func (PySem.W.fnOf "show" "show" (defArgs z4h) (defBody z4h) (defScope z4h) .none kV35 dc35 pm35 an35 cd35 ct35),sl35⟩) (c35:PySem.W.codeIn K cd35 "show" = true) (k35:PySem.W.keepIn K (.ref f35)=true)
  (a36:PySem.W.nsIn K mainGlobals "noted" = some (some (.ref f36))) (l36:K.lookup f36=some ⟨oc36,od36,.func (PySem.W.fnOf "noted" "noted" (defArgs z5a) (defBody z5a) (defScope z5a) .none kV36 dc36 pm36 an36 cd36 ct36),sl36⟩) (c36:PySem.W.codeIn K cd36 "noted" = true) (k36:PySem.W.keepIn K (.ref f36)=true)
  (a37:PySem.W.nsIn K mainGlobals "_law_cell" = some (some (.ref f37))) (l37:K.lookup f37=some ⟨oc37,od37,.func (PySem.W.fnOf "_law_cell" "_law_cell" (defArgs z31) (defBody z31) (defScope z31) .none kV37 dc37 pm37 an37 cd37 ct37),sl37⟩) (c37:PySem.W.codeIn K cd37 "_law_cell" = true) (k37:PySem.W.keepIn K (.ref f37)=true)
  (a38:PySem.W.nsIn K mainGlobals "_law_pick" = some (some (.ref f38))) (l38:K.lookup f38=some ⟨oc38,od38,.func (PySem.W.fnOf "_law_pick" "_law_pick" (defArgs z1x) (defBody z1x) (defScope z1x) .none kV38 dc38 pm38 an38 cd38 ct38),sl38⟩) (c38:PySem.W.codeIn K cd38 "_law_pick" = true) (k38:PySem.W.keepIn K (.ref f38)=true)
  (a39:PySem.W.nsIn K mainGlobals "_law_once" = some (some (.ref f39))) (l39:K.lookup f39=some ⟨oc39,od39,.func (PySem.W.fnOf "_law_once" "_law_once" (defArgs z13) (defBody z13) (defScope z13) .none kV39 dc39 pm39 an39 cd39 ct39),sl39⟩) (c39:PySem.W.codeIn K cd39 "_law_once" = true) (k39:PySem.W.keepIn K (.ref f39)=true)
  (a40:PySem.W.nsIn K mainGlobals "_law_for_one" = some (some (.ref f40))) (l40:K.lookup f40=some ⟨oc40,od40,.func (PySem.W.fnOf "_law_for_one" "_law_for_one" (defArgs z08) (defBody z08) (defScope z08) .none kV40 dc40 pm40 an40 cd40 ct40),sl40⟩) (c40:PySem.W.codeIn K cd40 "_law_for_one" = true) (k40:PySem.W.keepIn K (.ref f40)=true)
  (a41:PySem.W.nsIn K mainGlobals "law" = some (some (.ref f41))) (l41:K.lookup f41=some ⟨oc41,od41,.func (PySem.W.fnOf "law" "law" (defArgs zd5) (defBody zd5) (defScope zd5) .none kV41 dc41 pm41 an41 cd41 ct41),sl41⟩) (c41:PySem.W.codeIn K cd41 "law" = true) (k41:PySem.W.keepIn K (.ref f41)=true)
  (x_Walk:PySem.W.nsIn K mainGlobals "Walk" = some (some (.ref a_Walk)))
  {fm_Walk_init:Addr} {od_Walk_init an_Walk_init:Option Addr} {sl_Walk_init:Array (Option Value)} {oc_Walk_init kV_Walk_init dc_Walk_init pm_Walk_init cd_Walk_init ct_Walk_init:Value} (ma_Walk_init:PySem.W.findIn K (.ref a_Walk) "__init__" = some (some (.ref fm_Walk_init))) (ml_Walk_init:K.lookup fm_Walk_init=some ⟨oc_Walk_init,od_Walk_init,.func (PySem.W.fnOf "__init__" "Walk.__init__" (defArgs z3b) (defBody z3b) (defScope z3b) .none kV_Walk_init dc_Walk_init pm_Walk_init an_Walk_init cd_Walk_init ct_Walk_init),sl_Walk_init⟩) (mc_Walk_init:PySem.W.codeIn K cd_Walk_init "Walk.__init__" = true) (mf_Walk_init:PySem.W.isFn K (.ref fm_Walk_init)=true) (mk_Walk_init:PySem.W.keepIn K (.ref fm_Walk_init)=true)
  (z_all:PySem.W.nsIn K mainGlobals "all" = some none)
  (z_bool:PySem.W.nsIn K mainGlobals "bool" = some none)
  (z_dict:PySem.W.nsIn K mainGlobals "dict" = some none)
  (z_enumerate:PySem.W.nsIn K mainGlobals "enumerate" = some none)
  (z_int:PySem.W.nsIn K mainGlobals "int" = some none)
  (z_isinstance:PySem.W.nsIn K mainGlobals "isinstance" = some none)
  (z_len:PySem.W.nsIn K mainGlobals "len" = some none)
  (z_max:PySem.W.nsIn K mainGlobals "max" = some none)
  (z_min:PySem.W.nsIn K mainGlobals "min" = some none)
  (z_range:PySem.W.nsIn K mainGlobals "range" = some none)
  (z_sorted:PySem.W.nsIn K mainGlobals "sorted" = some none)
  (z_tuple:PySem.W.nsIn K mainGlobals "tuple" = some none)
  (z_zip:PySem.W.nsIn K mainGlobals "zip" = some none)
  (pw:PySem.W.nsIn K mainGlobals "WIDE" = some (some (.ref ai)))
  (ph:K.lookup ai=some ⟨.type "tuple",oi,.seq #[.int (-32768) ti0,.int 32767 ti1] ni,li⟩)
  (t_Walk:WkC K a_Walk)
  (mk_Walk:PySem.W.makesIn K a_Walk=true)
  (kp_Walk:PySem.W.keepIn K (.ref a_Walk)=true)
  : ∃fd:FuncData,(∀(s:Shared) (v:Value),BindsTo s fd ⟨[v],[]⟩ [("_law_script",v)])/\∀base:Heap,K.In base->base.Ns mainGlobals mg->q2n mg base [(e4,t4)]->FnOk l.prog w K mg base CX0 24 fa fd ["_law_script"] (zus K t4):=by
 have e:=hfa.symm.trans (PySem.W.mg_of X G a41)
 cases e
 have F_is_whole:=z16 (st:=z2o) l0 c0 k0
 have B_is_whole:=F_is_whole.binds (ps:=["thing"]) fun _ _ _ _ _ _ us hl=>match us,hl with | [_],_=>rfl
 have d_is_whole:Df K mg "is_whole" z2o ["thing"] f0 _:=⟨F_is_whole,PySem.W.mg_of X G a0,B_is_whole⟩
 have F_is_whole_from:=z16 (st:=z0z) l1 c1 k1
 have B_is_whole_from:=F_is_whole_from.binds (ps:=["thing","low","high"]) fun _ _ _ _ _ _ us hl=>match us,hl with | [_,_,_],_=>rfl
 have d_is_whole_from:Df K mg "is_whole_from" z0z ["thing","low","high"] f1 _:=⟨F_is_whole_from,PySem.W.mg_of X G a1,B_is_whole_from⟩
 have F_is_tuple_of:=z16 (st:=z17) l2 c2 k2
 have B_is_tuple_of:=F_is_tuple_of.binds (ps:=["thing","many"]) fun _ _ _ _ _ _ us hl=>match us,hl with | [_,_],_=>rfl
 have d_is_tuple_of:Df K mg "is_tuple_of" z17 ["thing","many"] f2 _:=⟨F_is_tuple_of,PySem.W.mg_of X G a2,B_is_tuple_of⟩
 have F_are_rising_rows:=z16 (st:=z0o) l3 c3 k3
 have B_are_rising_rows:=F_are_rising_rows.binds (ps:=["thing","is_row"]) fun _ _ _ _ _ _ us hl=>match us,hl with | [_,_],_=>rfl
 have d_are_rising_rows:Df K mg "are_rising_rows" z0o ["thing","is_row"] f3 _:=⟨F_are_rising_rows,PySem.W.mg_of X G a3,B_are_rising_rows⟩
 have F_traced:=z16 (st:=z2c) l4 c4 k4
 have B_traced:=F_traced.binds (ps:=["program","worths"]) fun _ _ _ _ _ _ us hl=>match us,hl with | [_,_],_=>rfl
 have d_traced:Df K mg "traced" z2c ["program","worths"] f4 _:=⟨F_traced,PySem.W.mg_of X G a4,B_traced⟩
 have F_run_by:=z16 (st:=z23) l5 c5 k5
 have B_run_by:=F_run_by.binds (ps:=["program","worths","settle"]) fun _ _ _ _ _ _ us hl=>match us,hl with | [_,_,_],_=>rfl
 have d_run_by:Df K mg "run_by" z23 ["program","worths","settle"] f5 _:=⟨F_run_by,PySem.W.mg_of X G a5,B_run_by⟩
 have F_settled:=z16 (st:=z39) l6 c6 k6
 have B_settled:=F_settled.binds (ps:=["worth","path","rows"]) fun _ _ _ _ _ _ us hl=>match us,hl with | [_,_,_],_=>rfl
 have d_settled:Df K mg "settled" z39 ["worth","path","rows"] f6 _:=⟨F_settled,PySem.W.mg_of X G a6,B_settled⟩
 have F_names_at_first:=z16 (st:=z0c) l7 c7 k7
 have B_names_at_first:=F_names_at_first.binds (ps:=["ins","worths"]) fun _ _ _ _ _ _ us hl=>match us,hl with | [_,_],_=>rfl
 have d_names_at_first:Df K mg "names_at_first" z0c ["ins","worths"] f7 _:=⟨F_names_at_first,PySem.W.mg_of X G a7,B_names_at_first⟩
 have F_do_block:=z16 (st:=z0x) l8 c8 k8
 have B_do_block:=F_do_block.binds (ps:=["block","path","names","settle"]) fun _ _ _ _ _ _ us hl=>match us,hl with | [_,_,_,_],_=>rfl
 have d_do_block:Df K mg "do_block" z0x ["block","path","names","settle"] f8 _:=⟨F_do_block,PySem.W.mg_of X G a8,B_do_block⟩
 have F_do_deed:=z16 (st:=z21) l9 c9 k9
 have B_do_deed:=F_do_deed.binds (ps:=["deed","path","names","settle"]) fun _ _ _ _ _ _ us hl=>match us,hl with | [_,_,_,_],_=>rfl
 have d_do_deed:Df K mg "do_deed" z21 ["deed","path","names","settle"] f9 _:=⟨F_do_deed,PySem.W.mg_of X G a9,B_do_deed⟩
 have F_do_set:=z16 (st:=z2t) l10 c10 k10
 have B_do_set:=F_do_set.binds (ps:=["deed","path","names","settle"]) fun _ _ _ _ _ _ us hl=>match us,hl with | [_,_,_,_],_=>rfl
 have d_do_set:Df K mg "do_set" z2t ["deed","path","names","settle"] f10 _:=⟨F_do_set,PySem.W.mg_of X G a10,B_do_set⟩
 have F_do_if:=z16 (st:=z3k) l11 c11 k11
 have B_do_if:=F_do_if.binds (ps:=["deed","path","names","settle"]) fun _ _ _ _ _ _ us hl=>match us,hl with | [_,_,_,_],_=>rfl
 have d_do_if:Df K mg "do_if" z3k ["deed","path","names","settle"] f11 _:=⟨F_do_if,PySem.W.mg_of X G a11,B_do_if⟩
 have F_do_while:=z16 (st:=z0w) l12 c12 k12
 have B_do_while:=F_do_while.binds (ps:=["deed","path","names","settle"]) fun _ _ _ _ _ _ us hl=>match us,hl with | [_,_,_,_],_=>rfl
 have d_do_while:Df K mg "do_while" z0w ["deed","path","names","settle"] f12 _:=⟨F_do_while,PySem.W.mg_of X G a12,B_do_while⟩
 have F_reckon:=z16 (st:=z24) l13 c13 k13
 have B_reckon:=F_reckon.binds (ps:=["term","path","names","settle"]) fun _ _ _ _ _ _ us hl=>match us,hl with | [_,_,_,_],_=>rfl
 have d_reckon:Df K mg "reckon" z24 ["term","path","names","settle"] f13 _:=⟨F_reckon,PySem.W.mg_of X G a13,B_reckon⟩
 have F_worth_of:=z16 (st:=z29) l14 c14 k14
 have B_worth_of:=F_worth_of.binds (ps:=["word","one","other"]) fun _ _ _ _ _ _ us hl=>match us,hl with | [_,_,_],_=>rfl
 have d_worth_of:Df K mg "worth_of" z29 ["word","one","other"] f14 _:=⟨F_worth_of,PySem.W.mg_of X G a14,B_worth_of⟩
 have F_joined:=z16 (st:=z46) l15 c15 k15
 have B_joined:=F_joined.binds (ps:=["one","other"]) fun _ _ _ _ _ _ us hl=>match us,hl with | [_,_],_=>rfl
 have d_joined:Df K mg "joined" z46 ["one","other"] f15 _:=⟨F_joined,PySem.W.mg_of X G a15,B_joined⟩
 have F_met:=z16 (st:=zed) l16 c16 k16
 have B_met:=F_met.binds (ps:=["one","other"]) fun _ _ _ _ _ _ us hl=>match us,hl with | [_,_],_=>rfl
 have d_met:Df K mg "met" zed ["one","other"] f16 _:=⟨F_met,PySem.W.mg_of X G a16,B_met⟩
 have F_between:=z16 (st:=z47) l17 c17 k17
 have B_between:=F_between.binds (ps:=["low","high"]) fun _ _ _ _ _ _ us hl=>match us,hl with | [_,_],_=>rfl
 have d_between:Df K mg "between" z47 ["low","high"] f17 _:=⟨F_between,PySem.W.mg_of X G a17,B_between⟩
 have F_stretch_of:=z16 (st:=z0n) l18 c18 k18
 have B_stretch_of:=F_stretch_of.binds (ps:=["word","one","other"]) fun _ _ _ _ _ _ us hl=>match us,hl with | [_,_,_],_=>rfl
 have d_stretch_of:Df K mg "stretch_of" z0n ["word","one","other"] f18 _:=⟨F_stretch_of,PySem.W.mg_of X G a18,B_stretch_of⟩
 have F_stretch_of_same:=z16 (st:=z0i) l19 c19 k19
 have B_stretch_of_same:=F_stretch_of_same.binds (ps:=["one","other"]) fun _ _ _ _ _ _ us hl=>match us,hl with | [_,_],_=>rfl
 have d_stretch_of_same:Df K mg "stretch_of_same" z0i ["one","other"] f19 _:=⟨F_stretch_of_same,PySem.W.mg_of X G a19,B_stretch_of_same⟩
 have F_stretch_of_ends:=z16 (st:=z0m) l20 c20 k20
 have B_stretch_of_ends:=F_stretch_of_ends.binds (ps:=["word","one","other"]) fun _ _ _ _ _ _ us hl=>match us,hl with | [_,_,_],_=>rfl
 have d_stretch_of_ends:Df K mg "stretch_of_ends" z0m ["word","one","other"] f20 _:=⟨F_stretch_of_ends,PySem.W.mg_of X G a20,B_stretch_of_ends⟩
 have F_shown:=z16 (st:=z4p) l21 c21 k21
 have B_shown:=F_shown.binds (ps:=["program","paper"]) fun _ _ _ _ _ _ us hl=>match us,hl with | [_,_],_=>rfl
 have d_shown:Df K mg "shown" z4p ["program","paper"] f21 _:=⟨F_shown,PySem.W.mg_of X G a21,B_shown⟩
 have F_notes_by:=z16 (st:=z2a) l22 c22 k22
 have B_notes_by:=F_notes_by.binds (ps:=["program","paper"]) fun _ _ _ _ _ _ us hl=>match us,hl with | [_,_],_=>rfl
 have d_notes_by:Df K mg "notes_by" z2a ["program","paper"] f22 _:=⟨F_notes_by,PySem.W.mg_of X G a22,B_notes_by⟩
 have F_walk_by_paper:=z16 (st:=z0e) l23 c23 k23
 have B_walk_by_paper:=F_walk_by_paper.binds (ps:=["program","thing"]) fun _ _ _ _ _ _ us hl=>match us,hl with | [_,_],_=>rfl
 have d_walk_by_paper:Df K mg "walk_by_paper" z0e ["program","thing"] f23 _:=⟨F_walk_by_paper,PySem.W.mg_of X G a23,B_walk_by_paper⟩
 have F_is_paper_row:=z16 (st:=z3p) l24 c24 k24
 have B_is_paper_row:=F_is_paper_row.binds (ps:=["thing"]) fun _ _ _ _ _ _ us hl=>match us,hl with | [_],_=>rfl
 have d_is_paper_row:Df K mg "is_paper_row" z3p ["thing"] f24 _:=⟨F_is_paper_row,PySem.W.mg_of X G a24,B_is_paper_row⟩
 have F_heads_of:=z16 (st:=z1g) l25 c25 k25
 have B_heads_of:=F_heads_of.binds (ps:=["paper"]) fun _ _ _ _ _ _ us hl=>match us,hl with | [_],_=>rfl
 have d_heads_of:Df K mg "heads_of" z1g ["paper"] f25 _:=⟨F_heads_of,PySem.W.mg_of X G a25,B_heads_of⟩
 have F_book_of:=z16 (st:=z1p) l26 c26 k26
 have B_book_of:=F_book_of.binds (ps:=["shelf"]) fun _ _ _ _ _ _ us hl=>match us,hl with | [_],_=>rfl
 have d_book_of:Df K mg "book_of" z1p ["shelf"] f26 _:=⟨F_book_of,PySem.W.mg_of X G a26,B_book_of⟩
 have F_is_held:=z16 (st:=z3a) l27 c27 k27
 have B_is_held:=F_is_held.binds (ps:=["wants","heads"]) fun _ _ _ _ _ _ us hl=>match us,hl with | [_,_],_=>rfl
 have d_is_held:Df K mg "is_held" z3a ["wants","heads"] f27 _:=⟨F_is_held,PySem.W.mg_of X G a27,B_is_held⟩
 have F_is_book_within:=z16 (st:=z30) l28 c28 k28
 have B_is_book_within:=F_is_book_within.binds (ps:=["one","other"]) fun _ _ _ _ _ _ us hl=>match us,hl with | [_,_],_=>rfl
 have d_is_book_within:Df K mg "is_book_within" z30 ["one","other"] f28 _:=⟨F_is_book_within,PySem.W.mg_of X G a28,B_is_book_within⟩
 have F_walked:=z16 (st:=z37) l29 c29 k29
 have B_walked:=F_walked.binds (ps:=["program","heads"]) fun _ _ _ _ _ _ us hl=>match us,hl with | [_,_],_=>rfl
 have d_walked:Df K mg "walked" z37 ["program","heads"] f29 _:=⟨F_walked,PySem.W.mg_of X G a29,B_walked⟩
 have F_go_block:=z16 (st:=z14) l30 c30 k30
 have B_go_block:=F_go_block.binds (ps:=["block","path","book","walk"]) fun _ _ _ _ _ _ us hl=>match us,hl with | [_,_,_,_],_=>rfl
 have d_go_block:Df K mg "go_block" z14 ["block","path","book","walk"] f30 _:=⟨F_go_block,PySem.W.mg_of X G a30,B_go_block⟩
 have F_go_deed:=z16 (st:=z2e) l31 c31 k31
 have B_go_deed:=F_go_deed.binds (ps:=["deed","path","book","walk"]) fun _ _ _ _ _ _ us hl=>match us,hl with | [_,_,_,_],_=>rfl
 have d_go_deed:Df K mg "go_deed" z2e ["deed","path","book","walk"] f31 _:=⟨F_go_deed,PySem.W.mg_of X G a31,B_go_deed⟩
 have F_go_set:=z16 (st:=z2d) l32 c32 k32
 have B_go_set:=F_go_set.binds (ps:=["deed","path","book","walk"]) fun _ _ _ _ _ _ us hl=>match us,hl with | [_,_,_,_],_=>rfl
 have d_go_set:Df K mg "go_set" z2d ["deed","path","book","walk"] f32 _:=⟨F_go_set,PySem.W.mg_of X G a32,B_go_set⟩
 have F_go_if:=z16 (st:=zfp) l33 c33 k33
 have B_go_if:=F_go_if.binds (ps:=["deed","path","book","walk"]) fun _ _ _ _ _ _ us hl=>match us,hl with | [_,_,_,_],_=>rfl
 have d_go_if:Df K mg "go_if" zfp ["deed","path","book","walk"] f33 _:=⟨F_go_if,PySem.W.mg_of X G a33,B_go_if⟩
 have F_go_while:=z16 (st:=z7e) l34 c34 k34
 have B_go_while:=F_go_while.binds (ps:=["deed","path","book","walk"]) fun _ _ _ _ _ _ us hl=>match us,hl with | [_,_,_,_],_=>rfl
 have d_go_while:Df K mg "go_while" z7e ["deed","path","book","walk"] f34 _:=⟨F_go_while,PySem.W.mg_of X G a34,B_go_while⟩
 have F_show:=z16 (st:=z4h) l35 c35 k35
 have B_show:=F_show.binds (ps:=["term","path","book","walk"]) fun _ _ _ _ _ _ us hl=>match us,hl with | [_,_,_,_],_=>rfl
 have d_show:Df K mg "show" z4h ["term","path","book","walk"] f35 _:=⟨F_show,PySem.W.mg_of X G a35,B_show⟩
 have F_noted:=z16 (st:=z5a) l36 c36 k36
 have B_noted:=F_noted.binds (ps:=["stretch","path","walk"]) fun _ _ _ _ _ _ us hl=>match us,hl with | [_,_,_],_=>rfl
 have d_noted:Df K mg "noted" z5a ["stretch","path","walk"] f36 _:=⟨F_noted,PySem.W.mg_of X G a36,B_noted⟩
 have F_law_cell:=z16 (st:=z31) l37 c37 k37
 have B_law_cell:=F_law_cell.binds (ps:=["_law_script","_law_k"]) fun _ _ _ _ _ _ us hl=>match us,hl with | [_,_],_=>rfl
 have d_law_cell:Df K mg "_law_cell" z31 ["_law_script","_law_k"] f37 _:=⟨F_law_cell,PySem.W.mg_of X G a37,B_law_cell⟩
 have F_law_pick:=z16 (st:=z1x) l38 c38 k38
 have B_law_pick:=F_law_pick.binds (ps:=["_law_script","_law_k","_law_many"]) fun _ _ _ _ _ _ us hl=>match us,hl with | [_,_,_],_=>rfl
 have d_law_pick:Df K mg "_law_pick" z1x ["_law_script","_law_k","_law_many"] f38 _:=⟨F_law_pick,PySem.W.mg_of X G a38,B_law_pick⟩
 have F_law_once:=z16 (st:=z13) l39 c39 k39
 have B_law_once:=F_law_once.binds (ps:=["_law_script","_law_at","_law_deep","_law_left"]) fun _ _ _ _ _ _ us hl=>match us,hl with | [_,_,_,_],_=>rfl
 have d_law_once:Df K mg "_law_once" z13 ["_law_script","_law_at","_law_deep","_law_left"] f39 _:=⟨F_law_once,PySem.W.mg_of X G a39,B_law_once⟩
 have F_law_for_one:=z16 (st:=z08) l40 c40 k40
 have B_law_for_one:=F_law_for_one.binds (ps:=["_law_script"]) fun _ _ _ _ _ _ us hl=>match us,hl with | [_],_=>rfl
 have d_law_for_one:Df K mg "_law_for_one" z08 ["_law_script"] f40 _:=⟨F_law_for_one,PySem.W.mg_of X G a40,B_law_for_one⟩
 have F_law:=z16 (st:=zd5) l41 c41 k41
 have F_Walk_init:=z16 (st:=z3b) ml_Walk_init mc_Walk_init mk_Walk_init
 have B_Walk_init:=F_Walk_init.binds (ps:=["self","heads"]) fun _ _ _ _ _ _ us hl=>match us,hl with | [_,_],_=>rfl
 have b_all:=PySem.W.mg_none_of X G z_all
 have b_bool:=PySem.W.mg_none_of X G z_bool
 have b_dict:=PySem.W.mg_none_of X G z_dict
 have b_enumerate:=PySem.W.mg_none_of X G z_enumerate
 have b_int:=PySem.W.mg_none_of X G z_int
 have b_isinstance:=PySem.W.mg_none_of X G z_isinstance
 have b_len:=PySem.W.mg_none_of X G z_len
 have b_max:=PySem.W.mg_none_of X G z_max
 have b_min:=PySem.W.mg_none_of X G z_min
 have b_range:=PySem.W.mg_none_of X G z_range
 have b_sorted:=PySem.W.mg_none_of X G z_sorted
 have b_tuple:=PySem.W.mg_none_of X G z_tuple
 have b_zip:=PySem.W.mg_none_of X G z_zip
 refine⟨PySem.W.fnOf "law" "law" (defArgs zd5) (defBody zd5) (defScope zd5) .none kV41 dc41 pm41 an41 cd41 ct41,fun s v=>.of_eq rfl,fun base _ _ hTB=>?_⟩
 have FC_traced:FunC K "traced" "traced" z2c f4 _ e4:=⟨⟨_,_,_,_,_,_,_,_,rfl,l4,c4⟩,k4⟩
 obtain⟨tc_traced,tb_traced,tg_traced⟩:=hTB (e4,t4) (.head _)
 have g_WIDE:GC mg "WIDE" (.ref ai):=⟨_,PySem.W.mg_of X G pw,rfl⟩
 have hI:∀H,SqT K H ai [.int (-32768),.int 32767]:=q35 ph (.cons ⟨_,rfl⟩ (.cons ⟨_,rfl⟩ .nil)) (show(2:Nat)<=sizeLine by decide)
 have c_worth_of:=d_worth_of.callee (zml (P:=l.prog) (w:=w) (base:=base) F_worth_of b_min b_max)
 have c_between:=d_between.callee (zq4 (P:=l.prog) (w:=w) (base:=base) F_between)
 have c_joined:=d_joined.callee (zs5 (P:=l.prog) (w:=w) (base:=base) F_joined b_min b_max)
 have c_metK:=d_met.callee (zz1 F_met b_min b_max c_between)
 have c_met:=Callee.imp c_metK zy9
 have c_same:=d_stretch_of_same.callee (zbm F_stretch_of_same c_met)
 have c_ends:=d_stretch_of_ends.callee (zbn F_stretch_of_ends b_min b_max c_worth_of)
 have c_of:=d_stretch_of.callee (zis F_stretch_of b_min b_max c_between c_joined c_same c_ends)
 have c_cell:=d_law_cell.callee (zz2 (P:=l.prog) (w:=w) (base:=base) F_law_cell b_len)
 have c_pick:=d_law_pick.callee (zyz F_law_pick c_cell)
 have c_noted:=d_noted.callee (zvj F_noted g_WIDE hI c_metK)
 have c_sh0:=d_show.callee (k:=5) (zsb (P:=l.prog) (w:=w) (base:=base) (K:=K) (mg:=mg))
 have c_sh1:=d_show.callee (zd9 (n:=0) F_show c_noted c_of c_sh0)
 have c_sh2:=d_show.callee (zd9 (n:=1) F_show c_noted c_of c_sh1)
 have c_sh3:=d_show.callee (zd9 (n:=2) F_show c_noted c_of c_sh2)
 have c_sh4:=d_show.callee (zd9 (n:=3) F_show c_noted c_of c_sh3)
 have c_sh5:=d_show.callee (zd9 (n:=4) F_show c_noted c_of c_sh4)
 have c_sh6:=d_show.callee (zd9 (n:=5) F_show c_noted c_of c_sh5)
 have c_set:=d_go_set.callee (zs6 (bh:=bh0) F_go_set b_dict c_sh6)
 have c_while:=d_go_while.callee (k:=0) (q1g (P:=l.prog) (w:=w) (base:=base))
 have c_if0:=d_go_if.callee (zz6 (P:=l.prog) (w:=w) (base:=base) (K:=K) (mg:=mg) (bh:=bh0) (n:=0) (m:=11) (k:=13))
 have c_dd0:=d_go_deed.callee (zq0 (n:=0) F_go_deed c_set c_if0 c_while)
 have c_gb1:=d_go_block.callee (zmo (n:=0) q1z F_go_block b_enumerate c_dd0)
 have c_book:=d_book_of.callee (zq3 (P:=l.prog) (w:=w) (base:=base) F_book_of)
 have c_heads:=d_heads_of.callee (zk9 F_heads_of c_book)
 have c_rise:=d_are_rising_rows.callee (zhe (P:=l.prog) (w:=w) (base:=base) F_are_rising_rows b_isinstance b_tuple b_all b_zip)
 have i_init:CalleeI l.prog w K mg base a_Walk _ 1 _:=⟨_,_,zka (P:=l.prog) (w:=w) (base:=base) F_Walk_init t_Walk,⟨mk_Walk,ma_Walk_init,mf_Walk_init,kp_Walk⟩,B_Walk_init⟩
 have c_walked:=d_walked.callee (zs0 (n:=1) F_walked (PySem.W.mg_of X G x_Walk) t_Walk i_init c_book c_gb1)
 have c_ibw:=d_is_book_within.callee (k:=0) (q1g (P:=l.prog) (w:=w) (base:=base))
 have c_held:=d_is_held.callee (zmn F_is_held b_sorted b_all c_ibw)
 have c_wbp:=d_walk_by_paper.callee (zd8 (n:=1) (v:=V.ref _) F_walk_by_paper t_Walk ⟨_,d_is_paper_row.m,rfl⟩ c_rise c_heads c_walked c_held)
 have c_notes:=d_notes_by.callee (zk8 (n:=1) F_notes_by c_wbp)
 have c_shown:=d_shown.callee (zs2 (n:=1) F_shown b_sorted c_notes)
 have c_iw:=d_is_whole.callee (zmm (P:=l.prog) (w:=w) (base:=base) F_is_whole b_isinstance b_int b_bool)
 have c_if:=d_is_whole_from.callee (zee F_is_whole_from c_iw)
 have c_it:=d_is_tuple_of.callee (zhd (P:=l.prog) (w:=w) (base:=base) F_is_tuple_of b_isinstance b_len b_tuple)
 have c_nf:=d_names_at_first.callee (zda F_names_at_first b_len b_zip c_it c_if)
 have c_se:=d_settled.callee (zpz (P:=l.prog) (w:=w) (base:=base) F_settled g_WIDE hI)
 have c_re:=zif d_reckon c_worth_of c_se 5
 have c_do:=zua d_do_block d_do_deed d_do_set d_do_if d_do_while b_enumerate c_re 4
 have c_rb:=d_run_by.callee (zs3 F_run_by b_sorted b_tuple c_nf c_do)
 have c_tr:=d_traced.callee (zs1 FC_traced tc_traced tb_traced tg_traced c_rb)
 have c_on:=zp7 d_law_once c_pick 4
 have c_fo:=d_law_for_one.callee (zq1 (bh:=bh0) F_law_for_one b_enumerate b_range b_tuple b_min b_max c_pick c_on c_shown c_tr)
 exact q1h F_law b_range c_fo
theorem z4v{l:PySem.W.OpenLaw}{q:Program}{loose:List Str}{XP:(Str->Option Value)->Heap->Prop}{YP:World->Heap->Prop}{d:DefRec}{K:Params->PySem.W.Frag}(e4 t4:Addr)(hn:l.most=some 63)(hdf:d.params.defaults=[])
  (hY:∀(w:World) (h:Heap),YP w h->(K w.params).In h) (hK:∀w:World,PySem.W.noTabs (K w.params)=true) (hrec:∀t∈([("traced",e4,t4)]:List (Str×Addr×Addr)),∃e,(PyProof.Rows.recsOf q).find? (fun e=>e.name == t.1)=some e) (htab:∀(w:World),∀t∈([("traced",e4,t4)]:List (Str×Addr×Addr)),PySem.W.tabIn (K w.params) t.1=some (t.2.1,t.2.2))
  (F:∀(w:World) (mg:Str->Option Value) (fa:Addr) (h:Heap),(K w.params).In h->h.Ns mainGlobals mg->mg d.name=some (.ref fa)->
   ∃fd:FuncData,(∀(s:Shared) (u:Value),BindsTo s fd ⟨[u],[]⟩ [("_law_script",u)])/\∀base:Heap,(K w.params).In base->base.Ns mainGlobals mg->q2n mg base [(e4,t4)]->FnOk l.prog w (K w.params) mg base CX0 24 fa fd ["_law_script"] (zus (K w.params) t4)) :
  PySem.W.WalkO q loose XP YP l.row.toRowW d [] (fun f vs=>PySem.call f vs):=
 L2.zuk (n:=63) (k:=24) (x:="_law_script") (sp:=fun w=>zus (K w.params) t4) (tabs:=[("traced",e4,t4)]) hn (by decide) hdf ⟨rfl,by decide,by decide⟩ hY hK hrec htab F (fun _ _ a ns hl hO hS=>⟨a,ns,rfl,hS,hl,hO _ (.head _),fun _=>rfl⟩)
end SR
namespace PySem.W.Fast
def tw14735653300602834164:=0
def tw13163659532481316303:=0
def tw15206865762712584354:=0
def tw12878058289436542158:=0
def tw12735922493220785252:=0
def tw16247051569549558407:=0
def tw687897845977089223:=0
def tw18432524176361956068:=0
def tw9593241775546773474:=0
def tw15271457009236542253:=0
def tw8832246462287875489:=0
def tw12727291498694960593:=0
def tw17791548724811713025:=0
def tw7190666439286093635:=0
def tw16673248596763086940:=0
def tw4090400676103853798:=0
def tw4407009528777002563:=0
def tw14736066313541011648:=0
def tw3405272729319462861:=0
def tw10371153944808268615:=0
def tw16632960972082876993:=0
def tw4040784917781471351:=0
def tw14962019214955326711:=0
def tw3261652694065252770:=0
def tw2793174406790131558:=0
def tw15159185482208954252:=0
def tw11423590441947784912:=0
def tw15530407616949615241:=0
def tw15591510482081901045:=0
def tw3320864068213055761:=0
def tw13656600659270699209:=0
def tw4732614000254363320:=0
def tw5400303846436190517:=0
def tw13739606737722654304:=0
def tw1091669748936115159:=0
def tw10765942597045020471:=0
def tw3986005879872286913:=0
def tw3160778431856120423:=0
def tw5250729897126604528:=0
def tw7214144216131162833:=0
def tw17610271391679576848:=0
def tw16105794863531539442:=0
def tw6908016667216206905:=0
def tw16613802324756447932:=0
def tw2998700439940655521:=0
def tw17428524288890832471:=0
def tw1063952989511257549:=0
def tw18080376357958890984:=0
def tw9661481012442527514:=0
def tw8420719993354374826:=0
def tw17228363555876470360:=0
def tw5353213537432428629:=0
def tw17073396402189375203:=0
def tw7157250065027759530:=0
def tw17533452500180914110:=0
def tw14800103273181409414:=0
def tw6021379519617106291:=0
def tw9301058697836804322:=0
def tw3173336625628875783:=0
def tw276838529719082289:=0
def tw5242330405742958123:=0
def tw10449560327458828257:=0
def tw3446784957728831088:=0
def tw12451653158982814048:=0
def tw3052461391110809724:=0
def tw8489695352960472922:=0
def tw13986790614106040839:=0
def tw4090758599870007675:=0
def tw7950757815475052822:=0
def tw8880183268083205983:=0
def tw13488406185695429186:=0
def tw4917436225064220017:=0
def tw7827168697988211137:=0
def tw14146418134141474232:=0
def tw7828325630489116959:=0
def tw13847065080835380297:=0
def tw4007682584578318299:=0
def tw11285828359646966949:=0
def tw17511922675645045163:=0
def tw18083062581145689598:=0
def tw10526783538294820893:=0
def tw12751747432648702812:=0
def tw14109593827198816177:=0
def tw4103060507074723652:=0
def tw13200846385627997761:=0
def tw9171629156548931763:=0
def tw2185680297253068346:=0
def tw3477035062675698963:=0
def tw11078275487978612489:=0
def tw5244662876559397362:=0
def tw15477069709392699836:=0
def tw14096743988818678337:=0
def tw16064139009119957003:=0
def tw17994424274046886890:=0
def tw13616263699847767291:=0
def tw1664421930086589217:=0
def tw13783270949563607412:=0
def tw16210333794858504097:=0
def tw13226584681649598427:=0
def tw10079310649505270790:=0
def tw6426589113020081576:=0
def tw12879383873935072988:=0
def tw10515247167389854509:=0
def tw13668396327533276998:=0
def tw16042367897936131244:=0
def tw3106735364054630041:=0
def tw14733838992066683059:=0
def tw12328780272854967230:=0
def tw4761711828094958532:=0
def tw9344418712552782001:=0
def tw15300220171944483257:=0
def tw9534533024115102836:=0
def tw11091684653966972492:=0
def tw14283663976206997075:=0
def tw17638088121463154316:=0
def tw12739161916212525684:=0
def tw7740691540821190118:=0
def tw16679738563869137395:=0
def tw12408456606678238224:=0
def tw2687802393402091384:=0
def tw1313142966518828560:=0
def tw3477159373670727151:=0
def tw16631734336195028492:=0
def tw7793956635432424877:=0
def tw712616973906581890:=0
def tw11760687171004704341:=0
def tw2279381342845484767:=0
def tw9780105626464433617:=0
def tw11587316315255955576:=0
def tw13487991394745919839:=0
def tw8007086526292801320:=0
def tw7454766827793081610:=0
def tw17422250650901041276:=0
def tw4358983617987303250:=0
def tw6713369666686989383:=0
def tw152734724647971831:=0
def tw6482713325771062393:=0
def tw15451734719066244271:=0
def tw2345939068967662724:=0
def tw16487943451622564542:=0
def tw14826906003743416354:=0
def tw12547949442669221523:=0
def tw7070651560033514960:=0
def tw4216822907370335681:=0
def tw12644003637945608715:=0
def tw3524905911178268874:=0
def tw4714382776743345551:=0
def tw8556912201469694199:=0
def tw5090118679217160:=0
def tw18072902198731365099:=0
def tw16129361370222373345:=0
def tw3923711443398193866:=0
def tw5228782609496387453:=0
def tw278883943777019349:=0
def tw138040693213132339:=0
def tw4113522327752931415:=0
def tw1326019768191555923:=0
def tw13923073025134102990:=0
def tw2732924417382600855:=0
def tw10485671666236546236:=0
def tw11888626849546730874:=0
def tw2665711305290244017:=0
def tw6873156580431378165:=0
def tw9827947323210829374:=0
def tw4974852414086084754:=0
def tw583078657098733875:=0
def tw8078886595112391443:=0
def tw13884856635716943055:=0
def tw8138809738410642419:=0
def tw8056441844610717373:=0
def tw8023350910230447841:=0
def tw15490065491035896236:=0
def tw2789966808212703168:=0
def tw2859519814352852403:=0
def tw14521589086982041019:=0
def tw13693097114537148760:=0
def tw4002703791836253929:=0
def tw7614703600395209884:=0
def tw6617385676702760821:=0
def tw17705392382190354368:=0
def tw3559418521723621836:=0
def tw3619564876993785153:=0
def tw8800132032164610589:=0
def tw11556855148682438254:=0
def tw15871824612608354368:=0
def tw18330797685503215001:=0
def tw13565485432252206526:=0
def tw1345904903613926938:=0
def tw4945033054456810001:=0
def tw15784766253828463373:=0
def tw8253085888379643982:=0
def tw13324828103894316657:=0
def tw3708808107498183176:=0
def tw84604324914209433:=0
def tw18273731309648324326:=0
def tw4408422074588159990:=0
def tw4204054993016236287:=0
def tw13227176154971246742:=0
def tw10339877837330801133:=0
def tw10068359176307310273:=0
def tw15219195211565009084:=0
def tw5867821015583058349:=0
def tw5806483781590619593:=0
def tw7411422616751552452:=0
def tw17248175078903344038:=0
def tw17533212748735026561:=0
def tw2248203327537644152:=0
def tw563985958010393232:=0
def tw12212704685249218216:=0
def tw10868239061886334090:=0
def tw10583093122779954288:=0
def tw489142373787655784:=0
def tw13676693616399037251:=0
def tw3164686499957265453:=0
def tw9932606935056931351:=0
def tw11779941591693395080:=0
def tw10603325278521717169:=0
def tw17282523053997795833:=0
def tw544259724735588385:=0
def tw3077021809518005969:=0
def tw18398749522015226011:=0
def tw18331104017025451643:=0
def tw11115040837810734024:=0
def tw2515228859138636077:=0
def tw8139750043437600276:=0
def tw8360185704801210172:=0
def tw8527832543388378781:=0
def tw14694049665554235982:=0
def tw8052005701186066733:=0
def tw12765455421721582672:=0
def tw11679880205774758559:=0
def tw4690271505094685374:=0
def tw6334925050247284766:=0
def tw17109772424323482184:=0
def tw13385746462031063116:=0
def tw1165369414014886347:=0
def tw1748475458821457392:=0
def tw13674626911984811617:=0
def tw6088202211237297004:=0
def tw15307517343643396143:=0
def tw3532379971519570552:=0
def tw3824318645901062616:=0
def tw15685847081369521850:=0
def tw11646991974442817984:=0
def tw6395730160177010240:=0
def tw5377946228733691384:=0
def tw10503134819650729904:=0
def tw9684546977885103535:=0
def tw1203493446286104764:=0
def tw10985359591375503577:=0
def tw18163237443034932197:=0
def tw9917113817667444160:=0
def tw6006285513661520740:=0
def tw5240900677184975519:=0
def tw327886737827035755:=0
def tw3303451619459563721:=0
def tw1162454154973217998:=0
def tw3915796004854565994:=0
def tw18230377791893307360:=0
def tw12269403526317387738:=0
def tw17348895522409544631:=0
def tw12194618285597518019:=0
def tw10139513471884461613:=0
def tw11844050591382694159:=0
def tw13634227267249028424:=0
def tw16888288223115374474:=0
def tw6087772111609310050:=0
def tw13336462054007076653:=0
def tw9933595511257826981:=0
def tw17295986849750271998:=0
def tw13775721361538265833:=0
def tw10467080575095247144:=0
def tw7214026877147497366:=0
def tw11896550784413778381:=0
def tw1603533255815578828:=0
def tw12030816173930214508:=0
def tw10535964865377715976:=0
def tw772592607867584001:=0
def tw13410822655737296699:=0
def tw1491529568492449410:=0
def tw6596758014879147400:=0
def tw10813614583464522236:=0
def tw10932264201006810796:=0
def tw16424349463470523603:=0
def tw7125946405787499436:=0
def tw9528302966028933666:=0
def tw11002034747821719970:=0
def tw11918987642312101749:=0
def tw632992648050666150:=0
def tw17946786624764384812:=0
def tw16516629476795817678:=0
def tw9262345805448244359:=0
def tw5692889511450557658:=0
def tw13018331462120497773:=0
def tw7872089640969141429:=0
def tw12525865785917812509:=0
def tw18419948444897043394:=0
def tw17473312397657009518:=0
def tw14504033727190034183:=0
def tw17352375656580284871:=0
def tw2727406531992319510:=0
def tw4923886172619799913:=0
def tw13748857902568987876:=0
def tw16274599765896334798:=0
def tw93943262942806900:=0
def tw4711724241220653297:=0
def tw4960726165592937401:=0
def tw990123073951976938:=0
def tw17029621934082405356:=0
def tw494725917223653209:=0
def tw2373168537475668538:=0
def tw17934541611934507384:=0
def tw3190939085329481652:=0
def tw2767939435134289200:=0
def tw18349837707803896587:=0
def tw2479668050117371852:=0
def tw1676221786195781433:=0
def tw8474618635048577392:=0
def tw4612155702852142477:=0
def tw11754692413164511587:=0
def tw7750471725134596161:=0
def tw5587370671940945735:=0
def tw7767107219617444236:=0
def tw16588725814104594097:=0
def tw6259128071944093721:=0
def tw15154404274351328038:=0
def tw12190916512641716257:=0
def tw4417326217980351142:=0
def tw13623171941840757095:=0
def tw15617716563075330259:=0
def tw5140729032256452425:=0
def tw17106488419967878254:=0
def tw12662946254691761690:=0
def tw6191170769661061638:=0
def tw5872746300651290695:=0
def tw3149141089608978129:=0
def tw10722499262772645570:=0
def tw17314949622550458240:=0
def tw13514204133274664164:=0
def tw16047949155623143282:=0
def tw15454228503469871378:=0
def tw16744791581636468058:=0
def tw5532659110656930894:=0
def tw14137305863742102535:=0
def tw4404308749712627685:=0
def tw7612495783789468734:=0
def tw17752589263952273193:=0
def tw6239386757405912624:=0
def tw11921111011541231908:=0
def tw831310224093236102:=0
def tw714574413439287970:=0
def tw11058845360785801322:=0
def tw1367000849417796360:=0
def tw7293816015072927538:=0
def tw7108785780782848621:=0
def tw7693412195202632847:=0
def tw1052000469937499446:=0
def tw4569359154202322680:=0
def tw15773698293085859382:=0
def tw16880166294262943708:=0
def tw6093163387074031726:=0
def tw2363114104678338112:=0
def tw11930208770583205033:=0
def tw12763162562855015905:=0
def tw12681799077731988871:=0
def tw16685596209848800668:=0
def tw5040469804802321500:=0
def tw11201495098456199643:=0
def tw9379790623633532429:=0
def tw310565831733908459:=0
def tw2172223084665708921:=0
def tw14786124371458937816:=0
def tw14508360171640711575:=0
def tw14281172019705877219:=0
def tw1297023787617784034:=0
def tw14444604717455878786:=0
def tw16120212991855481727:=0
def tw12088846266441258754:=0
def tw851125903236078109:=0
def tw7380763808113197262:=0
def tw6253711734250239904:=0
def tw3564269902760064351:=0
def tw7161600110512122125:=0
def tw2773573900927653612:=0
def tw2146342013906362968:=0
def tw1720349660836724677:=0
def tw9336343499632066488:=0
def tw11082566809651195056:=0
def tw7196788577246541867:=0
def tw11022492098051784157:=0
def tw4828762565678180865:=0
def tw3567634221279713938:=0
def tw17120770613815286048:=0
def tw5429851257779651154:=0
def tw8521208840211187772:=0
def tw17951428243377789028:=0
def tw16302433892197411047:=0
def tw9856261167322708827:=0
def tw14236895406728149442:=0
def tw279462402651184404:=0
def tw7977859545983415494:=0
def tw12809360534997738692:=0
def tw8444572863650190409:=0
def tw5067821176918963718:=0
def tw13602512581177675447:=0
def tw18116797153099011252:=0
def tw16043164243189123047:=0
def tw9901097130093756249:=0
def tw5040929837658486663:=0
def tw3840761663782558526:=0
def tw9531543539212333929:=0
def tw292896022343696168:=0
def tw6120542419011265100:=0
def tw13010334675892081967:=0
def tw3198879845691722763:=0
def tw15094009321364328078:=0
def tw5147937550566737892:=0
def tw12377332988026976300:=0
end PySem.W.Fast
open PySem PySem.W PyProof.Rows
set_option maxRecDepth 100000 in
set_option maxHeartbeats 0 in
theorem PySem.Challenge.cw_smallrooms_k34_whole_read_once_holds : PySem.Challenge.rw_smallrooms_k34_whole_read_once.Holds := by
 w_on; o_law; k_head; (case hw=>w_witness2)
 k_fill
 refine SR.z4v (l:=PySem.Challenge.rw_smallrooms_k34_whole_read_once) 89 85 rfl rfl (fun w h Y=>PySem.W.km_in_of Y) (fun w=>by kernel_rfl) ?hrec ?htab ?F
 case hrec=>exact List.forall_mem_cons.mpr ⟨Option.isSome_iff_exists.mp (by kernel_rfl),fun _ h=>nomatch h⟩
 case htab=>exact fun w=>List.forall_mem_cons.mpr ⟨by kernel_rfl,fun _ h=>nomatch h⟩
 case F=>
  intro w mg fa h KX G hmg
  refine' SR.q2l KX G hmg ?a0 ?l0 ?c0 ?k0 ?a1 ?l1 ?c1 ?k1 ?a2 ?l2 ?c2 ?k2 ?a3 ?l3 ?c3 ?k3 ?a4 ?l4 ?c4 ?k4 ?a5 ?l5 ?c5 ?k5 ?a6 ?l6 ?c6 ?k6 ?a7 ?l7 ?c7 ?k7 ?a8 ?l8 ?c8 ?k8 ?a9 ?l9 ?c9 ?k9 ?a10 ?l10 ?c10 ?k10 ?a11 ?l11 ?c11 ?k11 ?a12 ?l12 ?c12 ?k12 ?a13 ?l13 ?c13 ?k13 ?a14 ?l14 ?c14 ?k14 ?a15 ?l15 ?c15 ?k15 ?a16 ?l16 ?c16 ?k16 ?a17 ?l17 ?c17 ?k17 ?a18 ?l18 ?c18 ?k18 ?a19 ?l19 ?c19 ?k19 ?a20 ?l20 ?c20 ?k20 ?a21 ?l21 ?c21 ?k21 ?a22 ?l22 ?c22 ?k22 ?a23 ?l23 ?c23 ?k23 ?a24 ?l24 ?c24 ?k24 ?a25 ?l25 ?c25 ?k25 ?a26 ?l26 ?c26 ?k26 ?a27 ?l27 ?c27 ?k27 ?a28 ?l28 ?c28 ?k28 ?a29 ?l29 ?c29 ?k29 ?a30 ?l30 ?c30 ?k30 ?a31 ?l31 ?c31 ?k31 ?a32 ?l32 ?c32 ?k32 ?a33 ?l33 ?c33 ?k33 ?a34 ?l34 ?c34 ?k34 ?a35 ?l35 ?c35 ?k35 ?a36 ?l36 ?c36 ?k36 ?a37 ?l37 ?c37 ?k37 ?a38 ?l38 ?c38 ?k38 ?a39 ?l39 ?c39 ?k39 ?a40 ?l40 ?c40 ?k40 ?a41 ?l41 ?c41 ?k41 ?x_Walk ?ma_Walk_init ?ml_Walk_init ?mc_Walk_init ?mf_Walk_init ?mk_Walk_init ?z_all ?z_bool ?z_dict ?z_enumerate ?z_int ?z_isinstance ?z_len ?z_max ?z_min ?z_range ?z_sorted ?z_tuple ?z_zip ?pw ?ph ?t_Walk ?mk_Walk ?kp_Walk
  (case a0=>k_is); (case l0=>k_is); (case c0=>k_is); (case k0=>k_is)
  (case a1=>k_is); (case l1=>k_is); (case c1=>k_is); (case k1=>k_is)
  (case a2=>k_is); (case l2=>k_is); (case c2=>k_is); (case k2=>k_is)
  (case a3=>k_is); (case l3=>k_is); (case c3=>k_is); (case k3=>k_is)
  (case a4=>k_is); (case l4=>k_is); (case c4=>k_is); (case k4=>k_is)
  (case a5=>k_is); (case l5=>k_is); (case c5=>k_is); (case k5=>k_is)
  (case a6=>k_is); (case l6=>k_is); (case c6=>k_is); (case k6=>k_is)
  (case a7=>k_is); (case l7=>k_is); (case c7=>k_is); (case k7=>k_is)
  (case a8=>k_is); (case l8=>k_is); (case c8=>k_is); (case k8=>k_is)
  (case a9=>k_is); (case l9=>k_is); (case c9=>k_is); (case k9=>k_is)
  (case a10=>k_is); (case l10=>k_is); (case c10=>k_is); (case k10=>k_is)
  (case a11=>k_is); (case l11=>k_is); (case c11=>k_is); (case k11=>k_is)
  (case a12=>k_is); (case l12=>k_is); (case c12=>k_is); (case k12=>k_is)
  (case a13=>k_is); (case l13=>k_is); (case c13=>k_is); (case k13=>k_is)
  (case a14=>k_is); (case l14=>k_is); (case c14=>k_is); (case k14=>k_is)
  (case a15=>k_is); (case l15=>k_is); (case c15=>k_is); (case k15=>k_is)
  (case a16=>k_is); (case l16=>k_is); (case c16=>k_is); (case k16=>k_is)
  (case a17=>k_is); (case l17=>k_is); (case c17=>k_is); (case k17=>k_is)
  (case a18=>k_is); (case l18=>k_is); (case c18=>k_is); (case k18=>k_is)
  (case a19=>k_is); (case l19=>k_is); (case c19=>k_is); (case k19=>k_is)
  (case a20=>k_is); (case l20=>k_is); (case c20=>k_is); (case k20=>k_is)
  (case a21=>k_is); (case l21=>k_is); (case c21=>k_is); (case k21=>k_is)
  (case a22=>k_is); (case l22=>k_is); (case c22=>k_is); (case k22=>k_is)
  (case a23=>k_is); (case l23=>k_is); (case c23=>k_is); (case k23=>k_is)
  (case a24=>k_is); (case l24=>k_is); (case c24=>k_is); (case k24=>k_is)
  (case a25=>k_is); (case l25=>k_is); (case c25=>k_is); (case k25=>k_is)
  (case a26=>k_is); (case l26=>k_is); (case c26=>k_is); (case k26=>k_is)
  (case a27=>k_is); (case l27=>k_is); (case c27=>k_is); (case k27=>k_is)
  (case a28=>k_is); (case l28=>k_is); (case c28=>k_is); (case k28=>k_is)
  (case a29=>k_is); (case l29=>k_is); (case c29=>k_is); (case k29=>k_is)
  (case a30=>k_is); (case l30=>k_is); (case c30=>k_is); (case k30=>k_is)
  (case a31=>k_is); (case l31=>k_is); (case c31=>k_is); (case k31=>k_is)
  (case a32=>k_is); (case l32=>k_is); (case c32=>k_is); (case k32=>k_is)
  (case a33=>k_is); (case l33=>k_is); (case c33=>k_is); (case k33=>k_is)
  (case a34=>k_is); (case l34=>k_is); (case c34=>k_is); (case k34=>k_is)
  (case a35=>k_is); (case l35=>k_is); (case c35=>k_is); (case k35=>k_is)
  (case a36=>k_is); (case l36=>k_is); (case c36=>k_is); (case k36=>k_is)
  (case a37=>k_is); (case l37=>k_is); (case c37=>k_is); (case k37=>k_is)
  (case a38=>k_is); (case l38=>k_is); (case c38=>k_is); (case k38=>k_is)
  (case a39=>k_is); (case l39=>k_is); (case c39=>k_is); (case k39=>k_is)
  (case a40=>k_is); (case l40=>k_is); (case c40=>k_is); (case k40=>k_is)
  (case a41=>k_is); (case l41=>k_is); (case c41=>k_is); (case k41=>k_is)
  (case x_Walk=>k_is); (case ma_Walk_init=>k_is); (case ml_Walk_init=>k_is); (case mc_Walk_init=>k_is)
  (case mf_Walk_init=>k_is); (case mk_Walk_init=>k_is); (case z_all=>k_is); (case z_bool=>k_is)
  (case z_dict=>k_is); (case z_enumerate=>k_is); (case z_int=>k_is); (case z_isinstance=>k_is)
  (case z_len=>k_is); (case z_max=>k_is); (case z_min=>k_is); (case z_range=>k_is)
  (case z_sorted=>k_is); (case z_tuple=>k_is); (case z_zip=>k_is); (case pw=>k_is)
  (case ph=>k_is); (case t_Walk=>exact⟨⟨by kernel_rfl,by kernel_rfl,by kernel_rfl,by kernel_rfl⟩,by unfold L2.NoAttr; kernel_rfl,by unfold L2.NoAttr; kernel_rfl,by unfold L2.NoAttr; kernel_rfl⟩); (case mk_Walk=>k_is); (case kp_Walk=>k_is)
