import PyProof.Rows.All
import Wide.All
import OpenK.AllK
import Wide.FinOn
import Lean
import PyProof.EqAt
import PyProof.EqKinds
import PyProof.TupleCall
import PyProof.AttrMissHeap
import PySem.Challenge.RW_smallrooms_k36_whole_branches
set_option Elab.async false
set_option linter.all false
set_option maxRecDepth 100000
set_option Elab.async false
set_option linter.all false
set_option maxRecDepth 100000
namespace L2
open PySem PySem.Spec PyProof.Rows
abbrev Key:=Sum Int Str
def zmx:Key->Value->Bool
 | .inl k,v=>Value.isInt k v
 | .inr x,v=>Value.isStrOf x v
def q2p(w:World):Key->Int
 | .inl k=>hashInt k
 | .inr x=>hashStr w x
theorem z30:∀{k:Key} {v:Value},zmx k v=true->(∃i t,k=Sum.inl i/\v=Value.int i t)\/(∃x t,k=Sum.inr x/\v=Value.str x t)
 | .inl i,v,h=>by
  obtain⟨t,e⟩:=Value.isInt_shape (k:=i) (v:=v) h
  exact .inl ⟨i,t,rfl,e⟩
 | .inr x,v,h=>by
  obtain⟨t,e⟩:=Value.isStrOf_shape (x:=x) (v:=v) h
  exact .inr ⟨x,t,rfl,e⟩
theorem zsb(i:Int)(t:Tok):zmx (.inl i) (.int i t)=true:=by simp[zmx,Value.isInt]
theorem zsa(x:Str)(t:Tok):zmx (.inr x) (.str x t)=true:=by simp[zmx,Value.isStrOf]
theorem q05(a b:Int):decide ((Sum.inl a:Key)=Sum.inl b)=(a == b):=by
 by_cases e:a=b
 ·subst e; simp
 ·have h:¬ (Sum.inl a:Key)=Sum.inl b:=fun q=>e (Sum.inl.inj q)
  rw [decide_eq_false h]
  exact(beq_eq_false_iff_ne.mpr e).symm
theorem zw3(a b:Str):decide ((Sum.inr a:Key)=Sum.inr b)=decide (a=b):=by
 by_cases e:a=b
 ·subst e; simp
 ·have h:¬ (Sum.inr a:Key)=Sum.inr b:=fun q=>e (Sum.inr.inj q)
  rw [decide_eq_false h,decide_eq_false e]
theorem q04(a:Int)(b:Str):decide ((Sum.inl a:Key)=Sum.inr b)=false:=decide_eq_false (fun q=>nomatch q)
theorem q03(a:Str)(b:Int):decide ((Sum.inr a:Key)=Sum.inl b)=false:=decide_eq_false (fun q=>nomatch q)
def z1i(prog:Program)(w:World):PySem.KeyKind prog w Key where
 is:=zmx
 hash:=q2p w
 inj:=fun v a b ha hb=>by
  rcases z30 ha with⟨i,t,rfl,rfl⟩ | ⟨x,t,rfl,rfl⟩
  ·rcases z30 hb with⟨j,u,rfl,e⟩ | ⟨y,u,rfl,e⟩
   ·injection e with e1 _; rw [e1]
   ·exact nomatch e
  ·rcases z30 hb with⟨j,u,rfl,e⟩ | ⟨y,u,rfl,e⟩
   ·exact nomatch e
   ·injection e with e1 _; rw [e1]
 byValue:=fun k v h=>by
  rcases z30 h with⟨i,t,rfl,rfl⟩ | ⟨x,t,rfl,rfl⟩<;>rfl
 pyHash:=fun hv h=>by
  rcases z30 hv with⟨i,t,rfl,rfl⟩ | ⟨x,t,rfl,rfl⟩
  ·exact wpAny_pyHash_int h
  ·exact wpAny_pyHash_str h
 eqBool:=fun hu hv h=>by
  rcases z30 hu with⟨i,t,rfl,rfl⟩ | ⟨x,t,rfl,rfl⟩
  ·rcases z30 hv with⟨j,u,rfl,rfl⟩ | ⟨y,u,rfl,rfl⟩
   ·rw [q05] at h; exact wpAny_eqBool_int h
   ·rw [q04] at h; exact SeqAt.EqAt.int_str i t y u _ _ _ _ h
  ·rcases z30 hv with⟨j,u,rfl,rfl⟩ | ⟨y,u,rfl,rfl⟩
   ·rw [q03] at h; exact SeqAt.EqAt.str_int x t j u _ _ _ _ h
   ·rw [zw3] at h; exact wpAny_eqBool_str h
 «strs»:=fun k x t v h=>by
  rcases z30 h with⟨i,u,rfl,e⟩ | ⟨y,u,rfl,e⟩
  ·exact nomatch e
  ·injection e with e1 _
   subst e1
   cases v<;>rfl
theorem zmu(prog:Program)(w:World)(i:Int)(t:Tok):(z1i prog w).is (.inl i) (.int i t)=true:=zsb i t
theorem zmt(prog:Program)(w:World)(x:Str)(t:Tok):(z1i prog w).is (.inr x) (.str x t)=true:=zsa x t
end L2
namespace L2
open PySem PySem.Spec PyProof.Rows
inductive V where
 | non | bl (b:Bool) | int (i:Int) | str (x:Str) | byt (b:Array UInt8) | flt (b:UInt64) | ref (a:Addr) | ty (n:String)
 deriving DecidableEq
def RelV:V->Value->Prop
 | .non,u=>u=Value.none
 | .bl b,u=>u=Value.bool b
 | .int i,u=>∃t,u=Value.int i t
 | .str x,u=>∃t,u=Value.str x t
 | .byt b,u=>∃t,u=Value.bytes b t
 | .flt b,u=>∃t,u=Value.float b t
 | .ref a,u=>u=Value.ref a
 | .ty n,u=>u=Value.type n
abbrev Vals:List V->List Value->Prop:=Paired RelV
theorem Vals.length{xs:List V}{us:List Value}(r:Vals xs us):xs.length=us.length:=Paired.length r
theorem Vals.get:∀{xs:List V} {us:List Value} {i:Nat} {x:V},Vals xs us->xs[i]?=some x->∃u,us[i]?=some u/\RelV x u
 | _,_,_,_,.nil,e=>by simp at e
 | _,_,0,_,.cons r _,e=>by simp at e; subst e; exact⟨_,rfl,r⟩
 | _,_,i+1,x,.cons _ t,e=>by
  obtain⟨u,h1,h2⟩:=Vals.get (i:=i) (x:=x) t (by simpa using e)
  exact⟨u,by simpa using h1,h2⟩
theorem Vals.set{x:V}{u:Value}(r:RelV x u):∀{xs:List V} {us:List Value} (i:Nat),Vals xs us->Vals (xs.set i x) (us.set i u)
 | _,_,_,.nil=>.nil
 | _,_,0,.cons _ t=>.cons r t
 | _,_,i+1,.cons q t=>.cons q (Vals.set r i t)
theorem Vals.append:∀{xs ys:List V} {us ws:List Value},Vals xs us->Vals ys ws->Vals (xs++ys) (us++ws)
 | _,_,_,_,.nil,s=>s
 | _,_,_,_,.cons r t,s=>.cons r (Vals.append t s)
theorem Vals.take:∀{xs:List V} {us:List Value} (n:Nat),Vals xs us->Vals (xs.take n) (us.take n)
 | _,_,0,_=>.nil
 | _,_,_+1,.nil=>.nil
 | _,_,n+1,.cons r t=>.cons r (Vals.take n t)
theorem Vals.drop:∀{xs:List V} {us:List Value} (n:Nat),Vals xs us->Vals (xs.drop n) (us.drop n)
 | _,_,0,r=>r
 | _,_,_+1,.nil=>.nil
 | _,_,n+1,.cons _ t=>Vals.drop n t
def RelO:Option V->Option Value->Prop
 | some v,some u=>RelV v u
 | none,none=>True
 | _,_=>False
def KV{κ : Type}:List (κ×V)->List (κ×Value)->Prop:=Paired fun(p : κ×V) (q : κ×Value)=>p.1=q.1/\RelV p.2 q.2
def kV:Key->V
 | .inl i=>.int i
 | .inr x=>.str x
inductive HO where
 | lst (xs:List V)
 | tup (xs:List V)
 | dK (kvs:List (Key×V)) | dT (kvs:List (List Key×V))
 | set (S:Int->Bool) (n:Nat)
 | ins (C dx:Addr) (fs:List (Str×V))
 | own (x:Addr)
 | xd (fs:List (Str×V))
 | met (f x:Addr)
 | rng (lo hi:Int)
 | frz (o:Obj) (u:HO)
 | tbl (ps:Array Value)
 | ext (φ : Heap->Prop)
abbrev Hp:=Addr->Option HO
def upd(H:Hp)(a:Addr)(o:HO):Hp:=fun b=>if b=a then some o else H b
theorem z04{H:Hp}{a:Addr}{o:HO}:upd H a o a=some o:=by unfold upd; rw [if_pos rfl]
theorem z0s{H:Hp}{a b:Addr}{o:HO}(h:b≠a):upd H a o b=H b:=by unfold upd; rw [if_neg h]
theorem zam{H:Hp}{a b:Addr}{o u:HO}(h:H a=some o)(h':H b=some u)(d:o≠u):a≠b:=by
 intro e; subst e; rw [h] at h'; exact d (Option.some.inj h')
theorem z1q{H:Hp}{a b:Addr}{o:HO}(h:H a=some o)(h':H b=none):a≠b:=by
 intro e; subst e; rw [h] at h'; cases h'
section
variable(P:Program)(w:World)
def ObjOk(H:Hp)(h:Heap)(a:Addr):HO->Prop
 | .lst xs=>xs.length<=sizeLine/\∃(its:List Value) (n:Nat),Vals xs its/\h.get? a=some {cls:=.type "list",data:=.seq its.toArray n}
 | .tup xs=>xs.length<=sizeLine/\∃its:List Value,Vals xs its/\IsTup h a its.toArray
 | .dK kvs=>kvs.length<=sizeLine/\(a == sysModules)=false/\∃vs,KV kvs vs/\h.DictOf (z1i P w) a vs
 | .dT kvs=>kvs.length<=sizeLine/\(a == sysModules)=false/\∃xs:List (List Key×Addr×Value),
   Paired (fun(p:List Key×V) (q:List Key×Addr×Value)=>p.1=q.1/\H q.2.1=some (.tup (p.1.map kV))/\RelV p.2 q.2.2) kvs xs/\
   ∃o es ep,h.get? a=some o/\o.ExactDict/\o.data=.dict es ep/\es.toList=xs.map (entryOfKey (tupleKind (z1i P w)))/\(xs.map (·.1)).Nodup
 | .set S n=>h.SetOf (intKind P w) a S n
 | .ins C dx fs=>H dx=some (.own a)/\fs.length<=1000/\dx≠a/\h.get? a=some (PySem.W.instObj C dx)/\
   ∃mA,h.Ns1 dx mA/\(∀f,RelO (fs.lookup f) (mA f))/\PySem.Within mA (fs.map (·.1))
 | .own _=>∃o,h.get? a=some o
 | .xd fs=>∃mA,h.Ns1 a mA/\∀f,RelO (fs.lookup f) (mA f)
 | .rng lo hi=>∃t u v,h.get? a=some {cls:=.type "range",data:=.fields #[.int lo t,.int hi u,.int 1 v]}
 | .frz o u=>h.get? a=some o/\ObjOk H h a u
 | .tbl ps=>h.get? a=some {cls:=.none,data:=.fields ps}
 | .met f x=>h.get? a=some (PySem.W.methodObj (.ref f) (.ref x))
 | .ext φ=>φ h/\(∃o,h.get? a=some o)/\∀h1 h2:Heap,φ h1->(∀o,h1.get? a=some o->h2.get? a=some o)->φ h2
def HOk(H:Hp)(h:Heap):Prop:=∀a o,H a=some o->ObjOk P w H h a o
end
section
variable{P:Program}{w:World}{H H':Hp}{h h':Heap}{a:Addr}{o:HO}
theorem ObjOk.lt(x:ObjOk P w H h a o):a < h.objs.size:=by
 cases o with
 | lst xs=>obtain⟨_,_,_,_,e⟩:=x; exact Heap.lt_size e
 | tup xs=>obtain⟨_,_,_,p⟩:=x; exact p.lt
 | dK kvs=>obtain⟨_,_,_,_,o,_,_,e,_⟩:=x; exact Heap.lt_size e
 | dT kvs=>obtain⟨_,_,_,_,o,_,_,e,_⟩:=x; exact Heap.lt_size e
 | set S n=>obtain⟨o,_,_,_,e,_⟩:=x; exact Heap.lt_size e
 | ins C dx fs=>obtain⟨_,_,_,e,_⟩:=x; exact Heap.lt_size e
 | own y=>obtain⟨_,e⟩:=x; exact Heap.lt_size e
 | xd fs=>obtain⟨_,⟨_,_,_,e,_⟩,_⟩:=x; exact Heap.lt_size e
 | rng lo hi=>obtain⟨_,_,_,e⟩:=x; exact Heap.lt_size e
 | frz ob u=>obtain⟨e,_⟩:=x; exact Heap.lt_size e
 | tbl ps=>exact Heap.lt_size (show h.get? a=some _ from x)
 | met f y=>exact Heap.lt_size (show h.get? a=some _ from x)
 | ext φ=>obtain⟨_,⟨_,e⟩,_⟩:=x; exact Heap.lt_size e
theorem Paired.mapP{α β : Type}{F G : α->β->Prop}:∀{l₁:List α} {l₂:List β},Paired F l₁ l₂->(∀a b,F a b->G a b)->Paired G l₁ l₂
 | _,_,.nil,_=>.nil
 | _,_,.cons r t,f=>.cons (f _ _ r) (Paired.mapP t f)
theorem ObjOk.stay(x:ObjOk P w H h a o)(k:∀b u,(b=a\/H b=some (.own a))->h.get? b=some u->h'.get? b=some u)
  (ho:∀b,H b=some (.own a)->H' b=some (.own a)) (ht:∀b xs,H b=some (.tup xs)->H' b=some (.tup xs)):ObjOk P w H' h' a o:=by
 induction o with
 | lst xs=>obtain⟨z,its,n,r,e⟩:=x; exact⟨z,its,n,r,k _ _ (.inl rfl) e⟩
 | tup xs=>obtain⟨z,its,r,ob,e,c⟩:=x; exact⟨z,its,r,ob,k _ _ (.inl rfl) e,c⟩
 | dK kvs=>obtain⟨z,y,vs,r,ob,es,ep,e,c⟩:=x; exact⟨z,y,vs,r,ob,es,ep,k _ _ (.inl rfl) e,c⟩
 | dT kvs=>
  obtain⟨z,y,xs,r,ob,es,ep,e,c⟩:=x
  exact⟨z,y,xs,Paired.mapP r fun p q z=>⟨z.1,ht _ _ z.2.1,z.2.2⟩,ob,es,ep,k _ _ (.inl rfl) e,c⟩
 | set S n=>obtain⟨ob,es,ep,t,e,c⟩:=x; exact⟨ob,es,ep,t,k _ _ (.inl rfl) e,c⟩
 | ins C dx fs=>
  obtain⟨d,z,ne,e,mA,⟨od,es,ep,e2,c⟩,r⟩:=x
  exact⟨ho _ d,z,ne,k _ _ (.inl rfl) e,mA,⟨od,es,ep,k _ _ (.inr d) e2,c⟩,r⟩
 | own y=>obtain⟨ob,e⟩:=x; exact⟨ob,k _ _ (.inl rfl) e⟩
 | xd fs=>obtain⟨mA,⟨od,es,ep,e,c⟩,r⟩:=x; exact⟨mA,⟨od,es,ep,k _ _ (.inl rfl) e,c⟩,r⟩
 | rng lo hi=>obtain⟨t,u,v,e⟩:=x; exact⟨t,u,v,k _ _ (.inl rfl) e⟩
 | frz ob u ih=>obtain⟨e,q⟩:=x; exact⟨k _ _ (.inl rfl) e,ih q⟩
 | tbl ps=>
  have e:h.get? a=some {cls:=.none,data:=.fields ps}:=x
  show h'.get? a=some {cls:=.none,data:=.fields ps}
  exact k a _ (.inl rfl) e
 | met f y=>
  have e:h.get? a=some (PySem.W.methodObj (.ref f) (.ref y)):=x
  show h'.get? a=some (PySem.W.methodObj (.ref f) (.ref y))
  exact k a _ (.inl rfl) e
 | ext φ=>obtain⟨p,⟨o,e⟩,st⟩:=x; exact⟨st _ _ p fun o q=>k _ _ (.inl rfl) q,⟨o,k _ _ (.inl rfl) e⟩,st⟩
theorem HOk.lt(x:HOk P w H h)(e:H a=some o):a < h.objs.size:=(x a o e).lt
theorem HOk.fresh(x:HOk P w H h)(e:h.objs.size<=a):H a=none:=by
 cases q:H a with
 | none=>rfl
 | some u=>exact absurd (Nat.lt_of_lt_of_le (x.lt q) e) (Nat.lt_irrefl _)
theorem HOk.kept(x:HOk P w H h)(k:∀b u,h.get? b=some u->h'.get? b=some u):HOk P w H h':=fun a o e=>
 (x a o e).stay (fun b u _ q=>k b u q) (fun _ q=>q) fun _ _ q=>q
theorem HOk.laid(x:HOk P w H h)(k:∀b u,h.get? b=some u->h'.get? b=some u)(hp:h.objs.size<=a)(new:ObjOk P w (upd H a o) h' a o):HOk P w (upd H a o) h':=fun b u e=>by
 have hn:=x.fresh hp
 by_cases hb:b=a
 ·subst hb; rw [z04] at e; cases e; exact new
 ·rw [z0s hb] at e
  exact(x b u e).stay (fun c v _ q=>k c v q) (fun c q=>by rw [z0s (z1q q hn)]; exact q) fun c xs q=>by rw [z0s (z1q q hn)]; exact q
end
def Rd(H:Hp)(a:Addr)(u:HO):Prop:=H a=some u\/∃o,H a=some (.frz o u)
theorem Rd.of{H:Hp}{a:Addr}{u:HO}(h:H a=some u):Rd H a u:=.inl h
theorem Rd.ok{P:Program}{w:World}{H:Hp}{h:Heap}{a:Addr}{u:HO}(r:Rd H a u)(x:HOk P w H h):ObjOk P w H h a u:=by
 rcases r with r | ⟨o,r⟩
 ·exact x a u r
 ·obtain⟨_,q⟩:=x a _ r
  exact q
def Mut:Option HO->Prop
 | some (.lst _)=>True
 | some (.dK _)=>True
 | some (.dT _)=>True
 | some (.set _ _)=>True
 | some (.ins _ _ _)=>True
 | some (.ext _)=>True
 | _=>False
section
variable{P:Program}{w:World}{H:Hp}{h h':Heap}{x e:Addr}{o':HO}
theorem HOk.write(ok:HOk P w H h)(mu:Mut (H x))(he:e=x\/H e=some (.own x))(k:∀b u,b≠e->h.get? b=some u->h'.get? b=some u)(heo:∃u,h'.get? e=some u)
  (new:ObjOk P w (upd H x o') h' x o'):HOk P w (upd H x o') h':=fun b u q=>by
 have nown:∀c y,H c=some (.own y)->c≠x:=fun c y r z=>by subst z; rw [r] at mu; exact mu
 have ntup:∀c xs,H c=some (.tup xs)->c≠x:=fun c xs r z=>by subst z; rw [r] at mu; exact mu
 by_cases hb:b=x
 ·subst hb; rw [z04] at q; cases q; exact new
 ·rw [z0s hb] at q
  by_cases hbe:b=e
  ·have q':H b=some (.own x):=by
    rcases he with z | z
    ·exact absurd (hbe.trans z) hb
    ·rw [hbe]; exact z
   rw [q] at q'; cases q'
   obtain⟨v,hv⟩:=heo
   exact⟨v,by rw [hbe]; exact hv⟩
  ·refine(ok b u q).stay (fun c v hc r=>k c v ?_ r) (fun c r=>by rw [z0s (nown c b r)]; exact r) fun c xs r=>by rw [z0s (ntup c xs r)]; exact r
   rcases hc with rfl | hc
   ·exact hbe
   ·rintro rfl
    rcases he with z | z
    ·exact nown c b hc z
    ·rw [hc] at z; cases z; exact hb rfl
end
structure Un(fs ex:List Addr)(H H':Hp)(h h':Heap):Prop where
 keep:∀b o,h.get? b=some o->H b=none->b∉fs->b∉ex->h'.get? b=some o
 slot:∀b o,h.get? b=some o->H b=none->b∈fs->b∉ex->∃sl,h'.get? b=some {o with slots:=sl}
 free:∀b o,h.get? b=some o->H b=none->b∉ex->H' b=none
 there:∀b o,h.get? b=some o->b∉ex->∃o',h'.get? b=some o'
 tups:∀b xs,H b=some (.tup xs)->H' b=some (.tup xs)
 frzs:∀b o u,H b=some (.frz o u)->H' b=some (.frz o u)
 tbls:∀b ps,H b=some (.tbl ps)->∃more,H' b=some (.tbl (ps++more))
section
variable{fs fs' ex ex':List Addr}{H H1 H2:Hp}{h h1 h2 h':Heap}{a x e:Addr}{o:HO}
theorem Un.any(u:Un fs ex H H1 h h1){b:Addr}{ob:Obj}(q:h.get? b=some ob)(n:H b=none)(hx:b∉ex):∃sl,h1.get? b=some {ob with slots:=sl}:=by
 by_cases hb:b∈fs
 ·exact u.slot b ob q n hb hx
 ·exact⟨ob.slots,u.keep b ob q n hb hx⟩
theorem Un.trans(a:Un fs ex H H1 h h1)(b:Un fs ex H1 H2 h1 h2):Un fs ex H H2 h h2 where
 keep:=fun c ob q n hc hx=>b.keep c ob (a.keep c ob q n hc hx) (a.free c ob q n hx) hc hx
 slot:=fun c ob q n hc hx=>by
  obtain⟨sl,e1⟩:=a.slot c ob q n hc hx
  obtain⟨sl',e2⟩:=b.slot c _ e1 (a.free c ob q n hx) hc hx
  exact⟨sl',e2⟩
 free:=fun c ob q n hx=>by
  obtain⟨o',e1⟩:=a.there c ob q hx
  exact b.free c o' e1 (a.free c ob q n hx) hx
 there:=fun c ob q hx=>by
  obtain⟨o',e1⟩:=a.there c ob q hx
  exact b.there c o' e1 hx
 tups:=fun c xs q=>b.tups c xs (a.tups c xs q)
 frzs:=fun c ob xs q=>b.frzs c ob xs (a.frzs c ob xs q)
 tbls:=fun c ps q=>by
  obtain⟨m1,e1⟩:=a.tbls c ps q
  obtain⟨m2,e2⟩:=b.tbls c _ e1
  exact⟨m1++m2,by rw [e2,Array.append_assoc]⟩
theorem Un.kept(k:∀b u,h.get? b=some u->h'.get? b=some u):Un fs ex H H h h':=
 ⟨fun b ob q _ _ _=>k b ob q,fun b ob q _ _ _=>⟨ob.slots,k b ob q⟩,fun _ _ _ n _=>n,fun b ob q _=>⟨ob,k b ob q⟩,fun _ _ q=>q,fun _ _ _ q=>q,fun _ ps q=>⟨#[],by rw [q]; simp⟩⟩
theorem Un.refl:Un fs ex H H h h:=Un.kept fun _ _ q=>q
theorem Un.laid(k:∀b u,h.get? b=some u->h'.get? b=some u)(hp:h.objs.size<=a)(hn:H a=none):Un fs ex H (upd H a o) h h' where
 keep:=fun b u q _ _ _=>k b u q
 slot:=fun b u q _ _ _=>⟨u.slots,k b u q⟩
 free:=fun b u q n _=>by rw [z0s (Nat.ne_of_lt (Nat.lt_of_lt_of_le (Heap.lt_size q) hp))]; exact n
 there:=fun b u q _=>⟨u,k b u q⟩
 tups:=fun b xs q=>by rw [z0s (z1q q hn)]; exact q
 frzs:=fun b u xs q=>by rw [z0s (z1q q hn)]; exact q
 tbls:=fun b ps q=>⟨#[],by rw [z0s (z1q q hn),q]; simp⟩
theorem Un.write(mu:Mut (H x))(he:e=x\/H e=some (.own x))(k:∀b u,b≠e->h.get? b=some u->h'.get? b=some u)(heo:∃u,h'.get? e=some u):Un fs ex H (upd H x o) h h':=by
 have hx:∀b,H b=none->b≠x:=fun b n z=>by subst z; rw [n] at mu; exact mu
 have hb:∀b,H b=none->b≠e:=fun b n z=>by
  subst z
  rcases he with r | r
  ·exact hx b n r
  ·rw [n] at r; cases r
 have hm:∀b u,H b=some u->¬ Mut (some u)->b≠x:=fun b u q nm z=>by subst z; rw [q] at mu; exact nm mu
 refine⟨fun b u q n _ _=>k b u (hb b n) q,fun b u q n _ _=>⟨u.slots,k b u (hb b n) q⟩,fun b u q n _=>by rw [z0s (hx b n)]; exact n,fun b u q _=>?_,
  fun b xs q=>by rw [z0s (hm b _ q fun z=>z)]; exact q,fun b u xs q=>by rw [z0s (hm b _ q fun z=>z)]; exact q,fun b ps q=>⟨#[],by rw [z0s (hm b _ q fun z=>z),q]; simp⟩⟩
 by_cases hbe:b=e
 ·subst hbe; exact heo
 ·exact⟨u,k b u hbe q⟩
end
def trk(h:Heap)(H:Hp):List Addr:=(List.range h.objs.size).filter fun a=>(H a).isSome
def zux(h:Heap)(H:Hp):Heap:=PySem.W.hideAll h (trk h H)
theorem zsk(h:Heap)(H:Hp):(zux h H).objs.size=h.objs.size:=PySem.W.hideAll_size _ _
theorem zuw{h:Heap}{H:Hp}{b:Addr}{o:Obj}(e:h.get? b=some o)(n:H b=none):(zux h H).get? b=some o:=
 PySem.W.hideAll_get _ e fun hm=>by
  have q:(H b).isSome=true:=(List.mem_filter.mp hm).2
  rw [n] at q; simp at q
theorem zxk{h:Heap}{H:Hp}{b:Addr}{o:Obj}(e:(zux h H).get? b=some o):h.get? b=some o/\H b=none:=by
 have e':h.get? b=some o:=PySem.W.of_hideAll (trk h H) e
 refine⟨e',?_⟩
 cases q:H b with
 | none=>rfl
 | some x=>
  have hm:b∈trk h H:=List.mem_filter.mpr ⟨List.mem_range.mpr (Heap.lt_size e'),by simp[q]⟩
  have z:(zux h H).get? b=none:=PySem.W.hideAll_none (trk h H) hm
  rw [z] at e; cases e
def zyb(g h:Heap)(L:Addr):List (Addr×Obj):=(List.range h.objs.size).filterMap fun a=>if a=L\/(g.get? a).isSome=true then none else(h.get? a).map fun o=>(a,o)
def zaz(g h:Heap)(L d:Addr):List (Addr×Obj):=(zyb g h L).filter fun p=>decide (p.1≠d)
end L2
namespace L2
open PySem PySem.Spec PyProof.Rows
structure Mod(K:PySem.W.Frag)(mg:Str->Option Value)(base:Heap):Prop where
 kin:K.In base
 glob:base.Ns mainGlobals mg
 blt:∃mb,base.Ns builtinsNs mb/\∀x:Str,x≠"__name__"->mb x=bootBuiltins x
 nolimit:base.NoLimit
structure Cx where
 prog:Program
 w:World
 K:PySem.W.Frag
 mg:Str->Option Value
 base:Heap
 A:Around
 N:List Str
 s₀:Shared
 H₀:Hp
 env:Env
 outer:List Env
 stack:List Env
 ex:List Addr
 fn:Str->Bool
 calm:Bool
 pn:List (Addr×Obj)
 xe:Value->Shared->Prop
def frs(l:List Env):List Addr:=l.filterMap (·.frame)
abbrev Cx.fs(X:Cx):List Addr:=frs X.outer
def Vis(sc:Scope)(x:Str):Prop:=sc.names.lookup x=some .local\/sc.names.lookup x=some .cell\/sc.names.lookup x=some .free
def Loc(sc:Scope)(x:Str):Prop:=sc.names.lookup x=some .local\/sc.names.lookup x=some .cell
def Look(env:Env)(h:Heap)(m:Str->Option Value)(x:Str)(u:Value):Prop:=
 (env.kindOf x=some .local/\m x=some u)\/((env.kindOf x=some .cell\/env.kindOf x=some .free)/\∃c,env.cells.lookup x=some c/\h.IsCell c (some u))
structure Cx.Ok(X:Cx):Prop where
 mod:Mod X.K X.mg X.base
 kind:X.env.scope.kind=.function
 glob:X.env.globals=mainGlobals
 blt:X.env.builtins=builtinsNs
 above:X.s₀.heap.objs.size<=X.env.locals
 inj:∀x y c,X.env.cells.lookup x=some c->X.env.cells.lookup y=some c->x=y
 has:∀x,(X.env.kindOf x=some .cell\/X.env.kindOf x=some .free)->∃c,X.env.cells.lookup x=some c
 cab:∀x c,X.fn x=true->X.env.cells.lookup x=some c->X.s₀.heap.objs.size<=c
 hd:X.calm=true->X.A.handled=none
 frames:X.A.frames=some X.stack
 stk:X.stack=X.outer\/(X.stack=X.env::X.outer/\X.env.frame=some X.env.locals)
 exf:∀b∈X.ex,b≠X.env.locals/\∀x c,X.env.cells.lookup x=some c->c≠b
 bs:∀b o,X.base.get? b=some o->X.s₀.heap.get? b=some o/\X.H₀ b=none
 bsz:X.base.objs.size<=X.s₀.heap.objs.size
 noex:∀b o,X.base.get? b=some o->b∉X.ex
 exfs:∀b∈X.ex,b∉X.fs
 funs:X.s₀.heap.FunFrames X.base X.outer
 frf:∀b∈X.fs,X.H₀ b=none
structure Inv(X:Cx)(pins:List (Addr×Obj))(σ : List (Option V))(H:Hp)(s:Shared):Prop where
 ok:X.Ok
 os:s.os=X.s₀.os
 bare:AllBare s.gens
 base:Un X.fs X.ex X.H₀ H X.s₀.heap s.heap
 loc:∃m,s.heap.Ns X.env.locals m/\∀(i:Nat) (x:Str) (v:V),X.N[i]?=some x->σ[i]?=some (some v)->Vis X.env.scope x->∃u,RelV v u/\Look X.env s.heap m x u
 cell:∀x c,X.env.cells.lookup x=some c->∃v,s.heap.IsCell c v
 free:H X.env.locals=none
 freeC:∀x c,X.env.cells.lookup x=some c->H c=none
 pin:∀p∈X.pn++pins,s.heap.get? p.1=some p.2/\H p.1=none/\p.1≠X.env.locals/\p.1∉X.fs/\∀v,p.2.data≠.cell v
 hok:HOk X.prog X.w H s.heap
 len : σ.length=X.N.length
section
variable{X:Cx}{pins:List (Addr×Obj)}{σ : List (Option V)}{H H':Hp}{s:Shared}{h':Heap}
theorem Cx.Ok.nofr(ok:X.Ok){b:Addr}{o:Obj}(e:X.base.get? b=some o):b∉X.fs:=fun hb=>by
 have:=(ok.funs.mem hb).1
 rw [e] at this; cases this
theorem Inv.bs(I:Inv X pins σ H s):∀b o,X.base.get? b=some o->s.heap.get? b=some o/\H b=none:=fun b o e=>
 ⟨I.base.keep b o (I.ok.bs b o e).1 (I.ok.bs b o e).2 (I.ok.nofr e) (I.ok.noex b o e),I.base.free b o (I.ok.bs b o e).1 (I.ok.bs b o e).2 (I.ok.noex b o e)⟩
theorem Inv.bk(I:Inv X pins σ H s):∀b o,X.base.get? b=some o->s.heap.get? b=some o:=fun b o e=>(I.bs b o e).1
theorem Inv.mod(I:Inv X pins σ H s):Mod X.K X.mg X.base:=I.ok.mod
theorem Inv.kIn(I:Inv X pins σ H s):X.K.In s.heap:=I.ok.mod.kin.keeps I.bk
theorem Inv.lt(I:Inv X pins σ H s):X.env.locals < s.heap.objs.size:=let ⟨_,hn,_⟩:=I.loc; hn.lt
theorem Inv.sz(I:Inv X pins σ H s):X.s₀.heap.objs.size<=s.heap.objs.size:=Nat.le_trans I.ok.above (Nat.le_of_lt I.lt)
theorem Inv.nofs(I:Inv X pins σ H s){a:Addr}(h:s.heap.objs.size<=a):a∉X.fs:=fun hb=>by
 obtain⟨_,o,ho,_⟩:=I.ok.funs.mem hb
 exact absurd (Nat.lt_of_lt_of_le (Heap.lt_size ho) (Nat.le_trans I.sz h)) (Nat.lt_irrefl _)
theorem Inv.cne(I:Inv X pins σ H s):∀x c,X.env.cells.lookup x=some c->c≠X.env.locals:=fun x c e z=>by
 obtain⟨v,o,ho,hd⟩:=I.cell x c e
 obtain⟨m,⟨o',es,ep,ho',hd',_⟩,_⟩:=I.loc
 rw [z,ho'] at ho; cases ho; rw [hd'] at hd; cases hd
theorem Inv.funs(I:Inv X pins σ H s):s.heap.FunFrames X.base X.outer:=by
 have all:∀(l:List Env),(∀b∈frs l,b∈X.fs)->X.s₀.heap.FunFrames X.base l->s.heap.FunFrames X.base l:=by
  intro l
  induction l with
  | nil=>intro _ _; trivial
  | cons env r ih=>
   intro hs hl
   obtain⟨hk,⟨L,o,hf,hn,ho,hd⟩,hr⟩:=hl
   have hL:L∈X.fs:=hs L (by unfold frs; rw [List.filterMap_cons,hf]; exact List.mem_cons_self)
   obtain⟨sl,e⟩:=I.base.slot L o ho (I.ok.frf L hL) hL fun z=>I.ok.exfs L z hL
   exact⟨hk,⟨L,_,hf,hn,e,hd⟩,ih (fun b hb=>hs b (by unfold frs; rw [List.filterMap_cons,hf]; exact List.mem_cons_of_mem _ hb)) hr⟩
 exact all X.outer (fun _ hb=>hb) I.ok.funs
theorem Inv.stack(I:Inv X pins σ H s):s.heap.FunFrames X.base X.stack:=by
 rcases I.ok.stk with e | ⟨e,hf⟩
 ·rw [e]; exact I.funs
 ·rw [e]
  obtain⟨m,hn,_⟩:=I.loc
  refine .cons (by rw [I.ok.kind]; decide) hf hn ?_ I.funs
  exact Heap.get?_none_of_le (Nat.le_trans I.ok.bsz I.ok.above)
theorem Inv.stkSub(I:Inv X pins σ H s):∀b∈frs X.stack,b∈X.env.locals::X.fs:=fun b hb=>by
 rcases I.ok.stk with e | ⟨e,hf⟩
 ·rw [e] at hb; exact List.mem_cons_of_mem _ hb
 ·rw [e] at hb
  unfold frs at hb
  rw [List.filterMap_cons,hf] at hb
  exact hb
theorem Inv.stkFree(I:Inv X pins σ H s):∀b∈frs X.stack,H b=none:=fun b hb=>by
 rcases List.mem_cons.mp (I.stkSub b hb) with e | hb
 ·rw [e]; exact I.free
 ·obtain⟨_,o,ho,_⟩:=I.ok.funs.mem hb
  exact I.base.free b o ho (I.ok.frf b hb) fun z=>I.ok.exfs b z hb
theorem Inv.step{g':Array GenState}{t':Nat}{d':Drawn}{ch:List Addr}(I:Inv X pins σ H s)
  (hch:∀b∈ch,(b∈X.ex\/X.s₀.heap.objs.size<=b)/\b≠X.env.locals/\(∀x c,X.env.cells.lookup x=some c->c≠b)/\∀p∈X.pn++pins,p.1≠b)
  (keep:∀b o,b≠X.env.locals->b∉X.fs->b∉ch->s.heap.get? b=some o->H b=none->h'.get? b=some o)
  (slot:∀b o,b≠X.env.locals->b∈X.fs->b∉ch->s.heap.get? b=some o->H b=none->∃sl,h'.get? b=some {o with slots:=sl}) (free:∀b o,b∉ch->s.heap.get? b=some o->H b=none->H' b=none)
  (there:∀b o,b∉ch->s.heap.get? b=some o->∃o',h'.get? b=some o')
  (tups:∀b xs,H b=some (.tup xs)->H' b=some (.tup xs)) (frzs:∀b o u,H b=some (.frz o u)->H' b=some (.frz o u)) (tbls:∀b ps,H b=some (.tbl ps)->∃more,H' b=some (.tbl (ps++more)))
  (ns:∀m,s.heap.Ns X.env.locals m->h'.Ns X.env.locals m) (hok:HOk X.prog X.w H' h') (hg:AllBare g') :
  Inv X pins σ H' {s with heap:=h',gens:=g',drawn:=d',toks:=t'}:=by
 have neL:∀b o,X.s₀.heap.get? b=some o->b≠X.env.locals:=fun b o e=>Nat.ne_of_lt (Nat.lt_of_lt_of_le (Heap.lt_size e) I.ok.above)
 have neC:∀b o,X.s₀.heap.get? b=some o->b∉X.ex->b∉ch:=fun b o e hx hb=>by
  rcases(hch b hb).1 with z | z
  ·exact hx z
  ·exact absurd (Nat.lt_of_lt_of_le (Heap.lt_size e) z) (Nat.lt_irrefl _)
 have cellK:∀x c,X.env.cells.lookup x=some c->∀v,s.heap.IsCell c v->h'.IsCell c v:=fun x c e v ⟨o,ho,hd⟩=>by
  have nch:c∉ch:=fun z=>(hch c z).2.2.1 x c e rfl
  by_cases hc:c∈X.fs
  ·obtain⟨sl,q⟩:=slot c o (I.cne x c e) hc nch ho (I.freeC x c e)
   exact⟨_,q,hd⟩
  ·exact⟨o,keep c o (I.cne x c e) hc nch ho (I.freeC x c e),hd⟩
 refine⟨I.ok,I.os,hg,⟨fun b o e n hb hx=>?_,fun b o e n hb hx=>?_,fun b o e n hx=>?_,fun b o e hx=>?_,fun b xs e=>tups b xs (I.base.tups b xs e),fun b o xs e=>frzs b o xs (I.base.frzs b o xs e),fun b ps e=>?_⟩,?_,fun x c e=>?_,?_,fun x c e=>?_,fun p hp=>?_,hok,I.len⟩
 ·exact keep b o (neL b o e) hb (neC b o e hx) (I.base.keep b o e n hb hx) (I.base.free b o e n hx)
 ·obtain⟨sl,e1⟩:=I.base.slot b o e n hb hx
  obtain⟨sl',e2⟩:=slot b _ (neL b o e) hb (neC b o e hx) e1 (I.base.free b o e n hx)
  exact⟨sl',e2⟩
 ·obtain⟨o',e1⟩:=I.base.there b o e hx
  exact free b o' (neC b o e hx) e1 (I.base.free b o e n hx)
 ·obtain⟨o',e1⟩:=I.base.there b o e hx
  exact there b o' (neC b o e hx) e1
 ·obtain⟨m1,e1⟩:=I.base.tbls b ps e
  obtain⟨m2,e2⟩:=tbls b _ e1
  exact⟨m1++m2,by rw [e2,Array.append_assoc]⟩
 ·obtain⟨m,hn,hl⟩:=I.loc
  refine⟨m,ns m hn,fun i x v e1 e2 e3=>?_⟩
  obtain⟨u,r,l⟩:=hl i x v e1 e2 e3
  refine⟨u,r,?_⟩
  rcases l with l | ⟨k,c,e,z⟩
  ·exact .inl l
  ·exact .inr ⟨k,c,e,cellK x c e _ z⟩
 ·obtain⟨v,z⟩:=I.cell x c e
  exact⟨v,cellK x c e v z⟩
 ·obtain⟨m,⟨o,_,_,ho,_⟩,_⟩:=I.loc
  exact free _ o (fun z=>(hch _ z).2.1 rfl) ho I.free
 ·obtain⟨v,o,ho,hd⟩:=I.cell x c e
  exact free c o (fun z=>(hch c z).2.2.1 x c e rfl) ho (I.freeC x c e)
 ·obtain⟨e,n,ne,nf,d⟩:=I.pin p hp
  have nch:p.1∉ch:=fun z=>(hch p.1 z).2.2.2 p hp rfl
  exact⟨keep p.1 p.2 ne nf nch e n,free p.1 p.2 nch e n,ne,nf,d⟩
theorem Inv.un{t':Nat}(I:Inv X pins σ H s)(u:Un X.fs [] H H' s.heap h')(hok:HOk X.prog X.w H' h'):Inv X pins σ H' {s with heap:=h',toks:=t'}:=by
 obtain⟨m,⟨o,es,ep,ho,r⟩,_⟩:=id I.loc
 obtain⟨sl,hL⟩:=u.any ho I.free (by simp)
 exact I.step (g':=s.gens) (d':=s.drawn) (ch:=[]) (fun _ z=>nomatch z) (fun b o _ hb _ e n=>u.keep b o e n hb (by simp)) (fun b o _ hb _ e n=>u.slot b o e n hb (by simp)) (fun b o _ e n=>u.free b o e n (by simp)) (fun b o _ e=>u.there b o e (by simp)) u.tups u.frzs u.tbls (fun m' hm=>by
  obtain⟨o',es',ep',ho',r'⟩:=hm
  rw [ho] at ho'; cases ho'
  exact⟨_,es',ep',hL,r'⟩) hok I.bare
theorem Inv.call{g':Array GenState}{t':Nat}{d':Drawn}{ch:List Addr}(I:Inv X pins σ H s)(u:Un (frs X.stack) ch H H' s.heap h')(hok:HOk X.prog X.w H' h')(hg:AllBare g')
  (hch:∀b∈ch,(b∈X.ex\/X.s₀.heap.objs.size<=b)/\b≠X.env.locals/\(∀x c,X.env.cells.lookup x=some c->c≠b)/\∀p∈X.pn++pins,p.1≠b) :
  Inv X pins σ H' {s with heap:=h',gens:=g',drawn:=d',toks:=t'}:=by
 obtain⟨m,⟨o,es,ep,ho,r⟩,_⟩:=id I.loc
 obtain⟨sl,hL⟩:=u.any ho I.free fun z=>(hch _ z).2.1 rfl
 exact I.step (ch:=ch) hch (fun b o hL hb hc e n=>u.keep b o e n (fun z=>(List.mem_cons.mp (I.stkSub b z)).elim hL hb) hc) (fun b o _ _ hc e n=>u.any e n hc) (fun b o hc e n=>u.free b o e n hc) (fun b o hc e=>u.there b o e hc) u.tups u.frzs u.tbls (fun m' hm=>by
  obtain⟨o',es',ep',ho',r'⟩:=hm
  rw [ho] at ho'; cases ho'
  exact⟨_,es',ep',hL,r'⟩) hok hg
theorem Inv.turned{t':Nat}{it:Addr}(I:Inv X pins σ H s)(k:∀b o,b≠it->s.heap.get? b=some o->h'.get? b=some o)(hn:H it=none)(hL:it≠X.env.locals)
  (h1:it∈X.ex\/X.s₀.heap.objs.size<=it) (h2:∀x c,X.env.cells.lookup x=some c->c≠it) (h3:∀p∈X.pn++pins,p.1≠it):Inv X pins σ H {s with heap:=h',toks:=t'}:=by
 have nit:∀b u,H b=some u->b≠it:=fun b u e z=>by rw [z,hn] at e; cases e
 refine I.step (g':=s.gens) (d':=s.drawn) (ch:=[it]) (fun b hb=>?_) (fun b o _ _ hc e _=>k b o (fun z=>hc (by simp[z])) e) (fun b o _ _ hc e _=>⟨o.slots,k b o (fun z=>hc (by simp[z])) e⟩) (fun _ _ _ _ n=>n)
  (fun b o hc e=>⟨o,k b o (fun z=>hc (by simp[z])) e⟩) (fun _ _ e=>e) (fun _ _ _ e=>e) (fun b ps e=>⟨#[],by rw [e]; simp⟩) (fun m hm=>?_) (fun b u e=>?_) I.bare
 ·have e:b=it:=by simpa using hb
  subst e
  exact⟨h1,hL,h2,h3⟩
 ·obtain⟨o,es,ep,ho,r⟩:=hm
  exact⟨o,es,ep,k _ o (Ne.symm hL) ho,r⟩
 ·refine(I.hok b u e).stay (fun c v hc q=>k c v ?_ q) (fun _ q=>q) fun _ _ q=>q
  rcases hc with z | z
  ·rw [z]; exact nit b u e
  ·exact nit c _ z
theorem Inv.tok(I:Inv X pins σ H s)(t:Nat):Inv X pins σ H {s with toks:=t}:=I.un (h':=s.heap) (t':=t) Un.refl I.hok
theorem Inv.kept{t':Nat}(I:Inv X pins σ H s)(k:∀b u,s.heap.get? b=some u->h'.get? b=some u):Inv X pins σ H {s with heap:=h',toks:=t'}:=I.un (Un.kept k) (I.hok.kept k)
theorem Inv.laid{a:Addr}{o:HO}{t':Nat}(I:Inv X pins σ H s)(k:∀b u,s.heap.get? b=some u->h'.get? b=some u)(hp:s.heap.objs.size<=a)(new:ObjOk X.prog X.w (upd H a o) h' a o) :
  Inv X pins σ (upd H a o) {s with heap:=h',toks:=t'}:=I.un (Un.laid k hp (I.hok.fresh hp)) (I.hok.laid k hp new)
theorem Inv.write{x e:Addr}{o:HO}{t':Nat}(I:Inv X pins σ H s)(mu:Mut (H x))(he:e=x\/H e=some (.own x))(k:∀b u,b≠e->s.heap.get? b=some u->h'.get? b=some u)(heo:∃u,h'.get? e=some u)
  (new:ObjOk X.prog X.w (upd H x o) h' x o):Inv X pins σ (upd H x o) {s with heap:=h',toks:=t'}:=I.un (Un.write mu he k heo) (I.hok.write mu he k heo new)
theorem Inv.pins_of{pins':List (Addr×Obj)}(I:Inv X pins σ H s)(h:∀p∈pins',s.heap.get? p.1=some p.2/\H p.1=none/\p.1≠X.env.locals/\p.1∉X.fs/\∀v,p.2.data≠.cell v):Inv X pins' σ H s:=
 ⟨I.ok,I.os,I.bare,I.base,I.loc,I.cell,I.free,I.freeC,fun p hp=>(List.mem_append.mp hp).elim (fun z=>I.pin p (List.mem_append_left _ z)) (h p),I.hok,I.len⟩
theorem zjr{N:List Str}(hN:N.Nodup){i j:Nat}{x:Str}(a:N[i]?=some x)(b:N[j]?=some x):i=j:=by
 obtain⟨h1,e1⟩:=List.getElem?_eq_some_iff.mp a
 obtain⟨h2,e2⟩:=List.getElem?_eq_some_iff.mp b
 exact(List.getElem_inj hN).mp (e1.trans e2.symm)
theorem zkn{M:Model}{A:Around}{E:Value->Shared->Prop}{i:Nat}{x:Str}{v:V}{u:Value}{Q:Unit->Shared->Prop}(I:Inv X pins σ H s)(hN:X.N.Nodup)(hi:X.N[i]?=some x)(hx:Loc X.env.scope x)(r:RelV v u)
  (h:∀s',Inv X pins (σ.set i (some v)) H s'->(∃a,Heap.SameBut a s.heap s'.heap/\(a=X.env.locals\/X.env.cells.lookup x=some a))->Q () s') (hf:X.fn x=true\/X.env.scope.names.lookup x=some .local:=by first | exact .inl rfl | exact .inr rfl | assumption):wpAny M A (storeName X.env x u) Q E s:=by
 obtain⟨m,hn,hl⟩:=id I.loc
 have hcls:(X.env.scope.kind == .class || (X.env.scope.kind == .module && X.env.locals !=X.env.globals))=false:=by rw [I.ok.kind]; rfl
 have hiσ : i < σ.length:=by rw [I.len]; exact(List.getElem?_eq_some_iff.mp hi).1
 have cne:=I.cne
 have tracked:∀{a:Addr} {h':Heap},(∃o,s.heap.get? a=some o/\H a=none)->Heap.SameBut a s.heap h'->HOk X.prog X.w H h':=fun {a h'} ha hs b ob e=>by
  obtain⟨_,_,hfree⟩:=ha
  refine(I.hok b ob e).stay (fun c w' hc q=>(hs.2 c ?_).trans q) (fun _ q=>q) fun _ _ q=>q
  rintro rfl
  rcases hc with rfl | hc
  ·rw [hfree] at e; cases e
  ·rw [hfree] at hc; cases hc
 rcases hx with hk | hk
 ·refine wpAny_storeName_local hk hn (fun h' hn' hs=>?_) hcls
  obtain⟨oL,_,_,hoL,_⟩:=id hn
  refine h _ ⟨I.ok,I.os,I.bare,⟨fun b o e n hb hx=>?_,fun b o e n hb hx=>?_,I.base.free,fun b o e hx=>?_,I.base.tups,I.base.frzs,I.base.tbls⟩,⟨_,hn',fun j y v' e1 e2 e3=>?_⟩,fun y c e=>?_,I.free,I.freeC,fun p hp=>?_,tracked ⟨oL,hoL,I.free⟩ hs,by simpa using I.len⟩ ⟨_,hs,.inl rfl⟩
  ·exact(hs.2 b (Nat.ne_of_lt (Nat.lt_of_lt_of_le (Heap.lt_size e) I.ok.above))).trans (I.base.keep b o e n hb hx)
  ·obtain⟨sl,e1⟩:=I.base.slot b o e n hb hx
   exact⟨sl,(hs.2 b (Nat.ne_of_lt (Nat.lt_of_lt_of_le (Heap.lt_size e) I.ok.above))).trans e1⟩
  ·obtain⟨o',e1⟩:=I.base.there b o e hx
   exact⟨o',(hs.2 b (Nat.ne_of_lt (Nat.lt_of_lt_of_le (Heap.lt_size e) I.ok.above))).trans e1⟩
  ·by_cases hj:j=i
   ·subst hj
    rw [hi] at e1; cases e1
    rw [List.getElem?_set_self hiσ] at e2
    cases e2
    exact⟨u,r,.inl ⟨hk,by simp⟩⟩
   ·rw [List.getElem?_set_ne (Ne.symm hj)] at e2
    obtain⟨u',r',q⟩:=hl j y v' e1 e2 e3
    refine⟨u',r',?_⟩
    rcases q with⟨k,e⟩ | ⟨k,c,e,z⟩
    ·refine .inl ⟨k,?_⟩
     have:y≠x:=fun e=>hj (zjr hN e1 (e ▸ hi))
     simp[this,e]
    ·exact .inr ⟨k,c,e,z.sameBut hs (cne y c e)⟩
  ·obtain⟨w',z⟩:=I.cell y c e
   exact⟨w',z.sameBut hs (cne y c e)⟩
  ·obtain⟨e,n,ne,nf,d⟩:=I.pin p hp
   exact⟨(hs.2 p.1 ne).trans e,n,ne,nf,d⟩
 ·have hfn:X.fn x=true:=by
   rcases hf with z | z
   ·exact z
   ·rw [z] at hk; cases hk
  obtain⟨c,hc⟩:=I.ok.has x (.inl hk)
  obtain⟨w',z⟩:=I.cell x c hc
  refine wpAny_storeName_cell I.ok.kind hk hc z (fun h' hc' hs=>?_)
  obtain⟨oc,hoc,hocd⟩:=id z
  refine h {s with heap:=h'} ⟨I.ok,I.os,I.bare,⟨fun b o e n hb hx=>?_,fun b o e n hb hx=>?_,I.base.free,fun b o e hx=>?_,I.base.tups,I.base.frzs,I.base.tbls⟩,⟨m,hn.sameBut hs (Ne.symm (cne x c hc)),fun j y v' e1 e2 e3=>?_⟩,fun y c' e=>?_,I.free,I.freeC,fun p hp=>?_,tracked ⟨oc,hoc,I.freeC x c hc⟩ hs,by simpa using I.len⟩ ⟨c,hs,.inr hc⟩
  ·exact(hs.2 b (Nat.ne_of_lt (Nat.lt_of_lt_of_le (Heap.lt_size e) (I.ok.cab x c hfn hc)))).trans (I.base.keep b o e n hb hx)
  ·obtain⟨sl,e1⟩:=I.base.slot b o e n hb hx
   exact⟨sl,(hs.2 b (Nat.ne_of_lt (Nat.lt_of_lt_of_le (Heap.lt_size e) (I.ok.cab x c hfn hc)))).trans e1⟩
  ·obtain⟨o',e1⟩:=I.base.there b o e hx
   exact⟨o',(hs.2 b (Nat.ne_of_lt (Nat.lt_of_lt_of_le (Heap.lt_size e) (I.ok.cab x c hfn hc)))).trans e1⟩
  ·by_cases hj:j=i
   ·subst hj
    rw [hi] at e1; cases e1
    rw [List.getElem?_set_self hiσ] at e2
    cases e2
    exact⟨u,r,.inr ⟨.inl hk,c,hc,hc'⟩⟩
   ·rw [List.getElem?_set_ne (Ne.symm hj)] at e2
    obtain⟨u',r',q⟩:=hl j y v' e1 e2 e3
    refine⟨u',r',?_⟩
    rcases q with q | ⟨k,c',e,z'⟩
    ·exact .inl q
    ·refine .inr ⟨k,c',e,z'.sameBut hs ?_⟩
     rintro rfl
     exact hj (zjr hN e1 (I.ok.inj _ _ _ e hc ▸ hi))
  ·by_cases hcc:c'=c
   ·subst hcc; exact⟨_,hc'⟩
   ·obtain⟨w2,z2⟩:=I.cell y c' e
    exact⟨w2,z2.sameBut hs hcc⟩
  ·obtain⟨e,n,ne,nf,d⟩:=I.pin p hp
   refine⟨(hs.2 p.1 ?_).trans e,n,ne,nf,d⟩
   intro q
   rw [q,hoc] at e
   have q':oc=p.2:=Option.some.inj e
   exact d w' (by rw [<- q']; exact hocd)
theorem znp{M:Model}{A:Around}{E:Value->Shared->Prop}{i:Nat}{x:Str}{v:V}{u:Value}{Q:Unit->Shared->Prop}(I:Inv X pins σ H s)(hN:X.N.Nodup)(hi:X.N[i]?=some x)(hx:Loc X.env.scope x)(r:RelV v u)
  (h:∀s',Inv X pins (σ.set i (some v)) H s'->Q () s') (hf:X.fn x=true\/X.env.scope.names.lookup x=some .local:=by first | exact .inl rfl | exact .inr rfl | assumption):wpAny M A (storeName X.env x u) Q E s:=
 zkn I hN hi hx r (fun s' I' _=>h s' I') hf
theorem Inv.call'{s':Shared}{ch:List Addr}(I:Inv X pins σ H s)(ho:s'.os=s.os)(u:Un (frs X.stack) ch H H' s.heap s'.heap)(hok:HOk X.prog X.w H' s'.heap)(hg:AllBare s'.gens)
  (hch:∀b∈ch,(b∈X.ex\/X.s₀.heap.objs.size<=b)/\b≠X.env.locals/\(∀x c,X.env.cells.lookup x=some c->c≠b)/\∀p∈X.pn++pins,p.1≠b):Inv X pins σ H' s':=by
 obtain⟨h',g',d',t',o'⟩:=s'
 have e:o'=s.os:=ho
 subst e
 exact I.call (g':=g') (t':=t') (d':=d') u hok hg hch
end
abbrev XK:=Value->Option Addr->Hp->Prop
abbrev St:=List (Option V)
abbrev VK:=V->Hp->Prop
abbrev TE:=St->Hp->VK->Prop
abbrev TT:=St->Hp->(Bool->Hp->Prop)->Prop
abbrev TA:=St->Hp->(List V->Hp->Prop)->Prop
structure Ends where
 nx:St->Hp->Prop
 rt:VK
 bk:St->Hp->Prop:=fun _ _=>False
 ct:St->Hp->Prop:=fun _ _=>False
abbrev TS:=Ends->St->Hp->Prop
def EP(X:Cx)(pins:List (Addr×Obj))(σ : St)(Q:VK)(u:Value)(s':Shared):Prop:=∃v H',Inv X pins σ H' s'/\RelV v u/\Q v H'
def TP(X:Cx)(pins:List (Addr×Obj))(σ : St)(Q:Bool->Hp->Prop)(b:Bool)(s':Shared):Prop:=∃H',Inv X pins σ H' s'/\Q b H'
def AP(X:Cx)(pins:List (Addr×Obj))(σ : St)(Q:List V->Hp->Prop)(us:List Value)(s':Shared):Prop:=∃vs H',Inv X pins σ H' s'/\Vals vs us/\Q vs H'
def SP(X:Cx)(pins:List (Addr×Obj))(D:Ends)(f:Flow)(s':Shared):Prop:=
 match f with
 | .next=>∃ σ' H',Inv X pins σ' H' s'/\D.nx σ' H'
 | .brk=>∃ σ' H',Inv X pins σ' H' s'/\D.bk σ' H'
 | .cont=>∃ σ' H',Inv X pins σ' H' s'/\D.ct σ' H'
 | .ret u=>∃v σ' H',Inv X pins σ' H' s'/\RelV v u/\D.rt v H'
abbrev PEv(X:Cx)(e:Expr)(t:TE):Prop:=
 ∀(pins:List (Addr×Obj)) (s:Shared) (σ : St) (H:Hp) (Q:VK),Inv X pins σ H s->t σ H Q->wpAny (model X.prog X.w) X.A (eval e X.env) (EP X pins σ Q) X.xe s
structure PE(X:Cx)(e:Expr)(t:TE):Prop where
 run:PEv X e t
instance{X:Cx}{e:Expr}{t:TE}:CoeFun (PE X e t) (fun _=>PEv X e t):=⟨PE.run⟩
abbrev PTv(X:Cx)(e:Expr)(t:TT):Prop:=
 ∀(pins:List (Addr×Obj)) (s:Shared) (σ : St) (H:Hp) (Q:Bool->Hp->Prop),Inv X pins σ H s->t σ H Q->wpAny (model X.prog X.w) X.A (isTrue e X.env (eval e X.env)) (TP X pins σ Q) X.xe s
structure PT(X:Cx)(e:Expr)(t:TT):Prop where
 run:PTv X e t
instance{X:Cx}{e:Expr}{t:TT}:CoeFun (PT X e t) (fun _=>PTv X e t):=⟨PT.run⟩
abbrev PWv(X:Cx)(e:Expr)(t:TT):Prop:=
 ∀(whole:Sem Value) (pins:List (Addr×Obj)) (s:Shared) (σ : St) (H:Hp) (Q:Bool->Hp->Prop),Inv X pins σ H s->t σ H Q->wpAny (model X.prog X.w) X.A (isTrue e X.env whole) (TP X pins σ Q) X.xe s
structure PW(X:Cx)(e:Expr)(t:TT):Prop where
 run:PWv X e t
instance{X:Cx}{e:Expr}{t:TT}:CoeFun (PW X e t) (fun _=>PWv X e t):=⟨PW.run⟩
theorem PW.pt{X:Cx}{e:Expr}{t:TT}(h:PW X e t):PT X e t:=⟨h.run _⟩
abbrev PAv(X:Cx)(es:List Expr)(t:TA):Prop:=
 ∀(pos:Pos) (pins:List (Addr×Obj)) (s:Shared) (σ : St) (H:Hp) (Q:List V->Hp->Prop),Inv X pins σ H s->t σ H Q->wpAny (model X.prog X.w) X.A (spliced (backTo pos (starEach es X.env))) (AP X pins σ Q) X.xe s
structure PA(X:Cx)(es:List Expr)(t:TA):Prop where
 run:PAv X es t
instance{X:Cx}{es:List Expr}{t:TA}:CoeFun (PA X es t) (fun _=>PAv X es t):=⟨PA.run⟩
abbrev PSv(X:Cx)(st:Stmt)(t:TS):Prop:=
 ∀(pins:List (Addr×Obj)) (s:Shared) (σ : St) (H:Hp) (D:Ends),Inv X pins σ H s->t D σ H->wpAny (model X.prog X.w) X.A (exec st X.env) (SP X pins D) X.xe s
structure PS(X:Cx)(st:Stmt)(t:TS):Prop where
 run:PSv X st t
instance{X:Cx}{st:Stmt}{t:TS}:CoeFun (PS X st t) (fun _=>PSv X st t):=⟨PS.run⟩
abbrev PSsv(X:Cx)(st:List Stmt)(t:TS):Prop:=
 ∀(pins:List (Addr×Obj)) (s:Shared) (σ : St) (H:Hp) (D:Ends),Inv X pins σ H s->t D σ H->wpAny (model X.prog X.w) X.A (execs st X.env) (SP X pins D) X.xe s
structure PSs(X:Cx)(st:List Stmt)(t:TS):Prop where
 run:PSsv X st t
instance{X:Cx}{st:List Stmt}{t:TS}:CoeFun (PSs X st t) (fun _=>PSsv X st t):=⟨PSs.run⟩
theorem thn{α : Type}{t:Sem α}{Q Q' : α->Shared->Prop}{M:Model}{A:Around}{E:Value->Shared->Prop}{s:Shared}(h:wpAny M A t Q E s)(hQ:∀a s,Q a s->Q' a s):wpAny M A t Q' E s:=wpAny_mono h hQ fun _ _ x=>x
end L2
namespace L2
open PySem PySem.Spec PyProof.Rows
section
variable{X:Cx}
def zqc(i:Nat):TE:=fun σ H Q=>∃v,σ[i]?=some (some v)/\Q v H
def tC(v:V):TE:=fun _ H Q=>Q v H
theorem z00{i:Nat}{x:Str}{pos:Pos}(hN:X.N[i]?=some x)(hv:Vis X.env.scope x) (hd:(x == ("__debug__" : Str))=false:=by decide) (hcd:(x == ("__classdict__" : Str))=false:=by decide):PE X (.Name x pos) (zqc i):=by
 refine⟨?_⟩
 intro pins s σ H Q I h
 obtain⟨v,e,h⟩:=h
 obtain⟨m,hn,hl⟩:=I.loc
 obtain⟨u,r,l⟩:=hl i x v hN e hv
 have fin:EP X pins σ Q u s:=⟨v,H,I,r,h⟩
 rcases l with⟨hk,hm⟩ | ⟨hk,c,hc,hcell⟩
 ·exact wpAny_Name (wpAny_loadName_local I.ok.kind hk hn hm fin) hd
 ·rcases hk with hk | hk
  ·exact wpAny_Name (wpAny_loadName_cell I.ok.kind hk hc hcell fin) hd
  ·exact wpAny_Name (wpAny_loadName_free I.ok.kind hk hc hcell fin hcd) hd
theorem z03{i j pos}:PE X (.Constant (.int i) j pos) (tC (.int i)):=⟨fun _ _ _ H _ I h=>wpAny_Constant_int ⟨.int i,H,I.tok _,⟨_,rfl⟩,h⟩⟩
theorem zl0{b j pos}:PE X (.Constant (.bool b) j pos) (tC (.bl b)):=⟨fun _ _ _ H _ I h=>Constant_bool ⟨.bl b,H,I,rfl,h⟩⟩
theorem z23{j pos}:PE X (.Constant .none j pos) (tC .non):=⟨fun _ _ _ H _ I h=>Constant_none ⟨.non,H,I,rfl,h⟩⟩
theorem z0p{x j pos}:PE X (.Constant (.str x) j pos) (tC (.str x)):=⟨fun _ _ _ H _ I h=>Calls.Constant_str ⟨.str x,H,I.tok _,⟨_,rfl⟩,h⟩⟩
def Gl(X:Cx)(x:Str):Prop:=X.env.kindOf x=some .globalImplicit
theorem zmw{E:Value->Shared->Prop}{pins:List (Addr×Obj)}{s:Shared}{σ : St}{H:Hp}{x:Str}{u:Value}{pos:Pos}{Q:Value->Shared->Prop}(I:Inv X pins σ H s)(hg:Gl X x)(hm:X.mg x=some u)(h:Q u s)
  (hd:(x == ("__debug__" : Str))=false:=by decide):wpAny (model X.prog X.w) X.A (eval (.Name x pos) X.env) Q E s:=
 Calls.Name_function_global I.ok.kind hg (Calls.loadGlobal_global (by rw [I.ok.glob]; exact I.mod.glob.keeps I.bk) hm h) hd
theorem zh9{E:Value->Shared->Prop}{pins:List (Addr×Obj)}{s:Shared}{σ : St}{H:Hp}{x:Str}{u:Value}{pos:Pos}{Q:Value->Shared->Prop}(I:Inv X pins σ H s)(hg:Gl X x)(hm:X.mg x=none)(hv:bootBuiltins x=some u)(h:Q u s)
  (hn:x≠"__name__":=by decide) (hd:(x == ("__debug__" : Str))=false:=by decide):wpAny (model X.prog X.w) X.A (eval (.Name x pos) X.env) Q E s:=by
 obtain⟨mb,h1,h2⟩:=I.mod.blt
 exact Calls.Name_function_global I.ok.kind hg (Calls.loadGlobal_builtin (by rw [I.ok.glob]; exact I.mod.glob.keeps I.bk) hm (by rw [I.ok.blt]; exact h1.keeps I.bk) ((h2 x hn).trans hv) h) hd
theorem zx8{x:Str}{v:V}{u:Value}{pos:Pos}(hg:Gl X x)(hm:X.mg x=some u)(r:RelV v u) (hd:(x == ("__debug__" : Str))=false:=by decide):PE X (.Name x pos) (tC v):=
 ⟨fun _ _ _ H _ I h=>zmw I hg hm ⟨v,H,I,r,h⟩ hd⟩
theorem zx9{x:Str}{v:V}{u:Value}{pos:Pos}(hg:Gl X x)(hm:X.mg x=none)(hv:bootBuiltins x=some u)(r:RelV v u) (hn:x≠"__name__":=by decide) (hd:(x == ("__debug__" : Str))=false:=by decide):PE X (.Name x pos) (tC v):=
 ⟨fun _ _ _ H _ I h=>zh9 I hg hm hv ⟨v,H,I,r,h⟩ hn hd⟩
variable{a b:Expr}{ta tb:TE}{pos:Pos}
abbrev PCv(X:Cx)(op:CmpOp)(a b:Expr)(t:TE):Prop:=
 ∀(pins:List (Addr×Obj)) (s:Shared) (σ : St) (H:Hp) (Q:VK),Inv X pins σ H s->t σ H Q->
  wpAny (model X.prog X.w) X.A (eval a X.env) (fun v s₁=>wpAny (model X.prog X.w) X.A (eval b X.env) (fun u s₂=>wpAny (model X.prog X.w) X.A (compareOp op v u) (EP X pins σ Q) X.xe s₂) X.xe s₁) X.xe s
structure PC(X:Cx)(op:CmpOp)(a b:Expr)(t:TE):Prop where
 run:PCv X op a b t
instance{X:Cx}{op:CmpOp}{a b:Expr}{t:TE}:CoeFun (PC X op a b t) (fun _=>PCv X op a b t):=⟨PC.run⟩
theorem zo2(b:Expr){op:CmpOp}(h:op≠.In)(h2:op≠.NotIn):behindInMarks op b=false:=by
 have e1:(op == CmpOp.In)=false:=by cases op<;>first | rfl | exact absurd rfl h
 have e2:(op == CmpOp.NotIn)=false:=by cases op<;>first | rfl | exact absurd rfl h2
 cases b<;>simp[behindInMarks,e1,e2]
def tB(t:TE):TT:=fun σ H Q=>t σ H fun x H1=>∃c,x=.bl c/\Q c H1
theorem zzr{op:CmpOp}{t:TE}(h:PC X op a b t)(h1:behindInMarks op b=false:=by first | exact zo2 _ (by decide) (by decide) | rfl):PE X (.Compare a [op] [b] pos) t:=⟨fun pins s σ H Q I hw=>wpAny_Compare1 (h pins s σ H Q I hw) h1⟩
theorem zzp{op:CmpOp}{t:TE}(h:PC X op a b t)(h1:behindInMarks op b=false:=by first | exact zo2 _ (by decide) (by decide) | rfl):PT X (.Compare a [op] [b] pos) (tB t):=by
 refine⟨?_⟩
 intro pins s σ H Q I hw
 refine wpAny_isTrue_Compare1 (thn (h pins s σ H _ I hw) fun v s1 h1=>thn h1 fun u s2 h2=>thn h2 fun c s3 ⟨x,H1,I1,r1,q1⟩=>?_) h1
 obtain⟨d,rfl,q⟩:=q1
 cases r1
 exact wpAny_truthy_bool ⟨H1,I1,q⟩
theorem z8z{e:Expr}{t:TE}(h:PE X e t)(he:∀whole,isTrue e X.env whole=(do let v <- whole; standAt e.pos; holding [v] (truthy v)):=by intro _; rfl):PT X e (tB t):=by
 refine⟨?_⟩
 intro pins s σ H Q I hw
 refine isTrue_plain (thn (h pins s σ H _ I hw) fun v s1 ⟨x,H1,I1,r1,q1⟩=>?_) (he _)
 obtain⟨d,rfl,q⟩:=q1
 cases r1
 exact wpAny_truthy_bool ⟨H1,I1,q⟩
variable{tA tB':TT}{zaz:List Expr}
def zyp(t u:TT):TT:=fun σ H Q=>t σ H fun c H1=>if c=true then u σ H1 Q else Q false H1
def tOr(t u:TT):TT:=fun σ H Q=>t σ H fun c H1=>if c=true then Q true H1 else u σ H1 Q
def zyl(t:TT):TT:=fun σ H Q=>t σ H fun c H1=>Q (!c) H1
theorem zrg(ha:PT X a tA):PW X (.BoolOp .And [a] pos) tA:=by
 refine⟨?_⟩
 intro wh pins s σ H Q I h
 refine isTrue_and (thn (ha pins s σ H Q I h) fun c s1 e=>?_)
 cases c with
 | true=>exact isTrue_and_nil e
 | false=>exact e
theorem zgk(ha:PT X a tA):PW X (.BoolOp .Or [a] pos) tA:=by
 refine⟨?_⟩
 intro wh pins s σ H Q I h
 refine isTrue_or (thn (ha pins s σ H Q I h) fun c s1 e=>?_)
 cases c with
 | false=>exact isTrue_or_nil e
 | true=>exact e
theorem zvu(ha:PT X a tA)(hb:PW X (.BoolOp .And (b::zaz) pos) tB'):PW X (.BoolOp .And (a::b::zaz) pos) (zyp tA tB'):=by
 refine⟨?_⟩
 intro wh pins s σ H Q I h
 refine isTrue_and (thn (ha pins s σ H _ I h) fun c s1 ⟨H1,I1,q1⟩=>?_)
 cases c with
 | true=>exact hb wh pins s1 σ H1 Q I1 q1
 | false=>exact⟨H1,I1,q1⟩
theorem zmn(ha:PT X a tA)(hb:PW X (.BoolOp .Or (b::zaz) pos) tB'):PW X (.BoolOp .Or (a::b::zaz) pos) (tOr tA tB'):=by
 refine⟨?_⟩
 intro wh pins s σ H Q I h
 refine isTrue_or (thn (ha pins s σ H _ I h) fun c s1 ⟨H1,I1,q1⟩=>?_)
 cases c with
 | true=>exact⟨H1,I1,q1⟩
 | false=>exact hb wh pins s1 σ H1 Q I1 q1
theorem zix(ha:PT X a tA):PT X (.UnaryOp .Not a pos) (zyl tA):=by
 refine⟨?_⟩
 intro pins s σ H Q I h
 exact isTrue_not (ha pins s σ H (fun c H1=>Q (!c) H1) I h)
def zp4(ta tb:TE):TE:=fun σ H Q=>ta σ H fun x H1=>∃c,x=.bl c/\if c=true then tb σ H1 Q else Q (.bl false) H1
def zz9(ta tb:TE):TE:=fun σ H Q=>ta σ H fun x H1=>∃c,x=.bl c/\if c=true then Q (.bl true) H1 else tb σ H1 Q
def zoy(ta:TE):TE:=fun σ H Q=>ta σ H fun x H1=>∃c,x=.bl c/\Q (.bl (!c)) H1
theorem zvv{op}{t:TE}(h:PE X a t):PE X (.BoolOp op [a] pos) t:=⟨fun pins s σ H Q I hw=>BoolOp_one (h pins s σ H Q I hw)⟩
theorem zvw(ha:PE X a ta)(hb:PE X (.BoolOp .And (b::zaz) pos) tb):PE X (.BoolOp .And (a::b::zaz) pos) (zp4 ta tb):=by
 refine⟨?_⟩
 intro pins s σ H Q I h
 refine BoolOp_and (thn (ha pins s σ H _ I h) fun v s1 ⟨x,H1,I1,r1,q1⟩=>?_)
 obtain⟨c,rfl,q1⟩:=q1
 cases r1
 refine wpAny_truthy_bool ?_
 cases c with
 | true=>exact hb pins s1 σ H1 Q I1 q1
 | false=>exact⟨.bl false,H1,I1,rfl,q1⟩
theorem zzq(ha:PE X a ta):PE X (.UnaryOp .Not a pos) (zoy ta):=by
 refine⟨?_⟩
 intro pins s σ H Q I h
 refine UnaryOp_ (thn (ha pins s σ H _ I h) fun v s1 ⟨x,H1,I1,r1,q1⟩=>?_)
 obtain⟨c,rfl,q1⟩:=q1
 cases r1
 exact not_of (wpAny_truthy_bool ⟨.bl (!c),H1,I1,rfl,q1⟩)
def tIf(t:TT)(ta tb:TE):TE:=fun σ H Q=>t σ H fun c H1=>if c=true then ta σ H1 Q else tb σ H1 Q
theorem z72{c:Expr}(hc:PT X c tA)(ha:PE X a ta)(hb:PE X b tb):PE X (.IfExp c a b pos) (tIf tA ta tb):=by
 refine⟨?_⟩
 intro pins s σ H Q I h
 refine wpAny_IfExp (thn (hc pins s σ H _ I h) fun d s1 ⟨H1,I1,q1⟩=>?_)
 cases d with
 | true=>exact ha pins s1 σ H1 Q I1 q1
 | false=>exact hb pins s1 σ H1 Q I1 q1
end
end L2
namespace L2
open PySem PySem.Spec PyProof.Rows
def SqL(K:PySem.W.Frag)(H:Hp)(a:Addr)(xs:List V):Prop:=
 Rd H a (.lst xs)\/
  ∃(o:Obj) (its:Array Value) (n:Nat),K.lookup a=some o/\o.cls=.type "list"/\o.dict=none/\o.data=.seq its n/\its.size<=sizeLine/\Vals xs its.toList
def SqT(K:PySem.W.Frag)(H:Hp)(a:Addr)(xs:List V):Prop:=
 Rd H a (.tup xs)\/
  ∃(o:Obj) (its:Array Value) (n:Nat),K.lookup a=some o/\o.cls=.type "tuple"/\o.data=.seq its n/\its.size<=sizeLine/\Vals xs its.toList
def q2z:Value->Option V
 | .none=>some .non
 | .bool b=>some (.bl b)
 | .int i _=>some (.int i)
 | .str x _=>some (.str x)
 | .bytes b _=>some (.byt b)
 | .float b _=>some (.flt b)
 | .ref a=>some (.ref a)
 | .type n=>some (.ty n)
 | _=>none
theorem RelV.abs{x:V}{u:Value}(r:RelV x u):q2z u=some x:=by
 cases x with
 | non=>cases r; rfl
 | bl _=>cases r; rfl
 | int _=>obtain⟨t,rfl⟩:=r; rfl
 | str _=>obtain⟨t,rfl⟩:=r; rfl
 | byt _=>obtain⟨t,rfl⟩:=r; rfl
 | flt _=>obtain⟨t,rfl⟩:=r; rfl
 | ref _=>cases r; rfl
 | ty _=>cases r; rfl
theorem RelV.inj{x y:V}{u:Value}(r:RelV x u)(q:RelV y u):x=y:=Option.some.inj (r.abs.symm.trans q.abs)
theorem Vals.inj:∀{xs ys:List V} {us:List Value},Vals xs us->Vals ys us->xs=ys
 | _,_,_,.nil,.nil=>rfl
 | _,_,_,.cons r t,.cons r' t'=>by rw [r.inj r',Vals.inj t t']
section
variable{X:Cx}{pins:List (Addr×Obj)}{σ : St}{H:Hp}{s:Shared}{a:Addr}{xs ys:List V}
theorem SqL.of{K:PySem.W.Frag}(h:H a=some (.lst xs)):SqL K H a xs:=.inl (.inl h)
theorem SqT.of{K:PySem.W.Frag}(h:H a=some (.tup xs)):SqT K H a xs:=.inl (.inl h)
theorem Inv.list(I:Inv X pins σ H s)(h:SqL X.K H a xs):∃its:List Value,Vals xs its/\PlainL s.heap a its.toArray/\xs.length<=sizeLine:=by
 rcases h with h | ⟨o,its,n,hk,hc,hd,hs,hz,r⟩
 ·obtain⟨z,its,n,r,e⟩:=h.ok I.hok
  exact⟨its,r,⟨_,n,e,rfl,rfl,rfl⟩,z⟩
 ·refine⟨its.toList,r,⟨o,n,I.kIn a o hk,hc,hd,by simpa using hs⟩,?_⟩
  have e:=r.length
  simp only[Array.length_toList] at e
  omega
theorem Inv.tuple(I:Inv X pins σ H s)(h:SqT X.K H a xs):∃its:List Value,Vals xs its/\IsTup s.heap a its.toArray/\xs.length<=sizeLine:=by
 rcases h with h | ⟨o,its,n,hk,hc,hs,hz,r⟩
 ·obtain⟨z,its,r,p⟩:=h.ok I.hok
  exact⟨its,r,p,z⟩
 ·refine⟨its.toList,r,⟨o,I.kIn a o hk,hc,n,by simpa using hs⟩,?_⟩
  have e:=r.length
  simp only[Array.length_toList] at e
  omega
theorem Inv.list_inj(I:Inv X pins σ H s)(h:SqL X.K H a xs)(h':SqL X.K H a ys):xs=ys:=by
 obtain⟨its,r,⟨o,n,e,_,_,d⟩,_⟩:=I.list h
 obtain⟨its',r',⟨o',n',e',_,_,d'⟩,_⟩:=I.list h'
 rw [e] at e'; cases e'
 rw [d] at d'
 injection d' with d1 _
 have:its=its':=by simpa using congrArg Array.toList d1
 subst this
 exact r.inj r'
theorem Inv.tuple_inj(I:Inv X pins σ H s)(h:SqT X.K H a xs)(h':SqT X.K H a ys):xs=ys:=by
 obtain⟨its,r,⟨o,e,_,n,d⟩,_⟩:=I.tuple h
 obtain⟨its',r',⟨o',e',_,n',d'⟩,_⟩:=I.tuple h'
 rw [e] at e'; cases e'
 rw [d] at d'
 injection d' with d1 _
 have:its=its':=by simpa using congrArg Array.toList d1
 subst this
 exact r.inj r'
end
abbrev Cx.wish(X:Cx)(E:Value->Shared->Prop):Cx:={X with xe:=E}
abbrev Cx.nox(X:Cx):Cx:=X.wish fun _ _=>False
theorem Cx.Ok.wish{X:Cx}(ok:X.Ok)(E:Value->Shared->Prop):(X.wish E).Ok:=
 ⟨ok.mod,ok.kind,ok.glob,ok.blt,ok.above,ok.inj,ok.has,ok.cab,ok.hd,ok.frames,ok.stk,ok.exf,ok.bs,ok.bsz,ok.noex,ok.exfs,ok.funs,ok.frf⟩
theorem Cx.Ok.unwish{X:Cx}{E:Value->Shared->Prop}(ok:(X.wish E).Ok):X.Ok:=
 ⟨ok.mod,ok.kind,ok.glob,ok.blt,ok.above,ok.inj,ok.has,ok.cab,ok.hd,ok.frames,ok.stk,ok.exf,ok.bs,ok.bsz,ok.noex,ok.exfs,ok.funs,ok.frf⟩
section
variable{X:Cx}{pins:List (Addr×Obj)}{σ : St}{H:Hp}{s:Shared}{E:Value->Shared->Prop}
theorem Inv.wish(I:Inv X pins σ H s)(E:Value->Shared->Prop):Inv (X.wish E) pins σ H s:=⟨I.ok.wish E,I.os,I.bare,I.base,I.loc,I.cell,I.free,I.freeC,I.pin,I.hok,I.len⟩
theorem Inv.unwish(I:Inv (X.wish E) pins σ H s):Inv X pins σ H s:=⟨I.ok.unwish,I.os,I.bare,I.base,I.loc,I.cell,I.free,I.freeC,I.pin,I.hok,I.len⟩
theorem SP.unwish{D:Ends}{f:Flow}{s':Shared}(h:SP (X.wish E) pins D f s'):SP X pins D f s':=by
 cases f with
 | next=>obtain⟨σ',H',I,q⟩:=h; exact⟨σ',H',I.unwish,q⟩
 | brk=>obtain⟨σ',H',I,q⟩:=h; exact⟨σ',H',I.unwish,q⟩
 | cont=>obtain⟨σ',H',I,q⟩:=h; exact⟨σ',H',I.unwish,q⟩
 | ret u=>obtain⟨v,σ',H',I,r,q⟩:=h; exact⟨v,σ',H',I.unwish,r,q⟩
theorem PE.nox{e:Expr}{t:TE}(h:PE X.nox e t):PE X e t:=⟨fun pins s σ H Q I hw=>
 wpAny_mono (h pins s σ H Q (I.wish _) hw) (fun _ _ ⟨v,H',I',r,q⟩=>⟨v,H',I'.unwish,r,q⟩) fun _ _ z=>False.elim z⟩
theorem PT.nox{e:Expr}{t:TT}(h:PT X.nox e t):PT X e t:=⟨fun pins s σ H Q I hw=>
 wpAny_mono (h pins s σ H Q (I.wish _) hw) (fun _ _ ⟨H',I',q⟩=>⟨H',I'.unwish,q⟩) fun _ _ z=>False.elim z⟩
theorem PSs.nox{st:List Stmt}{t:TS}(h:PSs X.nox st t):PSs X st t:=⟨fun pins s σ H D I hw=>
 wpAny_mono (h pins s σ H D (I.wish _) hw) (fun _ _ q=>q.unwish) fun _ _ z=>False.elim z⟩
end
section
variable{X:Cx}{st:Stmt}{zaz:List Stmt}{t u:TS}{e:Expr}{te:TE}{pos:Pos}
def zoz:TS:=fun D σ H=>D.nx σ H
def zvm(t u:TS):TS:=fun D σ H=>t {D with nx:=u D} σ H
theorem z0d:PSs X [] zoz:=⟨fun _ _ σ H _ I h=>wpAny_execs_nil ⟨σ,H,I,h⟩⟩
theorem z02(h1:PS X st t)(h2:PSs X zaz u):PSs X (st::zaz) (zvm t u):=by
 refine⟨?_⟩
 intro pins s σ H D I h
 refine wpAny_execs_cons (thn (h1 pins s σ H {D with nx:=u D} I h) fun f s1 q=>?_)
 cases f with
 | next=>
  obtain⟨σ',H',I',q⟩:=q
  exact h2 pins s1 σ' H' D I' q
 | ret v=>exact q
 | brk=>exact q
 | cont=>exact q
theorem z05(h1:PS X st t):PSs X [st] t:=by
 refine⟨?_⟩
 intro pins s σ H D I h
 refine wpAny_execs_cons (thn (h1 pins s σ H D I h) fun f s1 q=>?_)
 cases f with
 | next=>exact wpAny_execs_nil q
 | ret v=>exact q
 | brk=>exact q
 | cont=>exact q
def zkm:TS:=fun D σ H=>D.bk σ H
def zqr:TS:=fun D σ H=>D.ct σ H
theorem Inv.quiet{pins:List (Addr×Obj)}{σ : St}{H:Hp}{s:Shared}(I:Inv X pins σ H s):interactive X.env=false:=by simp[interactive,I.ok.kind]
def zp1(te:TE):TS:=fun D σ H=>te σ H fun _ H1=>D.nx σ H1
theorem zgl(he:PE X e te)(hs:swapsWith e none pos.line X.env=pure false:=by rfl):PS X (.Expr e pos) (zp1 te):=by
 refine⟨?_⟩
 intro pins s σ H D I h
 exact wpAny_Expr_any (thn (he pins s σ H _ I h) fun v s1 ⟨x,H1,I1,r1,q1⟩=>⟨σ,H1,I1,q1⟩) I.quiet hs
def zyk(te:TE):TS:=fun D σ H=>te σ H D.rt
theorem z0b(he:PE X e te):PS X (.Return (some e) pos) (zyk te):=by
 refine⟨?_⟩
 intro pins s σ H D I h
 exact wpAny_Return_some (thn (he pins s σ H _ I h) fun v s1 ⟨x,H1,I1,r1,q1⟩=>⟨x,σ,H1,I1,r1,q1⟩)
def zqm:TS:=fun D _ H=>D.rt .non H
def zyo(c:TT)(t u:TS):TS:=fun D σ H=>c σ H fun b H1=>if b=true then t D σ H1 else u D σ H1
theorem z1h{c:Expr}{a b:List Stmt}{tc:TT}(hc:PT X c tc)(ha:PSs X a t)(hb:PSs X b u):PS X (.If c a b pos) (zyo tc t u):=by
 refine⟨?_⟩
 intro pins s σ H D I h
 refine wpAny_If (thn (hc pins s σ H _ I h) fun d s1 ⟨H1,I1,q1⟩=>?_)
 cases d with
 | true=>exact ha pins s1 σ H1 D I1 q1
 | false=>exact hb pins s1 σ H1 D I1 q1
def zim:TS:=fun _ _ _=>False
theorem zu7:PS X st zim:=⟨fun _ _ _ _ _ _ h=>h.elim⟩
end
abbrev TG:=V->St->Hp->(St->Hp->Prop)->Prop
abbrev TGs:=List V->St->Hp->(St->Hp->Prop)->Prop
abbrev PGv(X:Cx)(target:Expr)(t:TG):Prop:=
 ∀(pins:List (Addr×Obj)) (s:Shared) (σ : St) (H:Hp) (v:V) (u:Value) (Q:St->Hp->Prop),Inv X pins σ H s->RelV v u->t v σ H Q->
  wpAny (model X.prog X.w) X.A (assign target X.env u) (fun _ s'=>∃ σ' H',Inv X pins σ' H' s'/\Q σ' H') X.xe s
structure PG(X:Cx)(target:Expr)(t:TG):Prop where
 run:PGv X target t
instance{X:Cx}{target:Expr}{t:TG}:CoeFun (PG X target t) (fun _=>PGv X target t):=⟨PG.run⟩
abbrev PGsv(X:Cx)(ts:List Expr)(t:TGs):Prop:=
 ∀(pins:List (Addr×Obj)) (s:Shared) (σ : St) (H:Hp) (vs:List V) (us:List Value) (Q:St->Hp->Prop),Inv X pins σ H s->Vals vs us->t vs σ H Q->
  wpAny (model X.prog X.w) X.A (assignInOrder ((assignEach ts X.env).map (·.2)) us) (fun _ s'=>∃ σ' H',Inv X pins σ' H' s'/\Q σ' H') X.xe s
structure PGs(X:Cx)(ts:List Expr)(t:TGs):Prop where
 run:PGsv X ts t
instance{X:Cx}{ts:List Expr}{t:TGs}:CoeFun (PGs X ts t) (fun _=>PGsv X ts t):=⟨PGs.run⟩
section
variable{X:Cx}{pos:Pos}
def zft(i:Nat):TG:=fun v σ H Q=>Q (σ.set i (some v)) H
theorem z2d{i:Nat}{x:Str}(hN:X.N.Nodup)(hi:X.N[i]?=some x)(hx:Loc X.env.scope x)(hf:X.fn x=true\/X.env.scope.names.lookup x=some .local:=by first | exact .inl rfl | exact .inr rfl | assumption):PG X (.Name x pos) (zft i):=by
 refine⟨?_⟩
 intro pins s σ H v u Q I r h
 exact wpAny_assign_Name (znp I hN hi hx r (fun s' I'=>⟨_,H,I',h⟩) hf)
def zz1:TGs:=fun vs σ H Q=>vs=[]/\Q σ H
def zpz(t:TG)(u:TGs):TGs:=fun vs σ H Q=>∃v r,vs=v::r/\t v σ H fun σ' H'=>u r σ' H' Q
theorem zjl:PGs X [] zz1:=by
 refine⟨?_⟩
 intro pins s σ H vs us Q I r h
 obtain⟨e,h⟩:=h
 subst e
 cases r
 exact assignInOrder_nil ⟨σ,H,I,h⟩
theorem z6l{e:Expr}{es:List Expr}{t:TG}{u:TGs}(h1:PG X e t)(h2:PGs X es u)
  (hs:(assignEach (e::es) X.env).map (·.2)=assign e X.env::(assignEach es X.env).map (·.2):=by rfl):PGs X (e::es) (zpz t u):=by
 refine⟨?_⟩
 intro pins s σ H vs us Q I r h
 obtain⟨v,vr,e1,h⟩:=h
 subst e1
 cases r with
 | cons r rr=>
  rw [hs]
  refine assignInOrder_cons (thn (h1 pins s σ H _ _ _ I r h) fun _ s1 ⟨σ1,H1,I1,q1⟩=>?_)
  exact h2 pins s1 σ1 H1 _ _ Q I1 rr q1
def zxz(K:PySem.W.Frag)(n:Nat)(t:TGs):TG:=fun v σ H Q=>∃a xs,v=.ref a/\SqT K H a xs/\xs.length=n/\t xs σ H Q
theorem znv{es:List Expr}{k:Nat}{t:TGs}{n:Nat}(hc:X.calm=true)(h:PGs X es t)
  (hn:(assignEach es X.env).length=n:=by rfl) (hst:(assignEach es X.env).findIdx? (·.1)=none:=by rfl):PG X (.Tuple es k pos) (zxz X.K n t):=by
 refine⟨?_⟩
 intro pins s σ H v u Q I r hw
 obtain⟨a,xs,e1,hq,hl,hw⟩:=hw
 subst e1
 cases r
 obtain⟨its,rv,ht,hz⟩:=I.tuple hq
 refine assign_Tuple_tuple (I.ok.hd hc) ht (by simp[hn,<- hl,rv.length]) hst fun h' hx=>?_
 have I1:Inv X pins σ H {s with heap:=h'}:=I.kept (t':=s.toks) fun b o e=>hx b o (Nat.ne_of_lt (Heap.lt_size e)) e
 exact h pins _ σ H xs _ Q I1 (by simpa using rv) hw
def zws(te:TE)(g:TG):TS:=fun D σ H=>te σ H fun x H1=>g x σ H1 D.nx
theorem z1m{i:Nat}{x:Str}{e:Expr}{te:TE}{pos':Pos}(hN:X.N.Nodup)(hi:X.N[i]?=some x)(hx:Loc X.env.scope x)(he:PE X e te)(hs:swapsWith e (some (.Name x pos')) pos.line X.env=pure false:=by rfl)(hf:X.fn x=true\/X.env.scope.names.lookup x=some .local:=by first | exact .inl rfl | exact .inr rfl | assumption) :
  PS X (.Assign [.Name x pos'] e pos) (zws te (zft i)):=by
 refine⟨?_⟩
 intro pins s σ H D I h
 refine wpAny_Assign_Name (thn (he pins s σ H _ I h) fun v s1 ⟨y,H1,I1,r1,q1⟩=>?_) hs
 exact znp I1 hN hi hx r1 (fun s2 I2=>⟨_,H1,I2,q1⟩) hf
end
section
variable{X:Cx}{pos:Pos}
end
structure It where
 go:Nat->Hp->Prop
 yld:Nat->Hp->V->Hp->Prop
 stop:Nat->Hp->Prop
def FpOk(X:Cx)(pins:List (Addr×Obj))(H:Hp)(b:Addr):Prop:=
 H b=none/\b≠X.env.locals/\b∉X.fs/\(b∈X.ex\/X.s₀.heap.objs.size<=b)/\(∀x c,X.env.cells.lookup x=some c->c≠b)/\∀p∈X.pn++pins,p.1≠b
theorem Inv.fpOk{X:Cx}{pins:List (Addr×Obj)}{σ : St}{H H':Hp}{s:Shared}{b:Addr}(I:Inv X pins σ H s)(hb:s.heap.objs.size<=b)(hn:H' b=none):FpOk X pins H' b:=by
 refine⟨hn,Nat.ne_of_gt (Nat.lt_of_lt_of_le I.lt hb),I.nofs hb,.inr (Nat.le_trans I.sz hb),fun x c e z=>?_,fun p hp z=>?_⟩
 ·obtain⟨v,q⟩:=I.cell x c e
  exact absurd (Nat.lt_of_lt_of_le q.lt (by rw [z]; exact hb)) (Nat.lt_irrefl _)
 ·exact absurd (Nat.lt_of_lt_of_le (Heap.lt_size (I.pin p hp).1) (by rw [z]; exact hb)) (Nat.lt_irrefl _)
structure Turn(P:Program)(w:World)(K:PySem.W.Frag)(tg:Expr)(J:It)(fp:List Addr)(it:Addr)(tn:Nat->Heap->Prop):Prop where
 mem:it∈fp
 obj:∀i h,tn i h->∀b∈fp,∃o,h.get? b=some o/\∀v,o.data≠.cell v
 keep:∀i h h',tn i h->(∀b∈fp,∀o,h.get? b=some o->h'.get? b=some o)->tn i h'
 item:∀(X:Cx),X.prog=P->X.w=w->X.K=K->X.calm=true->∀(i:Nat) (pins:List (Addr×Obj)) (s:Shared) (σ : St) (H:Hp) (E:Value->Shared->Prop),Inv X pins σ H s->(∀b∈fp,FpOk X pins H b)->tn i s.heap->J.go i H->
  wpAny (model P w) X.A (pyNext (.ref it)) (fun r s1=>∃u,r=some u/\
   wpAny (model P w) X.A (letOwnedTupleGo tg (.ref it) u) (fun _ s2=>∃x H',Inv X pins σ H' s2/\RelV x u/\J.yld i H x H'/\tn (i+1) s2.heap/\∀b∈fp,H' b=none) E s1) E s
 done:∀(X:Cx),X.prog=P->X.w=w->X.K=K->X.calm=true->∀(i:Nat) (pins:List (Addr×Obj)) (s:Shared) (σ : St) (H:Hp) (E:Value->Shared->Prop),Inv X pins σ H s->(∀b∈fp,FpOk X pins H b)->tn i s.heap->J.stop i H->
  wpAny (model P w) X.A (pyNext (.ref it)) (fun r s1=>r=none/\Inv X pins σ H s1) E s
 self:∀(A:Around) (i:Nat) (s:Shared) (Q:Value->Shared->Prop) (E:Value->Shared->Prop),tn i s.heap->Q (.ref it) s->wpAny (model P w) A (pyIter (.ref it)) Q E s
abbrev TI:=St->Hp->(It->Hp->Prop)->Prop
def PIE(X:Cx)(pins:List (Addr×Obj))(σ : St)(tg:Expr)(R:It->Hp->Prop)(itv:Value)(s2:Shared):Prop:=
 ∃(it:Addr) (fp:List Addr) (tn:Nat->Heap->Prop) (J:It) (H':Hp),itv=.ref it/\Inv X pins σ H' s2/\Turn X.prog X.w X.K tg J fp it tn/\tn 0 s2.heap/\(∀b∈fp,FpOk X pins H' b)/\R J H'
abbrev PIv(X:Cx)(tg iter:Expr)(wi:TI):Prop:=
 ∀(pins:List (Addr×Obj)) (s:Shared) (σ : St) (H:Hp) (R:It->Hp->Prop),Inv X pins σ H s->wi σ H R->
  wpAny (model X.prog X.w) X.A (eval iter X.env) (fun v s1=>wpAny (model X.prog X.w) X.A (pyIter v) (PIE X pins σ tg R) X.xe s1) X.xe s
structure PI(X:Cx)(tg iter:Expr)(wi:TI):Prop where
 run:PIv X tg iter wi
instance{X:Cx}{tg iter:Expr}{wi:TI}:CoeFun (PI X tg iter wi) (fun _=>PIv X tg iter wi):=⟨PI.run⟩
theorem zuy{M:Model}{A:Around}{E:Value->Shared->Prop}{s:Shared}{tg:Expr}{it:Addr}{u:Value}{o:Obj}{n:String}{vs:Array Value}{Q:Unit->Shared->Prop}(ho:s.heap.get? it=some o)(hc:o.cls=.type n)(hd:o.data=.fields vs)
    (hn:["enumerate","zip","dict_itemiterator","dict_reverseitemiterator","odict_iterator","itertools.zip_longest","itertools.pairwise"].contains n=false) (hQ:Q () s):wpAny M A (letOwnedTupleGo tg (.ref it) u) Q E s:=by
  unfold letOwnedTupleGo
  cases tg<;>first
    | exact wpAny_pure hQ
    | (cases u<;>first
        | exact wpAny_pure hQ
        | (refine wpAny_bind (wpAny_load ho ?_)
           rw [hc,hd]
           show wpAny M A (if(["enumerate","zip","dict_itemiterator","dict_reverseitemiterator","odict_iterator","itertools.zip_longest","itertools.pairwise"].contains n && vs[0]? == some (rawInt _))=true then _ else _) Q E s
           rw [if_neg (by intro h; rw [hn,Bool.false_and] at h; cases h)]
           exact wpAny_pure hQ))
def Itl(K:PySem.W.Frag)(a:Addr):It:=
 ⟨fun i H=>∃xs x,SqL K H a xs/\xs[i]?=some x,fun i H x H'=>H'=H/\∀xs,SqL K H a xs->xs[i]?=some x,fun i H=>∃xs,SqL K H a xs/\xs.length<=i⟩
def Itt(K:PySem.W.Frag)(a:Addr):It:=
 ⟨fun i H=>∃xs x,SqT K H a xs/\xs[i]?=some x,fun i H x H'=>H'=H/\∀xs,SqT K H a xs->xs[i]?=some x,fun i H=>∃xs,SqT K H a xs/\xs.length<=i⟩
def Itr(lo:Int)(n:Nat):It:=⟨fun i _=>i < n,fun i H x H'=>H'=H/\x=.int (lo+i),fun i _=>n<=i⟩
theorem zqj{P:Program}{w:World}{K:PySem.W.Frag}{tg:Expr}(a it:Addr):Turn P w K tg (Itl K a) [it] it (fun i h=>h.IsListIter it a i) where
 mem:=by simp
 obj:=fun i h st b hb=>by
  have e:b=it:=by simpa using hb
  subst e
  obtain⟨o,e,c,d⟩:=st
  exact⟨o,e,fun v z=>by rw [d] at z; cases z⟩
 keep:=fun i h h' st k=>st.at fun o e=>k it (by simp) o e
 item:=by
  intro X hP hw hK hc i pins s σ H E I hf st hg
  subst hP hw hK
  obtain⟨xs,x,hq,hx⟩:=hg
  obtain⟨its,rv,p,hz⟩:=I.list hq
  obtain⟨u,hu,ru⟩:=rv.get hx
  obtain⟨f0,f1,f2,f3,f4,f5⟩:=hf it (by simp)
  refine wpAny_pyNext_list_item st p.isList (x:=u) (by simpa using hu) fun h' st' sb=>?_
  have I1:Inv X pins σ H {s with heap:=h'}:=I.turned (t':=s.toks) (fun b o hb e=>(sb.2 b hb).trans e) f0 f1 f3 f4 f5
  obtain⟨o,e,c,d⟩:=id st'
  exact⟨u,rfl,zuy (s:={s with heap:=h'}) e c d (by decide) ⟨x,H,I1,ru,⟨rfl,fun ys hy=>by rw [I.list_inj hy hq]; exact hx⟩,st',fun b hb=>(hf b hb).1⟩⟩
 done:=by
  intro X hP hw hK hc i pins s σ H E I hf st hg
  subst hP hw hK
  obtain⟨xs,hq,hx⟩:=hg
  obtain⟨its,rv,p,hz⟩:=I.list hq
  obtain⟨f0,f1,f2,f3,f4,f5⟩:=hf it (by simp)
  have hl:=rv.length
  exact wpAny_pyNext_list_end (I.ok.hd hc) st p.isList (by simp; omega) fun h' eb=>⟨rfl,I.turned (t':=s.toks) (fun b o hb e=>eb b o hb e) f0 f1 f3 f4 f5⟩
 self:=fun _ _ _ _ _ st h=>wpAny_pyIter_listiter st h
theorem zot{P:Program}{w:World}{K:PySem.W.Frag}{tg:Expr}(a it:Addr):Turn P w K tg (Itt K a) [it] it (fun i h=>h.IsTupleIter it a i) where
 mem:=by simp
 obj:=fun i h st b hb=>by
  have e:b=it:=by simpa using hb
  subst e
  obtain⟨o,e,c,d⟩:=st
  exact⟨o,e,fun v z=>by rw [d] at z; cases z⟩
 keep:=fun i h h' st k=>st.at fun o e=>k it (by simp) o e
 item:=by
  intro X hP hw hK hc i pins s σ H E I hf st hg
  subst hP hw hK
  obtain⟨xs,x,hq,hx⟩:=hg
  obtain⟨its,rv,p,hz⟩:=I.tuple hq
  obtain⟨u,hu,ru⟩:=rv.get hx
  obtain⟨f0,f1,f2,f3,f4,f5⟩:=hf it (by simp)
  refine wpAny_pyNext_tuple_item st (show s.heap.IsTuple a its.toArray from p) (x:=u) (by simpa using hu) fun h' st' sb=>?_
  have I1:Inv X pins σ H {s with heap:=h'}:=I.turned (t':=s.toks) (fun b o hb e=>(sb.2 b hb).trans e) f0 f1 f3 f4 f5
  obtain⟨o,e,c,d⟩:=id st'
  exact⟨u,rfl,zuy (s:={s with heap:=h'}) e c d (by decide) ⟨x,H,I1,ru,⟨rfl,fun ys hy=>by rw [I.tuple_inj hy hq]; exact hx⟩,st',fun b hb=>(hf b hb).1⟩⟩
 done:=by
  intro X hP hw hK hc i pins s σ H E I hf st hg
  subst hP hw hK
  obtain⟨xs,hq,hx⟩:=hg
  obtain⟨its,rv,p,hz⟩:=I.tuple hq
  obtain⟨f0,f1,f2,f3,f4,f5⟩:=hf it (by simp)
  have hl:=rv.length
  exact wpAny_pyNext_tuple_end (I.ok.hd hc) st (show s.heap.IsTuple a its.toArray from p) (by simp; omega) fun h' eb=>⟨rfl,I.turned (t':=s.toks) (fun b o hb e=>eb b o hb e) f0 f1 f3 f4 f5⟩
 self:=fun _ _ _ _ _ st h=>wpAny_pyIter_tupleiter st h
theorem zou{P:Program}{w:World}{K:PySem.W.Frag}{tg:Expr}(it:Addr)(lo:Int)(n:Nat):Turn P w K tg (Itr lo n) [it] it (fun i h=>IsRangeIter h it (lo+(i:Nat) * 1) ((n:Int) - (i:Nat)) 1) where
 mem:=by simp
 obj:=fun i h st b hb=>by
  have e:b=it:=by simpa using hb
  subst e
  exact⟨_,st,fun v z=>by
   have z':Data.fields _=Data.cell v:=z
   cases z'⟩
 keep:=fun i h h' st k=>k it (by simp) _ st
 item:=by
  intro X hP hw hK hc i pins s σ H E I hf st hg
  subst hP hw hK
  obtain⟨f0,f1,f2,f3,f4,f5⟩:=hf it (by simp)
  have W:=Walks.range (prog:=X.prog) (w:=X.w) (I.ok.hd hc) it lo 1 n
  refine W.item i s _ _ hg st fun v h' tk hv st' kk=>?_
  obtain⟨t,rfl⟩:=hv
  have I1:Inv X pins σ H {s with heap:=h',toks:=tk}:=I.turned (fun b o hb e=>kk b o (by simpa using hb) e) f0 f1 f3 f4 f5
  refine⟨_,rfl,zuy (s:={s with heap:=h',toks:=tk}) (n:="range_iterator") st' rfl rfl (by decide) ⟨.int (lo+i),H,I1,⟨t,?_⟩,⟨rfl,rfl⟩,st',fun b hb=>(hf b hb).1⟩⟩
  rw [Int.mul_one]
 done:=by
  intro X hP hw hK hc i pins s σ H E I hf st hg
  subst hP hw hK
  obtain⟨f0,f1,f2,f3,f4,f5⟩:=hf it (by simp)
  exact wpAny_pyNext_range_end (I.ok.hd hc) st (by have:n<=i:=hg; omega) fun h' eb=>⟨rfl,I.turned (t':=s.toks) (fun b o hb e=>eb b o hb e) f0 f1 f3 f4 f5⟩
 self:=fun _ _ _ _ _ st h=>wpAny_pyIter_rangeiter st h
end L2
namespace L2
open PySem PySem.Spec PyProof.Rows
section
variable{X:Cx}{tg:Expr}
def zxx(K:PySem.W.Frag)(tl:TE):TI:=fun σ H R=>tl σ H fun x H1=>∃a,x=.ref a/\(∃xs,SqL K H1 a xs)/\R (Itl K a) H1
def q1g(K:PySem.W.Frag)(tl:TE):TI:=fun σ H R=>tl σ H fun x H1=>∃a,x=.ref a/\(∃xs,SqT K H1 a xs)/\R (Itt K a) H1
theorem ze5{l:Expr}{tl:TE}(hl:PE X l tl):PI X tg l (zxx X.K tl):=by
 refine⟨?_⟩
 intro pins s σ H R I h
 refine thn (hl pins s σ H _ I h) fun v s1 ⟨x,H1,I1,r1,q1⟩=>?_
 obtain⟨a,e,⟨xs,hq⟩,q⟩:=q1
 subst e
 cases r1
 obtain⟨its,rv,p,hz⟩:=I1.list hq
 refine wpAny_pyIter_list p.isList ?_
 refine⟨s1.heap.objs.size,[s1.heap.objs.size],_,_,H1,rfl,I1.kept (t':=s1.toks) fun b o e=>Heap.get?_push_of_some _ e,zqj a _,⟨_,Heap.get?_push_size _ rfl,rfl,rfl⟩,fun b hb=>?_,q⟩
 have e:b=s1.heap.objs.size:=by simpa using hb
 subst e
 exact I1.fpOk (Nat.le_refl _) (I1.hok.fresh (Nat.le_refl _))
theorem zkx{l:Expr}{tl:TE}(hl:PE X l tl):PI X tg l (q1g X.K tl):=by
 refine⟨?_⟩
 intro pins s σ H R I h
 refine thn (hl pins s σ H _ I h) fun v s1 ⟨x,H1,I1,r1,q1⟩=>?_
 obtain⟨a,e,⟨xs,hq⟩,q⟩:=q1
 subst e
 cases r1
 obtain⟨its,rv,p,hz⟩:=I1.tuple hq
 refine wpAny_pyIter_tuple (show s1.heap.IsTuple a its.toArray from p) ?_
 refine⟨s1.heap.objs.size,[s1.heap.objs.size],_,_,H1,rfl,I1.kept (t':=s1.toks) fun b o e=>Heap.get?_push_of_some _ e,zot a _,⟨_,Heap.get?_push_size _ rfl,rfl,rfl⟩,fun b hb=>?_,q⟩
 have e:b=s1.heap.objs.size:=by simpa using hb
 subst e
 exact I1.fpOk (Nat.le_refl _) (I1.hok.fresh (Nat.le_refl _))
theorem znu{pins:List (Addr×Obj)}{σ : St}{H:Hp}{s:Shared}{R:It->Hp->Prop}{E:Value->Shared->Prop}{lo hi:Int}{t u v:Tok}{tk:Nat}(I:Inv X pins σ H s)(h1 : -(2 ^ 62)<=lo)(h2:lo < 2 ^ 62)(h3 : -(2 ^ 62)<=hi)(h4:hi < 2 ^ 62)
  (q:R (Itr lo (hi - lo).toNat) H):wpAny (model X.prog X.w) X.A (pyIter (.ref s.heap.objs.size)) (PIE X pins σ tg R) E {s with heap:=s.heap.push {cls:=.type "range",data:=.fields #[.int lo t,.int hi u,.int 1 v]},toks:=tk}:=by
 refine wpAny_pyIter_range (IsRange.new ..) (small_one h1 h2 h3 h4) ?_
 have I1:Inv X pins σ H {s with heap:=s.heap.push {cls:=.type "range",data:=.fields #[.int lo t,.int hi u,.int 1 v]},toks:=tk}:=I.kept fun b o e=>Heap.get?_push_of_some _ e
 refine⟨(s.heap.push {cls:=.type "range",data:=.fields #[.int lo t,.int hi u,.int 1 v]}).objs.size,[(s.heap.push {cls:=.type "range",data:=.fields #[.int lo t,.int hi u,.int 1 v]}).objs.size],_,_,H,rfl,
  I1.kept (t':=tk) fun b o e=>Heap.get?_push_of_some _ e,zou _ lo (hi - lo).toNat,?_,fun b hb=>?_,q⟩
 ·have e1:lo+((0:Nat):Int) * 1=lo:=by simp
  have e2:(((hi - lo).toNat:Nat):Int) - ((0:Nat):Int)=Builtin.Range.rangeSize lo hi 1:=by rw [rangeSize_one]; split<;>omega
  show IsRangeIter _ _ (lo+((0:Nat):Int) * 1) ((((hi - lo).toNat:Nat):Int) - ((0:Nat):Int)) 1
  rw [e1,e2]
  exact Heap.get?_push_size _ rfl
 ·have e:b=(s.heap.push {cls:=.type "range",data:=.fields #[.int lo t,.int hi u,.int 1 v]}).objs.size:=by simpa using hb
  subst e
  exact I1.fpOk (Nat.le_refl _) (I1.hok.fresh (Nat.le_refl _))
def q0f(ta:TA):TI:=fun σ H R=>ta σ H fun vs H1=>∃j:Int,vs=[.int j]/\-(2 ^ 62)<=j/\j < 2 ^ 62/\R (Itr 0 j.toNat) H1
def zxw(ta:TA):TI:=fun σ H R=>ta σ H fun vs H1=>∃i j:Int,vs=[.int i,.int j]/\(-(2 ^ 62)<=i/\i < 2 ^ 62/\-(2 ^ 62)<=j/\j < 2 ^ 62)/\R (Itr i (j - i).toNat) H1
theorem zkz{a:Expr}{ta:TA}{p pos:Pos} (hg:Gl X "range") (hm:X.mg "range" = none) (ha:PA X [a] ta) (hs:starEach [a] X.env=[(false,eval a X.env)]:=by rfl):PI X tg (.Call (.Name "range" p) [a] [] pos) (q0f ta):=by
 refine⟨?_⟩
 intro pins s σ H R I h
 refine Call_ (zh9 I hg hm boot_range (PyProof.Rows.callWith_type1 (thn (ha pos pins s σ H _ I h) fun us s1 ⟨vs,H1,I1,r1,q1⟩=>?_) hs rfl))
 obtain⟨j,e,q1,q2,q⟩:=q1
 subst e
 cases r1 with
 | cons r rr=>
  cases rr
  obtain⟨t,rfl⟩:=r
  exact call_range_1 (znu I1 (by omega) (by omega) q1 q2 (by simpa using q))
theorem zky{a b:Expr}{ta:TA}{p pos:Pos} (hg:Gl X "range") (hm:X.mg "range" = none) (ha:PA X [a,b] ta) (hs:starEach [a,b] X.env=[(false,eval a X.env),(false,eval b X.env)]:=by rfl) (hs2:starEach [b] X.env=[(false,eval b X.env)]:=by rfl) :
  PI X tg (.Call (.Name "range" p) [a,b] [] pos) (zxw ta):=by
 refine⟨?_⟩
 intro pins s σ H R I h
 refine Call_ (zh9 I hg hm boot_range (PyProof.Rows.callWith_type1 (thn (ha pos pins s σ H _ I h) fun us s1 ⟨vs,H1,I1,r1,q1⟩=>?_) (by rw [hs,hs2]) (by rw [hs2]; rfl)))
 obtain⟨i,j,e,⟨q1,q2,q3,q4⟩,q⟩:=q1
 subst e
 cases r1 with
 | cons r rr=>
  cases rr with
  | cons r' rr=>
   cases rr
   obtain⟨t,rfl⟩:=r
   obtain⟨t',rfl⟩:=r'
   exact call_range_2 (znu I1 q1 q2 q3 q4 q)
def ztq(wi:TI)(g:TG)(tb:TS):TS:=fun D σ H=>wi σ H fun J H1=>∃W:Nat->Nat->St->Hp->Prop,(∃m,W 0 m σ H1)/\∀i m σ H,W i m σ H->
 (J.stop i H/\D.nx σ H)\/(J.go i H/\∃N:St->Hp->Prop,(∀ σ' H',N σ' H'->∃m',m' < m/\W (i+1) m' σ' H')/\∀x H',J.yld i H x H'->g x σ H' fun σ2 H2=>tb {D with nx:=N,ct:=N,bk:=D.nx} σ2 H2)
def zkw(fp:List Addr)(h:Heap):List (Addr×Obj):=fp.filterMap fun b=>(h.get? b).map fun o=>(b,o)
theorem zad{fp:List Addr}{h:Heap}{b:Addr}{o:Obj}(hb:b∈fp)(e:h.get? b=some o):(b,o)∈zkw fp h:=List.mem_filterMap.mpr ⟨b,hb,by rw [e]; rfl⟩
theorem zs0{fp:List Addr}{h:Heap}{p:Addr×Obj}(hp:p∈zkw fp h):p.1∈fp/\h.get? p.1=some p.2:=by
 obtain⟨b,hb,e⟩:=List.mem_filterMap.mp hp
 cases q:h.get? b with
 | none=>rw [q] at e; cases e
 | some o=>
  rw [q] at e
  have e':(b,o)=p:=Option.some.inj e
  subst e'
  exact⟨hb,q⟩
theorem Inv.pinned{pins:List (Addr×Obj)}{σ : St}{H:Hp}{s:Shared}{fp:List Addr}(I:Inv X pins σ H s)(hf:∀b∈fp,FpOk X pins H b)(ho:∀b∈fp,∃o,s.heap.get? b=some o/\∀v,o.data≠.cell v):Inv X (pins++zkw fp s.heap) σ H s:=
 I.pins_of fun p hp=>(List.mem_append.mp hp).elim (fun z=>I.pin p (List.mem_append_right _ z)) fun z=>by
  obtain⟨hb,e⟩:=zs0 z
  obtain⟨f0,f1,f2,_⟩:=hf p.1 hb
  obtain⟨o,e',d⟩:=ho p.1 hb
  rw [e] at e'; cases e'
  exact⟨e,f0,f1,f2,d⟩
theorem Inv.unpinned{pins pl:List (Addr×Obj)}{σ : St}{H:Hp}{s:Shared}(I:Inv X (pins++pl) σ H s):Inv X pins σ H s:=I.pins_of fun p hp=>I.pin p (List.mem_append_right _ (List.mem_append_left _ hp))
theorem zf3{iter:Expr}{body:List Stmt}{wi:TI}{g:TG}{tb:TS}{pos:Pos}(hp:PassesOwn (model X.prog X.w) X.A X.env X.xe)(hc:X.calm=true)(hi:PI X tg iter wi)(hg:PG X tg g)(hb:PSs X body tb)
  (hs:∀x,foldedSetIterable iter X.env x=pure x:=by intro _; rfl):PS X (.For tg iter body [] pos) (ztq wi g tb):=by
 refine⟨?_⟩
 intro pins s σ H D I h
 refine wpAny_For (thn (hi pins s σ H _ I h) fun v s1 h1=>thn h1 fun itv s2 h2=>?_) hs
 obtain⟨it,fp,tn,J,H2,e,I2,T,st2,f2,W,⟨m0,w0⟩,turn⟩:=h2
 subst e
 have stat:∀{H':Hp},(∀b∈fp,H' b=none)->∀b∈fp,FpOk X pins H' b:=fun hn b hb=>⟨hn b hb,(f2 b hb).2⟩
 refine codeAny_forLoop_any (fun n s'=>∃i σ' H',Inv X pins σ' H' s'/\tn i s'.heap/\(∀b∈fp,H' b=none)/\W i n σ' H') ?_ m0 ⟨0,σ,H2,I2,st2,fun b hb=>(f2 b hb).1,w0⟩
 rintro n s3 ⟨i,σ3,H3,I3,st3,fr3,w3⟩
 rcases turn i n σ3 H3 w3 with⟨stop,qn⟩ | ⟨go,N,hN,step⟩
 ·refine wpAny_passesOwn hp (thn (T.done X rfl rfl rfl hc i pins s3 σ3 H3 X.xe I3 (stat fr3) st3 stop) fun r s4 ⟨hr,I4⟩=>?_)
  subst hr
  exact wpAny_execs_nil ⟨σ3,H3,I4,qn⟩
 ·refine wpAny_passesOwn hp (thn (T.item X rfl rfl rfl hc i pins s3 σ3 H3 X.xe I3 (stat fr3) st3 go) fun r s4 ⟨u,hr,h4⟩=>?_)
  subst hr
  refine wpAny_passesOwn hp (thn h4 fun _ s5 ⟨x,H5,I5,r5,y5,st5,fr5⟩=>?_)
  have I5':=I5.pinned (stat fr5) (T.obj _ _ st5)
  refine wpAny_passesOwn hp (thn (hg _ s5 σ3 H5 x u _ I5' r5 (step x H5 y5)) fun _ s6 ⟨σ6,H6,I6,q6⟩=>?_)
  refine wpAny_passesOwn hp (thn (hb _ s6 σ6 H6 _ I6 q6) fun f s7 q7=>?_)
  have again:∀{σ7:St} {H7:Hp},Inv X (pins++zkw fp s5.heap) σ7 H7 s7->N σ7 H7->∃m,m < n/\∃i σ' H',Inv X pins σ' H' s7/\tn i s7.heap/\(∀b∈fp,H' b=none)/\W i m σ' H':=fun {σ7 H7} I7 n7=>by
   obtain⟨m',hm,w7⟩:=hN σ7 H7 n7
   refine⟨m',hm,i+1,σ7,H7,I7.unpinned,T.keep _ _ _ st5 fun b hb o e=>(I7.pin (b,o) (List.mem_append_right _ (List.mem_append_right _ (zad hb e)))).1,fun b hb=>?_,w7⟩
   obtain⟨o,e,d⟩:=T.obj _ _ st5 b hb
   exact(I7.pin (b,o) (List.mem_append_right _ (List.mem_append_right _ (zad hb e)))).2.1
  cases f with
  | next=>obtain⟨σ7,H7,I7,n7⟩:=q7; exact again I7 n7
  | cont=>obtain⟨σ7,H7,I7,n7⟩:=q7; exact again I7 n7
  | brk=>obtain⟨σ7,H7,I7,q7⟩:=q7; exact⟨σ7,H7,I7.unpinned,q7⟩
  | ret v=>obtain⟨x7,σ7,H7,I7,r7,q7⟩:=q7; exact⟨x7,σ7,H7,I7.unpinned,r7,q7⟩
end
theorem zsm{K:PySem.W.Frag}{a:Addr}{xs:List V}{g:TG}{tb:TS}{D:Ends}{σ : St}{H:Hp}(Pv:Nat->St->Hp->Prop)(h0:Pv 0 σ H)(hl:∀i σ H,i<=xs.length->Pv i σ H->SqT K H a xs)
  (hs:∀i x σ H,xs[i]?=some x->Pv i σ H->g x σ H fun σ2 H2=>tb {D with nx:=Pv (i+1),ct:=Pv (i+1),bk:=D.nx} σ2 H2) (hd:∀ σ H,Pv xs.length σ H->D.nx σ H) :
  ∃W:Nat->Nat->St->Hp->Prop,(∃m,W 0 m σ H)/\∀i m σ H,W i m σ H->
   ((Itt K a).stop i H/\D.nx σ H)\/((Itt K a).go i H/\∃N:St->Hp->Prop,(∀ σ' H',N σ' H'->∃m',m' < m/\W (i+1) m' σ' H')/\∀x H',(Itt K a).yld i H x H'->g x σ H' fun σ2 H2=>tb {D with nx:=N,ct:=N,bk:=D.nx} σ2 H2):=by
 refine⟨fun i m σ H=>m=xs.length - i/\i<=xs.length/\Pv i σ H,⟨xs.length,by simp,Nat.zero_le _,h0⟩,?_⟩
 rintro i m σ H ⟨rfl,hi,p⟩
 have q:=hl i σ H hi p
 by_cases hlt:i < xs.length
 ·refine .inr ⟨⟨xs,xs[i],q,by simp[hlt]⟩,Pv (i+1),fun σ' H' p'=>⟨xs.length - (i+1),by omega,rfl,hlt,p'⟩,fun x H' y=>?_⟩
  obtain⟨e,y⟩:=y
  subst e
  exact hs i x σ _ (y xs q) p
 ·have e:i=xs.length:=by omega
  subst e
  exact .inl ⟨⟨xs,q,Nat.le_refl _⟩,hd σ H p⟩
theorem zcy{lo:Int}{n:Nat}{g:TG}{tb:TS}{D:Ends}{σ : St}{H:Hp}(Pv:Nat->St->Hp->Prop)(h0:Pv 0 σ H)
  (hs:∀i σ H,i < n->Pv i σ H->g (.int (lo+i)) σ H fun σ2 H2=>tb {D with nx:=Pv (i+1),ct:=Pv (i+1),bk:=D.nx} σ2 H2) (hd:∀ σ H,Pv n σ H->D.nx σ H) :
  ∃W:Nat->Nat->St->Hp->Prop,(∃m,W 0 m σ H)/\∀i m σ H,W i m σ H->
   ((Itr lo n).stop i H/\D.nx σ H)\/((Itr lo n).go i H/\∃N:St->Hp->Prop,(∀ σ' H',N σ' H'->∃m',m' < m/\W (i+1) m' σ' H')/\∀x H',(Itr lo n).yld i H x H'->g x σ H' fun σ2 H2=>tb {D with nx:=N,ct:=N,bk:=D.nx} σ2 H2):=by
 refine⟨fun i m σ H=>m=n - i/\i<=n/\Pv i σ H,⟨n,by simp,Nat.zero_le _,h0⟩,?_⟩
 rintro i m σ H ⟨rfl,hi,p⟩
 by_cases hlt:i < n
 ·refine .inr ⟨hlt,Pv (i+1),fun σ' H' p'=>⟨n - (i+1),by omega,rfl,hlt,p'⟩,fun x H' y=>?_⟩
  obtain⟨e,y⟩:=y
  subst e y
  exact hs i σ _ hlt p
 ·have e:i=n:=by omega
  subst e
  exact .inl ⟨Nat.le_refl _,hd σ H p⟩
end L2
namespace L2
open PySem PySem.Spec PyProof.Rows
abbrev R2:=V->V->Hp->VK->Prop
def OpR(X:Cx)(f:Value->Value->Sem Value)(r:R2):Prop:=
 ∀(pins:List (Addr×Obj)) (s:Shared) (σ : St) (H:Hp) (x y:V) (v u:Value) (Q:VK),Inv X pins σ H s->RelV x v->RelV y u->r x y H Q->
  wpAny (model X.prog X.w) X.A (f v u) (EP X pins σ Q) X.xe s
def UnR(X:Cx)(f:Value->Sem Value)(r:V->Hp->VK->Prop):Prop:=
 ∀(pins:List (Addr×Obj)) (s:Shared) (σ : St) (H:Hp) (x:V) (v:Value) (Q:VK),Inv X pins σ H s->RelV x v->r x H Q->
  wpAny (model X.prog X.w) X.A (f v) (EP X pins σ Q) X.xe s
def CallR(X:Cx)(f:Value)(r:List V->Hp->VK->Prop):Prop:=
 ∀(pins:List (Addr×Obj)) (s:Shared) (σ : St) (H:Hp) (xs:List V) (us:List Value) (Q:VK),Inv X pins σ H s->Vals xs us->r xs H Q->
  wpAny (model X.prog X.w) X.A (call f us) (EP X pins σ Q) X.xe s
def tOp(r:R2)(ta tb:TE):TE:=fun σ H Q=>ta σ H fun x H1=>tb σ H1 fun y H2=>r x y H2 Q
def tUn(r:V->Hp->VK->Prop)(ta:TE):TE:=fun σ H Q=>ta σ H fun x H1=>r x H1 Q
def rI(C:Int->Int->Prop)(g:Int->Int->V):R2:=fun x y H Q=>∃i j,x=.int i/\y=.int j/\C i j/\Q (g i j) H
def rI0(g:Int->Int->V):R2:=fun x y H Q=>∃i j,x=.int i/\y=.int j/\Q (g i j) H
def rU(g:Int->V):V->Hp->VK->Prop:=fun x H Q=>∃i,x=.int i/\Q (g i) H
section
variable{X:Cx}{a b c:Expr}{ta tb tc:TE}{pos:Pos}
theorem q1t(ha:PE X a ta)(hb:PE X b tb){pins:List (Addr×Obj)}{s:Shared}{σ : St}{H:Hp}{R:V->V->Hp->Prop}(I:Inv X pins σ H s)
  (h:ta σ H fun x H1=>tb σ H1 fun y H2=>R x y H2) {Q:Value->Shared->Prop} {f:Value->Value->Sem Value}
  (hf:∀v u s2 x y H2,Inv X pins σ H2 s2->RelV x v->RelV y u->R x y H2->wpAny (model X.prog X.w) X.A (f v u) Q X.xe s2) :
  wpAny (model X.prog X.w) X.A (eval a X.env) (fun v s₁=>wpAny (model X.prog X.w) X.A (eval b X.env) (fun u s₂=>wpAny (model X.prog X.w) X.A (f v u) Q X.xe s₂) X.xe s₁) X.xe s:=by
 refine thn (ha pins s σ H _ I h) fun v s1 ⟨x,H1,I1,r1,q1⟩=>?_
 refine thn (hb pins s1 σ H1 _ I1 q1) fun u s2 ⟨y,H2,I2,r2,q2⟩=>?_
 exact hf v u s2 x y H2 I2 r1 r2 q2
theorem z28{op:Operator}{r:R2}(ho:OpR X (binaryOp op) r)(ha:PE X a ta)(hb:PE X b tb):PE X (.BinOp a op b pos) (tOp r ta tb):=by
 refine⟨?_⟩
 intro pins s σ H Q I h
 exact wpAny_BinOp (q1t ha hb I h fun v u s2 x y H2 I2 rx ry q=>ho pins s2 σ H2 x y v u Q I2 rx ry q)
theorem q1c{op:UnaryOp}{r:V->Hp->VK->Prop}(ho:UnR X (unaryOp op) r)(ha:PE X a ta):PE X (.UnaryOp op a pos) (tUn r ta):=by
 refine⟨?_⟩
 intro pins s σ H Q I h
 exact UnaryOp_ (thn (ha pins s σ H _ I h) fun v s1 ⟨x,H1,I1,r1,q1⟩=>ho pins s1 σ H1 x v Q I1 r1 q1)
theorem opI{f:Value->Value->Sem Value}{C:Int->Int->Prop}{g:Int->Int->Int}
  (rule:∀(i j:Int) (t u:Tok) (s:Shared) (Q:Value->Shared->Prop) (E:Value->Shared->Prop),C i j->Q (.int (g i j) s.toks) {s with toks:=s.toks+1}->wpAny (model X.prog X.w) X.A (f (.int i t) (.int j u)) Q E s) :
  OpR X f (rI C fun i j=>.int (g i j)):=by
 intro pins s σ H x y v u Q I rx ry h
 obtain⟨i,j,rfl,rfl,hc,q⟩:=h
 obtain⟨t,rfl⟩:=rx
 obtain⟨t',rfl⟩:=ry
 exact rule i j t t' s _ _ hc ⟨.int (g i j),H,I.tok _,⟨_,rfl⟩,q⟩
theorem q2b{f:Value->Value->Sem Value}{g:Int->Int->Int}
  (rule:∀(i j:Int) (t u:Tok) (s:Shared) (Q:Value->Shared->Prop) (E:Value->Shared->Prop),Q (.int (g i j) s.toks) {s with toks:=s.toks+1}->wpAny (model X.prog X.w) X.A (f (.int i t) (.int j u)) Q E s) :
  OpR X f (rI0 fun i j=>.int (g i j)):=by
 intro pins s σ H x y v u Q I rx ry h
 obtain⟨i,j,rfl,rfl,q⟩:=h
 obtain⟨t,rfl⟩:=rx
 obtain⟨t',rfl⟩:=ry
 exact rule i j t t' s _ _ ⟨.int (g i j),H,I.tok _,⟨_,rfl⟩,q⟩
theorem q2c{f:Value->Value->Sem Value}{g:Int->Int->Bool}
  (rule:∀(i j:Int) (t u:Tok) (s:Shared) (Q:Value->Shared->Prop) (E:Value->Shared->Prop),Q (.bool (g i j)) s->wpAny (model X.prog X.w) X.A (f (.int i t) (.int j u)) Q E s) :
  OpR X f (rI0 fun i j=>.bl (g i j)):=by
 intro pins s σ H x y v u Q I rx ry h
 obtain⟨i,j,rfl,rfl,q⟩:=h
 obtain⟨t,rfl⟩:=rx
 obtain⟨t',rfl⟩:=ry
 exact rule i j t t' s _ _ ⟨.bl (g i j),H,I,rfl,q⟩
def q35(i j:Int):Prop:=0 < j/\j < 1073741824
def q1z(i j:Int):Prop:=j≠0/\j.natAbs < 1073741824
def CMul(i j:Int):Prop:=(-(2 ^ 64) < i/\i < 2 ^ 64)\/(-(2 ^ 64) < j/\j < 2 ^ 64)
theorem CMul.ok{i j:Int}(h:CMul i j):IntMulOk i j:=by
 rcases h with⟨h1,h2⟩ | ⟨h1,h2⟩
 ·exact .of_left (intBits_le_64 h1 h2)
 ·exact .of_right (intBits_le_64 h1 h2)
theorem z64:OpR X (binaryOp .Add) (rI0 fun i j=>.int (i+j)):=q2b fun _ _ _ _ _ _ _ q=>add_int q
theorem zgp:OpR X (binaryOp .Sub) (rI0 fun i j=>.int (i - j)):=q2b fun _ _ _ _ _ _ _ q=>sub_int q
theorem zf4:OpR X (binaryOp .Mult) (rI CMul fun i j=>.int (i * j)):=opI fun _ _ _ _ _ _ _ hc q=>mul_int q hc.ok
theorem zxd:OpR X (binaryOp .FloorDiv) (rI q35 fun i j=>.int (i / j)):=opI fun i j _ _ _ _ _ hc q=>by
 have h1:(0:Int) < j:=hc.1
 have h2:j < 1073741824:=hc.2
 exact floordiv_int (by omega) (by rw [Int.fdiv_eq_ediv_of_nonneg i (by omega)]; exact q) (.inl (PyProof.noPylong_small (by omega)))
theorem znz:OpR X (binaryOp .FloorDiv) (rI q1z fun i j=>.int (i.fdiv j)):=opI fun _ _ _ _ _ _ _ hc q=>floordiv_int hc.1 q (.inl (PyProof.noPylong_small hc.2))
theorem zny:OpR X (binaryOp .Mod) (rI (fun _ j=>0 < j) fun i j=>.int (i % j)):=opI fun i j _ _ _ _ _ hc q=>by
 have h1:(0:Int) < j:=hc
 exact mod_int' (by omega) (by rw [Int.fmod_eq_emod_of_nonneg i (by omega)]; exact q)
theorem unI{f:Value->Sem Value}{g:Int->Int}
  (rule:∀(i:Int) (t:Tok) (s:Shared) (Q:Value->Shared->Prop) (E:Value->Shared->Prop),Q (.int (g i) s.toks) {s with toks:=s.toks+1}->wpAny (model X.prog X.w) X.A (f (.int i t)) Q E s) :
  UnR X f (rU fun i=>.int (g i)):=by
 intro pins s σ H x v Q I rx h
 obtain⟨i,rfl,q⟩:=h
 obtain⟨t,rfl⟩:=rx
 exact rule i t s _ _ ⟨.int (g i),H,I.tok _,⟨_,rfl⟩,q⟩
theorem zz6:UnR X (unaryOp .USub) (rU fun i=>.int (-i)):=unI fun _ _ _ _ _ q=>neg_int q
end
def q0y:V->V->Bool
 | .non,.non=>true | .non,.int _=>true | .int _,.non=>true | .non,.bl _=>true | .bl _,.non=>true | .non,.str _=>true | .str _,.non=>true
 | .int _,.int _=>true | .bl _,.bl _=>true | .str _,.str _=>true | .byt _,.byt _=>true
 | .int _,.str _=>true | .str _,.int _=>true | .bl _,.str _=>true | .str _,.bl _=>true
 | _,_=>false
def rEq:R2:=fun x y H Q=>q0y x y=true/\Q (.bl (decide (x=y))) H
def rNe:R2:=fun x y H Q=>q0y x y=true/\Q (.bl (!decide (x=y))) H
theorem zst{i j:Int}:decide (V.int i=V.int j)=(i == j):=by
 rw [Bool.eq_iff_iff]
 simp
theorem zwb{i j:Bool}:decide (V.bl i=V.bl j)=(i == j):=by
 rw [Bool.eq_iff_iff]
 simp
theorem zss{i j:Str}:decide (V.str i=V.str j)=(i == j):=by
 rw [Bool.eq_iff_iff]
 simp
theorem zsu{i j:Array UInt8}:decide (V.byt i=V.byt j)=(i.toList == j.toList):=by
 rw [Bool.eq_iff_iff]
 cases i
 cases j
 simp
section
variable{X:Cx}{a b c:Expr}{ta tb tc:TE}{pos:Pos}
theorem z24{pins:List (Addr×Obj)}{σ : St}{H:Hp}{s:Shared}{Q:VK}{k k':Bool}(I:Inv X pins σ H s)(q:Q (.bl k) H)(e:k=k'):EP X pins σ Q (.bool k') s:=by
 subst e
 exact⟨.bl k,H,I,rfl,q⟩
theorem zzy:OpR X (compareOp .Eq) rEq:=by
 intro pins s σ H x y v u Q I rx ry h
 obtain⟨hs,q⟩:=h
 cases x with
 | non=>
  cases rx
  cases y with
  | non=>cases ry; exact PySem.EqNone.eq_none_none (z24 I q (by simp))
  | bl j=>cases ry; exact PySem.EqNone.eq_none_bool (z24 I q (by simp))
  | int j=>obtain⟨t',rfl⟩:=ry; exact PySem.EqNone.eq_none_int (z24 I q (by simp))
  | str j=>obtain⟨t',rfl⟩:=ry; exact PySem.EqNone.eq_none_str (z24 I q (by simp))
  | _=>exact absurd (show false=true from hs) Bool.false_ne_true
 | bl i=>
  cases rx
  cases y with
  | non=>cases ry; exact PySem.EqNone.eq_bool_none (z24 I q (by simp))
  | bl j=>cases ry; exact eq_bool (z24 I q zwb)
  | str j=>obtain⟨t',rfl⟩:=ry; exact PySem.EqMixed.eq_bool_str (z24 I q (by simp))
  | _=>exact absurd (show false=true from hs) Bool.false_ne_true
 | int i=>
  obtain⟨t,rfl⟩:=rx
  cases y with
  | non=>cases ry; exact PySem.EqNone.eq_int_none (z24 I q (by simp))
  | int j=>obtain⟨t',rfl⟩:=ry; exact eq_int (z24 I q zst)
  | str j=>obtain⟨t',rfl⟩:=ry; exact PySem.EqMixed.eq_int_str (z24 I q (by simp))
  | _=>exact absurd (show false=true from hs) Bool.false_ne_true
 | str i=>
  obtain⟨t,rfl⟩:=rx
  cases y with
  | non=>cases ry; exact PySem.EqNone.eq_str_none (z24 I q (by simp))
  | bl j=>cases ry; exact PySem.EqMixed.eq_str_bool (z24 I q (by simp))
  | int j=>obtain⟨t',rfl⟩:=ry; exact PySem.EqMixed.eq_str_int (z24 I q (by simp))
  | str j=>obtain⟨t',rfl⟩:=ry; exact eq_str (z24 I q zss)
  | _=>exact absurd (show false=true from hs) Bool.false_ne_true
 | byt i=>
  obtain⟨t,rfl⟩:=rx
  cases y with
  | byt j=>obtain⟨t',rfl⟩:=ry; exact PySem.W.eq_bytes (z24 I q zsu)
  | _=>exact absurd (show false=true from hs) Bool.false_ne_true
 | _=>cases y<;>exact absurd (show false=true from hs) Bool.false_ne_true
theorem zzu:OpR X (compareOp .NotEq) rNe:=by
 intro pins s σ H x y v u Q I rx ry h
 obtain⟨hs,q⟩:=h
 cases x with
 | non=>
  cases rx
  cases y with
  | non=>cases ry; exact PySem.EqNone.ne_none_none (z24 I q (by simp))
  | bl j=>cases ry; exact PySem.EqNone.ne_none_bool (z24 I q (by simp))
  | int j=>obtain⟨t',rfl⟩:=ry; exact PySem.EqNone.ne_none_int (z24 I q (by simp))
  | str j=>obtain⟨t',rfl⟩:=ry; exact PySem.EqNone.ne_none_str (z24 I q (by simp))
  | _=>exact absurd (show false=true from hs) Bool.false_ne_true
 | bl i=>
  cases rx
  cases y with
  | non=>cases ry; exact PySem.EqNone.ne_bool_none (z24 I q (by simp))
  | bl j=>cases ry; exact ne_bool (z24 I q (congrArg not zwb))
  | str j=>obtain⟨t',rfl⟩:=ry; exact PySem.EqMixed.ne_bool_str (z24 I q (by simp))
  | _=>exact absurd (show false=true from hs) Bool.false_ne_true
 | int i=>
  obtain⟨t,rfl⟩:=rx
  cases y with
  | non=>cases ry; exact PySem.EqNone.ne_int_none (z24 I q (by simp))
  | int j=>obtain⟨t',rfl⟩:=ry; exact ne_int (z24 I q (congrArg not zst))
  | str j=>obtain⟨t',rfl⟩:=ry; exact PySem.EqMixed.ne_int_str (z24 I q (by simp))
  | _=>exact absurd (show false=true from hs) Bool.false_ne_true
 | str i=>
  obtain⟨t,rfl⟩:=rx
  cases y with
  | non=>cases ry; exact PySem.EqNone.ne_str_none (z24 I q (by simp))
  | bl j=>cases ry; exact PySem.EqMixed.ne_str_bool (z24 I q (by simp))
  | int j=>obtain⟨t',rfl⟩:=ry; exact PySem.EqMixed.ne_str_int (z24 I q (by simp))
  | str j=>obtain⟨t',rfl⟩:=ry; exact ne_str (z24 I q (congrArg not zss))
  | _=>exact absurd (show false=true from hs) Bool.false_ne_true
 | byt i=>
  obtain⟨t,rfl⟩:=rx
  cases y with
  | byt j=>obtain⟨t',rfl⟩:=ry; exact PySem.W.ne_bytes (z24 I q (congrArg not zsu))
  | _=>exact absurd (show false=true from hs) Bool.false_ne_true
 | _=>cases y<;>exact absurd (show false=true from hs) Bool.false_ne_true
theorem zxc:OpR X (compareOp .Lt) (rI0 fun i j=>.bl (decide (i < j))):=q2c fun _ _ _ _ _ _ _ q=>lt_int q
theorem zzw:OpR X (compareOp .Gt) (rI0 fun i j=>.bl (decide (j < i))):=q2c fun _ _ _ _ _ _ _ q=>gt_int q
theorem zrr:OpR X (compareOp .Lt) (fun x y H Q=>∃i j,x=.str i/\y=.str j/\Q (.bl (decide (i.cps.toList < j.cps.toList))) H):=by
 intro pins s σ H x y v u Q I rx ry h
 obtain⟨i,j,rfl,rfl,q⟩:=h
 obtain⟨t,rfl⟩:=rx
 obtain⟨t',rfl⟩:=ry
 exact lt_str (z24 I q rfl)
theorem zrs:OpR X (compareOp .In) (fun x y H Q=>∃i j,x=.str i/\y=.str j/\Q (.bl (!(Builtin.Str.occurrences j i 0 j.length 1).isEmpty)) H):=by
 intro pins s σ H x y v u Q I rx ry h
 obtain⟨i,j,rfl,rfl,q⟩:=h
 obtain⟨t,rfl⟩:=rx
 obtain⟨t',rfl⟩:=ry
 exact in_str (z24 I q rfl)
theorem zzv:OpR X (compareOp .Is) (fun x y H Q=>y=.non/\Q (.bl (decide (x=.non))) H):=by
 intro pins s σ H x y v u Q I rx ry h
 obtain⟨rfl,q⟩:=h
 cases ry
 refine is_none_gen (z24 I q ?_)
 cases x<;>first
  | (cases rx; rfl)
  | (obtain⟨t,rfl⟩:=rx; rfl)
theorem zxb:OpR X (compareOp .IsNot) (fun x y H Q=>y=.non/\Q (.bl (!decide (x=.non))) H):=by
 intro pins s σ H x y v u Q I rx ry h
 obtain⟨rfl,q⟩:=h
 cases ry
 refine isnot_none_gen (z24 I q ?_)
 cases x<;>first
  | (cases rx; rfl)
  | (obtain⟨t,rfl⟩:=rx; rfl)
theorem OpR.or{f:Value->Value->Sem Value}{r r':R2}(h:OpR X f r)(h':OpR X f r'):OpR X f (fun x y H Q=>r x y H Q\/r' x y H Q):=by
 intro pins s σ H x y v u Q I rx ry q
 rcases q with q | q
 ·exact h pins s σ H x y v u Q I rx ry q
 ·exact h' pins s σ H x y v u Q I rx ry q
theorem z0f(b:Expr){op:CmpOp}(h:op≠.In:=by decide)(h2:op≠.NotIn:=by decide):behindInMarks op b=false:=by
 have e1:(op == CmpOp.In)=false:=by cases op<;>first | rfl | exact absurd rfl h
 have e2:(op == CmpOp.NotIn)=false:=by cases op<;>first | rfl | exact absurd rfl h2
 cases b<;>simp[behindInMarks,e1,e2]
theorem z9u{op:CmpOp}{r:R2}(ho:OpR X (compareOp op) r)(ha:PE X a ta)(hb:PE X b tb)(hm:behindInMarks op b=false):PE X (.Compare a [op] [b] pos) (tOp r ta tb):=by
 refine⟨?_⟩
 intro pins s σ H Q I h
 exact wpAny_Compare1 (q1t ha hb I h fun v u s2 x y H2 I2 rx ry q=>ho pins s2 σ H2 x y v u Q I2 rx ry q) hm
def zow(t:TE):TT:=fun σ H Q=>t σ H fun x H'=>∃k,x=.bl k/\Q k H'
theorem z0c{op:CmpOp}{r:R2}(ho:OpR X (compareOp op) r)(ha:PE X a ta)(hb:PE X b tb)(hm:behindInMarks op b=false):PT X (.Compare a [op] [b] pos) (zow (tOp r ta tb)):=by
 refine⟨?_⟩
 intro pins s σ H Q I h
 refine wpAny_isTrue_Compare1 (thn (ha pins s σ H _ I h) fun v s1 ⟨x,H1,I1,r1,q1⟩=>thn (hb pins s1 σ H1 _ I1 q1) fun u s2 ⟨y,H2,I2,r2,q2⟩=>
  thn (ho pins s2 σ H2 x y v u _ I2 r1 r2 q2) fun c s3 ⟨z,H3,I3,r3,k,e,q3⟩=>?_) hm
 subst e
 cases r3
 exact wpAny_truthy_bool ⟨H3,I3,q3⟩
def zkk(r r':R2)(ta tb tc:TE):TE:=fun σ H Q=>ta σ H fun x H1=>tb σ H1 fun y H2=>r x y H2 fun z H3=>∃k,z=.bl k/\
 (if k=true then tc σ H3 fun w' H4=>r' y w' H4 Q else Q (.bl false) H3)
theorem zo9:(sizeLine:Nat) < 2 ^ 63:=by rw [sizeLine_eq]; decide
theorem zz5{x:V}{us:List Value}(r:Vals [x] us):∃u,us=[u]/\RelV x u:=by
 cases r with
 | cons r1 r2=>cases r2; exact⟨_,rfl,r1⟩
theorem zz4{x y:V}{us:List Value}(r:Vals [x,y] us):∃u w',us=[u,w']/\RelV x u/\RelV y w':=by
 cases r with
 | cons r1 r2=>
  cases r2 with
  | cons r3 r4=>cases r4; exact⟨_,_,rfl,r1,r3⟩
theorem z87(hc:X.calm=true):CallR X (.builtin "max") (fun xs H Q=>∃i j,xs=[.int i,.int j]/\Q (.int (if j > i then j else i)) H):=by
 intro pins s σ H xs us Q I r h
 obtain⟨i,j,rfl,q⟩:=h
 obtain⟨u,w',rfl,⟨t,rfl⟩,⟨t',rfl⟩⟩:=zz4 r
 refine max_two_ints (I.ok.hd hc) fun h' tk k=>⟨_,H,I.kept k,?_,q⟩
 by_cases hj:j > i
 ·rw [if_pos hj,if_pos hj]; exact⟨_,rfl⟩
 ·rw [if_neg hj,if_neg hj]; exact⟨_,rfl⟩
theorem z86(hc:X.calm=true):CallR X (.builtin "min") (fun xs H Q=>∃i j,xs=[.int i,.int j]/\Q (.int (if j < i then j else i)) H):=by
 intro pins s σ H xs us Q I r h
 obtain⟨i,j,rfl,q⟩:=h
 obtain⟨u,w',rfl,⟨t,rfl⟩,⟨t',rfl⟩⟩:=zz4 r
 refine min_two_ints (I.ok.hd hc) fun h' tk k=>⟨_,H,I.kept k,?_,q⟩
 by_cases hj:j < i
 ·rw [if_pos hj,if_pos hj]; exact⟨_,rfl⟩
 ·rw [if_neg hj,if_neg hj]; exact⟨_,rfl⟩
end
end L2
namespace L2
open PySem PySem.Spec PyProof.Rows
structure ObjM(h:Heap)(x dx C:Addr)(mA:Str->Option Value):Prop where
 obj:h.get? x=some (PySem.W.instObj C dx)
 ns:h.Ns1 dx mA
 ne:dx≠x
theorem zs8{h:Heap}{dx:Addr}{mA:Str->Option Value}(n:h.Ns1 dx mA):∃od,h.get? dx=some od/\∀name,PySem.W.lookIn name od=some (mA name):=by
 obtain⟨o,es,ep,ho,hd,hk,_,hm⟩:=n
 refine⟨o,ho,fun name=>?_⟩
 have e:=hm name
 unfold nsFind findBy at e
 rw [<- Array.find?_toList] at e
 unfold PySem.W.lookIn
 rw [hd]
 dsimp only
 split
 ·rename_i y q
  rw [q] at e
  exact congrArg some e
 ·rename_i q
  rw [q] at e
  have a:es.toList.any (·.refKey)=false:=by
   rw [List.any_eq_false]
   intro y hy
   obtain⟨z,t,hkey⟩:=hk y (Array.mem_toList_iff.mp hy)
   simp[DictEntry.refKey,hkey]
  have a':¬ es.toList.any (·.refKey)=true:=by rw [a]; exact Bool.false_ne_true
  rw [if_neg a']
  exact congrArg some e
theorem ObjM.look{h:Heap}{x dx C:Addr}{mA:Str->Option Value}(I:ObjM h x dx C mA):∃od,PySem.W.InstAt h x (PySem.W.instObj C dx) C (some od)/\∀name,PySem.W.lookIn name od=some (mA name):=
 let ⟨od,ho,hl⟩:=zs8 I.ns
 ⟨od,⟨I.obj,rfl,rfl,ho⟩,hl⟩
section
variable{prog:Program}{w:World}{A:Around}{E:Value->Shared->Prop}{s:Shared}{K:PySem.W.Frag}{x dx C f:Addr}{mA:Str->Option Value}{name:Str}{v:Value}
theorem zxy{expr:Bool}{Q:Value->Shared->Prop}(X:K.In s.heap)(I:ObjM s.heap x dx C mA)(hg:PySem.W.plainGet K C name=true)(hh:PySem.W.hasDictIn K C=true)
  (ha:PySem.W.findIn K (.ref C) name=some none) (hv:mA name=some v) (hv':PySem.W.handedIn v=true) (h:Q v {s with toks:=s.toks+1}) :
  wpAny (model prog w) A (getAttr (.ref x) name expr) Q E s:=by
 obtain⟨od,J,hl⟩:=I.look
 exact PySem.W.get_value X J (PySem.W.plainGet_of hg).1 (PySem.W.findObj_own hh ha rfl (by rw [hl,hv])) hv' h
theorem zwv{ns:List Str}{Q:Unit->Shared->Prop}(X:K.In s.heap)(I:ObjM s.heap x dx C mA)
  (hs:PySem.W.findIn K (.ref C) "__setattr__" = some (some (.builtin "object.__setattr__"))) (hp:PySem.W.plainOver K C=true) (ht:PySem.W.takerIn K C name=some none) (hh:PySem.W.hasDictIn K C=true)
  (hw:PySem.Within mA ns) (hsz:ns.length<=sizeLine)
  (h:∀h',ObjM h' x dx C (fun y=>if y=name then some v else mA y)->Heap.SameBut dx s.heap h'->Q () {s with heap:=h',toks:=s.toks+2}) :
  wpAny (model prog w) A (setAttr (.ref x) name v) Q E s:=by
 obtain⟨od,J,hl⟩:=I.look
 refine PySem.W.set_plain X J hs (PySem.W.osa_open (s:={s with toks:=s.toks+1}) (r:=none) X J hp ht fun b=>?_)
 obtain⟨cd,hc,hd'⟩:=PySem.W.any_some hh
 have hx:s.heap.get? x=some ⟨.ref C,some dx,.plain,#[]⟩:=I.obj
 refine wpAny_bind (wpAny_pure (wpAny_bind (wpAny_bind (wpAny_loadPart hx (wpAny_bind (PySem.W.Looks.here (s:={s with toks:=s.toks+1}) (PySem.W.looks_clsIn X hc) ?_))))))
 rw [hd']
 refine wpAny_pure (a:=some dx) (wpAny_bind (wpAny_pure (wpAny_bind ?_)))
 refine wpAny_nsSet1 (s:={s with toks:=s.toks+1}) I.ns fun h' hn2 hs2=>?_
 obtain⟨oD,esD,epD,hoD,hdD,hcD⟩:=hn2.count (PySem.Within.cons name v hw)
 refine wpAny_bind (wpAny_lookBehind hoD (by rw [hdD]; exact pastItsLine_dict (Nat.le_trans hcD (by rw [List.length_cons]; omega))) ?_)
 exact wpAny_pure (h _ ⟨(hs2.2 _ (Ne.symm I.ne)).trans I.obj,hn2,I.ne⟩ hs2)
theorem zup{R:Result->Shared->Prop}{vs:List Value}{kw:List (Str×Value)}(X:K.In s.heap)(hm:PySem.W.makesIn K C=true)
  (hi:PySem.W.findIn K (.ref C) "__init__" = some (some (.ref f))) (hf:PySem.W.typeIn K (.ref f)=some (.type "function"))
  (h:codeAny (model prog w) (A.under (.builtin "type.__call__" ⟨.ref C::vs,kw⟩)) (.call (.ref f) ⟨.ref (s.heap.objs.size+1)::vs,kw⟩) (PySem.W.InitBack (s.heap.objs.size+1) R)
   {s with heap:=(s.heap.push PySem.W.emptyDict).push (PySem.W.instObj C s.heap.objs.size)}) :
  codeAny (model prog w) A (.call (.ref C) ⟨vs,kw⟩) R s:=by
 obtain⟨hh,g,d,t,os⟩:=s
 exact PySem.W.make_core (PySem.W.makes_of X hm) (PySem.W.looks_findIn X hi) (fun self=>PySem.W.bind_fn X self hf) (.inl rfl) h
end
def zdn(f:Str)(v:V):List (Str×V)->List (Str×V)
 | []=>[(f,v)]
 | (g,x)::r=>if g=f then(g,v)::r else(g,x)::zdn f v r
theorem zgy(f g:Str)(v:V):∀fs:List (Str×V),(zdn f v fs).lookup g=if g=f then some v else fs.lookup g
 | []=>by
  show List.lookup g [(f,v)]=_
  by_cases h:g=f
  ·have hb:(g == f)=true:=beq_iff_eq.mpr h
   simp only[List.lookup,hb,if_pos h]
  ·have hb:(g == f)=false:=beq_eq_false_iff_ne.mpr h
   simp only[List.lookup,hb,if_neg h]
 | (k,x)::r=>by
  have ih:=zgy f g v r
  rw [show zdn f v ((k,x)::r)=(if k=f then(k,v)::r else(k,x)::zdn f v r) from rfl]
  by_cases hk:k=f
  ·rw [if_pos hk]
   by_cases h:g=k
   ·have hb:(g == k)=true:=beq_iff_eq.mpr h
    simp only[List.lookup,hb,if_pos (h.trans hk)]
   ·have hb:(g == k)=false:=beq_eq_false_iff_ne.mpr h
    simp only[List.lookup,hb,if_neg (fun e:g=f=>h (e.trans hk.symm))]
  ·rw [if_neg hk]
   by_cases h:g=k
   ·have hb:(g == k)=true:=beq_iff_eq.mpr h
    simp only[List.lookup,hb,if_neg (fun e:g=f=>hk (h.symm.trans e))]
   ·have hb:(g == k)=false:=beq_eq_false_iff_ne.mpr h
    simp only[List.lookup,hb]
    exact ih
theorem zhb(f:Str)(v:V):∀fs:List (Str×V),f∈(zdn f v fs).map (·.1)/\∀g,g∈fs.map (·.1)->g∈(zdn f v fs).map (·.1)
 | []=>⟨by simp[zdn],fun g h=>by simp at h⟩
 | (k,x)::r=>by
  obtain⟨i1,i2⟩:=zhb f v r
  rw [show zdn f v ((k,x)::r)=(if k=f then(k,v)::r else(k,x)::zdn f v r) from rfl]
  by_cases hk:k=f
  ·rw [if_pos hk]
   subst hk
   exact⟨by simp,fun g h=>by simpa using h⟩
  ·rw [if_neg hk]
   refine⟨?_,fun g h=>?_⟩
   ·rw [List.map_cons]
    exact List.mem_cons_of_mem _ i1
   ·rw [List.map_cons] at h |-
    rcases List.mem_cons.mp h with e | e
    ·exact List.mem_cons.mpr (.inl e)
    ·exact List.mem_cons_of_mem _ (i2 g e)
theorem zh8(f:Str)(v:V):∀fs:List (Str×V),(zdn f v fs).length<=fs.length+1
 | []=>by simp[zdn]
 | (k,x)::r=>by
  have ih:=zh8 f v r
  rw [show zdn f v ((k,x)::r)=(if k=f then(k,v)::r else(k,x)::zdn f v r) from rfl]
  by_cases hk:k=f
  ·rw [if_pos hk,List.length_cons,List.length_cons]; omega
  ·rw [if_neg hk,List.length_cons,List.length_cons]; omega
theorem RelO.some_of{v:V}{o:Option Value}(r:RelO (some v) o):∃u,o=some u/\RelV v u:=by
 cases o with
 | none=>exact(show False from r).elim
 | some u=>exact⟨u,rfl,r⟩
theorem zsl{v:V}{u:Value}(r:RelV v u):PySem.W.handedIn u=true:=by
 cases v with
 | non=>cases (show u=Value.none from r); rfl
 | bl b=>cases (show u=Value.bool b from r); rfl
 | int i=>obtain⟨t,e⟩:=(show ∃t,u=Value.int i t from r); cases e; rfl
 | str x=>obtain⟨t,e⟩:=(show ∃t,u=Value.str x t from r); cases e; rfl
 | byt b=>obtain⟨t,e⟩:=(show ∃t,u=Value.bytes b t from r); cases e; rfl
 | flt b=>obtain⟨t,e⟩:=(show ∃t,u=Value.float b t from r); cases e; rfl
 | ref a=>cases (show u=Value.ref a from r); rfl
 | ty n=>cases (show u=Value.type n from r); rfl
section
variable{P:Program}{w:World}{H H':Hp}{h h':Heap}{a C dx:Addr}{fs fs':List (Str×V)}
theorem zn1(hok:HOk P w H h)(e:H a=some (.ins C dx fs)):∃mA,ObjM h a dx C mA/\(∀f,RelO (fs.lookup f) (mA f))/\PySem.Within mA (fs.map (·.1))/\fs.length<=1000/\H dx=some (.own a):=by
 obtain⟨d,z,ne,ob,mA,n,r,q⟩:=(show ObjOk P w H h a (.ins C dx fs) from hok a _ e)
 exact⟨mA,⟨ob,n,ne⟩,r,q,z,d⟩
end
structure Cls(K:PySem.W.Frag)(C:Addr):Prop where
 pg:PySem.W.plainGet K C Str.empty=true
 hd:PySem.W.hasDictIn K C=true
 po:PySem.W.plainOver K C=true
 sa:PySem.W.findIn K (.ref C) "__setattr__" = some (some (.builtin "object.__setattr__"))
theorem Cls.get{K:PySem.W.Frag}{C:Addr}(c:Cls K C)(f:Str):PySem.W.plainGet K C f=true:=c.pg
def NoAttr(K:PySem.W.Frag)(C:Addr)(f:Str):Prop:=PySem.W.findIn K (.ref C) f=some none
theorem NoAttr.taker{K:PySem.W.Frag}{C:Addr}{f:Str}(n:NoAttr K C f):PySem.W.takerIn K C f=some none:=by
 unfold PySem.W.takerIn
 rw [show PySem.W.findIn K (.ref C) f=some none from n]
 rfl
structure Con(K:PySem.W.Frag)(C:Addr)(f:Str)(v:V)(u:Value):Prop where
 at_:PySem.W.findIn K (.ref C) f=some (some u)
 rel:RelV v u
 get:PySem.W.specialIn K u "__get__" = some none
 cp:PySem.W.copiedNames.contains f=false
structure Meth(K:PySem.W.Frag)(C:Addr)(m:Str)(f:Addr):Prop where
 at_:PySem.W.findIn K (.ref C) m=some (some (.ref f))
 fn:PySem.W.isFn K (.ref f)=true
 kp:PySem.W.keepIn K (.ref f)=true
section
variable{X:Cx}{pins:List (Addr×Obj)}{σ : St}{H:Hp}{s:Shared}{a C dx:Addr}{fs:List (Str×V)}{f:Str}{v:V}{A:Around}{E:Value->Shared->Prop}
theorem zpy{b:Bool}{Q:Value->Shared->Prop}(I:Inv X pins σ H s)(e:H a=some (.ins C dx fs))(c:Cls X.K C)(n:NoAttr X.K C f)(l:fs.lookup f=some v)
  (h:∀u s',Inv X pins σ H s'->RelV v u->Q u s'):wpAny (model X.prog X.w) A (getAttr (.ref a) f b) Q E s:=by
 obtain⟨mA,O,r,_,_,_⟩:=zn1 I.hok e
 obtain⟨u,hu,ru⟩:=RelO.some_of (v:=v) (o:=mA f) (by rw [<- l]; exact r f)
 exact zxy I.kIn O (c.get f) c.hd n hu (zsl ru) (h u _ (I.tok _) ru)
theorem zp5{y:V}{u:Value}{Q:Unit->Shared->Prop}(I:Inv X pins σ H s)(e:H a=some (.ins C dx fs))(c:Cls X.K C)(n:NoAttr X.K C f)(hl:fs.length < 1000)(ry:RelV y u)
  (h:∀s',Inv X pins σ (upd H a (.ins C dx (zdn f y fs))) s'->Q () s'):wpAny (model X.prog X.w) A (setAttr (.ref a) f u) Q E s:=by
 obtain⟨mA,O,r,wi,_,ho⟩:=zn1 I.hok e
 have hz:(fs.map (·.1)).length<=sizeLine:=by rw [List.length_map,sizeLine_eq]; omega
 refine zwv I.kIn O c.sa c.po n.taker c.hd wi hz fun h' O' sb=>h _ ?_
 have hd:∃o,h'.get? dx=some o:=let ⟨o,_,_,e',_⟩:=O'.ns; ⟨o,e'⟩
 refine I.write (x:=a) (e:=dx) (by rw [e]; exact True.intro) (.inr ho) (fun b q hb z=>(sb.2 b hb).trans z) hd ?_
 refine⟨by rw [z0s O.ne]; exact ho,?_,O.ne,O'.obj,_,O'.ns,fun g=>?_,fun g hg=>?_⟩
 ·have:=zh8 f y fs; omega
 ·show RelO ((zdn f y fs).lookup g) (if g=f then some u else mA g)
  rw [zgy]
  by_cases q:g=f
  ·rw [if_pos q,if_pos q]; exact ry
  ·rw [if_neg q,if_neg q]; exact r g
 ·by_cases q:g=f
  ·rw [q]; exact(zhb f y fs).1
  ·refine(zhb f y fs).2 g (wi g fun z=>hg ?_)
   show(if g=f then some u else mA g)=none
   rw [if_neg q]; exact z
theorem Inv.made(I:Inv X pins σ H s):Inv X pins σ (upd (upd H s.heap.objs.size (.own (s.heap.objs.size+1))) (s.heap.objs.size+1) (.ins C s.heap.objs.size []))
  {s with heap:=(s.heap.push PySem.W.emptyDict).push (PySem.W.instObj C s.heap.objs.size)}:=by
 have e1:(s.heap.push PySem.W.emptyDict).get? s.heap.objs.size=some PySem.W.emptyDict:=Heap.get?_push_size s.heap rfl
 have e2:((s.heap.push PySem.W.emptyDict).push (PySem.W.instObj C s.heap.objs.size)).get? (s.heap.objs.size+1)=some (PySem.W.instObj C s.heap.objs.size):=by
  have:=Heap.get?_push_size (s.heap.push PySem.W.emptyDict) (o:=PySem.W.instObj C s.heap.objs.size) rfl
  rwa [Heap.size_push] at this
 have e3:(s.heap.push PySem.W.emptyDict).Ns s.heap.objs.size (fun _=>none):=⟨PySem.W.emptyDict,#[],_,e1,rfl,(fun e he=>absurd he (by simp)),fun _=>rfl⟩
 have I1:=I.laid (a:=s.heap.objs.size) (o:=.own (s.heap.objs.size+1)) (h':=s.heap.push PySem.W.emptyDict) (t':=s.toks) (fun b u q=>Heap.get?_push_of_some _ q) (Nat.le_refl _) ⟨_,e1⟩
 refine I1.laid (a:=s.heap.objs.size+1) (o:=.ins C s.heap.objs.size []) (t':=s.toks) (fun b u q=>Heap.get?_push_of_some _ q) (Nat.le_of_eq (Heap.size_push _ _)) ?_
 have ne:s.heap.objs.size≠s.heap.objs.size+1:=Nat.ne_of_lt (Nat.lt_succ_self _)
 refine⟨by rw [z0s ne,z04],Nat.zero_le _,ne,e2,fun _=>none,(Heap.Ns1.of_empty e3).at fun o q=>Heap.get?_push_of_some _ q,fun _=>True.intro,fun y hy=>absurd rfl hy⟩
theorem zy7{prog:Program}{w:World}{env:Env}{e:Expr}{f:Str}{pos:Pos}{s:Shared}{Q:Value->Shared->Prop}(hb:attributeBase e f env (eval e env)=eval e env)
  (h:wpAny (model prog w) A (eval e env) (fun o s₁=>wpAny (model prog w) A (getAttr o f true) Q E s₁) E s):wpAny (model prog w) A (eval (.Attribute e f pos) env) Q E s:=
 Attribute_any_ h (by rw [arm_eval_Attribute,hb])
end
def q13(K:PySem.W.Frag)(ta:TE)(f:Str):TE:=fun σ H Q=>ta σ H fun x H1=>∃a C dx fs v,x=.ref a/\H1 a=some (.ins C dx fs)/\Cls K C/\NoAttr K C f/\fs.lookup f=some v/\Q v H1
def q27(K:PySem.W.Frag)(ta tv:TE)(f:Str):TS:=fun D σ H=>tv σ H fun y H1=>ta σ H1 fun x H2=>∃a C dx fs,x=.ref a/\H2 a=some (.ins C dx fs)/\Cls K C/\NoAttr K C f/\fs.length < 1000/\
 D.nx σ (upd H2 a (.ins C dx (zdn f y fs)))
section
variable{X:Cx}{o e value:Expr}{f:Str}{pos pos' tpos:Pos}{ta tv:TE}
theorem zrn(he:PE X e ta)(hb:attributeBase e f X.env (eval e X.env)=eval e X.env):PE X (.Attribute e f pos) (q13 X.K ta f):=by
 refine⟨?_⟩
 intro pins s σ H Q I h
 refine zy7 hb (thn (he pins s σ H _ I h) fun u s1 ⟨x,H1,I1,rx,a,C,dx,fs,v,ex,ea,c,n,l,q⟩=>?_)
 subst ex
 obtain rfl:u=Value.ref a:=rx
 exact zpy I1 ea c n l fun u' s2 I2 ru=>⟨v,H1,I2,ru,q⟩
theorem zrh(ha:PE X o ta)(hv:PE X value tv)(hs:swapsWith value (some (.Attribute o f pos')) pos.line X.env=pure false):PS X (.Assign [.Attribute o f pos'] value pos) (q27 X.K ta tv f):=by
 refine⟨?_⟩
 intro pins s σ H D I h
 refine plainObj_wpAny_Assign_Attribute (thn (hv pins s σ H _ I h) fun u s1 ⟨y,H1,I1,ry,q⟩=>thn (ha pins s1 σ H1 _ I1 q) fun ov s2 ⟨x,H2,I2,rx,a,C,dx,fs,ex,ea,c,n,l,q2⟩=>?_) hs
 subst ex
 obtain rfl:ov=Value.ref a:=rx
 exact zp5 I2 ea c n l ry fun s3 I3=>⟨σ,_,I3,q2⟩
end
section
variable{X:Cx}{pins:List (Addr×Obj)}{σ : St}{H:Hp}{s:Shared}{A:Around}{E:Value->Shared->Prop}{Q:Value->Shared->Prop}{c:Value}{b:Bool}
inductive TyOf (K:PySem.W.Frag) (H:Hp):V->Value->Prop where
 | non:TyOf K H .non (.type "NoneType")
 | bl (x:Bool):TyOf K H (.bl x) (.type "bool")
 | int (i:Int):TyOf K H (.int i) (.type "int")
 | str (x:Str):TyOf K H (.str x) (.type "str")
 | flt (x:UInt64):TyOf K H (.flt x) (.type "float")
 | lst {a:Addr} {xs:List V} (e:H a=some (.lst xs)):TyOf K H (.ref a) (.type "list")
 | frz {a:Addr} {o:Obj} {xs:List V} (e:H a=some (.frz o (.lst xs))):TyOf K H (.ref a) (.type "list")
 | tup {a:Addr} {xs:List V} (e:H a=some (.tup xs)):TyOf K H (.ref a) (.type "tuple")
 | dK {a:Addr} {kvs:List (Key×V)} (e:H a=some (.dK kvs)):TyOf K H (.ref a) (.type "dict")
 | dT {a:Addr} {kvs:List (List Key×V)} (e:H a=some (.dT kvs)):TyOf K H (.ref a) (.type "dict")
 | ins {a C dx:Addr} {fs:List (Str×V)} (e:H a=some (.ins C dx fs)) (cl:Cls K C) (ha:PySem.W.findIn K (.ref C) "__class__" = some (some (.builtin "object.__class__")))
   (hn:PySem.W.specialIn K (.builtin "object.__class__") "__get__" = some (some (.builtin "getset_descriptor.__get__"))) (htk:PySem.W.takesIn K (.builtin "object.__class__")=some true)
   (hm:PySem.W.mroIn K C (.type "object")=some true):TyOf K H (.ref a) (.ref C)
theorem zsi{x:V}{u t:Value}(I:Inv X pins σ H s)(rx:RelV x u)(ty:TyOf X.K H x t)(e:PySem.W.kitOne X.K t c=some b)(h:∀tk,Q (.bool b) {s with toks:=tk}) :
  wpAny (model X.prog X.w) A (call (.builtin "isinstance") [u,c]) Q E s:=by
 cases ty with
 | non=>cases (show u=Value.none from rx); exact PySem.W.kia_one PySem.W.kitx_none I.kIn True.intro e (fun z=>nomatch z) h
 | bl y=>cases (show u=Value.bool y from rx); exact PySem.W.kia_one PySem.W.kitx_bool I.kIn True.intro e (fun z=>nomatch z) h
 | int i=>obtain⟨t,q⟩:=(show ∃t,u=Value.int i t from rx); cases q; exact PySem.W.kia_one PySem.W.kitx_int I.kIn True.intro e (fun z=>nomatch z) h
 | str y=>obtain⟨t,q⟩:=(show ∃t,u=Value.str y t from rx); cases q; exact PySem.W.kia_one PySem.W.kitx_str I.kIn True.intro e (fun z=>nomatch z) h
 | flt y=>obtain⟨t,q⟩:=(show ∃t,u=Value.float y t from rx); cases q; exact PySem.W.kia_one PySem.W.kitx_float I.kIn True.intro e (fun z=>nomatch z) h
 | @lst a xs ea=>
  cases (show u=Value.ref a from rx)
  obtain⟨_,_,n,_,h1⟩:=(show ObjOk X.prog X.w H s.heap a (.lst xs) from I.hok a _ ea)
  exact PySem.W.kia_one PySem.W.kitx_list I.kIn ⟨_,h1,rfl⟩ e (fun z=>nomatch z) h
 | @frz a ob xs ea=>
  cases (show u=Value.ref a from rx)
  obtain⟨_,_,_,n,_,h1⟩:=(show ObjOk X.prog X.w H s.heap a (.frz ob (.lst xs)) from I.hok a _ ea)
  exact PySem.W.kia_one PySem.W.kitx_list I.kIn ⟨_,h1,rfl⟩ e (fun z=>nomatch z) h
 | @tup a xs ea=>
  cases (show u=Value.ref a from rx)
  obtain⟨_,_,_,p⟩:=(show ObjOk X.prog X.w H s.heap a (.tup xs) from I.hok a _ ea)
  obtain⟨o,h1,h2,_⟩:=p
  exact PySem.W.kia_one PySem.W.kitx_tuple I.kIn ⟨o,h1,h2⟩ e (fun z=>nomatch z) h
 | @dK a kvs ea=>
  cases (show u=Value.ref a from rx)
  obtain⟨_,_,vs,_,p⟩:=(show ObjOk X.prog X.w H s.heap a (.dK kvs) from I.hok a _ ea)
  obtain⟨o,es,ep,h1,h2,_⟩:=p
  exact PySem.W.kia_one PySem.W.kitx_dict I.kIn ⟨o,h1,h2.1⟩ e (fun z=>nomatch z) h
 | @dT a kvs ea=>
  cases (show u=Value.ref a from rx)
  obtain⟨_,_,xs,_,o,es,ep,h1,h2,_⟩:=(show ObjOk X.prog X.w H s.heap a (.dT kvs) from I.hok a _ ea)
  exact PySem.W.kia_one PySem.W.kitx_dict I.kIn ⟨o,h1,h2.1⟩ e (fun z=>nomatch z) h
 | @ins a C dx fs ea cl ha hn htk hm=>
  cases (show u=Value.ref a from rx)
  obtain⟨mA,O,_⟩:=zn1 I.hok ea
  obtain⟨od,J,_⟩:=O.look
  exact PySem.W.kia_one (PySem.W.kitx_own (cl.get _) cl.hd ha hn htk hm) I.kIn J e (fun z=>nomatch z) h
end
end L2
namespace L2
open PySem PySem.Spec PyProof.Rows
structure Room(k:Nat)(A:Around):Prop where
 hd:A.handled=none
 dp:A.depth+3 * k+5 < recursionLimit
 un:A.units+16 * k+200 < cLine
theorem Room.mono{j k:Nat}{A:Around}(r:Room k A)(h:j<=k):Room j A:=⟨r.hd,by have:=r.dp; omega,by have:=r.un; omega⟩
theorem Room.deeper{k:Nat}{A:Around}(r:Room (k+1) A)(env:Env):Room k (A.deeper env):=
 ⟨r.hd,by have:=r.dp; show A.depth+1+3 * k+5 < _; omega,by have:=r.un; show A.units+3+16 * k+200 < _; omega⟩
theorem zpt{A:Around}{C:Addr}{us:List Value}{kw:List (Str×Value)}:(A.under (.builtin "type.__call__" ⟨.ref C::us,kw⟩)).depth=A.depth+1:=by
 first | rfl | simp[Around.under,Code.weight,Code.isCreation,Code.isGuard,Code.isCaller,Code.frames,Code.isFrame,guardIds]
theorem zps{A:Around}{C:Addr}{us:List Value}{kw:List (Str×Value)}:(A.under (.builtin "type.__call__" ⟨.ref C::us,kw⟩)).units=A.units+1:=by
 first | rfl | simp[Around.under,Code.cUnits,Code.frames,Code.isFrame]
theorem Room.make{k:Nat}{A:Around}(r:Room (k+1) A)(C:Addr)(us:List Value)(kw:List (Str×Value)):Room k (A.under (.builtin "type.__call__" ⟨.ref C::us,kw⟩)):=
 ⟨r.hd,by have:=r.dp; rw [zpt]; omega,by have:=r.un; rw [zps]; omega⟩
theorem Room.depth{k:Nat}{A:Around}(r:Room k A):A.depth < recursionLimit:=by have:=r.dp; omega
theorem Room.units{k:Nat}{A:Around}(r:Room k A):A.units+64 < cLine:=by have:=r.un; omega
def zwq:TA:=fun _ H Q=>Q [] H
def zi4(ta:TE)(tr:TA):TA:=fun σ H Q=>ta σ H fun x H1=>tr σ H1 fun xs H2=>Q (x::xs) H2
section
variable{X:Cx}{e:Expr}{es:List Expr}{te:TE}{t:TA}{pos:Pos}
theorem z01:PA X [] zwq:=⟨fun _ _ _ _ H Q I h=>Calls.spliced_nil ⟨[],H,I,.nil,h⟩⟩
theorem zxa(ha:PE X e te)(hr:PA X es t)(hs:starEach (e::es) X.env=(false,eval e X.env)::starEach es X.env:=by rfl):PA X (e::es) (zi4 te t):=by
 refine⟨?_⟩
 intro pos pins s σ H Q I h
 rw [hs]
 show wpAny _ _ (spliced ((false,eval e X.env)::backTo pos (starEach es X.env))) _ _ s
 refine Calls.spliced_cons (thn (ha pins s σ H _ I h) fun u s1 ⟨x,H1,I1,r1,q1⟩=>?_)
 exact thn (hr pos pins s1 σ H1 _ I1 q1) fun us s2 ⟨xs,H2,I2,r2,q2⟩=>⟨x::xs,H2,I2,.cons r1 r2,q2⟩
def zyj(t:TA):TE:=fun σ H Q=>t σ H fun xs H1=>xs.length<=sizeLine/\∀p,H1 p=none->Q (.ref p) (upd H1 p (.tup xs))
def zym(t:TA):TE:=fun σ H Q=>t σ H fun xs H1=>xs.length<=sizeLine/\∀p,H1 p=none->Q (.ref p) (upd H1 p (.lst xs))
theorem z0y{x1}(h:PA X es t):PE X (.Tuple es x1 pos) (zyj t):=by
 refine⟨?_⟩
 intro pins s σ H Q I hq
 refine wpAny_Tuple_spliced (thn (h pos pins s σ H _ I hq) fun us s1 ⟨xs,H1,I1,r,z,q⟩=>⟨by rw [<- r.length]; exact z,?_⟩)
 have hf:H1 s1.heap.objs.size=none:=I1.hok.fresh (Nat.le_refl _)
 refine⟨.ref s1.heap.objs.size,upd H1 s1.heap.objs.size (.tup xs),I1.laid (t':=s1.toks) (fun b u e=>Heap.get?_push_of_some _ e) (Nat.le_refl _) ?_,rfl,q _ hf⟩
 exact⟨z,us,r,⟨_,Heap.get?_push_size _ rfl,rfl,_,rfl⟩⟩
theorem z9s(h:PA X es t):PE X (.List es pos) (zym t):=by
 refine⟨?_⟩
 intro pins s σ H Q I hq
 refine wpAny_List_spliced (thn (h pos pins s σ H _ I hq) fun us s1 ⟨xs,H1,I1,r,z,q⟩=>⟨by rw [<- r.length]; exact z,?_⟩)
 have hf:H1 s1.heap.objs.size=none:=I1.hok.fresh (Nat.le_refl _)
 refine⟨.ref s1.heap.objs.size,upd H1 s1.heap.objs.size (.lst xs),I1.laid (t':=s1.toks) (fun b u e=>Heap.get?_push_of_some _ e) (Nat.le_refl _) ?_,rfl,q _ hf⟩
 exact⟨z,us,0,r,Heap.get?_push_size _ rfl⟩
end
abbrev Sp:=List V->Hp->VK->XK->Prop
abbrev CXT:=List Env->Hp->Shared->XK->Value->Shared->Prop
structure Env0(P:Program)(w:World)(K:PySem.W.Frag)(mg:Str->Option Value)(base:Heap)(A:Around)(outer:List Env)(s:Shared)(H:Hp):Prop where
 frames:A.frames=some outer
 mod:Mod K mg base
 bs:∀b o,base.get? b=some o->s.heap.get? b=some o/\H b=none
 bsz:base.objs.size<=s.heap.objs.size
 funs:s.heap.FunFrames base outer
 frf:∀b∈frs outer,H b=none
 hok:HOk P w H s.heap
 bare:AllBare s.gens
def CE(outer:List Env)(P:Program)(w:World)(H:Hp)(s:Shared)(Q:VK)(u:Value)(s':Shared):Prop:=
 ∃v H',s'.os=s.os/\AllBare s'.gens/\Un (frs outer) [] H H' s.heap s'.heap/\HOk P w H' s'.heap/\RelV v u/\Q v H'
def CR(CX:CXT)(outer:List Env)(P:Program)(w:World)(H:Hp)(s:Shared)(Q:VK)(E:XK)(r:Result)(s':Shared):Prop:=
 match r with
 | .ok (.ret u)=>CE outer P w H s Q u s'
 | .ok _=>False
 | .error e=>CX outer H s E e s'
structure FnOk(P:Program)(w:World)(K:PySem.W.Frag)(mg:Str->Option Value)(base:Heap)(CX:CXT)(k:Nat)(f:Addr)(fd:FuncData)(ps:List Str)(sp:Sp):Prop where
 len:∀vs H Q E,sp vs H Q E->vs.length=ps.length
 run:∀(A:Around) (outer:List Env) (s:Shared) (H:Hp) (args:Args) (us:List Value) (vs:List V) (Q:VK) (E:XK),Room k A->Env0 P w K mg base A outer s H->BindsTo s fd args (ps.zip us)->Vals vs us->sp vs H Q E->
  codeAny (model P w) A (.call (.ref f) args) (CR CX outer P w H s Q E) s
theorem FnOk.imp{P:Program}{w:World}{K:PySem.W.Frag}{mg:Str->Option Value}{base:Heap}{CX:CXT}{k:Nat}{f:Addr}{fd:FuncData}{ps:List Str}{sp sp':Sp}(F:FnOk P w K mg base CX k f fd ps sp)
  (h:∀vs H Q E,sp' vs H Q E->sp vs H Q E):FnOk P w K mg base CX k f fd ps sp':=
 ⟨fun vs H Q E q=>F.len vs H Q E (h _ _ _ _ q),fun A outer s H args us vs Q E hr he hb hv hs=>F.run A outer s H args us vs Q E hr he hb hv (h _ _ _ _ hs)⟩
theorem Env0.make{P:Program}{w:World}{K:PySem.W.Frag}{mg:Str->Option Value}{base:Heap}{A:Around}{outer:List Env}{s:Shared}{H:Hp}(e:Env0 P w K mg base A outer s H)(C:Addr)(us:List Value)(kw:List (Str×Value)) :
  Env0 P w K mg base (A.under (.builtin "type.__call__" ⟨.ref C::us,kw⟩)) outer s H:=⟨by first | exact e.frames | (simpa [Around.under,Code.envs,Code.isFrame,pushEnvs] using e.frames),e.mod,e.bs,e.bsz,e.funs,e.frf,e.hok,e.bare⟩
section
variable{X:Cx}{pins:List (Addr×Obj)}{σ : St}{H:Hp}{s s':Shared}
theorem Inv.env0(I:Inv X pins σ H s):Env0 X.prog X.w X.K X.mg X.base X.A X.stack s H:=
 ⟨I.ok.frames,I.ok.mod,I.bs,Nat.le_trans I.ok.bsz I.sz,I.stack,I.stkFree,I.hok,I.bare⟩
theorem Inv.after{Q:VK}{u:Value}(I:Inv X pins σ H s)(h:CE X.stack X.prog X.w H s Q u s'):EP X pins σ Q u s':=by
 obtain⟨v,H',os,bare,un,hok,r,q⟩:=h
 obtain⟨hh,g,d,t,os'⟩:=s'
 obtain rfl:os'=s.os:=os
 exact⟨v,H',I.call (h':=hh) (g':=g) (d':=d) (t':=t) (ch:=[]) un hok bare (fun b z=>absurd z (by simp)),r,q⟩
end
def zmg(sp:Sp)(dvs:List V)(E:XK)(t:TA):TE:=fun σ H Q=>t σ H fun vs H1=>sp (vs++dvs) H1 Q E
def zwr(C:Addr)(sp:Sp)(dvs:List V)(E:XK)(t:TA):TE:=fun σ H Q=>t σ H fun vs H1=>∀x dx,H1 x=none->H1 dx=none->dx≠x->
 sp (.ref x::(vs++dvs)) (upd (upd H1 dx (.own x)) x (.ins C dx [])) (fun v H2=>v=.non/\Q (.ref x) H2) E
def Binds(K:PySem.W.Frag)(fd:FuncData)(ps:List Str)(ds:List Value):Prop:=
 ∀(s:Shared) (us:List Value),K.In s.heap->(us++ds).length=ps.length->BindsTo s fd ⟨us,[]⟩ (ps.zip (us++ds))
theorem Binds.all{K:PySem.W.Frag}{fd:FuncData}{ps:List Str}(h:∀us:List Value,us.length=ps.length->bindArgs fd ⟨us,[]⟩=pure (ps.zip us)):Binds K fd ps []:=fun s us _ hl=>by
 rw [List.append_nil] at hl |-
 exact .of_eq (h us hl)
def ztp(CX:CXT)(X:Cx)(E:XK):Prop:=∀(pins:List (Addr×Obj)) (σ : St) (H:Hp) (s:Shared) (e:Value) (s':Shared),Inv X pins σ H s->CX X.stack H s E e s'->X.xe e s'
section
variable{X:Cx}{CX:CXT}{k:Nat}{f C:Addr}{fd:FuncData}{ps:List Str}{sp:Sp}{dvs:List V}{ds:List Value}{E:XK}{x m:Str}{p pos apos:Pos}{e o:Expr}{es:List Expr}{ta:TE}{t:TA}
theorem zvs{pins:List (Addr×Obj)}{σ : St}{H:Hp}{s:Shared}{Q:VK}{us:List Value}{vs:List V}(F:FnOk X.prog X.w X.K X.mg X.base CX k f fd ps sp)(hr:Room k X.A)(hb:Binds X.K fd ps ds)(hd:Vals dvs ds)(hx:ztp CX X E)
  (I:Inv X pins σ H s) (r:Vals vs us) (h:sp (vs++dvs) H Q E):wpAny (model X.prog X.w) X.A (call (.ref f) us) (EP X pins σ Q) X.xe s:=by
 have r2:Vals (vs++dvs) (us++ds):=r.append hd
 have hl:(us++ds).length=ps.length:=by rw [<- r2.length]; exact F.len _ _ _ _ h
 refine wpAny_call (codeAny_mono (F.run X.A X.stack s H ⟨us,[]⟩ (us++ds) (vs++dvs) Q E hr I.env0 (hb s us I.kIn hl) r2 h) fun r s' hq=>?_)
 cases r with
 | error e=>exact hx pins σ H s e s' I hq
 | ok fl=>
  cases fl with
  | ret u=>exact I.after hq
  | next=>exact False.elim hq
  | brk=>exact False.elim hq
  | cont=>exact False.elim hq
structure Mk(K:PySem.W.Frag)(C f:Addr):Prop where
 makes:PySem.W.makesIn K C=true
 init:PySem.W.findIn K (.ref C) "__init__" = some (some (.ref f))
 fn:PySem.W.isFn K (.ref f)=true
 kp:PySem.W.keepIn K (.ref C)=true
theorem zu3{pins:List (Addr×Obj)}{σ : St}{H:Hp}{s:Shared}{Q:VK}{us:List Value}{vs:List V}(M:Mk X.K C f)(F:FnOk X.prog X.w X.K X.mg X.base CX k f fd ps sp)(hr:Room (k+1) X.A)(hb:Binds X.K fd ps ds)(hd:Vals dvs ds)
  (hx:ztp CX X E) (I:Inv X pins σ H s) (r:Vals vs us)
  (h:∀x dx,H x=none->H dx=none->dx≠x->sp (.ref x::(vs++dvs)) (upd (upd H dx (.own x)) x (.ins C dx [])) (fun v H2=>v=.non/\Q (.ref x) H2) E) :
  wpAny (model X.prog X.w) X.A (call (.ref C) us) (EP X pins σ Q) X.xe s:=by
 have hq:=h (s.heap.objs.size+1) s.heap.objs.size (I.hok.fresh (Nat.le_succ _)) (I.hok.fresh (Nat.le_refl _)) (Nat.ne_of_lt (Nat.lt_succ_self _))
 have I2:=Inv.made (C:=C) I
 have r2:Vals (V.ref (s.heap.objs.size+1)::(vs++dvs)) (Value.ref (s.heap.objs.size+1)::(us++ds)):=.cons rfl (r.append hd)
 have hl:(Value.ref (s.heap.objs.size+1)::us++ds).length=ps.length:=by
  have e:=r2.length
  rw [F.len _ _ _ _ hq] at e
  exact e.symm
 refine wpAny_call (zup (f:=f) I.kIn M.makes M.init (beq_iff_eq.mp M.fn) (codeAny_mono (F.run _ X.stack _ _ ⟨Value.ref (s.heap.objs.size+1)::us,[]⟩ (Value.ref (s.heap.objs.size+1)::(us++ds)) _ _ E (hr.make C us [])
  (I2.env0.make C us []) (hb _ (Value.ref (s.heap.objs.size+1)::us) I2.kIn hl) r2 hq) fun r s' hq'=>?_))
 cases r with
 | error e=>exact hx pins σ _ _ e s' I2 hq'
 | ok fl=>
  cases fl with
  | ret u=>
   obtain⟨v,H',I3,rv,ev,q3⟩:=I2.after hq'
   subst ev
   exact⟨rv,⟨V.ref (s.heap.objs.size+1),H',I3,rfl,q3⟩⟩
  | next=>exact False.elim hq'
  | brk=>exact False.elim hq'
  | cont=>exact False.elim hq'
theorem zx7(M:Mk X.K C f)(F:FnOk X.prog X.w X.K X.mg X.base CX k f fd ps sp)(hr:Room (k+1) X.A)(hg:Gl X x)(hm:X.mg x=some (.ref C))(hb:Binds X.K fd ps ds)(hd:Vals dvs ds)(hx:ztp CX X E)
  (ha:PA X (e::es) t) (hdb:(x == ("__debug__" : Str))=false:=by decide) (he:starEach (e::es) X.env=(false,eval e X.env)::starEach es X.env:=by rfl) (hpl:(backTo pos (starEach es X.env)).any (·.1)=false:=by rfl) :
  PE X (.Call (.Name x p) (e::es) [] pos) (zwr C sp dvs E t):=by
 refine⟨?_⟩
 intro pins s σ H Q I h
 refine wpAny_Call_Name_kw (zmw I hg hm ?_ hdb)
 refine PySem.W.callWith_K (h₀:=X.base) I.ok.mod.kin M.kp (thn (ha pos pins s σ H _ I h) fun us s1 ⟨vs,H1,I1,r,q⟩=>⟨I1.kIn,?_⟩) he hpl
 exact zu3 M F hr hb hd hx I1 r q
end
section
variable{X:Cx}{CX:CXT}{k:Nat}{f C:Addr}{fd:FuncData}{ps ks:List Str}{sp:Sp}{E:XK}{x m:Str}{p pos apos kpos:Pos}{e o:Expr}{es:List Expr}{kws:List Keyword}{te ta:TE}{t tk:TA}{nm:Option Str}
structure KBinds(K:PySem.W.Frag)(fd:FuncData)(ps ks:List Str)(g:List Value->List Value->List Value)(gV:List V->List V->List V):Prop where
 to:∀(s:Shared) (us ws:List Value),K.In s.heap->(g us ws).length=ps.length->BindsTo s fd ⟨us,ks.zip ws⟩ (ps.zip (g us ws))
 rel:∀{vs:List V} {us:List Value} {zs:List V} {ws:List Value},Vals vs us->Vals zs ws->Vals (gV vs zs) (g us ws)
variable{g:List Value->List Value->List Value}{gV:List V->List V->List V}
end
structure FnScope(N P:List Str)(sc:Scope):Prop where
 kind:sc.kind=.function
 co:sc.isCoroutine=false
 gen:sc.isGenerator=false
 nd:N.Nodup
 pre:N.take P.length=P
 par:∀x∈P,sc.names.lookup x=some .local\/sc.names.lookup x=some .cell
 nofree:∀y∈sc.names,y.2≠.free
theorem zm8{kindOf:Str->Option NameKind}{x:Str}:∀{binds:List (Str×Value)} {m:Str->Option Value},(∀v,(x,v)∉binds)->bindL kindOf binds m x=m x
 | [],_,_=>rfl
 | (n,v)::r,m,h=>by
  unfold bindL
  rw [zm8 fun w hw=>h w (List.mem_cons_of_mem _ hw)]
  split
  ·have:x≠n:=by rintro rfl; exact h v List.mem_cons_self
   simp[this]
  ·rfl
theorem zma{kindOf:Str->Option NameKind}{x:Str}:∀{binds:List (Str×Value)} {m:Str->Option Value},(∀v,(x,v)∉binds)->bindC kindOf binds m x=m x
 | [],_,_=>rfl
 | (n,v)::r,m,h=>by
  unfold bindC
  rw [zma fun w hw=>h w (List.mem_cons_of_mem _ hw)]
  split
  ·rfl
  ·have:x≠n:=by rintro rfl; exact h v List.mem_cons_self
   simp[this]
theorem zm9{kindOf:Str->Option NameKind}{x:Str}{v:Value}:∀{P:List Str} {vs:List Value} {i:Nat} {m:Str->Option Value},P.Nodup->P[i]?=some x->vs[i]?=some v->kindOf x=some .local->
  bindL kindOf (P.zip vs) m x=some v
 | [],_,_,_,_,h,_,_=>by simp at h
 | _::_,[],_,_,_,_,h,_=>by simp at h
 | p::P,w::vs,0,m,nd,h1,h2,hk=>by
  simp at h1 h2; subst h1; subst h2
  show bindL kindOf ((p,w)::P.zip vs) m p=_
  unfold bindL
  rw [zm8 fun v hv=>(List.nodup_cons.mp nd).1 (List.of_mem_zip hv).1,if_pos hk]
  simp
 | p::P,w::vs,i+1,m,nd,h1,h2,hk=>by
  show bindL kindOf ((p,w)::P.zip vs) m x=_
  unfold bindL
  exact zm9 (i:=i) (List.nodup_cons.mp nd).2 (by simpa using h1) (by simpa using h2) hk
theorem zmb{kindOf:Str->Option NameKind}{x:Str}{v:Value}:∀{P:List Str} {vs:List Value} {i:Nat} {m:Str->Option Value},P.Nodup->P[i]?=some x->vs[i]?=some v->kindOf x≠some .local->
  bindC kindOf (P.zip vs) m x=some v
 | [],_,_,_,_,h,_,_=>by simp at h
 | _::_,[],_,_,_,_,h,_=>by simp at h
 | p::P,w::vs,0,m,nd,h1,h2,hk=>by
  simp at h1 h2; subst h1; subst h2
  show bindC kindOf ((p,w)::P.zip vs) m p=_
  unfold bindC
  rw [zma fun v hv=>(List.nodup_cons.mp nd).1 (List.of_mem_zip hv).1,if_neg hk]
  simp
 | p::P,w::vs,i+1,m,nd,h1,h2,hk=>by
  show bindC kindOf ((p,w)::P.zip vs) m x=_
  unfold bindC
  exact zmb (i:=i) (List.nodup_cons.mp nd).2 (by simpa using h1) (by simpa using h2) hk
def start(N:List Str)(vs:List V):St:=vs.map some++List.replicate (N.length - vs.length) none
def zmc(CX:CXT)(P:Program)(w:World)(K:PySem.W.Frag)(mg:Str->Option Value)(base:Heap)(N:List Str)(qual:Str)(scope:Scope)(f:Addr)(cd:Value)(A:Around)(outer:List Env)(s:Shared)(H:Hp)(E:XK):Cx where
 prog:=P
 w:=w
 K:=K
 mg:=mg
 base:=base
 A:=A.deeper (envOfC qual scope s.heap.objs.size f cd)
 N:=N
 s₀:=s
 H₀:=H
 env:=envOfC qual scope s.heap.objs.size f cd
 outer:=outer
 stack:=envOfC qual scope s.heap.objs.size f cd::outer
 ex:=[]
 calm:=true
 fn:=fun _=>true
 pn:=[]
 xe:=fun e s'=>wpAny (model P w) (A.deeper (envOfC qual scope s.heap.objs.size f cd)) (leaving (envOfC qual scope s.heap.objs.size f cd) e) (fun _ s''=>CX outer H s E e s'') (fun e' s''=>CX outer H s E e' s'') s'
theorem zon{sc:Scope}{n:Nat}{x:Str}(h:sc.names.lookup x=some .cell):∃c,(cellsFrom n sc.names []).lookup x=some c:=by
 have q:=PySem.W.cellsFrom_some sc.names n [] (.inl h)
 exact Option.isSome_iff_exists.mp q
theorem zsj{CX:CXT}{P:Program}{w:World}{K:PySem.W.Frag}{mg:Str->Option Value}{base:Heap}{N ps:List Str}{qual:Str}{scope:Scope}{f:Addr}{cd:Value}{A:Around}{outer:List Env}{s s1:Shared}{H:Hp}{E:XK}{us:List Value}{vs:List V}
  (S:FnScope N ps scope) (hd:A.handled=none) (e0:Env0 P w K mg base A outer s H) (hl:vs.length=ps.length) (r:Vals vs us)
  (x:InCallC s s.heap.objs.size (bindL (envOfC qual scope s.heap.objs.size f cd).kindOf (ps.zip us) fun _=>none) (cellsFrom (s.heap.objs.size+1) scope.names []) (bindC (envOfC qual scope s.heap.objs.size f cd).kindOf (ps.zip us) fun _=>none) s1) :
  Inv (zmc CX P w K mg base N qual scope f cd A outer s H E) [] (start N vs) H s1:=by
 have hpl:ps.length<=N.length:=by have:=congrArg List.length S.pre; rw [List.length_take] at this; omega
 obtain⟨h1,tk,rfl,hk⟩:=x.done
 have noA:∀b:Addr,b∉(zmc CX P w K mg base N qual scope f cd A outer s H E).ex:=fun b z=>absurd (show b∈([]:List Addr) from z) (by simp)
 refine⟨⟨e0.mod,S.kind,rfl,rfl,Nat.le_refl _,fun y z c h1 h2=>?_,fun y hy=>?_,fun y c _ h=>?_,fun _=>hd,Around.frames_deeper e0.frames,.inr ⟨rfl,rfl⟩,fun b z=>absurd z (noA b),e0.bs,e0.bsz,fun b _ _=>noA b,fun b z=>absurd z (noA b),e0.funs,e0.frf⟩,
  rfl,e0.bare,Un.kept hk,⟨_,x.toInCall.ns,fun i y v h1 h2 h3=>?_⟩,fun y c h=>⟨_,x.cell y c h⟩,e0.hok.fresh (Nat.le_refl _),fun y c h=>?_,fun p hp=>absurd (show p∈([]:List (Addr×Obj)) from hp) (by simp),e0.hok.kept hk,?_⟩
 ·exact name_of_addr x.apart (PySem.mem_of_lookup h1) (PySem.mem_of_lookup h2)
 ·have hy:scope.names.lookup y=some .cell\/scope.names.lookup y=some .free:=hy
  rcases hy with hy | hy
  ·exact zon hy
  ·exact absurd rfl (S.nofree _ (PySem.mem_of_lookup hy))
 ·exact Nat.le_of_lt (x.above y c (PySem.mem_of_lookup h))
 ·have hi:i < vs.length:=by
   unfold start at h2
   by_cases hi:i < vs.length
   ·exact hi
   ·rw [List.getElem?_append_right (by simpa using hi)] at h2
    rw [List.getElem?_replicate] at h2
    split at h2<;>cases h2
  have ha:vs[i]?=some v:=by
   unfold start at h2
   rw [List.getElem?_append_left (by simpa using hi),List.getElem?_map] at h2
   cases e:vs[i]? with
   | none=>rw [e] at h2; cases h2
   | some a=>rw [e] at h2; cases h2; rfl
  obtain⟨u,hu,rv⟩:=r.get ha
  have hp:ps[i]?=some y:=by
   rw [<- S.pre,List.getElem?_take_of_lt (by omega)]; exact h1
  have ndP:ps.Nodup:=by rw [<- S.pre]; exact S.nd.sublist (List.take_sublist _ _)
  refine⟨u,rv,?_⟩
  rcases S.par y (List.mem_of_getElem? hp) with k | k
  ·exact .inl ⟨k,zm9 ndP hp hu k⟩
  ·obtain⟨c,e⟩:=zon (n:=s.heap.objs.size+1) k
   refine .inr ⟨.inl k,c,e,?_⟩
   have q:=x.cell y c e
   rw [zmb ndP hp hu (by show scope.names.lookup y≠_; rw [k]; decide)] at q
   exact q
 ·exact e0.hok.fresh (Nat.le_of_lt (x.above y c (PySem.mem_of_lookup h)))
 ·unfold start
  show _=N.length
  rw [List.length_append,List.length_map,List.length_replicate]
  omega
theorem q1j{CX:CXT}{P:Program}{w:World}{K:PySem.W.Frag}{mg:Str->Option Value}{base:Heap}{k:Nat}{f:Addr}{name qual:Str}{params:Arguments}{body:List Stmt}{scope:Scope}{dV kV doc pm cdv ct oc:Value}{an od:Option Addr}
  {osl:Array (Option Value)} {N ps:List Str} {sp:Sp} (lk:K.lookup f=some ⟨oc,od,.func (PySem.W.fnOf name qual params body scope dV kV doc pm an cdv ct),osl⟩) (hcd:PySem.W.codeIn K cdv qual=true) (S:FnScope N ps scope)
  (len:∀vs H Q E,sp vs H Q E->vs.length=ps.length)
  (hbody:∀(A:Around) (outer:List Env) (s:Shared) (H:Hp) (vs:List V) (Q:VK) (E:XK),Room k (A.deeper (envOfC qual scope s.heap.objs.size f cdv))->sp vs H Q E->
   ∃t,PSs (zmc CX P w K mg base N qual scope f cdv A outer s H E) body t/\t {nx:=fun _ H'=>Q .non H',rt:=Q} (start N vs) H) :
  FnOk P w K mg base CX (k+1) f (PySem.W.fnOf name qual params body scope dV kV doc pm an cdv ct) ps sp:=by
 refine⟨len,fun A outer s H args us vs Q E hr e0 hb r hsp=>?_⟩
 have hl:=len _ _ _ _ hsp
 have KX:K.In s.heap:=e0.mod.kin.keeps fun b o e=>(e0.bs b o e).1
 have lim:s.heap.NoLimit:=e0.mod.nolimit.keeps fun b o e=>(e0.bs b o e).1
 have hkind:∀y∈ps.zip us,scope.names.lookup y.1=some .local\/(scope.names.lookup y.1=some .cell/\((cellsFrom (s.heap.objs.size+1) scope.names []).lookup y.1).isSome=true):=fun⟨n,v⟩ hy=>by
  rcases S.par n (List.of_mem_zip hy).1 with q | q
  ·exact .inl q
  ·exact .inr ⟨q,PySem.W.cellsFrom_some _ _ _ (.inl q)⟩
 refine codeAny_call_function hr.depth (KX _ _ lk) rfl S.co S.gen rfl (PySem.W.codeRec_of KX hcd) (hb _ _ _ _ ?_)
 refine wpAny_newFunctionEnv_cells S.kind hkind fun env he s1 x=>?_
 subst he
 refine⟨lim.keeps x.toInCall.keep,codeAny_func ?_⟩
 obtain⟨t,ht,hq⟩:=hbody A outer s H vs Q E (hr.deeper _) hsp
 have I:Inv (zmc CX P w K mg base N qual scope f cdv A outer s H E) [] (start N vs) H s1:=zsj S hr.hd e0 hl r x
 refine wpAny_mono (ht [] s1 (start N vs) H _ I hq) (fun fl s' hs=>?_) fun e s' hs=>hs
 have fin:∀{σ':St} {H':Hp} {v:V} {u:Value},Inv (zmc CX P w K mg base N qual scope f cdv A outer s H E) [] σ' H' s'->RelV v u->Q v H'->CE outer P w H s Q u s':=
  fun {σ' H' v u} J rv q=>⟨v,H',J.os,J.bare,J.base,J.hok,rv,q⟩
 cases fl with
 | ret u=>
  obtain⟨v,σ',H',J,rv,q⟩:=hs
  exact fin J rv q
 | next=>
  obtain⟨σ',H',J,q⟩:=hs
  exact fin (v:=V.non) (u:=Value.none) J rfl q
 | brk=>
  obtain⟨_,_,_,q⟩:=hs
  exact False.elim q
 | cont=>
  obtain⟨_,_,_,q⟩:=hs
  exact False.elim q
end L2
namespace L2
open PySem PySem.Spec PyProof.Rows
section
variable{X:Cx}{x:Str}{p pos:Pos}{e:Expr}{es:List Expr}{t:TA}{id T:String}{r:List V->Hp->VK->Prop}
def tCB(r:List V->Hp->VK->Prop)(t:TA):TE:=fun σ H Q=>t σ H fun vs H1=>r vs H1 Q
theorem zue(hc:CallR X (.builtin id) r)(hg:Gl X x)(hm:X.mg x=none)(hv:bootBuiltins x=some (.builtin id))(ha:PA X (e::es) t) (hn:x≠"__name__":=by decide) (hdb:(x == ("__debug__" : Str))=false:=by decide)
  (he:starEach (e::es) X.env=(false,eval e X.env)::starEach es X.env:=by rfl) (hpl:(backTo pos (starEach es X.env)).any (·.1)=false:=by rfl):PE X (.Call (.Name x p) (e::es) [] pos) (tCB r t):=by
 refine⟨?_⟩
 intro pins s σ H Q I h
 refine wpAny_Call_Name_kw (zh9 I hg hm hv ?_ hn hdb)
 exact PyProof.Rows.callWith_builtin1 (thn (ha pos pins s σ H _ I h) fun us s1 ⟨vs,H1,I1,r1,q1⟩=>hc pins s1 σ H1 vs us Q I1 r1 q1) he hpl
theorem zro(hc:CallR X (.type T) r)(hg:Gl X x)(hm:X.mg x=none)(hv:bootBuiltins x=some (.type T))(ha:PA X (e::es) t) (hn:x≠"__name__":=by decide) (hdb:(x == ("__debug__" : Str))=false:=by decide)
  (he:starEach (e::es) X.env=(false,eval e X.env)::starEach es X.env:=by rfl) (hpl:(backTo pos (starEach es X.env)).any (·.1)=false:=by rfl):PE X (.Call (.Name x p) (e::es) [] pos) (tCB r t):=by
 refine⟨?_⟩
 intro pins s σ H Q I h
 refine wpAny_Call_Name_kw (zh9 I hg hm hv ?_ hn hdb)
 exact PyProof.Rows.callWith_type1 (thn (ha pos pins s σ H _ I h) fun us s1 ⟨vs,H1,I1,r1,q1⟩=>hc pins s1 σ H1 vs us Q I1 r1 q1) he hpl
end
end L2
namespace HT
open PySem PyProof.Rows
section
open PySem.SeqAt
open PySem.AutoSeq1 (wpAny_loadPart')
open PySem.MeetsSeq PySem.MeetsSeq2 PySem.MeetsSeq3
end
section
variable{prog:Program}{w:World}{A:Around}{E:Value->Shared->Prop}{s:Shared}
theorem zy4{t b:Addr}{vs ws:List Value}{Q:Value->Shared->Prop}(ht:IsTup s.heap t vs.toArray)(hb:IsTup s.heap b ws.toArray)(hv:vs≠[])
  (h1:ws=[]->Q (.ref t) s) (h2:ws≠[]->Q (.ref s.heap.objs.size) {s with heap:=s.heap.push {cls:=.type "tuple",data:=.seq (vs++ws).toArray}})
  (hsz:vs.length+ws.length<=sizeLine):wpAny (model prog w) A (binaryOp .Add (.ref t) (.ref b)) Q E s:=by
 obtain⟨⟨cls,dd,data,sl⟩,ho,hc,n,hd⟩:=id ht
 obtain⟨⟨cls2,dd2,data2,sl2⟩,ho2,hc2,n2,hd2⟩:=id hb
 simp only at hc hd hc2 hd2
 subst hc hd hc2 hd2
 have e:vs.toArray++ws.toArray=(vs++ws).toArray:=by simp
 by_cases hw:ws=[]
 ·exact concat_meets ⟨_,ho,rfl⟩ ⟨_,ho2,rfl⟩ noFill_tuple_add seq_tuple_add PySem.F.slot_tuple_add PySem.F.entry_tuple_add (PySem.F.args_tuple_add_2 _ _)
   (tuple_addW1 t b vs.toArray ws.toArray n n2 dd dd2 sl sl2 (by simpa using hv) (by simp[hw])) ⟨ho,ho2,h1 hw⟩
 ·refine concat_meets ⟨_,ho,rfl⟩ ⟨_,ho2,rfl⟩ noFill_tuple_add seq_tuple_add PySem.F.slot_tuple_add PySem.F.entry_tuple_add (PySem.F.args_tuple_add_2 _ _)
   (tuple_addW2 t b vs.toArray ws.toArray n n2 dd dd2 sl sl2 (by simpa using hv) (by simpa using hw) (by rw [List.size_toArray,List.size_toArray]; exact hsz)) ⟨ho,ho2,?_⟩
  rw [e]
  exact h2 hw
def sIx(n d:Nat):Option Int->Nat
 | none=>d
 | some v=>if v < 0 then(v+(n:Int)).toNat else min v.toNat n
theorem zzf(n d:Nat)(hd:d<=n)(o:Option Int):sIx n d o<=n:=by
 cases o with
 | none=>exact hd
 | some v=>
  show(if v < 0 then(v+(n:Int)).toNat else min v.toNat n)<=n
  by_cases hv:v < 0
  ·rw [if_pos hv]; omega
  ·rw [if_neg hv]; exact Nat.min_le_right _ _
theorem ztd(v:Int)(n d:Nat):(if v < 0 then max (v+(n:Int)) 0 else min v (n:Int))=((sIx n d (some v):Nat):Int):=by
 show(if v < 0 then max (v+(n:Int)) 0 else min v (n:Int))=(((if v < 0 then(v+(n:Int)).toNat else min v.toNat n):Nat):Int)
 by_cases hv:v < 0
 ·simp only[if_pos hv]; omega
 ·simp only[if_neg hv]; omega
theorem zqa(lo hi:Option Int)(n:Nat):Builtin.Slice.sliceAdjust lo hi 1 (n:Int)=(((sIx n 0 lo:Nat):Int),((sIx n n hi:Nat):Int)):=by
 have h1:¬ ((1:Int) < 0):=by omega
 unfold Builtin.Slice.sliceAdjust
 simp only[h1,if_false]
 refine Prod.ext ?_ ?_
 ·cases lo with
  | none=>rfl
  | some v=>exact ztd v n 0
 ·cases hi with
  | none=>rfl
  | some v=>exact ztd v n n
theorem zph(i j:Nat):Builtin.Slice.slicePlaces (i:Int) (j:Int) 1=j - i:=by
 unfold Builtin.Slice.slicePlaces
 have h1:(1:Int) > 0:=by omega
 simp only[h1,if_true,Int.ediv_one]
 split<;>omega
theorem ziu{v:Value}{o:Option Int}{Q:Option Int->Shared->Prop}(p:IsPart v o)(h:Q o s):wpAny (model prog w) A (Builtin.Slice.slicePartIndex v) Q E s:=by
 cases p with
 | none=>exact slicePart_none h
 | int i t=>exact slicePart_int h
theorem z8y{sl:Addr}{vl vu:Value}{lo hi:Option Int}{n:Nat}{Q:Int×Int×Nat->Shared->Prop}(hs:s.heap.IsSliceOf sl vl vu .none)(pl:IsPart vl lo)(pu:IsPart vu hi)
  (h:Q (((sIx n 0 lo:Nat):Int),1,sIx n n hi - sIx n 0 lo) s):wpAny (model prog w) A (Builtin.Slice.sliceApplied (.ref sl) (pure (n:Int))) Q E s:=by
 obtain⟨os,hos,hcs,hds⟩:=id hs
 unfold Builtin.Slice.sliceApplied Builtin.Slice.sliceFields
 refine wpAny_bind (wpAny_bind (wpAny_field hos hds (x:=vl) rfl (wpAny_bind (wpAny_field hos hds (x:=vu) rfl (wpAny_bind (wpAny_field hos hds (x:=.none) rfl (wpAny_pure ?_)))))))
 refine wpAny_bind (slicePart_none ?_)
 show wpAny _ _ (if((1:Int) == 0)=true then _ else _) _ _ s
 rw [if_neg (by decide)]
 refine wpAny_bind (ziu pl (wpAny_bind (ziu pu (wpAny_bind (wpAny_pure ?_)))))
 show wpAny _ _ (match Builtin.Slice.sliceAdjust lo hi 1 (n:Int) with | (lo,hi)=>pure (lo,(1:Int),Builtin.Slice.slicePlaces lo hi 1)) _ _ s
 rw [zqa lo hi n]
 show wpAny _ _ (pure (((sIx n 0 lo:Nat):Int),(1:Int),Builtin.Slice.slicePlaces ((sIx n 0 lo:Nat):Int) ((sIx n n hi:Nat):Int) 1)) _ _ s
 rw [zph]
 exact wpAny_pure h
theorem zu8(xs:Array Value)(i k:Nat):((List.range k).filterMap fun(m:Nat)=>xs[((i:Int)+(m:Int) * 1).toNat]?).toArray=((xs.toList.drop i).take k).toArray:=by
 have e:(fun(m:Nat)=>xs[((i:Int)+(m:Int) * 1).toNat]?)=fun m=>xs[i+m]?:=by
  funext m
  have:((i:Int)+(m:Int) * 1).toNat=i+m:=by omega
  rw [this]
 rw [e]
 have:=pick_run xs i k
 rw [List.filterMap_map] at this
 have e2:((fun x=>xs[x]?) ∘ fun x=>i+x)=fun m=>xs[i+m]?:=rfl
 rw [e2] at this
 rw [this]
theorem zes{t sl:Addr}{items:Array Value}{vl vu:Value}{lo hi:Option Int}{Q:Value->Shared->Prop}(ht:IsTup s.heap t items)(hs:s.heap.IsSliceOf sl vl vu .none)(pl:IsPart vl lo)(pu:IsPart vu hi)
  (hw:¬ (sIx items.size 0 lo=0/\sIx items.size items.size hi=items.size))
  (h:Q (.ref s.heap.objs.size) {s with heap:=s.heap.push {cls:=.type "tuple",data:=.seq ((items.toList.drop (sIx items.size 0 lo)).take (sIx items.size items.size hi - sIx items.size 0 lo)).toArray}})
  (hsz:items.size<=sizeLine):wpAny (model prog w) A (getItem (.ref t) (.ref sl)) Q E s:=by
 have htake:sizeOk (.seq ((items.toList.drop (sIx items.size 0 lo)).take (sIx items.size items.size hi - sIx items.size 0 lo)).toArray):=by
  show((items.toList.drop (sIx items.size 0 lo)).take (sIx items.size items.size hi - sIx items.size 0 lo)).toArray.size<=sizeLine
  rw [List.size_toArray,List.length_take,List.length_drop,Array.length_toList]
  omega
 have hj:sIx items.size items.size hi<=items.size:=zzf _ _ (Nat.le_refl _) hi
 obtain⟨os,hos,hcs,hds⟩:=id hs
 have hTs:s.TypeIs (.ref sl) "slice":=⟨os,hos,hcs⟩
 unfold getItem
 try with_reducible refine wpAny_holding ?_
 first | refine wpAny_bind (wpAny_pure ?_) | skip
 refine wpAny_bind (wpAny_sequenceKey ht.typeIs (by decide) ?_)
 refine wpAny_bind (wpAny_callSpecial?_slot (name:=Str.ofString "__getitem__") ht.typeIs PyProof.Rows.slot_tuple_getitem
  (wpAny_call_entry PyProof.Rows.slot_tuple_getitem ht.typeIs entry_tuple_getitem ?_ (args_tuple_getitem _ _)))
 show wpAny _ _ (Builtin.Tuple.tupleItemsOf (.ref t) >>= _) _ _ s
 refine wpAny_bind (tupleItemsOf_ ht ?_)
 refine wpAny_bind (wpAny_typeOf hTs ?_)
 rw [if_pos (by decide)]
 refine wpAny_bind (z8y hs pl pu ?_)
 have hno:¬ ((((sIx items.size 0 lo:Nat):Int) == 0 && (1:Int) == 1 && (sIx items.size items.size hi - sIx items.size 0 lo) == items.size)=true):=by
  intro q
  rw [Bool.and_eq_true,Bool.and_eq_true] at q
  have q1:((sIx items.size 0 lo:Nat):Int)=0:=eq_of_beq q.1.1
  have q2:sIx items.size items.size hi - sIx items.size 0 lo=items.size:=eq_of_beq q.2
  exact hw ⟨by omega,by omega⟩
 show wpAny _ _ (if(((sIx items.size 0 lo:Nat):Int) == 0 && (1:Int) == 1 && (sIx items.size items.size hi - sIx items.size 0 lo) == items.size)=true then _ else _) _ _ s
 rw [if_neg hno,zu8]
 first
  | exact wpAny_bind (m:=Builtin.Tuple.tupleExact _) (wpAny_newObj_type (wpAny_pure ⟨_,rfl,wpAny_pure h⟩) htake)
  | exact wpAny_bind (m:=Builtin.Tuple.tupleExact _) (wpAny_newObj_type (wpAny_bind (wpAny_pure (wpAny_pure ⟨_,rfl,wpAny_pure h⟩))) htake)
  | exact wpAny_bind (wpAny_bind (m:=Builtin.Tuple.tupleExact _) (wpAny_newObj_type (wpAny_pure (wpAny_pure ⟨_,rfl,wpAny_pure h⟩)) htake))
  | exact wpAny_bind (wpAny_bind (m:=Builtin.Tuple.tupleExact _) (wpAny_newObj_type (wpAny_pure ⟨_,rfl,wpAny_pure h⟩) htake))
end
end HT
namespace L2
open PySem PySem.Spec PyProof.Rows
abbrev TO:=St->Hp->(Option Int->Hp->Prop)->Prop
abbrev POv(X:Cx)(e:Option Expr)(t:TO):Prop:=
 ∀(pins:List (Addr×Obj)) (s:Shared) (σ : St) (H:Hp) (Q:Option Int->Hp->Prop),Inv X pins σ H s->t σ H Q->
  wpAny (model X.prog X.w) X.A (evalPart e X.env) (fun u s'=>∃o H',Inv X pins σ H' s'/\IsPart u o/\Q o H') X.xe s
structure PO(X:Cx)(e:Option Expr)(t:TO):Prop where
 run:POv X e t
instance{X:Cx}{e:Option Expr}{t:TO}:CoeFun (PO X e t) (fun _=>POv X e t):=⟨PO.run⟩
def zdz:TO:=fun _ H Q=>Q none H
def zox(t:TE):TO:=fun σ H Q=>t σ H fun x H1=>∃i,x=.int i/\Q (some i) H1
theorem zei{ns:List Int}:∀{us:List Value},Vals (ns.map V.int) us->IntsAre us ns:=by
 induction ns with
 | nil=>intro us r; rw [List.map_nil] at r; cases r; exact .nil
 | cons n ns ih=>
  intro us r
  rw [List.map_cons] at r
  cases r with
  | cons r1 r2=>
   obtain⟨t,e⟩:=r1
   subst e
   exact .cons n t (ih r2)
section
variable{X:Cx}{e:Expr}{te:TE}{lo hi:Option Expr}{tl th:TO}{pos p2:Pos}
theorem zrk:PO X none zdz:=by
 refine⟨?_⟩
 intro pins s σ H Q I h
 rw [evalPart_none]
 exact wpAny_pure ⟨none,H,I,.none,h⟩
theorem zrj(h:PE X e te):PO X (some e) (zox te):=by
 refine⟨?_⟩
 intro pins s σ H Q I hw
 rw [evalPart_some]
 refine thn (h pins s σ H _ I hw) fun u s1 ⟨x,H1,I1,r1,q1⟩=>?_
 obtain⟨i,rfl,q⟩:=q1
 obtain⟨t,rfl⟩:=r1
 exact⟨some i,H1,I1,.int i t,q⟩
def SlR(X:Cx)(r:V->Option Int->Option Int->Hp->VK->Prop):Prop:=
 ∀(pins:List (Addr×Obj)) (s:Shared) (σ : St) (H:Hp) (x:V) (v vl vu:Value) (lo hi:Option Int) (sl:Addr) (Q:VK),Inv X pins σ H s->RelV x v->s.heap.IsSliceOf sl vl vu .none->IsPart vl lo->IsPart vu hi->r x lo hi H Q->
  ∃T id,typeLookup (.type T) "__getitem__" = pure (some (.builtin id))/\s.TypeIs v T/\wpAny (model X.prog X.w) X.A (getItem v (.ref sl)) (EP X pins σ Q) X.xe s
theorem SlR.or{r r':V->Option Int->Option Int->Hp->VK->Prop}(h:SlR X r)(h':SlR X r'):SlR X (fun x lo hi H Q=>r x lo hi H Q\/r' x lo hi H Q):=by
 intro pins s σ H x v vl vu lo hi sl Q I rx hs pl pu q
 rcases q with q | q
 ·exact h pins s σ H x v vl vu lo hi sl Q I rx hs pl pu q
 ·exact h' pins s σ H x v vl vu lo hi sl Q I rx hs pl pu q
def tSl(r:V->Option Int->Option Int->Hp->VK->Prop)(te:TE)(tl th:TO):TE:=fun σ H Q=>te σ H fun x H1=>tl σ H1 fun l H2=>th σ H2 fun u H3=>r x l u H3 Q
theorem znw{r:V->Option Int->Option Int->Hp->VK->Prop}(hr:SlR X r)(he:PE X e te)(hl:PO X lo tl)(hu:PO X hi th):PE X (.Subscript e (.Slice lo hi none p2) pos) (tSl r te tl th):=by
 refine⟨?_⟩
 intro pins s σ H Q I h
 refine Subscript_ (thn (he pins s σ H _ I h) fun v s1 ⟨x,H1,I1,r1,q1⟩=>?_)
 refine wpAny_Slice (thn (hl pins s1 σ H1 _ I1 q1) fun vl s2 ⟨l,H2,I2,pl,q2⟩=>thn (hu pins s2 σ H2 _ I2 q2) fun vu s3 ⟨u,H3,I3,pu,q3⟩=>?_)
 rw [evalPart_none]
 refine wpAny_pure ?_
 have I4:Inv X pins σ H3 {s3 with heap:=s3.heap.push {cls:=.type "slice",data:=.fields #[vl,vu,.none]}}:=I3.kept (t':=s3.toks) fun b ob q=>Heap.get?_push_of_some _ q
 obtain⟨T,id,hT,ht,hg⟩:=hr pins {s3 with heap:=s3.heap.push {cls:=.type "slice",data:=.fields #[vl,vu,.none]}} σ H3 x v vl vu l u s3.heap.objs.size Q I4 r1 (Heap.IsSliceOf.new ..) pl pu q3
 show wpAny (model X.prog X.w) X.A (subscriptTail e (.Slice lo hi none p2) v (.ref s3.heap.objs.size)) (EP X pins σ Q) X.xe {s3 with heap:=s3.heap.push {cls:=.type "slice",data:=.fields #[vl,vu,.none]}}
 exact tail_any (ops:=[.ref s3.heap.objs.size,v]) ht hT hg (by with_unfolding_all rfl)
def zz2(xs:List V)(lo hi:Option Int):List V:=(xs.drop (HT.sIx xs.length 0 lo)).take (HT.sIx xs.length xs.length hi - HT.sIx xs.length 0 lo)
theorem znf(xs:List V)(lo hi:Option Int):(zz2 xs lo hi).length<=xs.length:=by
 unfold zz2
 rw [List.length_take,List.length_drop]
 omega
def zys(K:PySem.W.Frag):V->Option Int->Option Int->Hp->VK->Prop:=fun x lo hi H Q=>∃a xs,x=.ref a/\SqT K H a xs/\
 ¬ (HT.sIx xs.length 0 lo=0/\HT.sIx xs.length xs.length hi=xs.length)/\∀p,H p=none->Q (.ref p) (upd H p (.tup (zz2 xs lo hi)))
theorem zzd:SlR X (zys X.K):=by
 intro pins s σ H x v vl vu lo hi sl Q I rx hs pl pu h
 obtain⟨a,xs,rfl,hx,hw,q⟩:=h
 cases rx
 obtain⟨its,r,ht,hz⟩:=I.tuple hx
 have hlen:its.toArray.size=xs.length:=by rw [List.size_toArray]; exact r.length.symm
 refine⟨"tuple",_,PyProof.Rows.slot_tuple_getitem.lookup,ht.typeIs,?_⟩
 refine HT.zes ht hs pl pu (by rw [hlen]; exact hw) ?_ (by rw [hlen]; exact hz)
 rw [hlen]
 refine⟨.ref s.heap.objs.size,_,I.laid (t':=s.toks) (o:=.tup (zz2 xs lo hi)) (fun b ob q=>Heap.get?_push_of_some _ q) (Nat.le_refl _) ?_,rfl,q _ (I.hok.fresh (Nat.le_refl _))⟩
 exact⟨Nat.le_trans (znf xs lo hi) hz,_,(r.drop (HT.sIx xs.length 0 lo)).take (HT.sIx xs.length xs.length hi - HT.sIx xs.length 0 lo),IsTup.new _ _⟩
def q19(K:PySem.W.Frag):R2:=fun x y H Q=>∃a b xs ys,x=.ref a/\y=.ref b/\SqT K H a xs/\SqT K H b ys/\xs≠[]/\xs.length+ys.length<=sizeLine/\
 (ys=[]->Q (.ref a) H)/\(ys≠[]->∀p,H p=none->Q (.ref p) (upd H p (.tup (xs++ys))))
theorem Vals.nil_iff{xs:List V}{us:List Value}(r:Vals xs us):us=[]↔xs=[]:=by
 cases r with
 | nil=>simp
 | cons _ _=>simp
theorem zxe:OpR X (binaryOp .Add) (q19 X.K):=by
 intro pins s σ H x y v u Q I rx ry h
 obtain⟨a,b,xs,ys,rfl,rfl,ha,hb,hx,hz,q1,q2⟩:=h
 cases rx
 cases ry
 obtain⟨its,r1,p1,_⟩:=I.tuple ha
 obtain⟨its2,r2,p2,_⟩:=I.tuple hb
 refine HT.zy4 p1 p2 (fun z=>hx (r1.nil_iff.mp z)) (fun z=>⟨.ref a,H,I,rfl,q1 (r2.nil_iff.mp z)⟩) (fun z=>?_) (by rw [<- r1.length,<- r2.length]; exact hz)
 refine⟨.ref s.heap.objs.size,_,I.laid (t':=s.toks) (o:=.tup (xs++ys)) (fun b ob q=>Heap.get?_push_of_some _ q) (Nat.le_refl _) ?_,rfl,q2 (fun w=>z (r2.nil_iff.mpr w)) _ (I.hok.fresh (Nat.le_refl _))⟩
 exact⟨by rw [List.length_append]; exact hz,_,r1.append r2,IsTup.new _ _⟩
end
end L2
namespace L2
open PySem PySem.Spec PyProof.Rows
def ixN(n:Nat)(i:Int):Option Nat:=if 0<=i then(if i < n then some i.toNat else none) else if -(n:Int)<=i then some (i+n).toNat else none
def atI{α : Type}(xs:List α)(i:Int):Option α:=(ixN xs.length i).bind fun j=>xs[j]?
theorem zxu{n:Nat}{i:Int}{j:Nat}(h:ixN n i=some j):seqIndex? i n=some j/\j < n/\-(n:Int)<=i/\i < n:=by
 unfold ixN at h
 by_cases h0:0<=i
 ·rw [if_pos h0] at h
  by_cases h1:i < n
  ·rw [if_pos h1] at h
   have e:i.toNat=j:=Option.some.inj h
   exact⟨by rw [seqIndex_of h0 h1,e],by omega,by omega,h1⟩
  ·rw [if_neg h1] at h; cases h
 ·rw [if_neg h0] at h
  by_cases h1 : -(n:Int)<=i
  ·rw [if_pos h1] at h
   have e:(i+n).toNat=j:=Option.some.inj h
   exact⟨by rw [seqIndex_neg (by omega) h1,e],by omega,h1,by omega⟩
  ·rw [if_neg h1] at h; cases h
theorem ztl{α : Type}{xs:List α}{i:Int}{v : α}(h:atI xs i=some v):∃j,seqIndex? i xs.length=some j/\xs[j]?=some v/\j < xs.length/\-(xs.length:Int)<=i/\i < xs.length:=by
 unfold atI at h
 cases e:ixN xs.length i with
 | none=>rw [e] at h; cases h
 | some j=>
  rw [e] at h
  obtain⟨h1,h2,h3,h4⟩:=zxu e
  exact⟨j,h1,h,h2,h3,h4⟩
theorem zy8{α : Type}{xs:List α}{j:Nat}{v : α}(h:xs[j]?=some v):atI xs (j:Int)=some v:=by
 have hj:j < xs.length:=(List.getElem?_eq_some_iff.mp h).1
 have e:ixN xs.length (j:Int)=some j:=by
  unfold ixN
  rw [if_pos (by omega),if_pos (by omega)]; simp
 unfold atI; rw [e]; exact h
def zyf(b:Expr):Prop:=∀o i,subscripted b false o i=operate [o,i] (getItem o i)
def IxR(X:Cx)(r:R2):Prop:=
 ∀(value slice:Expr) (pins:List (Addr×Obj)) (s:Shared) (σ : St) (H:Hp) (x y:V) (v u:Value) (Q:VK),Inv X pins σ H s->RelV x v->RelV y u->r x y H Q->
  subscripted slice false v u=operate [v,u] (getItem v u)->wpAny (model X.prog X.w) X.A (subscriptTail value slice v u) (EP X pins σ Q) X.xe s
def MtR(X:Cx)(id:String)(r:V->List V->Hp->VK->Prop):Prop:=
 ∀(pins:List (Addr×Obj)) (s:Shared) (σ : St) (H:Hp) (x:V) (xs:List V) (v:Value) (us:List Value) (Q:VK),Inv X pins σ H s->RelV x v->Vals xs us->r x xs H Q->
  wpAny (model X.prog X.w) X.A (call (.builtin id) (v::us)) (EP X pins σ Q) X.xe s
section
variable{X:Cx}{a b:Expr}{ta tb:TE}{pos:Pos}
theorem IxR.or{r r':R2}(h:IxR X r)(h':IxR X r'):IxR X (fun x y H Q=>r x y H Q\/r' x y H Q):=by
 intro value slice pins s σ H x y v u Q I rx ry q hs
 rcases q with q | q
 ·exact h value slice pins s σ H x y v u Q I rx ry q hs
 ·exact h' value slice pins s σ H x y v u Q I rx ry q hs
theorem MtR.or{id:String}{r r':V->List V->Hp->VK->Prop}(h:MtR X id r)(h':MtR X id r'):MtR X id (fun x xs H Q=>r x xs H Q\/r' x xs H Q):=by
 intro pins s σ H x xs v us Q I rx rs q
 rcases q with q | q
 ·exact h pins s σ H x xs v us Q I rx rs q
 ·exact h' pins s σ H x xs v us Q I rx rs q
theorem z0e{r:R2}(hr:IxR X r)(ha:PE X a ta)(hb:PE X b tb)(hs:zyf b):PE X (.Subscript a b pos) (tOp r ta tb):=by
 refine⟨?_⟩
 intro pins s σ H Q I h
 exact Subscript_ (q1t ha hb I h fun v u s2 x y H2 I2 rx ry q=>hr a b pins s2 σ H2 x y v u Q I2 rx ry q (hs _ _))
def zx1(K:PySem.W.Frag):R2:=fun x y H Q=>∃p xs i v,x=.ref p/\y=.int i/\SqL K H p xs/\atI xs i=some v/\Q v H
def zjj(K:PySem.W.Frag):R2:=fun x y H Q=>∃p xs i v,x=.ref p/\y=.int i/\SqT K H p xs/\atI xs i=some v/\Q v H
def zyu:R2:=fun x y H Q=>∃z i c,x=.str z/\y=.int i/\z.length<=sizeLine/\atI z.cps.toList i=some c/\Q (.str ⟨#[c]⟩) H
theorem z3i:IxR X (zx1 X.K):=by
 intro value slice pins s σ H x y v u Q I rx ry h hs
 obtain⟨p,xs,i,z,rfl,rfl,hq,he,q⟩:=h
 cases rx
 obtain⟨t,rfl⟩:=ry
 obtain⟨its,r,pl,hz⟩:=I.list hq
 obtain⟨j,h1,h2,h3,h4,h5⟩:=ztl he
 obtain⟨w,ew,rw'⟩:=r.get h2
 have hl:=r.length
 have hn:=zo9
 have fin:EP X pins σ Q w s:=⟨z,H,I,rw',q⟩
 by_cases h0:0<=i
 ·have hj:i.toNat=j:=by
   rw [seqIndex_of h0 h5] at h1
   exact Option.some.inj h1
  exact item_listR pl.isList h0 (by omega) (by rw [hj]; simpa using ew) fin hs
 ·have hj:(i+(its.toArray.size:Int)).toNat=j:=by
   rw [seqIndex_neg (by omega) h4] at h1
   rw [List.size_toArray,<- hl]
   exact Option.some.inj h1
  exact subscriptTail_builtinR (x:=w) pl.isList.typeIs slot_list_getitem.lookup
   (wpAny_getItem_list_neg (Q:=fun r s'=>r=w/\EP X pins σ Q r s') pl.isList (by omega) (by rw [List.size_toArray]<;>omega) (by omega) (by rw [hj]; simpa using ew) ⟨rfl,fin⟩) hs
theorem z0a:IxR X (zjj X.K):=by
 intro value slice pins s σ H x y v u Q I rx ry h hs
 obtain⟨p,xs,i,z,rfl,rfl,hq,he,q⟩:=h
 cases rx
 obtain⟨t,rfl⟩:=ry
 obtain⟨its,r,pl,hz⟩:=I.tuple hq
 obtain⟨j,h1,h2,h3,h4,h5⟩:=ztl he
 obtain⟨w,ew,rw'⟩:=r.get h2
 have hl:=r.length
 have hn:=zo9
 have fin:EP X pins σ Q w s:=⟨z,H,I,rw',q⟩
 exact subscriptTail_builtinR (x:=w) pl.typeIs slot_tuple_getitem.lookup
  (getItem_tuple (j:=j) (Q:=fun r s'=>r=w/\EP X pins σ Q r s') pl (by omega) (by omega) (by rw [List.size_toArray,<- hl]; exact h1) (by simpa using ew) ⟨rfl,fin⟩) hs
def rIx(K:PySem.W.Frag):R2:=fun x y H Q=>zx1 K x y H Q\/zjj K x y H Q\/zyu x y H Q
theorem Inv.lst{pins:List (Addr×Obj)}{σ : St}{H:Hp}{s:Shared}{p:Addr}{xs:List V}(I:Inv X pins σ H s)(h:H p=some (.lst xs)) :
  ∃(its:List Value) (n:Nat),Vals xs its/\s.heap.get? p=some {cls:=.type "list",data:=.seq its.toArray n}/\xs.length<=sizeLine:=by
 obtain⟨z,its,n,r,e⟩:=I.hok p _ h
 exact⟨its,n,r,e,z⟩
def q28(K:PySem.W.Frag):V->Option Int->Option Int->Hp->VK->Prop:=fun x lo hi H Q=>∃a xs,x=.ref a/\SqL K H a xs/\∀p,H p=none->Q (.ref p) (upd H p (.lst (zz2 xs lo hi)))
def zav:V->Bool
 | .non=>true
 | .bl _=>true
 | .int _=>true
 | .str _=>true
 | _=>false
def eqV:V->V->Bool
 | .non,.non=>true
 | .bl a,.bl b=>a == b
 | .bl a,.int b=>(if a then 1 else 0) == b
 | .int a,.bl b=>a == (if b then 1 else 0)
 | .int a,.int b=>a == b
 | .str a,.str b=>a == b
 | _,_=>false
theorem q0i{A:Around}{s:Shared}{y x:V}{u v:Value}(ry:RelV y u)(rx:RelV x v)(fy:zav y=true)(fx:zav x=true):SeqAt.EqAt A s u v (eqV y x):=by
 cases y with
 | non=>
  cases ry
  cases x with
  | non=>cases rx; exact SeqAt.EqAt.same _
  | bl b=>cases rx; exact SeqAt.EqAt.none_bool b
  | int b=>obtain⟨t,rfl⟩:=rx; exact SeqAt.EqAt.none_int b t
  | str b=>obtain⟨t,rfl⟩:=rx; exact SeqAt.EqAt.none_str b t
  | _=>exact absurd (show false=true from fx) Bool.false_ne_true
 | bl a=>
  cases ry
  cases x with
  | non=>cases rx; exact SeqAt.EqAt.bool_none a
  | bl b=>cases rx; exact SeqAt.EqAt.bool_bool a b
  | int b=>obtain⟨t,rfl⟩:=rx; exact SeqAt.EqAt.bool_int a b t
  | str b=>obtain⟨t,rfl⟩:=rx; exact SeqAt.EqAt.bool_str a b t
  | _=>exact absurd (show false=true from fx) Bool.false_ne_true
 | int a=>
  obtain⟨t',rfl⟩:=ry
  cases x with
  | non=>cases rx; exact SeqAt.EqAt.int_none a t'
  | bl b=>cases rx; exact SeqAt.EqAt.int_bool a t' b
  | int b=>obtain⟨t,rfl⟩:=rx; exact SeqAt.EqAt.int_int a t' b t
  | str b=>obtain⟨t,rfl⟩:=rx; exact SeqAt.EqAt.int_str a t' b t
  | _=>exact absurd (show false=true from fx) Bool.false_ne_true
 | str a=>
  obtain⟨t',rfl⟩:=ry
  cases x with
  | non=>cases rx; exact SeqAt.EqAt.str_none a t'
  | bl b=>cases rx; exact SeqAt.EqAt.str_bool a t' b
  | int b=>obtain⟨t,rfl⟩:=rx; exact SeqAt.EqAt.str_int a t' b t
  | str b=>obtain⟨t,rfl⟩:=rx; exact SeqAt.EqAt.str_str a t' b t
  | _=>exact absurd (show false=true from fx) Bool.false_ne_true
 | _=>exact absurd (show false=true from fy) Bool.false_ne_true
def eqU(x:V)(u:Value):Bool:=match u with
 | .none=>eqV .non x
 | .bool b=>eqV (.bl b) x
 | .int i _=>eqV (.int i) x
 | .str z _=>eqV (.str z) x
 | _=>false
theorem zw8{x y:V}{u:Value}(r:RelV y u)(f:zav y=true):eqU x u=eqV y x:=by
 cases y with
 | non=>cases r; rfl
 | bl b=>cases r; rfl
 | int i=>obtain⟨t,rfl⟩:=r; rfl
 | str z=>obtain⟨t,rfl⟩:=r; rfl
 | _=>exact absurd (show false=true from f) Bool.false_ne_true
theorem znn{x:V}:∀{xs:List V} {us:List Value},Vals xs us->xs.all zav=true->us.any (eqU x)=xs.any fun y=>eqV y x
 | _,_,.nil,_=>rfl
 | y::xs,u::us,.cons r t,f=>by
  rw [List.all_cons,Bool.and_eq_true] at f
  rw [List.any_cons,List.any_cons,zw8 r f.1,znn t f.2]
theorem zju{A:Around}{s:Shared}{x:V}{v:Value}(rx:RelV x v)(fx:zav x=true):∀{xs:List V} {us:List Value},Vals xs us->xs.all zav=true->∀u∈us,SeqAt.EqAt A s u v (eqU x u)
 | _,_,.nil,_=>fun u hu=>by cases hu
 | y::xs,u::us,.cons r t,f=>fun u' hu=>by
  rw [List.all_cons,Bool.and_eq_true] at f
  rcases List.mem_cons.mp hu with rfl | hu
  ·rw [zw8 r f.1]; exact q0i r rx f.1 fx
  ·exact zju rx fx t f.2 u' hu
def inV(x:V)(xs:List V):Bool:=xs.any fun y=>eqV y x
def rIn(K:PySem.W.Frag)(neg:Bool):R2:=fun x y H Q=>∃p xs,y=.ref p/\(SqL K H p xs\/SqT K H p xs)/\zav x=true/\xs.all zav=true/\Q (.bl (if neg then !inV x xs else inV x xs)) H
theorem zrt:OpR X (compareOp .In) (rIn X.K false):=by
 intro pins s σ H x y v u Q I rx ry h
 obtain⟨p,xs,rfl,hq,fx,fs,q⟩:=h
 cases ry
 rcases hq with hq | hq
 ·obtain⟨its,r,pl,hz⟩:=I.list hq
  refine SeqAt.in_listAt (eqU x) pl.isList (fun w hw=>zju rx fx r fs w (by simpa using hw)) ⟨.bl _,H,I,rfl,?_⟩
  rw [show its.toArray.any (eqU x)=its.any (eqU x) by simp,znn r fs]
  exact q
 ·obtain⟨its,r,pl,hz⟩:=I.tuple hq
  refine SeqAt.in_tupleAt (eqU x) pl (fun w hw=>zju rx fx r fs w (by simpa using hw)) ⟨.bl _,H,I,rfl,?_⟩
  rw [show its.toArray.any (eqU x)=its.any (eqU x) by simp,znn r fs]
  exact q
theorem zm6:CallR X (.builtin "len") (fun xs H Q=>∃p ys,xs=[.ref p]/\(SqL X.K H p ys\/SqT X.K H p ys)/\Q (.int ys.length) H):=by
 intro pins s σ H xs us Q I r h
 obtain⟨p,ys,rfl,hq,q⟩:=h
 obtain⟨u,rfl,rx⟩:=zz5 r
 cases rx
 have hn:=zo9
 rcases hq with hq | hq
 ·obtain⟨its,r',pl,hz⟩:=I.list hq
  have hlen:=r'.length
  exact Calls.call_len_list pl.isList (by simp only[List.size_toArray]<;>omega) ⟨.int ys.length,H,I.tok _,⟨s.toks+1,by rw [List.size_toArray,hlen]⟩,q⟩
 ·obtain⟨its,r',pl,hz⟩:=I.tuple hq
  have hlen:=r'.length
  exact len_tuple pl (by simp only[List.size_toArray]<;>omega) ⟨.int ys.length,H,I.tok _,⟨s.toks+1,by rw [List.size_toArray,hlen]⟩,q⟩
theorem zm5:CallR X (.builtin "len") (fun xs H Q=>∃z,xs=[.str z]/\z.length<=sizeLine/\Q (.int z.length) H):=by
 intro pins s σ H xs us Q I r h
 obtain⟨z,rfl,hz,q⟩:=h
 obtain⟨u,rfl,t,rfl⟩:=zz5 r
 have hn:=zo9
 exact len_str (by omega) ⟨.int z.length,H,I.tok _,⟨_,rfl⟩,q⟩
theorem CallR.or{f:Value}{r r':List V->Hp->VK->Prop}(h:CallR X f r)(h':CallR X f r'):CallR X f (fun xs H Q=>r xs H Q\/r' xs H Q):=by
 intro pins s σ H xs us Q I rs q
 rcases q with q | q
 ·exact h pins s σ H xs us Q I rs q
 ·exact h' pins s σ H xs us Q I rs q
def tyV(K:PySem.W.Frag)(T:String)(x:V)(H:Hp):Prop:=match x with
 | .str _=>T = "str"
 | .int _=>T = "int"
 | .ref p=>(T = "list"/\∃xs,SqL K H p xs)\/(T = "tuple"/\∃o,K.lookup p=some o/\o.cls=.type "tuple"/\o.dict=none)\/
   (T = "dict"/\((∃kvs,H p=some (.dK kvs))\/∃kvs,H p=some (.dT kvs)))\/(T = "set"/\∃S n,H p=some (.set S n))
 | _=>False
theorem zz7{pins:List (Addr×Obj)}{σ : St}{H:Hp}{s:Shared}{T:String}{x:V}{v:Value}(I:Inv X pins σ H s)(r:RelV x v)(ty:tyV X.K T x H) :
  s.TypeIs v T/\∀a,v=.ref a->∃ob,s.heap.get? a=some ob/\ob.dict=none:=by
 cases x with
 | str z=>
  obtain⟨t,rfl⟩:=r
  cases (show T = "str" from ty)
  exact⟨typeIs_str s z t,fun _ e=>nomatch e⟩
 | int i=>
  obtain⟨t,rfl⟩:=r
  cases (show T = "int" from ty)
  exact⟨typeIs_int s i t,fun _ e=>nomatch e⟩
 | ref p=>
  cases r
  rcases ty with⟨rfl,xs,hq⟩ | ⟨rfl,o,hk,hc,hd⟩ | ⟨rfl,hk⟩ | ⟨rfl,S,n,hk⟩
  ·obtain⟨its,_,pl,_⟩:=I.list hq
   refine⟨pl.isList.typeIs,fun a e=>?_⟩
   cases e
   obtain⟨o,n,e,c,hd,_⟩:=pl
   exact⟨o,e,hd⟩
  ·refine⟨⟨o,I.kIn p o hk,hc⟩,fun a e=>?_⟩
   cases e
   exact⟨o,I.kIn _ o hk,hd⟩
  ·have z:∃o,s.heap.get? p=some o/\o.ExactDict:=by
    rcases hk with⟨kvs,hk⟩ | ⟨kvs,hk⟩
    ·obtain⟨_,_,_,_,o,_,_,e,ex,_⟩:=I.hok p _ hk
     exact⟨o,e,ex⟩
    ·obtain⟨_,_,_,_,o,_,_,e,ex,_⟩:=I.hok p _ hk
     exact⟨o,e,ex⟩
   obtain⟨o,e,ex⟩:=z
   refine⟨⟨o,e,ex.1⟩,fun a e2=>?_⟩
   cases e2
   exact⟨o,e,ex.2.1⟩
  ·obtain⟨o,_,_,_,e,ex,_⟩:=I.hok p _ hk
   refine⟨⟨o,e,ex.1⟩,fun a e2=>?_⟩
   cases e2
   exact⟨o,e,ex.2.1⟩
 | _=>exact False.elim ty
def tBM(K:PySem.W.Frag)(T:String)(r:V->List V->Hp->VK->Prop)(to:TE)(t:TA):TE:=fun σ H Q=>to σ H fun x H1=>tyV K T x H1/\t σ H1 fun xs H2=>r x xs H2 Q
variable{o e:Expr}{es:List Expr}{to:TE}{t:TA}{name:Str}{apos cpos:Pos}{T id:String}{r:V->List V->Hp->VK->Prop}
theorem zuf(pa:PlainAttrs T)(slot:Slot T name id) (hty:typeOf (.builtin id)=pure (.type "method_descriptor")) (hm:MtR X id r) (ho:PE X o to) (ha:PA X (e::es) t)
  (hbase:attributeBase o name X.env (eval o X.env)=eval o X.env:=by rfl)
  (hfew:((backTo cpos (starEach (e::es) X.env)).all (fun x=>!x.1) && (backToKw cpos (keywordEach [] X.env)).all (fun x=>x.1.isSome)
   && decide ((e::es).length+([]:List Keyword).length+(if([]:List Keyword).isEmpty then 0 else 1) < 30))=true:=by rfl)
  (hline:(apos.endLine == cpos.line)=true:=by rfl) (hs:starEach (e::es) X.env=(false,eval e X.env)::starEach es X.env:=by rfl) (hplain:(backTo cpos (starEach es X.env)).any (·.1)=false:=by rfl) :
  PE X (.Call (.Attribute o name apos) (e::es) [] cpos) (tBM X.K T r to t):=by
 refine⟨?_⟩
 intro pins s σ H Q I h
 refine wpAny_Call_method_late hbase hfew hline rfl (thn (ho pins s σ H _ I h) fun v s1 ⟨x,H1,I1,r1,ty,q1⟩=>?_)
 obtain⟨h1,h2⟩:=zz7 I1 r1 ty
 refine⟨T,id,pa,slot,hty,h1,h2,?_⟩
 have hA:=ha cpos pins s1 σ H1 _ I1 q1
 rw [hs] at hA |-
 refine Calls.callWith_builtin (by show(false || (backTo cpos (starEach es X.env)).any (·.1))=false; rw [hplain]<;>rfl) (Calls.evalArgs_plain ?_)
 exact thn hA fun us s2 ⟨vs,H2,I2,r2,q2⟩=>hm pins s2 σ H2 x vs v us Q I2 r1 r2 q2
end
end L2
namespace L2
open PySem PySem.Spec PyProof.Rows
def MtM(X:Cx)(id:String)(r:V->List V->Hp->VK->Prop):Prop:=
 ∀(pins:List (Addr×Obj)) (s:Shared) (σ : St) (H:Hp) (x:V) (xs:List V) (v:Value) (us:List Value) (Q:VK),Inv X pins σ H s->RelV x v->Vals xs us->r x xs H Q->
  wpAny (model X.prog X.w) X.A (call (.builtin id) (v::us)) (EP X pins σ Q) X.xe s
theorem Vals.one:∀{x:V} {us:List Value},Vals [x] us->∃u,us=[u]/\RelV x u
 | _,_,.cons r .nil=>⟨_,rfl,r⟩
theorem Vals.two:∀{x y:V} {us:List Value},Vals [x,y] us->∃u v,us=[u,v]/\RelV x u/\RelV y v
 | _,_,_,.cons r (.cons q .nil)=>⟨_,_,rfl,r,q⟩
theorem Vals.zero:∀{us:List Value},Vals [] us->us=[]
 | _,.nil=>rfl
theorem zlm(its:List Value):∀(k:Nat) (acc:List Value),
  List.foldl (fun x1 x2=>x1++x2) acc.toArray (List.replicate k its.toArray)=(acc++(List.replicate k its).flatten).toArray
 | 0,acc=>by simp
 | k+1,acc=>by
  have e:acc.toArray++its.toArray=(acc++its).toArray:=by simp
  have e2:(acc++its)++(List.replicate k its).flatten=acc++(List.replicate (k+1) its).flatten:=by
   rw [List.replicate_succ,List.flatten_cons,List.append_assoc]
  rw [<- e2,<- zlm its k (acc++its),<- e,List.replicate_succ,List.foldl_cons]
section
variable{X:Cx}{pins:List (Addr×Obj)}{σ : St}{H:Hp}{s:Shared}{l b:Addr}{xs ys zs:List V}
theorem Inv.lset{its its':List Value}{n:Nat}{f:Array Value->Array Value}{t':Nat}(I:Inv X pins σ H s)(hH:H l=some (.lst xs))
  (e:s.heap.get? l=some {cls:=.type "list",data:=.seq its.toArray n}) (hf:f its.toArray=its'.toArray) (hv:Vals ys its') (hz:ys.length<=sizeLine) :
  Inv X pins σ (upd H l (.lst ys)) {s with heap:=s.heap.update l (Obj.mapSeq f),toks:=t'}:=by
 have q:=PySem.IsL.update e f
 rw [hf] at q
 refine I.write (x:=l) (e:=l) (by rw [hH]; exact trivial) (.inl rfl) (fun b' u hb hu=>(Heap.get?_update_other s.heap (Obj.mapSeq f) (Ne.symm hb)).trans hu) ⟨_,q⟩ ?_
 exact⟨hz,its',_,hv,q⟩
theorem Inv.lstM(I:Inv X pins σ H s)(hH:H l=some (.lst xs)):xs.length<=sizeLine/\∃(its:List Value) (n:Nat),Vals xs its/\xs.length=its.length/\s.heap.get? l=some {cls:=.type "list",data:=.seq its.toArray n}:=by
 obtain⟨z,its,n,r,e⟩:=I.hok l _ hH
 exact⟨z,its,n,r,r.length,e⟩
theorem zul{n:Nat}(h:n<=sizeLine):Builtin.List.listTooLong n=false:=by
 unfold Builtin.List.listTooLong
 exact decide_eq_false (by omega)
end
section
variable{X:Cx}
def ze3:V->List V->Hp->VK->Prop:=fun x vs H Q=>∃l xs y,x=.ref l/\vs=[y]/\H l=some (.lst xs)/\xs.length < sizeLine/\Q .non (upd H l (.lst (xs++[y])))
theorem zl9:MtM X "list.append" ze3:=by
 intro pins s σ H x vs v us Q I rx rv h
 obtain⟨l,xs,y,rfl,rfl,hH,hz,q⟩:=h
 cases rx
 obtain⟨u,rfl,ru⟩:=rv.one
 obtain⟨z,its,n,r,hl,e⟩:=I.lstM hH
 refine call_meets F.slot_list_append ⟨_,e,rfl⟩ F.entry_list_append (F.args_list_append_2 _ _) (PySem.list_append l its.toArray n u (by rw [List.size_toArray]; omega)) ⟨e,?_⟩
 refine⟨.non,_,I.lset (its':=its++[u]) hH e (by simp) (r.append (.cons ru .nil)) ?_,rfl,q⟩
 rw [List.length_append,List.length_singleton]
 omega
def ze2:V->List V->Hp->VK->Prop:=fun x vs H Q=>∃l b xs zs,x=.ref l/\vs=[.ref b]/\H l=some (.lst xs)/\H b=some (.lst zs)/\xs.length+zs.length<=sizeLine/\Q .non (upd H l (.lst (xs++zs)))
theorem zl8:MtM X "list.extend" ze2:=by
 intro pins s σ H x vs v us Q I rx rv h
 obtain⟨l,b,xs,zs,rfl,rfl,hH,hB,hz,q⟩:=h
 cases rx
 obtain⟨u,rfl,ru⟩:=rv.one
 cases ru
 obtain⟨z,its,n,r,hl,e⟩:=I.lstM hH
 obtain⟨z2,its2,n2,r2,hl2,e2⟩:=I.lstM hB
 have hsz:its.toArray.size+its2.toArray.size<=sizeLine:=by rw [List.size_toArray,List.size_toArray]; omega
 have hlong:¬ (!its.toArray.isEmpty && Builtin.List.listTooLong (its.toArray.size+its2.toArray.size))=true:=by
  rw [zul hsz,Bool.and_false]
  exact Bool.false_ne_true
 refine call_meets F.slot_list_extend ⟨_,e,rfl⟩ F.entry_list_extend (F.args_list_extend_2 _ _)
  (AutoSeq1.list_extend_list_list_0 l its.toArray n b its2.toArray n2 hlong (by rw [List.size_toArray]; omega) (by omega)) ⟨e,e2,?_⟩
 refine⟨.non,_,I.lset (its':=its++its2) hH e (by simp) (r.append r2) ?_,rfl,q⟩
 rw [List.length_append]
 omega
def zzl:R2:=fun x y H Q=>∃l b xs zs,x=.ref l/\y=.ref b/\H l=some (.lst xs)/\H b=some (.lst zs)/\xs.length+zs.length<=sizeLine/\∀p,H p=none->Q (.ref p) (upd H p (.lst (xs++zs)))
def zzj:R2:=fun x y H Q=>∃l k xs,x=.ref l/\y=.int k/\H l=some (.lst xs)/\-(2 ^ 63)<=k/\k < 2 ^ 63/\xs.length * k.toNat<=sizeLine/\
 ∀p,H p=none->Q (.ref p) (upd H p (.lst (List.replicate k.toNat xs).flatten))
theorem zxr{α : Type}(xs:List α)(k:Nat):(List.replicate k xs).flatten.length=k * xs.length:=by
 induction k with
 | zero=>simp
 | succ k ih=>rw [List.replicate_succ,List.flatten_cons,List.length_append,ih,Nat.succ_mul,Nat.add_comm]
end
section
variable{prog:Program}{w:World}{A:Around}{E:Value->Shared->Prop}{s:Shared}
end
section
variable{X:Cx}
end
end L2
namespace Att
open PySem PySem.W PySem.Calls PyProof.Rows
theorem zhe{P:Params}{h:Heap}:∀(ns:List Int) (vs:List Value),WellAll P h vs (ns.map WData.int)->IntsAre vs ns:=by
 intro ns
 induction ns with
 | nil=>
  intro vs w
  rw [List.map_nil] at w
  cases w
  exact .nil
 | cons n ns ih=>
  intro vs w
  rw [List.map_cons] at w
  cases w with
  | cons a b=>
   cases a
   exact .cons _ _ (ih _ b)
theorem zr7{l:OpenLaw}{n:Nat}(hn:l.most=some n){P:Params}{h:Heap}{args:List WData}{vals:List Value}
  (hpre:l.row.toRowW.claim.pre args=true) (hwl:WellAll P h vals args) :
  ∃a vs ns,vals=[Value.ref a]/\args=[WData.list (ns.map WData.int)]/\h.get? a=some {cls:=.type "list",data:=.seq vs.toArray}/\IntsAre vs ns/\ns.length<=n:=by
 have hsh:WShape.hasAll [] args [.list .int]=true:=(pre_splitW hpre).1
 have hc:l.pre.holds [] {args:=args}=true:=(pre_splitW hpre).2
 obtain⟨d,r,rfl,h1,h2⟩:=hasAllW_cons hsh
 obtain rfl:=hasAllW_nil h2
 obtain⟨xs,rfl,h3⟩:=hasW_list h1
 obtain⟨ns,rfl⟩:=items_int h3
 have hlen:ns.length<=n:=by
  unfold OpenLaw.pre at hc
  have h4:(WTm.not (.lt (.lit (.int (n:Int))) (.len (.arg 0)))).holds [] {args:=[.list (ns.map .int)]}=true:=by
   have h4:=(holds_andW hc).1
   rw [hn] at h4
   exact h4
  have h5:=condW_of h4 (w_not (w_lt w_lit (w_len_list (w_arg rfl))))
  rw [List.length_map] at h5
  refine Nat.le_of_not_lt fun q=>?_
  have q':(n:Int) < ((ns.length:Nat):Int):=by omega
  first
   | (rw [decide_eq_true q'] at h5; exact absurd h5 (by decide))
   | (simp at h5; omega)
 cases hwl with
 | cons w1 w2=>
  cases w2
  cases w1 with
  | list ho hall=>exact⟨_,_,ns,rfl,rfl,ho,zhe ns _ hall,hlen⟩
theorem zri(l:OpenLaw)(args:List WData):l.row.toRowW.claim.post args (.bool true) args=true:=
 postW_of (r:=l.row.toRowW) (X:=(true == true))
  (show WShape.has [] (.bool true) .bool=true by first | rfl | decide | simp[WShape.has,WShape.arms,WShape.armsAll])
  (show(WTm.eq .res (.lit (.bool true))).value [] {args:=args,res:=some (.bool true),after:=args}=some (.bool (true == true)) from w_eq_bool (w_res rfl) w_lit) rfl
theorem znm{l:OpenLaw}{n:Nat}{q:Program}{loose:List Str}{XP:(Str->Option Value)->Heap->Prop}{YP:World->Heap->Prop}{d:DefRec}
  (hn:l.most=some n) (hdf:d.params.defaults=[])
  (call:∀(w:World) (s₀ s₁:Shared) (mg mb:Str->Option Value) (fa:Addr) (o:Obj) (pm cd doc:Value) (a:Addr) (vs:List Value) (ns:List Int),
   Ground q loose [] XP w s₀ mg mb s₁.heap->YP w s₁.heap->
   s₁.heap.get? fa=some o->o.data=.func (docDef d.name d.params d.body d.scope pm cd doc)->s₁.heap.CodeRec cd d.name->mg d.name=some (.ref fa)->
   s₁.heap.get? a=some {cls:=.type "list",data:=.seq vs.toArray}->IntsAre vs ns->ns.length<=n->s₁.gens = #[]->
   codeAny (model l.prog w) callerA (.call (.ref fa) ⟨[.ref a],[]⟩) (fun r s'=>r=.ok (.ret (.bool true))/\OldK s₁.heap s'.heap/\s'.os=s₁.os/\AllBare s'.gens) s₁) :
  WalkO q loose XP YP l.row.toRowW d [] (fun f vs=>PySem.call f vs):=by
 intro w s₀ s₁ mg mb G Y fa o pm cd doc dV kV ho hd hcd hD hmg hg args vals as hpre hlay hrd hwl hlo
 obtain rfl:dV=.none:=Dflts.none hD hdf
 obtain rfl:kV=.none:=Dflts.noKw hD
 obtain⟨a,vs,ns,rfl,rfl,hobj,hints,hlen⟩:=zr7 hn hpre hwl
 refine enter_call (codeAny_mono (call w s₀ s₁ mg mb fa o pm cd doc a vs ns G Y ho (fd_plain hd) hcd hmg hobj hints hlen hg) fun r s' hq=>?_)
 obtain⟨rfl,h2,h3,h4⟩:=hq
 exact⟨.inl ⟨.bool true,.bool true,[],rfl,fun _=>rfl,.bool true,zri l _,fun _=>⟨List.Pairwise.nil,fun _ hm=>(nomatch hm)⟩⟩,h2,h3,h4⟩
section
variable{prog:Program}{w:World}{A:Around}{E:Value->Shared->Prop}{s:Shared}{K:Frag}
def q2e(h:Heap)(L d:Addr):List (Addr×Obj):=(List.range h.objs.size).filterMap fun a=>if a=L\/a=d then none else(h.get? a).map fun o=>(a,o)
end
end Att
namespace L2
open PySem PySem.Spec PyProof.Rows
theorem zkh:∀{vs:List Value} {ns:List Int},IntsAre vs ns->Vals (ns.map V.int) vs
 | _,_,.nil=>.nil
 | _,_,.cons n t h=>.cons ⟨t,rfl⟩ (zkh h)
def q1w(H:Hp):Prop:=∀b,H b=none\/∃o xs,H b=some (.frz o (.lst xs))
theorem zut{P:Program}{w:World}{K:PySem.W.Frag}{mg mb:Str->Option Value}{CX:CXT}{k:Nat}{fa a:Addr}{fd:FuncData}{x:Str}{sp:Sp}{s₁:Shared}{vs:List Value}{ns:List Int}
  (KX:K.In s₁.heap) (hns:s₁.heap.Ns mainGlobals mg) (hb:s₁.heap.Ns builtinsNs mb) (hbb:∀x:Str,x≠"__name__"->mb x=bootBuiltins x) (hlim:s₁.heap.NoLimit) (hg:s₁.gens = #[])
  (ha:s₁.heap.get? a=some {cls:=.type "list",data:=.seq vs.toArray}) (hi:IntsAre vs ns) (hl:ns.length<=sizeLine) (hr:Room k callerA)
  (F:∀base:Heap,K.In base->base.Ns mainGlobals mg->FnOk P w K mg base CX k fa fd [x] sp) (hbind:∀(s:Shared) (u:Value),BindsTo s fd ⟨[u],[]⟩ [(x,u)])
  (hsp:∀H:Hp,q1w H->SqL K H a (ns.map V.int)->sp [.ref a] H (fun v _=>v=.bl true) fun _ _ _=>False)
  (hCX:∀H e s',CX [] H s₁ (fun _ _ _=>False) e s'->False) :
  codeAny (model P w) callerA (.call (.ref fa) ⟨[.ref a],[]⟩) (fun r s'=>r=.ok (.ret (.bool true))/\OldK s₁.heap s'.heap/\s'.os=s₁.os/\AllBare s'.gens) s₁:=by
 have rv:=zkh hi
 have lenV:=hi.length
 have core:∀H:Hp,q1w H->SqL K H a (ns.map V.int)->HOk P w H s₁.heap->(∀b,H b≠none->b=a)->(H a≠none->K.lookup a=none)->
   codeAny (model P w) callerA (.call (.ref fa) ⟨[.ref a],[]⟩) (fun r s'=>r=.ok (.ret (.bool true))/\OldK s₁.heap s'.heap/\s'.os=s₁.os/\AllBare s'.gens) s₁:=by
  intro H hO hS hok hA hK
  have base_of:∀{b:Addr} {o:Obj},s₁.heap.get? b=some o->H b=none->(zux s₁.heap H).get? b=some o:=fun e n=>zuw e n
  have noA:∀{b:Addr} {o:Obj} {es:Array DictEntry} {ep:Nat},s₁.heap.get? b=some o->o.data=.dict es ep->H b=none:=fun {b o es ep} e d=>by
   cases q:H b with
   | none=>rfl
   | some u=>
    have e':b=a:=hA b (by rw [q]; simp)
    subst e'
    rw [ha] at e; cases e
    have d':Data.seq vs.toArray _=Data.dict es ep:=d
    cases d'
  have nsK:∀{b:Addr} {m:Str->Option Value},s₁.heap.Ns b m->(zux s₁.heap H).Ns b m:=fun {b m} ⟨o,es,ep,e,d,r⟩=>⟨o,es,ep,base_of e (noA e d),d,r⟩
  have hKb:K.In (zux s₁.heap H):=fun b o e=>base_of (KX b o e) (by
   cases q:H b with
   | none=>rfl
   | some u=>
    have e':b=a:=hA b (by rw [q]; simp)
    subst e'
    rw [hK (by rw [q]; simp)] at e; cases e)
  have hM:Mod K mg (zux s₁.heap H):=⟨hKb,nsK hns,⟨mb,nsK hb,hbb⟩,let ⟨mc,h1,h2⟩:=hlim; ⟨mc,nsK h1,h2⟩⟩
  have e0:Env0 P w K mg (zux s₁.heap H) callerA [] s₁ H:=⟨rfl,hM,fun b o e=>zxk e,Nat.le_of_eq (zsk _ _),trivial,fun b hb=>absurd (show b∈([]:List Addr) from hb) (by simp),hok,.of_eq hg⟩
  refine codeAny_mono ((F _ hKb (nsK hns)).run callerA [] s₁ H ⟨[.ref a],[]⟩ [.ref a] [.ref a] _ _ hr e0 (hbind s₁ (.ref a)) (.cons rfl .nil) (hsp H hO hS)) fun r s' h=>?_
  cases r with
  | error e=>exact(hCX H e s' h).elim
  | ok fl=>
   cases fl with
   | next=>exact False.elim h
   | brk=>exact False.elim h
   | cont=>exact False.elim h
   | ret u=>
    obtain⟨v,H',os,bare,un,hok',r',q⟩:=h
    have q':v=.bl true:=q
    subst q'
    obtain rfl:u=Value.bool true:=r'
    refine⟨rfl,OldK.of_keep fun b o e=>?_,os,bare⟩
    cases q:H b with
    | none=>exact un.keep b o e q (by intro z; exact absurd (show b∈([]:List Addr) from z) (by simp)) (by simp)
    | some u=>
     rcases hO b with z | ⟨ob,xs,z⟩
     ·rw [q] at z; cases z
     ·have z2:=un.frzs b ob _ z
      obtain⟨e1,_⟩:=hok b _ z
      obtain⟨e2,_⟩:=hok' b _ z2
      rw [e] at e1; cases e1
      exact e2
 cases hk:K.lookup a with
 | some o=>
  have e:=KX a o hk
  rw [ha] at e
  cases e
  refine core (fun _=>none) (fun _=>.inl rfl) (.inr ⟨_,vs.toArray,_,hk,rfl,rfl,rfl,by rw [List.size_toArray,lenV]; exact hl,by simpa using rv⟩) (fun b u z=>by have z':(none:Option HO)=some u:=z; cases z') (fun b z=>absurd rfl z) fun z=>absurd rfl z
 | none=>
  refine core (fun b=>if b=a then some (.frz {cls:=.type "list",data:=.seq vs.toArray} (.lst (ns.map V.int))) else none) (fun b=>?_) (.inl (.inr ⟨{cls:=.type "list",data:=.seq vs.toArray},if_pos rfl⟩)) (fun b u z=>?_) (fun b z=>?_) fun _=>hk
  ·by_cases hb:b=a
   ·exact .inr ⟨_,_,if_pos hb⟩
   ·exact .inl (if_neg hb)
  ·by_cases hb:b=a
   ·have z':=(if_pos hb).symm.trans z
    cases z'
    subst hb
    exact⟨ha,by rw [List.length_map]; exact hl,vs,_,rv,ha⟩
   ·have z':=(if_neg hb).symm.trans z
    cases z'
  ·by_cases hb:b=a
   ·exact hb
   ·exact absurd (if_neg hb) z
end L2
namespace L2
open PySem PySem.Spec PyProof.Rows
abbrev KOf{K:PySem.W.Frag}{h:Heap}(_:K.In h):PySem.W.Frag:=K
theorem zwg{l:PySem.W.OpenLaw}{n k:Nat}{q:Program}{loose:List Str}{XP:(Str->Option Value)->Heap->Prop}{YP:World->Heap->Prop}{d:DefRec}{K:Params->PySem.W.Frag}{CX:World->CXT}{sp:World->Sp}{x:Str}
  (hn:l.most=some n) (hn2:n<=sizeLine) (hdf:d.params.defaults=[]) (hr:Room k callerA)
  (hY:∀(w:World) (h:Heap),YP w h->(K w.params).In h)
  (F:∀(w:World) (mg:Str->Option Value) (fa:Addr) (h:Heap),(K w.params).In h->h.Ns mainGlobals mg->mg d.name=some (.ref fa)->
   ∃fd:FuncData,(∀(s:Shared) (u:Value),BindsTo s fd ⟨[u],[]⟩ [(x,u)])/\
    ∀base:Heap,(K w.params).In base->base.Ns mainGlobals mg->FnOk l.prog w (K w.params) mg base (CX w) k fa fd [x] (sp w))
  (hsp:∀(w:World) (H:Hp) (a:Addr) (ns:List Int),ns.length<=n->q1w H->SqL (K w.params) H a (ns.map V.int)->sp w [.ref a] H (fun v _=>v=.bl true) fun _ _ _=>False)
  (hCX:∀(w:World) (H:Hp) (s:Shared) (e:Value) (s':Shared),CX w [] H s (fun _ _ _=>False) e s'->False) :
  PySem.W.WalkO q loose XP YP l.row.toRowW d [] (fun f vs=>PySem.call f vs):=by
 refine Att.znm hn hdf fun w s₀ s₁ mg mb fa o pm cd doc a vs ns G Y ho hd hcd hmg hobj hints hlen hg=>?_
 have KX:=hY w _ Y
 obtain⟨fd,hb,hF⟩:=F w mg fa _ KX G.T.g hmg
 exact zut KX G.T.g G.T.b G.T.builtins G.T.nolimit hg hobj hints (Nat.le_trans hlen hn2) hr hF hb (fun H hO hS=>hsp w H a ns hlen hO hS) fun H e s'=>hCX w H s₁ e s'
end L2
namespace L2
open PySem PySem.Spec PyProof.Rows
def defArgs(s:Stmt):Arguments:=match s with
 | .FunctionDef _ a _ _ _ _ _ _ _ _=>a
 | _=>{posonlyargs:=[],args:=[],vararg:=none,kwonlyargs:=[],kw_defaults:=[],kwarg:=none,defaults:=[]}
def defBody(s:Stmt):List Stmt:=match s with
 | .FunctionDef _ _ b _ _ _ _ _ _ _=>b
 | _=>[]
def defScope(s:Stmt):Scope:=match s with
 | .FunctionDef _ _ _ _ _ _ sc _ _ _=>sc
 | _=>{kind:=.function,names:=[],isGenerator:=false,isCoroutine:=false}
abbrev CX0:CXT:=fun _ _ _ _ _ _=>False
abbrev E0:XK:=fun _ _ _=>False
structure Fun(K:PySem.W.Frag)(x qual:Str)(st:Stmt)(f:Addr)(fd:FuncData):Prop where
 ex:∃(oc:Value) (od:Option Addr) (kV doc pm:Value) (an:Option Addr) (cdv ct:Value) (osl:Array (Option Value)),
  fd=PySem.W.fnOf x qual (defArgs st) (defBody st) (defScope st) .none kV doc pm an cdv ct/\K.lookup f=some ⟨oc,od,.func fd,osl⟩/\PySem.W.codeIn K cdv qual=true
 kp:PySem.W.keepIn K (.ref f)=true
section
variable{P:Program}{w:World}{K:PySem.W.Frag}{mg:Str->Option Value}{base:Heap}
theorem Fun.ok{x qual:Str}{st:Stmt}{f:Addr}{fd:FuncData}{N ps:List Str}{k:Nat}{sp:Sp}(F:Fun K x qual st f fd)(S:FnScope N ps (defScope st))(len:∀vs H Q E,sp vs H Q E->vs.length=ps.length)
  (hbody:∀(cdv:Value) (A:Around) (outer:List Env) (s:Shared) (H:Hp) (vs:List V) (Q:VK) (E:XK),Room k (A.deeper (envOfC qual (defScope st) s.heap.objs.size f cdv))->sp vs H Q E->
   ∃t,PSs (zmc CX0 P w K mg base N qual (defScope st) f cdv A outer s H E).nox (defBody st) t/\t {nx:=fun _ H'=>Q .non H',rt:=Q} (start N vs) H):FnOk P w K mg base CX0 (k+1) f fd ps sp:=by
 obtain⟨oc,od,kV,doc,pm,an,cdv,ct,osl,rfl,lk,hcd⟩:=F.ex
 refine q1j lk hcd S len fun A outer s H vs Q E hr hsp=>?_
 obtain⟨t,h,q⟩:=hbody cdv A outer s H vs Q E hr hsp
 exact⟨t,h.nox,q⟩
theorem Fun.binds{x qual:Str}{st:Stmt}{f:Addr}{fd:FuncData}{ps:List Str}(F:Fun K x qual st f fd)
  (h:∀(kV doc pm:Value) (an:Option Addr) (cdv ct:Value) (us:List Value),us.length=ps.length->bindArgs (PySem.W.fnOf x qual (defArgs st) (defBody st) (defScope st) .none kV doc pm an cdv ct) ⟨us,[]⟩=pure (ps.zip us)):Binds K fd ps []:=by
 obtain⟨oc,od,kV,doc,pm,an,cdv,ct,osl,rfl,lk,hcd⟩:=F.ex
 exact .all (h kV doc pm an cdv ct)
theorem z1c{x qual:Str}{st:Stmt}{f:Addr}{oc:Value}{od an:Option Addr}{osl:Array (Option Value)}{kV doc pm cdv ct:Value}(l:K.lookup f=some ⟨oc,od,.func (PySem.W.fnOf x qual (defArgs st) (defBody st) (defScope st) .none kV doc pm an cdv ct),osl⟩)
  (c:PySem.W.codeIn K cdv qual=true) (k:PySem.W.keepIn K (.ref f)=true):Fun K x qual st f (PySem.W.fnOf x qual (defArgs st) (defBody st) (defScope st) .none kV doc pm an cdv ct):=⟨⟨oc,od,kV,doc,pm,an,cdv,ct,osl,rfl,l,c⟩,k⟩
end
theorem z2k{n:Nat}(h:n<=1000):n < sizeLine:=Nat.lt_of_le_of_lt h (by decide)
section
variable{X:Cx}
theorem pv(i:Nat){x:Str}{pos:Pos}(hN:X.N[i]?=some x:=by rfl)(hv:Vis X.env.scope x:=by first | exact Or.inl rfl | exact Or.inr (Or.inl rfl) | exact Or.inr (Or.inr rfl)) (hd:(x == ("__debug__" : Str))=false:=by decide)
  (hcd:(x == ("__classdict__" : Str))=false:=by decide):PE X (.Name x pos) (zqc i):=z00 hN hv hd hcd
end
def Same(H H':Hp):Prop:=∀b o,H b=some o->H' b=some o
theorem Same.refl(H:Hp):Same H H:=fun _ _ h=>h
theorem Same.trans{H H1 H2:Hp}(a:Same H H1)(b:Same H1 H2):Same H H2:=fun c o h=>b c o (a c o h)
theorem Same.free{H H':Hp}(e:Same H H'){l:Addr}(h:H' l=Option.none):H l=Option.none:=by
 cases q:H l with
 | none=>rfl
 | some o=>
  rw [e l o q] at h
  cases h
theorem Same.seq{K:PySem.W.Frag}{H H':Hp}{a:Addr}{xs:List V}(e:Same H H')(h:SqL K H a xs):SqL K H' a xs:=by
 rcases h with(h | ⟨o,h⟩) | h
 ·exact .inl (.inl (e _ _ h))
 ·exact .inl (.inr ⟨o,e _ _ h⟩)
 ·exact .inr h
end L2
set_option Elab.async false
set_option linter.all false
set_option maxRecDepth 100000
namespace L2
open PySem PySem.Spec PyProof.Rows
theorem zng(env:Env):∀(names:List (Str×NameKind)) (acc:List (Str×Addr)),(∀y∈names,y.2=.free->∃c,env.cells.lookup y.1=some c)->(∀x c,acc.lookup x=some c->env.cells.lookup x=some c)->
  ∃cl,(forIn names acc fun(p:Str×NameKind) (r:List (Str×Addr))=>(match p with | (name,kind)=>if(kind == NameKind.free)=true then(do let c <- cellOf env name; pure (ForInStep.yield ((name,c)::r))) else pure (ForInStep.yield r)):Sem (List (Str×Addr)))=pure cl/\
   (∀x c,cl.lookup x=some c->env.cells.lookup x=some c)/\(∀x,(∃c,acc.lookup x=some c)->∃c,cl.lookup x=some c)/\(∀y∈names,y.2=.free->∃c,cl.lookup y.1=some c)
 | [],acc,_,ha=>⟨acc,by simp,ha,fun _ h=>h,fun _ h=>absurd h (by simp)⟩
 | (n,k)::r,acc,hn,ha=>by
  by_cases hk:k=.free
  ·obtain⟨c,hc⟩:=hn (n,k) List.mem_cons_self hk
   have ha':∀x c',((n,c)::acc).lookup x=some c'->env.cells.lookup x=some c':=fun x c' h=>by
    by_cases hx:x=n
    ·subst hx
     rw [List.lookup_cons_self] at h
     cases h; exact hc
    ·have hx':(x == n)=false:=by simpa using hx
     simp only[List.lookup_cons,hx'] at h
     exact ha x c' h
   obtain⟨cl,e,p1,p2,p3⟩:=zng env r ((n,c)::acc) (fun y hy=>hn y (List.mem_cons_of_mem _ hy)) ha'
   refine⟨cl,?_,p1,fun x ⟨c',hc'⟩=>p2 x ?_,fun y hy hf=>?_⟩
   ·have hco:cellOf env n=pure c:=by unfold cellOf; rw [hc]
    rw [List.forIn_cons]
    subst hk
    simp only[beq_self_eq_true,if_true,hco,pure_bind]
    exact e
   ·by_cases hx:x=n
    ·exact⟨c,by subst hx; rw [List.lookup_cons_self]⟩
    ·have hx':(x == n)=false:=by simpa using hx
     exact⟨c',by simp only[List.lookup_cons,hx']; exact hc'⟩
   ·rcases List.mem_cons.mp hy with rfl | hy
    ·exact p2 _ ⟨c,by rw [List.lookup_cons_self]⟩
    ·exact p3 y hy hf
  ·obtain⟨cl,e,p1,p2,p3⟩:=zng env r acc (fun y hy=>hn y (List.mem_cons_of_mem _ hy)) ha
   refine⟨cl,?_,p1,p2,fun y hy hf=>?_⟩
   ·have hb:(k == NameKind.free)=false:=by simpa using hk
    rw [List.forIn_cons]
    simp only[hb,Bool.false_eq_true,if_false,pure_bind]
    exact e
   ·rcases List.mem_cons.mp hy with rfl | hy
    ·exact absurd hf hk
    ·exact p3 y hy hf
theorem ztc{scope:Scope}{env:Env}(h:∀y∈scope.names,y.2=.free->∃c,env.cells.lookup y.1=some c) :
  ∃cl,closureFor scope env=pure cl/\(∀x c,cl.lookup x=some c->env.cells.lookup x=some c)/\(∀y∈scope.names,y.2=.free->∃c,cl.lookup y.1=some c):=by
 obtain⟨cl,e,p1,_,p3⟩:=zng env scope.names [] h (fun x c q=>by simp at q)
 refine⟨cl,?_,p1,p3⟩
 unfold closureFor
 simp only[bind_pure]
 exact e
theorem z7h{env:Env}:∀{names:List (Str×NameKind)} {x:Str} {k:NameKind},(names.map fun(n,k)=>if(k == NameKind.free && env.scope.kind == .function && env.kindOf n == some .cell) then(n,NameKind.cell) else(n,k)).lookup x=some k->
  (∀y∈names,y.2≠.cell)->k=.cell\/k=.free->names.lookup x=some .free
 | [],_,_,h,_,_=>by simp at h
 | (n,k0)::r,x,k,h,hc,hk=>by
  have ih:=@z7h env r x k
  rw [List.map_cons] at h
  cases hx:x == n with
  | true=>
   have hn:k0≠.cell:=hc (n,k0) List.mem_cons_self
   simp only[List.lookup_cons,hx]
   by_cases hcnd:(k0 == NameKind.free && env.scope.kind == .function && env.kindOf n == some .cell)=true
   ·have:k0=.free:=by
     simp only[Bool.and_eq_true,beq_iff_eq] at hcnd
     exact hcnd.1.1
    rw [this]
   ·dsimp only at h
    rw [if_neg hcnd] at h
    simp only[List.lookup_cons,hx] at h
    have h:k0=k:=by simpa using h
    subst h
    rcases hk with hk | hk
    ·exact absurd hk hn
    ·rw [hk]
  | false=>
   simp only[List.lookup_cons,hx]
   refine ih ?_ (fun y hy=>hc y (List.mem_cons_of_mem _ hy)) hk
   by_cases hcnd:(k0 == NameKind.free && env.scope.kind == .function && env.kindOf n == some .cell)=true
   ·dsimp only at h
    rw [if_pos hcnd] at h
    simp only[List.lookup_cons,hx] at h; exact h
   ·dsimp only at h
    rw [if_neg hcnd] at h
    simp only[List.lookup_cons,hx] at h; exact h
def z51(X:Cx)(N':List Str)(scope:Scope)(cl:List (Str×Addr))(C:Addr)(s₀:Shared)(H₀:Hp)(ex:List Addr):Cx:=
 {X with N:=N',s₀:=s₀,H₀:=H₀,env:=compEnvC scope cl C X.env,outer:=X.stack,stack:=X.stack,ex:=ex,fn:=fun _=>false,pn:=[],xe:=fun _ _=>False}
def subσ(mp:List (Option Nat))(σ : St):St:=mp.map fun o=>match o with | none=>none | some i=>(σ[i]?).getD none
def compOk(N:List Str)(on inn:List (Str×NameKind))(N':List Str)(mp:List (Option Nat)):Bool:=
 mp.length == N'.length && (N'.zip mp).all fun p=>match p.2 with
  | none=>true
  | some i=>N[i]? == some p.1 && inn.lookup p.1 == some .free && on.lookup p.1 == some .cell
abbrev PIfv(X:Cx)(ifs:List Expr)(t:TT):Prop:=
 ∀(pins:List (Addr×Obj)) (s:Shared) (σ : St) (H:Hp) (Q:Bool->Hp->Prop),Inv X pins σ H s->t σ H Q->
  wpAny (model X.prog X.w) X.A (forIn ifs true fun c r=>if r=true then do let ok <- isTrue c X.env (eval c X.env); pure (ForInStep.yield ok) else pure (ForInStep.yield r)) (TP X pins σ Q) X.xe s
structure PIf(X:Cx)(ifs:List Expr)(t:TT):Prop where
 run:PIfv X ifs t
instance{X:Cx}{ifs:List Expr}{t:TT}:CoeFun (PIf X ifs t) (fun _=>PIfv X ifs t):=⟨PIf.run⟩
def ztv:TT:=fun _ H Q=>Q true H
theorem z6q{X:Cx}:PIf X [] ztv:=⟨fun pins s σ H Q I h=>wpAny_tests_nil ⟨H,I,h⟩⟩
theorem zt9{prog:Program}{w:World}{A:Around}{s:Shared}{elt target iter:PySem.Expr}{ifs:List PySem.Expr}{scope:Scope}{pos:Pos}{it acc:Value}{env:Env}{R:Result->Shared->Prop}(I:Nat->Shared->Prop)
  (turn:∀n s,I n s->wpAny (model prog w) A (pyNext it) (fun r s₁=>match r with
   | none=>R (.ok .next) s₁
   | some v=>wpAny (model prog w) A (letOwnedTupleGo target it v) (fun _ s₀=>wpAny (model prog w) A (assign target env v) (fun _ s₂=>
     wpAny (model prog w) A (forIn ifs true fun c r=>if r=true then do let ok <- isTrue c env (eval c env); pure (ForInStep.yield ok) else pure (ForInStep.yield r)) (fun ok s₃=>if ok=true then wpAny (model prog w) A (eval elt env) (fun x s₄=>
      wpAny (model prog w) A (call (.builtin "list.append") [acc,x]) (fun _ s₅=>∃m,m < n/\I m s₅) (fun _ _=>False) s₄) (fun _ _=>False) s₃
      else ∃m,m < n/\I m s₃) (fun _ _=>False) s₂)
     (fun _ _=>False) s₀) (fun _ _=>False) s₁) (fun _ _=>False) s)
  (n:Nat) (h:I n s):codeAny (model prog w) A (.compLoop (.ListComp elt [⟨target,iter,ifs,0⟩] scope pos) 0 it acc env) R s:=by
 refine codeAny_loop rfl I (fun n s hI=>?_) n h
 show wpAny _ A ((compTurn (.ListComp elt [⟨target,iter,ifs,0⟩] scope pos) 0 it acc env).onRaise (fun x=>do noteFrame x env; theTreesLotGoes x)) _ _ s
 refine wpAny_noted ?_
 rw [compTurn_list]
 refine wpAny_bind (wpAny_standAt (wpAny_bind (wpAny_mono (turn n s hI) (fun r s₁ h₁=>?_) fun _ _ h'=>h'.elim)))
 cases r with
 | none=>exact wpAny_pure h₁
 | some v=>
  refine wpAny_bind (wpAny_mono h₁ (fun _ s₀ h₀'=>?_) fun _ _ h'=>h'.elim)
  refine wpAny_bind (wpAny_mono h₀' (fun _ s₂ h₂=>?_) fun _ _ h'=>h'.elim)
  refine wpAny_bind (wpAny_mono h₂ (fun okb s₃ h₃=>?_) fun _ _ h'=>h'.elim)
  cases okb with
  | false=>exact wpAny_pure ⟨rfl,h₃⟩
  | true=>exact wpAny_bind (wpAny_bind (wpAny_mono h₃ (fun x s₄ h₄=>wpAny_bind (wpAny_mono h₄ (fun _ s₅ h₅=>wpAny_pure (wpAny_pure ⟨rfl,h₅⟩)) fun _ _ h'=>h'.elim)) fun _ _ h'=>h'.elim))
theorem Inv.track{X:Cx}{pins:List (Addr×Obj)}{σ : St}{H:Hp}{s:Shared}{a:Addr}{o:HO}(I:Inv X pins σ H s)(hn:H a=none)(f:FpOk X pins H a)(new:ObjOk X.prog X.w (upd H a o) s.heap a o):Inv X pins σ (upd H a o) s:=by
 obtain⟨_,f1,f2,f3,f4,f5⟩:=f
 have na:∀b u,H b=some u->b≠a:=fun b u e=>z1q e hn
 have J:=I.step (g':=s.gens) (t':=s.toks) (d':=s.drawn) (ch:=[a]) (h':=s.heap) (H':=upd H a o) (fun b hb=>by
   have e:b=a:=by simpa using hb
   subst e
   exact⟨f3,f1,f4,f5⟩) (fun b o _ _ _ e _=>e) (fun b o _ _ _ e _=>⟨o.slots,e⟩) (fun b o hb _ n=>by rw [z0s (by simpa using hb)]; exact n) (fun b o _ e=>⟨o,e⟩)
  (fun b xs e=>by rw [z0s (na b _ e)]; exact e) (fun b o u e=>by rw [z0s (na b _ e)]; exact e) (fun b ps e=>⟨#[],by rw [z0s (na b _ e),e]; simp⟩) (fun m hm=>hm) (fun b u e=>by
   by_cases hb:b=a
   ·subst hb; rw [z04] at e; cases e; exact new
   ·rw [z0s hb] at e
    exact(I.hok b u e).stay (fun c v _ q=>q) (fun c q=>by rw [z0s (na c _ q)]; exact q) fun c xs q=>by rw [z0s (na c _ q)]; exact q) I.bare
 exact J
def zjf(wi:TI)(g:TG)(tt:TT)(te:TE)(mp:List (Option Nat)):TE:=fun σ H Q=>wi σ H fun J H1=>∃W:Nat->Nat->List V->St->Hp->Prop,(∃m,W 0 m [] (subσ mp σ) H1)/\∀i m ys σ H,W i m ys σ H->
 (J.stop i H/\ys.length<=sizeLine/\∀p,H p=none->Q (.ref p) (upd H p (.lst ys)))\/(J.go i H/\ys.length < sizeLine/\∃N:List V->St->Hp->Prop,(∀ys' σ' H',N ys' σ' H'->∃m',m' < m/\W (i+1) m' ys' σ' H')/\∀x H',J.yld i H x H'->g x σ H' fun σ2 H2=>tt σ2 H2 fun b H3=>
  if b=true then te σ2 H3 (fun v H4=>N (ys++[v]) σ2 H4) else N ys σ2 H3)
structure CompS(X:Cx)(N':List Str)(scope:Scope)(mp:List (Option Nat)):Prop where
 kind:scope.kind=.function
 nocell:∀y∈scope.names,y.2≠.cell
 locs:∀y∈scope.names,y.2=.local->scope.names.lookup y.1=some .local
 frees:∀y∈scope.names,y.2=.free->X.env.scope.names.lookup y.1=some .cell
 ok:compOk X.N X.env.scope.names scope.names N' mp=true
theorem zq5{N:List Str}{on inn:List (Str×NameKind)}{N':List Str}{mp:List (Option Nat)}(h:compOk N on inn N' mp=true):mp.length=N'.length/\∀(j:Nat) (x:Str) (i:Nat),N'[j]?=some x->mp[j]?=some (some i)->N[i]?=some x/\inn.lookup x=some .free/\on.lookup x=some .cell:=by
 unfold compOk at h
 rw [Bool.and_eq_true] at h
 obtain⟨h1,h2⟩:=h
 refine⟨by simpa using h1,fun j x i e1 e2=>?_⟩
 have hm:(x,some i)∈N'.zip mp:=by
  refine List.mem_of_getElem? (i:=j) ?_
  rw [List.getElem?_zip_eq_some]
  exact⟨e1,e2⟩
 have q:=List.all_eq_true.mp h2 _ hm
 simp only[Bool.and_eq_true,beq_iff_eq] at q
 exact⟨q.1.1,q.1.2,q.2⟩
theorem subσ_get{mp:List (Option Nat)}{σ : St}{j:Nat}{v:V}(h:(subσ mp σ)[j]?=some (some v)):∃i,mp[j]?=some (some i)/\σ[i]?=some (some v):=by
 unfold subσ at h
 rw [List.getElem?_map] at h
 cases e:mp[j]? with
 | none=>rw [e] at h; cases h
 | some o=>
  rw [e] at h
  cases o with
  | none=>simp at h
  | some i=>
   refine⟨i,rfl,?_⟩
   cases e2 : σ[i]? with
   | none=>simp[e2] at h
   | some z=>
    simp[e2] at h
    rw [h]
section
variable{X:Cx}{pins:List (Addr×Obj)}{σ : St}{H:Hp}
theorem zlz{elt tg iter:Expr}{ifs:List Expr}{scope:Scope}{pos:Pos}{N':List Str}{mp:List (Option Nat)}{g:TG}{tt:TT}{te:TE}{s₂:Shared}{it:Addr}{fp:List Addr}{tn:Nat->Heap->Prop}{J:It}{cl:List (Str×Addr)}
  {Qe:V->Hp->Prop} {RR:Value->Addr->Result->Shared->Prop} {E:Value->Shared->Prop} (hc:X.calm=true) (S:CompS X N' scope mp)
  (hcl:∀x c,cl.lookup x=some c->X.env.cells.lookup x=some c) (hcf:∀y∈scope.names,y.2=.free->∃c,cl.lookup y.1=some c)
  (hg:∀C s₀ H₀ ex,PG (z51 X N' scope cl C s₀ H₀ ex) tg g) (ht:∀C s₀ H₀ ex,PIf (z51 X N' scope cl C s₀ H₀ ex) ifs tt) (he:∀C s₀ H₀ ex,PE (z51 X N' scope cl C s₀ H₀ ex) elt te)
  (I:Inv X pins σ H s₂) (T:Turn X.prog X.w X.K tg J fp it tn) (st:tn 0 s₂.heap) (hf:∀b∈fp,FpOk X pins H b)
  (hw:∃W:Nat->Nat->List V->St->Hp->Prop,(∃m,W 0 m [] (subσ mp σ) H)/\∀i m ys σ H,W i m ys σ H->
   (J.stop i H/\ys.length<=sizeLine/\∀p,H p=none->Qe (.ref p) (upd H p (.lst ys)))\/(J.go i H/\ys.length < sizeLine/\∃N:List V->St->Hp->Prop,(∀ys' σ' H',N ys' σ' H'->∃m',m' < m/\W (i+1) m' ys' σ' H')/\∀x H',J.yld i H x H'->g x σ H' fun σ2 H2=>tt σ2 H2 fun b H3=>
  if b=true then te σ2 H3 (fun v H4=>N (ys++[v]) σ2 H4) else N ys σ2 H3))
  (hR:∀(D C:Addr) (H':Hp) (s':Shared),Inv X pins σ H' s'->Qe (.ref D) H'->(∃m,s'.heap.Ns C m)->FpOk X pins H' C->RR (.ref D) C (.ok .next) s') :
  wpAny (model X.prog X.w) X.A (newList []) (fun acc s₃=>wpAny (model X.prog X.w) X.A (newFunctionEnv scope X.env.globals cl [] X.env.qual none .none (some X.env)) (fun cenv s₄=>
   codeAny (model X.prog X.w) X.A (.compStart (.ListComp elt [⟨tg,iter,ifs,0⟩] scope pos) 0 (.ref it) acc {cenv with scope:=relabel scope X.env}) (RR acc cenv.locals) s₄) E s₃) E s₂:=by
 obtain⟨W,⟨m0,w0⟩,turn⟩:=hw
 refine wpAny_newObj_type (wpAny_newFunctionEnv S.nocell (by intro y hy; simp at hy) (fun h₁ hns₁ hsb₁=>?_) S.kind)
 dsimp only at hns₁ hsb₁ |-
 generalize hH2:s₂.heap.push {cls:=.type "list",dict:=none,data:=.seq ([]:List Value).toArray}=H2 at hns₁ hsb₁ |-
 have hCs:H2.objs.size=s₂.heap.objs.size+1:=by rw [<- hH2,Heap.size_push]
 have I3:Inv X pins σ H {s₂ with heap:=H2}:=by
  rw [<- hH2]
  exact I.kept (t':=s₂.toks) fun b o e=>Heap.get?_push_of_some _ e
 have k1:∀b u,H2.get? b=some u->h₁.get? b=some u:=fun b u e=>hsb₁.extBut b u (Nat.ne_of_lt (Heap.lt_size e)) (Heap.get?_push_of_some _ e)
 have accOk:FpOk X pins H s₂.heap.objs.size:=I.fpOk (Nat.le_refl _) (I.hok.fresh (Nat.le_refl _))
 have COk:FpOk X pins H H2.objs.size:=I3.fpOk (Nat.le_refl _) (I3.hok.fresh (Nat.le_refl _))
 have fpLt:∀b∈fp,b < s₂.heap.objs.size:=fun b hb=>let ⟨o,e,_⟩:=T.obj 0 _ st b hb; Heap.lt_size e
 have accNf:s₂.heap.objs.size∉fp:=fun z=>absurd (fpLt _ z) (Nat.lt_irrefl _)
 have accNC:s₂.heap.objs.size≠H2.objs.size:=by rw [hCs]; exact Nat.ne_of_lt (Nat.lt_succ_self _)
 have exAll:∀b∈s₂.heap.objs.size::fp,FpOk X pins H b:=fun b hb=>(List.mem_cons.mp hb).elim (fun e=>e ▸ accOk) (hf b)
 have exNC:∀b∈s₂.heap.objs.size::fp,b≠H2.objs.size:=fun b hb=>(List.mem_cons.mp hb).elim (fun e=>e ▸ accNC) fun z=>Nat.ne_of_lt (Nat.lt_trans (fpLt b z) (by rw [hCs]; exact Nat.lt_succ_self _))
 have stkN:∀b,FpOk X pins H b->b∉frs X.stack:=fun b f z=>(List.mem_cons.mp (I.stkSub b z)).elim f.2.1 f.2.2.1
 have ok':(z51 X N' scope cl H2.objs.size {s₂ with heap:=H2} H (s₂.heap.objs.size::fp)).Ok:=by
  refine⟨I.ok.mod,S.kind,I.ok.glob,I.ok.blt,Nat.le_refl _,fun x y c h1 h2=>I.ok.inj x y c (hcl x c h1) (hcl y c h2),fun x hx=>?_,fun x c hx=>absurd hx (by show ¬ false=true; decide),I.ok.hd,I.ok.frames,.inl rfl,
   fun b hb=>⟨exNC b hb,fun x c e=>(exAll b hb).2.2.2.2.1 x c (hcl x c e)⟩,fun b o e=>I3.bs b o e,Nat.le_trans I.ok.bsz I3.sz,fun b o e hb=>?_,fun b hb=>stkN b (exAll b hb),I3.stack,I3.stkFree⟩
  ·have hx':(relabel scope X.env).names.lookup x=some .cell\/(relabel scope X.env).names.lookup x=some .free:=hx
   have hfree:scope.names.lookup x=some .free:=by
    rcases hx' with z | z
    ·exact z7h z S.nocell (.inl rfl)
    ·exact z7h z S.nocell (.inr rfl)
   exact hcf (x,.free) (PySem.mem_of_lookup hfree) rfl
  ·rcases(exAll b hb).2.2.2.1 with z | z
   ·exact I.ok.noex b o e z
   ·exact absurd (Nat.lt_of_lt_of_le (Heap.lt_size e) (Nat.le_trans I.ok.bsz z)) (Nat.lt_irrefl _)
 obtain⟨hml,hmp⟩:=zq5 S.ok
 let XC:=z51 X N' scope cl H2.objs.size {s₂ with heap:=H2} H (s₂.heap.objs.size::fp)
 have J4:Inv (z51 X N' scope cl H2.objs.size {s₂ with heap:=H2} H (s₂.heap.objs.size::fp)) [] (subσ mp σ) H {s₂ with heap:=h₁,toks:=s₂.toks+([]:List (Str×Value)).length}:=by
  refine⟨ok',rfl,I.bare,Un.kept k1,⟨_,hns₁,fun j x v e1 e2 e3=>?_⟩,fun x c e=>?_,COk.1,fun x c e=>I.freeC x c (hcl x c e),fun p hp=>absurd (show p∈([]:List (Addr×Obj)) from hp) (by simp),I3.hok.kept k1,by show(subσ mp σ).length=N'.length; unfold subσ; rw [List.length_map,hml]⟩
  ·obtain⟨i,q1,q2⟩:=subσ_get e2
   obtain⟨n1,n2,n3⟩:=hmp j x i e1 q1
   obtain⟨m,hn,hl⟩:=I3.loc
   obtain⟨u,ru,lk⟩:=hl i x v n1 q2 (.inr (.inl n3))
   refine⟨u,ru,?_⟩
   rcases lk with⟨z,_⟩ | ⟨_,c,ec,z⟩
   ·have z':X.env.scope.names.lookup x=some .local:=z
    rw [n3] at z'; cases z'
   ·obtain⟨c',ec'⟩:=hcf (x,.free) (PySem.mem_of_lookup n2) rfl
    have e4:=hcl x c' ec'
    rw [ec] at e4; cases e4
    refine .inr ⟨?_,c,ec',?_⟩
    ·have z3:(relabel scope X.env).names.lookup x=some .local\/(relabel scope X.env).names.lookup x=some .cell\/(relabel scope X.env).names.lookup x=some .free:=e3
     rcases z3 with z3 | z3 | z3
     ·exfalso
      have:∀(names:List (Str×NameKind)),names.lookup x=some .free->(names.map fun(n,k)=>if(k == NameKind.free && X.env.scope.kind == .function && X.env.kindOf n == some .cell) then(n,NameKind.cell) else(n,k)).lookup x≠some .local:=by
       intro names
       induction names with
       | nil=>intro h; simp at h
       | cons p r ih=>
        obtain⟨n,k⟩:=p
        intro h
        cases hx:x == n with
        | true=>
         simp only[List.lookup_cons,hx] at h
         cases h
         rw [List.map_cons]
         dsimp only
         split<;>simp[List.lookup_cons,hx]
        | false=>
         simp only[List.lookup_cons,hx] at h
         rw [List.map_cons]
         dsimp only
         split<;>(simp only[List.lookup_cons,hx]; exact ih h)
      exact this scope.names n2 z3
     ·exact .inl z3
     ·exact .inr z3
    ·obtain⟨o,ho,hd⟩:=z
     exact⟨o,k1 _ _ ho,hd⟩
  ·obtain⟨v,o,ho,hd⟩:=I3.cell x c (hcl x c e)
   exact⟨v,o,k1 _ _ ho,hd⟩
 have acc4:h₁.get? s₂.heap.objs.size=some {cls:=.type "list",data:=.seq ([]:List Value).toArray 0}:=k1 _ _ (by rw [<- hH2]; exact Heap.get?_push_size _ rfl)
 have st4:tn 0 h₁:=T.keep _ _ _ st fun b _ o e=>k1 b o (by rw [<- hH2]; exact Heap.get?_push_of_some _ e)
 have fp4:∀{H':Hp},(∀b∈fp,H' b=none)->∀b∈fp,FpOk (z51 X N' scope cl H2.objs.size {s₂ with heap:=H2} H (s₂.heap.objs.size::fp)) [] H' b:=fun hn b hb=>
  ⟨hn b hb,exNC b (List.mem_cons_of_mem _ hb),stkN b (hf b hb),.inl (List.mem_cons_of_mem _ hb),fun x c e=>(hf b hb).2.2.2.2.1 x c (hcl x c e),fun p hp=>absurd (show p∈([]:List (Addr×Obj)) from hp) (by simp)⟩
 have acc5:∀{H':Hp},H' s₂.heap.objs.size=none->FpOk (z51 X N' scope cl H2.objs.size {s₂ with heap:=H2} H (s₂.heap.objs.size::fp)) [] H' s₂.heap.objs.size:=fun hn=>
  ⟨hn,accNC,stkN _ accOk,.inl List.mem_cons_self,fun x c e=>accOk.2.2.2.2.1 x c (hcl x c e),fun p hp=>absurd (show p∈([]:List (Addr×Obj)) from hp) (by simp)⟩
 have loop:∀s₃:Shared,s₃ = {s₂ with heap:=h₁,toks:=s₂.toks+([]:List (Str×Value)).length}->
   codeAny (model X.prog X.w) X.A (.compLoop (.ListComp elt [⟨tg,iter,ifs,0⟩] scope pos) 0 (.ref it) (.ref s₂.heap.objs.size) (compEnvC scope cl H2.objs.size X.env)) (RR (.ref s₂.heap.objs.size) H2.objs.size) s₃:=by
  rintro s₃ rfl
  refine zt9 (fun n s'=>∃i σ' H' ys its k,Inv (z51 X N' scope cl H2.objs.size {s₂ with heap:=H2} H (s₂.heap.objs.size::fp)) [] σ' H' s'/\tn i s'.heap/\(∀b∈fp,H' b=none)/\H' s₂.heap.objs.size=none/\
   Vals ys its/\s'.heap.get? s₂.heap.objs.size=some {cls:=.type "list",data:=.seq its.toArray k}/\W i n ys σ' H') ?_ m0 ⟨0,subσ mp σ,H,[],[],0,J4,st4,fun b hb=>(hf b hb).1,accOk.1,.nil,acc4,w0⟩
  rintro n s5 ⟨i,σ5,H5,ys,its,k,J5,st5,fr5,an5,vy,ea,w5⟩
  have zv:its.length=ys.length:=vy.length.symm
  have pinOk:∀{σ':St} {H':Hp} {s':Shared} {o:Obj},Inv XC [] σ' H' s'->H' s₂.heap.objs.size=none->s'.heap.get? s₂.heap.objs.size=some o->(∀v,o.data≠.cell v)->Inv XC [(s₂.heap.objs.size,o)] σ' H' s':=fun {σ' H' s' o} J a1 a2 a3=>J.pins_of fun p hp=>by
   have e:p=(s₂.heap.objs.size,o):=by simpa using hp
   subst e
   exact⟨a2,a1,accNC,stkN _ accOk,a3⟩
  have fp5:∀{H':Hp} {o:Obj},(∀b∈fp,H' b=none)->∀b∈fp,FpOk XC [(s₂.heap.objs.size,o)] H' b:=fun {H' o} hn b hb=>by
   obtain⟨c1,c2,c3,c4,c5,_⟩:=fp4 hn b hb
   refine⟨c1,c2,c3,c4,c5,fun p hp=>?_⟩
   have e:p=(s₂.heap.objs.size,o):=by
    have hp':p∈([]++[(s₂.heap.objs.size,o)]:List (Addr×Obj)):=hp
    simpa using hp'
   subst e
   intro z
   exact accNf (by rw [show s₂.heap.objs.size=b from z]; exact hb)
  have noc:∀(us:List Value) (k:Nat) (v:Option Value),({cls:=.type "list",data:=.seq us.toArray k}:Obj).data≠.cell v:=fun us k v z=>by
   have z':Data.seq us.toArray k=Data.cell v:=z
   cases z'
  have J5p:=pinOk J5 an5 ea (noc its k)
  rcases turn i n ys σ5 H5 w5 with⟨stop,zl,qn⟩ | ⟨go,zl,N,hN,step⟩
  ·refine thn (T.done XC rfl rfl rfl hc i _ s5 σ5 H5 _ J5p (fp5 fr5) st5 stop) fun r s6 ⟨hr,J6⟩=>?_
   subst hr
   have I6:Inv X pins σ H5 s6:=I3.call' (ch:=s₂.heap.objs.size::fp) (show s6.os=_ from J6.os) J6.base J6.hok J6.bare fun b hb=>let ⟨_,a1,_,a3,a4,a5⟩:=exAll b hb; ⟨a3,a1,a4,a5⟩
   have ea6:s6.heap.get? s₂.heap.objs.size=some {cls:=.type "list",data:=.seq its.toArray k}:=(J6.pin _ (List.mem_append_right _ (List.mem_singleton.mpr rfl))).1
   have I7:Inv X pins σ (upd H5 s₂.heap.objs.size (.lst ys)) s6:=I6.track an5 ⟨an5,accOk.2⟩ ⟨zl,its,k,vy,ea6⟩
   obtain⟨m,hm,_⟩:=J6.loc
   exact hR _ _ _ s6 I7 (qn _ an5) ⟨m,hm⟩ ⟨by rw [z0s (Ne.symm accNC)]; exact J6.free,COk.2⟩
  ·refine thn (T.item XC rfl rfl rfl hc i _ s5 σ5 H5 _ J5p (fp5 fr5) st5 go) fun r s6 ⟨u,hr,h6⟩=>?_
   subst hr
   refine thn h6 fun _ s7 ⟨x,H7,J7,r7,y7,st7,fr7⟩=>?_
   have an7:H7 s₂.heap.objs.size=none:=(J7.pin _ (List.mem_append_right _ (List.mem_singleton.mpr rfl))).2.1
   have J7':=J7.pinned (fp5 fr7) (T.obj _ _ st7)
   refine thn (hg _ _ _ _ _ s7 σ5 H7 x u _ J7' r7 (step x H7 y7)) fun _ s8 ⟨σ8,H8,J8,q8⟩=>?_
   refine thn (ht _ _ _ _ _ s8 σ8 H8 _ J8 q8) fun b s9 ⟨H9,J9,q9⟩=>?_
   have q1u:∀{σ':St} {H':Hp} {s':Shared},Inv XC ([(s₂.heap.objs.size,({cls:=.type "list",data:=.seq its.toArray k}:Obj))]++zkw fp s7.heap) σ' H' s'->
     Inv XC [] σ' H' s'/\tn (i+1) s'.heap/\(∀b∈fp,H' b=none)/\H' s₂.heap.objs.size=none/\s'.heap.get? s₂.heap.objs.size=some {cls:=.type "list",data:=.seq its.toArray k}:=fun {σ' H' s'} K=>by
    have pa:=K.pin (s₂.heap.objs.size,{cls:=.type "list",data:=.seq its.toArray k}) (List.mem_append_right _ (List.mem_append_left _ (List.mem_singleton.mpr rfl)))
    refine⟨K.pins_of (fun p hp=>absurd hp (by simp)),T.keep _ _ _ st7 fun b hb o e=>(K.pin (b,o) (List.mem_append_right _ (List.mem_append_right _ (zad hb e)))).1,fun b hb=>?_,pa.2.1,pa.1⟩
    obtain⟨o,e,d⟩:=T.obj _ _ st7 b hb
    exact(K.pin (b,o) (List.mem_append_right _ (List.mem_append_right _ (zad hb e)))).2.1
   cases b with
   | false=>
    rw [if_neg Bool.false_ne_true] at q9
    rw [if_neg Bool.false_ne_true]
    obtain⟨m',hm',w'⟩:=hN _ _ _ q9
    obtain⟨K1,K2,K3,K4,K5⟩:=q1u J9
    exact⟨m',hm',i+1,σ8,H9,ys,its,k,K1,K2,K3,K4,vy,K5,w'⟩
   | true=>
    rw [if_pos rfl] at q9
    rw [if_pos rfl]
    refine thn (he _ _ _ _ _ s9 σ8 H9 _ J9 q9) fun z s10 ⟨v,H10,J10,r10,q10⟩=>?_
    obtain⟨m',hm',w'⟩:=hN _ _ _ q10
    obtain⟨K1,K2,K3,K4,K5⟩:=q1u J10
    refine call_meets F.slot_list_append ⟨_,K5,rfl⟩ F.entry_list_append (F.args_list_append_2 _ _) (PySem.list_append s₂.heap.objs.size its.toArray k z (by rw [List.size_toArray]; omega)) ⟨K5,?_⟩
    have qa:=PySem.IsL.update K5 (fun x_1=>x_1.push z)
    have eqa:its.toArray.push z=(its++[z]).toArray:=by simp
    rw [eqa] at qa
    have kk:∀b o,b≠s₂.heap.objs.size->s10.heap.get? b=some o->(s10.heap.update s₂.heap.objs.size (Obj.mapSeq fun x_1=>x_1.push z)).get? b=some o:=fun b o hb hu=>(Heap.get?_update_other s10.heap (Obj.mapSeq fun x_1=>x_1.push z) (Ne.symm hb)).trans hu
    obtain⟨d0,d1,d2,d3,d4,d5⟩:=acc5 K4
    have K1':=K1.turned (h':=s10.heap.update s₂.heap.objs.size (Obj.mapSeq fun x_1=>x_1.push z)) (t':=s10.toks) kk d0 d1 d3 d4 d5
    exact⟨m',hm',i+1,σ8,H10,ys++[v],its++[z],_,K1',T.keep _ _ _ K2 (fun b hb o e=>kk b o (fun y=>accNf (by rw [<- y]; exact hb)) e),K3,K4,vy.append (.cons r10 .nil),qa,w'⟩
 exact codeAny_compStart_list (loop _ rfl) (T.self _ _ _ _ _ st4 (loop _ rfl))
theorem z9t{elt tg iter:Expr}{ifs:List Expr}{scope:Scope}{pos:Pos}(N':List Str)(mp:List (Option Nat)){wi:TI}{g:TG}{tt:TT}{te:TE}(hc:X.calm=true)(S:CompS X N' scope mp)(hi:PI X tg iter wi)
  (hg:∀cl C s₀ H₀ ex,PG (z51 X N' scope cl C s₀ H₀ ex) tg g) (ht:∀cl C s₀ H₀ ex,PIf (z51 X N' scope cl C s₀ H₀ ex) ifs tt) (he:∀cl C s₀ H₀ ex,PE (z51 X N' scope cl C s₀ H₀ ex) elt te)
  (hs:∀x,foldedSetIterable iter X.env x=pure x:=by intro _; rfl):PE X (.ListComp elt [⟨tg,iter,ifs,0⟩] scope pos) (zjf wi g tt te mp):=by
 refine⟨?_⟩
 intro pins s σ H Q I h
 obtain⟨cl,e0,e1,e2⟩:=ztc (scope:=scope) (env:=X.env) fun y hy hf=>I.ok.has y.1 (.inl (S.frees y hy hf))
 rw [eval_ListComp]
 refine wpAny_comprehension_free (use:=none) rfl hs e0 S.kind S.locs (thn (hi pins s σ H _ I h) fun v s1 h1=>thn h1 fun itv s2 h2=>?_)
 obtain⟨it,fp,tn,J,H2,e,I2,T,st2,f2,hw⟩:=h2
 subst e
 refine zlz (Qe:=Q) (RR:=fun acc C=>compPost (model X.prog X.w) X.A X.xe none (EP X pins σ Q) acc C) hc S e1 e2 (hg cl) (ht cl) (he cl) I2 T st2 f2 hw fun D C H' s' I' q ⟨m,hm⟩ ⟨f0,f1,_,f3,f4,f5⟩=>?_
 exact⟨m,hm,fun h' sb=>⟨.ref D,H',I'.turned (t':=s'.toks) (fun b o hb e=>(sb.2 b hb).trans e) f0 f1 f3 f4 f5,rfl,q⟩⟩
theorem zmo{elt tg iter:Expr}{ifs:List Expr}{scope:Scope}{pos pos' cpos:Pos}{i:Nat}{x:Str}(N':List Str)(mp:List (Option Nat)){wi:TI}{g:TG}{tt:TT}{te:TE}(hN:X.N.Nodup)(hxi:X.N[i]?=some x)(hx:Loc X.env.scope x)
  (hc:X.calm=true) (S:CompS X N' scope mp) (hi:PI X tg iter wi)
  (hg:∀cl C s₀ H₀ ex,PG (z51 X N' scope cl C s₀ H₀ ex) tg g) (ht:∀cl C s₀ H₀ ex,PIf (z51 X N' scope cl C s₀ H₀ ex) ifs tt) (he:∀cl C s₀ H₀ ex,PE (z51 X N' scope cl C s₀ H₀ ex) elt te)
  (hsw:swapsWith (.ListComp elt [⟨tg,iter,ifs,0⟩] scope cpos) (some (.Name x pos')) pos.line X.env=pure true:=by rfl)
  (hs:∀x,foldedSetIterable iter X.env x=pure x:=by intro _; rfl) (hf:X.fn x=true\/X.env.scope.names.lookup x=some .local:=by first | exact .inl rfl | exact .inr rfl | assumption) :
  PS X (.Assign [.Name x pos'] (.ListComp elt [⟨tg,iter,ifs,0⟩] scope cpos) pos) (zws (zjf wi g tt te mp) (zft i)):=by
 refine⟨?_⟩
 intro pins s σ H D I h
 obtain⟨cl,e0,e1,e2⟩:=ztc (scope:=scope) (env:=X.env) fun y hy hf=>I.ok.has y.1 (.inl (S.frees y hy hf))
 rw [exec_Assign_Name_used _ _ _ _ hsw]
 refine wpAny_bind (wpAny_standAt (wpAny_bind ?_))
 show wpAny _ X.A (do let _ <- comprehension (.ListComp elt [⟨tg,iter,ifs,0⟩] scope cpos) scope X.env _ (newList []) false (eval iter X.env) (some (assign (.Name x pos') X.env))) _ _ s
 refine wpAny_bind (wpAny_mono (wpAny_comprehension_free (use:=some (assign (.Name x pos') X.env)) (Q:=fun _ s'=>SP X pins D .next s') rfl hs e0 S.kind S.locs
  (thn (hi pins s σ H _ I h) fun v s1 h1=>thn h1 fun itv s2 h2=>?_)) (fun _ s' hq=>wpAny_pure (wpAny_pure hq)) fun _ _ e=>e)
 obtain⟨it,fp,tn,J,H2,e,I2,T,st2,f2,hw⟩:=h2
 subst e
 refine zlz (Qe:=fun x H1=>zft i x σ H1 D.nx) (RR:=fun acc C=>compPost (model X.prog X.w) X.A X.xe (some (assign (.Name x pos') X.env)) (fun _ s'=>SP X pins D .next s') acc C) hc S e1 e2 (hg cl) (ht cl) (he cl) I2 T st2 f2 hw fun D' C H' s' I' q ⟨m,hm⟩ ⟨f0,f1,_,f3,f4,f5⟩=>?_
 show wpAny _ X.A (assign (.Name x pos') X.env (.ref D')) _ _ _
 refine wpAny_assign_Name (zkn I' hN hxi hx (v:=.ref D') rfl (fun s'' I'' ⟨a,sb,ha⟩=>?_) hf)
 have hCa:C≠a:=by
  rcases ha with ha | ha
  ·rw [ha]; exact f1
  ·exact fun z=>f4 x a ha z.symm
 refine⟨m,hm.sameBut sb hCa,fun h' sb'=>?_⟩
 exact⟨_,H',I''.turned (t':=s''.toks) (fun b o hb e=>(sb'.2 b hb).trans e) f0 f1 f3 f4 f5,q⟩
end
section
variable{K:PySem.W.Frag}{a:Addr}{xs:List V}{g:TG}{tt:TT}{te:TE}{σ : St}{H:Hp}{Q:VK}
abbrev zaw(J:It)(g:TG)(tt:TT)(te:TE)(Q:VK)(σ : St)(H:Hp):Prop:=∃W:Nat->Nat->List V->St->Hp->Prop,(∃m,W 0 m [] σ H)/\∀i m ys σ H,W i m ys σ H->
 (J.stop i H/\ys.length<=sizeLine/\∀p,H p=none->Q (.ref p) (upd H p (.lst ys)))\/(J.go i H/\ys.length < sizeLine/\∃N:List V->St->Hp->Prop,(∀ys' σ' H',N ys' σ' H'->∃m',m' < m/\W (i+1) m' ys' σ' H')/\∀x H',J.yld i H x H'->g x σ H' fun σ2 H2=>tt σ2 H2 fun b H3=>
  if b=true then te σ2 H3 (fun v H4=>N (ys++[v]) σ2 H4) else N ys σ2 H3)
theorem zhu(Pv:Nat->List V->St->Hp->Prop)(h0:Pv 0 [] σ H)(hz:xs.length < sizeLine)(hy:∀i ys σ H,Pv i ys σ H->ys.length<=i)(hl:∀i ys σ H,i<=xs.length->Pv i ys σ H->SqL K H a xs)
  (hs:∀i ys x σ H,xs[i]?=some x->Pv i ys σ H->g x σ H fun σ2 H2=>tt σ2 H2 fun b H3=>if b=true then te σ2 H3 (fun v H4=>Pv (i+1) (ys++[v]) σ2 H4) else Pv (i+1) ys σ2 H3)
  (hd:∀ys σ H,Pv xs.length ys σ H->∀p,H p=none->Q (.ref p) (upd H p (.lst ys))):zaw (Itl K a) g tt te Q σ H:=by
 refine⟨fun i m ys σ H=>m=xs.length - i/\i<=xs.length/\Pv i ys σ H,⟨xs.length,by simp,Nat.zero_le _,h0⟩,?_⟩
 rintro i m ys σ H ⟨rfl,hi,p⟩
 have q:=hl i ys σ H hi p
 have hyl:=hy i ys σ H p
 by_cases hlt:i < xs.length
 ·refine .inr ⟨⟨xs,xs[i],q,by simp[hlt]⟩,by omega,Pv (i+1),fun ys' σ' H' p'=>⟨xs.length - (i+1),by omega,rfl,hlt,p'⟩,fun x H' y=>?_⟩
  obtain⟨e,y⟩:=y
  subst e
  exact hs i ys x σ _ (y xs q) p
 ·have e:i=xs.length:=by omega
  subst e
  exact .inl ⟨⟨xs,q,Nat.le_refl _⟩,by omega,hd ys σ H p⟩
theorem zol(Pv:Nat->List V->St->Hp->Prop)(h0:Pv 0 [] σ H)(hz:xs.length < sizeLine)(hy:∀i ys σ H,Pv i ys σ H->ys.length<=i)(hl:∀i ys σ H,i<=xs.length->Pv i ys σ H->SqT K H a xs)
  (hs:∀i ys x σ H,xs[i]?=some x->Pv i ys σ H->g x σ H fun σ2 H2=>tt σ2 H2 fun b H3=>if b=true then te σ2 H3 (fun v H4=>Pv (i+1) (ys++[v]) σ2 H4) else Pv (i+1) ys σ2 H3)
  (hd:∀ys σ H,Pv xs.length ys σ H->∀p,H p=none->Q (.ref p) (upd H p (.lst ys))):zaw (Itt K a) g tt te Q σ H:=by
 refine⟨fun i m ys σ H=>m=xs.length - i/\i<=xs.length/\Pv i ys σ H,⟨xs.length,by simp,Nat.zero_le _,h0⟩,?_⟩
 rintro i m ys σ H ⟨rfl,hi,p⟩
 have q:=hl i ys σ H hi p
 have hyl:=hy i ys σ H p
 by_cases hlt:i < xs.length
 ·refine .inr ⟨⟨xs,xs[i],q,by simp[hlt]⟩,by omega,Pv (i+1),fun ys' σ' H' p'=>⟨xs.length - (i+1),by omega,rfl,hlt,p'⟩,fun x H' y=>?_⟩
  obtain⟨e,y⟩:=y
  subst e
  exact hs i ys x σ _ (y xs q) p
 ·have e:i=xs.length:=by omega
  subst e
  exact .inl ⟨⟨xs,q,Nat.le_refl _⟩,by omega,hd ys σ H p⟩
end
end L2
set_option Elab.async false
set_option linter.all false
set_option maxRecDepth 100000
namespace L2
open PySem PySem.Spec PyProof.Rows
section
variable{X:Cx}
def zgj(K:PySem.W.Frag):R2:=fun x y H Q=>∃a b xs ys,x=.ref a/\y=.ref b/\SqT K H a xs/\SqT K H b ys/\xs.length+ys.length<=sizeLine/\
 (xs=[]->Q (.ref b) H)/\(xs≠[]->ys=[]->Q (.ref a) H)/\(xs≠[]->ys≠[]->∀p,H p=none->Q (.ref p) (upd H p (.tup (xs++ys))))
theorem z5f:OpR X (binaryOp .Add) (zgj X.K):=by
 intro pins s σ H x y v u Q I rx ry h
 obtain⟨a,b,xs,ys,rfl,rfl,ha,hb,hz,q0,q1,q2⟩:=h
 by_cases hx:xs=[]
 ·cases rx
  cases ry
  obtain⟨its,r1,p1,_⟩:=I.tuple ha
  obtain⟨its2,r2,p2,_⟩:=I.tuple hb
  obtain⟨⟨cls,dd,data,sl⟩,ho,hc,n,hd⟩:=id p1
  obtain⟨⟨cls2,dd2,data2,sl2⟩,ho2,hc2,n2,hd2⟩:=id p2
  simp only at hc hd hc2 hd2
  subst hc hd hc2 hd2
  have he:its=[]:=r1.nil_iff.mpr hx
  exact concat_meets ⟨_,ho,rfl⟩ ⟨_,ho2,rfl⟩ noFill_tuple_add seq_tuple_add PySem.F.slot_tuple_add PySem.F.entry_tuple_add (PySem.F.args_tuple_add_2 _ _)
   (tuple_addW0 a b its.toArray its2.toArray n n2 dd dd2 sl sl2 (by simp[he])) ⟨ho,ho2,⟨.ref b,H,I,rfl,q0 hx⟩⟩
 ·exact zxe pins s σ H _ _ v u Q I rx ry ⟨a,b,xs,ys,rfl,rfl,ha,hb,hx,hz,q1 hx,q2 hx⟩
def zok:V->PyData
 | .bl b=>.bool b
 | .int i=>.int i
 | .str x=>.str x
 | _=>.none
theorem zpb{h:Heap}{x:V}{u:Value}(r:RelV x u)(f:zav x=true):Reads h u (zok x) []:=by
 cases x with
 | non=>cases r; exact .none
 | bl b=>cases r; exact .bool b
 | int i=>obtain⟨t,rfl⟩:=r; exact .int i t
 | str z=>obtain⟨t,rfl⟩:=r; exact .str z t
 | _=>exact absurd (show false=true from f) Bool.false_ne_true
theorem zcd{h:Heap}:∀{xs:List V} {us:List Value},Vals xs us->xs.all zav=true->ReadsAll h us (xs.map zok) []
 | _,_,.nil,_=>.nil
 | _::_,_::_,.cons r t,f=>by
  rw [List.all_cons,Bool.and_eq_true] at f
  exact .cons (zpb r f.1) (zcd t f.2)
def okV:V->Bool
 | .non=>true
 | .bl _=>true
 | .int _=>true
 | .str z=>PyData.strOk z
 | _=>false
theorem okV.flat{x:V}(h:okV x=true):zav x=true:=by
 cases x<;>first | rfl | exact absurd (show false=true from h) Bool.false_ne_true
theorem okV.all{xs:List V}(h:xs.all okV=true):xs.all zav=true:=List.all_eq_true.mpr fun x hx=>okV.flat (List.all_eq_true.mp h x hx)
theorem zoa:∀(xs:List V),xs.all okV=true->PyData.canLayAll0 (xs.map zok)=true/\PyData.depthAll (xs.map zok)<=1
 | [],_=>by simp[PyData.canLayAll0,PyData.depthAll]
 | x::xs,hz=>by
  rw [List.all_cons,Bool.and_eq_true] at hz
  have h1:(zok x).canLay0=true/\(zok x).depth<=1:=by
   cases x with
   | str z=>exact⟨by simpa [zok,PyData.canLay0,okV] using hz.1,by simp[zok,PyData.depth]⟩
   | _=>exact⟨by simp[zok,PyData.canLay0],by simp[zok,PyData.depth]⟩
  have h2:=zoa xs hz.2
  simp only[List.map_cons,PyData.canLayAll0,PyData.depthAll,h1.1,h2.1,Bool.and_self,true_and]
  have a1:=h1.2
  have a2:=h2.2
  omega
theorem z8b{xs:List V}(h:xs.all okV=true):SeqAt.shaped (.list (xs.map zok))=true:=by
 have q:=zoa xs h
 unfold SeqAt.shaped
 simp only[PyData.canLay0,PyData.depth,q.1,Bool.true_and]
 have:=q.2
 exact decide_eq_true (by omega)
theorem Inv.readsL{pins:List (Addr×Obj)}{σ : St}{H:Hp}{s:Shared}{a:Addr}{xs:List V}(I:Inv X pins σ H s)(h:SqL X.K H a xs)(f:xs.all okV=true):∃as,Reads s.heap (.ref a) (.list (xs.map zok)) as:=by
 obtain⟨its,r,⟨o,n,e,c,_,d⟩,_⟩:=I.list h
 exact⟨_,.list e c d (by simpa using zcd r (okV.all f))⟩
def eqL(xs ys:List V):Bool:=PyData.eqv (.list (xs.map zok)) (.list (ys.map zok))
def q29(K:PySem.W.Frag)(neg:Bool):R2:=fun x y H Q=>∃a b xs ys,x=.ref a/\y=.ref b/\SqL K H a xs/\SqL K H b ys/\xs.all okV=true/\ys.all okV=true/\Q (.bl (if neg then !eqL xs ys else eqL xs ys)) H
theorem zzx(hu:X.A.units+64 < cLine):OpR X (compareOp .Eq) (q29 X.K false):=by
 intro pins s σ H x y v u Q I rx ry h
 obtain⟨a,b,xs,ys,rfl,rfl,ha,hb,fa,fb,q⟩:=h
 cases rx; cases ry
 obtain⟨as,ra⟩:=I.readsL ha fa
 obtain⟨bs,rb⟩:=I.readsL hb fb
 exact eq_dataH ra rb (z8b fa) (z8b fb) hu ⟨.bl _,H,I,rfl,q⟩
theorem zzs(hu:X.A.units+64 < cLine):OpR X (compareOp .NotEq) (q29 X.K true):=by
 intro pins s σ H x y v u Q I rx ry h
 obtain⟨a,b,xs,ys,rfl,rfl,ha,hb,fa,fb,q⟩:=h
 cases rx; cases ry
 obtain⟨as,ra⟩:=I.readsL ha fa
 obtain⟨bs,rb⟩:=I.readsL hb fb
 exact ne_dataH ra rb (z8b fa) (z8b fb) hu ⟨.bl _,H,I,rfl,q⟩
theorem zy1(xs:List V):eqL xs []=xs.isEmpty:=by
 cases xs<;>simp[eqL,PyData.eqv,PyData.eqvAll]
theorem znl:CallR X (.builtin "isinstance") (fun xs H Q=>∃x n t b,xs=[x,.ty n]/\TyOf X.K H x t/\PySem.W.kitOne X.K t (.type n)=some b/\Q (.bl b) H):=by
 intro pins s σ H xs us Q I r h
 obtain⟨x,n,t,b,rfl,ty,e,q⟩:=h
 obtain⟨u,u2,rfl,r1,r2⟩:=r.two
 cases r2
 exact zsi I r1 ty e fun tk=>⟨.bl b,H,I.tok tk,rfl,q⟩
theorem zhy:∀{bs:List Bool} {us:List Value},Vals (bs.map V.bl) us->us=bs.map Value.bool
 | [],_,.nil=>rfl
 | b::bs,_::_,.cons r t=>by
  cases r
  rw [zhy t]; rfl
theorem zkb(hh:X.calm=true):CallR X (.builtin "all") (fun xs H Q=>∃(p:Addr) (bs:List Bool),xs=[.ref p]/\SqL X.K H p (bs.map V.bl)/\Q (.bl (bs.all id)) H):=by
 intro pins s σ H xs us Q I r h
 obtain⟨p,bs,rfl,hq,q⟩:=h
 obtain⟨u,rfl,r1⟩:=r.one
 cases r1
 obtain⟨its,rv,pl,hz⟩:=I.list hq
 have eb:=zhy rv
 subst eb
 have hl:=pl.isList
 have hlt:p < s.heap.objs.size:=by obtain⟨_,e,_⟩:=hl; exact Heap.lt_size e
 refine call_all_walk (wpAny_pyIter_list hl ?_)
 refine⟨s.heap.objs.size,[s.heap.objs.size,p],[s.heap.objs.size],(bs.map Value.bool).toArray.size,_,_,fun i=>(bs[i]?).getD true,rfl,Walks.list (A:=X.A.in1) (I.ok.hd hh) _ p (Nat.ne_of_lt hlt) (bs.map Value.bool).toArray,
  ⟨⟨_,Heap.get?_push_size _ rfl,rfl,rfl⟩,hl.push _⟩,fun i v s' Q' E' hP hQ=>?_,fun h' tk hk=>?_⟩
 ·have e:(bs.map Value.bool)[i]?=some v:=by simpa using hP
  rw [List.getElem?_map] at e
  cases eb:bs[i]? with
  | none=>rw [eb] at e; cases e
  | some b=>
   rw [eb] at e
   have e':Value.bool b=v:=Option.some.inj e
   subst e'
   simp only[eb,Option.getD_some] at hQ
   exact wpAny_truthy_bool hQ
 ·have e:((List.range (bs.map Value.bool).toArray.size).all fun i=>(bs[i]?).getD true)=bs.all id:=by
   have z:(bs.map Value.bool).toArray.size=bs.length:=by simp
   rw [z,Bool.eq_iff_iff,List.all_eq_true,List.all_eq_true]
   constructor
   ·intro h b hb
    obtain⟨i,hi,rfl⟩:=List.getElem_of_mem hb
    have:=h i (List.mem_range.mpr hi)
    simpa [List.getElem?_eq_getElem hi] using this
   ·intro h i hi
    have hi':=List.mem_range.mp hi
    simp only[List.getElem?_eq_getElem hi',Option.getD_some]
    exact h _ (List.getElem_mem hi')
  rw [e]
  exact⟨.bl _,H,I.kept (fun b o e=>hk b o (fun hm=>by rw [List.mem_singleton.mp hm] at e; exact Nat.lt_irrefl _ (Heap.lt_size e)) (Heap.get?_push_of_some _ e)),rfl,q⟩
def Its(z:Str):It:=⟨fun i _=>i < z.cps.size,fun i H x H'=>H'=H/\∃c,z.cps[i]?=some c/\x=.str ⟨#[c]⟩,fun i _=>i=z.cps.size⟩
def q2r(tl:TE):TI:=fun σ H R=>tl σ H fun x H1=>∃z,x=.str z/\R (Its z) H1
open PySem.AutoSeq1 (wpAny_loadPart') in
theorem zyi(l:Addr)(items:Array Value)(n:Nat)(dd:Option Addr)(sl:Array (Option Value))(x:Int)(u:Tok)(h2:2<=x)(hx:x < 2 ^ 62)(hne:items.isEmpty=false)(hz:items.size * x.toNat<=sizeLine) :
  Meets (Builtin.«tuple.__mul__» ⟨[.ref l,.int x u],[]⟩) (fun _ R s=>s.heap.get? l=some {cls:=.type "tuple",dict:=dd,data:=.seq items n,slots:=sl}/\R (.ok (.ret (Value.ref s.heap.objs.size))) {s with heap:=s.heap.push {cls:=Value.type "tuple",data:=Data.seq (List.foldl (fun x1 x2=>x1++x2) #[] (List.replicate x.toNat items))},toks:=s.toks}):=
 .of_wp fun prog w A R s h=>by
  obtain⟨hp,g,d,tk,os⟩:=s; obtain⟨hl,h⟩:=h
  have f1:=AutoSeq1.idx_int
  have hs:sizeLine=16777216:=sizeLine_eq
  have hm:((items.size * x.toNat:Nat):Int)=(items.size:Int) * x:=by
   rw [Int.natCast_mul,Int.toNat_of_nonneg (by omega)]
  have c0:¬ (decide (x < -2 ^ 63) || decide (x ≥ 2 ^ 63))=true:=by
   simp only[Bool.or_eq_true,decide_eq_true_eq,not_or]
   omega
  have c1:¬ (items.isEmpty || x == 1)=true:=by
   rw [hne,Bool.false_or]
   simp only[beq_iff_eq]
   omega
  have c2:¬ (decide (x<=0) || items.isEmpty)=true:=by
   rw [hne,Bool.or_false]
   simp only[decide_eq_true_eq]
   omega
  have c3:¬ ((items.size:Int) * x > (2 ^ 63 - 1) / 8):=by
   rw [<- hm]
   have:(2 ^ 63 - 1:Int) / 8=1152921504606846975:=by decide
   rw [this]
   omega
  have c4:¬ Builtin.Tuple.tupleTooMany ((items.size:Int) * x)=true:=by
   unfold Builtin.Tuple.tupleTooMany
   simp only[decide_eq_true_eq]
   rw [<- hm]
   omega
  wp_walk using wpAny_loadPart' hl
  refine PySem.W.KFB.if_not (Bool.eq_false_iff.mpr c0) ?_
  wp_walk using wpAny_loadPart' hl
  refine PySem.W.KFB.if_not (Bool.eq_false_iff.mpr c1) ?_
  refine PySem.W.KFB.if_not (Bool.eq_false_iff.mpr c2) ?_
  dsimp only
  rw [if_neg c3]
  refine PySem.W.KFB.if_not (Bool.eq_false_iff.mpr c4) ?_
  refine wpAny_bind (wpAny_newObj_type (wpAny_pure ⟨_,rfl,h⟩) ?_)
  show(List.foldl (fun x1 x2=>x1++x2) #[] (List.replicate x.toNat items)).size<=sizeLine
  have e:=zlm items.toList x.toNat []
  rw [List.nil_append] at e
  have e2:items.toList.toArray=items:=by simp
  rw [e2] at e
  rw [show([]:List Value).toArray = #[] from rfl] at e
  rw [e,List.size_toArray,zxr,Array.length_toList,Nat.mul_comm]
  exact hz
def zrd(K:PySem.W.Frag):R2:=fun x y H Q=>∃l k xs,x=.ref l/\y=.int k/\SqT K H l xs/\2<=k/\k < 2 ^ 62/\xs≠[]/\xs.length * k.toNat<=sizeLine/\
 ∀p,H p=none->Q (.ref p) (upd H p (.tup (List.replicate k.toNat xs).flatten))
end
end L2
set_option Elab.async false
set_option linter.all false
set_option maxRecDepth 100000
namespace L2
open PySem PySem.Spec PyProof.Rows
section
variable{X:Cx}
def Seq(K:PySem.W.Frag)(H:Hp)(a:Addr):Prop:=(∃xs,SqL K H a xs)\/∃xs,SqT K H a xs
theorem zuh(hu:X.A.units+64 < cLine):OpR X (compareOp .Eq) (fun x y H Q=>∃a z,x=.ref a/\y=.str z/\Seq X.K H a/\Q (.bl false) H):=by
 intro pins s σ H x y v u Q I rx ry h
 obtain⟨a,z,rfl,rfl,hq,q⟩:=h
 cases rx
 obtain⟨t,rfl⟩:=ry
 show wpAny _ _ (richCompare .Eq _ _) _ _ _
 rcases hq with⟨xs,hq⟩ | ⟨xs,hq⟩
 ·obtain⟨its,r,pl,hz⟩:=I.list hq
  exact SeqAt.RcAt.list_str z t pl.isList (by omega) _ _ _ _ ⟨.bl false,H,I,rfl,q⟩
 ·obtain⟨its,r,pl,hz⟩:=I.tuple hq
  exact SeqAt.RcAt.tuple_str z t (show s.heap.IsTuple a its.toArray from pl) (by omega) _ _ _ _ ⟨.bl false,H,I,rfl,q⟩
def isN:V->Bool
 | .non=>true
 | _=>false
def q0c:Value->Bool
 | .none=>true
 | _=>false
theorem zpl(hu:X.A.units+64 < cLine):OpR X (compareOp .In) (fun x y H Q=>∃p xs,x=.non/\y=.ref p/\SqL X.K H p xs/\(∀v∈xs,v=.non\/∃a ys,v=.ref a/\SqT X.K H a ys)/\Q (.bl (xs.any isN)) H):=by
 intro pins s σ H x y v u Q I rx ry h
 obtain⟨p,xs,rfl,rfl,hq,hall,q⟩:=h
 cases rx; cases ry
 obtain⟨its,r,pl,hz⟩:=I.list hq
 have hmem:∀(xs:List V) (us:List Value),Vals xs us->(∀v∈xs,v=.non\/∃a ys,v=.ref a/\SqT X.K H a ys)->(∀u∈us,SeqAt.EqAt X.A.in1 s u .none (q0c u))/\us.any q0c=xs.any isN:=by
  intro xs us rv
  induction rv with
  | nil=>intro _; exact⟨fun u hu=>(by cases hu),rfl⟩
  | cons rr _ ih=>
   intro ha
   obtain⟨i1,i2⟩:=ih fun v hv=>ha v (List.mem_cons_of_mem _ hv)
   rcases ha _ List.mem_cons_self with e | ⟨a,ys,e,hs⟩
   ·subst e
    cases rr
    refine⟨fun u hu'=>?_,by rw [List.any_cons,List.any_cons,i2]; rfl⟩
    rcases List.mem_cons.mp hu' with rfl | h'
    ·exact SeqAt.EqAt.same _
    ·exact i1 u h'
   ·subst e
    cases rr
    refine⟨fun u hu'=>?_,by rw [List.any_cons,List.any_cons,i2]; rfl⟩
    rcases List.mem_cons.mp hu' with rfl | h'
    ·obtain⟨its,_,ht,_⟩:=I.tuple hs
     exact SeqAt.EqAt.tuple_none (show s.heap.IsTuple a its.toArray from ht) (by show X.A.units+1 < _; omega)
    ·exact i1 u h'
 obtain⟨h1,h2⟩:=hmem xs its r hall
 refine SeqAt.in_listAt q0c pl.isList (fun w hw=>h1 w (by simpa using hw)) ⟨.bl _,H,I,rfl,?_⟩
 rw [show its.toArray.any q0c=its.any q0c by simp,h2]
 exact q
def zzk:R2:=fun x y H Q=>∃i j,x=.str i/\y=.str j/\Q (.bl (!decide (j.cps.toList < i.cps.toList))) H
def zyt:R2:=fun x y H Q=>∃i j,x=.str i/\y=.str j/\Q (.bl (decide (i.cps.toList < j.cps.toList))) H
def q1x(K:PySem.W.Frag)(x y:V)(H:Hp)(b:Bool):Prop:=(q0y x y=true/\b=decide (x=y))\/
 (∃a c xs ys,x=.ref a/\y=.ref c/\SqL K H a xs/\SqL K H c ys/\xs.all okV=true/\ys.all okV=true/\b=eqL xs ys)\/(∃a z,x=.ref a/\y=.str z/\Seq K H a/\b=false)
def qEq(K:PySem.W.Frag):R2:=fun x y H Q=>∃b,q1x K x y H b/\Q (.bl b) H
def qNe(K:PySem.W.Frag):R2:=fun x y H Q=>∃b,((q0y x y=true/\b=decide (x=y))\/(∃a c xs ys,x=.ref a/\y=.ref c/\SqL K H a xs/\SqL K H c ys/\xs.all okV=true/\ys.all okV=true/\b=eqL xs ys))/\Q (.bl (!b)) H
def q2l(K:PySem.W.Frag)(x y:V)(H:Hp)(b:Bool):Prop:=(∃p xs,y=.ref p/\(SqL K H p xs\/SqT K H p xs)/\zav x=true/\xs.all zav=true/\b=inV x xs)\/
 (∃i j,x=.str i/\y=.str j/\b = !(Builtin.Str.occurrences j i 0 j.length 1).isEmpty)\/
 (∃p xs,x=.non/\y=.ref p/\SqL K H p xs/\(∀v∈xs,v=.non\/∃a ys,v=.ref a/\SqT K H a ys)/\b=xs.any isN)
def qIn(K:PySem.W.Frag):R2:=fun x y H Q=>∃b,q2l K x y H b/\Q (.bl b) H
def zyg(K:PySem.W.Frag)(x y:V)(H:Hp)(b:Bool):Prop:=(∃p xs,y=.ref p/\(SqL K H p xs\/SqT K H p xs)/\zav x=true/\xs.all zav=true/\b = !inV x xs)\/
 (∃i j,x=.str i/\y=.str j/\b = !(!(Builtin.Str.occurrences j i 0 j.length 1).isEmpty))\/
 (∃a p xs,x=.ref a/\y=.ref p/\Seq K H a/\SqT K H p xs/\(∀v∈xs,∃z,v=.str z)/\b=true)
def zkv(K:PySem.W.Frag):R2:=fun x y H Q=>∃b,zyg K x y H b/\Q (.bl b) H
def q0u(K:PySem.W.Frag)(x:V)(H:Hp)(n:Nat):Prop:=(∃p ys,x=.ref p/\(SqL K H p ys\/SqT K H p ys)/\n=ys.length)\/∃z,x=.str z/\z.length<=sizeLine/\n=z.length
def zyw(K:PySem.W.Frag):List V->Hp->VK->Prop:=fun xs H Q=>∃x n,xs=[x]/\q0u K x H n/\Q (.int n) H
def zyx:R2:=fun x y H Q=>y=.non/\Q (.bl (decide (x=.non))) H
def zpc:R2:=fun x y H Q=>y=.non/\Q (.bl (!decide (x=.non))) H
def zzm:R2:=fun x y H Q=>∃a b,x=.bl a/\y=.bl b/\Q (.bl (a == b)) H
def zre:R2:=fun x y H Q=>∃a b,x=.bl a/\y=.bl b/\Q (.bl (a !=b)) H
theorem gEq(hu:X.A.units+64 < cLine):OpR X (compareOp .Eq) (qEq X.K):=by
 intro pins s σ H x y v u Q I rx ry h
 obtain⟨b,h,q⟩:=h
 rcases h with⟨h,rfl⟩ | ⟨a,c,xs,ys,h1,h2,h3,h4,h5,h6,rfl⟩ | ⟨a,z,h1,h2,h3,rfl⟩
 ·exact zzy pins s σ H x y v u Q I rx ry ⟨h,q⟩
 ·exact zzx hu pins s σ H x y v u Q I rx ry ⟨a,c,xs,ys,h1,h2,h3,h4,h5,h6,q⟩
 ·exact zuh hu pins s σ H x y v u Q I rx ry ⟨a,z,h1,h2,h3,q⟩
theorem gNe(hu:X.A.units+64 < cLine):OpR X (compareOp .NotEq) (qNe X.K):=by
 intro pins s σ H x y v u Q I rx ry h
 obtain⟨b,h,q⟩:=h
 rcases h with⟨h,rfl⟩ | ⟨a,c,xs,ys,h1,h2,h3,h4,h5,h6,rfl⟩
 ·exact zzu pins s σ H x y v u Q I rx ry ⟨h,q⟩
 ·exact zzs hu pins s σ H x y v u Q I rx ry ⟨a,c,xs,ys,h1,h2,h3,h4,h5,h6,q⟩
theorem gIn(hu:X.A.units+64 < cLine):OpR X (compareOp .In) (qIn X.K):=by
 intro pins s σ H x y v u Q I rx ry h
 obtain⟨b,h,q⟩:=h
 rcases h with⟨p,xs,h1,h2,h3,h4,rfl⟩ | ⟨i,j,h1,h2,rfl⟩ | ⟨p,xs,h1,h2,h3,h4,rfl⟩
 ·exact zrt pins s σ H x y v u Q I rx ry ⟨p,xs,h1,h2,h3,h4,q⟩
 ·exact zrs pins s σ H x y v u Q I rx ry ⟨i,j,h1,h2,q⟩
 ·exact zpl hu pins s σ H x y v u Q I rx ry ⟨p,xs,h1,h2,h3,h4,q⟩
theorem q2g:CallR X (.builtin "len") (zyw X.K):=by
 intro pins s σ H xs us Q I r h
 obtain⟨x,n,rfl,h,q⟩:=h
 rcases h with⟨p,ys,rfl,h,rfl⟩ | ⟨z,rfl,hz,rfl⟩
 ·exact zm6 pins s σ H _ us Q I r ⟨p,ys,rfl,h,q⟩
 ·exact zm5 pins s σ H _ us Q I r ⟨z,rfl,hz,q⟩
theorem zl2:OpR X (compareOp .Eq) (rI0 fun i j=>.bl (decide (i=j))):=by
 intro pins s σ H x y v u Q I rx ry h
 obtain⟨i,j,rfl,rfl,q⟩:=h
 refine zzy pins s σ H _ _ v u Q I rx ry ⟨rfl,?_⟩
 have e:decide (V.int i=V.int j)=decide (i=j):=by simp
 rw [e]; exact q
theorem zzt:OpR X (compareOp .NotEq) (rI0 fun i j=>.bl (!decide (i=j))):=by
 intro pins s σ H x y v u Q I rx ry h
 obtain⟨i,j,rfl,rfl,q⟩:=h
 refine zzu pins s σ H _ _ v u Q I rx ry ⟨rfl,?_⟩
 have e:decide (V.int i=V.int j)=decide (i=j):=by simp
 rw [e]; exact q
theorem zkg:OpR X (compareOp .Is) zyx:=zzv
theorem zuz:OpR X (compareOp .IsNot) zpc:=zxb
theorem q2t:OpR X (compareOp .Lt) zyt:=zrr
def zpg(K:PySem.W.Frag):List V->Hp->VK->Prop:=fun xs H Q=>∃x n b,xs=[x,.ty n]/\(∃t,TyOf K H x t/\PySem.W.kitOne K t (.type n)=some b)/\Q (.bl b) H
theorem q1i:CallR X (.builtin "isinstance") (zpg X.K):=by
 intro pins s σ H xs us Q I r h
 obtain⟨x,n,b,rfl,⟨t,h1,h2⟩,q⟩:=h
 exact znl pins s σ H _ us Q I r ⟨x,n,t,b,rfl,h1,h2,q⟩
end
def zj4:Expr->Bool
 | .Starred ..=>true
 | _=>false
def z4t:List Expr->Bool
 | []=>true
 | e::r=>!zj4 e && z4t r
theorem z20{e:Expr}{es:List Expr}{env:Env}(h:zj4 e=false):starEach (e::es) env=(false,eval e env)::starEach es env:=by
 cases e<;>first | rfl | exact absurd (show true=false from h) (by decide)
theorem z4s{pos:Pos}{env:Env}:∀{es:List Expr},z4t es=true->(backTo pos (starEach es env)).any (·.1)=false
 | [],_=>rfl
 | e::r,h=>by
  rw [z4t,Bool.and_eq_true,Bool.not_eq_true'] at h
  rw [z20 h.1]
  have q:=z4s (pos:=pos) (env:=env) h.2
  show(false || (backTo pos (starEach r env)).any (·.1))=false
  rw [q]; rfl
theorem z08{X:Cx}{e:Expr}{es:List Expr}{te:TE}{t:TA}(ha:PE X e te)(hr:PA X es t)(h:zj4 e=false:=by rfl):PA X (e::es) (zi4 te t):=zxa ha hr (z20 h)
structure Callee(P:Program)(w:World)(K:PySem.W.Frag)(mg:Str->Option Value)(base:Heap)(x:Str)(ps:List Str)(k:Nat)(sp:Sp):Prop where
 ex:∃f fd,FnOk P w K mg base CX0 k f fd ps sp/\mg x=some (.ref f)/\PySem.W.keepIn K (.ref f)=true/\Binds K fd ps []
theorem z0w{X:Cx}{x:Str}{ps:List Str}{k j:Nat}{sp:Sp}{e:Expr}{es:List Expr}{t:TA}{p pos:Pos}(C:Callee X.prog X.w X.K X.mg X.base x ps k sp)(hr:Room j X.A)(hk:k<=j)(ha:PA X (e::es) t)(hg:Gl X x:=by rfl)
  (hdb:(x == ("__debug__" : Str))=false:=by decide) (hst:z4t (e::es)=true:=by rfl) :
  PE X (.Call (.Name x p) (e::es) [] pos) (zmg sp [] E0 t):=by
 have hst':=hst
 rw [z4t,Bool.and_eq_true,Bool.not_eq_true'] at hst'
 have he:=z20 (es:=es) (env:=X.env) hst'.1
 have hpl:=z4s (pos:=pos) (env:=X.env) hst'.2
 obtain⟨f,fd,F,hm,hkp,hb⟩:=C
 refine⟨?_⟩
 intro pins s σ H Q I h
 refine wpAny_Call_Name_kw (zmw I hg hm ?_ hdb)
 refine PySem.W.callWith_K (h₀:=X.base) I.ok.mod.kin hkp (thn (ha pos pins s σ H _ I h) fun us s1 ⟨vs,H1,I1,r,q⟩=>⟨I1.kIn,?_⟩) he hpl
 exact zvs F (hr.mono hk) hb .nil (fun _ _ _ _ _ _ _ z=>z.elim) I1 r q
theorem z53{X:Cx}{x:Str}{p pos:Pos}{e:Expr}{es:List Expr}{t:TA}{id:String}{r:List V->Hp->VK->Prop}(hc:CallR X (.builtin id) r)(hg:Gl X x)(hm:X.mg x=none)(hv:bootBuiltins x=some (.builtin id))(ha:PA X (e::es) t) (hn:x≠"__name__") (hdb:(x == ("__debug__" : Str))=false)
  (hst:z4t (e::es)=true:=by rfl):PE X (.Call (.Name x p) (e::es) [] pos) (tCB r t):=by
 have hst':=hst
 rw [z4t,Bool.and_eq_true,Bool.not_eq_true'] at hst'
 exact zue hc hg hm hv ha hn hdb (z20 hst'.1) (z4s hst'.2)
theorem zrq{X:Cx}{x:Str}{p pos:Pos}{e:Expr}{es:List Expr}{t:TA}{T:String}{r:List V->Hp->VK->Prop}(hc:CallR X (.type T) r)(hg:Gl X x)(hm:X.mg x=none)(hv:bootBuiltins x=some (.type T))(ha:PA X (e::es) t) (hn:x≠"__name__") (hdb:(x == ("__debug__" : Str))=false)
  (hst:z4t (e::es)=true:=by rfl):PE X (.Call (.Name x p) (e::es) [] pos) (tCB r t):=by
 have hst':=hst
 rw [z4t,Bool.and_eq_true,Bool.not_eq_true'] at hst'
 exact zro hc hg hm hv ha hn hdb (z20 hst'.1) (z4s hst'.2)
structure GC(mg:Str->Option Value)(x:Str)(v:V):Prop where
 ex:∃u,mg x=some u/\RelV v u
theorem zrm{X:Cx}{x:Str}{v:V}{pos:Pos}(h:GC X.mg x v)(hg:Gl X x:=by rfl) (hd:(x == ("__debug__" : Str))=false:=by decide):PE X (.Name x pos) (tC v):=by
 obtain⟨u,hm,r⟩:=h
 exact zx8 hg hm r hd
def ztb(N:List Str)(on:List (Str×NameKind))(sc:Scope)(N':List Str)(mp:List (Option Nat)):Bool:=
 sc.kind == .function && sc.names.all (fun y=>y.2 !=.cell) && sc.names.all (fun y=>y.2 !=.local || sc.names.lookup y.1 == some .local) && sc.names.all (fun y=>y.2 !=.free || on.lookup y.1 == some .cell) && compOk N on sc.names N' mp
theorem CompS.of{X:Cx}{N':List Str}{sc:Scope}{mp:List (Option Nat)}(h:ztb X.N X.env.scope.names sc N' mp=true):CompS X N' sc mp:=by
 unfold ztb at h
 simp only[Bool.and_eq_true,beq_iff_eq] at h
 obtain⟨⟨⟨⟨h1,h2⟩,h3⟩,h4⟩,h5⟩:=h
 refine⟨h1,fun y hy=>?_,fun y hy e=>?_,fun y hy e=>?_,h5⟩
 ·have:=List.all_eq_true.mp h2 y hy
  simpa using this
 ·have:=List.all_eq_true.mp h3 y hy
  simp only[e,Bool.or_eq_true,beq_iff_eq] at this
  rcases this with z | z
  ·exact absurd z (by decide)
  ·exact z
 ·have:=List.all_eq_true.mp h4 y hy
  simp only[e,Bool.or_eq_true,beq_iff_eq] at this
  rcases this with z | z
  ·exact absurd z (by decide)
  ·exact z
theorem opK{X:Cx}{K:PySem.W.Frag}{f:Value->Value->Sem Value}{r:PySem.W.Frag->R2}(h:OpR X f (r X.K))(hK:X.K=K):OpR X f (r K):=hK ▸ h
theorem ixK{X:Cx}{K:PySem.W.Frag}{r:PySem.W.Frag->R2}(h:IxR X (r X.K))(hK:X.K=K):IxR X (r K):=hK ▸ h
theorem zx6{X:Cx}{K:PySem.W.Frag}{es:List Expr}{k:Nat}{t:TGs}{n:Nat}{pos:Pos}(hK:X.K=K)(hc:X.calm=true)(h:PGs X es t)(hn:(assignEach es X.env).length=n:=by rfl)(hst:(assignEach es X.env).findIdx? (·.1)=none:=by rfl):PG X (.Tuple es k pos) (zxz K n t):=hK ▸ znv hc h hn hst
def q0e:Expr->Bool
 | .ListComp ..=>true
 | .SetComp ..=>true
 | .DictComp ..=>true
 | _=>false
theorem z06{e:Expr}{t:Option Expr}{l:Nat}{env:Env}(h:q0e e=false):swapsWith e t l env=pure false:=by
 cases e<;>first | rfl | exact absurd (show true=false from h) (by decide)
inductive Dm where
 | non | bl (b:Bool) | int (i:Int) | str (x:Str) | tup (ds:List Dm) | lst
mutual
inductive Dt (H:Hp):V->Dm->Prop where
 | non:Dt H .non .non
 | bl (b:Bool):Dt H (.bl b) (.bl b)
 | int (i:Int):Dt H (.int i) (.int i)
 | str (x:Str):Dt H (.str x) (.str x)
 | tup {a:Addr} {xs:List V} {ds:List Dm}:H a=some (.tup xs)->DtA H xs ds->Dt H (.ref a) (.tup ds)
 | lst {a:Addr} {xs:List V}:H a=some (.lst xs)->Dt H (.ref a) .lst
inductive DtA (H:Hp):List V->List Dm->Prop where
 | nil:DtA H [] []
 | cons {x:V} {xs:List V} {d:Dm} {ds:List Dm}:Dt H x d->DtA H xs ds->DtA H (x::xs) (d::ds)
end
structure Kp(H H':Hp):Prop where
 t:∀b xs,H b=some (.tup xs)->H' b=some (.tup xs)
 l:∀b xs,H b=some (.lst xs)->∃ys,H' b=some (.lst ys)
theorem Kp.refl(H:Hp):Kp H H:=⟨fun _ _ h=>h,fun _ xs h=>⟨xs,h⟩⟩
theorem Kp.trans{H H1 H2:Hp}(a:Kp H H1)(b:Kp H1 H2):Kp H H2:=⟨fun c xs h=>b.t c xs (a.t c xs h),fun c xs h=>let ⟨ys,e⟩:=a.l c xs h; b.l c ys e⟩
theorem Same.kp{H H':Hp}(s:Same H H'):Kp H H':=⟨fun b xs h=>s b _ h,fun b xs h=>⟨xs,s b _ h⟩⟩
theorem z07{H:Hp}{p:Addr}(h:H p=none)(o:HO):Same H (upd H p o):=fun b u q=>by rw [z0s (z1q q h)]; exact q
theorem Kp.new{H:Hp}{p:Addr}(h:H p=none)(o:HO):Kp H (upd H p o):=(z07 h o).kp
theorem Kp.set{H:Hp}{p:Addr}{xs ys:List V}(h:H p=some (.lst xs)):Kp H (upd H p (.lst ys)):=
 ⟨fun b zs e=>by rw [z0s (zam e h (by intro z; cases z))]; exact e,fun b zs e=>by
  by_cases hb:b=p
  ·subst hb; exact⟨ys,z04⟩
  ·exact⟨zs,by rw [z0s hb]; exact e⟩⟩
mutual
theorem Dt.kp{H H':Hp}(k:Kp H H'):∀{v:V} {d:Dm},Dt H v d->Dt H' v d
 | _,_,.non=>.non
 | _,_,.bl b=>.bl b
 | _,_,.int i=>.int i
 | _,_,.str x=>.str x
 | _,_,.tup e r=>.tup (k.t _ _ e) (DtA.kp k r)
 | _,_,.lst e=>let ⟨_,e'⟩:=k.l _ _ e; .lst e'
theorem DtA.kp{H H':Hp}(k:Kp H H'):∀{xs:List V} {ds:List Dm},DtA H xs ds->DtA H' xs ds
 | _,_,.nil=>.nil
 | _,_,.cons r t=>.cons (Dt.kp k r) (DtA.kp k t)
end
theorem DtA.length{H:Hp}:∀{xs:List V} {ds:List Dm},DtA H xs ds->xs.length=ds.length
 | _,_,.nil=>rfl
 | _,_,.cons _ t=>by rw [List.length_cons,List.length_cons,DtA.length t]
theorem DtA.append{H:Hp}:∀{xs ys:List V} {ds es:List Dm},DtA H xs ds->DtA H ys es->DtA H (xs++ys) (ds++es)
 | _,_,_,_,.nil,h=>h
 | _,_,_,_,.cons r t,h=>.cons r (DtA.append t h)
theorem DtA.get{H:Hp}:∀{xs:List V} {ds:List Dm} {i:Nat} {x:V},DtA H xs ds->xs[i]?=some x->∃d,ds[i]?=some d/\Dt H x d
 | _,_,_,_,.nil,e=>by simp at e
 | _,_,0,_,.cons r _,e=>by simp at e; subst e; exact⟨_,rfl,r⟩
 | _,_,i+1,x,.cons _ t,e=>by
  obtain⟨d,h1,h2⟩:=DtA.get (i:=i) (x:=x) t (by simpa using e)
  exact⟨d,by simpa using h1,h2⟩
theorem Dt.tupI{H:Hp}{v:V}{ds:List Dm}(h:Dt H v (.tup ds)):∃a xs,v=.ref a/\H a=some (.tup xs)/\DtA H xs ds:=by
 cases h with
 | tup e r=>exact⟨_,_,rfl,e,r⟩
end L2
set_option Elab.async false
set_option linter.all false
set_option maxRecDepth 100000
namespace L2
open PySem PySem.Spec PyProof.Rows
section
variable{X:Cx}
theorem zf1:∀{ns:List Int} {us:List Value},IntsAre us ns->Vals (ns.map V.int) us
 | _,_,.nil=>.nil
 | _,_,.cons n t h=>.cons ⟨t,rfl⟩ (zf1 h)
def zpe(K:PySem.W.Frag):List V->Hp->VK->Prop:=fun xs H Q=>∃(a:Addr) (ns:List Int),xs=[.ref a]/\SqL K H a (ns.map V.int)/\0 < ns.length/\∀M,M∈ns->(∀a∈ns,M<=a)->Q (.int M) H
def zpf(K:PySem.W.Frag):List V->Hp->VK->Prop:=fun xs H Q=>∃(a:Addr) (ns:List Int),xs=[.ref a]/\SqL K H a (ns.map V.int)/\0 < ns.length/\∀M,M∈ns->(∀a∈ns,a<=M)->Q (.int M) H
theorem zdh(hc:X.calm=true):CallR X (.builtin "min") (zpe X.K):=by
 intro pins s σ H xs us Q I r h
 obtain⟨a,ns,rfl,hq,hne,q⟩:=h
 obtain⟨u,rfl,r1⟩:=r.one
 cases r1
 obtain⟨its,rv,pl,hz⟩:=I.list hq
 have hi:=zei rv
 obtain⟨xs,e⟩:=hi.allInts.items
 have hns:ns=xs.toList.map (·.1):=by
  rw [<- hi.numsOf,<- nums_intItems,<- e]
 have hsz:0 < xs.size:=by
  have h3:=hne; rw [hns,List.length_map,Array.length_toList] at h3; exact h3
 have hl:=pl.isList
 rw [e] at hl
 refine min_intList (I.ok.hd hc) hl hsz fun v h' tk hv hk=>?_
 obtain⟨t,rfl⟩:=intItems_at hv
 obtain⟨h1,h2⟩:=argBest_lt (numAt xs) (xs.size - 1)
 refine⟨.int _,H,I.kept hk,⟨_,rfl⟩,q _ ?_ fun a ha=>?_⟩
 ·rw [hns,numAt_eq]; exact getD_mem (by rw [List.length_map,Array.length_toList]; omega)
 ·rw [hns] at ha
  obtain⟨j,hj,rfl⟩:=mem_getD ha
  rw [List.length_map,Array.length_toList] at hj
  rw [<- numAt_eq]; exact h2 j (by omega)
theorem zdi(hc:X.calm=true):CallR X (.builtin "max") (zpf X.K):=by
 intro pins s σ H xs us Q I r h
 obtain⟨a,ns,rfl,hq,hne,q⟩:=h
 obtain⟨u,rfl,r1⟩:=r.one
 cases r1
 obtain⟨its,rv,pl,hz⟩:=I.list hq
 have hi:=zei rv
 obtain⟨xs,e⟩:=hi.allInts.items
 have hns:ns=xs.toList.map (·.1):=by
  rw [<- hi.numsOf,<- nums_intItems,<- e]
 have hsz:0 < xs.size:=by
  have h3:=hne; rw [hns,List.length_map,Array.length_toList] at h3; exact h3
 have hl:=pl.isList
 rw [e] at hl
 refine max_intList (I.ok.hd hc) hl hsz fun v h' tk hv hk=>?_
 obtain⟨t,rfl⟩:=intItems_at hv
 obtain⟨h1,h2⟩:=argBest_gt (numAt xs) (xs.size - 1)
 refine⟨.int _,H,I.kept hk,⟨_,rfl⟩,q _ ?_ fun a ha=>?_⟩
 ·rw [hns,numAt_eq]; exact getD_mem (by rw [List.length_map,Array.length_toList]; omega)
 ·rw [hns] at ha
  obtain⟨j,hj,rfl⟩:=mem_getD ha
  rw [List.length_map,Array.length_toList] at hj
  rw [<- numAt_eq]; exact h2 j (by omega)
def ziw(K:PySem.W.Frag):List V->Hp->VK->Prop:=fun xs H Q=>∃(a:Addr) (ns:List Int),xs=[.ref a]/\SqL K H a (ns.map V.int)/\ns.length < 64/\∀(l:Addr) (ms:List Int),H l=none->ms.Perm ns->ms.Pairwise (· <= ·)->Q (.ref l) (upd H l (.lst (ms.map V.int)))
theorem zm4:CallR X (.builtin "sorted") (ziw X.K):=by
 intro pins s σ H xs us Q I r h
 obtain⟨a,ns,rfl,hq,h64,q⟩:=h
 obtain⟨u,rfl,r1⟩:=r.one
 cases r1
 obtain⟨its,rv,pl,hz⟩:=I.list hq
 have hi:=zei rv
 have hlen:=rv.length
 rw [List.length_map] at hlen hz
 refine sorted_ints pl.isList hi (by omega) fun out ms a1 a2 a3=>?_
 obtain⟨e,he⟩:=sortedAll_at s.heap its out
 refine⟨.ref (s.heap.objs.size+1),_,I.laid (t':=s.toks) (fun b o e=>sortedAll_old e) (Nat.le_succ _) (show ObjOk X.prog X.w _ _ _ (.lst (ms.map V.int)) from⟨?_,out.toList,e,zf1 a1,?_⟩),rfl,q _ _ (I.hok.fresh (Nat.le_succ _)) a2 a3⟩
 ·rw [List.length_map,a2.length_eq]; exact hz
 ·simpa [seqObj] using he
def zyn(t ta tb:TT):TT:=fun σ H Q=>t σ H fun c H1=>if c=true then ta σ H1 Q else tb σ H1 Q
theorem zu6{c a b:Expr}{tc ta tb:TT}{pos:Pos}(hc:PT X c tc)(ha:PT X a ta)(hb:PT X b tb):PT X (.IfExp c a b pos) (zyn tc ta tb):=by
 refine⟨?_⟩
 intro pins s σ H Q I h
 refine isTrue_IfExp (thn (hc pins s σ H _ I h) fun d s1 ⟨H1,I1,q1⟩=>?_)
 cases d with
 | true=>exact ha pins s1 σ H1 Q I1 q1
 | false=>exact hb pins s1 σ H1 Q I1 q1
mutual
def Dm.dat:Dm->PyData
 | .non=>.none
 | .bl b=>.bool b
 | .int i=>.int i
 | .str x=>.str x
 | .tup ds=>.tuple (zfx ds)
 | .lst=>.none
def zfx:List Dm->List PyData
 | []=>[]
 | d::ds=>d.dat::zfx ds
end
mutual
def Dm.shut:Dm->Bool
 | .tup ds=>zgf ds
 | .lst=>false
 | .str x=>PyData.strOk x
 | _=>true
def zgf:List Dm->Bool
 | []=>true
 | d::ds=>d.shut && zgf ds
end
mutual
theorem Dt.reads{pins:List (Addr×Obj)}{σ : St}{H:Hp}{s:Shared}(I:Inv X pins σ H s):∀{x:V} {d:Dm} {u:Value},Dt H x d->d.shut=true->RelV x u->∃as,Reads s.heap u d.dat as
 | _,_,_,.non,_,r=>by cases r; exact⟨_,.none⟩
 | _,_,_,.bl b,_,r=>by cases r; exact⟨_,.bool b⟩
 | _,_,_,.int i,_,r=>by obtain⟨t,rfl⟩:=r; exact⟨_,.int i t⟩
 | _,_,_,.str x,_,r=>by obtain⟨t,rfl⟩:=r; exact⟨_,.str x t⟩
 | _,_,_,.tup e ra,hs,r=>by
  cases r
  obtain⟨its,rv,⟨o,ho,hc,n,hd⟩,_⟩:=I.tuple (SqT.of e)
  obtain⟨as,q⟩:=DtA.reads I ra (by simpa [Dm.shut] using hs) rv
  exact⟨as,by rw [Dm.dat]; exact .tuple ho hc hd (by simpa using q)⟩
 | _,_,_,.lst _,hs,_=>absurd hs (by simp[Dm.shut])
theorem DtA.reads{pins:List (Addr×Obj)}{σ : St}{H:Hp}{s:Shared}(I:Inv X pins σ H s):∀{xs:List V} {ds:List Dm} {us:List Value},DtA H xs ds->zgf ds=true->Vals xs us->∃as,ReadsAll s.heap us (zfx ds) as
 | _,_,_,.nil,_,.nil=>⟨[],by rw [zfx]; exact .nil⟩
 | _,_,_,.cons r t,hs,.cons rv rt=>by
  rw [zgf,Bool.and_eq_true] at hs
  obtain⟨as,q1⟩:=Dt.reads I r hs.1 rv
  obtain⟨bs,q2⟩:=DtA.reads I t hs.2 rt
  exact⟨as++bs,by rw [zfx]; exact .cons q1 q2⟩
end
def EqD(H:Hp)(x y:V)(b:Bool):Prop:=∃d e,Dt H x d/\Dt H y e/\(d.shut=true/\SeqAt.shaped d.dat=true)/\(e.shut=true/\SeqAt.shaped e.dat=true)/\b=PyData.eqv d.dat e.dat
def zyy(_:PySem.W.Frag):R2:=fun x y H Q=>∃b,EqD H x y b/\Q (.bl b) H
def zyv(_:PySem.W.Frag):R2:=fun x y H Q=>∃b,EqD H x y b/\Q (.bl (!b)) H
theorem dEq(hu:X.A.units+64 < cLine):OpR X (compareOp .Eq) (zyy X.K):=by
 intro pins s σ H x y v u Q I rx ry h
 obtain⟨b,⟨d,e,dx,dy,⟨s1,s2⟩,⟨s3,s4⟩,rfl⟩,q⟩:=h
 obtain⟨as,ra⟩:=Dt.reads I dx s1 rx
 obtain⟨bs,rb⟩:=Dt.reads I dy s3 ry
 exact eq_dataH ra rb s2 s4 hu ⟨.bl _,H,I,rfl,q⟩
theorem dNe(hu:X.A.units+64 < cLine):OpR X (compareOp .NotEq) (zyv X.K):=by
 intro pins s σ H x y v u Q I rx ry h
 obtain⟨b,⟨d,e,dx,dy,⟨s1,s2⟩,⟨s3,s4⟩,rfl⟩,q⟩:=h
 obtain⟨as,ra⟩:=Dt.reads I dx s1 rx
 obtain⟨bs,rb⟩:=Dt.reads I dy s3 ry
 exact ne_dataH ra rb s2 s4 hu ⟨.bl _,H,I,rfl,q⟩
end
end L2
set_option Elab.async false
set_option linter.all false
set_option maxRecDepth 100000
namespace L2
open PySem PySem.Spec PyProof.Rows
section
variable{κ : Type} [DecidableEq κ]
def zki(kvs:List (κ×V))(k : κ):Option V:=(kvs.find? fun kv=>decide (kv.1=k)).map (·.2)
def zfy(kvs:List (κ×V))(k : κ)(v:V):List (κ×V):=
 if(kvs.any fun kv=>decide (kv.1=k))=true then kvs.map (fun kv=>if kv.1=k then(kv.1,v) else kv) else kvs++[(k,v)]
theorem zc6{p : κ×V}{r:List (κ×V)}{k : κ}(e:p.1=k):zki (p::r) k=some p.2:=by simp[zki,List.find?_cons,e]
theorem zc7{p : κ×V}{r:List (κ×V)}{k : κ}(e:¬ p.1=k):zki (p::r) k=zki r k:=by simp[zki,List.find?_cons,e]
theorem zno(k : κ):∀kvs:List (κ×V),(kvs.any fun kv=>decide (kv.1=k))=(zki kvs k).isSome
 | []=>rfl
 | p::r=>by
  rw [List.any_cons]
  by_cases e:p.1=k
  ·simp only[zc6 e,decide_eq_true e,Bool.true_or,Option.isSome_some]
  ·rw [zc7 e,decide_eq_false e,Bool.false_or]; exact zno k r
theorem zh7(kvs:List (κ×V))(k : κ)(v:V):(zfy kvs k v).length<=kvs.length+1:=by
 unfold zfy
 split
 ·rw [List.length_map]; omega
 ·rw [List.length_append,List.length_cons,List.length_nil]; omega
theorem RelO.isSome_eq{o:Option V}{u:Option Value}(r:RelO o u):o.isSome=u.isSome:=by
 cases o with
 | none=>cases u with
  | none=>rfl
  | some _=>exact(show False from r).elim
 | some _=>cases u with
  | none=>exact(show False from r).elim
  | some _=>rfl
theorem RelO.getD{o:Option V}{u:Option Value}{d:V}{d':Value}(r:RelO o u)(rd:RelV d d'):RelV (o.getD d) (u.getD d'):=by
 cases o with
 | none=>cases u with
  | none=>exact rd
  | some _=>exact(show False from r).elim
 | some _=>cases u with
  | none=>exact(show False from r).elim
  | some _=>exact r
theorem KV.val{kvs:List (κ×V)}{vs:List (κ×Value)}(r:KV kvs vs)(k : κ):RelO (zki kvs k) (valueAt vs k):=by
 unfold KV at r
 induction r with
 | nil=>exact True.intro
 | @cons p q ps qs h t ih=>
  obtain⟨h1,h2⟩:=h
  by_cases e:p.1=k
  ·have e':q.1=k:=h1.symm.trans e
   have b:valueAt (q::qs) k=some q.2:=by simp[valueAt,List.find?_cons,e']
   rw [zc6 e,b]; exact h2
  ·have e':¬ q.1=k:=fun z=>e (h1.trans z)
   have b:valueAt (q::qs) k=valueAt qs k:=by simp[valueAt,List.find?_cons,e']
   rw [zc7 e,b]; exact ih
theorem KV.any{kvs:List (κ×V)}{vs:List (κ×Value)}(r:KV kvs vs)(k : κ):(kvs.any fun kv=>decide (kv.1=k))=vs.any fun kv=>decide (kv.1=k):=by
 unfold KV at r
 induction r with
 | nil=>rfl
 | cons h t ih=>rw [List.any_cons,List.any_cons,ih,h.1]
theorem KV.repl{kvs:List (κ×V)}{vs:List (κ×Value)}(r:KV kvs vs)(k : κ){y:V}{u:Value}(ry:RelV y u) :
  KV (kvs.map fun kv=>if kv.1=k then(kv.1,y) else kv) (vs.map fun kv=>if kv.1=k then(kv.1,u) else kv):=by
 unfold KV at r |-
 induction r with
 | nil=>exact .nil
 | @cons p q ps qs h t ih=>
  rw [List.map_cons,List.map_cons]
  refine .cons ?_ ih
  obtain⟨h1,h2⟩:=h
  by_cases e:p.1=k
  ·rw [if_pos e,if_pos (h1.symm.trans e)]; exact⟨h1,ry⟩
  ·rw [if_neg e,if_neg (fun z=>e (h1.trans z))]; exact⟨h1,h2⟩
theorem KV.put{kvs:List (κ×V)}{vs:List (κ×Value)}(r:KV kvs vs)(k : κ){y:V}{u:Value}(ry:RelV y u):KV (zfy kvs k y) (stored vs k u):=by
 unfold zfy stored
 rw [r.any k]
 by_cases e:(vs.any fun kv=>decide (kv.1=k))=true
 ·rw [if_pos e,if_pos e]; exact r.repl k ry
 ·rw [if_neg e,if_neg e]; exact Paired.snoc r ⟨rfl,ry⟩
theorem KV.keys{kvs:List (κ×V)}{vs:List (κ×Value)}(r:KV kvs vs):kvs.map (·.1)=vs.map (·.1):=by
 unfold KV at r
 induction r with
 | nil=>rfl
 | cons h t ih=>rw [List.map_cons,List.map_cons,ih,h.1]
theorem KV.length{kvs:List (κ×V)}{vs:List (κ×Value)}(r:KV kvs vs):kvs.length=vs.length:=Paired.length r
end
theorem zsd{P:Program}{w:World}{k:Key}{u:Value}(r:RelV (kV k) u):(z1i P w).is k u=true:=by
 cases k with
 | inl i=>obtain⟨t,e⟩:=(show ∃t,u=Value.int i t from r); subst e; exact zmu P w i t
 | inr x=>obtain⟨t,e⟩:=(show ∃t,u=Value.str x t from r); subst e; exact zmt P w x t
theorem zlj{P:Program}{w:World}:∀{ks:List Key} {us:List Value},Vals (ks.map kV) us->ItemsAre (z1i P w) ks us
 | [],_,r=>by rw [List.map_nil] at r; cases r; exact .nil
 | k::ks,_,r=>by
  rw [List.map_cons] at r
  cases r with
  | cons h t=>exact .cons (zsd h) (zlj t)
abbrev KT(H:Hp):List (List Key×V)->List (List Key×Addr×Value)->Prop:=Paired fun p q=>p.1=q.1/\H q.2.1=some (.tup (p.1.map kV))/\RelV p.2 q.2.2
theorem KT.val{H:Hp}{kvs:List (List Key×V)}{xs:List (List Key×Addr×Value)}(r:KT H kvs xs)(k:List Key):RelO (zki kvs k) ((atKey xs k).map (·.2)):=by
 induction r with
 | nil=>exact True.intro
 | @cons p q ps qs h t ih=>
  obtain⟨h1,_,h2⟩:=h
  by_cases e:p.1=k
  ·have e':q.1=k:=h1.symm.trans e
   have b:atKey (q::qs) k=some q.2:=by simp[atKey,List.find?_cons,e']
   rw [zc6 e,b]; exact h2
  ·have e':¬ q.1=k:=fun z=>e (h1.trans z)
   have b:atKey (q::qs) k=atKey qs k:=by simp[atKey,List.find?_cons,e']
   rw [zc7 e,b]; exact ih
theorem KT.repl{H:Hp}{kvs:List (List Key×V)}{xs:List (List Key×Addr×Value)}(r:KT H kvs xs)(k:List Key){y:V}{u:Value}(ry:RelV y u) :
  KT H (kvs.map fun kv=>if kv.1=k then(kv.1,y) else kv) (xs.map (putAt k u)):=by
 induction r with
 | nil=>exact .nil
 | @cons p q ps qs h t ih=>
  rw [List.map_cons,List.map_cons]
  refine .cons ?_ ih
  obtain⟨h1,h2,h3⟩:=h
  unfold putAt
  by_cases e:p.1=k
  ·rw [if_pos e,if_pos (h1.symm.trans e)]; exact⟨h1,h2,ry⟩
  ·rw [if_neg e,if_neg (fun z=>e (h1.trans z))]; exact⟨h1,h2,h3⟩
theorem KT.put{H:Hp}{kvs:List (List Key×V)}{xs:List (List Key×Addr×Value)}(r:KT H kvs xs)(k:List Key){b:Addr}{y:V}{u:Value}(hb:H b=some (.tup (k.map kV)))(ry:RelV y u) :
  KT H (zfy kvs k y) (storedH xs k b u):=by
 have e:(kvs.any fun kv=>decide (kv.1=k))=(atKey xs k).isSome:=by
  rw [zno,(r.val k).isSome_eq,Option.isSome_map]
 unfold zfy storedH
 rw [e]
 by_cases q:(atKey xs k).isSome=true
 ·rw [if_pos q,if_pos q]; exact r.repl k ry
 ·rw [if_neg q,if_neg q]; exact Paired.snoc r ⟨rfl,hb,ry⟩
theorem KT.keeps{H H':Hp}{kvs:List (List Key×V)}{xs:List (List Key×Addr×Value)}(r:KT H kvs xs)(ht:∀b ys,H b=some (.tup ys)->H' b=some (.tup ys)):KT H' kvs xs:=
 Paired.mapP r fun _ _ z=>⟨z.1,ht _ _ z.2.1,z.2.2⟩
section
variable{P:Program}{w:World}{H:Hp}{h:Heap}{a:Addr}
theorem zzh{u:HO}(ok:HOk P w H h)(e:Rd H a u):ObjOk P w H h a u:=e.ok ok
theorem zn5{kvs:List (Key×V)}(ok:HOk P w H h)(e:Rd H a (.dK kvs)):kvs.length<=sizeLine/\(a == sysModules)=false/\∃vs,KV kvs vs/\h.DictOf (z1i P w) a vs:=
 show ObjOk P w H h a (.dK kvs) from zzh ok e
theorem q1n{kvs:List (Key×V)}(ok:HOk P w H h)(e:H a=some (.dK kvs)):kvs.length<=sizeLine/\(a == sysModules)=false/\∃vs,KV kvs vs/\h.DictOf (z1i P w) a vs:=zn5 ok (.inl e)
theorem zj3{ks:List Key}(ok:HOk P w H h)(e:H a=some (.tup (ks.map kV))):(tupleKind (z1i P w)).is h ks a:=by
 obtain⟨_,its,r,o,h1,h2,n,h3⟩:=(show ObjOk P w H h a (.tup (ks.map kV)) from ok a _ e)
 exact⟨o,its.toArray,n,h1,h2,h3,by simpa using zlj r⟩
theorem zq0{kvs:List (List Key×V)}(ok:HOk P w H h)(e:Rd H a (.dT kvs)):kvs.length<=sizeLine/\(a == sysModules)=false/\
  ∃xs,KT H kvs xs/\h.DictOfH (tupleKind (z1i P w)) a xs:=by
 obtain⟨z,y,xs,r,o,es,ep,h1,h2,h3,h4,h5⟩:=(show ObjOk P w H h a (.dT kvs) from zzh ok e)
 refine⟨z,y,xs,r,o,es,ep,h1,h2,h3,h4,fun x hx=>?_,h5⟩
 have all:∀{l:List (List Key×V)} {m:List (List Key×Addr×Value)},KT H l m->∀x∈m,(tupleKind (z1i P w)).is h x.1 x.2.1:=by
  intro l m q
  induction q with
  | nil=>intro x hx; exact nomatch hx
  | @cons p q ps qs hq t ih=>
   intro x hx
   rcases List.mem_cons.mp hx with e | hx
   ·subst e
    exact zj3 ok (by rw [<- hq.1]; exact hq.2.1)
   ·exact ih x hx
 exact all r x hx
theorem q1l{kvs:List (List Key×V)}(ok:HOk P w H h)(e:H a=some (.dT kvs)):kvs.length<=sizeLine/\(a == sysModules)=false/\
  ∃xs,KT H kvs xs/\h.DictOfH (tupleKind (z1i P w)) a xs:=zq0 ok (.inl e)
end
def DGet(H:Hp)(a:Addr)(y:V)(r:Option V):Prop:=
 (∃kvs k,Rd H a (.dK kvs)/\y=kV k/\r=zki kvs k)\/∃kvs k b,Rd H a (.dT kvs)/\y=.ref b/\H b=some (.tup (k.map kV))/\r=zki kvs k
def DPut(H:Hp)(a:Addr)(y v:V)(H':Hp):Prop:=
 (∃kvs k,H a=some (.dK kvs)/\y=kV k/\kvs.length < sizeLine/\H'=upd H a (.dK (zfy kvs k v)))\/
 ∃kvs k b,H a=some (.dT kvs)/\y=.ref b/\H b=some (.tup (k.map kV))/\kvs.length < sizeLine/\H'=upd H a (.dT (zfy kvs k v))
theorem DGet.k{H:Hp}{a:Addr}{kvs:List (Key×V)}{k:Key}(e:H a=some (.dK kvs)):DGet H a (kV k) (zki kvs k):=.inl ⟨kvs,k,.inl e,rfl,rfl⟩
theorem DGet.t{H:Hp}{a b:Addr}{kvs:List (List Key×V)}{k:List Key}(e:H a=some (.dT kvs))(eb:H b=some (.tup (k.map kV))):DGet H a (.ref b) (zki kvs k):=.inr ⟨kvs,k,b,.inl e,rfl,eb,rfl⟩
theorem DPut.k{H:Hp}{a:Addr}{kvs:List (Key×V)}{k:Key}{v:V}(e:H a=some (.dK kvs))(hl:kvs.length < sizeLine):DPut H a (kV k) v (upd H a (.dK (zfy kvs k v))):=.inl ⟨kvs,k,e,rfl,hl,rfl⟩
theorem DPut.t{H:Hp}{a b:Addr}{kvs:List (List Key×V)}{k:List Key}{v:V}(e:H a=some (.dT kvs))(eb:H b=some (.tup (k.map kV)))(hl:kvs.length < sizeLine) :
  DPut H a (.ref b) v (upd H a (.dT (zfy kvs k v))):=.inr ⟨kvs,k,b,e,rfl,eb,hl,rfl⟩
section
variable{X:Cx}{pins:List (Addr×Obj)}{σ : St}{H:Hp}{s:Shared}{a:Addr}{y v:V}{u r:Value}{o:Option V}{A:Around}{E:Value->Shared->Prop}
theorem Inv.big(I:Inv X pins σ H s):sysModules < s.heap.objs.size:=by
 have h:mainGlobals < s.heap.objs.size:=(I.mod.glob.keeps I.bk).lt
 exact Nat.lt_trans (by decide) h
theorem zt6{Q:Value->Shared->Prop}(hu:A.units+1 < cLine)(I:Inv X pins σ H s)(g:DGet H a y (some v))(ry:RelV y u)(h:∀w' s',Inv X pins σ H s'->RelV v w'->Q w' s') :
  wpAny (model X.prog X.w) A (getItem (.ref a) u) Q E s:=by
 rcases g with⟨kvs,k,e,ey,l⟩ | ⟨kvs,k,b,e,ey,eb,l⟩
 ·subst ey
  obtain⟨z,hd,vs,rel,dd⟩:=zn5 I.hok e
  obtain⟨w',hw,rw'⟩:=RelO.some_of (v:=v) (o:=valueAt vs k) (by rw [l]; exact rel.val k)
  exact wpAny_getItem_of (zsd ry) dd.mapOf hw (h w' _ (I.tok _) rw')
 ·subst ey
  cases (show u=Value.ref b from ry)
  obtain⟨z,hd,xs,rel,dd⟩:=zq0 I.hok e
  obtain⟨w',hw,rw'⟩:=RelO.some_of (v:=v) (o:=(atKey xs k).map (·.2)) (by rw [l]; exact rel.val k)
  obtain⟨p,hp,hp2⟩:=Option.map_eq_some_iff.mp hw
  refine wpAny_getItem_heap (tupleKind_room_in1 hu) (zj3 I.hok eb) dd hp ?_
  rw [hp2]
  exact h w' _ (I.tok _) rw'
theorem q2u{Q:Value->Shared->Prop}(hu:A.units+1 < cLine)(I:Inv X pins σ H s)(g:DGet H a y o)(ry:RelV y u)(h:∀s',Inv X pins σ H s'->Q (.bool o.isSome) s') :
  wpAny (model X.prog X.w) A (compareOp .In u (.ref a)) Q E s:=by
 rcases g with⟨kvs,k,e,ey,l⟩ | ⟨kvs,k,b,e,ey,eb,l⟩
 ·subst ey
  obtain⟨z,hd,vs,rel,dd⟩:=zn5 I.hok e
  refine wpAny_in_of (zsd ry) hd dd.mapOf ?_
  rw [<- (rel.val k).isSome_eq,<- l]
  exact h _ (I.tok _)
 ·subst ey
  cases (show u=Value.ref b from ry)
  obtain⟨z,hd,xs,rel,dd⟩:=zq0 I.hok e
  refine wpAny_in_heap (tupleKind_room_in1 hu) (zj3 I.hok eb) hd dd ?_
  have q:=(rel.val k).isSome_eq
  rw [Option.isSome_map] at q
  rw [<- q,<- l]
  exact h _ (I.tok _)
theorem zt4{h':Heap}{t':Nat}{ob:HO}(I:Inv X pins σ H s)(mu:Mut (H a))(hs:Heap.SameBut a s.heap h')(he:∃q,h'.get? a=some q)(new:ObjOk X.prog X.w (upd H a ob) h' a ob) :
  Inv X pins σ (upd H a ob) {s with heap:=h',toks:=t'}:=
 I.write (x:=a) (e:=a) mu (.inl rfl) (fun b q hb z=>(hs.2 b hb).trans z) he new
theorem zwa{P:Program}{w:World}{H':Hp}{h':Heap}{kvs:List (Key×V)}{vs:List (Key×Value)}(z:kvs.length<=sizeLine)(hd:(a == sysModules)=false)(rel:KV kvs vs)(dd:h'.DictOf (z1i P w) a vs) :
  ObjOk P w H' h' a (.dK kvs):=⟨z,hd,vs,rel,dd⟩
theorem zt5{H':Hp}{Q:Unit->Shared->Prop}(hu:A.units+1 < cLine)(I:Inv X pins σ H s)(g:DPut H a y v H')(ry:RelV y u)(rv:RelV v r)(h:∀s',Inv X pins σ H' s'->Q () s') :
  wpAny (model X.prog X.w) A (setItem (.ref a) u r) Q E s:=by
 rcases g with⟨kvs,k,e,ey,l,eH⟩ | ⟨kvs,k,b,e,ey,eb,l,eH⟩
 ·subst ey eH
  obtain⟨z,hd,vs,rel,dd⟩:=q1n I.hok e
  have hz:vs.length<=sizeLine:=by rw [<- rel.length]; exact z
  have hl:(zfy kvs k v).length<=sizeLine:=by have:=zh7 kvs k v; omega
  refine wpAny_setItem_pairs (hsz:=hz) (zsd ry) dd fun h' dd' hs=>h _ ?_
  have he:∃q,h'.get? a=some q:=let ⟨q,_,_,hq,_⟩:=dd'; ⟨q,hq⟩
  exact zt4 I (by rw [e]; exact True.intro) hs he (zwa hl hd (rel.put k rv) dd')
 ·subst ey eH
  cases (show u=Value.ref b from ry)
  obtain⟨z,hd,xs,rel,dd⟩:=q1l I.hok e
  have hz:xs.length<=sizeLine:=by rw [<- Paired.length rel]; exact z
  have hl:(zfy kvs k v).length<=sizeLine:=by have:=zh7 kvs k v; omega
  refine wpAny_setItem_heap (hsz:=hz) (tupleKind_room_in1 hu) (zj3 I.hok eb) dd fun h' dd' hs=>h _ ?_
  obtain⟨q,es,ep,hq,h2,h3,h4,_,h5⟩:=dd'
  refine zt4 I (by rw [e]; exact True.intro) hs ⟨q,hq⟩ ⟨hl,hd,_,(rel.put k eb rv).keeps fun c ys ec=>?_,q,es,ep,hq,h2,h3,h4,h5⟩
  rw [z0s (zam ec e (fun z=>nomatch z))]
  exact ec
end
section
variable{X:Cx}{pins:List (Addr×Obj)}{σ : St}{H:Hp}{s:Shared}{a:Addr}{kvs:List (Key×V)}{k:Key}{u:Value}{A:Around}{E:Value->Shared->Prop}
end
def q2k(i:Expr):Prop:=∀ov iv,subscripted i false ov iv=operate [ov,iv] (getItem ov iv)
theorem zwt{prog:Program}{w:World}{A:Around}{E:Value->Shared->Prop}{s:Shared}{env:Env}{value slice:Expr}{pos:Pos}{T id:String}{Q:Value->Shared->Prop}
  (hl:typeLookup (.type T) "__getitem__" = pure (some (.builtin id))) (hs:q2k slice)
  (h:wpAny (model prog w) A (eval value env) (fun o s₁=>wpAny (model prog w) A (eval slice env) (fun i s₂=>s₂.TypeIs o T/\wpAny (model prog w) A (getItem o i) Q E s₂) E s₁) E s) :
  wpAny (model prog w) A (eval (.Subscript value slice pos) env) Q E s:=by
 refine Subscript_ (wpAny_mono h (fun o s₁ h₁=>wpAny_mono h₁ (fun i s₂ h₂=>?_) fun _ _ x=>x) fun _ _ x=>x)
 obtain⟨hT,h₂⟩:=h₂
 unfold subscriptTail
 refine wpAny_bind ?_
 rw [getitemInPython_of_ne hT.not_modules]
 refine wpAny_bind (wpAny_specialOf hT hl ?_)
 have fin:wpAny (model prog w) A (subscripted slice false o i) (fun r s₃=>wpAny (model prog w) A (letTemporaryGo value o r >>= fun _=>pure r) Q E s₃) E s₂:=by
  rw [hs o i]
  exact wpAny_operating (wpAny_mono h₂ (fun r s₃ h₃=>wpAny_bind (wpAny_letTemporaryGo (wpAny_pure h₃))) fun _ _ x=>x)
 first
  | exact wpAny_pure (wpAny_bind fin)
  | exact wpAny_bind (wpAny_pure (wpAny_bind fin))
  | exact wpAny_bind fin
theorem zn6{X:Cx}{pins:List (Addr×Obj)}{σ : St}{H:Hp}{s:Shared}{a:Addr}{y:V}{o:Option V}(I:Inv X pins σ H s)(g:DGet H a y o):s.TypeIs (.ref a) "dict":=by
 rcases g with⟨kvs,k,e,_,_⟩ | ⟨kvs,k,b,e,_,_,_⟩
 ·obtain⟨_,_,vs,_,dd⟩:=zn5 I.hok e
  exact dd.typeIs
 ·obtain⟨_,_,xs,_,dd⟩:=zq0 I.hok e
  exact dd.typeIs
def zp2(td ty:TE):TE:=fun σ H Q=>td σ H fun x H1=>ty σ H1 fun y H2=>∃a v,x=.ref a/\DGet H2 a y (some v)/\Q v H2
def q22(ty td:TE):TE:=fun σ H Q=>ty σ H fun y H1=>td σ H1 fun x H2=>∃a o,x=.ref a/\DGet H2 a y o/\Q (.bl o.isSome) H2
def zpa(td ty tv:TE):TS:=fun D σ H=>tv σ H fun v H1=>td σ H1 fun x H2=>ty σ H2 fun y H3=>∃a H4,x=.ref a/\DPut H3 a y v H4/\D.nx σ H4
section
variable{X:Cx}{o i e value:Expr}{pos pos' tpos:Pos}{td ty tv:TE}
theorem z6r(hu:X.A.units+1 < cLine)(ho:PE X o td)(hi:PE X i ty)(hs:q2k i):PE X (.Subscript o i pos) (zp2 td ty):=by
 refine⟨?_⟩
 intro pins s σ H Q I h
 refine zwt PySem.F.slot_dict_getitem.lookup hs (thn (ho pins s σ H _ I h) fun u s1 ⟨x,H1,I1,rx,q1⟩=>thn (hi pins s1 σ H1 _ I1 q1) fun iv s2 ⟨y,H2,I2,ry,a,v,ex,g,q2⟩=>?_)
 subst ex
 obtain rfl:u=Value.ref a:=rx
 exact⟨zn6 I2 g,zt6 hu I2 g ry fun w' s3 I3 rw'=>⟨v,H2,I3,rw',q2⟩⟩
theorem zvx(hu:X.A.units+1 < cLine)(hi:PE X i ty)(ho:PE X o td):PC X .In i o (q22 ty td):=by
 refine⟨?_⟩
 intro pins s σ H Q I h
 refine thn (hi pins s σ H _ I h) fun iv s1 ⟨y,H1,I1,ry,q1⟩=>thn (ho pins s1 σ H1 _ I1 q1) fun u s2 ⟨x,H2,I2,rx,a,ov,ex,g,q2⟩=>?_
 subst ex
 obtain rfl:u=Value.ref a:=rx
 exact q2u hu I2 g ry fun s3 I3=>⟨.bl ov.isSome,H2,I3,rfl,q2⟩
theorem ze4(hu:X.A.units+1 < cLine)(ho:PE X o td)(hi:PE X i ty)(hv:PE X value tv)(hs:swapsWith value (some (.Subscript o i pos')) pos.line X.env=pure false) :
  PS X (.Assign [.Subscript o i pos'] value pos) (zpa td ty tv):=by
 refine⟨?_⟩
 intro pins s σ H D I h
 refine wpAny_Assign_Subscript (thn (hv pins s σ H _ I h) fun r s1 ⟨v,H1,I1,rv,q1⟩=>thn (ho pins s1 σ H1 _ I1 q1) fun u s2 ⟨x,H2,I2,rx,q2⟩=>thn (hi pins s2 σ H2 _ I2 q2) fun iv s3 ⟨y,H3,I3,ry,a,H4,ex,g,q3⟩=>?_) hs
 subst ex
 obtain rfl:u=Value.ref a:=rx
 exact zt5 hu I3 g ry rv fun s4 I4=>⟨σ,H4,I4,q3⟩
end
theorem zv5{P:Program}{w:World}{H:Hp}(h:Heap)(hb:sysModules < h.objs.size):ObjOk P w H (h.push {cls:=.type "dict",data:=.dict #[]}) h.objs.size (.dK []):=
 ⟨Nat.zero_le _,beq_eq_false_iff_ne.mpr (Ne.symm (Nat.ne_of_lt hb)),[],.nil,Heap.DictOf.new h⟩
theorem zv4{P:Program}{w:World}{H:Hp}(h:Heap)(hb:sysModules < h.objs.size):ObjOk P w H (h.push {cls:=.type "dict",data:=.dict #[]}) h.objs.size (.dT []):=
 ⟨Nat.zero_le _,beq_eq_false_iff_ne.mpr (Ne.symm (Nat.ne_of_lt hb)),[],.nil,_,#[],0,Heap.get?_push_size _ rfl,⟨rfl,rfl,rfl⟩,rfl,rfl,List.nodup_nil⟩
def zio:TE:=fun _ H Q=>∀p,H p=none->Q (.ref p) (upd H p (.dK []))
def zqq:TE:=fun _ H Q=>∀p,H p=none->Q (.ref p) (upd H p (.dT []))
section
variable{X:Cx}{pos:Pos}
theorem znx:PE X (.Dict [] [] pos) zio:=⟨fun pins s σ H Q I h=>
 wpAny_Dict_empty ⟨.ref s.heap.objs.size,_,I.laid (a:=s.heap.objs.size) (o:=.dK []) (t':=s.toks) (fun _ _ q=>Heap.get?_push_of_some _ q) (Nat.le_refl _) (zv5 s.heap I.big),rfl,h _ (I.hok.fresh (Nat.le_refl _))⟩⟩
theorem zjm:PE X (.Dict [] [] pos) zqq:=⟨fun pins s σ H Q I h=>
 wpAny_Dict_empty ⟨.ref s.heap.objs.size,_,I.laid (a:=s.heap.objs.size) (o:=.dT []) (t':=s.toks) (fun _ _ q=>Heap.get?_push_of_some _ q) (Nat.le_refl _) (zv4 s.heap I.big),rfl,h _ (I.hok.fresh (Nat.le_refl _))⟩⟩
end
def zgc:List (TE×TE)->St->Hp->(List (V×V)->Hp->Prop)->Prop
 | [],_,H,Q=>Q [] H
 | (tk,tv)::r,σ,H,Q=>tk σ H fun x H1=>tv σ H1 fun y H2=>zgc r σ H2 fun ps H3=>Q ((x,y)::ps) H3
def q01(kvs more:List (Key×V)):List (Key×V):=more.foldl (fun acc kv=>zfy acc kv.1 kv.2) kvs
def zqp(trs:List (TE×TE)):TE:=fun σ H Q=>∀p,H p=none->zgc trs σ (upd H p (.dK [])) fun ps H2=>H2 p=some (.dK [])/\∃kvs:List (Key×V),ps=kvs.map (fun kv=>(kV kv.1,kv.2))/\kvs.length<=15/\Q (.ref p) (upd H2 p (.dK (q01 [] kvs)))
structure M1(X:Cx)(o:Expr)(m:Str)(apos:Pos)(e:Expr)(cpos:Pos):Prop where
 base:attributeBase o m X.env (eval o X.env)=eval o X.env
 few:((backTo cpos (starEach [e] X.env)).all (fun x=>!x.1) && (backToKw cpos (keywordEach [] X.env)).all (fun x=>x.1.isSome)
  && decide (([e]:List Expr).length+([]:List Keyword).length+(if([]:List Keyword).isEmpty then 0 else 1) < 30))=true
 line:(apos.endLine == cpos.line)=true
 trees:backTo cpos (starEach [e] X.env)=[(false,eval e X.env)]
structure M2(X:Cx)(o:Expr)(m:Str)(apos:Pos)(e f:Expr)(cpos:Pos):Prop where
 base:attributeBase o m X.env (eval o X.env)=eval o X.env
 few:((backTo cpos (starEach [e,f] X.env)).all (fun x=>!x.1) && (backToKw cpos (keywordEach [] X.env)).all (fun x=>x.1.isSome)
  && decide (([e,f]:List Expr).length+([]:List Keyword).length+(if([]:List Keyword).isEmpty then 0 else 1) < 30))=true
 line:(apos.endLine == cpos.line)=true
 trees:backTo cpos (starEach [e,f] X.env)=[(false,eval e X.env),(false,eval f X.env)]
def IsD(H:Hp)(a:Addr):Prop:=(∃kvs,Rd H a (.dK kvs))\/∃kvs,Rd H a (.dT kvs)
theorem q0d{X:Cx}{pins:List (Addr×Obj)}{σ : St}{H:Hp}{s:Shared}{a:Addr}(I:Inv X pins σ H s)(d:IsD H a) :
  s.TypeIs (.ref a) "dict"/\(∀b,Value.ref a=.ref b->∃ob,s.heap.get? b=some ob/\ob.dict=none)/\(a == sysModules)=false:=by
 rcases d with⟨kvs,e⟩ | ⟨kvs,e⟩
 ·obtain⟨_,hd,vs,_,dd⟩:=zn5 I.hok e
  refine⟨dd.typeIs,fun b q=>?_,hd⟩
  cases q
  obtain⟨ob,_,_,h1,h2,_⟩:=dd
  exact⟨ob,h1,h2.2.1⟩
 ·obtain⟨_,hd,xs,_,dd⟩:=zq0 I.hok e
  refine⟨dd.typeIs,fun b q=>?_,hd⟩
  cases q
  obtain⟨ob,_,_,h1,h2,_⟩:=dd
  exact⟨ob,h1,h2.2.1⟩
section
variable{X:Cx}{pins:List (Addr×Obj)}{σ : St}{H:Hp}{s:Shared}{a:Addr}{y d:V}{u r:Value}{o:Option V}{A:Around}{E:Value->Shared->Prop}
theorem q0m{Q:Value->Shared->Prop}(hu:A.units+1 < cLine)(I:Inv X pins σ H s)(g:DGet H a y o)(ry:RelV y u)(h:∀w' s',Inv X pins σ H s'->RelV (o.getD .non) w'->Q w' s') :
  wpAny (model X.prog X.w) A (call (.builtin "dict.get") [.ref a,u]) Q E s:=by
 rcases g with⟨kvs,k,e,ey,l⟩ | ⟨kvs,k,b,e,ey,eb,l⟩
 ·subst ey
  obtain⟨z,hd,vs,rel,dd⟩:=zn5 I.hok e
  refine call_meetsIn PySem.F.slot_dict_get dd.typeIs PySem.F.entry_dict_get (PySem.F.args_dict_get_2 _ _) (meets_dict_get (z1i X.prog X.w) a (zsd ry) hd) ⟨_,dd.mapOf,h _ _ (I.tok _) ?_⟩
  rw [l]
  exact(rel.val k).getD rfl
 ·subst ey
  cases (show u=Value.ref b from ry)
  obtain⟨z,hd,xs,rel,dd⟩:=zq0 I.hok e
  refine call_meetsIn PySem.F.slot_dict_get dd.typeIs PySem.F.entry_dict_get (PySem.F.args_dict_get_2 _ _) (meetsH_dict_get (tupleKind (z1i X.prog X.w)) a b hd) ⟨tupleKind_room_in1 hu,k,xs,zj3 I.hok eb,dd,h _ _ (I.tok _) ?_⟩
  rw [l]
  exact(rel.val k).getD rfl
end
def ziq(td ty:TE):TE:=fun σ H Q=>td σ H fun x H1=>∃a,x=.ref a/\IsD H1 a/\ty σ H1 fun y H2=>∃o,DGet H2 a y o/\Q (o.getD .non) H2
section
variable{X:Cx}{o e f:Expr}{apos cpos:Pos}{td ty tx:TE}
theorem zjn(hu:X.A.units+1 < cLine)(ho:PE X o td)(he:PE X e ty) (m:M1 X o "get" apos e cpos):PE X (.Call (.Attribute o "get" apos) [e] [] cpos) (ziq td ty):=by
 refine⟨?_⟩
 intro pins s σ H Q I h
 refine wpAny_Call_method m.base m.few m.line PySem.F.plainAttrs_dict PySem.F.slot_dict_get PySem.F.type_dict_get (thn (ho pins s σ H _ I h) fun u s1 ⟨x,H1,I1,rx,a,ex,d,q1⟩=>?_)
 subst ex
 obtain rfl:u=Value.ref a:=rx
 obtain⟨t1,t2,_⟩:=q0d I1 d
 refine⟨t1,t2,?_⟩
 rw [m.trees]
 refine Calls.callWith_builtin rfl (Calls.evalArgs_plain (Calls.spliced_cons (thn (he pins s1 σ H1 _ I1 q1) fun iv s2 ⟨y,H2,I2,ry,ov,g,q2⟩=>Calls.spliced_nil ?_)))
 exact q0m hu I2 g ry fun w' s3 I3 rw'=>⟨_,H2,I3,rw',q2⟩
end
section
variable{X:Cx}{pins:List (Addr×Obj)}{σ : St}{H:Hp}{s:Shared}{a:Addr}{kvs:List (Key×V)}{A:Around}{E:Value->Shared->Prop}
theorem zvc{Q:Value->Shared->Prop}(I:Inv X pins σ H s)(e:Rd H a (.dK kvs))(h:∀p s',H p=none->Inv X pins σ (upd H p (.dK kvs)) s'->Q (.ref p) s'):wpAny (model X.prog X.w) A (call (.type "dict") [.ref a]) Q E s:=by
 obtain⟨z,hd,vs,rel,dd⟩:=zn5 I.hok e
 refine kt_call_dict hd dd (by rw [<- rel.length]; exact z) fun h' dd' hs=>?_
 refine h _ _ (I.hok.fresh (Nat.le_refl _)) (I.laid (a:=s.heap.objs.size) (o:=.dK kvs) (t':=s.toks) (fun b q hq=>?_) (Nat.le_refl _) (zwa z (beq_eq_false_iff_ne.mpr (Ne.symm (Nat.ne_of_lt I.big))) rel dd'))
 exact(hs.2 b (Nat.ne_of_lt (Heap.lt_size hq))).trans (Heap.get?_push_of_some _ hq)
end
section
variable{X:Cx}{pins:List (Addr×Obj)}{σ : St}{H:Hp}{s:Shared}{a:Addr}{y:V}{u:Value}{A:Around}{E:Value->Shared->Prop}
end
end L2
namespace L2
open PySem PySem.Spec PyProof.Rows
section
variable{X:Cx}
end
section
variable{κ : Type} [DecidableEq κ]
end
end L2
set_option Elab.async false
set_option linter.all false
set_option maxRecDepth 100000
namespace L2
open PySem PySem.Spec PyProof.Rows
section
variable{X:Cx}
def q30(K:PySem.W.Frag)(a:Addr)(f:Int->Option Value):Prop:=∃o es ep,K.lookup a=some o/\o.ExactDict/\o.data=.dict es ep/\(∀e∈es,∃k,Value.isInt k e.key=true/\e.hash=hashInt k)/\∀k,findBy Value.isInt es k=f k
def zqn(K:PySem.W.Frag)(td ty:TE):TE:=fun σ H Q=>td σ H fun x H1=>ty σ H1 fun y H2=>∃a k u v f,x=.ref a/\y=.int k/\q30 K a f/\f k=some u/\RelV v u/\Q v H2
end
end L2
set_option Elab.async false
set_option linter.all false
set_option maxRecDepth 100000
namespace L2
open PySem PySem.Spec PyProof.Rows
section
variable{X:Cx}{pins:List (Addr×Obj)}{σ : List (Option V)}{H:Hp}{s:Shared}{h':Heap}
theorem Inv.turnedL{t':Nat}{ch:List Addr}(I:Inv X pins σ H s)(k:∀b o,b∉ch->s.heap.get? b=some o->h'.get? b=some o)(hf:∀b∈ch,FpOk X pins H b):Inv X pins σ H {s with heap:=h',toks:=t'}:=by
 have nit:∀b u,H b=some u->b∉ch:=fun b u e z=>by rw [(hf b z).1] at e; cases e
 refine I.step (g':=s.gens) (d':=s.drawn) (ch:=ch) (fun b hb=>?_) (fun b o _ _ hc e _=>k b o hc e) (fun b o _ _ hc e _=>⟨o.slots,k b o hc e⟩) (fun _ _ _ _ n=>n)
  (fun b o hc e=>⟨o,k b o hc e⟩) (fun _ _ e=>e) (fun _ _ _ e=>e) (fun b ps e=>⟨#[],by rw [e]; simp⟩) (fun m hm=>?_) (fun b u e=>?_) I.bare
 ·obtain⟨_,f1,_,f3,f4,f5⟩:=hf b hb
  exact⟨f3,f1,f4,f5⟩
 ·obtain⟨o,es,ep,ho,r⟩:=hm
  exact⟨o,es,ep,k _ o (fun z=>(hf _ z).2.1 rfl) ho,r⟩
 ·refine(I.hok b u e).stay (fun c v hc q=>k c v ?_ q) (fun _ q=>q) fun _ _ q=>q
  rcases hc with z | z
  ·rw [z]; exact nit b u e
  ·exact nit c _ z
end
def Ite(K:PySem.W.Frag)(a:Addr):It:=
 ⟨fun i H=>∃xs x,SqL K H a xs/\xs[i]?=some x,fun i H x H'=>∃T v,x=.ref T/\H T=none/\H'=upd H T (.tup [.int i,v])/\∀xs,SqL K H a xs->xs[i]?=some v,fun i H=>∃xs,SqL K H a xs/\xs.length<=i⟩
def Itz(K:PySem.W.Frag)(a b:Addr):It:=
 ⟨fun i H=>∃xs ys x y,SqL K H a xs/\SqL K H b ys/\xs[i]?=some x/\ys[i]?=some y,fun i H x H'=>∃T u v,x=.ref T/\H T=none/\H'=upd H T (.tup [u,v])/\(∀xs,SqL K H a xs->xs[i]?=some u)/\∀ys,SqL K H b ys->ys[i]?=some v,
  fun i H=>∃xs ys,SqL K H a xs/\SqL K H b ys/\(xs.length<=i\/ys.length<=i)⟩
theorem zvl:(2:Nat)<=sizeLine:=by decide
section
variable{X:Cx}
def q1h(K:PySem.W.Frag)(ta:TA):TI:=fun σ H R=>ta σ H fun vs H1=>∃a,vs=[.ref a]/\(∃xs,SqL K H1 a xs)/\R (Ite K a) H1
end
section
variable{X:Cx}
def q2q(K:PySem.W.Frag)(ta:TA):TI:=fun σ H R=>ta σ H fun vs H1=>∃a b,vs=[.ref a,.ref b]/\(∃xs,SqL K H1 a xs)/\(∃ys,SqL K H1 b ys)/\R (Itz K a b) H1
end
end L2
set_option Elab.async false
set_option linter.all false
set_option maxRecDepth 100000
namespace L2
open PySem PySem.Spec PyProof.Rows
theorem Room.units1{k:Nat}{A:Around}(r:Room k A):A.units+1 < cLine:=by have:=r.un; omega
section
variable{X:Cx}
theorem z79:CallR X (.type "dict") (fun xs H Q=>∃a kvs,xs=[.ref a]/\Rd H a (.dK kvs)/\∀p,H p=none->Q (.ref p) (upd H p (.dK kvs))):=by
 intro pins s σ H xs us Q I r h
 obtain⟨a,kvs,rfl,e,q⟩:=h
 obtain⟨u,rfl,r1⟩:=r.one
 cases r1
 exact zvc I e fun p s' hp I'=>⟨.ref p,_,I',rfl,q p hp⟩
def zku(K:PySem.W.Frag):List V->Hp->VK->Prop:=fun xs H Q=>∃(a:Addr) (ns:List Str),xs=[.ref a]/\SqL K H a (ns.map V.str)/\ns.length < 64/\∀(l:Addr) (ms:List Str),H l=none->ms.Perm ns->sortedS ms=true->Q (.ref l) (upd H l (.lst (ms.map V.str)))
def zgd(r r' r'':R2)(ta tb tc td:TE):TT:=fun σ H Q=>ta σ H fun x H1=>tb σ H1 fun y H2=>r x y H2 fun z H3=>∃k,z=.bl k/\(if k=true then tc σ H3 fun w H4=>r' y w H4 fun z H5=>∃k,z=.bl k/\
 (if k=true then td σ H5 fun v H6=>r'' w v H6 fun z H7=>∃k,z=.bl k/\Q k H7 else Q false H5) else Q false H3)
def q2s(K:PySem.W.Frag)(tl:TE):TI:=fun σ H R=>tl σ H fun x H1=>∃a,x=.ref a/\(((∃xs,SqL K H1 a xs)/\R (Itl K a) H1)\/((∃xs,SqT K H1 a xs)/\R (Itt K a) H1))
end
section
variable{X:Cx}
def q1y(K:PySem.W.Frag)(H:Hp)(x y:V)(b:Bool):Prop:=∃a c xs ys ds es,x=.ref a/\y=.ref c/\SqL K H a xs/\SqL K H c ys/\DtA H xs ds/\DtA H ys es/\zgf ds=true/\zgf es=true/\SeqAt.shaped (.list (zfx ds))=true/\SeqAt.shaped (.list (zfx es))=true/\b=PyData.eqv (.list (zfx ds)) (.list (zfx es))
def zrf(K:PySem.W.Frag):R2:=fun x y H Q=>∃b,q1y K H x y b/\Q (.bl b) H
def zpd(K:PySem.W.Frag):R2:=fun x y H Q=>∃b,q1y K H x y b/\Q (.bl (!b)) H
theorem Inv.readsDL{pins:List (Addr×Obj)}{σ : St}{H:Hp}{s:Shared}{a:Addr}{xs:List V}{ds:List Dm}(I:Inv X pins σ H s)(h:SqL X.K H a xs)(d:DtA H xs ds)(hs:zgf ds=true):∃as,Reads s.heap (.ref a) (.list (zfx ds)) as:=by
 obtain⟨its,r,⟨o,n,e,c,_,dd⟩,_⟩:=I.list h
 obtain⟨as,q⟩:=DtA.reads I d hs r
 exact⟨_,.list e c dd (by simpa using q)⟩
theorem q1m(hu:X.A.units+64 < cLine):OpR X (compareOp .NotEq) (zpd X.K):=by
 intro pins s σ H x y v u Q I rx ry h
 obtain⟨b,⟨a,c,xs,ys,ds,es,rfl,rfl,h1,h2,d1,d2,s1,s2,s3,s4,rfl⟩,q⟩:=h
 cases rx; cases ry
 obtain⟨as,ra⟩:=I.readsDL h1 d1 s1
 obtain⟨bs,rb⟩:=I.readsDL h2 d2 s2
 exact ne_dataH ra rb s3 s4 hu ⟨.bl _,H,I,rfl,q⟩
end
end L2
set_option Elab.async false
set_option linter.all false
set_option maxRecDepth 100000
namespace L2
open PySem PySem.Spec PyProof.Rows
def Ris(xs:Array Nat):Prop:=xs.toList.Pairwise (· < ·)
end L2
set_option Elab.async false
set_option linter.all false
set_option maxRecDepth 100000
namespace L2
open PySem PySem.Spec PyProof.Rows
section
variable{prog:Program}{w:World}{κ : Type} [DecidableEq κ] (knd:PySem.KeyKind prog w κ) (key:Value->κ)
def SetX(a:Addr)(L:Bool)(ks:List κ)(h:Heap):Prop:=
 ∃o es ep t,h.get? a=some o/\o.ExactSet/\o.data=.set es ep t/\ElemsOf knd es.toList/\ks=es.toList.map (fun e=>key e.2)/\ks.Nodup/\es.size < scanBound/\t.fits es.size=true/\Ris t.place/\t.led=L
variable{knd key}{A:Around}{E:Value->Shared->Prop}{s:Shared}{a:Addr}{L:Bool}{ks:List κ}
theorem SetX.len{h:Heap}(x:SetX knd key a L ks h):ks.length < scanBound:=by
 obtain⟨o,es,ep,t,_,_,_,_,rfl,_,hb,_⟩:=x
 simpa using hb
abbrev q1s(w:World):Bool:=w.params.followText "set-order"
end
end L2
set_option Elab.async false
set_option linter.all false
set_option maxRecDepth 100000
namespace L2
open PySem PySem.Spec PyProof.Rows
section
variable{prog:Program}{w:World}{A:Around}{E:Value->Shared->Prop}{s:Shared}{S I:Addr}{es:Array (Int×Value)}{ep:Nat}{t:SetTable}{o:Obj}
end
end L2
set_option Elab.async false
set_option linter.all false
set_option maxRecDepth 100000
namespace L2
open PySem PySem.Spec PyProof.Rows
section
variable{prog:Program}{w:World}{A:Around}{E:Value->Shared->Prop}{s:Shared}{S I:Addr}{es:Array (Int×Value)}{ep:Nat}{t:SetTable}{o:Obj}
def q2o:Value->Int
 | .int k _=>k
 | _=>0
theorem zjx{k:Int}{v:Value}(h:(intKind prog w).is k v=true):∃t,v=.int k t:=by
 cases v<;>simp[intKind,Value.isInt] at h
 exact⟨_,by rw [h]⟩
end
end L2
set_option Elab.async false
set_option linter.all false
set_option maxRecDepth 100000
namespace L2
open PySem PySem.Spec PyProof.Rows
def q26(P:Program)(w:World)(p:Addr)(ks:List Int):HO:=.ext (SetX (intKind P w) q2o p (!q1s w) ks)
def q1a(P:Program)(w:World)(K:PySem.W.Frag):List V->Hp->VK->Prop:=fun xs H Q=>∃(a:Addr) (ns:List Int),xs=[.ref a]/\SqL K H a (ns.map V.int)/\ns.length<=1000/\
 ∀(p:Addr) (ks:List Int),H p=none->ks.Nodup->(∀x,x∈ks↔x∈ns)->ks.length<=ns.length->Q (.ref p) (upd H p (q26 P w p ks))
def zu5(P:Program)(w:World):List V->Hp->VK->Prop:=fun xs H Q=>∃(a:Addr) (ks:List Int),xs=[.ref a]/\H a=some (q26 P w a ks)/\ks.length < 64/\
 ∀(l:Addr) (ms:List Int),H l=none->ms.Perm ks->ms.Pairwise (· <= ·)->Q (.ref l) (upd H l (.lst (ms.map V.int)))
section
variable{X:Cx}
end
end L2
set_option Elab.async false
set_option linter.all false
set_option maxRecDepth 100000
namespace L2
open PySem PyProof.Rows
def q2m(P:Program)(w:World)(K:PySem.W.Frag)(mg:Str->Option Value)(base:Heap)(k:Nat)(f:Addr)(sp:Sp):Prop:=∃fd ps,FnOk P w K mg base CX0 k f fd ps sp/\PySem.W.keepIn K (.ref f)=true/\Binds K fd ps []
def zkl(L:Addr->Sp->Prop)(i:Nat)(t:TA):TE:=fun σ H Q=>∃f,σ[i]?=some (some (.ref f))/\∃sp,L f sp/\t σ H fun vs H1=>sp vs H1 Q E0
theorem zud{X:Cx}{x:Str}{i k j:Nat}{e:Expr}{es:List Expr}{t:TA}{p pos:Pos}(hN:X.N[i]?=some x)(hv:Vis X.env.scope x)(hr:Room j X.A)(hk:k<=j)(ha:PA X (e::es) t)
  (hd:(x == ("__debug__" : Str))=false:=by decide) (hcd:(x == ("__classdict__" : Str))=false:=by decide) (hst:z4t (e::es)=true:=by rfl) :
  PE X (.Call (.Name x p) (e::es) [] pos) (zkl (q2m X.prog X.w X.K X.mg X.base k) i t):=by
 have hst':=hst
 rw [z4t,Bool.and_eq_true,Bool.not_eq_true'] at hst'
 have he:=z20 (es:=es) (env:=X.env) hst'.1
 have hpl:=z4s (pos:=pos) (env:=X.env) hst'.2
 refine⟨?_⟩
 intro pins s σ H Q I h
 obtain⟨f,ei,sp,⟨fd,ps,F,hkp,hb⟩,h⟩:=h
 refine wpAny_Call_Name_kw (thn (z00 (pos:=p) hN hv hd hcd pins s σ H (fun x' H'=>x'=.ref f/\t σ H' fun vs H1=>sp vs H1 Q E0) I ⟨_,ei,rfl,h⟩) fun u s0 ⟨x',H',I',r',ex,h'⟩=>?_)
 subst ex
 cases r'
 refine PySem.W.callWith_K (h₀:=X.base) I'.ok.mod.kin hkp (thn (ha pos pins s0 σ H' _ I' h') fun us s1 ⟨vs,H1,I1,r,q⟩=>⟨I1.kIn,?_⟩) he hpl
 exact zvs F (hr.mono hk) hb .nil (fun _ _ _ _ _ _ _ z=>z.elim) I1 r (by rw [List.append_nil]; exact q)
end L2
set_option Elab.async false
set_option linter.all false
set_option maxRecDepth 100000
namespace L2
open PySem PyProof.Rows
section
variable{P:Program}{w:World}{A:Around}{E:Value->Shared->Prop}{s:Shared}
theorem zo1{it t:Addr}{i:Nat}{its:Array Value}{x:Value}{Q:Value->Shared->Prop}(a:s.heap.IsTupleIter it t i)(b:s.heap.IsTuple t its)(c:its[i]?=some x)
  (q:∀h',h'.IsTupleIter it t (i+1)->Heap.SameBut it s.heap h'->Q x {s with heap:=h'}):wpAny (model P w) A (Builtin.SmallTypes.nextOf (.ref it)) Q E s:=by
 have ty:=a.typeIs
 obtain⟨⟨_,dc,_,sl⟩,eo,rfl,rfl⟩:=a
 obtain⟨⟨_,dl,_,ll⟩,el,rfl,nl,rfl⟩:=b
 rw [Builtin.SmallTypes.nextOf]
 refine wpAny_bind (wpAny_callSpecial?_slot (name:="__next__") ty F.slot_tuple_iterator_next (wpAny_call_entry F.slot_tuple_iterator_next ty F.entry_tuple_iterator_next ?_ (F.args_tuple_iterator_next_1 _)))
 wp_walk
 simp only[Int.toNat_natCast,c]
 wp_walk
 exact⟨_,rfl,wpAny_pure (q _ ⟨_,Heap.get?_update_self _ eo rfl,rfl,by simp[Obj.mapFields,rawInt]⟩ (Heap.SameBut.update ..))⟩
theorem zac{it t:Addr}{i:Nat}{its:Array Value}{Q:Value->Shared->Prop}(hh:A.handled=none)(a:s.heap.IsTupleIter it t i)(b:s.heap.IsTuple t its)(c:its[i]?=none)
  (q:∀h' e,Heap.ExtBut it s.heap h'->(∃o,h'.get? e=some o/\o.cls=.type "StopIteration")->E (.ref e) {s with heap:=h'}):wpAny (model P w) A (Builtin.SmallTypes.nextOf (.ref it)) Q E s:=by
 have ty:=a.typeIs
 obtain⟨⟨_,dc,_,sl⟩,eo,rfl,rfl⟩:=a
 obtain⟨⟨_,dl,_,ll⟩,el,rfl,nl,rfl⟩:=b
 rw [Builtin.SmallTypes.nextOf]
 refine wpAny_bind (wpAny_callSpecial?_slot (name:="__next__") ty F.slot_tuple_iterator_next (wpAny_call_entry F.slot_tuple_iterator_next ty F.entry_tuple_iterator_next ?_ (F.args_tuple_iterator_next_1 _)))
 wp_walk
 simp only[Int.toNat_natCast,c]
 have hh':A.in1.handled=none:=hh
 wp_walk
 rw [raiseNew]
 wp_walk
 exact q _ _ (((Heap.SameBut.update ..).extBut.push _).push _) ⟨_,Heap.get?_push_size _ rfl,rfl⟩
theorem zmd(t u:Addr)(xs ys:Array Value):Meets (Builtin.«zip.__new__» ⟨[.type "zip",.ref t,.ref u],[]⟩) (fun _ R s=>s.heap.IsTuple t xs/\s.heap.IsTuple u ys/\
  ∀h',IsZip h' (s.heap.objs.size+4) (s.heap.objs.size+2) (s.heap.objs.size+3) .none->IsPair h' (s.heap.objs.size+2) (.ref s.heap.objs.size) (.ref (s.heap.objs.size+1))->IsPair h' (s.heap.objs.size+3) .none .none->
   h'.IsTupleIter s.heap.objs.size t 0->h'.IsTupleIter (s.heap.objs.size+1) u 0->h'.objs.size=s.heap.objs.size+5->(∀c o,s.heap.get? c=some o->h'.get? c=some o)->R (.ok (.ret (.ref (s.heap.objs.size+4)))) {s with heap:=h'}):=by
 refine .of_wp fun prog w A R s h=>?_
 obtain⟨hp,g,d,tk,os⟩:=s
 obtain⟨h1,h2,h⟩:=h
 have zz:=sub_zip
 have e1:Heap.IsTuple (Shared.heap ⟨hp,g,d,tk,os⟩) t xs:=h1
 have e2:Heap.IsTuple (Shared.heap ⟨hp.push {cls:=.type "tuple_iterator",data:=.fields #[.ref t,.int 0 0]},g,d,tk,os⟩) u ys:=Heap.IsTuple.push h2 _
 wp_walk using wpAny_pyIter_tuple e1,wpAny_pyIter_tuple e2
 refine⟨_,rfl,?_⟩
 have put:∀{k:Heap} {o:Obj} {n:Nat},n=k.objs.size->o.isFreed=false->(k.push o).get? n=some o:=fun e f=>by subst e; exact Heap.get?_push_size _ f
 have up:∀{k:Heap} {o o':Obj} {n:Nat},k.get? n=some o->(k.push o').get? n=some o:=fun e=>Heap.get?_push_of_some _ e
 simp only[Heap.size_push,Nat.add_assoc,Nat.reduceAdd]
 refine h _ ?_ ?_ ?_ ⟨_,up (up (up (up (put rfl rfl)))),rfl,rfl⟩ ⟨_,up (up (up (put (by simp[Heap.size_push]) rfl))),rfl,rfl⟩ (by simp[Heap.size_push]) fun c o x=>up (up (up (up (up x))))
 ·exact put (by simp[Heap.size_push]) rfl
 ·exact up (up (put (by simp[Heap.size_push]) rfl))
 ·exact up (put (by simp[Heap.size_push]) rfl)
def Nx(P:Program)(w:World)(A:Around)(it:Addr)(Q:Value->Shared->Prop)(E:Value->Shared->Prop)(s:Shared):Prop:=wpAny (model P w) A (Builtin.SmallTypes.nextOf (.ref it)) Q E s
theorem zgv{it:Addr}{Q:Value->Shared->Prop}(h:Nx P w A it Q E s):wpAny (model P w) A (Builtin.SmallTypes.nextOf (.ref it)) Q E s:=h
end
end L2
set_option Elab.async false
set_option linter.all false
set_option maxRecDepth 100000
namespace L2
open PySem PyProof.Rows
section
variable{P:Program}{w:World}{A:Around}{E:Value->Shared->Prop}{s:Shared}
set_option maxHeartbeats 8000000 in
theorem zor{z I O i1 i2 t u:Addr}{k:Nat}{xs ys:Array Value}{x y a b:Value}{Q:Value->Shared->Prop}(D:ZipApart z I O i1 i2 t u)(hz:IsZip s.heap z I O .none)(hI:IsPair s.heap I (.ref i1) (.ref i2))(hO:IsPair s.heap O a b)
  (h1:s.heap.IsTupleIter i1 t k) (h2:s.heap.IsTupleIter i2 u k) (ht:s.heap.IsTuple t xs) (hu:s.heap.IsTuple u ys) (hx:xs[k]?=some x) (hy:ys[k]?=some y)
  (q:∀h',IsZip h' z I O (rawInt s.heap.objs.size)->IsPair h' O x y->h'.IsTupleIter i1 t (k+1)->h'.IsTupleIter i2 u (k+1)->IsPair h' s.heap.objs.size x y->h'.objs.size=s.heap.objs.size+1->
   (∀c o,c≠z->c≠O->c≠i1->c≠i2->s.heap.get? c=some o->h'.get? c=some o)->Q (.ref s.heap.objs.size) {s with heap:=h'}) :
  wpAny (model P w) A (Builtin.«zip.__next__» ⟨[.ref z],[]⟩) (fun fin s'=>∃v,fin=.done (.ret v)/\Q v s') E s:=by
 wp_walk using wpAny_onRaise,zgv
 have m0:Heap.SameBut z s.heap (s.heap.update z (Obj.mapFields fun x=>x.setIfInBounds 0 Value.ellipsis)):=Heap.SameBut.update ..
 have z0:IsZip (s.heap.update z (Obj.mapFields fun x=>x.setIfInBounds 0 Value.ellipsis)) z I O .ellipsis:=Heap.get?_update_self _ hz rfl
 generalize s.heap.update z (Obj.mapFields fun x=>x.setIfInBounds 0 Value.ellipsis)=g0 at m0 z0 |-
 refine zo1 (h1.extBut m0.extBut D.i1z) (ht.extBut m0.extBut D.l1z) hx fun g1 j1 m1=>?_
 have o1:IsPair g1 O a b:=m1.extBut _ _ D.TOi1 (m0.extBut _ _ D.TOz hO)
 wp_walk using wpAny_onRaise,zgv
 have m2:Heap.SameBut O g1 (g1.update O (Obj.mapSeq fun v=>v.setIfInBounds 0 x)):=Heap.SameBut.update ..
 have o2:IsPair (g1.update O (Obj.mapSeq fun v=>v.setIfInBounds 0 x)) O x b:=Heap.get?_update_self _ o1 rfl
 generalize g1.update O (Obj.mapSeq fun v=>v.setIfInBounds 0 x)=g2 at m2 o2 |-
 refine zo1 (((h2.extBut m0.extBut D.i2z).extBut m1.extBut D.i12.symm).extBut m2.extBut D.TOi2.symm) (((hu.extBut m0.extBut D.l2z).extBut m1.extBut D.l2i1).extBut m2.extBut D.l2TO) hy fun g3 j3 m3=>?_
 have o3:IsPair g3 O x b:=m3.extBut _ _ D.TOi2 o2
 have z3:IsZip g3 z I O .ellipsis:=m3.extBut _ _ D.i2z.symm (m2.extBut _ _ D.TOz.symm (m1.extBut _ _ D.i1z.symm z0))
 wp_walk using wpAny_onRaise,zgv
 have m4:Heap.SameBut O g3 (g3.update O (Obj.mapSeq fun v=>v.setIfInBounds (0+1) y)):=Heap.SameBut.update ..
 have o4:IsPair (g3.update O (Obj.mapSeq fun v=>v.setIfInBounds (0+1) y)) O x y:=Heap.get?_update_self _ o3 rfl
 generalize g3.update O (Obj.mapSeq fun v=>v.setIfInBounds (0+1) y)=g4 at m4 o4 |-
 have n4:g4.objs.size=s.heap.objs.size:=m4.1.trans (m3.1.trans (m2.1.trans (m1.1.trans m0.1)))
 rw [show((fun v:Array Value=>v.setIfInBounds (0+1) y) #[x,b]).toList.toArray = #[x,y] from rfl]
 have e5:IsPair (g4.push {cls:=.type "tuple",data:=.seq #[x,y]}) g4.objs.size x y:=Heap.get?_push_size _ rfl
 have z4:IsZip (g4.push {cls:=.type "tuple",data:=.seq #[x,y]}) z I O .ellipsis:=Heap.get?_push_of_some _ (m4.extBut _ _ D.TOz.symm z3)
 have k5:∀c o,c≠z->c≠O->c≠i1->c≠i2->s.heap.get? c=some o->(g4.push {cls:=.type "tuple",data:=.seq #[x,y]}).get? c=some o:=fun c o c1 c2 c3 c4 h=>Heap.get?_push_of_some _ (m4.extBut _ _ c2 (m3.extBut _ _ c4 (m2.extBut _ _ c2 (m1.extBut _ _ c3 (m0.extBut _ _ c1 h)))))
 have o5:IsPair (g4.push {cls:=.type "tuple",data:=.seq #[x,y]}) O x y:=Heap.get?_push_of_some _ o4
 have y1:(g4.push {cls:=.type "tuple",data:=.seq #[x,y]}).IsTupleIter i1 t (k+1):=(((j1.extBut m2.extBut D.TOi1.symm).extBut m3.extBut D.i12).extBut m4.extBut D.TOi1.symm).at fun o h=>Heap.get?_push_of_some _ h
 have y2:(g4.push {cls:=.type "tuple",data:=.seq #[x,y]}).IsTupleIter i2 u (k+1):=(j3.extBut m4.extBut D.TOi2.symm).at fun o h=>Heap.get?_push_of_some _ h
 have s5:(g4.push {cls:=.type "tuple",data:=.seq #[x,y]}).objs.size=s.heap.objs.size+1:=by rw [size_push',n4]
 rw [n4] at e5
 rw [n4]
 generalize g4.push {cls:=.type "tuple",data:=.seq #[x,y]}=g5 at e5 z4 k5 o5 y1 y2 s5 |-
 wp_walk
 have m6:Heap.SameBut z g5 ((g5.update z (Obj.mapFields fun v=>v.setIfInBounds 0 (rawInt s.heap.objs.size))).update z (Obj.mapFields fun v=>v.setIfInBounds 1 (Value.bool false))):=(Heap.SameBut.update ..).trans (Heap.SameBut.update ..)
 refine⟨_,rfl,q _ (Heap.get?_update_self _ (Heap.get?_update_self _ z4 rfl) rfl) (m6.extBut _ _ D.TOz o5) (y1.extBut m6.extBut D.i1z) (y2.extBut m6.extBut D.i2z) (m6.extBut _ _ (Nat.ne_of_gt (Heap.lt_size hz)) e5) (m6.1.trans s5) fun c o c1 c2 c3 c4 h=>m6.extBut _ _ c1 (k5 c o c1 c2 c3 c4 h)⟩
set_option maxHeartbeats 8000000 in
theorem zme{z I O i1 i2 t u:Addr}{k:Nat}{xs ys:Array Value}{a b:Value}{Q:Fin->Shared->Prop}(hh:A.handled=none)(D:ZipApart z I O i1 i2 t u)(hz:IsZip s.heap z I O .none)(hI:IsPair s.heap I (.ref i1) (.ref i2))(hO:IsPair s.heap O a b)
  (h1:s.heap.IsTupleIter i1 t k) (h2:s.heap.IsTupleIter i2 u k) (ht:s.heap.IsTuple t xs) (hu:s.heap.IsTuple u ys) (hend:xs[k]?=none\/ys[k]?=none)
  (q:∀h' e,(∀c o,c≠z->c≠O->c≠i1->c≠i2->s.heap.get? c=some o->h'.get? c=some o)->(∃o,h'.get? e=some o/\o.cls=.type "StopIteration")->E (.ref e) {s with heap:=h'}) :
  wpAny (model P w) A (Builtin.«zip.__next__» ⟨[.ref z],[]⟩) Q E s:=by
 wp_walk using wpAny_onRaise,zgv
 have m0:Heap.SameBut z s.heap (s.heap.update z (Obj.mapFields fun x=>x.setIfInBounds 0 Value.ellipsis)):=Heap.SameBut.update ..
 have z0:IsZip (s.heap.update z (Obj.mapFields fun x=>x.setIfInBounds 0 Value.ellipsis)) z I O .ellipsis:=Heap.get?_update_self _ hz rfl
 generalize s.heap.update z (Obj.mapFields fun x=>x.setIfInBounds 0 Value.ellipsis)=g0 at m0 z0 |-
 cases hx:xs[k]? with
 | none=>
  refine zac hh (h1.extBut m0.extBut D.i1z) (ht.extBut m0.extBut D.l1z) hx fun g1 e1 m1 he=>?_
  have z1:IsZip g1 z I O .ellipsis:=m1 _ _ D.i1z.symm z0
  obtain⟨oe,ho,hc⟩:=he
  have ne:e1≠z:=fun x=>by subst x; rw [z1] at ho; cases ho; simp at hc
  exact wpAny_setField_rec z1 (by simp) fun h5 _ m5=>q h5 e1 (fun c o c1 c2 c3 c4 h=>m5.extBut _ _ c1 (m1 _ _ c3 (m0.extBut _ _ c1 h))) ⟨oe,m5.extBut _ _ ne ho,hc⟩
 | some x=>
  have hy:ys[k]?=none:=hend.resolve_left (by rw [hx]; simp)
  refine zo1 (h1.extBut m0.extBut D.i1z) (ht.extBut m0.extBut D.l1z) hx fun g1 j1 m1=>?_
  have o1:IsPair g1 O a b:=m1.extBut _ _ D.TOi1 (m0.extBut _ _ D.TOz hO)
  wp_walk using wpAny_onRaise,zgv
  have m2:Heap.SameBut O g1 (g1.update O (Obj.mapSeq fun v=>v.setIfInBounds 0 x)):=Heap.SameBut.update ..
  generalize g1.update O (Obj.mapSeq fun v=>v.setIfInBounds 0 x)=g2 at m2 |-
  refine zac hh (((h2.extBut m0.extBut D.i2z).extBut m1.extBut D.i12.symm).extBut m2.extBut D.TOi2.symm) (((hu.extBut m0.extBut D.l2z).extBut m1.extBut D.l2i1).extBut m2.extBut D.l2TO) hy fun g3 e3 m3 he=>?_
  have z3:IsZip g3 z I O .ellipsis:=m3 _ _ D.i2z.symm (m2.extBut _ _ D.TOz.symm (m1.extBut _ _ D.i1z.symm z0))
  obtain⟨oe,ho,hc⟩:=he
  have ne:e3≠z:=fun x=>by subst x; rw [z3] at ho; cases ho; simp at hc
  exact wpAny_setField_rec z3 (by simp) fun h5 _ m5=>q h5 e3 (fun c o c1 c2 c3 c4 h=>m5.extBut _ _ c1 (m3 _ _ c4 (m2.extBut _ _ c2 (m1.extBut _ _ c3 (m0.extBut _ _ c1 h))))) ⟨oe,m5.extBut _ _ ne ho,hc⟩
end
end L2
set_option Elab.async false
set_option linter.all false
set_option maxRecDepth 100000
namespace L2
open PySem PySem.Spec PyProof.Rows
section
variable{P:Program}{w:World}{A:Around}{E:Value->Shared->Prop}{s:Shared}
theorem zqf{z I O i1 i2 t u:Addr}{k:Nat}{xs ys:Array Value}{x y a b:Value}{Q:Option Value->Shared->Prop}(D:ZipApart z I O i1 i2 t u)(hz:IsZip s.heap z I O .none)(hI:IsPair s.heap I (.ref i1) (.ref i2))(hO:IsPair s.heap O a b)
  (h1:s.heap.IsTupleIter i1 t k) (h2:s.heap.IsTupleIter i2 u k) (ht:s.heap.IsTuple t xs) (hu:s.heap.IsTuple u ys) (hx:xs[k]?=some x) (hy:ys[k]?=some y)
  (q:∀h',IsZip h' z I O (rawInt s.heap.objs.size)->IsPair h' O x y->h'.IsTupleIter i1 t (k+1)->h'.IsTupleIter i2 u (k+1)->IsPair h' s.heap.objs.size x y->h'.objs.size=s.heap.objs.size+1->
   (∀c o,c≠z->c≠O->c≠i1->c≠i2->s.heap.get? c=some o->h'.get? c=some o)->Q (some (.ref s.heap.objs.size)) {s with heap:=h'}):wpAny (model P w) A (pyNext (.ref z)) Q E s:=by
 have ty:s.TypeIs (.ref z) "zip":=⟨_,hz,rfl⟩
 rw [pyNext]
 refine wpAny_bind (wpAny_attempt (wpAny_callSpecial?_slot (name:="__next__") ty PySem.F.slot_zip_next (wpAny_call_entry PySem.F.slot_zip_next ty PySem.F.entry_zip_next ?_ (PySem.F.args_zip_next_1 _))))
 exact zor D hz hI hO h1 h2 ht hu hx hy fun h' b1 b2 b3 b4 b5 b6 b7=>wpAny_pure (q h' b1 b2 b3 b4 b5 b6 b7)
theorem ztt{z I O i1 i2 t u:Addr}{k:Nat}{xs ys:Array Value}{a b:Value}{Q:Option Value->Shared->Prop}(hh:A.handled=none)(D:ZipApart z I O i1 i2 t u)(hz:IsZip s.heap z I O .none)(hI:IsPair s.heap I (.ref i1) (.ref i2))(hO:IsPair s.heap O a b)
  (h1:s.heap.IsTupleIter i1 t k) (h2:s.heap.IsTupleIter i2 u k) (ht:s.heap.IsTuple t xs) (hu:s.heap.IsTuple u ys) (hend:xs[k]?=none\/ys[k]?=none)
  (q:∀h',(∀c o,c≠z->c≠O->c≠i1->c≠i2->s.heap.get? c=some o->h'.get? c=some o)->Q none {s with heap:=h'}):wpAny (model P w) A (pyNext (.ref z)) Q E s:=by
 have ty:s.TypeIs (.ref z) "zip":=⟨_,hz,rfl⟩
 rw [pyNext]
 refine wpAny_bind (wpAny_attempt (wpAny_callSpecial?_slot (name:="__next__") ty PySem.F.slot_zip_next (wpAny_call_entry PySem.F.slot_zip_next ty PySem.F.entry_zip_next (zme (by simpa using hh) D hz hI hO h1 h2 ht hu hend fun h' e hk he=>?_) (PySem.F.args_zip_next_1 _))))
 obtain⟨o,ho,hc⟩:=he
 exact wpAny_bind (wpAny_isInstance (b:=true) ⟨o,ho,hc⟩ isSubtype_stop (wpAny_pure (q _ hk)))
theorem zth{t u:Addr}{xs ys:Array Value}{Q:Value->Shared->Prop}(ht:s.heap.IsTuple t xs)(hu:s.heap.IsTuple u ys)
  (h:∀h',IsZip h' (s.heap.objs.size+4) (s.heap.objs.size+2) (s.heap.objs.size+3) .none->IsPair h' (s.heap.objs.size+2) (.ref s.heap.objs.size) (.ref (s.heap.objs.size+1))->IsPair h' (s.heap.objs.size+3) .none .none->
   h'.IsTupleIter s.heap.objs.size t 0->h'.IsTupleIter (s.heap.objs.size+1) u 0->h'.objs.size=s.heap.objs.size+5->(∀c o,s.heap.get? c=some o->h'.get? c=some o)->Q (.ref (s.heap.objs.size+4)) {s with heap:=h'}) :
  wpAny (model P w) A (call (.type "zip") [.ref t,.ref u]) Q E s:=by
 refine callType_new PySem.F.called_zip (by decide) (PySem.F.typeCall_zip_2 _ _) (PySem.F.newCall_zip_2 _ _) (fun obj=>PySem.F.args_object_init_3 obj _ _) PySem.F.entry_zip_new (zmd t u xs ys) ⟨ht,hu,fun h' b1 b2 b3 b4 b5 b6 b7=>?_⟩
 exact⟨⟨_,b1,rfl⟩,h h' b1 b2 b3 b4 b5 b6 b7⟩
end
def q0v(K:PySem.W.Frag)(a b:Addr):It:=
 ⟨fun i H=>∃xs ys x y,SqT K H a xs/\SqT K H b ys/\xs[i]?=some x/\ys[i]?=some y,fun i H x H'=>∃T u v,x=.ref T/\H T=none/\H'=upd H T (.tup [u,v])/\(∀xs,SqT K H a xs->xs[i]?=some u)/\∀ys,SqT K H b ys->ys[i]?=some v,
  fun i H=>∃xs ys,SqT K H a xs/\SqT K H b ys/\(xs.length<=i\/ys.length<=i)⟩
theorem zqi{P:Program}{w:World}{K:PySem.W.Frag}{elts:List Expr}{kt:Nat}{pt:Pos}(a b z TI TO i1 i2:Addr)(D:ZipApart z TI TO i1 i2 a b) :
  Turn P w K (.Tuple elts kt pt) (q0v K a b) [z,TI,TO,i1,i2] z (fun i h=>IsZip h z TI TO .none/\IsPair h TI (.ref i1) (.ref i2)/\(∃u v,IsPair h TO u v)/\h.IsTupleIter i1 a i/\h.IsTupleIter i2 b i) where
 mem:=by simp
 obj:=fun i h st c hc=>by
  obtain⟨hz,hTI,⟨u,v,hTO⟩,h1,h2⟩:=st
  simp only[List.mem_cons,List.not_mem_nil,or_false] at hc
  rcases hc with rfl | rfl | rfl | rfl | rfl
  ·exact⟨_,hz,fun v z=>by cases z⟩
  ·exact⟨_,hTI,fun v z=>by cases z⟩
  ·exact⟨_,hTO,fun v z=>by cases z⟩
  ·obtain⟨o,e',c,d⟩:=h1
   exact⟨o,e',fun v z=>by rw [d] at z; cases z⟩
  ·obtain⟨o,e',c,d⟩:=h2
   exact⟨o,e',fun v z=>by rw [d] at z; cases z⟩
 keep:=fun i h h' st k=>by
  obtain⟨hz,hTI,⟨u,v,hTO⟩,h1,h2⟩:=st
  exact⟨k z (by simp) _ hz,k TI (by simp) _ hTI,⟨u,v,k TO (by simp) _ hTO⟩,h1.at fun o q=>k i1 (by simp) o q,h2.at fun o q=>k i2 (by simp) o q⟩
 item:=by
  intro X hP hw hK hc i pins s σ H E I hf st hg
  subst hP hw hK
  obtain⟨hz,hTI,⟨u0,v0,hTO⟩,h1,h2⟩:=st
  obtain⟨xs,ys,x,y,hq,hq2,hx,hy⟩:=hg
  obtain⟨its,rv,p,_⟩:=I.tuple hq
  obtain⟨its2,rv2,p2,_⟩:=I.tuple hq2
  obtain⟨u,hu,ru⟩:=rv.get hx
  obtain⟨u2,hu2,ru2⟩:=rv2.get hy
  refine zqf D hz hTI hTO h1 h2 p p2 (x:=u) (y:=u2) (by simpa using hu) (by simpa using hu2) fun h3 a1 a2 a3 a4 a5 a6 hk=>?_
  refine⟨_,rfl,wpAny_letOwnedTupleGo_zip a1 fun h4 hz4 hs4=>?_⟩
  have hs4':Heap.SameBut z h3 h4:=hs4
  have hzl:z < s.heap.objs.size:=Heap.lt_size hz
  have kk:∀c o,c∉[z,TI,TO,i1,i2]->s.heap.get? c=some o->h4.get? c=some o:=fun c o hc' q=>
   hs4'.extBut c o (fun e=>hc' (by simp[e])) (hk c o (fun e=>hc' (by simp[e])) (fun e=>hc' (by simp[e])) (fun e=>hc' (by simp[e])) (fun e=>hc' (by simp[e])) q)
  have I1:Inv X pins σ H {s with heap:=h4,toks:=s.toks}:=I.turnedL kk hf
  have hTn:H s.heap.objs.size=none:=I.hok.fresh (Nat.le_refl _)
  have hT2:h4.get? s.heap.objs.size=some {cls:=.type "tuple",data:=.seq #[u,u2]}:=hs4'.extBut _ _ (Nat.ne_of_gt hzl) a5
  have I2:Inv X pins σ (upd H s.heap.objs.size (.tup [x,y])) {s with heap:=h4,toks:=s.toks}:=
   I1.track hTn (I.fpOk (Nat.le_refl _) hTn) (show ObjOk X.prog X.w _ h4 _ (.tup [x,y]) from⟨zvl,[u,u2],.cons ru (.cons ru2 .nil),⟨_,hT2,rfl,_,rfl⟩⟩)
  refine⟨.ref s.heap.objs.size,_,I2,rfl,⟨s.heap.objs.size,x,y,rfl,hTn,rfl,fun zs hz'=>by rw [I.tuple_inj hz' hq]; exact hx,fun zs hz'=>by rw [I.tuple_inj hz' hq2]; exact hy⟩,
   ⟨hz4,hs4'.extBut _ _ D.TIz (hk _ _ D.TIz D.TITO D.TIi1 D.TIi2 hTI),⟨_,_,hs4'.extBut _ _ D.TOz a2⟩,a3.at fun o q=>(hs4'.2 i1 D.i1z).trans q,a4.at fun o q=>(hs4'.2 i2 D.i2z).trans q⟩,fun c hc'=>?_⟩
  have hcl:c < s.heap.objs.size:=by
   simp only[List.mem_cons,List.not_mem_nil,or_false] at hc'
   rcases hc' with rfl | rfl | rfl | rfl | rfl
   ·exact hzl
   ·exact Heap.lt_size hTI
   ·exact Heap.lt_size hTO
   ·obtain⟨o,e',_⟩:=h1; exact Heap.lt_size e'
   ·obtain⟨o,e',_⟩:=h2; exact Heap.lt_size e'
  rw [z0s (Nat.ne_of_lt hcl)]
  exact(hf c hc').1
 done:=by
  intro X hP hw hK hc i pins s σ H E I hf st hg
  subst hP hw hK
  obtain⟨hz,hTI,⟨u0,v0,hTO⟩,h1,h2⟩:=st
  obtain⟨xs,ys,hq,hq2,hend⟩:=hg
  obtain⟨its,rv,p,_⟩:=I.tuple hq
  obtain⟨its2,rv2,p2,_⟩:=I.tuple hq2
  have e1:=rv.length
  have e2:=rv2.length
  refine ztt (I.ok.hd hc) D hz hTI hTO h1 h2 p p2 ?_ fun h' hk=>⟨rfl,I.turnedL (t':=s.toks) (fun c o hc' q=>hk c o (fun e=>hc' (by simp[e])) (fun e=>hc' (by simp[e])) (fun e=>hc' (by simp[e])) (fun e=>hc' (by simp[e])) q) hf⟩
  rcases hend with z | z
  ·exact .inl (by simp; omega)
  ·exact .inr (by simp; omega)
 self:=fun _ _ _ _ _ st h=>wpAny_pyIter_zip st.1 h
section
variable{X:Cx}
def zxv(K:PySem.W.Frag)(ta:TA):TI:=fun σ H R=>ta σ H fun vs H1=>∃a b,vs=[.ref a,.ref b]/\(∃xs,SqT K H1 a xs)/\(∃ys,SqT K H1 b ys)/\R (q0v K a b) H1
theorem zx5{elts:List Expr}{kt:Nat}{pt p pos:Pos}{l l2:Expr}{ta:TA} (hg:Gl X "zip") (hm:X.mg "zip" = none) (ha:PA X [l,l2] ta) (hst:zj4 l=false:=by rfl) (hst2:zj4 l2=false:=by rfl):PI X (.Tuple elts kt pt) (.Call (.Name "zip" p) [l,l2] [] pos) (zxv X.K ta):=by
 refine⟨?_⟩
 intro pins s σ H R I h
 have hpl:=z4s (pos:=pos) (env:=X.env) (es:=[l2]) (by simp[z4t,hst2])
 refine Call_ (zh9 I hg hm boot_zip (PyProof.Rows.callWith_type1 (thn (ha pos pins s σ H _ I h) fun us s1 ⟨vs,H1,I1,r1,q1⟩=>?_) (z20 hst) hpl))
 obtain⟨a,b,e,⟨xs,hq⟩,⟨ys,hq2⟩,q⟩:=q1
 subst e
 cases r1 with
 | cons r rr=>
  cases rr with
  | cons r2 rr=>
   cases rr
   cases r
   cases r2
   obtain⟨its,rv,pl,_⟩:=I1.tuple hq
   obtain⟨its2,rv2,pl2,_⟩:=I1.tuple hq2
   have hla:a < s1.heap.objs.size:=by obtain⟨_,e,_⟩:=pl; exact Heap.lt_size e
   have hlb:b < s1.heap.objs.size:=by obtain⟨_,e,_⟩:=pl2; exact Heap.lt_size e
   refine zth pl pl2 fun h' hz hTI hTO h1 h2 hsz hk=>?_
   have I2:Inv X pins σ H1 {s1 with heap:=h'}:=I1.kept (t':=s1.toks) hk
   refine wpAny_pyIter_zip hz ?_
   refine⟨s1.heap.objs.size+4,[s1.heap.objs.size+4,s1.heap.objs.size+2,s1.heap.objs.size+3,s1.heap.objs.size,s1.heap.objs.size+1],_,_,H1,rfl,I2,zqi a b _ _ _ _ _ (zipApart_new hla hlb),⟨hz,hTI,⟨_,_,hTO⟩,h1,h2⟩,fun c hc=>?_,q⟩
   have hle:s1.heap.objs.size<=c:=by
    simp only[List.mem_cons,List.not_mem_nil,or_false] at hc
    rcases hc with rfl | rfl | rfl | rfl | rfl<;>first | exact Nat.le_refl _ | exact Nat.le_add_right _ _
   exact I1.fpOk hle (I1.hok.fresh hle)
end
section
variable{prog:Program}{w:World}{A:Around}{E:Value->Shared->Prop}{s:Shared}
theorem zbo{t sl:Addr}{items:Array Value}{vl vu:Value}{lo hi:Option Int}{Q:Value->Shared->Prop}(ht:IsTup s.heap t items)(hs:s.heap.IsSliceOf sl vl vu .none)(pl:IsPart vl lo)(pu:IsPart vu hi)
  (hw:HT.sIx items.size 0 lo=0/\HT.sIx items.size items.size hi=items.size) (h:Q (.ref t) s):wpAny (model prog w) A (getItem (.ref t) (.ref sl)) Q E s:=by
 obtain⟨os,hos,hcs,hds⟩:=id hs
 have ts:s.TypeIs (.ref sl) "slice":=⟨os,hos,hcs⟩
 unfold getItem
 try with_reducible refine wpAny_holding ?_
 first | refine wpAny_bind (wpAny_pure ?_) | skip
 refine wpAny_bind (wpAny_sequenceKey ht.typeIs (by decide) ?_)
 refine wpAny_bind (wpAny_callSpecial?_slot (name:=Str.ofString "__getitem__") ht.typeIs PyProof.Rows.slot_tuple_getitem (wpAny_call_entry PyProof.Rows.slot_tuple_getitem ht.typeIs entry_tuple_getitem ?_ (args_tuple_getitem _ _)))
 show wpAny _ _ (Builtin.Tuple.tupleItemsOf (.ref t) >>= _) _ _ s
 refine wpAny_bind (PyProof.Rows.tupleItemsOf_ ht (wpAny_bind (wpAny_typeOf ts ?_)))
 rw [if_pos (by decide)]
 refine wpAny_bind (HT.z8y hs pl pu ?_)
 refine wpAny_ite_split (fun _=>?_) (fun c=>absurd ?_ c)
 ·unfold Builtin.Tuple.tupleIsExact
  refine wpAny_bind (wpAny_bind (wpAny_typeOf ht.typeIs (wpAny_pure ?_)))
  refine wpAny_ite_split (fun _=>?_) (fun c=>absurd (by decide) c)
  exact wpAny_bind (wpAny_rule (wpAny_pure ⟨_,rfl,wpAny_pure h⟩))
 ·rw [hw.1,hw.2]
  simp
end
section
variable{X:Cx}
def zzi(K:PySem.W.Frag):V->Option Int->Option Int->Hp->VK->Prop:=fun x lo hi H Q=>∃a xs,x=.ref a/\SqT K H a xs/\
 (((HT.sIx xs.length 0 lo=0/\HT.sIx xs.length xs.length hi=xs.length)/\Q (.ref a) H)\/(¬ (HT.sIx xs.length 0 lo=0/\HT.sIx xs.length xs.length hi=xs.length)/\∀p,H p=none->Q (.ref p) (upd H p (.tup (zz2 xs lo hi)))))
theorem zr4:SlR X (zzi X.K):=by
 intro pins s σ H x v vl vu lo hi sl Q I rx hs pl pu h
 obtain⟨a,xs,rfl,hx,⟨hw,q⟩ | ⟨hw,q⟩⟩:=h
 ·cases rx
  obtain⟨its,r,ht,hz⟩:=I.tuple hx
  have hlen:its.toArray.size=xs.length:=by rw [List.size_toArray]; exact r.length.symm
  exact⟨"tuple",_,PyProof.Rows.slot_tuple_getitem.lookup,ht.typeIs,zbo ht hs pl pu (by rw [hlen]; exact hw) ⟨.ref a,H,I,rfl,q⟩⟩
 ·exact zzd pins s σ H (.ref a) v vl vu lo hi sl Q I rx hs pl pu ⟨a,xs,rfl,hx,hw,q⟩
end
theorem zt8{K:PySem.W.Frag}{a b:Addr}{xs ys:List V}{g:TG}{tt:TT}{te:TE}{Q:VK}{σ : St}{H:Hp}(hxy:ys.length<=xs.length)(Pv:Nat->List V->St->Hp->Prop)(h0:Pv 0 [] σ H)(hz:ys.length < sizeLine)(hy:∀i zs σ H,Pv i zs σ H->zs.length<=i)(hl:∀i zs σ H,i<=ys.length->Pv i zs σ H->SqT K H a xs/\SqT K H b ys)
  (hs:∀i zs x y σ H T,xs[i]?=some x->ys[i]?=some y->Pv i zs σ H->H T=none->g (.ref T) σ (upd H T (.tup [x,y])) fun σ2 H2=>tt σ2 H2 fun b H3=>if b=true then te σ2 H3 (fun v H4=>Pv (i+1) (zs++[v]) σ2 H4) else Pv (i+1) zs σ2 H3)
  (hd:∀zs σ H,Pv ys.length zs σ H->∀p,H p=none->Q (.ref p) (upd H p (.lst zs))):zaw (q0v K a b) g tt te Q σ H:=by
 refine⟨fun i m zs σ H=>m=ys.length - i/\i<=ys.length/\Pv i zs σ H,⟨ys.length,by simp,Nat.zero_le _,h0⟩,?_⟩
 rintro i m zs σ H ⟨rfl,hi,p⟩
 have q:=hl i zs σ H hi p
 have hyl:=hy i zs σ H p
 by_cases hlt:i < ys.length
 ·refine .inr ⟨⟨xs,ys,xs[i]'(by omega),ys[i],q.1,q.2,by simp,by simp⟩,by omega,Pv (i+1),fun ys' σ' H' p'=>⟨ys.length - (i+1),by omega,rfl,hlt,p'⟩,fun x H' y=>?_⟩
  obtain⟨T,u,v,rfl,hT,rfl,y1,y2⟩:=y
  exact hs i zs u v σ H T (y1 xs q.1) (y2 ys q.2) p hT
 ·have e:i=ys.length:=by omega
  subst e
  exact .inl ⟨⟨xs,ys,q.1,q.2,.inr (Nat.le_refl _)⟩,by omega,hd zs σ H p⟩
theorem zrp{P:Program}{w:World}{K:PySem.W.Frag}{mg:Str->Option Value}{base:Heap}{X:Cx}{x:Str}{i k j:Nat}{e:Expr}{es:List Expr}{t:TA}{p pos:Pos}(eP:X.prog=P)(ew:X.w=w)(eK:X.K=K)(em:X.mg=mg)(eb:X.base=base)
  (hN:X.N[i]?=some x) (hv:Vis X.env.scope x) (hr:Room j X.A) (hk:k<=j) (ha:PA X (e::es) t)
  (hd:(x == ("__debug__" : Str))=false:=by decide) (hcd:(x == ("__classdict__" : Str))=false:=by decide) (hst:z4t (e::es)=true:=by rfl) :
  PE X (.Call (.Name x p) (e::es) [] pos) (zkl (q2m P w K mg base k) i t):=by
 subst eP ew eK em eb
 exact zud hN hv hr hk ha hd hcd hst
end L2
set_option Elab.async false
set_option linter.all false
set_option maxRecDepth 100000
namespace L2
open PySem PySem.Spec PyProof.Rows
inductive DX where
 | c (d:Dm) | var (i:Nat) | tup (l:List DX) | lst (l:List DX) | cat (a b:DX) | lof (a:DX)
def q2x:Dm->Dm->Dm
 | .tup x,.tup y=>.tup (x++y)
 | _,_=>.non
mutual
def DX.val(ρ : Nat->Dm):DX->Dm
 | .c d=>d
 | .var i=>ρ i
 | .tup l=>.tup (q12 ρ l)
 | .lst _=>.lst
 | .cat a b=>q2x (a.val ρ) (b.val ρ)
 | .lof _=>.lst
def q12(ρ : Nat->Dm):List DX->List Dm
 | []=>[]
 | x::r=>x.val ρ::q12 ρ r
end
mutual
def DX.Fit(ρ : Nat->Dm)(σ : St)(H:Hp):DX->Prop
 | .c _=>True
 | .var i=>∃v,σ[i]?=some (some v)/\Dt H v (ρ i)
 | .tup l=>l.length<=1000/\q11 ρ σ H l
 | .lst l=>l.length<=1000/\q11 ρ σ H l
 | .cat a b=>a.Fit ρ σ H/\b.Fit ρ σ H/\∃x y,a.val ρ = .tup x/\b.val ρ = .tup y/\x.length+y.length<=1000
 | .lof a=>a.Fit ρ σ H/\∃x,a.val ρ = .tup x
def q11(ρ : Nat->Dm)(σ : St)(H:Hp):List DX->Prop
 | []=>True
 | x::r=>x.Fit ρ σ H/\q11 ρ σ H r
end
structure Env(ρ : Nat->Dm)(σ : St)(H:Hp)(vo vt:List Nat):Prop where
 o:∀i∈vo,∃v,σ[i]?=some (some v)/\Dt H v (ρ i)
 t:∀i∈vt,∃ds,ρ i=.tup ds/\ds.length<=100
def tDX(x:DX):TE:=fun σ H Q=>∃ ρ,x.Fit ρ σ H/\∀v H',Same H H'->Dt H' v (x.val ρ)->Q v H'
def q21(l:List DX):TA:=fun σ H Q=>∃ ρ,q11 ρ σ H l/\∀vs H',Same H H'->DtA H' vs (q12 ρ l)->Q vs H'
section
variable{X:Cx}
end
end L2
set_option Elab.async false
set_option linter.all false
set_option maxRecDepth 100000
namespace L2
open PySem PySem.Spec PyProof.Rows PySem.W
def ltI:List Int->List Int->Bool
 | _,[]=>false
 | [],_::_=>true
 | a::x,b::y=>if a=b then ltI x y else decide (a < b)
theorem zw1:∀{x y:List Int},ltI x y=true->x≠y
 | [],[],h,_=>by simp[ltI] at h
 | a::x,b::y,h,e=>by
  injection e with e1 e2
  subst e1 e2
  rw [ltI,if_pos rfl] at h
  exact zw1 h rfl
theorem zw0:∀{x y:List Int},ltI x y=true->ltI y x=false
 | _,[],h=>by cases ‹List Int›<;>simp[ltI] at h
 | [],b::y,_=>by simp[ltI]
 | a::x,b::y,h=>by
  rw [ltI] at h |-
  by_cases e:a=b
  ·subst e
   rw [if_pos rfl] at h |-
   exact zw0 h
  ·rw [if_neg e] at h
   rw [if_neg (Ne.symm e)]
   simp only[decide_eq_true_eq,decide_eq_false_iff_not] at h |-
   omega
section
variable{prog:Program}{w:World}{A:Around}{E:Value->Shared->Prop}{s:Shared}
variable{k:SortKind}{vs:List Value}{st:SortSt}
end
end L2
set_option Elab.async false
set_option linter.all false
set_option maxRecDepth 100000
namespace L2
open PySem PySem.Spec PyProof.Rows PySem.W
section
variable{prog:Program}{w:World}{A:Around}{E:Value->Shared->Prop}{s:Shared}
theorem zmy{b:Bool}{Q:Bool->Shared->Prop}:∀(x y:List Int) (us vs:List Value) (i:Nat) (fin:Bool),ItemsAre (intKind prog w) x us->ItemsAre (intKind prog w) y vs->fin=decide (us.length < vs.length)->Q (ltI x y) s->KatLex prog w A b fin Q (us.zip vs) i s:=by
 intro x
 induction x with
 | nil=>
  intro y us vs i fin hx hy hf h
  cases hx
  rw [List.zip_nil_left]
  refine kat_nil ?_
  cases hy with
  | nil=>rw [hf]; simpa [ltI] using h
  | cons _ _=>rw [hf]; simpa [ltI] using h
 | cons a x ih=>
  intro y us vs i fin hx hy hf h
  cases hx with
  | @cons _ u _ us h1 hx=>
   cases hy with
   | nil=>
    rw [List.zip_nil_right]
    refine kat_nil ?_
    rw [hf]
    simpa [ltI] using h
   | @cons c v y vs h2 hy=>
    obtain⟨t1,rfl⟩:=zjx h1
    obtain⟨t2,rfl⟩:=zjx h2
    rw [List.zip_cons_cons]
    refine kat_cons (wpAny_eqBool_int ?_)
    rw [ltI] at h
    by_cases e:a=c
    ·rw [show(a == c)=true from beq_iff_eq.mpr e]
     rw [if_pos e] at h
     exact kat_yes (ih y us vs (i+1) fin hx hy (by simpa using hf) h)
    ·rw [show(a == c)=false from beq_eq_false_iff_ne.mpr e]
     rw [if_neg e] at h
     refine kat_no ?_
     cases b && i == 0 with
     | true=>exact oneLt_int h
     | false=>exact kat_one _ _ (wpAny_lt_int h)
theorem zxn{b:Bool}{x y:List Int}{a c:Addr}{Q:Bool->Shared->Prop}(hx:IsTupleKey (intKind prog w) s.heap x a)(hy:IsTupleKey (intKind prog w) s.heap y c)(h:Q (ltI x y) s):wpAny (model prog w) A (keyLt' (tuples' b) (.ref a) (.ref c)) Q E s:=by
 obtain⟨oa,xs,na,hoa,_,hda,hia⟩:=hx
 obtain⟨ob,ys,nb,hob,_,hdb,hib⟩:=hy
 exact kat_lt hoa hda hob hdb (zmy x y _ _ 0 _ hia hib (by simp) h)
end
def zpi(p:List Int):Dm:=.tup (p.map Dm.int)
abbrev Rw2:=List Int×Dm
def q18(r:Rw2):Dm:=.tup [zpi r.1,r.2]
theorem zg1{H:Hp}:∀{xs:List V} {p:List Int},DtA H xs (p.map Dm.int)->xs=p.map V.int
 | _,[],.nil=>rfl
 | _,_::_,.cons (.int _) r=>by rw [List.map_cons,<- zg1 r]
section
variable{X:Cx}{pins:List (Addr×Obj)}{σ : St}{H:Hp}{s:Shared}
theorem zoc:∀{p:List Int} {us:List Value},Vals (p.map V.int) us->ItemsAre (intKind X.prog X.w) p us
 | [],_,.nil=>.nil
 | i::p,_,.cons r t=>by
  obtain⟨k,rfl⟩:=r
  exact .cons (intKind_is _ _ _ _) (zoc t)
theorem Inv.path(I:Inv X pins σ H s){v:V}{p:List Int}{u:Value}(d:Dt H v (zpi p))(r:RelV v u):∃a,u=.ref a/\IsTupleKey (intKind X.prog X.w) s.heap p a:=by
 cases d with
 | tup e ra=>
  cases r
  obtain⟨its,rv,⟨o,ho,hc,n,hd⟩,_⟩:=I.tuple (SqT.of e)
  have:=zg1 ra
  subst this
  exact⟨_,rfl,o,its.toArray,n,ho,hc,hd,zoc rv⟩
end
end L2
set_option Elab.async false
set_option linter.all false
set_option maxRecDepth 100000
namespace L2
open PySem PyProof.Rows
open AutoSeq1 (wpAny_loadPart')
theorem zlq(l:Addr)(items:Array Value)(n:Nat)(dct:Option Addr)(sl:Array (Option Value)) :
  Meets (Builtin.«enumerate.__new__» ⟨[.type "enumerate",.ref l],[]⟩) (fun _ R s=>s.heap.get? l=some {cls:=.type "tuple",dict:=dct,data:=.seq items n,slots:=sl}/\
   R (.ok (.ret (.ref (s.heap.push {cls:=.type "tuple_iterator",data:=.fields #[.ref l,.int 0 0]}).objs.size)))
    {s with heap:=(s.heap.push {cls:=.type "tuple_iterator",data:=.fields #[.ref l,.int 0 0]}).push {cls:=.type "enumerate",data:=.fields #[.none,.bool false,.ref s.heap.objs.size,rawInt 0,.none,.none]}}):=
 .of_wp fun prog w A R s h=>by
  obtain⟨hp,g,d,tk,os⟩:=s; obtain⟨hl,h⟩:=h
  have hsub:=sub_enumerate
  have hL:Heap.IsTuple (Shared.heap ⟨hp,g,d,tk,os⟩) l items:=⟨_,hl,rfl,n,rfl⟩
  wp_walk using wpAny_loadPart' hl
  refine wpAny_stack_any fun st=>wpAny_pure ?_
  split
  ·rename_i c _ _ _ _ _
   cases (c == Value.type "enumerate")
   ·wp_walk using wpAny_loadPart' hl,wpAny_pyIter_tuple hL
    exact⟨_,rfl,h⟩
   ·wp_walk using wpAny_loadPart' hl,wpAny_pyIter_tuple hL
    exact⟨_,rfl,h⟩
  ·wp_walk using wpAny_loadPart' hl,wpAny_pyIter_tuple hL
   exact⟨_,rfl,h⟩
section
variable{prog:Program}{w:World}{A:Around}{E:Value->Shared->Prop}{s:Shared}
theorem zq8{l:Addr}{items:Array Value}{Q:Value->Shared->Prop}(hL:s.heap.IsTuple l items)
  (h:∀h',IsEnum h' (s.heap.objs.size+1) s.heap.objs.size 0 .none->h'.IsTupleIter s.heap.objs.size l 0->h'.objs.size=s.heap.objs.size+2->
   (∀b o,s.heap.get? b=some o->h'.get? b=some o)->Q (.ref (s.heap.objs.size+1)) {s with heap:=h'}) :
  wpAny (model prog w) A (call (.type "enumerate") [.ref l]) Q E s:=by
 obtain⟨⟨c,dct,dt,sl⟩,hl,hc,n,hd⟩:=hL
 replace hc:c=.type "tuple":=hc
 replace hd:dt=.seq items n:=hd
 subst hc hd
 refine callType_new F.called_enumerate (by decide) (F.typeCall_enumerate_1 _) (F.newCall_enumerate_1 _) (fun obj=>F.args_object_init_2 obj _) F.entry_enumerate_new
  (zlq l items n dct sl) ⟨hl,?_⟩
 have hz:(s.heap.push {cls:=.type "tuple_iterator",data:=.fields #[.ref l,.int 0 0]}).objs.size=s.heap.objs.size+1:=Heap.size_push ..
 show _/\_
 rw [hz]
 have he:IsEnum ((s.heap.push {cls:=.type "tuple_iterator",data:=.fields #[.ref l,.int 0 0]}).push
   {cls:=.type "enumerate",data:=.fields #[.none,.bool false,.ref s.heap.objs.size,rawInt 0,.none,.none]}) (s.heap.objs.size+1) s.heap.objs.size 0 .none:=by
  have:=Heap.get?_push_size (s.heap.push {cls:=.type "tuple_iterator",data:=.fields #[.ref l,.int 0 0]})
   (o:={cls:=.type "enumerate",data:=.fields #[.none,.bool false,.ref s.heap.objs.size,rawInt 0,.none,.none]}) rfl
  rw [hz] at this; exact this
 refine⟨⟨_,he,rfl⟩,h _ he ⟨_,Heap.get?_push_of_some _ (Heap.get?_push_size _ rfl),rfl,rfl⟩ (by rw [Heap.size_push,hz]) fun b o x=>Heap.get?_push_of_some _ (Heap.get?_push_of_some _ x)⟩
theorem zsq{e it l:Addr}{i:Nat}{items:Array Value}{old:Value}{Q:Option Value->Shared->Prop}(hh:A.handled=none)(he:IsEnum s.heap e it i old)(hit:s.heap.IsTupleIter it l i)(hl:s.heap.IsTuple l items)(hx:items[i]?=none)
  (hQ:∀h',Heap.ExtBut it s.heap h'->Q none {s with heap:=h'}):wpAny (model prog w) A (pyNext (.ref e)) Q E s:=by
 have hT:s.TypeIs (.ref e) "enumerate":=⟨_,he,rfl⟩
 unfold pyNext
 refine wpAny_bind (wpAny_attempt (wpAny_callSpecial?_slot (name:=Str.ofString "__next__") hT F.slot_enumerate_next
  (wpAny_call_entry F.slot_enumerate_next hT F.entry_enumerate_next ?_ (F.args_enumerate_next_1 _))))
 show wpAny _ _ (field (.ref e) 2 >>= _) _ _ _
 refine wpAny_bind (wpAny_field he rfl (x:=.ref it) rfl ?_)
 refine wpAny_bind (zac hh hit hl hx fun h' x he' hx'=>?_)
 obtain⟨o,ho,hc⟩:=hx'
 refine wpAny_bind (wpAny_isInstance (T:="StopIteration") (b:=true) ⟨o,ho,hc⟩ isSubtype_stop ?_)
 exact wpAny_pure (hQ _ he')
end
theorem q0j{prog:Program}{w:World}{A:Around}(hh:A.handled=none)(it l:Addr)(hne:l≠it)(items:Array Value) :
  Draws prog w A it [it,l] items.size (fun i v=>items[i]?=some v) (fun i h=>h.IsTupleIter it l i/\h.IsTuple l items) where
 live:=fun _ _ st=>let ⟨o,ho,_⟩:=st.1; ⟨o,ho⟩
 frame:=fun _ _ _ st hk=>⟨st.1.at fun o e=>hk it (by simp) o e,let ⟨o,ho,r⟩:=st.2; ⟨o,hk l (by simp) o ho,r⟩⟩
 item:=fun i s Q E hi st hQ=>by
  refine zo1 st.1 st.2 (x:=items[i]) (by simp[hi]) fun h' hit' hs'=>?_
  exact hQ _ h' s.toks (by simp[hi]) ⟨hit',st.2.extBut hs'.extBut hne⟩ hs'
 done:=fun s Q E st hE=>zac hh st.1 st.2 (by simp) hE
def zz3(K:PySem.W.Frag)(a:Addr):It:=
 ⟨fun i H=>∃xs x,SqT K H a xs/\xs[i]?=some x,fun i H x H'=>∃T v,x=.ref T/\H T=none/\H'=upd H T (.tup [.int i,v])/\∀xs,SqT K H a xs->xs[i]?=some v,fun i H=>∃xs,SqT K H a xs/\xs.length<=i⟩
theorem zov{P:Program}{w:World}{K:PySem.W.Frag}{elts:List Expr}{kt:Nat}{pt:Pos}(a e it:Addr)(hne:e≠it)(hea:e≠a)(hai:a≠it):Turn P w K (.Tuple elts kt pt) (zz3 K a) [e,it] e (fun i h=>(∃old,IsEnum h e it i old)/\h.IsTupleIter it a i) where
 mem:=by simp
 obj:=fun i h st b hb=>by
  obtain⟨⟨old,he⟩,hi⟩:=st
  rcases List.mem_cons.mp hb with rfl | hb
  ·exact⟨_,he,fun v z=>by cases z⟩
  ·obtain rfl:=List.mem_singleton.mp hb
   obtain⟨o,e',c,d⟩:=hi
   exact⟨o,e',fun v z=>by rw [d] at z; cases z⟩
 keep:=fun i h h' st k=>by
  obtain⟨⟨old,he⟩,hi⟩:=st
  exact⟨⟨old,k e (by simp) _ he⟩,hi.at fun o q=>k it (by simp) o q⟩
 item:=by
  intro X hP hw hK hc i pins s σ H E I hf st hg
  subst hP hw hK
  obtain⟨⟨old,he⟩,hit⟩:=st
  obtain⟨xs,x,hq,hx⟩:=hg
  obtain⟨its,rv,p,hz⟩:=I.tuple hq
  obtain⟨u,hu,ru⟩:=rv.get hx
  have hui:its.toArray[i]?=some u:=by simpa using hu
  have hlt:i < its.toArray.size:=by
   rcases Nat.lt_or_ge i its.toArray.size with c | c
   ·exact c
   ·rw [Array.getElem?_eq_none c] at hui; cases hui
  refine wpAny_pyNext_enum_itemD (q0j (A:=X.A.in1) (show X.A.in1.handled=none from I.ok.hd hc) it a hai its.toArray) he ⟨hit,p⟩ hlt hne (by simp[hne,hea]) fun y h1 tk hy ho hst1 hT hsz hk=>?_
  have hy':its.toArray[i]?=some y:=hy
  obtain rfl:u=y:=by rw [hui] at hy'; exact Option.some.inj hy'
  have hit1:=hst1.1
  refine⟨_,rfl,wpAny_letOwnedTupleGo_enum ho fun h2 he2 hs2=>?_⟩
  have helt:e < s.heap.objs.size:=Heap.lt_size he
  have hs2':Heap.SameBut e h1 h2:=hs2
  have kk:∀b o,b∉[e,it]->s.heap.get? b=some o->h2.get? b=some o:=fun b o hb q=>hs2'.extBut b o (fun z=>hb (by simp[z])) (hk b o (fun z=>hb (by simp[z])) (fun z=>hb (by simp[z])) q)
  have I1:Inv X pins σ H {s with heap:=h2,toks:=tk+1}:=I.turnedL kk hf
  have hTn:H s.heap.objs.size=none:=I.hok.fresh (Nat.le_refl _)
  have hT2:h2.get? s.heap.objs.size=some {cls:=.type "tuple",data:=.seq #[.int i tk,u]}:=hs2'.extBut _ _ (Nat.ne_of_gt helt) hT
  have I2:Inv X pins σ (upd H s.heap.objs.size (.tup [.int i,x])) {s with heap:=h2,toks:=tk+1}:=
   I1.track hTn (I.fpOk (Nat.le_refl _) hTn) (show ObjOk X.prog X.w _ h2 _ (.tup [.int i,x]) from⟨zvl,[.int i tk,u],.cons ⟨_,rfl⟩ (.cons ru .nil),⟨_,hT2,rfl,_,rfl⟩⟩)
  refine⟨.ref s.heap.objs.size,_,I2,rfl,⟨s.heap.objs.size,x,rfl,hTn,rfl,fun ys hy=>by rw [I.tuple_inj hy hq]; exact hx⟩,⟨⟨u,by simpa using he2⟩,hit1.at fun o q=>(hs2'.2 it hne.symm).trans q⟩,fun b hb=>?_⟩
  have hbl:b < s.heap.objs.size:=by
   rcases List.mem_cons.mp hb with rfl | hb
   ·exact helt
   ·obtain rfl:=List.mem_singleton.mp hb
    obtain⟨o,e',_⟩:=hit
    exact Heap.lt_size e'
  rw [z0s (Nat.ne_of_lt hbl)]
  exact(hf b hb).1
 done:=by
  intro X hP hw hK hc i pins s σ H E I hf st hg
  subst hP hw hK
  obtain⟨⟨old,he⟩,hit⟩:=st
  obtain⟨xs,hq,hx⟩:=hg
  obtain⟨its,rv,p,hz⟩:=I.tuple hq
  have hl:=rv.length
  exact zsq (I.ok.hd hc) he hit p (by simp; omega) fun h' eb=>⟨rfl,I.turnedL (t':=s.toks) (fun b o hb q=>eb b o (fun z=>hb (by simp[z])) q) hf⟩
 self:=fun _ _ _ _ _ st h=>by
  obtain⟨⟨old,he⟩,_⟩:=st
  exact wpAny_pyIter_enum he h
section
variable{X:Cx}
def zw4(K:PySem.W.Frag)(ta:TA):TI:=fun σ H R=>ta σ H fun vs H1=>∃a,vs=[.ref a]/\(∃xs,SqT K H1 a xs)/\R (zz3 K a) H1
theorem zu9{elts:List Expr}{kt:Nat}{pt p pos:Pos}{l:Expr}{ta:TA} (hg:Gl X "enumerate") (hm:X.mg "enumerate" = none) (ha:PA X [l] ta) (hst:zj4 l=false:=by rfl):PI X (.Tuple elts kt pt) (.Call (.Name "enumerate" p) [l] [] pos) (zw4 X.K ta):=by
 refine⟨?_⟩
 intro pins s σ H R I h
 refine Call_ (zh9 I hg hm boot_enumerate (PyProof.Rows.callWith_type1 (thn (ha pos pins s σ H _ I h) fun us s1 ⟨vs,H1,I1,r1,q1⟩=>?_) (z20 hst) rfl))
 obtain⟨a,e,⟨xs,hq⟩,q⟩:=q1
 subst e
 cases r1 with
 | cons r rr=>
  cases rr
  cases r
  obtain⟨its,rv,pl,hz⟩:=I1.tuple hq
  have hal:a < s1.heap.objs.size:=by
   obtain⟨o,e,_⟩:=pl
   exact Heap.lt_size e
  refine zq8 pl fun h' he hi hsz hk=>?_
  have I2:Inv X pins σ H1 {s1 with heap:=h'}:=I1.kept (t':=s1.toks) hk
  refine wpAny_pyIter_enum he ?_
  refine⟨s1.heap.objs.size+1,[s1.heap.objs.size+1,s1.heap.objs.size],_,_,H1,rfl,I2,zov a _ _ (Nat.succ_ne_self _) (Nat.ne_of_gt (Nat.lt_succ_of_lt hal)) (Nat.ne_of_lt hal),⟨⟨_,he⟩,hi⟩,fun b hb=>?_,q⟩
  have hle:s1.heap.objs.size<=b:=by
   rcases List.mem_cons.mp hb with rfl | hb
   ·exact Nat.le_succ _
   ·obtain rfl:=List.mem_singleton.mp hb
    exact Nat.le_refl _
  exact I1.fpOk hle (I1.hok.fresh hle)
end
theorem zsn{K:PySem.W.Frag}{a:Addr}{xs:List V}{g:TG}{tb:TS}{D:Ends}{σ : St}{H:Hp}(Pv:Nat->St->Hp->Prop)(h0:Pv 0 σ H)(hl:∀i σ H,i<=xs.length->Pv i σ H->SqT K H a xs)
  (hs:∀i x σ H T,xs[i]?=some x->Pv i σ H->H T=none->g (.ref T) σ (upd H T (.tup [.int i,x])) fun σ2 H2=>tb {D with nx:=Pv (i+1),ct:=Pv (i+1),bk:=D.nx} σ2 H2) (hd:∀ σ H,Pv xs.length σ H->D.nx σ H) :
  ∃W:Nat->Nat->St->Hp->Prop,(∃m,W 0 m σ H)/\∀i m σ H,W i m σ H->
   ((zz3 K a).stop i H/\D.nx σ H)\/((zz3 K a).go i H/\∃N:St->Hp->Prop,(∀ σ' H',N σ' H'->∃m',m' < m/\W (i+1) m' σ' H')/\∀x H',(zz3 K a).yld i H x H'->g x σ H' fun σ2 H2=>tb {D with nx:=N,ct:=N,bk:=D.nx} σ2 H2):=by
 refine⟨fun i m σ H=>m=xs.length - i/\i<=xs.length/\Pv i σ H,⟨xs.length,by simp,Nat.zero_le _,h0⟩,?_⟩
 rintro i m σ H ⟨rfl,hi,p⟩
 have q:=hl i σ H hi p
 by_cases hlt:i < xs.length
 ·refine .inr ⟨⟨xs,xs[i],q,by simp[hlt]⟩,Pv (i+1),fun σ' H' p'=>⟨xs.length - (i+1),by omega,rfl,hlt,p'⟩,fun x H' y=>?_⟩
  obtain⟨T,v,rfl,hT,rfl,y⟩:=y
  exact hs i v σ H T (y xs q) p hT
 ·have e:i=xs.length:=by omega
  subst e
  exact .inl ⟨⟨xs,q,Nat.le_refl _⟩,hd σ H p⟩
end L2
set_option Elab.async false
set_option linter.all false
set_option maxRecDepth 100000
namespace L2
open PySem PySem.Spec PyProof.Rows
section
variable{prog:Program}{w:World}{A:Around}{E:Value->Shared->Prop}{s:Shared}{S:Addr}
end
section
variable{X:Cx}
end
end L2
set_option Elab.async false
set_option linter.all false
set_option maxRecDepth 100000
namespace L2
open PySem PySem.Spec PyProof.Rows PySem.W
def zqe(r:Nat->Nat)(n:Nat):Nat->Nat->(Bool->Shared->Prop)->Shared->Prop:=fun i j C s=>i < n/\j < n/\C (decide (r i < r j)) s
theorem ztm{α : Type}{r:Nat->Nat}{n:Nat}{cmp:Nat->Nat->(Bool->Shared->Prop)->Shared->Prop}{s:Shared}{Q : α->Shared->Prop}(hc:∀i j C,i < n->j < n->C (decide (r i < r j)) s->cmp i j C s) :
  ∀(t:KasT α),t.kasWp (zqe r n) (fun a s'=>Q a s) s->t.kasWp cmp Q s
 | .ret a,h=>h
 | .ask i j k,⟨h1,h2,h⟩=>hc i j _ h1 h2 (ztm hc (k _) h)
section
variable{r:Nat->Nat}{n:Nat}{s:Shared}
theorem zi0{α : Type}{i j:Nat}{T1 T2:KasT α}{Q : α->Shared->Prop}(hi:i < n)(hj:j < n)(h1:r i < r j->T1.kasWp (zqe r n) Q s)(h2:¬ r i < r j->T2.kasWp (zqe r n) Q s):(KasT.ask i j fun c=>if c=true then T1 else T2).kasWp (zqe r n) Q s:=by
 refine⟨hi,hj,?_⟩
 by_cases c:r i < r j
 ·have:=h1 c
  simpa [c] using this
 ·have:=h2 c
  simpa [c] using this
def rk(r:Nat->Nat)(p:Array Nat)(i:Nat):Nat:=r (p.getD i 0)
def Asc(r:Nat->Nat)(p:Array Nat)(m:Nat):Prop:=∀i j,i < j->j < m->rk r p i < rk r p j
def Dsc(r:Nat->Nat)(p:Array Nat)(m:Nat):Prop:=∀i j,i < j->j < m->rk r p j < rk r p i
structure PermN(r:Nat->Nat)(n:Nat)(p:Array Nat):Prop where
 sz:p.size=n
 lt:∀i,i < n->p.getD i 0 < n
 inj:∀i j,i < n->j < n->rk r p i=rk r p j->i=j
 pm:p.toList.Perm (List.range n)
theorem PermN.of(hr:∀i j,i < n->j < n->r i=r j->i=j){p:Array Nat}(h:p.toList.Perm (List.range n)):PermN r n p:=by
 have sz:p.size=n:=by simpa using h.length_eq
 have lt:∀i,i < n->p.getD i 0 < n:=fun i hi=>by
  have hi':i < p.size:=by omega
  have:p.getD i 0∈p.toList:=by simp[Array.getD,hi']
  simpa using h.mem_iff.mp this
 refine⟨sz,lt,fun i j hi hj e=>?_,h⟩
 have e':=hr _ _ (lt i hi) (lt j hj) e
 have nd:p.toList.Nodup:=h.nodup_iff.mpr List.nodup_range
 have hi':i < p.size:=by omega
 have hj':j < p.size:=by omega
 have:p.toList[i]'(by simpa using hi')=p.toList[j]'(by simpa using hj'):=by simpa [Array.getD,hi',hj'] using e'
 exact(List.getElem_inj nd).mp this
theorem zk2{p q:Array Nat}{i j:Nat}(h:p[i]?=q[j]?):p.getD i 0=q.getD j 0:=by
 have e1:p.getD i 0=(p[i]?).getD 0:=by simp
 have e2:q.getD j 0=(q[j]?).getD 0:=by simp
 rw [e1,e2,h]
theorem q1v{p:Array Nat}(P:PermN r n p){Q:Nat->Shared->Prop}:∀(f m:Nat),1<=m->m+f<=n->Asc r p m->(∀k,m<=k->k<=m+f->Asc r p k->(k < m+f->rk r p k < rk r p (k - 1))->Q k s)->(kas_asc p f m).kasWp (zqe r n) Q s
 | 0,m,h1,h2,h,q=>q m (Nat.le_refl _) (Nat.le_refl _) h (fun z=>absurd z (by omega))
 | f+1,m,h1,h2,h,q=>by
  refine zi0 (P.lt _ (by omega)) (P.lt _ (by omega)) (fun c=>?_) (fun(c:¬ rk r p m < rk r p (m - 1))=>?_)
  ·exact q m (Nat.le_refl _) (by omega) h (fun _=>c)
  ·refine q1v P f (m+1) (by omega) (by omega) (fun i j hij hj=>?_) fun k k1 k2 k3 k4=>q k (by omega) (by omega) k3 (fun z=>k4 (by omega))
   have last:rk r p (m - 1) < rk r p m:=by
    have:rk r p (m - 1)≠rk r p m:=fun e=>by have:=P.inj _ _ (by omega) (by omega) e; omega
    omega
   by_cases e:j=m
   ·subst e
    by_cases e2:i=j - 1
    ·rw [e2]; exact last
    ·exact Nat.lt_trans (h i (j - 1) (by omega) (by omega)) last
   ·exact h i j hij (by omega)
theorem q0k{p:Array Nat}(P:PermN r n p){Q:Array Nat×Nat×Nat->Shared->Prop}:∀(f m:Nat),1<=m->m+f<=n->Dsc r p m->(∀k,m<=k->k<=m+f->Dsc r p k->Q (p,k,0) s)->(kas_desc f p m 0).kasWp (zqe r n) Q s
 | 0,m,h1,h2,h,q=>q m (Nat.le_refl _) (Nat.le_refl _) h
 | f+1,m,h1,h2,h,q=>by
  refine zi0 (P.lt _ (by omega)) (P.lt _ (by omega)) (fun c=>?_) (fun(c:¬ rk r p m < rk r p (m - 1))=>?_)
  ·rw [if_neg (by omega)]
   refine q0k P f (m+1) (by omega) (by omega) (fun i j hij hj=>?_) fun k k1 k2 k3=>q k (by omega) (by omega) k3
   by_cases e:j=m
   ·subst e
    by_cases e2:i=j - 1
    ·rw [e2]; exact c
    ·exact Nat.lt_trans c (h i (j - 1) (by omega) (by omega))
   ·exact h i j hij (by omega)
  ·have last:rk r p (m - 1) < rk r p m:=by
    have:rk r p (m - 1)≠rk r p m:=fun e=>by have:=P.inj _ _ (by omega) (by omega) e; omega
    omega
   refine zi0 (P.lt _ (by omega)) (P.lt _ (by omega)) (fun c=>?_) (fun c=>absurd last c)
   exact q m (Nat.le_refl _) (by omega) h
theorem zu4(hr:∀i j,i < n->j < n->r i=r j->i=j){p:Array Nat}(P:PermN r n p)(i j:Nat):PermN r n (kas_rev p i j):=
 .of hr ((Array.perm_iff_toList_perm.mp (mirror_perm _ _ _ _)).trans P.pm)
theorem zvt{p:Array Nat}{m:Nat}(hm:m<=p.size)(k:Nat)(hk:k < m):rk r (kas_rev p 0 m) k=rk r p (m - 1 - k):=by
 have e:=getElem?_mirror_all (xs:=p) (i:=0) hm k
 rw [if_pos (by omega)] at e
 show r _=r _
 rw [show kas_rev p 0 m=mirror p 0 m ((m - 0) / 2) from rfl,zk2 e]
 congr 2
 omega
theorem zz8(hr:∀i j,i < n->j < n->r i=r j->i=j){p:Array Nat}(P:PermN r n p){m:Nat}{Q:Nat×Array Nat->Shared->Prop}(h1:1<=m)(h2:m<=n)(h:Dsc r p m)
  (q:∀k p',PermN r n p'->1<=k->k<=n->Asc r p' k->Q (k,p') s):(kas_tail3 m n p).kasWp (zqe r n) Q s:=by
 unfold kas_tail3
 rw [KasT.kasWp_bind]
 have P':=zu4 hr P 0 m
 refine q1v P' (n - m) m h1 (by omega) (fun i j hij hj=>?_) fun k k1 k2 k3 _=>q k _ P' (by omega) (by omega) k3
 rw [zvt (by rw [P.sz]; exact h2) _ (by omega),zvt (by rw [P.sz]; exact h2) _ hj]
 exact h _ _ (by omega) (by omega)
theorem zsr(hr:∀i j,i < n->j < n->r i=r j->i=j){p:Array Nat}(P:PermN r n p){m:Nat}{Q:Nat×Array Nat->Shared->Prop}(h2:m+1<=n)(h:Dsc r p (m+1))
  (q:∀k p',PermN r n p'->1<=k->k<=n->Asc r p' k->Q (k,p') s):(kas_descPart m n p).kasWp (zqe r n) Q s:=by
 unfold kas_descPart
 rw [KasT.kasWp_bind]
 refine q0k P (n - (m+1)) (m+1) (by omega) (by omega) h fun k k1 k2 k3=>?_
 rw [if_neg (show ¬ (p,k,0).2.2 > 0 from Nat.lt_irrefl 0)]
 have a1:1<=k:=by omega
 have a2:k<=n:=by omega
 exact zz8 hr P a1 a2 k3 q
theorem q0n(hr:∀i j,i < n->j < n->r i=r j->i=j){p:Array Nat}(P:PermN r n p){Q:Nat×Array Nat->Shared->Prop}(h1:1<=n)
  (q:∀k p',PermN r n p'->1<=k->k<=n->Asc r p' k->Q (k,p') s):(kas_count n p).kasWp (zqe r n) Q s:=by
 unfold kas_count
 rw [KasT.kasWp_bind]
 refine q1v P (n - 1) 1 (Nat.le_refl _) (by omega) (fun i j hij hj=>by omega) fun m m1 m2 m3 m4=>?_
 by_cases e:m=n
 ·rw [if_pos (by simpa using e)]
  exact q m p P m1 (by omega) m3
 ·rw [if_neg (by simpa using e)]
  by_cases e2:m > 1
  ·rw [if_pos e2]
   refine zi0 (P.lt _ (by omega)) (P.lt _ (by omega)) (fun c=>?_) (fun c=>absurd (m3 0 (m - 1) (by omega) (by omega)) c)
   exact q m p P m1 (by omega) m3
  ·rw [if_neg e2]
   obtain rfl:m=1:=by omega
   refine zsr hr P (by omega) (fun i j hij hj=>?_) q
   obtain rfl:i=0:=by omega
   obtain rfl:j=1:=by omega
   exact m4 (by omega)
theorem zrl{p:Array Nat}(P:PermN r n p){k:Nat}(hk:k < n)(hs:Asc r p k){Q:Nat->Shared->Prop}:∀(f l u:Nat),l<=u->u<=k->u - l<=f->(∀i,i < l->rk r p i < rk r p k)->(∀i,u<=i->i < k->rk r p k < rk r p i)->
  (∀m,m<=k->(∀i,i < m->rk r p i < rk r p k)->(∀i,m<=i->i < k->rk r p k < rk r p i)->Q m s)->(kas_place p k f l u).kasWp (zqe r n) Q s
 | 0,l,u,h1,h2,h3,lo,hi,q=>by
  obtain rfl:l=u:=by omega
  exact q l h2 lo hi
 | f+1,l,u,h1,h2,h3,lo,hi,q=>by
  unfold kas_place
  by_cases e:l ≥ u
  ·rw [if_pos e]
   obtain rfl:l=u:=by omega
   exact q l h2 lo hi
  ·rw [if_neg e]
   refine zi0 (P.lt _ hk) (P.lt _ (by omega)) (fun c=>?_) (fun(c:¬ rk r p k < rk r p ((l+u) / 2))=>?_)
   ·refine zrl P hk hs f l ((l+u) / 2) (by omega) (by omega) (by omega) lo (fun i h1 h2=>?_) q
    by_cases e2:i=(l+u) / 2
    ·rw [e2]; exact c
    ·exact Nat.lt_trans c (hs _ _ (by omega) h2)
   ·have c':rk r p ((l+u) / 2) < rk r p k:=by
     have:rk r p ((l+u) / 2)≠rk r p k:=fun e=>by have:=P.inj _ _ (by omega) hk e; omega
     omega
    refine zrl P hk hs f ((l+u) / 2+1) u (by omega) h2 (by omega) (fun i h1=>?_) hi q
    by_cases e2:i=(l+u) / 2
    ·rw [e2]; exact c'
    ·exact Nat.lt_trans (hs _ _ (show i < (l+u) / 2 by omega) (by omega)) c'
theorem q2j(hr:∀i j,i < n->j < n->r i=r j->i=j){Q:Array Nat->Shared->Prop}:∀(f:Nat) (p:Array Nat) (k:Nat),PermN r n p->k+f=n->Asc r p k->(∀p',PermN r n p'->Asc r p' n->Q p' s)->(kas_bin f p k).kasWp (zqe r n) Q s
 | 0,p,k,P,e,h,q=>by
  obtain rfl:k=n:=e
  exact q p P h
 | f+1,p,k,P,e,h,q=>by
  rw [show kas_bin (f+1) p k=(kas_place p k k 0 k).bind fun l=>kas_bin f (bubble p k (k - l)) (k+1) from rfl,KasT.kasWp_bind]
  have hk:k < n:=by omega
  refine zrl P hk h k 0 k (Nat.zero_le _) (Nat.le_refl _) (by omega) (fun i z=>absurd z (by omega)) (fun i z z'=>absurd z' (by omega)) fun m m1 m2 m3=>?_
  refine q2j hr f _ (k+1) (.of hr ((Array.perm_iff_toList_perm.mp (bubble_perm _ _ _)).trans P.pm)) (by omega) (fun i j hij hj=>?_) q
  have at_:∀x,rk r (bubble p k (k - m)) x=if x=m then rk r p k else if m < x/\x<=k then rk r p (x - 1) else rk r p x:=fun x=>by
   have z:=getElem?_bubble (xs:=p) (src:=k) (by rw [P.sz]; exact hk) (k - m) (by omega) x
   rw [show k - (k - m)=m by omega] at z
   show r _=_
   by_cases e1:x=m
   ·rw [if_pos e1] at z |-
    rw [zk2 z,rk]
   ·rw [if_neg e1] at z |-
    by_cases e2:m < x/\x<=k
    ·rw [if_pos e2] at z |-
     rw [zk2 z,rk]
    ·rw [if_neg e2] at z |-
     rw [zk2 z,rk]
  rw [at_,at_]
  repeat' split
  all_goals first
   | (exfalso; omega)
   | exact m2 _ (by omega)
   | exact m3 _ (by omega) (by omega)
   | exact h _ _ (by omega) (by omega)
theorem q17(hr:∀i j,i < n->j < n->r i=r j->i=j)(h1:1<=n){Q:Array Nat->Shared->Prop}(q:∀p,PermN r n p->Asc r p n->Q p s):(kas_sort n).kasWp (zqe r n) Q s:=by
 unfold kas_sort
 rw [KasT.kasWp_bind]
 refine q0n hr (.of hr (by simp)) h1 fun k p P k1 k2 k3=>?_
 dsimp only
 by_cases e:k < n
 ·rw [if_pos e,show max k 1=k by omega]
  exact q2j hr _ p k P (by omega) k3 q
 ·rw [if_neg e]
  obtain rfl:k=n:=by omega
  exact q p P k3
end
end L2
set_option Elab.async false
set_option linter.all false
set_option maxRecDepth 100000
namespace L2
open PySem PySem.Spec PyProof.Rows PySem.W
structure TabOk(t:SetTable):Prop where
 dm:t.dummies = #[]
 mz:t.mask=7/\t.place.size<=4\/t.mask=31/\t.place.size<=18\/t.mask=127/\t.place.size<=60
 rs:Ris t.place
theorem TabOk.slot{t:SetTable}(T:TabOk t)(j:Nat):t.slot j=if t.place[SetTable.below t.place j]?=some j then .live (SetTable.below t.place j) else .empty:=by
 unfold SetTable.slot
 have:SetTable.has t.dummies j=false:=by rw [T.dm]; rfl
 rw [this]
 simp
end L2
set_option Elab.async false
set_option linter.all false
set_option maxRecDepth 100000
namespace L2
open PySem PySem.Spec PyProof.Rows PySem.W
section
variable{prog:Program}{w:World}{A:Around}{E:Value->Shared->Prop}{s:Shared}{a:Addr}{L:Bool}
theorem zjh{n:Nat}(h:n<=1000):n<=sizeLine:=by rw [sizeLine_eq]; omega
theorem zh6{vs:List Value}{a:Addr}{n:Nat}{r:Nat->Nat}{P:PySem.Fin->Shared->Prop} (ho:s.heap.get? a=some (seqObj "list" vs.toArray n)) (h64:vs.length < 64) (hr:∀i j,i < vs.length->j < vs.length->r i=r j->i=j)
  (hR:2<=vs.length->∀h':Heap,(∀b o,b≠a->s.heap.get? b=some o->h'.get? b=some o)->∃k,(∀(E:Value->Shared->Prop) (Q:SortKind->Shared->Prop),Q k {s with heap:=h'}->wpAny (model prog w) A (keyKind' vs.toArray) Q E {s with heap:=h'})/\
   ∀i j,i < vs.length->j < vs.length->∀(E:Value->Shared->Prop) (Q:Bool->Shared->Prop),Q (decide (r i < r j)) {s with heap:=h'}->wpAny (model prog w) A (keyLt' k (vs.getD i .none) (vs.getD j .none)) Q E {s with heap:=h'})
  (h:∀p,PermN r vs.length p->Asc r p vs.length->P (.done (.ret .none)) {s with heap:=sortedHeap s.heap a vs (p.toList.map fun i=>vs.getD i .none).toArray}) :
  wpAny (model prog w) A (Builtin.«list.sort» ⟨[.ref a],[]⟩) P E s:=by
 rw [list_sort_plain]
 have hz:vs.length<=sizeLine:=zjh (by omega)
 have ha:a < s.heap.objs.size:=Heap.lt_size ho
 refine wpAny_bind (listItems_at ho rfl ?_)
 refine wpAny_bind (listUpdate_at ho rfl ?_ (by simpa using hz) (Nat.zero_le _))
 obtain⟨e1,ho1⟩:∃e1,(s.heap.update a (Obj.mapSeq fun _=>#[])).get? a=some (seqObj "list" #[] e1):=⟨_,get?_update_seq ho (fun _=>#[])⟩
 refine wpAny_bind (seqEpoch_at ho1 rfl ?_)
 refine wpAny_bind (wpAny_newTuple ?_ (by simpa using hz))
 refine wpAny_bind (wpAny_newList ?_ (Nat.zero_le _))
 refine wpAny_holding ?_
 have ho6:(((s.heap.update a (Obj.mapSeq fun _=>#[])).push (seqObj "tuple" vs.toArray 0)).push (seqObj "list" #[] 0)).get? a=some (seqObj "list" #[] e1):=by
  rw [Heap.get?_push_ne _ _ _ (by rw [size_push',Heap.size_update]; exact Nat.ne_of_lt (Nat.lt_succ_of_lt ha)),Heap.get?_push_ne _ _ _ (by rw [Heap.size_update]; exact Nat.ne_of_lt ha)]
  exact ho1
 have hkeep:∀b o,b≠a->s.heap.get? b=some o->(((s.heap.update a (Obj.mapSeq fun _=>#[])).push (seqObj "tuple" vs.toArray 0)).push (seqObj "list" #[] 0)).get? b=some o:=fun b o hb e=>by
  refine Heap.get?_push_of_some _ (Heap.get?_push_of_some _ ?_)
  rw [Heap.get?_update_ne _ _ _ _ hb]
  exact e
 show wpAny (model prog w) A _ P E {s with heap:=((s.heap.update a (Obj.mapSeq fun _=>#[])).push (seqObj "tuple" vs.toArray 0)).push (seqObj "list" #[] 0)}
 dsimp only
 have hsz:vs.toArray.size=vs.length:=by simp
 by_cases h2:vs.toArray.size < 2
 ·rw [if_pos h2,if_pos h2]
  refine wpAny_bind (wpAny_pure ?_)
  rw [StateT.run_pure]
  refine wpAny_bind (wpAny_pure ?_)
  dsimp only
  refine wpAny_bind (seqEpoch_at ho6 rfl ?_)
  refine wpAny_bind (listUpdate_at ho6 rfl ?_ (Nat.zero_le _) (by rw [Array.size_map]; show(pairsOf vs).size<=_; rw [pairsOf_size]; exact Nat.le_succ_of_le hz))
  simp only[bne_self_eq_false,Bool.false_eq_true,if_false]
  have e:(arrOf (SortSt.mk' general' (vs.toArray.zip vs.toArray) #[] 7 none)).map (·.2)=vs.toArray:=by
   show(vs.toArray.zip vs.toArray).map (·.2)=_
   apply Array.toList_inj.mp
   simp[List.map_snd_zip]
  rw [e]
  have z:=h (List.toArray (List.range vs.length)) (.of hr (by simp)) (fun i j hij hj=>by rw [hsz] at h2; omega)
  have ev:((List.toArray (List.range vs.length)).toList.map fun i=>vs.getD i Value.none)=vs:=by
   refine List.ext_getElem (by simp) fun i h1 h2=>?_
   simp[h2]
  rw [ev] at z
  exact wpAny_pure z
 ·rw [if_neg h2,if_neg h2]
  rw [hsz] at h2
  obtain⟨kk,hK,hRi⟩:=hR (by omega) _ hkeep
  refine wpAny_bind (hK _ _ ?_)
  refine wpAny_bind (wpAny_mono (kat_run (κ:=kk) (Q:=fun st' s'=>∃p:Array Nat,PermN r vs.length p/\Asc r p vs.length/\arrOf st'=p.map (kas_item (vs.toArray.zip vs.toArray))/\failedOf st'=none/\s' = {s with heap:=((s.heap.update a (Obj.mapSeq fun _=>#[])).push (seqObj "tuple" vs.toArray 0)).push (seqObj "list" #[] 0)})
   (G:=fun p s'=>PermN r vs.length p/\Asc r p vs.length/\s' = {s with heap:=((s.heap.update a (Obj.mapSeq fun _=>#[])).push (seqObj "tuple" vs.toArray 0)).push (seqObj "list" #[] 0)})
   rfl (by omega) h64 (fun p' st' s' a1 a2 a3 ⟨a4,a5,a6⟩=>⟨p',a4,a5,a2,a3,a6⟩) (ztm (r:=r) (fun i j C hi hj hc=>hRi i j hi hj _ _ hc) _ (q17 hr (by omega) fun p P1 P2=>⟨P1,P2,rfl⟩))) ?_ fun _ _ e=>e)
  rintro⟨⟨⟩,st'⟩ s' ⟨p,P1,P2,har,hf,rfl⟩
  dsimp only at har hf |-
  have e:=kat_snds (ks:=vs) (vs:=vs) rfl har
  refine wpAny_bind (seqEpoch_at ho6 rfl ?_)
  refine wpAny_bind (listUpdate_at ho6 rfl ?_ (Nat.zero_le _) (by rw [e,List.size_toArray,List.length_map,Array.length_toList,P1.sz]; exact Nat.le_succ_of_le hz))
  rw [hf]
  simp only[bne_self_eq_false,Bool.false_eq_true,if_false,e]
  exact wpAny_pure (h p P1 P2)
end
theorem zuc{α β : Type}{f : α->β}{l m:List β}(h:l.Perm m):∀ps:List α,m=ps.map f->∃ps':List α,ps'.Perm ps/\l=ps'.map f:=by
 induction h with
 | nil=>
  intro ps e
  cases ps with
  | nil=>exact⟨[],.refl _,rfl⟩
  | cons _ _=>cases e
 | cons x _ ih=>
  intro ps e
  cases ps with
  | nil=>cases e
  | cons p ps=>
   injection e with e1 e2
   obtain⟨ps',q,e3⟩:=ih ps e2
   exact⟨p::ps',q.cons p,by rw [List.map_cons,<- e3,e1]⟩
 | swap x y l=>
  intro ps e
  match ps,e with
  | p::q::ps,e=>
   injection e with e1 e2
   injection e2 with e2 e3
   exact⟨q::p::ps,.swap ..,by rw [List.map_cons,List.map_cons,<- e1,<- e2,<- e3]⟩
 | trans _ _ ih1 ih2=>
  intro ps e
  obtain⟨ps1,q1,e1⟩:=ih2 ps e
  obtain⟨ps2,q2,e2⟩:=ih1 ps1 e1
  exact⟨ps2,q2.trans q1,e2⟩
theorem zo5:∀x:List Int,ltI x x=false
 | []=>rfl
 | a::x=>by rw [ltI,if_pos rfl]; exact zo5 x
section
variable{prog:Program}{w:World}{A:Around}{E:Value->Shared->Prop}{s:Shared}{S:Addr}
theorem zqk{h:Heap}:∀{vs:List Value},(∀v∈vs,∃b p,v=.ref b/\p≠[]/\IsTupleKey (intKind prog w) h p b)->∃fs,KatTups h vs fs/\fs.length=vs.length/\∀f∈fs,∃n t,f=.int n t
 | [],_=>⟨[],.nil,rfl,fun f h=>absurd h (by simp)⟩
 | v::vs,hv=>by
  obtain⟨fs,k,l,f⟩:=zqk fun x hx=>hv x (.tail _ hx)
  obtain⟨b,p,rfl,h0,o,its,n,ho,hc,hd,hi⟩:=hv v (.head _)
  obtain⟨its⟩:=its
  cases hi with
  | nil=>exact absurd rfl h0
  | @cons i v x vs h1 hx=>
   obtain⟨t1,rfl⟩:=zjx h1
   refine⟨.int i t1::fs,.cons ho hc hd rfl k,by simp[l],fun g hg=>?_⟩
   rcases List.mem_cons.mp hg with rfl | hg
   ·exact⟨_,_,rfl⟩
   ·exact f g hg
end
def adV:V->Addr
 | .ref a=>a
 | _=>0
def RisP(ps:List (List Int)):Prop:=(∀p∈ps,p≠[])/\ps.Pairwise (fun p q=>ltI p q=true)/\ps.length<=60
section
variable{X:Cx}{pins:List (Addr×Obj)}{σ : St}{H:Hp}{s:Shared}
theorem zls(I:Inv X pins σ H s):∀{ps:List (List Int)} {vs:List V},DtA H vs (ps.map zpi)->vs=(vs.map adV).map V.ref/\vs.length=ps.length/\∀j,j < (vs.map adV).length->IsTupleKey (intKind X.prog X.w) s.heap (ps.getD j []) ((vs.map adV).getD j 0)
 | [],_,.nil=>⟨rfl,rfl,fun j h=>absurd h (by simp)⟩
 | p::ps,_,.cons d t=>by
  obtain⟨e,l,f⟩:=zls I t
  cases d with
  | @tup a xs ds e1 ra=>
   obtain⟨b,eb,kb⟩:=I.path (v:=.ref a) (p:=p) (Dt.tup e1 ra) (show RelV (.ref a) (.ref a) from rfl)
   cases eb
   refine⟨by rw [List.map_cons,List.map_cons,<- e]; rfl,by simp[l],fun j hj=>?_⟩
   cases j with
   | zero=>exact kb
   | succ j=>exact f j (by simpa using hj)
theorem RisP.lt{ps:List (List Int)}(R:RisP ps){i j:Nat}(hi:i < ps.length)(hj:j < ps.length):ltI (ps.getD i []) (ps.getD j [])=decide (i < j):=by
 have up:∀i j,i < j->j < ps.length->ltI (ps.getD i []) (ps.getD j [])=true:=fun i j hij hj=>by
  rw [List.getD_eq_getElem?_getD,List.getD_eq_getElem?_getD,List.getElem?_eq_getElem (by omega),List.getElem?_eq_getElem hj]
  exact List.pairwise_iff_getElem.mp R.2.1 i j (by omega) hj hij
 rcases Nat.lt_trichotomy i j with z | rfl | z
 ·rw [up i j z hj,decide_eq_true z]
 ·rw [zo5,decide_eq_false (Nat.lt_irrefl _)]
 ·rw [zw0 (up j i z hi),decide_eq_false (by omega)]
theorem zil:∀as:List Addr,Vals (as.map V.ref) (as.map Value.ref)
 | []=>.nil
 | a::as=>.cons rfl (zil as)
end
end L2
set_option Elab.async false
set_option linter.all false
set_option maxRecDepth 100000
namespace L2
open PySem PySem.Spec PyProof.Rows PySem.W
section
variable{prog:Program}{w:World}{A:Around}{E:Value->Shared->Prop}{s:Shared}
end
section
variable{X:Cx}
end
end L2
set_option Elab.async false
set_option linter.all false
set_option maxRecDepth 100000
namespace L2
open PySem PySem.Spec PyProof.Rows PySem.W
section
variable{X:Cx}
end
section
variable{prog:Program}{w:World}{A:Around}{E:Value->Shared->Prop}{s:Shared}
end
section
variable{prog:Program}{w:World}{A:Around}{E:Value->Shared->Prop}{s:Shared}{K:Type} [DecidableEq K] {knd:PySem.KeyKind prog w K}
end
section
variable{X:Cx}
theorem zog{α : Type}{H:Hp}{f : α->V}{g : α->Dm}:∀{l:List α},(∀i∈l,Dt H (f i) (g i))->DtA H (l.map f) (l.map g)
 | [],_=>.nil
 | i::l,h=>.cons (h i (.head _)) (zog fun j hj=>h j (.tail _ hj))
end
end L2
set_option Elab.async false
set_option linter.all false
set_option maxRecDepth 100000
namespace L2
open PySem PySem.Spec PyProof.Rows PySem.W
theorem zlr:entryFor table "dict.update.loop" = some Builtin.«dict.update.loop»:=entryFor_of_tree (by kernel_rfl)
theorem zce:plainId "dict.update.loop" = true:=by decide+kernel
theorem q20{n:Nat}(h:n<=200000):n<=sizeLine:=Nat.le_trans h (by decide)
theorem zli:typeLookup (.type "list") "keys" = pure none:=by rw [typeLookup_type,builtinLookup_eq_fast]; kernel_rfl
section
variable{prog:Program}{w:World}{A:Around}{E:Value->Shared->Prop}{s:Shared}{a:Addr}
theorem zxs{its:Array Value}{n:Nat}{Q:Option Value->Shared->Prop}(hh:A.handled=none) (hx:s.heap.get? a=some {cls:=.type "list",data:=.seq its n}) (q:∀h' tk,(∀b o,s.heap.get? b=some o->h'.get? b=some o)->Q none {s with heap:=h',toks:=tk}) :
  wpAny (model prog w) A (getAttr? (.ref a) "keys") Q E s:=by
 obtain⟨hp,g,d,tk,os⟩:=s
 have hT:Shared.TypeIs ⟨hp,g,d,tk,os⟩ (.ref a) "list":=⟨_,hx,rfl⟩
 have hT1:Shared.TypeIs ⟨hp,g,d,tk+1,os⟩ (.ref a) "list":=⟨_,hx,rfl⟩
 have f1:=sub_AttributeError
 have f3:=F.slot_list_getattribute.lookup
 have f4:=F.slot_list_getattribute.bind (.ref a)
 have f5:=am_list_getattr_none
 unfold getAttr? getAttrBy? getAttrBy
 repeat (any_goals (first | assumption | ((with_reducible show wpAny _ _ (call (Value.builtin "list.__getattribute__") _ _) _ _ _); refine call_meets F.slot_list_getattribute hT1 am_entry_list_getattribute (F.args_list_getattribute_2 _ _) (meets_getattribute_miss_list a its n #[] "keys" _ zli (by decide+kernel)) ⟨hx,hh,fun h' tk' e hx'=>?_⟩) | wp_step))
 obtain⟨t',u',he⟩:=hx'.there
 show wpAny _ _ (getattributeRaised _ _ _ _ _ _ _) _ _ _
 unfold getattributeRaised
 repeat (any_goals (first | assumption | wp_step))
 exact q _ _ fun b ob e=>hx'.keeps b ob e
theorem zbp{h h':Heap}{D:Addr}{xs:List (List Key×Addr×Value)}(x:h.DictOfH (tupleKind (z1i prog w)) D xs)(kD:∀o,h.get? D=some o->h'.get? D=some o)(kk:∀y∈xs,(tupleKind (z1i prog w)).is h' y.1 y.2.1):h'.DictOfH (tupleKind (z1i prog w)) D xs:=by
 obtain⟨o,es,ep,e1,e2,e3,e4,_,e6⟩:=x
 exact⟨o,es,ep,kD o e1,e2,e3,e4,kk,e6⟩
theorem zct{h h':Heap}{p:List Key}{a:Addr}(x:(tupleKind (z1i prog w)).is h p a)(k:∀o,h.get? a=some o->h'.get? a=some o):(tupleKind (z1i prog w)).is h' p a:=by
 obtain⟨o,i,n,e,r⟩:=x
 exact⟨o,i,n,k _ e,r⟩
theorem zpk{a b:Addr}{v:Value}{o:Obj}{its:Array Value}{k:Nat}{Q:List Value->Shared->Prop}(e:s.heap.get? a=some o) (c:o.cls=.type "tuple") (d:o.data=.seq its k) (hi:its.toList=[.ref b,v]) (q:Q [.ref b,v] s):wpAny (model prog w) A (Builtin.Dict.pairItems (.ref a)) Q E s:=by
 unfold Builtin.Dict.pairItems
 refine wpAny_bind (wpAny_typeOf (T:="tuple") ⟨_,e,c⟩ ?_)
 rw [if_pos (by decide)]
 refine wpAny_bind (wpAny_seqItems e d (wpAny_pure ?_))
 show Q its.toList s
 rw [hi]
 exact q
theorem zpj{R:Result->Shared->Prop}{I D:Addr}{fp wr:List Addr}{G:Array GenState->Array GenState->Prop}{n:Nat}{P:Nat->Value->Prop}{St:Nat->Shared->Prop}{rw_ ka:Nat->Addr}{va:Nat->Value}{ks:Nat->List Key}(W:WalksS prog w A.in1 I fp wr G n P St)(hDf:D∉fp)
  (hval:∀i v,P i v->v=.ref (rw_ i)) (hinj:∀i j,i < n->j < n->ks i=ks j->i=j) (hn:n<=100000) (hnw:∀i,i < n->rw_ i∉D::wr/\ka i∉D::wr) (hu:A.units+8 < cLine) :
  ∀(m i:Nat) (s:Shared),i+m=n->St i s->s.heap.DictOfH (tupleKind (z1i prog w)) D ((List.range i).map fun j=>(ks j,ka j,va j))->
   (∀j,j < n->(∃o its k,s.heap.get? (rw_ j)=some o/\o.cls=.type "tuple"/\o.data=.seq its k/\its.toList=[.ref (ka j),va j])/\(tupleKind (z1i prog w)).is s.heap (ks j) (ka j))->
   (∀s',Moved (D::wr) G s s'->s'.heap.DictOfH (tupleKind (z1i prog w)) D ((List.range n).map fun j=>(ks j,ka j,va j))->R (.ok (.ret .none)) s')->
   codeAny (model prog w) A (.builtin "dict.update.loop" ⟨[.ref D,.ref I,rawInt i,.none],[]⟩) R s:=by
 have hw:D∉wr:=fun z=>hDf (W.sub _ z)
 have hm:∀b∈wr,b∈D::wr:=fun b z=>.tail _ z
 intro m
 induction m with
 | zero=>
  intro i s e st x hk q
  obtain rfl:i=n:=e
  refine codeAny_builtin zlr ?_
  rw [Around.under_plainId zce]
  refine wpAny_bind (W.done s _ _ st fun s' mv=>?_)
  show wpAny _ _ (Builtin.Dict.addKeywords D [] >>= _) _ _ _
  refine wpAny_bind (wpAny_pure (wpAny_pure (q s' (mv.mono hm) (zbp x (fun o z=>mv.heap D o hw z) fun y hy=>?_))))
  obtain⟨j,hj,rfl⟩:=List.mem_map.mp hy
  have hj:=List.mem_range.mp hj
  exact zct (hk j hj).2 fun o z=>mv.heap _ o (fun z=>(hnw j hj).2 (hm _ z)) z
 | succ m ih=>
  intro i s e st x hk q
  refine codeAny_builtin zlr ?_
  rw [Around.under_plainId zce]
  refine wpAny_bind (W.item i s _ _ (by omega) st fun v s1 hP st1 mv=>?_)
  obtain rfl:=hval i v hP
  have hi:i < n:=by omega
  have hk1:∀j,j < n->(∃o its k,s1.heap.get? (rw_ j)=some o/\o.cls=.type "tuple"/\o.data=.seq its k/\its.toList=[.ref (ka j),va j])/\(tupleKind (z1i prog w)).is s1.heap (ks j) (ka j):=fun j hj=>by
   obtain⟨⟨o,its,k,e1,r⟩,x2⟩:=hk j hj
   exact⟨⟨o,its,k,mv.heap _ o (fun z=>(hnw j hj).1 (hm _ z)) e1,r⟩,zct x2 fun o z=>mv.heap _ o (fun z=>(hnw j hj).2 (hm _ z)) z⟩
  have x1:s1.heap.DictOfH (tupleKind (z1i prog w)) D ((List.range i).map fun j=>(ks j,ka j,va j)):=zbp x (fun o z=>mv.heap D o hw z) fun y hy=>by
   obtain⟨j,hj,rfl⟩:=List.mem_map.mp hy
   exact(hk1 j (by have:=List.mem_range.mp hj; omega)).2
  obtain⟨⟨o,its,k,e1,e2,e3,e4⟩,x2⟩:=hk1 i hi
  refine wpAny_bind (wpAny_holding (wpAny_bind (wpAny_tryCatch (zpk e1 e2 e3 e4 (wpAny_holding (wpAny_dictSet_heap (by show A.units+1 < cLine; omega) x2 x1 (fun h' x' sb=>?_) ?_))))))
  ·have hnew:atKey ((List.range i).map fun j=>(ks j,ka j,va j)) (ks i)=none:=atKey_none_of_get fun j p z=>by
    rw [List.getElem?_map] at z
    cases ej:(List.range i)[j]? with
    | none=>rw [ej] at z; cases z
    | some j'=>
     rw [ej] at z
     have hj':=List.mem_range.mp (List.mem_of_getElem? ej)
     have:ks j'=ks i:=by simpa using congrArg Prod.fst (Option.some.inj z)
     have:=hinj j' i (by omega) hi this
     omega
   rw [storedH_new hnew] at x'
   have er:((List.range i).map fun j=>(ks j,ka j,va j))++[(ks i,ka i,va i)]=(List.range (i+1)).map fun j=>(ks j,ka j,va j):=by
    rw [List.range_succ,List.map_append]; rfl
   rw [er] at x'
   have hk2:∀j,j < n->(∃o its k,h'.get? (rw_ j)=some o/\o.cls=.type "tuple"/\o.data=.seq its k/\its.toList=[.ref (ka j),va j])/\(tupleKind (z1i prog w)).is h' (ks j) (ka j):=fun j hj=>by
    obtain⟨⟨o,its,k,e1,r⟩,x2⟩:=hk1 j hj
    exact⟨⟨o,its,k,(sb.2 _ fun z=>(hnw j hj).1 (by rw [z]; exact List.mem_cons_self)).trans e1,r⟩,zct x2 fun o z=>(sb.2 _ fun z=>(hnw j hj).2 (by rw [z]; exact List.mem_cons_self)).trans z⟩
   refine wpAny_pure ⟨plainId_quiet zce _,ih (i+1) _ (by omega) (W.frame _ s1 _ _ st1 (Nat.le_add_right _ _) fun b hb' o z=>?_) x' hk2 fun s2 mv2 x2=>q s2 (Moved.trans W.gtrans ((mv.mono hm).then_heap (Nat.le_add_right _ _) fun b o hb' z=>?_) mv2) x2⟩
   ·rw [sb.2 b fun z:b=D=>hDf (z ▸ hb')]; exact z
   ·rw [sb.2 b fun z:b=D=>hb' (z ▸ List.mem_cons_self)]; exact z
  ·rw [List.length_map,List.length_range]
   exact q20 (by omega)
end
def zzn:List V->Hp->VK->Prop:=fun xs H Q=>∃(a:Addr) (vs:List V) (l:List Rw2),xs=[.ref a]/\H a=some (.lst vs)/\DtA H vs (l.map q18)/\(l.map (·.1)).Nodup/\l.length<=100000/\
 ∀(p:Addr) (kvs:List (List Key×V)),H p=none->Paired (fun(kv:List Key×V) (r:Rw2)=>kv.1=r.1.map Sum.inl/\Dt H kv.2 r.2) kvs l->Q (.ref p) (upd H p (.dT kvs))
structure Prw where
 r:Addr
 k:Addr
 x:V
 u:Value
instance:Inhabited Prw:=⟨⟨0,0,.non,.none⟩⟩
section
variable{X:Cx}{pins:List (Addr×Obj)}{σ : St}{H:Hp}{s:Shared}
def zye(X:Cx)(H:Hp)(h:Heap)(l:Rw2)(q:Prw):Prop:=H q.r=some (.tup [.ref q.k,q.x])/\H q.k=some (.tup (l.1.map V.int))/\Dt H q.x l.2/\RelV q.x q.u/\(∃o its k,h.get? q.r=some o/\o.cls=.type "tuple"/\o.data=.seq its k/\its.toList=[.ref q.k,q.u])/\(tupleKind (z1i X.prog X.w)).is h (l.1.map Sum.inl) q.k
theorem q2a(I:Inv X pins σ H s):∀{l:List Rw2} {vs:List V} {us:List Value},DtA H vs (l.map q18)->Vals vs us->∃qs:List Prw,us=qs.map (fun q=>Value.ref q.r)/\Paired (zye X H s.heap) l qs
 | [],_,_,.nil,.nil=>⟨[],rfl,.nil⟩
 | r::l,_,_,.cons d t,.cons rr rt=>by
  obtain⟨qs,e,pq⟩:=q2a I t rt
  cases d with
  | tup e1 ra=>
   cases rr
   obtain⟨its,rv,⟨o,ho,hc,n,hd⟩,_⟩:=I.tuple (SqT.of e1)
   cases ra with
   | cons d1 ra=>
    cases ra with
    | cons d2 ra=>
     cases ra
     cases rv with
     | cons q1 rv=>
      cases rv with
      | cons q2 rv=>
       cases rv
       cases d1 with
       | tup e2 rb=>
        have eb:=zg1 rb
        subst eb
        cases q1
        refine⟨⟨_,_,_,_⟩::qs,by rw [e]; rfl,.cons ⟨e1,e2,d2,q2,⟨o,_,n,ho,hc,hd,rfl⟩,?_⟩ pq⟩
        refine zj3 I.hok ?_
        rw [e2,List.map_map]
        rfl
theorem zgm{α β : Type}{R : α->β->Prop}:∀{l:List α} {m:List β},Paired R l m->l.length=m.length/\∀(j:Nat) (a : α) (b : β),l[j]?=some a->m[j]?=some b->R a b
 | [],_,.nil=>⟨rfl,fun j a b h=>by simp at h⟩
 | x::l,_,.cons r t=>by
  obtain⟨h1,h2⟩:=zgm t
  refine⟨by simp[h1],fun j a b ha hb=>?_⟩
  cases j with
  | zero=>
   have e1:=Option.some.inj ha
   have e2:=Option.some.inj hb
   subst e1 e2
   exact r
  | succ j=>exact h2 j a b (by simpa using ha) (by simpa using hb)
theorem zl1{α β γ δ : Type}{R : α->β->Prop}{S : γ->δ->Prop}{f : α->β->γ}{g : α->β->δ}:∀{l:List α} {m:List β},Paired R l m->(∀a b,R a b->S (f a b) (g a b))->Paired S (List.zipWith f l m) (List.zipWith g l m)
 | [],_,.nil,_=>.nil
 | _::_,_,.cons r t,h=>.cons (h _ _ r) (zl1 t h)
theorem zq9(hc:X.calm=true)(hu:X.A.units+64 < cLine):CallR X (.type "dict") zzn:=by
 intro pins s σ H xs us Q I r h
 obtain⟨a,vs,l,rfl,hH,hd,hnd,hz,q⟩:=h
 obtain⟨u,rfl,r1⟩:=r.one
 cases r1
 obtain⟨z,its,n,rv,hl,e⟩:=I.lstM hH
 obtain⟨qs,eq,pq⟩:=q2a I hd rv
 subst eq
 obtain⟨hlen,hat⟩:=zgm pq
 refine callType_codes (Q₁:=fun obj s₁=>obj=.ref s.heap.objs.size/\s₁ = {s with heap:=s.heap.push {cls:=.type "dict",data:=.dict #[]}}) F.kt_called_dict (F.kt_typeCall_dict_1 _) F.entry_dict_init (kt_code_dict_new _ ⟨rfl,rfl⟩) ?_
 rintro obj s₁ ⟨rfl,rfl⟩
 have hnew:(s.heap.push {cls:=.type "dict",data:=.dict #[]}).DictOfH (tupleKind (z1i X.prog X.w)) s.heap.objs.size []:=Heap.DictOfH.new s.heap
 refine⟨hnew.typeIs,F.args_dict_init_2 _ _,?_⟩
 unfold Builtin.«dict.__init__»
 refine wpAny_bind ?_
 unfold Builtin.Dict.selfAndRest
 refine wpAny_bind (wpAny_notOrdered_dict hnew.typeIs ?_)
 show wpAny _ _ (pure (s.heap.objs.size,[Value.ref a])) _ _ _
 refine wpAny_pure ?_
 show wpAny _ _ (Builtin.Dict.updateFrom "dict.__init__" s.heap.objs.size (.ref a) [] .none) _ _ _
 unfold Builtin.Dict.updateFrom
 have e1:(s.heap.push {cls:=.type "dict",data:=.dict #[]}).get? a=some {cls:=.type "list",data:=.seq (qs.map fun q=>Value.ref q.r).toArray n}:=Heap.get?_push_of_some _ e
 refine wpAny_bind (wpAny_typeOf (T:="list") ⟨_,e1,rfl⟩ ?_)
 rw [if_pos (by decide)]
 refine wpAny_bind (zxs (by simpa using I.ok.hd hc) e1 fun h2 tk2 k2=>?_)
 refine wpAny_ite_split (fun _=>?_) (fun c=>absurd rfl c)
 have e2:=k2 a _ e1
 have eD:=k2 _ _ (Heap.get?_push_size s.heap (o:={cls:=.type "dict",data:=.dict #[]}) rfl)
 have lD:s.heap.objs.size < h2.objs.size:=Heap.lt_size eD
 have la:a < s.heap.objs.size:=Heap.lt_size e
 have hl2:h2.IsList a (qs.map fun q=>Value.ref q.r).toArray:=⟨_,e2,rfl,n,rfl⟩
 refine wpAny_bind (wpAny_rule (wpAny_bind (wpAny_pyIter_list (s:={s with heap:=h2,toks:=tk2}) hl2 (wpAny_pure ⟨plainId_quiet zce _,?_⟩))))
 have W:=(Walks.list (prog:=X.prog) (w:=X.w) (A:=X.A.in1.in1) (by simpa using I.ok.hd hc) h2.objs.size a (Nat.ne_of_lt (Nat.lt_trans la lD)) (qs.map fun q=>Value.ref q.r).toArray).toS
 have hsz:(qs.map fun q=>Value.ref q.r).toArray.size=qs.length:=by simp
 rw [hsz] at W
 have hgq:∀j,j < qs.length->qs[j]?=some (qs.getD j default):=fun j hj=>by
  rw [List.getD_eq_getElem?_getD,List.getElem?_eq_getElem hj]; rfl
 have hgl:∀j,j < qs.length->l[j]?=some (l.getD j ([],.non)):=fun j hj=>by
  rw [List.getD_eq_getElem?_getD,List.getElem?_eq_getElem (by omega)]; rfl
 have ok:∀j,j < qs.length->zye X H s.heap (l.getD j ([],.non)) (qs.getD j default):=fun j hj=>hat j _ _ (hgl j hj) (hgq j hj)
 have kp:∀b o,s.heap.get? b=some o->(h2.push {cls:=.type "list_iterator",data:=.fields #[.ref a,.int 0 0]}).get? b=some o:=fun b o q=>Heap.get?_push_of_some _ (k2 b o (Heap.get?_push_of_some _ q))
 refine zpj (A:=X.A.in1) (D:=s.heap.objs.size) (rw_:=fun j=>(qs.getD j default).r) (ka:=fun j=>(qs.getD j default).k) (va:=fun j=>(qs.getD j default).u) (ks:=fun j=>(l.getD j ([],.non)).1.map Sum.inl) W ?_ (fun i v hv=>?_) (fun i j hi hj z=>?_) (by omega) (fun j hj=>?_) (by show X.A.units+1+8 < cLine; omega) qs.length 0 _ (Nat.zero_add _) ⟨⟨_,Heap.get?_push_size _ rfl,rfl,rfl⟩,hl2.push _⟩ ?_ (fun j hj=>?_) fun s' mv x=>?_
 ·simp only[List.mem_cons,List.not_mem_nil,or_false,not_or]
  exact⟨Nat.ne_of_lt lD,Nat.ne_of_gt la⟩
 ·have hi:i < qs.length:=by
   refine Classical.byContradiction fun z=>?_
   rw [Array.getElem?_eq_none (by rw [hsz]; omega)] at hv
   cases hv
  have z:(qs.map fun q=>Value.ref q.r)[i]?=some v:=by simpa using hv
  rw [List.getElem?_map,hgq i hi] at z
  exact(Option.some.inj z).symm
 ·have e':(l.getD i ([],Dm.non)).1=(l.getD j ([],Dm.non)).1:=by
   have inj:∀(x y:List Int),x.map (Sum.inl:Int->Key)=y.map Sum.inl->x=y:=by
    intro x
    induction x with
    | nil=>intro y h; cases y with | nil=>rfl | cons _ _=>cases h
    | cons a x ih=>
     intro y h
     cases y with
     | nil=>cases h
     | cons b y=>
      rw [List.map_cons,List.map_cons] at h
      injection h with h1 h2
      injection h1 with h1
      rw [h1,ih y h2]
   exact inj _ _ z
  have hi':i < (l.map (·.1)).length:=by rw [List.length_map]; omega
  have hj':j < (l.map (·.1)).length:=by rw [List.length_map]; omega
  refine(List.getElem_inj (h₀:=hi') (h₁:=hj') hnd).mp ?_
  rw [List.getElem_map,List.getElem_map]
  have a1:=hgl i hi
  have a2:=hgl j hj
  rw [List.getElem?_eq_getElem (by omega)] at a1
  rw [List.getElem?_eq_getElem (by omega)] at a2
  rw [Option.some.inj a1,Option.some.inj a2]
  exact e'
 ·obtain⟨_,_,_,_,⟨o,its,k,g1,_⟩,o2,its2,k2',g2,_⟩:=ok j hj
  have b1:=Heap.lt_size g1
  have b2:=Heap.lt_size g2
  simp only[List.mem_cons,List.not_mem_nil,or_false,not_or]
  exact⟨⟨Nat.ne_of_lt b1,Nat.ne_of_lt (Nat.lt_trans b1 lD)⟩,Nat.ne_of_lt b2,Nat.ne_of_lt (Nat.lt_trans b2 lD)⟩
 ·exact zbp hnew (fun o z=>Heap.get?_push_of_some _ (k2 _ o z)) fun y hy=>absurd hy (by simp)
 ·obtain⟨_,_,_,_,⟨o,its,k,g1,r1⟩,x2⟩:=ok j hj
  exact⟨⟨o,its,k,kp _ _ g1,r1⟩,zct x2 fun o z=>kp _ o z⟩
 ·obtain⟨h',g',d',tk',os'⟩:=s'
  have z1:g'=s.gens:=mv.gens
  have z2:d'=s.drawn:=mv.drawn
  have z3:os'=s.os:=mv.os
  subst z1 z2 z3
  refine⟨rfl,?_⟩
  have kf:∀b o,s.heap.get? b=some o->h'.get? b=some o:=fun b o q=>by
   have lb:=Heap.lt_size q
   refine mv.heap b o ?_ (kp b o q)
   simp only[List.mem_cons,List.not_mem_nil,or_false,not_or]
   exact⟨Nat.ne_of_lt lb,Nat.ne_of_lt (Nat.lt_trans lb lD)⟩
  obtain⟨oD,es,ep,f1,f2,f3,f4,f5,f6⟩:=x
  have ez:((List.range qs.length).map fun j=>((l.getD j ([],Dm.non)).1.map (Sum.inl:Int->Key),(qs.getD j default).k,(qs.getD j default).u))=List.zipWith (fun(r:Rw2) (q:Prw)=>(r.1.map Sum.inl,q.k,q.u)) l qs:=by
   refine List.ext_getElem (by simp; omega) fun j h1 h2=>?_
   have hj:j < qs.length:=by simpa using h1
   have a1:=hgl j hj
   have a2:=hgq j hj
   rw [List.getElem?_eq_getElem (by omega)] at a1
   rw [List.getElem?_eq_getElem hj] at a2
   rw [List.getElem_map,List.getElem_range,List.getElem_zipWith,Option.some.inj a1,Option.some.inj a2]
  rw [ez] at f4 f6
  refine⟨.ref s.heap.objs.size,_,I.laid (t':=tk') kf (Nat.le_refl _) (show ObjOk X.prog X.w _ _ _ (.dT (List.zipWith (fun(r:Rw2) (q:Prw)=>(r.1.map Sum.inl,q.x)) l qs)) from⟨?_,?_,_,?_,oD,es,ep,f1,f2,f3,f4,f6⟩),rfl,q _ _ (I.hok.fresh (Nat.le_refl _)) ?_⟩
  ·rw [List.length_zipWith]
   exact q20 (by omega)
  ·have:=I.big
   exact beq_eq_false_iff_ne.mpr (Nat.ne_of_gt this)
  ·refine zl1 pq fun r q ok=>⟨rfl,?_,ok.2.2.2.1⟩
   rw [z0s (Nat.ne_of_lt (I.hok _ _ ok.2.1).lt),ok.2.1,List.map_map]
   rfl
  ·have key:∀{l:List Rw2} {qs:List Prw},Paired (zye X H s.heap) l qs->Paired (fun(kv:List Key×V) (r:Rw2)=>kv.1=r.1.map Sum.inl/\Dt H kv.2 r.2) (List.zipWith (fun(r:Rw2) (q:Prw)=>(r.1.map Sum.inl,q.x)) l qs) l:=by
    intro l qs pq
    induction pq with
    | nil=>exact .nil
    | cons r t ih=>exact .cons ⟨rfl,r.2.2.1⟩ ih
   exact key pq
end
end L2
set_option Elab.async false
set_option linter.all false
set_option maxRecDepth 100000
namespace L2
open PySem PySem.Spec PyProof.Rows
structure LamD where
 qual:Str
 params:Arguments
 body:Expr
 scope:Scope
def q2n(D:LamD)(cl:List (Str×Addr))(f c':Addr):HO:=.ext fun h=>∃pm ctv,h.get? f=some (PySem.W.kla_obj "<lambda>" D.qual D.params D.body D.scope cl pm c' ctv)
section
variable{X:Cx}
end
def q0o(c:Addr)(o:Obj):HO:=.ext fun h=>h.get? c=some o
def q1u(cs:List Addr)(H H':Hp):Hp:=fun b=>if b∈cs then H b else H' b
def AreCells(cs:List Addr)(H:Hp):Prop:=∀c∈cs,∃o,H c=some (q0o c o)
theorem AreCells.not{cs:List Addr}{H:Hp}(h:AreCells cs H){b:Addr}{u:HO}(e:H b=some u)(n:∀o,u≠q0o b o):b∉cs:=fun hb=>by
 obtain⟨o,q⟩:=h b hb
 rw [e] at q
 cases q
 exact n o rfl
structure LamScope(ps fr:List Str)(cl:List (Str×Addr))(sc:Scope):Prop where
 kind:sc.kind=.function
 co:sc.isCoroutine=false
 gen:sc.isGenerator=false
 nd:(ps++fr).Nodup
 par:∀x∈ps,sc.names.lookup x=some .local
 free:∀x∈fr,sc.names.lookup x=some .free
 nocell:∀y∈sc.names,y.2≠.cell
 has:∀y∈sc.names,y.2=.free->∃c,cl.lookup y.1=some c
 inj:∀x y c,cl.lookup x=some c->cl.lookup y=some c->x=y
 look:∀x c,(x,c)∈cl->cl.lookup x=some c
def IsLam(H:Hp)(f:Addr):Prop:=∃D cl c',H f=some (q2n D cl f c')
theorem IsLam.at{X:Cx}{pins:List (Addr×Obj)}{σ : St}{H:Hp}{s:Shared}{f:Addr}(h:IsLam H f)(I:Inv X pins σ H s):PySem.W.FnAt f s.heap:=by
 obtain⟨D,cl,c',e⟩:=h
 obtain⟨⟨pm,ctv,q⟩,_⟩:=I.hok f _ e
 exact⟨_,_,_,_,q⟩
end L2
set_option Elab.async false
set_option linter.all false
set_option maxRecDepth 100000
namespace L2
open PySem PySem.Spec PyProof.Rows
end L2
set_option Elab.async false
set_option linter.all false
set_option maxRecDepth 100000
namespace L2
open PySem PySem.Spec PyProof.Rows PySem.W
section
variable{prog:Program}{w:World}{A:Around}{E:Value->Shared->Prop}{s:Shared}{a:Addr}
end
section
variable{X:Cx}{pins:List (Addr×Obj)}{σ : St}{H:Hp}{s:Shared}
structure Pkw where
 r:Addr
 k:Value
 u:Value
instance:Inhabited Pkw:=⟨⟨0,.none,.none⟩⟩
end
end L2
set_option Elab.async false
set_option linter.all false
set_option maxRecDepth 100000
namespace L2
open PySem PySem.Spec PyProof.Rows PySem.W
def FlyAt(h:Heap)(l:List PySem.Env)(x T:Addr)(C:Value):Prop:=(∃B:Heap,h.FunFrames B l)/\x∉frs l/\T∉frs l/\T≠x/\∃(oe:Obj) (vs:Array Value) (oT:Obj) (ts:Array Value) (a0:Value),h.get? x=some oe/\oe.cls=C/\vs[0]?=some a0/\oe.data=.fields vs/\vs[1]?=some (.ref T)/\h.get? T=some oT/\oT.data=.fields ts/\ts[3]?=some .none
theorem FlyAt.of{B h:Heap}{l:List PySem.Env}{x:Addr}{C a0:Value}(f:Heap.FlyingW B l x C a0 h):∃T,B.get? T=none/\FlyAt h l x T C:=by
 obtain⟨f1,f2,f3,oe,vs,T,oT,ts,he,⟨hc,h0⟩,hd,h1,hn,ne,hT,hdT,h3⟩:=f
 refine⟨T,hn,⟨B,f3⟩,fun z=>?_,fun z=>?_,ne,oe,vs,oT,ts,a0,he,hc,h0,hd,h1,hT,hdT,h3⟩
 ·obtain⟨_,o,ho,hnf⟩:=f3.mem z
  rw [he] at ho; cases ho
  exact hnf vs hd
 ·obtain⟨_,o,ho,hnf⟩:=f3.mem z
  rw [hT] at ho; cases ho
  exact hnf ts hdT
section
variable{P:Program}{w:World}{h h':Heap}{l:List PySem.Env}{x T:Addr}{H:Hp}
end
def CX1(P:Program)(w:World):CXT:=fun outer H s E e s'=>∃(x T C:Addr) (H':Hp),e=.ref x/\s'.os=s.os/\AllBare s'.gens/\Un (frs outer) [] H H' s.heap s'.heap/\HOk P w H' s'.heap/\FlyAt s'.heap outer x T (.ref C)/\s.heap.get? x=none/\s.heap.get? T=none/\H' x=none/\H' T=none/\E (.ref C) none H'
section
variable{P:Program}{w:World}{K:PySem.W.Frag}{mg:Str->Option Value}{base:Heap}{N:List Str}{qual:Str}{scope:Scope}{f:Addr}{cd:Value}{A:Around}{outer:List PySem.Env}{s₀:Shared}{H₀:Hp}{E:XK}
end
end L2
set_option Elab.async false
set_option linter.all false
set_option maxRecDepth 100000
namespace L2
open PySem PySem.Spec PyProof.Rows PySem.W
structure CalleeX(P:Program)(w:World)(K:PySem.W.Frag)(mg:Str->Option Value)(base:Heap)(x:Str)(ps:List Str)(k:Nat)(sp:Sp):Prop where
 ex:∃f fd,FnOk P w K mg base (CX1 P w) k f fd ps sp/\mg x=some (.ref f)/\PySem.W.keepIn K (.ref f)=true/\Binds K fd ps []
section
variable{P:Program}{w:World}{K:PySem.W.Frag}{mg:Str->Option Value}{base:Heap}
theorem Callee.x{x:Str}{ps:List Str}{k:Nat}{sp:Sp}(C:Callee P w K mg base x ps k sp):CalleeX P w K mg base x ps k sp:=by
 obtain⟨f,fd,F,a,b,c⟩:=C
 refine⟨f,fd,⟨F.len,fun A outer s H args us vs Q E hr e0 hb hv hs=>codeAny_mono (F.run A outer s H args us vs Q E hr e0 hb hv hs) fun r s' hq=>?_⟩,a,b,c⟩
 cases r with
 | error e=>exact False.elim hq
 | ok fl=>cases fl<;>exact hq
end
section
variable{X:Cx}{pins:List (Addr×Obj)}{σ : St}{H:Hp}{s:Shared}{h':Heap}{x T:Addr}
structure Strange(X:Cx)(pins:List (Addr×Obj))(x:Addr):Prop where
 new:X.s₀.heap.get? x=none
 loc:x≠X.env.locals
 cell:∀y c,X.env.cells.lookup y=some c->c≠x
 pin:∀p∈X.pn++pins,p.1≠x
theorem Inv.gone{i:Nat}{n:Str}{m:Str->Option Value}{v:Option Value}{t':Nat}(I:Inv X pins σ H s)(hN:X.N.Nodup)(hi:X.N[i]?=some n)(hn:Heap.Ns h' X.env.locals (fun y=>if y=n then v else m y))(hm:s.heap.Ns X.env.locals m)(hs:Heap.SameBut X.env.locals s.heap h') :
  Inv X pins (σ.set i none) H {s with heap:=h',toks:=t'}:=by
 obtain⟨m0,hn0,hl⟩:=I.loc
 have em:m0=m:=hn0.eq_nsMap.trans hm.eq_nsMap.symm
 subst em
 have cne:=I.cne
 have neL:∀b o,X.s₀.heap.get? b=some o->b≠X.env.locals:=fun b o e=>Nat.ne_of_lt (Nat.lt_of_lt_of_le (Heap.lt_size e) I.ok.above)
 refine⟨I.ok,I.os,I.bare,⟨fun b o e n hb hx=>(hs.2 b (neL b o e)).trans (I.base.keep b o e n hb hx),fun b o e n hb hx=>?_,I.base.free,fun b o e hx=>?_,I.base.tups,I.base.frzs,I.base.tbls⟩,⟨_,hn,fun j y v' e1 e2 e3=>?_⟩,fun y c e=>?_,I.free,I.freeC,fun p hp=>?_,fun b u e=>?_,by simpa using I.len⟩
 ·obtain⟨sl,q⟩:=I.base.slot b o e n hb hx
  exact⟨sl,(hs.2 b (neL b o e)).trans q⟩
 ·obtain⟨o',q⟩:=I.base.there b o e hx
  exact⟨o',(hs.2 b (neL b o e)).trans q⟩
 ·by_cases hj:j=i
  ·subst hj
   have hiσ : j < σ.length:=by rw [I.len]; exact(List.getElem?_eq_some_iff.mp hi).1
   rw [List.getElem?_set_self hiσ] at e2
   cases e2
  ·rw [List.getElem?_set_ne (Ne.symm hj)] at e2
   obtain⟨u,r,q⟩:=hl j y v' e1 e2 e3
   refine⟨u,r,?_⟩
   rcases q with⟨k,e⟩ | ⟨k,c,e,z⟩
   ·refine .inl ⟨k,?_⟩
    have:y≠n:=fun e=>hj (zjr hN e1 (e ▸ hi))
    simp[this,e]
   ·exact .inr ⟨k,c,e,z.sameBut hs (cne y c e)⟩
 ·obtain⟨w',z⟩:=I.cell y c e
  exact⟨w',z.sameBut hs (cne y c e)⟩
 ·obtain⟨e,n,ne,nf,d⟩:=I.pin p hp
  exact⟨(hs.2 p.1 ne).trans e,n,ne,nf,d⟩
 ·refine(I.hok b u e).stay (fun c w' hc q=>(hs.2 c ?_).trans q) (fun _ q=>q) fun _ _ q=>q
  rintro rfl
  rcases hc with rfl | hc
  ·rw [I.free] at e; cases e
  ·rw [I.free] at hc; cases hc
end
end L2
set_option Elab.async false
set_option linter.all false
set_option maxRecDepth 100000
namespace L2
open PySem PySem.Spec PyProof.Rows PySem.W
section
variable{X:Cx}{pins:List (Addr×Obj)}{σ : St}{H:Hp}{s:Shared}{e:Value}
end
end L2
set_option Elab.async false
set_option linter.all false
set_option maxRecDepth 100000
namespace L2
open PySem PySem.Spec PyProof.Rows PySem.W PySem.Builtin PySem.Builtin.ObjectAttr PySem.Builtin.Getset_descriptor PySem.Calls
section
variable{prog:Program}{w:World}{A:Around}{E:Value->Shared->Prop}{s:Shared}{K:PySem.W.Frag}{x C:Addr}
structure ExcC(K:PySem.W.Frag)(C:Addr):Prop where
 cl:(clsIn K C).isSome=true
 hb:subIn K (.ref C) (.type "BaseException")=some true
 hga:findIn K (.ref C) "__getattribute__" = some (some (.builtin "BaseException.__getattribute__"))
 hgh:findIn K (.ref C) "__getattr__" = some none
 ha:findIn K (.ref C) "__class__" = some (some (.builtin "object.__class__"))
 hn:specialIn K (.builtin "object.__class__") "__get__" = some (some (.builtin "getset_descriptor.__get__"))
 htk:takesIn K (.builtin "object.__class__")=some true
 hm:mroIn K C (.type "object")=some true
end
section
variable{X:Cx}
end
section
variable{P:Program}{w:World}{K:PySem.W.Frag}{mg:Str->Option Value}{base:Heap}{N:List Str}{qual:Str}{scope:Scope}{f:Addr}{cd:Value}{A:Around}{outer:List PySem.Env}{s₀:Shared}{H₀:Hp}{E:XK}
end
end L2
set_option Elab.async false
set_option linter.all false
set_option maxRecDepth 100000
namespace L2
open PySem PySem.Spec PyProof.Rows PySem.W
def q1q(s:Stmt)(j:Nat):Stmt:=match s with
 | .ClassDef _ _ _ b _ _ _ _ _ _ _=>(b[j]?).getD s
 | _=>s
structure CalleeM(P:Program)(w:World)(K:PySem.W.Frag)(mg:Str->Option Value)(base:Heap)(C:Addr)(m:Str)(ps:List Str)(k:Nat)(sp:Sp):Prop where
 ex:∃f fd,FnOk P w K mg base CX0 k f fd ps sp/\Meth K C m f/\Binds K fd ps []
structure CalleeI(P:Program)(w:World)(K:PySem.W.Frag)(mg:Str->Option Value)(base:Heap)(C:Addr)(ps:List Str)(k:Nat)(sp:Sp):Prop where
 ex:∃f fd,FnOk P w K mg base CX0 k f fd ps sp/\Mk K C f/\Binds K fd ps []
section
variable{X:Cx}{C:Addr}{m x:Str}{ps:List Str}{k j:Nat}{sp:Sp}{o e:Expr}{es:List Expr}{ta:TE}{t:TA}{p apos pos:Pos}{pl:Sem Bool}
theorem q1d(M:CalleeI X.prog X.w X.K X.mg X.base C ps k sp)(hr:Room j X.A)(hk:k+1<=j)(hg:Gl X x)(hm:X.mg x=some (.ref C))(ha:PA X (e::es) t) (hdb:(x == ("__debug__" : Str))=false:=by decide) (hst:z4t (e::es)=true:=by rfl) :
  PE X (.Call (.Name x p) (e::es) [] pos) (zwr C sp [] E0 t):=by
 obtain⟨f,fd,F,hM,hb⟩:=M
 have hst':=hst
 rw [z4t,Bool.and_eq_true,Bool.not_eq_true'] at hst'
 exact zx7 hM F (hr.mono hk) hg hm hb .nil (fun _ _ _ _ _ _ _ z=>z.elim) ha hdb (z20 hst'.1) (z4s hst'.2)
end
end L2
set_option Elab.async false
set_option linter.all false
set_option maxRecDepth 100000
namespace L2
open PySem PySem.Spec PyProof.Rows PySem.W
section
variable{P:Program}{w:World}{K:PySem.W.Frag}{mg:Str->Option Value}{base:Heap}{k:Nat}{ps fr N:List Str}{D:LamD}{cl:List (Str×Addr)}{f c':Addr}{A:Around}{outer:List PySem.Env}{s:Shared}{H:Hp}{us:List Value}{vs ws:List V}{Q:VK}{E:XK}
end
end L2
set_option Elab.async false
set_option linter.all false
set_option maxRecDepth 100000
namespace L2
open PySem PySem.Spec PyProof.Rows PySem.W
structure RoomH(k:Nat)(A:Around):Prop where
 dp:A.depth+3 * k+5 < recursionLimit
 un:A.units+16 * k+200 < cLine
theorem Room.h{k:Nat}{A:Around}(r:Room k A):RoomH k A:=⟨r.dp,r.un⟩
structure FnOkH(P:Program)(w:World)(K:PySem.W.Frag)(mg:Str->Option Value)(base:Heap)(k:Nat)(f:Addr)(fd:FuncData)(ps:List Str)(sp:Sp):Prop where
 len:∀vs H Q E,sp vs H Q E->vs.length=ps.length
 run:∀(A:Around) (outer:List PySem.Env) (s:Shared) (H:Hp) (args:Args) (us:List Value) (vs:List V) (Q:VK) (E:XK),RoomH k A->Env0 P w K mg base A outer s H->BindsTo s fd args (ps.zip us)->Vals vs us->sp vs H Q E->
  codeAny (model P w) A (.call (.ref f) args) (CR CX0 outer P w H s Q E) s
end L2
set_option Elab.async false
set_option linter.all false
set_option maxRecDepth 100000
namespace L2
open PySem PySem.Spec PyProof.Rows PySem.W
structure CalleeH(P:Program)(w:World)(K:PySem.W.Frag)(mg:Str->Option Value)(base:Heap)(x:Str)(ps:List Str)(k:Nat)(sp:Sp):Prop where
 ex:∃f fd,FnOkH P w K mg base k f fd ps sp/\mg x=some (.ref f)/\PySem.W.keepIn K (.ref f)=true/\Binds K fd ps []
end L2
set_option Elab.async false
set_option linter.all false
set_option maxRecDepth 100000
namespace L2
open PySem PySem.Spec PyProof.Rows PySem.W
end L2
set_option Elab.async false
set_option linter.all false
set_option maxRecDepth 100000
namespace L2
open PySem PySem.Spec PyProof.Rows PySem.W
end L2
set_option Elab.async false
set_option linter.all false
set_option maxRecDepth 100000
namespace L2
open PySem PySem.Spec PyProof.Rows PySem.W
structure CalleeMX(P:Program)(w:World)(K:PySem.W.Frag)(mg:Str->Option Value)(base:Heap)(C:Addr)(m:Str)(ps:List Str)(k:Nat)(sp:Sp):Prop where
 ex:∃f fd,FnOk P w K mg base (CX1 P w) k f fd ps sp/\Meth K C m f/\Binds K fd ps []
structure CalleeIX(P:Program)(w:World)(K:PySem.W.Frag)(mg:Str->Option Value)(base:Heap)(C:Addr)(ps:List Str)(k:Nat)(sp:Sp):Prop where
 ex:∃f fd,FnOk P w K mg base (CX1 P w) k f fd ps sp/\Mk K C f/\Binds K fd ps []
section
variable{X:Cx}{C:Addr}{m x:Str}{ps:List Str}{k j:Nat}{sp:Sp}{o e:Expr}{es:List Expr}{ta:TE}{t:TA}{p apos pos:Pos}{pl:Sem Bool}{E:XK}
end
end L2
set_option Elab.async false
set_option linter.all false
set_option maxRecDepth 100000
namespace L2
open PySem PySem.Spec PyProof.Rows PySem.W
end L2
set_option Elab.async false
set_option linter.all false
set_option maxRecDepth 100000
namespace L2
open PySem PySem.Spec PyProof.Rows PySem.W
section
variable{σ : St}{H:Hp}{Q:VK}{D:Ends}{N B C:St->Hp->Prop}{R:VK}{te ta tb tc:TE}{tA:TA}{t u:TS}{g:TG}{c c':TT}{T:Bool->Hp->Prop}{i j:Nat}{v x y:V}{b:Bool}{K:PySem.W.Frag}{p:Addr}{xs:List V}
end
end L2
set_option Elab.async false
set_option linter.all false
set_option maxRecDepth 100000
namespace L2
open PySem PySem.Spec PyProof.Rows PySem.W
abbrev zse(d:Addr)(i n ep:Nat):Obj:={cls:=.type "dict_keyiterator",data:=.fields #[.ref d,.int i 0,.int n 0,.int ep 0]}
section
variable{prog:Program}{w:World}{A:Around}{E:Value->Shared->Prop}{s:Shared}{d I:Addr}{es:Array DictEntry}{ep i:Nat}{o:Obj}
set_option maxHeartbeats 4000000 in
theorem zck{Q:Option Value->Shared->Prop}(hh:A.handled=none)(eI:s.heap.get? I=some (zse d i es.size ep))(e:s.heap.get? d=some o)(dd:o.data=.dict es ep)
  (q1:∀h' en,es[i]?=some en->Heap.SameBut I s.heap h'->h'.get? I=some (zse d (i+1) es.size ep)->Q (some en.key) {s with heap:=h'})
  (q2:∀h',es[i]?=none->Heap.ExtBut I s.heap h'->Q none {s with heap:=h'}):wpAny (model prog w) A (pyNext (.ref I)) Q E s:=by
 have hT:s.TypeIs (.ref I) "dict_keyiterator":=⟨_,eI,rfl⟩
 unfold pyNext
 refine wpAny_bind (wpAny_attempt (wpAny_callSpecial?_slot (name:="__next__") hT F.slot_dict_keyiterator_next (wpAny_call_entry F.slot_dict_keyiterator_next hT F.entry_dict_keyiterator_next ?_ (F.args_dict_keyiterator_next_1 _))))
 unfold Builtin.«dict_keyiterator.__next__»
 wp_walk using wpAny_dictEntries e dd,wpAny_dictEpoch e dd
 rw [if_neg (show ¬ ((i:Int) < 0) by omega),show((i:Int)).toNat=i from rfl]
 cases ei:es[i]? with
 | some en=>
  wp_walk
  refine⟨_,rfl,wpAny_pure ?_⟩
  rw [if_neg (show ¬ (Builtin.Dict_items.ownsTuple ((Manifest.find? "dict_keyiterator").elim "dict_keyiterator" fun x=>x.tpName)=true) by decide+kernel),if_neg]
  ·exact q1 _ en ei (Heap.SameBut.update ..) (Heap.get?_update_self _ eI rfl)
  ·decide+kernel
 | none=>
  wp_walk
  rw [raiseNew]
  wp_walk
  refine wpAny_of_eq isSubtype_stop (wpAny_pure ?_)
  exact q2 _ ei (((Heap.SameBut.update ..).extBut.push _).push _)
set_option maxHeartbeats 4000000 in
theorem zhd{Q:Value->Shared->Prop}(lo:(d == sysModules)=false)(e:s.heap.get? d=some o)(x:o.ExactDict)(dd:o.data=.dict es ep)(q:Q (.ref s.heap.objs.size) {s with heap:=s.heap.push (zse d 0 es.size ep)}):wpAny (model prog w) A (pyIter (.ref d)) Q E s:=by
 have hT:s.TypeIs (.ref d) "dict":=⟨_,e,x.1⟩
 refine wpAny_pyIter_slot hT F.slot_dict_iter (wpAny_call_entry F.slot_dict_iter hT F.entry_dict_iter ?_ (F.args_dict_iter_1 _))
 unfold Builtin.«dict.__iter__»
 wp_walk using wpAny_dictEntries e dd,wpAny_dictEpoch e dd
 rw [x.1,if_neg (by decide)]
 wp_walk using wpAny_dictEntries e dd,wpAny_dictEpoch e dd
 exact⟨_,rfl,"dict_keyiterator",_,⟨_,Heap.get?_push_size _ rfl,rfl⟩,F.slot_dict_keyiterator_next.lookup,q⟩
theorem zos(hh:A.handled=none)(hne:d≠I):Walks prog w A I [I,d] [I] es.size (fun i v=>∃en,es[i]?=some en/\v=en.key) (fun i h=>h.get? I=some (zse d i es.size ep)/\∃o,h.get? d=some o/\o.data=.dict es ep) where
 sub:=fun b hb=>by simp at hb; simp[hb]
 frame:=fun _ _ _ st hk=>⟨hk I (by simp) _ st.1,let ⟨o,e,dd⟩:=st.2; ⟨o,hk d (by simp) o e,dd⟩⟩
 item:=fun i s Q E hi st hQ=>by
  obtain⟨eI,o,e,dd⟩:=st
  refine zck hh eI e dd (fun h' en hen hs' hit'=>?_) (fun h' hn _=>?_)
  ·exact hQ en.key h' s.toks ⟨en,hen,rfl⟩ ⟨hit',o,(hs'.2 d hne).trans e,dd⟩ fun b o hb e=>(hs'.2 b (fun h=>hb (by simp[h]))).trans e
  ·rw [Array.getElem?_eq_getElem hi] at hn
   cases hn
 done:=fun s Q E st hQ=>by
  obtain⟨eI,o,e,dd⟩:=st
  refine zck hh eI e dd (fun h' en hen _ _=>?_) (fun h' _ he'=>hQ h' s.toks fun b o hb e=>he' b o (fun h=>hb (by simp[h])) e)
  rw [Array.getElem?_eq_none (Nat.le_refl _)] at hen
  cases hen
 self:=fun _ s Q E st hQ=>wpAny_pyIter_keyiter ⟨_,st.1,rfl,rfl⟩ hQ
theorem ztw(lo:(d == sysModules)=false):KdlSrc prog w "dict" d d es.size (fun i v=>∃en,es[i]?=some en/\v=en.key) (fun h=>∃o,h.get? d=some o/\o.ExactDict/\o.data=.dict es ep) where
 type:=fun _ ⟨o,e,x,_⟩=>⟨o,e,x.1⟩
 there:=fun _ ⟨o,e,_⟩=>⟨Heap.lt_size e,Heap.lt_size e⟩
 keep:=fun _ _ ⟨o,e,r⟩ hk=>⟨o,hk d (.inl rfl) o e,r⟩
 notList:=by decide
 notTuple:=by decide
 hint:=fun _ _ _ _ ⟨o,e,x,_⟩ hq=>kdl_hint_dict ⟨o,e,x.1⟩ hq
 iter:=fun _ s hh ⟨o,e,x,dd⟩=>⟨_,_,(fun _ _ hq=>zhd lo e x dd hq),zos (ep:=ep) hh (Nat.ne_of_lt (Heap.lt_size e)),⟨Heap.get?_push_size _ rfl,o,Heap.get?_push_of_some _ e,dd⟩⟩
end
end L2
set_option Elab.async false
set_option linter.all false
set_option maxRecDepth 100000
namespace L2
open PySem PySem.Spec PyProof.Rows PySem.W
def Itd(d:Addr)(o:Obj)(u:HO)(ks:List V):It:=⟨fun i H=>H d=some (.frz o u)/\i < ks.length,fun i H x H'=>H'=H/\ks[i]?=some x,fun i H=>H d=some (.frz o u)/\ks.length<=i⟩
section
variable{X:Cx}{pins:List (Addr×Obj)}{σ : St}{H:Hp}{s:Shared}
theorem Inv.freeze{d:Addr}{o:Obj}{u:HO}(I:Inv X pins σ H s)(e:H d=some u)(ho:s.heap.get? d=some o)(n1:∀xs,u≠.tup xs)(n2:∀x,u≠.own x)(n3:∀o v,u≠.frz o v)(n4:∀ps,u≠.tbl ps):Inv X pins σ (upd H d (.frz o u)) s:=by
 have out:∀{b:Addr} {v:HO},H b=some v->v≠u->(upd H d (.frz o u)) b=some v:=fun {b v} q n=>by rw [z0s (zam q e n)]; exact q
 have hok:HOk X.prog X.w (upd H d (.frz o u)) s.heap:=fun a v q=>by
  by_cases ha:a=d
  ·subst ha
   rw [z04] at q
   cases q
   exact⟨ho,(I.hok a u e).stay (fun _ _ _ q=>q) (fun b q=>out q (Ne.symm (n2 _))) fun b xs q=>out q (Ne.symm (n1 _))⟩
  ·rw [z0s ha] at q
   exact(I.hok a v q).stay (fun _ _ _ q=>q) (fun b q=>out q (Ne.symm (n2 _))) fun b xs q=>out q (Ne.symm (n1 _))
 obtain⟨h,gg,dr,tk,os⟩:=s
 refine I.un (h':=h) (t':=tk) ⟨fun b ob q n _ _=>q,fun b ob q n _ _=>⟨ob.slots,q⟩,fun b ob q n _=>?_,fun b ob q _=>⟨ob,q⟩,fun b xs q=>out q (Ne.symm (n1 _)),fun b ob v q=>out q (Ne.symm (n3 _ _)),fun b ps q=>⟨#[],by rw [out q (Ne.symm (n4 _))]; simp⟩⟩ hok
 rw [z0s (Ne.symm (z1q e n))]
 exact n
theorem zkj{P:Program}{w:World}{K:PySem.W.Frag}{tg:Expr}{d it:Addr}{o:Obj}{u:HO}{ks:List V}{es:Array DictEntry}{ep:Nat}(od:o.data=.dict es ep)(hk:Paired (fun(v:V) (en:DictEntry)=>RelV v en.key) ks es.toList):Turn P w K tg (Itd d o u ks) [it] it (fun i h=>h.get? it=some (zse d i es.size ep)) where
 mem:=by simp
 obj:=fun i h st b hb=>by
  have e:b=it:=by simpa using hb
  subst e
  exact⟨_,st,fun v z=>by cases z⟩
 keep:=fun i h h' st k=>k it (by simp) _ st
 item:=by
  intro X hP hw hK hc i pins s σ H E I hf st hg
  subst hP hw hK
  obtain⟨hd,hi⟩:=hg
  obtain⟨ho,_⟩:=(show ObjOk X.prog X.w H s.heap d (.frz o u) from I.hok d _ hd)
  obtain⟨f0,f1,f2,f3,f4,f5⟩:=hf it (by simp)
  have hl:ks.length=es.size:=by rw [hk.length]; simp
  refine zck (I.ok.hd hc) st ho od (fun h' en hen sb st'=>?_) (fun h' hn _=>?_)
  ·have I1:Inv X pins σ H {s with heap:=h'}:=I.turned (t':=s.toks) (fun b ob hb e=>(sb.2 b hb).trans e) f0 f1 f3 f4 f5
   obtain⟨v,hv,rv⟩:∃v,ks[i]?=some v/\RelV v en.key:=by
    obtain⟨v,hv⟩:∃v,ks[i]?=some v:=⟨ks[i],List.getElem?_eq_getElem hi⟩
    exact⟨v,hv,(zgm hk).2 i v en hv (by rw [Array.getElem?_toList]; exact hen)⟩
   exact⟨_,rfl,zuy (s:={s with heap:=h'}) st' rfl rfl (by decide) ⟨v,H,I1,rv,⟨rfl,hv⟩,st',fun b hb=>(hf b hb).1⟩⟩
  ·rw [Array.getElem?_eq_getElem (by omega)] at hn
   cases hn
 done:=by
  intro X hP hw hK hc i pins s σ H E I hf st hg
  subst hP hw hK
  obtain⟨hd,hi⟩:=hg
  obtain⟨ho,_⟩:=(show ObjOk X.prog X.w H s.heap d (.frz o u) from I.hok d _ hd)
  obtain⟨f0,f1,f2,f3,f4,f5⟩:=hf it (by simp)
  have hl:ks.length=es.size:=by rw [hk.length]; simp
  refine zck (I.ok.hd hc) st ho od (fun h' en hen sb st'=>?_) (fun h' hn eb=>?_)
  ·rw [Array.getElem?_eq_none (by omega)] at hen
   cases hen
  ·exact⟨rfl,I.turned (t':=s.toks) (fun b o hb e=>eb b o hb e) f0 f1 f3 f4 f5⟩
 self:=fun _ _ _ _ _ st h=>wpAny_pyIter_keyiter ⟨_,st,rfl,rfl⟩ h
def zw6(tl:TE):TI:=fun σ H R=>tl σ H fun x H1=>∃d kvs,x=.ref d/\Rd H1 d (.dK kvs)/\∀o,R (Itd d o (.dK kvs) (kvs.map fun kv=>kV kv.1)) (upd H1 d (.frz o (.dK kvs)))
def zw5(tl:TE):TI:=fun σ H R=>tl σ H fun x H1=>∃d kvs,x=.ref d/\Rd H1 d (.dT kvs)/\∀(o:Obj) (as:List Addr),Paired (fun(kv:List Key×V) (a:Addr)=>H1 a=some (.tup (kv.1.map kV))) kvs as->R (Itd d o (.dT kvs) (as.map V.ref)) (upd H1 d (.frz o (.dT kvs)))
theorem ziy{prog:Program}{w:World}:∀{es:List DictEntry} {vs:List (Key×Value)} {kvs:List (Key×V)},Pairs (z1i prog w) es vs->KV kvs vs->Paired (fun(v:V) (en:DictEntry)=>RelV v en.key) (kvs.map fun kv=>kV kv.1) es
 | [],_,_,.nil,.nil=>.nil
 | e::es,v::vs,kv::kvs,.cons h _ t,.cons r rt=>.cons (by
   obtain⟨e1,_⟩:=r
   show RelV (kV kv.1) e.key
   rcases z30 (show zmx v.1 e.key=true from h) with⟨i,t,e2,e3⟩ | ⟨x,t,e2,e3⟩
   ·rw [e1,e2,e3]; exact⟨_,rfl⟩
   ·rw [e1,e2,e3]; exact⟨_,rfl⟩) (ziy t rt)
theorem Rd.frozen{d:Addr}{u:HO}{o:Obj}{P:Program}{w:World}(r:Rd H d u)(x:HOk P w H s.heap)(ho:s.heap.get? d=some o):H d=some u\/upd H d (.frz o u)=H:=by
 rcases r with r | ⟨o',r⟩
 ·exact .inl r
 ·obtain⟨e,_⟩:=(show ObjOk P w H s.heap d (.frz o' u) from x d _ r)
  rw [ho] at e
  cases e
  refine .inr (funext fun b=>?_)
  by_cases hb:b=d
  ·rw [hb,z04,r]
  ·rw [z0s hb]
theorem Inv.frozen{d:Addr}{o:Obj}{u:HO}(I:Inv X pins σ H s)(r:Rd H d u)(ho:s.heap.get? d=some o)(n1:∀xs,u≠.tup xs)(n2:∀x,u≠.own x)(n3:∀o v,u≠.frz o v)(n4:∀ps,u≠.tbl ps):Inv X pins σ (upd H d (.frz o u)) s:=by
 rcases r.frozen I.hok ho with e | e
 ·exact I.freeze e ho n1 n2 n3 n4
 ·rw [e]; exact I
theorem zub{tg l:Expr}{tl:TE}(hl:PE X l tl):PI X tg l (zw6 tl):=by
 refine⟨?_⟩
 intro pins s σ H R I h
 refine thn (hl pins s σ H _ I h) fun v s1 ⟨x,H1,I1,r1,q1⟩=>?_
 obtain⟨d,kvs,e,hr,q⟩:=q1
 subst e
 cases r1
 obtain⟨hz,lo,vs,rv,o,es,ep,ho,hx,hd,hk,hp,hn⟩:=(show ObjOk X.prog X.w H1 s1.heap d (.dK kvs) from hr.ok I1.hok)
 have I2:=I1.frozen hr ho (by intro xs z; cases z) (by intro xs z; cases z) (by intro xs y z; cases z) (by intro xs z; cases z)
 refine zhd lo ho hx hd ?_
 refine⟨s1.heap.objs.size,[s1.heap.objs.size],_,_,_,rfl,I2.kept (t':=s1.toks) fun b o e=>Heap.get?_push_of_some _ e,zkj (o:=o) (u:=.dK kvs) hd (ziy hp rv),Heap.get?_push_size _ rfl,fun b hb=>?_,q o⟩
 have e:b=s1.heap.objs.size:=by simpa using hb
 subst e
 exact I1.fpOk (Nat.le_refl _) (I2.hok.fresh (Nat.le_refl _))
theorem zw2{xs:List (List Key×Addr×Value)}{kvs:List (List Key×V)}:∀{kvs:List (List Key×V)} {xs:List (List Key×Addr×Value)},Paired (fun(p:List Key×V) (q:List Key×Addr×Value)=>p.1=q.1/\H q.2.1=some (.tup (p.1.map kV))/\RelV p.2 q.2.2) kvs xs->
  Paired (fun(kv:List Key×V) (a:Addr)=>H a=some (.tup (kv.1.map kV))) kvs (xs.map (·.2.1))/\Paired (fun(v:V) (en:DictEntry)=>RelV v en.key) ((xs.map (·.2.1)).map V.ref) (xs.map (entryOfKey (tupleKind (z1i X.prog X.w))))
 | [],_,.nil=>⟨.nil,.nil⟩
 | _::_,_::_,.cons r t=>let ⟨a,b⟩:=zw2 (xs:=[]) (kvs:=[]) t; ⟨.cons r.2.1 a,.cons rfl b⟩
theorem zua{tg l:Expr}{tl:TE}(hl:PE X l tl):PI X tg l (zw5 tl):=by
 refine⟨?_⟩
 intro pins s σ H R I h
 refine thn (hl pins s σ H _ I h) fun v s1 ⟨x,H1,I1,r1,q1⟩=>?_
 obtain⟨d,kvs,e,hr,q⟩:=q1
 subst e
 cases r1
 obtain⟨hz,lo,xs,rx,o,es,ep,ho,hx,hd,hes,hn⟩:=(show ObjOk X.prog X.w H1 s1.heap d (.dT kvs) from hr.ok I1.hok)
 have I2:=I1.frozen hr ho (by intro xs z; cases z) (by intro xs z; cases z) (by intro xs y z; cases z) (by intro xs z; cases z)
 obtain⟨ka,kb⟩:=zw2 (X:=X) (xs:=[]) (kvs:=[]) rx
 refine zhd lo ho hx hd ?_
 refine⟨s1.heap.objs.size,[s1.heap.objs.size],_,_,_,rfl,I2.kept (t':=s1.toks) fun b o e=>Heap.get?_push_of_some _ e,zkj (o:=o) (u:=.dT kvs) hd (hes ▸ kb),Heap.get?_push_size _ rfl,fun b hb=>?_,q o _ ka⟩
 have e:b=s1.heap.objs.size:=by simpa using hb
 subst e
 exact I1.fpOk (Nat.le_refl _) (I2.hok.fresh (Nat.le_refl _))
end
section
variable{d:Addr}{o:Obj}{u:HO}{ks:List V}{g:TG}{tb:TS}{D:Ends}{σ : St}{H:Hp}{tt:TT}{te:TE}{Q:VK}
theorem zv0(Pv:Nat->St->Hp->Prop)(h0:Pv 0 σ H)(hl:∀i σ H,i<=ks.length->Pv i σ H->H d=some (.frz o u))
  (hs:∀i x σ H,ks[i]?=some x->Pv i σ H->g x σ H fun σ2 H2=>tb {D with nx:=Pv (i+1),ct:=Pv (i+1),bk:=D.nx} σ2 H2) (hd:∀ σ H,Pv ks.length σ H->D.nx σ H) :
  ∃W:Nat->Nat->St->Hp->Prop,(∃m,W 0 m σ H)/\∀i m σ H,W i m σ H->
   ((Itd d o u ks).stop i H/\D.nx σ H)\/((Itd d o u ks).go i H/\∃N:St->Hp->Prop,(∀ σ' H',N σ' H'->∃m',m' < m/\W (i+1) m' σ' H')/\∀x H',(Itd d o u ks).yld i H x H'->g x σ H' fun σ2 H2=>tb {D with nx:=N,ct:=N,bk:=D.nx} σ2 H2):=by
 refine⟨fun i m σ H=>m=ks.length - i/\i<=ks.length/\Pv i σ H,⟨ks.length,by simp,Nat.zero_le _,h0⟩,?_⟩
 rintro i m σ H ⟨rfl,hi,p⟩
 have q:=hl i σ H hi p
 by_cases hlt:i < ks.length
 ·refine .inr ⟨⟨q,hlt⟩,Pv (i+1),fun σ' H' p'=>⟨ks.length - (i+1),by omega,rfl,hlt,p'⟩,fun x H' y=>?_⟩
  obtain⟨e,y⟩:=y
  subst e
  exact hs i x σ _ y p
 ·have e:i=ks.length:=by omega
  subst e
  exact .inl ⟨⟨q,Nat.le_refl _⟩,hd σ H p⟩
theorem zta(Pv:Nat->List V->St->Hp->Prop)(h0:Pv 0 [] σ H)(hz:ks.length < sizeLine)(hy:∀i ys σ H,Pv i ys σ H->ys.length<=i)(hl:∀i ys σ H,i<=ks.length->Pv i ys σ H->H d=some (.frz o u))
  (hs:∀i ys x σ H,ks[i]?=some x->Pv i ys σ H->g x σ H fun σ2 H2=>tt σ2 H2 fun b H3=>if b=true then te σ2 H3 (fun v H4=>Pv (i+1) (ys++[v]) σ2 H4) else Pv (i+1) ys σ2 H3)
  (hd:∀ys σ H,Pv ks.length ys σ H->∀p,H p=none->Q (.ref p) (upd H p (.lst ys))):zaw (Itd d o u ks) g tt te Q σ H:=by
 refine⟨fun i m ys σ H=>m=ks.length - i/\i<=ks.length/\Pv i ys σ H,⟨ks.length,by simp,Nat.zero_le _,h0⟩,?_⟩
 rintro i m ys σ H ⟨rfl,hi,p⟩
 have q:=hl i ys σ H hi p
 have hyl:=hy i ys σ H p
 by_cases hlt:i < ks.length
 ·refine .inr ⟨⟨q,hlt⟩,by omega,Pv (i+1),fun ys' σ' H' p'=>⟨ks.length - (i+1),by omega,rfl,hlt,p'⟩,fun x H' y=>?_⟩
  obtain⟨e,y⟩:=y
  subst e
  exact hs i ys x σ _ y p
 ·have e:i=ks.length:=by omega
  subst e
  exact .inl ⟨⟨q,Nat.le_refl _⟩,by omega,hd ys σ H p⟩
end
end L2
set_option Elab.async false
set_option linter.all false
set_option maxRecDepth 100000
namespace L2
open PySem PySem.Spec PyProof.Rows PySem.W
theorem zs6:∀a b:List Int,a≠b->ltI a b=true\/ltI b a=true
 | [],[],h=>absurd rfl h
 | [],_::_,_=>.inl rfl
 | _::_,[],_=>.inr rfl
 | x::a,y::b,h=>by
  unfold ltI
  by_cases e:x=y
  ·subst e
   simp only[if_pos]
   exact zs6 a b fun z=>h (by rw [z])
  ·rw [if_neg e,if_neg (Ne.symm e)]
   simp only[decide_eq_true_eq]
   omega
theorem zlc:∀{a b c:List Int},ltI a b=true->ltI b c=true->ltI a c=true
 | [],_::_,_::_,_,_=>rfl
 | [],[],_,h,_=>by simp[ltI] at h
 | _,_::_,[],_,h=>by simp[ltI] at h
 | _::_,[],_,h,_=>by simp[ltI] at h
 | x::a,y::b,z::c,h1,h2=>by
  unfold ltI at h1 h2 |-
  by_cases e1:x=y
  ·subst e1
   rw [if_pos rfl] at h1
   by_cases e2:x=z
   ·subst e2
    rw [if_pos rfl] at h2 |-
    exact zlc h1 h2
   ·rw [if_neg e2] at h2 |-
    exact h2
  ·rw [if_neg e1] at h1
   have h1':=of_decide_eq_true h1
   by_cases e2:y=z
   ·subst e2
    rw [if_neg e1]
    exact h1
   ·rw [if_neg e2] at h2
    have h2':=of_decide_eq_true h2
    rw [if_neg (by omega)]
    exact decide_eq_true (by omega)
theorem zod{α : Type}(x:List Int×α):∀z:List (List Int×α),z.Pairwise (fun p q=>ltI p.1 q.1=true)->(∀y∈z,y.1≠x.1)->∃z':List (List Int×α),z'.Perm (x::z)/\z'.Pairwise (fun p q=>ltI p.1 q.1=true)
 | [],_,_=>⟨[x],.refl _,List.pairwise_singleton _ _⟩
 | y::z,h,n=>by
  obtain⟨h1,h2⟩:=List.pairwise_cons.mp h
  rcases zs6 x.1 y.1 (Ne.symm (n y (.head _))) with c | c
  ·exact⟨x::y::z,.refl _,List.pairwise_cons.mpr ⟨fun w hw=>by
    rcases List.mem_cons.mp hw with rfl | hw
    ·exact c
    ·exact zlc c (h1 w hw),h⟩⟩
  ·obtain⟨z',p,r⟩:=zod x z h2 fun w hw=>n w (.tail _ hw)
   refine⟨y::z',(p.cons y).trans (.swap ..),List.pairwise_cons.mpr ⟨fun w hw=>?_,r⟩⟩
   rcases List.mem_cons.mp (p.mem_iff.mp hw) with rfl | hw
   ·exact c
   ·exact h1 w hw
theorem zso{α : Type}:∀l:List (List Int×α),(l.map (·.1)).Nodup->∃z:List (List Int×α),z.Perm l/\z.Pairwise (fun p q=>ltI p.1 q.1=true)
 | [],_=>⟨[],.refl _,.nil⟩
 | x::l,h=>by
  obtain⟨h1,h2⟩:=List.nodup_cons.mp h
  obtain⟨z,p,r⟩:=zso l h2
  obtain⟨z',p',r'⟩:=zod x z r fun y hy e=>h1 (List.mem_map.mpr ⟨y,p.mem_iff.mp hy,e⟩)
  exact⟨z',p'.trans (p.cons x),r'⟩
section
variable{prog:Program}{w:World}{A:Around}{E:Value->Shared->Prop}{s:Shared}{d:Addr}{es:Array DictEntry}{ep:Nat}{o:Obj}
theorem zm0{Q:List Value->Shared->Prop}(hh:A.handled=none)(lo:(d == sysModules)=false)(e:s.heap.get? d=some o)(x:o.ExactDict)(dd:o.data=.dict es ep)(hn:es.size<=sizeLine)
  (q:∀(h':Heap) (tk:Nat),s.heap.objs.size<=h'.objs.size->(∀b u,s.heap.get? b=some u->h'.get? b=some u)->Q (es.toList.map (·.key)) {s with heap:=h',toks:=tk}):wpAny (model prog w) A (collect (.ref d)) Q E s:=by
 have ld:=Heap.lt_size e
 unfold collect
 refine wpAny_bind (wpAny_runValue (codeAny_builtin PySem.F.entry_proto_collect ?_))
 rw [Around.under_plainId PySem.F.plain_proto_collect]
 refine wpAny_bind (wpAny_newList (wpAny_pure ⟨plainId_quiet PySem.F.plain_list_iadd _,codeAny_builtin PySem.F.entry_list_iadd ?_⟩))
 rw [Around.under_plainId PySem.F.plain_list_iadd]
 have e0:(s.heap.push (seqObj "list" #[] 0)).get? s.heap.objs.size=some (seqObj "list" #[] 0):=Heap.get?_push_size _ rfl
 show wpAny _ _ (Builtin.List.listExtendWith (.ref s.heap.objs.size) (.ref d) (.ref s.heap.objs.size)) _ _ {s with heap:=s.heap.push (seqObj "list" #[] 0)}
 have fin:∀(v:Result) (s':Shared),(∃(h':Heap) (tk:Nat) (acc:Array Value) (c:Nat),v=.ok (.ret (.ref s.heap.objs.size))/\s' = {s with heap:=h',toks:=tk}/\h'.get? s.heap.objs.size=some {cls:=.type "list",dict:=none,data:=.seq acc c,slots:=#[]}/\Q acc.toList {s with heap:=h',toks:=tk})->
   (match v with | .ok (.ret v)=>wpAny (model prog w) A (match v with | .ref a=>(do match (<- load a).data with | .seq xs _=>pure xs.toList | _=>unsupported "internal:collect") | _=>unsupported "internal:collect") Q E s' | .ok _=>False | .error e=>E e s'):=by
  rintro v s' ⟨h',tk,acc,c,rfl,rfl,hS,hq⟩
  exact wpAny_bind (wpAny_load hS (wpAny_pure hq))
 refine wpAny_mono (kdl_extend (A:=A) (s:={s with heap:=s.heap.push (seqObj "list" #[] 0)})
  (R:=fun v s'=>∃(h':Heap) (tk:Nat) (acc:Array Value) (c:Nat),v=.ok (.ret (.ref s.heap.objs.size))/\s' = {s with heap:=h',toks:=tk}/\h'.get? s.heap.objs.size=some {cls:=.type "list",dict:=none,data:=.seq acc c,slots:=#[]}/\Q acc.toList {s with heap:=h',toks:=tk})
  (ztw (ep:=ep) (es:=es) lo) hh ⟨o,Heap.get?_push_of_some _ e,x,dd⟩ s.heap.objs.size (Nat.ne_of_gt ld) (Nat.ne_of_gt ld) (.ref s.heap.objs.size) 0 e0 (fun h' tk acc c hk hS hacc=>⟨h',tk,acc,c,rfl,rfl,hS,?_⟩) hn) (fun f s' z=>?_) (fun e s' z=>fin _ _ z)
 ·have ea:acc.toList=es.toList.map (·.key):=by
   refine List.ext_getElem (by simp[hacc.1]) fun i h1 h2=>?_
   have hi:i < acc.size:=by simpa using h1
   obtain⟨en,h3,h4⟩:=hacc.2 i acc[i] (by simp[hi])
   have hi2:i < es.size:=by simpa using h2
   rw [Array.getElem?_eq_getElem hi2] at h3
   cases h3
   simp[h4]
  rw [ea]
  exact q h' tk (Nat.le_of_lt (Heap.lt_size hS)) (fun b u z=>hk b u (Nat.ne_of_lt (Heap.lt_size z)) (Heap.get?_push_of_some _ z))
 ·cases f with
  | done f=>exact fin _ _ z
  | again c=>exact⟨z.1,codeAny_mono z.2 fun r s2 y=>fin r s2 y⟩
theorem zmi{as:List Addr}{ps:Nat->List Int}{Q:Value->Shared->Prop}(hh:A.handled=none)(lo:(d == sysModules)=false)(e:s.heap.get? d=some o)(x:o.ExactDict)(dd:o.data=.dict es ep)(hp:(es.toList.map (·.key)).Perm (as.map Value.ref))(hk:∀j,j < as.length->IsTupleKey (intKind prog w) s.heap (ps j) (as.getD j 0))
  (hne:∀j,j < as.length->ps j≠[]) (hlt:∀i j,i < as.length->j < as.length->ltI (ps i) (ps j)=decide (i < j)) (hb:as.length<=60)
  (q:∀(h':Heap) (tk:Nat) (l:Addr) (n:Nat),s.heap.objs.size<=l->(∀b u,s.heap.get? b=some u->h'.get? b=some u)->h'.get? l=some (seqObj "list" (as.map Value.ref).toArray n)->
   Q (.ref l) {s with heap:=h',toks:=tk}):wpAny (model prog w) A (call (.builtin "sorted") [.ref d]) Q E s:=by
 have hes:es.size=as.length:=by simpa using hp.length_eq
 refine Calls.call_function_entry kind_sorted plain_sorted entry_sorted (args_sorted1 _) ?_
 unfold Builtin.«sorted»
 refine wpAny_bind (m:=checkCount "sorted" 1 1 _) (wpAny_pure (wpAny_bind (zm0 (by simpa using hh) lo e x dd (zjh (by omega)) fun h1 tk1 z1 k1=>?_)))
 have pv1:=hp
 generalize es.toList.map (·.key)=vs at pv1 hp |-
 have er:as.map Value.ref=(List.range as.length).map fun i=>Value.ref (as.getD i 0):=by
  refine List.ext_getElem (by simp) fun i h1 h2=>?_
  simp at h1
  simp[h1]
 obtain⟨rs,pr,ev⟩:=zuc pv1 _ er
 have hrl:rs.length=as.length:=by simpa using pr.length_eq
 have hvl:vs.length=as.length:=by rw [ev,List.length_map,hrl]
 have hrlt:∀i,i < as.length->rs.getD i 0 < as.length:=fun i hi=>by
  rw [List.getD_eq_getElem?_getD,List.getElem?_eq_getElem (by omega)]
  exact List.mem_range.mp (pr.mem_iff.mp (List.getElem_mem _))
 have hat:∀i,i < as.length->vs.getD i .none=.ref (as.getD (rs.getD i 0) 0):=fun i hi=>by
  have h1:i < rs.length:=by omega
  simp[ev,h1]
 have hinj:∀i j,i < vs.length->j < vs.length->rs.getD i 0=rs.getD j 0->i=j:=fun i j hi hj z=>by
  have nd:rs.Nodup:=pr.nodup_iff.mpr List.nodup_range
  have h1:i < rs.length:=by omega
  have h2:j < rs.length:=by omega
  rw [List.getD_eq_getElem?_getD,List.getD_eq_getElem?_getD,List.getElem?_eq_getElem h1,List.getElem?_eq_getElem h2] at z
  exact(List.getElem_inj nd).mp z
 refine wpAny_bind (wpAny_newList ?_ (zjh (by omega)))
 have eL:(h1.push (seqObj "list" vs.toArray 0)).get? h1.objs.size=some (seqObj "list" vs.toArray 0):=Heap.get?_push_size _ rfl
 have keep:∀b u,s.heap.get? b=some u->(h1.push (seqObj "list" vs.toArray 0)).get? b=some u/\b≠h1.objs.size:=fun b u hu=>by
  have lb:=Heap.lt_size (k1 b u hu)
  exact⟨Heap.get?_push_of_some _ (k1 b u hu),Nat.ne_of_lt lb⟩
 refine wpAny_bind (wpAny_holding (wpAny_call_entry slot_list_sort ⟨_,eL,rfl⟩ entry_list_sort (zh6 (r:=fun i=>rs.getD i 0) eL (by omega) hinj (fun h2 h' kp=>?_) fun p P1 P2=>⟨_,rfl,?_⟩) (args_list_sort _)))
 ·have hk':∀j,j < as.length->IsTupleKey (intKind prog w) h' (ps j) (as.getD j 0):=fun j hj=>by
   obtain⟨o,its,n,e,r⟩:=hk j hj
   exact⟨o,its,n,kp _ _ (keep _ _ e).2 (keep _ _ e).1,r⟩
  obtain⟨fs,kt,fl,fi⟩:=zqk (prog:=prog) (w:=w) (h:=h') (vs:=vs) fun v hv=>by
   rw [ev] at hv
   obtain⟨j,hj,rfl⟩:=List.mem_map.mp hv
   have hj':=List.mem_range.mp (pr.mem_iff.mp hj)
   exact⟨_,_,rfl,hne j hj',hk' j hj'⟩
  refine⟨tuples' true,fun E Q hQ=>kat_kind (T:=.type "int") kt (by omega) (fun v hv=>?_) rfl hQ,fun i j hi hj E Q hQ=>?_⟩
  ·obtain⟨n,t,rfl⟩:=fi v hv
   exact Looks.of_pure rfl
  ·rw [hat i (by omega),hat j (by omega)]
   refine zxn (hk' _ (hrlt i (by omega))) (hk' _ (hrlt j (by omega))) ?_
   rw [hlt _ _ (hrlt i (by omega)) (hrlt j (by omega))]
   exact hQ
 ·refine wpAny_pure ⟨_,rfl,?_⟩
  have eo:(p.toList.map fun i=>vs.getD i Value.none)=as.map Value.ref:=by
   have e1:(p.toList.map fun i=>vs.getD i Value.none)=(p.toList.map fun i=>rs.getD i 0).map fun i=>Value.ref (as.getD i 0):=by
    rw [List.map_map]
    refine List.map_congr_left fun i hi=>?_
    have:=List.mem_range.mp (P1.pm.mem_iff.mp hi)
    exact hat i (by omega)
   have e2:(p.toList.map fun i=>rs.getD i 0)=List.range as.length:=by
    refine List.Perm.eq_of_pairwise (le:=(· < ·)) (fun x y _ _ a b=>by omega) ?_ List.pairwise_lt_range ?_
    ·rw [List.pairwise_iff_getElem]
     intro i j hi hj hij
     have hj':j < p.size:=by simpa using hj
     have z:=P2 i j hij (by rw [<- P1.sz]; exact hj')
     simpa [rk,Array.getD,hj',Nat.lt_trans hij hj'] using z
    ·have z:=P1.pm.map fun i=>rs.getD i 0
     refine z.trans ?_
     have:((List.range vs.length).map fun i=>rs.getD i 0)=rs:=by
      refine List.ext_getElem (by simp; omega) fun i h1 h2=>?_
      simp[h2]
     rw [this]
     exact pr
   rw [e1,e2,er]
  rw [eo]
  obtain⟨n,en⟩:=sortedHeap_at (out:=(as.map Value.ref).toArray) eL
  refine q _ tk1 h1.objs.size n z1 (fun b u hu=>?_) en
  have lb:=Heap.lt_size (k1 b u hu)
  rw [sortedHeap_old (Nat.ne_of_lt lb) (by rw [size_push']; exact Nat.lt_succ_of_lt lb)]
  exact Heap.get?_push_of_some _ (k1 b u hu)
end
theorem zn0(H:Hp):∀p:List Int,DtA H (p.map V.int) (p.map Dm.int)
 | []=>.nil
 | x::p=>.cons (.int x) (zn0 H p)
theorem q06{X:Cx}{pins:List (Addr×Obj)}{σ : St}{H:Hp}{s:Shared}(I:Inv X pins σ H s){a:Addr}{p:List Int}(h:H a=some (.tup (p.map V.int))):IsTupleKey (intKind X.prog X.w) s.heap p a:=by
 have:=(zls (ps:=[p]) (vs:=[.ref a]) I (.cons (.tup h (zn0 H p)) .nil)).2.2 0 (show 0 < 1 by decide)
 exact this
def zx3:List V->Hp->VK->Prop:=fun xs H Q=>∃(d:Addr) (kvs:List (List Key×V)) (ps:List (List Int)),xs=[.ref d]/\Rd H d (.dT kvs)/\kvs.map (·.1)=ps.map (·.map Sum.inl)/\(∀p∈ps,p≠[])/\ps.length<=60/\
 ∀(l:Addr) (vs:List V) (ps':List (List Int)),H l=none->ps'.Perm ps->ps'.Pairwise (fun p q=>ltI p q=true)->DtA H vs (ps'.map zpi)->Q (.ref l) (upd H l (.lst vs))
theorem zvk{H:Hp}:∀{kvs:List (List Key×V)} {ys:List (List Key×Addr×Value)} {ps:List (List Int)},Paired (fun(p:List Key×V) (q:List Key×Addr×Value)=>p.1=q.1/\H q.2.1=some (.tup (p.1.map kV))/\RelV p.2 q.2.2) kvs ys->kvs.map (·.1)=ps.map (·.map Sum.inl)->
  ps.length=ys.length/\ys.map (·.1)=ps.map (·.map Sum.inl)/\∀y∈ps.zip (ys.map (·.2.1)),H y.2=some (.tup (y.1.map V.int))
 | [],_,[],.nil,_=>⟨rfl,rfl,fun y h=>absurd h (by simp)⟩
 | [],_,_::_,.nil,h=>by simp at h
 | _::_,_::_,[],.cons _ _,h=>by simp at h
 | kv::kvs,y::ys,p::ps,.cons r t,h=>by
  rw [List.map_cons,List.map_cons] at h
  injection h with h1 h2
  obtain⟨l,e,m⟩:=zvk t h2
  refine⟨by rw [List.length_cons,List.length_cons,l],by rw [List.map_cons,List.map_cons,e,<- r.1,h1],fun x hx=>?_⟩
  rw [List.map_cons,List.zip_cons_cons] at hx
  rcases List.mem_cons.mp hx with rfl | hx
  ·have:=r.2.1
   rw [h1,List.map_map] at this
   exact this
  ·exact m x hx
theorem z8r{X:Cx}(hc:X.calm=true):CallR X (.builtin "sorted") zx3:=by
 intro pins s σ H xs us Q I r h
 obtain⟨d,kvs,ps,rfl,hr,hks,hne,hb,q⟩:=h
 obtain⟨u,rfl,r1⟩:=r.one
 cases r1
 obtain⟨hz,lo,ys,rx,o,es,ep,ho,hx,hd,hes,hn⟩:=(show ObjOk X.prog X.w H s.heap d (.dT kvs) from hr.ok I.hok)
 obtain⟨hl,hk1,hk2⟩:=zvk rx hks
 have hnd:ps.Nodup:=by
  rw [hk1] at hn
  exact(List.pairwise_map.mp hn).imp fun h e=>h (by rw [e])
 have e1:(ps.zip (ys.map (·.2.1))).map (·.1)=ps:=List.map_fst_zip (by rw [List.length_map]; omega)
 have e2:(ps.zip (ys.map (·.2.1))).map (·.2)=ys.map (·.2.1):=List.map_snd_zip (by rw [List.length_map]; omega)
 obtain⟨z,pz,rz⟩:=zso (ps.zip (ys.map (·.2.1))) (by rw [e1]; exact hnd)
 have zl:z.length=ps.length:=by rw [pz.length_eq,List.length_zip,List.length_map]; omega
 have R:RisP (z.map (·.1)):=⟨fun p hp=>hne p (by rw [<- e1]; exact(pz.map (·.1)).mem_iff.mp hp),List.pairwise_map.mpr rz,by rw [List.length_map]; omega⟩
 have pv:(es.toList.map (·.key)).Perm ((z.map (·.2)).map Value.ref):=by
  rw [hes,List.map_map,show((fun x:DictEntry=>x.key) ∘ entryOfKey (tupleKind (z1i X.prog X.w)))=(fun y:List Key×Addr×Value=>Value.ref y.2.1) from rfl]
  have:=((pz.map (·.2)).map Value.ref).symm
  rw [e2,List.map_map] at this
  exact this
 have at_:∀{j:Nat} (hj:j < z.length),H z[j].2=some (.tup (z[j].1.map V.int)):=fun hj=>hk2 _ (pz.mem_iff.mp (List.getElem_mem hj))
 refine zmi (as:=z.map (·.2)) (ps:=fun j=>(z.map (·.1)).getD j []) (I.ok.hd hc) lo ho hx hd pv (fun j hj=>?_) (fun j hj=>?_) (fun i j hi hj=>R.lt (by simpa using hi) (by simpa using hj)) (by rw [List.length_map]; omega) fun h' tk l n hl' k en=>?_
 ·have hj':j < z.length:=by simpa using hj
  have:=q06 I (at_ hj')
  simpa [hj'] using this
 ·have hj':j < z.length:=by simpa using hj
  refine R.1 _ ?_
  rw [List.getD_eq_getElem?_getD,List.getElem?_eq_getElem (by simpa using hj')]
  exact List.getElem_mem _
 ·refine⟨.ref l,_,I.laid (t':=tk) k hl' (show ObjOk X.prog X.w _ _ _ (.lst ((z.map (·.2)).map V.ref)) from⟨?_,(z.map (·.2)).map Value.ref,n,zil _,by simpa [seqObj] using en⟩),rfl,q l _ (z.map (·.1)) (I.hok.fresh hl') ?_ R.2.1 ?_⟩
  ·rw [List.length_map,List.length_map]
   exact zjh (by omega)
  ·have:=pz.map (·.1)
   rw [e1] at this
   exact this
  ·rw [List.map_map,List.map_map]
   exact zog fun y hy=>.tup (hk2 y (pz.mem_iff.mp hy)) (zn0 H y.1)
end L2
set_option Elab.async false
set_option linter.all false
set_option maxRecDepth 100000
namespace L2
open PySem PySem.Spec PyProof.Rows PySem.W
def FlK(K:PySem.W.Frag)(H:Hp)(x:V)(d:Dm):Prop:=Dt H x d\/∃(p:Addr) (is:List Int),x=.ref p/\d=.tup (is.map Dm.int)/\SqT K H p (is.map V.int)
theorem FlK.of{K:PySem.W.Frag}{H:Hp}{x:V}{d:Dm}(h:Dt H x d):FlK K H x d:=.inl h
section
variable{X:Cx}{pins:List (Addr×Obj)}{σ : St}{H:Hp}{s:Shared}
theorem ziv{h:Heap}:∀{is:List Int} {us:List Value},Vals (is.map V.int) us->∃as,ReadsAll h us (zfx (is.map Dm.int)) as
 | [],_,.nil=>⟨[],by rw [List.map_nil,zfx]; exact .nil⟩
 | i::is,_,.cons r t=>by
  obtain⟨u,rfl⟩:=r
  obtain⟨as,q⟩:=ziv t
  exact⟨[]++as,by rw [List.map_cons,zfx,Dm.dat]; exact .cons (.int i u) q⟩
theorem FlK.reads(I:Inv X pins σ H s){x:V}{d:Dm}{u:Value}(h:FlK X.K H x d)(hs:d.shut=true)(r:RelV x u):∃as,Reads s.heap u d.dat as:=by
 rcases h with h | ⟨p,is,rfl,rfl,h⟩
 ·exact Dt.reads I h hs r
 ·cases r
  obtain⟨its,rv,⟨o,ho,hc,n,hd⟩,_⟩:=I.tuple h
  obtain⟨as,q⟩:=ziv (h:=s.heap) rv
  exact⟨as,by rw [Dm.dat]; exact .tuple ho hc hd (by simpa using q)⟩
def EqK(K:PySem.W.Frag)(H:Hp)(x y:V)(b:Bool):Prop:=∃d e,FlK K H x d/\FlK K H y e/\(d.shut=true/\SeqAt.shaped d.dat=true)/\(e.shut=true/\SeqAt.shaped e.dat=true)/\b=PyData.eqv d.dat e.dat
def q1b(K:PySem.W.Frag):R2:=fun x y H Q=>∃b,EqK K H x y b/\Q (.bl b) H
theorem kEq(hu:X.A.units+64 < cLine):OpR X (compareOp .Eq) (q1b X.K):=by
 intro pins s σ H x y v u Q I rx ry h
 obtain⟨b,⟨d,e,dx,dy,⟨s1,s2⟩,⟨s3,s4⟩,rfl⟩,q⟩:=h
 obtain⟨as,ra⟩:=dx.reads I s1 rx
 obtain⟨bs,rb⟩:=dy.reads I s3 ry
 exact eq_dataH ra rb s2 s4 hu ⟨.bl _,H,I,rfl,q⟩
end
end L2
set_option maxHeartbeats 0
namespace SR
open PySem L2
abbrev CDF(x:Str):Prop:=(x == ("__classdict__" : Str))=false
abbrev DBF(x:Str):Prop:=(x == ("__debug__" : Str))=false
abbrev GLF(s:Stmt)(x:Str):Prop:=(defScope s).names.lookup x=some NameKind.globalImplicit
def top(i:Nat):Stmt:=PySem.Challenge.pw_smallrooms_k36_whole_branches.main.body.getD i (.Pass ⟨0,0,0,0⟩)
theorem zti:bootBuiltins "all" = some (.builtin "all"):=by decide+kernel
theorem zhx:bootBuiltins "dict" = some (.type "dict"):=by decide+kernel
theorem zkc:bootBuiltins "isinstance" = some (.builtin "isinstance"):=by decide+kernel
theorem zwf:bootBuiltins "len" = some (.builtin "len"):=by decide+kernel
theorem zbc:bootBuiltins "max" = some (.builtin "max"):=by decide+kernel
theorem zbb:bootBuiltins "min" = some (.builtin "min"):=by decide+kernel
theorem zdj:bootBuiltins "sorted" = some (.builtin "sorted"):=by decide+kernel
theorem zvg:bootBuiltins "tuple" = some (.type "tuple"):=by decide+kernel
theorem zdf:CDF "_law_a":=by decide+kernel
theorem z48:CDF "_law_ask":=by decide+kernel
theorem zey:CDF "_law_at":=by decide+kernel
theorem zde:CDF "_law_b":=by decide+kernel
theorem zdd:CDF "_law_block":=by decide+kernel
theorem za8:CDF "_law_both":=by decide+kernel
theorem z8q:CDF "_law_drawn":=by decide+kernel
theorem z2u:CDF "_law_ends":=by decide+kernel
theorem zba:CDF "_law_firsts":=by decide+kernel
theorem z52:CDF "_law_fits":=by decide+kernel
theorem znk:CDF "_law_ins":=by decide+kernel
theorem z2a:CDF "_law_k":=by decide+kernel
theorem zm3:CDF "_law_last":=by decide+kernel
theorem zhw:CDF "_law_low":=by decide+kernel
theorem zm2:CDF "_law_many":=by decide+kernel
theorem z4d:CDF "_law_notes":=by decide+kernel
theorem z4v:CDF "_law_one":=by decide+kernel
theorem z3m:CDF "_law_other":=by decide+kernel
theorem z78:CDF "_law_pair":=by decide+kernel
theorem zhv:CDF "_law_row":=by decide+kernel
theorem z10:CDF "_law_script":=by decide+kernel
theorem za7:CDF "_law_seconds":=by decide+kernel
theorem z5x:CDF "_law_side_here":=by decide+kernel
theorem zq7:CDF "_law_so":=by decide+kernel
theorem z47:CDF "_law_word":=by decide+kernel
theorem zvf:CDF "above":=by decide+kernel
theorem q1r:CDF "at":=by decide+kernel
theorem zve:CDF "below":=by decide+kernel
theorem zdc:CDF "beside":=by decide+kernel
theorem zvd:CDF "block":=by decide+kernel
theorem z1u:CDF "book":=by decide+kernel
theorem ztg:CDF "both":=by decide+kernel
theorem zm1:CDF "can_be":=by decide+kernel
theorem z5w:CDF "deed":=by decide+kernel
theorem zwe:CDF "end":=by decide+kernel
theorem znj:CDF "ends":=by decide+kernel
theorem zjd:CDF "has":=by decide+kernel
theorem z77:CDF "heads":=by decide+kernel
theorem zni:CDF "high":=by decide+kernel
theorem ztf:CDF "is_row":=by decide+kernel
theorem z4r:CDF "is_so":=by decide+kernel
theorem zq6:CDF "is_sure":=by decide+kernel
theorem zbv:CDF "left":=by decide+kernel
theorem zte:CDF "low":=by decide+kernel
theorem zb9:CDF "low_or_high":=by decide+kernel
theorem zex:CDF "name":=by decide+kernel
theorem zoq:CDF "notes":=by decide+kernel
theorem z1g:CDF "one":=by decide+kernel
theorem z0k:CDF "other":=by decide+kernel
theorem z3x:CDF "own":=by decide+kernel
theorem zka:CDF "paper":=by decide+kernel
theorem z3l:CDF "path":=by decide+kernel
theorem z85:CDF "program":=by decide+kernel
theorem q0p:CDF "row":=by decide+kernel
theorem znh:CDF "self":=by decide+kernel
theorem zop:CDF "shelf":=by decide+kernel
theorem z84:CDF "stretch":=by decide+kernel
theorem z1f:CDF "term":=by decide+kernel
theorem zah:CDF "thing":=by decide+kernel
theorem z3c:CDF "walk":=by decide+kernel
theorem zk9:CDF "wants":=by decide+kernel
theorem z4i:CDF "word":=by decide+kernel
theorem zoo:CDF "worth":=by decide+kernel
theorem zt3:DBF "WIDE":=by decide+kernel
theorem zy3:DBF "Walk":=by decide+kernel
theorem zt2:DBF "ZERO":=by decide+kernel
theorem zda:DBF "_law_a":=by decide+kernel
theorem z46:DBF "_law_ask":=by decide+kernel
theorem zev:DBF "_law_at":=by decide+kernel
theorem zd9:DBF "_law_b":=by decide+kernel
theorem zd8:DBF "_law_block":=by decide+kernel
theorem za6:DBF "_law_both":=by decide+kernel
theorem zlx:DBF "_law_cell":=by decide+kernel
theorem z8n:DBF "_law_drawn":=by decide+kernel
theorem z2t:DBF "_law_ends":=by decide+kernel
theorem zb8:DBF "_law_firsts":=by decide+kernel
theorem z50:DBF "_law_fits":=by decide+kernel
theorem znd:DBF "_law_ins":=by decide+kernel
theorem z29:DBF "_law_k":=by decide+kernel
theorem zlw:DBF "_law_last":=by decide+kernel
theorem zhq:DBF "_law_low":=by decide+kernel
theorem zlv:DBF "_law_many":=by decide+kernel
theorem z4c:DBF "_law_notes":=by decide+kernel
theorem zjc:DBF "_law_of":=by decide+kernel
theorem z4u:DBF "_law_one":=by decide+kernel
theorem z3k:DBF "_law_other":=by decide+kernel
theorem z76:DBF "_law_pair":=by decide+kernel
theorem z4z:DBF "_law_pick":=by decide+kernel
theorem zfw:DBF "_law_reckoned":=by decide+kernel
theorem zhp:DBF "_law_row":=by decide+kernel
theorem z0z:DBF "_law_script":=by decide+kernel
theorem za5:DBF "_law_seconds":=by decide+kernel
theorem zf7:DBF "_law_side":=by decide+kernel
theorem z5v:DBF "_law_side_here":=by decide+kernel
theorem zq4:DBF "_law_so":=by decide+kernel
theorem z45:DBF "_law_word":=by decide+kernel
theorem zvb:DBF "above":=by decide+kernel
theorem zt1:DBF "all":=by decide+kernel
theorem zd7:DBF "are_rising_rows":=by decide+kernel
theorem q1o:DBF "at":=by decide+kernel
theorem zt0:DBF "behind":=by decide+kernel
theorem zd6:DBF "behind_question":=by decide+kernel
theorem zva:DBF "below":=by decide+kernel
theorem zd5:DBF "beside":=by decide+kernel
theorem z4b:DBF "between":=by decide+kernel
theorem zv9:DBF "block":=by decide+kernel
theorem z1t:DBF "book":=by decide+kernel
theorem zjb:DBF "book_of":=by decide+kernel
theorem zsz:DBF "both":=by decide+kernel
theorem zlu:DBF "can_be":=by decide+kernel
theorem z5u:DBF "deed":=by decide+kernel
theorem zho:DBF "dict":=by decide+kernel
theorem zwd:DBF "end":=by decide+kernel
theorem znc:DBF "ends":=by decide+kernel
theorem zbr:DBF "go_block":=by decide+kernel
theorem zq3:DBF "go_deed":=by decide+kernel
theorem zv8:DBF "go_if":=by decide+kernel
theorem zsy:DBF "go_set":=by decide+kernel
theorem znb:DBF "go_while":=by decide+kernel
theorem zja:DBF "has":=by decide+kernel
theorem z75:DBF "heads":=by decide+kernel
theorem zna:DBF "heads_of":=by decide+kernel
theorem zn9:DBF "high":=by decide+kernel
theorem zeu:DBF "is_book_within":=by decide+kernel
theorem zq2:DBF "is_held":=by decide+kernel
theorem zhn:DBF "is_paper_row":=by decide+kernel
theorem zsx:DBF "is_row":=by decide+kernel
theorem z4q:DBF "is_so":=by decide+kernel
theorem zq1:DBF "is_sure":=by decide+kernel
theorem zf6:DBF "is_within":=by decide+kernel
theorem zk7:DBF "isinstance":=by decide+kernel
theorem zlt:DBF "joined":=by decide+kernel
theorem zhm:DBF "joined_books":=by decide+kernel
theorem zbq:DBF "left":=by decide+kernel
theorem za4:DBF "left_by_same":=by decide+kernel
theorem zhl:DBF "left_of_name":=by decide+kernel
theorem zik:DBF "left_of_one":=by decide+kernel
theorem zfv:DBF "left_of_other":=by decide+kernel
theorem zwc:DBF "len":=by decide+kernel
theorem zsw:DBF "low":=by decide+kernel
theorem zb7:DBF "low_or_high":=by decide+kernel
theorem zb6:DBF "max":=by decide+kernel
theorem zj9:DBF "met":=by decide+kernel
theorem zb5:DBF "min":=by decide+kernel
theorem zet:DBF "name":=by decide+kernel
theorem zk6:DBF "noted":=by decide+kernel
theorem zoj:DBF "notes":=by decide+kernel
theorem zn8:DBF "notes_by":=by decide+kernel
theorem z1e:DBF "one":=by decide+kernel
theorem z0j:DBF "other":=by decide+kernel
theorem z3w:DBF "own":=by decide+kernel
theorem zk5:DBF "paper":=by decide+kernel
theorem z3j:DBF "path":=by decide+kernel
theorem z82:DBF "program":=by decide+kernel
theorem z4p:DBF "reckoned_from":=by decide+kernel
theorem q0l:DBF "row":=by decide+kernel
theorem zn7:DBF "self":=by decide+kernel
theorem zoi:DBF "shelf":=by decide+kernel
theorem zk4:DBF "show":=by decide+kernel
theorem zv7:DBF "shown":=by decide+kernel
theorem zj8:DBF "side_of":=by decide+kernel
theorem zd4:DBF "sorted":=by decide+kernel
theorem z81:DBF "stretch":=by decide+kernel
theorem zd3:DBF "stretch_of":=by decide+kernel
theorem z5g:DBF "stretch_of_ends":=by decide+kernel
theorem zd2:DBF "stretch_of_same":=by decide+kernel
theorem z1d:DBF "term":=by decide+kernel
theorem zaf:DBF "thing":=by decide+kernel
theorem zv6:DBF "tuple":=by decide+kernel
theorem z3a:DBF "walk":=by decide+kernel
theorem zfu:DBF "walk_by_paper":=by decide+kernel
theorem zsv:DBF "walked":=by decide+kernel
theorem zk3:DBF "wants":=by decide+kernel
theorem za3:DBF "with_left":=by decide+kernel
theorem zj7:DBF "without":=by decide+kernel
theorem z4h:DBF "word":=by decide+kernel
theorem zoh:DBF "worth":=by decide+kernel
theorem zhk:DBF "worth_of":=by decide+kernel
theorem zs3:("all" : Str)≠"__name__":=by decide+kernel
theorem zgw:("dict" : Str)≠"__name__":=by decide+kernel
theorem zjs:("isinstance" : Str)≠"__name__":=by decide+kernel
theorem zvy:("len" : Str)≠"__name__":=by decide+kernel
theorem zb1:("max" : Str)≠"__name__":=by decide+kernel
theorem zb0:("min" : Str)≠"__name__":=by decide+kernel
theorem zcj:("sorted" : Str)≠"__name__":=by decide+kernel
theorem zun:("tuple" : Str)≠"__name__":=by decide+kernel
abbrev zyr:Stmt:=top 5
abbrev zrb:Stmt:=top 6
abbrev zu2:Stmt:=top 7
abbrev z0r:Stmt:=top 9
theorem zcb:FnScope ["thing","is_row"] ["thing","is_row"] (defScope z0r):=⟨rfl,rfl,rfl,by decide+kernel,rfl,by decide+kernel,by decide+kernel⟩
theorem z5n:GLF z0r "all":=by decide+kernel
theorem z6h:GLF z0r "isinstance":=by decide+kernel
theorem z7z:GLF z0r "tuple":=by decide+kernel
theorem z9f:GLF z0r "zip":=by decide+kernel
theorem z1z:Vis (defScope z0r) "thing":=Or.inl (by decide+kernel)
abbrev z2n:Stmt:=top 11
theorem zmk:FnScope ["word","one","other"] ["word","one","other"] (defScope z2n):=⟨rfl,rfl,rfl,by decide+kernel,rfl,by decide+kernel,by decide+kernel⟩
theorem zhh:GLF z2n "max":=by decide+kernel
theorem zhg:GLF z2n "min":=by decide+kernel
theorem z1r:Vis (defScope z2n) "one":=Or.inl (by decide+kernel)
theorem z18:Vis (defScope z2n) "other":=Or.inl (by decide+kernel)
theorem z1w:Vis (defScope z2n) "word":=Or.inl (by decide+kernel)
abbrev z5d:Stmt:=top 13
theorem zr9:FnScope ["one","other"] ["one","other"] (defScope z5d):=⟨rfl,rfl,rfl,by decide+kernel,rfl,by decide+kernel,by decide+kernel⟩
theorem zk0:GLF z5d "max":=by decide+kernel
theorem zjz:GLF z5d "min":=by decide+kernel
theorem z5y:Vis (defScope z5d) "one":=Or.inl (by decide+kernel)
theorem z4o:Vis (defScope z5d) "other":=Or.inl (by decide+kernel)
abbrev zfj:Stmt:=top 14
theorem zze:FnScope ["one","other"] ["one","other"] (defScope zfj):=⟨rfl,rfl,rfl,by decide+kernel,rfl,by decide+kernel,by decide+kernel⟩
theorem zif:GLF zfj "between":=by decide+kernel
theorem zpx:GLF zfj "max":=by decide+kernel
theorem zpw:GLF zfj "min":=by decide+kernel
theorem zbd:Vis (defScope zfj) "one":=Or.inl (by decide+kernel)
theorem z89:Vis (defScope zfj) "other":=Or.inl (by decide+kernel)
abbrev z2y:Stmt:=top 15
theorem zks:FnScope ["one","other"] ["one","other"] (defScope z2y):=⟨rfl,rfl,rfl,by decide+kernel,rfl,by decide+kernel,by decide+kernel⟩
theorem zfr:GLF z2y "met":=by decide+kernel
theorem z7q:Vis (defScope z2y) "one":=Or.inl (by decide+kernel)
theorem zbe:Vis (defScope z2y) "other":=Or.inl (by decide+kernel)
abbrev z5e:Stmt:=top 16
theorem zp9:FnScope ["low","high"] ["low","high"] (defScope z5e):=⟨rfl,rfl,rfl,by decide+kernel,rfl,by decide+kernel,by decide+kernel⟩
theorem z8w:Vis (defScope z5e) "high":=Or.inl (by decide+kernel)
theorem z9k:Vis (defScope z5e) "low":=Or.inl (by decide+kernel)
abbrev z0o:Stmt:=top 17
theorem sc_stretch_of:FnScope ["word","one","other","below","above"] ["word","one","other"] (defScope z0o):=⟨rfl,rfl,rfl,by decide+kernel,rfl,by decide+kernel,by decide+kernel⟩
theorem z65:GLF z0o "between":=by decide+kernel
theorem zaq:GLF z0o "joined":=by decide+kernel
theorem zem:GLF z0o "max":=by decide+kernel
theorem zel:GLF z0o "min":=by decide+kernel
theorem z25:GLF z0o "stretch_of_ends":=by decide+kernel
theorem z6e:GLF z0o "stretch_of_same":=by decide+kernel
theorem zao:Loc (defScope z0o) "above":=Or.inl (by decide+kernel)
theorem zan:Loc (defScope z0o) "below":=Or.inl (by decide+kernel)
theorem zaj:Vis (defScope z0o) "above":=Or.inl (by decide+kernel)
theorem zai:Vis (defScope z0o) "below":=Or.inl (by decide+kernel)
theorem z3s:Vis (defScope z0o) "one":=Or.inl (by decide+kernel)
theorem z17:Vis (defScope z0o) "other":=Or.inl (by decide+kernel)
theorem z2h:Vis (defScope z0o) "word":=Or.inl (by decide+kernel)
abbrev z0i:Stmt:=top 18
theorem sc_stretch_of_same:FnScope ["one","other","is_sure","can_be"] ["one","other"] (defScope z0i):=⟨rfl,rfl,rfl,by decide+kernel,rfl,by decide+kernel,by decide+kernel⟩
theorem z99:GLF z0i "met":=by decide+kernel
theorem z6x:Loc (defScope z0i) "can_be":=Or.inl (by decide+kernel)
theorem z6s:Loc (defScope z0i) "is_sure":=Or.inl (by decide+kernel)
theorem z6w:Vis (defScope z0i) "can_be":=Or.inl (by decide+kernel)
theorem z6n:Vis (defScope z0i) "is_sure":=Or.inl (by decide+kernel)
theorem z1o:Vis (defScope z0i) "one":=Or.inl (by decide+kernel)
theorem z2w:Vis (defScope z0i) "other":=Or.inl (by decide+kernel)
abbrev z0l:Stmt:=top 19
theorem sc_stretch_of_ends:FnScope ["word","one","other","ends"] ["word","one","other"] (defScope z0l):=⟨rfl,rfl,rfl,by decide+kernel,rfl,by decide+kernel,by decide+kernel⟩
theorem z9b:GLF z0l "max":=by decide+kernel
theorem z9a:GLF z0l "min":=by decide+kernel
theorem z7v:Loc (defScope z0l) "ends":=Or.inl (by decide+kernel)
theorem z33:Vis (defScope z0l) "ends":=Or.inl (by decide+kernel)
theorem z3e:Vis (defScope z0l) "one":=Or.inl (by decide+kernel)
theorem z7b:Vis (defScope z0l) "other":=Or.inr <| Or.inl (by decide+kernel)
abbrev z0v:Stmt:=top 21
theorem zfh:FnScope ["term","book"] ["term","book"] (defScope z0v):=⟨rfl,rfl,rfl,by decide+kernel,rfl,by decide+kernel,by decide+kernel⟩
theorem z9y:GLF z0v "WIDE":=by decide+kernel
theorem zar:GLF z0v "met":=by decide+kernel
theorem z3d:GLF z0v "reckoned_from":=by decide+kernel
theorem z6t:GLF z0v "stretch_of":=by decide+kernel
theorem z3r:Vis (defScope z0v) "book":=Or.inl (by decide+kernel)
theorem z0u:Vis (defScope z0v) "term":=Or.inl (by decide+kernel)
abbrev z3u:Stmt:=top 22
theorem zra:FnScope ["term","book","is_so"] ["term","book","is_so"] (defScope z3u):=⟨rfl,rfl,rfl,by decide+kernel,rfl,by decide+kernel,by decide+kernel⟩
theorem z7l:GLF z3u "behind_question":=by decide+kernel
theorem zij:GLF z3u "dict":=by decide+kernel
theorem z9e:GLF z3u "left_of_name":=by decide+kernel
theorem zbn:GLF z3u "with_left":=by decide+kernel
theorem z5b:Vis (defScope z3u) "book":=Or.inl (by decide+kernel)
theorem z8x:Vis (defScope z3u) "is_so":=Or.inl (by decide+kernel)
theorem z35:Vis (defScope z3u) "term":=Or.inl (by decide+kernel)
abbrev z09:Stmt:=top 23
theorem sc_behind_question:FnScope ["term","book","is_so","one","other","left","own"] ["term","book","is_so"] (defScope z09):=⟨rfl,rfl,rfl,by decide+kernel,rfl,by decide+kernel,by decide+kernel⟩
theorem z8m:GLF z09 "dict":=by decide+kernel
theorem z66:GLF z09 "left_of_one":=by decide+kernel
theorem z5i:GLF z09 "left_of_other":=by decide+kernel
theorem z31:GLF z09 "reckoned_from":=by decide+kernel
theorem z3v:GLF z09 "with_left":=by decide+kernel
theorem z37:Loc (defScope z09) "left":=Or.inl (by decide+kernel)
theorem z8g:Loc (defScope z09) "one":=Or.inl (by decide+kernel)
theorem z7i:Loc (defScope z09) "other":=Or.inl (by decide+kernel)
theorem z8f:Loc (defScope z09) "own":=Or.inl (by decide+kernel)
theorem z36:Vis (defScope z09) "book":=Or.inl (by decide+kernel)
theorem z4l:Vis (defScope z09) "is_so":=Or.inl (by decide+kernel)
theorem z1l:Vis (defScope z09) "left":=Or.inl (by decide+kernel)
theorem z3h:Vis (defScope z09) "one":=Or.inl (by decide+kernel)
theorem z4k:Vis (defScope z09) "other":=Or.inl (by decide+kernel)
theorem z8a:Vis (defScope z09) "own":=Or.inl (by decide+kernel)
theorem z0h:Vis (defScope z09) "term":=Or.inl (by decide+kernel)
abbrev z1x:Stmt:=top 24
theorem sc_with_left:FnScope ["book","name","stretch","left"] ["book","name","stretch"] (defScope z1x):=⟨rfl,rfl,rfl,by decide+kernel,rfl,by decide+kernel,by decide+kernel⟩
theorem zej:GLF z1x "dict":=by decide+kernel
theorem zcn:Loc (defScope z1x) "left":=Or.inl (by decide+kernel)
theorem zbz:Vis (defScope z1x) "book":=Or.inl (by decide+kernel)
theorem z6y:Vis (defScope z1x) "left":=Or.inl (by decide+kernel)
theorem zby:Vis (defScope z1x) "name":=Or.inl (by decide+kernel)
theorem z61:Vis (defScope z1x) "stretch":=Or.inl (by decide+kernel)
abbrev z1a:Stmt:=top 25
theorem zgg:FnScope ["own","is_so"] ["own","is_so"] (defScope z1a):=⟨rfl,rfl,rfl,by decide+kernel,rfl,by decide+kernel,by decide+kernel⟩
theorem zbi:GLF z1a "met":=by decide+kernel
theorem z8k:GLF z1a "without":=by decide+kernel
theorem z95:Vis (defScope z1a) "is_so":=Or.inl (by decide+kernel)
theorem z4e:Vis (defScope z1a) "own":=Or.inl (by decide+kernel)
abbrev z11:Stmt:=top 26
theorem zi5:FnScope ["word","own","other","is_so"] ["word","own","other","is_so"] (defScope z11):=⟨rfl,rfl,rfl,by decide+kernel,rfl,by decide+kernel,by decide+kernel⟩
theorem z5m:GLF z11 "between":=by decide+kernel
theorem z6u:GLF z11 "left_by_same":=by decide+kernel
theorem zcx:GLF z11 "max":=by decide+kernel
theorem zcw:GLF z11 "min":=by decide+kernel
theorem z62:Vis (defScope z11) "is_so":=Or.inl (by decide+kernel)
theorem z40:Vis (defScope z11) "other":=Or.inl (by decide+kernel)
theorem z2i:Vis (defScope z11) "own":=Or.inl (by decide+kernel)
theorem zal:Vis (defScope z11) "word":=Or.inl (by decide+kernel)
abbrev z0n:Stmt:=top 27
theorem zfi:FnScope ["word","own","one","is_so"] ["word","own","one","is_so"] (defScope z0n):=⟨rfl,rfl,rfl,by decide+kernel,rfl,by decide+kernel,by decide+kernel⟩
theorem z4x:GLF z0n "between":=by decide+kernel
theorem z6f:GLF z0n "left_by_same":=by decide+kernel
theorem zat:GLF z0n "max":=by decide+kernel
theorem zas:GLF z0n "min":=by decide+kernel
theorem z5a:Vis (defScope z0n) "is_so":=Or.inl (by decide+kernel)
theorem z3z:Vis (defScope z0n) "one":=Or.inl (by decide+kernel)
theorem z21:Vis (defScope z0n) "own":=Or.inl (by decide+kernel)
theorem z94:Vis (defScope z0n) "word":=Or.inl (by decide+kernel)
abbrev z13:Stmt:=top 28
theorem zgh:FnScope ["own","beside","is_so"] ["own","beside","is_so"] (defScope z13):=⟨rfl,rfl,rfl,by decide+kernel,rfl,by decide+kernel,by decide+kernel⟩
theorem zbj:GLF z13 "met":=by decide+kernel
theorem z8l:GLF z13 "without":=by decide+kernel
theorem z2b:Vis (defScope z13) "beside":=Or.inl (by decide+kernel)
theorem z96:Vis (defScope z13) "is_so":=Or.inl (by decide+kernel)
theorem z4f:Vis (defScope z13) "own":=Or.inl (by decide+kernel)
abbrev z4m:Stmt:=top 29
theorem zp6:FnScope ["own","worth"] ["own","worth"] (defScope z4m):=⟨rfl,rfl,rfl,by decide+kernel,rfl,by decide+kernel,by decide+kernel⟩
theorem z73:GLF z4m "between":=by decide+kernel
theorem z2g:Vis (defScope z4m) "own":=Or.inl (by decide+kernel)
theorem z7m:Vis (defScope z4m) "worth":=Or.inl (by decide+kernel)
abbrev z42:Stmt:=q1q (top 32) 0
theorem zkt:FnScope ["self","heads"] ["self","heads"] (defScope z42):=⟨rfl,rfl,rfl,by decide+kernel,rfl,by decide+kernel,by decide+kernel⟩
theorem zbf:Vis (defScope z42) "heads":=Or.inl (by decide+kernel)
theorem z5c:Vis (defScope z42) "self":=Or.inl (by decide+kernel)
abbrev z5t:Stmt:=top 33
theorem sc_shown:FnScope ["program","paper","notes"] ["program","paper"] (defScope z5t):=⟨rfl,rfl,rfl,by decide+kernel,rfl,by decide+kernel,by decide+kernel⟩
theorem zeo:GLF z5t "notes_by":=by decide+kernel
theorem zhi:GLF z5t "sorted":=by decide+kernel
theorem zh1:Loc (defScope z5t) "notes":=Or.inr (by decide+kernel)
theorem zg4:Vis (defScope z5t) "notes":=Or.inr <| Or.inl (by decide+kernel)
theorem zg3:Vis (defScope z5t) "paper":=Or.inl (by decide+kernel)
theorem zdp:Vis (defScope z5t) "program":=Or.inl (by decide+kernel)
abbrev z2o:Stmt:=top 34
theorem sc_notes_by:FnScope ["program","paper","walk"] ["program","paper"] (defScope z2o):=⟨rfl,rfl,rfl,by decide+kernel,rfl,by decide+kernel,by decide+kernel⟩
theorem z7k:GLF z2o "walk_by_paper":=by decide+kernel
theorem zea:Loc (defScope z2o) "walk":=Or.inl (by decide+kernel)
theorem zc1:Vis (defScope z2o) "paper":=Or.inl (by decide+kernel)
theorem zak:Vis (defScope z2o) "program":=Or.inl (by decide+kernel)
theorem z7o:Vis (defScope z2o) "walk":=Or.inl (by decide+kernel)
abbrev z0g:Stmt:=top 35
theorem sc_walk_by_paper:FnScope ["program","thing","heads","walk"] ["program","thing"] (defScope z0g):=⟨rfl,rfl,rfl,by decide+kernel,rfl,by decide+kernel,by decide+kernel⟩
theorem z5h:GLF z0g "are_rising_rows":=by decide+kernel
theorem z7j:GLF z0g "heads_of":=by decide+kernel
theorem z7w:GLF z0g "is_held":=by decide+kernel
theorem z6d:GLF z0g "is_paper_row":=by decide+kernel
theorem z8i:GLF z0g "walked":=by decide+kernel
theorem z8d:Loc (defScope z0g) "heads":=Or.inl (by decide+kernel)
theorem z98:Loc (defScope z0g) "walk":=Or.inl (by decide+kernel)
theorem z57:Vis (defScope z0g) "heads":=Or.inl (by decide+kernel)
theorem z7a:Vis (defScope z0g) "program":=Or.inl (by decide+kernel)
theorem z56:Vis (defScope z0g) "thing":=Or.inl (by decide+kernel)
theorem z5k:Vis (defScope z0g) "walk":=Or.inl (by decide+kernel)
abbrev z4n:Stmt:=top 36
abbrev ztr:Stmt:=top 37
abbrev z1y:Stmt:=top 38
theorem sc_heads_of:FnScope ["paper","heads","path","shelf"] ["paper"] (defScope z1y):=⟨rfl,rfl,rfl,by decide+kernel,rfl,by decide+kernel,by decide+kernel⟩
theorem zbk:GLF z1y "book_of":=by decide+kernel
theorem zcs:Loc (defScope z1y) "heads":=Or.inl (by decide+kernel)
theorem zef:Loc (defScope z1y) "path":=Or.inl (by decide+kernel)
theorem zcr:Loc (defScope z1y) "shelf":=Or.inl (by decide+kernel)
theorem z71:Vis (defScope z1y) "heads":=Or.inl (by decide+kernel)
theorem zc3:Vis (defScope z1y) "paper":=Or.inl (by decide+kernel)
theorem zdu:Vis (defScope z1y) "path":=Or.inl (by decide+kernel)
theorem zc2:Vis (defScope z1y) "shelf":=Or.inl (by decide+kernel)
abbrev z27:Stmt:=top 39
theorem sc_book_of:FnScope ["shelf","book","name","low","high"] ["shelf"] (defScope z27):=⟨rfl,rfl,rfl,by decide+kernel,rfl,by decide+kernel,by decide+kernel⟩
theorem zfq:Loc (defScope z27) "book":=Or.inl (by decide+kernel)
theorem zfp:Loc (defScope z27) "high":=Or.inl (by decide+kernel)
theorem zh5:Loc (defScope z27) "low":=Or.inl (by decide+kernel)
theorem zfo:Loc (defScope z27) "name":=Or.inl (by decide+kernel)
theorem z8v:Vis (defScope z27) "book":=Or.inl (by decide+kernel)
theorem zff:Vis (defScope z27) "high":=Or.inl (by decide+kernel)
theorem zga:Vis (defScope z27) "low":=Or.inl (by decide+kernel)
theorem zfe:Vis (defScope z27) "name":=Or.inl (by decide+kernel)
theorem zdy:Vis (defScope z27) "shelf":=Or.inl (by decide+kernel)
abbrev z41:Stmt:=top 40
theorem zp7:FnScope ["wants","heads"] ["wants","heads"] (defScope z41):=⟨rfl,rfl,rfl,by decide+kernel,rfl,by decide+kernel,by decide+kernel⟩
theorem zig:GLF z41 "all":=by decide+kernel
theorem z7x:GLF z41 "sorted":=by decide+kernel
theorem zdt:Vis (defScope z41) "heads":=Or.inr <| Or.inl (by decide+kernel)
theorem z7r:Vis (defScope z41) "wants":=Or.inr <| Or.inl (by decide+kernel)
abbrev z3o:Stmt:=top 41
abbrev z3t:Stmt:=top 42
theorem sc_walked:FnScope ["program","heads","walk"] ["program","heads"] (defScope z3t):=⟨rfl,rfl,rfl,by decide+kernel,rfl,by decide+kernel,by decide+kernel⟩
theorem zie:GLF z3t "Walk":=by decide+kernel
theorem zek:GLF z3t "book_of":=by decide+kernel
theorem zcu:GLF z3t "go_block":=by decide+kernel
theorem zh0:Loc (defScope z3t) "walk":=Or.inl (by decide+kernel)
theorem zfa:Vis (defScope z3t) "heads":=Or.inl (by decide+kernel)
theorem z6z:Vis (defScope z3t) "program":=Or.inl (by decide+kernel)
theorem z9g:Vis (defScope z3t) "walk":=Or.inl (by decide+kernel)
abbrev z19:Stmt:=top 43
theorem sc_go_block:FnScope ["block","path","book","walk","at","deed"] ["block","path","book","walk"] (defScope z19):=⟨rfl,rfl,rfl,by decide+kernel,rfl,by decide+kernel,by decide+kernel⟩
theorem za2:GLF z19 "enumerate":=by decide+kernel
theorem zbm:GLF z19 "go_deed":=by decide+kernel
theorem zh4:Loc (defScope z19) "at":=Or.inl (by decide+kernel)
theorem zeh:Loc (defScope z19) "book":=Or.inl (by decide+kernel)
theorem zeg:Loc (defScope z19) "deed":=Or.inl (by decide+kernel)
theorem zg9:Vis (defScope z19) "at":=Or.inl (by decide+kernel)
theorem zc5:Vis (defScope z19) "block":=Or.inl (by decide+kernel)
theorem z5r:Vis (defScope z19) "book":=Or.inl (by decide+kernel)
theorem zdx:Vis (defScope z19) "deed":=Or.inl (by decide+kernel)
theorem zdw:Vis (defScope z19) "path":=Or.inl (by decide+kernel)
theorem zdv:Vis (defScope z19) "walk":=Or.inl (by decide+kernel)
abbrev z2s:Stmt:=top 44
theorem zp8:FnScope ["deed","path","book","walk"] ["deed","path","book","walk"] (defScope z2s):=⟨rfl,rfl,rfl,by decide+kernel,rfl,by decide+kernel,by decide+kernel⟩
theorem zfs:GLF z2s "go_if":=by decide+kernel
theorem zer:GLF z2s "go_set":=by decide+kernel
theorem zbl:GLF z2s "go_while":=by decide+kernel
theorem z6a:Vis (defScope z2s) "book":=Or.inl (by decide+kernel)
theorem z3n:Vis (defScope z2s) "deed":=Or.inl (by decide+kernel)
theorem z69:Vis (defScope z2s) "path":=Or.inl (by decide+kernel)
theorem z68:Vis (defScope z2s) "walk":=Or.inl (by decide+kernel)
abbrev z2r:Stmt:=top 45
theorem sc_go_set:FnScope ["deed","path","book","walk","has","end"] ["deed","path","book","walk"] (defScope z2r):=⟨rfl,rfl,rfl,by decide+kernel,rfl,by decide+kernel,by decide+kernel⟩
theorem zii:GLF z2r "dict":=by decide+kernel
theorem zih:GLF z2r "show":=by decide+kernel
theorem zic:Loc (defScope z2r) "end":=Or.inl (by decide+kernel)
theorem zib:Loc (defScope z2r) "has":=Or.inl (by decide+kernel)
theorem z9j:Vis (defScope z2r) "book":=Or.inl (by decide+kernel)
theorem z9i:Vis (defScope z2r) "deed":=Or.inl (by decide+kernel)
theorem zay:Vis (defScope z2r) "end":=Or.inl (by decide+kernel)
theorem zax:Vis (defScope z2r) "has":=Or.inl (by decide+kernel)
theorem zg7:Vis (defScope z2r) "path":=Or.inl (by decide+kernel)
theorem zg6:Vis (defScope z2r) "walk":=Or.inl (by decide+kernel)
abbrev z2z:Stmt:=top 46
theorem sc_go_if:FnScope ["deed","path","book","walk","has","one","other"] ["deed","path","book","walk"] (defScope z2z):=⟨rfl,rfl,rfl,by decide+kernel,rfl,by decide+kernel,by decide+kernel⟩
theorem z7y:GLF z2z "go_block":=by decide+kernel
theorem za1:GLF z2z "joined_books":=by decide+kernel
theorem zk1:GLF z2z "show":=by decide+kernel
theorem z92:GLF z2z "side_of":=by decide+kernel
theorem zjw:Loc (defScope z2z) "has":=Or.inl (by decide+kernel)
theorem zjv:Loc (defScope z2z) "one":=Or.inl (by decide+kernel)
theorem zh3:Loc (defScope z2z) "other":=Or.inl (by decide+kernel)
theorem z7g:Vis (defScope z2z) "book":=Or.inl (by decide+kernel)
theorem z4j:Vis (defScope z2z) "deed":=Or.inl (by decide+kernel)
theorem zc4:Vis (defScope z2z) "has":=Or.inl (by decide+kernel)
theorem zje:Vis (defScope z2z) "one":=Or.inl (by decide+kernel)
theorem zg8:Vis (defScope z2z) "other":=Or.inl (by decide+kernel)
theorem z7f:Vis (defScope z2z) "path":=Or.inl (by decide+kernel)
theorem z7e:Vis (defScope z2z) "walk":=Or.inl (by decide+kernel)
abbrev z7u:Stmt:=top 47
abbrev z26:Stmt:=top 48
theorem sc_side_of:FnScope ["term","has","book","is_so","can_be"] ["term","has","book","is_so"] (defScope z26):=⟨rfl,rfl,rfl,by decide+kernel,rfl,by decide+kernel,by decide+kernel⟩
theorem z9x:GLF z26 "ZERO":=by decide+kernel
theorem zen:GLF z26 "behind":=by decide+kernel
theorem z6k:GLF z26 "is_within":=by decide+kernel
theorem zco:Loc (defScope z26) "can_be":=Or.inl (by decide+kernel)
theorem zfc:Vis (defScope z26) "book":=Or.inl (by decide+kernel)
theorem zc0:Vis (defScope z26) "can_be":=Or.inl (by decide+kernel)
theorem z9h:Vis (defScope z26) "has":=Or.inl (by decide+kernel)
theorem z7n:Vis (defScope z26) "is_so":=Or.inl (by decide+kernel)
theorem zfb:Vis (defScope z26) "term":=Or.inl (by decide+kernel)
abbrev z5l:Stmt:=top 49
theorem sc_show:FnScope ["term","path","book","walk","one","other"] ["term","path","book","walk"] (defScope z5l):=⟨rfl,rfl,rfl,by decide+kernel,rfl,by decide+kernel,by decide+kernel⟩
theorem z8j:GLF z5l "noted":=by decide+kernel
theorem zf5:GLF z5l "show":=by decide+kernel
theorem zcv:GLF z5l "stretch_of":=by decide+kernel
theorem zlh:Loc (defScope z5l) "one":=Or.inl (by decide+kernel)
theorem zi8:Loc (defScope z5l) "other":=Or.inl (by decide+kernel)
theorem z88:Vis (defScope z5l) "book":=Or.inl (by decide+kernel)
theorem zf0:Vis (defScope z5l) "one":=Or.inl (by decide+kernel)
theorem zi1:Vis (defScope z5l) "other":=Or.inl (by decide+kernel)
theorem z59:Vis (defScope z5l) "path":=Or.inl (by decide+kernel)
theorem z2p:Vis (defScope z5l) "term":=Or.inl (by decide+kernel)
theorem z58:Vis (defScope z5l) "walk":=Or.inl (by decide+kernel)
abbrev z6c:Stmt:=top 50
theorem zu1:FnScope ["stretch","path","walk"] ["stretch","path","walk"] (defScope z6c):=⟨rfl,rfl,rfl,by decide+kernel,rfl,by decide+kernel,by decide+kernel⟩
theorem zjy:GLF z6c "WIDE":=by decide+kernel
theorem zlk:GLF z6c "met":=by decide+kernel
theorem zi3:Vis (defScope z6c) "path":=Or.inl (by decide+kernel)
theorem z5p:Vis (defScope z6c) "stretch":=Or.inl (by decide+kernel)
theorem zi2:Vis (defScope z6c) "walk":=Or.inl (by decide+kernel)
abbrev z0x:Stmt:=top 51
theorem sc_joined_books:FnScope ["one","other","both","name"] ["one","other"] (defScope z0x):=⟨rfl,rfl,rfl,by decide+kernel,rfl,by decide+kernel,by decide+kernel⟩
theorem z9d:GLF z0x "joined":=by decide+kernel
theorem z9w:Loc (defScope z0x) "both":=Or.inl (by decide+kernel)
theorem z9v:Loc (defScope z0x) "name":=Or.inl (by decide+kernel)
theorem z63:Vis (defScope z0x) "both":=Or.inl (by decide+kernel)
theorem z2q:Vis (defScope z0x) "name":=Or.inl (by decide+kernel)
theorem z32:Vis (defScope z0x) "one":=Or.inl (by decide+kernel)
theorem z2l:Vis (defScope z0x) "other":=Or.inl (by decide+kernel)
abbrev zwy:Stmt:=top 52
abbrev z3q:Stmt:=top 54
theorem zmm:FnScope ["_law_script","_law_k"] ["_law_script","_law_k"] (defScope z3q):=⟨rfl,rfl,rfl,by decide+kernel,rfl,by decide+kernel,by decide+kernel⟩
theorem za0:GLF z3q "len":=by decide+kernel
theorem z3g:Vis (defScope z3q) "_law_k":=Or.inl (by decide+kernel)
theorem z1k:Vis (defScope z3q) "_law_script":=Or.inl (by decide+kernel)
abbrev z2f:Stmt:=top 55
theorem sc_law_pick:FnScope ["_law_script","_law_k","_law_many","_law_drawn"] ["_law_script","_law_k","_law_many"] (defScope z2f):=⟨rfl,rfl,rfl,by decide+kernel,rfl,by decide+kernel,by decide+kernel⟩
theorem z9z:GLF z2f "_law_cell":=by decide+kernel
theorem z8e:Loc (defScope z2f) "_law_drawn":=Or.inl (by decide+kernel)
theorem z3f:Vis (defScope z2f) "_law_drawn":=Or.inl (by decide+kernel)
theorem z6o:Vis (defScope z2f) "_law_k":=Or.inl (by decide+kernel)
theorem z97:Vis (defScope z2f) "_law_many":=Or.inl (by decide+kernel)
theorem z7p:Vis (defScope z2f) "_law_script":=Or.inl (by decide+kernel)
abbrev z1b:Stmt:=top 56
theorem zgi:FnScope ["_law_word","_law_one","_law_other"] ["_law_word","_law_one","_law_other"] (defScope z1b):=⟨rfl,rfl,rfl,by decide+kernel,rfl,by decide+kernel,by decide+kernel⟩
theorem z9c:GLF z1b "sorted":=by decide+kernel
theorem z0t:Vis (defScope z1b) "_law_one":=Or.inl (by decide+kernel)
theorem z0m:Vis (defScope z1b) "_law_other":=Or.inl (by decide+kernel)
theorem z0q:Vis (defScope z1b) "_law_word":=Or.inl (by decide+kernel)
abbrev zwx:Stmt:=top 57
abbrev q0z:Stmt:=top 58
abbrev z3p:Stmt:=top 60
theorem zml:FnScope ["_law_script","_law_at"] ["_law_script","_law_at"] (defScope z3p):=⟨rfl,rfl,rfl,by decide+kernel,rfl,by decide+kernel,by decide+kernel⟩
theorem z43:GLF z3p "_law_pick":=by decide+kernel
theorem z4g:Vis (defScope z3p) "_law_at":=Or.inl (by decide+kernel)
theorem z34:Vis (defScope z3p) "_law_script":=Or.inl (by decide+kernel)
abbrev z5z:Stmt:=top 61
theorem zr8:FnScope ["_law_side_here","_law_a","_law_b"] ["_law_side_here","_law_a","_law_b"] (defScope z5z):=⟨rfl,rfl,rfl,by decide+kernel,rfl,by decide+kernel,by decide+kernel⟩
theorem zdr:Vis (defScope z5z) "_law_a":=Or.inl (by decide+kernel)
theorem zdq:Vis (defScope z5z) "_law_b":=Or.inl (by decide+kernel)
theorem z2x:Vis (defScope z5z) "_law_side_here":=Or.inl (by decide+kernel)
abbrev z2c:Stmt:=top 62
theorem sc_law:FnScope ["_law_script","_law_ends","_law_k","_law_low","_law_ask","_law_block","_law_last","_law_ins","_law_notes","_law_fits","_law_a","_law_b","_law_so","_law_both","_law_firsts","_law_seconds"] ["_law_script"] (defScope z2c):=⟨rfl,rfl,rfl,by decide+kernel,rfl,by decide+kernel,by decide+kernel⟩
theorem zb4:GLF z2c "_law_of":=by decide+kernel
theorem z6g:GLF z2c "_law_pick":=by decide+kernel
theorem zau:GLF z2c "_law_reckoned":=by decide+kernel
theorem z91:GLF z2c "_law_side":=by decide+kernel
theorem zn2:GLF z2c "dict":=by decide+kernel
theorem zeq:GLF z2c "max":=by decide+kernel
theorem zep:GLF z2c "min":=by decide+kernel
theorem z74:GLF z2c "range":=by decide+kernel
theorem zll:GLF z2c "shown":=by decide+kernel
theorem zia:Loc (defScope z2c) "_law_a":=Or.inl (by decide+kernel)
theorem z90:Loc (defScope z2c) "_law_ask":=Or.inl (by decide+kernel)
theorem zi9:Loc (defScope z2c) "_law_b":=Or.inl (by decide+kernel)
theorem zcq:Loc (defScope z2c) "_law_block":=Or.inl (by decide+kernel)
theorem zee:Loc (defScope z2c) "_law_both":=Or.inl (by decide+kernel)
theorem zed:Loc (defScope z2c) "_law_ends":=Or.inl (by decide+kernel)
theorem zbh:Loc (defScope z2c) "_law_firsts":=Or.inl (by decide+kernel)
theorem zec:Loc (defScope z2c) "_law_fits":=Or.inl (by decide+kernel)
theorem zfn:Loc (defScope z2c) "_law_ins":=Or.inl (by decide+kernel)
theorem zb2:Loc (defScope z2c) "_law_k":=Or.inl (by decide+kernel)
theorem zeb:Loc (defScope z2c) "_law_last":=Or.inl (by decide+kernel)
theorem zfm:Loc (defScope z2c) "_law_low":=Or.inl (by decide+kernel)
theorem zcp:Loc (defScope z2c) "_law_notes":=Or.inl (by decide+kernel)
theorem zap:Loc (defScope z2c) "_law_seconds":=Or.inl (by decide+kernel)
theorem zh2:Loc (defScope z2c) "_law_so":=Or.inl (by decide+kernel)
theorem z7d:Vis (defScope z2c) "_law_a":=Or.inl (by decide+kernel)
theorem z1s:Vis (defScope z2c) "_law_ask":=Or.inl (by decide+kernel)
theorem z7c:Vis (defScope z2c) "_law_b":=Or.inl (by decide+kernel)
theorem z70:Vis (defScope z2c) "_law_block":=Or.inl (by decide+kernel)
theorem z5q:Vis (defScope z2c) "_law_both":=Or.inl (by decide+kernel)
theorem z16:Vis (defScope z2c) "_law_ends":=Or.inl (by decide+kernel)
theorem z6p:Vis (defScope z2c) "_law_firsts":=Or.inl (by decide+kernel)
theorem z2e:Vis (defScope z2c) "_law_fits":=Or.inl (by decide+kernel)
theorem zfd:Vis (defScope z2c) "_law_ins":=Or.inl (by decide+kernel)
theorem z1n:Vis (defScope z2c) "_law_k":=Or.inl (by decide+kernel)
theorem zds:Vis (defScope z2c) "_law_last":=Or.inl (by decide+kernel)
theorem z8u:Vis (defScope z2c) "_law_low":=Or.inl (by decide+kernel)
theorem z22:Vis (defScope z2c) "_law_notes":=Or.inl (by decide+kernel)
theorem z2j:Vis (defScope z2c) "_law_script":=Or.inl (by decide+kernel)
theorem z6i:Vis (defScope z2c) "_law_seconds":=Or.inl (by decide+kernel)
theorem zg5:Vis (defScope z2c) "_law_so":=Or.inl (by decide+kernel)
abbrev zvj(J:It)(g:TG)(tb:TS)(D:Ends)(σ : St)(H:Hp):Prop:=∃W:Nat->Nat->St->Hp->Prop,(∃m,W 0 m σ H)/\∀i m σ H,W i m σ H->
 (J.stop i H/\D.nx σ H)\/(J.go i H/\∃N:St->Hp->Prop,(∀ σ' H',N σ' H'->∃m',m' < m/\W (i+1) m' σ' H')/\∀x H',J.yld i H x H'->g x σ H' fun σ2 H2=>tb {D with nx:=N,ct:=N,bk:=D.nx} σ2 H2)
theorem zc9{K:PySem.W.Frag}{tl:TE}{g:TG}{tb:TS}{D:Ends}{σ : St}{H:Hp}:ztq (q1g K tl) g tb D σ H=tl σ H fun x H1=>∃a,x=.ref a/\(∃xs,SqT K H1 a xs)/\zvj (Itt K a) g tb D σ H1:=rfl
theorem z9n{K:PySem.W.Frag}{tl:TE}{g:TG}{tb:TS}{D:Ends}{σ : St}{H:Hp}:ztq (zxx K tl) g tb D σ H=tl σ H fun x H1=>∃a,x=.ref a/\(∃xs,SqL K H1 a xs)/\zvj (Itl K a) g tb D σ H1:=rfl
theorem z9m{ta:TA}{g:TG}{tb:TS}{D:Ends}{σ : St}{H:Hp}:ztq (q0f ta) g tb D σ H=ta σ H fun vs H1=>∃j:Int,vs=[.int j]/\-(2 ^ 62)<=j/\j < 2 ^ 62/\zvj (Itr 0 j.toNat) g tb D σ H1:=rfl
theorem z9p{K:PySem.W.Frag}{tl:TE}{g:TG}{tt:TT}{te:TE}{mp:List (Option Nat)}{σ : St}{H:Hp}{Q:VK}:zjf (q1g K tl) g tt te mp σ H Q=tl σ H fun x H1=>∃a,x=.ref a/\(∃xs,SqT K H1 a xs)/\zaw (Itt K a) g tt te Q (subσ mp σ) H1:=rfl
theorem z7s{K:PySem.W.Frag}{tl:TE}{g:TG}{tt:TT}{te:TE}{mp:List (Option Nat)}{σ : St}{H:Hp}{Q:VK}:zjf (zxx K tl) g tt te mp σ H Q=tl σ H fun x H1=>∃a,x=.ref a/\(∃xs,SqL K H1 a xs)/\zaw (Itl K a) g tt te Q (subσ mp σ) H1:=rfl
theorem z9q{tl:TE}{g:TG}{tt:TT}{te:TE}{mp:List (Option Nat)}{σ : St}{H:Hp}{Q:VK}:zjf (q2r tl) g tt te mp σ H Q=tl σ H fun x H1=>∃z,x=.str z/\zaw (Its z) g tt te Q (subσ mp σ) H1:=rfl
inductive Wd where
 | add | sub | mul | quo | less | same | min | max
 deriving DecidableEq
def Wd.str:Wd->Str
 | .add=>"add" | .sub=>"sub" | .mul=>"mul" | .quo=>"quo" | .less=>"less" | .same=>"same" | .min=>"min" | .max=>"max"
inductive T where
 | num (i:Int) | nm (x:Str) | op (w:Wd) (a b:T)
def T.enc:T->Dm
 | .num i=>.tup [.str "num",.int i]
 | .nm x=>.tup [.str "name",.str x]
 | .op w a b=>.tup [.str w.str,a.enc,b.enc]
def T.ok(g:List Str):Nat->T->Prop
 | 0,_=>False
 | _+1,.num i=>-32768<=i/\i<=32767
 | _+1,.nm x=>x∈g
 | n+1,.op _ a b=>T.ok g n a/\T.ok g n b
inductive D where
 | set (x:Str) (t:T) | ite (t:T) (b c:List D) | whl (t:T) (m:Int) (b:List D)
mutual
def D.enc:D->Dm
 | .set x t=>.tup [.str "set",.str x,t.enc]
 | .ite t b c=>.tup [.str "if",t.enc,.tup (zof b),.tup (zof c)]
 | .whl t m b=>.tup [.str "while",t.enc,.int m,.tup (zof b)]
def zof:List D->List Dm
 | []=>[]
 | d::r=>d.enc::zof r
end
theorem zhj:∀b:List D,(zof b).length=b.length
 | []=>by simp[zof]
 | d::b=>by rw [zof,List.length_cons,List.length_cons,zhj b]
def T.knows(p:List Str):T->Bool
 | .num _=>true
 | .nm x=>p.contains x
 | .op _ a b=>a.knows p && b.knows p
mutual
def kbD(p:List Str):D->Option (List Str)
 | .set x t=>if t.knows p then some (p++[x]) else none
 | .ite t b c=>if t.knows p then(match kbB p b,kbB p c with | some q,some r=>some (q.filter fun x=>r.contains x) | _,_=>none) else none
 | .whl t _ b=>if t.knows p then(match kbB p b with | some _=>some p | none=>none) else none
def kbB(p:List Str):List D->Option (List Str)
 | []=>some p
 | d::r=>match kbD p d with
  | some q=>kbB q r
  | none=>none
end
def Sub(g p:List Str):Prop:=∀x∈g,x∈p
theorem Sub.refl(g:List Str):Sub g g:=fun _ h=>h
theorem Sub.trans{a b c:List Str}(h:Sub a b)(k:Sub b c):Sub a c:=fun x hx=>k x (h x hx)
theorem T.ok.knows{g p:List Str}(hg:Sub g p):∀{n:Nat} {t:T},T.ok g n t->t.knows p=true
 | 0,_,h=>h.elim
 | n+1,.num i,_=>rfl
 | n+1,.nm x,h=>by simpa [T.knows] using hg x h
 | n+1,.op w a b,h=>by simp[T.knows,T.ok.knows hg h.1,T.ok.knows hg h.2]
def Knows(g:List Str)(b:List D)(g':List Str):Prop:=∀p,Sub g p->∃q,kbB p b=some q/\Sub g' q/\Sub p q
def KnowsD(g:List Str)(d:D)(g':List Str):Prop:=∀p,Sub g p->∃q,kbD p d=some q/\Sub g' q/\Sub p q
theorem Knows.nil(g:List Str):Knows g [] g:=fun p h=>⟨p,by simp[kbB],h,Sub.refl p⟩
theorem KnowsD.set{g g':List Str}{x:Str}{t:T}{n:Nat}(ht:t.ok g n)(hs:∀y∈g',y∈g\/y=x):KnowsD g (.set x t) g':=fun p hp=>by
 refine⟨p++[x],by simp[kbD,ht.knows hp],fun y hy=>?_,fun y hy=>List.mem_append_left _ hy⟩
 rcases hs y hy with z | z
 ·exact List.mem_append_left _ (hp y z)
 ·exact List.mem_append_right _ (by simp[z])
theorem KnowsD.ite{g m y g':List Str}{t:T}{b c:List D}{n:Nat}(ht:t.ok g n)(hb:Knows g b m)(hc:Knows g c y)(hs:∀x∈g',x∈m/\x∈y):KnowsD g (.ite t b c) g':=fun p hp=>by
 obtain⟨q,e,s1,s2⟩:=hb p hp
 obtain⟨r,e2,s3,s4⟩:=hc p hp
 refine⟨q.filter fun x=>r.contains x,by simp[kbD,ht.knows hp,e,e2],fun x hx=>?_,fun x hx=>?_⟩
 ·exact List.mem_filter.mpr ⟨s1 x (hs x hx).1,by simpa using s3 x (hs x hx).2⟩
 ·exact List.mem_filter.mpr ⟨s2 x hx,by simpa using s4 x hx⟩
theorem KnowsD.whl{g g1:List Str}{t:T}{m:Int}{b:List D}{n:Nat}(ht:t.ok g n)(hb:Knows g b g1):KnowsD g (.whl t m b) g:=fun p hp=>by
 obtain⟨q,e,s1,s2⟩:=hb p hp
 exact⟨p,by simp[kbD,ht.knows hp,e],hp,Sub.refl p⟩
theorem q0r{xs:List V}{k:Int}(h0:0<=k)(h:k < (xs.length:Int)):∃v,xs[k.toNat]?=some v/\atI xs k=some v:=by
 have hk:k.toNat < xs.length:=by omega
 have ek:k=((k.toNat:Nat):Int):=by omega
 refine⟨xs[k.toNat],List.getElem?_eq_getElem hk,?_⟩
 have q:atI xs ((k.toNat:Nat):Int)=some xs[k.toNat]:=zy8 (List.getElem?_eq_getElem hk)
 rw [<- ek] at q
 exact q
theorem zke{α : Type}{c : α->V}{ns:List α}{k:Int}(h0:0<=k)(h:k < (ns.length:Int)):∃v∈ns,atI (ns.map c) k=some (c v):=by
 obtain⟨v,e1,e2⟩:=q0r (xs:=ns.map c) h0 (by rw [List.length_map]; exact h)
 rw [List.getElem?_map] at e1
 cases e:ns[k.toNat]? with
 | none=>rw [e] at e1; cases e1
 | some i=>rw [e] at e1; cases e1; exact⟨i,List.mem_of_getElem? e,e2⟩
theorem q00(ns:List Int):(ns.map V.int).all okV=true:=by simp[okV]
theorem zl(n:Nat)(h:n<=1000):n<=sizeLine:=Nat.le_of_lt (z2k h)
theorem q2d{K:PySem.W.Frag}{H:Hp}{a:Addr}{xs:List V}(h:SqL K H a xs):q0u K (.ref a) H xs.length:=.inl ⟨a,xs,rfl,.inl h,rfl⟩
theorem q1k{K:PySem.W.Frag}{H:Hp}{a p:Addr}{xs:List V}(h:SqL K H a xs)(ho:xs.all okV=true)(hp:SqL K H p []):q1x K (.ref a) (.ref p) H xs.isEmpty:=.inr (.inl ⟨a,p,xs,[],rfl,rfl,h,hp,ho,rfl,(zy1 xs).symm⟩)
def Wd.worth:Wd->Int->Int->Int
 | .add,a,b=>a+b
 | .sub,a,b=>a - b
 | .mul,a,b=>a * b
 | .quo,a,b=>a.fdiv b
 | .less,a,b=>if a < b then 1 else 0
 | .same,a,b=>if a=b then 1 else 0
 | .min,a,b=>if b < a then b else a
 | .max,a,b=>if b > a then b else a
def Btw(l v h:Int):Prop:=(l<=v/\v<=h)\/(h<=v/\v<=l)
theorem z80(x y:Int)(hy:y < 0):x.fdiv y=(-x) / (-y):=by
 rw [<- Int.neg_fdiv_neg,Int.fdiv_eq_ediv_of_nonneg _ (by omega)]
theorem z44{x y z:Int}(hy:0 < y)(h:y<=z):(0<=x->x / z<=x / y)/\(x < 0->x / y<=x / z):=by
 have hz:0 < z:=by omega
 constructor
 ·intro hx
  rw [Int.le_ediv_iff_mul_le hy]
  have h0:0<=x / z:=Int.ediv_nonneg hx (by omega)
  have h1:x / z * y<=x / z * z:=Int.mul_le_mul_of_nonneg_left h h0
  have h2:x / z * z<=x:=Int.ediv_mul_le x (by omega)
  omega
 ·intro hx
  rw [Int.le_ediv_iff_mul_le hz]
  have h0:x / y < 0:=Int.ediv_neg_of_neg_of_pos hx hy
  have h1:x / y * z<=x / y * y:=by
   have:=Int.mul_le_mul_of_nonneg_left h (show 0 <= -(x / y) by omega)
   rw [Int.neg_mul,Int.neg_mul] at this
   omega
  have h2:x / y * y<=x:=Int.ediv_mul_le x (by omega)
  omega
def Sgn(w:Wd)(c d:Int):Prop:=w=.quo->(0 < c\/d < 0)
theorem q2y{w:Wd}(hs:w≠.same){a b x c d y:Int}(h1:a<=x)(h2:x<=b)(h3:c<=y)(h4:y<=d)(hq:Sgn w c d):Btw (w.worth a y) (w.worth x y) (w.worth b y):=by
 cases w<;>simp only[Wd.worth,Btw]
 ·omega
 ·omega
 ·rcases Int.le_total 0 y with h | h
  ·exact .inl ⟨Int.mul_le_mul_of_nonneg_right h1 h,Int.mul_le_mul_of_nonneg_right h2 h⟩
  ·exact .inr ⟨Int.mul_le_mul_of_nonpos_right h2 h,Int.mul_le_mul_of_nonpos_right h1 h⟩
 ·rcases hq rfl with h | h
  ·have hy:0 < y:=by omega
   rw [Int.fdiv_eq_ediv_of_nonneg _ (by omega),Int.fdiv_eq_ediv_of_nonneg _ (by omega),Int.fdiv_eq_ediv_of_nonneg _ (by omega)]
   exact .inl ⟨Int.ediv_le_ediv hy h1,Int.ediv_le_ediv hy h2⟩
  ·have hy:y < 0:=by omega
   rw [z80 _ _ hy,z80 _ _ hy,z80 _ _ hy]
   exact .inr ⟨Int.ediv_le_ediv (by omega) (by omega),Int.ediv_le_ediv (by omega) (by omega)⟩
 ·right; constructor<;>(repeat' split)<;>omega
 ·exact absurd rfl hs
 ·left; constructor<;>(repeat' split)<;>omega
 ·left; constructor<;>(repeat' split)<;>omega
theorem q2i{w:Wd}(hs:w≠.same){x c d y:Int}(h3:c<=y)(h4:y<=d)(hq:Sgn w c d):Btw (w.worth x c) (w.worth x y) (w.worth x d):=by
 cases w<;>simp only[Wd.worth,Btw]
 ·omega
 ·omega
 ·rcases Int.le_total 0 x with h | h
  ·exact .inl ⟨Int.mul_le_mul_of_nonneg_left h3 h,Int.mul_le_mul_of_nonneg_left h4 h⟩
  ·exact .inr ⟨Int.mul_le_mul_of_nonpos_left h h4,Int.mul_le_mul_of_nonpos_left h h3⟩
 ·rcases hq rfl with h | h
  ·rw [Int.fdiv_eq_ediv_of_nonneg _ (by omega),Int.fdiv_eq_ediv_of_nonneg _ (by omega),Int.fdiv_eq_ediv_of_nonneg _ (by omega)]
   rcases(show x < 0\/0<=x by omega) with hx | hx
   ·exact .inl ⟨(z44 (by omega) h3).2 hx,(z44 (by omega) h4).2 hx⟩
   ·exact .inr ⟨(z44 (by omega) h4).1 hx,(z44 (by omega) h3).1 hx⟩
  ·rw [z80 _ _ (by omega),z80 _ _ (by omega),z80 _ _ (by omega)]
   rcases(show -x < 0\/0 <= -x by omega) with hx | hx
   ·exact .inr ⟨(z44 (by omega) (by omega)).2 hx,(z44 (by omega) (by omega)).2 hx⟩
   ·exact .inl ⟨(z44 (by omega) (by omega)).1 hx,(z44 (by omega) (by omega)).1 hx⟩
 ·left; constructor<;>(repeat' split)<;>omega
 ·exact absurd rfl hs
 ·left; constructor<;>(repeat' split)<;>omega
 ·left; constructor<;>(repeat' split)<;>omega
abbrev S:=Option (Int×Int)
def Val(w:Wd)(a b c d v:Int):Prop:=∃x y,a<=x/\x<=b/\c<=y/\y<=d/\(w=.quo->y≠0)/\v=w.worth x y
def ValE(w:Wd)(a b c d v:Int):Prop:=∃x y,(x=a\/x=b)/\(y=c\/y=d\/y = -1\/y=1)/\a<=x/\x<=b/\c<=y/\y<=d/\(w=.quo->y≠0)/\v=w.worth x y
def IsS(w:Wd)(a b c d:Int)(r:S):Prop:=match r with
 | none=>∀v,¬ Val w a b c d v
 | some (lo,hi)=>Val w a b c d lo/\Val w a b c d hi/\(∀v,Val w a b c d v->lo<=v/\v<=hi)/\(w≠.same->ValE w a b c d lo/\ValE w a b c d hi)
theorem ValE.val{w:Wd}{a b c d v:Int}(h:ValE w a b c d v):Val w a b c d v:=by
 obtain⟨x,y,_,_,h1,h2,h3,h4,h5,h6⟩:=h
 exact⟨x,y,h1,h2,h3,h4,h5,h6⟩
theorem Val.mono{w:Wd}{a b c d a' b' c' d' v:Int}(h:Val w a b c d v)(h1:a'<=a)(h2:b<=b')(h3:c'<=c)(h4:d<=d'):Val w a' b' c' d' v:=by
 obtain⟨x,y,k1,k2,k3,k4,k5,k6⟩:=h
 exact⟨x,y,by omega,by omega,by omega,by omega,k5,k6⟩
theorem IsS.unique{w:Wd}{a b c d:Int}{r r':S}(h:IsS w a b c d r)(h':IsS w a b c d r'):r=r':=by
 match r,r',h,h' with
 | none,none,_,_=>rfl
 | none,some (lo,hi),h,h'=>exact absurd h'.1 (h lo)
 | some (lo,hi),none,h,h'=>exact absurd h.1 (h' lo)
 | some (lo,hi),some (lo',hi'),h,h'=>
  have e1:=h.2.2.1 _ h'.1
  have e2:=h.2.2.1 _ h'.2.1
  have e3:=h'.2.2.1 _ h.1
  have e4:=h'.2.2.1 _ h.2.1
  have:lo=lo':=by omega
  have:hi=hi':=by omega
  subst_vars; rfl
structure Hull(ns:List Int)(lo hi:Int):Prop where
 l:lo∈ns
 h:hi∈ns
 all:∀a∈ns,lo<=a/\a<=hi
def z3b(w:Wd)(a b c d:Int):List Int:=[w.worth a c,w.worth b c,w.worth a d,w.worth b d]
theorem zv3{w:Wd}(hs:w≠.same){a b c d lo hi:Int}(hcd:c<=d)(hq:Sgn w c d)(h:Hull (z3b w a b c d) lo hi){v:Int}(hv:Val w a b c d v):lo<=v/\v<=hi:=by
 obtain⟨x,y,h1,h2,h3,h4,_,rfl⟩:=hv
 have k1:=h.all (w.worth a c) (by simp[z3b])
 have k2:=h.all (w.worth b c) (by simp[z3b])
 have k3:=h.all (w.worth a d) (by simp[z3b])
 have k4:=h.all (w.worth b d) (by simp[z3b])
 have e:=q2y hs h1 h2 h3 h4 hq
 have ea:=q2i hs (x:=a) h3 h4 hq
 have eb:=q2i hs (x:=b) h3 h4 hq
 simp only[Btw] at e ea eb
 omega
theorem zag{w:Wd}{a b c d v:Int}(hab:a<=b)(hcd:c<=d)(hq:Sgn w c d)(h:v∈z3b w a b c d):ValE w a b c d v:=by
 have hc:w=.quo->c≠0:=fun e=>by rcases hq e with z | z<;>omega
 have hd:w=.quo->d≠0:=fun e=>by rcases hq e with z | z<;>omega
 simp only[z3b,List.mem_cons,List.not_mem_nil,or_false] at h
 rcases h with rfl | rfl | rfl | rfl
 ·exact⟨a,c,.inl rfl,.inl rfl,Int.le_refl _,hab,Int.le_refl _,hcd,hc,rfl⟩
 ·exact⟨b,c,.inr rfl,.inl rfl,hab,Int.le_refl _,Int.le_refl _,hcd,hc,rfl⟩
 ·exact⟨a,d,.inl rfl,.inr (.inl rfl),Int.le_refl _,hab,hcd,Int.le_refl _,hd,rfl⟩
 ·exact⟨b,d,.inr rfl,.inr (.inl rfl),hab,Int.le_refl _,hcd,Int.le_refl _,hd,rfl⟩
theorem zd0{w:Wd}(hs:w≠.same){a b c d lo hi:Int}(hab:a<=b)(hcd:c<=d)(hq:Sgn w c d)(h:Hull (z3b w a b c d) lo hi):IsS w a b c d (some (lo,hi)):=
 ⟨(zag hab hcd hq h.l).val,(zag hab hcd hq h.h).val,fun _ hv=>zv3 hs hcd hq h hv,fun _=>⟨zag hab hcd hq h.l,zag hab hcd hq h.h⟩⟩
def bet(l h:Int):S:=if l > h then none else some (l,h)
def mn(i j:Int):Int:=if j < i then j else i
def mx(i j:Int):Int:=if j > i then j else i
def q08:S->S->S
 | none,y=>y
 | x,none=>x
 | some (a,b),some (c,d)=>some (mn a c,mx b d)
def zdo:S->S->S
 | none,_=>none
 | _,none=>none
 | some (a,b),some (c,d)=>bet (mx a c) (mn b d)
def z6m(x y:S):Bool:=decide (zdo x y=x)
def IsE(w:Wd)(a b:Int)(o r:S):Prop:=match o with
 | none=>r=none
 | some (c,d)=>∃lo hi,r=some (lo,hi)/\Hull (z3b w a b c d) lo hi
theorem zx2{a b c d:Int}(hab:a<=b)(hcd:c<=d){r1 r2:S}(h1:IsE .quo a b (bet c (mn d (-1))) r1)(h2:IsE .quo a b (bet (mx c 1) d) r2):IsS .quo a b c d (q08 r1 r2):=by
 have hmn:mn d (-1)<=d/\mn d (-1) <= -1/\(mn d (-1)=d\/mn d (-1) = -1):=by unfold mn; split<;>omega
 have hmx:c<=mx c 1/\1<=mx c 1/\(mx c 1=c\/mx c 1=1):=by unfold mx; split<;>omega
 have split:∀v,Val .quo a b c d v->Val .quo a b c (mn d (-1)) v\/Val .quo a b (mx c 1) d v:=by
  rintro v ⟨x,y,k1,k2,k3,k4,k5,k6⟩
  have:=k5 rfl
  rcases Int.lt_or_gt_of_ne this with z | z
  ·exact .inl ⟨x,y,k1,k2,k3,by unfold mn; split<;>omega,k5,k6⟩
  ·exact .inr ⟨x,y,k1,k2,by unfold mx; split<;>omega,k4,k5,k6⟩
 have e1:∀v,Val .quo a b c (mn d (-1)) v->Val .quo a b c d v:=fun v h=>h.mono (Int.le_refl _) (Int.le_refl _) (Int.le_refl _) hmn.1
 have e2:∀v,Val .quo a b (mx c 1) d v->Val .quo a b c d v:=fun v h=>h.mono (Int.le_refl _) (Int.le_refl _) hmx.1 (Int.le_refl _)
 have f1:∀v,ValE .quo a b c (mn d (-1)) v->ValE .quo a b c d v:=by
  rintro v ⟨x,y,k1,k2,k3,k4,k5,k6,k7⟩
  exact⟨x,y,k1,by omega,k3,k4,k5,by omega,k7⟩
 have f2:∀v,ValE .quo a b (mx c 1) d v->ValE .quo a b c d v:=by
  rintro v ⟨x,y,k1,k2,k3,k4,k5,k6,k7⟩
  exact⟨x,y,k1,by omega,k3,k4,by omega,k6,k7⟩
 have g1:∀v,c > mn d (-1)->¬ Val .quo a b c (mn d (-1)) v:=by
  rintro v h ⟨x,y,k1,k2,k3,k4,_⟩; omega
 have g2:∀v,mx c 1 > d->¬ Val .quo a b (mx c 1) d v:=by
  rintro v h ⟨x,y,k1,k2,k3,k4,_⟩; omega
 by_cases q1:c > mn d (-1)
 ·rw [show bet c (mn d (-1))=none from if_pos q1] at h1
  have hr1:r1=none:=h1
  subst hr1
  by_cases q2:mx c 1 > d
  ·rw [show bet (mx c 1) d=none from if_pos q2] at h2
   have hr2:r2=none:=h2
   subst hr2
   intro v hv
   rcases split v hv with z | z
   ·exact g1 v q1 z
   ·exact g2 v q2 z
  ·rw [show bet (mx c 1) d=some (mx c 1,d) from if_neg q2] at h2
   obtain⟨lo,hi,rfl,hh⟩:=h2
   have I:=zd0 (w:=.quo) (fun z=>nomatch z) hab (by omega) (fun _=>.inl (by omega)) hh
   refine⟨e2 _ I.1,e2 _ I.2.1,fun v hv=>?_,fun n=>⟨f2 _ (I.2.2.2 n).1,f2 _ (I.2.2.2 n).2⟩⟩
   rcases split v hv with z | z
   ·exact absurd z (g1 v q1)
   ·exact I.2.2.1 v z
 ·rw [show bet c (mn d (-1))=some (c,mn d (-1)) from if_neg q1] at h1
  obtain⟨lo,hi,rfl,hh⟩:=h1
  have I:=zd0 (w:=.quo) (fun z=>nomatch z) hab (by omega) (fun _=>.inr (by omega)) hh
  by_cases q2:mx c 1 > d
  ·rw [show bet (mx c 1) d=none from if_pos q2] at h2
   have hr2:r2=none:=h2
   subst hr2
   refine⟨e1 _ I.1,e1 _ I.2.1,fun v hv=>?_,fun n=>⟨f1 _ (I.2.2.2 n).1,f1 _ (I.2.2.2 n).2⟩⟩
   rcases split v hv with z | z
   ·exact I.2.2.1 v z
   ·exact absurd z (g2 v q2)
  ·rw [show bet (mx c 1) d=some (mx c 1,d) from if_neg q2] at h2
   obtain⟨lo',hi',rfl,hh'⟩:=h2
   have J:=zd0 (w:=.quo) (fun z=>nomatch z) hab (by omega) (fun _=>.inl (by omega)) hh'
   have p1:mn lo lo'=lo\/mn lo lo'=lo':=by unfold mn; split<;>omega
   have p2:mx hi hi'=hi\/mx hi hi'=hi':=by unfold mx; split<;>omega
   have p3:mn lo lo'<=lo/\mn lo lo'<=lo':=by unfold mn; split<;>omega
   have p4:hi<=mx hi hi'/\hi'<=mx hi hi':=by unfold mx; split<;>omega
   refine⟨?_,?_,fun v hv=>?_,fun n=>⟨?_,?_⟩⟩
   ·rcases p1 with z | z<;>rw [z]
    ·exact e1 _ I.1
    ·exact e2 _ J.1
   ·rcases p2 with z | z<;>rw [z]
    ·exact e1 _ I.2.1
    ·exact e2 _ J.2.1
   ·rcases split v hv with z | z
    ·have:=I.2.2.1 v z; omega
    ·have:=J.2.2.1 v z; omega
   ·rcases p1 with z | z<;>rw [z]
    ·exact f1 _ (I.2.2.2 n).1
    ·exact f2 _ (J.2.2.2 n).1
   ·rcases p2 with z | z<;>rw [z]
    ·exact f1 _ (I.2.2.2 n).2
    ·exact f2 _ (J.2.2.2 n).2
theorem znt{a b c d:Int}(hab:a<=b)(hcd:c<=d):IsS .same a b c d (some (if(a=c/\b=d)/\a=b then 1 else 0,if zdo (some (a,b)) (some (c,d))≠none then 1 else 0)):=by
 have hm:(zdo (some (a,b)) (some (c,d))≠none)↔(a<=d/\c<=b):=by
  show bet (mx a c) (mn b d)≠none↔_
  unfold bet mx mn
  constructor
  ·intro h
   by_cases q:(if c > a then c else a) > (if d < b then d else b)
   ·rw [if_pos q] at h; exact absurd rfl h
   ·revert q; (repeat' split)<;>omega
  ·intro h
   rw [if_neg]
   ·exact fun z=>nomatch z
   ·(repeat' split)<;>omega
 refine⟨?_,?_,?_,fun n=>absurd rfl n⟩
 ·by_cases q:(a=c/\b=d)/\a=b
  ·rw [if_pos q]
   exact⟨a,c,Int.le_refl _,hab,Int.le_refl _,hcd,(fun z=>nomatch z),by simp only[Wd.worth]; rw [if_pos q.1.1]⟩
  ·rw [if_neg q]
   by_cases k:a=c
   ·by_cases k2:b=d
    ·exact⟨a,d,Int.le_refl _,hab,hcd,Int.le_refl _,(fun z=>nomatch z),by simp only[Wd.worth]; rw [if_neg]; omega⟩
    ·by_cases k3:a=b
     ·exact⟨a,d,Int.le_refl _,hab,hcd,Int.le_refl _,(fun z=>nomatch z),by simp only[Wd.worth]; rw [if_neg]; omega⟩
     ·exact⟨b,c,hab,Int.le_refl _,Int.le_refl _,hcd,(fun z=>nomatch z),by simp only[Wd.worth]; rw [if_neg]; omega⟩
   ·exact⟨a,c,Int.le_refl _,hab,Int.le_refl _,hcd,(fun z=>nomatch z),by simp only[Wd.worth]; rw [if_neg k]⟩
 ·by_cases q:zdo (some (a,b)) (some (c,d))≠none
  ·rw [if_pos q]
   have q2:=hm.mp q
   by_cases k:a<=c
   ·exact⟨c,c,by omega,by omega,by omega,by omega,(fun z=>nomatch z),by simp[Wd.worth]⟩
   ·exact⟨a,a,by omega,by omega,by omega,by omega,(fun z=>nomatch z),by simp[Wd.worth]⟩
  ·rw [if_neg q]
   refine⟨a,c,by omega,by omega,by omega,by omega,(fun z=>nomatch z),?_⟩
   simp only[Wd.worth]
   rw [if_neg]
   intro k
   exact q (hm.mpr (by omega))
 ·rintro v ⟨x,y,k1,k2,k3,k4,_,rfl⟩
  simp only[Wd.worth]
  by_cases q:(a=c/\b=d)/\a=b
  ·have:x=y:=by omega
   rw [if_pos q,if_pos this,if_pos (hm.mpr (by omega))]
   omega
  ·rw [if_neg q]
   by_cases k:x=y
   ·rw [if_pos k,if_pos (hm.mpr (by omega))]; omega
   ·rw [if_neg k]; split<;>omega
def rng(lo:Int)(n:Nat):List Int:=(List.range n).map fun(i:Nat)=>lo+(i:Int)
theorem zly(CX:CXT)(P:Program)(w:World)(K:PySem.W.Frag)(mg:Str->Option Value)(base:Heap)(N:List Str)(qual:Str)(scope:Scope)(f:Addr)(cd:Value)(A:Around)(outer:List Env)(s:Shared)(H:Hp)(E:XK):(zmc CX P w K mg base N qual scope f cd A outer s H E).K=K:=rfl
theorem z83(CX:CXT)(P:Program)(w:World)(K:PySem.W.Frag)(mg:Str->Option Value)(base:Heap)(N:List Str)(qual:Str)(scope:Scope)(f:Addr)(cd:Value)(A:Around)(outer:List Env)(s:Shared)(H:Hp)(E:XK):(zmc CX P w K mg base N qual scope f cd A outer s H E).nox.K=K:=rfl
theorem zdb(X:Cx)(N':List Str)(scope:Scope)(cl:List (Str×Addr))(C:Addr)(s₀:Shared)(H₀:Hp)(ex:List Addr):(z51 X N' scope cl C s₀ H₀ ex).K=X.K:=rfl
theorem z9o{K:PySem.W.Frag}{ta:TA}{g:TG}{tb:TS}{D:Ends}{σ : St}{H:Hp}:ztq (q1h K ta) g tb D σ H=ta σ H fun vs H1=>∃a,vs=[.ref a]/\(∃xs,SqL K H1 a xs)/\zvj (Ite K a) g tb D σ H1:=rfl
theorem zc8{K:PySem.W.Frag}{ta:TA}{g:TG}{tb:TS}{D:Ends}{σ : St}{H:Hp}:ztq (q2q K ta) g tb D σ H=ta σ H fun vs H1=>∃a b,vs=[.ref a,.ref b]/\(∃xs,SqL K H1 a xs)/\(∃ys,SqL K H1 b ys)/\zvj (Itz K a b) g tb D σ H1:=rfl
theorem z9l{ta:TA}{g:TG}{tb:TS}{D:Ends}{σ : St}{H:Hp}:ztq (zxw ta) g tb D σ H=ta σ H fun vs H1=>∃i j:Int,vs=[.int i,.int j]/\(-(2 ^ 62)<=i/\i < 2 ^ 62/\-(2 ^ 62)<=j/\j < 2 ^ 62)/\zvj (Itr i (j - i).toNat) g tb D σ H1:=rfl
theorem z9r{K:PySem.W.Frag}{tl:TE}{g:TG}{tt:TT}{te:TE}{mp:List (Option Nat)}{σ : St}{H:Hp}{Q:VK}:zjf (q2s K tl) g tt te mp σ H Q=tl σ H fun x H1=>∃a,x=.ref a/\(((∃xs,SqL K H1 a xs)/\zaw (Itl K a) g tt te Q (subσ mp σ) H1)\/((∃xs,SqT K H1 a xs)/\zaw (Itt K a) g tt te Q (subσ mp σ) H1)):=rfl
theorem zhr(CX:CXT)(P:Program)(w:World)(K:PySem.W.Frag)(mg:Str->Option Value)(base:Heap)(N:List Str)(qual:Str)(scope:Scope)(f:Addr)(cd:Value)(A:Around)(outer:List Env)(s:Shared)(H:Hp)(E:XK):(zmc CX P w K mg base N qual scope f cd A outer s H E).prog=P:=rfl
theorem zt7(CX:CXT)(P:Program)(w:World)(K:PySem.W.Frag)(mg:Str->Option Value)(base:Heap)(N:List Str)(qual:Str)(scope:Scope)(f:Addr)(cd:Value)(A:Around)(outer:List Env)(s:Shared)(H:Hp)(E:XK):(zmc CX P w K mg base N qual scope f cd A outer s H E).w=w:=rfl
theorem z8o(CX:CXT)(P:Program)(w:World)(K:PySem.W.Frag)(mg:Str->Option Value)(base:Heap)(N:List Str)(qual:Str)(scope:Scope)(f:Addr)(cd:Value)(A:Around)(outer:List Env)(s:Shared)(H:Hp)(E:XK):(zmc CX P w K mg base N qual scope f cd A outer s H E).nox.prog=P:=rfl
theorem zew(CX:CXT)(P:Program)(w:World)(K:PySem.W.Frag)(mg:Str->Option Value)(base:Heap)(N:List Str)(qual:Str)(scope:Scope)(f:Addr)(cd:Value)(A:Around)(outer:List Env)(s:Shared)(H:Hp)(E:XK):(zmc CX P w K mg base N qual scope f cd A outer s H E).nox.w=w:=rfl
theorem zne(CX:CXT)(P:Program)(w:World)(K:PySem.W.Frag)(mg:Str->Option Value)(base:Heap)(N:List Str)(qual:Str)(scope:Scope)(f:Addr)(cd:Value)(A:Around)(outer:List Env)(s:Shared)(H:Hp)(E:XK):(zmc CX P w K mg base N qual scope f cd A outer s H E).mg=mg:=rfl
theorem zbs(CX:CXT)(P:Program)(w:World)(K:PySem.W.Frag)(mg:Str->Option Value)(base:Heap)(N:List Str)(qual:Str)(scope:Scope)(f:Addr)(cd:Value)(A:Around)(outer:List Env)(s:Shared)(H:Hp)(E:XK):(zmc CX P w K mg base N qual scope f cd A outer s H E).nox.mg=mg:=rfl
theorem zhs(CX:CXT)(P:Program)(w:World)(K:PySem.W.Frag)(mg:Str->Option Value)(base:Heap)(N:List Str)(qual:Str)(scope:Scope)(f:Addr)(cd:Value)(A:Around)(outer:List Env)(s:Shared)(H:Hp)(E:XK):(zmc CX P w K mg base N qual scope f cd A outer s H E).base=base:=rfl
theorem z8p(CX:CXT)(P:Program)(w:World)(K:PySem.W.Frag)(mg:Str->Option Value)(base:Heap)(N:List Str)(qual:Str)(scope:Scope)(f:Addr)(cd:Value)(A:Around)(outer:List Env)(s:Shared)(H:Hp)(E:XK):(zmc CX P w K mg base N qual scope f cd A outer s H E).nox.base=base:=rfl
theorem zbt(X:Cx)(N':List Str)(scope:Scope)(cl:List (Str×Addr))(C:Addr)(s₀:Shared)(H₀:Hp)(ex:List Addr):(z51 X N' scope cl C s₀ H₀ ex).prog=X.prog:=rfl
theorem zk8(X:Cx)(N':List Str)(scope:Scope)(cl:List (Str×Addr))(C:Addr)(s₀:Shared)(H₀:Hp)(ex:List Addr):(z51 X N' scope cl C s₀ H₀ ex).w=X.w:=rfl
theorem zht(X:Cx)(N':List Str)(scope:Scope)(cl:List (Str×Addr))(C:Addr)(s₀:Shared)(H₀:Hp)(ex:List Addr):(z51 X N' scope cl C s₀ H₀ ex).mg=X.mg:=rfl
theorem zbu(X:Cx)(N':List Str)(scope:Scope)(cl:List (Str×Addr))(C:Addr)(s₀:Shared)(H₀:Hp)(ex:List Addr):(z51 X N' scope cl C s₀ H₀ ex).base=X.base:=rfl
theorem ze0{K:PySem.W.Frag}{ta:TA}{g:TG}{tt:TT}{te:TE}{mp:List (Option Nat)}{σ : St}{H:Hp}{Q:VK}:zjf (zxv K ta) g tt te mp σ H Q=ta σ H fun vs H1=>∃a b,vs=[.ref a,.ref b]/\(∃xs,SqT K H1 a xs)/\(∃ys,SqT K H1 b ys)/\zaw (q0v K a b) g tt te Q (subσ mp σ) H1:=rfl
local macro_rules | `(tactic| walk_at "rd")=>`(tactic| simp only[zvm,zyo,zow,tOp,zqc,tC,zws,zft,zxz,zpz,zz1,zyk,zqm,zp1,zoz,tCB,zi4,zwq,zmg,tUn,rU,rI0,rI,zyp,tOr,zyl,tB,zp4,zz9,zoy,tIf,zyn,zqn,zkk,zp2,ziq,zpa,zio,zqp,zgc,zqr,tSl,zdz,zox,zys,zgd,zku,zrf,zpd,z9o,zc8,z9l,z9r,q1a,zu5,zhr,zt7,z8o,zew,zne,zhs,zbs,z8p,zbt,zk8,zht,zbu,ze0,zkl,zzi,q28,tDX,q21,zyj,zym,tBM,
 qEq,qNe,qIn,zkv,zyx,zpc,zzm,zre,zyw,zpg,zyy,zyv,zpe,zpf,ziw,rIx,zx1,zjj,zyu,zzl,zgj,zzj,zrd,zzk,zyt,ze3,ze2,zim,zkm,ztv,
 zc9,z9n,z9m,z9p,z7s,z9q,L2.start,zly,z83,zdb,List.map_cons,List.map_nil,List.length_cons,List.length_nil,List.replicate_succ,List.replicate_zero,Nat.reduceAdd,Nat.reduceSub,Nat.zero_add,Nat.add_zero,Nat.sub_zero,Nat.sub_self,Nat.add_sub_cancel,
 List.getElem?_cons_zero,List.getElem?_cons_succ,List.set_cons_zero,List.set_cons_succ,List.cons_append,List.nil_append,List.append_nil,List.cons.injEq,Option.some.injEq,V.int.injEq,V.ref.injEq,V.str.injEq,V.bl.injEq,V.ty.injEq,
 reduceCtorEq,false_and,and_false,and_true,true_and,exists_false,exists_const,false_or,or_false,exists_eq_left,exists_eq_left',exists_eq_right,exists_eq_right',exists_and_left,decide_eq_true_eq,Bool.not_eq_true',Bool.decide_eq_true,exists_eq,true_or,or_true,Bool.false_eq_true,if_true,if_false,Bool.true_eq_false,Bool.not_true,Bool.not_false,decide_true,decide_false,List.isEmpty_cons,List.isEmpty_nil,Bool.true_and,Bool.false_and,bne_self_eq_false,beq_self_eq_true])
section
variable{P:Program}{w:World}{K:PySem.W.Frag}{mg:Str->Option Value}{base:Heap}{f:Addr}{fd:FuncData}
def zvq(K:PySem.W.Frag):Sp:=fun vs H Q _=>∃(a:Addr) (ns:List Int) (k:Int),vs=[.ref a,.int k]/\SqL K H a (ns.map V.int)/\0<=k/\∀(i:Int) (H':Hp),Same H H'->Q (.int i) H'
theorem zxi(F:Fun K "_law_cell" "_law_cell" z3q f fd) (b_len:mg "len" = none):FnOk P w K mg base CX0 1 f fd ["_law_script","_law_k"] (zvq K):=by
 refine F.ok zmm (fun vs H Q E h=>?_) (fun cdv A outer s H vs Q E hr h=>?_)
 ·obtain⟨a,ns,k,rfl,_⟩:=h
  rfl
 obtain⟨a,ns,k,rfl,hS,h0,q⟩:=h
 refine⟨_,(z02 (z1h (z0c zxc (z00 (i:=1) rfl z3g z29 z2a) (z53 q2g za0 b_len zwf (z08 (z00 (i:=0) rfl z1k z0z z10) z01) zvy zwc) (z0f _)) (z05 (z0b (z0e z3i (z00 (i:=0) rfl z1k z0z z10) (z00 (i:=1) rfl z3g z29 z2a) (fun _ _=>rfl)))) z0d)
 (z02 (z1h (z0c (gEq hr.units) (z00 (i:=0) rfl z1k z0z z10) (z9s z01) (z0f _)) (z05 (z0b z03)) z0d)
 (z05 (z0b (z28 z64 (z28 zf4 (z0e z3i (z00 (i:=0) rfl z1k z0z z10) (z28 zny (z00 (i:=1) rfl z3g z29 z2a) (z53 q2g za0 b_len zwf (z08 (z00 (i:=0) rfl z1k z0z z10) z01) zvy zwc)) (fun _ _=>rfl)) z03) (z00 (i:=1) rfl z3g z29 z2a)))))),?_⟩
 walk_at "rd"
 refine⟨_,q2d hS,?_⟩
 rw [List.length_map]
 split
 ·rename_i hk
  obtain⟨i,_,e⟩:=zke (c:=V.int) h0 hk
  exact⟨_,hS,_,e,q i H (Same.refl _)⟩
 ·refine⟨Nat.zero_le _,fun p hp=>?_⟩
  have s1:=z07 hp (.lst [])
  refine⟨_,q1k (s1.seq hS) (q00 ns) (SqL.of z04),?_⟩
  split
  ·exact q 0 _ s1
  ·rename_i hne
   have hl:0 < (ns.length:Int):=by
    cases ns with
    | nil=>exact absurd rfl hne
    | cons a r=>simp only[List.length_cons]; omega
   obtain⟨i,_,e⟩:=zke (c:=V.int) (ns:=ns) (k:=k % (ns.length:Int)) (Int.emod_nonneg _ (by omega)) (Int.emod_lt_of_pos _ hl)
   exact⟨_,q2d (s1.seq hS),by rw [List.length_map]; exact hl,_,s1.seq hS,_,by rw [List.length_map]; exact e,i,rfl,.inr ⟨by decide,by decide⟩,q _ _ s1⟩
def zqw(K:PySem.W.Frag):Sp:=fun vs H Q _=>∃(a:Addr) (ns:List Int) (k m:Int),vs=[.ref a,.int k,.int m]/\SqL K H a (ns.map V.int)/\0<=k/\0 < m/\∀(i:Int) (H':Hp),0<=i->i < m->Same H H'->Q (.int i) H'
theorem zxf(F:Fun K "_law_pick" "_law_pick" z2f f fd) (c_law_cell:Callee P w K mg base "_law_cell" ["_law_script","_law_k"] 1 (zvq K)):FnOk P w K mg base CX0 2 f fd ["_law_script","_law_k","_law_many"] (zqw K):=by
 refine F.ok sc_law_pick (fun vs H Q E h=>?_) (fun cdv A outer s H vs Q E hr h=>?_)
 ·obtain⟨a,ns,k,m,rfl,_⟩:=h
  rfl
 obtain⟨a,ns,k,m,rfl,hS,h0,hm,q⟩:=h
 refine⟨_,(z02 (z1m (i:=3) sc_law_pick.nd rfl z8e (z28 zny (z28 zf4 (z28 z64 (z0w c_law_cell hr (by omega) (z08 (z00 (i:=0) rfl z7p z0z z10) (z08 (z00 (i:=1) rfl z6o z29 z2a) z01)) z9z zlx) (z28 zf4 z03 (z28 z64 (z00 (i:=1) rfl z6o z29 z2a) z03))) z03) z03) (z06 rfl))
 (z05 (z0b (z28 zny (z28 zny (z28 z64 (z28 zf4 (z00 (i:=3) rfl z3f z8n z8q) (z00 (i:=3) rfl z3f z8n z8q)) (z28 zxd (z00 (i:=3) rfl z3f z8n z8q) z03)) z03) (z00 (i:=2) rfl z97 zlv zm2))))),?_⟩
 walk_at "rd"
 refine⟨a,ns,k,rfl,hS,h0,fun i H' s1=>?_⟩
 walk_at "rd"
 refine⟨.inl ⟨by decide,by decide⟩,.inr ⟨by decide,by decide⟩,by decide,?_⟩
 have e1:0<=(i+6151 * (k+1)) * 40692 % 2147483399:=Int.emod_nonneg _ (by decide)
 have e2:(i+6151 * (k+1)) * 40692 % 2147483399 < 2147483399:=Int.emod_lt_of_pos _ (by decide)
 refine⟨.inl ⟨by omega,by omega⟩,⟨by decide,by decide⟩,by decide,hm,q _ _ (Int.emod_nonneg _ (by omega)) (Int.emod_lt_of_pos _ hm) s1⟩
structure Df(K:PySem.W.Frag)(mg:Str->Option Value)(x:Str)(st:Stmt)(ps:List Str)(f:Addr)(fd:FuncData):Prop where
 F:Fun K x x st f fd
 m:mg x=some (.ref f)
 b:Binds K fd ps []
theorem Df.callee{x:Str}{st:Stmt}{ps:List Str}{k:Nat}{sp:Sp}(d:Df K mg x st ps f fd)(h:FnOk P w K mg base CX0 k f fd ps sp):Callee P w K mg base x ps k sp:=⟨f,fd,h,d.m,d.F.kp,d.b⟩
theorem z8c{H H':Hp}{p:Addr}{o:HO}(s:Same H H')(h:H p=none):Same H (upd H' p o):=fun b u q=>by rw [z0s (z1q q h)]; exact s b u q
end
theorem zin{K:PySem.W.Frag}{ta:TA}{g:TG}{tb:TS}{D:Ends}{σ : St}{H:Hp}:ztq (zw4 K ta) g tb D σ H=ta σ H fun vs H1=>∃a,vs=[.ref a]/\(∃xs,SqT K H1 a xs)/\zvj (zz3 K a) g tb D σ H1:=rfl
theorem zqo{K:PySem.W.Frag}{ta:TA}{g:TG}{tb:TS}{D:Ends}{σ : St}{H:Hp}:ztq (zxv K ta) g tb D σ H=ta σ H fun vs H1=>∃a b,vs=[.ref a,.ref b]/\(∃xs,SqT K H1 a xs)/\(∃ys,SqT K H1 b ys)/\zvj (q0v K a b) g tb D σ H1:=rfl
theorem zp3{ta:TA}{g:TG}{tt:TT}{te:TE}{mp:List (Option Nat)}{σ : St}{H:Hp}{Q:VK}:zjf (zxw ta) g tt te mp σ H Q=ta σ H fun vs H1=>∃i j:Int,vs=[.int i,.int j]/\(-(2 ^ 62)<=i/\i < 2 ^ 62/\-(2 ^ 62)<=j/\j < 2 ^ 62)/\zaw (Itr i (j - i).toNat) g tt te Q (subσ mp σ) H1:=rfl
local macro_rules | `(tactic| walk_at "rd7")=>`(tactic| simp only[zp3,tCallV,zqo,tPar3,tMaxD,tItems,rItems,qSum,rCountL,tDGet2,tComp_enumT,zvm,zyo,zow,tOp,zqc,tC,zws,zft,zxz,zpz,zz1,zyk,zqm,zp1,zoz,tCB,zi4,zwq,zmg,tUn,rU,rI0,rI,zyp,tOr,zyl,tB,zp4,zz9,zoy,tIf,zyn,zqn,zkk,zp2,ziq,zpa,zio,zqp,zgc,zqr,tSl,zdz,zox,zys,zgd,zku,zrf,zpd,z9o,zin,zc8,z9l,z9r,zhr,zt7,z8o,zew,zne,zhs,zbs,z8p,zbt,zk8,zht,zbu,ze0,zkl,zzi,q28,tDX,q21,zyj,zym,tBM,
 qEq,qNe,qIn,zkv,zyx,zpc,zzm,zre,zyw,zpg,zyy,zyv,zpe,zpf,ziw,rIx,zx1,zjj,zyu,zzl,zzj,zrd,zzk,zyt,ze3,ze2,zim,zkm,ztv,
 zc9,z9n,z9m,z9p,z7s,z9q,L2.start,zly,z83,zdb,List.map_cons,List.map_nil,List.length_cons,List.length_nil,List.replicate_succ,List.replicate_zero,Nat.reduceAdd,Nat.reduceSub,Nat.zero_add,Nat.add_zero,Nat.sub_zero,Nat.sub_self,Nat.add_sub_cancel,
 List.getElem?_cons_zero,List.getElem?_cons_succ,List.set_cons_zero,List.set_cons_succ,List.cons_append,List.nil_append,List.append_nil,List.cons.injEq,Option.some.injEq,V.int.injEq,V.ref.injEq,V.str.injEq,V.bl.injEq,V.ty.injEq,
 reduceCtorEq,false_and,and_false,and_true,true_and,exists_false,exists_const,false_or,or_false,exists_eq_left,exists_eq_left',exists_eq_right,exists_eq_right',exists_and_left,decide_eq_true_eq,Bool.not_eq_true',Bool.decide_eq_true,exists_eq,true_or,or_true,Bool.false_eq_true,if_true,if_false,Bool.true_eq_false,Bool.not_true,Bool.not_false,decide_true,decide_false,List.isEmpty_cons,List.isEmpty_nil,Bool.true_and,Bool.false_and,bne_self_eq_false,beq_self_eq_true])
local macro_rules | `(tactic| walk_at "rd")=>`(tactic| simp only[zvm,zyo,zow,tOp,zqc,tC,zws,zft,zxz,zpz,zz1,zyk,zqm,zp1,zoz,tCB,zi4,zwq,zmg,tUn,rU,rI0,rI,zyp,tOr,zyl,tB,zp4,zz9,zoy,tIf,zyn,zqn,zkk,zp2,ziq,zpa,zio,zqp,zgc,zqr,tSl,zdz,zox,zys,zgd,zku,zrf,zpd,z9o,zc8,z9l,z9r,zyj,zym,tBM,
 qEq,qNe,qIn,zkv,zyx,zpc,zzm,zre,zyw,zpg,zyy,zyv,zpe,zpf,ziw,rIx,zx1,zjj,zyu,zzl,zgj,zzj,zrd,zzk,zyt,ze3,ze2,zim,zkm,ztv,
 zc9,z9n,z9m,z9p,z7s,z9q,L2.start,zly,z83,zdb,List.map_cons,List.map_nil,List.length_cons,List.length_nil,List.replicate_succ,List.replicate_zero,Nat.reduceAdd,Nat.reduceSub,Nat.zero_add,Nat.add_zero,Nat.sub_zero,Nat.sub_self,Nat.add_sub_cancel,
 List.getElem?_cons_zero,List.getElem?_cons_succ,List.set_cons_zero,List.set_cons_succ,List.cons_append,List.nil_append,List.append_nil,List.cons.injEq,Option.some.injEq,V.int.injEq,V.ref.injEq,V.str.injEq,V.bl.injEq,V.ty.injEq,
 reduceCtorEq,false_and,and_false,and_true,true_and,exists_false,exists_const,false_or,or_false,exists_eq_left,exists_eq_left',exists_eq_right,exists_eq_right',exists_and_left,decide_eq_true_eq,Bool.not_eq_true',Bool.decide_eq_true,exists_eq,true_or,or_true,Bool.false_eq_true,if_true,if_false,Bool.true_eq_false,Bool.not_true,Bool.not_false,decide_true,decide_false,List.isEmpty_cons,List.isEmpty_nil,Bool.true_and,Bool.false_and,bne_self_eq_false,beq_self_eq_true])
local macro_rules | `(tactic| walk_at "rw")=>`(tactic| simp only[zvm,zqq,q13,q1b,zyo,zow,tOp,zqc,tC,zws,zft,zxz,zpz,zz1,zyk,zqm,zp1,zoz,tCB,zi4,zwq,zmg,tUn,rU,rI0,rI,zyp,tOr,zyl,tB,zp4,zz9,zoy,tIf,zyn,zqn,zkk,zp2,ziq,zpa,zio,zqp,zgc,zqr,tSl,zdz,zox,zys,zgd,zku,zrf,zpd,z9o,zc8,z9l,z9r,zyj,zym,tBM,
 qEq,qNe,qIn,zkv,zyx,zpc,zzm,zre,zyw,zpg,zyy,zyv,zpe,zpf,ziw,rIx,zx1,zjj,zyu,zzl,zzj,zrd,zzk,zyt,ze3,ze2,zim,zkm,ztv,
 zc9,z9n,z9m,z9p,z7s,z9q,L2.start,zly,z83,zdb,List.map_cons,List.map_nil,List.length_cons,List.length_nil,List.replicate_succ,List.replicate_zero,Nat.reduceAdd,Nat.reduceSub,Nat.zero_add,Nat.add_zero,Nat.sub_zero,Nat.sub_self,Nat.add_sub_cancel,
 List.getElem?_cons_zero,List.getElem?_cons_succ,List.set_cons_zero,List.set_cons_succ,List.cons_append,List.nil_append,List.append_nil,List.cons.injEq,Option.some.injEq,V.int.injEq,V.ref.injEq,V.str.injEq,V.bl.injEq,V.ty.injEq,
 reduceCtorEq,false_and,and_false,and_true,true_and,exists_false,exists_const,false_or,or_false,exists_eq_left,exists_eq_left',exists_eq_right,exists_eq_right',exists_and_left,decide_eq_true_eq,Bool.not_eq_true',Bool.decide_eq_true,exists_eq,true_or,or_true,Bool.false_eq_true,if_true,if_false,Bool.true_eq_false,Bool.not_true,Bool.not_false,decide_true,decide_false,List.isEmpty_cons,List.isEmpty_nil,Bool.true_and,Bool.false_and,bne_self_eq_false,beq_self_eq_true])
section
variable{P:Program}{w:World}{K:PySem.W.Frag}{mg:Str->Option Value}{base:Heap}{f:Addr}{fd:FuncData}
theorem zf2{a b:TS}{D:Ends}{σ : St}{H:Hp}(h:∀N:St->Hp->Prop,N=b D->a {D with nx:=N} σ H):zvm a b D σ H:=h _ rfl
def z67:S->Dm
 | none=>.non
 | some (a,b)=>.tup [.int a,.int b]
theorem zd1(s:S):(z67 s).shut=true/\SeqAt.shaped (z67 s).dat=true:=by
 match s with
 | none=>exact⟨rfl,rfl⟩
 | some (a,b)=>exact⟨rfl,rfl⟩
theorem zoe(s t:S):PyData.eqv (z67 s).dat (z67 t).dat=decide (s=t):=by
 match s,t with
 | none,none=>rfl
 | none,some (c,d)=>rfl
 | some (a,b),none=>rfl
 | some (a,b),some (c,d)=>
  simp only[z67,Dm.dat,zfx,PyData.eqv,PyData.eqvAll,Bool.and_true]
  rw [Bool.eq_iff_iff]
  simp
theorem zj6{H:Hp}{x y:V}{s t:S}(h:Dt H x (z67 s))(k:Dt H y (z67 t)):EqD H x y (decide (s=t)):=
 ⟨_,_,h,k,zd1 s,zd1 t,(zoe s t).symm⟩
theorem dtS{H:Hp}{x:V}{s:S}(h:Dt H x (z67 s)):(s=none/\x=.non)\/∃a b p,s=some (a,b)/\x=.ref p/\H p=some (.tup [.int a,.int b]):=by
 match s,h with
 | none,.non=>exact .inl ⟨rfl,rfl⟩
 | some (a,b),.tup e r=>
  rcases r with _ | ⟨r1,_ | ⟨r2,_ | _⟩⟩
  cases r1; cases r2
  exact .inr ⟨a,b,_,rfl,rfl,e⟩
theorem z4y{H:Hp}{p:Addr}{a b:Int}(h:H p=some (.tup [.int a,.int b])):Dt H (.ref p) (z67 (some (a,b))):=.tup h (.cons (.int a) (.cons (.int b) .nil))
theorem eqW{H:Hp}(w v:Wd):q1x K (.str w.str) (.str v.str) H (decide (w=v)):=.inl ⟨rfl,by cases w<;>cases v<;>decide+kernel⟩
def zmh:Sp:=fun vs H Q _=>∃(w:Wd) (a b:Int),vs=[.str w.str,.int a,.int b]/\(w=.quo->b≠0)/\b.natAbs < 1073741824/\Q (.int (w.worth a b)) H
theorem zmp(F:Fun K "worth_of" "worth_of" z2n f fd) (b_min:mg "min" = none) (b_max:mg "max" = none):FnOk P w K mg base CX0 1 f fd ["word","one","other"] zmh:=by
 refine F.ok zmk (fun vs H Q E h=>?_) (fun cdv A outer s H vs Q E hr h=>?_)
 ·obtain⟨w,a,b,rfl,_⟩:=h
  rfl
 obtain⟨w,a,b,rfl,hq,hb,q⟩:=h
 refine⟨_,(z02 (z1h (z0c (gEq hr.units) (z00 (i:=0) rfl z1w z4h z4i) z0p (z0f _)) (z05 (z0b (z28 z64 (z00 (i:=1) rfl z1r z1e z1g) (z00 (i:=2) rfl z18 z0j z0k)))) z0d)
 (z02 (z1h (z0c (gEq hr.units) (z00 (i:=0) rfl z1w z4h z4i) z0p (z0f _)) (z05 (z0b (z28 zgp (z00 (i:=1) rfl z1r z1e z1g) (z00 (i:=2) rfl z18 z0j z0k)))) z0d)
 (z02 (z1h (z0c (gEq hr.units) (z00 (i:=0) rfl z1w z4h z4i) z0p (z0f _)) (z05 (z0b (z28 zf4 (z00 (i:=1) rfl z1r z1e z1g) (z00 (i:=2) rfl z18 z0j z0k)))) z0d)
 (z02 (z1h (z0c (gEq hr.units) (z00 (i:=0) rfl z1w z4h z4i) z0p (z0f _)) (z05 (z0b (z28 znz (z00 (i:=1) rfl z1r z1e z1g) (z00 (i:=2) rfl z18 z0j z0k)))) z0d)
 (z02 (z1h (z0c (gEq hr.units) (z00 (i:=0) rfl z1w z4h z4i) z0p (z0f _)) (z05 (z0b (z72 (z0c zxc (z00 (i:=1) rfl z1r z1e z1g) (z00 (i:=2) rfl z18 z0j z0k) (z0f _)) z03 z03))) z0d)
 (z02 (z1h (z0c (gEq hr.units) (z00 (i:=0) rfl z1w z4h z4i) z0p (z0f _)) (z05 (z0b (z72 (z0c zl2 (z00 (i:=1) rfl z1r z1e z1g) (z00 (i:=2) rfl z18 z0j z0k) (z0f _)) z03 z03))) z0d)
 (z02 (z1h (z0c (gEq hr.units) (z00 (i:=0) rfl z1w z4h z4i) z0p (z0f _)) (z05 (z0b (z53 (z86 rfl) zhg b_min zbb (z08 (z00 (i:=1) rfl z1r z1e z1g) (z08 (z00 (i:=2) rfl z18 z0j z0k) z01)) zb0 zb5))) z0d)
 (z05 (z0b (z53 (z87 rfl) zhh b_max zbc (z08 (z00 (i:=1) rfl z1r z1e z1g) (z08 (z00 (i:=2) rfl z18 z0j z0k) z01)) zb1 zb6)))))))))),?_⟩
 walk_at "rd"
 have hm:CMul a b:=.inr ⟨by omega,by omega⟩
 refine⟨_,eqW w .add,?_⟩
 split
 ·rename_i e; cases of_decide_eq_true e; exact q
 rename_i n1
 refine⟨_,eqW w .sub,?_⟩
 split
 ·rename_i e; cases of_decide_eq_true e; exact q
 rename_i n2
 refine⟨_,eqW w .mul,?_⟩
 split
 ·rename_i e; cases of_decide_eq_true e; exact⟨hm,q⟩
 rename_i n3
 refine⟨_,eqW w .quo,?_⟩
 split
 ·rename_i e; cases of_decide_eq_true e; exact⟨⟨hq rfl,hb⟩,q⟩
 rename_i n4
 refine⟨_,eqW w .less,?_⟩
 split
 ·rename_i e; cases of_decide_eq_true e
  have q:Q (.int (if a < b then 1 else 0)) H:=q
  split
  ·rename_i c; rw [if_pos c] at q; exact q
  ·rename_i c; rw [if_neg c] at q; exact q
 rename_i n5
 refine⟨_,eqW w .same,?_⟩
 split
 ·rename_i e; cases of_decide_eq_true e
  have q:Q (.int (if a=b then 1 else 0)) H:=q
  split
  ·rename_i c; rw [if_pos c] at q; exact q
  ·rename_i c; rw [if_neg c] at q; exact q
 rename_i n6
 refine⟨_,eqW w .min,?_⟩
 split
 ·rename_i e; cases of_decide_eq_true e; exact⟨_,_,⟨rfl,rfl⟩,q⟩
 rename_i n7
 have e:w=.max:=by
  cases w<;>first | rfl | exact absurd rfl (by assumption)
 cases e
 exact⟨_,_,⟨rfl,rfl⟩,q⟩
def z7t:Sp:=fun vs H Q _=>∃(l h:Int),vs=[.int l,.int h]/\∀(r:V) (H':Hp),Same H H'->Dt H' r (z67 (bet l h))->Q r H'
theorem zpp(F:Fun K "between" "between" z5e f fd):FnOk P w K mg base CX0 1 f fd ["low","high"] z7t:=by
 refine F.ok zp9 (fun vs H Q E h=>?_) (fun cdv A outer s H vs Q E hr h=>?_)
 ·obtain⟨l,h,rfl,_⟩:=h
  rfl
 obtain⟨l,h,rfl,q⟩:=h
 refine⟨_,(z02 (z1h (z0c zzw (z00 (i:=0) rfl z9k zsw zte) (z00 (i:=1) rfl z8w zn9 zni) (z0f _)) (z05 (z0b z23)) z0d)
 (z05 (z0b (z0y (z08 (z00 (i:=0) rfl z9k zsw zte) (z08 (z00 (i:=1) rfl z8w zn9 zni) z01)))))),?_⟩
 walk_at "rd"
 split
 ·rename_i c
  rw [show bet l h=none from if_pos c] at q
  exact q _ _ (Same.refl _) .non
 ·rename_i c
  rw [show bet l h=some (l,h) from if_neg c] at q
  exact⟨zl 2 (by decide),fun p hp=>q _ _ (z07 hp _) (z4y z04)⟩
def zqu(g:S->S->S):Sp:=fun vs H Q _=>∃(x y:V) (s t:S),vs=[x,y]/\Dt H x (z67 s)/\Dt H y (z67 t)/\∀(r:V) (H':Hp),Same H H'->Dt H' r (z67 (g s t))->Q r H'
theorem zrx(F:Fun K "joined" "joined" z5d f fd) (b_min:mg "min" = none) (b_max:mg "max" = none):FnOk P w K mg base CX0 1 f fd ["one","other"] (zqu q08):=by
 refine F.ok zr9 (fun vs H Q E h=>?_) (fun cdv A outer s H vs Q E hr h=>?_)
 ·obtain⟨x,y,s,t,rfl,_⟩:=h
  rfl
 obtain⟨x,y,s,t,rfl,hx,hy,q⟩:=h
 refine⟨_,(z02 (z1h (z0c zkg (z00 (i:=0) rfl z5y z1e z1g) z23 (z0f _)) (z05 (z0b (z00 (i:=1) rfl z4o z0j z0k))) z0d)
 (z02 (z1h (z0c zkg (z00 (i:=1) rfl z4o z0j z0k) z23 (z0f _)) (z05 (z0b (z00 (i:=0) rfl z5y z1e z1g))) z0d)
 (z05 (z0b (z0y (z08 (z53 (z86 rfl) zjz b_min zbb (z08 (z0e z0a (z00 (i:=0) rfl z5y z1e z1g) z03 (fun _ _=>rfl)) (z08 (z0e z0a (z00 (i:=1) rfl z4o z0j z0k) z03 (fun _ _=>rfl)) z01)) zb0 zb5) (z08 (z53 (z87 rfl) zk0 b_max zbc (z08 (z0e z0a (z00 (i:=0) rfl z5y z1e z1g) z03 (fun _ _=>rfl)) (z08 (z0e z0a (z00 (i:=1) rfl z4o z0j z0k) z03 (fun _ _=>rfl)) z01)) zb1 zb6) z01))))))),zf2 fun N1 e1=>?_⟩
 rcases dtS hx with⟨rfl,rfl⟩ | ⟨a,b,p,rfl,rfl,hp⟩<;>rcases dtS hy with⟨rfl,rfl⟩ | ⟨c,d,p2,rfl,rfl,hp2⟩<;>walk_at "rd"
 ·exact q _ _ (Same.refl _) hy
 ·exact q _ _ (Same.refl _) hy
 ·rw [e1]
  walk_at "rd"
  exact q _ _ (Same.refl _) hx
 ·rw [e1]
  walk_at "rd"
  exact⟨_,SqT.of hp,_,rfl,_,SqT.of hp2,_,rfl,_,_,⟨rfl,rfl⟩,_,SqT.of hp,_,rfl,_,SqT.of hp2,_,rfl,_,_,⟨rfl,rfl⟩,zl 2 (by decide),fun p3 hp3=>q _ _ (z07 hp3 _) (z4y z04)⟩
def zww:S->S->S
 | some (a,b),some (c,d)=>some (if(a=c/\b=d)/\a=b then 1 else 0,if zdo (some (a,b)) (some (c,d))≠none then 1 else 0)
 | _,_=>none
theorem zcf(F:Fun K "stretch_of_same" "stretch_of_same" z0i f fd) (c_met:Callee P w K mg base "met" ["one","other"] 2 (zqu zdo)):FnOk P w K mg base CX0 3 f fd ["one","other"] (zqu zww):=by
 refine F.ok sc_stretch_of_same (fun vs H Q E h=>?_) (fun cdv A outer s H vs Q E hr h=>?_)
 ·obtain⟨x,y,s,t,rfl,_⟩:=h
  rfl
 obtain⟨x,y,s,t,rfl,hx,hy,q⟩:=h
 refine⟨_,(z02 (z1h (PW.pt (zmn (z0c zkg (z00 (i:=0) rfl z1o z1e z1g) z23 (z0f _)) (zgk (z0c zkg (z00 (i:=1) rfl z2w z0j z0k) z23 (z0f _))))) (z05 (z0b z23)) z0d)
 (z02 (z1m (i:=2) sc_stretch_of_same.nd rfl z6s (zvw (z9u (dEq hr.units) (z00 (i:=0) rfl z1o z1e z1g) (z00 (i:=1) rfl z2w z0j z0k) (z0f _)) (zvv (z9u zl2 (z0e z0a (z00 (i:=0) rfl z1o z1e z1g) z03 (fun _ _=>rfl)) (z0e z0a (z00 (i:=0) rfl z1o z1e z1g) z03 (fun _ _=>rfl)) (z0f _)))) (z06 rfl))
 (z02 (z1m (i:=3) sc_stretch_of_same.nd rfl z6x (z9u zuz (z0w c_met hr (by omega) (z08 (z00 (i:=0) rfl z1o z1e z1g) (z08 (z00 (i:=1) rfl z2w z0j z0k) z01)) z99 zj9) z23 (z0f _)) (z06 rfl))
 (z05 (z0b (z0y (z08 (z72 (z8z (z00 (i:=2) rfl z6n zq1 zq6)) z03 z03) (z08 (z72 (z8z (z00 (i:=3) rfl z6w zlu zm1)) z03 z03) z01)))))))),zf2 fun N1 e1=>?_⟩
 rcases dtS hx with⟨rfl,rfl⟩ | ⟨a,b,p,rfl,rfl,hp⟩<;>rcases dtS hy with⟨rfl,rfl⟩ | ⟨c,d,p2,rfl,rfl,hp2⟩<;>walk_at "rd"
 ·exact q _ _ (Same.refl _) .non
 ·exact q _ _ (Same.refl _) .non
 ·exact q _ _ (Same.refl _) .non
 ·rw [e1]
  walk_at "rd"
  have fin:∀u:Int,u=(if(a=c/\b=d)/\a=b then 1 else 0)->zqu zdo [V.ref p,V.ref p2] H (fun x H1=>
    if decide (x=V.non)=false then 2<=sizeLine/\∀(p:Addr),H1 p=none->Q (V.ref p) (upd H1 p (HO.tup [V.int u,V.int 1]))
    else 2<=sizeLine/\∀(p:Addr),H1 p=none->Q (V.ref p) (upd H1 p (HO.tup [V.int u,V.int 0]))) E0:=by
   intro u hu
   refine⟨_,_,_,_,rfl,hx,hy,fun r H' s1 dr=>?_⟩
   have hF:∀v:Int,v=(if zdo (some (a,b)) (some (c,d))≠none then 1 else 0)->zww (some (a,b)) (some (c,d))=some (u,v):=by
    intro v hv
    rw [hu,hv]; rfl
   rcases dtS dr with⟨e,rfl⟩ | ⟨a1,b1,p3,e,rfl,_⟩
   ·dsimp only
    rw [if_neg (by simp)]
    rw [hF 0 (by rw [if_neg (by rw [e]; simp)])] at q
    exact⟨zl 2 (by decide),fun p3 hp3=>q _ _ (s1.trans (z07 hp3 _)) (z4y z04)⟩
   ·dsimp only
    rw [if_pos (by simp)]
    rw [hF 1 (by rw [if_pos (by rw [e]; simp)])] at q
    exact⟨zl 2 (by decide),fun p3 hp3=>q _ _ (s1.trans (z07 hp3 _)) (z4y z04)⟩
  refine⟨_,zj6 hx hy,?_⟩
  split
  ·rename_i e
   have e:=of_decide_eq_true e
   injection e with e
   injection e with e1 e2
   refine⟨_,SqT.of hp,_,rfl,_,SqT.of hp,_,rfl,_,rfl,_,rfl,?_⟩
   by_cases hab:a=b
   ·simp only[if_pos hab]
    exact fin 1 (by rw [if_pos ⟨⟨e1,e2⟩,hab⟩])
   ·simp only[if_neg hab]
    exact fin 0 (by rw [if_neg fun z=>hab z.2])
  ·rename_i e
   refine fin 0 (by rw [if_neg]; rintro⟨⟨h1,h2⟩,_⟩; exact e (decide_eq_true (by rw [h1,h2])))
def zyh(w:Wd)(s t r:S):Prop:=match s,t with
 | some (a,b),some (c,d)=>∃lo hi,r=some (lo,hi)/\Hull (z3b w a b c d) lo hi
 | _,_=>r=none
def zyd(w:Wd)(t:S):Prop:=match t with
 | none=>True
 | some (c,d)=>(w=.quo->c≠0/\d≠0)/\c.natAbs < 1073741824/\d.natAbs < 1073741824
def zvp:Sp:=fun vs H Q _=>∃(w:Wd) (x y:V) (s t:S),vs=[.str w.str,x,y]/\Dt H x (z67 s)/\Dt H y (z67 t)/\zyd w t/\∀(r:V) (H':Hp) (o:S),Same H H'->zyh w s t o->Dt H' r (z67 o)->Q r H'
def q34(H:Hp)(w:Wd)(p2:Addr)(ns:List Int)(k:Int)(i:Nat)(ys:List V)(σ':St)(H':Hp):Prop:=H'=H/\(∃t,σ'=[t,some (.str w.str),some (.ref p2)])/\ys=((ns.take i).map fun x=>w.worth x k).map V.int
theorem zcg(F:Fun K "stretch_of_ends" "stretch_of_ends" z0l f fd) (b_min:mg "min" = none) (b_max:mg "max" = none) (c_worth_of:Callee P w K mg base "worth_of" ["word","one","other"] 1 zmh):FnOk P w K mg base CX0 2 f fd ["word","one","other"] zvp:=by
 refine F.ok sc_stretch_of_ends (fun vs H Q E h=>?_) (fun cdv A outer s H vs Q E hr h=>?_)
 ·obtain⟨w,x,y,s,t,rfl,_⟩:=h
  rfl
 obtain⟨w,x,y,s,t,rfl,hx,hy,hsm,q⟩:=h
 refine⟨_,(z02 (z1h (PW.pt (zmn (z0c zkg (z00 (i:=1) rfl z3e z1e z1g) z23 (z0f _)) (zgk (z0c zkg (z00 (i:=2) rfl z7b z0j z0k) z23 (z0f _))))) (z05 (z0b z23)) z0d)
 (z02 (zmo (i:=3) ["low_or_high","word","other"] [none,some 0,some 2] sc_stretch_of_ends.nd rfl z7v rfl (CompS.of (by rfl)) (zkx (z00 (i:=1) rfl z3e z1e z1g)) (fun _ _ _ _ _=>(z2d (i:=0) (show List.Nodup (["low_or_high","word","other"]:List Str) from by decide+kernel) rfl (Or.inl rfl))) (fun _ _ _ _ _=>z6q) (fun _ _ _ _ _=>(z0w c_worth_of hr (by omega) (z08 (z00 (i:=1) rfl (by first | exact Or.inl rfl | exact Or.inr (Or.inl rfl) | exact Or.inr (Or.inr rfl)) z4h z4i) (z08 (z00 (i:=0) rfl (by first | exact Or.inl rfl | exact Or.inr (Or.inl rfl) | exact Or.inr (Or.inr rfl)) zb7 zb9) (z08 (z0e (ixK (r:=zjj) (K:=K) z0a rfl) (z00 (i:=2) rfl (by first | exact Or.inl rfl | exact Or.inr (Or.inl rfl) | exact Or.inr (Or.inr rfl)) z0j z0k) z03 (fun _ _=>rfl)) z01))) rfl zhk)))
 (z02 (zgl (zuf PySem.F.plainAttrs_list PySem.F.slot_list_extend PySem.F.type_list_extend zl8 (z00 (i:=3) rfl z33 znc znj) (z08 (z9t ["low_or_high","word","other"] [none,some 0,some 2] rfl (CompS.of (by rfl)) (zkx (z00 (i:=1) rfl z3e z1e z1g)) (fun _ _ _ _ _=>(z2d (i:=0) (show List.Nodup (["low_or_high","word","other"]:List Str) from by decide+kernel) rfl (Or.inl rfl))) (fun _ _ _ _ _=>z6q) (fun _ _ _ _ _=>(z0w c_worth_of hr (by omega) (z08 (z00 (i:=1) rfl (by first | exact Or.inl rfl | exact Or.inr (Or.inl rfl) | exact Or.inr (Or.inr rfl)) z4h z4i) (z08 (z00 (i:=0) rfl (by first | exact Or.inl rfl | exact Or.inr (Or.inl rfl) | exact Or.inr (Or.inr rfl)) zb7 zb9) (z08 (z0e (ixK (r:=zjj) (K:=K) z0a rfl) (z00 (i:=2) rfl (by first | exact Or.inl rfl | exact Or.inr (Or.inl rfl) | exact Or.inr (Or.inr rfl)) z0j z0k) z03 (fun _ _=>rfl)) z01))) rfl zhk))) z01)) (z06 rfl))
 (z05 (z0b (z0y (z08 (z53 (zdh rfl) z9a b_min zbb (z08 (z00 (i:=3) rfl z33 znc znj) z01) zb0 zb5) (z08 (z53 (zdi rfl) z9b b_max zbc (z08 (z00 (i:=3) rfl z33 znc znj) z01) zb1 zb6) z01)))))))),zf2 fun N1 e1=>?_⟩
 rcases dtS hx with⟨rfl,rfl⟩ | ⟨a,b,p,rfl,rfl,hp⟩<;>rcases dtS hy with⟨rfl,rfl⟩ | ⟨c,d,p2,rfl,rfl,hp2⟩<;>walk_at "rd"
 ·exact q _ _ none (Same.refl _) rfl .non
 ·exact q _ _ none (Same.refl _) rfl .non
 ·exact q _ _ none (Same.refl _) rfl .non
 ·rw [e1]
  walk_at "rd"
  obtain⟨hq1,hc,hd⟩:=hsm
  have comp:∀(H1:Hp) (j k:Int) (t:Option V) (Q':VK),H1 p=some (.tup [.int a,.int b])->H1 p2=some (.tup [.int c,.int d])->atI [V.int c,V.int d] j=some (.int k)->(w=.quo->k≠0)->k.natAbs < 1073741824->
    (∀p3,H1 p3=none->Q' (.ref p3) (upd H1 p3 (.lst ([w.worth a k,w.worth b k].map V.int))))->
    zaw (Itt K p) (zft 0) ztv (zmg zmh [] E0 (zi4 (zqc 1) (zi4 (zqc 0) (zi4 (tOp (zjj K) (zqc 2) (tC (V.int j))) zwq)))) Q' [t,some (V.str w.str),some (V.ref p2)] H1:=by
   intro H1 j k t Q' g1 g2 hj hk0 hk fin
   refine zol (K:=K) (a:=p) (xs:=[a,b].map V.int) (q34 H1 w p2 [a,b] k) ⟨rfl,⟨_,rfl⟩,rfl⟩ (z2k (by simp)) ?_ ?_ ?_ ?_
   ·rintro i ys σ' H' ⟨_,_,rfl⟩
    rw [List.length_map,List.length_map,List.length_take]
    omega
   ·rintro i ys σ' H' _ ⟨rfl,_,_⟩
    exact SqT.of g1
   ·rintro i ys v σ' H' hxi ⟨rfl,⟨t,rfl⟩,rfl⟩
    rw [List.getElem?_map] at hxi
    cases hr':([a,b]:List Int)[i]? with
    | none=>rw [hr'] at hxi; cases hxi
    | some x=>
     rw [hr'] at hxi
     have ev:V.int x=v:=by simpa using hxi
     subst ev
     walk_at "rd"
     refine⟨_,SqT.of g2,_,hj,w,x,k,rfl,hk0,hk,rfl,⟨_,rfl⟩,?_⟩
     rw [List.take_add_one,hr',List.map_append,List.map_append]
     rfl
   ·rintro ys σ' H' ⟨rfl,_,rfl⟩ p3 hp3
    exact fin p3 hp3
  refine⟨⟨_,SqT.of hp⟩,comp H 0 c none _ hp hp2 rfl (fun e=>(hq1 e).1) hc fun p3 hp3=>?_⟩
  have s1:=z07 hp3 (.lst ([w.worth a c,w.worth b c].map V.int))
  have e3:(upd H p3 (.lst ([w.worth a c,w.worth b c].map V.int))) p3=_:=z04
  generalize upd H p3 (.lst ([w.worth a c,w.worth b c].map V.int))=U1 at s1 e3 |-
  refine⟨.inl ⟨rfl,_,SqL.of e3⟩,⟨_,SqT.of (s1 _ _ hp)⟩,comp U1 1 d none _ (s1 _ _ hp) (s1 _ _ hp2) rfl (fun e=>(hq1 e).2) hd fun p4 hp4=>?_⟩
  have s2:=z07 hp4 (.lst ([w.worth a d,w.worth b d].map V.int))
  have e4:(upd U1 p4 (.lst ([w.worth a d,w.worth b d].map V.int))) p4=_:=z04
  generalize upd U1 p4 (.lst ([w.worth a d,w.worth b d].map V.int))=U2 at s2 e4 |-
  have e5:upd U2 p3 (.lst (([w.worth a c,w.worth b c].map V.int)++([w.worth a d,w.worth b d].map V.int))) p3=some (.lst ((z3b w a b c d).map V.int)):=z04
  have s3:Same H (upd U2 p3 (.lst (([w.worth a c,w.worth b c].map V.int)++([w.worth a d,w.worth b d].map V.int)))):=z8c (s1.trans s2) hp3
  refine⟨_,rfl,_,rfl,_,s2 _ _ e3,_,e4,zl 4 (by decide),?_⟩
  generalize upd U2 p3 (.lst (([w.worth a c,w.worth b c].map V.int)++([w.worth a d,w.worth b d].map V.int)))=U3 at e5 s3 |-
  refine⟨_,rfl,_,SqL.of e5,by simp[z3b],fun lo hlo hlo2=>⟨_,rfl,_,SqL.of e5,by simp[z3b],fun hi hhi hhi2=>⟨zl 2 (by decide),fun p5 hp5=>?_⟩⟩⟩
  exact q _ _ (some (lo,hi)) (s3.trans (z07 hp5 _)) ⟨lo,hi,rfl,hlo,hhi,fun v hv=>⟨hlo2 v hv,hhi2 v hv⟩⟩ (z4y z04)
def OfRel(w:Wd)(s t r:S):Prop:=match s,t with
 | some (a,b),some (c,d)=>IsS w a b c d r
 | _,_=>r=none
def okS(n:Nat)(s:S):Prop:=match s with
 | none=>True
 | some (a,b)=>a<=b/\a.natAbs < n/\b.natAbs < n
def q15:Sp:=fun vs H Q _=>∃(w:Wd) (x y:V) (s t:S),vs=[.str w.str,x,y]/\Dt H x (z67 s)/\Dt H y (z67 t)/\okS 1073741824 s/\okS 1073741824 t/\∀(r:V) (H':Hp) (o:S),Same H H'->OfRel w s t o->Dt H' r (z67 o)->Q r H'
theorem zjp(F:Fun K "stretch_of" "stretch_of" z0o f fd) (b_min:mg "min" = none) (b_max:mg "max" = none) (c_between:Callee P w K mg base "between" ["low","high"] 1 z7t) (c_joined:Callee P w K mg base "joined" ["one","other"] 1 (zqu q08))
  (c_stretch_of_same:Callee P w K mg base "stretch_of_same" ["one","other"] 3 (zqu zww)) (c_stretch_of_ends:Callee P w K mg base "stretch_of_ends" ["word","one","other"] 2 zvp):FnOk P w K mg base CX0 4 f fd ["word","one","other"] q15:=by
 refine F.ok sc_stretch_of (fun vs H Q E h=>?_) (fun cdv A outer s H vs Q E hr h=>?_)
 ·obtain⟨w,x,y,s,t,rfl,_⟩:=h
  rfl
 obtain⟨w,x,y,s,t,rfl,hx,hy,hs,ht,q⟩:=h
 refine⟨_,(z02 (z1h (z0c (gEq hr.units) (z00 (i:=0) rfl z2h z4h z4i) z0p (z0f _)) (z05 (z0b (z0w c_stretch_of_same hr (by omega) (z08 (z00 (i:=1) rfl z3s z1e z1g) (z08 (z00 (i:=2) rfl z17 z0j z0k) z01)) z6e zd2))) z0d)
 (z02 (z1h (PW.pt (zvu (z0c (gEq hr.units) (z00 (i:=0) rfl z2h z4h z4i) z0p (z0f _)) (zrg (z0c zuz (z00 (i:=2) rfl z17 z0j z0k) z23 (z0f _))))) (z02 (z1m (i:=3) sc_stretch_of.nd rfl zan (z0w c_between hr (by omega) (z08 (z0e z0a (z00 (i:=2) rfl z17 z0j z0k) z03 (fun _ _=>rfl)) (z08 (z53 (z86 rfl) zel b_min zbb (z08 (z0e z0a (z00 (i:=2) rfl z17 z0j z0k) z03 (fun _ _=>rfl)) (z08 (q1c zz6 z03) z01)) zb0 zb5) z01)) z65 z4b) (z06 rfl))
 (z02 (z1m (i:=4) sc_stretch_of.nd rfl zao (z0w c_between hr (by omega) (z08 (z53 (z87 rfl) zem b_max zbc (z08 (z0e z0a (z00 (i:=2) rfl z17 z0j z0k) z03 (fun _ _=>rfl)) (z08 z03 z01)) zb1 zb6) (z08 (z0e z0a (z00 (i:=2) rfl z17 z0j z0k) z03 (fun _ _=>rfl)) z01)) z65 z4b) (z06 rfl))
 (z05 (z0b (z0w c_joined hr (by omega) (z08 (z0w c_stretch_of_ends hr (by omega) (z08 (z00 (i:=0) rfl z2h z4h z4i) (z08 (z00 (i:=1) rfl z3s z1e z1g) (z08 (z00 (i:=3) rfl zai zva zve) z01))) z25 z5g) (z08 (z0w c_stretch_of_ends hr (by omega) (z08 (z00 (i:=0) rfl z2h z4h z4i) (z08 (z00 (i:=1) rfl z3s z1e z1g) (z08 (z00 (i:=4) rfl zaj zvb zvf) z01))) z25 z5g) z01)) zaq zlt))))) z0d)
 (z05 (z0b (z0w c_stretch_of_ends hr (by omega) (z08 (z00 (i:=0) rfl z2h z4h z4i) (z08 (z00 (i:=1) rfl z3s z1e z1g) (z08 (z00 (i:=2) rfl z17 z0j z0k) z01))) z25 z5g))))),?_⟩
 walk_at "rd"
 refine⟨_,eqW w .same,?_⟩
 split
 ·rename_i e
  cases of_decide_eq_true e
  refine⟨x,y,s,t,rfl,hx,hy,fun r H' s1 dr=>q r H' _ s1 ?_ dr⟩
  match s,t,hs,ht with
  | none,none,_,_=>exact rfl
  | none,some (c,d),_,_=>exact rfl
  | some (a,b),none,_,_=>exact rfl
  | some (a,b),some (c,d),hs,ht=>exact znt hs.1 ht.1
 rename_i n1
 have n1:w≠.same:=fun z=>n1 (decide_eq_true z)
 refine⟨_,eqW w .quo,?_⟩
 split
 ·rename_i e
  cases of_decide_eq_true e
  rcases dtS hy with⟨rfl,rfl⟩ | ⟨c,d,p2,rfl,rfl,hp2⟩
  ·rw [if_neg (by simp)]
   refine⟨.quo,x,.non,s,none,rfl,hx,hy,trivial,fun r H' o s1 rel dr=>q r H' o s1 ?_ dr⟩
   match s,rel with
   | none,rel=>exact rel
   | some (a,b),rel=>exact rel
  ·rw [if_pos (by simp)]
   obtain⟨hcd,hc,hd⟩:=ht
   refine⟨_,rfl,_,SqT.of hp2,_,rfl,_,rfl,_,SqT.of hp2,_,rfl,_,_,⟨rfl,rfl⟩,_,_,rfl,fun r1 H1 s1 d1=>?_⟩
   have d1:Dt H1 r1 (z67 (bet c (mn d (-1)))):=d1
   refine⟨_,rfl,_,SqT.of (s1 _ _ hp2),_,rfl,_,_,⟨rfl,rfl⟩,_,rfl,_,SqT.of (s1 _ _ hp2),_,rfl,_,_,rfl,fun r2 H2 s2 d2=>?_⟩
   have d2:Dt H2 r2 (z67 (bet (mx c 1) d)):=d2
   have sm1:zyd .quo (bet c (mn d (-1))):=by
    unfold bet
    split
    ·trivial
    ·rename_i h
     unfold mn at h |-
     split at h<;>rename_i g<;>simp only[g,if_true,if_false]<;>exact⟨fun _=>⟨by omega,by omega⟩,by omega,by omega⟩
   have sm2:zyd .quo (bet (mx c 1) d):=by
    unfold bet
    split
    ·trivial
    ·rename_i h
     unfold mx at h |-
     split at h<;>rename_i g<;>simp only[g,if_true,if_false]<;>exact⟨fun _=>⟨by omega,by omega⟩,by omega,by omega⟩
   refine⟨.quo,x,r1,s,_,rfl,hx.kp (s1.trans s2).kp,d1.kp s2.kp,sm1,fun r3 H3 o3 s3 rel3 d3=>?_⟩
   refine⟨.quo,x,r2,s,_,rfl,hx.kp (s1.trans (s2.trans s3)).kp,d2.kp s3.kp,sm2,fun r4 H4 o4 s4 rel4 d4=>?_⟩
   refine⟨r3,r4,o3,o4,rfl,d3.kp s4.kp,d4,fun r5 H5 s5 d5=>q r5 H5 _ (s1.trans (s2.trans (s3.trans (s4.trans s5)))) ?_ d5⟩
   match s,hs,rel3,rel4 with
   | none,_,rel3,rel4=>
    have e3:o3=none:=by
     revert rel3
     cases bet c (mn d (-1))<;>exact id
    have e4:o4=none:=by
     revert rel4
     cases bet (mx c 1) d<;>exact id
    rw [e3,e4]; exact rfl
   | some (a,b),hs,rel3,rel4=>
    refine zx2 hs.1 hcd ?_ ?_
    ·revert rel3
     cases bet c (mn d (-1))<;>exact id
    ·revert rel4
     cases bet (mx c 1) d<;>exact id
 ·rename_i n2
  have n2:w≠.quo:=fun z=>n2 (decide_eq_true z)
  refine⟨w,x,y,s,t,rfl,hx,hy,?_,fun r H' o s1 rel dr=>q r H' o s1 ?_ dr⟩
  ·match t,ht with
   | none,_=>trivial
   | some (c,d),ht=>exact⟨fun z=>absurd z n2,ht.2.1,ht.2.2⟩
  ·match s,t,hs,ht,rel with
   | none,none,_,_,rel=>exact rel
   | none,some (c,d),_,_,rel=>exact rel
   | some (a,b),none,_,_,rel=>exact rel
   | some (a,b),some (c,d),hs,ht,rel=>
    obtain⟨lo,hi,rfl,hh⟩:=rel
    exact zd0 n1 hs.1 ht.1 (fun z=>absurd z n2) hh
end
section
variable{P:Program}{w:World}{K:PySem.W.Frag}{mg:Str->Option Value}{base:Heap}{f:Addr}{fd:FuncData}
def q23:Sp:=fun vs H Q _=>∃(w:Wd) (a b:Int),vs=[.str w.str,.int a,.int b]/\(w=.quo->b≠0)/\b.natAbs < 1073741824/\∀H',Same H H'->Q (.int (w.worth a b)) H'
theorem zgs(F:Fun K "_law_reckoned" "_law_reckoned" z1b f fd) (b_sorted:mg "sorted" = none):FnOk P w K mg base CX0 1 f fd ["_law_word","_law_one","_law_other"] q23:=by
 refine F.ok zgi (fun vs H Q E h=>?_) (fun cdv A outer s H vs Q E hr h=>?_)
 ·obtain⟨w,a,b,rfl,_⟩:=h
  rfl
 obtain⟨w,a,b,rfl,hq,hb,q⟩:=h
 refine⟨_,(z02 (z1h (z0c (gEq hr.units) (z00 (i:=0) rfl z0q z45 z47) z0p (z0f _)) (z05 (z0b (z28 z64 (z00 (i:=1) rfl z0t z4u z4v) (z00 (i:=2) rfl z0m z3k z3m)))) z0d)
 (z02 (z1h (z0c (gEq hr.units) (z00 (i:=0) rfl z0q z45 z47) z0p (z0f _)) (z05 (z0b (z28 zgp (z00 (i:=1) rfl z0t z4u z4v) (z00 (i:=2) rfl z0m z3k z3m)))) z0d)
 (z02 (z1h (z0c (gEq hr.units) (z00 (i:=0) rfl z0q z45 z47) z0p (z0f _)) (z05 (z0b (z28 zf4 (z00 (i:=1) rfl z0t z4u z4v) (z00 (i:=2) rfl z0m z3k z3m)))) z0d)
 (z02 (z1h (z0c (gEq hr.units) (z00 (i:=0) rfl z0q z45 z47) z0p (z0f _)) (z05 (z0b (z28 znz (z00 (i:=1) rfl z0t z4u z4v) (z00 (i:=2) rfl z0m z3k z3m)))) z0d)
 (z02 (z1h (z0c (gIn hr.units) (z00 (i:=0) rfl z0q z45 z47) (z0y (z08 z0p (z08 z0p z01))) (by with_unfolding_all rfl)) (z05 (z0b (z72 (zu6 (z0c (gEq hr.units) (z00 (i:=0) rfl z0q z45 z47) z0p (z0f _)) (z0c zxc (z00 (i:=1) rfl z0t z4u z4v) (z00 (i:=2) rfl z0m z3k z3m) (z0f _)) (z0c zl2 (z00 (i:=1) rfl z0t z4u z4v) (z00 (i:=2) rfl z0m z3k z3m) (z0f _))) z03 z03))) z0d)
 (z05 (z0b (z0e z3i (z53 zm4 z9c b_sorted zdj (z08 (z9s (z08 (z00 (i:=1) rfl z0t z4u z4v) (z08 (z00 (i:=2) rfl z0m z3k z3m) z01))) z01) zcj zd4) (z72 (z0c (gEq hr.units) (z00 (i:=0) rfl z0q z45 z47) z0p (z0f _)) z03 z03) (fun _ _=>rfl))))))))),?_⟩
 walk_at "rd"
 have hm:CMul a b:=.inr ⟨by omega,by omega⟩
 refine⟨_,eqW w .add,?_⟩
 split
 ·rename_i e; cases of_decide_eq_true e; exact q _ (Same.refl _)
 rename_i n1
 refine⟨_,eqW w .sub,?_⟩
 split
 ·rename_i e; cases of_decide_eq_true e; exact q _ (Same.refl _)
 rename_i n2
 refine⟨_,eqW w .mul,?_⟩
 split
 ·rename_i e; cases of_decide_eq_true e; exact⟨hm,q _ (Same.refl _)⟩
 rename_i n3
 refine⟨_,eqW w .quo,?_⟩
 split
 ·rename_i e; cases of_decide_eq_true e; exact⟨⟨hq rfl,hb⟩,q _ (Same.refl _)⟩
 rename_i n4
 refine⟨zl 2 (by decide),fun p hp=>?_⟩
 have s1:=z07 hp (HO.tup [V.str (Wd.str .less),V.str (Wd.str .same)])
 have e1:upd H p (HO.tup [V.str (Wd.str .less),V.str (Wd.str .same)]) p=_:=z04
 have hin:q2l K (V.str w.str) (V.ref p) (upd H p (HO.tup [V.str (Wd.str .less),V.str (Wd.str .same)])) (decide (w=.less\/w=.same)):=
  .inl ⟨p,_,rfl,.inr (SqT.of e1),rfl,rfl,by cases w<;>decide+kernel⟩
 refine⟨_,hin,?_⟩
 split
 ·rename_i e
  refine⟨_,eqW w .less,?_⟩
  split
  ·rename_i e; cases of_decide_eq_true e
   have q:Q (.int (if a < b then 1 else 0)) _:=q _ s1
   split
   ·rename_i c; rw [if_pos c] at q; exact q
   ·rename_i c; rw [if_neg c] at q; exact q
  ·rename_i e2
   have e:w=.same:=(of_decide_eq_true e).resolve_left fun z=>e2 (decide_eq_true z)
   cases e
   have q:Q (.int (if a=b then 1 else 0)) _:=q _ s1
   split
   ·rename_i c; rw [if_pos c] at q; exact q
   ·rename_i c; rw [if_neg c] at q; exact q
 ·rename_i e
  refine⟨zl 2 (by decide),fun p1 hp1=>⟨[a,b],SqL.of z04,by simp,fun l ms hl hpm hpw=>?_⟩⟩
  have s2:=z07 hp1 (HO.lst [V.int a,V.int b])
  have s3:=z07 hl (HO.lst (ms.map V.int))
  obtain⟨x,y,rfl⟩:∃x y,ms=[x,y]:=by
   have:=hpm.length_eq
   match ms,this with
   | [x,y],_=>exact⟨x,y,rfl⟩
  have hxy:x<=y:=by
   have:=List.pairwise_cons.mp hpw
   exact this.1 y (by simp)
  have hmem:(x=a/\y=b)\/(x=b/\y=a):=by
   have h1:x∈[a,b]:=hpm.mem_iff.mp (by simp)
   have h2:y∈[a,b]:=hpm.mem_iff.mp (by simp)
   have h3:a∈[x,y]:=hpm.mem_iff.mpr (by simp)
   have h4:b∈[x,y]:=hpm.mem_iff.mpr (by simp)
   simp only[List.mem_cons,List.not_mem_nil,or_false] at h1 h2 h3 h4
   omega
  refine⟨_,eqW w .min,?_⟩
  split
  ·rename_i e2; cases of_decide_eq_true e2
   refine⟨_,SqL.of z04,V.int x,rfl,?_⟩
   have q:Q (.int (if b < a then b else a)) _:=q _ (s1.trans (s2.trans s3))
   have ex:x=if b < a then b else a:=by split<;>omega
   rw [<- ex] at q; exact q
  ·rename_i e2
   have e5:w=.max:=by
    cases w<;>first | rfl | exact absurd rfl (by assumption)
   cases e5
   refine⟨_,SqL.of z04,V.int y,rfl,?_⟩
   have q:Q (.int (if b > a then b else a)) _:=q _ (s1.trans (s2.trans s3))
   have ex:y=if b > a then b else a:=by split<;>omega
   rw [<- ex] at q; exact q
end
theorem Same.seqT{K:PySem.W.Frag}{H H':Hp}{a:Addr}{xs:List V}(e:Same H H')(h:SqT K H a xs):SqT K H' a xs:=by
 rcases h with(h | ⟨o,h⟩) | h
 ·exact .inl (.inl (e _ _ h))
 ·exact .inl (.inr ⟨o,e _ _ h⟩)
 ·exact .inr h
def StK(K:PySem.W.Frag)(H:Hp)(x:V)(s:S):Prop:=(s=none/\x=.non)\/∃a b p,s=some (a,b)/\x=.ref p/\SqT K H p [.int a,.int b]
theorem StK.of{K:PySem.W.Frag}{H:Hp}{x:V}{s:S}(h:Dt H x (z67 s)):StK K H x s:=by
 rcases dtS h with h | ⟨a,b,p,h1,h2,h3⟩
 ·exact .inl h
 ·exact .inr ⟨a,b,p,h1,h2,SqT.of h3⟩
theorem StK.same{K:PySem.W.Frag}{H H':Hp}{x:V}{s:S}(h:StK K H x s)(e:Same H H'):StK K H' x s:=by
 rcases h with h | ⟨a,b,p,h1,h2,h3⟩
 ·exact .inl h
 ·exact .inr ⟨a,b,p,h1,h2,Same.seqT e h3⟩
theorem StK.fl{K:PySem.W.Frag}{H:Hp}{x:V}{s:S}(h:StK K H x s):FlK K H x (z67 s):=by
 rcases h with⟨rfl,rfl⟩ | ⟨a,b,p,rfl,rfl,h3⟩
 ·exact .inl .non
 ·exact .inr ⟨p,[a,b],rfl,rfl,h3⟩
theorem q0h{K:PySem.W.Frag}{H:Hp}{x y:V}{s t:S}(h:StK K H x s)(k:StK K H y t):EqK K H x y (decide (s=t)):=
 ⟨_,_,h.fl,k.fl,zd1 s,zd1 t,(zoe s t).symm⟩
section
variable{P:Program}{w:World}{K:PySem.W.Frag}{mg:Str->Option Value}{base:Heap}{f:Addr}{fd:FuncData}
theorem Callee.imp{x:Str}{ps:List Str}{k:Nat}{sp sp':Sp}(h:Callee P w K mg base x ps k sp)(i:∀vs H Q E,sp' vs H Q E->sp vs H Q E):Callee P w K mg base x ps k sp':=by
 obtain⟨f,fd,a,b,c,d⟩:=h
 exact⟨f,fd,a.imp i,b,c,d⟩
def ztx(K:PySem.W.Frag)(g:S->S->S):Sp:=fun vs H Q _=>∃(x y:V) (s t:S),vs=[x,y]/\StK K H x s/\StK K H y t/\∀(r:V) (H':Hp),Same H H'->Dt H' r (z67 (g s t))->Q r H'
theorem zwz{g:S->S->S}(vs:List V)(H:Hp)(Q:VK)(E:XK)(h:zqu g vs H Q E):ztx K g vs H Q E:=by
 obtain⟨x,y,s,t,e,h1,h2,q⟩:=h
 exact⟨x,y,s,t,e,.of h1,.of h2,q⟩
theorem zxh(F:Fun K "met" "met" zfj f fd) (b_min:mg "min" = none) (b_max:mg "max" = none) (c_between:Callee P w K mg base "between" ["low","high"] 1 z7t):FnOk P w K mg base CX0 2 f fd ["one","other"] (ztx K zdo):=by
 refine F.ok zze (fun vs H Q E h=>?_) (fun cdv A outer s H vs Q E hr h=>?_)
 ·obtain⟨x,y,s,t,rfl,_⟩:=h
  rfl
 obtain⟨x,y,s,t,rfl,hx,hy,q⟩:=h
 refine⟨_,(z02 (z1h (PW.pt (zmn (z0c zkg (z00 (i:=0) rfl zbd z1e z1g) z23 (z0f _)) (zgk (z0c zkg (z00 (i:=1) rfl z89 z0j z0k) z23 (z0f _))))) (z05 (z0b z23)) z0d)
 (z05 (z0b (z0w c_between hr (by omega) (z08 (z53 (z87 rfl) zpx b_max zbc (z08 (z0e z0a (z00 (i:=0) rfl zbd z1e z1g) z03 (fun _ _=>rfl)) (z08 (z0e z0a (z00 (i:=1) rfl z89 z0j z0k) z03 (fun _ _=>rfl)) z01)) zb1 zb6) (z08 (z53 (z86 rfl) zpw b_min zbb (z08 (z0e z0a (z00 (i:=0) rfl zbd z1e z1g) z03 (fun _ _=>rfl)) (z08 (z0e z0a (z00 (i:=1) rfl z89 z0j z0k) z03 (fun _ _=>rfl)) z01)) zb0 zb5) z01)) zif z4b)))),zf2 fun N1 e1=>?_⟩
 rcases hx with⟨rfl,rfl⟩ | ⟨a,b,p,rfl,rfl,hp⟩<;>rcases hy with⟨rfl,rfl⟩ | ⟨c,d,p2,rfl,rfl,hp2⟩<;>walk_at "rd"
 ·exact q _ _ (Same.refl _) .non
 ·exact q _ _ (Same.refl _) .non
 ·exact q _ _ (Same.refl _) .non
 ·rw [e1]
  walk_at "rd"
  exact⟨_,hp,_,rfl,_,hp2,_,rfl,_,_,⟨rfl,rfl⟩,_,hp,_,rfl,_,hp2,_,rfl,_,_,⟨rfl,rfl⟩,_,_,rfl,fun r H' s1 hr'=>q _ _ s1 hr'⟩
def zkp(K:PySem.W.Frag):Sp:=fun vs H Q _=>∃(x y:V) (s t:S),vs=[x,y]/\StK K H x s/\StK K H y t/\∀(H':Hp),Same H H'->Q (.bl (z6m s t)) H'
theorem zjq(F:Fun K "is_within" "is_within" z2y f fd) (c_met:Callee P w K mg base "met" ["one","other"] 2 (ztx K zdo)):FnOk P w K mg base CX0 3 f fd ["one","other"] (zkp K):=by
 refine F.ok zks (fun vs H Q E h=>?_) (fun cdv A outer s H vs Q E hr h=>?_)
 ·obtain⟨x,y,s,t,rfl,_⟩:=h
  rfl
 obtain⟨x,y,s,t,rfl,hx,hy,q⟩:=h
 refine⟨_,(z05 (z0b (z9u (kEq hr.units) (z0w c_met hr (by omega) (z08 (z00 (i:=0) rfl z7q z1e z1g) (z08 (z00 (i:=1) rfl zbe z0j z0k) z01)) zfr zj9) (z00 (i:=0) rfl z7q z1e z1g) (z0f _)))),?_⟩
 walk_at "rw"
 refine⟨x,y,s,t,rfl,hx,hy,fun r H' s1 dr=>?_⟩
 exact⟨_,q0h (.of dr) (hx.same s1),q _ s1⟩
end
def z2m(o:Int×Int)(v:Int):S:=if v=o.1 then bet (o.1+1) o.2 else if v=o.2 then bet o.1 (o.2 - 1) else some o
def z93(o p:Int×Int)(so:Bool):S:=if so=true then zdo (some o) (some p) else if p.1≠p.2 then some o else z2m o p.1
def z1p(w:Wd)(o p:Int×Int)(so:Bool):S:=if w=.same then z93 o p so else if so=true then bet o.1 (mn o.2 (p.2 - 1)) else bet (mx o.1 p.1) o.2
def z12(w:Wd)(o p:Int×Int)(so:Bool):S:=if w=.same then z93 o p so else if so=true then bet (mx o.1 (p.1+1)) o.2 else bet o.1 (mn o.2 p.2)
def z60(s:S)(so:Bool):S:=match s with
 | none=>none
 | some o=>if so=true then z2m o 0 else zdo (some o) (some (0,0))
section
variable{P:Program}{w:World}{K:PySem.W.Frag}{mg:Str->Option Value}{base:Heap}{f:Addr}{fd:FuncData}
theorem zy2{H:Hp}{x:V}{o:Int×Int}(h:Dt H x (z67 (some o))):∃p,x=.ref p/\H p=some (.tup [.int o.1,.int o.2]):=by
 rcases dtS h with⟨e,_⟩ | ⟨a,b,p,e,hx,hp⟩
 ·cases e
 ·cases e; exact⟨p,hx,hp⟩
def zge:Sp:=fun vs H Q _=>∃(x:V) (o:Int×Int) (v:Int),vs=[x,.int v]/\Dt H x (z67 (some o))/\∀(r:V) (H':Hp),Same H H'->Dt H' r (z67 (z2m o v))->Q r H'
theorem zpm(F:Fun K "without" "without" z4m f fd) (c_between:Callee P w K mg base "between" ["low","high"] 1 z7t):FnOk P w K mg base CX0 2 f fd ["own","worth"] zge:=by
 refine F.ok zp6 (fun vs H Q E h=>?_) (fun cdv A outer s H vs Q E hr h=>?_)
 ·obtain⟨x,o,v,rfl,_⟩:=h
  rfl
 obtain⟨x,o,v,rfl,hx,q⟩:=h
 obtain⟨p,rfl,hp⟩:=zy2 hx
 refine⟨_,(z02 (z1h (z0c zl2 (z00 (i:=1) rfl z7m zoh zoo) (z0e z0a (z00 (i:=0) rfl z2g z3w z3x) z03 (fun _ _=>rfl)) (z0f _)) (z05 (z0b (z0w c_between hr (by omega) (z08 (z28 z64 (z0e z0a (z00 (i:=0) rfl z2g z3w z3x) z03 (fun _ _=>rfl)) z03) (z08 (z0e z0a (z00 (i:=0) rfl z2g z3w z3x) z03 (fun _ _=>rfl)) z01)) z73 z4b))) z0d)
 (z02 (z1h (z0c zl2 (z00 (i:=1) rfl z7m zoh zoo) (z0e z0a (z00 (i:=0) rfl z2g z3w z3x) z03 (fun _ _=>rfl)) (z0f _)) (z05 (z0b (z0w c_between hr (by omega) (z08 (z0e z0a (z00 (i:=0) rfl z2g z3w z3x) z03 (fun _ _=>rfl)) (z08 (z28 zgp (z0e z0a (z00 (i:=0) rfl z2g z3w z3x) z03 (fun _ _=>rfl)) z03) z01)) z73 z4b))) z0d)
 (z05 (z0b (z00 (i:=0) rfl z2g z3w z3x))))),?_⟩
 walk_at "rd"
 refine⟨_,SqT.of hp,_,rfl,_,rfl,?_⟩
 split
 ·rename_i e
  refine⟨_,SqT.of hp,_,rfl,_,rfl,_,SqT.of hp,_,rfl,_,_,rfl,fun r H' s1 dr=>q r H' s1 ?_⟩
  unfold z2m
  rw [if_pos e]; exact dr
 ·rename_i e
  refine⟨_,SqT.of hp,_,rfl,_,rfl,?_⟩
  split
  ·rename_i e2
   refine⟨_,SqT.of hp,_,rfl,_,SqT.of hp,_,rfl,_,rfl,_,_,rfl,fun r H' s1 dr=>q r H' s1 ?_⟩
   unfold z2m
   rw [if_neg e,if_pos e2]; exact dr
  ·rename_i e2
   refine q _ _ (Same.refl _) ?_
   unfold z2m
   rw [if_neg e,if_neg e2]; exact hx
def q14(g:Int×Int->Int×Int->Bool->S):Sp:=fun vs H Q _=>∃(x y:V) (o p:Int×Int) (so:Bool),vs=[x,y,.bl so]/\Dt H x (z67 (some o))/\Dt H y (z67 (some p))/\∀(r:V) (H':Hp),Same H H'->Dt H' r (z67 (g o p so))->Q r H'
theorem zgr(F:Fun K "left_by_same" "left_by_same" z13 f fd) (c_met:Callee P w K mg base "met" ["one","other"] 2 (zqu zdo)) (c_without:Callee P w K mg base "without" ["own","worth"] 2 zge):FnOk P w K mg base CX0 3 f fd ["own","beside","is_so"] (q14 z93):=by
 refine F.ok zgh (fun vs H Q E h=>?_) (fun cdv A outer s H vs Q E hr h=>?_)
 ·obtain⟨x,y,o,p,so,rfl,_⟩:=h
  rfl
 obtain⟨x,y,o,p,so,rfl,hx,hy,q⟩:=h
 obtain⟨py,rfl,hpy⟩:=zy2 hy
 refine⟨_,(z02 (z1h (z8z (z00 (i:=2) rfl z96 z4q z4r)) (z05 (z0b (z0w c_met hr (by omega) (z08 (z00 (i:=0) rfl z4f z3w z3x) (z08 (z00 (i:=1) rfl z2b zd5 zdc) z01)) zbj zj9))) z0d)
 (z02 (z1h (z0c zzt (z0e z0a (z00 (i:=1) rfl z2b zd5 zdc) z03 (fun _ _=>rfl)) (z0e z0a (z00 (i:=1) rfl z2b zd5 zdc) z03 (fun _ _=>rfl)) (z0f _)) (z05 (z0b (z00 (i:=0) rfl z4f z3w z3x))) z0d)
 (z05 (z0b (z0w c_without hr (by omega) (z08 (z00 (i:=0) rfl z4f z3w z3x) (z08 (z0e z0a (z00 (i:=1) rfl z2b zd5 zdc) z03 (fun _ _=>rfl)) z01)) z8l zj7))))),?_⟩
 walk_at "rd"
 cases so with
 | true=>
  rw [if_pos rfl]
  exact⟨_,_,_,_,rfl,hx,hy,fun r H' s1 dr=>q r H' s1 dr⟩
 | false=>
  rw [if_neg (by simp)]
  refine⟨_,SqT.of hpy,_,rfl,_,SqT.of hpy,_,rfl,_,rfl,_,rfl,?_⟩
  by_cases e:p.1=p.2
  ·rw [if_neg (by simp[e])]
   refine⟨_,SqT.of hpy,_,rfl,_,_,_,rfl,hx,fun r H' s1 dr=>q r H' s1 ?_⟩
   unfold z93
   rw [if_neg (by simp),if_neg (by simp[e])]; exact dr
  ·rw [if_pos (by simp[e])]
   refine q _ _ (Same.refl _) ?_
   unfold z93
   rw [if_neg (by simp),if_pos e]; exact hx
def q0x(g:Wd->Int×Int->Int×Int->Bool->S):Sp:=fun vs H Q _=>∃(w:Wd) (x y:V) (o p:Int×Int) (so:Bool),vs=[.str w.str,x,y,.bl so]/\Dt H x (z67 (some o))/\Dt H y (z67 (some p))/\∀(r:V) (H':Hp),Same H H'->Dt H' r (z67 (g w o p so))->Q r H'
theorem zi6(F:Fun K "left_of_one" "left_of_one" z11 f fd) (b_min:mg "min" = none) (b_max:mg "max" = none) (c_between:Callee P w K mg base "between" ["low","high"] 1 z7t) (c_left_by_same:Callee P w K mg base "left_by_same" ["own","beside","is_so"] 3 (q14 z93)):FnOk P w K mg base CX0 4 f fd ["word","own","other","is_so"] (q0x z1p):=by
 refine F.ok zi5 (fun vs H Q E h=>?_) (fun cdv A outer s H vs Q E hr h=>?_)
 ·obtain⟨w,x,y,o,p,so,rfl,_⟩:=h
  rfl
 obtain⟨w,x,y,o,p,so,rfl,hx,hy,q⟩:=h
 obtain⟨px,rfl,hpx⟩:=zy2 hx
 obtain⟨py,rfl,hpy⟩:=zy2 hy
 refine⟨_,(z02 (z1h (z0c (gEq hr.units) (z00 (i:=0) rfl zal z4h z4i) z0p (z0f _)) (z05 (z0b (z0w c_left_by_same hr (by omega) (z08 (z00 (i:=1) rfl z2i z3w z3x) (z08 (z00 (i:=2) rfl z40 z0j z0k) (z08 (z00 (i:=3) rfl z62 z4q z4r) z01))) z6u za4))) z0d)
 (z02 (z1h (z8z (z00 (i:=3) rfl z62 z4q z4r)) (z05 (z0b (z0w c_between hr (by omega) (z08 (z0e z0a (z00 (i:=1) rfl z2i z3w z3x) z03 (fun _ _=>rfl)) (z08 (z53 (z86 rfl) zcw b_min zbb (z08 (z0e z0a (z00 (i:=1) rfl z2i z3w z3x) z03 (fun _ _=>rfl)) (z08 (z28 zgp (z0e z0a (z00 (i:=2) rfl z40 z0j z0k) z03 (fun _ _=>rfl)) z03) z01)) zb0 zb5) z01)) z5m z4b))) z0d)
 (z05 (z0b (z0w c_between hr (by omega) (z08 (z53 (z87 rfl) zcx b_max zbc (z08 (z0e z0a (z00 (i:=1) rfl z2i z3w z3x) z03 (fun _ _=>rfl)) (z08 (z0e z0a (z00 (i:=2) rfl z40 z0j z0k) z03 (fun _ _=>rfl)) z01)) zb1 zb6) (z08 (z0e z0a (z00 (i:=1) rfl z2i z3w z3x) z03 (fun _ _=>rfl)) z01)) z5m z4b))))),?_⟩
 walk_at "rd"
 refine⟨_,eqW w .same,?_⟩
 split
 ·rename_i e
  refine⟨_,_,_,_,_,rfl,hx,hy,fun r H' s1 dr=>q r H' s1 ?_⟩
  unfold z1p
  rw [if_pos (of_decide_eq_true e)]; exact dr
 ·rename_i e
  have e:¬ w=.same:=fun z=>e (decide_eq_true z)
  cases so with
  | true=>
   rw [if_pos rfl]
   refine⟨_,SqT.of hpx,_,rfl,_,SqT.of hpx,_,rfl,_,SqT.of hpy,_,rfl,_,rfl,_,_,⟨rfl,rfl⟩,_,_,rfl,fun r H' s1 dr=>q r H' s1 ?_⟩
   unfold z1p
   rw [if_neg e,if_pos rfl]; exact dr
  | false=>
   rw [if_neg (by simp)]
   refine⟨_,SqT.of hpx,_,rfl,_,SqT.of hpy,_,rfl,_,_,⟨rfl,rfl⟩,_,SqT.of hpx,_,rfl,_,_,rfl,fun r H' s1 dr=>q r H' s1 ?_⟩
   unfold z1p
   rw [if_neg e,if_neg (by simp)]; exact dr
theorem zfl(F:Fun K "left_of_other" "left_of_other" z0n f fd) (b_min:mg "min" = none) (b_max:mg "max" = none) (c_between:Callee P w K mg base "between" ["low","high"] 1 z7t) (c_left_by_same:Callee P w K mg base "left_by_same" ["own","beside","is_so"] 3 (q14 z93)):FnOk P w K mg base CX0 4 f fd ["word","own","one","is_so"] (q0x z12):=by
 refine F.ok zfi (fun vs H Q E h=>?_) (fun cdv A outer s H vs Q E hr h=>?_)
 ·obtain⟨w,x,y,o,p,so,rfl,_⟩:=h
  rfl
 obtain⟨w,x,y,o,p,so,rfl,hx,hy,q⟩:=h
 obtain⟨px,rfl,hpx⟩:=zy2 hx
 obtain⟨py,rfl,hpy⟩:=zy2 hy
 refine⟨_,(z02 (z1h (z0c (gEq hr.units) (z00 (i:=0) rfl z94 z4h z4i) z0p (z0f _)) (z05 (z0b (z0w c_left_by_same hr (by omega) (z08 (z00 (i:=1) rfl z21 z3w z3x) (z08 (z00 (i:=2) rfl z3z z1e z1g) (z08 (z00 (i:=3) rfl z5a z4q z4r) z01))) z6f za4))) z0d)
 (z02 (z1h (z8z (z00 (i:=3) rfl z5a z4q z4r)) (z05 (z0b (z0w c_between hr (by omega) (z08 (z53 (z87 rfl) zat b_max zbc (z08 (z0e z0a (z00 (i:=1) rfl z21 z3w z3x) z03 (fun _ _=>rfl)) (z08 (z28 z64 (z0e z0a (z00 (i:=2) rfl z3z z1e z1g) z03 (fun _ _=>rfl)) z03) z01)) zb1 zb6) (z08 (z0e z0a (z00 (i:=1) rfl z21 z3w z3x) z03 (fun _ _=>rfl)) z01)) z4x z4b))) z0d)
 (z05 (z0b (z0w c_between hr (by omega) (z08 (z0e z0a (z00 (i:=1) rfl z21 z3w z3x) z03 (fun _ _=>rfl)) (z08 (z53 (z86 rfl) zas b_min zbb (z08 (z0e z0a (z00 (i:=1) rfl z21 z3w z3x) z03 (fun _ _=>rfl)) (z08 (z0e z0a (z00 (i:=2) rfl z3z z1e z1g) z03 (fun _ _=>rfl)) z01)) zb0 zb5) z01)) z4x z4b))))),?_⟩
 walk_at "rd"
 refine⟨_,eqW w .same,?_⟩
 split
 ·rename_i e
  refine⟨_,_,_,_,_,rfl,hx,hy,fun r H' s1 dr=>q r H' s1 ?_⟩
  unfold z12
  rw [if_pos (of_decide_eq_true e)]; exact dr
 ·rename_i e
  have e:¬ w=.same:=fun z=>e (decide_eq_true z)
  cases so with
  | true=>
   rw [if_pos rfl]
   refine⟨_,SqT.of hpx,_,rfl,_,SqT.of hpy,_,rfl,_,rfl,_,_,⟨rfl,rfl⟩,_,SqT.of hpx,_,rfl,_,_,rfl,fun r H' s1 dr=>q r H' s1 ?_⟩
   unfold z12
   rw [if_neg e,if_pos rfl]; exact dr
  | false=>
   rw [if_neg (by simp)]
   refine⟨_,SqT.of hpx,_,rfl,_,SqT.of hpx,_,rfl,_,SqT.of hpy,_,rfl,_,_,⟨rfl,rfl⟩,_,_,rfl,fun r H' s1 dr=>q r H' s1 ?_⟩
   unfold z12
   rw [if_neg e,if_neg (by simp)]; exact dr
def zr0:Sp:=fun vs H Q _=>∃(x:V) (s:S) (so:Bool),vs=[x,.bl so]/\Dt H x (z67 s)/\∀(r:V) (H':Hp),Same H H'->Dt H' r (z67 (z60 s so))->Q r H'
theorem zgq(F:Fun K "left_of_name" "left_of_name" z1a f fd) (c_met:Callee P w K mg base "met" ["one","other"] 2 (zqu zdo)) (c_without:Callee P w K mg base "without" ["own","worth"] 2 zge):FnOk P w K mg base CX0 3 f fd ["own","is_so"] zr0:=by
 refine F.ok zgg (fun vs H Q E h=>?_) (fun cdv A outer s H vs Q E hr h=>?_)
 ·obtain⟨x,s,so,rfl,_⟩:=h
  rfl
 obtain⟨x,s,so,rfl,hx,q⟩:=h
 refine⟨_,(z02 (z1h (PW.pt (zmn (z0c zkg (z00 (i:=0) rfl z4e z3w z3x) z23 (z0f _)) (zgk (zix (z8z (z00 (i:=1) rfl z95 z4q z4r)))))) (z05 (z0b (z0w c_met hr (by omega) (z08 (z00 (i:=0) rfl z4e z3w z3x) (z08 (z0y (z08 z03 (z08 z03 z01))) z01)) zbi zj9))) z0d)
 (z05 (z0b (z0w c_without hr (by omega) (z08 (z00 (i:=0) rfl z4e z3w z3x) (z08 z03 z01)) z8k zj7)))),?_⟩
 rcases dtS hx with⟨rfl,rfl⟩ | ⟨a,b,p,rfl,rfl,hp⟩<;>cases so<;>walk_at "rd"
 ·refine⟨zl 2 (by decide),fun p hp=>?_⟩
  exact⟨_,_,none,some (0,0),rfl,.non,z4y z04,fun r H' s1 dr=>q r H' ((z07 hp _).trans s1) dr⟩
 ·refine⟨zl 2 (by decide),fun p hp=>?_⟩
  exact⟨_,_,none,some (0,0),rfl,.non,z4y z04,fun r H' s1 dr=>q r H' ((z07 hp _).trans s1) dr⟩
 ·refine⟨zl 2 (by decide),fun p2 hp2=>?_⟩
  exact⟨_,_,_,_,rfl,hx.kp (z07 hp2 _).kp,z4y z04,fun r H' s1 dr=>q r H' ((z07 hp2 _).trans s1) dr⟩
 ·exact⟨_,_,_,rfl,hx,fun r H' s1 dr=>q r H' s1 dr⟩
end
abbrev Bk:=List (Str×Int×Int)
def BkR(H:Hp)(kvs:List (Key×V))(bk:Bk):Prop:=Paired (fun(p:Key×V) (q:Str×Int×Int)=>p.1=.inr q.1/\Dt H p.2 (z67 (some q.2))) kvs bk
theorem BkR.kp{H H':Hp}{kvs:List (Key×V)}{bk:Bk}(h:BkR H kvs bk)(k:Kp H H'):BkR H' kvs bk:=Paired.mapP h fun _ _ z=>⟨z.1,z.2.kp k⟩
def look:Bk->Str->S
 | [],_=>none
 | q::r,x=>if q.1=x then some q.2 else look r x
def z54(bk:Bk)(x:Str)(s:Int×Int):Bk:=if(bk.any fun q=>decide (q.1=x))=true then bk.map (fun q=>if q.1=x then(q.1,s) else q) else bk++[(x,s)]
theorem BkR.look{H:Hp}{kvs:List (Key×V)}{bk:Bk}(h:BkR H kvs bk)(x:Str):(look bk x=none/\zki kvs (.inr x)=none)\/∃s v,look bk x=some s/\zki kvs (.inr x)=some v/\Dt H v (z67 (some s)):=by
 unfold BkR at h
 induction h with
 | nil=>exact .inl ⟨rfl,rfl⟩
 | cons rr _ ih=>
  rename_i p q _ _ _
  obtain⟨e,d⟩:=rr
  by_cases hx:q.1=x
  ·refine .inr ⟨q.2,p.2,?_,zc6 (by rw [e,hx]),d⟩
   unfold SR.look
   rw [if_pos hx]
  ·rw [zc7 (by rw [e]; intro z; exact hx (Sum.inr.inj z))]
   unfold SR.look
   rw [if_neg hx]
   exact ih
theorem BkR.any{H:Hp}{kvs:List (Key×V)}{bk:Bk}(h:BkR H kvs bk)(x:Str):(kvs.any fun kv=>decide (kv.1=(Sum.inr x:Key)))=bk.any fun q=>decide (q.1=x):=by
 unfold BkR at h
 induction h with
 | nil=>rfl
 | cons rr _ ih=>
  rename_i p q _ _ _
  rw [List.any_cons,List.any_cons,ih,rr.1,zw3]
theorem BkR.put_map{H:Hp}{x:Str}{v:V}{s:Int×Int}(d:Dt H v (z67 (some s))){kvs:List (Key×V)}{bk:Bk}(h:BkR H kvs bk):BkR H (kvs.map fun kv=>if kv.1=Sum.inr x then(kv.1,v) else kv) (bk.map fun q=>if q.1=x then(q.1,s) else q):=by
 unfold BkR at h |-
 induction h with
 | nil=>exact .nil
 | cons rr _ ih=>
  rename_i p q _ _ _
  rw [List.map_cons,List.map_cons]
  refine .cons ?_ ih
  by_cases hx:q.1=x
  ·rw [if_pos hx,if_pos (show p.1=Sum.inr x by rw [rr.1,hx])]
   exact⟨rr.1,d⟩
  ·rw [if_neg hx,if_neg (show ¬ p.1=Sum.inr x by rw [rr.1]; intro z; exact hx (Sum.inr.inj z))]
   exact rr
theorem BkR.put{H:Hp}{kvs:List (Key×V)}{bk:Bk}(h:BkR H kvs bk)(x:Str){v:V}{s:Int×Int}(d:Dt H v (z67 (some s))):BkR H (zfy kvs (.inr x) v) (z54 bk x s):=by
 unfold zfy z54
 rw [h.any x]
 split
 ·exact h.put_map d
 ·exact Paired.snoc h ⟨rfl,d⟩
theorem BkR.length{H:Hp}{kvs:List (Key×V)}{bk:Bk}(h:BkR H kvs bk):kvs.length=bk.length:=Paired.length h
theorem Rd.same{H H':Hp}{a:Addr}{u:HO}(r:Rd H a u)(s:Same H H'):Rd H' a u:=r.imp (s _ _) fun⟨o,e⟩=>⟨o,s _ _ e⟩
theorem DGet.kr{H:Hp}{a:Addr}{kvs:List (Key×V)}{k:Key}(e:Rd H a (.dK kvs)):DGet H a (kV k) (zki kvs k):=.inl ⟨kvs,k,e,rfl,rfl⟩
def IsBk(H:Hp)(d:Addr)(bk:Bk):Prop:=∃kvs,Rd H d (.dK kvs)/\BkR H kvs bk
theorem IsBk.same{H H':Hp}{d:Addr}{bk:Bk}(h:IsBk H d bk)(s:Same H H'):IsBk H' d bk:=by
 obtain⟨kvs,e,r⟩:=h
 exact⟨kvs,Rd.same e s,r.kp s.kp⟩
def zkf(H:Hp)(r:V)(o:Option Bk):Prop:=match o with
 | none=>r=.non
 | some bk=>∃d,r=.ref d/\IsBk H d bk
theorem zha{H:Hp}{p:Addr}{kvs kvs':List (Key×V)}(h:H p=some (.dK kvs)):Kp H (upd H p (.dK kvs')):=
 ⟨fun b zs e=>by rw [z0s (zam e h (by intro z; cases z))]; exact e,fun b zs e=>⟨zs,by rw [z0s (zam e h (by intro z; cases z))]; exact e⟩⟩
section
variable{P:Program}{w:World}{K:PySem.W.Frag}{mg:Str->Option Value}{base:Heap}{f:Addr}{fd:FuncData}
def ze1:Sp:=fun vs H Q _=>∃(d:Addr) (x:Str) (v:V) (bk:Bk) (s:S),vs=[.ref d,.str x,v]/\IsBk H d bk/\bk.length<=910/\Dt H v (z67 s)/\∀(r:V) (H':Hp),Same H H'->zkf H' r (s.map (z54 bk x))->Q r H'
theorem zl3(F:Fun K "with_left" "with_left" z1x f fd) (b_dict:mg "dict" = none):FnOk P w K mg base CX0 1 f fd ["book","name","stretch"] ze1:=by
 refine F.ok sc_with_left (fun vs H Q E h=>?_) (fun cdv A outer s H vs Q E hr h=>?_)
 ·obtain⟨d,x,v,bk,s,rfl,_⟩:=h
  rfl
 obtain⟨d,x,v,bk,s,rfl,⟨kvs,hd,rb⟩,hlen,hv,q⟩:=h
 refine⟨_,(z02 (z1h (z0c zkg (z00 (i:=2) rfl z61 z81 z84) z23 (z0f _)) (z05 (z0b z23)) z0d)
 (z02 (z1m (i:=3) sc_with_left.nd rfl zcn (zrq z79 zej b_dict zhx (z08 (z00 (i:=0) rfl zbz z1t z1u) z01) zgw zho) (z06 rfl))
 (z02 (ze4 hr.units1 (z00 (i:=3) rfl z6y zbq zbv) (z00 (i:=1) rfl zby zet zex) (z00 (i:=2) rfl z61 z81 z84) (z06 rfl))
 (z05 (z0b (z00 (i:=3) rfl z6y zbq zbv)))))),?_⟩
 rcases dtS hv with⟨rfl,rfl⟩ | ⟨a,b,p,rfl,rfl,hp⟩<;>walk_at "rd"
 ·exact q _ _ (Same.refl _) rfl
 ·refine⟨_,hd,fun pd hpd=>?_⟩
  have s1:=z07 hpd (HO.dK kvs)
  have e1:upd H pd (HO.dK kvs) pd=_:=z04
  have s2:∀o,Same H (upd (upd H pd (HO.dK kvs)) pd o):=fun o=>z8c s1 hpd
  generalize upd H pd (HO.dK kvs)=U at s1 e1 s2 |-
  refine⟨_,DPut.k (k:=.inr x) e1 (by rw [rb.length]; exact z2k (by omega)),?_⟩
  refine q _ _ (s2 _) ⟨pd,rfl,_,.inl z04,?_⟩
  exact(rb.kp ((s1.kp).trans (zha e1))).put x (hv.kp ((s1.kp).trans (zha e1)))
def z6b(bk:Bk):T->S
 | .num i=>some (i,i)
 | .nm x=>look bk x
 | .op _ _ _=>none
def zj5:T->Prop
 | .op _ _ _=>False
 | _=>True
def zr2:Sp:=fun vs H Q _=>∃(v:V) (t:T) (d:Addr) (bk:Bk),vs=[v,.ref d]/\Dt H v t.enc/\zj5 t/\IsBk H d bk/\∀(r:V) (H':Hp),Same H H'->Dt H' r (z67 (z6b bk t))->Q r H'
theorem zfk{rw:Addr} (F:Fun K "reckoned_from" "reckoned_from" z0v f fd) (g_WIDE:GC mg "WIDE" (.ref rw)) (c_met:Callee P w K mg base "met" ["one","other"] 2 (zqu zdo)) (c_stretch_of:Callee P w K mg base "stretch_of" ["word","one","other"] 4 q15)
  (c_reckoned_from:Callee P w K mg base "reckoned_from" ["term","book"] 0 (fun _ _ _ _=>False)):FnOk P w K mg base CX0 5 f fd ["term","book"] zr2:=by
 refine F.ok zfh (fun vs H Q E h=>?_) (fun cdv A outer s H vs Q E hr h=>?_)
 ·obtain⟨v,t,d,bk,rfl,_⟩:=h
  rfl
 obtain⟨v,t,d,bk,rfl,hv,ht,⟨kvs,hd,rb⟩,q⟩:=h
 refine⟨_,(z02 (z1h (z0c (gEq hr.units) (z0e z0a (z00 (i:=0) rfl z0u z1d z1f) z03 (fun _ _=>rfl)) z0p (z0f _)) (z05 (z0b (z0y (z08 (z0e z0a (z00 (i:=0) rfl z0u z1d z1f) z03 (fun _ _=>rfl)) (z08 (z0e z0a (z00 (i:=0) rfl z0u z1d z1f) z03 (fun _ _=>rfl)) z01))))) z0d)
 (z02 (z1h (z0c (gEq hr.units) (z0e z0a (z00 (i:=0) rfl z0u z1d z1f) z03 (fun _ _=>rfl)) z0p (z0f _)) (z05 (z0b (zjn hr.units1 (z00 (i:=1) rfl z3r z1t z1u) (z0e z0a (z00 (i:=0) rfl z0u z1d z1f) z03 (fun _ _=>rfl)) ⟨rfl,rfl,rfl,rfl⟩))) z0d)
 (z05 (z0b (z0w c_met hr (by omega) (z08 (z0w c_stretch_of hr (by omega) (z08 (z0e z0a (z00 (i:=0) rfl z0u z1d z1f) z03 (fun _ _=>rfl)) (z08 (z0w c_reckoned_from hr (by omega) (z08 (z0e z0a (z00 (i:=0) rfl z0u z1d z1f) z03 (fun _ _=>rfl)) (z08 (z00 (i:=1) rfl z3r z1t z1u) z01)) z3d z4p) (z08 (z0w c_reckoned_from hr (by omega) (z08 (z0e z0a (z00 (i:=0) rfl z0u z1d z1f) z03 (fun _ _=>rfl)) (z08 (z00 (i:=1) rfl z3r z1t z1u) z01)) z3d z4p) z01))) z6t zd3) (z08 (zrm g_WIDE z9y zt3) z01)) zar zj9))))),?_⟩
 match t,hv,ht with
 | .num i,hv,_=>
  obtain⟨pv,xs,rfl,hpv,da⟩:=hv.tupI
  rcases da with _ | ⟨d1,_ | ⟨d2,_ | _⟩⟩
  cases d1; cases d2
  walk_at "rd"
  refine⟨_,SqT.of hpv,_,rfl,_,.inl ⟨rfl,rfl⟩,?_⟩
  rw [if_pos (by decide+kernel)]
  exact⟨_,SqT.of hpv,_,rfl,_,SqT.of hpv,_,rfl,zl 2 (by decide),fun p hp=>q _ _ (z07 hp _) (z4y z04)⟩
 | .nm x,hv,_=>
  obtain⟨pv,xs,rfl,hpv,da⟩:=hv.tupI
  rcases da with _ | ⟨d1,_ | ⟨d2,_ | _⟩⟩
  cases d1; cases d2
  walk_at "rd"
  refine⟨_,SqT.of hpv,_,rfl,_,.inl ⟨rfl,rfl⟩,?_⟩
  rw [if_neg (by decide+kernel)]
  refine⟨_,SqT.of hpv,_,rfl,_,.inl ⟨rfl,rfl⟩,?_⟩
  rw [if_pos (by decide+kernel)]
  refine⟨.inl ⟨_,hd⟩,_,SqT.of hpv,_,rfl,_,DGet.kr (k:=.inr x) hd,?_⟩
  have q:∀(r:V) (H':Hp),Same H H'->Dt H' r (z67 (look bk x))->Q r H':=q
  rcases rb.look x with⟨e1,e2⟩ | ⟨sx,vx,e1,e2,dx⟩
  ·rw [e2]
   rw [e1] at q
   exact q _ _ (Same.refl _) .non
  ·rw [e2]
   rw [e1] at q
   exact q _ _ (Same.refl _) dx
end
theorem zo7(x y:Str)(s:Int×Int):∀bk:Bk,look (bk.map fun q=>if q.1=x then(q.1,s) else q) y=if y=x then(look bk y).map (fun _=>s) else look bk y
 | []=>by simp[look]
 | q::r=>by
  rw [List.map_cons,look,look,zo7 x y s r]
  by_cases h1:q.1=x
  ·rw [if_pos h1]
   by_cases h2:q.1=y
   ·rw [if_pos h2,if_pos h2,if_pos (by rw [<- h2,h1])]; rfl
   ·rw [if_neg h2,if_neg h2]
  ·rw [if_neg h1]
   by_cases h2:q.1=y
   ·rw [if_pos h2,if_pos h2,if_neg (by rw [<- h2]; exact h1)]
   ·rw [if_neg h2,if_neg h2]
theorem zg0(x:Str):∀bk:Bk,(bk.any fun q=>decide (q.1=x))=(look bk x).isSome
 | []=>rfl
 | q::r=>by
  rw [List.any_cons,look,zg0 x r]
  by_cases h:q.1=x
  ·rw [if_pos h]; simp[h]
  ·rw [if_neg h]; simp[h]
theorem zle(x y:Str)(s:Int×Int):∀bk:Bk,look bk x=none->look (bk++[(x,s)]) y=if y=x then some s else look bk y
 | [],_=>by
  rw [List.nil_append,look,look]
  by_cases h:x=y
  ·rw [if_pos h,if_pos h.symm]
  ·rw [if_neg h,if_neg (fun z=>h z.symm)]; rfl
 | q::r,hn=>by
  rw [look] at hn
  by_cases h:q.1=x
  ·rw [if_pos h] at hn; cases hn
  ·rw [if_neg h] at hn
   rw [List.cons_append,look,look,zle x y s r hn]
   by_cases h2:q.1=y
   ·rw [if_pos h2,if_pos h2,if_neg (by rw [<- h2]; exact h)]
   ·rw [if_neg h2,if_neg h2]
theorem zs7(bk:Bk)(x y:Str)(s:Int×Int):look (z54 bk x s) y=if y=x then some s else look bk y:=by
 unfold z54
 rw [zg0]
 by_cases h:(look bk x).isSome=true
 ·rw [if_pos h,zo7]
  by_cases e:y=x
  ·rw [if_pos e,if_pos e,e]
   obtain⟨z,hz⟩:=Option.isSome_iff_exists.mp h
   rw [hz]; rfl
  ·rw [if_neg e,if_neg e]
 ·rw [if_neg h]
  exact zle x y s bk (by simpa using h)
theorem zdk(bk:Bk)(x:Str)(s:Int×Int):(z54 bk x s).length<=bk.length+1:=by
 unfold z54
 split
 ·rw [List.length_map]; omega
 ·rw [List.length_append]; simp
def bq1(w:Wd)(a:T)(one other:Int×Int)(bk:Bk)(so:Bool):Option Bk:=match a with
 | .nm x=>(z1p w one other so).map (z54 bk x)
 | _=>some bk
def bq2(w:Wd)(b:T)(one:Int×Int)(bk:Bk)(so:Bool):Option Bk:=match b with
 | .nm y=>(match look bk y with | some own=>(z12 w own one so).map (z54 bk y) | none=>none)
 | _=>some bk
theorem zf8{w:Wd}{y:Str}{one own:Int×Int}{bk:Bk}{so:Bool}(h:look bk y=some own):bq2 w (.nm y) one bk so=(z12 w own one so).map (z54 bk y):=by
 show(match look bk y with | some own=>(z12 w own one so).map (z54 bk y) | none=>none)=_
 rw [h]
def bq(w:Wd)(a b:T)(bk:Bk)(so:Bool):Option Bk:=match z6b bk a,z6b bk b with
 | some one,some other=>(match bq1 w a one other bk so with | some bk1=>bq2 w b one bk1 so | none=>none)
 | _,_=>none
def bhd(t:T)(bk:Bk)(so:Bool):Option Bk:=match t with
 | .nm x=>(z60 (look bk x) so).map (z54 bk x)
 | .op w a b=>bq w a b bk so
 | .num _=>some bk
section
variable{P:Program}{w:World}{K:PySem.W.Frag}{mg:Str->Option Value}{base:Heap}{f:Addr}{fd:FuncData}
theorem zkr{t:T}(h:zj5 t){H:Hp}{v:V}(hv:Dt H v t.enc):∃p y,v=.ref p/\((∃x,t=.nm x/\y=.str x/\H p=some (.tup [.str "name",y]))\/(∃i,t=.num i/\y=.int i/\H p=some (.tup [.str "num",y]))):=by
 match t,h,hv with
 | .num i,_,hv=>
  obtain⟨pv,xs,rfl,hpv,da⟩:=hv.tupI
  rcases da with _ | ⟨d1,_ | ⟨d2,_ | _⟩⟩
  cases d1; cases d2
  exact⟨pv,_,rfl,.inr ⟨i,rfl,rfl,hpv⟩⟩
 | .nm x,_,hv=>
  obtain⟨pv,xs,rfl,hpv,da⟩:=hv.tupI
  rcases da with _ | ⟨d1,_ | ⟨d2,_ | _⟩⟩
  cases d1; cases d2
  exact⟨pv,_,rfl,.inl ⟨x,rfl,rfl,hpv⟩⟩
def q16:Sp:=fun vs H Q _=>∃(v:V) (w:Wd) (a b:T) (d:Addr) (bk:Bk) (so:Bool),vs=[v,.ref d,.bl so]/\Dt H v (T.op w a b).enc/\zj5 a/\zj5 b/\IsBk H d bk/\bk.length<=900/\∀(r:V) (H':Hp),Same H H'->zkf H' r (bq w a b bk so)->Q r H'
theorem zch(F:Fun K "behind_question" "behind_question" z09 f fd) (b_dict:mg "dict" = none) (c_reckoned_from:Callee P w K mg base "reckoned_from" ["term","book"] 5 zr2) (c_with_left:Callee P w K mg base "with_left" ["book","name","stretch"] 1 ze1)
  (c_left_of_one:Callee P w K mg base "left_of_one" ["word","own","other","is_so"] 4 (q0x z1p)) (c_left_of_other:Callee P w K mg base "left_of_other" ["word","own","one","is_so"] 4 (q0x z12)):FnOk P w K mg base CX0 6 f fd ["term","book","is_so"] q16:=by
 refine F.ok sc_behind_question (fun vs H Q E h=>?_) (fun cdv A outer s H vs Q E hr h=>?_)
 ·obtain⟨v,w,a,b,d,bk,so,rfl,_⟩:=h
  rfl
 obtain⟨v,w,a,b,d,bk,so,rfl,hv,ha,hb,hbk,hlen,q⟩:=h
 obtain⟨pv,xs,rfl,hpv,da⟩:=hv.tupI
 rcases da with _ | ⟨d1,_ | ⟨d2,_ | ⟨d3,_ | _⟩⟩⟩
 cases d1
 rename_i va vb
 refine⟨_,(z02 (z1m (i:=3) sc_behind_question.nd rfl z8g (z0w c_reckoned_from hr (by omega) (z08 (z0e z0a (z00 (i:=0) rfl z0h z1d z1f) z03 (fun _ _=>rfl)) (z08 (z00 (i:=1) rfl z36 z1t z1u) z01)) z31 z4p) (z06 rfl))
 (z02 (z1m (i:=4) sc_behind_question.nd rfl z7i (z0w c_reckoned_from hr (by omega) (z08 (z0e z0a (z00 (i:=0) rfl z0h z1d z1f) z03 (fun _ _=>rfl)) (z08 (z00 (i:=1) rfl z36 z1t z1u) z01)) z31 z4p) (z06 rfl))
 (z02 (z1h (PW.pt (zmn (z0c zkg (z00 (i:=3) rfl z3h z1e z1g) z23 (z0f _)) (zgk (z0c zkg (z00 (i:=4) rfl z4k z0j z0k) z23 (z0f _))))) (z05 (z0b z23)) z0d)
 (z02 (z1m (i:=5) sc_behind_question.nd rfl z37 (zrq z79 z8m b_dict zhx (z08 (z00 (i:=1) rfl z36 z1t z1u) z01) zgw zho) (z06 rfl))
 (z02 (z1h (z0c (gEq hr.units) (z0e z0a (z0e z0a (z00 (i:=0) rfl z0h z1d z1f) z03 (fun _ _=>rfl)) z03 (fun _ _=>rfl)) z0p (z0f _)) (z05 (z1m (i:=5) sc_behind_question.nd rfl z37 (z0w c_with_left hr (by omega) (z08 (z00 (i:=5) rfl z1l zbq zbv) (z08 (z0e z0a (z0e z0a (z00 (i:=0) rfl z0h z1d z1f) z03 (fun _ _=>rfl)) z03 (fun _ _=>rfl)) (z08 (z0w c_left_of_one hr (by omega) (z08 (z0e z0a (z00 (i:=0) rfl z0h z1d z1f) z03 (fun _ _=>rfl)) (z08 (z00 (i:=3) rfl z3h z1e z1g) (z08 (z00 (i:=4) rfl z4k z0j z0k) (z08 (z00 (i:=2) rfl z4l z4q z4r) z01)))) z66 zik) z01))) z3v za3) (z06 rfl))) z0d)
 (z02 (z1h (PW.pt (zvu (z0c zuz (z00 (i:=5) rfl z1l zbq zbv) z23 (z0f _)) (zrg (z0c (gEq hr.units) (z0e z0a (z0e z0a (z00 (i:=0) rfl z0h z1d z1f) z03 (fun _ _=>rfl)) z03 (fun _ _=>rfl)) z0p (z0f _))))) (z02 (z1m (i:=6) sc_behind_question.nd rfl z8f (z6r hr.units1 (z00 (i:=5) rfl z1l zbq zbv) (z0e z0a (z0e z0a (z00 (i:=0) rfl z0h z1d z1f) z03 (fun _ _=>rfl)) z03 (fun _ _=>rfl)) (fun _ _=>rfl)) (z06 rfl))
 (z05 (z1m (i:=5) sc_behind_question.nd rfl z37 (z0w c_with_left hr (by omega) (z08 (z00 (i:=5) rfl z1l zbq zbv) (z08 (z0e z0a (z0e z0a (z00 (i:=0) rfl z0h z1d z1f) z03 (fun _ _=>rfl)) z03 (fun _ _=>rfl)) (z08 (z0w c_left_of_other hr (by omega) (z08 (z0e z0a (z00 (i:=0) rfl z0h z1d z1f) z03 (fun _ _=>rfl)) (z08 (z00 (i:=6) rfl z8a z3w z3x) (z08 (z00 (i:=3) rfl z3h z1e z1g) (z08 (z00 (i:=2) rfl z4l z4q z4r) z01)))) z5i zfv) z01))) z3v za3) (z06 rfl)))) z0d)
 (z05 (z0b (z00 (i:=5) rfl z1l zbq zbv))))))))),?_⟩
 walk_at "rd"
 refine⟨_,SqT.of hpv,_,rfl,va,a,d,bk,rfl,d2,ha,hbk,fun r1 H1 s1 dr1=>?_⟩
 refine⟨_,SqT.of (s1 _ _ hpv),_,rfl,vb,b,d,bk,rfl,d3.kp s1.kp,hb,hbk.same s1,fun r2 H2 s2 dr2=>?_⟩
 have s02:=s1.trans s2
 have dr1:=dr1.kp s2.kp
 rcases dtS dr1 with⟨e1,rfl⟩ | ⟨l1,h1,p1,e1,rfl,hp1⟩
 ·walk_at "rd"
  refine q _ _ s02 ?_
  unfold bq
  rw [e1]; exact rfl
 rcases dtS dr2 with⟨e2,rfl⟩ | ⟨l2,h2,p2,e2,rfl,hp2⟩
 ·walk_at "rd"
  refine q _ _ s02 ?_
  unfold bq
  rw [e1,e2]; exact rfl
 walk_at "rd"
 obtain⟨kvs,hd,rb⟩:=hbk.same s02
 refine⟨kvs,hd,fun pd hpd=>?_⟩
 have s3:=z07 hpd (HO.dK kvs)
 have bU:IsBk (upd H2 pd (HO.dK kvs)) pd bk:=⟨kvs,.inl z04,rb.kp s3.kp⟩
 generalize upd H2 pd (HO.dK kvs)=U at s3 bU |-
 have s03:=s02.trans s3
 obtain⟨pa,ya,rfl,hpa⟩:=zkr ha d2
 obtain⟨pb,yb,rfl,hpb⟩:=zkr hb d3
 have hb1:∀y,b=.nm y->(look bk y).isSome=true:=fun y e=>by
  have z:look bk y=some (l2,h2):=by rw [e] at e2; exact e2
  rw [z]; rfl
 refine⟨_,SqT.of (s03 _ _ hpv),_,rfl,_,rfl,?_⟩
 rcases hpa with⟨x,rfl,rfl,hpa⟩ | ⟨i,rfl,rfl,hpa⟩
 ·refine⟨_,SqT.of (s03 _ _ hpa),_,rfl,_,.inl ⟨rfl,rfl⟩,?_⟩
  rw [if_pos (by decide+kernel)]
  refine⟨_,SqT.of (s03 _ _ hpv),_,rfl,_,rfl,_,SqT.of (s03 _ _ hpa),_,rfl,_,SqT.of (s03 _ _ hpv),_,rfl,?_⟩
  refine⟨w,_,_,(l1,h1),(l2,h2),so,rfl,(z4y hp1).kp s3.kp,(z4y hp2).kp s3.kp,fun r4 H4 s4 dr4=>?_⟩
  refine⟨pd,x,r4,bk,_,rfl,bU.same s4,by omega,dr4,fun r5 H5 s5 hr5=>?_⟩
  cases hl1:z1p w (l1,h1) (l2,h2) so with
  | none=>
   rw [hl1] at hr5
   cases hr5
   rw [if_neg (by simp)]
   refine q _ _ (s03.trans (s4.trans s5)) ?_
   unfold bq
   rw [e1,e2]
   dsimp only[bq1]
   rw [hl1]; exact rfl
  | some sl=>
   rw [hl1] at hr5
   obtain⟨dl,rfl,hdl⟩:=hr5
   walk_at "rd"
   have sx:=s03.trans (s4.trans s5)
   have d1x:=(z4y hp1).kp (s3.trans (s4.trans s5)).kp
   have hq:bq w (.nm x) b bk so=bq2 w b (l1,h1) (z54 bk x sl) so:=by
    unfold bq
    rw [e1,e2]
    dsimp only[bq1]
    rw [hl1]; rfl
   have hlx:(z54 bk x sl).length<=905:=by have:=zdk bk x sl; omega
   have hlk:∀y,b=.nm y->(look (z54 bk x sl) y).isSome=true:=fun y e=>by
    rw [zs7]
    split
    ·rfl
    ·exact hb1 y e
   generalize z54 bk x sl=bk1 at hdl hq hlx hlk
   refine⟨_,SqT.of (sx _ _ hpv),_,rfl,_,rfl,?_⟩
   rcases hpb with⟨y,rfl,rfl,hpb⟩ | ⟨i,rfl,rfl,hpb⟩
   ·refine⟨_,SqT.of (sx _ _ hpb),_,rfl,_,.inl ⟨rfl,rfl⟩,?_⟩
    rw [if_pos (by decide+kernel)]
    obtain⟨kv1,hd1,rb1⟩:=id hdl
    rcases rb1.look y with⟨z1,z2⟩ | ⟨own,vo,z1,z2,dvo⟩
    ·have:=hlk y rfl
     rw [z1] at this; cases this
    ·have dg:=DGet.kr (k:=.inr y) hd1
     rw [z2] at dg
     refine⟨_,SqT.of (sx _ _ hpv),_,rfl,_,rfl,_,SqT.of (sx _ _ hpb),_,rfl,vo,dg,_,SqT.of (sx _ _ hpv),_,rfl,_,rfl,_,SqT.of (sx _ _ hpb),_,rfl,_,SqT.of (sx _ _ hpv),_,rfl,?_⟩
     refine⟨w,vo,_,own,(l1,h1),so,rfl,dvo,d1x,fun r6 H6 s6 dr6=>?_⟩
     refine⟨dl,y,r6,bk1,_,rfl,hdl.same s6,by omega,dr6,fun r7 H7 s7 hr7=>q r7 H7 (sx.trans (s6.trans s7)) ?_⟩
     rw [hq]
     rw [zf8 z1]; exact hr7
   ·refine⟨_,SqT.of (sx _ _ hpb),_,rfl,_,.inl ⟨rfl,rfl⟩,?_⟩
    rw [if_neg (by decide+kernel)]
    exact q _ _ sx (by rw [hq]; exact⟨dl,rfl,hdl⟩)
 ·refine⟨_,SqT.of (s03 _ _ hpa),_,rfl,_,.inl ⟨rfl,rfl⟩,?_⟩
  rw [if_neg (by decide+kernel)]
  have d1x:=(z4y hp1).kp s3.kp
  have hq:bq w (.num i) b bk so=bq2 w b (l1,h1) bk so:=by
   unfold bq
   rw [e1,e2]; rfl
  refine⟨_,SqT.of (s03 _ _ hpv),_,rfl,_,rfl,?_⟩
  rcases hpb with⟨y,rfl,rfl,hpb⟩ | ⟨i2,rfl,rfl,hpb⟩
  ·refine⟨_,SqT.of (s03 _ _ hpb),_,rfl,_,.inl ⟨rfl,rfl⟩,?_⟩
   rw [if_pos (by decide+kernel)]
   obtain⟨kv1,hd1,rb1⟩:=id bU
   rcases rb1.look y with⟨z1,z2⟩ | ⟨own,vo,z1,z2,dvo⟩
   ·have:=hb1 y rfl
    rw [z1] at this; cases this
   ·have dg:=DGet.kr (k:=.inr y) hd1
    rw [z2] at dg
    refine⟨_,SqT.of (s03 _ _ hpv),_,rfl,_,rfl,_,SqT.of (s03 _ _ hpb),_,rfl,vo,dg,_,SqT.of (s03 _ _ hpv),_,rfl,_,rfl,_,SqT.of (s03 _ _ hpb),_,rfl,_,SqT.of (s03 _ _ hpv),_,rfl,?_⟩
    refine⟨w,vo,_,own,(l1,h1),so,rfl,dvo,d1x,fun r6 H6 s6 dr6=>?_⟩
    refine⟨pd,y,r6,bk,_,rfl,bU.same s6,by omega,dr6,fun r7 H7 s7 hr7=>q r7 H7 (s03.trans (s6.trans s7)) ?_⟩
    rw [hq]
    rw [zf8 z1]; exact hr7
  ·refine⟨_,SqT.of (s03 _ _ hpb),_,rfl,_,.inl ⟨rfl,rfl⟩,?_⟩
   rw [if_neg (by decide+kernel)]
   exact q _ _ s03 (by rw [hq]; exact⟨pd,rfl,bU⟩)
def isQ:T->Prop
 | .nm _=>True
 | .op w a b=>(w=.less\/w=.same)/\zj5 a/\zj5 b
 | .num _=>False
def ztz:Sp:=fun vs H Q _=>∃(v:V) (t:T) (d:Addr) (bk:Bk) (so:Bool),vs=[v,.ref d,.bl so]/\Dt H v t.enc/\isQ t/\IsBk H d bk/\bk.length<=900/\∀(r:V) (H':Hp),Same H H'->zkf H' r (bhd t bk so)->Q r H'
theorem zrz(F:Fun K "behind" "behind" z3u f fd) (b_dict:mg "dict" = none) (c_with_left:Callee P w K mg base "with_left" ["book","name","stretch"] 1 ze1) (c_left_of_name:Callee P w K mg base "left_of_name" ["own","is_so"] 3 zr0)
  (c_behind_question:Callee P w K mg base "behind_question" ["term","book","is_so"] 6 q16):FnOk P w K mg base CX0 7 f fd ["term","book","is_so"] ztz:=by
 refine F.ok zra (fun vs H Q E h=>?_) (fun cdv A outer s H vs Q E hr h=>?_)
 ·obtain⟨v,t,d,bk,so,rfl,_⟩:=h
  rfl
 obtain⟨v,t,d,bk,so,rfl,hv,ht,hbk,hlen,q⟩:=h
 refine⟨_,(z02 (z1h (z0c (gEq hr.units) (z0e z0a (z00 (i:=0) rfl z35 z1d z1f) z03 (fun _ _=>rfl)) z0p (z0f _)) (z05 (z0b (z0w c_with_left hr (by omega) (z08 (z00 (i:=1) rfl z5b z1t z1u) (z08 (z0e z0a (z00 (i:=0) rfl z35 z1d z1f) z03 (fun _ _=>rfl)) (z08 (z0w c_left_of_name hr (by omega) (z08 (zjn hr.units1 (z00 (i:=1) rfl z5b z1t z1u) (z0e z0a (z00 (i:=0) rfl z35 z1d z1f) z03 (fun _ _=>rfl)) ⟨rfl,rfl,rfl,rfl⟩) (z08 (z00 (i:=2) rfl z8x z4q z4r) z01)) z9e zhl) z01))) zbn za3))) z0d)
 (z02 (z1h (PW.pt (zmn (z0c (gEq hr.units) (z0e z0a (z00 (i:=0) rfl z35 z1d z1f) z03 (fun _ _=>rfl)) z0p (z0f _)) (zgk (z0c (gEq hr.units) (z0e z0a (z00 (i:=0) rfl z35 z1d z1f) z03 (fun _ _=>rfl)) z0p (z0f _))))) (z05 (z0b (z0w c_behind_question hr (by omega) (z08 (z00 (i:=0) rfl z35 z1d z1f) (z08 (z00 (i:=1) rfl z5b z1t z1u) (z08 (z00 (i:=2) rfl z8x z4q z4r) z01))) z7l zd6))) z0d)
 (z05 (z0b (zrq z79 zij b_dict zhx (z08 (z00 (i:=1) rfl z5b z1t z1u) z01) zgw zho))))),?_⟩
 match t,hv,ht with
 | .nm x,hv,_=>
  obtain⟨pv,xs,rfl,hpv,da⟩:=hv.tupI
  rcases da with _ | ⟨d1,_ | ⟨d2,_ | _⟩⟩
  cases d1; cases d2
  walk_at "rd"
  refine⟨_,SqT.of hpv,_,rfl,_,.inl ⟨rfl,rfl⟩,?_⟩
  rw [if_pos (by decide+kernel)]
  obtain⟨kvs,hd,rb⟩:=id hbk
  refine⟨_,SqT.of hpv,_,rfl,.inl ⟨_,hd⟩,_,SqT.of hpv,_,rfl,_,DGet.kr (k:=.inr x) hd,?_⟩
  rcases rb.look x with⟨z1,z2⟩ | ⟨own,vo,z1,z2,dvo⟩
  ·rw [z2]
   refine⟨_,none,so,rfl,.non,fun r1 H1 s1 dr1=>?_⟩
   refine⟨d,x,r1,bk,_,rfl,hbk.same s1,by omega,dr1,fun r2 H2 s2 hr2=>q r2 H2 (s1.trans s2) ?_⟩
   show zkf H2 r2 (Option.map (z54 bk x) (z60 (look bk x) so))
   rw [z1]; exact hr2
  ·rw [z2]
   refine⟨_,some own,so,rfl,dvo,fun r1 H1 s1 dr1=>?_⟩
   refine⟨d,x,r1,bk,_,rfl,hbk.same s1,by omega,dr1,fun r2 H2 s2 hr2=>q r2 H2 (s1.trans s2) ?_⟩
   show zkf H2 r2 (Option.map (z54 bk x) (z60 (look bk x) so))
   rw [z1]; exact hr2
 | .op w a b,hv,ht=>
  obtain⟨hw,ha,hb⟩:=ht
  obtain⟨pv,xs,rfl,hpv,da⟩:=id hv.tupI
  rcases da with _ | ⟨d1,_ | ⟨d2,_ | ⟨d3,_ | _⟩⟩⟩
  cases d1
  walk_at "rd"
  have fin:q16 [V.ref pv,V.ref d,V.bl so] H Q E0:=⟨_,w,a,b,d,bk,so,rfl,hv,ha,hb,hbk,hlen,q⟩
  refine⟨_,SqT.of hpv,_,rfl,_,.inl ⟨rfl,rfl⟩,?_⟩
  rw [if_neg (by rcases hw with rfl | rfl<;>decide+kernel)]
  refine⟨_,SqT.of hpv,_,rfl,_,eqW w .less,?_⟩
  split
  ·exact fin
  ·rename_i e
   refine⟨_,SqT.of hpv,_,rfl,_,eqW w .same,?_⟩
   rw [if_pos (decide_eq_true (hw.resolve_left fun z=>e (decide_eq_true z)))]
   exact fin
end
abbrev Pth:=List Int
abbrev Nts:=List (Pth×Int×Int)
def zgo(p:Pth):List Key:=p.map Sum.inl
theorem zgn:∀p:Pth,(zgo p).map kV=p.map V.int
 | []=>rfl
 | i::r=>by
  show kV (.inl i)::(zgo r).map kV=.int i::r.map V.int
  rw [zgn r]; rfl
theorem zfz:∀{p q:Pth},zgo p=zgo q->p=q
 | [],[],_=>rfl
 | [],_::_,h=>by cases h
 | _::_,[],h=>by cases h
 | i::p,j::q,h=>by
  have h:Sum.inl i::zgo p=(Sum.inl j:Key)::zgo q:=h
  injection h with h1 h2
  injection h1 with h1
  rw [h1,zfz h2]
theorem zug(p q:Pth):decide (zgo p=zgo q)=decide (p=q):=by
 rw [decide_eq_decide]
 exact⟨zfz,fun h=>by rw [h]⟩
def PtA(H:Hp)(v:V)(p:Pth):Prop:=∃a,v=.ref a/\H a=some (.tup (p.map V.int))
theorem PtA.kp{H H':Hp}{v:V}{p:Pth}(h:PtA H v p)(k:Kp H H'):PtA H' v p:=by
 obtain⟨a,e,h⟩:=h
 exact⟨a,e,k.t _ _ h⟩
theorem zy5{K:PySem.W.Frag}{H:Hp}{v:V}{b:Addr}{p q:Pth}{Q:VK}(h:PtA H v p)(hb:H b=some (.tup (q.map V.int)))(hl:p.length+q.length<=1000)(k:∀r H',Same H H'->PtA H' r (p++q)->Q r H'):zgj K v (.ref b) H Q:=by
 obtain⟨a,rfl,ha⟩:=h
 refine⟨a,b,_,_,rfl,rfl,SqT.of ha,SqT.of hb,by rw [List.length_map,List.length_map]; exact zl _ hl,fun e=>?_,fun _ e=>?_,fun _ _ c hc=>?_⟩
 ·have e:p=[]:=by simpa using e
  subst e
  exact k _ _ (Same.refl _) ⟨b,rfl,hb⟩
 ·have e:q=[]:=by simpa using e
  subst e
  exact k _ _ (Same.refl _) ⟨a,rfl,by rw [List.append_nil]; exact ha⟩
 ·exact k _ _ (z07 hc _) ⟨c,rfl,by rw [z04,List.map_append]⟩
def NtR(H:Hp)(kvs:List (List Key×V))(ns:Nts):Prop:=Paired (fun(p:List Key×V) (q:Pth×Int×Int)=>p.1=zgo q.1/\Dt H p.2 (z67 (some q.2))) kvs ns
theorem NtR.kp{H H':Hp}{kvs:List (List Key×V)}{ns:Nts}(h:NtR H kvs ns)(k:Kp H H'):NtR H' kvs ns:=Paired.mapP h fun _ _ z=>⟨z.1,z.2.kp k⟩
def zci(ns:Nts)(p:Pth)(s:Int×Int):Nts:=if(ns.any fun q=>decide (q.1=p))=true then ns.map (fun q=>if q.1=p then(q.1,s) else q) else ns++[(p,s)]
theorem zuj(ns:Nts)(p:Pth)(s:Int×Int):(zci ns p s).length<=ns.length+1:=by
 unfold zci
 split
 ·rw [List.length_map]; omega
 ·rw [List.length_append]; simp
theorem NtR.any{H:Hp}{kvs:List (List Key×V)}{ns:Nts}(h:NtR H kvs ns)(p:Pth):(kvs.any fun kv=>decide (kv.1=zgo p))=ns.any fun q=>decide (q.1=p):=by
 unfold NtR at h
 induction h with
 | nil=>rfl
 | cons rr _ ih=>
  rename_i a q _ _ _
  rw [List.any_cons,List.any_cons,ih,rr.1,zug]
theorem NtR.put_map{H:Hp}{p:Pth}{v:V}{s:Int×Int}(d:Dt H v (z67 (some s))){kvs:List (List Key×V)}{ns:Nts}(h:NtR H kvs ns):NtR H (kvs.map fun kv=>if kv.1=zgo p then(kv.1,v) else kv) (ns.map fun q=>if q.1=p then(q.1,s) else q):=by
 unfold NtR at h |-
 induction h with
 | nil=>exact .nil
 | cons rr _ ih=>
  rename_i a q _ _ _
  rw [List.map_cons,List.map_cons]
  refine .cons ?_ ih
  by_cases hx:q.1=p
  ·rw [if_pos hx,if_pos (show a.1=zgo p by rw [rr.1,hx])]
   exact⟨rr.1,d⟩
  ·rw [if_neg hx,if_neg (show ¬ a.1=zgo p by rw [rr.1]; intro z; exact hx (zfz z))]
   exact rr
theorem NtR.put{H:Hp}{kvs:List (List Key×V)}{ns:Nts}(h:NtR H kvs ns)(p:Pth){v:V}{s:Int×Int}(d:Dt H v (z67 (some s))):NtR H (zfy kvs (zgo p) v) (zci ns p s):=by
 unfold zfy zci
 rw [h.any p]
 split
 ·exact h.put_map d
 ·exact Paired.snoc h ⟨rfl,d⟩
theorem NtR.length{H:Hp}{kvs:List (List Key×V)}{ns:Nts}(h:NtR H kvs ns):kvs.length=ns.length:=Paired.length h
def SB(n:Addr)(H H':Hp):Prop:=∀b o,H b=some o->H' b=some o\/(∃ob kvs,(o=.dK kvs\/∃o2,o=.frz o2 (.dK kvs))/\H' b=some (.frz ob (.dK kvs)))\/(b=n/\∃k k',o=.dT k/\H' b=some (.dT k'))
theorem SB.of{n:Addr}{H H':Hp}(s:Same H H'):SB n H H':=fun b o h=>.inl (s b o h)
theorem SB.trans{n:Addr}{H H1 H2:Hp}(a:SB n H H1)(b:SB n H1 H2):SB n H H2:=fun c o h=>by
 rcases a c o h with h1 | ⟨ob,kvs,e,h1⟩ | ⟨rfl,k,k',rfl,h1⟩
 ·exact b c o h1
 ·rcases b c _ h1 with h2 | ⟨o2,kv2,e2 | ⟨_,e2⟩,h2⟩ | ⟨_,_,_,e2,_⟩
  ·exact .inr (.inl ⟨ob,kvs,e,h2⟩)
  ·cases e2
  ·cases e2
   exact .inr (.inl ⟨o2,kvs,e,h2⟩)
  ·cases e2
 ·rcases b c _ h1 with h2 | ⟨_,_,e | ⟨_,e⟩,_⟩ | ⟨_,k1,k2,e,h2⟩
  ·exact .inr (.inr ⟨rfl,k,k',rfl,h2⟩)
  ·cases e
  ·cases e
  ·exact .inr (.inr ⟨rfl,k,k2,rfl,h2⟩)
theorem SB.stay{n:Addr}{H H':Hp}(s:SB n H H'){b:Addr}{o:HO}(h:H b=some o)(n1:∀k,o≠.dK k)(n2:∀k,o≠.dT k)(n3:∀ob u,o≠.frz ob u):H' b=some o:=by
 rcases s b o h with h1 | ⟨_,_,e | ⟨_,e⟩,_⟩ | ⟨_,_,_,e,_⟩
 ·exact h1
 ·exact absurd e (n1 _)
 ·exact absurd e (n3 _ _)
 ·exact absurd e (n2 _)
theorem SB.kp{n:Addr}{H H':Hp}(s:SB n H H'):Kp H H':=⟨fun b xs h=>s.stay h (fun _ z=>by cases z) (fun _ z=>by cases z) (fun _ _ z=>by cases z),fun b xs h=>⟨xs,s.stay h (fun _ z=>by cases z) (fun _ z=>by cases z) (fun _ _ z=>by cases z)⟩⟩
theorem SB.ins{n:Addr}{H H':Hp}(s:SB n H H'){a C dx:Addr}{fs:List (Str×V)}(h:H a=some (.ins C dx fs)):H' a=some (.ins C dx fs):=s.stay h (fun _ z=>by cases z) (fun _ z=>by cases z) (fun _ _ z=>by cases z)
theorem SB.bk{n:Addr}{H H':Hp}(s:SB n H H'){d:Addr}{bk:Bk}(h:IsBk H d bk):IsBk H' d bk:=by
 obtain⟨kvs,e,r⟩:=h
 refine⟨kvs,?_,r.kp s.kp⟩
 rcases e with e | ⟨o,e⟩
 ·rcases s _ _ e with h1 | ⟨ob,_,e | ⟨_,e⟩,h1⟩ | ⟨_,_,_,e,_⟩
  ·exact .inl h1
  ·cases e; exact .inr ⟨ob,h1⟩
  ·cases e
  ·cases e
 ·rcases s _ _ e with h1 | ⟨ob,_,e | ⟨_,e⟩,h1⟩ | ⟨_,_,_,e,_⟩
  ·exact .inr ⟨o,h1⟩
  ·cases e
  ·cases e; exact .inr ⟨ob,h1⟩
  ·cases e
theorem SB.res{n:Addr}{H H':Hp}(s:SB n H H'){r:V}{o:Option Bk}(h:zkf H r o):zkf H' r o:=by
 match o,h with
 | none,h=>exact h
 | some bk,⟨d,e,h⟩=>exact⟨d,e,s.bk h⟩
theorem Same.res{H H':Hp}(s:Same H H'){r:V}{o:Option Bk}(h:zkf H r o):zkf H' r o:=SB.res (n:=0) (.of s) h
structure Wk(K:PySem.W.Frag)(H:Hp)(a n:Addr)(ns:Nts):Prop where
 ob:∃C dx fs,H a=some (.ins C dx fs)/\Cls K C/\NoAttr K C "notes"/\fs.lookup ("notes" : Str)=some (V.ref n)
 nt:∃kvs,H n=some (.dT kvs)/\NtR H kvs ns
theorem Wk.same{K:PySem.W.Frag}{H H':Hp}{a n:Addr}{ns:Nts}(h:Wk K H a n ns)(s:Same H H'):Wk K H' a n ns:=by
 obtain⟨⟨C,dx,fs,e,c,d,l⟩,kvs,e2,r⟩:=h
 exact⟨⟨C,dx,fs,s _ _ e,c,d,l⟩,kvs,s _ _ e2,r.kp s.kp⟩
def zqb:Int×Int:=(-32768,32767)
theorem OfRel.unique{w:Wd}{s t r r':S}(h:OfRel w s t r)(k:OfRel w s t r'):r=r':=by
 match s,t,h,k with
 | none,none,h,k=>exact h.trans k.symm
 | none,some _,h,k=>exact h.trans k.symm
 | some _,none,h,k=>exact h.trans k.symm
 | some (a,b),some (c,d),h,k=>exact IsS.unique h k
open Classical in
noncomputable def stF (w:Wd) (s t:S):S:=if h:∃r,OfRel w s t r then h.choose else none
theorem zvn{w:Wd}{s t r:S}(h:OfRel w s t r):stF w s t=r:=by
 have e:∃r,OfRel w s t r:=⟨r,h⟩
 unfold stF
 rw [dif_pos e]
 exact OfRel.unique e.choose_spec h
def zvz(s:S)(p:Pth)(ns:Nts):Nts:=match s with
 | none=>ns
 | some r=>zci ns p r
theorem zjt(s:S)(p:Pth)(ns:Nts):(zvz s p ns).length<=ns.length+1:=by
 cases s with
 | none=>exact Nat.le_succ _
 | some r=>exact zuj ns p r
def zz0(s:S)(p:Pth)(ns:Nts):S×Nts:=(zdo s (some zqb),zvz s p ns)
theorem zmv(s:S):okS 1073741824 (zdo s (some zqb)):=by
 match s with
 | none=>trivial
 | some (a,b)=>
  show okS _ (bet (mx a (-32768)) (mn b 32767))
  unfold bet
  split
  ·trivial
  ·rename_i h
   unfold mx mn at *
   refine⟨?_,?_,?_⟩<;>(repeat' split at h)<;>(repeat' split)<;>omega
def T.sz:T->Nat
 | .op _ a b=>a.sz+b.sz+1
 | .num _=>1
 | .nm _=>1
noncomputable def shS (bk:Bk):T->Pth->Nts->S×Nts
 | .num i,p,ns=>zz0 (some (i,i)) p ns
 | .nm x,p,ns=>zz0 (look bk x) p ns
 | .op w a b,p,ns=>
  if(shS bk a (p++[0]) ns).1=none then(none,(shS bk a (p++[0]) ns).2)
  else zz0 (stF w (shS bk a (p++[0]) ns).1 (shS bk b (p++[1]) (shS bk a (p++[0]) ns).2).1) p (shS bk b (p++[1]) (shS bk a (p++[0]) ns).2).2
theorem zbg(bk:Bk):∀(t:T) (p:Pth) (ns:Nts),(shS bk t p ns).2.length<=ns.length+t.sz
 | .num i,p,ns=>by rw [shS]; exact zjt (some (i,i)) p ns
 | .nm x,p,ns=>by rw [shS]; exact zjt (look bk x) p ns
 | .op w a b,p,ns=>by
  have h1:=zbg bk a (p++[0]) ns
  have h2:=zbg bk b (p++[1]) (shS bk a (p++[0]) ns).2
  rw [shS,T.sz]
  split
  ·dsimp only; omega
  ·have:=zjt (stF w (shS bk a (p++[0]) ns).1 (shS bk b (p++[1]) (shS bk a (p++[0]) ns).2).1) p (shS bk b (p++[1]) (shS bk a (p++[0]) ns).2).2
   dsimp only[zz0]; omega
theorem zvr(bk:Bk)(t:T)(p:Pth)(ns:Nts):okS 1073741824 (shS bk t p ns).1:=by
 cases t with
 | num i=>rw [shS]; exact zmv (some (i,i))
 | nm x=>rw [shS]; exact zmv (look bk x)
 | op w a b=>
  rw [shS]
  split
  ·trivial
  ·exact zmv _
section
variable{P:Program}{w:World}{K:PySem.W.Frag}{mg:Str->Option Value}{base:Heap}{f:Addr}{fd:FuncData}
def zqy(K:PySem.W.Frag):Sp:=fun vs H Q _=>∃(v pv:V) (s:S) (p:Pth) (a n:Addr) (ns:Nts),vs=[v,pv,.ref a]/\Dt H v (z67 s)/\PtA H pv p/\Wk K H a n ns/\ns.length<=900/\∀(r:V) (H':Hp),SB n H H'->Wk K H' a n (zz0 s p ns).2->Dt H' r (z67 (zz0 s p ns).1)->Q r H'
theorem zui{rw:Addr} (F:Fun K "noted" "noted" z6c f fd) (g_WIDE:GC mg "WIDE" (.ref rw)) (hW:∀H,SqT K H rw [.int (-32768),.int 32767]) (c_met:Callee P w K mg base "met" ["one","other"] 2 (ztx K zdo)):FnOk P w K mg base CX0 3 f fd ["stretch","path","walk"] (zqy K):=by
 refine F.ok zu1 (fun vs H Q E h=>?_) (fun cdv A outer s H vs Q E hr h=>?_)
 ·obtain⟨v,pv,s,p,a,n,ns,rfl,_⟩:=h
  rfl
 obtain⟨v,pv,s,p,a,n,ns,rfl,hv,hp,hw,hl,q⟩:=h
 refine⟨_,(z02 (z1h (z0c zuz (z00 (i:=0) rfl z5p z81 z84) z23 (z0f _)) (z05 (ze4 hr.units1 (zrn (z00 (i:=2) rfl zi2 z3a z3c) rfl) (z00 (i:=1) rfl zi3 z3j z3l) (z00 (i:=0) rfl z5p z81 z84) (z06 rfl))) z0d)
 (z05 (z0b (z0w c_met hr (by omega) (z08 (z00 (i:=0) rfl z5p z81 z84) (z08 (zrm g_WIDE zjy zt3) z01)) zlk zj9)))),?_⟩
 rcases dtS hv with⟨rfl,rfl⟩ | ⟨l,h,pp,rfl,rfl,hpp⟩<;>walk_at "rw"
 ·exact⟨_,_,none,some zqb,rfl,.of hv,.inr ⟨_,_,rw,rfl,rfl,hW _⟩,fun r H' s1 dr=>q r H' (.of s1) (hw.same s1) dr⟩
 ·obtain⟨pa,rfl,hpa⟩:=hp
  obtain⟨⟨C,dx,fs,e,c,d,lk⟩,kvs,e2,r⟩:=hw
  refine⟨C,dx,fs,e,c,d,_,lk,n,rfl,_,DPut.t (k:=zgo p) e2 (by rw [zgn]; exact hpa) (by rw [r.length]; exact z2k (by omega)),?_⟩
  have sb:SB n H (upd H n (.dT (zfy kvs (zgo p) (.ref pp)))):=fun b o hb=>by
   by_cases hn:b=n
   ·subst hn
    rw [e2] at hb
    cases hb
    exact .inr (.inr ⟨rfl,_,_,rfl,z04⟩)
   ·exact .inl (by rw [z0s hn]; exact hb)
  have e3:upd H n (.dT (zfy kvs (zgo p) (.ref pp))) n=_:=z04
  generalize upd H n (.dT (zfy kvs (zgo p) (.ref pp)))=U at sb e3 |-
  have hwU:Wk K U a n (zci ns p (l,h)):=⟨⟨C,dx,fs,sb.ins e,c,d,lk⟩,_,e3,(r.kp sb.kp).put p (hv.kp sb.kp)⟩
  exact⟨_,_,some (l,h),some zqb,rfl,.of (hv.kp sb.kp),.inr ⟨_,_,rw,rfl,rfl,hW _⟩,fun r H' s1 dr=>q r H' (sb.trans (.of s1)) (hwU.same s1) dr⟩
end
section
variable{P:Program}{w:World}{K:PySem.W.Frag}{mg:Str->Option Value}{base:Heap}{f:Addr}{fd:FuncData}
def T.dp:Nat->T->Prop
 | 0,_=>False
 | n+1,.op _ a b=>T.dp n a/\T.dp n b
 | _+1,_=>True
def zir(K:PySem.W.Frag)(k:Nat):Sp:=fun vs H Q _=>∃(v pv:V) (t:T) (p:Pth) (d a n:Addr) (bk:Bk) (ns:Nts),vs=[v,pv,.ref d,.ref a]/\Dt H v t.enc/\T.dp k t/\PtA H pv p/\IsBk H d bk/\Wk K H a n ns/\ns.length+t.sz<=900/\p.length+k<=900/\∀(r:V) (H':Hp),SB n H H'->Wk K H' a n (shS bk t p ns).2->Dt H' r (z67 (shS bk t p ns).1)->Q r H'
theorem zs2{k:Nat}{n1 n2 n3 n4:Str}:FnOk P w K mg base CX0 k f fd [n1,n2,n3,n4] (zir K 0):=by
 have no:∀vs H Q E,¬ zir K 0 vs H Q E:=fun vs H Q E h=>by
  obtain⟨v,pv,t,p,d,a,n,bk,ns,_,_,h,_⟩:=h
  exact h.elim
 exact⟨fun vs H Q E h=>absurd h (no vs H Q E),fun A outer s H args us vs Q E _ _ _ _ h=>absurd h (no vs H Q E)⟩
theorem ze7{n:Nat} (F:Fun K "show" "show" z5l f fd) (c_noted:Callee P w K mg base "noted" ["stretch","path","walk"] 3 (zqy K)) (c_stretch_of:Callee P w K mg base "stretch_of" ["word","one","other"] 4 q15)
  (c_show:Callee P w K mg base "show" ["term","path","book","walk"] (n+5) (zir K n)):FnOk P w K mg base CX0 (n+6) f fd ["term","path","book","walk"] (zir K (n+1)):=by
 refine F.ok sc_show (fun vs H Q E h=>?_) (fun cdv A outer s H vs Q E hr h=>?_)
 ·obtain⟨v,pv,t,p,d,a,n,bk,ns,rfl,_⟩:=h
  rfl
 obtain⟨v,pv,t,p,d,a,nn,bk,ns,rfl,hv,ht,hp,hbk,hw,hl,hpl,q⟩:=h
 refine⟨_,(z02 (z1h (z0c (gEq hr.units) (z0e z0a (z00 (i:=0) rfl z2p z1d z1f) z03 (fun _ _=>rfl)) z0p (z0f _)) (z05 (z0b (z0w c_noted hr (by omega) (z08 (z0y (z08 (z0e z0a (z00 (i:=0) rfl z2p z1d z1f) z03 (fun _ _=>rfl)) (z08 (z0e z0a (z00 (i:=0) rfl z2p z1d z1f) z03 (fun _ _=>rfl)) z01))) (z08 (z00 (i:=1) rfl z59 z3j z3l) (z08 (z00 (i:=3) rfl z58 z3a z3c) z01))) z8j zk6))) z0d)
 (z02 (z1h (z0c (gEq hr.units) (z0e z0a (z00 (i:=0) rfl z2p z1d z1f) z03 (fun _ _=>rfl)) z0p (z0f _)) (z05 (z0b (z0w c_noted hr (by omega) (z08 (zjn hr.units1 (z00 (i:=2) rfl z88 z1t z1u) (z0e z0a (z00 (i:=0) rfl z2p z1d z1f) z03 (fun _ _=>rfl)) ⟨rfl,rfl,rfl,rfl⟩) (z08 (z00 (i:=1) rfl z59 z3j z3l) (z08 (z00 (i:=3) rfl z58 z3a z3c) z01))) z8j zk6))) z0d)
 (z02 (z1m (i:=4) sc_show.nd rfl zlh (z0w c_show hr (by omega) (z08 (z0e z0a (z00 (i:=0) rfl z2p z1d z1f) z03 (fun _ _=>rfl)) (z08 (z28 z5f (z00 (i:=1) rfl z59 z3j z3l) (z0y (z08 z03 z01))) (z08 (z00 (i:=2) rfl z88 z1t z1u) (z08 (z00 (i:=3) rfl z58 z3a z3c) z01)))) zf5 zk4) (z06 rfl))
 (z02 (z1h (z0c zkg (z00 (i:=4) rfl zf0 z1e z1g) z23 (z0f _)) (z05 (z0b z23)) z0d)
 (z02 (z1m (i:=5) sc_show.nd rfl zi8 (z0w c_show hr (by omega) (z08 (z0e z0a (z00 (i:=0) rfl z2p z1d z1f) z03 (fun _ _=>rfl)) (z08 (z28 z5f (z00 (i:=1) rfl z59 z3j z3l) (z0y (z08 z03 z01))) (z08 (z00 (i:=2) rfl z88 z1t z1u) (z08 (z00 (i:=3) rfl z58 z3a z3c) z01)))) zf5 zk4) (z06 rfl))
 (z05 (z0b (z0w c_noted hr (by omega) (z08 (z0w c_stretch_of hr (by omega) (z08 (z0e z0a (z00 (i:=0) rfl z2p z1d z1f) z03 (fun _ _=>rfl)) (z08 (z00 (i:=4) rfl zf0 z1e z1g) (z08 (z00 (i:=5) rfl zi1 z0j z0k) z01))) zcv zd3) (z08 (z00 (i:=1) rfl z59 z3j z3l) (z08 (z00 (i:=3) rfl z58 z3a z3c) z01))) z8j zk6)))))))),zf2 fun N1 e1=>?_⟩
 match t,hv,ht,hl with
 | .num i,hv,_,hl=>
  obtain⟨pv2,xs,rfl,hpv,da⟩:=hv.tupI
  rcases da with _ | ⟨d1,_ | ⟨d2,_ | _⟩⟩
  cases d1; cases d2
  walk_at "rw"
  refine⟨_,SqT.of hpv,_,rfl,_,.inl ⟨rfl,rfl⟩,?_⟩
  rw [if_pos (by decide+kernel)]
  rw [T.sz] at hl
  refine⟨_,SqT.of hpv,_,rfl,_,SqT.of hpv,_,rfl,zl 2 (by decide),fun p1 hp1=>?_⟩
  have s1:=z07 hp1 (HO.tup [.int i,.int i])
  refine⟨_,_,some (i,i),p,a,nn,ns,rfl,z4y z04,hp.kp s1.kp,hw.same s1,by omega,fun r H' s2 w2 dr=>?_⟩
  rw [shS] at q
  exact q r H' (SB.trans (.of s1) s2) w2 dr
 | .nm x,hv,_,hl=>
  obtain⟨pv2,xs,rfl,hpv,da⟩:=hv.tupI
  rcases da with _ | ⟨d1,_ | ⟨d2,_ | _⟩⟩
  cases d1; cases d2
  walk_at "rw"
  refine⟨_,SqT.of hpv,_,rfl,_,.inl ⟨rfl,rfl⟩,?_⟩
  rw [if_neg (by decide+kernel)]
  show N1 _ _
  rw [e1]
  refine zf2 fun N2 e2=>?_
  walk_at "rw"
  refine⟨_,SqT.of hpv,_,rfl,_,.inl ⟨rfl,rfl⟩,?_⟩
  rw [if_pos (by decide+kernel)]
  rw [T.sz] at hl
  obtain⟨kvs,hd,rb⟩:=hbk
  refine⟨.inl ⟨_,hd⟩,_,SqT.of hpv,_,rfl,_,DGet.kr (k:=.inr x) hd,?_⟩
  rw [shS] at q
  rcases rb.look x with⟨z1,z2⟩ | ⟨sx,vx,z1,z2,dx⟩
  ·rw [z2]
   rw [z1] at q
   exact⟨_,_,none,p,a,nn,ns,rfl,.non,hp,hw,by omega,q⟩
  ·rw [z2]
   rw [z1] at q
   exact⟨_,_,some sx,p,a,nn,ns,rfl,dx,hp,hw,by omega,q⟩
 | .op w ta tb,hv,ht,hl=>
  obtain⟨pv2,xs,rfl,hpv,da⟩:=hv.tupI
  rcases da with _ | ⟨d1,_ | ⟨d2,_ | ⟨d3,_ | _⟩⟩⟩
  cases d1
  rename_i va vb
  rw [T.sz] at hl
  have hla:=zbg bk ta (p++[0]) ns
  walk_at "rw"
  refine⟨_,SqT.of hpv,_,rfl,_,.inl ⟨rfl,rfl⟩,?_⟩
  rw [if_neg (by cases w<;>decide+kernel)]
  show N1 _ _
  rw [e1]
  refine zf2 fun N2 e2=>?_
  walk_at "rw"
  refine⟨_,SqT.of hpv,_,rfl,_,.inl ⟨rfl,rfl⟩,?_⟩
  rw [if_neg (by cases w<;>decide+kernel)]
  show N2 _ _
  rw [e2]
  walk_at "rw"
  refine⟨_,SqT.of hpv,_,rfl,zl 1 (by decide),fun p1 hp1=>?_⟩
  have s1:=z07 hp1 (HO.tup [.int 0])
  have e3:upd H p1 (HO.tup [.int 0]) p1=_:=z04
  generalize upd H p1 (HO.tup [.int 0])=U at s1 e3 |-
  refine zy5 (q:=[0]) (hp.kp s1.kp) e3 (by simp; omega) fun r2 H2 s2 hr2=>?_
  have s12:=s1.trans s2
  refine⟨va,r2,ta,p++[0],d,a,nn,bk,ns,rfl,d2.kp s12.kp,ht.1,hr2,hbk.same s12,hw.same s12,by omega,by simp; omega,fun r3 H3 s3 w3 dr3=>?_⟩
  have sb3:SB nn H H3:=SB.trans (.of s12) s3
  rw [shS] at q
  rcases dtS dr3 with⟨z,rfl⟩ | ⟨l,h,pp,z,rfl,hpp⟩
  ·walk_at "rw"
   rw [if_pos z] at q
   exact q _ _ sb3 w3 .non
  ·rw [if_neg (by rw [z]; simp)] at q
   walk_at "rw"
   refine⟨_,SqT.of (sb3.kp.t _ _ hpv),_,rfl,zl 1 (by decide),fun p4 hp4=>?_⟩
   have s4:=z07 hp4 (HO.tup [.int 1])
   have e4:upd H3 p4 (HO.tup [.int 1]) p4=_:=z04
   generalize upd H3 p4 (HO.tup [.int 1])=U4 at s4 e4 |-
   refine zy5 (q:=[1]) ((hp.kp sb3.kp).kp s4.kp) e4 (by simp; omega) fun r5 H5 s5 hr5=>?_
   have s45:=s4.trans s5
   have sb5:SB nn H H5:=sb3.trans (.of s45)
   refine⟨vb,r5,tb,p++[1],d,a,nn,bk,(shS bk ta (p++[0]) ns).2,rfl,d3.kp sb5.kp,ht.2,hr5,sb5.bk hbk,w3.same s45,by omega,by simp; omega,fun r6 H6 s6 w6 dr6=>?_⟩
   have sb6:=sb5.trans s6
   have hlb:=zbg bk tb (p++[1]) (shS bk ta (p++[0]) ns).2
   refine⟨_,SqT.of (sb6.kp.t _ _ hpv),_,rfl,w,_,r6,_,_,rfl,(dr3.kp s45.kp).kp s6.kp,dr6,zvr _ _ _ _,zvr _ _ _ _,fun r7 H7 o s7 rel dr7=>?_⟩
   rw [zvn rel] at q
   have sb7:=sb6.trans (.of s7)
   exact⟨r7,pv,o,p,a,nn,(shS bk tb (p++[1]) (shS bk ta (p++[0]) ns).2).2,rfl,dr7,hp.kp sb7.kp,w6.same s7,by omega,fun r8 H8 s8 w8 dr8=>q r8 H8 (sb7.trans s8) w8 dr8⟩
end
theorem zp0{tl:TE}{g:TG}{tb:TS}{D:Ends}{σ : St}{H:Hp}:ztq (zw6 tl) g tb D σ H=tl σ H fun x H1=>∃d kvs,x=.ref d/\Rd H1 d (.dK kvs)/\∀o,zvj (Itd d o (.dK kvs) (kvs.map fun kv=>kV kv.1)) g tb D σ (upd H1 d (.frz o (.dK kvs))):=rfl
theorem zmf{tl:TE}{g:TG}{tt:TT}{te:TE}{mp:List (Option Nat)}{σ : St}{H:Hp}{Q:VK}:zjf (zw5 tl) g tt te mp σ H Q=tl σ H fun x H1=>∃d kvs,x=.ref d/\Rd H1 d (.dT kvs)/\∀(o:Obj) (as:List Addr),Paired (fun(kv:List Key×V) (a:Addr)=>H1 a=some (.tup (kv.1.map kV))) kvs as->zaw (Itd d o (.dT kvs) (as.map V.ref)) g tt te Q (subσ mp σ) (upd H1 d (.frz o (.dT kvs))):=rfl
theorem SB.frz{n:Addr}{H:Hp}{d:Addr}{kvs:List (Key×V)}(o:Obj)(h:Rd H d (.dK kvs)):SB n H (upd H d (.frz o (.dK kvs))):=fun b u e=>by
 by_cases hb:b=d
 ·subst hb
  rcases h with h | ⟨o2,h⟩
  ·rw [e] at h; cases h
   exact .inr (.inl ⟨o,kvs,.inl rfl,z04⟩)
  ·rw [e] at h; cases h
   exact .inr (.inl ⟨o,kvs,.inr ⟨_,rfl⟩,z04⟩)
 ·exact .inl (by rw [z0s hb]; exact e)
theorem SB.upd{n:Addr}{H H':Hp}(s:SB n H H'){p:Addr}(h:H p=none)(o:HO):SB n H (upd H' p o):=fun b u e=>by
 have hb:b≠p:=z1q e h
 rw [z0s hb]
 exact s b u e
def jn(s t:Int×Int):Int×Int:=(mn s.1 t.1,mx s.2 t.2)
theorem zxt(s t:Int×Int):q08 (some s) (some t)=some (jn s t):=by
 obtain⟨a,b⟩:=s
 obtain⟨c,d⟩:=t
 rfl
def z8h(one other acc:Bk)(x:Str):Bk:=match look one x,look other x with
 | some s,some t=>z54 acc x (jn s t)
 | _,_=>acc
def zmz(one other:Bk):Bk:=(one.map fun q=>q.1).foldl (z8h one other) []
theorem zsh(one other acc:Bk)(x:Str):(z8h one other acc x).length<=acc.length+1:=by
 unfold z8h
 split
 ·exact zdk _ _ _
 ·omega
theorem zhc(one other:Bk):∀(xs:List Str) (acc:Bk),(xs.foldl (z8h one other) acc).length<=acc.length+xs.length
 | [],acc=>Nat.le_refl _
 | x::r,acc=>by
  have h1:=zsh one other acc x
  have h2:=zhc one other r (z8h one other acc x)
  rw [List.foldl_cons,List.length_cons]
  omega
theorem zsg(one other:Bk):(zmz one other).length<=one.length:=by
 have:=zhc one other (one.map fun q=>q.1) []
 rw [List.length_map] at this
 simpa [zmz] using this
def zuu:Option Bk->Option Bk->Option Bk
 | none,o=>o
 | some a,none=>some a
 | some a,some b=>some (zmz a b)
abbrev Bh:=T->Bk->Bool->Option Bk
def z5s(bh:Bh)(t:T)(has:S)(bk:Bk)(so:Bool):Option Bk:=if(if so=true then !z6m has (some (0,0)) else z6m (some (0,0)) has)=true then bh t bk so else none
mutual
noncomputable def wkD (bh:Bh):D->Pth->Bk->Nts->Option Bk×Nts
 | .set x t,p,bk,ns=>((shS bk t (p++[0]) ns).1.map (z54 bk x),(shS bk t (p++[0]) ns).2)
 | .ite t b c,p,bk,ns=>
  (zuu (wkB bh b (p++[1]) 0 (z5s bh t (shS bk t (p++[0]) ns).1 bk true) (shS bk t (p++[0]) ns).2).1
   (wkB bh c (p++[2]) 0 (z5s bh t (shS bk t (p++[0]) ns).1 bk false) (wkB bh b (p++[1]) 0 (z5s bh t (shS bk t (p++[0]) ns).1 bk true) (shS bk t (p++[0]) ns).2).2).1,
   (wkB bh c (p++[2]) 0 (z5s bh t (shS bk t (p++[0]) ns).1 bk false) (wkB bh b (p++[1]) 0 (z5s bh t (shS bk t (p++[0]) ns).1 bk true) (shS bk t (p++[0]) ns).2).2).2)
 | .whl _ _ _,_,bk,ns=>(some bk,ns)
noncomputable def wkB (bh:Bh):List D->Pth->Int->Option Bk->Nts->Option Bk×Nts
 | [],_,_,o,ns=>(o,ns)
 | _::_,_,_,none,ns=>(none,ns)
 | d::r,p,i,some bk,ns=>wkB bh r p (i+1) (wkD bh d (p++[i]) bk ns).1 (wkD bh d (p++[i]) bk ns).2
end
mutual
def D.sz:D->Nat
 | .set _ t=>t.sz+3
 | .ite t b c=>t.sz+szB b+szB c+6
 | .whl t _ b=>t.sz+szB b+3
def szB:List D->Nat
 | []=>1
 | d::r=>d.sz+szB r
end
def zez(bh:Bh):Prop:=∀t bk so b',bh t bk so=some b'->b'.length<=bk.length+2
theorem zca{bh:Bh}(hb:zez bh){t:T}{has:S}{bk b':Bk}{so:Bool}(h:z5s bh t has bk so=some b'):b'.length<=bk.length+2:=by
 unfold z5s at h
 generalize (if so=true then !z6m has (some (0,0)) else z6m (some (0,0)) has)=c at h
 cases c with
 | true=>exact hb _ _ _ _ h
 | false=>cases h
theorem zsf{a b:Option Bk}{c:Bk}{k:Nat}(h:zuu a b=some c)(ha:∀x,a=some x->x.length<=k)(hb:∀x,b=some x->x.length<=k):c.length<=k:=by
 match a,b,h with
 | none,b,h=>exact hb _ h
 | some x,none,h=>exact ha _ h
 | some x,some y,h=>
  have h:some (zmz x y)=some c:=h
  injection h with h
  have:=zsg x y
  have:=ha x rfl
  rw [<- h]; omega
mutual
theorem zqg{bh:Bh}(hb:zez bh):∀(d:D) (p:Pth) (bk:Bk) (ns:Nts),(wkD bh d p bk ns).2.length<=ns.length+d.sz/\∀b',(wkD bh d p bk ns).1=some b'->b'.length<=bk.length+d.sz
 | .set x t,p,bk,ns=>by
  have h1:=zbg bk t (p++[0]) ns
  rw [wkD,D.sz]
  refine⟨by dsimp only; omega,fun b' h=>?_⟩
  dsimp only at h
  cases hs:(shS bk t (p++[0]) ns).1 with
  | none=>rw [hs] at h; cases h
  | some r=>
   rw [hs] at h
   have h:some (z54 bk x r)=some b':=h
   injection h with h
   have:=zdk bk x r
   rw [<- h]; omega
 | .ite t b c,p,bk,ns=>by
  have h1:=zbg bk t (p++[0]) ns
  have h2:=zg2 hb b (p++[1]) 0 (z5s bh t (shS bk t (p++[0]) ns).1 bk true) (shS bk t (p++[0]) ns).2
  have h3:=zg2 hb c (p++[2]) 0 (z5s bh t (shS bk t (p++[0]) ns).1 bk false) (wkB bh b (p++[1]) 0 (z5s bh t (shS bk t (p++[0]) ns).1 bk true) (shS bk t (p++[0]) ns).2).2
  rw [wkD,D.sz]
  refine⟨by have:=h2.1; have:=h3.1; dsimp only; omega,fun b' h=>?_⟩
  refine zsf h (fun x hx=>?_) (fun x hx=>?_)
  ·obtain⟨y,e,l⟩:=h2.2 x hx
   have:=zca hb e
   omega
  ·obtain⟨y,e,l⟩:=h3.2 x hx
   have:=zca hb e
   omega
 | .whl t m b,p,bk,ns=>by
  rw [wkD]
  exact⟨Nat.le_add_right _ _,fun b' h=>by cases h; exact Nat.le_add_right _ _⟩
theorem zg2{bh:Bh}(hb:zez bh):∀(b:List D) (p:Pth) (i:Int) (o:Option Bk) (ns:Nts),(wkB bh b p i o ns).2.length<=ns.length+szB b/\∀b',(wkB bh b p i o ns).1=some b'->∃bk,o=some bk/\b'.length<=bk.length+szB b
 | [],p,i,o,ns=>by
  rw [wkB]
  exact⟨Nat.le_add_right _ _,fun b' h=>⟨b',h,Nat.le_add_right _ _⟩⟩
 | d::r,p,i,none,ns=>by
  rw [wkB]
  exact⟨Nat.le_add_right _ _,fun b' h=>by cases h⟩
 | d::r,p,i,some bk,ns=>by
  have h1:=zqg hb d (p++[i]) bk ns
  have h2:=zg2 hb r p (i+1) (wkD bh d (p++[i]) bk ns).1 (wkD bh d (p++[i]) bk ns).2
  rw [wkB,szB]
  refine⟨by have:=h1.1; have:=h2.1; omega,fun b' h=>?_⟩
  obtain⟨y,e,l⟩:=h2.2 b' h
  have:=h1.2 y e
  exact⟨bk,rfl,by omega⟩
end
local macro_rules | `(tactic| walk_at "rx")=>`(tactic| simp only[zvm,q27,zwr,zhr,zt7,z8o,zew,zne,zhs,zbs,z8p,zbt,zk8,zht,zbu,ze0,zkl,zzi,zp0,zin,zmf,q22,zqq,q13,q1b,zyo,zow,tOp,zqc,tC,zws,zft,zxz,zpz,zz1,zyk,zqm,zp1,zoz,tCB,zi4,zwq,zmg,tUn,rU,rI0,rI,zyp,tOr,zyl,tB,zp4,zz9,zoy,tIf,zyn,zqn,zkk,zp2,ziq,zpa,zio,zqp,zgc,zqr,tSl,zdz,zox,zys,zgd,zku,zrf,zpd,z9o,zc8,z9l,z9r,zyj,zym,tBM,
 qEq,qNe,qIn,zkv,zyx,zpc,zzm,zre,zyw,zpg,zyy,zyv,zpe,zpf,ziw,rIx,zx1,zjj,zyu,zzl,zzj,zrd,zzk,zyt,ze3,ze2,zim,zkm,ztv,
 zc9,z9n,z9m,z9p,z7s,z9q,L2.start,zly,z83,zdb,List.map_cons,List.map_nil,List.length_cons,List.length_nil,List.replicate_succ,List.replicate_zero,Nat.reduceAdd,Nat.reduceSub,Nat.zero_add,Nat.add_zero,Nat.sub_zero,Nat.sub_self,Nat.add_sub_cancel,
 List.getElem?_cons_zero,List.getElem?_cons_succ,List.set_cons_zero,List.set_cons_succ,List.cons_append,List.nil_append,List.append_nil,List.cons.injEq,Option.some.injEq,V.int.injEq,V.ref.injEq,V.str.injEq,V.bl.injEq,V.ty.injEq,
 reduceCtorEq,false_and,and_false,and_true,true_and,exists_false,exists_const,false_or,or_false,exists_eq_left,exists_eq_left',exists_eq_right,exists_eq_right',exists_and_left,decide_eq_true_eq,Bool.not_eq_true',Bool.decide_eq_true,exists_eq,true_or,or_true,Bool.false_eq_true,if_true,if_false,Bool.true_eq_false,Bool.not_true,Bool.not_false,decide_true,decide_false,List.isEmpty_cons,List.isEmpty_nil,Bool.true_and,Bool.false_and,bne_self_eq_false,beq_self_eq_true])
section
variable{P:Program}{w:World}{K:PySem.W.Frag}{mg:Str->Option Value}{base:Heap}{f:Addr}{fd:FuncData}
def q25(Pq:T->Prop)(bh:Bh):Sp:=fun vs H Q _=>∃(v:V) (t:T) (d:Addr) (bk:Bk) (so:Bool),vs=[v,.ref d,.bl so]/\Dt H v t.enc/\Pq t/\IsBk H d bk/\bk.length<=900/\∀(r:V) (H':Hp),Same H H'->zkf H' r (bh t bk so)->Q r H'
def zvo(Pq:T->Prop)(bh:Bh):Sp:=fun vs H Q _=>∃(v hv:V) (t:T) (has:S) (d:Addr) (bk:Bk) (so:Bool),vs=[v,hv,.ref d,.bl so]/\Dt H v t.enc/\Pq t/\Dt H hv (z67 has)/\IsBk H d bk/\bk.length<=900/\∀(r:V) (H':Hp),Same H H'->zkf H' r (z5s bh t has bk so)->Q r H'
theorem zpn{Pq:T->Prop}{bh:Bh}{rz:Addr} (F:Fun K "side_of" "side_of" z26 f fd) (g_ZERO:GC mg "ZERO" (.ref rz)) (hZ:∀H,SqT K H rz [.int 0,.int 0]) (c_is_within:Callee P w K mg base "is_within" ["one","other"] 3 (zkp K))
  (c_behind:Callee P w K mg base "behind" ["term","book","is_so"] 7 (q25 Pq bh)):FnOk P w K mg base CX0 8 f fd ["term","has","book","is_so"] (zvo Pq bh):=by
 refine F.ok sc_side_of (fun vs H Q E h=>?_) (fun cdv A outer s H vs Q E hr h=>?_)
 ·obtain⟨v,hv,t,has,d,bk,so,rfl,_⟩:=h
  rfl
 obtain⟨v,hv,t,has,d,bk,so,rfl,dv,hq,dh,hbk,hl,q⟩:=h
 refine⟨_,(z02 (z1m (i:=4) sc_side_of.nd rfl zco (z72 (z8z (z00 (i:=3) rfl z7n z4q z4r)) (zzq (z0w c_is_within hr (by omega) (z08 (z00 (i:=1) rfl z9h zja zjd) (z08 (zrm g_ZERO z9x zt2) z01)) z6k zf6)) (z0w c_is_within hr (by omega) (z08 (zrm g_ZERO z9x zt2) (z08 (z00 (i:=1) rfl z9h zja zjd) z01)) z6k zf6)) (z06 rfl))
 (z02 (z1h (zix (z8z (z00 (i:=4) rfl zc0 zlu zm1))) (z05 (z0b z23)) z0d)
 (z05 (z0b (z0w c_behind hr (by omega) (z08 (z00 (i:=0) rfl zfb z1d z1f) (z08 (z00 (i:=2) rfl zfc z1t z1u) (z08 (z00 (i:=3) rfl z7n z4q z4r) z01))) zen zt0))))),?_⟩
 have hz:StK K H (.ref rz) (some (0,0)):=.inr ⟨_,_,rz,rfl,rfl,hZ _⟩
 unfold z5s at q
 cases so with
 | true=>
  rw [if_pos rfl] at q
  walk_at "rx"
  refine⟨_,_,has,some (0,0),rfl,.of dh,hz,fun H1 s1=>?_⟩
  cases hc:z6m has (some (0,0)) with
  | true=>
   rw [hc,if_neg (by simp)] at q
   walk_at "rx"
   exact q _ _ s1 rfl
  | false=>
   rw [hc,if_pos (by simp)] at q
   walk_at "rx"
   exact⟨v,t,d,bk,true,rfl,dv.kp s1.kp,hq,hbk.same s1,hl,fun r H' s2 hr'=>q r H' (s1.trans s2) hr'⟩
 | false=>
  rw [if_neg (show ¬ false=true from Bool.false_ne_true)] at q
  walk_at "rx"
  refine⟨_,_,some (0,0),has,rfl,hz,.of dh,fun H1 s1=>?_⟩
  cases hc:z6m (some (0,0)) has with
  | false=>
   rw [hc,if_neg (by simp)] at q
   walk_at "rx"
   exact q _ _ s1 rfl
  | true=>
   rw [hc,if_pos rfl] at q
   walk_at "rx"
   exact⟨v,t,d,bk,false,rfl,dv.kp s1.kp,hq,hbk.same s1,hl,fun r H' s2 hr'=>q r H' (s1.trans s2) hr'⟩
def q24:Sp:=fun vs H Q _=>∃(x y:V) (s t:Option Bk),vs=[x,y]/\zkf H x s/\zkf H y t/\(∀b,s=some b->b.length<=900)/\∀(r:V) (H':Hp),(∀n,SB n H H')->zkf H' r (zuu s t)->Q r H'
end
section
variable{P:Program}{w:World}{K:PySem.W.Frag}{mg:Str->Option Value}{base:Heap}{f:Addr}{fd:FuncData}
theorem BkR.key_at{H:Hp}{kvs:List (Key×V)}{bk:Bk}(h:BkR H kvs bk):(kvs.map fun kv=>kV kv.1)=bk.map fun q=>V.str q.1:=by
 unfold BkR at h
 induction h with
 | nil=>rfl
 | cons rr _ ih=>
  rename_i p q _ _ _
  rw [List.map_cons,List.map_cons,ih,rr.1]; rfl
theorem zo6:∀{bk:Bk} {x:Str},x∈bk.map (fun q=>q.1)->∃s,look bk x=some s
 | [],_,h=>by cases h
 | q::r,x,h=>by
  rw [look]
  by_cases e:q.1=x
  ·exact⟨q.2,if_pos e⟩
  ·rw [if_neg e]
   rw [List.map_cons,List.mem_cons] at h
   exact zo6 (h.resolve_left fun z=>e z.symm)
def JI(H:Hp)(d1 d2 db:Addr)(o:Obj)(kvs:List (Key×V))(b1 b2:Bk)(i:Nat)(σ':St)(H':Hp):Prop:=
 (∀n,SB n H H')/\H' d1=some (.frz o (.dK kvs))/\(∃t,σ'=[some (.ref d1),some (.ref d2),some (.ref db),t])/\∃kv,H' db=some (.dK kv)/\BkR H' kv (((b1.map fun q=>q.1).take i).foldl (z8h b1 b2) [])
theorem zgt(F:Fun K "joined_books" "joined_books" z0x f fd) (c_joined:Callee P w K mg base "joined" ["one","other"] 1 (zqu q08)):FnOk P w K mg base CX0 2 f fd ["one","other"] q24:=by
 refine F.ok sc_joined_books (fun vs H Q E h=>?_) (fun cdv A outer s H vs Q E hr h=>?_)
 ·obtain⟨x,y,s,t,rfl,_⟩:=h
  rfl
 obtain⟨x,y,s,t,rfl,hx,hy,hlen,q⟩:=h
 refine⟨_,(z02 (z1h (z0c zkg (z00 (i:=0) rfl z32 z1e z1g) z23 (z0f _)) (z05 (z0b (z00 (i:=1) rfl z2l z0j z0k))) z0d)
 (z02 (z1h (z0c zkg (z00 (i:=1) rfl z2l z0j z0k) z23 (z0f _)) (z05 (z0b (z00 (i:=0) rfl z32 z1e z1g))) z0d)
 (z02 (z1m (i:=2) sc_joined_books.nd rfl z9w znx (z06 rfl))
 (z02 (zf3 PassesOwn.never rfl (zub (z00 (i:=0) rfl z32 z1e z1g)) (z2d (i:=3) sc_joined_books.nd rfl z9v)
 (z05 (z1h (zzp (zvx hr.units1 (z00 (i:=3) rfl z2q zet zex) (z00 (i:=1) rfl z2l z0j z0k))) (z05 (ze4 hr.units1 (z00 (i:=2) rfl z63 zsz ztg) (z00 (i:=3) rfl z2q zet zex) (z0w c_joined hr (by omega) (z08 (z6r hr.units1 (z00 (i:=0) rfl z32 z1e z1g) (z00 (i:=3) rfl z2q zet zex) (fun _ _=>rfl)) (z08 (z6r hr.units1 (z00 (i:=1) rfl z2l z0j z0k) (z00 (i:=3) rfl z2q zet zex) (fun _ _=>rfl)) z01)) z9d zlt) (z06 rfl))) z0d)))
 (z05 (z0b (z00 (i:=2) rfl z63 zsz ztg))))))),?_⟩
 match s,t,hx,hy,hlen,q with
 | none,t,hx,hy,_,q=>
  cases hx
  walk_at "rx"
  exact q _ _ (fun _=>.of (Same.refl _)) hy
 | some b1,none,⟨d1,e1,h1⟩,hy,_,q=>
  cases hy; cases e1
  walk_at "rx"
  exact q _ _ (fun _=>.of (Same.refl _)) ⟨d1,rfl,h1⟩
 | some b1,some b2,⟨d1,e1,h1⟩,⟨d2,e2,h2⟩,hlen,q=>
  cases e1; cases e2
  have hl:=hlen b1 rfl
  walk_at "rx"
  intro db hdb
  have s1:=z07 hdb (HO.dK [])
  have eb:upd H db (HO.dK []) db=_:=z04
  have hne:d1≠db:=by
   intro z
   subst z
   obtain⟨kvs,e | ⟨_,e⟩,_⟩:=h1<;>rw [hdb] at e<;>cases e
  generalize upd H db (HO.dK [])=U at s1 eb |-
  obtain⟨kvs,hd,rb⟩:=id (h1.same s1)
  refine⟨kvs,hd,fun o=>?_⟩
  have sF:∀n,SB n U (upd U d1 (.frz o (.dK kvs))):=fun n=>SB.frz o hd
  have eF:upd U d1 (.frz o (.dK kvs)) d1=_:=z04
  have ebF:upd U d1 (.frz o (.dK kvs)) db=some (.dK []):=by rw [z0s (Ne.symm hne)]; exact eb
  generalize upd U d1 (.frz o (.dK kvs))=UF at sF eF ebF |-
  have sbF:∀n,SB n H UF:=fun n=>SB.trans (.of s1) (sF n)
  rw [rb.key_at]
  refine zv0 (JI H d1 d2 db o kvs b1 b2) ⟨sbF,eF,⟨_,rfl⟩,[],ebF,.nil⟩ ?_ ?_ ?_
  ·rintro i σ' H' _ ⟨_,h,_⟩
   exact h
  ·rintro i v σ' H' hv ⟨sb,hf,⟨t,rfl⟩,kv,hkv,rkv⟩
   rw [List.getElem?_map] at hv
   cases hq:b1[i]? with
   | none=>rw [hq] at hv; cases hv
   | some qq=>
    rw [hq] at hv
    have ev:V.str qq.1=v:=by simpa using hv
    subst ev
    have hmem:qq.1∈b1.map (fun q=>q.1):=List.mem_map.mpr ⟨qq,List.mem_of_getElem? hq,rfl⟩
    have htk:((b1.map fun q=>q.1).take (i+1))=((b1.map fun q=>q.1).take i)++[qq.1]:=by
     rw [List.take_add_one,List.getElem?_map,hq]; rfl
    have hil:i < b1.length:=(List.getElem?_eq_some_iff.mp hq).1
    obtain⟨sx,hsx⟩:=zo6 hmem
    obtain⟨k1,hk1,r1⟩:=(sb 0).bk h1
    obtain⟨k2,hk2,r2⟩:=(sb 0).bk h2
    rcases r1.look qq.1 with⟨z,_⟩ | ⟨s1',v1,z1,z1v,dv1⟩
    ·rw [hsx] at z; cases z
    have g1:=DGet.kr (k:=.inr qq.1) hk1
    have g2:=DGet.kr (k:=.inr qq.1) hk2
    rw [z1v] at g1
    have hlacc:=zhc b1 b2 ((b1.map fun q=>q.1).take i) []
    rw [List.length_take,List.length_nil] at hlacc
    unfold JI
    rw [htk,List.foldl_append]
    generalize ((b1.map fun q=>q.1).take i).foldl (z8h b1 b2) []=acc at rkv hlacc |-
    show _
    rcases r2.look qq.1 with⟨z2,z2v⟩ | ⟨s2',v2,z2,z2v,dv2⟩
    ·rw [z2v] at g2
     walk_at "rx"
     refine⟨_,g2,?_⟩
     refine⟨sb,hf,⟨_,rfl⟩,kv,hkv,?_⟩
     show BkR H' kv (z8h b1 b2 acc qq.1)
     unfold z8h
     rw [z1,z2]; exact rkv
    ·rw [z2v] at g2
     walk_at "rx"
     refine⟨_,g2,?_⟩
     refine⟨v1,g1,v2,g2,v1,v2,some s1',some s2',rfl,dv1,dv2,fun r4 H4 s4 dr4=>?_⟩
     rw [zxt] at dr4
     refine⟨_,DPut.k (k:=.inr qq.1) (s4 _ _ hkv) (by rw [rkv.length]; exact z2k (by omega)),?_⟩
     have hkp:Kp H4 (upd H4 db (.dK (zfy kv (.inr qq.1) r4))):=zha (s4 _ _ hkv)
     have sb4:∀n,SB n H H4:=fun n=>(sb n).trans (.of s4)
     have hf5:upd H4 db (.dK (zfy kv (.inr qq.1) r4)) d1=some (.frz o (.dK kvs)):=by rw [z0s hne]; exact s4 _ _ hf
     refine⟨fun n=>(sb4 n).upd hdb _,hf5,⟨_,rfl⟩,_,z04,?_⟩
     show BkR _ _ (z8h b1 b2 acc qq.1)
     unfold z8h
     rw [z1,z2]
     exact(rkv.kp (s4.kp.trans hkp)).put _ (dr4.kp hkp)
  ·rintro σ' H' ⟨sb,hf,⟨t,rfl⟩,kv,hkv,rkv⟩
   walk_at "rx"
   rw [List.length_map,List.take_of_length_le (by rw [List.length_map]; exact Nat.le_refl _)] at rkv
   exact q _ _ sb ⟨db,rfl,kv,.inl hkv,rkv⟩
end
section
variable{P:Program}{w:World}{K:PySem.W.Frag}{mg:Str->Option Value}{base:Heap}{f:Addr}{fd:FuncData}
def zts(Pq:T->Prop):Nat->List D->Prop
 | 0,_=>False
 | n+1,b=>∀d∈b,match d with
  | .set _ t=>T.dp 6 t
  | .ite t b c=>T.dp 6 t/\Pq t/\zts Pq n b/\zts Pq n c
  | .whl _ _ _=>False
def q1e(Pq:T->Prop)(n:Nat)(d:D):Prop:=match d with
 | .set _ t=>T.dp 6 t
 | .ite t b c=>T.dp 6 t/\Pq t/\zts Pq n b/\zts Pq n c
 | .whl _ _ _=>False
def q0a:D->Prop
 | .set _ t=>T.dp 6 t
 | _=>False
def q2f(Pq:T->Prop)(n:Nat):D->Prop
 | .ite t b c=>T.dp 6 t/\Pq t/\zts Pq n b/\zts Pq n c
 | _=>False
def zyq(K:PySem.W.Frag)(bh:Bh)(m:Nat)(ok:D->Prop):Sp:=fun vs H Q _=>∃(dv pv:V) (dd:D) (p:Pth) (d a nn:Addr) (bk:Bk) (ns:Nts),vs=[dv,pv,.ref d,.ref a]/\Dt H dv dd.enc/\ok dd/\PtA H pv p/\IsBk H d bk/\Wk K H a nn ns/\ns.length+dd.sz<=900/\bk.length+dd.sz<=900/\p.length+m<=900/\
 ∀(r:V) (H':Hp),SB nn H H'->Wk K H' a nn (wkD bh dd p bk ns).2->zkf H' r (wkD bh dd p bk ns).1->Q r H'
def zr3(K:PySem.W.Frag)(bh:Bh)(Pq:T->Prop)(n:Nat):Sp:=fun vs H Q _=>∃(bv pv ov:V) (b:List D) (p:Pth) (a nn:Addr) (o:Option Bk) (ns:Nts),vs=[bv,pv,ov,.ref a]/\Dt H bv (.tup (zof b))/\zts Pq n b/\PtA H pv p/\zkf H ov o/\Wk K H a nn ns/\ns.length+szB b<=900/\(∀bk,o=some bk->bk.length+szB b<=900)/\p.length+(2 * n+10)<=900/\
 ∀(r:V) (H':Hp),SB nn H H'->Wk K H' a nn (wkB bh b p 0 o ns).2->zkf H' r (wkB bh b p 0 o ns).1->Q r H'
theorem zum{bh:Bh}{Pq:T->Prop}{k:Nat}{n1 n2 n3 n4:Str}:FnOk P w K mg base CX0 k f fd [n1,n2,n3,n4] (zr3 K bh Pq 0):=by
 have no:∀vs H Q E,¬ zr3 K bh Pq 0 vs H Q E:=fun vs H Q E h=>by
  obtain⟨bv,pv,ov,b,p,a,nn,o,ns,_,_,h,_⟩:=h
  exact h.elim
 exact⟨fun vs H Q E h=>absurd h (no vs H Q E),fun A outer s H args us vs Q E _ _ _ _ h=>absurd h (no vs H Q E)⟩
theorem zry{bh:Bh} (F:Fun K "go_set" "go_set" z2r f fd) (b_dict:mg "dict" = none) (c_show:Callee P w K mg base "show" ["term","path","book","walk"] 11 (zir K 6)):FnOk P w K mg base CX0 12 f fd ["deed","path","book","walk"] (zyq K bh 8 q0a):=by
 refine F.ok sc_go_set (fun vs H Q E h=>?_) (fun cdv A outer s H vs Q E hr h=>?_)
 ·obtain⟨dv,pv,dd,p,d,a,nn,bk,ns,rfl,_⟩:=h
  rfl
 obtain⟨dv,pv,dd,p,d,a,nn,bk,ns,rfl,hv,ht,hp,hbk,hw,hl,hlb,hpl,q⟩:=h
 match dd,ht,hv,hl,hlb,q with
 | .set x t,ht,hv,hl,hlb,q=>
  rw [D.sz] at hl hlb
  rw [wkD] at q
  obtain⟨pd,xs,rfl,hpd,da⟩:=hv.tupI
  rcases da with _ | ⟨d1,_ | ⟨d2,_ | ⟨d3,_ | _⟩⟩⟩
  cases d1; cases d2
  rename_i vt
  refine⟨_,(z02 (z1m (i:=4) sc_go_set.nd rfl zib (z0w c_show hr (by omega) (z08 (z0e z0a (z00 (i:=0) rfl z9i z5u z5w) z03 (fun _ _=>rfl)) (z08 (z28 z5f (z00 (i:=1) rfl zg7 z3j z3l) (z0y (z08 z03 z01))) (z08 (z00 (i:=2) rfl z9j z1t z1u) (z08 (z00 (i:=3) rfl zg6 z3a z3c) z01)))) zih zk4) (z06 rfl))
 (z02 (z1h (z0c zkg (z00 (i:=4) rfl zax zja zjd) z23 (z0f _)) (z05 (z0b z23)) z0d)
 (z02 (z1m (i:=5) sc_go_set.nd rfl zic (zrq z79 zii b_dict zhx (z08 (z00 (i:=2) rfl z9j z1t z1u) z01) zgw zho) (z06 rfl))
 (z02 (ze4 hr.units1 (z00 (i:=5) rfl zay zwd zwe) (z0e z0a (z00 (i:=0) rfl z9i z5u z5w) z03 (fun _ _=>rfl)) (z00 (i:=4) rfl zax zja zjd) (z06 rfl))
 (z05 (z0b (z00 (i:=5) rfl zay zwd zwe))))))),?_⟩
  walk_at "rx"
  refine⟨_,SqT.of hpd,_,rfl,zl 1 (by decide),fun p1 hp1=>?_⟩
  have s1:=z07 hp1 (HO.tup [.int 0])
  have e1:upd H p1 (HO.tup [.int 0]) p1=_:=z04
  generalize upd H p1 (HO.tup [.int 0])=U at s1 e1 |-
  refine zy5 (q:=[0]) (hp.kp s1.kp) e1 (by simp; omega) fun r2 H2 s2 hr2=>?_
  have s12:=s1.trans s2
  refine⟨vt,r2,t,p++[0],d,a,nn,bk,ns,rfl,d3.kp s12.kp,ht,hr2,hbk.same s12,hw.same s12,by omega,by simp; omega,fun r3 H3 s3 w3 dr3=>?_⟩
  have sb3:SB nn H H3:=SB.trans (.of s12) s3
  rcases dtS dr3 with⟨z,rfl⟩ | ⟨l,h,pp,z,rfl,hpp⟩
  ·walk_at "rx"
   rw [z] at q
   exact q _ _ sb3 w3 rfl
  ·walk_at "rx"
   rw [z] at q
   obtain⟨kvs,hd,rb⟩:=sb3.bk hbk
   refine⟨kvs,hd,fun p4 hp4=>?_⟩
   have s4:=z07 hp4 (HO.dK kvs)
   have e4:upd H3 p4 (HO.dK kvs) p4=_:=z04
   have s5:∀o,Same H3 (upd (upd H3 p4 (HO.dK kvs)) p4 o):=fun o=>z8c s4 hp4
   generalize upd H3 p4 (HO.dK kvs)=U4 at s4 e4 s5 |-
   refine⟨_,SqT.of (s4 _ _ (sb3.kp.t _ _ hpd)),_,rfl,_,DPut.k (k:=.inr x) e4 (by rw [rb.length]; exact z2k (by omega)),?_⟩
   have hk:=s4.kp.trans (zha (kvs':=zfy kvs (.inr x) (V.ref pp)) e4)
   rw [z] at dr3
   exact q _ _ (sb3.trans (.of (s5 _))) (w3.same (s5 _)) ⟨p4,rfl,_,.inl z04,(rb.kp hk).put x (dr3.kp hk)⟩
theorem zo0{bh:Bh}{Pq:T->Prop}{n:Nat}(hg:zez bh) (F:Fun K "go_if" "go_if" z2z f fd) (c_show:Callee P w K mg base "show" ["term","path","book","walk"] 11 (zir K 6)) (c_side_of:Callee P w K mg base "side_of" ["term","has","book","is_so"] 8 (zvo Pq bh)) (c_joined_books:Callee P w K mg base "joined_books" ["one","other"] 2 q24)
  (c_go_block:Callee P w K mg base "go_block" ["block","path","book","walk"] (3 * n+12) (zr3 K bh Pq n)):FnOk P w K mg base CX0 (3 * n+13) f fd ["deed","path","book","walk"] (zyq K bh (2 * n+11) (q2f Pq n)):=by
 refine F.ok sc_go_if (fun vs H Q E h=>?_) (fun cdv A outer s H vs Q E hr h=>?_)
 ·obtain⟨dv,pv,dd,p,d,a,nn,bk,ns,rfl,_⟩:=h
  rfl
 obtain⟨dv,pv,dd,p,d,a,nn,bk,ns,rfl,hv,ht,hp,hbk,hw,hl,hlb,hpl,q⟩:=h
 match dd,ht,hv,hl,hlb,q with
 | .ite t b c,⟨ht,hpq,hb,hc⟩,hv,hl,hlb,q=>
  rw [D.sz] at hl hlb
  rw [wkD] at q
  obtain⟨pd,xs,rfl,hpd,da⟩:=hv.tupI
  rcases da with _ | ⟨d1,_ | ⟨d2,_ | ⟨d3,_ | ⟨d4,_ | _⟩⟩⟩⟩
  cases d1
  rename_i vt vb vc
  have g1:=zbg bk t (p++[0]) ns
  refine⟨_,(z02 (z1m (i:=4) sc_go_if.nd rfl zjw (z0w c_show hr (by omega) (z08 (z0e z0a (z00 (i:=0) rfl z4j z5u z5w) z03 (fun _ _=>rfl)) (z08 (z28 z5f (z00 (i:=1) rfl z7f z3j z3l) (z0y (z08 z03 z01))) (z08 (z00 (i:=2) rfl z7g z1t z1u) (z08 (z00 (i:=3) rfl z7e z3a z3c) z01)))) zk1 zk4) (z06 rfl))
 (z02 (z1m (i:=5) sc_go_if.nd rfl zjv (z0w c_go_block hr (by omega) (z08 (z0e z0a (z00 (i:=0) rfl z4j z5u z5w) z03 (fun _ _=>rfl)) (z08 (z28 z5f (z00 (i:=1) rfl z7f z3j z3l) (z0y (z08 z03 z01))) (z08 (z0w c_side_of hr (by omega) (z08 (z0e z0a (z00 (i:=0) rfl z4j z5u z5w) z03 (fun _ _=>rfl)) (z08 (z00 (i:=4) rfl zc4 zja zjd) (z08 (z00 (i:=2) rfl z7g z1t z1u) (z08 zl0 z01)))) z92 zj8) (z08 (z00 (i:=3) rfl z7e z3a z3c) z01)))) z7y zbr) (z06 rfl))
 (z02 (z1m (i:=6) sc_go_if.nd rfl zh3 (z0w c_go_block hr (by omega) (z08 (z0e z0a (z00 (i:=0) rfl z4j z5u z5w) z03 (fun _ _=>rfl)) (z08 (z28 z5f (z00 (i:=1) rfl z7f z3j z3l) (z0y (z08 z03 z01))) (z08 (z0w c_side_of hr (by omega) (z08 (z0e z0a (z00 (i:=0) rfl z4j z5u z5w) z03 (fun _ _=>rfl)) (z08 (z00 (i:=4) rfl zc4 zja zjd) (z08 (z00 (i:=2) rfl z7g z1t z1u) (z08 zl0 z01)))) z92 zj8) (z08 (z00 (i:=3) rfl z7e z3a z3c) z01)))) z7y zbr) (z06 rfl))
 (z05 (z0b (z0w c_joined_books hr (by omega) (z08 (z00 (i:=5) rfl zje z1e z1g) (z08 (z00 (i:=6) rfl zg8 z0j z0k) z01)) za1 zhm)))))),?_⟩
  walk_at "rx"
  refine⟨_,SqT.of hpd,_,rfl,zl 1 (by decide),fun p1 hp1=>?_⟩
  have s1:=z07 hp1 (HO.tup [.int 0])
  have e1:upd H p1 (HO.tup [.int 0]) p1=_:=z04
  generalize upd H p1 (HO.tup [.int 0])=U at s1 e1 |-
  refine zy5 (q:=[0]) (hp.kp s1.kp) e1 (by simp; omega) fun r2 H2 s2 hr2=>?_
  have s12:=s1.trans s2
  refine⟨vt,r2,t,p++[0],d,a,nn,bk,ns,rfl,d2.kp s12.kp,ht,hr2,hbk.same s12,hw.same s12,by omega,by simp; omega,fun r3 H3 s3 w3 dr3=>?_⟩
  have sb3:SB nn H H3:=SB.trans (.of s12) s3
  generalize shS bk t (p++[0]) ns=sh at g1 w3 dr3 q
  walk_at "rx"
  refine⟨_,SqT.of (sb3.kp.t _ _ hpd),_,rfl,zl 1 (by decide),fun p4 hp4=>?_⟩
  have s4:=z07 hp4 (HO.tup [.int 1])
  have e4:upd H3 p4 (HO.tup [.int 1]) p4=_:=z04
  generalize upd H3 p4 (HO.tup [.int 1])=U4 at s4 e4 |-
  refine zy5 (q:=[1]) ((hp.kp sb3.kp).kp s4.kp) e4 (by simp; omega) fun r5 H5 s5 hr5=>?_
  have s45:=s4.trans s5
  have sb5:SB nn H H5:=sb3.trans (.of s45)
  refine⟨_,SqT.of (sb5.kp.t _ _ hpd),_,rfl,vt,r3,t,sh.1,d,bk,true,rfl,d2.kp sb5.kp,hpq,dr3.kp s45.kp,sb5.bk hbk,by omega,fun r6 H6 s6 hr6=>?_⟩
  have sb6:=sb5.trans (.of s6)
  have gs1:∀bk',z5s bh t sh.1 bk true=some bk'->bk'.length+szB b<=900:=fun bk' e=>by
   have:=zca hg e
   omega
  have g2:=zg2 hg b (p++[1]) 0 (z5s bh t sh.1 bk true) sh.2
  refine⟨vb,r5,r6,b,p++[1],a,nn,_,sh.2,rfl,d3.kp sb6.kp,hb,hr5.kp s6.kp,hr6,(w3.same s45).same s6,by omega,gs1,by simp; omega,fun r7 H7 s7 w7 hr7=>?_⟩
  have sb7:=sb6.trans s7
  have gs2:∀bk',(wkB bh b (p++[1]) 0 (z5s bh t sh.1 bk true) sh.2).1=some bk'->bk'.length<=900:=fun bk' e=>by
   obtain⟨y,e2,l⟩:=g2.2 bk' e
   have:=gs1 y e2
   omega
  generalize wkB bh b (p++[1]) 0 (z5s bh t sh.1 bk true) sh.2=wb at g2 gs2 w7 hr7 q
  walk_at "rx"
  refine⟨_,SqT.of (sb7.kp.t _ _ hpd),_,rfl,zl 1 (by decide),fun p8 hp8=>?_⟩
  have s8:=z07 hp8 (HO.tup [.int 2])
  have e8:upd H7 p8 (HO.tup [.int 2]) p8=_:=z04
  generalize upd H7 p8 (HO.tup [.int 2])=U8 at s8 e8 |-
  refine zy5 (q:=[2]) ((hp.kp sb7.kp).kp s8.kp) e8 (by simp; omega) fun r9 H9 s9 hr9=>?_
  have s89:=s8.trans s9
  have sb9:SB nn H H9:=sb7.trans (.of s89)
  have dr3':Dt H9 r3 (z67 sh.1):=((((dr3.kp s45.kp).kp s6.kp).kp s7.kp).kp s89.kp)
  refine⟨_,SqT.of (sb9.kp.t _ _ hpd),_,rfl,vt,r3,t,sh.1,d,bk,false,rfl,d2.kp sb9.kp,hpq,dr3',sb9.bk hbk,by omega,fun r10 H10 s10 hr10=>?_⟩
  have sb10:=sb9.trans (.of s10)
  have gs3:∀bk',z5s bh t sh.1 bk false=some bk'->bk'.length+szB c<=900:=fun bk' e=>by
   have:=zca hg e
   omega
  have g2l:=g2.1
  refine⟨vc,r9,r10,c,p++[2],a,nn,_,wb.2,rfl,d4.kp sb10.kp,hc,hr9.kp s10.kp,hr10,(w7.same s89).same s10,by omega,gs3,by simp; omega,fun r11 H11 s11 w11 hr11=>?_⟩
  have sb11:=sb10.trans s11
  have hr7':zkf H11 r7 wb.1:=s11.res (Same.res s10 (Same.res s89 hr7))
  walk_at "rx"
  refine⟨r7,r11,_,_,rfl,hr7',hr11,gs2,fun r12 H12 s12' hr12=>?_⟩
  have w12:Wk K H12 a nn (wkB bh c (p++[2]) 0 (z5s bh t sh.1 bk false) wb.2).2:=by
   obtain⟨⟨C,dx,fs,e,c1,d1,l⟩,kvs,e2,r⟩:=w11
   have sn:=s12' nn
   refine⟨⟨C,dx,fs,sn.ins e,c1,d1,l⟩,kvs,?_,r.kp sn.kp⟩
   rcases s12' (nn+1) _ _ e2 with h1 | ⟨_,_,z | ⟨_,z⟩,_⟩ | ⟨z,_⟩
   ·exact h1
   ·cases z
   ·cases z
   ·exact absurd z (Nat.ne_of_lt (Nat.lt_succ_self nn))
  exact q r12 H12 (sb11.trans (s12' nn)) w12 hr12
end
section
variable{P:Program}{w:World}{K:PySem.W.Frag}{mg:Str->Option Value}{base:Heap}{f:Addr}{fd:FuncData}
theorem zj0{bh:Bh}{Pq:T->Prop}{n:Nat} (F:Fun K "go_deed" "go_deed" z2s f fd) (c_go_set:Callee P w K mg base "go_set" ["deed","path","book","walk"] 12 (zyq K bh 8 q0a)) (c_go_if:Callee P w K mg base "go_if" ["deed","path","book","walk"] (3 * n+13) (zyq K bh (2 * n+11) (q2f Pq n)))
  (c_go_while:Callee P w K mg base "go_while" ["deed","path","book","walk"] 0 (fun _ _ _ _=>False)):FnOk P w K mg base CX0 (3 * n+14) f fd ["deed","path","book","walk"] (zyq K bh (2 * n+11) (q1e Pq n)):=by
 refine F.ok zp8 (fun vs H Q E h=>?_) (fun cdv A outer s H vs Q E hr h=>?_)
 ·obtain⟨dv,pv,dd,p,d,a,nn,bk,ns,rfl,_⟩:=h
  rfl
 obtain⟨dv,pv,dd,p,d,a,nn,bk,ns,rfl,hv,ht,hp,hbk,hw,hl,hlb,hpl,q⟩:=h
 refine⟨_,(z02 (z1h (z0c (gEq hr.units) (z0e z0a (z00 (i:=0) rfl z3n z5u z5w) z03 (fun _ _=>rfl)) z0p (z0f _)) (z05 (z0b (z0w c_go_set hr (by omega) (z08 (z00 (i:=0) rfl z3n z5u z5w) (z08 (z00 (i:=1) rfl z69 z3j z3l) (z08 (z00 (i:=2) rfl z6a z1t z1u) (z08 (z00 (i:=3) rfl z68 z3a z3c) z01)))) zer zsy))) z0d)
 (z02 (z1h (z0c (gEq hr.units) (z0e z0a (z00 (i:=0) rfl z3n z5u z5w) z03 (fun _ _=>rfl)) z0p (z0f _)) (z05 (z0b (z0w c_go_if hr (by omega) (z08 (z00 (i:=0) rfl z3n z5u z5w) (z08 (z00 (i:=1) rfl z69 z3j z3l) (z08 (z00 (i:=2) rfl z6a z1t z1u) (z08 (z00 (i:=3) rfl z68 z3a z3c) z01)))) zfs zv8))) z0d)
 (z05 (z0b (z0w c_go_while hr (by omega) (z08 (z00 (i:=0) rfl z3n z5u z5w) (z08 (z00 (i:=1) rfl z69 z3j z3l) (z08 (z00 (i:=2) rfl z6a z1t z1u) (z08 (z00 (i:=3) rfl z68 z3a z3c) z01)))) zbl znb))))),zf2 fun N1 e1=>?_⟩
 match dd,ht,hv,hl,hlb,q with
 | .set x t,ht,hv,hl,hlb,q=>
  obtain⟨pd,xs,rfl,hpd,da⟩:=id hv.tupI
  rcases da with _ | ⟨d1,_ | ⟨d2,_ | ⟨d3,_ | _⟩⟩⟩
  cases d1
  walk_at "rx"
  refine⟨_,SqT.of hpd,_,rfl,_,.inl ⟨rfl,rfl⟩,?_⟩
  rw [if_pos (by decide+kernel)]
  exact⟨_,pv,.set x t,p,d,a,nn,bk,ns,rfl,hv,ht,hp,hbk,hw,hl,hlb,by omega,q⟩
 | .ite t b c,ht,hv,hl,hlb,q=>
  obtain⟨pd,xs,rfl,hpd,da⟩:=id hv.tupI
  rcases da with _ | ⟨d1,_ | ⟨d2,_ | ⟨d3,_ | ⟨d4,_ | _⟩⟩⟩⟩
  cases d1
  walk_at "rx"
  refine⟨_,SqT.of hpd,_,rfl,_,.inl ⟨rfl,rfl⟩,?_⟩
  rw [if_neg (by decide+kernel)]
  show N1 _ _
  rw [e1]
  walk_at "rx"
  refine⟨_,SqT.of hpd,_,rfl,_,.inl ⟨rfl,rfl⟩,?_⟩
  rw [if_pos (by decide+kernel)]
  exact⟨_,pv,.ite t b c,p,d,a,nn,bk,ns,rfl,hv,ht,hp,hbk,hw,hl,hlb,by omega,q⟩
theorem zn4:∀{b:List D} {ds:List V} {H:Hp} {i:Nat} {x:V},DtA H ds (zof b)->ds[i]?=some x->∃d,b[i]?=some d/\Dt H x d.enc
 | [],ds,H,i,x,h,hx=>by
  rw [zof] at h
  cases h; cases hx
 | d::b,ds,H,i,x,h,hx=>by
  rw [zof] at h
  cases h with
  | cons h1 h2=>
   cases i with
   | zero=>
    rw [List.getElem?_cons_zero] at hx
    cases hx
    exact⟨d,rfl,h1⟩
   | succ i=>
    rw [List.getElem?_cons_succ] at hx |-
    exact zn4 h2 hx
theorem zxj{Pq:T->Prop}{n:Nat}{b:List D}(h:zts Pq (n+1) b){d:D}(hd:d∈b):q1e Pq n d:=by
 have:=h d hd
 cases d<;>exact this
def BI(K:PySem.W.Frag)(bh:Bh)(H:Hp)(bv pv:V)(a nn:Addr)(b:List D)(p:Pth)(res:Option Bk×Nts)(i:Nat)(σ':St)(H':Hp):Prop:=
 SB nn H H'/\∃(ov:V) (o:Option Bk) (ns:Nts),(∃t1 t2,σ'=[some bv,some pv,some ov,some (.ref a),t1,t2])/\zkf H' ov o/\Wk K H' a nn ns/\wkB bh (b.drop i) p i o ns=res/\ns.length+szB (b.drop i)<=900/\∀bk,o=some bk->bk.length+szB (b.drop i)<=900
theorem zgu{bh:Bh}{Pq:T->Prop}{n:Nat}(hg:zez bh) (F:Fun K "go_block" "go_block" z19 f fd) (b_enumerate:mg "enumerate" = none) (c_go_deed:Callee P w K mg base "go_deed" ["deed","path","book","walk"] (3 * n+14) (zyq K bh (2 * n+11) (q1e Pq n))):FnOk P w K mg base CX0 (3 * (n+1)+12) f fd ["block","path","book","walk"] (zr3 K bh Pq (n+1)):=by
 refine F.ok sc_go_block (fun vs H Q E h=>?_) (fun cdv A outer s H vs Q E hr h=>?_)
 ·obtain⟨bv,pv,ov,b,p,a,nn,o,ns,rfl,_⟩:=h
  rfl
 obtain⟨bv,pv,ov,b,p,a,nn,o,ns,rfl,hv,hok,hp,ho,hw,hl,hlb,hpl,q⟩:=h
 obtain⟨pb,xs,rfl,hpb,da⟩:=hv.tupI
 have hxl:xs.length=b.length:=by rw [da.length,zhj]
 refine⟨_,(z02 (zf3 PassesOwn.never rfl (zu9 za2 b_enumerate (z08 (z00 (i:=0) rfl zc5 zv9 zvd) z01)) (znv (n:=2) rfl (z6l (z2d (i:=4) sc_go_block.nd rfl zh4) (z6l (z2d (i:=5) sc_go_block.nd rfl zeg) zjl)))
 (z02 (z1h (z0c zkg (z00 (i:=2) rfl z5r z1t z1u) z23 (z0f _)) (z05 (z0b z23)) z0d)
 (z05 (z1m (i:=2) sc_go_block.nd rfl zeh (z0w c_go_deed hr (by omega) (z08 (z00 (i:=5) rfl zdx z5u z5w) (z08 (z28 z5f (z00 (i:=1) rfl zdw z3j z3l) (z0y (z08 (z00 (i:=4) rfl zg9 q1o q1r) z01))) (z08 (z00 (i:=2) rfl z5r z1t z1u) (z08 (z00 (i:=3) rfl zdv z3a z3c) z01)))) zbm zq3) (z06 rfl)))))
 (z05 (z0b (z00 (i:=2) rfl z5r z1t z1u)))),?_⟩
 walk_at "rx"
 refine⟨⟨_,SqT.of hpb⟩,?_⟩
 refine zsn (xs:=xs) (BI K bh H (.ref pb) pv a nn b p (wkB bh b p 0 o ns)) ⟨.of (Same.refl _),ov,o,ns,⟨_,_,rfl⟩,ho,hw,rfl,hl,hlb⟩ ?_ ?_ ?_
 ·rintro i σ' H' _ ⟨sb,_⟩
  exact SqT.of (sb.kp.t _ _ hpb)
 ·rintro i x σ' H' T hx ⟨sb,ov,o,ns',⟨t1,t2,rfl⟩,ho,hw,hres,hl,hlb⟩ hT
  obtain⟨dd,hdd,_⟩:=zn4 da hx
  have s1:=z07 hT (HO.tup [V.int i,x])
  have e1:upd H' T (HO.tup [V.int i,x]) T=_:=z04
  generalize upd H' T (HO.tup [V.int i,x])=U at s1 e1 |-
  have sbU:SB nn H U:=sb.trans (.of s1)
  obtain⟨dd',hdd',dx⟩:=zn4 (DtA.kp sbU.kp da) hx
  rw [hdd] at hdd'
  cases hdd'
  have hmem:dd∈b:=List.mem_of_getElem? hdd
  have hil:i < b.length:=(List.getElem?_eq_some_iff.mp hdd).1
  have hdr:b.drop i=dd::b.drop (i+1):=by
   rw [List.drop_eq_getElem_cons hil]
   congr 1
   have:=(List.getElem?_eq_some_iff.mp hdd).2
   exact this
  rw [hdr] at hres hl hlb
  rw [szB] at hl hlb
  walk_at "rx"
  refine⟨_,SqT.of e1,rfl,_,_,rfl,_,_,rfl,rfl,?_⟩
  match o,ho,hres,hlb with
  | none,ho,hres,_=>
   cases ho
   walk_at "rx"
   rw [wkB] at hres
   rw [<- hres] at q
   exact q _ _ sbU (hw.same s1) rfl
  | some bk,⟨d,e,hbk⟩,hres,hlb=>
   cases e
   have hlb:=hlb bk rfl
   walk_at "rx"
   rw [wkB] at hres
   refine⟨zl 1 (by decide),fun p2 hp2=>?_⟩
   have s2:=z07 hp2 (HO.tup [.int i])
   have e2:upd U p2 (HO.tup [.int i]) p2=_:=z04
   generalize upd U p2 (HO.tup [.int i])=U2 at s2 e2 |-
   refine zy5 (q:=[(i:Int)]) ((hp.kp sbU.kp).kp s2.kp) e2 (by simp; omega) fun r3 H3 s3 hr3=>?_
   have s13:=s1.trans (s2.trans s3)
   have sb3:SB nn H H3:=sb.trans (.of s13)
   have gl:=zqg hg dd (p++[(i:Int)]) bk ns'
   refine⟨x,r3,dd,p++[(i:Int)],d,a,nn,bk,ns',rfl,dx.kp (s2.trans s3).kp,zxj hok hmem,hr3,hbk.same s13,hw.same s13,by omega,by omega,by simp; omega,fun r4 H4 s4 w4 hr4=>?_⟩
   have gl1:=gl.1
   refine⟨sb3.trans s4,r4,_,_,⟨_,_,rfl⟩,hr4,w4,?_,by omega,fun bk' e=>by have:=gl.2 bk' e; omega⟩
   rw [<- hres]; rfl
 ·rintro σ' H' ⟨sb,ov,o,ns',⟨t1,t2,rfl⟩,ho,hw,hres,hl,hlb⟩
  rw [hxl,List.drop_length,wkB] at hres
  walk_at "rx"
  rw [<- hres] at q
  exact q _ _ sb hw ho
end
section
variable{P:Program}{w:World}{K:PySem.W.Frag}{mg:Str->Option Value}{base:Heap}{f:Addr}{fd:FuncData}
theorem zs5{α : Type}{f : α->Dm}{H:Hp}{xs:List V}{b:List α}{i:Nat}{x:V}(h:DtA H xs (b.map f))(hx:xs[i]?=some x):∃d,b[i]?=some d/\Dt H x (f d):=by
 obtain⟨e,he,de⟩:=h.get hx
 rw [List.getElem?_map] at he
 cases hb:b[i]? with
 | none=>rw [hb] at he; cases he
 | some d=>
  rw [hb] at he
  have:f d=e:=by simpa using he
  subst this
  exact⟨d,rfl,de⟩
theorem zgb{α : Type}{l:List α}{i:Nat}{x : α}(h:l[i]?=some x):l.take (i+1)=l.take i++[x]:=by
 rw [List.take_add_one,h]; rfl
theorem zuv{H:Hp}{p:Addr}{xs:List V}(h:H p=some (.tup xs)):∃t,TyOf K H (.ref p) t/\PySem.W.kitOne K t (.type "tuple")=some true:=⟨_,.tup h,rfl⟩
abbrev Rw:=Str×Int×Int
def zrc(r:Rw):Dm:=.tup [.str r.1,.int r.2.1,.int r.2.2]
def zm7(rows:List Rw):Bk:=rows.foldl (fun b r=>z54 b r.1 r.2) []
def zjg:Sp:=fun vs H Q _=>∃(v:V) (rows:List Rw),vs=[v]/\Dt H v (.tup (rows.map zrc))/\rows.length<=900/\∀(d:Addr) (H':Hp),Same H H'->IsBk H' d (zm7 rows)->Q (.ref d) H'
theorem zhz:∀(rows:List Rw) (b:Bk),(rows.foldl (fun b r=>z54 b r.1 r.2) b).length<=b.length+rows.length
 | [],b=>Nat.le_refl _
 | r::rs,b=>by
  have h1:=zdk b r.1 r.2
  have h2:=zhz rs (z54 b r.1 r.2)
  rw [List.foldl_cons,List.length_cons]
  omega
def OI(H:Hp)(v:V)(db:Addr)(rows:List Rw)(i:Nat)(σ':St)(H':Hp):Prop:=
 Same H H'/\(∃t1 t2 t3,σ'=[some v,some (.ref db),t1,t2,t3])/\∃kv,H' db=some (.dK kv)/\BkR H' kv (zm7 (rows.take i))
theorem zpo(F:Fun K "book_of" "book_of" z27 f fd):FnOk P w K mg base CX0 1 f fd ["shelf"] zjg:=by
 refine F.ok sc_book_of (fun vs H Q E h=>?_) (fun cdv A outer s H vs Q E hr h=>?_)
 ·obtain⟨v,rows,rfl,_⟩:=h
  rfl
 obtain⟨v,rows,rfl,hv,hl,q⟩:=h
 obtain⟨pv,xs,rfl,hpv,da⟩:=hv.tupI
 have hxl:xs.length=rows.length:=by rw [da.length,List.length_map]
 refine⟨_,(z02 (z1m (i:=1) sc_book_of.nd rfl zfq znx (z06 rfl))
 (z02 (zf3 PassesOwn.never rfl (zkx (z00 (i:=0) rfl zdy zoi zop)) (znv (n:=3) rfl (z6l (z2d (i:=2) sc_book_of.nd rfl zfo) (z6l (z2d (i:=3) sc_book_of.nd rfl zh5) (z6l (z2d (i:=4) sc_book_of.nd rfl zfp) zjl))))
 (z05 (ze4 hr.units1 (z00 (i:=1) rfl z8v z1t z1u) (z00 (i:=2) rfl zfe zet zex) (z0y (z08 (z00 (i:=3) rfl zga zsw zte) (z08 (z00 (i:=4) rfl zff zn9 zni) z01))) (z06 rfl))))
 (z05 (z0b (z00 (i:=1) rfl z8v z1t z1u))))),?_⟩
 walk_at "rx"
 intro db hdb
 have s1:=z07 hdb (HO.dK [])
 have eb:upd H db (HO.dK []) db=_:=z04
 generalize upd H db (HO.dK [])=U at s1 eb |-
 refine⟨⟨_,SqT.of (s1 _ _ hpv)⟩,?_⟩
 refine zsm (K:=K) (a:=pv) (xs:=xs) (OI H (.ref pv) db rows) ⟨s1,⟨_,_,_,rfl⟩,[],eb,.nil⟩ ?_ ?_ ?_
 ·rintro i σ' H' _ ⟨s2,_⟩
  exact SqT.of (s2 _ _ hpv)
 ·rintro i x σ' H' hx ⟨s2,⟨t1,t2,t3,rfl⟩,kv,hkv,rkv⟩
  obtain⟨r,hri,dr⟩:=zs5 da hx
  obtain⟨ra,ys,rfl,hra,dra⟩:=dr.tupI
  rcases dra with _ | ⟨u1,_ | ⟨u2,_ | ⟨u3,_ | _⟩⟩⟩
  cases u1; cases u2; cases u3
  have hil:i < rows.length:=(List.getElem?_eq_some_iff.mp hri).1
  walk_at "rx"
  refine⟨_,SqT.of (s2 _ _ hra),rfl,_,_,rfl,_,_,rfl,_,_,rfl,rfl,zl 2 (by decide),fun p3 hp3=>?_⟩
  have s3:=z07 hp3 (HO.tup [V.int r.2.1,V.int r.2.2])
  have e3:upd H' p3 (HO.tup [V.int r.2.1,V.int r.2.2]) p3=_:=z04
  generalize upd H' p3 (HO.tup [V.int r.2.1,V.int r.2.2])=U3 at s3 e3 |-
  have hbl:=zhz (rows.take i) []
  rw [List.length_take,List.length_nil] at hbl
  refine⟨_,DPut.k (k:=.inr r.1) (s3 _ _ hkv) (by rw [rkv.length]; exact z2k (by unfold zm7; omega)),?_⟩
  have hkp:Kp U3 (upd U3 db (.dK (zfy kv (.inr r.1) (.ref p3)))):=zha (s3 _ _ hkv)
  refine⟨z8c (s2.trans s3) hdb,⟨_,_,_,rfl⟩,_,z04,?_⟩
  rw [zgb hri]
  show BkR _ _ (List.foldl _ _ _)
  rw [List.foldl_append]
  exact(rkv.kp (s3.kp.trans hkp)).put r.1 ((z4y e3).kp hkp)
 ·rintro σ' H' ⟨s2,⟨t1,t2,t3,rfl⟩,kv,hkv,rkv⟩
  rw [hxl,List.take_length] at rkv
  walk_at "rx"
  exact q db H' s2 ⟨kv,.inl hkv,rkv⟩
def znr:Sp:=fun vs H Q _=>∃(p:Addr),vs=[.ref p]/\H p=some (.tup [])/\∀(d:Addr),H d=none->Q (.ref d) (upd H d (.dT []))
theorem zl5(F:Fun K "heads_of" "heads_of" z1y f fd) (c_book_of:Callee P w K mg base "book_of" ["shelf"] 1 zjg):FnOk P w K mg base CX0 2 f fd ["paper"] znr:=by
 refine F.ok sc_heads_of (fun vs H Q E h=>?_) (fun cdv A outer s H vs Q E hr h=>?_)
 ·obtain⟨p,rfl,_⟩:=h
  rfl
 obtain⟨p,rfl,hp,q⟩:=h
 refine⟨_,(z02 (z1m (i:=1) sc_heads_of.nd rfl zcs zjm (z06 rfl))
 (z02 (zf3 PassesOwn.never rfl (zkx (z00 (i:=0) rfl zc3 zk5 zka)) (znv (n:=2) rfl (z6l (z2d (i:=2) sc_heads_of.nd rfl zef) (z6l (z2d (i:=3) sc_heads_of.nd rfl zcr) zjl)))
 (z05 (ze4 hr.units1 (z00 (i:=1) rfl z71 z75 z77) (z00 (i:=2) rfl zdu z3j z3l) (z0w c_book_of hr (by omega) (z08 (z00 (i:=3) rfl zc2 zoi zop) z01) zbk zjb) (z06 rfl))))
 (z05 (z0b (z00 (i:=1) rfl z71 z75 z77))))),?_⟩
 walk_at "rx"
 intro db hdb
 have s1:=z07 hdb (HO.dT [])
 have q:=q db hdb
 generalize upd H db (HO.dT [])=U at s1 q |-
 refine⟨⟨_,SqT.of (s1 _ _ hp)⟩,?_⟩
 refine zsm (K:=K) (a:=p) (xs:=[]) (fun i σ' H'=>H'=U/\∃t1 t2,σ'=[some (.ref p),some (.ref db),t1,t2]) ⟨rfl,_,_,rfl⟩ ?_ ?_ ?_
 ·rintro i σ' H' _ ⟨rfl,_⟩
  exact SqT.of (s1 _ _ hp)
 ·rintro i x σ' H' hx _
  cases hx
 ·rintro σ' H' ⟨rfl,t1,t2,rfl⟩
  walk_at "rx"
  exact q
def zqv:Sp:=fun vs H Q _=>∃(p:Addr) (v:V),vs=[.ref p,v]/\H p=some (.tup [])/\∀H',Same H H'->Q (.bl true) H'
theorem zi7(F:Fun K "are_rising_rows" "are_rising_rows" z0r f fd) (b_isinstance:mg "isinstance" = none) (b_tuple:mg "tuple" = none) (b_all:mg "all" = none) (b_zip:mg "zip" = none):FnOk P w K mg base CX0 4 f fd ["thing","is_row"] zqv:=by
 refine F.ok zcb (fun vs H Q E h=>?_) (fun cdv A outer s H vs Q E hr h=>?_)
 ·obtain⟨p,v,rfl,_⟩:=h
  rfl
 obtain⟨p,v,rfl,hp,q⟩:=h
 refine⟨_,(z02 (z1h (PW.pt (zmn (zix (z8z (z53 q1i z6h b_isinstance zkc (z08 (z00 (i:=0) rfl z1z zaf zah) (z08 (zx9 (v:=V.ty "tuple") z7z b_tuple zvg rfl zun zv6) z01)) zjs zk7))) (zgk (zix (z8z (z53 (zkb rfl) z5n b_all zti (z08 (z9t ["row","is_row"] [none,some 1] rfl (CompS.of (by rfl)) (zkx (z00 (i:=0) rfl z1z zaf zah)) (fun _ _ _ _ _=>(z2d (i:=0) (show List.Nodup (["row","is_row"]:List Str) from by decide+kernel) rfl (Or.inl rfl))) (fun _ _ _ _ _=>z6q) (fun _ _ _ _ _=>(zrp (P:=P) (w:=w) (K:=K) (mg:=mg) (base:=base) (i:=1) (k:=3) rfl rfl rfl rfl rfl rfl (by first | exact Or.inl rfl | exact Or.inr (Or.inl rfl) | exact Or.inr (Or.inr rfl)) hr (by omega) (z08 (z00 (i:=0) rfl (by first | exact Or.inl rfl | exact Or.inr (Or.inl rfl) | exact Or.inr (Or.inr rfl)) q0l q0p) z01) zsx ztf))) z01) zs3 zt1)))))) (z05 (z0b zl0)) z0d)
 (z05 (z0b (z53 (zkb rfl) z5n b_all zti (z08 (z9t ["one","other"] [none,none] rfl (CompS.of (by rfl)) (zx5 z9f b_zip (z08 (z00 (i:=0) rfl z1z zaf zah) (z08 (znw zr4 (z00 (i:=0) rfl z1z zaf zah) (zrj z03) zrk) z01))) (fun _ _ _ _ _=>(zx6 (n:=2) (K:=K) rfl rfl (z6l (z2d (i:=0) (show List.Nodup (["one","other"]:List Str) from by decide+kernel) rfl (Or.inl rfl)) (z6l (z2d (i:=1) (show List.Nodup (["one","other"]:List Str) from by decide+kernel) rfl (Or.inl rfl)) zjl)))) (fun _ _ _ _ _=>z6q) (fun _ _ _ _ _=>(z9u q2t (z0e (ixK (r:=zjj) (K:=K) z0a rfl) (z00 (i:=0) rfl (by first | exact Or.inl rfl | exact Or.inr (Or.inl rfl) | exact Or.inr (Or.inr rfl)) z1e z1g) z03 (fun _ _=>rfl)) (z0e (ixK (r:=zjj) (K:=K) z0a rfl) (z00 (i:=1) rfl (by first | exact Or.inl rfl | exact Or.inr (Or.inl rfl) | exact Or.inr (Or.inr rfl)) z0j z0k) z03 (fun _ _=>rfl)) (z0f _)))) z01) zs3 zt1)))),?_⟩
 walk_at "rx"
 refine⟨_,_,⟨rfl,rfl⟩,_,zuv hp,?_⟩
 rw [if_neg (by decide)]
 refine⟨⟨_,SqT.of hp⟩,?_⟩
 refine zol (K:=K) (a:=p) (xs:=[]) (fun i ys σ' H'=>H'=H/\ys=[]) ⟨rfl,rfl⟩ (z2k (by decide)) ?_ ?_ ?_ ?_
 ·rintro i ys σ' H' ⟨_,rfl⟩
  exact Nat.zero_le _
 ·rintro i ys σ' H' _ ⟨rfl,_⟩
  exact SqT.of hp
 ·rintro i ys v σ' H' hx _
  cases hx
 rintro ys σ' H' ⟨rfl,rfl⟩ pl hpl
 have s1:=z07 hpl (HO.lst [])
 have e1:upd H' pl (HO.lst []) pl=_:=z04
 generalize upd H' pl (HO.lst [])=U1 at s1 e1 |-
 refine⟨_,rfl,[],SqL.of e1,?_⟩
 rw [if_neg (by decide)]
 refine⟨[],SqT.of (s1 _ _ hp),.inl ⟨by decide,p,p,⟨rfl,rfl⟩,⟨_,SqT.of (s1 _ _ hp)⟩,⟨_,SqT.of (s1 _ _ hp)⟩,?_⟩⟩
 refine zt8 (K:=K) (xs:=[]) (ys:=[]) (Nat.le_refl _) (fun i zs σ' H'=>H'=U1/\zs=[]) ⟨rfl,rfl⟩ (z2k (by decide)) ?_ ?_ ?_ ?_
 ·rintro i ys σ' H' ⟨_,rfl⟩
  exact Nat.zero_le _
 ·rintro i ys σ' H' _ ⟨rfl,_⟩
  exact⟨SqT.of (s1 _ _ hp),SqT.of (s1 _ _ hp)⟩
 ·rintro i zs x y σ' H' T hx _ _ _
  cases hx
 rintro ys σ' H2 ⟨rfl,rfl⟩ pm hpm
 exact⟨pm,rfl,[],SqL.of z04,q _ (s1.trans (z07 hpm _))⟩
end
section
variable{P:Program}{w:World}{K:PySem.W.Frag}{mg:Str->Option Value}{base:Heap}{f:Addr}{fd:FuncData}
structure Keeps(H H':Hp):Prop where
 t:∀b xs,H b=some (.tup xs)->H' b=some (.tup xs)
 l:∀b xs,H b=some (.lst xs)->H' b=some (.lst xs)
theorem Keeps.kp{H H':Hp}(h:Keeps H H'):Kp H H':=⟨h.t,fun b xs e=>⟨xs,h.l b xs e⟩⟩
theorem Keeps.trans{H H1 H2:Hp}(h:Keeps H H1)(k:Keeps H1 H2):Keeps H H2:=⟨fun b xs e=>k.t b xs (h.t b xs e),fun b xs e=>k.l b xs (h.l b xs e)⟩
theorem Same.keeps{H H':Hp}(s:Same H H'):Keeps H H':=⟨fun b xs e=>s b _ e,fun b xs e=>s b _ e⟩
theorem SB.keeps{n:Addr}{H H':Hp}(s:SB n H H'):Keeps H H':=⟨s.kp.t,fun b xs h=>s.stay h (fun _ z=>by cases z) (fun _ z=>by cases z) (fun _ _ z=>by cases z)⟩
theorem SB.dT{n:Addr}{H H':Hp}(s:SB n H H'){b:Addr}{k:List (List Key×V)}(h:H b=some (.dT k))(hn:b≠n):H' b=some (.dT k):=by
 rcases s b _ h with h1 | ⟨_,_,e | ⟨_,e⟩,_⟩ | ⟨e,_⟩
 ·exact h1
 ·cases e
 ·cases e
 ·exact absurd e hn
theorem zsc{H:Hp}{x:Addr}{k:List (List Key×V)}{o:HO}(h:Rd H x (.dT k)):Keeps H (upd H x o):=by
 refine⟨fun b xs e=>?_,fun b xs e=>?_⟩<;>rcases h with h | ⟨_,h⟩<;>(rw [z0s (zam e h (by intro z; cases z))]; exact e)
structure WkC(K:PySem.W.Frag)(C:Addr):Prop where
 c:Cls K C
 nh:NoAttr K C "heads"
 nn:NoAttr K C "notes"
 nw:NoAttr K C "wants"
abbrev wkF(hv:V)(n wn:Addr):List (Str×V):=[("heads",hv),("notes",.ref n),("wants",.ref wn)]
theorem zzo(hv:V)(n wn:Addr):zdn ("wants" : Str) (V.ref wn) (zdn ("notes" : Str) (V.ref n) (zdn ("heads" : Str) hv []))=wkF hv n wn:=by
 rfl
theorem zus{hv:V}{n wn:Addr}:(wkF hv n wn).lookup ("notes" : Str)=some (V.ref n):=by
 rfl
theorem zur{hv:V}{n wn:Addr}:(wkF hv n wn).lookup ("wants" : Str)=some (V.ref wn):=by
 rfl
def zqs(C:Addr):Sp:=fun vs H Q _=>∃(x dx:Addr) (hv:V),vs=[.ref x,hv]/\H x=some (.ins C dx [])/\∀(n wn:Addr) (H':Hp),(∀b o,b≠x->H b=some o->H' b=some o)->H' x=some (.ins C dx (wkF hv n wn))->H' n=some (.dT [])->H' wn=some (.dT [])->n≠wn->H n=none->Q .non H'
theorem zl6{C:Addr} (F:Fun K "__init__" "Walk.__init__" z42 f fd) (t:WkC K C):FnOk P w K mg base CX0 1 f fd ["self","heads"] (zqs C):=by
 refine F.ok zkt (fun vs H Q E h=>?_) (fun cdv A outer s H vs Q E hr h=>?_)
 ·obtain⟨x,dx,hv,rfl,_⟩:=h
  rfl
 obtain⟨x,dx,hv,rfl,hx,q⟩:=h
 refine⟨_,(z02 (zrh (f:="heads") (z00 (i:=0) rfl z5c zn7 znh) (z00 (i:=1) rfl zbf z75 z77) (z06 rfl))
 (z02 (zrh (f:="notes") (z00 (i:=0) rfl z5c zn7 znh) zjm (z06 rfl))
 (z05 (zrh (f:="wants") (z00 (i:=0) rfl z5c zn7 znh) zjm (z06 rfl))))),?_⟩
 walk_at "rx"
 refine⟨_,_,_,hx,t.c,t.nh,by decide,fun n hn=>?_⟩
 have hx1:upd H x (.ins C dx (zdn ("heads" : Str) hv [])) x=_:=z04
 have m1:∀b o,b≠x->H b=some o->(upd H x (.ins C dx (zdn ("heads" : Str) hv []))) b=some o:=fun b o z e=>by rw [z0s z]; exact e
 generalize upd H x (.ins C dx (zdn ("heads" : Str) hv []))=H1 at hx1 m1 hn |-
 have s2:=z07 hn (HO.dT [])
 have en:upd H1 n (HO.dT []) n=_:=z04
 have hx2:=s2 _ _ hx1
 generalize upd H1 n (HO.dT [])=H2 at s2 en hx2 |-
 refine⟨_,_,_,hx2,t.c,t.nn,(show 1 < 1000 from by decide),fun wn hwn=>?_⟩
 have nx:n≠x:=zam en hx2 (by intro z; cases z)
 have hx3:upd H2 x (.ins C dx (zdn ("notes" : Str) (.ref n) (zdn ("heads" : Str) hv []))) x=_:=z04
 have m3:∀b o,b≠x->H2 b=some o->(upd H2 x (.ins C dx (zdn ("notes" : Str) (.ref n) (zdn ("heads" : Str) hv [])))) b=some o:=fun b o z e=>by rw [z0s z]; exact e
 generalize upd H2 x (.ins C dx (zdn ("notes" : Str) (.ref n) (zdn ("heads" : Str) hv [])))=H3 at hx3 m3 hwn |-
 have s4:=z07 hwn (HO.dT [])
 have ew:upd H3 wn (HO.dT []) wn=_:=z04
 have hx4:=s4 _ _ hx3
 generalize upd H3 wn (HO.dT [])=H4 at s4 ew hx4 |-
 refine⟨_,_,_,hx4,t.c,t.nw,(show 2 < 1000 from by decide),?_⟩
 have wx:wn≠x:=zam ew hx4 (by intro z; cases z)
 rw [zzo]
 have en3:=m3 _ _ nx en
 refine q n wn _ (fun b o z e=>?_) z04 ?_ ?_ ?_ ?_
 ·rw [z0s z]
  exact s4 _ _ (m3 _ _ z (s2 _ _ (m1 _ _ z e)))
 ·rw [z0s nx]
  exact s4 _ _ en3
 ·rw [z0s wx]
  exact ew
 ·intro z
  subst z
  rw [en3] at hwn
  cases hwn
 ·cases hHn:H n with
  | none=>rfl
  | some o=>
   rw [m1 _ _ nx hHn] at hn
   cases hn
end
section
variable{P:Program}{w:World}{K:PySem.W.Frag}{mg:Str->Option Value}{base:Heap}{f:Addr}{fd:FuncData}
noncomputable def notesB (bh:Bh) (rows:List Rw) (b:List D):Nts:=(wkB bh b [] 0 (some (zm7 rows)) []).2
def zdl(Pq:T->Prop)(n:Nat)(rows:List Rw)(b:List D):Prop:=zts Pq n b/\rows.length+szB b<=900/\2 * n+10<=900
abbrev zjk(rows:List Rw)(b:List D):Dm:=.tup [.tup (rows.map zrc),.tup (zof b)]
def znq(K:PySem.W.Frag)(Pq:T->Prop)(bh:Bh)(n:Nat)(C:Addr):Sp:=fun vs H Q _=>∃(gv:V) (hd:Addr) (rows:List Rw) (b:List D),vs=[gv,.ref hd]/\Dt H gv (zjk rows b)/\H hd=some (.dT [])/\zdl Pq n rows b/\
 ∀(a dx nn wn:Addr) (H':Hp),Keeps H H'->H' hd=some (.dT [])->H' a=some (.ins C dx (wkF (.ref hd) nn wn))->H' wn=some (.dT [])->wn≠nn->Wk K H' a nn (notesB bh rows b)->Q (.ref a) H'
theorem zru{Pq:T->Prop}{bh:Bh}{n:Nat}{C:Addr} (F:Fun K "walked" "walked" z3t f fd) (m_Walk:mg "Walk" = some (.ref C)) (t:WkC K C) (c_Walk_init:CalleeI P w K mg base C ["self","heads"] 1 (zqs C)) (c_book_of:Callee P w K mg base "book_of" ["shelf"] 1 zjg)
  (c_go_block:Callee P w K mg base "go_block" ["block","path","book","walk"] (3 * n+12) (zr3 K bh Pq n)):FnOk P w K mg base CX0 (3 * n+13) f fd ["program","heads"] (znq K Pq bh n C):=by
 refine F.ok sc_walked (fun vs H Q E h=>?_) (fun cdv A outer s H vs Q E hr h=>?_)
 ·obtain⟨gv,hd,rows,b,rfl,_⟩:=h
  rfl
 obtain⟨gv,hd,rows,b,rfl,hg,hhd,⟨hok,hsz,hn⟩,q⟩:=h
 obtain⟨pg,xs,rfl,hpg,da⟩:=hg.tupI
 rcases da with _ | ⟨d1,_ | ⟨d2,_ | _⟩⟩
 rename_i vr vb
 refine⟨_,(z02 (z1m (i:=2) sc_walked.nd rfl zh0 (q1d c_Walk_init hr (by omega) zie m_Walk (z08 (z00 (i:=1) rfl zfa z75 z77) z01) zy3) (z06 rfl))
 (z02 (zgl (z0w c_go_block hr (by omega) (z08 (z0e z0a (z00 (i:=0) rfl z6z z82 z85) z03 (fun _ _=>rfl)) (z08 (z0y z01) (z08 (z0w c_book_of hr (by omega) (z08 (z0e z0a (z00 (i:=0) rfl z6z z82 z85) z03 (fun _ _=>rfl)) z01) zek zjb) (z08 (z00 (i:=2) rfl z9g z3a z3c) z01)))) zcu zbr) (z06 rfl))
 (z05 (z0b (z00 (i:=2) rfl z9g z3a z3c))))),?_⟩
 walk_at "rx"
 intro x dx hx hdx ndx
 have ex0:upd (upd H dx (HO.own x)) x (HO.ins C dx []) x=_:=z04
 have s0:Same H (upd (upd H dx (HO.own x)) x (HO.ins C dx [])):=fun b o e=>by
  rw [z0s (z1q e hx),z0s (z1q e hdx)]; exact e
 generalize upd (upd H dx (HO.own x)) x (HO.ins C dx [])=U at ex0 s0 |-
 refine⟨x,dx,_,rfl,ex0,fun nn wn H1 m1 hx1 hn1 hw1 hne hnn0=>?_⟩
 refine⟨rfl,?_⟩
 have s1:Same H H1:=fun b o e=>m1 b o (z1q e hx) (s0 _ _ e)
 refine⟨_,SqT.of (s1 _ _ hpg),_,rfl,Nat.zero_le _,fun p2 hp2=>?_⟩
 have s2:=z07 hp2 (HO.tup [])
 have e2:upd H1 p2 (HO.tup []) p2=_:=z04
 generalize upd H1 p2 (HO.tup [])=U2 at s2 e2 |-
 have s12:=s1.trans s2
 refine⟨_,SqT.of (s12 _ _ hpg),_,rfl,vr,rows,rfl,d1.kp s12.kp,by omega,fun db H3 s3 hbk=>?_⟩
 have s13:=s12.trans s3
 have s23:=s2.trans s3
 have wk3:Wk K H3 x nn []:=⟨⟨C,dx,_,s23 _ _ hx1,t.c,t.nn,zus⟩,[],s23 _ _ hn1,.nil⟩
 have hbl:(zm7 rows).length<=rows.length:=by
  have:=zhz rows []
  rw [List.length_nil,Nat.zero_add] at this
  exact this
 refine⟨vb,_,_,b,[],x,nn,some (zm7 rows),[],rfl,d2.kp s13.kp,hok,⟨p2,rfl,s3 _ _ e2⟩,⟨db,rfl,hbk⟩,wk3,by simp; omega,fun bk e=>by cases e; omega,by simp; omega,fun r H4 s4 w4 _=>?_⟩
 exact q x dx nn wn H4 ((Same.keeps s13).trans s4.keeps) (s4.dT (s13 _ _ hhd) (fun z=>by
   rw [z] at hhd
   have:=s0 _ _ hhd
   rw [hnn0] at this
   cases this)) (s4.ins (s23 _ _ hx1)) (s4.dT (s23 _ _ hw1) (Ne.symm hne)) (Ne.symm hne) w4
def zr1:Sp:=fun vs H Q _=>∃(a b:Addr),vs=[.ref a,.ref b]/\H a=some (.dT [])/\H b=some (.dT [])/\∀(H':Hp),(∀c o,c≠a->H c=some o->H' c=some o)->Keeps H H'->Q (.bl true) H'
theorem zmr(F:Fun K "is_held" "is_held" z41 f fd) (b_sorted:mg "sorted" = none) (b_all:mg "all" = none) (c_is_book_within:Callee P w K mg base "is_book_within" ["one","other"] 0 (fun _ _ _ _=>False)):FnOk P w K mg base CX0 1 f fd ["wants","heads"] zr1:=by
 refine F.ok zp7 (fun vs H Q E h=>?_) (fun cdv A outer s H vs Q E hr h=>?_)
 ·obtain⟨a,b,rfl,_⟩:=h
  rfl
 obtain⟨a,b,rfl,ha,hb,q⟩:=h
 refine⟨_,(z02 (z1h (z0c (q1m hr.units) (z53 (z8r rfl) z7x b_sorted zdj (z08 (z00 (i:=0) rfl z7r zk3 zk9) z01) zcj zd4) (z53 (z8r rfl) z7x b_sorted zdj (z08 (z00 (i:=1) rfl zdt z75 z77) z01) zcj zd4) (z0f _)) (z05 (z0b zl0)) z0d)
 (z05 (z0b (z53 (zkb rfl) zig b_all zti (z08 (z9t ["path","wants","heads"] [none,some 0,some 1] rfl (CompS.of (by rfl)) (zua (z00 (i:=0) rfl z7r zk3 zk9)) (fun _ _ _ _ _=>(z2d (i:=0) (show List.Nodup (["path","wants","heads"]:List Str) from by decide+kernel) rfl (Or.inl rfl))) (fun _ _ _ _ _=>z6q) (fun _ _ _ _ _=>(z0w c_is_book_within hr (by omega) (z08 (z6r hr.units1 (z00 (i:=1) rfl (by first | exact Or.inl rfl | exact Or.inr (Or.inl rfl) | exact Or.inr (Or.inr rfl)) zk3 zk9) (z00 (i:=0) rfl (by first | exact Or.inl rfl | exact Or.inr (Or.inl rfl) | exact Or.inr (Or.inr rfl)) z3j z3l) (fun _ _=>rfl)) (z08 (z6r hr.units1 (z00 (i:=2) rfl (by first | exact Or.inl rfl | exact Or.inr (Or.inl rfl) | exact Or.inr (Or.inr rfl)) z75 z77) (z00 (i:=0) rfl (by first | exact Or.inl rfl | exact Or.inr (Or.inl rfl) | exact Or.inr (Or.inr rfl)) z3j z3l) (fun _ _=>rfl)) z01)) rfl zeu))) z01) zs3 zt1)))),?_⟩
 walk_at "rx"
 refine⟨a,[],[],rfl,.inl ha,rfl,(fun _ h=>by cases h),Nat.zero_le _,fun l vs ps hl hpm _ dvs=>?_⟩
 have hps:ps=[]:=List.Perm.eq_nil hpm
 subst hps
 cases dvs
 have s1:=z07 hl (HO.lst [])
 have e1:upd H l (HO.lst []) l=_:=z04
 generalize upd H l (HO.lst [])=U at s1 e1 |-
 refine⟨b,[],[],rfl,.inl (s1 _ _ hb),rfl,(fun _ h=>by cases h),Nat.zero_le _,fun l2 vs ps hl2 hpm _ dvs=>?_⟩
 have hps:ps=[]:=List.Perm.eq_nil hpm
 subst hps
 cases dvs
 have s2:=z07 hl2 (HO.lst [])
 have e2:upd U l2 (HO.lst []) l2=_:=z04
 generalize upd U l2 (HO.lst [])=U2 at s2 e2 |-
 have s12:=s1.trans s2
 refine⟨true,⟨l,l2,[],[],[],[],rfl,rfl,SqL.of (s2 _ _ e1),SqL.of e2,.nil,.nil,rfl,rfl,rfl,rfl,rfl⟩,?_⟩
 show ∃x,_
 refine⟨[],.inl (s12 _ _ ha),fun o as pr=>?_⟩
 cases pr
 have kf:Keeps U2 (upd U2 a (HO.frz o (.dT []))):=zsc (.inl (s12 _ _ ha))
 have ef:upd U2 a (HO.frz o (.dT [])) a=_:=z04
 have mf:∀c u,c≠a->U2 c=some u->upd U2 a (HO.frz o (.dT [])) c=some u:=fun c u z e=>by rw [z0s z]; exact e
 generalize upd U2 a (HO.frz o (.dT []))=U3 at kf ef mf |-
 refine zta (fun i ys σ' H'=>H'=U3/\ys=[]) ⟨rfl,rfl⟩ (z2k (by decide)) ?_ ?_ ?_ ?_
 ·rintro i ys σ' H' ⟨_,rfl⟩
  exact Nat.zero_le _
 ·rintro i ys σ' H' _ ⟨rfl,_⟩
  exact ef
 ·rintro i zs x σ' H' hx _
  cases hx
 rintro ys σ' H2 ⟨rfl,rfl⟩ pm hpm
 have s4:=z07 hpm (HO.lst [])
 exact⟨pm,rfl,[],SqL.of z04,q _ (fun c u z e=>s4 _ _ (mf _ _ z (s12 _ _ e))) ((Same.keeps s12).trans (kf.trans (Same.keeps s4)))⟩
end
section
variable{P:Program}{w:World}{K:PySem.W.Frag}{mg:Str->Option Value}{base:Heap}{f:Addr}{fd:FuncData}
def z1j:Nts->Pth->S
 | [],_=>none
 | q::r,p=>if q.1=p then some q.2 else z1j r p
theorem NtR.look{H:Hp}{kvs:List (List Key×V)}{ns:Nts}(h:NtR H kvs ns)(p:Pth):(z1j ns p=none/\zki kvs (zgo p)=none)\/∃s v,z1j ns p=some s/\zki kvs (zgo p)=some v/\Dt H v (z67 (some s)):=by
 unfold NtR at h
 induction h with
 | nil=>exact .inl ⟨rfl,rfl⟩
 | cons rr _ ih=>
  rename_i a q _ _ _
  obtain⟨e,d⟩:=rr
  by_cases hx:q.1=p
  ·refine .inr ⟨q.2,a.2,?_,zc6 (by rw [e,hx]),d⟩
   rw [z1j,if_pos hx]
  ·rw [zc7 (by rw [e]; intro z; exact hx (zfz z))]
   rw [z1j,if_neg hx]
   exact ih
theorem NtR.keys{H:Hp}{kvs:List (List Key×V)}{ns:Nts}(h:NtR H kvs ns):kvs.map (·.1)=(ns.map (·.1)).map (·.map Sum.inl):=by
 unfold NtR at h
 induction h with
 | nil=>rfl
 | cons rr _ ih=>
  rw [List.map_cons,List.map_cons,List.map_cons,ih,rr.1]; rfl
theorem zcm:∀{ns:Nts} {p:Pth},p∈ns.map (·.1)->∃s,z1j ns p=some s
 | [],_,h=>by cases h
 | q::r,p,h=>by
  rw [z1j]
  by_cases e:q.1=p
  ·exact⟨q.2,if_pos e⟩
  ·rw [if_neg e]
   rw [List.map_cons,List.mem_cons] at h
   exact zcm (h.resolve_left fun z=>e z.symm)
def zzb(K:PySem.W.Frag)(Pq:T->Prop)(bh:Bh)(n:Nat)(C:Addr):Sp:=fun vs H Q _=>∃(gv:V) (pp:Addr) (rows:List Rw) (b:List D),vs=[gv,.ref pp]/\Dt H gv (zjk rows b)/\H pp=some (.tup [])/\zdl Pq n rows b/\∀(a nn:Addr) (H':Hp),Keeps H H'->Wk K H' a nn (notesB bh rows b)->Q (.ref a) H'
theorem ze6{Pq:T->Prop}{bh:Bh}{n:Nat}{C:Addr}{v:V} (F:Fun K "walk_by_paper" "walk_by_paper" z0g f fd) (t:WkC K C) (g_is_paper_row:GC mg "is_paper_row" v) (c_are_rising_rows:Callee P w K mg base "are_rising_rows" ["thing","is_row"] 4 zqv) (c_heads_of:Callee P w K mg base "heads_of" ["paper"] 2 znr)
  (c_walked:Callee P w K mg base "walked" ["program","heads"] (3 * n+13) (znq K Pq bh n C)) (c_is_held:Callee P w K mg base "is_held" ["wants","heads"] 1 zr1):FnOk P w K mg base CX0 (3 * n+14) f fd ["program","thing"] (zzb K Pq bh n C):=by
 refine F.ok sc_walk_by_paper (fun vs H Q E h=>?_) (fun cdv A outer s H vs Q E hr h=>?_)
 ·obtain⟨gv,pp,rows,b,rfl,_⟩:=h
  rfl
 obtain⟨gv,pp,rows,b,rfl,hg,hpp,hwk,q⟩:=h
 refine⟨_,(z02 (z1h (zix (z8z (z0w c_are_rising_rows hr (by omega) (z08 (z00 (i:=1) rfl z56 zaf zah) (z08 (zrm g_is_paper_row z6d zhn) z01)) z5h zd7))) (z05 (z0b z23)) z0d)
 (z02 (z1m (i:=2) sc_walk_by_paper.nd rfl z8d (z0w c_heads_of hr (by omega) (z08 (z00 (i:=1) rfl z56 zaf zah) z01) z7j zna) (z06 rfl))
 (z02 (z1m (i:=3) sc_walk_by_paper.nd rfl z98 (z0w c_walked hr (by omega) (z08 (z00 (i:=0) rfl z7a z82 z85) (z08 (z00 (i:=2) rfl z57 z75 z77) z01)) z8i zsv) (z06 rfl))
 (z02 (z1h (zix (z8z (z0w c_is_held hr (by omega) (z08 (zrn (z00 (i:=3) rfl z5k z3a z3c) rfl) (z08 (z00 (i:=2) rfl z57 z75 z77) z01)) z7w zq2))) (z05 (z0b z23)) z0d)
 (z05 (z0b (z00 (i:=3) rfl z5k z3a z3c))))))),?_⟩
 walk_at "rx"
 refine⟨pp,v,rfl,hpp,fun H1 s1=>?_⟩
 walk_at "rx"
 refine⟨pp,rfl,s1 _ _ hpp,fun hd hhd=>?_⟩
 have s2:=z07 hhd (HO.dT [])
 have e2:upd H1 hd (HO.dT []) hd=_:=z04
 generalize upd H1 hd (HO.dT [])=U at s2 e2 |-
 have s12:=s1.trans s2
 refine⟨gv,hd,rows,b,rfl,hg.kp s12.kp,e2,hwk,fun a dx nn wn H3 k3 h3 ha hw hne wk=>?_⟩
 walk_at "rx"
 refine⟨_,_,_,ha,t.c,t.nw,_,zur,wn,hd,rfl,hw,h3,fun H4 m4 k4=>?_⟩
 walk_at "rx"
 refine q a nn H4 ((Same.keeps s12).trans (k3.trans k4)) ?_
 obtain⟨⟨C',dx',fs,e,c1,d1,l⟩,kvs,e2',r⟩:=wk
 refine⟨⟨C',dx',fs,m4 _ _ (zam e hw (by intro z; cases z)) e,c1,d1,l⟩,kvs,m4 _ _ (Ne.symm hne) e2',r.kp k4.kp⟩
def zqx(K:PySem.W.Frag)(Pq:T->Prop)(bh:Bh)(n:Nat):Sp:=fun vs H Q _=>∃(gv:V) (pp:Addr) (rows:List Rw) (b:List D),vs=[gv,.ref pp]/\Dt H gv (zjk rows b)/\H pp=some (.tup [])/\zdl Pq n rows b/\∀(nn:Addr) (kvs:List (List Key×V)) (H':Hp),Keeps H H'->H' nn=some (.dT kvs)->NtR H' kvs (notesB bh rows b)->Q (.ref nn) H'
theorem zl4{Pq:T->Prop}{bh:Bh}{n:Nat}{C:Addr} (F:Fun K "notes_by" "notes_by" z2o f fd) (c_walk_by_paper:Callee P w K mg base "walk_by_paper" ["program","thing"] (3 * n+14) (zzb K Pq bh n C)):FnOk P w K mg base CX0 (3 * n+15) f fd ["program","paper"] (zqx K Pq bh n):=by
 refine F.ok sc_notes_by (fun vs H Q E h=>?_) (fun cdv A outer s H vs Q E hr h=>?_)
 ·obtain⟨gv,pp,rows,b,rfl,_⟩:=h
  rfl
 obtain⟨gv,pp,rows,b,rfl,hg,hpp,hwk,q⟩:=h
 refine⟨_,(z02 (z1m (i:=2) sc_notes_by.nd rfl zea (z0w c_walk_by_paper hr (by omega) (z08 (z00 (i:=0) rfl zak z82 z85) (z08 (z00 (i:=1) rfl zc1 zk5 zka) z01)) z7k zfu) (z06 rfl))
 (z02 (z1h (z0c zkg (z00 (i:=2) rfl z7o z3a z3c) z23 (z0f _)) (z05 zu7) z0d)
 (z05 (z0b (zrn (z00 (i:=2) rfl z7o z3a z3c) rfl))))),?_⟩
 walk_at "rx"
 refine⟨gv,pp,rows,b,rfl,hg,hpp,hwk,fun a nn H1 k1 wk=>?_⟩
 obtain⟨⟨C',dx',fs,e,c1,d1,l⟩,kvs,e2,r⟩:=wk
 walk_at "rx"
 exact⟨_,_,_,e,c1,d1,_,l,q nn kvs H1 k1 e2 r⟩
def zzg(ns:Nts)(p:Pth):Dm:=match z1j ns p with
 | some s=>.tup [zpi p,.int s.1,.int s.2]
 | none=>.non
def zqt(K:PySem.W.Frag)(Pq:T->Prop)(bh:Bh)(n:Nat):Sp:=fun vs H Q _=>∃(gv:V) (pp:Addr) (rows:List Rw) (b:List D),vs=[gv,.ref pp]/\Dt H gv (zjk rows b)/\H pp=some (.tup [])/\zdl Pq n rows b/\(∀q∈notesB bh rows b,q.1≠[])/\(notesB bh rows b).length<=60/\
 ∀(l:Addr) (vs:List V) (ps:List Pth) (H':Hp),Keeps H H'->ps.Perm ((notesB bh rows b).map (·.1))->ps.Pairwise (fun p q=>ltI p q=true)->H' l=some (.lst vs)->DtA H' vs (ps.map (zzg (notesB bh rows b)))->Q (.ref l) H'
def HI(U:Hp)(nn:Addr)(ns:Nts)(ps:List Pth)(i:Nat)(ys:List V)(σ':St)(H':Hp):Prop:=Same U H'/\(∃t,σ'=[t,some (.ref nn)])/\DtA H' ys ((ps.take i).map (zzg ns))/\i<=ps.length
theorem zrv{Pq:T->Prop}{bh:Bh}{n:Nat} (F:Fun K "shown" "shown" z5t f fd) (b_sorted:mg "sorted" = none) (c_notes_by:Callee P w K mg base "notes_by" ["program","paper"] (3 * n+15) (zqx K Pq bh n)):FnOk P w K mg base CX0 (3 * n+16) f fd ["program","paper"] (zqt K Pq bh n):=by
 refine F.ok sc_shown (fun vs H Q E h=>?_) (fun cdv A outer s H vs Q E hr h=>?_)
 ·obtain⟨gv,pp,rows,b,rfl,_⟩:=h
  rfl
 obtain⟨gv,pp,rows,b,rfl,hg,hpp,hwk,hne,h60,q⟩:=h
 refine⟨_,(z02 (z1m (i:=2) sc_shown.nd rfl zh1 (z0w c_notes_by hr (by omega) (z08 (z00 (i:=0) rfl zdp z82 z85) (z08 (z00 (i:=1) rfl zg3 zk5 zka) z01)) zeo zn8) (z06 rfl))
 (z05 (z0b (z9t ["path","notes"] [none,some 2] rfl (CompS.of (by rfl)) (ze5 (z53 (z8r rfl) zhi b_sorted zdj (z08 (z00 (i:=2) rfl zg4 zoj zoq) z01) zcj zd4)) (fun _ _ _ _ _=>(z2d (i:=0) (show List.Nodup (["path","notes"]:List Str) from by decide+kernel) rfl (Or.inl rfl))) (fun _ _ _ _ _=>z6q) (fun _ _ _ _ _=>(z28 (opK (r:=zgj) (K:=K) z5f rfl) (z0y (z08 (z00 (i:=0) rfl (by first | exact Or.inl rfl | exact Or.inr (Or.inl rfl) | exact Or.inr (Or.inr rfl)) z3j z3l) z01)) (z6r hr.units1 (z00 (i:=1) rfl (by first | exact Or.inl rfl | exact Or.inr (Or.inl rfl) | exact Or.inr (Or.inr rfl)) zoj zoq) (z00 (i:=0) rfl (by first | exact Or.inl rfl | exact Or.inr (Or.inl rfl) | exact Or.inr (Or.inr rfl)) z3j z3l) (fun _ _=>rfl)))))))),?_⟩
 walk_at "rx"
 refine⟨gv,pp,rows,b,rfl,hg,hpp,hwk,fun nn kvs H1 k1 e1 r1=>?_⟩
 generalize notesB bh rows b=ns at hne h60 q r1
 refine⟨nn,kvs,ns.map (·.1),rfl,.inl e1,r1.keys,?_,by rw [List.length_map]; exact h60,fun l vs ps hl hpm hpw dvs=>?_⟩
 ·intro p hp
  obtain⟨z,hz,rfl⟩:=List.mem_map.mp hp
  exact hne z hz
 have s2:=z07 hl (HO.lst vs)
 have e2:upd H1 l (HO.lst vs) l=_:=z04
 generalize upd H1 l (HO.lst vs)=U at s2 e2 |-
 have hvl:vs.length=ps.length:=by rw [dvs.length,List.length_map]
 have hpl:ps.length<=60:=by rw [hpm.length_eq,List.length_map]; exact h60
 refine⟨l,rfl,⟨_,SqL.of e2⟩,?_⟩
 refine zhu (K:=K) (a:=l) (xs:=vs) (HI U nn ns ps) ⟨Same.refl _,⟨_,rfl⟩,.nil,Nat.zero_le _⟩ (z2k (by omega)) ?_ ?_ ?_ ?_
 ·rintro i ys σ' H' ⟨_,_,d,hi⟩
  rw [d.length,List.length_map,List.length_take]
  omega
 ·rintro i ys σ' H' _ ⟨s3,_⟩
  exact SqL.of (s3 _ _ e2)
 ·rintro i ys x σ' H' hx ⟨s3,⟨t,rfl⟩,d,hi⟩
  obtain⟨p,hp,dp⟩:=zs5 dvs hx
  have hmem:p∈ns.map (·.1):=hpm.mem_iff.mp (List.mem_of_getElem? hp)
  obtain⟨sv,hsv⟩:=zcm hmem
  obtain⟨px,xs2,rfl,hpx,dpx⟩:=dp.tupI
  rw [zg1 dpx] at hpx
  have s23:=s2.trans s3
  rcases(r1.kp s23.kp).look p with⟨z,_⟩ | ⟨sv',v,z1,z2,dv⟩
  ·rw [hsv] at z; cases z
  have g:=DGet.t (s23 _ _ e1) (k:=zgo p) (b:=px) (by rw [zgn]; exact s23 _ _ hpx)
  rw [z2] at g
  walk_at "rx"
  refine⟨zl 1 (by decide),fun p3 hp3=>?_⟩
  have s4:=z07 hp3 (HO.tup [V.ref px])
  have e4:upd H' p3 (HO.tup [V.ref px]) p3=_:=z04
  have g4:=DGet.t (s4 _ _ (s23 _ _ e1)) (k:=zgo p) (b:=px) (by rw [zgn]; exact s4 _ _ (s23 _ _ hpx))
  rw [z2] at g4
  generalize upd H' p3 (HO.tup [V.ref px])=U4 at s4 e4 g4 |-
  refine⟨v,g4,?_⟩
  obtain⟨pv,rfl,hpv⟩:=zy2 (dv.kp s4.kp)
  refine⟨p3,pv,_,_,rfl,rfl,SqT.of e4,SqT.of hpv,zl 3 (by decide),fun z=>(by cases z),fun _ z=>(by cases z),fun _ _ p5 hp5=>?_⟩
  have s5:=z07 hp5 (HO.tup ([V.ref px]++[V.int sv'.1,V.int sv'.2]))
  have hil:i < ps.length:=(List.getElem?_eq_some_iff.mp hp).1
  refine⟨s3.trans (s4.trans s5),⟨_,rfl⟩,?_,hil⟩
  rw [zgb hp,List.map_append]
  refine DtA.append (DtA.kp (s4.trans s5).kp d) (.cons ?_ .nil)
  unfold zzg
  rw [z1]
  exact .tup z04 (.cons (dp.kp (s23.trans (s4.trans s5)).kp) (.cons (.int _) (.cons (.int _) .nil)))
 ·rintro ys σ' H' ⟨s3,_,d,hi⟩ pl hpl2
  rw [hvl,List.take_length] at d
  have s4:=z07 hpl2 (HO.lst ys)
  exact q pl ys ps _ (k1.trans (Same.keeps (s2.trans (s3.trans s4)))) hpm hpw z04 (DtA.kp s4.kp d)
end
def In2(o:Int×Int)(x:Int):Prop:=o.1<=x/\x<=o.2
def rel(w:Wd)(x y:Int):Bool:=decide (w.worth x y≠0)
theorem zab(x y:Int):rel .less x y=decide (x < y):=by
 unfold rel Wd.worth
 by_cases h:x < y<;>simp[h]
theorem zcc(x y:Int):rel .same x y=decide (x=y):=by
 unfold rel Wd.worth
 by_cases h:x=y<;>simp[h]
def LS(w:Wd):Prop:=w=.less\/w=.same
theorem z3y{l h:Int}{r:Int×Int}(e:bet l h=some r):l<=h/\r=(l,h):=by
 unfold bet at e
 split at e
 ·cases e
 ·cases e; exact⟨by omega,rfl⟩
theorem z8t{l h:Int}(e:bet l h=none):h < l:=by
 unfold bet at e
 split at e
 ·assumption
 ·cases e
theorem zpr(i j:Int):(mn i j=i/\i<=j)\/(mn i j=j/\j<=i):=by unfold mn; split<;>omega
theorem zpq(i j:Int):(mx i j=i/\j<=i)\/(mx i j=j/\i<=j):=by unfold mx; split<;>omega
theorem zbw{o:Int×Int}{v x:Int}(hx:In2 o x)(hv:x≠v):∃r,z2m o v=some r/\In2 r x:=by
 obtain⟨l,h⟩:=o
 obtain⟨h1,h2⟩:=hx
 simp only at h1 h2
 unfold z2m
 split
 ·rename_i e
  simp only at e
  cases q:bet (l+1) h with
  | none=>have:=z8t q; omega
  | some r=>obtain⟨_,rfl⟩:=z3y q; exact⟨_,rfl,by constructor<;>simp only<;>omega⟩
 ·split
  ·rename_i e
   simp only at e
   cases q:bet l (h - 1) with
   | none=>have:=z8t q; omega
   | some r=>obtain⟨_,rfl⟩:=z3y q; exact⟨_,rfl,by constructor<;>simp only<;>omega⟩
  ·exact⟨_,rfl,h1,h2⟩
theorem zbx{o r:Int×Int}{v:Int}(ho:o.1<=o.2)(e:z2m o v=some r):r.1<=r.2/\o.1<=r.1/\r.2<=o.2/\r.1≠v/\r.2≠v:=by
 obtain⟨l,h⟩:=o
 unfold z2m at e
 simp only at e ho |-
 split at e
 ·obtain⟨_,rfl⟩:=z3y e
  simp only; omega
 ·split at e
  ·obtain⟨_,rfl⟩:=z3y e
   simp only; omega
  ·cases e; simp only; omega
theorem za9{o p:Int×Int}{so:Bool}{x y:Int}(hx:In2 o x)(hy:In2 p y)(h:decide (x=y)=so):∃r,z93 o p so=some r/\In2 r x:=by
 obtain⟨l,hh⟩:=o
 obtain⟨l2,h2⟩:=p
 obtain⟨a1,a2⟩:=hx
 obtain⟨b1,b2⟩:=hy
 simp only at a1 a2 b1 b2
 unfold z93
 cases so with
 | true=>
  have e:=of_decide_eq_true h
  rw [if_pos rfl]
  show ∃r,bet (mx l l2) (mn hh h2)=some r/\_
  have m1:=zpq l l2
  have m2:=zpr hh h2
  cases q:bet (mx l l2) (mn hh h2) with
  | none=>have:=z8t q; omega
  | some r=>obtain⟨_,rfl⟩:=z3y q; exact⟨_,rfl,by constructor<;>simp only<;>omega⟩
 | false=>
  have e:=of_decide_eq_false h
  rw [if_neg (by simp)]
  split
  ·exact⟨_,rfl,a1,a2⟩
  ·rename_i n
   simp only[ne_eq,Decidable.not_not] at n
   exact zbw ⟨a1,a2⟩ (by simp only; omega)
theorem zaa{o p r:Int×Int}{so:Bool}(ho:o.1<=o.2)(hp:p.1<=p.2)(e:z93 o p so=some r):r.1<=r.2/\o.1<=r.1/\r.2<=o.2/\(∃y,In2 p y/\decide (r.1=y)=so)/\∃y,In2 p y/\decide (r.2=y)=so:=by
 obtain⟨l,hh⟩:=o
 obtain⟨l2,h2⟩:=p
 simp only at ho hp
 unfold z93 at e
 cases so with
 | true=>
  rw [if_pos rfl] at e
  have e:bet (mx l l2) (mn hh h2)=some r:=e
  obtain⟨k,rfl⟩:=z3y e
  have m1:=zpq l l2
  have m2:=zpr hh h2
  refine⟨k,by simp only; omega,by simp only; omega,⟨_,⟨?_,?_⟩,decide_eq_true rfl⟩,⟨_,⟨?_,?_⟩,decide_eq_true rfl⟩⟩<;>simp only<;>omega
 | false=>
  rw [if_neg (by simp)] at e
  split at e
  ·rename_i n
   simp only[ne_eq] at n
   cases e
   refine⟨ho,Int.le_refl _,Int.le_refl _,?_,?_⟩
   ·by_cases z:l=l2
    ·exact⟨h2,⟨hp,Int.le_refl _⟩,decide_eq_false (by simp only; omega)⟩
    ·exact⟨l2,⟨Int.le_refl _,hp⟩,decide_eq_false (by simp only; omega)⟩
   ·by_cases z:hh=l2
    ·exact⟨h2,⟨hp,Int.le_refl _⟩,decide_eq_false (by simp only; omega)⟩
    ·exact⟨l2,⟨Int.le_refl _,hp⟩,decide_eq_false (by simp only; omega)⟩
  ·obtain⟨k1,k2,k3,k4,k5⟩:=zbx (o:=(l,hh)) ho e
   exact⟨k1,k2,k3,⟨l2,⟨Int.le_refl _,hp⟩,decide_eq_false k4⟩,⟨l2,⟨Int.le_refl _,hp⟩,decide_eq_false k5⟩⟩
theorem z49{w:Wd}(hw:LS w){o p:Int×Int}{so:Bool}{x y:Int}(hx:In2 o x)(hy:In2 p y)(h:rel w x y=so):∃r,z1p w o p so=some r/\In2 r x:=by
 unfold z1p
 rcases hw with rfl | rfl
 ·rw [if_neg (by decide)]
  rw [zab] at h
  obtain⟨l,hh⟩:=o
  obtain⟨l2,h2⟩:=p
  obtain⟨a1,a2⟩:=hx
  obtain⟨b1,b2⟩:=hy
  simp only at a1 a2 b1 b2 |-
  cases so with
  | true=>
   have e:=of_decide_eq_true h
   rw [if_pos rfl]
   have m2:=zpr hh (h2 - 1)
   cases q:bet l (mn hh (h2 - 1)) with
   | none=>have:=z8t q; omega
   | some r=>obtain⟨_,rfl⟩:=z3y q; exact⟨_,rfl,by constructor<;>simp only<;>omega⟩
  | false=>
   have e:=of_decide_eq_false h
   rw [if_neg (by simp)]
   have m2:=zpq l l2
   cases q:bet (mx l l2) hh with
   | none=>have:=z8t q; omega
   | some r=>obtain⟨_,rfl⟩:=z3y q; exact⟨_,rfl,by constructor<;>simp only<;>omega⟩
 ·rw [if_pos rfl]
  rw [zcc] at h
  exact za9 hx hy h
theorem z4a{w:Wd}(hw:LS w){o p r:Int×Int}{so:Bool}(ho:o.1<=o.2)(hp:p.1<=p.2)(e:z1p w o p so=some r):r.1<=r.2/\o.1<=r.1/\r.2<=o.2/\(∃y,In2 p y/\rel w r.1 y=so)/\∃y,In2 p y/\rel w r.2 y=so:=by
 unfold z1p at e
 rcases hw with rfl | rfl
 ·rw [if_neg (by decide)] at e
  obtain⟨l,hh⟩:=o
  obtain⟨l2,h2⟩:=p
  simp only at ho hp e |-
  cases so with
  | true=>
   rw [if_pos rfl] at e
   obtain⟨k,rfl⟩:=z3y e
   have m2:=zpr hh (h2 - 1)
   refine⟨k,by simp only; omega,by simp only; omega,⟨h2,⟨hp,Int.le_refl _⟩,?_⟩,⟨h2,⟨hp,Int.le_refl _⟩,?_⟩⟩<;>rw [zab]<;>exact decide_eq_true (by simp only; omega)
  | false=>
   rw [if_neg (by simp)] at e
   obtain⟨k,rfl⟩:=z3y e
   have m2:=zpq l l2
   refine⟨k,by simp only; omega,by simp only; omega,⟨l2,⟨Int.le_refl _,hp⟩,?_⟩,⟨l2,⟨Int.le_refl _,hp⟩,?_⟩⟩<;>rw [zab]<;>exact decide_eq_false (by simp only; omega)
 ·rw [if_pos rfl] at e
  simp only[zcc]
  exact zaa ho hp e
theorem z38{w:Wd}(hw:LS w){o p:Int×Int}{so:Bool}{x y:Int}(hy:In2 o y)(hx:In2 p x)(h:rel w x y=so):∃r,z12 w o p so=some r/\In2 r y:=by
 unfold z12
 rcases hw with rfl | rfl
 ·rw [if_neg (by decide)]
  rw [zab] at h
  obtain⟨l,hh⟩:=o
  obtain⟨l2,h2⟩:=p
  obtain⟨a1,a2⟩:=hy
  obtain⟨b1,b2⟩:=hx
  simp only at a1 a2 b1 b2 |-
  cases so with
  | true=>
   have e:=of_decide_eq_true h
   rw [if_pos rfl]
   have m2:=zpq l (l2+1)
   cases q:bet (mx l (l2+1)) hh with
   | none=>have:=z8t q; omega
   | some r=>obtain⟨_,rfl⟩:=z3y q; exact⟨_,rfl,by constructor<;>simp only<;>omega⟩
  | false=>
   have e:=of_decide_eq_false h
   rw [if_neg (by simp)]
   have m2:=zpr hh h2
   cases q:bet l (mn hh h2) with
   | none=>have:=z8t q; omega
   | some r=>obtain⟨_,rfl⟩:=z3y q; exact⟨_,rfl,by constructor<;>simp only<;>omega⟩
 ·rw [if_pos rfl]
  rw [zcc] at h
  refine za9 hy hx ?_
  rw [<- h]
  by_cases z:x=y
  ·rw [decide_eq_true z,decide_eq_true z.symm]
  ·rw [decide_eq_false z,decide_eq_false (fun k=>z k.symm)]
theorem z39{w:Wd}(hw:LS w){o p r:Int×Int}{so:Bool}(ho:o.1<=o.2)(hp:p.1<=p.2)(e:z12 w o p so=some r):r.1<=r.2/\o.1<=r.1/\r.2<=o.2/\(∃x,In2 p x/\rel w x r.1=so)/\∃x,In2 p x/\rel w x r.2=so:=by
 unfold z12 at e
 rcases hw with rfl | rfl
 ·rw [if_neg (by decide)] at e
  obtain⟨l,hh⟩:=o
  obtain⟨l2,h2⟩:=p
  simp only at ho hp e |-
  cases so with
  | true=>
   rw [if_pos rfl] at e
   obtain⟨k,rfl⟩:=z3y e
   have m2:=zpq l (l2+1)
   refine⟨k,by simp only; omega,by simp only; omega,⟨l2,⟨Int.le_refl _,hp⟩,?_⟩,⟨l2,⟨Int.le_refl _,hp⟩,?_⟩⟩<;>rw [zab]<;>exact decide_eq_true (by simp only; omega)
  | false=>
   rw [if_neg (by simp)] at e
   obtain⟨k,rfl⟩:=z3y e
   have m2:=zpr hh h2
   refine⟨k,by simp only; omega,by simp only; omega,⟨h2,⟨hp,Int.le_refl _⟩,?_⟩,⟨h2,⟨hp,Int.le_refl _⟩,?_⟩⟩<;>rw [zab]<;>exact decide_eq_false (by simp only; omega)
 ·rw [if_pos rfl] at e
  obtain⟨k1,k2,k3,⟨x,hx,k4⟩,⟨y,hy,k5⟩⟩:=zaa ho hp e
  have sw:∀a b:Int,decide (a=b)=decide (b=a):=fun a b=>by
   by_cases z:a=b
   ·rw [decide_eq_true z,decide_eq_true z.symm]
   ·rw [decide_eq_false z,decide_eq_false (fun k=>z k.symm)]
  exact⟨k1,k2,k3,⟨x,hx,by rw [zcc,sw]; exact k4⟩,⟨y,hy,by rw [zcc,sw]; exact k5⟩⟩
theorem zb3{o:Int×Int}{so:Bool}{x:Int}(hx:In2 o x)(h:decide (x≠0)=so):∃r,z60 (some o) so=some r/\In2 r x:=by
 unfold z60
 cases so with
 | true=>
  have e:=of_decide_eq_true h
  simp only[if_true]
  exact zbw hx e
 | false=>
  have e:x=0:=by simpa using h
  have:=za9 (p:=(0,0)) (so:=true) (y:=0) hx ⟨Int.le_refl _,Int.le_refl _⟩ (decide_eq_true e)
  exact this
theorem zid{o r:Int×Int}{so:Bool}(ho:o.1<=o.2)(e:z60 (some o) so=some r):r.1<=r.2/\o.1<=r.1/\r.2<=o.2/\decide (r.1≠0)=so/\decide (r.2≠0)=so:=by
 unfold z60 at e
 cases so with
 | true=>
  simp only[if_true] at e
  obtain⟨k1,k2,k3,k4,k5⟩:=zbx ho e
  exact⟨k1,k2,k3,decide_eq_true k4,decide_eq_true k5⟩
 | false=>
  have e:z93 o (0,0) true=some r:=e
  obtain⟨k1,k2,k3,⟨x,hx,k4⟩,⟨y,hy,k5⟩⟩:=zaa ho (Int.le_refl _) e
  have z1:=of_decide_eq_true k4
  have z2:=of_decide_eq_true k5
  obtain⟨p1,p2⟩:=hx
  obtain⟨p3,p4⟩:=hy
  simp only at p1 p2 p3 p4
  refine⟨k1,k2,k3,?_,?_⟩
  ·have:r.1=0:=by omega
   simp[this]
  ·have:r.2=0:=by omega
   simp[this]
def bk2(A B:Int×Int):Bk:=[("a",A),("b",B)]
theorem sab:¬ (("a" : Str) = "b"):=by decide+kernel
theorem sba:¬ (("b" : Str) = "a"):=by decide+kernel
theorem sac:¬ (("a" : Str) = "c"):=by decide+kernel
theorem sca:¬ (("c" : Str) = "a"):=by decide+kernel
theorem scb:¬ (("c" : Str) = "b"):=by decide+kernel
theorem zpv(A B:Int×Int):look (bk2 A B) "a" = some A:=by unfold bk2 look; rw [if_pos rfl]
theorem zs9(A B:Int×Int):look (bk2 A B) "b" = some B:=by unfold bk2 look; rw [if_neg sab]; unfold look; rw [if_pos rfl]
theorem zx4(A B s:Int×Int):z54 (bk2 A B) "a" s=bk2 s B:=by
 unfold z54
 rw [zg0,zpv]
 simp only[Option.isSome_some,if_true,bk2,List.map_cons,List.map_nil,if_neg sba,if_neg sca]
theorem zyz(A B s:Int×Int):z54 (bk2 A B) "b" s=bk2 A s:=by
 unfold z54
 rw [zg0,zs9]
 simp only[Option.isSome_some,if_true,bk2,List.map_cons,List.map_nil,if_neg sab,if_neg scb]
def soW:T->Int->Int->Int
 | .num n,_,_=>n
 | .nm s,x,y=>if s = "a" then x else y
 | .op w a b,x,y=>w.worth (soW a x y) (soW b x y)
theorem zdm(x y:Int):soW (.nm "a") x y=x:=by unfold soW; rw [if_pos rfl]
theorem zfg(x y:Int):soW (.nm "b") x y=y:=by unfold soW; rw [if_neg sba]
def Fit(t:T)(so:Bool)(x y:Int):Prop:=decide (soW t x y≠0)=so
def nms:T->List Str
 | .num _=>[]
 | .nm x=>[x]
 | .op _ a b=>nms a++nms b
def Alone:T->Prop
 | .op _ a b=>a≠b
 | _=>True
structure Sd(t:T)(so:Bool)(z:Str)(O O':Int×Int)(fits:Int->Prop)(atn:Int->Prop):Prop where
 le:O'.1<=O'.2
 all:∀x,fits x->In2 O' x
 ends:z∈nms t->Alone t->atn O'.1/\atn O'.2
 same:z∉nms t->O'=O
def zto(t:T)(A B:Int×Int)(so:Bool)(bk':Bk):Prop:=∃A' B',bk'=bk2 A' B'/\
 Sd t so "a" A A' (fun x=>∃y,In2 A x/\In2 B y/\Fit t so x y) (fun x=>∃y,In2 A x/\In2 B y/\Fit t so x y)/\
 Sd t so "b" B B' (fun y=>∃x,In2 A x/\In2 B y/\Fit t so x y) (fun y=>∃x,In2 A x/\In2 B y/\Fit t so x y)
def z5j(t:T)(A B:Int×Int)(so:Bool)(o:Option Bk):Prop:=match o with
 | none=>∀x y,In2 A x->In2 B y->¬ Fit t so x y
 | some bk'=>zto t A B so bk'
theorem zkd{w:Wd}{a b:T}{bk:Bk}{so:Bool}{one other:Int×Int}(h1:z6b bk a=some one)(h2:z6b bk b=some other):bq w a b bk so=(match bq1 w a one other bk so with | some bk1=>bq2 w b one bk1 so | none=>none):=by
 unfold bq
 rw [h1,h2]
 all_goals rfl
theorem zcz{w:Wd}{a b:T}{so:Bool}{x y:Int}(h:Fit (.op w a b) so x y):rel w (soW a x y) (soW b x y)=so:=h
section
variable{w:Wd}(hw:LS w){A B:Int×Int}(hA:A.1<=A.2)(hB:B.1<=B.2)(so:Bool)
include hw hA hB
theorem zwo:z5j (.op w (.nm "a") (.nm "b")) A B so (bq w (.nm "a") (.nm "b") (bk2 A B) so):=by
 rw [zkd (show z6b (bk2 A B) (.nm "a")=some A from zpv A B) (show z6b (bk2 A B) (.nm "b")=some B from zs9 A B)]
 have hf:∀x y,Fit (.op w (.nm "a") (.nm "b")) so x y->rel w x y=so:=fun x y h=>by
  have h:=zcz h
  rw [zdm,zfg] at h
  exact h
 show z5j (.op w (.nm "a") (.nm "b")) A B so (match (z1p w A B so).map (z54 (bk2 A B) "a") with | some bk1=>bq2 w (.nm "b") A bk1 so | none=>none)
 have sound1:∀x y,In2 A x->In2 B y->Fit (.op w (.nm "a") (.nm "b")) so x y->∃r,z1p w A B so=some r/\In2 r x:=fun x y hx hy h=>z49 hw hx hy (hf x y h)
 cases e1:z1p w A B so with
 | none=>
  intro x y hx hy h
  obtain⟨r,hr,_⟩:=sound1 x y hx hy h
  rw [e1] at hr; cases hr
 | some O1=>
  have sound1:∀x y,In2 A x->In2 B y->Fit (.op w (.nm "a") (.nm "b")) so x y->In2 O1 x:=fun x y hx hy h=>by
   obtain⟨r,hr,hi⟩:=sound1 x y hx hy h
   rw [e1] at hr; cases hr; exact hi
  obtain⟨k1,k2,k3,⟨u,hu,k4⟩,⟨v,hv,k5⟩⟩:=z4a hw hA hB e1
  show z5j (.op w (.nm "a") (.nm "b")) A B so (bq2 w (.nm "b") A (z54 (bk2 A B) "a" O1) so)
  rw [zx4]
  rw [zf8 (own:=B) (zs9 O1 B)]
  have sound2:∀x y,In2 A x->In2 B y->Fit (.op w (.nm "a") (.nm "b")) so x y->∃r,z12 w B A so=some r/\In2 r y:=fun x y hx hy h=>z38 hw hy hx (hf x y h)
  cases e2:z12 w B A so with
  | none=>
   intro x y hx hy h
   obtain⟨r,hr,_⟩:=sound2 x y hx hy h
   rw [e2] at hr; cases hr
  | some O2=>
   have sound2:∀x y,In2 A x->In2 B y->Fit (.op w (.nm "a") (.nm "b")) so x y->In2 O2 y:=fun x y hx hy h=>by
    obtain⟨r,hr,hi⟩:=sound2 x y hx hy h
    rw [e2] at hr; cases hr; exact hi
   obtain⟨j1,j2,j3,⟨u',hu',j4⟩,⟨v',hv',j5⟩⟩:=z39 hw hB hA e2
   show zto (.op w (.nm "a") (.nm "b")) A B so (z54 (bk2 O1 B) "b" O2)
   rw [zyz]
   refine⟨O1,O2,rfl,?_,?_⟩
   ·refine⟨?_,?_,?_,?_⟩
    ·exact k1
    ·rintro z ⟨z2,h1,h2,h3⟩; exact sound1 z z2 h1 h2 h3
    ·intro _ _; exact⟨⟨u,(show In2 A O1.1 from⟨by omega,by omega⟩),hu,(show rel w (soW (.nm "a") O1.1 u) (soW (.nm "b") O1.1 u)=so by rw [zdm,zfg]; exact k4)⟩,⟨v,(show In2 A O1.2 from⟨by omega,by omega⟩),hv,(show rel w (soW (.nm "a") O1.2 v) (soW (.nm "b") O1.2 v)=so by rw [zdm,zfg]; exact k5)⟩⟩
    ·intro hz; simp[nms] at hz
   ·refine⟨?_,?_,?_,?_⟩
    ·exact j1
    ·rintro z ⟨z2,h1,h2,h3⟩; exact sound2 z2 z h1 h2 h3
    ·intro _ _; exact⟨⟨u',hu',(show In2 B O2.1 from⟨by omega,by omega⟩),(show rel w (soW (.nm "a") u' O2.1) (soW (.nm "b") u' O2.1)=so by rw [zdm,zfg]; exact j4)⟩,⟨v',hv',(show In2 B O2.2 from⟨by omega,by omega⟩),(show rel w (soW (.nm "a") v' O2.2) (soW (.nm "b") v' O2.2)=so by rw [zdm,zfg]; exact j5)⟩⟩
    ·intro hz; simp[nms] at hz
theorem zwm:z5j (.op w (.nm "b") (.nm "a")) A B so (bq w (.nm "b") (.nm "a") (bk2 A B) so):=by
 rw [zkd (show z6b (bk2 A B) (.nm "b")=some B from zs9 A B) (show z6b (bk2 A B) (.nm "a")=some A from zpv A B)]
 have hf:∀x y,Fit (.op w (.nm "b") (.nm "a")) so x y->rel w y x=so:=fun x y h=>by
  have h:=zcz h
  rw [zfg,zdm] at h
  exact h
 show z5j (.op w (.nm "b") (.nm "a")) A B so (match (z1p w B A so).map (z54 (bk2 A B) "b") with | some bk1=>bq2 w (.nm "a") B bk1 so | none=>none)
 have sound1:∀x y,In2 A x->In2 B y->Fit (.op w (.nm "b") (.nm "a")) so x y->∃r,z1p w B A so=some r/\In2 r y:=fun x y hx hy h=>z49 hw hy hx (hf x y h)
 cases e1:z1p w B A so with
 | none=>
  intro x y hx hy h
  obtain⟨r,hr,_⟩:=sound1 x y hx hy h
  rw [e1] at hr; cases hr
 | some O1=>
  have sound1:∀x y,In2 A x->In2 B y->Fit (.op w (.nm "b") (.nm "a")) so x y->In2 O1 y:=fun x y hx hy h=>by
   obtain⟨r,hr,hi⟩:=sound1 x y hx hy h
   rw [e1] at hr; cases hr; exact hi
  obtain⟨k1,k2,k3,⟨u,hu,k4⟩,⟨v,hv,k5⟩⟩:=z4a hw hB hA e1
  show z5j (.op w (.nm "b") (.nm "a")) A B so (bq2 w (.nm "a") B (z54 (bk2 A B) "b" O1) so)
  rw [zyz]
  rw [zf8 (own:=A) (zpv A O1)]
  have sound2:∀x y,In2 A x->In2 B y->Fit (.op w (.nm "b") (.nm "a")) so x y->∃r,z12 w A B so=some r/\In2 r x:=fun x y hx hy h=>z38 hw hx hy (hf x y h)
  cases e2:z12 w A B so with
  | none=>
   intro x y hx hy h
   obtain⟨r,hr,_⟩:=sound2 x y hx hy h
   rw [e2] at hr; cases hr
  | some O2=>
   have sound2:∀x y,In2 A x->In2 B y->Fit (.op w (.nm "b") (.nm "a")) so x y->In2 O2 x:=fun x y hx hy h=>by
    obtain⟨r,hr,hi⟩:=sound2 x y hx hy h
    rw [e2] at hr; cases hr; exact hi
   obtain⟨j1,j2,j3,⟨u',hu',j4⟩,⟨v',hv',j5⟩⟩:=z39 hw hA hB e2
   show zto (.op w (.nm "b") (.nm "a")) A B so (z54 (bk2 A O1) "a" O2)
   rw [zx4]
   refine⟨O2,O1,rfl,?_,?_⟩
   ·refine⟨?_,?_,?_,?_⟩
    ·exact j1
    ·rintro z ⟨z2,h1,h2,h3⟩; exact sound2 z z2 h1 h2 h3
    ·intro _ _; exact⟨⟨u',(show In2 A O2.1 from⟨by omega,by omega⟩),hu',(show rel w (soW (.nm "b") O2.1 u') (soW (.nm "a") O2.1 u')=so by rw [zfg,zdm]; exact j4)⟩,⟨v',(show In2 A O2.2 from⟨by omega,by omega⟩),hv',(show rel w (soW (.nm "b") O2.2 v') (soW (.nm "a") O2.2 v')=so by rw [zfg,zdm]; exact j5)⟩⟩
    ·intro hz; simp[nms] at hz
   ·refine⟨?_,?_,?_,?_⟩
    ·exact k1
    ·rintro z ⟨z2,h1,h2,h3⟩; exact sound1 z2 z h1 h2 h3
    ·intro _ _; exact⟨⟨u,hu,(show In2 B O1.1 from⟨by omega,by omega⟩),(show rel w (soW (.nm "b") u O1.1) (soW (.nm "a") u O1.1)=so by rw [zfg,zdm]; exact k4)⟩,⟨v,hv,(show In2 B O1.2 from⟨by omega,by omega⟩),(show rel w (soW (.nm "b") v O1.2) (soW (.nm "a") v O1.2)=so by rw [zfg,zdm]; exact k5)⟩⟩
    ·intro hz; simp[nms] at hz
theorem zwp:z5j (.op w (.nm "a") (.nm "a")) A B so (bq w (.nm "a") (.nm "a") (bk2 A B) so):=by
 rw [zkd (show z6b (bk2 A B) (.nm "a")=some A from zpv A B) (show z6b (bk2 A B) (.nm "a")=some A from zpv A B)]
 have hf:∀x y,Fit (.op w (.nm "a") (.nm "a")) so x y->rel w x x=so:=fun x y h=>by
  have h:=zcz h
  rw [zdm] at h
  exact h
 show z5j (.op w (.nm "a") (.nm "a")) A B so (match (z1p w A A so).map (z54 (bk2 A B) "a") with | some bk1=>bq2 w (.nm "a") A bk1 so | none=>none)
 have sound1:∀x y,In2 A x->In2 B y->Fit (.op w (.nm "a") (.nm "a")) so x y->∃r,z1p w A A so=some r/\In2 r x:=fun x y hx hy h=>z49 hw hx hx (hf x y h)
 cases e1:z1p w A A so with
 | none=>
  intro x y hx hy h
  obtain⟨r,hr,_⟩:=sound1 x y hx hy h
  rw [e1] at hr; cases hr
 | some O1=>
  have sound1:∀x y,In2 A x->In2 B y->Fit (.op w (.nm "a") (.nm "a")) so x y->In2 O1 x:=fun x y hx hy h=>by
   obtain⟨r,hr,hi⟩:=sound1 x y hx hy h
   rw [e1] at hr; cases hr; exact hi
  obtain⟨k1,k2,k3,⟨u,hu,k4⟩,⟨v,hv,k5⟩⟩:=z4a hw hA hA e1
  show z5j (.op w (.nm "a") (.nm "a")) A B so (bq2 w (.nm "a") A (z54 (bk2 A B) "a" O1) so)
  rw [zx4]
  rw [zf8 (own:=O1) (zpv O1 B)]
  have sound2:∀x y,In2 A x->In2 B y->Fit (.op w (.nm "a") (.nm "a")) so x y->∃r,z12 w O1 A so=some r/\In2 r x:=fun x y hx hy h=>z38 hw (sound1 x y hx hy h) hx (hf x y h)
  cases e2:z12 w O1 A so with
  | none=>
   intro x y hx hy h
   obtain⟨r,hr,_⟩:=sound2 x y hx hy h
   rw [e2] at hr; cases hr
  | some O2=>
   have sound2:∀x y,In2 A x->In2 B y->Fit (.op w (.nm "a") (.nm "a")) so x y->In2 O2 x:=fun x y hx hy h=>by
    obtain⟨r,hr,hi⟩:=sound2 x y hx hy h
    rw [e2] at hr; cases hr; exact hi
   obtain⟨j1,j2,j3,⟨u',hu',j4⟩,⟨v',hv',j5⟩⟩:=z39 hw k1 hA e2
   show zto (.op w (.nm "a") (.nm "a")) A B so (z54 (bk2 O1 B) "a" O2)
   rw [zx4]
   refine⟨O2,B,rfl,?_,?_⟩
   ·refine⟨?_,?_,?_,?_⟩
    ·exact j1
    ·rintro z ⟨z2,h1,h2,h3⟩; exact sound2 z z2 h1 h2 h3
    ·intro _ ha; exact absurd rfl ha
    ·intro hz; simp[nms] at hz
   ·refine⟨?_,?_,?_,?_⟩
    ·exact hB
    ·rintro z ⟨z2,h1,h2,h3⟩; exact h2
    ·intro hz; simp[nms,sab,sba] at hz
    ·intro _; rfl
theorem zwl:z5j (.op w (.nm "b") (.nm "b")) A B so (bq w (.nm "b") (.nm "b") (bk2 A B) so):=by
 rw [zkd (show z6b (bk2 A B) (.nm "b")=some B from zs9 A B) (show z6b (bk2 A B) (.nm "b")=some B from zs9 A B)]
 have hf:∀x y,Fit (.op w (.nm "b") (.nm "b")) so x y->rel w y y=so:=fun x y h=>by
  have h:=zcz h
  rw [zfg] at h
  exact h
 show z5j (.op w (.nm "b") (.nm "b")) A B so (match (z1p w B B so).map (z54 (bk2 A B) "b") with | some bk1=>bq2 w (.nm "b") B bk1 so | none=>none)
 have sound1:∀x y,In2 A x->In2 B y->Fit (.op w (.nm "b") (.nm "b")) so x y->∃r,z1p w B B so=some r/\In2 r y:=fun x y hx hy h=>z49 hw hy hy (hf x y h)
 cases e1:z1p w B B so with
 | none=>
  intro x y hx hy h
  obtain⟨r,hr,_⟩:=sound1 x y hx hy h
  rw [e1] at hr; cases hr
 | some O1=>
  have sound1:∀x y,In2 A x->In2 B y->Fit (.op w (.nm "b") (.nm "b")) so x y->In2 O1 y:=fun x y hx hy h=>by
   obtain⟨r,hr,hi⟩:=sound1 x y hx hy h
   rw [e1] at hr; cases hr; exact hi
  obtain⟨k1,k2,k3,⟨u,hu,k4⟩,⟨v,hv,k5⟩⟩:=z4a hw hB hB e1
  show z5j (.op w (.nm "b") (.nm "b")) A B so (bq2 w (.nm "b") B (z54 (bk2 A B) "b" O1) so)
  rw [zyz]
  rw [zf8 (own:=O1) (zs9 A O1)]
  have sound2:∀x y,In2 A x->In2 B y->Fit (.op w (.nm "b") (.nm "b")) so x y->∃r,z12 w O1 B so=some r/\In2 r y:=fun x y hx hy h=>z38 hw (sound1 x y hx hy h) hy (hf x y h)
  cases e2:z12 w O1 B so with
  | none=>
   intro x y hx hy h
   obtain⟨r,hr,_⟩:=sound2 x y hx hy h
   rw [e2] at hr; cases hr
  | some O2=>
   have sound2:∀x y,In2 A x->In2 B y->Fit (.op w (.nm "b") (.nm "b")) so x y->In2 O2 y:=fun x y hx hy h=>by
    obtain⟨r,hr,hi⟩:=sound2 x y hx hy h
    rw [e2] at hr; cases hr; exact hi
   obtain⟨j1,j2,j3,⟨u',hu',j4⟩,⟨v',hv',j5⟩⟩:=z39 hw k1 hB e2
   show zto (.op w (.nm "b") (.nm "b")) A B so (z54 (bk2 A O1) "b" O2)
   rw [zyz]
   refine⟨A,O2,rfl,?_,?_⟩
   ·refine⟨?_,?_,?_,?_⟩
    ·exact hA
    ·rintro z ⟨z2,h1,h2,h3⟩; exact h1
    ·intro hz; simp[nms,sab,sba] at hz
    ·intro _; rfl
   ·refine⟨?_,?_,?_,?_⟩
    ·exact j1
    ·rintro z ⟨z2,h1,h2,h3⟩; exact sound2 z2 z h1 h2 h3
    ·intro _ ha; exact absurd rfl ha
    ·intro hz; simp[nms] at hz
theorem zwn(n:Int):z5j (.op w (.nm "a") (.num n)) A B so (bq w (.nm "a") (.num n) (bk2 A B) so):=by
 rw [zkd (show z6b (bk2 A B) (.nm "a")=some A from zpv A B) (show z6b (bk2 A B) (.num n)=some (n,n) from rfl)]
 have hf:∀x y,Fit (.op w (.nm "a") (.num n)) so x y->rel w x n=so:=fun x y h=>by
  have h:=zcz h
  rw [zdm] at h
  exact h
 show z5j (.op w (.nm "a") (.num n)) A B so (match (z1p w A (n,n) so).map (z54 (bk2 A B) "a") with | some bk1=>bq2 w (.num n) A bk1 so | none=>none)
 have sound1:∀x y,In2 A x->In2 B y->Fit (.op w (.nm "a") (.num n)) so x y->∃r,z1p w A (n,n) so=some r/\In2 r x:=fun x y hx hy h=>z49 hw hx ⟨Int.le_refl _,Int.le_refl _⟩ (hf x y h)
 cases e1:z1p w A (n,n) so with
 | none=>
  intro x y hx hy h
  obtain⟨r,hr,_⟩:=sound1 x y hx hy h
  rw [e1] at hr; cases hr
 | some O1=>
  have sound1:∀x y,In2 A x->In2 B y->Fit (.op w (.nm "a") (.num n)) so x y->In2 O1 x:=fun x y hx hy h=>by
   obtain⟨r,hr,hi⟩:=sound1 x y hx hy h
   rw [e1] at hr; cases hr; exact hi
  obtain⟨k1,k2,k3,⟨u,hu,k4⟩,⟨v,hv,k5⟩⟩:=z4a hw hA (Int.le_refl n) e1
  rw [show u=n from Int.le_antisymm hu.2 hu.1] at k4
  rw [show v=n from Int.le_antisymm hv.2 hv.1] at k5
  show z5j (.op w (.nm "a") (.num n)) A B so (bq2 w (.num n) A (z54 (bk2 A B) "a" O1) so)
  rw [zx4]
  show zto (.op w (.nm "a") (.num n)) A B so (bk2 O1 B)
  refine⟨O1,B,rfl,?_,?_⟩
  ·refine⟨?_,?_,?_,?_⟩
   ·exact k1
   ·rintro z ⟨z2,h1,h2,h3⟩; exact sound1 z z2 h1 h2 h3
   ·intro _ _; exact⟨⟨B.1,(show In2 A O1.1 from⟨by omega,by omega⟩),⟨Int.le_refl _,hB⟩,(show rel w (soW (.nm "a") O1.1 B.1) (soW (.num n) O1.1 B.1)=so by rw [zdm]; exact k4)⟩,⟨B.1,(show In2 A O1.2 from⟨by omega,by omega⟩),⟨Int.le_refl _,hB⟩,(show rel w (soW (.nm "a") O1.2 B.1) (soW (.num n) O1.2 B.1)=so by rw [zdm]; exact k5)⟩⟩
   ·intro hz; simp[nms] at hz
  ·refine⟨?_,?_,?_,?_⟩
   ·exact hB
   ·rintro z ⟨z2,h1,h2,h3⟩; exact h2
   ·intro hz; simp[nms,sab,sba] at hz
   ·intro _; rfl
theorem zwk(n:Int):z5j (.op w (.nm "b") (.num n)) A B so (bq w (.nm "b") (.num n) (bk2 A B) so):=by
 rw [zkd (show z6b (bk2 A B) (.nm "b")=some B from zs9 A B) (show z6b (bk2 A B) (.num n)=some (n,n) from rfl)]
 have hf:∀x y,Fit (.op w (.nm "b") (.num n)) so x y->rel w y n=so:=fun x y h=>by
  have h:=zcz h
  rw [zfg] at h
  exact h
 show z5j (.op w (.nm "b") (.num n)) A B so (match (z1p w B (n,n) so).map (z54 (bk2 A B) "b") with | some bk1=>bq2 w (.num n) B bk1 so | none=>none)
 have sound1:∀x y,In2 A x->In2 B y->Fit (.op w (.nm "b") (.num n)) so x y->∃r,z1p w B (n,n) so=some r/\In2 r y:=fun x y hx hy h=>z49 hw hy ⟨Int.le_refl _,Int.le_refl _⟩ (hf x y h)
 cases e1:z1p w B (n,n) so with
 | none=>
  intro x y hx hy h
  obtain⟨r,hr,_⟩:=sound1 x y hx hy h
  rw [e1] at hr; cases hr
 | some O1=>
  have sound1:∀x y,In2 A x->In2 B y->Fit (.op w (.nm "b") (.num n)) so x y->In2 O1 y:=fun x y hx hy h=>by
   obtain⟨r,hr,hi⟩:=sound1 x y hx hy h
   rw [e1] at hr; cases hr; exact hi
  obtain⟨k1,k2,k3,⟨u,hu,k4⟩,⟨v,hv,k5⟩⟩:=z4a hw hB (Int.le_refl n) e1
  rw [show u=n from Int.le_antisymm hu.2 hu.1] at k4
  rw [show v=n from Int.le_antisymm hv.2 hv.1] at k5
  show z5j (.op w (.nm "b") (.num n)) A B so (bq2 w (.num n) B (z54 (bk2 A B) "b" O1) so)
  rw [zyz]
  show zto (.op w (.nm "b") (.num n)) A B so (bk2 A O1)
  refine⟨A,O1,rfl,?_,?_⟩
  ·refine⟨?_,?_,?_,?_⟩
   ·exact hA
   ·rintro z ⟨z2,h1,h2,h3⟩; exact h1
   ·intro hz; simp[nms,sab,sba] at hz
   ·intro _; rfl
  ·refine⟨?_,?_,?_,?_⟩
   ·exact k1
   ·rintro z ⟨z2,h1,h2,h3⟩; exact sound1 z2 z h1 h2 h3
   ·intro _ _; exact⟨⟨A.1,⟨Int.le_refl _,hA⟩,(show In2 B O1.1 from⟨by omega,by omega⟩),(show rel w (soW (.nm "b") A.1 O1.1) (soW (.num n) A.1 O1.1)=so by rw [zfg]; exact k4)⟩,⟨A.1,⟨Int.le_refl _,hA⟩,(show In2 B O1.2 from⟨by omega,by omega⟩),(show rel w (soW (.nm "b") A.1 O1.2) (soW (.num n) A.1 O1.2)=so by rw [zfg]; exact k5)⟩⟩
   ·intro hz; simp[nms] at hz
theorem zwj(n:Int):z5j (.op w (.num n) (.nm "a")) A B so (bq w (.num n) (.nm "a") (bk2 A B) so):=by
 rw [zkd (show z6b (bk2 A B) (.num n)=some (n,n) from rfl) (show z6b (bk2 A B) (.nm "a")=some A from zpv A B)]
 have hf:∀x y,Fit (.op w (.num n) (.nm "a")) so x y->rel w n x=so:=fun x y h=>by
  have h:=zcz h
  rw [zdm] at h
  exact h
 show z5j (.op w (.num n) (.nm "a")) A B so (bq2 w (.nm "a") (n,n) (bk2 A B) so)
 rw [zf8 (own:=A) (zpv A B)]
 have sound2:∀x y,In2 A x->In2 B y->Fit (.op w (.num n) (.nm "a")) so x y->∃r,z12 w A (n,n) so=some r/\In2 r x:=fun x y hx hy h=>z38 hw hx ⟨Int.le_refl _,Int.le_refl _⟩ (hf x y h)
 cases e2:z12 w A (n,n) so with
 | none=>
  intro x y hx hy h
  obtain⟨r,hr,_⟩:=sound2 x y hx hy h
  rw [e2] at hr; cases hr
 | some O2=>
  have sound2:∀x y,In2 A x->In2 B y->Fit (.op w (.num n) (.nm "a")) so x y->In2 O2 x:=fun x y hx hy h=>by
   obtain⟨r,hr,hi⟩:=sound2 x y hx hy h
   rw [e2] at hr; cases hr; exact hi
  obtain⟨j1,j2,j3,⟨u',hu',j4⟩,⟨v',hv',j5⟩⟩:=z39 hw hA (Int.le_refl n) e2
  rw [show u'=n from Int.le_antisymm hu'.2 hu'.1] at j4
  rw [show v'=n from Int.le_antisymm hv'.2 hv'.1] at j5
  show zto (.op w (.num n) (.nm "a")) A B so (z54 (bk2 A B) "a" O2)
  rw [zx4]
  refine⟨O2,B,rfl,?_,?_⟩
  ·refine⟨?_,?_,?_,?_⟩
   ·exact j1
   ·rintro z ⟨z2,h1,h2,h3⟩; exact sound2 z z2 h1 h2 h3
   ·intro _ _; exact⟨⟨B.1,(show In2 A O2.1 from⟨by omega,by omega⟩),⟨Int.le_refl _,hB⟩,(show rel w (soW (.num n) O2.1 B.1) (soW (.nm "a") O2.1 B.1)=so by rw [zdm]; exact j4)⟩,⟨B.1,(show In2 A O2.2 from⟨by omega,by omega⟩),⟨Int.le_refl _,hB⟩,(show rel w (soW (.num n) O2.2 B.1) (soW (.nm "a") O2.2 B.1)=so by rw [zdm]; exact j5)⟩⟩
   ·intro hz; simp[nms] at hz
  ·refine⟨?_,?_,?_,?_⟩
   ·exact hB
   ·rintro z ⟨z2,h1,h2,h3⟩; exact h2
   ·intro hz; simp[nms,sab,sba] at hz
   ·intro _; rfl
theorem zwi(n:Int):z5j (.op w (.num n) (.nm "b")) A B so (bq w (.num n) (.nm "b") (bk2 A B) so):=by
 rw [zkd (show z6b (bk2 A B) (.num n)=some (n,n) from rfl) (show z6b (bk2 A B) (.nm "b")=some B from zs9 A B)]
 have hf:∀x y,Fit (.op w (.num n) (.nm "b")) so x y->rel w n y=so:=fun x y h=>by
  have h:=zcz h
  rw [zfg] at h
  exact h
 show z5j (.op w (.num n) (.nm "b")) A B so (bq2 w (.nm "b") (n,n) (bk2 A B) so)
 rw [zf8 (own:=B) (zs9 A B)]
 have sound2:∀x y,In2 A x->In2 B y->Fit (.op w (.num n) (.nm "b")) so x y->∃r,z12 w B (n,n) so=some r/\In2 r y:=fun x y hx hy h=>z38 hw hy ⟨Int.le_refl _,Int.le_refl _⟩ (hf x y h)
 cases e2:z12 w B (n,n) so with
 | none=>
  intro x y hx hy h
  obtain⟨r,hr,_⟩:=sound2 x y hx hy h
  rw [e2] at hr; cases hr
 | some O2=>
  have sound2:∀x y,In2 A x->In2 B y->Fit (.op w (.num n) (.nm "b")) so x y->In2 O2 y:=fun x y hx hy h=>by
   obtain⟨r,hr,hi⟩:=sound2 x y hx hy h
   rw [e2] at hr; cases hr; exact hi
  obtain⟨j1,j2,j3,⟨u',hu',j4⟩,⟨v',hv',j5⟩⟩:=z39 hw hB (Int.le_refl n) e2
  rw [show u'=n from Int.le_antisymm hu'.2 hu'.1] at j4
  rw [show v'=n from Int.le_antisymm hv'.2 hv'.1] at j5
  show zto (.op w (.num n) (.nm "b")) A B so (z54 (bk2 A B) "b" O2)
  rw [zyz]
  refine⟨A,O2,rfl,?_,?_⟩
  ·refine⟨?_,?_,?_,?_⟩
   ·exact hA
   ·rintro z ⟨z2,h1,h2,h3⟩; exact h1
   ·intro hz; simp[nms,sab,sba] at hz
   ·intro _; rfl
  ·refine⟨?_,?_,?_,?_⟩
   ·exact j1
   ·rintro z ⟨z2,h1,h2,h3⟩; exact sound2 z2 z h1 h2 h3
   ·intro _ _; exact⟨⟨A.1,⟨Int.le_refl _,hA⟩,(show In2 B O2.1 from⟨by omega,by omega⟩),(show rel w (soW (.num n) A.1 O2.1) (soW (.nm "b") A.1 O2.1)=so by rw [zfg]; exact j4)⟩,⟨A.1,⟨Int.le_refl _,hA⟩,(show In2 B O2.2 from⟨by omega,by omega⟩),(show rel w (soW (.num n) A.1 O2.2) (soW (.nm "b") A.1 O2.2)=so by rw [zfg]; exact j5)⟩⟩
   ·intro hz; simp[nms] at hz
theorem zwh(n:Int)(m:Int):z5j (.op w (.num n) (.num m)) A B so (bq w (.num n) (.num m) (bk2 A B) so):=by
 rw [zkd (show z6b (bk2 A B) (.num n)=some (n,n) from rfl) (show z6b (bk2 A B) (.num m)=some (m,m) from rfl)]
 have hf:∀x y,Fit (.op w (.num n) (.num m)) so x y->rel w n m=so:=fun x y h=>by
  have h:=zcz h
  exact h
 show z5j (.op w (.num n) (.num m)) A B so (bq2 w (.num m) (n,n) (bk2 A B) so)
 show zto (.op w (.num n) (.num m)) A B so (bk2 A B)
 refine⟨A,B,rfl,?_,?_⟩
 ·refine⟨?_,?_,?_,?_⟩
  ·exact hA
  ·rintro z ⟨z2,h1,h2,h3⟩; exact h1
  ·intro hz; simp[nms,sab,sba] at hz
  ·intro _; rfl
 ·refine⟨?_,?_,?_,?_⟩
  ·exact hB
  ·rintro z ⟨z2,h1,h2,h3⟩; exact h2
  ·intro hz; simp[nms,sab,sba] at hz
  ·intro _; rfl
end
theorem zql{A B:Int×Int}(hA:A.1<=A.2)(hB:B.1<=B.2)(so:Bool):z5j (.nm "a") A B so (bhd (.nm "a") (bk2 A B) so):=by
 show z5j (.nm "a") A B so ((z60 (look (bk2 A B) "a") so).map (z54 (bk2 A B) "a"))
 rw [zpv]
 have hf:∀x y,Fit (.nm "a") so x y->decide (x≠0)=so:=fun x y h=>by
  have h:decide (soW (.nm "a") x y≠0)=so:=h
  rw [zdm] at h
  exact h
 cases e1:z60 (some A) so with
 | none=>
  intro x y hx hy h
  obtain⟨r,hr,_⟩:=zb3 hx (hf x y h)
  rw [e1] at hr; cases hr
 | some O1=>
  obtain⟨k1,k2,k3,k4,k5⟩:=zid hA e1
  show zto (.nm "a") A B so (z54 (bk2 A B) "a" O1)
  rw [zx4]
  refine⟨O1,B,rfl,⟨k1,?_,?_,?_⟩,⟨hB,?_,?_,?_⟩⟩
  ·rintro z ⟨z2,h1,h2,h3⟩
   obtain⟨r,hr,hi⟩:=zb3 h1 (hf z z2 h3)
   rw [e1] at hr; cases hr; exact hi
  ·intro _ _
   exact⟨⟨B.1,⟨by omega,by omega⟩,⟨Int.le_refl _,hB⟩,by unfold Fit; rw [zdm]; exact k4⟩,⟨B.1,⟨by omega,by omega⟩,⟨Int.le_refl _,hB⟩,by unfold Fit; rw [zdm]; exact k5⟩⟩
  ·intro hz; simp[nms] at hz
  ·rintro z ⟨z2,h1,h2,h3⟩; exact h2
  ·intro hz; simp[nms,sba] at hz
  ·intro _; rfl
def z4w(t:T):Prop:=t=.nm "a"\/t=.nm "b"\/∃n:Int,t=.num n/\-4<=n/\n<=4
def okQ(t:T):Prop:=t=.nm "a"\/∃w a b,t=.op w a b/\LS w/\z4w a/\z4w b
theorem ztu{t:T}(ht:okQ t){A B:Int×Int}(hA:A.1<=A.2)(hB:B.1<=B.2)(so:Bool):z5j t A B so (bhd t (bk2 A B) so):=by
 rcases ht with rfl | ⟨w,a,b,rfl,hw,ha,hb⟩
 ·exact zql hA hB so
 ·show z5j _ A B so (bq w a b (bk2 A B) so)
  rcases ha with rfl | rfl | ⟨n,rfl,_⟩<;>rcases hb with rfl | rfl | ⟨m,rfl,_⟩
  ·exact zwp hw hA hB so
  ·exact zwo hw hA hB so
  ·exact zwn hw hA hB so m
  ·exact zwm hw hA hB so
  ·exact zwl hw hA hB so
  ·exact zwk hw hA hB so m
  ·exact zwj hw hA hB so n
  ·exact zwi hw hA hB so n
  ·exact zwh hw hA hB so n m
theorem zlf(x y:Pth)(s:Int×Int):∀ns:Nts,z1j (ns.map fun q=>if q.1=x then(q.1,s) else q) y=if y=x then(z1j ns y).map (fun _=>s) else z1j ns y
 | []=>by simp[z1j]
 | q::r=>by
  rw [List.map_cons,z1j,z1j,zlf x y s r]
  by_cases h1:q.1=x
  ·rw [if_pos h1]
   by_cases h2:q.1=y
   ·rw [if_pos h2,if_pos h2,if_pos (by rw [<- h2,h1])]; rfl
   ·rw [if_neg h2,if_neg h2]
  ·rw [if_neg h1]
   by_cases h2:q.1=y
   ·rw [if_pos h2,if_pos h2,if_neg (by rw [<- h2]; exact h1)]
   ·rw [if_neg h2,if_neg h2]
theorem zlg(x:Pth):∀ns:Nts,(ns.any fun q=>decide (q.1=x))=(z1j ns x).isSome
 | []=>rfl
 | q::r=>by
  rw [List.any_cons,z1j,zlg x r]
  by_cases h:q.1=x
  ·rw [if_pos h]; simp[h]
  ·rw [if_neg h]; simp[h]
theorem zj1(x y:Pth)(s:Int×Int):∀ns:Nts,z1j ns x=none->z1j (ns++[(x,s)]) y=if y=x then some s else z1j ns y
 | [],_=>by
  rw [List.nil_append,z1j,z1j]
  by_cases h:x=y
  ·rw [if_pos h,if_pos h.symm]
  ·rw [if_neg h,if_neg (fun z=>h z.symm)]; rfl
 | q::r,hn=>by
  rw [z1j] at hn
  by_cases h:q.1=x
  ·rw [if_pos h] at hn; cases hn
  ·rw [if_neg h] at hn
   rw [List.cons_append,z1j,z1j,zj1 x y s r hn]
   by_cases h2:q.1=y
   ·rw [if_pos h2,if_pos h2,if_neg (by rw [<- h2]; exact h)]
   ·rw [if_neg h2,if_neg h2]
theorem zj2(ns:Nts)(x y:Pth)(s:Int×Int):z1j (zci ns x s) y=if y=x then some s else z1j ns y:=by
 unfold zci
 rw [zlg]
 by_cases h:(z1j ns x).isSome=true
 ·rw [if_pos h,zlf]
  by_cases e:y=x
  ·rw [if_pos e,if_pos e,e]
   obtain⟨z,hz⟩:=Option.isSome_iff_exists.mp h
   rw [hz]; rfl
  ·rw [if_neg e,if_neg e]
 ·rw [if_neg h]
  exact zj1 x y s ns (by simpa using h)
theorem ze9(s:S)(ns:Nts)(x y:Pth):z1j (zvz s x ns) y=if y=x/\s≠none then s else z1j ns y:=by
 cases s with
 | none=>simp[zvz]
 | some r=>
  show z1j (zci ns x r) y=_
  rw [zj2]
  by_cases e:y=x
  ·rw [if_pos e,if_pos ⟨e,by simp⟩]
  ·rw [if_neg e,if_neg (fun z=>e z.1)]
theorem zmj(bk:Bk):∀(t:T) (p:Pth) (ns:Nts) (q:Pth),¬ p <+: q->z1j (shS bk t p ns).2 q=z1j ns q
 | .num i,p,ns,q,h=>by
  rw [shS]
  show z1j (zvz (some (i,i)) p ns) q=_
  rw [ze9,if_neg (fun z=>h (by rw [z.1]; exact List.prefix_refl _))]
 | .nm x,p,ns,q,h=>by
  rw [shS]
  show z1j (zvz (look bk x) p ns) q=_
  rw [ze9,if_neg (fun z=>h (by rw [z.1]; exact List.prefix_refl _))]
 | .op w a b,p,ns,q,h=>by
  have ha:=zmj bk a (p++[0]) ns q (fun z=>h (List.IsPrefix.trans (List.prefix_append _ _) z))
  have hb:=zmj bk b (p++[1]) (shS bk a (p++[0]) ns).2 q (fun z=>h (List.IsPrefix.trans (List.prefix_append _ _) z))
  rw [shS]
  split
  ·exact ha
  ·show z1j (zvz _ _ _) q=_
   rw [ze9,if_neg (fun z=>h (by rw [z.1]; exact List.prefix_refl _)),hb,ha]
def z6v:List D:=[.set "c" (.nm "a"),.set "d" (.nm "b")]
def zld:List D:=[.set "x" (.nm "c"),.set "y" (.nm "d"),.set "z" (.nm "a")]
def z5o(t:T):List D:=.ite t z6v z6v::zld
def inW(s:Int×Int):Prop:=-32768<=s.1/\s.1<=s.2/\s.2<=32767
theorem zgx{s:Int×Int}(h:inW s):zdo (some s) (some zqb)=some s:=by
 obtain⟨a,b⟩:=s
 obtain⟨h1,h2,h3⟩:=h
 simp only at h1 h2 h3
 show bet (mx a (-32768)) (mn b 32767)=some (a,b)
 rw [show mx a (-32768)=a by unfold mx; rw [if_neg (by omega)],show mn b 32767=b by unfold mn; rw [if_neg (by omega)]]
 unfold bet
 rw [if_neg (by omega)]
def bk4(A B:Int×Int):Bk:=[("a",A),("b",B),("c",A),("d",B)]
theorem z8s(bk:Bk)(x:Str)(s:Int×Int)(h:(bk.any fun q=>decide (q.1=x))=false):z54 bk x s=bk++[(x,s)]:=by
 unfold z54
 rw [if_neg (by rw [h]; simp)]
theorem zvh{A B:Int×Int}(hA:inW A)(hB:inW B)(p:Pth)(ns:Nts):wkB bhd z6v p 0 (some (bk2 A B)) ns=(some (bk4 A B),zci (zci ns (p++[0]++[0]) A) (p++[1]++[0]) B):=by
 have e1:wkD bhd (.set "c" (.nm "a")) (p++[0]) (bk2 A B) ns=(some ([("a",A),("b",B),("c",A)]:Bk),zci ns (p++[0]++[0]) A):=by
  rw [wkD,shS,zpv]
  show(Option.map _ (zdo (some A) (some zqb)),zci ns (p++[0]++[0]) A)=_
  rw [zgx hA]
  show(some (z54 (bk2 A B) "c" A),_)=_
  rw [z8s (bk2 A B) "c" A (show(decide (("a" : Str) = "c") || (decide (("b" : Str) = "c") || false))=false by decide+kernel)]
  rfl
 have l2:look ([("a",A),("b",B),("c",A)]:Bk) "b" = some B:=by unfold look; rw [if_neg sab]; unfold look; rw [if_pos rfl]
 have e2:wkD bhd (.set "d" (.nm "b")) (p++[1]) ([("a",A),("b",B),("c",A)]:Bk) (zci ns (p++[0]++[0]) A)=(some (bk4 A B),zci (zci ns (p++[0]++[0]) A) (p++[1]++[0]) B):=by
  rw [wkD,shS,l2]
  show(Option.map _ (zdo (some B) (some zqb)),zci _ (p++[1]++[0]) B)=_
  rw [zgx hB]
  show(some (z54 _ "d" B),_)=_
  rw [z8s [("a",A),("b",B),("c",A)] "d" B (show(decide (("a" : Str) = "d") || (decide (("b" : Str) = "d") || (decide (("c" : Str) = "d") || false)))=false by decide+kernel)]
  rfl
 rw [z6v,wkB,e1]
 show wkB bhd [.set "d" (.nm "b")] p 1 (some _) _=_
 rw [wkB,e2]
 show wkB bhd [] p 2 _ _=_
 rw [wkB]
theorem zvi(p:Pth)(ns:Nts):wkB bhd z6v p 0 none ns=(none,ns):=by
 rw [z6v,wkB]
theorem str36:(("a" : Str)≠"b"/\("a" : Str)≠"c"/\("a" : Str)≠"d"/\("b" : Str)≠"c"/\("b" : Str)≠"d"/\("c" : Str)≠"d")/\(("a" : Str)≠"x"/\("b" : Str)≠"x"/\("c" : Str)≠"x"/\("d" : Str)≠"x")/\(("a" : Str)≠"y"/\("b" : Str)≠"y"/\("c" : Str)≠"y"/\("d" : Str)≠"y"/\("x" : Str)≠"y"):=by decide+kernel
theorem zxq(A B:Int×Int)(r:Bk):look (bk4 A B++r) "a" = some A:=by
 show look (("a",A)::_) "a" = _
 rw [look,if_pos rfl]
theorem q02(A B:Int×Int)(r:Bk):look (bk4 A B++r) "b" = some B:=by
 show look (("a",A)::("b",B)::_) "b" = _
 rw [look,if_neg str36.1.1,look,if_pos rfl]
theorem zxp(A B:Int×Int)(r:Bk):look (bk4 A B++r) "c" = some A:=by
 show look (("a",A)::("b",B)::("c",A)::_) "c" = _
 rw [look,if_neg str36.1.2.1,look,if_neg str36.1.2.2.2.1,look,if_pos rfl]
theorem zxo(A B:Int×Int)(r:Bk):look (bk4 A B++r) "d" = some B:=by
 show look (("a",A)::("b",B)::("c",A)::("d",B)::_) "d" = _
 rw [look,if_neg str36.1.2.2.1,look,if_neg str36.1.2.2.2.2.1,look,if_neg str36.1.2.2.2.2.2,look,if_pos rfl]
theorem zae{one other:Bk}(acc:Bk){x:Str}{s t:Int×Int}(h1:look one x=some s)(h2:look other x=some t)(h3:(acc.any fun q=>decide (q.1=x))=false):z8h one other acc x=acc++[(x,jn s t)]:=by
 unfold z8h
 rw [h1,h2]
 exact z8s _ _ _ h3
theorem q07(A1 B1 A2 B2:Int×Int):zmz (bk4 A1 B1) (bk4 A2 B2)=bk4 (jn A1 A2) (jn B1 B2):=by
 have a1:=zxq A1 B1 []
 have b1:=q02 A1 B1 []
 have c1:=zxp A1 B1 []
 have d1:=zxo A1 B1 []
 have a2:=zxq A2 B2 []
 have b2:=q02 A2 B2 []
 have c2:=zxp A2 B2 []
 have d2:=zxo A2 B2 []
 rw [List.append_nil] at a1 b1 c1 d1 a2 b2 c2 d2
 have hk:(bk4 A1 B1).map (fun q=>q.1)=(["a","b","c","d"]:List Str):=rfl
 unfold zmz
 rw [hk,List.foldl_cons,List.foldl_cons,List.foldl_cons,List.foldl_cons,List.foldl_nil]
 rw [zae [] a1 a2 rfl]
 show z8h _ _ (z8h _ _ (z8h _ _ ([("a",jn A1 A2)]:Bk) "b") "c") "d" = _
 rw [zae ([("a",jn A1 A2)]:Bk) b1 b2 (show(decide (("a" : Str) = "b") || false)=false by decide+kernel)]
 show z8h _ _ (z8h _ _ ([("a",jn A1 A2),("b",jn B1 B2)]:Bk) "c") "d" = _
 rw [zae ([("a",jn A1 A2),("b",jn B1 B2)]:Bk) c1 c2 (show(decide (("a" : Str) = "c") || (decide (("b" : Str) = "c") || false))=false by decide+kernel)]
 show z8h _ _ ([("a",jn A1 A2),("b",jn B1 B2),("c",jn A1 A2)]:Bk) "d" = _
 rw [zae ([("a",jn A1 A2),("b",jn B1 B2),("c",jn A1 A2)]:Bk) d1 d2 (show(decide (("a" : Str) = "d") || (decide (("b" : Str) = "d") || (decide (("c" : Str) = "d") || false)))=false by decide+kernel)]
 rfl
theorem zji{x y:Str}{bk:Bk}{s:Int×Int}(h:look bk y=some s)(hs:inW s)(p:Pth)(ns:Nts):wkD bhd (.set x (.nm y)) p bk ns=(some (z54 bk x s),zci ns (p++[0]) s):=by
 rw [wkD,shS,h]
 show(Option.map _ (zdo (some s) (some zqb)),zci ns (p++[0]) s)=_
 rw [zgx hs]
 rfl
theorem zuq{A B:Int×Int}(hA:inW A)(hB:inW B)(ns:Nts):(wkB bhd zld [] 1 (some (bk4 A B)) ns).2=zci (zci (zci ns [1,0] A) [2,0] B) [3,0] A:=by
 have c1:=zxp A B []
 rw [List.append_nil] at c1
 have e1:z54 (bk4 A B) "x" A=bk4 A B++([("x",A)]:Bk):=z8s (bk4 A B) "x" A (show(decide (("a" : Str) = "x") || (decide (("b" : Str) = "x") || (decide (("c" : Str) = "x") || (decide (("d" : Str) = "x") || false))))=false by decide+kernel)
 have e2:z54 (bk4 A B++([("x",A)]:Bk)) "y" B=bk4 A B++([("x",A),("y",B)]:Bk):=z8s (bk4 A B++([("x",A)]:Bk)) "y" B (show(decide (("a" : Str) = "y") || (decide (("b" : Str) = "y") || (decide (("c" : Str) = "y") || (decide (("d" : Str) = "y") || (decide (("x" : Str) = "y") || false)))))=false by decide+kernel)
 rw [zld,wkB,zji c1 hA,e1]
 show(wkB bhd [.set "y" (.nm "d"),.set "z" (.nm "a")] [] 2 (some _) _).2=_
 rw [wkB,zji (zxo A B _) hB,e2]
 show(wkB bhd [.set "z" (.nm "a")] [] 3 (some _) _).2=_
 rw [wkB,zji (zxq A B _) hA]
 show(wkB bhd [] [] 4 _ _).2=_
 rw [wkB]
 rfl
abbrev Sd2:=(Int×Int)×(Int×Int)
def zyc(k:Int)(o:Option Sd2)(ns:Nts):Nts:=match o with
 | none=>ns
 | some q=>zci (zci ns [0,k,0,0] q.1) [0,k,1,0] q.2
def inS(o:Option Sd2):Prop:=∀q,o=some q->inW q.1/\inW q.2
theorem q0q{o:Option Sd2}(h:inS o)(k:Int)(ns:Nts):wkB bhd z6v [0,k] 0 (o.map fun q=>bk2 q.1 q.2) ns=(o.map fun q=>bk4 q.1 q.2,zyc k o ns):=by
 cases o with
 | none=>exact zvi _ _
 | some q=>exact zvh (h q rfl).1 (h q rfl).2 [0,k] ns
def zw7(o1 o2:Option Sd2):Sd2:=match o1,o2 with
 | some q,none=>q
 | none,some r=>r
 | some q,some r=>(jn q.1 r.1,jn q.2 r.2)
 | none,none=>((0,0),(0,0))
theorem q09{s t:Int×Int}(h:inW s)(k:inW t):inW (jn s t):=by
 obtain⟨a,b⟩:=s
 obtain⟨c,d⟩:=t
 unfold inW jn mn mx at *
 simp only at *
 refine⟨?_,?_,?_⟩<;>(repeat' split)<;>omega
theorem zs1{A B:Int×Int}{t:T}{o1 o2:Option Sd2}(h1:z5s bhd t (shS (bk2 A B) t [0,0] []).1 (bk2 A B) true=o1.map fun q=>bk2 q.1 q.2)(h2:z5s bhd t (shS (bk2 A B) t [0,0] []).1 (bk2 A B) false=o2.map fun q=>bk2 q.1 q.2)
  (i1:inS o1) (i2:inS o2) (hs:o1≠none\/o2≠none):notesB bhd [("a",A),("b",B)] (z5o t)=zci (zci (zci (zyc 2 o2 (zyc 1 o1 (shS (bk2 A B) t [0,0] []).2)) [1,0] (zw7 o1 o2).1) [2,0] (zw7 o1 o2).2) [3,0] (zw7 o1 o2).1:=by
 have eb:zm7 [("a",A),("b",B)]=bk2 A B:=by
  show z54 (z54 [] "a" A) "b" B=_
  rw [z8s [] "a" A rfl]
  show z54 ([("a",A)]:Bk) "b" B=_
  rw [z8s ([("a",A)]:Bk) "b" B (show(decide (("a" : Str) = "b") || false)=false by decide+kernel)]
  rfl
 have hd:wkD bhd (.ite t z6v z6v) [0] (bk2 A B) []=(some (bk4 (zw7 o1 o2).1 (zw7 o1 o2).2),zyc 2 o2 (zyc 1 o1 (shS (bk2 A B) t [0,0] []).2)):=by
  rw [wkD]
  show(zuu (wkB bhd z6v [0,1] 0 (z5s bhd t (shS (bk2 A B) t [0,0] []).1 (bk2 A B) true) (shS (bk2 A B) t [0,0] []).2).1 (wkB bhd z6v [0,2] 0 (z5s bhd t (shS (bk2 A B) t [0,0] []).1 (bk2 A B) false) (wkB bhd z6v [0,1] 0 (z5s bhd t (shS (bk2 A B) t [0,0] []).1 (bk2 A B) true) (shS (bk2 A B) t [0,0] []).2).2).1,(wkB bhd z6v [0,2] 0 (z5s bhd t (shS (bk2 A B) t [0,0] []).1 (bk2 A B) false) (wkB bhd z6v [0,1] 0 (z5s bhd t (shS (bk2 A B) t [0,0] []).1 (bk2 A B) true) (shS (bk2 A B) t [0,0] []).2).2).2)=_
  rw [h1,h2,q0q i1,q0q i2]
  cases o1 with
  | none=>
   cases o2 with
   | none=>rcases hs with h | h<;>exact absurd rfl h
   | some r=>rfl
  | some q=>
   cases o2 with
   | none=>rfl
   | some r=>
    show(some (zmz (bk4 q.1 q.2) (bk4 r.1 r.2)),_)=_
    rw [q07]
    rfl
 have iF:inW (zw7 o1 o2).1/\inW (zw7 o1 o2).2:=by
  cases o1 with
  | none=>
   cases o2 with
   | none=>rcases hs with h | h<;>exact absurd rfl h
   | some r=>exact i2 r rfl
  | some q=>
   cases o2 with
   | none=>exact i1 q rfl
   | some r=>exact⟨q09 (i1 q rfl).1 (i2 r rfl).1,q09 (i1 q rfl).2 (i2 r rfl).2⟩
 unfold notesB
 rw [eb,z5o,wkB]
 show(wkB bhd zld [] 1 (wkD bhd (.ite t z6v z6v) [0] (bk2 A B) []).1 (wkD bhd (.ite t z6v z6v) [0] (bk2 A B) []).2).2=_
 rw [hd]
 exact zuq iF.1 iF.2 _
def Ask(t:T):Prop:=∃w a b,t=.op w a b/\LS w/\z4w a/\z4w b/\(a≠b\/∃n:Int,a=.num n)
def stT(A B:Int×Int):T->Int×Int
 | .num n=>(n,n)
 | .nm s=>if s = "a" then A else B
 | .op _ _ _=>(0,0)
theorem stA(A B:Int×Int):stT A B (.nm "a")=A:=by
 show(if("a" : Str) = "a" then A else B)=A
 rw [if_pos rfl]
theorem stB(A B:Int×Int):stT A B (.nm "b")=B:=by
 show(if("b" : Str) = "a" then A else B)=B
 rw [if_neg sba]
def ok48(s:Int×Int):Prop:=-4<=s.1/\s.1<=s.2/\s.2<=8
theorem ok48.w{s:Int×Int}(h:ok48 s):inW s:=by unfold ok48 inW at *; omega
theorem zko{A B:Int×Int}(hA:ok48 A)(hB:ok48 B){t:T}(h:z4w t):ok48 (stT A B t):=by
 rcases h with rfl | rfl | ⟨n,rfl,h1,h2⟩
 ·rw [stA]; exact hA
 ·rw [stB]; exact hB
 ·show -4<=n/\n<=n/\n<=8
  omega
theorem zr5{A B:Int×Int}(hA:ok48 A)(hB:ok48 B){t:T}(h:z4w t)(p:Pth)(ns:Nts):(shS (bk2 A B) t p ns).1=some (stT A B t):=by
 have ho:=zko hA hB h
 rcases h with rfl | rfl | ⟨n,rfl,h1,h2⟩
 ·rw [shS,zpv]
  show zdo (some A) (some zqb)=_
  rw [zgx hA.w,stA]
 ·rw [shS,zs9]
  show zdo (some B) (some zqb)=_
  rw [zgx hB.w,stB]
 ·rw [shS]
  show zdo (some (n,n)) (some zqb)=_
  rw [zgx (s:=(n,n)) (show -32768<=n/\n<=n/\n<=32767 by omega)]
  rfl
theorem zcl{w:Wd}(hw:LS w)(x y:Int):w.worth x y=0\/w.worth x y=1:=by
 rcases hw with rfl | rfl
 ·show(if x < y then(1:Int) else 0)=0\/(if x < y then(1:Int) else 0)=1
  by_cases h:x < y
  ·rw [if_pos h]; exact .inr rfl
  ·rw [if_neg h]; exact .inl rfl
 ·show(if x=y then(1:Int) else 0)=0\/(if x=y then(1:Int) else 0)=1
  by_cases h:x=y
  ·rw [if_pos h]; exact .inr rfl
  ·rw [if_neg h]; exact .inl rfl
theorem q0b{w:Wd}(hw:LS w){a b c d:Int}(h1:a<=b)(h2:c<=d):∃lo hi,IsS w a b c d (some (lo,hi)):=by
 rcases hw with rfl | rfl
 ·have hh:∃lo hi,Hull (z3b .less a b c d) lo hi:=by
   have e:∀z∈z3b .less a b c d,z=0\/z=1:=by
    intro z hz
    simp only[z3b,List.mem_cons,List.not_mem_nil,or_false] at hz
    rcases hz with rfl | rfl | rfl | rfl<;>exact zcl (.inl rfl) _ _
   have m0:Wd.less.worth a c∈z3b .less a b c d:=by simp[z3b]
   by_cases h0:(0:Int)∈z3b .less a b c d<;>by_cases h1:(1:Int)∈z3b .less a b c d
   ·exact⟨0,1,h0,h1,fun z hz=>by rcases e z hz with rfl | rfl<;>omega⟩
   ·exact⟨0,0,h0,h0,fun z hz=>by
     rcases e z hz with rfl | rfl
     ·omega
     ·exact absurd hz h1⟩
   ·exact⟨1,1,h1,h1,fun z hz=>by
     rcases e z hz with rfl | rfl
     ·exact absurd hz h0
     ·omega⟩
   ·rcases e _ m0 with z | z
    ·rw [z] at m0; exact absurd m0 h0
    ·rw [z] at m0; exact absurd m0 h1
  obtain⟨lo,hi,hh⟩:=hh
  exact⟨lo,hi,zd0 (by intro z; cases z) h1 h2 (fun z=>by cases z) hh⟩
 ·exact⟨_,_,znt h1 h2⟩
theorem zya{A B:Int×Int}(hA:ok48 A)(hB:ok48 B){w:Wd}{a b:T}(hw:LS w)(ha:z4w a)(hb:z4w b)(p:Pth)(ns:Nts) :
  ∃lo hi,(shS (bk2 A B) (.op w a b) p ns).1=some (lo,hi)/\IsS w (stT A B a).1 (stT A B a).2 (stT A B b).1 (stT A B b).2 (some (lo,hi))/\0<=lo/\lo<=hi/\hi<=1:=by
 have oa:=zko hA hB ha
 have ob:=zko hA hB hb
 obtain⟨lo,hi,hS⟩:=q0b hw oa.2.1 ob.2.1
 have b1:lo=0\/lo=1:=by obtain⟨⟨x,y,_,_,_,_,_,e⟩,_⟩:=hS; rw [e]; exact zcl hw x y
 have b2:hi=0\/hi=1:=by obtain⟨_,⟨x,y,_,_,_,_,_,e⟩,_⟩:=hS; rw [e]; exact zcl hw x y
 have b3:lo<=hi:=(hS.2.2.1 hi hS.2.1).1
 refine⟨lo,hi,?_,hS,by omega,b3,by omega⟩
 rw [shS,zr5 hA hB ha,if_neg (by simp),zr5 hA hB hb]
 show zdo (stF w (some (stT A B a)) (some (stT A B b))) (some zqb)=_
 have hO:OfRel w (some (stT A B a)) (some (stT A B b)) (some (lo,hi)):=hS
 rw [zvn hO]
 exact zgx (s:=(lo,hi)) (show -32768<=lo/\lo<=hi/\hi<=32767 by omega)
theorem zqh{A B:Int×Int}(hA:ok48 A)(hB:ok48 B){w:Wd}{a b:T}(ha:z4w a)(hb:z4w b)(hne:a≠b\/∃n:Int,a=.num n){v:Int}(h:Val w (stT A B a).1 (stT A B a).2 (stT A B b).1 (stT A B b).2 v):∃x y,In2 A x/\In2 B y/\soW (.op w a b) x y=v:=by
 obtain⟨x,y,h1,h2,h3,h4,_,rfl⟩:=h
 have eA:In2 A A.1:=⟨Int.le_refl _,hA.2.1⟩
 have eB:In2 B B.1:=⟨Int.le_refl _,hB.2.1⟩
 have sA:=stA A B
 have sB:=stB A B
 have sN:∀n:Int,stT A B (.num n)=(n,n):=fun n=>rfl
 have wN:∀(n x y:Int),soW (.num n) x y=n:=fun n x y=>rfl
 have wO:∀(x y:Int),soW (.op w a b) x y=w.worth (soW a x y) (soW b x y):=fun x y=>rfl
 rcases ha with rfl | rfl | ⟨n,rfl,_⟩<;>rcases hb with rfl | rfl | ⟨m,rfl,_⟩
 ·rcases hne with z | ⟨n,z⟩
  ·exact absurd rfl z
  ·cases z
 ·rw [sA] at h1 h2; rw [sB] at h3 h4
  exact⟨x,y,⟨h1,h2⟩,⟨h3,h4⟩,by rw [wO,zdm,zfg]⟩
 ·rw [sA] at h1 h2; rw [sN] at h3 h4
  have:y=m:=by simp only at h3 h4; omega
  exact⟨x,B.1,⟨h1,h2⟩,eB,by rw [wO,zdm,wN,this]⟩
 ·rw [sB] at h1 h2; rw [sA] at h3 h4
  exact⟨y,x,⟨h3,h4⟩,⟨h1,h2⟩,by rw [wO,zdm,zfg]⟩
 ·rcases hne with z | ⟨n,z⟩
  ·exact absurd rfl z
  ·cases z
 ·rw [sB] at h1 h2; rw [sN] at h3 h4
  have:y=m:=by simp only at h3 h4; omega
  exact⟨A.1,x,eA,⟨h1,h2⟩,by rw [wO,zfg,wN,this]⟩
 ·rw [sA] at h3 h4; rw [sN] at h1 h2
  have:x=n:=by simp only at h1 h2; omega
  exact⟨y,B.1,⟨h3,h4⟩,eB,by rw [wO,zdm,wN,this]⟩
 ·rw [sB] at h3 h4; rw [sN] at h1 h2
  have:x=n:=by simp only at h1 h2; omega
  exact⟨A.1,y,eA,⟨h3,h4⟩,by rw [wO,zfg,wN,this]⟩
 ·rw [sN] at h1 h2 h3 h4
  have:x=n:=by simp only at h1 h2; omega
  have:y=m:=by simp only at h3 h4; omega
  exact⟨A.1,B.1,eA,eB,by rw [wO,wN,wN]; congr 1<;>omega⟩
theorem zu0{A B:Int×Int}{t:T}(h:z4w t){x y:Int}(hx:In2 A x)(hy:In2 B y):(stT A B t).1<=soW t x y/\soW t x y<=(stT A B t).2:=by
 rcases h with rfl | rfl | ⟨n,rfl,_⟩
 ·rw [zdm,stA]; exact hx
 ·rw [zfg,stB]; exact hy
 ·exact⟨Int.le_refl _,Int.le_refl _⟩
theorem zdg{A B:Int×Int}(hA:ok48 A)(hB:ok48 B){t:T}(ht:Ask t)(so:Bool)(p:Pth)(ns:Nts) :
  (if so=true then !z6m (shS (bk2 A B) t p ns).1 (some (0,0)) else z6m (some (0,0)) (shS (bk2 A B) t p ns).1)=true↔∃x y,In2 A x/\In2 B y/\Fit t so x y:=by
 obtain⟨w,a,b,rfl,hw,ha,hb,hne⟩:=ht
 obtain⟨lo,hi,e,hS,h0,h1,h2⟩:=zya hA hB hw ha hb p ns
 rw [e]
 have hquo:w=.quo->False:=fun z=>by rcases hw with rfl | rfl<;>cases z
 have toVal:∀x y,In2 A x->In2 B y->lo<=soW (.op w a b) x y/\soW (.op w a b) x y<=hi:=fun x y hx hy=>by
  have l1:=zu0 ha hx hy
  have l2:=zu0 hb hx hy
  exact hS.2.2.1 _ ⟨soW a x y,soW b x y,l1.1,l1.2,l2.1,l2.2,fun z=>(hquo z).elim,rfl⟩
 have fitI:∀x y,Fit (.op w a b) so x y↔soW (.op w a b) x y=(if so=true then 1 else 0):=fun x y=>by
  have:=zcl hw (soW a x y) (soW b x y)
  have this:soW (.op w a b) x y=0\/soW (.op w a b) x y=1:=this
  unfold Fit
  cases so<;>rcases this with z | z<;>rw [z]<;>simp
 cases so with
 | true=>
  have e1:(!z6m (some (lo,hi)) (some (0,0)))=true↔hi=1:=by
   have hm:zdo (some (lo,hi)) (some (0,0))=bet lo (mn hi 0):=by
    show bet (mx lo 0) (mn hi 0)=_
    rw [show mx lo 0=lo by unfold mx; split<;>omega]
   unfold z6m
   rw [hm]
   by_cases z:hi=1
   ·subst z
    rw [show mn 1 0=0 by unfold mn; rw [if_pos (by omega)]]
    unfold bet
    by_cases z2:lo > 0
    ·rw [if_pos z2]; simp
    ·rw [if_neg z2]; simp
   ·have:hi=0:=by omega
    subst this
    have:lo=0:=by omega
    subst this
    simp[bet,mn]
  rw [if_pos rfl,e1]
  constructor
  ·intro z
   subst z
   obtain⟨x,y,hx,hy,hv⟩:=zqh hA hB ha hb hne hS.2.1
   exact⟨x,y,hx,hy,(fitI x y).mpr (by rw [hv]; rfl)⟩
  ·rintro⟨x,y,hx,hy,hf⟩
   have:=(fitI x y).mp hf
   have l:=toVal x y hx hy
   rw [this,if_pos rfl] at l
   omega
 | false=>
  have e1:z6m (some (0,0)) (some (lo,hi))=true↔lo=0:=by
   have hm:zdo (some (0,0)) (some (lo,hi))=bet lo 0:=by
    show bet (mx 0 lo) (mn 0 hi)=_
    rw [show mx 0 lo=lo by unfold mx; split<;>omega,show mn 0 hi=0 by unfold mn; split<;>omega]
   unfold z6m
   rw [hm]
   by_cases z:lo=0
   ·subst z; simp[bet]
   ·have:lo=1:=by omega
    subst this
    simp[bet]
  rw [if_neg (by simp),e1]
  constructor
  ·intro z
   subst z
   obtain⟨x,y,hx,hy,hv⟩:=zqh hA hB ha hb hne hS.1
   exact⟨x,y,hx,hy,(fitI x y).mpr (by rw [hv]; rfl)⟩
  ·rintro⟨x,y,hx,hy,hf⟩
   have:=(fitI x y).mp hf
   have l:=toVal x y hx hy
   rw [this,if_neg (by simp)] at l
   omega
def Ft(A B:Int×Int)(t:T)(so:Bool)(x y:Int):Prop:=In2 A x/\In2 B y/\Fit t so x y
structure Exact(Pf:Int->Prop)(O:Int×Int):Prop where
 lo:Pf O.1
 hi:Pf O.2
 all:∀x,Pf x->In2 O x
def zf9(A B:Int×Int)(t:T)(so:Bool)(o:Option Sd2):Prop:=match o with
 | none=>∀x y,¬ Ft A B t so x y
 | some q=>Exact (fun x=>∃y,Ft A B t so x y) q.1/\Exact (fun y=>∃x,Ft A B t so x y) q.2
theorem zit{t:T}(h:z4w t) (hn:("a" : Str)∉nms t) (x x' y:Int):soW t x y=soW t x' y:=by
 rcases h with rfl | rfl | ⟨n,rfl,_⟩
 ·exact absurd (List.mem_singleton.mpr rfl) hn
 ·rw [zfg,zfg]
 ·rfl
theorem zis{t:T}(h:z4w t) (hn:("b" : Str)∉nms t) (x y y':Int):soW t x y=soW t x y':=by
 rcases h with rfl | rfl | ⟨n,rfl,_⟩
 ·rw [zdm,zdm]
 ·exact absurd (List.mem_singleton.mpr rfl) hn
 ·rfl
theorem zns{A B:Int×Int}(hA:ok48 A)(hB:ok48 B){t:T}(ht:Ask t)(so:Bool)(p:Pth)(ns:Nts):∃o:Option Sd2,z5s bhd t (shS (bk2 A B) t p ns).1 (bk2 A B) so=(o.map fun q=>bk2 q.1 q.2)/\inS o/\zf9 A B t so o:=by
 have cb:=zdg hA hB ht so p ns
 obtain⟨w,a,b,rfl,hw,ha,hb,hne⟩:=ht
 have told:=ztu (t:=.op w a b) (.inr ⟨w,a,b,rfl,hw,ha,hb⟩) hA.2.1 hB.2.1 so
 unfold z5s
 by_cases hc:(if so=true then !z6m (shS (bk2 A B) (.op w a b) p ns).1 (some (0,0)) else z6m (some (0,0)) (shS (bk2 A B) (.op w a b) p ns).1)=true
 ·rw [if_pos hc]
  obtain⟨x0,y0,hx0,hy0,hf0⟩:=cb.mp hc
  cases hbh:bhd (.op w a b) (bk2 A B) so with
  | none=>
   rw [hbh] at told
   exact absurd hf0 (told x0 y0 hx0 hy0)
  | some bk'=>
   rw [hbh] at told
   obtain⟨A',B',rfl,sa,sb⟩:=told
   have hnn:∀z:Str,z∈nms (.op w a b)->Alone (.op w a b):=fun z hz=>by
    rcases hne with h | ⟨n,rfl⟩
    ·exact h
    ·intro e
     subst e
     cases hz
   have xa:Exact (fun x=>∃y,Ft A B (.op w a b) so x y) A':=by
    by_cases hz:("a" : Str)∈nms (.op w a b)
    ·obtain⟨e1,e2⟩:=sa.ends hz (hnn _ hz)
     exact⟨e1,e2,sa.all⟩
    ·have e:=sa.same hz
     have hz':("a" : Str)∉nms a/\("a" : Str)∉nms b:=⟨fun z=>hz (List.mem_append_left _ z),fun z=>hz (List.mem_append_right _ z)⟩
     have mv:∀x,In2 A x->∃y,Ft A B (.op w a b) so x y:=fun x hx=>⟨y0,hx,hy0,by
      unfold Fit at hf0 |-
      rw [<- hf0]
      show decide (w.worth (soW a x y0) (soW b x y0)≠0)=decide (w.worth (soW a x0 y0) (soW b x0 y0)≠0)
      rw [zit ha hz'.1 x x0,zit hb hz'.2 x x0]⟩
     subst e
     exact⟨mv _ ⟨Int.le_refl _,hA.2.1⟩,mv _ ⟨hA.2.1,Int.le_refl _⟩,sa.all⟩
   have xb:Exact (fun y=>∃x,Ft A B (.op w a b) so x y) B':=by
    by_cases hz:("b" : Str)∈nms (.op w a b)
    ·obtain⟨e1,e2⟩:=sb.ends hz (hnn _ hz)
     exact⟨e1,e2,sb.all⟩
    ·have e:=sb.same hz
     have hz':("b" : Str)∉nms a/\("b" : Str)∉nms b:=⟨fun z=>hz (List.mem_append_left _ z),fun z=>hz (List.mem_append_right _ z)⟩
     have mv:∀y,In2 B y->∃x,Ft A B (.op w a b) so x y:=fun y hy=>⟨x0,hx0,hy,by
      unfold Fit at hf0 |-
      rw [<- hf0]
      show decide (w.worth (soW a x0 y) (soW b x0 y)≠0)=decide (w.worth (soW a x0 y0) (soW b x0 y0)≠0)
      rw [zis ha hz'.1 x0 y y0,zis hb hz'.2 x0 y y0]⟩
     subst e
     exact⟨mv _ ⟨Int.le_refl _,hB.2.1⟩,mv _ ⟨hB.2.1,Int.le_refl _⟩,sb.all⟩
   refine⟨some (A',B'),rfl,fun q e=>?_,xa,xb⟩
   cases e
   obtain⟨ya,u1,_,_⟩:=xa.lo
   obtain⟨yb,u2,_,_⟩:=xa.hi
   obtain⟨yc,_,u3,_⟩:=xb.lo
   obtain⟨yd,_,u4,_⟩:=xb.hi
   have l1:=sa.le
   have l2:=sb.le
   unfold ok48 at hA hB
   unfold In2 at u1 u2 u3 u4
   exact⟨⟨by simp only; omega,l1,by simp only; omega⟩,⟨by simp only; omega,l2,by simp only; omega⟩⟩
 ·rw [if_neg hc]
  exact⟨none,rfl,fun q e=>(by cases e),fun x y h=>hc (cb.mpr ⟨x,y,h⟩)⟩
theorem zln(t:T)(x y:Int):Fit t true x y\/Fit t false x y:=by
 unfold Fit
 cases decide (soW t x y≠0)<;>simp
theorem zlp{Pf:Int->Prop}{O A:Int×Int}(h:Exact Pf O)(hp:∀x,Pf x->In2 A x):A.1<=O.1/\O.1<=O.2/\O.2<=A.2:=by
 have h1:=hp _ h.lo
 have h2:=hp _ h.hi
 have h3:=h.all _ h.lo
 exact⟨h1.1,h3.2,h2.2⟩
theorem zob{A q r:Int×Int}(hq:A.1<=q.1/\q.2<=A.2)(hr:A.1<=r.1/\r.2<=A.2)(h1:In2 q A.1\/In2 r A.1)(h2:In2 q A.2\/In2 r A.2):jn q r=A:=by
 obtain⟨a,b⟩:=A
 unfold jn mn mx
 unfold In2 at h1 h2
 simp only at *
 congr 1
 ·split<;>omega
 ·split<;>omega
theorem zlo{A B:Int×Int}(hA:ok48 A)(hB:ok48 B){t:T}{o1 o2:Option Sd2}(h1:zf9 A B t true o1)(h2:zf9 A B t false o2):(o1≠none\/o2≠none)/\zw7 o1 o2=(A,B):=by
 have aA:In2 A A.1/\In2 A A.2:=⟨⟨Int.le_refl _,hA.2.1⟩,⟨hA.2.1,Int.le_refl _⟩⟩
 have aB:In2 B B.1/\In2 B B.2:=⟨⟨Int.le_refl _,hB.2.1⟩,⟨hB.2.1,Int.le_refl _⟩⟩
 match o1,o2,h1,h2 with
 | none,none,h1,h2=>
  rcases zln t A.1 B.1 with f | f
  ·exact absurd ⟨aA.1,aB.1,f⟩ (h1 _ _)
  ·exact absurd ⟨aA.1,aB.1,f⟩ (h2 _ _)
 | some q,none,⟨x1,x2⟩,h2=>
  have f:∀x y,In2 A x->In2 B y->Ft A B t true x y:=fun x y hx hy=>by
   rcases zln t x y with f | f
   ·exact⟨hx,hy,f⟩
   ·exact absurd ⟨hx,hy,f⟩ (h2 _ _)
  have i1:=zlp x1 (A:=A) fun x h=>by obtain⟨y,h⟩:=h; exact h.1
  have i2:=zlp x2 (A:=B) fun y h=>by obtain⟨x,h⟩:=h; exact h.2.1
  have k1:=x1.all A.1 ⟨B.1,f _ _ aA.1 aB.1⟩
  have k2:=x1.all A.2 ⟨B.1,f _ _ aA.2 aB.1⟩
  have k3:=x2.all B.1 ⟨A.1,f _ _ aA.1 aB.1⟩
  have k4:=x2.all B.2 ⟨A.1,f _ _ aA.1 aB.2⟩
  refine⟨.inl (by simp),?_⟩
  show q=(A,B)
  obtain⟨⟨q1,q2⟩,⟨q3,q4⟩⟩:=q
  obtain⟨a1,a2⟩:=A
  obtain⟨b1,b2⟩:=B
  unfold In2 at k1 k2 k3 k4
  simp only at *
  rw [show q1=a1 by omega,show q2=a2 by omega,show q3=b1 by omega,show q4=b2 by omega]
 | none,some q,h2,⟨x1,x2⟩=>
  have f:∀x y,In2 A x->In2 B y->Ft A B t false x y:=fun x y hx hy=>by
   rcases zln t x y with f | f
   ·exact absurd ⟨hx,hy,f⟩ (h2 _ _)
   ·exact⟨hx,hy,f⟩
  have i1:=zlp x1 (A:=A) fun x h=>by obtain⟨y,h⟩:=h; exact h.1
  have i2:=zlp x2 (A:=B) fun y h=>by obtain⟨x,h⟩:=h; exact h.2.1
  have k1:=x1.all A.1 ⟨B.1,f _ _ aA.1 aB.1⟩
  have k2:=x1.all A.2 ⟨B.1,f _ _ aA.2 aB.1⟩
  have k3:=x2.all B.1 ⟨A.1,f _ _ aA.1 aB.1⟩
  have k4:=x2.all B.2 ⟨A.1,f _ _ aA.1 aB.2⟩
  refine⟨.inr (by simp),?_⟩
  show q=(A,B)
  obtain⟨⟨q1,q2⟩,⟨q3,q4⟩⟩:=q
  obtain⟨a1,a2⟩:=A
  obtain⟨b1,b2⟩:=B
  unfold In2 at k1 k2 k3 k4
  simp only at *
  rw [show q1=a1 by omega,show q2=a2 by omega,show q3=b1 by omega,show q4=b2 by omega]
 | some q,some r,⟨x1,x2⟩,⟨y1,y2⟩=>
  have i1:=zlp x1 (A:=A) fun x h=>by obtain⟨y,h⟩:=h; exact h.1
  have i2:=zlp x2 (A:=B) fun y h=>by obtain⟨x,h⟩:=h; exact h.2.1
  have j1:=zlp y1 (A:=A) fun x h=>by obtain⟨y,h⟩:=h; exact h.1
  have j2:=zlp y2 (A:=B) fun y h=>by obtain⟨x,h⟩:=h; exact h.2.1
  have wh:∀x y,In2 A x->In2 B y->(In2 q.1 x/\In2 q.2 y)\/(In2 r.1 x/\In2 r.2 y):=fun x y hx hy=>by
   rcases zln t x y with f | f
   ·exact .inl ⟨x1.all x ⟨y,hx,hy,f⟩,x2.all y ⟨x,hx,hy,f⟩⟩
   ·exact .inr ⟨y1.all x ⟨y,hx,hy,f⟩,y2.all y ⟨x,hx,hy,f⟩⟩
  refine⟨.inl (by simp),?_⟩
  show(jn q.1 r.1,jn q.2 r.2)=(A,B)
  rw [zob ⟨i1.1,i1.2.2⟩ ⟨j1.1,j1.2.2⟩ ((wh A.1 B.1 aA.1 aB.1).imp (·.1) (·.1)) ((wh A.2 B.1 aA.2 aB.1).imp (·.1) (·.1)),
   zob ⟨i2.1,i2.2.2⟩ ⟨j2.1,j2.2.2⟩ ((wh A.1 B.1 aA.1 aB.1).imp (·.2) (·.2)) ((wh A.1 B.2 aA.1 aB.2).imp (·.2) (·.2))]
theorem q1f{A B:Int×Int}(hA:ok48 A)(hB:ok48 B){t:T}(ht:Ask t):∃o1 o2:Option Sd2,zf9 A B t true o1/\zf9 A B t false o2/\
  z1j (notesB bhd [("a",A),("b",B)] (z5o t)) [0,1,0,0]=o1.map (·.1)/\z1j (notesB bhd [("a",A),("b",B)] (z5o t)) [0,1,1,0]=o1.map (·.2)/\
  z1j (notesB bhd [("a",A),("b",B)] (z5o t)) [0,2,0,0]=o2.map (·.1)/\z1j (notesB bhd [("a",A),("b",B)] (z5o t)) [0,2,1,0]=o2.map (·.2)/\
  z1j (notesB bhd [("a",A),("b",B)] (z5o t)) [1,0]=some A/\z1j (notesB bhd [("a",A),("b",B)] (z5o t)) [2,0]=some B/\z1j (notesB bhd [("a",A),("b",B)] (z5o t)) [3,0]=some A:=by
 obtain⟨o1,e1,i1,s1⟩:=zns hA hB ht true [0,0] []
 obtain⟨o2,e2,i2,s2⟩:=zns hA hB ht false [0,0] []
 obtain⟨hs,hf⟩:=zlo hA hB s1 s2
 refine⟨o1,o2,s1,s2,?_⟩
 rw [zs1 e1 e2 i1 i2 hs,hf]
 have out:∀q:Pth,¬ ([0,0]:Pth) <+: q->z1j (shS (bk2 A B) t [0,0] []).2 q=none:=fun q h=>zmj (bk2 A B) t [0,0] [] q h
 have q1:=out [0,1,0,0] (by decide)
 have q2:=out [0,1,1,0] (by decide)
 have q3:=out [0,2,0,0] (by decide)
 have q4:=out [0,2,1,0] (by decide)
 generalize (shS (bk2 A B) t [0,0] []).2=ns at q1 q2 q3 q4
 cases o1<;>cases o2<;>simp[zyc,zj2,q1,q2,q3,q4]
section
variable{P:Program}{w:World}{K:PySem.W.Frag}{mg:Str->Option Value}{base:Heap}{f:Addr}{fd:FuncData}
def zqz(K:PySem.W.Frag):Sp:=fun vs H Q _=>∃(a:Addr) (ns:List Int) (k:Int),vs=[.ref a,.int k]/\SqL K H a (ns.map V.int)/\0<=k/\∀(r:V) (H':Hp) (t:T),Same H H'->Dt H' r t.enc->z4w t->Q r H'
theorem zmq(F:Fun K "_law_side" "_law_side" z3p f fd) (c_law_pick:Callee P w K mg base "_law_pick" ["_law_script","_law_k","_law_many"] 2 (zqw K)):FnOk P w K mg base CX0 3 f fd ["_law_script","_law_at"] (zqz K):=by
 refine F.ok zml (fun vs H Q E h=>?_) (fun cdv A outer s H vs Q E hr h=>?_)
 ·obtain⟨a,ns,k,rfl,_⟩:=h
  rfl
 obtain⟨a,ns,k,rfl,hS,h0,q⟩:=h
 refine⟨_,(z02 (z1h (z0c zzw (z0w c_law_pick hr (by omega) (z08 (z00 (i:=0) rfl z34 z0z z10) (z08 (z00 (i:=1) rfl z4g zev zey) (z08 z03 z01))) z43 z4z) z03 (z0f _)) (z05 (z0b (z0y (z08 z0p (z08 (z0e z3i (z9s (z08 z0p (z08 z0p z01))) (z0w c_law_pick hr (by omega) (z08 (z00 (i:=0) rfl z34 z0z z10) (z08 (z28 z64 (z00 (i:=1) rfl z4g zev zey) z03) (z08 z03 z01))) z43 z4z) (fun _ _=>rfl)) z01))))) z0d)
 (z05 (z0b (z0y (z08 z0p (z08 (z28 zgp (z0w c_law_pick hr (by omega) (z08 (z00 (i:=0) rfl z34 z0z z10) (z08 (z28 z64 (z00 (i:=1) rfl z4g zev zey) z03) (z08 z03 z01))) z43 z4z) z03) z01)))))),?_⟩
 walk_at "rx"
 refine⟨a,ns,k,3,rfl,hS,h0,by decide,fun i H1 i0 i1 s1=>?_⟩
 walk_at "rx"
 split
 ·refine⟨zl 2 (by decide),fun p hp=>?_⟩
  have s2:=z07 hp (HO.lst [V.str "a",V.str "b"])
  have e2:upd H1 p (HO.lst [V.str "a",V.str "b"]) p=_:=z04
  generalize upd H1 p (HO.lst [V.str "a",V.str "b"])=U at s2 e2 |-
  refine⟨a,ns,_,2,rfl,(s1.trans s2).seq hS,by omega,by decide,fun j H3 j0 j1 s3=>?_⟩
  obtain⟨x,hx,e⟩:=zke (c:=V.str) (ns:=["a","b"]) (k:=j) j0 j1
  refine⟨_,_,rfl,SqL.of (s3 _ _ e2),_,e,zl 2 (by decide),fun p2 hp2=>?_⟩
  refine q _ _ (.nm x) (s1.trans (s2.trans (s3.trans (z07 hp2 _)))) (.tup z04 (.cons (.str _) (.cons (.str _) .nil))) ?_
  simp only[List.mem_cons,List.not_mem_nil,or_false] at hx
  rcases hx with rfl | rfl
  ·exact .inl rfl
  ·exact .inr (.inl rfl)
 ·refine⟨a,ns,_,9,rfl,s1.seq hS,by omega,by decide,fun j H3 j0 j1 s3=>?_⟩
  walk_at "rx"
  refine⟨zl 2 (by decide),fun p2 hp2=>?_⟩
  exact q _ _ (.num (j - 4)) (s1.trans (s3.trans (z07 hp2 _))) (.tup z04 (.cons (.str _) (.cons (.int _) .nil))) (.inr (.inr ⟨_,rfl,by omega,by omega⟩))
def zzc:Sp:=fun vs H Q _=>∃(v:V) (t:T) (x y:Int),vs=[v,.int x,.int y]/\Dt H v t.enc/\z4w t/\Q (.int (soW t x y)) H
theorem zrw(F:Fun K "_law_of" "_law_of" z5z f fd):FnOk P w K mg base CX0 1 f fd ["_law_side_here","_law_a","_law_b"] zzc:=by
 refine F.ok zr8 (fun vs H Q E h=>?_) (fun cdv A outer s H vs Q E hr h=>?_)
 ·obtain⟨v,t,x,y,rfl,_⟩:=h
  rfl
 obtain⟨v,t,x,y,rfl,hv,ht,q⟩:=h
 refine⟨_,(z02 (z1h (z0c (gEq hr.units) (z0e z0a (z00 (i:=0) rfl z2x z5v z5x) z03 (fun _ _=>rfl)) z0p (z0f _)) (z05 (z0b (z0e z0a (z00 (i:=0) rfl z2x z5v z5x) z03 (fun _ _=>rfl)))) z0d)
 (z05 (z0b (z72 (z0c (gEq hr.units) (z0e z0a (z00 (i:=0) rfl z2x z5v z5x) z03 (fun _ _=>rfl)) z0p (z0f _)) (z00 (i:=1) rfl zdr zda zdf) (z00 (i:=2) rfl zdq zd9 zde))))),?_⟩
 rcases ht with rfl | rfl | ⟨n,rfl,_⟩
 ·obtain⟨pv,xs,rfl,hpv,da⟩:=hv.tupI
  rcases da with _ | ⟨d1,_ | ⟨d2,_ | _⟩⟩
  cases d1; cases d2
  rw [zdm] at q
  walk_at "rx"
  refine⟨_,SqT.of hpv,_,rfl,_,.inl ⟨rfl,rfl⟩,?_⟩
  rw [if_neg (by decide+kernel)]
  refine⟨_,SqT.of hpv,_,rfl,_,.inl ⟨rfl,rfl⟩,?_⟩
  rw [if_pos (by decide+kernel)]
  exact q
 ·obtain⟨pv,xs,rfl,hpv,da⟩:=hv.tupI
  rcases da with _ | ⟨d1,_ | ⟨d2,_ | _⟩⟩
  cases d1; cases d2
  rw [zfg] at q
  walk_at "rx"
  refine⟨_,SqT.of hpv,_,rfl,_,.inl ⟨rfl,rfl⟩,?_⟩
  rw [if_neg (by decide+kernel)]
  refine⟨_,SqT.of hpv,_,rfl,_,.inl ⟨rfl,rfl⟩,?_⟩
  rw [if_neg (by decide+kernel)]
  exact q
 ·obtain⟨pv,xs,rfl,hpv,da⟩:=hv.tupI
  rcases da with _ | ⟨d1,_ | ⟨d2,_ | _⟩⟩
  cases d1; cases d2
  walk_at "rx"
  refine⟨_,SqT.of hpv,_,rfl,_,.inl ⟨rfl,rfl⟩,?_⟩
  rw [if_pos (by decide+kernel)]
  exact⟨_,SqT.of hpv,_,rfl,q⟩
theorem zwu(x:Str)(d:Dm)(hx:PyData.strOk x=true)(hd:d.shut=true)(h1:d.dat.canLay0=true)(h2:d.dat.depth=0):(Dm.tup [.str x,d]).shut=true/\SeqAt.shaped (Dm.tup [.str x,d]).dat=true:=by
 refine⟨by simp[Dm.shut,zgf,hd,hx],?_⟩
 simp[SeqAt.shaped,Dm.dat,zfx,PyData.canLay0,PyData.canLayAll0,PyData.depth,PyData.depthAll,hx,h1,h2]
theorem zkq{t:T}(h:z4w t):t.enc.shut=true/\SeqAt.shaped t.enc.dat=true:=by
 rcases h with rfl | rfl | ⟨n,rfl,_⟩
 ·exact zwu _ _ (by decide+kernel) (by simp only[Dm.shut]; decide+kernel) (by simp only[Dm.dat,PyData.canLay0]; decide+kernel) (by simp only[Dm.dat,PyData.depth])
 ·exact zwu _ _ (by decide+kernel) (by simp only[Dm.shut]; decide+kernel) (by simp only[Dm.dat,PyData.canLay0]; decide+kernel) (by simp only[Dm.dat,PyData.depth])
 ·exact zwu _ _ (by decide+kernel) (by simp[Dm.shut]) (by simp only[Dm.dat,PyData.canLay0]) (by simp only[Dm.dat,PyData.depth])
theorem q0g{H:Hp}{x y:V}{ta tb:T}(h:Dt H x ta.enc)(k:Dt H y tb.enc)(ha:z4w ta)(hb:z4w tb):EqD H x y (PyData.eqv ta.enc.dat tb.enc.dat):=
 ⟨_,_,h,k,zkq ha,zkq hb,rfl⟩
theorem zn3{t:T}(h:z4w t):PyData.eqv t.enc.dat t.enc.dat=true:=by
 rcases h with rfl | rfl | ⟨n,rfl,_⟩<;>simp[T.enc,Dm.dat,zfx,PyData.eqv,PyData.eqvAll]
theorem mkT{H:Hp}{p:Addr}{xs:List V}{ds:List Dm}(h:H p=none)(d:DtA H xs ds):Same H (upd H p (.tup xs))/\Dt (upd H p (.tup xs)) (.ref p) (.tup ds):=
 ⟨z07 h _,.tup z04 (DtA.kp (z07 h _).kp d)⟩
end
section
variable{P:Program}{w:World}{K:PySem.W.Frag}{mg:Str->Option Value}{base:Heap}{f:Addr}{fd:FuncData}
def zqd(p:Int×Int):Dm:=.tup [.int p.1,.int p.2]
def inF(t:T)(so:Bool)(A B:Int×Int)(i:Nat)(x y:Int):Prop:=A.1<=x/\x < A.1+(i:Int)/\In2 B y/\Fit t so x y
def inG(t:T)(so:Bool)(A B:Int×Int)(i j:Nat)(x y:Int):Prop:=(A.1<=x/\x < A.1+(i:Int)/\In2 B y/\Fit t so x y)\/(x=A.1+(i:Int)/\B.1<=y/\y < B.1+(j:Int)/\Fit t so x y)
theorem zuo{t:T}{so:Bool}{A B:Int×Int}(x y:Int):(x,y)∈([]:List (Int×Int))↔inF t so A B 0 x y:=⟨fun h=>(by cases h),fun h=>(by have:=h.1; have:=h.2.1; omega)⟩
theorem zlb{t:T}{so:Bool}{A B:Int×Int}{prs:List (Int×Int)}{i:Nat}(h:∀x y,(x,y)∈prs↔inF t so A B i x y)(x y:Int):(x,y)∈prs↔inG t so A B i 0 x y:=by
 rw [h x y]
 exact⟨.inl,fun z=>z.elim id fun z=>by have:=z.2.1; have:=z.2.2.1; omega⟩
theorem zo4{t:T}{so:Bool}{A B:Int×Int}{prs:List (Int×Int)}{i j:Nat}(h:∀x y,(x,y)∈prs↔inG t so A B i j x y)(hf:Fit t so (A.1+(i:Int)) (B.1+(j:Int)))(x y:Int):(x,y)∈prs++[(A.1+(i:Int),B.1+(j:Int))]↔inG t so A B i (j+1) x y:=by
 rw [List.mem_append,h x y]
 constructor
 ·rintro((z | z) | z)
  ·exact .inl z
  ·exact .inr ⟨z.1,z.2.1,by have:=z.2.2.1; omega,z.2.2.2⟩
  ·obtain⟨rfl,rfl⟩:x=A.1+(i:Int)/\y=B.1+(j:Int):=by simpa using z
   exact .inr ⟨rfl,by omega,by omega,hf⟩
 ·rintro(z | ⟨z1,z2,z3,z4⟩)
  ·exact .inl (.inl z)
  ·by_cases hy:y < B.1+(j:Int)
   ·exact .inl (.inr ⟨z1,z2,hy,z4⟩)
   ·obtain rfl:y=B.1+(j:Int):=by omega
    subst z1
    exact .inr (by simp)
theorem zo3{t:T}{so:Bool}{A B:Int×Int}{prs:List (Int×Int)}{i j:Nat}(h:∀x y,(x,y)∈prs↔inG t so A B i j x y)(hf:¬ Fit t so (A.1+(i:Int)) (B.1+(j:Int)))(x y:Int):(x,y)∈prs↔inG t so A B i (j+1) x y:=by
 rw [h x y]
 constructor
 ·rintro(z | z)
  ·exact .inl z
  ·exact .inr ⟨z.1,z.2.1,by have:=z.2.2.1; omega,z.2.2.2⟩
 ·rintro(z | ⟨z1,z2,z3,z4⟩)
  ·exact .inl z
  ·by_cases hy:y < B.1+(j:Int)
   ·exact .inr ⟨z1,z2,hy,z4⟩
   ·obtain rfl:y=B.1+(j:Int):=by omega
    subst z1
    exact absurd z4 hf
theorem zs4{t:T}{so:Bool}{A B:Int×Int}{prs:List (Int×Int)}{i:Nat}(hB:B.1<=B.2)(h:∀x y,(x,y)∈prs↔inG t so A B i (B.2+1 - B.1).toNat x y)(x y:Int):(x,y)∈prs↔inF t so A B (i+1) x y:=by
 rw [h x y]
 constructor
 ·rintro(z | z)
  ·exact⟨z.1,by have:=z.2.1; omega,z.2.2⟩
  ·exact⟨by have:=z.1; omega,by have:=z.1; omega,⟨z.2.1,by have:=z.2.2.1; omega⟩,z.2.2.2⟩
 ·rintro⟨z1,z2,z3,z4⟩
  by_cases hx:x < A.1+(i:Int)
  ·exact .inl ⟨z1,hx,z3,z4⟩
  ·exact .inr ⟨by omega,z3.1,by have:=z3.2; omega,z4⟩
theorem zla{t:T}{so:Bool}{A B:Int×Int}{prs:List (Int×Int)}(hA:A.1<=A.2)(h:∀x y,(x,y)∈prs↔inF t so A B (A.2+1 - A.1).toNat x y)(x y:Int):(x,y)∈prs↔(In2 A x/\In2 B y/\Fit t so x y):=by
 rw [h x y]
 constructor
 ·rintro⟨z1,z2,z3,z4⟩
  exact⟨⟨z1,by omega⟩,z3,z4⟩
 ·rintro⟨⟨z1,z2⟩,z3,z4⟩
  exact⟨z1,by omega,z3,z4⟩
theorem zxm{as:List (Addr×Int×Int)}{prs:List (Int×Int)}(e:prs=as.map (·.2)){R:Int->Int->Prop}(h:∀x y,(x,y)∈prs↔R x y)(x:Int):x∈as.map (fun q=>q.2.1)↔∃y,R x y:=by
 subst e
 exact⟨fun z=>by
  obtain⟨q,hq,rfl⟩:=List.mem_map.mp z
  exact⟨q.2.2,(h _ _).mp (List.mem_map.mpr ⟨q,hq,rfl⟩)⟩,fun⟨y,z⟩=>by
  obtain⟨q,hq,e⟩:=List.mem_map.mp ((h x y).mpr z)
  exact List.mem_map.mpr ⟨q,hq,by rw [e]⟩⟩
theorem zxl{as:List (Addr×Int×Int)}{prs:List (Int×Int)}(e:prs=as.map (·.2)){R:Int->Int->Prop}(h:∀x y,(x,y)∈prs↔R x y)(y:Int):y∈as.map (fun q=>q.2.2)↔∃x,R x y:=by
 subst e
 exact⟨fun z=>by
  obtain⟨q,hq,rfl⟩:=List.mem_map.mp z
  exact⟨q.2.1,(h _ _).mp (List.mem_map.mpr ⟨q,hq,rfl⟩)⟩,fun⟨x,z⟩=>by
  obtain⟨q,hq,e⟩:=List.mem_map.mp ((h x y).mpr z)
  exact List.mem_map.mpr ⟨q,hq,by rw [e]⟩⟩
def MInvG{α : Type}(H:Hp)(zaz:St)(ns:List α)(p : α->Bool)(f : α->V)(i:Nat)(ys:List V)(σ':St)(H':Hp):Prop:=Same H H'/\(∃t,σ'=t::zaz)/\ys=((ns.take i).filter p).map f
theorem MInvG.step{α : Type}{H:Hp}{zaz:St}{ns:List α}{c : α->V}{p : α->Bool}{f : α->V}{g:TG}{tt:TT}{te:TE}
  (hs:∀(n : α) (t:Option V) (H':Hp) (R1:V->St->Hp->Prop) (R0:St->Hp->Prop),n∈ns->Same H H'->(p n=true->∀t H4,Same H H4->R1 (f n) (t::zaz) H4)->(p n=false->∀t H3,Same H H3->R0 (t::zaz) H3)->
   g (c n) (t::zaz) H' fun σ2 H2=>tt σ2 H2 fun b H3=>if b=true then te σ2 H3 (fun v H4=>R1 v σ2 H4) else R0 σ2 H3)
  (i:Nat) (ys:List V) (v:V) (σ':St) (H':Hp) (hxi:(ns.map c)[i]?=some v) (h:MInvG H zaz ns p f i ys σ' H') :
  g v σ' H' fun σ2 H2=>tt σ2 H2 fun b H3=>if b=true then te σ2 H3 (fun v H4=>MInvG H zaz ns p f (i+1) (ys++[v]) σ2 H4) else MInvG H zaz ns p f (i+1) ys σ2 H3:=by
 obtain⟨s,⟨t,rfl⟩,rfl⟩:=h
 rw [List.getElem?_map] at hxi
 cases hr':ns[i]? with
 | none=>rw [hr'] at hxi; cases hxi
 | some x=>
  rw [hr'] at hxi
  have ev:c x=v:=by simpa using hxi
  subst ev
  have et:ns.take (i+1)=ns.take i++[x]:=by rw [List.take_add_one,hr']; rfl
  refine hs x t H' (fun v σ2 H4=>MInvG H zaz ns p f (i+1) (((ns.take i).filter p).map f++[v]) σ2 H4) (fun σ2 H3=>MInvG H zaz ns p f (i+1) (((ns.take i).filter p).map f) σ2 H3) (List.mem_of_getElem? hr') s (fun e t H4 s4=>⟨s4,⟨t,rfl⟩,?_⟩) (fun e t H3 s3=>⟨s3,⟨t,rfl⟩,?_⟩)
  ·rw [et,List.filter_append,List.map_append]
   simp[e]
  ·rw [et,List.filter_append,List.map_append]
   simp[e]
theorem MInvG.len{α : Type}{H:Hp}{zaz:St}{ns:List α}{p : α->Bool}{f : α->V}(i:Nat)(ys:List V)(σ':St)(H':Hp)(h:MInvG H zaz ns p f i ys σ' H'):ys.length<=i:=by
 obtain⟨_,_,rfl⟩:=h
 rw [List.length_map]
 exact Nat.le_trans (List.length_filter_le _ _) (by rw [List.length_take]; omega)
theorem zom{α : Type}{a:Addr}{ns:List α}{g:TG}{tt:TT}{te:TE}{H:Hp}{Q:VK}{t0:Option V}{zaz:St}(c : α->V)(p : α->Bool)(f : α->V)(hS:H a=some (.lst (ns.map c)))(hn:ns.length<=1000)
  (hs:∀(n : α) (t:Option V) (H':Hp) (R1:V->St->Hp->Prop) (R0:St->Hp->Prop),n∈ns->Same H H'->(p n=true->∀t H4,Same H H4->R1 (f n) (t::zaz) H4)->(p n=false->∀t H3,Same H H3->R0 (t::zaz) H3)->
   g (c n) (t::zaz) H' fun σ2 H2=>tt σ2 H2 fun b H3=>if b=true then te σ2 H3 (fun v H4=>R1 v σ2 H4) else R0 σ2 H3)
  (hd:∀(H':Hp) (l:Addr),Same H H'->H' l=none->Q (.ref l) (upd H' l (.lst ((ns.filter p).map f)))):zaw (Itl K a) g tt te Q (t0::zaz) H:=by
 refine zhu (K:=K) (a:=a) (xs:=ns.map c) (MInvG H zaz ns p f) ⟨Same.refl _,⟨_,rfl⟩,rfl⟩ (z2k (by rw [List.length_map]; exact hn)) MInvG.len ?_ (MInvG.step hs) ?_
 ·rintro i ys σ' H' _ ⟨s,_,_⟩
  exact SqL.of (s _ _ hS)
 ·rintro ys σ' H' ⟨s,_,rfl⟩ l hl
  have:=hd H' l s hl
  rw [List.length_map,List.take_length]
  exact this
theorem zjo{H:Hp}:∀{vs:List V} {prs:List (Int×Int)},DtA H vs (prs.map zqd)->∃as:List (Addr×Int×Int),vs=as.map (fun q=>V.ref q.1)/\prs=as.map (fun q=>q.2)/\∀q∈as,H q.1=some (.tup [.int q.2.1,.int q.2.2])
 | vs,[],h=>by cases h; exact⟨[],rfl,rfl,fun q hq=>by cases hq⟩
 | vs,(x,y)::prs,h=>by
  rw [List.map_cons] at h
  rcases h with _ | ⟨d1,d2⟩
  obtain⟨as,e1,e2,h3⟩:=zjo d2
  obtain⟨p,xs,rfl,hp,da⟩:=Dt.tupI d1
  rcases da with _ | ⟨d1,_ | ⟨d2,_ | _⟩⟩
  cases d1; cases d2
  refine⟨(p,x,y)::as,by rw [e1]; rfl,by rw [e2]; rfl,fun q hq=>?_⟩
  rcases List.mem_cons.mp hq with rfl | hq
  ·exact hp
  ·exact h3 q hq
theorem zo8(g:Pth->Int×Int)(q:Pth):∀ps:List Pth,z1j (ps.map fun p=>(p,g p)) q=if q∈ps then some (g q) else none
 | []=>rfl
 | p::r=>by
  rw [List.map_cons,z1j,zo8 g q r]
  by_cases h:p=q
  ·subst h
   rw [if_pos rfl,if_pos (List.mem_cons_self ..)]
  ·rw [if_neg h]
   by_cases h2:q∈r
   ·rw [if_pos h2,if_pos (List.mem_cons_of_mem _ h2)]
   ·rw [if_neg h2,if_neg]
    intro z
    rcases List.mem_cons.mp z with z | z
    ·exact h z.symm
    ·exact h2 z
theorem zgz:∀{ns:Nts} {p:Pth},p∉ns.map (·.1)->z1j ns p=none
 | [],_,_=>rfl
 | q::r,p,h=>by
  rw [z1j,if_neg (fun z=>h (by rw [List.map_cons,z]; exact List.mem_cons_self ..))]
  exact zgz fun z=>h (List.mem_cons_of_mem _ z)
def gN(ns:Nts)(p:Pth):Int×Int:=(z1j ns p).getD (0,0)
theorem zpu{ns:Nts}{ps:List Pth}(h:ps.Perm (ns.map (·.1)))(q:Pth):z1j (ps.map fun p=>(p,gN ns p)) q=z1j ns q:=by
 rw [zo8]
 by_cases hq:q∈ps
 ·rw [if_pos hq]
  obtain⟨s,e⟩:=zcm (h.mem_iff.mp hq)
  unfold gN
  rw [e]; rfl
 ·rw [if_neg hq,zgz (fun z=>hq (h.mem_iff.mpr z))]
theorem zx0{ns:Nts}{p:Pth}(h:p∈ns.map (·.1)):zzg ns p=.tup [zpi p,.int (gN ns p).1,.int (gN ns p).2]:=by
 obtain⟨s,e⟩:=zcm h
 unfold zzg gN
 rw [e]; rfl
def NE(ns:Nts):Prop:=∀q∈ns,q.1≠[]
theorem ze8{ns:Nts}{p:Pth}{s:Int×Int}(h:NE ns)(hp:p≠[]):NE (zci ns p s):=by
 unfold zci
 split
 ·intro q hq
  obtain⟨r,hr,rfl⟩:=List.mem_map.mp hq
  by_cases e:r.1=p
  ·rw [if_pos e]; exact h r hr
  ·rw [if_neg e]; exact h r hr
 ·intro q hq
  rcases List.mem_append.mp hq with z | z
  ·exact h q z
  ·rw [List.mem_singleton.mp z]; exact hp
theorem zms{ns:Nts}{p:Pth}{s:S}(h:NE ns)(hp:p≠[]):NE (zvz s p ns):=by
 cases s with
 | none=>exact h
 | some r=>exact ze8 h hp
theorem zr6(bk:Bk):∀(t:T) (p:Pth) (ns:Nts),p≠[]->NE ns->NE (shS bk t p ns).2
 | .num i,p,ns,hp,h=>by rw [shS]; exact zms (s:=some (i,i)) h hp
 | .nm x,p,ns,hp,h=>by rw [shS]; exact zms (s:=look bk x) h hp
 | .op w a b,p,ns,hp,h=>by
  have ha:=zr6 bk a (p++[0]) ns (by simp) h
  have hb:=zr6 bk b (p++[1]) (shS bk a (p++[0]) ns).2 (by simp) ha
  rw [shS]
  split
  ·exact ha
  ·exact zms hb hp
theorem ztn{k:Int}{o:Option Sd2}{ns:Nts}(h:NE ns):NE (zyc k o ns):=by
 cases o with
 | none=>exact h
 | some q=>exact ze8 (ze8 h (by simp)) (by simp)
theorem zuk{A B:Int×Int}(hA:ok48 A)(hB:ok48 B){t:T}(ht:Ask t):NE (notesB bhd [("a",A),("b",B)] (z5o t)):=by
 obtain⟨o1,e1,i1,s1⟩:=zns hA hB ht true [0,0] []
 obtain⟨o2,e2,i2,s2⟩:=zns hA hB ht false [0,0] []
 obtain⟨hs,hf⟩:=zlo hA hB s1 s2
 rw [zs1 e1 e2 i1 i2 hs]
 exact ze8 (ze8 (ze8 (ztn (ztn (zr6 _ _ _ _ (by simp) fun q h=>by cases h))) (by simp)) (by simp)) (by simp)
theorem ztj(bk:Bk)(t:T)(so:Bool)(b':Bk)(h:bhd t bk so=some b'):b'.length<=bk.length+2:=by
 have mp:∀(s:S) (bk:Bk) (x:Str) (b':Bk),s.map (z54 bk x)=some b'->b'.length<=bk.length+1:=fun s bk x b' h=>by
  cases s with
  | none=>cases h
  | some r=>
   have h:some (z54 bk x r)=some b':=h
   injection h with h
   rw [<- h]; exact zdk _ _ _
 cases t with
 | num i=>
  have h:some bk=some b':=h
  injection h with h
  rw [h]; omega
 | nm x=>
  have:=mp _ _ _ _ h
  omega
 | op w a b=>
  have h:bq w a b bk so=some b':=h
  unfold bq at h
  cases h1:z6b bk a with
  | none=>rw [h1] at h; cases h
  | some one=>
   cases h2:z6b bk b with
   | none=>rw [h1,h2] at h; cases h
   | some other=>
    rw [h1,h2] at h
    dsimp only at h
    cases h3:bq1 w a one other bk so with
    | none=>rw [h3] at h; cases h
    | some bk1=>
     rw [h3] at h
     dsimp only at h
     have l1:bk1.length<=bk.length+1:=by
      cases a with
      | nm x=>exact mp _ _ _ _ h3
      | num i=>cases h3; omega
      | op _ _ _=>cases h3; omega
     cases b with
     | nm y=>
      have h:(match look bk1 y with | some own=>(z12 w own one so).map (z54 bk1 y) | none=>none)=some b':=h
      cases h4:look bk1 y with
      | none=>rw [h4] at h; cases h
      | some own=>
       rw [h4] at h
       have:=mp _ _ _ _ h
       omega
     | num i=>cases h; omega
     | op _ _ _=>cases h; omega
theorem zhf:zez bhd:=fun t bk so b' h=>ztj bk t so b' h
theorem q0s{t:T}(h:Ask t):t.sz=3:=by
 obtain⟨w,a,b,rfl,_,ha,hb,_⟩:=h
 have e:∀s,z4w s->s.sz=1:=fun s hs=>by rcases hs with rfl | rfl | ⟨n,rfl,_⟩<;>rfl
 rw [T.sz,e a ha,e b hb]
theorem ztk{t:T}(h:Ask t):szB (z5o t)=40:=by
 have e1:szB z6v=9:=by unfold z6v; simp only[szB,D.sz,T.sz]
 have e2:szB zld=13:=by unfold zld; simp only[szB,D.sz,T.sz]
 unfold z5o
 rw [szB,D.sz,e1,e2,q0s h]
theorem zy9{t:T}(h:Ask t):isQ t/\T.dp 6 t:=by
 obtain⟨w,a,b,rfl,hw,ha,hb,_⟩:=h
 refine⟨⟨hw,?_,?_⟩,?_,?_⟩
 ·rcases ha with rfl | rfl | ⟨n,rfl,_⟩<;>trivial
 ·rcases hb with rfl | rfl | ⟨n,rfl,_⟩<;>trivial
 ·rcases ha with rfl | rfl | ⟨n,rfl,_⟩<;>trivial
 ·rcases hb with rfl | rfl | ⟨n,rfl,_⟩<;>trivial
theorem zy6{t:T}(h:Ask t)(rows:List Rw)(hr:rows.length=2):zdl isQ 2 rows (z5o t):=by
 obtain⟨q,d⟩:=zy9 h
 have hb:zts isQ 1 z6v:=by
  intro d hd
  simp only[z6v,List.mem_cons,List.not_mem_nil,or_false] at hd
  rcases hd with rfl | rfl<;>trivial
 refine⟨?_,by rw [ztk h]; omega,by decide⟩
 intro e he
 simp only[z5o,zld,List.mem_cons,List.not_mem_nil,or_false] at he
 rcases he with rfl | rfl | rfl | rfl
 ·exact⟨d,q,hb,hb⟩
 ·trivial
 ·trivial
 ·trivial
theorem zl7{A B:Int×Int}{t:T}(h:Ask t):(notesB bhd [("a",A),("b",B)] (z5o t)).length<=60:=by
 have:=(zg2 zhf (z5o t) [] 0 (some (zm7 [("a",A),("b",B)])) []).1
 rw [ztk h] at this
 unfold notesB
 simp only[List.length_nil] at this
 omega
def q0w(n:Nat)(d:Dm):Prop:=d.shut=true/\d.dat.canLay0=true/\d.dat.depth<=n
theorem zy0{n:Nat}:∀{ds:List Dm},(∀d∈ds,q0w n d)->zgf ds=true/\PyData.canLayAll0 (zfx ds)=true/\PyData.depthAll (zfx ds)<=n
 | [],_=>⟨by simp[zgf],by simp[zfx,PyData.canLayAll0],by simp[zfx,PyData.depthAll]⟩
 | d::ds,h=>by
  obtain⟨a,b,c⟩:=zy0 (ds:=ds) fun e he=>h e (.tail _ he)
  obtain⟨x,y,z⟩:=h d (.head _)
  refine⟨by simp[zgf,x,a],by simp[zfx,PyData.canLayAll0,y,b],?_⟩
  simp only[zfx,PyData.depthAll]
  omega
theorem zv1{n:Nat}{ds:List Dm}(h:∀d∈ds,q0w n d):q0w (n+1) (.tup ds):=by
 obtain⟨a,b,c⟩:=zy0 h
 exact⟨by simpa [Dm.shut] using a,by simpa [Dm.dat,PyData.canLay0] using b,by simp only[Dm.dat,PyData.depth]; omega⟩
theorem zv2(n:Nat)(i:Int):q0w n (.int i):=⟨by simp[Dm.shut],by simp[Dm.dat,PyData.canLay0],by simp[Dm.dat,PyData.depth]⟩
def FL(Hc:Hp)(f:Addr)(R:Int->Int->Prop)(m:Nat):Prop:=∃(vs:List V) (prs:List (Int×Int)),Hc f=some (.lst vs)/\DtA Hc vs (prs.map zqd)/\prs.length<=m/\∀x y,(x,y)∈prs↔R x y
theorem FL.same{H H':Hp}{f:Addr}{R:Int->Int->Prop}{m:Nat}(h:FL H f R m)(s:Same H H'):FL H' f R m:=by
 obtain⟨vs,prs,e,d,l,r⟩:=h
 exact⟨vs,prs,s _ _ e,DtA.kp s.kp d,l,r⟩
theorem FL.imp{H:Hp}{f:Addr}{R R':Int->Int->Prop}{m m':Nat}(h:FL H f R m)(hm:m<=m')(hr:∀prs:List (Int×Int),(∀x y,(x,y)∈prs↔R x y)->∀x y,(x,y)∈prs↔R' x y):FL H f R' m':=by
 obtain⟨vs,prs,e,d,l,r⟩:=h
 exact⟨vs,prs,e,d,by omega,hr prs r⟩
theorem FL.other{H:Hp}{f g:Addr}{R:Int->Int->Prop}{m:Nat}{ys zs:List V}(h:FL H f R m)(hg:H g=some (.lst ys))(n:f≠g):FL (upd H g (.lst zs)) f R m:=by
 obtain⟨vs,prs,e,d,l,r⟩:=h
 exact⟨vs,prs,by rw [z0s n]; exact e,DtA.kp (Kp.set hg) d,l,r⟩
theorem FL.more{H:Hp}{f p:Addr}{R R':Int->Int->Prop}{m:Nat}{vs:List V}{x0 y0:Int}(h:FL H f R m)(hv:H f=some (.lst vs))(hp:H p=some (.tup [.int x0,.int y0]))(hr:∀prs:List (Int×Int),(∀x y,(x,y)∈prs↔R x y)->∀x y,(x,y)∈prs++[(x0,y0)]↔R' x y):FL (upd H f (.lst (vs++[.ref p]))) f R' (m+1):=by
 obtain⟨vs',prs,e,d,l,r⟩:=h
 rw [hv] at e
 cases e
 refine⟨_,prs++[(x0,y0)],z04,?_,by rw [List.length_append]; simp only[List.length_singleton]; omega,hr prs r⟩
 rw [List.map_append]
 have e2:upd H f (.lst (vs++[.ref p])) p=some (.tup [.int x0,.int y0]):=by rw [z0s (zam hp hv (by intro z; cases z))]; exact hp
 exact DtA.append (DtA.kp (Kp.set hv) d) (.cons (.tup e2 (.cons (.int _) (.cons (.int _) .nil))) .nil)
theorem zw9{H:Hp}{fa p:Addr}{vs:List V}{prs:List (Int×Int)}(h:H fa=some (.lst vs))(d:DtA H vs (prs.map zqd))(hp:H p=some (.lst [])):q1y K H (.ref fa) (.ref p) (decide (prs=[])):=by
 have hf:∀e∈prs.map zqd,q0w 1 e:=fun e he=>by
  obtain⟨q,_,rfl⟩:=List.mem_map.mp he
  refine zv1 fun z hz=>?_
  simp only[List.mem_cons,List.not_mem_nil,or_false] at hz
  rcases hz with rfl | rfl<;>exact zv2 _ _
 obtain⟨f1,f2,f3⟩:=zy0 hf
 refine⟨fa,p,vs,[],prs.map zqd,[],rfl,rfl,SqL.of h,SqL.of hp,d,.nil,f1,rfl,?_,rfl,?_⟩
 ·unfold SeqAt.shaped
  rw [show(PyData.list (zfx (prs.map zqd))).canLay0=true from by simpa [PyData.canLay0] using f2,Bool.true_and,decide_eq_true_eq]
  have e:(PyData.list (zfx (prs.map zqd))).depth=PyData.depthAll (zfx (prs.map zqd))+1:=by simp only[PyData.depth]
  rw [e]
  omega
 ·cases prs with
  | nil=>rfl
  | cons q r=>rfl
theorem q1p{lb:Addr}{R:Int->Int->Prop}{m:Nat}{H:Hp}{Q:VK}{σ : St}(h:FL H lb R m)(hm:m<=900)(k:∀(H':Hp) (l:Addr) (ns:List Int),Same H H'->H' l=none->(∀x,x∈ns↔∃y,R x y)->Q (.ref l) (upd H' l (.lst (ns.map V.int)))) :
  zaw (Itl K lb) (zft 0) ztv (tOp (zjj K) (zqc 0) (tC (V.int 0))) Q (subσ [none] σ) H:=by
 obtain⟨vs,prs,e,d,l,r⟩:=h
 obtain⟨as,e1,e2,has⟩:=zjo d
 rw [e1] at e
 have hl:as.length<=1000:=by
  have:prs.length=as.length:=by rw [e2,List.length_map]
  omega
 refine zom (ns:=as) (fun q=>V.ref q.1) (fun _=>true) (fun q=>V.int q.2.1) e hl (fun n t H' R1 R0 hn s' r1 r0=>?_) fun H2 l2 s2 hl2=>?_
 ·walk_at "rx"
  exact⟨_,SqT.of (s' _ _ (has n hn)),_,rfl,r1 rfl _ _ s'⟩
 ·have:=k H2 l2 (as.map fun q=>q.2.1) s2 hl2 (zxm e2 r)
  rw [List.map_map] at this
  rw [List.filter_eq_self.mpr (fun _ _=>rfl)]
  exact this
theorem q2v{lb:Addr}{R:Int->Int->Prop}{m:Nat}{H:Hp}{Q:VK}{σ : St}(h:FL H lb R m)(hm:m<=900)(k:∀(H':Hp) (l:Addr) (ns:List Int),Same H H'->H' l=none->(∀y,y∈ns↔∃x,R x y)->Q (.ref l) (upd H' l (.lst (ns.map V.int)))) :
  zaw (Itl K lb) (zft 0) ztv (tOp (zjj K) (zqc 0) (tC (V.int 1))) Q (subσ [none] σ) H:=by
 obtain⟨vs,prs,e,d,l,r⟩:=h
 obtain⟨as,e1,e2,has⟩:=zjo d
 rw [e1] at e
 have hl:as.length<=1000:=by
  have:prs.length=as.length:=by rw [e2,List.length_map]
  omega
 refine zom (ns:=as) (fun q=>V.ref q.1) (fun _=>true) (fun q=>V.int q.2.2) e hl (fun n t H' R1 R0 hn s' r1 r0=>?_) fun H2 l2 s2 hl2=>?_
 ·walk_at "rx"
  exact⟨_,SqT.of (s' _ _ (has n hn)),_,rfl,r1 rfl _ _ s'⟩
 ·have:=k H2 l2 (as.map fun q=>q.2.2) s2 hl2 (zxl e2 r)
  rw [List.map_map] at this
  rw [List.filter_eq_self.mpr (fun _ _=>rfl)]
  exact this
theorem zsp{Pf:Int->Prop}{O:Int×Int}{ns:List Int}{m n:Int}(h:Exact Pf O)(hn:∀x,x∈ns↔Pf x)(m1:m∈ns)(m2:∀a∈ns,m<=a)(n1:n∈ns)(n2:∀a∈ns,a<=n):O=(m,n):=by
 obtain⟨u,v⟩:=O
 have a1:=h.all m ((hn m).mp m1)
 have a2:=h.all n ((hn n).mp n1)
 have a3:=m2 u ((hn u).mpr h.lo)
 have a4:=n2 v ((hn v).mpr h.hi)
 unfold In2 at a1 a2
 simp only at a1 a2
 rw [show u=m by omega,show v=n by omega]
theorem NtR.get{H:Hp}{nd b:Addr}{kvs:List (List Key×V)}{ns:Nts}{p:Pth}(e:H nd=some (.dT kvs))(r:NtR H kvs ns)(hb:H b=some (.tup (p.map V.int))):∃o,DGet H nd (.ref b) o/\o.isSome=(z1j ns p).isSome/\∀s,z1j ns p=some s->∃v,o=some v/\Dt H v (z67 (some s)):=by
 refine⟨_,DGet.t e (k:=zgo p) (by rw [zgn]; exact hb),?_⟩
 rcases r.look p with⟨z1,z2⟩ | ⟨s,v,z1,z2,d⟩
 ·rw [z1,z2]
  exact⟨rfl,fun s z=>by cases z⟩
 ·rw [z1,z2]
  exact⟨rfl,fun s' z=>by cases z; exact⟨v,rfl,d⟩⟩
end
section
variable{P:Program}{w:World}{K:PySem.W.Frag}{mg:Str->Option Value}{base:Heap}{f:Addr}{fd:FuncData}
theorem slK{X:Cx}{r:PySem.W.Frag->V->Option Int->Option Int->Hp->VK->Prop}{K:PySem.W.Frag}(h:SlR X (r X.K))(e:X.K=K):SlR X (r K):=e ▸ h
theorem z6j{a b:TS}{D:Ends}{σ : St}{H:Hp}(h:∀N:St->Hp->Prop,N=b D->a {D with nx:=N} σ H):zvm a b D σ H:=h _ rfl
def zty(K:PySem.W.Frag):Sp:=fun vs H Q _=>∃(a:Addr) (ns:List Int),vs=[.ref a]/\SqL K H a (ns.map V.int)/\ns.length<=63/\∀H',Q (.bl true) H'
theorem q2h{H:Hp}{p:Addr}{v:V}{n:Str}{A:Int×Int}{Q:VK}(hp:H p=some (.tup [.str n]))(dA:Dt H v (zqd A))(k:∀r H',Same H H'->Dt H' r (zrc (n,A))->Q r H'):zgj K (.ref p) v H Q:=by
 obtain⟨pv,xs,rfl,hpv,da⟩:=dA.tupI
 rcases da with _ | ⟨d1,_ | ⟨d2,_ | _⟩⟩
 cases d1; cases d2
 refine⟨p,pv,_,_,rfl,rfl,SqT.of hp,SqT.of hpv,zl 3 (by decide),fun z=>(by cases z),fun _ z=>(by cases z),fun _ _ c hc=>?_⟩
 exact k _ _ (z07 hc _) (.tup z04 (.cons (.str _) (.cons (.int _) (.cons (.int _) .nil))))
theorem q2w{H:Hp}{p q:Addr}{v:V}{d:Dm}{ds:List Dm}{Q:VK}(hp:H p=some (.tup [v]))(dv:Dt H v d)(dq:Dt H (.ref q) (.tup ds))(hne:ds≠[])(hl:ds.length<=900)(k:∀r H',Same H H'->Dt H' r (.tup (d::ds))->Q r H'):zgj K (.ref p) (.ref q) H Q:=by
 obtain⟨pv,xs,e,hpv,da⟩:=dq.tupI
 cases e
 have hx:xs.length=ds.length:=da.length
 refine⟨p,q,_,_,rfl,rfl,SqT.of hp,SqT.of hpv,by rw [List.length_singleton]; exact zl _ (by omega),fun z=>(by cases z),fun _ z=>?_,fun _ _ c hc=>?_⟩
 ·subst z
  exact absurd (List.eq_nil_of_length_eq_zero hx.symm) hne
 ·have s:=z07 hc (HO.tup ([v]++xs))
  exact k _ _ s (.tup z04 (.cons (dv.kp s.kp) (DtA.kp s.kp da)))
def LE(H:Hp)(a le:Addr)(i:Nat)(σ : St)(Hc:Hp):Prop:=∃(x2 x3:Option V) (vs:List V) (es:List (Int×Int)),σ = [some (.ref a),some (.ref le),x2,x3,none,none,none,none,none,none,none,none,none,none,none,none]/\Same H Hc/\Hc le=some (.lst vs)/\DtA Hc vs (es.map zqd)/\es.length=i/\∀s∈es,ok48 s
theorem ziz{α β γ : Type}{R : α->β->Prop}{R' : α->γ->Prop}{f:Pth->β}{g:Pth->γ}:∀{as:List α} {ps:List Pth},Paired R as (ps.map f)->(∀a p,R a (f p)->R' a (g p))->Paired R' as (ps.map g)
 | [],[],.nil,_=>.nil
 | _::_,_::_,.cons r t,h=>.cons (h _ _ r) (ziz t h)
def q33(W:Hp)(lf f0 f1:Addr)(hd:St)(t:T)(A B:Int×Int)(i:Nat)(σ : St)(Hc:Hp):Prop:=(∃y10 y11 y12,σ = hd++[y10,y11,y12,none,none,none])/\Same W Hc/\Hc lf=some (.lst [.ref f0,.ref f1])/\FL Hc f0 (inF t true A B i) (13 * i)/\FL Hc f1 (inF t false A B i) (13 * i)
def q32(W:Hp)(lf f0 f1:Addr)(hd:St)(x:Int)(t:T)(A B:Int×Int)(i j:Nat)(σ : St)(Hc:Hp):Prop:=(∃y11 y12,σ = hd++[some (.int x),y11,y12,none,none,none])/\Same W Hc/\Hc lf=some (.lst [.ref f0,.ref f1])/\FL Hc f0 (inG t true A B i j) (13 * i+j)/\FL Hc f1 (inG t false A B i j) (13 * i+j)
def Rb(A B:Int×Int)(t:T):Nat->Int->Int->Prop
 | 0,_,_=>False
 | 1,x,y=>False\/Ft A B t true x y
 | _,x,y=>(False\/Ft A B t true x y)\/Ft A B t false x y
def But(b:Addr)(H H':Hp):Prop:=H'=H\/∀c o,c≠b->H c=some o->H' c=some o
def q31(X:Hp)(lb:Addr)(h1 h2:St)(t:T)(A B:Int×Int)(i:Nat)(σ : St)(Hc:Hp):Prop:=(∃z2 z14 z15,σ = h1++z2::h2++[z14,z15])/\But lb X Hc/\FL Hc lb (Rb A B t i) (200 * i)
def CI(U:Hp)(ps:List Pth)(ns:Nts)(i:Nat)(ys:List V)(σ':St)(H':Hp):Prop:=Same U H'/\(∃t,σ'=[t])/\DtA H' ys ((ps.take i).map fun p=>q18 (p,zqd (gN ns p)))/\i<=ps.length
theorem zzz(F:Fun K "law" "law" z2c f fd) (b_range:mg "range" = none) (b_dict:mg "dict" = none) (b_max:mg "max" = none) (b_min:mg "min" = none) (c_law_pick:Callee P w K mg base "_law_pick" ["_law_script","_law_k","_law_many"] 2 (zqw K)) (c_law_side:Callee P w K mg base "_law_side" ["_law_script","_law_at"] 3 (zqz K))
  (c_law_reckoned:Callee P w K mg base "_law_reckoned" ["_law_word","_law_one","_law_other"] 1 q23) (c_law_of:Callee P w K mg base "_law_of" ["_law_side_here","_law_a","_law_b"] 1 zzc) (c_shown:Callee P w K mg base "shown" ["program","paper"] 22 (zqt K isQ bhd 2)):FnOk P w K mg base CX0 23 f fd ["_law_script"] (zty K):=by
 refine F.ok sc_law (fun vs H Q E h=>?_) (fun cdv A outer s H vs Q E hr h=>?_)
 ·obtain⟨a,ns,rfl,_⟩:=h
  rfl
 obtain⟨a,ns,rfl,hS,h63,q⟩:=h
 refine⟨_,(z02 (z1m (i:=1) sc_law.nd rfl zed (z9s z01) (z06 rfl))
 (z02 (zf3 PassesOwn.never rfl (zkz z74 b_range (z08 z03 z01)) (z2d (i:=2) sc_law.nd rfl zb2)
 (z02 (z1m (i:=3) sc_law.nd rfl zfm (z28 zgp (z0w c_law_pick hr (by omega) (z08 (z00 (i:=0) rfl z2j z0z z10) (z08 (z28 zf4 z03 (z00 (i:=2) rfl z1n z29 z2a)) (z08 z03 z01))) z6g z4z) z03) (z06 rfl))
 (z05 (zgl (zuf PySem.F.plainAttrs_list PySem.F.slot_list_append PySem.F.type_list_append zl9 (z00 (i:=1) rfl z16 z2t z2u) (z08 (z0y (z08 (z00 (i:=3) rfl z8u zhq zhw) (z08 (z28 z64 (z00 (i:=3) rfl z8u zhq zhw) (z0w c_law_pick hr (by omega) (z08 (z00 (i:=0) rfl z2j z0z z10) (z08 (z28 z64 (z28 zf4 z03 (z00 (i:=2) rfl z1n z29 z2a)) z03) (z08 z03 z01))) z6g z4z)) z01))) z01)) (z06 rfl)))))
 (z02 (z1m (i:=4) sc_law.nd rfl z90 (z0y (z08 (z0e z3i (z9s (z08 z0p (z08 z0p z01))) (z0w c_law_pick hr (by omega) (z08 (z00 (i:=0) rfl z2j z0z z10) (z08 z03 (z08 z03 z01))) z6g z4z) (fun _ _=>rfl)) (z08 (z0w c_law_side hr (by omega) (z08 (z00 (i:=0) rfl z2j z0z z10) (z08 z03 z01)) z91 zf7) (z08 (z0w c_law_side hr (by omega) (z08 (z00 (i:=0) rfl z2j z0z z10) (z08 z03 z01)) z91 zf7) z01)))) (z06 rfl))
 (z02 (z1h (z0c (dEq hr.units) (z0e z0a (z00 (i:=4) rfl z1s z46 z48) z03 (fun _ _=>rfl)) (z0e z0a (z00 (i:=4) rfl z1s z46 z48) z03 (fun _ _=>rfl)) (z0f _)) (z05 (z1m (i:=4) sc_law.nd rfl z90 (z0y (z08 (z0e z0a (z00 (i:=4) rfl z1s z46 z48) z03 (fun _ _=>rfl)) (z08 (z0e z0a (z00 (i:=4) rfl z1s z46 z48) z03 (fun _ _=>rfl)) (z08 (z0y (z08 z0p (z08 z03 z01))) z01)))) (z06 rfl))) z0d)
 (z02 (z1m (i:=5) sc_law.nd rfl zcq (z0y (z08 (z0y (z08 z0p (z08 z0p (z08 (z0y (z08 z0p (z08 z0p z01))) z01)))) (z08 (z0y (z08 z0p (z08 z0p (z08 (z0y (z08 z0p (z08 z0p z01))) z01)))) z01))) (z06 rfl))
 (z02 (z1m (i:=6) sc_law.nd rfl zeb (z0y (z08 (z0y (z08 z0p (z08 z0p (z08 (z0y (z08 z0p (z08 z0p z01))) z01)))) (z08 (z0y (z08 z0p (z08 z0p (z08 (z0y (z08 z0p (z08 z0p z01))) z01)))) (z08 (z0y (z08 z0p (z08 z0p (z08 (z0y (z08 z0p (z08 z0p z01))) z01)))) z01)))) (z06 rfl))
 (z02 (z1m (i:=7) sc_law.nd rfl zfn (z0y (z08 (z28 z5f (z0y (z08 z0p z01)) (z0e z3i (z00 (i:=1) rfl z16 z2t z2u) z03 (fun _ _=>rfl))) (z08 (z28 z5f (z0y (z08 z0p z01)) (z0e z3i (z00 (i:=1) rfl z16 z2t z2u) z03 (fun _ _=>rfl))) z01))) (z06 rfl))
 (z02 (z1m (i:=8) sc_law.nd rfl zcp (zrq (zq9 rfl hr.units) zn2 b_dict zhx (z08 (z9t ["_law_row"] [none] rfl (CompS.of (by rfl)) (ze5 (z0w c_shown hr (by omega) (z08 (z0y (z08 (z00 (i:=7) rfl zfd znd znk) (z08 (z28 z5f (z0y (z08 (z0y (z08 z0p (z08 (z00 (i:=4) rfl z1s z46 z48) (z08 (z00 (i:=5) rfl z70 zd8 zdd) (z08 (z00 (i:=5) rfl z70 zd8 zdd) z01))))) z01)) (z00 (i:=6) rfl zds zlw zm3)) z01))) (z08 (z0y z01) z01)) zll zv7)) (fun _ _ _ _ _=>(z2d (i:=0) (show List.Nodup (["_law_row"]:List Str) from by decide+kernel) rfl (Or.inl rfl))) (fun _ _ _ _ _=>z6q) (fun _ _ _ _ _=>(z0y (z08 (z0e (ixK (r:=zjj) (K:=K) z0a rfl) (z00 (i:=0) rfl (by first | exact Or.inl rfl | exact Or.inr (Or.inl rfl) | exact Or.inr (Or.inr rfl)) zhp zhv) z03 (fun _ _=>rfl)) (z08 (znw (slK (r:=zzi) (K:=K) zr4 rfl) (z00 (i:=0) rfl (by first | exact Or.inl rfl | exact Or.inr (Or.inl rfl) | exact Or.inr (Or.inr rfl)) zhp zhv) (zrj z03) zrk) z01))))) z01) zgw zho) (z06 rfl))
 (z02 (z1m (i:=9) sc_law.nd rfl zec (z9s (z08 (z9s z01) (z08 (z9s z01) z01))) (z06 rfl))
 (z02 (zf3 PassesOwn.never rfl (zky z74 b_range (z08 (z0e z0a (z0e z3i (z00 (i:=1) rfl z16 z2t z2u) z03 (fun _ _=>rfl)) z03 (fun _ _=>rfl)) (z08 (z28 z64 (z0e z0a (z0e z3i (z00 (i:=1) rfl z16 z2t z2u) z03 (fun _ _=>rfl)) z03 (fun _ _=>rfl)) z03) z01))) (z2d (i:=10) sc_law.nd rfl zia)
 (z05 (zf3 PassesOwn.never rfl (zky z74 b_range (z08 (z0e z0a (z0e z3i (z00 (i:=1) rfl z16 z2t z2u) z03 (fun _ _=>rfl)) z03 (fun _ _=>rfl)) (z08 (z28 z64 (z0e z0a (z0e z3i (z00 (i:=1) rfl z16 z2t z2u) z03 (fun _ _=>rfl)) z03 (fun _ _=>rfl)) z03) z01))) (z2d (i:=11) sc_law.nd rfl zi9)
 (z02 (z1m (i:=12) sc_law.nd rfl zh2 (z0w c_law_reckoned hr (by omega) (z08 (z0e z0a (z00 (i:=4) rfl z1s z46 z48) z03 (fun _ _=>rfl)) (z08 (z0w c_law_of hr (by omega) (z08 (z0e z0a (z00 (i:=4) rfl z1s z46 z48) z03 (fun _ _=>rfl)) (z08 (z00 (i:=10) rfl z7d zda zdf) (z08 (z00 (i:=11) rfl z7c zd9 zde) z01))) zb4 zjc) (z08 (z0w c_law_of hr (by omega) (z08 (z0e z0a (z00 (i:=4) rfl z1s z46 z48) z03 (fun _ _=>rfl)) (z08 (z00 (i:=10) rfl z7d zda zdf) (z08 (z00 (i:=11) rfl z7c zd9 zde) z01))) zb4 zjc) z01))) zau zfw) (z06 rfl))
 (z05 (zgl (zuf PySem.F.plainAttrs_list PySem.F.slot_list_append PySem.F.type_list_append zl9 (z0e z3i (z00 (i:=9) rfl z2e z50 z52) (z28 zgp z03 (z00 (i:=12) rfl zg5 zq4 zq7)) (fun _ _=>rfl)) (z08 (z0y (z08 (z00 (i:=10) rfl z7d zda zdf) (z08 (z00 (i:=11) rfl z7c zd9 zde) z01))) z01)) (z06 rfl)))))))
 (z02 (z1m (i:=13) sc_law.nd rfl zee (z9s z01) (z06 rfl))
 (z02 (zf3 PassesOwn.never rfl (zkz z74 b_range (z08 z03 z01)) (z2d (i:=2) sc_law.nd rfl zb2)
 (z02 (zmo (i:=14) ["_law_pair"] [none] sc_law.nd rfl zbh rfl (CompS.of (by rfl)) (ze5 (z0e z3i (z00 (i:=9) rfl z2e z50 z52) (z00 (i:=2) rfl z1n z29 z2a) (fun _ _=>rfl))) (fun _ _ _ _ _=>(z2d (i:=0) (show List.Nodup (["_law_pair"]:List Str) from by decide+kernel) rfl (Or.inl rfl))) (fun _ _ _ _ _=>z6q) (fun _ _ _ _ _=>(z0e (ixK (r:=zjj) (K:=K) z0a rfl) (z00 (i:=0) rfl (by first | exact Or.inl rfl | exact Or.inr (Or.inl rfl) | exact Or.inr (Or.inr rfl)) z76 z78) z03 (fun _ _=>rfl))))
 (z02 (zmo (i:=15) ["_law_pair"] [none] sc_law.nd rfl zap rfl (CompS.of (by rfl)) (ze5 (z0e z3i (z00 (i:=9) rfl z2e z50 z52) (z00 (i:=2) rfl z1n z29 z2a) (fun _ _=>rfl))) (fun _ _ _ _ _=>(z2d (i:=0) (show List.Nodup (["_law_pair"]:List Str) from by decide+kernel) rfl (Or.inl rfl))) (fun _ _ _ _ _=>z6q) (fun _ _ _ _ _=>(z0e (ixK (r:=zjj) (K:=K) z0a rfl) (z00 (i:=0) rfl (by first | exact Or.inl rfl | exact Or.inr (Or.inl rfl) | exact Or.inr (Or.inr rfl)) z76 z78) z03 (fun _ _=>rfl))))
 (z02 (z1h (z0c (gNe hr.units) (zzr (zvx hr.units1 (z0y (z08 z03 (z08 (z28 z64 (z00 (i:=2) rfl z1n z29 z2a) z03) (z08 z03 (z08 z03 z01))))) (z00 (i:=8) rfl z22 z4c z4d))) (z9u (q1m hr.units) (z0e z3i (z00 (i:=9) rfl z2e z50 z52) (z00 (i:=2) rfl z1n z29 z2a) (fun _ _=>rfl)) (z9s z01) (z0f _)) (z0f _)) (z05 (z0b zl0)) z0d)
 (z05 (z1h (z0c (q1m hr.units) (z0e z3i (z00 (i:=9) rfl z2e z50 z52) (z00 (i:=2) rfl z1n z29 z2a) (fun _ _=>rfl)) (z9s z01) (z0f _)) (z02 (z1h (z0c (dNe hr.units) (z6r hr.units1 (z00 (i:=8) rfl z22 z4c z4d) (z0y (z08 z03 (z08 (z28 z64 (z00 (i:=2) rfl z1n z29 z2a) z03) (z08 z03 (z08 z03 z01))))) (fun _ _=>rfl)) (z0y (z08 (z53 (zdh rfl) zep b_min zbb (z08 (z00 (i:=14) rfl z6p zb8 zba) z01) zb0 zb5) (z08 (z53 (zdi rfl) zeq b_max zbc (z08 (z00 (i:=14) rfl z6p zb8 zba) z01) zb1 zb6) z01))) (z0f _)) (z05 (z0b zl0)) z0d)
 (z02 (z1h (z0c (dNe hr.units) (z6r hr.units1 (z00 (i:=8) rfl z22 z4c z4d) (z0y (z08 z03 (z08 (z28 z64 (z00 (i:=2) rfl z1n z29 z2a) z03) (z08 z03 (z08 z03 z01))))) (fun _ _=>rfl)) (z0y (z08 (z53 (zdh rfl) zep b_min zbb (z08 (z00 (i:=15) rfl z6i za5 za7) z01) zb0 zb5) (z08 (z53 (zdi rfl) zeq b_max zbc (z08 (z00 (i:=15) rfl z6i za5 za7) z01) zb1 zb6) z01))) (z0f _)) (z05 (z0b zl0)) z0d)
 (z05 (zgl (zuf PySem.F.plainAttrs_list PySem.F.slot_list_extend PySem.F.type_list_extend zl8 (z00 (i:=13) rfl z5q za6 za8) (z08 (z0e z3i (z00 (i:=9) rfl z2e z50 z52) (z00 (i:=2) rfl z1n z29 z2a) (fun _ _=>rfl)) z01)) (z06 rfl))))) z0d))))))
 (z02 (z1h (z0c (dNe hr.units) (z6r hr.units1 (z00 (i:=8) rfl z22 z4c z4d) (z0y (z08 z03 (z08 z03 z01))) (fun _ _=>rfl)) (z0y (z08 (z53 (zdh rfl) zep b_min zbb (z08 (z9t ["_law_pair"] [none] rfl (CompS.of (by rfl)) (ze5 (z00 (i:=13) rfl z5q za6 za8)) (fun _ _ _ _ _=>(z2d (i:=0) (show List.Nodup (["_law_pair"]:List Str) from by decide+kernel) rfl (Or.inl rfl))) (fun _ _ _ _ _=>z6q) (fun _ _ _ _ _=>(z0e (ixK (r:=zjj) (K:=K) z0a rfl) (z00 (i:=0) rfl (by first | exact Or.inl rfl | exact Or.inr (Or.inl rfl) | exact Or.inr (Or.inr rfl)) z76 z78) z03 (fun _ _=>rfl)))) z01) zb0 zb5) (z08 (z53 (zdi rfl) zeq b_max zbc (z08 (z9t ["_law_pair"] [none] rfl (CompS.of (by rfl)) (ze5 (z00 (i:=13) rfl z5q za6 za8)) (fun _ _ _ _ _=>(z2d (i:=0) (show List.Nodup (["_law_pair"]:List Str) from by decide+kernel) rfl (Or.inl rfl))) (fun _ _ _ _ _=>z6q) (fun _ _ _ _ _=>(z0e (ixK (r:=zjj) (K:=K) z0a rfl) (z00 (i:=0) rfl (by first | exact Or.inl rfl | exact Or.inr (Or.inl rfl) | exact Or.inr (Or.inr rfl)) z76 z78) z03 (fun _ _=>rfl)))) z01) zb1 zb6) z01))) (z0f _)) (z05 (z0b zl0)) z0d)
 (z05 (z0b (zvw (z9u (dEq hr.units) (z6r hr.units1 (z00 (i:=8) rfl z22 z4c z4d) (z0y (z08 z03 (z08 z03 z01))) (fun _ _=>rfl)) (z0e z3i (z00 (i:=1) rfl z16 z2t z2u) z03 (fun _ _=>rfl)) (z0f _)) (zvv (z9u (dEq hr.units) (z6r hr.units1 (z00 (i:=8) rfl z22 z4c z4d) (z0y (z08 z03 (z08 z03 z01))) (fun _ _=>rfl)) (z0e z3i (z00 (i:=1) rfl z16 z2t z2u) z03 (fun _ _=>rfl)) (z0f _))))))))))))))))))),z6j fun N1 e1=>?_⟩
 walk_at "rx"
 refine⟨Nat.zero_le _,fun le hle=>?_⟩
 have s1:=z07 hle (HO.lst [])
 have el:upd H le (HO.lst []) le=_:=z04
 generalize upd H le (HO.lst [])=H1 at s1 el |-
 rw [e1]
 refine z6j fun N2 e2=>?_
 walk_at "rx"
 refine⟨by decide,by decide,?_⟩
 refine zcy (lo:=0) (n:=2) (LE H a le) ?start ?step ?done
 case start=>exact⟨_,_,[],[],rfl,s1,el,.nil,rfl,fun s h=>by cases h⟩
 case step=>
  rintro j σ Hc hj ⟨x2,x3,vs,es,rfl,sc,hl,dl,hel,hes⟩
  walk_at "rx"
  have cm:CMul 2 (0+(j:Int)):=.inr ⟨by omega,by omega⟩
  refine⟨cm,a,ns,_,9,rfl,sc.seq hS,by omega,by decide,fun i Ha i0 i1 sa=>⟨_,rfl,.inl ⟨rfl,_,SqL.of (sa _ _ hl)⟩,cm,a,ns,_,5,rfl,(sc.trans sa).seq hS,by omega,by decide,fun i2 Hb j0 j1 sb=>⟨_,rfl,zl 2 (by decide),fun p hp=>?_⟩⟩⟩
  have s2:=z07 hp (HO.tup [V.int (i - 4),V.int (i - 4+i2)])
  have ep:upd Hb p (HO.tup [V.int (i - 4),V.int (i - 4+i2)]) p=_:=z04
  generalize upd Hb p (HO.tup [V.int (i - 4),V.int (i - 4+i2)])=U at s2 ep |-
  have hlU:=s2 _ _ (sb _ _ (sa _ _ hl))
  have hvl:vs.length=j:=by rw [dl.length,List.length_map,hel]
  refine⟨_,hlU,Nat.lt_of_lt_of_le (show vs.length < 3 by omega) (zl 3 (by decide)),?_⟩
  have dU:=DtA.kp ((sa.trans (sb.trans s2)).kp.trans (Kp.set hlU (ys:=vs++[V.ref p]))) dl
  have ep2:upd U le (HO.lst (vs++[V.ref p])) p=some (.tup [V.int (i - 4),V.int (i - 4+i2)]):=by rw [z0s (zam ep hlU (by intro z; cases z))]; exact ep
  refine⟨_,_,vs++[V.ref p],es++[(i - 4,i - 4+i2)],rfl,z8c (sc.trans (sa.trans (sb.trans s2))) hle,z04,?_,by rw [List.length_append,hel]; rfl,?_⟩
  ·rw [List.map_append]
   exact DtA.append dU (.cons (.tup ep2 (.cons (.int _) (.cons (.int _) .nil))) .nil)
  ·intro z hz
   rcases List.mem_append.mp hz with hz | hz
   ·exact hes z hz
   ·rw [List.mem_singleton.mp hz]
    show -4<=i - 4/\i - 4<=i - 4+i2/\i - 4+i2<=8
    omega
 case done=>
  rintro σ Hc ⟨x2,x3,vs,es,rfl,sc,hl,dl,hel,hes⟩
  obtain⟨eA,eB,rfl⟩:∃x y,es=[x,y]:=by
   match es,hel with
   | [x,y],_=>exact⟨x,y,rfl⟩
  have hA:=hes eA (by simp)
  have hB:=hes eB (by simp)
  rcases dl with _ | ⟨dA,_ | ⟨dB,_ | _⟩⟩
  rename_i vA vB
  show N2 _ Hc
  rw [e2]
  refine z6j fun N3 e3=>?_
  walk_at "rx"
  refine⟨zl 2 (by decide),fun pl hpl=>?_⟩
  have s2:=z07 hpl (HO.lst (([Wd.less,Wd.same].map fun w=>V.str w.str)))
  have e4:upd Hc pl (HO.lst (([Wd.less,Wd.same].map fun w=>V.str w.str))) pl=_:=z04
  rw [show(HO.lst [V.str (Str.ofString "less"),V.str (Str.ofString "same")])=HO.lst ([Wd.less,Wd.same].map fun w=>V.str w.str) from rfl]
  generalize upd Hc pl (HO.lst ([Wd.less,Wd.same].map fun w=>V.str w.str))=U at s2 e4 |-
  refine⟨a,ns,4,2,rfl,(sc.trans s2).seq hS,by decide,by decide,fun i Ha i0 i1 sa=>?_⟩
  obtain⟨wd,hwd,ew⟩:=zke (c:=fun w:Wd=>V.str w.str) (ns:=[.less,.same]) (k:=i) i0 i1
  have hw:LS wd:=by
   simp only[List.mem_cons,List.not_mem_nil,or_false] at hwd
   exact hwd
  refine⟨_,_,rfl,SqL.of (sa _ _ e4),_,ew,a,ns,10,rfl,((sc.trans s2).trans sa).seq hS,by decide,fun v1 Hb t1 sb d1 o1=>?_⟩
  refine⟨a,ns,20,rfl,((sc.trans s2).trans (sa.trans sb)).seq hS,by decide,fun v2 Hd t2 sd d2 o2=>⟨zl 3 (by decide),fun pa hpa=>?_⟩⟩
  have s5:=z07 hpa (HO.tup [V.str wd.str,v1,v2])
  have e5:upd Hd pa (HO.tup [V.str wd.str,v1,v2]) pa=_:=z04
  generalize upd Hd pa (HO.tup [V.str wd.str,v1,v2])=U5 at s5 e5 |-
  have sU5:=(sc.trans s2).trans (sa.trans (sb.trans (sd.trans s5)))
  have cU5:=s2.trans (sa.trans (sb.trans (sd.trans s5)))
  rw [e3]
  refine z6j fun N4 e6=>?_
  have zaz:∀(U:Hp) (pa:Addr) (t:T),Same Hc U->Dt U (.ref pa) t.enc->Ask t->N4 [some (V.ref a),some (V.ref le),x2,x3,some (V.ref pa),none,none,none,none,none,none,none,none,none,none,none] U:=by
   clear cU5 sU5 e5 s5 hpa d2 sd d1 sb sa e4 s2 hpl e3
   intro U pa t sU dt ht
   rw [e6]
   refine z6j fun N5 e7=>?_
   walk_at "rx"
   refine⟨zl 2 (by decide),fun p1 h1=>⟨zl 3 (by decide),fun p2 h2=>⟨zl 2 (by decide),fun p3 h3=>⟨zl 3 (by decide),fun p4 h4=>⟨zl 2 (by decide),fun p5 h5=>?_⟩⟩⟩⟩⟩
   obtain⟨s1,d1⟩:=mkT h1 (xs:=[V.str "name",V.str "a"]) (ds:=[.str "name",.str "a"]) (.cons (.str _) (.cons (.str _) .nil))
   generalize upd U p1 (HO.tup [V.str "name",V.str "a"])=U1 at h2 h3 h4 h5 s1 d1 |-
   obtain⟨s2,d2⟩:=mkT h2 (xs:=[V.str "set",V.str "c",V.ref p1]) (.cons (.str _) (.cons (.str _) (.cons d1 .nil)))
   generalize upd U1 p2 (HO.tup [V.str "set",V.str "c",V.ref p1])=U2 at h3 h4 h5 s2 d2 |-
   obtain⟨s3,d3⟩:=mkT h3 (xs:=[V.str "name",V.str "b"]) (ds:=[.str "name",.str "b"]) (.cons (.str _) (.cons (.str _) .nil))
   generalize upd U2 p3 (HO.tup [V.str "name",V.str "b"])=U3 at h4 h5 s3 d3 |-
   obtain⟨s4,d4⟩:=mkT h4 (xs:=[V.str "set",V.str "d",V.ref p3]) (.cons (.str _) (.cons (.str _) (.cons d3 .nil)))
   generalize upd U3 p4 (HO.tup [V.str "set",V.str "d",V.ref p3])=U4 at h5 s4 d4 |-
   obtain⟨s5,d5⟩:=mkT h5 (xs:=[V.ref p2,V.ref p4]) (.cons (d2.kp (s3.trans s4).kp) (.cons d4 .nil))
   generalize upd U4 p5 (HO.tup [V.ref p2,V.ref p4])=U5 at s5 d5 |-
   have dblk:Dt U5 (.ref p5) (.tup (zof z6v)):=d5
   have sU5:=sU.trans (s1.trans (s2.trans (s3.trans (s4.trans s5))))
   have dt5:=dt.kp (s1.trans (s2.trans (s3.trans (s4.trans s5)))).kp
   clear d5 s5 h5 d4 s4 h4 d3 s3 h3 d2 s2 h2 d1 s1 h1 dt sU
   rw [e7]
   refine z6j fun N6 e8=>?_
   walk_at "rx"
   refine⟨zl 2 (by decide),fun q1 h1=>⟨zl 3 (by decide),fun q2 h2=>⟨zl 2 (by decide),fun q3 h3=>⟨zl 3 (by decide),fun q4 h4=>⟨zl 2 (by decide),fun q5 h5=>⟨zl 3 (by decide),fun q6 h6=>⟨zl 3 (by decide),fun q7 h7=>?_⟩⟩⟩⟩⟩⟩⟩
   obtain⟨s1,d1⟩:=mkT h1 (xs:=[V.str "name",V.str "c"]) (ds:=[.str "name",.str "c"]) (.cons (.str _) (.cons (.str _) .nil))
   generalize upd U5 q1 (HO.tup [V.str "name",V.str "c"])=U1 at h2 h3 h4 h5 h6 h7 s1 d1 |-
   obtain⟨s2,d2⟩:=mkT h2 (xs:=[V.str "set",V.str "x",V.ref q1]) (.cons (.str _) (.cons (.str _) (.cons d1 .nil)))
   generalize upd U1 q2 (HO.tup [V.str "set",V.str "x",V.ref q1])=U2 at h3 h4 h5 h6 h7 s2 d2 |-
   obtain⟨s3,d3⟩:=mkT h3 (xs:=[V.str "name",V.str "d"]) (ds:=[.str "name",.str "d"]) (.cons (.str _) (.cons (.str _) .nil))
   generalize upd U2 q3 (HO.tup [V.str "name",V.str "d"])=U3 at h4 h5 h6 h7 s3 d3 |-
   obtain⟨s4,d4⟩:=mkT h4 (xs:=[V.str "set",V.str "y",V.ref q3]) (.cons (.str _) (.cons (.str _) (.cons d3 .nil)))
   generalize upd U3 q4 (HO.tup [V.str "set",V.str "y",V.ref q3])=U4 at h5 h6 h7 s4 d4 |-
   obtain⟨s5,d5⟩:=mkT h5 (xs:=[V.str "name",V.str "a"]) (ds:=[.str "name",.str "a"]) (.cons (.str _) (.cons (.str _) .nil))
   generalize upd U4 q5 (HO.tup [V.str "name",V.str "a"])=U6 at h6 h7 s5 d5 |-
   obtain⟨s6,d6⟩:=mkT h6 (xs:=[V.str "set",V.str "z",V.ref q5]) (.cons (.str _) (.cons (.str _) (.cons d5 .nil)))
   generalize upd U6 q6 (HO.tup [V.str "set",V.str "z",V.ref q5])=U7 at h7 s6 d6 |-
   obtain⟨s7,d7⟩:=mkT h7 (xs:=[V.ref q2,V.ref q4,V.ref q6]) (.cons (d2.kp (s3.trans (s4.trans (s5.trans s6))).kp) (.cons (d4.kp (s5.trans s6).kp) (.cons d6 .nil)))
   generalize upd U7 q7 (HO.tup [V.ref q2,V.ref q4,V.ref q6])=U8 at s7 d7 |-
   have dlst:Dt U8 (.ref q7) (.tup (zof zld)):=d7
   have s58:=s1.trans (s2.trans (s3.trans (s4.trans (s5.trans (s6.trans s7)))))
   have sU8:=sU5.trans s58
   have dt8:=dt5.kp s58.kp
   have dblk8:=dblk.kp s58.kp
   clear d7 s7 h7 d6 s6 h6 d5 s5 h5 d4 s4 h4 d3 s3 h3 d2 s2 h2 d1 s1 h1 dt5 dblk s58 sU5
   rw [e8]
   refine z6j fun N7 e9=>?_
   walk_at "rx"
   refine⟨zl 1 (by decide),fun p1 h1=>?_⟩
   have s1:=z07 h1 (HO.tup [V.str "a"])
   have m1:upd U8 p1 (HO.tup [V.str "a"]) p1=_:=z04
   generalize upd U8 p1 (HO.tup [V.str "a"])=W1 at s1 m1 |-
   refine⟨_,SqL.of (s1 _ _ (sU8 _ _ hl)),vA,rfl,q2h m1 (dA.kp (sU8.trans s1).kp) fun r1 W2 s2 dr1=>⟨zl 1 (by decide),fun p2 h2=>?_⟩⟩
   have s3:=z07 h2 (HO.tup [V.str "b"])
   have m2:upd W2 p2 (HO.tup [V.str "b"]) p2=_:=z04
   generalize upd W2 p2 (HO.tup [V.str "b"])=W3 at s3 m2 |-
   have s13:=s1.trans (s2.trans s3)
   refine⟨_,SqL.of (s13 _ _ (sU8 _ _ hl)),vB,rfl,q2h m2 (dB.kp (sU8.trans s13).kp) fun r2 W4 s4 dr2=>⟨zl 2 (by decide),fun p3 h3=>?_⟩⟩
   obtain⟨s5,dins⟩:=mkT h3 (xs:=[r1,r2]) (.cons (dr1.kp (s3.trans s4).kp) (.cons dr2 .nil))
   generalize upd W4 p3 (HO.tup [r1,r2])=W5 at s5 dins |-
   have s15:=s13.trans (s4.trans s5)
   have sW:=sU8.trans s15
   have dtW:=dt8.kp s15.kp
   have dbW:=dblk8.kp s15.kp
   have dlW:=dlst.kp s15.kp
   clear s15 s5 h3 dr2 s4 s13 m2 s3 h2 dr1 s2 m1 s1 h1 dlst dblk8 dt8 sU8
   rw [e9]
   refine z6j fun N8 e10=>?_
   have rest2:∀(W:Hp) (nd:Addr) (kvs:List (List Key×V)) (nt ns':Nts),Keeps Hc W->W nd=some (.dT kvs)->NtR W kvs nt->(∀q,z1j nt q=z1j ns' q)->
     (∃o1 o2:Option Sd2,zf9 eA eB t true o1/\zf9 eA eB t false o2/\z1j ns' [0,1,0,0]=o1.map (·.1)/\z1j ns' [0,1,1,0]=o1.map (·.2)/\z1j ns' [0,2,0,0]=o2.map (·.1)/\z1j ns' [0,2,1,0]=o2.map (·.2)/\z1j ns' [1,0]=some eA/\z1j ns' [2,0]=some eB/\z1j ns' [3,0]=some eA)->
     Dt W (.ref pa) t.enc->N8 [some (V.ref a),some (V.ref le),x2,x3,some (V.ref pa),some (V.ref p5),some (V.ref q7),some (V.ref p3),some (V.ref nd),none,none,none,none,none,none,none] W:=by
    clear dlW dbW dtW sW dins e9
    intro W nd kvs nt ns' kW hnd hnt hlk hk dtW
    rw [e10]
    refine z6j fun N9 e11=>?_
    walk_at "rx"
    refine⟨Nat.zero_le _,fun f0 h0=>⟨Nat.zero_le _,fun f1 h1=>⟨zl 2 (by decide),fun lf h2=>?_⟩⟩⟩
    have s1:=z07 h0 (HO.lst [])
    have m0:upd W f0 (HO.lst []) f0=_:=z04
    generalize upd W f0 (HO.lst [])=W1 at h1 h2 s1 m0 |-
    have s2:=z07 h1 (HO.lst [])
    have m1:upd W1 f1 (HO.lst []) f1=_:=z04
    generalize upd W1 f1 (HO.lst [])=W2 at h2 s2 m1 |-
    have s3:=z07 h2 (HO.lst [V.ref f0,V.ref f1])
    have m2:upd W2 lf (HO.lst [V.ref f0,V.ref f1]) lf=_:=z04
    generalize upd W2 lf (HO.lst [V.ref f0,V.ref f1])=W3 at s3 m2 |-
    have g0:=s3 _ _ (s2 _ _ m0)
    have g1:=s3 _ _ m1
    have n01:f0≠f1:=fun z=>by rw [z] at m0; rw [m0] at h1; cases h1
    have w0:W f0=none:=h0
    have w1:W f1=none:=by
     cases e:W f1 with
     | none=>rfl
     | some o=>rw [s1 _ _ e] at h1; cases h1
    have nl0:f0≠lf:=fun z=>by rw [<- z,s2 _ _ m0] at h2; cases h2
    have nl1:f1≠lf:=fun z=>by rw [<- z,m1] at h2; cases h2
    have sW3:=s1.trans (s2.trans s3)
    rw [e11]
    refine z6j fun N10 e12=>?_
    obtain⟨pA,xsA,rfl,hpA,daA⟩:=dA.tupI
    rcases daA with _ | ⟨u1,_ | ⟨u2,_ | _⟩⟩
    cases u1; cases u2
    obtain⟨pB,xsB,rfl,hpB,daB⟩:=dB.tupI
    rcases daB with _ | ⟨u1,_ | ⟨u2,_ | _⟩⟩
    cases u1; cases u2
    have hlW:=kW.l _ _ hl
    have hAW:=kW.t _ _ hpA
    have hBW:=kW.t _ _ hpB
    have bA:=hA
    have bB:=hB
    unfold ok48 at bA bB
    walk_at "rx"
    refine⟨_,SqL.of (sW3 _ _ hlW),_,rfl,pA,rfl,_,SqT.of (sW3 _ _ hAW),_,rfl,_,SqL.of (sW3 _ _ hlW),_,rfl,pA,rfl,_,SqT.of (sW3 _ _ hAW),_,rfl,_,rfl,eA.1,eA.2+1,⟨rfl,rfl⟩,⟨by omega,by omega,by omega,by omega⟩,?_⟩
    have hmz:∀so x y,(x,y)∈([]:List (Int×Int))↔inF t so eA eB 0 x y:=fun so x y=>zuo x y
    refine zcy (lo:=eA.1) (n:=(eA.2+1 - eA.1).toNat) (q33 W lf f0 f1 [some (V.ref a),some (V.ref le),x2,x3,some (V.ref pa),some (V.ref p5),some (V.ref q7),some (V.ref p3),some (V.ref nd),some (V.ref lf)] t eA eB) ⟨⟨_,_,_,rfl⟩,sW3,m2,⟨[],[],g0,.nil,Nat.zero_le _,hmz true⟩,⟨[],[],g1,.nil,Nat.zero_le _,hmz false⟩⟩ ?_ ?_
    ·rintro i σ Hx hi ⟨⟨y10,y11,y12,rfl⟩,sx,hlf,fl0,fl1⟩
     walk_at "rx"
     refine⟨_,SqL.of (sx _ _ hlW),_,rfl,pB,rfl,_,SqT.of (sx _ _ hBW),_,rfl,_,SqL.of (sx _ _ hlW),_,rfl,pB,rfl,_,SqT.of (sx _ _ hBW),_,rfl,_,rfl,eB.1,eB.2+1,⟨rfl,rfl⟩,⟨by omega,by omega,by omega,by omega⟩,?_⟩
     have hx10:In2 eA (eA.1+(i:Int)):=⟨by omega,by omega⟩
     refine zcy (lo:=eB.1) (n:=(eB.2+1 - eB.1).toNat) (q32 W lf f0 f1 [some (V.ref a),some (V.ref le),x2,x3,some (V.ref pa),some (V.ref p5),some (V.ref q7),some (V.ref p3),some (V.ref nd),some (V.ref lf)] (eA.1+(i:Int)) t eA eB i) ⟨⟨_,_,rfl⟩,sx,hlf,fl0.imp (Nat.le_add_right _ _) fun prs h=>zlb h,fl1.imp (Nat.le_add_right _ _) fun prs h=>zlb h⟩ ?_ ?_
     ·rintro j σ Hy hj ⟨⟨y11,y12,rfl⟩,sy,hlf,gl0,gl1⟩
      have hy11:In2 eB (eB.1+(j:Int)):=⟨by omega,by omega⟩
      have dty:=dtW.kp sy.kp
      obtain⟨wd',ta,tb,rfl,hw',oa,ob,_⟩:=id ht
      obtain⟨pa',xs',e',hpa',da'⟩:=dty.tupI
      cases e'
      rcases da' with _ | ⟨c1,_ | ⟨c2,_ | ⟨c3,_ | _⟩⟩⟩
      cases c1
      rename_i va vb
      have ba:=zu0 oa hx10 hy11
      have bb:=zu0 ob hx10 hy11
      have ka:=zko hA hB oa
      have kb:=zko hA hB ob
      unfold ok48 at ka kb
      walk_at "rx"
      refine⟨_,SqT.of hpa',_,rfl,_,SqT.of hpa',_,rfl,va,ta,_,_,rfl,c2,oa,_,SqT.of hpa',_,rfl,vb,tb,_,_,rfl,c3,ob,wd',_,_,rfl,fun z=>?_,by omega,fun Hz sz=>?_⟩
      ·rcases hw' with rfl | rfl<;>cases z
      have hso:wd'.worth (soW ta (eA.1+(i:Int)) (eB.1+(j:Int))) (soW tb (eA.1+(i:Int)) (eB.1+(j:Int)))=soW (.op wd' ta tb) (eA.1+(i:Int)) (eB.1+(j:Int)):=rfl
      rw [hso]
      have h01:soW (.op wd' ta tb) (eA.1+(i:Int)) (eB.1+(j:Int))=0\/soW (.op wd' ta tb) (eA.1+(i:Int)) (eB.1+(j:Int))=1:=zcl hw' _ _
      have fitT:Fit (.op wd' ta tb) true (eA.1+(i:Int)) (eB.1+(j:Int))↔soW (.op wd' ta tb) (eA.1+(i:Int)) (eB.1+(j:Int))=1:=by
       unfold Fit
       rcases h01 with z | z<;>rw [z]<;>simp
      have fitF:Fit (.op wd' ta tb) false (eA.1+(i:Int)) (eB.1+(j:Int))↔soW (.op wd' ta tb) (eA.1+(i:Int)) (eB.1+(j:Int))=0:=by
       unfold Fit
       rcases h01 with z | z<;>rw [z]<;>simp
      clear hso
      generalize soW (.op wd' ta tb) (eA.1+(i:Int)) (eB.1+(j:Int))=so at h01 fitT fitF |-
      have hlf2:=sz _ _ hlf
      have gl0:=gl0.same sz
      have gl1:=gl1.same sz
      have syz:=sy.trans sz
      walk_at "rx"
      obtain⟨vs0,prs0,hv0,dv0,len0,mem0⟩:=id gl0
      obtain⟨vs1,prs1,hv1,dv1,len1,mem1⟩:=id gl1
      have lv0:vs0.length < sizeLine:=z2k (by rw [dv0.length,List.length_map]; omega)
      have lv1:vs1.length < sizeLine:=z2k (by rw [dv1.length,List.length_map]; omega)
      rcases h01 with rfl | rfl
      ·refine⟨_,SqL.of hlf2,V.ref f1,rfl,.inl ⟨rfl,_,SqL.of hv1⟩,zl 2 (by decide),fun p hp=>?_⟩
       have s6:=z07 hp (HO.tup [V.int (eA.1+(i:Int)),V.int (eB.1+(j:Int))])
       have m6:upd Hz p (HO.tup [V.int (eA.1+(i:Int)),V.int (eB.1+(j:Int))]) p=_:=z04
       generalize upd Hz p (HO.tup [V.int (eA.1+(i:Int)),V.int (eB.1+(j:Int))])=Y at s6 m6 |-
       refine⟨f1,rfl,vs1,s6 _ _ hv1,lv1,⟨_,_,rfl⟩,z8c (syz.trans s6) w1,?_,?_,?_⟩
       ·rw [z0s (Ne.symm nl1)]; exact s6 _ _ hlf2
       ·exact((gl0.same s6).other (s6 _ _ hv1) n01).imp (by omega) fun prs h=>zo3 h (fun z=>by have:=fitT.mp z; omega)
       ·exact(gl1.same s6).more (s6 _ _ hv1) m6 fun prs h=>zo4 h (fitF.mpr rfl)
      ·refine⟨_,SqL.of hlf2,V.ref f0,rfl,.inl ⟨rfl,_,SqL.of hv0⟩,zl 2 (by decide),fun p hp=>?_⟩
       have s6:=z07 hp (HO.tup [V.int (eA.1+(i:Int)),V.int (eB.1+(j:Int))])
       have m6:upd Hz p (HO.tup [V.int (eA.1+(i:Int)),V.int (eB.1+(j:Int))]) p=_:=z04
       generalize upd Hz p (HO.tup [V.int (eA.1+(i:Int)),V.int (eB.1+(j:Int))])=Y at s6 m6 |-
       refine⟨f0,rfl,vs0,s6 _ _ hv0,lv0,⟨_,_,rfl⟩,z8c (syz.trans s6) w0,?_,?_,?_⟩
       ·rw [z0s (Ne.symm nl0)]; exact s6 _ _ hlf2
       ·exact(gl0.same s6).more (s6 _ _ hv0) m6 fun prs h=>zo4 h (fitT.mpr rfl)
       ·exact((gl1.same s6).other (s6 _ _ hv0) (Ne.symm n01)).imp (by omega) fun prs h=>zo3 h (fun z=>by have:=fitF.mp z; omega)
     ·rintro σ Hy ⟨⟨y11,y12,rfl⟩,sy,hlf,gl0,gl1⟩
      exact⟨⟨_,_,_,rfl⟩,sy,hlf,gl0.imp (by omega) fun prs h=>zs4 hB.2.1 h,gl1.imp (by omega) fun prs h=>zs4 hB.2.1 h⟩
    ·rintro σ Hx ⟨⟨y10,y11,y12,rfl⟩,sx,hlf,fl0,fl1⟩
     have fl0:FL Hx f0 (fun x y=>In2 eA x/\In2 eB y/\Fit t true x y) 200:=fl0.imp (by omega) fun prs h=>zla hA.2.1 h
     have fl1:FL Hx f1 (fun x y=>In2 eA x/\In2 eB y/\Fit t false x y) 200:=fl1.imp (by omega) fun prs h=>zla hA.2.1 h
     show N10 _ Hx
     rw [e12]
     refine z6j fun N11 e13=>?_
     walk_at "rx"
     refine⟨Nat.zero_le _,fun lb hlb=>?_⟩
     have s7:=z07 hlb (HO.lst [])
     have m7:upd Hx lb (HO.lst []) lb=_:=z04
     generalize upd Hx lb (HO.lst [])=X1 at s7 m7 |-
     rw [e13]
     refine z6j fun N12 e14=>?_
     walk_at "rx"
     refine⟨by decide,by decide,?_⟩
     obtain⟨o1,o2,so1,so2,k1,k2,k3,k4,k5,k6,k7⟩:=hk
     have hside:∀i:Nat,i < 2->∃(fk:Addr) (so:Bool) (ok:Option Sd2),atI [V.ref f0,V.ref f1] (0+(i:Int))=some (V.ref fk)/\FL X1 fk (Ft eA eB t so) 200/\fk≠lb/\zf9 eA eB t so ok/\z1j nt [0,(i:Int)+1,0,0]=ok.map (·.1)/\z1j nt [0,(i:Int)+1,1,0]=ok.map (·.2)/\∀x y,Rb eA eB t (i+1) x y↔Rb eA eB t i x y\/Ft eA eB t so x y:=by
      intro i hi
      match i,hi with
      | 0,_=>exact⟨f0,true,o1,rfl,fl0.same s7,z1q fl0.choose_spec.choose_spec.1 hlb,so1,(hlk _).trans k1,(hlk _).trans k2,fun x y=>Iff.rfl⟩
      | 1,_=>exact⟨f1,false,o2,rfl,fl1.same s7,z1q fl1.choose_spec.choose_spec.1 hlb,so2,(hlk _).trans k3,(hlk _).trans k4,fun x y=>Iff.rfl⟩
     have hndX:=s7 _ _ (sx _ _ hnd)
     have hntX:=hnt.kp (sx.trans s7).kp
     have hlfX:=s7 _ _ hlf
     have hlX:=s7 _ _ (sx _ _ hlW)
     have hAX:=s7 _ _ (sx _ _ hAW)
     have hBX:=s7 _ _ (sx _ _ hBW)
     refine zcy (lo:=0) (n:=2) (q31 X1 lb [some (V.ref a),some (V.ref le)] [x3,some (V.ref pa),some (V.ref p5),some (V.ref q7),some (V.ref p3),some (V.ref nd),some (V.ref lf),y10,y11,y12,some (V.ref lb)] t eA eB) ⟨⟨_,_,_,rfl⟩,Or.inl rfl,⟨[],[],m7,.nil,Nat.zero_le _,fun x y=>⟨fun h=>(by cases h),fun h=>h.elim⟩⟩⟩ ?_ ?_
     ·rintro i σ Hy hi ⟨⟨z2,z14,z15,rfl⟩,sy,flb⟩
      obtain⟨fk,so,ok,hat,flk,nfk,sok,lk1,lk2,hRb⟩:=hside i hi
      rw [Int.zero_add] at hat |-
      have sBy:∀c o,c≠lb->X1 c=some o->Hy c=some o:=by
       rcases sy with rfl | z
       ·exact fun c o _ e=>e
       ·exact z
      have kpy:Kp X1 Hy:=by
       refine⟨fun c xs e=>sBy c _ (zam e m7 (by intro z; cases z)) e,fun c xs e=>?_⟩
       by_cases z:c=lb
       ·subst z
        obtain⟨vs,_,e2,_⟩:=flb
        exact⟨vs,e2⟩
       ·exact⟨xs,sBy c _ z e⟩
      have flk:FL Hy fk (Ft eA eB t so) 200:=by
       obtain⟨vs,prs,e,d,l,r⟩:=flk
       exact⟨vs,prs,sBy _ _ nfk e,DtA.kp kpy d,l,r⟩
      have hlfY:=sBy _ _ (zam hlfX m7 (by intro z; cases z)) hlfX
      have hndY:=sBy _ _ (zam hndX m7 (by intro z; cases z)) hndX
      have hntY:=hntX.kp kpy
      refine z6j fun M1 q1=>?_
      walk_at "rx"
      refine⟨_,SqL.of hlfY,_,hat,fk,rfl,⟨_,SqL.of flk.choose_spec.choose_spec.1⟩,q1p flk (by decide) fun Ha l1 ns1 sa hl1 mem1=>?_⟩
      have s8:=z07 hl1 (HO.lst (ns1.map V.int))
      have m8:upd Ha l1 (HO.lst (ns1.map V.int)) l1=_:=z04
      generalize upd Ha l1 (HO.lst (ns1.map V.int))=Hb at s8 m8 |-
      have sab:=sa.trans s8
      show M1 _ Hb
      rw [q1]
      refine z6j fun M2 q2=>?_
      have flkb:=flk.same sab
      walk_at "rx"
      refine⟨_,SqL.of (sab _ _ hlfY),_,hat,fk,rfl,⟨_,SqL.of flkb.choose_spec.choose_spec.1⟩,q2v flkb (by decide) fun Hc2 l2 ns2 sc2 hl2 mem2=>?_⟩
      have s9:=z07 hl2 (HO.lst (ns2.map V.int))
      have m9:upd Hc2 l2 (HO.lst (ns2.map V.int)) l2=_:=z04
      generalize upd Hc2 l2 (HO.lst (ns2.map V.int))=Hd at s9 m9 |-
      have sbd:=sc2.trans s9
      have sad:=sab.trans sbd
      show M2 _ Hd
      rw [q2]
      refine z6j fun M3 q3=>?_
      walk_at "rx"
      refine⟨zl 4 (by decide),fun r1 h1=>?_⟩
      have s10:=z07 h1 (HO.tup [V.int 0,V.int ((i:Int)+1),V.int 0,V.int 0])
      have m10:upd Hd r1 (HO.tup [V.int 0,V.int ((i:Int)+1),V.int 0,V.int 0]) r1=some (.tup (([0,(i:Int)+1,0,0]:Pth).map V.int)):=z04
      generalize upd Hd r1 (HO.tup [V.int 0,V.int ((i:Int)+1),V.int 0,V.int 0])=He at s10 m10 |-
      have sae:=sad.trans s10
      obtain⟨ov,dg,his,hval⟩:=NtR.get (sae _ _ hndY) (hntY.kp sae.kp) m10
      refine⟨ov,dg,_,SqL.of (sae _ _ hlfY),_,hat,Nat.zero_le _,fun r2 h2=>?_⟩
      have s11:=z07 h2 (HO.lst [])
      have m11:upd He r2 (HO.lst []) r2=_:=z04
      generalize upd He r2 (HO.lst [])=Hf at s11 m11 |-
      have saf:=sae.trans s11
      obtain⟨vk,prk,hvk,dvk,lenk,memk⟩:=id (flk.same saf)
      have hEq:ov.isSome = !decide (prk=[]):=by
       rw [his,lk1]
       match ok,sok with
       | none,sok=>
        have:prk=[]:=by
         cases prk with
         | nil=>rfl
         | cons z zs=>exact absurd ((memk z.1 z.2).mp (List.mem_cons_self ..)) (sok _ _)
        rw [this]; rfl
       | some q,sok=>
        obtain⟨y,hy⟩:=sok.1.lo
        have:prk≠[]:=fun z=>by
         have:=(memk _ _).mpr hy
         rw [z] at this
         cases this
        rw [decide_eq_false this]; rfl
      refine⟨_,zw9 hvk dvk m11,_,⟨rfl,rfl⟩,?_⟩
      rw [decide_eq_true hEq,if_neg (by simp)]
      show M3 _ Hf
      rw [q3]
      walk_at "rx"
      refine⟨_,SqL.of (saf _ _ hlfY),_,hat,Nat.zero_le _,fun r3 h3=>?_⟩
      have s12:=z07 h3 (HO.lst [])
      have m12:upd Hf r3 (HO.lst []) r3=_:=z04
      generalize upd Hf r3 (HO.lst [])=Hg at s12 m12 |-
      have sag:=saf.trans s12
      refine⟨_,zw9 (s12 _ _ hvk) (DtA.kp s12.kp dvk) m12,?_⟩
      match ok,sok,lk1,lk2 with
      | none,sok,lk1,lk2=>
       have:prk=[]:=by
        cases prk with
        | nil=>rfl
        | cons z zs=>exact absurd ((memk z.1 z.2).mp (List.mem_cons_self ..)) (sok _ _)
       rw [decide_eq_true this]
       walk_at "rx"
       refine⟨⟨_,_,_,rfl⟩,Or.inr fun c o z e=>sag _ _ (sBy c o z e),?_⟩
       refine(flb.same sag).imp (by omega) fun prs h x y=>(h x y).trans ?_
       rw [hRb]
       exact⟨Or.inl,fun z=>z.elim id fun w=>absurd w (sok _ _)⟩
      | some q,sok,lk1,lk2=>
       obtain⟨y0,hy0⟩:=sok.1.lo
       have hne:prk≠[]:=fun z=>by
        have:=(memk _ _).mpr hy0
        rw [z] at this
        cases this
       rw [decide_eq_false hne]
       walk_at "rx"
       refine⟨zl 4 (by decide),fun r4 h4=>?_⟩
       have s13:=z07 h4 (HO.tup [V.int 0,V.int ((i:Int)+1),V.int 0,V.int 0])
       have m13:upd Hg r4 (HO.tup [V.int 0,V.int ((i:Int)+1),V.int 0,V.int 0]) r4=some (.tup (([0,(i:Int)+1,0,0]:Pth).map V.int)):=z04
       generalize upd Hg r4 (HO.tup [V.int 0,V.int ((i:Int)+1),V.int 0,V.int 0])=Hh at s13 m13 |-
       have sah:=sag.trans s13
       have sdh:=s10.trans (s11.trans (s12.trans s13))
       obtain⟨ov2,dg2,_,hval2⟩:=NtR.get (sah _ _ hndY) (hntY.kp sah.kp) m13
       obtain⟨v,rfl,dv⟩:=hval2 q.1 lk1
       have l1at:=sdh _ _ (sbd _ _ m8)
       have l2at:=sdh _ _ m9
       have pos1:0 < ns1.length:=List.length_pos_of_mem ((mem1 _).mpr sok.1.lo)
       have pos2:0 < ns2.length:=List.length_pos_of_mem ((mem2 _).mpr sok.2.lo)
       refine⟨v,dg2,ns1,SqL.of l1at,pos1,fun M hM hM2=>⟨ns1,SqL.of l1at,pos1,fun M1 hM1 hM12=>⟨zl 2 (by decide),fun r5 h5=>?_⟩⟩⟩
       have s14:=z07 h5 (HO.tup [V.int M,V.int M1])
       have m14:upd Hh r5 (HO.tup [V.int M,V.int M1]) r5=_:=z04
       generalize upd Hh r5 (HO.tup [V.int M,V.int M1])=Hi at s14 m14 |-
       have eq1:q.1=(M,M1):=zsp sok.1 mem1 hM hM2 hM1 hM12
       refine⟨_,zj6 (s:=some q.1) (t:=some (M,M1)) (dv.kp s14.kp) (z4y m14),?_⟩
       rw [decide_eq_true (show some q.1=some (M,M1) by rw [eq1]),if_neg (by simp)]
       refine⟨zl 4 (by decide),fun r6 h6=>?_⟩
       have s15:=z07 h6 (HO.tup [V.int 0,V.int ((i:Int)+1),V.int 1,V.int 0])
       have m15:upd Hi r6 (HO.tup [V.int 0,V.int ((i:Int)+1),V.int 1,V.int 0]) r6=some (.tup (([0,(i:Int)+1,1,0]:Pth).map V.int)):=z04
       generalize upd Hi r6 (HO.tup [V.int 0,V.int ((i:Int)+1),V.int 1,V.int 0])=Hj at s15 m15 |-
       have saj:=sah.trans (s14.trans s15)
       have l2j:=s15 _ _ (s14 _ _ l2at)
       obtain⟨ov3,dg3,_,hval3⟩:=NtR.get (saj _ _ hndY) (hntY.kp saj.kp) m15
       obtain⟨v3,rfl,dv3⟩:=hval3 q.2 lk2
       refine⟨v3,dg3,ns2,SqL.of l2j,pos2,fun M3' hM3 hM32=>⟨ns2,SqL.of l2j,pos2,fun M4 hM4 hM42=>⟨zl 2 (by decide),fun r7 h7=>?_⟩⟩⟩
       have s16:=z07 h7 (HO.tup [V.int M3',V.int M4])
       have m16:upd Hj r7 (HO.tup [V.int M3',V.int M4]) r7=_:=z04
       generalize upd Hj r7 (HO.tup [V.int M3',V.int M4])=Hk at s16 m16 |-
       have eq2:q.2=(M3',M4):=zsp sok.2 mem2 hM3 hM32 hM4 hM42
       refine⟨_,zj6 (s:=some q.2) (t:=some (M3',M4)) (dv3.kp s16.kp) (z4y m16),?_⟩
       rw [decide_eq_true (show some q.2=some (M3',M4) by rw [eq2]),if_neg (by simp)]
       have sak:=saj.trans s16
       obtain⟨vb,prb,hvb,dvb,lenb,memb⟩:=id (flb.same sak)
       obtain⟨vk2,prk2,hvk2,dvk2,lenk2,memk2⟩:=id (flk.same sak)
       have lvb:vb.length<=400:=by rw [dvb.length,List.length_map]; omega
       have lvk:vk2.length<=200:=by rw [dvk2.length,List.length_map]; omega
       refine⟨.inl ⟨rfl,_,SqL.of hvb⟩,_,SqL.of (sak _ _ hlfY),_,hat,fk,rfl,vb,hvb,vk2,hvk2,zl _ (by omega),⟨_,_,_,rfl⟩,Or.inr fun c o z e=>?_,?_⟩
       ·rw [z0s z]; exact sak _ _ (sBy c o z e)
       ·refine⟨_,prb++prk2,z04,?_,by rw [List.length_append]; omega,fun x y=>?_⟩
        ·rw [List.map_append]
         exact DtA.append (DtA.kp (Kp.set hvb) dvb) (DtA.kp (Kp.set hvb) dvk2)
        ·rw [List.mem_append,hRb,memb,memk2]
     ·rintro σ Hy ⟨⟨z2,z14,z15,rfl⟩,sy,flb⟩
      show N12 _ Hy
      rw [e14]
      refine z6j fun N13 e15=>?_
      walk_at "rx"
      have sBy:∀c o,c≠lb->X1 c=some o->Hy c=some o:=by
       rcases sy with rfl | z
       ·exact fun c o _ e=>e
       ·exact z
      have kpy:Kp X1 Hy:=by
       refine⟨fun c xs e=>sBy c _ (zam e m7 (by intro z; cases z)) e,fun c xs e=>?_⟩
       by_cases z:c=lb
       ·subst z
        obtain⟨vs,_,e2,_⟩:=flb
        exact⟨vs,e2⟩
       ·exact⟨xs,sBy c _ z e⟩
      have hndY:=sBy _ _ (zam hndX m7 (by intro z; cases z)) hndX
      have hntY:=hntX.kp kpy
      have nlb:le≠lb:=z1q (sx _ _ hlW) hlb
      have hlY:=sBy _ _ nlb hlX
      have hAY:=kpy.t _ _ hAX
      have hBY:=kpy.t _ _ hBX
      have all2:∀x y,Rb eA eB t 2 x y↔In2 eA x/\In2 eB y:=fun x y=>by
       constructor
       ·rintro((z | z) | z)
        ·exact z.elim
        ·exact⟨z.1,z.2.1⟩
        ·exact⟨z.1,z.2.1⟩
       ·rintro⟨zx,zy⟩
        rcases zln t x y with f | f
        ·exact .inl (.inr ⟨zx,zy,f⟩)
        ·exact .inr ⟨zx,zy,f⟩
      have exA:Exact (fun x=>∃y,Rb eA eB t 2 x y) eA:=⟨⟨eB.1,(all2 _ _).mpr ⟨⟨Int.le_refl _,hA.2.1⟩,⟨Int.le_refl _,hB.2.1⟩⟩⟩,⟨eB.1,(all2 _ _).mpr ⟨⟨hA.2.1,Int.le_refl _⟩,⟨Int.le_refl _,hB.2.1⟩⟩⟩,fun x z=>by obtain⟨y,z⟩:=z; exact((all2 _ _).mp z).1⟩
      refine⟨zl 2 (by decide),fun r1 h1=>?_⟩
      have s8:=z07 h1 (HO.tup [V.int 1,V.int 0])
      have m8:upd Hy r1 (HO.tup [V.int 1,V.int 0]) r1=some (.tup (([1,0]:Pth).map V.int)):=z04
      generalize upd Hy r1 (HO.tup [V.int 1,V.int 0])=Ya at s8 m8 |-
      obtain⟨ov,dg,_,hval⟩:=NtR.get (s8 _ _ hndY) (hntY.kp s8.kp) m8
      obtain⟨v,rfl,dv⟩:=hval eA ((hlk _).trans k5)
      have flba:=flb.same s8
      refine⟨v,dg,⟨_,SqL.of flba.choose_spec.choose_spec.1⟩,q1p flba (by decide) fun Yb l1 ns1 sb1 hl1 mem1=>?_⟩
      have s9:=z07 hl1 (HO.lst (ns1.map V.int))
      have m9:upd Yb l1 (HO.lst (ns1.map V.int)) l1=_:=z04
      generalize upd Yb l1 (HO.lst (ns1.map V.int))=Yc at s9 m9 |-
      have sac:=sb1.trans s9
      have flbc:=flba.same sac
      have pos1:0 < ns1.length:=List.length_pos_of_mem ((mem1 _).mpr exA.lo)
      refine⟨l1,rfl,ns1,SqL.of m9,pos1,fun M hM hM2=>⟨⟨_,SqL.of flbc.choose_spec.choose_spec.1⟩,q1p flbc (by decide) fun Yd l2 ns2 sb2 hl2 mem2=>?_⟩⟩
      have s10:=z07 hl2 (HO.lst (ns2.map V.int))
      have m10:upd Yd l2 (HO.lst (ns2.map V.int)) l2=_:=z04
      generalize upd Yd l2 (HO.lst (ns2.map V.int))=Ye at s10 m10 |-
      have sce:=sb2.trans s10
      have pos2:0 < ns2.length:=List.length_pos_of_mem ((mem2 _).mpr exA.lo)
      refine⟨l2,rfl,ns2,SqL.of m10,pos2,fun M1 hM1 hM12=>⟨zl 2 (by decide),fun r2 h2=>?_⟩⟩
      have s11:=z07 h2 (HO.tup [V.int M,V.int M1])
      have m11:upd Ye r2 (HO.tup [V.int M,V.int M1]) r2=_:=z04
      generalize upd Ye r2 (HO.tup [V.int M,V.int M1])=Yf at s11 m11 |-
      have saf:=sac.trans (sce.trans s11)
      have e12:∀x,x∈ns1↔x∈ns2:=fun x=>(mem1 x).trans (mem2 x).symm
      have eq1:eA=(M,M1):=zsp exA mem1 hM hM2 ((e12 _).mpr hM1) fun a ha=>hM12 a ((e12 _).mp ha)
      refine⟨_,zj6 (s:=some eA) (t:=some (M,M1)) (dv.kp saf.kp) (z4y m11),?_⟩
      rw [decide_eq_true (show some eA=some (M,M1) by rw [<- eq1]),if_neg (by simp)]
      have syf:=s8.trans saf
      show N13 _ Yf
      rw [e15]
      walk_at "rx"
      refine⟨zl 2 (by decide),fun r3 h3=>?_⟩
      have s12:=z07 h3 (HO.tup [V.int 2,V.int 0])
      have m12:upd Yf r3 (HO.tup [V.int 2,V.int 0]) r3=some (.tup (([2,0]:Pth).map V.int)):=z04
      generalize upd Yf r3 (HO.tup [V.int 2,V.int 0])=Yg at s12 m12 |-
      have syg:=syf.trans s12
      obtain⟨ov2,dg2,_,hval2⟩:=NtR.get (syg _ _ hndY) (hntY.kp syg.kp) m12
      obtain⟨v2,rfl,dv2⟩:=hval2 eB ((hlk _).trans k6)
      refine⟨v2,dg2,_,SqL.of (syg _ _ hlY),_,rfl,_,zj6 (s:=some eB) (t:=some eB) dv2 (z4y (syg _ _ hBY)),?_⟩
      rw [decide_eq_true rfl,if_pos rfl]
      refine⟨zl 2 (by decide),fun r4 h4=>?_⟩
      have s13:=z07 h4 (HO.tup [V.int 3,V.int 0])
      have m13:upd Yg r4 (HO.tup [V.int 3,V.int 0]) r4=some (.tup (([3,0]:Pth).map V.int)):=z04
      generalize upd Yg r4 (HO.tup [V.int 3,V.int 0])=Yh at s13 m13 |-
      have syh:=syg.trans s13
      obtain⟨ov3,dg3,_,hval3⟩:=NtR.get (syh _ _ hndY) (hntY.kp syh.kp) m13
      obtain⟨v3,rfl,dv3⟩:=hval3 eA ((hlk _).trans k7)
      refine⟨v3,dg3,_,SqL.of (syh _ _ hlY),_,rfl,_,zj6 (s:=some eA) (t:=some eA) dv3 (z4y (syh _ _ hAY)),?_⟩
      rw [decide_eq_true rfl]
      exact q _
   walk_at "rx"
   refine⟨zl 4 (by decide),fun p1 h1=>⟨zl 1 (by decide),fun p2 h2=>?_⟩⟩
   obtain⟨s1,d1⟩:=mkT h1 (xs:=[V.str "if",V.ref pa,V.ref p5,V.ref p5]) (.cons (.str _) (.cons dtW (.cons dbW (.cons dbW .nil))))
   generalize upd W5 p1 (HO.tup [V.str "if",V.ref pa,V.ref p5,V.ref p5])=W6 at h2 s1 d1 |-
   have s2:=z07 h2 (HO.tup [V.ref p1])
   have m2:upd W6 p2 (HO.tup [V.ref p1]) p2=_:=z04
   generalize upd W6 p2 (HO.tup [V.ref p1])=W7 at s2 m2 |-
   refine q2w m2 (d1.kp s2.kp) (dlW.kp (s1.trans s2).kp) (by intro z; cases z) (by show 3<=900; decide) fun r3 W8 s3 dr3=>⟨zl 2 (by decide),fun p3 h3=>⟨Nat.zero_le _,fun p4 h4=>?_⟩⟩
   obtain⟨s4,d4⟩:=mkT h3 (xs:=[V.ref _,r3]) (.cons (dins.kp (s1.trans (s2.trans s3)).kp) (.cons dr3 .nil))
   generalize upd W8 p3 (HO.tup [V.ref _,r3])=W9 at h4 s4 d4 |-
   have s5:=z07 h4 (HO.tup [])
   have m5:upd W9 p4 (HO.tup []) p4=_:=z04
   generalize upd W9 p4 (HO.tup [])=W10 at s5 m5 |-
   have s15:=s1.trans (s2.trans (s3.trans (s4.trans s5)))
   have sX:=sW.trans s15
   have dtX:=dtW.kp s15.kp
   refine⟨_,p4,[("a",eA),("b",eB)],z5o t,rfl,d4.kp s5.kp,m5,?_,?_,?_,fun l vs ps H3 k3 hpm hpw hl3 dl3=>?_⟩
   ·exact zy6 ht _ rfl
   ·exact zuk hA hB ht
   ·exact zl7 ht
   have hps:ps.length<=60:=by
    rw [hpm.length_eq,List.length_map]
    exact zl7 ht
   have hk:=q1f hA hB ht
   generalize notesB bhd [("a",eA),("b",eB)] (z5o t)=ns' at hpm dl3 hk
   have kX:=(Same.keeps sX).trans k3
   have dtY:=dtX.kp k3.kp
   have hlY:=kX.l _ _ hl
   clear dtX sX s15 m5 s5 h4 d4 s4 h3 dr3 s3 m2 s2 h2 d1 s1 h1 dlW dbW dtW sW dins
   refine⟨l,rfl,⟨_,SqL.of hl3⟩,?_⟩
   have hvl:vs.length=ps.length:=by rw [dl3.length,List.length_map]
   have hmem:∀p∈ps,p∈ns'.map (·.1):=fun p hp=>hpm.mem_iff.mp hp
   refine zhu (K:=K) (a:=l) (xs:=vs) (CI H3 ps ns') ⟨Same.refl _,⟨_,rfl⟩,.nil,Nat.zero_le _⟩ (z2k (by omega)) ?_ ?_ ?_ ?_
   ·rintro i ys σ' H' ⟨_,_,d,hi⟩
    rw [d.length,List.length_map,List.length_take]
    omega
   ·rintro i ys σ' H' _ ⟨s3,_⟩
    exact SqL.of (s3 _ _ hl3)
   ·rintro i ys x σ' H' hx ⟨s3,⟨tt,rfl⟩,d,hi⟩
    obtain⟨p,hp,dp⟩:=zs5 dl3 hx
    have hpm':=hmem p (List.mem_of_getElem? hp)
    rw [zx0 hpm'] at dp
    obtain⟨px,xs2,rfl,hpx,dpx⟩:=dp.tupI
    rcases dpx with _ | ⟨u1,_ | ⟨u2,_ | ⟨u3,_ | _⟩⟩⟩
    cases u2; cases u3
    rename_i vp
    walk_at "rx"
    refine⟨_,SqT.of (s3 _ _ hpx),_,rfl,_,SqT.of (s3 _ _ hpx),.inr ⟨(show ¬(HT.sIx 3 0 (some 1)=0/\HT.sIx 3 3 none=3) by decide),fun p1 h1=>⟨zl 2 (by decide),fun p2 h2=>?_⟩⟩⟩
    obtain⟨s4,d4⟩:=mkT h1 (xs:=[V.int (gN ns' p).1,V.int (gN ns' p).2]) (ds:=[.int (gN ns' p).1,.int (gN ns' p).2]) (.cons (.int _) (.cons (.int _) .nil))
    have h2:upd H' p1 (HO.tup [V.int (gN ns' p).1,V.int (gN ns' p).2]) p2=none:=h2
    show CI H3 ps ns' (i+1) (ys++[V.ref p2]) [some (V.ref px)] (upd (upd H' p1 (HO.tup [V.int (gN ns' p).1,V.int (gN ns' p).2])) p2 (HO.tup [vp,V.ref p1]))
    generalize upd H' p1 (HO.tup [V.int (gN ns' p).1,V.int (gN ns' p).2])=V1 at h2 s4 d4 |-
    obtain⟨s5,d5⟩:=mkT h2 (xs:=[vp,V.ref p1]) (.cons (u1.kp (s3.trans s4).kp) (.cons d4 .nil))
    refine⟨s3.trans (s4.trans s5),⟨_,rfl⟩,?_,(List.getElem?_eq_some_iff.mp hp).1⟩
    rw [zgb hp,List.map_append]
    exact DtA.append (DtA.kp (s4.trans s5).kp d) (.cons d5 .nil)
   ·rintro ys σ' H' ⟨s3,_,d,hi⟩ pl hpl2
    rw [hvl,List.take_length] at d
    have s4:=z07 hpl2 (HO.lst ys)
    have m4:upd H' pl (HO.lst ys) pl=_:=z04
    have d4:=DtA.kp s4.kp d
    generalize upd H' pl (HO.lst ys)=W at s4 m4 d4 |-
    refine⟨pl,ys,ps.map fun p=>(p,zqd (gN ns' p)),rfl,m4,by rw [List.map_map]; exact d4,?_,?_,fun nd kvs hnd pr=>?_⟩
    ·rw [List.map_map]
     show(ps.map fun p=>p).Nodup
     rw [List.map_id']
     exact hpw.imp fun h=>zw1 h
    ·rw [List.length_map]; omega
    have s5:=z07 hnd (HO.dT kvs)
    have nt:NtR W kvs (ps.map fun p=>(p,gN ns' p)):=ziz pr fun kv p z=>z
    have kZ:=kX.trans (Same.keeps (s3.trans (s4.trans s5)))
    exact rest2 _ nd kvs _ _ kZ z04 (nt.kp s5.kp) (fun q=>zpu hpm q) hk (dtY.kp (s3.trans (s4.trans s5)).kp)
  walk_at "rx"
  refine⟨_,SqT.of e5,_,rfl,_,SqT.of e5,_,rfl,_,q0g (d1.kp (sd.trans s5).kp) (d2.kp s5.kp) o1 o2,?_⟩
  split
  ·refine⟨_,SqT.of e5,_,rfl,_,SqT.of e5,_,rfl,zl 2 (by decide),fun p1 h1=>⟨zl 3 (by decide),fun p2 h2=>?_⟩⟩
   obtain⟨s7,d7⟩:=mkT h1 (xs:=[V.str "num",V.int 1]) (ds:=[.str "num",.int 1]) (.cons (.str _) (.cons (.int _) .nil))
   generalize upd U5 p1 (HO.tup [V.str "num",V.int 1])=U7 at h2 s7 d7 |-
   obtain⟨s8,d8⟩:=mkT h2 (xs:=[V.str wd.str,v1,V.ref p1]) (.cons (.str _) (.cons (d1.kp (sd.trans (s5.trans s7)).kp) (.cons d7 .nil)))
   refine zaz _ p2 (.op wd t1 (.num 1)) (cU5.trans (s7.trans s8)) d8 ⟨wd,t1,.num 1,rfl,hw,o1,.inr (.inr ⟨1,rfl,by decide,by decide⟩),?_⟩
   rcases o1 with rfl | rfl | ⟨n,rfl,_⟩
   ·exact .inl (fun z=>by cases z)
   ·exact .inl (fun z=>by cases z)
   ·exact .inr ⟨n,rfl⟩
  ·rename_i hne
   refine zaz U5 pa (.op wd t1 t2) cU5 (.tup e5 (.cons (.str _) (.cons (d1.kp (sd.trans s5).kp) (.cons (d2.kp s5.kp) .nil)))) ⟨wd,t1,t2,rfl,hw,o1,o2,.inl fun z=>hne ?_⟩
   rw [z]
   exact zn3 o2
end
section
variable{P:Program}{w:World}{K:PySem.W.Frag}{mg:Str->Option Value}{base:Heap}{f:Addr}{fd:FuncData}
theorem zxg{k:Nat}{ps:List Str}:FnOk P w K mg base CX0 k f fd ps (fun _ _ _ _=>False):=⟨fun _ _ _ _ h=>h.elim,fun _ _ _ _ _ _ _ _ _ _ _ _ _ h=>h.elim⟩
end
theorem zza{K:PySem.W.Frag}{a:Addr}{o:Option Addr}{its:Array Value}{n:Nat}{l:Array (Option Value)}{xs:List V} (h:K.lookup a=some ⟨.type "tuple",o,.seq its n,l⟩) (r:Vals xs its.toList) (hz:its.size<=sizeLine:=by decide):∀H,SqT K H a xs:=fun H=>.inr ⟨_,_,_,h,rfl,rfl,hz,r⟩
theorem q0t{l:PySem.W.OpenLaw}{w:World}{K:PySem.W.Frag}{h:Heap}{mg:Str->Option Value}{fa f0 f1 f2 f3 f4 f5 f6 f7 f8 f9 f10 f11 f12 f13 f14 f15 f16 f17 f18 f19 f20 f21 f22 f23 f24 f25 f26 f27 f28 f29 f30 f31 f32 f33 f34 f35 f36 f37 f38 f39 f40 f41:Addr}(X:K.In h)(G:h.Ns mainGlobals mg) (hfa:mg "law" = some (.ref fa))
  {od0 an0 od1 an1 od2 an2 od3 an3 od4 an4 od5 an5 od6 an6 od7 an7 od8 an8 od9 an9 od10 an10 od11 an11 od12 an12 od13 an13 od14 an14 od15 an15 od16 an16 od17 an17 od18 an18 od19 an19 od20 an20 od21 an21 od22 an22 od23 an23 od24 an24 od25 an25 od26 an26 od27 an27 od28 an28 od29 an29 od30 an30 od31 an31 od32 an32 od33 an33 od34 an34 od35 an35 od36 an36 od37 an37 od38 an38 od39 an39 od40 an40 od41 an41:Option Addr} {sl0 sl1 sl2 sl3 sl4 sl5 sl6 sl7 sl8 sl9 sl10 sl11 sl12 sl13 sl14 sl15 sl16 sl17 sl18 sl19 sl20 sl21 sl22 sl23 sl24 sl25 sl26 sl27 sl28 sl29 sl30 sl31 sl32 sl33 sl34 sl35 sl36 sl37 sl38 sl39 sl40 sl41:Array (Option Value)} {oc0 kV0 dc0 pm0 ct0 cd0 oc1 kV1 dc1 pm1 ct1 cd1 oc2 kV2 dc2 pm2 ct2 cd2 oc3 kV3 dc3 pm3 ct3 cd3 oc4 kV4 dc4 pm4 ct4 cd4 oc5 kV5 dc5 pm5 ct5 cd5 oc6 kV6 dc6 pm6 ct6 cd6 oc7 kV7 dc7 pm7 ct7 cd7 oc8 kV8 dc8 pm8 ct8 cd8 oc9 kV9 dc9 pm9 ct9 cd9 oc10 kV10 dc10 pm10 ct10 cd10 oc11 kV11 dc11 pm11 ct11 cd11 oc12 kV12 dc12 pm12 ct12 cd12 oc13 kV13 dc13 pm13 ct13 cd13 oc14 kV14 dc14 pm14 ct14 cd14 oc15 kV15 dc15 pm15 ct15 cd15 oc16 kV16 dc16 pm16 ct16 cd16 oc17 kV17 dc17 pm17 ct17 cd17 oc18 kV18 dc18 pm18 ct18 cd18 oc19 kV19 dc19 pm19 ct19 cd19 oc20 kV20 dc20 pm20 ct20 cd20 oc21 kV21 dc21 pm21 ct21 cd21 oc22 kV22 dc22 pm22 ct22 cd22 oc23 kV23 dc23 pm23 ct23 cd23 oc24 kV24 dc24 pm24 ct24 cd24 oc25 kV25 dc25 pm25 ct25 cd25 oc26 kV26 dc26 pm26 ct26 cd26 oc27 kV27 dc27 pm27 ct27 cd27 oc28 kV28 dc28 pm28 ct28 cd28 oc29 kV29 dc29 pm29 ct29 cd29 oc30 kV30 dc30 pm30 ct30 cd30 oc31 kV31 dc31 pm31 ct31 cd31 oc32 kV32 dc32 pm32 ct32 cd32 oc33 kV33 dc33 pm33 ct33 cd33 oc34 kV34 dc34 pm34 ct34 cd34 oc35 kV35 dc35 pm35 ct35 cd35 oc36 kV36 dc36 pm36 ct36 cd36 oc37 kV37 dc37 pm37 ct37 cd37 oc38 kV38 dc38 pm38 ct38 cd38 oc39 kV39 dc39 pm39 ct39 cd39 oc40 kV40 dc40 pm40 ct40 cd40 oc41 kV41 dc41 pm41 ct41 cd41:Value}
  {ai az:Addr} {oi oz:Option Addr} {ni nz:Nat} {li lz:Array (Option Value)} {ti0 ti1 tz0 tz1:Tok} {a_Walk:Addr}
  (a0:PySem.W.nsIn K mainGlobals "are_rising_rows" = some (some (.ref f0))) (l0:K.lookup f0=some ⟨oc0,od0,.func (PySem.W.fnOf "are_rising_rows" "are_rising_rows" (defArgs z0r) (defBody z0r) (defScope z0r) .none kV0 dc0 pm0 an0 cd0 ct0),sl0⟩) (c0:PySem.W.codeIn K cd0 "are_rising_rows" = true) (k0:PySem.W.keepIn K (.ref f0)=true)
  (a1:PySem.W.nsIn K mainGlobals "worth_of" = some (some (.ref f1))) (l1:K.lookup f1=some ⟨oc1,od1,.func (PySem.W.fnOf "worth_of" "worth_of" (defArgs z2n) (defBody z2n) (defScope z2n) .none kV1 dc1 pm1 an1 cd1 ct1),sl1⟩) (c1:PySem.W.codeIn K cd1 "worth_of" = true) (k1:PySem.W.keepIn K (.ref f1)=true)
  (a2:PySem.W.nsIn K mainGlobals "joined" = some (some (.ref f2))) (l2:K.lookup f2=some ⟨oc2,od2,.func (PySem.W.fnOf "joined" "joined" (defArgs z5d) (defBody z5d) (defScope z5d) .none kV2 dc2 pm2 an2 cd2 ct2),sl2⟩) (c2:PySem.W.codeIn K cd2 "joined" = true) (k2:PySem.W.keepIn K (.ref f2)=true)
  (a3:PySem.W.nsIn K mainGlobals "met" = some (some (.ref f3))) (l3:K.lookup f3=some ⟨oc3,od3,.func (PySem.W.fnOf "met" "met" (defArgs zfj) (defBody zfj) (defScope zfj) .none kV3 dc3 pm3 an3 cd3 ct3),sl3⟩) (c3:PySem.W.codeIn K cd3 "met" = true) (k3:PySem.W.keepIn K (.ref f3)=true)
  (a4:PySem.W.nsIn K mainGlobals "is_within" = some (some (.ref f4))) (l4:K.lookup f4=some ⟨oc4,od4,.func (PySem.W.fnOf "is_within" "is_within" (defArgs z2y) (defBody z2y) (defScope z2y) .none kV4 dc4 pm4 an4 cd4 ct4),sl4⟩) (c4:PySem.W.codeIn K cd4 "is_within" = true) (k4:PySem.W.keepIn K (.ref f4)=true)
  (a5:PySem.W.nsIn K mainGlobals "between" = some (some (.ref f5))) (l5:K.lookup f5=some ⟨oc5,od5,.func (PySem.W.fnOf "between" "between" (defArgs z5e) (defBody z5e) (defScope z5e) .none kV5 dc5 pm5 an5 cd5 ct5),sl5⟩) (c5:PySem.W.codeIn K cd5 "between" = true) (k5:PySem.W.keepIn K (.ref f5)=true)
  (a6:PySem.W.nsIn K mainGlobals "stretch_of" = some (some (.ref f6))) (l6:K.lookup f6=some ⟨oc6,od6,.func (PySem.W.fnOf "stretch_of" "stretch_of" (defArgs z0o) (defBody z0o) (defScope z0o) .none kV6 dc6 pm6 an6 cd6 ct6),sl6⟩) (c6:PySem.W.codeIn K cd6 "stretch_of" = true) (k6:PySem.W.keepIn K (.ref f6)=true)
  (a7:PySem.W.nsIn K mainGlobals "stretch_of_same" = some (some (.ref f7))) (l7:K.lookup f7=some ⟨oc7,od7,.func (PySem.W.fnOf "stretch_of_same" "stretch_of_same" (defArgs z0i) (defBody z0i) (defScope z0i) .none kV7 dc7 pm7 an7 cd7 ct7),sl7⟩) (c7:PySem.W.codeIn K cd7 "stretch_of_same" = true) (k7:PySem.W.keepIn K (.ref f7)=true)
  (a8:PySem.W.nsIn K mainGlobals "stretch_of_ends" = some (some (.ref f8))) (l8:K.lookup f8=some ⟨oc8,od8,.func (PySem.W.fnOf "stretch_of_ends" "stretch_of_ends" (defArgs z0l) (defBody z0l) (defScope z0l) .none kV8 dc8 pm8 an8 cd8 ct8),sl8⟩) (c8:PySem.W.codeIn K cd8 "stretch_of_ends" = true) (k8:PySem.W.keepIn K (.ref f8)=true)
  (a9:PySem.W.nsIn K mainGlobals "reckoned_from" = some (some (.ref f9))) (l9:K.lookup f9=some ⟨oc9,od9,.func (PySem.W.fnOf "reckoned_from" "reckoned_from" (defArgs z0v) (defBody z0v) (defScope z0v) .none kV9 dc9 pm9 an9 cd9 ct9),sl9⟩) (c9:PySem.W.codeIn K cd9 "reckoned_from" = true) (k9:PySem.W.keepIn K (.ref f9)=true)
  (a10:PySem.W.nsIn K mainGlobals "behind" = some (some (.ref f10))) (l10:K.lookup f10=some ⟨oc10,od10,.func (PySem.W.fnOf "behind" "behind" (defArgs z3u) (defBody z3u) (defScope z3u) .none kV10 dc10 pm10 an10 cd10 ct10),sl10⟩) (c10:PySem.W.codeIn K cd10 "behind" = true) (k10:PySem.W.keepIn K (.ref f10)=true)
  (a11:PySem.W.nsIn K mainGlobals "behind_question" = some (some (.ref f11))) (l11:K.lookup f11=some ⟨oc11,od11,.func (PySem.W.fnOf "behind_question" "behind_question" (defArgs z09) (defBody z09) (defScope z09) .none kV11 dc11 pm11 an11 cd11 ct11),sl11⟩) (c11:PySem.W.codeIn K cd11 "behind_question" = true) (k11:PySem.W.keepIn K (.ref f11)=true)
  (a12:PySem.W.nsIn K mainGlobals "with_left" = some (some (.ref f12))) (l12:K.lookup f12=some ⟨oc12,od12,.func (PySem.W.fnOf "with_left" "with_left" (defArgs z1x) (defBody z1x) (defScope z1x) .none kV12 dc12 pm12 an12 cd12 ct12),sl12⟩) (c12:PySem.W.codeIn K cd12 "with_left" = true) (k12:PySem.W.keepIn K (.ref f12)=true)
  (a13:PySem.W.nsIn K mainGlobals "left_of_name" = some (some (.ref f13))) (l13:K.lookup f13=some ⟨oc13,od13,.func (PySem.W.fnOf "left_of_name" "left_of_name" (defArgs z1a) (defBody z1a) (defScope z1a) .none kV13 dc13 pm13 an13 cd13 ct13),sl13⟩) (c13:PySem.W.codeIn K cd13 "left_of_name" = true) (k13:PySem.W.keepIn K (.ref f13)=true)
  (a14:PySem.W.nsIn K mainGlobals "left_of_one" = some (some (.ref f14))) (l14:K.lookup f14=some ⟨oc14,od14,.func (PySem.W.fnOf "left_of_one" "left_of_one" (defArgs z11) (defBody z11) (defScope z11) .none kV14 dc14 pm14 an14 cd14 ct14),sl14⟩) (c14:PySem.W.codeIn K cd14 "left_of_one" = true) (k14:PySem.W.keepIn K (.ref f14)=true)
  (a15:PySem.W.nsIn K mainGlobals "left_of_other" = some (some (.ref f15))) (l15:K.lookup f15=some ⟨oc15,od15,.func (PySem.W.fnOf "left_of_other" "left_of_other" (defArgs z0n) (defBody z0n) (defScope z0n) .none kV15 dc15 pm15 an15 cd15 ct15),sl15⟩) (c15:PySem.W.codeIn K cd15 "left_of_other" = true) (k15:PySem.W.keepIn K (.ref f15)=true)
  (a16:PySem.W.nsIn K mainGlobals "left_by_same" = some (some (.ref f16))) (l16:K.lookup f16=some ⟨oc16,od16,.func (PySem.W.fnOf "left_by_same" "left_by_same" (defArgs z13) (defBody z13) (defScope z13) .none kV16 dc16 pm16 an16 cd16 ct16),sl16⟩) (c16:PySem.W.codeIn K cd16 "left_by_same" = true) (k16:PySem.W.keepIn K (.ref f16)=true)
  (a17:PySem.W.nsIn K mainGlobals "without" = some (some (.ref f17))) (l17:K.lookup f17=some ⟨oc17,od17,.func (PySem.W.fnOf "without" "without" (defArgs z4m) (defBody z4m) (defScope z4m) .none kV17 dc17 pm17 an17 cd17 ct17),sl17⟩) (c17:PySem.W.codeIn K cd17 "without" = true) (k17:PySem.W.keepIn K (.ref f17)=true)
  (a18:PySem.W.nsIn K mainGlobals "shown" = some (some (.ref f18))) (l18:K.lookup f18=some ⟨oc18,od18,.func (PySem.W.fnOf "shown" "shown" (defArgs z5t) (defBody z5t) (defScope z5t) .none kV18 dc18 pm18 an18 cd18 ct18),sl18⟩) (c18:PySem.W.codeIn K cd18 "shown" = true) (k18:PySem.W.keepIn K (.ref f18)=true)
  (a19:PySem.W.nsIn K mainGlobals "notes_by" = some (some (.ref f19))) (l19:K.lookup f19=some ⟨oc19,od19,.func (PySem.W.fnOf "notes_by" "notes_by" (defArgs z2o) (defBody z2o) (defScope z2o) .none kV19 dc19 pm19 an19 cd19 ct19),sl19⟩) (c19:PySem.W.codeIn K cd19 "notes_by" = true) (k19:PySem.W.keepIn K (.ref f19)=true)
  (a20:PySem.W.nsIn K mainGlobals "walk_by_paper" = some (some (.ref f20))) (l20:K.lookup f20=some ⟨oc20,od20,.func (PySem.W.fnOf "walk_by_paper" "walk_by_paper" (defArgs z0g) (defBody z0g) (defScope z0g) .none kV20 dc20 pm20 an20 cd20 ct20),sl20⟩) (c20:PySem.W.codeIn K cd20 "walk_by_paper" = true) (k20:PySem.W.keepIn K (.ref f20)=true)
  (a21:PySem.W.nsIn K mainGlobals "is_paper_row" = some (some (.ref f21))) (l21:K.lookup f21=some ⟨oc21,od21,.func (PySem.W.fnOf "is_paper_row" "is_paper_row" (defArgs z4n) (defBody z4n) (defScope z4n) .none kV21 dc21 pm21 an21 cd21 ct21),sl21⟩) (c21:PySem.W.codeIn K cd21 "is_paper_row" = true) (k21:PySem.W.keepIn K (.ref f21)=true)
  (a22:PySem.W.nsIn K mainGlobals "heads_of" = some (some (.ref f22))) (l22:K.lookup f22=some ⟨oc22,od22,.func (PySem.W.fnOf "heads_of" "heads_of" (defArgs z1y) (defBody z1y) (defScope z1y) .none kV22 dc22 pm22 an22 cd22 ct22),sl22⟩) (c22:PySem.W.codeIn K cd22 "heads_of" = true) (k22:PySem.W.keepIn K (.ref f22)=true)
  (a23:PySem.W.nsIn K mainGlobals "book_of" = some (some (.ref f23))) (l23:K.lookup f23=some ⟨oc23,od23,.func (PySem.W.fnOf "book_of" "book_of" (defArgs z27) (defBody z27) (defScope z27) .none kV23 dc23 pm23 an23 cd23 ct23),sl23⟩) (c23:PySem.W.codeIn K cd23 "book_of" = true) (k23:PySem.W.keepIn K (.ref f23)=true)
  (a24:PySem.W.nsIn K mainGlobals "is_held" = some (some (.ref f24))) (l24:K.lookup f24=some ⟨oc24,od24,.func (PySem.W.fnOf "is_held" "is_held" (defArgs z41) (defBody z41) (defScope z41) .none kV24 dc24 pm24 an24 cd24 ct24),sl24⟩) (c24:PySem.W.codeIn K cd24 "is_held" = true) (k24:PySem.W.keepIn K (.ref f24)=true)
  (a25:PySem.W.nsIn K mainGlobals "is_book_within" = some (some (.ref f25))) (l25:K.lookup f25=some ⟨oc25,od25,.func (PySem.W.fnOf "is_book_within" "is_book_within" (defArgs z3o) (defBody z3o) (defScope z3o) .none kV25 dc25 pm25 an25 cd25 ct25),sl25⟩) (c25:PySem.W.codeIn K cd25 "is_book_within" = true) (k25:PySem.W.keepIn K (.ref f25)=true)
  (a26:PySem.W.nsIn K mainGlobals "walked" = some (some (.ref f26))) (l26:K.lookup f26=some ⟨oc26,od26,.func (PySem.W.fnOf "walked" "walked" (defArgs z3t) (defBody z3t) (defScope z3t) .none kV26 dc26 pm26 an26 cd26 ct26),sl26⟩) (c26:PySem.W.codeIn K cd26 "walked" = true) (k26:PySem.W.keepIn K (.ref f26)=true)
  (a27:PySem.W.nsIn K mainGlobals "go_block" = some (some (.ref f27))) (l27:K.lookup f27=some ⟨oc27,od27,.func (PySem.W.fnOf "go_block" "go_block" (defArgs z19) (defBody z19) (defScope z19) .none kV27 dc27 pm27 an27 cd27 ct27),sl27⟩) (c27:PySem.W.codeIn K cd27 "go_block" = true) (k27:PySem.W.keepIn K (.ref f27)=true)
  (a28:PySem.W.nsIn K mainGlobals "go_deed" = some (some (.ref f28))) (l28:K.lookup f28=some ⟨oc28,od28,.func (PySem.W.fnOf "go_deed" "go_deed" (defArgs z2s) (defBody z2s) (defScope z2s) .none kV28 dc28 pm28 an28 cd28 ct28),sl28⟩) (c28:PySem.W.codeIn K cd28 "go_deed" = true) (k28:PySem.W.keepIn K (.ref f28)=true)
  (a29:PySem.W.nsIn K mainGlobals "go_set" = some (some (.ref f29))) (l29:K.lookup f29=some ⟨oc29,od29,.func (PySem.W.fnOf "go_set" "go_set" (defArgs z2r) (defBody z2r) (defScope z2r) .none kV29 dc29 pm29 an29 cd29 ct29),sl29⟩) (c29:PySem.W.codeIn K cd29 "go_set" = true) (k29:PySem.W.keepIn K (.ref f29)=true)
  (a30:PySem.W.nsIn K mainGlobals "go_if" = some (some (.ref f30))) (l30:K.lookup f30=some ⟨oc30,od30,.func (PySem.W.fnOf "go_if" "go_if" (defArgs z2z) (defBody z2z) (defScope z2z) .none kV30 dc30 pm30 an30 cd30 ct30),sl30⟩) (c30:PySem.W.codeIn K cd30 "go_if" = true) (k30:PySem.W.keepIn K (.ref f30)=true)
  (a31:PySem.W.nsIn K mainGlobals "go_while" = some (some (.ref f31))) (l31:K.lookup f31=some ⟨oc31,od31,.func (PySem.W.fnOf "go_while" "go_while" (defArgs z7u) (defBody z7u) (defScope z7u) .none kV31 dc31 pm31 an31 cd31 ct31),sl31⟩) (c31:PySem.W.codeIn K cd31 "go_while" = true) (k31:PySem.W.keepIn K (.ref f31)=true)
  (a32:PySem.W.nsIn K mainGlobals "side_of" = some (some (.ref f32))) (l32:K.lookup f32=some ⟨oc32,od32,.func (PySem.W.fnOf "side_of" "side_of" (defArgs z26) (defBody z26) (defScope z26) .none kV32 dc32 pm32 an32 cd32 ct32),sl32⟩) (c32:PySem.W.codeIn K cd32 "side_of" = true) (k32:PySem.W.keepIn K (.ref f32)=true)
  (a33:PySem.W.nsIn K mainGlobals "show" = some (some (.ref f33))) (l33:K.lookup f33=some ⟨oc33,od33,.func (PySem.W.fnOf "show" "show" (defArgs z5l) (defBody z5l) (defScope z5l) .none kV33 dc33 pm33 an33 cd33 ct33),sl33⟩) (c33:PySem.W.codeIn K cd33 "show" = true) (k33:PySem.W.keepIn K (.ref f33)=true)
  (a34:PySem.W.nsIn K mainGlobals "noted" = some (some (.ref f34))) (l34:K.lookup f34=some ⟨oc34,od34,.func (PySem.W.fnOf "noted" "noted" (defArgs z6c) (defBody z6c) (defScope z6c) .none kV34 dc34 pm34 an34 cd34 ct34),sl34⟩) (c34:PySem.W.codeIn K cd34 "noted" = true) (k34:PySem.W.keepIn K (.ref f34)=true)
  (a35:PySem.W.nsIn K mainGlobals "joined_books" = some (some (.ref f35))) (l35:K.lookup f35=some ⟨oc35,od35,.func (PySem.W.fnOf "joined_books" "joined_books" (defArgs z0x) (defBody z0x) (defScope z0x) .none kV35 dc35 pm35 an35 cd35 ct35),sl35⟩) (c35:PySem.W.codeIn K cd35 "joined_books" = true) (k35:PySem.W.keepIn K (.ref f35)=true)
  (a36:PySem.W.nsIn K mainGlobals "_law_cell" = some (some (.ref f36))) (l36:K.lookup f36=some ⟨oc36,od36,.func (PySem.W.fnOf "_law_cell" "_law_cell" (defArgs z3q) (defBody z3q) (defScope z3q) .none kV36 dc36 pm36 an36 cd36 ct36),sl36⟩) (c36:PySem.W.codeIn K cd36 "_law_cell" = true) (k36:PySem.W.keepIn K (.ref f36)=true)
  (a37:PySem.W.nsIn K mainGlobals "_law_pick" = some (some (.ref f37))) (l37:K.lookup f37=some ⟨oc37,od37,.func (PySem.W.fnOf "_law_pick" "_law_pick" (defArgs z2f) (defBody z2f) (defScope z2f) .none kV37 dc37 pm37 an37 cd37 ct37),sl37⟩) (c37:PySem.W.codeIn K cd37 "_law_pick" = true) (k37:PySem.W.keepIn K (.ref f37)=true)
  (a38:PySem.W.nsIn K mainGlobals "_law_reckoned" = some (some (.ref f38))) (l38:K.lookup f38=some ⟨oc38,od38,.func (PySem.W.fnOf "_law_reckoned" "_law_reckoned" (defArgs z1b) (defBody z1b) (defScope z1b) .none kV38 dc38 pm38 an38 cd38 ct38),sl38⟩) (c38:PySem.W.codeIn K cd38 "_law_reckoned" = true) (k38:PySem.W.keepIn K (.ref f38)=true)
  (a39:PySem.W.nsIn K mainGlobals "_law_side" = some (some (.ref f39))) (l39:K.lookup f39=some ⟨oc39,od39,.func (PySem.W.fnOf "_law_side" "_law_side" (defArgs z3p) (defBody z3p) (defScope z3p) .none kV39 dc39 pm39 an39 cd39 ct39),sl39⟩) (c39:PySem.W.codeIn K cd39 "_law_side" = true) (k39:PySem.W.keepIn K (.ref f39)=true)
  (a40:PySem.W.nsIn K mainGlobals "_law_of" = some (some (.ref f40))) (l40:K.lookup f40=some ⟨oc40,od40,.func (PySem.W.fnOf "_law_of" "_law_of" (defArgs z5z) (defBody z5z) (defScope z5z) .none kV40 dc40 pm40 an40 cd40 ct40),sl40⟩) (c40:PySem.W.codeIn K cd40 "_law_of" = true) (k40:PySem.W.keepIn K (.ref f40)=true)
  (a41:PySem.W.nsIn K mainGlobals "law" = some (some (.ref f41))) (l41:K.lookup f41=some ⟨oc41,od41,.func (PySem.W.fnOf "law" "law" (defArgs z2c) (defBody z2c) (defScope z2c) .none kV41 dc41 pm41 an41 cd41 ct41),sl41⟩) (c41:PySem.W.codeIn K cd41 "law" = true) (k41:PySem.W.keepIn K (.ref f41)=true)
  (x_Walk:PySem.W.nsIn K mainGlobals "Walk" = some (some (.ref a_Walk)))
  {fm_Walk_init:Addr} {od_Walk_init an_Walk_init:Option Addr} {sl_Walk_init:Array (Option Value)} {oc_Walk_init kV_Walk_init dc_Walk_init pm_Walk_init cd_Walk_init ct_Walk_init:Value} (ma_Walk_init:PySem.W.findIn K (.ref a_Walk) "__init__" = some (some (.ref fm_Walk_init))) (ml_Walk_init:K.lookup fm_Walk_init=some ⟨oc_Walk_init,od_Walk_init,.func (PySem.W.fnOf "__init__" "Walk.__init__" (defArgs z42) (defBody z42) (defScope z42) .none kV_Walk_init dc_Walk_init pm_Walk_init an_Walk_init cd_Walk_init ct_Walk_init),sl_Walk_init⟩) (mc_Walk_init:PySem.W.codeIn K cd_Walk_init "Walk.__init__" = true) (mf_Walk_init:PySem.W.isFn K (.ref fm_Walk_init)=true) (mk_Walk_init:PySem.W.keepIn K (.ref fm_Walk_init)=true)
  (z_min:PySem.W.nsIn K mainGlobals "min" = some none)
  (z_max:PySem.W.nsIn K mainGlobals "max" = some none)
  (z_sorted:PySem.W.nsIn K mainGlobals "sorted" = some none)
  (z_range:PySem.W.nsIn K mainGlobals "range" = some none)
  (z_len:PySem.W.nsIn K mainGlobals "len" = some none)
  (z_enumerate:PySem.W.nsIn K mainGlobals "enumerate" = some none)
  (z_zip:PySem.W.nsIn K mainGlobals "zip" = some none)
  (z_dict:PySem.W.nsIn K mainGlobals "dict" = some none)
  (z_isinstance:PySem.W.nsIn K mainGlobals "isinstance" = some none)
  (z_tuple:PySem.W.nsIn K mainGlobals "tuple" = some none)
  (z_all:PySem.W.nsIn K mainGlobals "all" = some none)
  (pw:PySem.W.nsIn K mainGlobals "WIDE" = some (some (.ref ai)))
  (ph:K.lookup ai=some ⟨.type "tuple",oi,.seq #[.int (-32768) ti0,.int 32767 ti1] ni,li⟩)
  (pz:PySem.W.nsIn K mainGlobals "ZERO" = some (some (.ref az)))
  (phz:K.lookup az=some ⟨.type "tuple",oz,.seq #[.int 0 tz0,.int 0 tz1] nz,lz⟩)
  (t_Walk:WkC K a_Walk)
  (mk_Walk:PySem.W.makesIn K a_Walk=true)
  (kp_Walk:PySem.W.keepIn K (.ref a_Walk)=true)
  : ∃fd:FuncData,(∀(s:Shared) (v:Value),BindsTo s fd ⟨[v],[]⟩ [("_law_script",v)])/\∀base:Heap,K.In base->base.Ns mainGlobals mg->FnOk l.prog w K mg base CX0 23 fa fd ["_law_script"] (zty K):=by
 have e:=hfa.symm.trans (PySem.W.mg_of X G a41)
 cases e
 have F_are_rising_rows:=z1c (st:=z0r) l0 c0 k0
 have B_are_rising_rows:=F_are_rising_rows.binds (ps:=["thing","is_row"]) fun _ _ _ _ _ _ us hl=>match us,hl with | [_,_],_=>rfl
 have d_are_rising_rows:Df K mg "are_rising_rows" z0r ["thing","is_row"] f0 _:=⟨F_are_rising_rows,PySem.W.mg_of X G a0,B_are_rising_rows⟩
 have F_worth_of:=z1c (st:=z2n) l1 c1 k1
 have B_worth_of:=F_worth_of.binds (ps:=["word","one","other"]) fun _ _ _ _ _ _ us hl=>match us,hl with | [_,_,_],_=>rfl
 have d_worth_of:Df K mg "worth_of" z2n ["word","one","other"] f1 _:=⟨F_worth_of,PySem.W.mg_of X G a1,B_worth_of⟩
 have F_joined:=z1c (st:=z5d) l2 c2 k2
 have B_joined:=F_joined.binds (ps:=["one","other"]) fun _ _ _ _ _ _ us hl=>match us,hl with | [_,_],_=>rfl
 have d_joined:Df K mg "joined" z5d ["one","other"] f2 _:=⟨F_joined,PySem.W.mg_of X G a2,B_joined⟩
 have F_met:=z1c (st:=zfj) l3 c3 k3
 have B_met:=F_met.binds (ps:=["one","other"]) fun _ _ _ _ _ _ us hl=>match us,hl with | [_,_],_=>rfl
 have d_met:Df K mg "met" zfj ["one","other"] f3 _:=⟨F_met,PySem.W.mg_of X G a3,B_met⟩
 have F_is_within:=z1c (st:=z2y) l4 c4 k4
 have B_is_within:=F_is_within.binds (ps:=["one","other"]) fun _ _ _ _ _ _ us hl=>match us,hl with | [_,_],_=>rfl
 have d_is_within:Df K mg "is_within" z2y ["one","other"] f4 _:=⟨F_is_within,PySem.W.mg_of X G a4,B_is_within⟩
 have F_between:=z1c (st:=z5e) l5 c5 k5
 have B_between:=F_between.binds (ps:=["low","high"]) fun _ _ _ _ _ _ us hl=>match us,hl with | [_,_],_=>rfl
 have d_between:Df K mg "between" z5e ["low","high"] f5 _:=⟨F_between,PySem.W.mg_of X G a5,B_between⟩
 have F_stretch_of:=z1c (st:=z0o) l6 c6 k6
 have B_stretch_of:=F_stretch_of.binds (ps:=["word","one","other"]) fun _ _ _ _ _ _ us hl=>match us,hl with | [_,_,_],_=>rfl
 have d_stretch_of:Df K mg "stretch_of" z0o ["word","one","other"] f6 _:=⟨F_stretch_of,PySem.W.mg_of X G a6,B_stretch_of⟩
 have F_stretch_of_same:=z1c (st:=z0i) l7 c7 k7
 have B_stretch_of_same:=F_stretch_of_same.binds (ps:=["one","other"]) fun _ _ _ _ _ _ us hl=>match us,hl with | [_,_],_=>rfl
 have d_stretch_of_same:Df K mg "stretch_of_same" z0i ["one","other"] f7 _:=⟨F_stretch_of_same,PySem.W.mg_of X G a7,B_stretch_of_same⟩
 have F_stretch_of_ends:=z1c (st:=z0l) l8 c8 k8
 have B_stretch_of_ends:=F_stretch_of_ends.binds (ps:=["word","one","other"]) fun _ _ _ _ _ _ us hl=>match us,hl with | [_,_,_],_=>rfl
 have d_stretch_of_ends:Df K mg "stretch_of_ends" z0l ["word","one","other"] f8 _:=⟨F_stretch_of_ends,PySem.W.mg_of X G a8,B_stretch_of_ends⟩
 have F_reckoned_from:=z1c (st:=z0v) l9 c9 k9
 have B_reckoned_from:=F_reckoned_from.binds (ps:=["term","book"]) fun _ _ _ _ _ _ us hl=>match us,hl with | [_,_],_=>rfl
 have d_reckoned_from:Df K mg "reckoned_from" z0v ["term","book"] f9 _:=⟨F_reckoned_from,PySem.W.mg_of X G a9,B_reckoned_from⟩
 have F_behind:=z1c (st:=z3u) l10 c10 k10
 have B_behind:=F_behind.binds (ps:=["term","book","is_so"]) fun _ _ _ _ _ _ us hl=>match us,hl with | [_,_,_],_=>rfl
 have d_behind:Df K mg "behind" z3u ["term","book","is_so"] f10 _:=⟨F_behind,PySem.W.mg_of X G a10,B_behind⟩
 have F_behind_question:=z1c (st:=z09) l11 c11 k11
 have B_behind_question:=F_behind_question.binds (ps:=["term","book","is_so"]) fun _ _ _ _ _ _ us hl=>match us,hl with | [_,_,_],_=>rfl
 have d_behind_question:Df K mg "behind_question" z09 ["term","book","is_so"] f11 _:=⟨F_behind_question,PySem.W.mg_of X G a11,B_behind_question⟩
 have F_with_left:=z1c (st:=z1x) l12 c12 k12
 have B_with_left:=F_with_left.binds (ps:=["book","name","stretch"]) fun _ _ _ _ _ _ us hl=>match us,hl with | [_,_,_],_=>rfl
 have d_with_left:Df K mg "with_left" z1x ["book","name","stretch"] f12 _:=⟨F_with_left,PySem.W.mg_of X G a12,B_with_left⟩
 have F_left_of_name:=z1c (st:=z1a) l13 c13 k13
 have B_left_of_name:=F_left_of_name.binds (ps:=["own","is_so"]) fun _ _ _ _ _ _ us hl=>match us,hl with | [_,_],_=>rfl
 have d_left_of_name:Df K mg "left_of_name" z1a ["own","is_so"] f13 _:=⟨F_left_of_name,PySem.W.mg_of X G a13,B_left_of_name⟩
 have F_left_of_one:=z1c (st:=z11) l14 c14 k14
 have B_left_of_one:=F_left_of_one.binds (ps:=["word","own","other","is_so"]) fun _ _ _ _ _ _ us hl=>match us,hl with | [_,_,_,_],_=>rfl
 have d_left_of_one:Df K mg "left_of_one" z11 ["word","own","other","is_so"] f14 _:=⟨F_left_of_one,PySem.W.mg_of X G a14,B_left_of_one⟩
 have F_left_of_other:=z1c (st:=z0n) l15 c15 k15
 have B_left_of_other:=F_left_of_other.binds (ps:=["word","own","one","is_so"]) fun _ _ _ _ _ _ us hl=>match us,hl with | [_,_,_,_],_=>rfl
 have d_left_of_other:Df K mg "left_of_other" z0n ["word","own","one","is_so"] f15 _:=⟨F_left_of_other,PySem.W.mg_of X G a15,B_left_of_other⟩
 have F_left_by_same:=z1c (st:=z13) l16 c16 k16
 have B_left_by_same:=F_left_by_same.binds (ps:=["own","beside","is_so"]) fun _ _ _ _ _ _ us hl=>match us,hl with | [_,_,_],_=>rfl
 have d_left_by_same:Df K mg "left_by_same" z13 ["own","beside","is_so"] f16 _:=⟨F_left_by_same,PySem.W.mg_of X G a16,B_left_by_same⟩
 have F_without:=z1c (st:=z4m) l17 c17 k17
 have B_without:=F_without.binds (ps:=["own","worth"]) fun _ _ _ _ _ _ us hl=>match us,hl with | [_,_],_=>rfl
 have d_without:Df K mg "without" z4m ["own","worth"] f17 _:=⟨F_without,PySem.W.mg_of X G a17,B_without⟩
 have F_shown:=z1c (st:=z5t) l18 c18 k18
 have B_shown:=F_shown.binds (ps:=["program","paper"]) fun _ _ _ _ _ _ us hl=>match us,hl with | [_,_],_=>rfl
 have d_shown:Df K mg "shown" z5t ["program","paper"] f18 _:=⟨F_shown,PySem.W.mg_of X G a18,B_shown⟩
 have F_notes_by:=z1c (st:=z2o) l19 c19 k19
 have B_notes_by:=F_notes_by.binds (ps:=["program","paper"]) fun _ _ _ _ _ _ us hl=>match us,hl with | [_,_],_=>rfl
 have d_notes_by:Df K mg "notes_by" z2o ["program","paper"] f19 _:=⟨F_notes_by,PySem.W.mg_of X G a19,B_notes_by⟩
 have F_walk_by_paper:=z1c (st:=z0g) l20 c20 k20
 have B_walk_by_paper:=F_walk_by_paper.binds (ps:=["program","thing"]) fun _ _ _ _ _ _ us hl=>match us,hl with | [_,_],_=>rfl
 have d_walk_by_paper:Df K mg "walk_by_paper" z0g ["program","thing"] f20 _:=⟨F_walk_by_paper,PySem.W.mg_of X G a20,B_walk_by_paper⟩
 have F_is_paper_row:=z1c (st:=z4n) l21 c21 k21
 have B_is_paper_row:=F_is_paper_row.binds (ps:=["thing"]) fun _ _ _ _ _ _ us hl=>match us,hl with | [_],_=>rfl
 have d_is_paper_row:Df K mg "is_paper_row" z4n ["thing"] f21 _:=⟨F_is_paper_row,PySem.W.mg_of X G a21,B_is_paper_row⟩
 have F_heads_of:=z1c (st:=z1y) l22 c22 k22
 have B_heads_of:=F_heads_of.binds (ps:=["paper"]) fun _ _ _ _ _ _ us hl=>match us,hl with | [_],_=>rfl
 have d_heads_of:Df K mg "heads_of" z1y ["paper"] f22 _:=⟨F_heads_of,PySem.W.mg_of X G a22,B_heads_of⟩
 have F_book_of:=z1c (st:=z27) l23 c23 k23
 have B_book_of:=F_book_of.binds (ps:=["shelf"]) fun _ _ _ _ _ _ us hl=>match us,hl with | [_],_=>rfl
 have d_book_of:Df K mg "book_of" z27 ["shelf"] f23 _:=⟨F_book_of,PySem.W.mg_of X G a23,B_book_of⟩
 have F_is_held:=z1c (st:=z41) l24 c24 k24
 have B_is_held:=F_is_held.binds (ps:=["wants","heads"]) fun _ _ _ _ _ _ us hl=>match us,hl with | [_,_],_=>rfl
 have d_is_held:Df K mg "is_held" z41 ["wants","heads"] f24 _:=⟨F_is_held,PySem.W.mg_of X G a24,B_is_held⟩
 have F_is_book_within:=z1c (st:=z3o) l25 c25 k25
 have B_is_book_within:=F_is_book_within.binds (ps:=["one","other"]) fun _ _ _ _ _ _ us hl=>match us,hl with | [_,_],_=>rfl
 have d_is_book_within:Df K mg "is_book_within" z3o ["one","other"] f25 _:=⟨F_is_book_within,PySem.W.mg_of X G a25,B_is_book_within⟩
 have F_walked:=z1c (st:=z3t) l26 c26 k26
 have B_walked:=F_walked.binds (ps:=["program","heads"]) fun _ _ _ _ _ _ us hl=>match us,hl with | [_,_],_=>rfl
 have d_walked:Df K mg "walked" z3t ["program","heads"] f26 _:=⟨F_walked,PySem.W.mg_of X G a26,B_walked⟩
 have F_go_block:=z1c (st:=z19) l27 c27 k27
 have B_go_block:=F_go_block.binds (ps:=["block","path","book","walk"]) fun _ _ _ _ _ _ us hl=>match us,hl with | [_,_,_,_],_=>rfl
 have d_go_block:Df K mg "go_block" z19 ["block","path","book","walk"] f27 _:=⟨F_go_block,PySem.W.mg_of X G a27,B_go_block⟩
 have F_go_deed:=z1c (st:=z2s) l28 c28 k28
 have B_go_deed:=F_go_deed.binds (ps:=["deed","path","book","walk"]) fun _ _ _ _ _ _ us hl=>match us,hl with | [_,_,_,_],_=>rfl
 have d_go_deed:Df K mg "go_deed" z2s ["deed","path","book","walk"] f28 _:=⟨F_go_deed,PySem.W.mg_of X G a28,B_go_deed⟩
 have F_go_set:=z1c (st:=z2r) l29 c29 k29
 have B_go_set:=F_go_set.binds (ps:=["deed","path","book","walk"]) fun _ _ _ _ _ _ us hl=>match us,hl with | [_,_,_,_],_=>rfl
 have d_go_set:Df K mg "go_set" z2r ["deed","path","book","walk"] f29 _:=⟨F_go_set,PySem.W.mg_of X G a29,B_go_set⟩
 have F_go_if:=z1c (st:=z2z) l30 c30 k30
 have B_go_if:=F_go_if.binds (ps:=["deed","path","book","walk"]) fun _ _ _ _ _ _ us hl=>match us,hl with | [_,_,_,_],_=>rfl
 have d_go_if:Df K mg "go_if" z2z ["deed","path","book","walk"] f30 _:=⟨F_go_if,PySem.W.mg_of X G a30,B_go_if⟩
 have F_go_while:=z1c (st:=z7u) l31 c31 k31
 have B_go_while:=F_go_while.binds (ps:=["deed","path","book","walk"]) fun _ _ _ _ _ _ us hl=>match us,hl with | [_,_,_,_],_=>rfl
 have d_go_while:Df K mg "go_while" z7u ["deed","path","book","walk"] f31 _:=⟨F_go_while,PySem.W.mg_of X G a31,B_go_while⟩
 have F_side_of:=z1c (st:=z26) l32 c32 k32
 have B_side_of:=F_side_of.binds (ps:=["term","has","book","is_so"]) fun _ _ _ _ _ _ us hl=>match us,hl with | [_,_,_,_],_=>rfl
 have d_side_of:Df K mg "side_of" z26 ["term","has","book","is_so"] f32 _:=⟨F_side_of,PySem.W.mg_of X G a32,B_side_of⟩
 have F_show:=z1c (st:=z5l) l33 c33 k33
 have B_show:=F_show.binds (ps:=["term","path","book","walk"]) fun _ _ _ _ _ _ us hl=>match us,hl with | [_,_,_,_],_=>rfl
 have d_show:Df K mg "show" z5l ["term","path","book","walk"] f33 _:=⟨F_show,PySem.W.mg_of X G a33,B_show⟩
 have F_noted:=z1c (st:=z6c) l34 c34 k34
 have B_noted:=F_noted.binds (ps:=["stretch","path","walk"]) fun _ _ _ _ _ _ us hl=>match us,hl with | [_,_,_],_=>rfl
 have d_noted:Df K mg "noted" z6c ["stretch","path","walk"] f34 _:=⟨F_noted,PySem.W.mg_of X G a34,B_noted⟩
 have F_joined_books:=z1c (st:=z0x) l35 c35 k35
 have B_joined_books:=F_joined_books.binds (ps:=["one","other"]) fun _ _ _ _ _ _ us hl=>match us,hl with | [_,_],_=>rfl
 have d_joined_books:Df K mg "joined_books" z0x ["one","other"] f35 _:=⟨F_joined_books,PySem.W.mg_of X G a35,B_joined_books⟩
 have F_law_cell:=z1c (st:=z3q) l36 c36 k36
 have B_law_cell:=F_law_cell.binds (ps:=["_law_script","_law_k"]) fun _ _ _ _ _ _ us hl=>match us,hl with | [_,_],_=>rfl
 have d_law_cell:Df K mg "_law_cell" z3q ["_law_script","_law_k"] f36 _:=⟨F_law_cell,PySem.W.mg_of X G a36,B_law_cell⟩
 have F_law_pick:=z1c (st:=z2f) l37 c37 k37
 have B_law_pick:=F_law_pick.binds (ps:=["_law_script","_law_k","_law_many"]) fun _ _ _ _ _ _ us hl=>match us,hl with | [_,_,_],_=>rfl
 have d_law_pick:Df K mg "_law_pick" z2f ["_law_script","_law_k","_law_many"] f37 _:=⟨F_law_pick,PySem.W.mg_of X G a37,B_law_pick⟩
 have F_law_reckoned:=z1c (st:=z1b) l38 c38 k38
 have B_law_reckoned:=F_law_reckoned.binds (ps:=["_law_word","_law_one","_law_other"]) fun _ _ _ _ _ _ us hl=>match us,hl with | [_,_,_],_=>rfl
 have d_law_reckoned:Df K mg "_law_reckoned" z1b ["_law_word","_law_one","_law_other"] f38 _:=⟨F_law_reckoned,PySem.W.mg_of X G a38,B_law_reckoned⟩
 have F_law_side:=z1c (st:=z3p) l39 c39 k39
 have B_law_side:=F_law_side.binds (ps:=["_law_script","_law_at"]) fun _ _ _ _ _ _ us hl=>match us,hl with | [_,_],_=>rfl
 have d_law_side:Df K mg "_law_side" z3p ["_law_script","_law_at"] f39 _:=⟨F_law_side,PySem.W.mg_of X G a39,B_law_side⟩
 have F_law_of:=z1c (st:=z5z) l40 c40 k40
 have B_law_of:=F_law_of.binds (ps:=["_law_side_here","_law_a","_law_b"]) fun _ _ _ _ _ _ us hl=>match us,hl with | [_,_,_],_=>rfl
 have d_law_of:Df K mg "_law_of" z5z ["_law_side_here","_law_a","_law_b"] f40 _:=⟨F_law_of,PySem.W.mg_of X G a40,B_law_of⟩
 have F_law:=z1c (st:=z2c) l41 c41 k41
 have F_Walk_init:=z1c (st:=z42) ml_Walk_init mc_Walk_init mk_Walk_init
 have B_Walk_init:=F_Walk_init.binds (ps:=["self","heads"]) fun _ _ _ _ _ _ us hl=>match us,hl with | [_,_],_=>rfl
 have b_min:=PySem.W.mg_none_of X G z_min
 have b_max:=PySem.W.mg_none_of X G z_max
 have b_sorted:=PySem.W.mg_none_of X G z_sorted
 have b_range:=PySem.W.mg_none_of X G z_range
 have b_len:=PySem.W.mg_none_of X G z_len
 have b_enumerate:=PySem.W.mg_none_of X G z_enumerate
 have b_zip:=PySem.W.mg_none_of X G z_zip
 have b_dict:=PySem.W.mg_none_of X G z_dict
 have b_isinstance:=PySem.W.mg_none_of X G z_isinstance
 have b_tuple:=PySem.W.mg_none_of X G z_tuple
 have b_all:=PySem.W.mg_none_of X G z_all
 refine⟨PySem.W.fnOf "law" "law" (defArgs z2c) (defBody z2c) (defScope z2c) .none kV41 dc41 pm41 an41 cd41 ct41,fun s v=>.of_eq rfl,fun base _ _=>?_⟩
 have c_worth_of:=d_worth_of.callee (zmp (P:=l.prog) (w:=w) (base:=base) F_worth_of b_min b_max)
 have c_between:=d_between.callee (zpp (P:=l.prog) (w:=w) (base:=base) F_between)
 have c_joined:=d_joined.callee (zrx (P:=l.prog) (w:=w) (base:=base) F_joined b_min b_max)
 have c_metK:=d_met.callee (zxh F_met b_min b_max c_between)
 have c_met:=Callee.imp c_metK zwz
 have c_within:=d_is_within.callee (zjq F_is_within c_metK)
 have c_same:=d_stretch_of_same.callee (zcf F_stretch_of_same c_met)
 have c_ends:=d_stretch_of_ends.callee (zcg F_stretch_of_ends b_min b_max c_worth_of)
 have c_of:=d_stretch_of.callee (zjp F_stretch_of b_min b_max c_between c_joined c_same c_ends)
 have c_cell:=d_law_cell.callee (zxi (P:=l.prog) (w:=w) (base:=base) F_law_cell b_len)
 have c_pick:=d_law_pick.callee (zxf F_law_pick c_cell)
 have c_rk:=d_law_reckoned.callee (zgs (P:=l.prog) (w:=w) (base:=base) F_law_reckoned b_sorted)
 have c_without:=d_without.callee (zpm F_without c_between)
 have c_bysame:=d_left_by_same.callee (zgr F_left_by_same c_met c_without)
 have c_lone:=d_left_of_one.callee (zi6 F_left_of_one b_min b_max c_between c_bysame)
 have c_lother:=d_left_of_other.callee (zfl F_left_of_other b_min b_max c_between c_bysame)
 have c_lname:=d_left_of_name.callee (zgq F_left_of_name c_met c_without)
 have c_with:=d_with_left.callee (zl3 (P:=l.prog) (w:=w) (base:=base) F_with_left b_dict)
 have g_WIDE:GC mg "WIDE" (.ref ai):=⟨_,PySem.W.mg_of X G pw,rfl⟩
 have hI:∀H,SqT K H ai [.int (-32768),.int 32767]:=zza ph (.cons ⟨_,rfl⟩ (.cons ⟨_,rfl⟩ .nil)) (show(2:Nat)<=sizeLine by decide)
 have g_ZERO:GC mg "ZERO" (.ref az):=⟨_,PySem.W.mg_of X G pz,rfl⟩
 have hZ:∀H,SqT K H az [.int 0,.int 0]:=zza phz (.cons ⟨_,rfl⟩ (.cons ⟨_,rfl⟩ .nil)) (show(2:Nat)<=sizeLine by decide)
 have c_rf0:=d_reckoned_from.callee (k:=0) (zxg (P:=l.prog) (w:=w) (base:=base))
 have c_rf:=d_reckoned_from.callee (zfk F_reckoned_from g_WIDE c_met c_of c_rf0)
 have c_bq:=d_behind_question.callee (zch F_behind_question b_dict c_rf c_with c_lone c_lother)
 have c_bh:Callee l.prog w K mg base "behind" ["term","book","is_so"] 7 (q25 isQ bhd):=d_behind.callee (zrz F_behind b_dict c_with c_lname c_bq)
 have c_noted:=d_noted.callee (zui F_noted g_WIDE hI c_metK)
 have c_sh0:=d_show.callee (k:=5) (zs2 (P:=l.prog) (w:=w) (base:=base) (K:=K) (mg:=mg))
 have c_sh1:=d_show.callee (ze7 (n:=0) F_show c_noted c_of c_sh0)
 have c_sh2:=d_show.callee (ze7 (n:=1) F_show c_noted c_of c_sh1)
 have c_sh3:=d_show.callee (ze7 (n:=2) F_show c_noted c_of c_sh2)
 have c_sh4:=d_show.callee (ze7 (n:=3) F_show c_noted c_of c_sh3)
 have c_sh5:=d_show.callee (ze7 (n:=4) F_show c_noted c_of c_sh4)
 have c_sh6:=d_show.callee (ze7 (n:=5) F_show c_noted c_of c_sh5)
 have c_side:=d_side_of.callee (zpn F_side_of g_ZERO hZ c_within c_bh)
 have c_jb:=d_joined_books.callee (zgt F_joined_books c_joined)
 have c_set:=d_go_set.callee (zry (bh:=bhd) F_go_set b_dict c_sh6)
 have c_while:=d_go_while.callee (k:=0) (zxg (P:=l.prog) (w:=w) (base:=base))
 have c_gb0:=d_go_block.callee (k:=12) (zum (P:=l.prog) (w:=w) (base:=base) (K:=K) (mg:=mg) (bh:=bhd) (Pq:=isQ))
 have c_if0:=d_go_if.callee (zo0 (n:=0) zhf F_go_if c_sh6 c_side c_jb c_gb0)
 have c_dd0:=d_go_deed.callee (zj0 (n:=0) F_go_deed c_set c_if0 c_while)
 have c_gb1:=d_go_block.callee (zgu (n:=0) zhf F_go_block b_enumerate c_dd0)
 have c_if1:=d_go_if.callee (zo0 (n:=1) zhf F_go_if c_sh6 c_side c_jb c_gb1)
 have c_dd1:=d_go_deed.callee (zj0 (n:=1) F_go_deed c_set c_if1 c_while)
 have c_gb2:=d_go_block.callee (zgu (n:=1) zhf F_go_block b_enumerate c_dd1)
 have c_book:=d_book_of.callee (zpo (P:=l.prog) (w:=w) (base:=base) F_book_of)
 have c_heads:=d_heads_of.callee (zl5 F_heads_of c_book)
 have c_rise:=d_are_rising_rows.callee (zi7 (P:=l.prog) (w:=w) (base:=base) F_are_rising_rows b_isinstance b_tuple b_all b_zip)
 have i_init:CalleeI l.prog w K mg base a_Walk _ 1 _:=⟨_,_,zl6 (P:=l.prog) (w:=w) (base:=base) F_Walk_init t_Walk,⟨mk_Walk,ma_Walk_init,mf_Walk_init,kp_Walk⟩,B_Walk_init⟩
 have c_walked:=d_walked.callee (zru (n:=2) F_walked (PySem.W.mg_of X G x_Walk) t_Walk i_init c_book c_gb2)
 have c_ibw:=d_is_book_within.callee (k:=0) (zxg (P:=l.prog) (w:=w) (base:=base))
 have c_held:=d_is_held.callee (zmr F_is_held b_sorted b_all c_ibw)
 have c_wbp:=d_walk_by_paper.callee (ze6 (n:=2) (v:=V.ref _) F_walk_by_paper t_Walk ⟨_,d_is_paper_row.m,rfl⟩ c_rise c_heads c_walked c_held)
 have c_notes:=d_notes_by.callee (zl4 (n:=2) F_notes_by c_wbp)
 have c_shown:=d_shown.callee (zrv (n:=2) F_shown b_sorted c_notes)
 have c_lside:=d_law_side.callee (zmq F_law_side c_pick)
 have c_lof:=d_law_of.callee (zrw (P:=l.prog) (w:=w) (base:=base) F_law_of)
 exact zzz F_law b_range b_dict b_max b_min c_pick c_lside c_rk c_lof c_shown
theorem z55{l:PySem.W.OpenLaw}{q:Program}{loose:List Str}{XP:(Str->Option Value)->Heap->Prop}{YP:World->Heap->Prop}{d:DefRec}{K:Params->PySem.W.Frag}(hn:l.most=some 63)(hdf:d.params.defaults=[])
  (hY:∀(w:World) (h:Heap),YP w h->(K w.params).In h)
  (F:∀(w:World) (mg:Str->Option Value) (fa:Addr) (h:Heap),(K w.params).In h->h.Ns mainGlobals mg->mg d.name=some (.ref fa)->
   ∃fd:FuncData,(∀(s:Shared) (u:Value),BindsTo s fd ⟨[u],[]⟩ [("_law_script",u)])/\∀base:Heap,(K w.params).In base->base.Ns mainGlobals mg->FnOk l.prog w (K w.params) mg base CX0 23 fa fd ["_law_script"] (zty (K w.params))) :
  PySem.W.WalkO q loose XP YP l.row.toRowW d [] (fun f vs=>PySem.call f vs):=
 L2.zwg (n:=63) (k:=23) (x:="_law_script") (CX:=fun _=>CX0) (sp:=fun w=>zty (K w.params)) hn (by decide) hdf ⟨rfl,by decide,by decide⟩ hY F (fun _ _ a ns hl _ hS=>⟨a,ns,rfl,hS,hl,fun _=>rfl⟩) fun _ _ _ _ _ z=>z
end SR
namespace PySem.W.Fast
def tw6341024799830859392:=0
def tw10234971134705786027:=0
def tw8752770759214178323:=0
def tw281991326144040549:=0
def tw12441265865285522856:=0
def tw16428306902794572025:=0
def tw7381867157677857992:=0
def tw8466351880357394440:=0
def tw16147205631647115689:=0
def tw9222011748642570094:=0
def tw13010864562780797774:=0
def tw2031851267368185475:=0
def tw4901169103495623713:=0
def tw15778618679435779453:=0
def tw12827622850197060248:=0
def tw10836366835042229256:=0
def tw17584055504093046001:=0
def tw8089732702452683583:=0
def tw16892705000598656450:=0
def tw14166212171378811182:=0
def tw13823824504811807095:=0
def tw5405771454173154504:=0
def tw1711216606353908656:=0
def tw4869676662259978923:=0
def tw9401691739185242729:=0
def tw11562162852624766515:=0
def tw5384301067876378613:=0
def tw1200713082750835569:=0
def tw12228596355349166901:=0
def tw17763398653922393765:=0
def tw11900502605400592348:=0
def tw3571960416090558430:=0
def tw9892201902112637144:=0
def tw18243522389952962998:=0
def tw10762645380356709424:=0
def tw840722488567382693:=0
def tw17415514990434770231:=0
def tw1534482905551679232:=0
def tw17854271564146441381:=0
def tw14983691034783565746:=0
def tw8535794333099415558:=0
def tw16031670490075511176:=0
def tw16351567633633588585:=0
def tw17487365744169780372:=0
def tw8079773975229145666:=0
def tw16205949192836160727:=0
def tw333369387977332180:=0
def tw9848430284978456669:=0
def tw2914230326628756710:=0
def tw4878744465430866296:=0
def tw6791097640461530329:=0
def tw8035847217002612532:=0
def tw4318260222310662232:=0
def tw15729331990046032103:=0
def tw1575505630820172465:=0
def tw13744875747567834740:=0
def tw3157065404392003175:=0
def tw1633138185473875021:=0
def tw16976631875001628925:=0
def tw13388218590314789787:=0
def tw10317209282932146298:=0
def tw4341051386077257414:=0
def tw14484239420653187567:=0
def tw13777758352384937425:=0
def tw5969982018454727279:=0
def tw1684374106966505930:=0
def tw1207749705242525609:=0
def tw1953638513678432726:=0
def tw2751201411327135744:=0
def tw7188187879900266944:=0
def tw14736970718403794594:=0
def tw6510708112080586017:=0
def tw4633747162175913778:=0
def tw13202212355657764531:=0
def tw402908068467544327:=0
def tw16693634799778188218:=0
def tw11309370447686022008:=0
def tw2252231889909452561:=0
def tw3433892421619856784:=0
def tw8660112373453245593:=0
def tw6245601210984208738:=0
def tw11353811599277771970:=0
def tw5049033991296276390:=0
def tw17477490923945682163:=0
def tw9339206486232989940:=0
def tw12946557698300800893:=0
def tw2094108532502293257:=0
def tw12898955197067398964:=0
def tw17419127834285735026:=0
def tw11028360777585417699:=0
def tw11997033991386402311:=0
def tw15424232025311878796:=0
def tw9822203543531730867:=0
def tw13497617151574107218:=0
def tw17133430015128074921:=0
def tw17321315557849882802:=0
def tw7693073582588954786:=0
def tw16254805227696057174:=0
def tw2768714794913322739:=0
def tw17074237469295299958:=0
def tw12102677672407638961:=0
def tw3121842597855863791:=0
def tw11651081566031609182:=0
def tw10483361019217410036:=0
def tw12983773965386101103:=0
def tw8718542784051979287:=0
def tw4839228877042681874:=0
def tw7539796460075007417:=0
def tw15352233291941335704:=0
def tw3316273084743036060:=0
def tw13800482509949695488:=0
def tw16255866385668250344:=0
def tw3198142902993212840:=0
def tw834645593859509832:=0
def tw1929208232273910647:=0
def tw2496553755209849146:=0
def tw3899536599287620208:=0
def tw15355667773872202468:=0
def tw2614539707412322932:=0
def tw12592888579374931450:=0
def tw9584843593507184011:=0
def tw12679113615502540361:=0
def tw8835971923764345315:=0
def tw11052804989003018195:=0
def tw15727046308485084391:=0
def tw17587734631720083501:=0
def tw12216078767467491936:=0
def tw3535990920018306997:=0
def tw5718803412992631167:=0
def tw17363451782012554242:=0
def tw1059127844937474338:=0
def tw11774341930929680260:=0
def tw6750538588475502827:=0
def tw3025752785778373233:=0
def tw11731600410590233664:=0
def tw4741827512011509145:=0
def tw4461932903117379557:=0
def tw4197660119231150152:=0
def tw6308165128892678553:=0
def tw13483190378821706843:=0
def tw3469404428901350101:=0
def tw14720947323842378506:=0
def tw8983941206641841481:=0
def tw10257539758295387347:=0
def tw10976796993432742236:=0
def tw18203119765204127598:=0
def tw7176957430013396061:=0
def tw5149617676472793132:=0
def tw3051572612597440594:=0
def tw9646321536970148918:=0
def tw4302098158589506202:=0
def tw12311966007109509416:=0
def tw7464362729665240544:=0
def tw10499487973662079995:=0
def tw4757271642456123355:=0
def tw6470004593794023377:=0
def tw4058151617009522334:=0
def tw14623408246397086518:=0
def tw9768575317267503178:=0
def tw3204248424269760965:=0
def tw763145370641405840:=0
def tw9348442203580099829:=0
def tw4169897046249908851:=0
def tw7690607196929293033:=0
def tw12275667180398625378:=0
def tw562565794124476198:=0
def tw17182453787233600861:=0
def tw8904235472661353390:=0
def tw17377901835473991418:=0
def tw16204363240596429882:=0
def tw16430123619575625285:=0
def tw3131146868880468718:=0
def tw14295200139882389837:=0
def tw12297365914377115057:=0
def tw4116796131845799797:=0
def tw12889624038093813627:=0
def tw10443140416082875882:=0
def tw816582739518383828:=0
def tw7218264032166673759:=0
def tw18399673963668663923:=0
def tw3132997061913727335:=0
def tw4044432046756939467:=0
def tw2648409957810099739:=0
def tw16156025513880089356:=0
def tw9922019348520177203:=0
def tw829001473402578206:=0
def tw8416403382632618325:=0
def tw15613904436951838236:=0
def tw8891926772079616127:=0
def tw7081646561464597329:=0
def tw16779874605429175248:=0
def tw2712767687186180795:=0
def tw17661994550672923083:=0
def tw3751207726162252568:=0
def tw12974402547443362209:=0
def tw11704145512120931106:=0
def tw16421811942029177755:=0
def tw14953140485036584114:=0
def tw3445053356850770098:=0
def tw15418252754079707744:=0
def tw13651107768694026885:=0
def tw9118129025132643785:=0
def tw11437439687651938703:=0
def tw14554828733960787424:=0
def tw14165851141443330528:=0
def tw3555049135302716862:=0
def tw15390104279220311135:=0
def tw1163390252407371625:=0
def tw17188281786011758261:=0
def tw16932537849206419239:=0
def tw15950232725502683471:=0
def tw8291668963861794657:=0
def tw72520783506870631:=0
def tw17762950135155026548:=0
def tw60528059059532002:=0
def tw9605461393057743860:=0
def tw759520434385354579:=0
def tw1588022564583621451:=0
def tw10017823157824607254:=0
def tw10744311876720285964:=0
def tw4285111909131852599:=0
def tw986387133977675825:=0
def tw2528531499575918657:=0
def tw15480966114076367345:=0
def tw13127995103696090968:=0
def tw10421199416135988329:=0
def tw1804889520703810585:=0
def tw7243771943986599581:=0
def tw11765620423139186800:=0
def tw12819121204214590521:=0
def tw1427454733782689965:=0
def tw4010303439867072478:=0
def tw8156729113043435004:=0
def tw7268991561049121306:=0
def tw9532585683508725987:=0
def tw10742142546490715963:=0
def tw4434973847194439731:=0
def tw14369486181401150905:=0
def tw819426624608106029:=0
def tw16822173501428008734:=0
def tw12321952420128312630:=0
def tw7999255727154299546:=0
def tw3485660142271105341:=0
def tw6933077242661418597:=0
def tw1767078001736121725:=0
def tw9935890558914871238:=0
def tw15183879310083311214:=0
def tw12312846953849034587:=0
def tw13491996129682336288:=0
def tw17716475003117281245:=0
def tw4292098897410170400:=0
def tw9957809701040076954:=0
def tw829990315336753359:=0
def tw235199665964780187:=0
def tw17207771864574216565:=0
def tw7797697544474920750:=0
def tw7991174658958849469:=0
def tw5434470267969854976:=0
def tw14689882538248399341:=0
def tw10548118263421296808:=0
def tw7047842864595849423:=0
def tw7091231251957528976:=0
def tw8118752462492737064:=0
def tw1445118156428142552:=0
def tw12587181571879421390:=0
def tw1170089935645933954:=0
def tw6754605225053430294:=0
def tw5199644335056740677:=0
def tw3417812882635903200:=0
def tw8489525953171490308:=0
def tw506244754963630873:=0
def tw12757542897742089717:=0
def tw18314779615877757363:=0
def tw8579460803866423451:=0
def tw5789994941788383149:=0
def tw4875294514314431470:=0
def tw9408416607153564024:=0
def tw8217920312500835566:=0
def tw5847314734854717287:=0
def tw564440858941707585:=0
def tw17517598746059330766:=0
def tw6087107283411428119:=0
def tw6611802749634971399:=0
def tw16660710358087834818:=0
def tw18394557653731963476:=0
def tw16383741162435566548:=0
def tw9989538204220381922:=0
def tw6063159756258397328:=0
def tw572801667246459424:=0
def tw13271506487000211644:=0
def tw13621626642344776888:=0
def tw11297060532473689633:=0
def tw4215255981967632219:=0
def tw7103639299464109264:=0
def tw9753907603590095607:=0
def tw4266954776596032981:=0
def tw2487871871017370259:=0
def tw15315269981293639257:=0
def tw1113266022654217463:=0
def tw12420208578262182987:=0
def tw3965030239501994288:=0
def tw10710190058802438788:=0
def tw9435396026789899986:=0
def tw13097168915543852640:=0
def tw18025938878087655360:=0
def tw3469044576529983337:=0
def tw660067499193147329:=0
def tw7566194448919394039:=0
def tw8723109759652516439:=0
def tw12998136875477666197:=0
def tw490059167901587945:=0
def tw614670310088012685:=0
def tw4182107876149267971:=0
def tw15504361689883651759:=0
def tw2281235685504035119:=0
def tw9210607393834243149:=0
def tw6667441199841193494:=0
def tw2747345835563084842:=0
def tw3397187826954616557:=0
def tw7597639044690669402:=0
def tw17699102849021803888:=0
def tw5182564869234727388:=0
def tw9711362666874083699:=0
def tw11255184755858340990:=0
def tw9782761806516528579:=0
def tw11359680625589941612:=0
def tw11152530181779368918:=0
def tw15126656359106156417:=0
def tw17454763757902635185:=0
def tw11664947301667278890:=0
def tw18209925266998578535:=0
def tw4934177180805678285:=0
def tw4392064021490694165:=0
def tw2020105103039250539:=0
def tw8788944648377580541:=0
def tw796413508262983044:=0
def tw7144671892312908468:=0
def tw18289839701774900450:=0
def tw4944869898897101246:=0
def tw18124084649662344869:=0
def tw18336060137888307850:=0
def tw17467515698673904377:=0
def tw397724425840654479:=0
def tw10775598441750846801:=0
def tw978610625555364600:=0
def tw11137804067500094341:=0
def tw12585966795002650529:=0
def tw10844559433030538846:=0
def tw10137884222739615380:=0
def tw6938085214263477751:=0
def tw14394253419527182303:=0
def tw5010215104324136921:=0
def tw4256703208394053954:=0
def tw2651627521503686980:=0
def tw5984253182102456686:=0
def tw9992166906794309343:=0
def tw8008937741860568327:=0
def tw6355626609293113415:=0
def tw11856700588204916753:=0
def tw15011449209664750040:=0
def tw1071368928194974665:=0
def tw4847892781985986902:=0
def tw15163835343482145433:=0
def tw521480330111072302:=0
def tw8193107927878628225:=0
def tw7585899810610893971:=0
def tw283206591285202814:=0
end PySem.W.Fast
open PySem PySem.W PyProof.Rows
set_option maxRecDepth 100000 in
set_option maxHeartbeats 0 in
theorem PySem.Challenge.cw_smallrooms_k36_whole_branches_holds : PySem.Challenge.rw_smallrooms_k36_whole_branches.Holds := by
 w_on; o_law; k_head; (case hw=>w_witness2)
 k_fill
 refine SR.z55 (l:=PySem.Challenge.rw_smallrooms_k36_whole_branches) rfl rfl (fun w h Y=>PySem.W.kIn_of Y) ?F
 case F=>
  intro w mg fa h KX G hmg
  refine' SR.q0t KX G hmg ?a0 ?l0 ?c0 ?k0 ?a1 ?l1 ?c1 ?k1 ?a2 ?l2 ?c2 ?k2 ?a3 ?l3 ?c3 ?k3 ?a4 ?l4 ?c4 ?k4 ?a5 ?l5 ?c5 ?k5 ?a6 ?l6 ?c6 ?k6 ?a7 ?l7 ?c7 ?k7 ?a8 ?l8 ?c8 ?k8 ?a9 ?l9 ?c9 ?k9 ?a10 ?l10 ?c10 ?k10 ?a11 ?l11 ?c11 ?k11 ?a12 ?l12 ?c12 ?k12 ?a13 ?l13 ?c13 ?k13 ?a14 ?l14 ?c14 ?k14 ?a15 ?l15 ?c15 ?k15 ?a16 ?l16 ?c16 ?k16 ?a17 ?l17 ?c17 ?k17 ?a18 ?l18 ?c18 ?k18 ?a19 ?l19 ?c19 ?k19 ?a20 ?l20 ?c20 ?k20 ?a21 ?l21 ?c21 ?k21 ?a22 ?l22 ?c22 ?k22 ?a23 ?l23 ?c23 ?k23 ?a24 ?l24 ?c24 ?k24 ?a25 ?l25 ?c25 ?k25 ?a26 ?l26 ?c26 ?k26 ?a27 ?l27 ?c27 ?k27 ?a28 ?l28 ?c28 ?k28 ?a29 ?l29 ?c29 ?k29 ?a30 ?l30 ?c30 ?k30 ?a31 ?l31 ?c31 ?k31 ?a32 ?l32 ?c32 ?k32 ?a33 ?l33 ?c33 ?k33 ?a34 ?l34 ?c34 ?k34 ?a35 ?l35 ?c35 ?k35 ?a36 ?l36 ?c36 ?k36 ?a37 ?l37 ?c37 ?k37 ?a38 ?l38 ?c38 ?k38 ?a39 ?l39 ?c39 ?k39 ?a40 ?l40 ?c40 ?k40 ?a41 ?l41 ?c41 ?k41 ?x_Walk ?ma_Walk_init ?ml_Walk_init ?mc_Walk_init ?mf_Walk_init ?mk_Walk_init ?z_min ?z_max ?z_sorted ?z_range ?z_len ?z_enumerate ?z_zip ?z_dict ?z_isinstance ?z_tuple ?z_all ?pw ?ph ?pz ?phz ?t_Walk ?mk_Walk ?kp_Walk
  (case a0=>k_is); (case l0=>k_is); (case c0=>k_is); (case k0=>k_is)
  (case a1=>k_is); (case l1=>k_is); (case c1=>k_is); (case k1=>k_is)
  (case a2=>k_is); (case l2=>k_is); (case c2=>k_is); (case k2=>k_is)
  (case a3=>k_is); (case l3=>k_is); (case c3=>k_is); (case k3=>k_is)
  (case a4=>k_is); (case l4=>k_is); (case c4=>k_is); (case k4=>k_is)
  (case a5=>k_is); (case l5=>k_is); (case c5=>k_is); (case k5=>k_is)
  (case a6=>k_is); (case l6=>k_is); (case c6=>k_is); (case k6=>k_is)
  (case a7=>k_is); (case l7=>k_is); (case c7=>k_is); (case k7=>k_is)
  (case a8=>k_is); (case l8=>k_is); (case c8=>k_is); (case k8=>k_is)
  (case a9=>k_is); (case l9=>k_is); (case c9=>k_is); (case k9=>k_is)
  (case a10=>k_is); (case l10=>k_is); (case c10=>k_is); (case k10=>k_is)
  (case a11=>k_is); (case l11=>k_is); (case c11=>k_is); (case k11=>k_is)
  (case a12=>k_is); (case l12=>k_is); (case c12=>k_is); (case k12=>k_is)
  (case a13=>k_is); (case l13=>k_is); (case c13=>k_is); (case k13=>k_is)
  (case a14=>k_is); (case l14=>k_is); (case c14=>k_is); (case k14=>k_is)
  (case a15=>k_is); (case l15=>k_is); (case c15=>k_is); (case k15=>k_is)
  (case a16=>k_is); (case l16=>k_is); (case c16=>k_is); (case k16=>k_is)
  (case a17=>k_is); (case l17=>k_is); (case c17=>k_is); (case k17=>k_is)
  (case a18=>k_is); (case l18=>k_is); (case c18=>k_is); (case k18=>k_is)
  (case a19=>k_is); (case l19=>k_is); (case c19=>k_is); (case k19=>k_is)
  (case a20=>k_is); (case l20=>k_is); (case c20=>k_is); (case k20=>k_is)
  (case a21=>k_is); (case l21=>k_is); (case c21=>k_is); (case k21=>k_is)
  (case a22=>k_is); (case l22=>k_is); (case c22=>k_is); (case k22=>k_is)
  (case a23=>k_is); (case l23=>k_is); (case c23=>k_is); (case k23=>k_is)
  (case a24=>k_is); (case l24=>k_is); (case c24=>k_is); (case k24=>k_is)
  (case a25=>k_is); (case l25=>k_is); (case c25=>k_is); (case k25=>k_is)
  (case a26=>k_is); (case l26=>k_is); (case c26=>k_is); (case k26=>k_is)
  (case a27=>k_is); (case l27=>k_is); (case c27=>k_is); (case k27=>k_is)
  (case a28=>k_is); (case l28=>k_is); (case c28=>k_is); (case k28=>k_is)
  (case a29=>k_is); (case l29=>k_is); (case c29=>k_is); (case k29=>k_is)
  (case a30=>k_is); (case l30=>k_is); (case c30=>k_is); (case k30=>k_is)
  (case a31=>k_is); (case l31=>k_is); (case c31=>k_is); (case k31=>k_is)
  (case a32=>k_is); (case l32=>k_is); (case c32=>k_is); (case k32=>k_is)
  (case a33=>k_is); (case l33=>k_is); (case c33=>k_is); (case k33=>k_is)
  (case a34=>k_is); (case l34=>k_is); (case c34=>k_is); (case k34=>k_is)
  (case a35=>k_is); (case l35=>k_is); (case c35=>k_is); (case k35=>k_is)
  (case a36=>k_is); (case l36=>k_is); (case c36=>k_is); (case k36=>k_is)
  (case a37=>k_is); (case l37=>k_is); (case c37=>k_is); (case k37=>k_is)
  (case a38=>k_is); (case l38=>k_is); (case c38=>k_is); (case k38=>k_is)
  (case a39=>k_is); (case l39=>k_is); (case c39=>k_is); (case k39=>k_is)
  (case a40=>k_is); (case l40=>k_is); (case c40=>k_is); (case k40=>k_is)
  (case a41=>k_is); (case l41=>k_is); (case c41=>k_is); (case k41=>k_is)
  (case x_Walk=>k_is); (case ma_Walk_init=>k_is); (case ml_Walk_init=>k_is); (case mc_Walk_init=>k_is)
  (case mf_Walk_init=>k_is); (case mk_Walk_init=>k_is); (case z_min=>k_is); (case z_max=>k_is)
  (case z_sorted=>k_is); (case z_range=>k_is); (case z_len=>k_is); (case z_enumerate=>k_is)
  (case z_zip=>k_is); (case z_dict=>k_is); (case z_isinstance=>k_is); (case z_tuple=>k_is)
  (case z_all=>k_is); (case pw=>k_is); (case ph=>k_is); (case pz=>k_is)
  (case phz=>k_is); (case t_Walk=>exact⟨⟨by kernel_rfl,by kernel_rfl,by kernel_rfl,by kernel_rfl⟩,by unfold L2.NoAttr; kernel_rfl,by unfold L2.NoAttr; kernel_rfl,by unfold L2.NoAttr; kernel_rfl⟩); (case mk_Walk=>k_is); (case kp_Walk=>k_is)
