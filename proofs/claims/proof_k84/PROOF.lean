import PyProof.Rows.All
import Wide.All
import OpenK.AllK
import Wide.FinOn
import Lean
import PyProof.EqAt
import PyProof.EqKinds
import PyProof.TupleCall
import PyProof.AttrMissHeap
import PySem.Challenge.RW_smallrooms_k84_whole_shown_edges
set_option Elab.async false
set_option linter.all false
set_option maxRecDepth 100000
set_option Elab.async false
set_option linter.all false
set_option maxRecDepth 100000
namespace L2
open PySem PySem.Spec PyProof.Rows
abbrev Key:=Sum Int Str
def zty:Key->Value->Bool
 | .inl k,v=>Value.isInt k v
 | .inr x,v=>Value.isStrOf x v
def qdm(w:World):Key->Int
 | .inl k=>hashInt k
 | .inr x=>hashStr w x
theorem z3j:∀{k:Key} {v:Value},zty k v=true->(∃i t,k=Sum.inl i/\v=Value.int i t)\/(∃x t,k=Sum.inr x/\v=Value.str x t)
 | .inl i,v,h=>by
  obtain⟨t,e⟩:=Value.isInt_shape (k:=i) (v:=v) h
  exact .inl ⟨i,t,rfl,e⟩
 | .inr x,v,h=>by
  obtain⟨t,e⟩:=Value.isStrOf_shape (x:=x) (v:=v) h
  exact .inr ⟨x,t,rfl,e⟩
theorem q07(i:Int)(t:Tok):zty (.inl i) (.int i t)=true:=by simp[zty,Value.isInt]
theorem q06(x:Str)(t:Tok):zty (.inr x) (.str x t)=true:=by simp[zty,Value.isStrOf]
theorem q9m(a b:Int):decide ((Sum.inl a:Key)=Sum.inl b)=(a == b):=by
 by_cases e:a=b
 ·subst e; simp
 ·have h:¬ (Sum.inl a:Key)=Sum.inl b:=fun q=>e (Sum.inl.inj q)
  rw [decide_eq_false h]
  exact(beq_eq_false_iff_ne.mpr e).symm
theorem q5c(a b:Str):decide ((Sum.inr a:Key)=Sum.inr b)=decide (a=b):=by
 by_cases e:a=b
 ·subst e; simp
 ·have h:¬ (Sum.inr a:Key)=Sum.inr b:=fun q=>e (Sum.inr.inj q)
  rw [decide_eq_false h,decide_eq_false e]
theorem q9l(a:Int)(b:Str):decide ((Sum.inl a:Key)=Sum.inr b)=false:=decide_eq_false (fun q=>nomatch q)
theorem q9j(a:Str)(b:Int):decide ((Sum.inr a:Key)=Sum.inl b)=false:=decide_eq_false (fun q=>nomatch q)
def z1l(prog:Program)(w:World):PySem.KeyKind prog w Key where
 is:=zty
 hash:=qdm w
 inj:=fun v a b ha hb=>by
  rcases z3j ha with⟨i,t,rfl,rfl⟩ | ⟨x,t,rfl,rfl⟩
  ·rcases z3j hb with⟨j,u,rfl,e⟩ | ⟨y,u,rfl,e⟩
   ·injection e with e1 _; rw [e1]
   ·exact nomatch e
  ·rcases z3j hb with⟨j,u,rfl,e⟩ | ⟨y,u,rfl,e⟩
   ·exact nomatch e
   ·injection e with e1 _; rw [e1]
 byValue:=fun k v h=>by
  rcases z3j h with⟨i,t,rfl,rfl⟩ | ⟨x,t,rfl,rfl⟩<;>rfl
 pyHash:=fun hv h=>by
  rcases z3j hv with⟨i,t,rfl,rfl⟩ | ⟨x,t,rfl,rfl⟩
  ·exact wpAny_pyHash_int h
  ·exact wpAny_pyHash_str h
 eqBool:=fun hu hv h=>by
  rcases z3j hu with⟨i,t,rfl,rfl⟩ | ⟨x,t,rfl,rfl⟩
  ·rcases z3j hv with⟨j,u,rfl,rfl⟩ | ⟨y,u,rfl,rfl⟩
   ·rw [q9m] at h; exact wpAny_eqBool_int h
   ·rw [q9l] at h; exact SeqAt.EqAt.int_str i t y u _ _ _ _ h
  ·rcases z3j hv with⟨j,u,rfl,rfl⟩ | ⟨y,u,rfl,rfl⟩
   ·rw [q9j] at h; exact SeqAt.EqAt.str_int x t j u _ _ _ _ h
   ·rw [q5c] at h; exact wpAny_eqBool_str h
 «strs»:=fun k x t v h=>by
  rcases z3j h with⟨i,u,rfl,e⟩ | ⟨y,u,rfl,e⟩
  ·exact nomatch e
  ·injection e with e1 _
   subst e1
   cases v<;>rfl
theorem ztu(prog:Program)(w:World)(i:Int)(t:Tok):(z1l prog w).is (.inl i) (.int i t)=true:=q07 i t
theorem ztt(prog:Program)(w:World)(x:Str)(t:Tok):(z1l prog w).is (.inr x) (.str x t)=true:=q06 x t
end L2
namespace L2
open PySem PySem.Spec PyProof.Rows
inductive V where
 | non | bl (b:Bool) | int (i:Int) | str (x:Str) | byt (b:Array UInt8) | flt (b:UInt64) | ref (a:Addr) | ty (n:String)
 deriving DecidableEq
def RelV:V->Value->Prop
 | .non,u=>u=Value.none
 | .bl b,u=>u=Value.bool b
 | .int i,u=>∃t,u=Value.int i t
 | .str x,u=>∃t,u=Value.str x t
 | .byt b,u=>∃t,u=Value.bytes b t
 | .flt b,u=>∃t,u=Value.float b t
 | .ref a,u=>u=Value.ref a
 | .ty n,u=>u=Value.type n
abbrev Vals:List V->List Value->Prop:=Paired RelV
theorem Vals.length{xs:List V}{us:List Value}(r:Vals xs us):xs.length=us.length:=Paired.length r
theorem Vals.get:∀{xs:List V} {us:List Value} {i:Nat} {x:V},Vals xs us->xs[i]?=some x->∃u,us[i]?=some u/\RelV x u
 | _,_,_,_,.nil,e=>by simp at e
 | _,_,0,_,.cons r _,e=>by simp at e; subst e; exact⟨_,rfl,r⟩
 | _,_,i+1,x,.cons _ t,e=>by
  obtain⟨u,h1,h2⟩:=Vals.get (i:=i) (x:=x) t (by simpa using e)
  exact⟨u,by simpa using h1,h2⟩
theorem Vals.set{x:V}{u:Value}(r:RelV x u):∀{xs:List V} {us:List Value} (i:Nat),Vals xs us->Vals (xs.set i x) (us.set i u)
 | _,_,_,.nil=>.nil
 | _,_,0,.cons _ t=>.cons r t
 | _,_,i+1,.cons q t=>.cons q (Vals.set r i t)
theorem Vals.append:∀{xs ys:List V} {us ws:List Value},Vals xs us->Vals ys ws->Vals (xs++ys) (us++ws)
 | _,_,_,_,.nil,s=>s
 | _,_,_,_,.cons r t,s=>.cons r (Vals.append t s)
theorem Vals.take:∀{xs:List V} {us:List Value} (n:Nat),Vals xs us->Vals (xs.take n) (us.take n)
 | _,_,0,_=>.nil
 | _,_,_+1,.nil=>.nil
 | _,_,n+1,.cons r t=>.cons r (Vals.take n t)
theorem Vals.drop:∀{xs:List V} {us:List Value} (n:Nat),Vals xs us->Vals (xs.drop n) (us.drop n)
 | _,_,0,r=>r
 | _,_,_+1,.nil=>.nil
 | _,_,n+1,.cons _ t=>Vals.drop n t
def RelO:Option V->Option Value->Prop
 | some v,some u=>RelV v u
 | none,none=>True
 | _,_=>False
def KV{κ : Type}:List (κ×V)->List (κ×Value)->Prop:=Paired fun(p : κ×V) (q : κ×Value)=>p.1=q.1/\RelV p.2 q.2
def kV:Key->V
 | .inl i=>.int i
 | .inr x=>.str x
inductive HO where
 | lst (xs:List V)
 | tup (xs:List V)
 | dK (kvs:List (Key×V)) | dT (kvs:List (List Key×V))
 | set (S:Int->Bool) (n:Nat)
 | ins (C dx:Addr) (fs:List (Str×V))
 | own (x:Addr)
 | xd (fs:List (Str×V))
 | met (f x:Addr)
 | rng (lo hi:Int)
 | frz (o:Obj) (u:HO)
 | tbl (ps:Array Value)
 | ext (φ : Heap->Prop)
abbrev Hp:=Addr->Option HO
def upd(H:Hp)(a:Addr)(o:HO):Hp:=fun b=>if b=a then some o else H b
theorem z02{H:Hp}{a:Addr}{o:HO}:upd H a o a=some o:=by unfold upd; rw [if_pos rfl]
theorem z0o{H:Hp}{a b:Addr}{o:HO}(h:b≠a):upd H a o b=H b:=by unfold upd; rw [if_neg h]
theorem zrl{H:Hp}{a b:Addr}{o u:HO}(h:H a=some o)(h':H b=some u)(d:o≠u):a≠b:=by
 intro e; subst e; rw [h] at h'; exact d (Option.some.inj h')
theorem z2n{H:Hp}{a b:Addr}{o:HO}(h:H a=some o)(h':H b=none):a≠b:=by
 intro e; subst e; rw [h] at h'; cases h'
section
variable(P:Program)(w:World)
def ObjOk(H:Hp)(h:Heap)(a:Addr):HO->Prop
 | .lst xs=>xs.length<=sizeLine/\∃(its:List Value) (n:Nat),Vals xs its/\h.get? a=some {cls:=.type "list",data:=.seq its.toArray n}
 | .tup xs=>xs.length<=sizeLine/\∃its:List Value,Vals xs its/\IsTup h a its.toArray
 | .dK kvs=>kvs.length<=sizeLine/\(a == sysModules)=false/\∃vs,KV kvs vs/\h.DictOf (z1l P w) a vs
 | .dT kvs=>kvs.length<=sizeLine/\(a == sysModules)=false/\∃xs:List (List Key×Addr×Value),
   Paired (fun(p:List Key×V) (q:List Key×Addr×Value)=>p.1=q.1/\H q.2.1=some (.tup (p.1.map kV))/\RelV p.2 q.2.2) kvs xs/\
   ∃o es ep,h.get? a=some o/\o.ExactDict/\o.data=.dict es ep/\es.toList=xs.map (entryOfKey (tupleKind (z1l P w)))/\(xs.map (·.1)).Nodup
 | .set S n=>h.SetOf (intKind P w) a S n
 | .ins C dx fs=>H dx=some (.own a)/\fs.length<=1000/\dx≠a/\h.get? a=some (PySem.W.instObj C dx)/\
   ∃mA,h.Ns1 dx mA/\(∀f,RelO (fs.lookup f) (mA f))/\PySem.Within mA (fs.map (·.1))
 | .own _=>∃o,h.get? a=some o
 | .xd fs=>∃mA,h.Ns1 a mA/\∀f,RelO (fs.lookup f) (mA f)
 | .rng lo hi=>∃t u v,h.get? a=some {cls:=.type "range",data:=.fields #[.int lo t,.int hi u,.int 1 v]}
 | .frz o u=>h.get? a=some o/\ObjOk H h a u
 | .tbl ps=>h.get? a=some {cls:=.none,data:=.fields ps}
 | .met f x=>h.get? a=some (PySem.W.methodObj (.ref f) (.ref x))
 | .ext φ=>φ h/\(∃o,h.get? a=some o)/\∀h1 h2:Heap,φ h1->(∀o,h1.get? a=some o->h2.get? a=some o)->φ h2
def HOk(H:Hp)(h:Heap):Prop:=∀a o,H a=some o->ObjOk P w H h a o
end
section
variable{P:Program}{w:World}{H H':Hp}{h h':Heap}{a:Addr}{o:HO}
theorem ObjOk.lt(x:ObjOk P w H h a o):a < h.objs.size:=by
 cases o with
 | lst xs=>obtain⟨_,_,_,_,e⟩:=x; exact Heap.lt_size e
 | tup xs=>obtain⟨_,_,_,p⟩:=x; exact p.lt
 | dK kvs=>obtain⟨_,_,_,_,o,_,_,e,_⟩:=x; exact Heap.lt_size e
 | dT kvs=>obtain⟨_,_,_,_,o,_,_,e,_⟩:=x; exact Heap.lt_size e
 | set S n=>obtain⟨o,_,_,_,e,_⟩:=x; exact Heap.lt_size e
 | ins C dx fs=>obtain⟨_,_,_,e,_⟩:=x; exact Heap.lt_size e
 | own y=>obtain⟨_,e⟩:=x; exact Heap.lt_size e
 | xd fs=>obtain⟨_,⟨_,_,_,e,_⟩,_⟩:=x; exact Heap.lt_size e
 | rng lo hi=>obtain⟨_,_,_,e⟩:=x; exact Heap.lt_size e
 | frz ob u=>obtain⟨e,_⟩:=x; exact Heap.lt_size e
 | tbl ps=>exact Heap.lt_size (show h.get? a=some _ from x)
 | met f y=>exact Heap.lt_size (show h.get? a=some _ from x)
 | ext φ=>obtain⟨_,⟨_,e⟩,_⟩:=x; exact Heap.lt_size e
theorem Paired.mapP{α β : Type}{F G : α->β->Prop}:∀{l₁:List α} {l₂:List β},Paired F l₁ l₂->(∀a b,F a b->G a b)->Paired G l₁ l₂
 | _,_,.nil,_=>.nil
 | _,_,.cons r t,f=>.cons (f _ _ r) (Paired.mapP t f)
theorem ObjOk.stay(x:ObjOk P w H h a o)(k:∀b u,(b=a\/H b=some (.own a))->h.get? b=some u->h'.get? b=some u)
  (ho:∀b,H b=some (.own a)->H' b=some (.own a)) (ht:∀b xs,H b=some (.tup xs)->H' b=some (.tup xs)):ObjOk P w H' h' a o:=by
 induction o with
 | lst xs=>obtain⟨z,its,n,r,e⟩:=x; exact⟨z,its,n,r,k _ _ (.inl rfl) e⟩
 | tup xs=>obtain⟨z,its,r,ob,e,c⟩:=x; exact⟨z,its,r,ob,k _ _ (.inl rfl) e,c⟩
 | dK kvs=>obtain⟨z,y,vs,r,ob,es,ep,e,c⟩:=x; exact⟨z,y,vs,r,ob,es,ep,k _ _ (.inl rfl) e,c⟩
 | dT kvs=>
  obtain⟨z,y,xs,r,ob,es,ep,e,c⟩:=x
  exact⟨z,y,xs,Paired.mapP r fun p q z=>⟨z.1,ht _ _ z.2.1,z.2.2⟩,ob,es,ep,k _ _ (.inl rfl) e,c⟩
 | set S n=>obtain⟨ob,es,ep,t,e,c⟩:=x; exact⟨ob,es,ep,t,k _ _ (.inl rfl) e,c⟩
 | ins C dx fs=>
  obtain⟨d,z,ne,e,mA,⟨od,es,ep,e2,c⟩,r⟩:=x
  exact⟨ho _ d,z,ne,k _ _ (.inl rfl) e,mA,⟨od,es,ep,k _ _ (.inr d) e2,c⟩,r⟩
 | own y=>obtain⟨ob,e⟩:=x; exact⟨ob,k _ _ (.inl rfl) e⟩
 | xd fs=>obtain⟨mA,⟨od,es,ep,e,c⟩,r⟩:=x; exact⟨mA,⟨od,es,ep,k _ _ (.inl rfl) e,c⟩,r⟩
 | rng lo hi=>obtain⟨t,u,v,e⟩:=x; exact⟨t,u,v,k _ _ (.inl rfl) e⟩
 | frz ob u ih=>obtain⟨e,q⟩:=x; exact⟨k _ _ (.inl rfl) e,ih q⟩
 | tbl ps=>
  have e:h.get? a=some {cls:=.none,data:=.fields ps}:=x
  show h'.get? a=some {cls:=.none,data:=.fields ps}
  exact k a _ (.inl rfl) e
 | met f y=>
  have e:h.get? a=some (PySem.W.methodObj (.ref f) (.ref y)):=x
  show h'.get? a=some (PySem.W.methodObj (.ref f) (.ref y))
  exact k a _ (.inl rfl) e
 | ext φ=>obtain⟨p,⟨o,e⟩,st⟩:=x; exact⟨st _ _ p fun o q=>k _ _ (.inl rfl) q,⟨o,k _ _ (.inl rfl) e⟩,st⟩
theorem HOk.lt(x:HOk P w H h)(e:H a=some o):a < h.objs.size:=(x a o e).lt
theorem HOk.fresh(x:HOk P w H h)(e:h.objs.size<=a):H a=none:=by
 cases q:H a with
 | none=>rfl
 | some u=>exact absurd (Nat.lt_of_lt_of_le (x.lt q) e) (Nat.lt_irrefl _)
theorem HOk.kept(x:HOk P w H h)(k:∀b u,h.get? b=some u->h'.get? b=some u):HOk P w H h':=fun a o e=>
 (x a o e).stay (fun b u _ q=>k b u q) (fun _ q=>q) fun _ _ q=>q
theorem HOk.laid(x:HOk P w H h)(k:∀b u,h.get? b=some u->h'.get? b=some u)(hp:h.objs.size<=a)(new:ObjOk P w (upd H a o) h' a o):HOk P w (upd H a o) h':=fun b u e=>by
 have hn:=x.fresh hp
 by_cases hb:b=a
 ·subst hb; rw [z02] at e; cases e; exact new
 ·rw [z0o hb] at e
  exact(x b u e).stay (fun c v _ q=>k c v q) (fun c q=>by rw [z0o (z2n q hn)]; exact q) fun c xs q=>by rw [z0o (z2n q hn)]; exact q
end
def Rd(H:Hp)(a:Addr)(u:HO):Prop:=H a=some u\/∃o,H a=some (.frz o u)
theorem Rd.of{H:Hp}{a:Addr}{u:HO}(h:H a=some u):Rd H a u:=.inl h
theorem Rd.ok{P:Program}{w:World}{H:Hp}{h:Heap}{a:Addr}{u:HO}(r:Rd H a u)(x:HOk P w H h):ObjOk P w H h a u:=by
 rcases r with r | ⟨o,r⟩
 ·exact x a u r
 ·obtain⟨_,q⟩:=x a _ r
  exact q
def Mut:Option HO->Prop
 | some (.lst _)=>True
 | some (.dK _)=>True
 | some (.dT _)=>True
 | some (.set _ _)=>True
 | some (.ins _ _ _)=>True
 | some (.ext _)=>True
 | _=>False
section
variable{P:Program}{w:World}{H:Hp}{h h':Heap}{x e:Addr}{o':HO}
theorem HOk.write(ok:HOk P w H h)(mu:Mut (H x))(he:e=x\/H e=some (.own x))(k:∀b u,b≠e->h.get? b=some u->h'.get? b=some u)(heo:∃u,h'.get? e=some u)
  (new:ObjOk P w (upd H x o') h' x o'):HOk P w (upd H x o') h':=fun b u q=>by
 have nown:∀c y,H c=some (.own y)->c≠x:=fun c y r z=>by subst z; rw [r] at mu; exact mu
 have ntup:∀c xs,H c=some (.tup xs)->c≠x:=fun c xs r z=>by subst z; rw [r] at mu; exact mu
 by_cases hb:b=x
 ·subst hb; rw [z02] at q; cases q; exact new
 ·rw [z0o hb] at q
  by_cases hbe:b=e
  ·have q':H b=some (.own x):=by
    rcases he with z | z
    ·exact absurd (hbe.trans z) hb
    ·rw [hbe]; exact z
   rw [q] at q'; cases q'
   obtain⟨v,hv⟩:=heo
   exact⟨v,by rw [hbe]; exact hv⟩
  ·refine(ok b u q).stay (fun c v hc r=>k c v ?_ r) (fun c r=>by rw [z0o (nown c b r)]; exact r) fun c xs r=>by rw [z0o (ntup c xs r)]; exact r
   rcases hc with rfl | hc
   ·exact hbe
   ·rintro rfl
    rcases he with z | z
    ·exact nown c b hc z
    ·rw [hc] at z; cases z; exact hb rfl
end
structure Un(fs ex:List Addr)(H H':Hp)(h h':Heap):Prop where
 keep:∀b o,h.get? b=some o->H b=none->b∉fs->b∉ex->h'.get? b=some o
 slot:∀b o,h.get? b=some o->H b=none->b∈fs->b∉ex->∃sl,h'.get? b=some {o with slots:=sl}
 free:∀b o,h.get? b=some o->H b=none->b∉ex->H' b=none
 there:∀b o,h.get? b=some o->b∉ex->∃o',h'.get? b=some o'
 tups:∀b xs,H b=some (.tup xs)->H' b=some (.tup xs)
 frzs:∀b o u,H b=some (.frz o u)->H' b=some (.frz o u)
 tbls:∀b ps,H b=some (.tbl ps)->∃more,H' b=some (.tbl (ps++more))
section
variable{fs fs' ex ex':List Addr}{H H1 H2:Hp}{h h1 h2 h':Heap}{a x e:Addr}{o:HO}
theorem Un.any(u:Un fs ex H H1 h h1){b:Addr}{ob:Obj}(q:h.get? b=some ob)(n:H b=none)(hx:b∉ex):∃sl,h1.get? b=some {ob with slots:=sl}:=by
 by_cases hb:b∈fs
 ·exact u.slot b ob q n hb hx
 ·exact⟨ob.slots,u.keep b ob q n hb hx⟩
theorem Un.trans(a:Un fs ex H H1 h h1)(b:Un fs ex H1 H2 h1 h2):Un fs ex H H2 h h2 where
 keep:=fun c ob q n hc hx=>b.keep c ob (a.keep c ob q n hc hx) (a.free c ob q n hx) hc hx
 slot:=fun c ob q n hc hx=>by
  obtain⟨sl,e1⟩:=a.slot c ob q n hc hx
  obtain⟨sl',e2⟩:=b.slot c _ e1 (a.free c ob q n hx) hc hx
  exact⟨sl',e2⟩
 free:=fun c ob q n hx=>by
  obtain⟨o',e1⟩:=a.there c ob q hx
  exact b.free c o' e1 (a.free c ob q n hx) hx
 there:=fun c ob q hx=>by
  obtain⟨o',e1⟩:=a.there c ob q hx
  exact b.there c o' e1 hx
 tups:=fun c xs q=>b.tups c xs (a.tups c xs q)
 frzs:=fun c ob xs q=>b.frzs c ob xs (a.frzs c ob xs q)
 tbls:=fun c ps q=>by
  obtain⟨m1,e1⟩:=a.tbls c ps q
  obtain⟨m2,e2⟩:=b.tbls c _ e1
  exact⟨m1++m2,by rw [e2,Array.append_assoc]⟩
theorem Un.kept(k:∀b u,h.get? b=some u->h'.get? b=some u):Un fs ex H H h h':=
 ⟨fun b ob q _ _ _=>k b ob q,fun b ob q _ _ _=>⟨ob.slots,k b ob q⟩,fun _ _ _ n _=>n,fun b ob q _=>⟨ob,k b ob q⟩,fun _ _ q=>q,fun _ _ _ q=>q,fun _ ps q=>⟨#[],by rw [q]; simp⟩⟩
theorem Un.refl:Un fs ex H H h h:=Un.kept fun _ _ q=>q
theorem Un.laid(k:∀b u,h.get? b=some u->h'.get? b=some u)(hp:h.objs.size<=a)(hn:H a=none):Un fs ex H (upd H a o) h h' where
 keep:=fun b u q _ _ _=>k b u q
 slot:=fun b u q _ _ _=>⟨u.slots,k b u q⟩
 free:=fun b u q n _=>by rw [z0o (Nat.ne_of_lt (Nat.lt_of_lt_of_le (Heap.lt_size q) hp))]; exact n
 there:=fun b u q _=>⟨u,k b u q⟩
 tups:=fun b xs q=>by rw [z0o (z2n q hn)]; exact q
 frzs:=fun b u xs q=>by rw [z0o (z2n q hn)]; exact q
 tbls:=fun b ps q=>⟨#[],by rw [z0o (z2n q hn),q]; simp⟩
theorem Un.write(mu:Mut (H x))(he:e=x\/H e=some (.own x))(k:∀b u,b≠e->h.get? b=some u->h'.get? b=some u)(heo:∃u,h'.get? e=some u):Un fs ex H (upd H x o) h h':=by
 have hx:∀b,H b=none->b≠x:=fun b n z=>by subst z; rw [n] at mu; exact mu
 have hb:∀b,H b=none->b≠e:=fun b n z=>by
  subst z
  rcases he with r | r
  ·exact hx b n r
  ·rw [n] at r; cases r
 have hm:∀b u,H b=some u->¬ Mut (some u)->b≠x:=fun b u q nm z=>by subst z; rw [q] at mu; exact nm mu
 refine⟨fun b u q n _ _=>k b u (hb b n) q,fun b u q n _ _=>⟨u.slots,k b u (hb b n) q⟩,fun b u q n _=>by rw [z0o (hx b n)]; exact n,fun b u q _=>?_,
  fun b xs q=>by rw [z0o (hm b _ q fun z=>z)]; exact q,fun b u xs q=>by rw [z0o (hm b _ q fun z=>z)]; exact q,fun b ps q=>⟨#[],by rw [z0o (hm b _ q fun z=>z),q]; simp⟩⟩
 by_cases hbe:b=e
 ·subst hbe; exact heo
 ·exact⟨u,k b u hbe q⟩
theorem Un.mono(u:Un fs ex H H1 h h1)(hs:∀b∈fs,b∈fs')(hx:∀b∈ex,b∈ex'):Un fs' ex' H H1 h h1:=
 ⟨fun b ob q n hb he=>u.keep b ob q n (fun z=>hb (hs b z)) fun z=>he (hx b z),fun _ _ q n _ he=>u.any q n fun z=>he (hx _ z),fun b ob q n he=>u.free b ob q n fun z=>he (hx b z),fun b ob q he=>u.there b ob q fun z=>he (hx b z),u.tups,u.frzs,u.tbls⟩
end
def trk(h:Heap)(H:Hp):List Addr:=(List.range h.objs.size).filter fun a=>(H a).isSome
def q3x(h:Heap)(H:Hp):Heap:=PySem.W.hideAll h (trk h H)
theorem q0l(h:Heap)(H:Hp):(q3x h H).objs.size=h.objs.size:=PySem.W.hideAll_size _ _
theorem q3w{h:Heap}{H:Hp}{b:Addr}{o:Obj}(e:h.get? b=some o)(n:H b=none):(q3x h H).get? b=some o:=
 PySem.W.hideAll_get _ e fun hm=>by
  have q:(H b).isSome=true:=(List.mem_filter.mp hm).2
  rw [n] at q; simp at q
theorem q6z{h:Heap}{H:Hp}{b:Addr}{o:Obj}(e:(q3x h H).get? b=some o):h.get? b=some o/\H b=none:=by
 have e':h.get? b=some o:=PySem.W.of_hideAll (trk h H) e
 refine⟨e',?_⟩
 cases q:H b with
 | none=>rfl
 | some x=>
  have hm:b∈trk h H:=List.mem_filter.mpr ⟨List.mem_range.mpr (Heap.lt_size e'),by simp[q]⟩
  have z:(q3x h H).get? b=none:=PySem.W.hideAll_none (trk h H) hm
  rw [z] at e; cases e
def q7x(g h:Heap)(L:Addr):List (Addr×Obj):=(List.range h.objs.size).filterMap fun a=>if a=L\/(g.get? a).isSome=true then none else(h.get? a).map fun o=>(a,o)
def zr7(g h:Heap)(L d:Addr):List (Addr×Obj):=(q7x g h L).filter fun p=>decide (p.1≠d)
end L2
namespace L2
open PySem PySem.Spec PyProof.Rows
structure Mod(K:PySem.W.Frag)(mg:Str->Option Value)(base:Heap):Prop where
 kin:K.In base
 glob:base.Ns mainGlobals mg
 blt:∃mb,base.Ns builtinsNs mb/\∀x:Str,x≠"__name__"->mb x=bootBuiltins x
 nolimit:base.NoLimit
structure Cx where
 prog:Program
 w:World
 K:PySem.W.Frag
 mg:Str->Option Value
 base:Heap
 A:Around
 N:List Str
 s₀:Shared
 H₀:Hp
 env:Env
 outer:List Env
 stack:List Env
 ex:List Addr
 fn:Str->Bool
 calm:Bool
 pn:List (Addr×Obj)
 xe:Value->Shared->Prop
def frs(l:List Env):List Addr:=l.filterMap (·.frame)
abbrev Cx.fs(X:Cx):List Addr:=frs X.outer
def Vis(sc:Scope)(x:Str):Prop:=sc.names.lookup x=some .local\/sc.names.lookup x=some .cell\/sc.names.lookup x=some .free
def Loc(sc:Scope)(x:Str):Prop:=sc.names.lookup x=some .local\/sc.names.lookup x=some .cell
def Look(env:Env)(h:Heap)(m:Str->Option Value)(x:Str)(u:Value):Prop:=
 (env.kindOf x=some .local/\m x=some u)\/((env.kindOf x=some .cell\/env.kindOf x=some .free)/\∃c,env.cells.lookup x=some c/\h.IsCell c (some u))
structure Cx.Ok(X:Cx):Prop where
 mod:Mod X.K X.mg X.base
 kind:X.env.scope.kind=.function
 glob:X.env.globals=mainGlobals
 blt:X.env.builtins=builtinsNs
 above:X.s₀.heap.objs.size<=X.env.locals
 inj:∀x y c,X.env.cells.lookup x=some c->X.env.cells.lookup y=some c->x=y
 has:∀x,(X.env.kindOf x=some .cell\/X.env.kindOf x=some .free)->∃c,X.env.cells.lookup x=some c
 cab:∀x c,X.fn x=true->X.env.cells.lookup x=some c->X.s₀.heap.objs.size<=c
 hd:X.calm=true->X.A.handled=none
 frames:X.A.frames=some X.stack
 stk:X.stack=X.outer\/(X.stack=X.env::X.outer/\X.env.frame=some X.env.locals)
 exf:∀b∈X.ex,b≠X.env.locals/\∀x c,X.env.cells.lookup x=some c->c≠b
 bs:∀b o,X.base.get? b=some o->X.s₀.heap.get? b=some o/\X.H₀ b=none
 bsz:X.base.objs.size<=X.s₀.heap.objs.size
 noex:∀b o,X.base.get? b=some o->b∉X.ex
 exfs:∀b∈X.ex,b∉X.fs
 funs:X.s₀.heap.FunFrames X.base X.outer
 frf:∀b∈X.fs,X.H₀ b=none
structure Inv(X:Cx)(pins:List (Addr×Obj))(σ : List (Option V))(H:Hp)(s:Shared):Prop where
 ok:X.Ok
 os:s.os=X.s₀.os
 bare:AllBare s.gens
 base:Un X.fs X.ex X.H₀ H X.s₀.heap s.heap
 loc:∃m,s.heap.Ns X.env.locals m/\∀(i:Nat) (x:Str) (v:V),X.N[i]?=some x->σ[i]?=some (some v)->Vis X.env.scope x->∃u,RelV v u/\Look X.env s.heap m x u
 cell:∀x c,X.env.cells.lookup x=some c->∃v,s.heap.IsCell c v
 free:H X.env.locals=none
 freeC:∀x c,X.env.cells.lookup x=some c->H c=none
 pin:∀p∈X.pn++pins,s.heap.get? p.1=some p.2/\H p.1=none/\p.1≠X.env.locals/\p.1∉X.fs/\∀v,p.2.data≠.cell v
 hok:HOk X.prog X.w H s.heap
 len : σ.length=X.N.length
section
variable{X:Cx}{pins:List (Addr×Obj)}{σ : List (Option V)}{H H':Hp}{s:Shared}{h':Heap}
theorem Cx.Ok.nofr(ok:X.Ok){b:Addr}{o:Obj}(e:X.base.get? b=some o):b∉X.fs:=fun hb=>by
 have:=(ok.funs.mem hb).1
 rw [e] at this; cases this
theorem Inv.bs(I:Inv X pins σ H s):∀b o,X.base.get? b=some o->s.heap.get? b=some o/\H b=none:=fun b o e=>
 ⟨I.base.keep b o (I.ok.bs b o e).1 (I.ok.bs b o e).2 (I.ok.nofr e) (I.ok.noex b o e),I.base.free b o (I.ok.bs b o e).1 (I.ok.bs b o e).2 (I.ok.noex b o e)⟩
theorem Inv.bk(I:Inv X pins σ H s):∀b o,X.base.get? b=some o->s.heap.get? b=some o:=fun b o e=>(I.bs b o e).1
theorem Inv.mod(I:Inv X pins σ H s):Mod X.K X.mg X.base:=I.ok.mod
theorem Inv.kIn(I:Inv X pins σ H s):X.K.In s.heap:=I.ok.mod.kin.keeps I.bk
theorem Inv.lt(I:Inv X pins σ H s):X.env.locals < s.heap.objs.size:=let ⟨_,hn,_⟩:=I.loc; hn.lt
theorem Inv.sz(I:Inv X pins σ H s):X.s₀.heap.objs.size<=s.heap.objs.size:=Nat.le_trans I.ok.above (Nat.le_of_lt I.lt)
theorem Inv.nofs(I:Inv X pins σ H s){a:Addr}(h:s.heap.objs.size<=a):a∉X.fs:=fun hb=>by
 obtain⟨_,o,ho,_⟩:=I.ok.funs.mem hb
 exact absurd (Nat.lt_of_lt_of_le (Heap.lt_size ho) (Nat.le_trans I.sz h)) (Nat.lt_irrefl _)
theorem Inv.cne(I:Inv X pins σ H s):∀x c,X.env.cells.lookup x=some c->c≠X.env.locals:=fun x c e z=>by
 obtain⟨v,o,ho,hd⟩:=I.cell x c e
 obtain⟨m,⟨o',es,ep,ho',hd',_⟩,_⟩:=I.loc
 rw [z,ho'] at ho; cases ho; rw [hd'] at hd; cases hd
theorem Inv.funs(I:Inv X pins σ H s):s.heap.FunFrames X.base X.outer:=by
 have all:∀(l:List Env),(∀b∈frs l,b∈X.fs)->X.s₀.heap.FunFrames X.base l->s.heap.FunFrames X.base l:=by
  intro l
  induction l with
  | nil=>intro _ _; trivial
  | cons env r ih=>
   intro hs hl
   obtain⟨hk,⟨L,o,hf,hn,ho,hd⟩,hr⟩:=hl
   have hL:L∈X.fs:=hs L (by unfold frs; rw [List.filterMap_cons,hf]; exact List.mem_cons_self)
   obtain⟨sl,e⟩:=I.base.slot L o ho (I.ok.frf L hL) hL fun z=>I.ok.exfs L z hL
   exact⟨hk,⟨L,_,hf,hn,e,hd⟩,ih (fun b hb=>hs b (by unfold frs; rw [List.filterMap_cons,hf]; exact List.mem_cons_of_mem _ hb)) hr⟩
 exact all X.outer (fun _ hb=>hb) I.ok.funs
theorem Inv.stack(I:Inv X pins σ H s):s.heap.FunFrames X.base X.stack:=by
 rcases I.ok.stk with e | ⟨e,hf⟩
 ·rw [e]; exact I.funs
 ·rw [e]
  obtain⟨m,hn,_⟩:=I.loc
  refine .cons (by rw [I.ok.kind]; decide) hf hn ?_ I.funs
  exact Heap.get?_none_of_le (Nat.le_trans I.ok.bsz I.ok.above)
theorem Inv.stkSub(I:Inv X pins σ H s):∀b∈frs X.stack,b∈X.env.locals::X.fs:=fun b hb=>by
 rcases I.ok.stk with e | ⟨e,hf⟩
 ·rw [e] at hb; exact List.mem_cons_of_mem _ hb
 ·rw [e] at hb
  unfold frs at hb
  rw [List.filterMap_cons,hf] at hb
  exact hb
theorem Inv.stkFree(I:Inv X pins σ H s):∀b∈frs X.stack,H b=none:=fun b hb=>by
 rcases List.mem_cons.mp (I.stkSub b hb) with e | hb
 ·rw [e]; exact I.free
 ·obtain⟨_,o,ho,_⟩:=I.ok.funs.mem hb
  exact I.base.free b o ho (I.ok.frf b hb) fun z=>I.ok.exfs b z hb
theorem Inv.step{g':Array GenState}{t':Nat}{d':Drawn}{ch:List Addr}(I:Inv X pins σ H s)
  (hch:∀b∈ch,(b∈X.ex\/X.s₀.heap.objs.size<=b)/\b≠X.env.locals/\(∀x c,X.env.cells.lookup x=some c->c≠b)/\∀p∈X.pn++pins,p.1≠b)
  (keep:∀b o,b≠X.env.locals->b∉X.fs->b∉ch->s.heap.get? b=some o->H b=none->h'.get? b=some o)
  (slot:∀b o,b≠X.env.locals->b∈X.fs->b∉ch->s.heap.get? b=some o->H b=none->∃sl,h'.get? b=some {o with slots:=sl}) (free:∀b o,b∉ch->s.heap.get? b=some o->H b=none->H' b=none)
  (there:∀b o,b∉ch->s.heap.get? b=some o->∃o',h'.get? b=some o')
  (tups:∀b xs,H b=some (.tup xs)->H' b=some (.tup xs)) (frzs:∀b o u,H b=some (.frz o u)->H' b=some (.frz o u)) (tbls:∀b ps,H b=some (.tbl ps)->∃more,H' b=some (.tbl (ps++more)))
  (ns:∀m,s.heap.Ns X.env.locals m->h'.Ns X.env.locals m) (hok:HOk X.prog X.w H' h') (hg:AllBare g') :
  Inv X pins σ H' {s with heap:=h',gens:=g',drawn:=d',toks:=t'}:=by
 have neL:∀b o,X.s₀.heap.get? b=some o->b≠X.env.locals:=fun b o e=>Nat.ne_of_lt (Nat.lt_of_lt_of_le (Heap.lt_size e) I.ok.above)
 have neC:∀b o,X.s₀.heap.get? b=some o->b∉X.ex->b∉ch:=fun b o e hx hb=>by
  rcases(hch b hb).1 with z | z
  ·exact hx z
  ·exact absurd (Nat.lt_of_lt_of_le (Heap.lt_size e) z) (Nat.lt_irrefl _)
 have cellK:∀x c,X.env.cells.lookup x=some c->∀v,s.heap.IsCell c v->h'.IsCell c v:=fun x c e v ⟨o,ho,hd⟩=>by
  have nch:c∉ch:=fun z=>(hch c z).2.2.1 x c e rfl
  by_cases hc:c∈X.fs
  ·obtain⟨sl,q⟩:=slot c o (I.cne x c e) hc nch ho (I.freeC x c e)
   exact⟨_,q,hd⟩
  ·exact⟨o,keep c o (I.cne x c e) hc nch ho (I.freeC x c e),hd⟩
 refine⟨I.ok,I.os,hg,⟨fun b o e n hb hx=>?_,fun b o e n hb hx=>?_,fun b o e n hx=>?_,fun b o e hx=>?_,fun b xs e=>tups b xs (I.base.tups b xs e),fun b o xs e=>frzs b o xs (I.base.frzs b o xs e),fun b ps e=>?_⟩,?_,fun x c e=>?_,?_,fun x c e=>?_,fun p hp=>?_,hok,I.len⟩
 ·exact keep b o (neL b o e) hb (neC b o e hx) (I.base.keep b o e n hb hx) (I.base.free b o e n hx)
 ·obtain⟨sl,e1⟩:=I.base.slot b o e n hb hx
  obtain⟨sl',e2⟩:=slot b _ (neL b o e) hb (neC b o e hx) e1 (I.base.free b o e n hx)
  exact⟨sl',e2⟩
 ·obtain⟨o',e1⟩:=I.base.there b o e hx
  exact free b o' (neC b o e hx) e1 (I.base.free b o e n hx)
 ·obtain⟨o',e1⟩:=I.base.there b o e hx
  exact there b o' (neC b o e hx) e1
 ·obtain⟨m1,e1⟩:=I.base.tbls b ps e
  obtain⟨m2,e2⟩:=tbls b _ e1
  exact⟨m1++m2,by rw [e2,Array.append_assoc]⟩
 ·obtain⟨m,hn,hl⟩:=I.loc
  refine⟨m,ns m hn,fun i x v e1 e2 e3=>?_⟩
  obtain⟨u,r,l⟩:=hl i x v e1 e2 e3
  refine⟨u,r,?_⟩
  rcases l with l | ⟨k,c,e,z⟩
  ·exact .inl l
  ·exact .inr ⟨k,c,e,cellK x c e _ z⟩
 ·obtain⟨v,z⟩:=I.cell x c e
  exact⟨v,cellK x c e v z⟩
 ·obtain⟨m,⟨o,_,_,ho,_⟩,_⟩:=I.loc
  exact free _ o (fun z=>(hch _ z).2.1 rfl) ho I.free
 ·obtain⟨v,o,ho,hd⟩:=I.cell x c e
  exact free c o (fun z=>(hch c z).2.2.1 x c e rfl) ho (I.freeC x c e)
 ·obtain⟨e,n,ne,nf,d⟩:=I.pin p hp
  have nch:p.1∉ch:=fun z=>(hch p.1 z).2.2.2 p hp rfl
  exact⟨keep p.1 p.2 ne nf nch e n,free p.1 p.2 nch e n,ne,nf,d⟩
theorem Inv.un{t':Nat}(I:Inv X pins σ H s)(u:Un X.fs [] H H' s.heap h')(hok:HOk X.prog X.w H' h'):Inv X pins σ H' {s with heap:=h',toks:=t'}:=by
 obtain⟨m,⟨o,es,ep,ho,r⟩,_⟩:=id I.loc
 obtain⟨sl,hL⟩:=u.any ho I.free (by simp)
 exact I.step (g':=s.gens) (d':=s.drawn) (ch:=[]) (fun _ z=>nomatch z) (fun b o _ hb _ e n=>u.keep b o e n hb (by simp)) (fun b o _ hb _ e n=>u.slot b o e n hb (by simp)) (fun b o _ e n=>u.free b o e n (by simp)) (fun b o _ e=>u.there b o e (by simp)) u.tups u.frzs u.tbls (fun m' hm=>by
  obtain⟨o',es',ep',ho',r'⟩:=hm
  rw [ho] at ho'; cases ho'
  exact⟨_,es',ep',hL,r'⟩) hok I.bare
theorem Inv.call{g':Array GenState}{t':Nat}{d':Drawn}{ch:List Addr}(I:Inv X pins σ H s)(u:Un (frs X.stack) ch H H' s.heap h')(hok:HOk X.prog X.w H' h')(hg:AllBare g')
  (hch:∀b∈ch,(b∈X.ex\/X.s₀.heap.objs.size<=b)/\b≠X.env.locals/\(∀x c,X.env.cells.lookup x=some c->c≠b)/\∀p∈X.pn++pins,p.1≠b) :
  Inv X pins σ H' {s with heap:=h',gens:=g',drawn:=d',toks:=t'}:=by
 obtain⟨m,⟨o,es,ep,ho,r⟩,_⟩:=id I.loc
 obtain⟨sl,hL⟩:=u.any ho I.free fun z=>(hch _ z).2.1 rfl
 exact I.step (ch:=ch) hch (fun b o hL hb hc e n=>u.keep b o e n (fun z=>(List.mem_cons.mp (I.stkSub b z)).elim hL hb) hc) (fun b o _ _ hc e n=>u.any e n hc) (fun b o hc e n=>u.free b o e n hc) (fun b o hc e=>u.there b o e hc) u.tups u.frzs u.tbls (fun m' hm=>by
  obtain⟨o',es',ep',ho',r'⟩:=hm
  rw [ho] at ho'; cases ho'
  exact⟨_,es',ep',hL,r'⟩) hok hg
theorem Inv.turned{t':Nat}{it:Addr}(I:Inv X pins σ H s)(k:∀b o,b≠it->s.heap.get? b=some o->h'.get? b=some o)(hn:H it=none)(hL:it≠X.env.locals)
  (h1:it∈X.ex\/X.s₀.heap.objs.size<=it) (h2:∀x c,X.env.cells.lookup x=some c->c≠it) (h3:∀p∈X.pn++pins,p.1≠it):Inv X pins σ H {s with heap:=h',toks:=t'}:=by
 have nit:∀b u,H b=some u->b≠it:=fun b u e z=>by rw [z,hn] at e; cases e
 refine I.step (g':=s.gens) (d':=s.drawn) (ch:=[it]) (fun b hb=>?_) (fun b o _ _ hc e _=>k b o (fun z=>hc (by simp[z])) e) (fun b o _ _ hc e _=>⟨o.slots,k b o (fun z=>hc (by simp[z])) e⟩) (fun _ _ _ _ n=>n)
  (fun b o hc e=>⟨o,k b o (fun z=>hc (by simp[z])) e⟩) (fun _ _ e=>e) (fun _ _ _ e=>e) (fun b ps e=>⟨#[],by rw [e]; simp⟩) (fun m hm=>?_) (fun b u e=>?_) I.bare
 ·have e:b=it:=by simpa using hb
  subst e
  exact⟨h1,hL,h2,h3⟩
 ·obtain⟨o,es,ep,ho,r⟩:=hm
  exact⟨o,es,ep,k _ o (Ne.symm hL) ho,r⟩
 ·refine(I.hok b u e).stay (fun c v hc q=>k c v ?_ q) (fun _ q=>q) fun _ _ q=>q
  rcases hc with z | z
  ·rw [z]; exact nit b u e
  ·exact nit c _ z
theorem Inv.tok(I:Inv X pins σ H s)(t:Nat):Inv X pins σ H {s with toks:=t}:=I.un (h':=s.heap) (t':=t) Un.refl I.hok
theorem Inv.kept{t':Nat}(I:Inv X pins σ H s)(k:∀b u,s.heap.get? b=some u->h'.get? b=some u):Inv X pins σ H {s with heap:=h',toks:=t'}:=I.un (Un.kept k) (I.hok.kept k)
theorem Inv.laid{a:Addr}{o:HO}{t':Nat}(I:Inv X pins σ H s)(k:∀b u,s.heap.get? b=some u->h'.get? b=some u)(hp:s.heap.objs.size<=a)(new:ObjOk X.prog X.w (upd H a o) h' a o) :
  Inv X pins σ (upd H a o) {s with heap:=h',toks:=t'}:=I.un (Un.laid k hp (I.hok.fresh hp)) (I.hok.laid k hp new)
theorem Inv.write{x e:Addr}{o:HO}{t':Nat}(I:Inv X pins σ H s)(mu:Mut (H x))(he:e=x\/H e=some (.own x))(k:∀b u,b≠e->s.heap.get? b=some u->h'.get? b=some u)(heo:∃u,h'.get? e=some u)
  (new:ObjOk X.prog X.w (upd H x o) h' x o):Inv X pins σ (upd H x o) {s with heap:=h',toks:=t'}:=I.un (Un.write mu he k heo) (I.hok.write mu he k heo new)
theorem Inv.pins_of{pins':List (Addr×Obj)}(I:Inv X pins σ H s)(h:∀p∈pins',s.heap.get? p.1=some p.2/\H p.1=none/\p.1≠X.env.locals/\p.1∉X.fs/\∀v,p.2.data≠.cell v):Inv X pins' σ H s:=
 ⟨I.ok,I.os,I.bare,I.base,I.loc,I.cell,I.free,I.freeC,fun p hp=>(List.mem_append.mp hp).elim (fun z=>I.pin p (List.mem_append_left _ z)) (h p),I.hok,I.len⟩
theorem zpp{N:List Str}(hN:N.Nodup){i j:Nat}{x:Str}(a:N[i]?=some x)(b:N[j]?=some x):i=j:=by
 obtain⟨h1,e1⟩:=List.getElem?_eq_some_iff.mp a
 obtain⟨h2,e2⟩:=List.getElem?_eq_some_iff.mp b
 exact(List.getElem_inj hN).mp (e1.trans e2.symm)
theorem zqy{M:Model}{A:Around}{E:Value->Shared->Prop}{i:Nat}{x:Str}{v:V}{u:Value}{Q:Unit->Shared->Prop}(I:Inv X pins σ H s)(hN:X.N.Nodup)(hi:X.N[i]?=some x)(hx:Loc X.env.scope x)(r:RelV v u)
  (h:∀s',Inv X pins (σ.set i (some v)) H s'->(∃a,Heap.SameBut a s.heap s'.heap/\(a=X.env.locals\/X.env.cells.lookup x=some a))->Q () s') (hf:X.fn x=true\/X.env.scope.names.lookup x=some .local:=by first | exact .inl rfl | exact .inr rfl | assumption):wpAny M A (storeName X.env x u) Q E s:=by
 obtain⟨m,hn,hl⟩:=id I.loc
 have hcls:(X.env.scope.kind == .class || (X.env.scope.kind == .module && X.env.locals !=X.env.globals))=false:=by rw [I.ok.kind]; rfl
 have hiσ : i < σ.length:=by rw [I.len]; exact(List.getElem?_eq_some_iff.mp hi).1
 have cne:=I.cne
 have tracked:∀{a:Addr} {h':Heap},(∃o,s.heap.get? a=some o/\H a=none)->Heap.SameBut a s.heap h'->HOk X.prog X.w H h':=fun {a h'} ha hs b ob e=>by
  obtain⟨_,_,hfree⟩:=ha
  refine(I.hok b ob e).stay (fun c w' hc q=>(hs.2 c ?_).trans q) (fun _ q=>q) fun _ _ q=>q
  rintro rfl
  rcases hc with rfl | hc
  ·rw [hfree] at e; cases e
  ·rw [hfree] at hc; cases hc
 rcases hx with hk | hk
 ·refine wpAny_storeName_local hk hn (fun h' hn' hs=>?_) hcls
  obtain⟨oL,_,_,hoL,_⟩:=id hn
  refine h _ ⟨I.ok,I.os,I.bare,⟨fun b o e n hb hx=>?_,fun b o e n hb hx=>?_,I.base.free,fun b o e hx=>?_,I.base.tups,I.base.frzs,I.base.tbls⟩,⟨_,hn',fun j y v' e1 e2 e3=>?_⟩,fun y c e=>?_,I.free,I.freeC,fun p hp=>?_,tracked ⟨oL,hoL,I.free⟩ hs,by simpa using I.len⟩ ⟨_,hs,.inl rfl⟩
  ·exact(hs.2 b (Nat.ne_of_lt (Nat.lt_of_lt_of_le (Heap.lt_size e) I.ok.above))).trans (I.base.keep b o e n hb hx)
  ·obtain⟨sl,e1⟩:=I.base.slot b o e n hb hx
   exact⟨sl,(hs.2 b (Nat.ne_of_lt (Nat.lt_of_lt_of_le (Heap.lt_size e) I.ok.above))).trans e1⟩
  ·obtain⟨o',e1⟩:=I.base.there b o e hx
   exact⟨o',(hs.2 b (Nat.ne_of_lt (Nat.lt_of_lt_of_le (Heap.lt_size e) I.ok.above))).trans e1⟩
  ·by_cases hj:j=i
   ·subst hj
    rw [hi] at e1; cases e1
    rw [List.getElem?_set_self hiσ] at e2
    cases e2
    exact⟨u,r,.inl ⟨hk,by simp⟩⟩
   ·rw [List.getElem?_set_ne (Ne.symm hj)] at e2
    obtain⟨u',r',q⟩:=hl j y v' e1 e2 e3
    refine⟨u',r',?_⟩
    rcases q with⟨k,e⟩ | ⟨k,c,e,z⟩
    ·refine .inl ⟨k,?_⟩
     have:y≠x:=fun e=>hj (zpp hN e1 (e ▸ hi))
     simp[this,e]
    ·exact .inr ⟨k,c,e,z.sameBut hs (cne y c e)⟩
  ·obtain⟨w',z⟩:=I.cell y c e
   exact⟨w',z.sameBut hs (cne y c e)⟩
  ·obtain⟨e,n,ne,nf,d⟩:=I.pin p hp
   exact⟨(hs.2 p.1 ne).trans e,n,ne,nf,d⟩
 ·have hfn:X.fn x=true:=by
   rcases hf with z | z
   ·exact z
   ·rw [z] at hk; cases hk
  obtain⟨c,hc⟩:=I.ok.has x (.inl hk)
  obtain⟨w',z⟩:=I.cell x c hc
  refine wpAny_storeName_cell I.ok.kind hk hc z (fun h' hc' hs=>?_)
  obtain⟨oc,hoc,hocd⟩:=id z
  refine h {s with heap:=h'} ⟨I.ok,I.os,I.bare,⟨fun b o e n hb hx=>?_,fun b o e n hb hx=>?_,I.base.free,fun b o e hx=>?_,I.base.tups,I.base.frzs,I.base.tbls⟩,⟨m,hn.sameBut hs (Ne.symm (cne x c hc)),fun j y v' e1 e2 e3=>?_⟩,fun y c' e=>?_,I.free,I.freeC,fun p hp=>?_,tracked ⟨oc,hoc,I.freeC x c hc⟩ hs,by simpa using I.len⟩ ⟨c,hs,.inr hc⟩
  ·exact(hs.2 b (Nat.ne_of_lt (Nat.lt_of_lt_of_le (Heap.lt_size e) (I.ok.cab x c hfn hc)))).trans (I.base.keep b o e n hb hx)
  ·obtain⟨sl,e1⟩:=I.base.slot b o e n hb hx
   exact⟨sl,(hs.2 b (Nat.ne_of_lt (Nat.lt_of_lt_of_le (Heap.lt_size e) (I.ok.cab x c hfn hc)))).trans e1⟩
  ·obtain⟨o',e1⟩:=I.base.there b o e hx
   exact⟨o',(hs.2 b (Nat.ne_of_lt (Nat.lt_of_lt_of_le (Heap.lt_size e) (I.ok.cab x c hfn hc)))).trans e1⟩
  ·by_cases hj:j=i
   ·subst hj
    rw [hi] at e1; cases e1
    rw [List.getElem?_set_self hiσ] at e2
    cases e2
    exact⟨u,r,.inr ⟨.inl hk,c,hc,hc'⟩⟩
   ·rw [List.getElem?_set_ne (Ne.symm hj)] at e2
    obtain⟨u',r',q⟩:=hl j y v' e1 e2 e3
    refine⟨u',r',?_⟩
    rcases q with q | ⟨k,c',e,z'⟩
    ·exact .inl q
    ·refine .inr ⟨k,c',e,z'.sameBut hs ?_⟩
     rintro rfl
     exact hj (zpp hN e1 (I.ok.inj _ _ _ e hc ▸ hi))
  ·by_cases hcc:c'=c
   ·subst hcc; exact⟨_,hc'⟩
   ·obtain⟨w2,z2⟩:=I.cell y c' e
    exact⟨w2,z2.sameBut hs hcc⟩
  ·obtain⟨e,n,ne,nf,d⟩:=I.pin p hp
   refine⟨(hs.2 p.1 ?_).trans e,n,ne,nf,d⟩
   intro q
   rw [q,hoc] at e
   have q':oc=p.2:=Option.some.inj e
   exact d w' (by rw [<- q']; exact hocd)
theorem zb0{M:Model}{A:Around}{E:Value->Shared->Prop}{i:Nat}{x:Str}{v:V}{u:Value}{Q:Unit->Shared->Prop}(I:Inv X pins σ H s)(hN:X.N.Nodup)(hi:X.N[i]?=some x)(hx:Loc X.env.scope x)(r:RelV v u)
  (h:∀s',Inv X pins (σ.set i (some v)) H s'->Q () s') (hf:X.fn x=true\/X.env.scope.names.lookup x=some .local:=by first | exact .inl rfl | exact .inr rfl | assumption):wpAny M A (storeName X.env x u) Q E s:=
 zqy I hN hi hx r (fun s' I' _=>h s' I') hf
theorem Inv.call'{s':Shared}{ch:List Addr}(I:Inv X pins σ H s)(ho:s'.os=s.os)(u:Un (frs X.stack) ch H H' s.heap s'.heap)(hok:HOk X.prog X.w H' s'.heap)(hg:AllBare s'.gens)
  (hch:∀b∈ch,(b∈X.ex\/X.s₀.heap.objs.size<=b)/\b≠X.env.locals/\(∀x c,X.env.cells.lookup x=some c->c≠b)/\∀p∈X.pn++pins,p.1≠b):Inv X pins σ H' s':=by
 obtain⟨h',g',d',t',o'⟩:=s'
 have e:o'=s.os:=ho
 subst e
 exact I.call (g':=g') (t':=t') (d':=d') u hok hg hch
end
abbrev XK:=Value->Option Addr->Hp->Prop
abbrev St:=List (Option V)
abbrev VK:=V->Hp->Prop
abbrev TE:=St->Hp->VK->Prop
abbrev TT:=St->Hp->(Bool->Hp->Prop)->Prop
abbrev TA:=St->Hp->(List V->Hp->Prop)->Prop
structure Ends where
 nx:St->Hp->Prop
 rt:VK
 bk:St->Hp->Prop:=fun _ _=>False
 ct:St->Hp->Prop:=fun _ _=>False
abbrev TS:=Ends->St->Hp->Prop
def EP(X:Cx)(pins:List (Addr×Obj))(σ : St)(Q:VK)(u:Value)(s':Shared):Prop:=∃v H',Inv X pins σ H' s'/\RelV v u/\Q v H'
def TP(X:Cx)(pins:List (Addr×Obj))(σ : St)(Q:Bool->Hp->Prop)(b:Bool)(s':Shared):Prop:=∃H',Inv X pins σ H' s'/\Q b H'
def AP(X:Cx)(pins:List (Addr×Obj))(σ : St)(Q:List V->Hp->Prop)(us:List Value)(s':Shared):Prop:=∃vs H',Inv X pins σ H' s'/\Vals vs us/\Q vs H'
def SP(X:Cx)(pins:List (Addr×Obj))(D:Ends)(f:Flow)(s':Shared):Prop:=
 match f with
 | .next=>∃ σ' H',Inv X pins σ' H' s'/\D.nx σ' H'
 | .brk=>∃ σ' H',Inv X pins σ' H' s'/\D.bk σ' H'
 | .cont=>∃ σ' H',Inv X pins σ' H' s'/\D.ct σ' H'
 | .ret u=>∃v σ' H',Inv X pins σ' H' s'/\RelV v u/\D.rt v H'
abbrev PEv(X:Cx)(e:Expr)(t:TE):Prop:=
 ∀(pins:List (Addr×Obj)) (s:Shared) (σ : St) (H:Hp) (Q:VK),Inv X pins σ H s->t σ H Q->wpAny (model X.prog X.w) X.A (eval e X.env) (EP X pins σ Q) X.xe s
structure PE(X:Cx)(e:Expr)(t:TE):Prop where
 run:PEv X e t
instance{X:Cx}{e:Expr}{t:TE}:CoeFun (PE X e t) (fun _=>PEv X e t):=⟨PE.run⟩
abbrev PTv(X:Cx)(e:Expr)(t:TT):Prop:=
 ∀(pins:List (Addr×Obj)) (s:Shared) (σ : St) (H:Hp) (Q:Bool->Hp->Prop),Inv X pins σ H s->t σ H Q->wpAny (model X.prog X.w) X.A (isTrue e X.env (eval e X.env)) (TP X pins σ Q) X.xe s
structure PT(X:Cx)(e:Expr)(t:TT):Prop where
 run:PTv X e t
instance{X:Cx}{e:Expr}{t:TT}:CoeFun (PT X e t) (fun _=>PTv X e t):=⟨PT.run⟩
abbrev PWv(X:Cx)(e:Expr)(t:TT):Prop:=
 ∀(whole:Sem Value) (pins:List (Addr×Obj)) (s:Shared) (σ : St) (H:Hp) (Q:Bool->Hp->Prop),Inv X pins σ H s->t σ H Q->wpAny (model X.prog X.w) X.A (isTrue e X.env whole) (TP X pins σ Q) X.xe s
structure PW(X:Cx)(e:Expr)(t:TT):Prop where
 run:PWv X e t
instance{X:Cx}{e:Expr}{t:TT}:CoeFun (PW X e t) (fun _=>PWv X e t):=⟨PW.run⟩
theorem PW.pt{X:Cx}{e:Expr}{t:TT}(h:PW X e t):PT X e t:=⟨h.run _⟩
abbrev PAv(X:Cx)(es:List Expr)(t:TA):Prop:=
 ∀(pos:Pos) (pins:List (Addr×Obj)) (s:Shared) (σ : St) (H:Hp) (Q:List V->Hp->Prop),Inv X pins σ H s->t σ H Q->wpAny (model X.prog X.w) X.A (spliced (backTo pos (starEach es X.env))) (AP X pins σ Q) X.xe s
structure PA(X:Cx)(es:List Expr)(t:TA):Prop where
 run:PAv X es t
instance{X:Cx}{es:List Expr}{t:TA}:CoeFun (PA X es t) (fun _=>PAv X es t):=⟨PA.run⟩
abbrev PSv(X:Cx)(st:Stmt)(t:TS):Prop:=
 ∀(pins:List (Addr×Obj)) (s:Shared) (σ : St) (H:Hp) (D:Ends),Inv X pins σ H s->t D σ H->wpAny (model X.prog X.w) X.A (exec st X.env) (SP X pins D) X.xe s
structure PS(X:Cx)(st:Stmt)(t:TS):Prop where
 run:PSv X st t
instance{X:Cx}{st:Stmt}{t:TS}:CoeFun (PS X st t) (fun _=>PSv X st t):=⟨PS.run⟩
abbrev PSsv(X:Cx)(st:List Stmt)(t:TS):Prop:=
 ∀(pins:List (Addr×Obj)) (s:Shared) (σ : St) (H:Hp) (D:Ends),Inv X pins σ H s->t D σ H->wpAny (model X.prog X.w) X.A (execs st X.env) (SP X pins D) X.xe s
structure PSs(X:Cx)(st:List Stmt)(t:TS):Prop where
 run:PSsv X st t
instance{X:Cx}{st:List Stmt}{t:TS}:CoeFun (PSs X st t) (fun _=>PSsv X st t):=⟨PSs.run⟩
theorem thn{α : Type}{t:Sem α}{Q Q' : α->Shared->Prop}{M:Model}{A:Around}{E:Value->Shared->Prop}{s:Shared}(h:wpAny M A t Q E s)(hQ:∀a s,Q a s->Q' a s):wpAny M A t Q' E s:=wpAny_mono h hQ fun _ _ x=>x
end L2
namespace L2
open PySem PySem.Spec PyProof.Rows
section
variable{X:Cx}
def isI(x:V)(P:Int->Prop):Prop:=match x with | .int i=>P i | _=>False
def isBl(x:V)(P:Bool->Prop):Prop:=match x with | .bl i=>P i | _=>False
def isRf(x:V)(P:Addr->Prop):Prop:=match x with | .ref i=>P i | _=>False
theorem q77{i:Int}{P:Int->Prop}:isI (.int i) P=P i:=rfl
theorem q0i{i:Bool}{P:Bool->Prop}:isBl (.bl i) P=P i:=rfl
theorem q0g{i:Addr}{P:Addr->Prop}:isRf (.ref i) P=P i:=rfl
theorem isI.o{x:V}{P:Int->Prop}(h:isI x P):∃i,x=.int i/\P i:=by
 cases x<;>first | exact h.elim | exact⟨_,rfl,h⟩
theorem isBl.o{x:V}{P:Bool->Prop}(h:isBl x P):∃i,x=.bl i/\P i:=by
 cases x<;>first | exact h.elim | exact⟨_,rfl,h⟩
theorem isRf.o{x:V}{P:Addr->Prop}(h:isRf x P):∃i,x=.ref i/\P i:=by
 cases x<;>first | exact h.elim | exact⟨_,rfl,h⟩
theorem q76{x:V}{P:Int->Prop}:isI x P=∃i,x=.int i/\P i:=propext ⟨isI.o,fun⟨i,e,h⟩=>by subst e; exact h⟩
theorem q0h{x:V}{P:Bool->Prop}:isBl x P=∃i,x=.bl i/\P i:=propext ⟨isBl.o,fun⟨i,e,h⟩=>by subst e; exact h⟩
theorem q0f{x:V}{P:Addr->Prop}:isRf x P=∃i,x=.ref i/\P i:=propext ⟨isRf.o,fun⟨i,e,h⟩=>by subst e; exact h⟩
def atS:Nat->St->(V->Prop)->Prop
 | 0,some v::_,P=>P v
 | i+1,_::σ,P=>atS i σ P
 | _,_,_=>False
theorem q7w{v:V}{σ : St}{P:V->Prop}:atS 0 (some v::σ) P=P v:=rfl
theorem q7v{i:Nat}{x:Option V}{σ : St}{P:V->Prop}:atS (i+1) (x::σ) P=atS i σ P:=rfl
theorem isV.o:∀{i:Nat} {σ : St} {P:V->Prop},atS i σ P->∃v,σ[i]?=some (some v)/\P v
 | 0,some v::_,_,h=>⟨v,rfl,h⟩
 | i+1,_::σ,P,h=>by
  obtain⟨v,e,h⟩:=isV.o (i:=i) (σ:=σ) h
  exact⟨v,by simpa using e,h⟩
 | 0,[],_,h=>h.elim
 | 0,none::_,_,h=>h.elim
 | _+1,[],_,h=>h.elim
theorem isV.i:∀{i:Nat} {σ : St} {v:V} {P:V->Prop},σ[i]?=some (some v)->P v->atS i σ P
 | 0,some v::_,_,_,e,h=>by
  have e:some (some v)=some (some _):=e
  cases e; exact h
 | i+1,_::σ,v,P,e,h=>isV.i (i:=i) (σ:=σ) (by simpa using e) h
 | 0,[],_,_,e,_=>by simp at e
 | 0,none::_,_,_,e,_=>by simp at e
 | _+1,[],_,_,e,_=>by simp at e
theorem q7u{i:Nat}{σ : St}{P:V->Prop}:atS i σ P=∃v,σ[i]?=some (some v)/\P v:=propext ⟨isV.o,fun⟨_,e,h⟩=>isV.i e h⟩
def zwq:Nat->V->St->(St->Prop)->Prop
 | 0,v,_::σ,Q=>Q (some v::σ)
 | i+1,v,x::σ,Q=>zwq i v σ fun σ'=>Q (x::σ')
 | _,_,[],Q=>Q []
theorem zz8{v:V}{x:Option V}{σ : St}{Q:St->Prop}:zwq 0 v (x::σ) Q=Q (some v::σ):=rfl
theorem zz7{i:Nat}{v:V}{x:Option V}{σ : St}{Q:St->Prop}:zwq (i+1) v (x::σ) Q=zwq i v σ fun σ'=>Q (x::σ'):=rfl
theorem zlk:∀{i:Nat} {v:V} {σ : St} {Q:St->Prop},zwq i v σ Q=Q (σ.set i (some v))
 | 0,v,_::σ,Q=>rfl
 | i+1,v,x::σ,Q=>by rw [zwq,zlk (i:=i)]; rfl
 | 0,_,[],Q=>rfl
 | i+1,_,[],Q=>rfl
theorem qbz{α β : Type}{f : α->β}{a : α}{l:List α}:List.map f (a::l)=f a::List.map f l:=rfl
theorem qby{α β : Type}{f : α->β}:List.map f []=[]:=rfl
theorem qc1{α : Type}{a : α}{l:List α}:(a::l).length=l.length+1:=rfl
theorem qc0{α : Type}:([]:List α).length=0:=rfl
theorem qcj{α : Type}{a : α}{l r:List α}:(a::l)++r=a::(l++r):=rfl
theorem qci{α : Type}{r:List α}:[]++r=r:=rfl
def zuy(i:Nat):TE:=fun σ H Q=>atS i σ fun v=>Q v H
def tC(v:V):TE:=fun _ H Q=>Q v H
theorem z00{i:Nat}{x:Str}{pos:Pos}(hN:X.N[i]?=some x)(hv:Vis X.env.scope x) (hd:(x == ("__debug__" : Str))=false:=by decide) (hcd:(x == ("__classdict__" : Str))=false:=by decide):PE X (.Name x pos) (zuy i):=by
 refine⟨?_⟩
 intro pins s σ H Q I h
 obtain⟨v,e,h⟩:=isV.o h
 obtain⟨m,hn,hl⟩:=I.loc
 obtain⟨u,r,l⟩:=hl i x v hN e hv
 have fin:EP X pins σ Q u s:=⟨v,H,I,r,h⟩
 rcases l with⟨hk,hm⟩ | ⟨hk,c,hc,hcell⟩
 ·exact wpAny_Name (wpAny_loadName_local I.ok.kind hk hn hm fin) hd
 ·rcases hk with hk | hk
  ·exact wpAny_Name (wpAny_loadName_cell I.ok.kind hk hc hcell fin) hd
  ·exact wpAny_Name (wpAny_loadName_free I.ok.kind hk hc hcell fin hcd) hd
theorem z03{i j pos}:PE X (.Constant (.int i) j pos) (tC (.int i)):=⟨fun _ _ _ H _ I h=>wpAny_Constant_int ⟨.int i,H,I.tok _,⟨_,rfl⟩,h⟩⟩
theorem zc8{b j pos}:PE X (.Constant (.bool b) j pos) (tC (.bl b)):=⟨fun _ _ _ H _ I h=>Constant_bool ⟨.bl b,H,I,rfl,h⟩⟩
theorem z2m{j pos}:PE X (.Constant .none j pos) (tC .non):=⟨fun _ _ _ H _ I h=>Constant_none ⟨.non,H,I,rfl,h⟩⟩
theorem z2s{x j pos}:PE X (.Constant (.str x) j pos) (tC (.str x)):=⟨fun _ _ _ H _ I h=>Calls.Constant_str ⟨.str x,H,I.tok _,⟨_,rfl⟩,h⟩⟩
def Gl(X:Cx)(x:Str):Prop:=X.env.kindOf x=some .globalImplicit
theorem ztx{E:Value->Shared->Prop}{pins:List (Addr×Obj)}{s:Shared}{σ : St}{H:Hp}{x:Str}{u:Value}{pos:Pos}{Q:Value->Shared->Prop}(I:Inv X pins σ H s)(hg:Gl X x)(hm:X.mg x=some u)(h:Q u s)
  (hd:(x == ("__debug__" : Str))=false:=by decide):wpAny (model X.prog X.w) X.A (eval (.Name x pos) X.env) Q E s:=
 Calls.Name_function_global I.ok.kind hg (Calls.loadGlobal_global (by rw [I.ok.glob]; exact I.mod.glob.keeps I.bk) hm h) hd
theorem zov{E:Value->Shared->Prop}{pins:List (Addr×Obj)}{s:Shared}{σ : St}{H:Hp}{x:Str}{u:Value}{pos:Pos}{Q:Value->Shared->Prop}(I:Inv X pins σ H s)(hg:Gl X x)(hm:X.mg x=none)(hv:bootBuiltins x=some u)(h:Q u s)
  (hn:x≠"__name__":=by decide) (hd:(x == ("__debug__" : Str))=false:=by decide):wpAny (model X.prog X.w) X.A (eval (.Name x pos) X.env) Q E s:=by
 obtain⟨mb,h1,h2⟩:=I.mod.blt
 exact Calls.Name_function_global I.ok.kind hg (Calls.loadGlobal_builtin (by rw [I.ok.glob]; exact I.mod.glob.keeps I.bk) hm (by rw [I.ok.blt]; exact h1.keeps I.bk) ((h2 x hn).trans hv) h) hd
theorem q6n{x:Str}{v:V}{u:Value}{pos:Pos}(hg:Gl X x)(hm:X.mg x=some u)(r:RelV v u) (hd:(x == ("__debug__" : Str))=false:=by decide):PE X (.Name x pos) (tC v):=
 ⟨fun _ _ _ H _ I h=>ztx I hg hm ⟨v,H,I,r,h⟩ hd⟩
theorem zhv{x:Str}{v:V}{u:Value}{pos:Pos}(hg:Gl X x)(hm:X.mg x=none)(hv:bootBuiltins x=some u)(r:RelV v u) (hn:x≠"__name__":=by decide) (hd:(x == ("__debug__" : Str))=false:=by decide):PE X (.Name x pos) (tC v):=
 ⟨fun _ _ _ H _ I h=>zov I hg hm hv ⟨v,H,I,r,h⟩ hn hd⟩
variable{a b:Expr}{ta tb:TE}{pos:Pos}
abbrev PCv(X:Cx)(op:CmpOp)(a b:Expr)(t:TE):Prop:=
 ∀(pins:List (Addr×Obj)) (s:Shared) (σ : St) (H:Hp) (Q:VK),Inv X pins σ H s->t σ H Q->
  wpAny (model X.prog X.w) X.A (eval a X.env) (fun v s₁=>wpAny (model X.prog X.w) X.A (eval b X.env) (fun u s₂=>wpAny (model X.prog X.w) X.A (compareOp op v u) (EP X pins σ Q) X.xe s₂) X.xe s₁) X.xe s
structure PC(X:Cx)(op:CmpOp)(a b:Expr)(t:TE):Prop where
 run:PCv X op a b t
instance{X:Cx}{op:CmpOp}{a b:Expr}{t:TE}:CoeFun (PC X op a b t) (fun _=>PCv X op a b t):=⟨PC.run⟩
theorem zvh(b:Expr){op:CmpOp}(h:op≠.In)(h2:op≠.NotIn):behindInMarks op b=false:=by
 have e1:(op == CmpOp.In)=false:=by cases op<;>first | rfl | exact absurd rfl h
 have e2:(op == CmpOp.NotIn)=false:=by cases op<;>first | rfl | exact absurd rfl h2
 cases b<;>simp[behindInMarks,e1,e2]
def tB(t:TE):TT:=fun σ H Q=>t σ H fun x H1=>isBl x fun c=>Q c H1
theorem q56{op:CmpOp}{t:TE}(h:PC X op a b t)(h1:behindInMarks op b=false:=by first | exact zvh _ (by decide) (by decide) | rfl):PE X (.Compare a [op] [b] pos) t:=⟨fun pins s σ H Q I hw=>wpAny_Compare1 (h pins s σ H Q I hw) h1⟩
theorem zv8{op:CmpOp}{t:TE}(h:PC X op a b t)(h1:behindInMarks op b=false:=by first | exact zvh _ (by decide) (by decide) | rfl):PT X (.Compare a [op] [b] pos) (tB t):=by
 refine⟨?_⟩
 intro pins s σ H Q I hw
 refine wpAny_isTrue_Compare1 (thn (h pins s σ H _ I hw) fun v s1 h1=>thn h1 fun u s2 h2=>thn h2 fun c s3 ⟨x,H1,I1,r1,q1⟩=>?_) h1
 obtain⟨d,rfl,q⟩:=isBl.o q1
 cases r1
 exact wpAny_truthy_bool ⟨H1,I1,q⟩
theorem z7e{e:Expr}{t:TE}(h:PE X e t)(he:∀whole,isTrue e X.env whole=(do let v <- whole; standAt e.pos; holding [v] (truthy v)):=by intro _; rfl):PT X e (tB t):=by
 refine⟨?_⟩
 intro pins s σ H Q I hw
 refine isTrue_plain (thn (h pins s σ H _ I hw) fun v s1 ⟨x,H1,I1,r1,q1⟩=>?_) (he _)
 obtain⟨d,rfl,q⟩:=isBl.o q1
 cases r1
 exact wpAny_truthy_bool ⟨H1,I1,q⟩
variable{tA tB':TT}{zr7:List Expr}
def q85(t u:TT):TT:=fun σ H Q=>t σ H fun c H1=>if c=true then u σ H1 Q else Q false H1
def tOr(t u:TT):TT:=fun σ H Q=>t σ H fun c H1=>if c=true then Q true H1 else u σ H1 Q
def qam(t:TT):TT:=fun σ H Q=>t σ H fun c H1=>Q (!c) H1
theorem zlq(ha:PT X a tA):PW X (.BoolOp .And [a] pos) tA:=by
 refine⟨?_⟩
 intro wh pins s σ H Q I h
 refine isTrue_and (thn (ha pins s σ H Q I h) fun c s1 e=>?_)
 cases c with
 | true=>exact isTrue_and_nil e
 | false=>exact e
theorem zby(ha:PT X a tA):PW X (.BoolOp .Or [a] pos) tA:=by
 refine⟨?_⟩
 intro wh pins s σ H Q I h
 refine isTrue_or (thn (ha pins s σ H Q I h) fun c s1 e=>?_)
 cases c with
 | false=>exact isTrue_or_nil e
 | true=>exact e
theorem zr8(ha:PT X a tA)(hb:PW X (.BoolOp .And (b::zr7) pos) tB'):PW X (.BoolOp .And (a::b::zr7) pos) (q85 tA tB'):=by
 refine⟨?_⟩
 intro wh pins s σ H Q I h
 refine isTrue_and (thn (ha pins s σ H _ I h) fun c s1 ⟨H1,I1,q1⟩=>?_)
 cases c with
 | true=>exact hb wh pins s1 σ H1 Q I1 q1
 | false=>exact⟨H1,I1,q1⟩
theorem zhs(ha:PT X a tA)(hb:PW X (.BoolOp .Or (b::zr7) pos) tB'):PW X (.BoolOp .Or (a::b::zr7) pos) (tOr tA tB'):=by
 refine⟨?_⟩
 intro wh pins s σ H Q I h
 refine isTrue_or (thn (ha pins s σ H _ I h) fun c s1 ⟨H1,I1,q1⟩=>?_)
 cases c with
 | true=>exact⟨H1,I1,q1⟩
 | false=>exact hb wh pins s1 σ H1 Q I1 q1
theorem zg4(ha:PT X a tA):PT X (.UnaryOp .Not a pos) (qam tA):=by
 refine⟨?_⟩
 intro pins s σ H Q I h
 exact isTrue_not (ha pins s σ H (fun c H1=>Q (!c) H1) I h)
def q2a(ta tb:TE):TE:=fun σ H Q=>ta σ H fun x H1=>isBl x fun c=>if c=true then tb σ H1 Q else Q (.bl false) H1
def qb9(ta tb:TE):TE:=fun σ H Q=>ta σ H fun x H1=>isBl x fun c=>if c=true then Q (.bl true) H1 else tb σ H1 Q
def q25(ta:TE):TE:=fun σ H Q=>ta σ H fun x H1=>isBl x fun c=>Q (.bl (!c)) H1
theorem zj2{op}{t:TE}(h:PE X a t):PE X (.BoolOp op [a] pos) t:=⟨fun pins s σ H Q I hw=>BoolOp_one (h pins s σ H Q I hw)⟩
theorem zem(ha:PE X a ta)(hb:PE X (.BoolOp .And (b::zr7) pos) tb):PE X (.BoolOp .And (a::b::zr7) pos) (q2a ta tb):=by
 refine⟨?_⟩
 intro pins s σ H Q I h
 refine BoolOp_and (thn (ha pins s σ H _ I h) fun v s1 ⟨x,H1,I1,r1,q1⟩=>?_)
 obtain⟨c,rfl,q1⟩:=isBl.o q1
 cases r1
 refine wpAny_truthy_bool ?_
 cases c with
 | true=>exact hb pins s1 σ H1 Q I1 q1
 | false=>exact⟨.bl false,H1,I1,rfl,q1⟩
theorem q55(ha:PE X a ta):PE X (.UnaryOp .Not a pos) (q25 ta):=by
 refine⟨?_⟩
 intro pins s σ H Q I h
 refine UnaryOp_ (thn (ha pins s σ H _ I h) fun v s1 ⟨x,H1,I1,r1,q1⟩=>?_)
 obtain⟨c,rfl,q1⟩:=isBl.o q1
 cases r1
 exact not_of (wpAny_truthy_bool ⟨.bl (!c),H1,I1,rfl,q1⟩)
def tIf(t:TT)(ta tb:TE):TE:=fun σ H Q=>t σ H fun c H1=>if c=true then ta σ H1 Q else tb σ H1 Q
theorem zb4{c:Expr}(hc:PT X c tA)(ha:PE X a ta)(hb:PE X b tb):PE X (.IfExp c a b pos) (tIf tA ta tb):=by
 refine⟨?_⟩
 intro pins s σ H Q I h
 refine wpAny_IfExp (thn (hc pins s σ H _ I h) fun d s1 ⟨H1,I1,q1⟩=>?_)
 cases d with
 | true=>exact ha pins s1 σ H1 Q I1 q1
 | false=>exact hb pins s1 σ H1 Q I1 q1
end
end L2
namespace L2
open PySem PySem.Spec PyProof.Rows
def SqL(K:PySem.W.Frag)(H:Hp)(a:Addr)(xs:List V):Prop:=
 Rd H a (.lst xs)\/
  ∃(o:Obj) (its:Array Value) (n:Nat),K.lookup a=some o/\o.cls=.type "list"/\o.dict=none/\o.data=.seq its n/\its.size<=sizeLine/\Vals xs its.toList
def SqT(K:PySem.W.Frag)(H:Hp)(a:Addr)(xs:List V):Prop:=
 Rd H a (.tup xs)\/
  ∃(o:Obj) (its:Array Value) (n:Nat),K.lookup a=some o/\o.cls=.type "tuple"/\o.data=.seq its n/\its.size<=sizeLine/\Vals xs its.toList
def qdx:Value->Option V
 | .none=>some .non
 | .bool b=>some (.bl b)
 | .int i _=>some (.int i)
 | .str x _=>some (.str x)
 | .bytes b _=>some (.byt b)
 | .float b _=>some (.flt b)
 | .ref a=>some (.ref a)
 | .type n=>some (.ty n)
 | _=>none
theorem RelV.abs{x:V}{u:Value}(r:RelV x u):qdx u=some x:=by
 cases x with
 | non=>cases r; rfl
 | bl _=>cases r; rfl
 | int _=>obtain⟨t,rfl⟩:=r; rfl
 | str _=>obtain⟨t,rfl⟩:=r; rfl
 | byt _=>obtain⟨t,rfl⟩:=r; rfl
 | flt _=>obtain⟨t,rfl⟩:=r; rfl
 | ref _=>cases r; rfl
 | ty _=>cases r; rfl
theorem RelV.inj{x y:V}{u:Value}(r:RelV x u)(q:RelV y u):x=y:=Option.some.inj (r.abs.symm.trans q.abs)
theorem Vals.inj:∀{xs ys:List V} {us:List Value},Vals xs us->Vals ys us->xs=ys
 | _,_,_,.nil,.nil=>rfl
 | _,_,_,.cons r t,.cons r' t'=>by rw [r.inj r',Vals.inj t t']
section
variable{X:Cx}{pins:List (Addr×Obj)}{σ : St}{H:Hp}{s:Shared}{a:Addr}{xs ys:List V}
theorem SqL.of{K:PySem.W.Frag}(h:H a=some (.lst xs)):SqL K H a xs:=.inl (.inl h)
theorem SqT.of{K:PySem.W.Frag}(h:H a=some (.tup xs)):SqT K H a xs:=.inl (.inl h)
theorem Inv.list(I:Inv X pins σ H s)(h:SqL X.K H a xs):∃its:List Value,Vals xs its/\PlainL s.heap a its.toArray/\xs.length<=sizeLine:=by
 rcases h with h | ⟨o,its,n,hk,hc,hd,hs,hz,r⟩
 ·obtain⟨z,its,n,r,e⟩:=h.ok I.hok
  exact⟨its,r,⟨_,n,e,rfl,rfl,rfl⟩,z⟩
 ·refine⟨its.toList,r,⟨o,n,I.kIn a o hk,hc,hd,by simpa using hs⟩,?_⟩
  have e:=r.length
  simp only[Array.length_toList] at e
  omega
theorem Inv.tuple(I:Inv X pins σ H s)(h:SqT X.K H a xs):∃its:List Value,Vals xs its/\IsTup s.heap a its.toArray/\xs.length<=sizeLine:=by
 rcases h with h | ⟨o,its,n,hk,hc,hs,hz,r⟩
 ·obtain⟨z,its,r,p⟩:=h.ok I.hok
  exact⟨its,r,p,z⟩
 ·refine⟨its.toList,r,⟨o,I.kIn a o hk,hc,n,by simpa using hs⟩,?_⟩
  have e:=r.length
  simp only[Array.length_toList] at e
  omega
theorem Inv.list_inj(I:Inv X pins σ H s)(h:SqL X.K H a xs)(h':SqL X.K H a ys):xs=ys:=by
 obtain⟨its,r,⟨o,n,e,_,_,d⟩,_⟩:=I.list h
 obtain⟨its',r',⟨o',n',e',_,_,d'⟩,_⟩:=I.list h'
 rw [e] at e'; cases e'
 rw [d] at d'
 injection d' with d1 _
 have:its=its':=by simpa using congrArg Array.toList d1
 subst this
 exact r.inj r'
theorem Inv.tuple_inj(I:Inv X pins σ H s)(h:SqT X.K H a xs)(h':SqT X.K H a ys):xs=ys:=by
 obtain⟨its,r,⟨o,e,_,n,d⟩,_⟩:=I.tuple h
 obtain⟨its',r',⟨o',e',_,n',d'⟩,_⟩:=I.tuple h'
 rw [e] at e'; cases e'
 rw [d] at d'
 injection d' with d1 _
 have:its=its':=by simpa using congrArg Array.toList d1
 subst this
 exact r.inj r'
end
abbrev Cx.wish(X:Cx)(E:Value->Shared->Prop):Cx:={X with xe:=E}
abbrev Cx.nox(X:Cx):Cx:=X.wish fun _ _=>False
theorem Cx.Ok.wish{X:Cx}(ok:X.Ok)(E:Value->Shared->Prop):(X.wish E).Ok:=
 ⟨ok.mod,ok.kind,ok.glob,ok.blt,ok.above,ok.inj,ok.has,ok.cab,ok.hd,ok.frames,ok.stk,ok.exf,ok.bs,ok.bsz,ok.noex,ok.exfs,ok.funs,ok.frf⟩
theorem Cx.Ok.unwish{X:Cx}{E:Value->Shared->Prop}(ok:(X.wish E).Ok):X.Ok:=
 ⟨ok.mod,ok.kind,ok.glob,ok.blt,ok.above,ok.inj,ok.has,ok.cab,ok.hd,ok.frames,ok.stk,ok.exf,ok.bs,ok.bsz,ok.noex,ok.exfs,ok.funs,ok.frf⟩
section
variable{X:Cx}{pins:List (Addr×Obj)}{σ : St}{H:Hp}{s:Shared}{E:Value->Shared->Prop}
theorem Inv.wish(I:Inv X pins σ H s)(E:Value->Shared->Prop):Inv (X.wish E) pins σ H s:=⟨I.ok.wish E,I.os,I.bare,I.base,I.loc,I.cell,I.free,I.freeC,I.pin,I.hok,I.len⟩
theorem Inv.unwish(I:Inv (X.wish E) pins σ H s):Inv X pins σ H s:=⟨I.ok.unwish,I.os,I.bare,I.base,I.loc,I.cell,I.free,I.freeC,I.pin,I.hok,I.len⟩
theorem SP.unwish{D:Ends}{f:Flow}{s':Shared}(h:SP (X.wish E) pins D f s'):SP X pins D f s':=by
 cases f with
 | next=>obtain⟨σ',H',I,q⟩:=h; exact⟨σ',H',I.unwish,q⟩
 | brk=>obtain⟨σ',H',I,q⟩:=h; exact⟨σ',H',I.unwish,q⟩
 | cont=>obtain⟨σ',H',I,q⟩:=h; exact⟨σ',H',I.unwish,q⟩
 | ret u=>obtain⟨v,σ',H',I,r,q⟩:=h; exact⟨v,σ',H',I.unwish,r,q⟩
theorem PE.nox{e:Expr}{t:TE}(h:PE X.nox e t):PE X e t:=⟨fun pins s σ H Q I hw=>
 wpAny_mono (h pins s σ H Q (I.wish _) hw) (fun _ _ ⟨v,H',I',r,q⟩=>⟨v,H',I'.unwish,r,q⟩) fun _ _ z=>False.elim z⟩
theorem PT.nox{e:Expr}{t:TT}(h:PT X.nox e t):PT X e t:=⟨fun pins s σ H Q I hw=>
 wpAny_mono (h pins s σ H Q (I.wish _) hw) (fun _ _ ⟨H',I',q⟩=>⟨H',I'.unwish,q⟩) fun _ _ z=>False.elim z⟩
theorem PSs.nox{st:List Stmt}{t:TS}(h:PSs X.nox st t):PSs X st t:=⟨fun pins s σ H D I hw=>
 wpAny_mono (h pins s σ H D (I.wish _) hw) (fun _ _ q=>q.unwish) fun _ _ z=>False.elim z⟩
end
section
variable{X:Cx}{st:Stmt}{zr7:List Stmt}{t u:TS}{e:Expr}{te:TE}{pos:Pos}
def zyk:TS:=fun D σ H=>D.nx σ H
def q8j(t u:TS):TS:=fun D σ H=>t {D with nx:=u D} σ H
theorem z0e:PSs X [] zyk:=⟨fun _ _ σ H _ I h=>wpAny_execs_nil ⟨σ,H,I,h⟩⟩
theorem z01(h1:PS X st t)(h2:PSs X zr7 u):PSs X (st::zr7) (q8j t u):=by
 refine⟨?_⟩
 intro pins s σ H D I h
 refine wpAny_execs_cons (thn (h1 pins s σ H {D with nx:=u D} I h) fun f s1 q=>?_)
 cases f with
 | next=>
  obtain⟨σ',H',I',q⟩:=q
  exact h2 pins s1 σ' H' D I' q
 | ret v=>exact q
 | brk=>exact q
 | cont=>exact q
theorem z05(h1:PS X st t):PSs X [st] t:=by
 refine⟨?_⟩
 intro pins s σ H D I h
 refine wpAny_execs_cons (thn (h1 pins s σ H D I h) fun f s1 q=>?_)
 cases f with
 | next=>exact wpAny_execs_nil q
 | ret v=>exact q
 | brk=>exact q
 | cont=>exact q
def zyn:TS:=fun D σ H=>D.bk σ H
def q60:TS:=fun D σ H=>D.ct σ H
theorem Inv.quiet{pins:List (Addr×Obj)}{σ : St}{H:Hp}{s:Shared}(I:Inv X pins σ H s):interactive X.env=false:=by simp[interactive,I.ok.kind]
def q28(te:TE):TS:=fun D σ H=>te σ H fun _ H1=>D.nx σ H1
theorem zlr(he:PE X e te)(hs:swapsWith e none pos.line X.env=pure false:=by rfl):PS X (.Expr e pos) (q28 te):=by
 refine⟨?_⟩
 intro pins s σ H D I h
 exact wpAny_Expr_any (thn (he pins s σ H _ I h) fun v s1 ⟨x,H1,I1,r1,q1⟩=>⟨σ,H1,I1,q1⟩) I.quiet hs
def q8k(te:TE):TS:=fun D σ H=>te σ H D.rt
theorem z08(he:PE X e te):PS X (.Return (some e) pos) (q8k te):=by
 refine⟨?_⟩
 intro pins s σ H D I h
 exact wpAny_Return_some (thn (he pins s σ H _ I h) fun v s1 ⟨x,H1,I1,r1,q1⟩=>⟨x,σ,H1,I1,r1,q1⟩)
def q5w:TS:=fun D _ H=>D.rt .non H
def zt6(c:TT)(t u:TS):TS:=fun D σ H=>c σ H fun b H1=>if b=true then t D σ H1 else u D σ H1
theorem z1k{c:Expr}{a b:List Stmt}{tc:TT}(hc:PT X c tc)(ha:PSs X a t)(hb:PSs X b u):PS X (.If c a b pos) (zt6 tc t u):=by
 refine⟨?_⟩
 intro pins s σ H D I h
 refine wpAny_If (thn (hc pins s σ H _ I h) fun d s1 ⟨H1,I1,q1⟩=>?_)
 cases d with
 | true=>exact ha pins s1 σ H1 D I1 q1
 | false=>exact hb pins s1 σ H1 D I1 q1
def zuz:TS:=fun _ _ _=>False
theorem q30:PS X st zuz:=⟨fun _ _ _ _ _ _ h=>h.elim⟩
end
abbrev TG:=V->St->Hp->(St->Hp->Prop)->Prop
abbrev TGs:=List V->St->Hp->(St->Hp->Prop)->Prop
abbrev PGv(X:Cx)(target:Expr)(t:TG):Prop:=
 ∀(pins:List (Addr×Obj)) (s:Shared) (σ : St) (H:Hp) (v:V) (u:Value) (Q:St->Hp->Prop),Inv X pins σ H s->RelV v u->t v σ H Q->
  wpAny (model X.prog X.w) X.A (assign target X.env u) (fun _ s'=>∃ σ' H',Inv X pins σ' H' s'/\Q σ' H') X.xe s
structure PG(X:Cx)(target:Expr)(t:TG):Prop where
 run:PGv X target t
instance{X:Cx}{target:Expr}{t:TG}:CoeFun (PG X target t) (fun _=>PGv X target t):=⟨PG.run⟩
abbrev PGsv(X:Cx)(ts:List Expr)(t:TGs):Prop:=
 ∀(pins:List (Addr×Obj)) (s:Shared) (σ : St) (H:Hp) (vs:List V) (us:List Value) (Q:St->Hp->Prop),Inv X pins σ H s->Vals vs us->t vs σ H Q->
  wpAny (model X.prog X.w) X.A (assignInOrder ((assignEach ts X.env).map (·.2)) us) (fun _ s'=>∃ σ' H',Inv X pins σ' H' s'/\Q σ' H') X.xe s
structure PGs(X:Cx)(ts:List Expr)(t:TGs):Prop where
 run:PGsv X ts t
instance{X:Cx}{ts:List Expr}{t:TGs}:CoeFun (PGs X ts t) (fun _=>PGsv X ts t):=⟨PGs.run⟩
section
variable{X:Cx}{pos:Pos}
def zci(i:Nat):TG:=fun v σ H Q=>zwq i v σ fun σ'=>Q σ' H
theorem z19{i:Nat}{x:Str}(hN:X.N.Nodup)(hi:X.N[i]?=some x)(hx:Loc X.env.scope x)(hf:X.fn x=true\/X.env.scope.names.lookup x=some .local:=by first | exact .inl rfl | exact .inr rfl | assumption):PG X (.Name x pos) (zci i):=by
 refine⟨?_⟩
 intro pins s σ H v u Q I r h
 rw [zci,zlk] at h
 exact wpAny_assign_Name (zb0 I hN hi hx r (fun s' I'=>⟨_,H,I',h⟩) hf)
def q88:TGs:=fun vs σ H Q=>vs=[]/\Q σ H
def zq2(t:TG)(u:TGs):TGs:=fun vs σ H Q=>∃v r,vs=v::r/\t v σ H fun σ' H'=>u r σ' H' Q
theorem z9m:PGs X [] q88:=by
 refine⟨?_⟩
 intro pins s σ H vs us Q I r h
 obtain⟨e,h⟩:=h
 subst e
 cases r
 exact assignInOrder_nil ⟨σ,H,I,h⟩
theorem z23{e:Expr}{es:List Expr}{t:TG}{u:TGs}(h1:PG X e t)(h2:PGs X es u)
  (hs:(assignEach (e::es) X.env).map (·.2)=assign e X.env::(assignEach es X.env).map (·.2):=by rfl):PGs X (e::es) (zq2 t u):=by
 refine⟨?_⟩
 intro pins s σ H vs us Q I r h
 obtain⟨v,vr,e1,h⟩:=h
 subst e1
 cases r with
 | cons r rr=>
  rw [hs]
  refine assignInOrder_cons (thn (h1 pins s σ H _ _ _ I r h) fun _ s1 ⟨σ1,H1,I1,q1⟩=>?_)
  exact h2 pins s1 σ1 H1 _ _ Q I1 rr q1
def q7b(K:PySem.W.Frag)(n:Nat)(t:TGs):TG:=fun v σ H Q=>isRf v fun a=>∃xs,SqT K H a xs/\xs.length=n/\t xs σ H Q
theorem zls{es:List Expr}{k:Nat}{t:TGs}{n:Nat}(hc:X.calm=true)(h:PGs X es t)
  (hn:(assignEach es X.env).length=n:=by rfl) (hst:(assignEach es X.env).findIdx? (·.1)=none:=by rfl):PG X (.Tuple es k pos) (q7b X.K n t):=by
 refine⟨?_⟩
 intro pins s σ H v u Q I r hw
 obtain⟨a,e1,xs,hq,hl,hA⟩:=isRf.o hw
 subst e1
 cases r
 obtain⟨its,rv,ht,hz⟩:=I.tuple hq
 refine assign_Tuple_tuple (I.ok.hd hc) ht (by simp[hn,<- hl,rv.length]) hst fun h' hx=>?_
 have I1:Inv X pins σ H {s with heap:=h'}:=I.kept (t':=s.toks) fun b o e=>hx b o (Nat.ne_of_lt (Heap.lt_size e)) e
 exact h pins _ σ H xs _ Q I1 (by simpa using rv) hA
def q8m(te:TE)(g:TG):TS:=fun D σ H=>te σ H fun x H1=>g x σ H1 D.nx
theorem z11{i:Nat}{x:Str}{e:Expr}{te:TE}{pos':Pos}(hN:X.N.Nodup)(hi:X.N[i]?=some x)(hx:Loc X.env.scope x)(he:PE X e te)(hs:swapsWith e (some (.Name x pos')) pos.line X.env=pure false:=by rfl)(hf:X.fn x=true\/X.env.scope.names.lookup x=some .local:=by first | exact .inl rfl | exact .inr rfl | assumption) :
  PS X (.Assign [.Name x pos'] e pos) (q8m te (zci i)):=by
 refine⟨?_⟩
 intro pins s σ H D I h
 refine wpAny_Assign_Name (thn (he pins s σ H _ I h) fun v s1 ⟨y,H1,I1,r1,q1⟩=>?_) hs
 have q1:zci i y σ H1 D.nx:=q1
 rw [zci,zlk] at q1
 exact zb0 I1 hN hi hx r1 (fun s2 I2=>⟨_,H1,I2,q1⟩) hf
def qcq(i j:Nat)(ta:TA):TS:=fun D σ H=>ta σ H fun vs H1=>∃v w,vs=[v,w]/\D.nx ((σ.set i (some v)).set j (some w)) H1
theorem q54{i j:Nat}{x y:Str}{a b:Expr}{ta:TA}{px py pt:Pos}{kt k2 pt2}(hc:X.calm=true)(hN:X.N.Nodup)(hi:X.N[i]?=some x)(hj:X.N[j]?=some y)(hij:i≠j)
  (hx:X.env.scope.names.lookup x=some .local) (hy:X.env.scope.names.lookup y=some .local) (ha:PA X [a,b] ta)
  (hw:swappedStores [.Tuple [.Name x px,.Name y py] kt pt] (.Tuple [a,b] k2 pt2) X.env=pure (some [x,y]))
  (hs:swapsWithSole [.Tuple [.Name x px,.Name y py] kt pt] (.Tuple [a,b] k2 pt2) pos.line X.env=pure false:=by rfl) :
  PS X (.Assign [.Tuple [.Name x px,.Name y py] kt pt] (.Tuple [a,b] k2 pt2) pos) (qcq i j ta):=by
 refine⟨?_⟩
 intro pins s σ H D I h
 rw [exec_Assign_arm]
 refine wpAny_bind (wpAny_standAt ?_)
 rw [hs]
 refine wpAny_bind (wpAny_pure ?_)
 rw [if_neg (by decide)]
 refine wpAny_bind (Tuple_ (thn (ha _ pins s σ H _ I h) fun us s1 ⟨vs,H1,I1,r1,q1⟩=>?_))
 obtain⟨v,w,e1,q1⟩:=q1
 subst e1
 obtain⟨u1,u2,rfl,rv,rw'⟩:∃u1 u2,us=[u1,u2]/\RelV v u1/\RelV w u2:=by
  cases r1 with
  | cons p q=>
   cases q with
   | cons p' q'=>
    cases q'
    exact⟨_,_,rfl,p,p'⟩
 refine wpAny_newObj_type ?_ (by show 2<=sizeLine; decide)
 have I2:Inv X pins σ H1 {s1 with heap:=s1.heap.push {cls:=.type "tuple",data:=.seq [u1,u2].toArray}}:=I1.kept (t':=s1.toks) fun b o e=>Heap.get?_push_of_some _ e
 rw [hw]
 refine wpAny_bind (wpAny_pure ?_)
 show wpAny (model X.prog X.w) X.A (do rule "assign.swapped-stores"; let items <- unpackItems (.ref s1.heap.objs.size) 2 none; assignInOrder [fun v=>bindName X.env y v,fun v=>bindName X.env x v] items.reverse; pure Flow.next) _ _ _
 refine wpAny_bind (wpAny_rule (wpAny_bind (unpackItems_tuple (items:=#[u1,u2]) (I.ok.hd hc) (IsTup.new s1.heap _) fun h' hx'=>?_)))
 have I3:=I2.kept (h':=h') (t':=s1.toks) fun b o e=>hx' b o (Nat.ne_of_lt (Heap.lt_size e)) e
 show wpAny _ _ (assignInOrder [fun v=>bindName X.env y v,fun v=>bindName X.env x v] [u2,u1] >>= fun _=>pure Flow.next) _ _ _
 refine wpAny_bind (assignInOrder_cons (wpAny_bindName (zb0 I3 hN hj (.inl hy) rw' (fun s2 I4=>?_) (.inr hy))))
 refine assignInOrder_cons (wpAny_bindName (zb0 I4 hN hi (.inl hx) rv (fun s3 I5=>assignInOrder_nil (wpAny_pure ?_)) (.inr hx)))
 rw [List.set_comm _ _ (Ne.symm hij)] at I5
 exact⟨_,H1,I5,q1⟩
end
section
variable{X:Cx}{pos:Pos}
end
structure It where
 go:Nat->Hp->Prop
 yld:Nat->Hp->V->Hp->Prop
 stop:Nat->Hp->Prop
def FpOk(X:Cx)(pins:List (Addr×Obj))(H:Hp)(b:Addr):Prop:=
 H b=none/\b≠X.env.locals/\b∉X.fs/\(b∈X.ex\/X.s₀.heap.objs.size<=b)/\(∀x c,X.env.cells.lookup x=some c->c≠b)/\∀p∈X.pn++pins,p.1≠b
theorem Inv.fpOk{X:Cx}{pins:List (Addr×Obj)}{σ : St}{H H':Hp}{s:Shared}{b:Addr}(I:Inv X pins σ H s)(hb:s.heap.objs.size<=b)(hn:H' b=none):FpOk X pins H' b:=by
 refine⟨hn,Nat.ne_of_gt (Nat.lt_of_lt_of_le I.lt hb),I.nofs hb,.inr (Nat.le_trans I.sz hb),fun x c e z=>?_,fun p hp z=>?_⟩
 ·obtain⟨v,q⟩:=I.cell x c e
  exact absurd (Nat.lt_of_lt_of_le q.lt (by rw [z]; exact hb)) (Nat.lt_irrefl _)
 ·exact absurd (Nat.lt_of_lt_of_le (Heap.lt_size (I.pin p hp).1) (by rw [z]; exact hb)) (Nat.lt_irrefl _)
structure Turn(P:Program)(w:World)(K:PySem.W.Frag)(tg:Expr)(J:It)(fp:List Addr)(it:Addr)(tn:Nat->Heap->Prop):Prop where
 mem:it∈fp
 obj:∀i h,tn i h->∀b∈fp,∃o,h.get? b=some o/\∀v,o.data≠.cell v
 keep:∀i h h',tn i h->(∀b∈fp,∀o,h.get? b=some o->h'.get? b=some o)->tn i h'
 item:∀(X:Cx),X.prog=P->X.w=w->X.K=K->X.calm=true->∀(i:Nat) (pins:List (Addr×Obj)) (s:Shared) (σ : St) (H:Hp) (E:Value->Shared->Prop),Inv X pins σ H s->(∀b∈fp,FpOk X pins H b)->tn i s.heap->J.go i H->
  wpAny (model P w) X.A (pyNext (.ref it)) (fun r s1=>∃u,r=some u/\
   wpAny (model P w) X.A (letOwnedTupleGo tg (.ref it) u) (fun _ s2=>∃x H',Inv X pins σ H' s2/\RelV x u/\J.yld i H x H'/\tn (i+1) s2.heap/\∀b∈fp,H' b=none) E s1) E s
 done:∀(X:Cx),X.prog=P->X.w=w->X.K=K->X.calm=true->∀(i:Nat) (pins:List (Addr×Obj)) (s:Shared) (σ : St) (H:Hp) (E:Value->Shared->Prop),Inv X pins σ H s->(∀b∈fp,FpOk X pins H b)->tn i s.heap->J.stop i H->
  wpAny (model P w) X.A (pyNext (.ref it)) (fun r s1=>r=none/\Inv X pins σ H s1) E s
 self:∀(A:Around) (i:Nat) (s:Shared) (Q:Value->Shared->Prop) (E:Value->Shared->Prop),tn i s.heap->Q (.ref it) s->wpAny (model P w) A (pyIter (.ref it)) Q E s
abbrev TI:=St->Hp->(It->Hp->Prop)->Prop
def PIE(X:Cx)(pins:List (Addr×Obj))(σ : St)(tg:Expr)(R:It->Hp->Prop)(itv:Value)(s2:Shared):Prop:=
 ∃(it:Addr) (fp:List Addr) (tn:Nat->Heap->Prop) (J:It) (H':Hp),itv=.ref it/\Inv X pins σ H' s2/\Turn X.prog X.w X.K tg J fp it tn/\tn 0 s2.heap/\(∀b∈fp,FpOk X pins H' b)/\R J H'
abbrev PIv(X:Cx)(tg iter:Expr)(wi:TI):Prop:=
 ∀(pins:List (Addr×Obj)) (s:Shared) (σ : St) (H:Hp) (R:It->Hp->Prop),Inv X pins σ H s->wi σ H R->
  wpAny (model X.prog X.w) X.A (eval iter X.env) (fun v s1=>wpAny (model X.prog X.w) X.A (pyIter v) (PIE X pins σ tg R) X.xe s1) X.xe s
structure PI(X:Cx)(tg iter:Expr)(wi:TI):Prop where
 run:PIv X tg iter wi
instance{X:Cx}{tg iter:Expr}{wi:TI}:CoeFun (PI X tg iter wi) (fun _=>PIv X tg iter wi):=⟨PI.run⟩
theorem q3z{M:Model}{A:Around}{E:Value->Shared->Prop}{s:Shared}{tg:Expr}{it:Addr}{u:Value}{o:Obj}{n:String}{vs:Array Value}{Q:Unit->Shared->Prop}(ho:s.heap.get? it=some o)(hc:o.cls=.type n)(hd:o.data=.fields vs)
    (hn:["enumerate","zip","dict_itemiterator","dict_reverseitemiterator","odict_iterator","itertools.zip_longest","itertools.pairwise"].contains n=false) (hQ:Q () s):wpAny M A (letOwnedTupleGo tg (.ref it) u) Q E s:=by
  unfold letOwnedTupleGo
  cases tg<;>first
    | exact wpAny_pure hQ
    | (cases u<;>first
        | exact wpAny_pure hQ
        | (refine wpAny_bind (wpAny_load ho ?_)
           rw [hc,hd]
           show wpAny M A (if(["enumerate","zip","dict_itemiterator","dict_reverseitemiterator","odict_iterator","itertools.zip_longest","itertools.pairwise"].contains n && vs[0]? == some (rawInt _))=true then _ else _) Q E s
           rw [if_neg (by intro h; rw [hn,Bool.false_and] at h; cases h)]
           exact wpAny_pure hQ))
def Itl(K:PySem.W.Frag)(a:Addr):It:=
 ⟨fun i H=>∃xs x,SqL K H a xs/\xs[i]?=some x,fun i H x H'=>H'=H/\∀xs,SqL K H a xs->xs[i]?=some x,fun i H=>∃xs,SqL K H a xs/\xs.length<=i⟩
def Itt(K:PySem.W.Frag)(a:Addr):It:=
 ⟨fun i H=>∃xs x,SqT K H a xs/\xs[i]?=some x,fun i H x H'=>H'=H/\∀xs,SqT K H a xs->xs[i]?=some x,fun i H=>∃xs,SqT K H a xs/\xs.length<=i⟩
def Itr(lo:Int)(n:Nat):It:=⟨fun i _=>i < n,fun i H x H'=>H'=H/\x=.int (lo+i),fun i _=>n<=i⟩
theorem zyg{P:Program}{w:World}{K:PySem.W.Frag}{tg:Expr}(a it:Addr):Turn P w K tg (Itl K a) [it] it (fun i h=>h.IsListIter it a i) where
 mem:=by simp
 obj:=fun i h st b hb=>by
  have e:b=it:=by simpa using hb
  subst e
  obtain⟨o,e,c,d⟩:=st
  exact⟨o,e,fun v z=>by rw [d] at z; cases z⟩
 keep:=fun i h h' st k=>st.at fun o e=>k it (by simp) o e
 item:=by
  intro X hP hw hK hc i pins s σ H E I hf st hg
  subst hP hw hK
  obtain⟨xs,x,hq,hx⟩:=hg
  obtain⟨its,rv,p,hz⟩:=I.list hq
  obtain⟨u,hu,ru⟩:=rv.get hx
  obtain⟨f0,f1,f2,f3,f4,f5⟩:=hf it (by simp)
  refine wpAny_pyNext_list_item st p.isList (x:=u) (by simpa using hu) fun h' st' sb=>?_
  have I1:Inv X pins σ H {s with heap:=h'}:=I.turned (t':=s.toks) (fun b o hb e=>(sb.2 b hb).trans e) f0 f1 f3 f4 f5
  obtain⟨o,e,c,d⟩:=id st'
  exact⟨u,rfl,q3z (s:={s with heap:=h'}) e c d (by decide) ⟨x,H,I1,ru,⟨rfl,fun ys hy=>by rw [I.list_inj hy hq]; exact hx⟩,st',fun b hb=>(hf b hb).1⟩⟩
 done:=by
  intro X hP hw hK hc i pins s σ H E I hf st hg
  subst hP hw hK
  obtain⟨xs,hq,hx⟩:=hg
  obtain⟨its,rv,p,hz⟩:=I.list hq
  obtain⟨f0,f1,f2,f3,f4,f5⟩:=hf it (by simp)
  have hl:=rv.length
  exact wpAny_pyNext_list_end (I.ok.hd hc) st p.isList (by simp; omega) fun h' eb=>⟨rfl,I.turned (t':=s.toks) (fun b o hb e=>eb b o hb e) f0 f1 f3 f4 f5⟩
 self:=fun _ _ _ _ _ st h=>wpAny_pyIter_listiter st h
theorem zwf{P:Program}{w:World}{K:PySem.W.Frag}{tg:Expr}(a it:Addr):Turn P w K tg (Itt K a) [it] it (fun i h=>h.IsTupleIter it a i) where
 mem:=by simp
 obj:=fun i h st b hb=>by
  have e:b=it:=by simpa using hb
  subst e
  obtain⟨o,e,c,d⟩:=st
  exact⟨o,e,fun v z=>by rw [d] at z; cases z⟩
 keep:=fun i h h' st k=>st.at fun o e=>k it (by simp) o e
 item:=by
  intro X hP hw hK hc i pins s σ H E I hf st hg
  subst hP hw hK
  obtain⟨xs,x,hq,hx⟩:=hg
  obtain⟨its,rv,p,hz⟩:=I.tuple hq
  obtain⟨u,hu,ru⟩:=rv.get hx
  obtain⟨f0,f1,f2,f3,f4,f5⟩:=hf it (by simp)
  refine wpAny_pyNext_tuple_item st (show s.heap.IsTuple a its.toArray from p) (x:=u) (by simpa using hu) fun h' st' sb=>?_
  have I1:Inv X pins σ H {s with heap:=h'}:=I.turned (t':=s.toks) (fun b o hb e=>(sb.2 b hb).trans e) f0 f1 f3 f4 f5
  obtain⟨o,e,c,d⟩:=id st'
  exact⟨u,rfl,q3z (s:={s with heap:=h'}) e c d (by decide) ⟨x,H,I1,ru,⟨rfl,fun ys hy=>by rw [I.tuple_inj hy hq]; exact hx⟩,st',fun b hb=>(hf b hb).1⟩⟩
 done:=by
  intro X hP hw hK hc i pins s σ H E I hf st hg
  subst hP hw hK
  obtain⟨xs,hq,hx⟩:=hg
  obtain⟨its,rv,p,hz⟩:=I.tuple hq
  obtain⟨f0,f1,f2,f3,f4,f5⟩:=hf it (by simp)
  have hl:=rv.length
  exact wpAny_pyNext_tuple_end (I.ok.hd hc) st (show s.heap.IsTuple a its.toArray from p) (by simp; omega) fun h' eb=>⟨rfl,I.turned (t':=s.toks) (fun b o hb e=>eb b o hb e) f0 f1 f3 f4 f5⟩
 self:=fun _ _ _ _ _ st h=>wpAny_pyIter_tupleiter st h
theorem zwg{P:Program}{w:World}{K:PySem.W.Frag}{tg:Expr}(it:Addr)(lo:Int)(n:Nat):Turn P w K tg (Itr lo n) [it] it (fun i h=>IsRangeIter h it (lo+(i:Nat) * 1) ((n:Int) - (i:Nat)) 1) where
 mem:=by simp
 obj:=fun i h st b hb=>by
  have e:b=it:=by simpa using hb
  subst e
  exact⟨_,st,fun v z=>by
   have z':Data.fields _=Data.cell v:=z
   cases z'⟩
 keep:=fun i h h' st k=>k it (by simp) _ st
 item:=by
  intro X hP hw hK hc i pins s σ H E I hf st hg
  subst hP hw hK
  obtain⟨f0,f1,f2,f3,f4,f5⟩:=hf it (by simp)
  have W:=Walks.range (prog:=X.prog) (w:=X.w) (I.ok.hd hc) it lo 1 n
  refine W.item i s _ _ hg st fun v h' tk hv st' kk=>?_
  obtain⟨t,rfl⟩:=hv
  have I1:Inv X pins σ H {s with heap:=h',toks:=tk}:=I.turned (fun b o hb e=>kk b o (by simpa using hb) e) f0 f1 f3 f4 f5
  refine⟨_,rfl,q3z (s:={s with heap:=h',toks:=tk}) (n:="range_iterator") st' rfl rfl (by decide) ⟨.int (lo+i),H,I1,⟨t,?_⟩,⟨rfl,rfl⟩,st',fun b hb=>(hf b hb).1⟩⟩
  rw [Int.mul_one]
 done:=by
  intro X hP hw hK hc i pins s σ H E I hf st hg
  subst hP hw hK
  obtain⟨f0,f1,f2,f3,f4,f5⟩:=hf it (by simp)
  exact wpAny_pyNext_range_end (I.ok.hd hc) st (by have:n<=i:=hg; omega) fun h' eb=>⟨rfl,I.turned (t':=s.toks) (fun b o hb e=>eb b o hb e) f0 f1 f3 f4 f5⟩
 self:=fun _ _ _ _ _ st h=>wpAny_pyIter_rangeiter st h
end L2
namespace L2
open PySem PySem.Spec PyProof.Rows
section
variable{X:Cx}{tg:Expr}
def q78(K:PySem.W.Frag)(tl:TE):TI:=fun σ H R=>tl σ H fun x H1=>isRf x fun a=>(∃xs,SqL K H1 a xs)/\R (Itl K a) H1
def qc3(K:PySem.W.Frag)(tl:TE):TI:=fun σ H R=>tl σ H fun x H1=>isRf x fun a=>(∃xs,SqT K H1 a xs)/\R (Itt K a) H1
theorem zhu{l:Expr}{tl:TE}(hl:PE X l tl):PI X tg l (q78 X.K tl):=by
 refine⟨?_⟩
 intro pins s σ H R I h
 refine thn (hl pins s σ H _ I h) fun v s1 ⟨x,H1,I1,r1,q1⟩=>?_
 obtain⟨a,e,⟨xs,hq⟩,q⟩:=isRf.o q1
 subst e
 cases r1
 obtain⟨its,rv,p,hz⟩:=I1.list hq
 refine wpAny_pyIter_list p.isList ?_
 refine⟨s1.heap.objs.size,[s1.heap.objs.size],_,_,H1,rfl,I1.kept (t':=s1.toks) fun b o e=>Heap.get?_push_of_some _ e,zyg a _,⟨_,Heap.get?_push_size _ rfl,rfl,rfl⟩,fun b hb=>?_,q⟩
 have e:b=s1.heap.objs.size:=by simpa using hb
 subst e
 exact I1.fpOk (Nat.le_refl _) (I1.hok.fresh (Nat.le_refl _))
theorem zj1{l:Expr}{tl:TE}(hl:PE X l tl):PI X tg l (qc3 X.K tl):=by
 refine⟨?_⟩
 intro pins s σ H R I h
 refine thn (hl pins s σ H _ I h) fun v s1 ⟨x,H1,I1,r1,q1⟩=>?_
 obtain⟨a,e,⟨xs,hq⟩,q⟩:=isRf.o q1
 subst e
 cases r1
 obtain⟨its,rv,p,hz⟩:=I1.tuple hq
 refine wpAny_pyIter_tuple (show s1.heap.IsTuple a its.toArray from p) ?_
 refine⟨s1.heap.objs.size,[s1.heap.objs.size],_,_,H1,rfl,I1.kept (t':=s1.toks) fun b o e=>Heap.get?_push_of_some _ e,zwf a _,⟨_,Heap.get?_push_size _ rfl,rfl,rfl⟩,fun b hb=>?_,q⟩
 have e:b=s1.heap.objs.size:=by simpa using hb
 subst e
 exact I1.fpOk (Nat.le_refl _) (I1.hok.fresh (Nat.le_refl _))
theorem q2r{pins:List (Addr×Obj)}{σ : St}{H:Hp}{s:Shared}{R:It->Hp->Prop}{E:Value->Shared->Prop}{lo hi:Int}{t u v:Tok}{tk:Nat}(I:Inv X pins σ H s)(h1 : -(2 ^ 62)<=lo)(h2:lo < 2 ^ 62)(h3 : -(2 ^ 62)<=hi)(h4:hi < 2 ^ 62)
  (q:R (Itr lo (hi - lo).toNat) H):wpAny (model X.prog X.w) X.A (pyIter (.ref s.heap.objs.size)) (PIE X pins σ tg R) E {s with heap:=s.heap.push {cls:=.type "range",data:=.fields #[.int lo t,.int hi u,.int 1 v]},toks:=tk}:=by
 refine wpAny_pyIter_range (IsRange.new ..) (small_one h1 h2 h3 h4) ?_
 have I1:Inv X pins σ H {s with heap:=s.heap.push {cls:=.type "range",data:=.fields #[.int lo t,.int hi u,.int 1 v]},toks:=tk}:=I.kept fun b o e=>Heap.get?_push_of_some _ e
 refine⟨(s.heap.push {cls:=.type "range",data:=.fields #[.int lo t,.int hi u,.int 1 v]}).objs.size,[(s.heap.push {cls:=.type "range",data:=.fields #[.int lo t,.int hi u,.int 1 v]}).objs.size],_,_,H,rfl,
  I1.kept (t':=tk) fun b o e=>Heap.get?_push_of_some _ e,zwg _ lo (hi - lo).toNat,?_,fun b hb=>?_,q⟩
 ·have e1:lo+((0:Nat):Int) * 1=lo:=by simp
  have e2:(((hi - lo).toNat:Nat):Int) - ((0:Nat):Int)=Builtin.Range.rangeSize lo hi 1:=by rw [rangeSize_one]; split<;>omega
  show IsRangeIter _ _ (lo+((0:Nat):Int) * 1) ((((hi - lo).toNat:Nat):Int) - ((0:Nat):Int)) 1
  rw [e1,e2]
  exact Heap.get?_push_size _ rfl
 ·have e:b=(s.heap.push {cls:=.type "range",data:=.fields #[.int lo t,.int hi u,.int 1 v]}).objs.size:=by simpa using hb
  subst e
  exact I1.fpOk (Nat.le_refl _) (I1.hok.fresh (Nat.le_refl _))
def qc4(ta:TA):TI:=fun σ H R=>ta σ H fun vs H1=>∃j:Int,vs=[.int j]/\-(2 ^ 62)<=j/\j < 2 ^ 62/\R (Itr 0 j.toNat) H1
def q9t(ta:TA):TI:=fun σ H R=>ta σ H fun vs H1=>∃i j:Int,vs=[.int i,.int j]/\(-(2 ^ 62)<=i/\i < 2 ^ 62/\-(2 ^ 62)<=j/\j < 2 ^ 62)/\R (Itr i (j - i).toNat) H1
theorem zzn{a b:Expr}{ta:TA}{p pos:Pos} (hg:Gl X "range") (hm:X.mg "range" = none) (ha:PA X [a,b] ta) (hs:starEach [a,b] X.env=[(false,eval a X.env),(false,eval b X.env)]:=by rfl) (hs2:starEach [b] X.env=[(false,eval b X.env)]:=by rfl) :
  PI X tg (.Call (.Name "range" p) [a,b] [] pos) (q9t ta):=by
 refine⟨?_⟩
 intro pins s σ H R I h
 refine Call_ (zov I hg hm boot_range (PyProof.Rows.callWith_type1 (thn (ha pos pins s σ H _ I h) fun us s1 ⟨vs,H1,I1,r1,q1⟩=>?_) (by rw [hs,hs2]) (by rw [hs2]; rfl)))
 obtain⟨i,j,e,⟨q1,q2,q3,q4⟩,q⟩:=q1
 subst e
 cases r1 with
 | cons r rr=>
  cases rr with
  | cons r' rr=>
   cases rr
   obtain⟨t,rfl⟩:=r
   obtain⟨t',rfl⟩:=r'
   exact call_range_2 (q2r I1 q1 q2 q3 q4 q)
def q27(wi:TI)(g:TG)(tb:TS):TS:=fun D σ H=>wi σ H fun J H1=>∃W:Nat->Nat->St->Hp->Prop,(∃m,W 0 m σ H1)/\∀i m σ H,W i m σ H->
 (J.stop i H/\D.nx σ H)\/(J.go i H/\∃N:St->Hp->Prop,(∀ σ' H',N σ' H'->∃m',m' < m/\W (i+1) m' σ' H')/\∀x H',J.yld i H x H'->g x σ H' fun σ2 H2=>tb {D with nx:=N,ct:=N,bk:=D.nx} σ2 H2)
def zr9(fp:List Addr)(h:Heap):List (Addr×Obj):=fp.filterMap fun b=>(h.get? b).map fun o=>(b,o)
theorem zdr{fp:List Addr}{h:Heap}{b:Addr}{o:Obj}(hb:b∈fp)(e:h.get? b=some o):(b,o)∈zr9 fp h:=List.mem_filterMap.mpr ⟨b,hb,by rw [e]; rfl⟩
theorem zzw{fp:List Addr}{h:Heap}{p:Addr×Obj}(hp:p∈zr9 fp h):p.1∈fp/\h.get? p.1=some p.2:=by
 obtain⟨b,hb,e⟩:=List.mem_filterMap.mp hp
 cases q:h.get? b with
 | none=>rw [q] at e; cases e
 | some o=>
  rw [q] at e
  have e':(b,o)=p:=Option.some.inj e
  subst e'
  exact⟨hb,q⟩
theorem Inv.pinned{pins:List (Addr×Obj)}{σ : St}{H:Hp}{s:Shared}{fp:List Addr}(I:Inv X pins σ H s)(hf:∀b∈fp,FpOk X pins H b)(ho:∀b∈fp,∃o,s.heap.get? b=some o/\∀v,o.data≠.cell v):Inv X (pins++zr9 fp s.heap) σ H s:=
 I.pins_of fun p hp=>(List.mem_append.mp hp).elim (fun z=>I.pin p (List.mem_append_right _ z)) fun z=>by
  obtain⟨hb,e⟩:=zzw z
  obtain⟨f0,f1,f2,_⟩:=hf p.1 hb
  obtain⟨o,e',d⟩:=ho p.1 hb
  rw [e] at e'; cases e'
  exact⟨e,f0,f1,f2,d⟩
theorem Inv.unpinned{pins pl:List (Addr×Obj)}{σ : St}{H:Hp}{s:Shared}(I:Inv X (pins++pl) σ H s):Inv X pins σ H s:=I.pins_of fun p hp=>I.pin p (List.mem_append_right _ (List.mem_append_left _ hp))
theorem zel{iter:Expr}{body:List Stmt}{wi:TI}{g:TG}{tb:TS}{pos:Pos}(hp:PassesOwn (model X.prog X.w) X.A X.env X.xe)(hc:X.calm=true)(hi:PI X tg iter wi)(hg:PG X tg g)(hb:PSs X body tb)
  (hs:∀x,foldedSetIterable iter X.env x=pure x:=by intro _; rfl):PS X (.For tg iter body [] pos) (q27 wi g tb):=by
 refine⟨?_⟩
 intro pins s σ H D I h
 refine wpAny_For (thn (hi pins s σ H _ I h) fun v s1 h1=>thn h1 fun itv s2 h2=>?_) hs
 obtain⟨it,fp,tn,J,H2,e,I2,T,st2,f2,W,⟨m0,w0⟩,turn⟩:=h2
 subst e
 have stat:∀{H':Hp},(∀b∈fp,H' b=none)->∀b∈fp,FpOk X pins H' b:=fun hn b hb=>⟨hn b hb,(f2 b hb).2⟩
 refine codeAny_forLoop_any (fun n s'=>∃i σ' H',Inv X pins σ' H' s'/\tn i s'.heap/\(∀b∈fp,H' b=none)/\W i n σ' H') ?_ m0 ⟨0,σ,H2,I2,st2,fun b hb=>(f2 b hb).1,w0⟩
 rintro n s3 ⟨i,σ3,H3,I3,st3,fr3,w3⟩
 rcases turn i n σ3 H3 w3 with⟨stop,qn⟩ | ⟨go,N,hN,step⟩
 ·refine wpAny_passesOwn hp (thn (T.done X rfl rfl rfl hc i pins s3 σ3 H3 X.xe I3 (stat fr3) st3 stop) fun r s4 ⟨hr,I4⟩=>?_)
  subst hr
  exact wpAny_execs_nil ⟨σ3,H3,I4,qn⟩
 ·refine wpAny_passesOwn hp (thn (T.item X rfl rfl rfl hc i pins s3 σ3 H3 X.xe I3 (stat fr3) st3 go) fun r s4 ⟨u,hr,h4⟩=>?_)
  subst hr
  refine wpAny_passesOwn hp (thn h4 fun _ s5 ⟨x,H5,I5,r5,y5,st5,fr5⟩=>?_)
  have I5':=I5.pinned (stat fr5) (T.obj _ _ st5)
  refine wpAny_passesOwn hp (thn (hg _ s5 σ3 H5 x u _ I5' r5 (step x H5 y5)) fun _ s6 ⟨σ6,H6,I6,q6⟩=>?_)
  refine wpAny_passesOwn hp (thn (hb _ s6 σ6 H6 _ I6 q6) fun f s7 q7=>?_)
  have again:∀{σ7:St} {H7:Hp},Inv X (pins++zr9 fp s5.heap) σ7 H7 s7->N σ7 H7->∃m,m < n/\∃i σ' H',Inv X pins σ' H' s7/\tn i s7.heap/\(∀b∈fp,H' b=none)/\W i m σ' H':=fun {σ7 H7} I7 n7=>by
   obtain⟨m',hm,w7⟩:=hN σ7 H7 n7
   refine⟨m',hm,i+1,σ7,H7,I7.unpinned,T.keep _ _ _ st5 fun b hb o e=>(I7.pin (b,o) (List.mem_append_right _ (List.mem_append_right _ (zdr hb e)))).1,fun b hb=>?_,w7⟩
   obtain⟨o,e,d⟩:=T.obj _ _ st5 b hb
   exact(I7.pin (b,o) (List.mem_append_right _ (List.mem_append_right _ (zdr hb e)))).2.1
  cases f with
  | next=>obtain⟨σ7,H7,I7,n7⟩:=q7; exact again I7 n7
  | cont=>obtain⟨σ7,H7,I7,n7⟩:=q7; exact again I7 n7
  | brk=>obtain⟨σ7,H7,I7,q7⟩:=q7; exact⟨σ7,H7,I7.unpinned,q7⟩
  | ret v=>obtain⟨x7,σ7,H7,I7,r7,q7⟩:=q7; exact⟨x7,σ7,H7,I7.unpinned,r7,q7⟩
end
theorem zvr{K:PySem.W.Frag}{a:Addr}{xs:List V}{g:TG}{tb:TS}{D:Ends}{σ : St}{H:Hp}(Pv:Nat->St->Hp->Prop)(h0:Pv 0 σ H)(hl:∀i σ H,i<=xs.length->Pv i σ H->SqL K H a xs)
  (hs:∀i x σ H,xs[i]?=some x->Pv i σ H->g x σ H fun σ2 H2=>tb {D with nx:=Pv (i+1),ct:=Pv (i+1),bk:=D.nx} σ2 H2) (hd:∀ σ H,Pv xs.length σ H->D.nx σ H) :
  ∃W:Nat->Nat->St->Hp->Prop,(∃m,W 0 m σ H)/\∀i m σ H,W i m σ H->
   ((Itl K a).stop i H/\D.nx σ H)\/((Itl K a).go i H/\∃N:St->Hp->Prop,(∀ σ' H',N σ' H'->∃m',m' < m/\W (i+1) m' σ' H')/\∀x H',(Itl K a).yld i H x H'->g x σ H' fun σ2 H2=>tb {D with nx:=N,ct:=N,bk:=D.nx} σ2 H2):=by
 refine⟨fun i m σ H=>m=xs.length - i/\i<=xs.length/\Pv i σ H,⟨xs.length,by simp,Nat.zero_le _,h0⟩,?_⟩
 rintro i m σ H ⟨rfl,hi,p⟩
 have q:=hl i σ H hi p
 by_cases hlt:i < xs.length
 ·refine .inr ⟨⟨xs,xs[i],q,by simp[hlt]⟩,Pv (i+1),fun σ' H' p'=>⟨xs.length - (i+1),by omega,rfl,hlt,p'⟩,fun x H' y=>?_⟩
  obtain⟨e,y⟩:=y
  subst e
  exact hs i x σ _ (y xs q) p
 ·have e:i=xs.length:=by omega
  subst e
  exact .inl ⟨⟨xs,q,Nat.le_refl _⟩,hd σ H p⟩
theorem zu4{K:PySem.W.Frag}{a:Addr}{xs:List V}{g:TG}{tb:TS}{D:Ends}{σ : St}{H:Hp}(Pv:Nat->St->Hp->Prop)(h0:Pv 0 σ H)(hl:∀i σ H,i<=xs.length->Pv i σ H->SqT K H a xs)
  (hs:∀i x σ H,xs[i]?=some x->Pv i σ H->g x σ H fun σ2 H2=>tb {D with nx:=Pv (i+1),ct:=Pv (i+1),bk:=D.nx} σ2 H2) (hd:∀ σ H,Pv xs.length σ H->D.nx σ H) :
  ∃W:Nat->Nat->St->Hp->Prop,(∃m,W 0 m σ H)/\∀i m σ H,W i m σ H->
   ((Itt K a).stop i H/\D.nx σ H)\/((Itt K a).go i H/\∃N:St->Hp->Prop,(∀ σ' H',N σ' H'->∃m',m' < m/\W (i+1) m' σ' H')/\∀x H',(Itt K a).yld i H x H'->g x σ H' fun σ2 H2=>tb {D with nx:=N,ct:=N,bk:=D.nx} σ2 H2):=by
 refine⟨fun i m σ H=>m=xs.length - i/\i<=xs.length/\Pv i σ H,⟨xs.length,by simp,Nat.zero_le _,h0⟩,?_⟩
 rintro i m σ H ⟨rfl,hi,p⟩
 have q:=hl i σ H hi p
 by_cases hlt:i < xs.length
 ·refine .inr ⟨⟨xs,xs[i],q,by simp[hlt]⟩,Pv (i+1),fun σ' H' p'=>⟨xs.length - (i+1),by omega,rfl,hlt,p'⟩,fun x H' y=>?_⟩
  obtain⟨e,y⟩:=y
  subst e
  exact hs i x σ _ (y xs q) p
 ·have e:i=xs.length:=by omega
  subst e
  exact .inl ⟨⟨xs,q,Nat.le_refl _⟩,hd σ H p⟩
theorem q0r{lo:Int}{n:Nat}{g:TG}{tb:TS}{D:Ends}{σ : St}{H:Hp}(Pv:Nat->St->Hp->Prop)(h0:Pv 0 σ H)
  (hs:∀i σ H,i < n->Pv i σ H->g (.int (lo+i)) σ H fun σ2 H2=>tb {D with nx:=Pv (i+1),ct:=Pv (i+1),bk:=D.nx} σ2 H2) (hd:∀ σ H,Pv n σ H->D.nx σ H) :
  ∃W:Nat->Nat->St->Hp->Prop,(∃m,W 0 m σ H)/\∀i m σ H,W i m σ H->
   ((Itr lo n).stop i H/\D.nx σ H)\/((Itr lo n).go i H/\∃N:St->Hp->Prop,(∀ σ' H',N σ' H'->∃m',m' < m/\W (i+1) m' σ' H')/\∀x H',(Itr lo n).yld i H x H'->g x σ H' fun σ2 H2=>tb {D with nx:=N,ct:=N,bk:=D.nx} σ2 H2):=by
 refine⟨fun i m σ H=>m=n - i/\i<=n/\Pv i σ H,⟨n,by simp,Nat.zero_le _,h0⟩,?_⟩
 rintro i m σ H ⟨rfl,hi,p⟩
 by_cases hlt:i < n
 ·refine .inr ⟨hlt,Pv (i+1),fun σ' H' p'=>⟨n - (i+1),by omega,rfl,hlt,p'⟩,fun x H' y=>?_⟩
  obtain⟨e,y⟩:=y
  subst e y
  exact hs i σ _ hlt p
 ·have e:i=n:=by omega
  subst e
  exact .inl ⟨Nat.le_refl _,hd σ H p⟩
end L2
namespace L2
open PySem PySem.Spec PyProof.Rows
abbrev R2:=V->V->Hp->VK->Prop
def OpR(X:Cx)(f:Value->Value->Sem Value)(r:R2):Prop:=
 ∀(pins:List (Addr×Obj)) (s:Shared) (σ : St) (H:Hp) (x y:V) (v u:Value) (Q:VK),Inv X pins σ H s->RelV x v->RelV y u->r x y H Q->
  wpAny (model X.prog X.w) X.A (f v u) (EP X pins σ Q) X.xe s
def UnR(X:Cx)(f:Value->Sem Value)(r:V->Hp->VK->Prop):Prop:=
 ∀(pins:List (Addr×Obj)) (s:Shared) (σ : St) (H:Hp) (x:V) (v:Value) (Q:VK),Inv X pins σ H s->RelV x v->r x H Q->
  wpAny (model X.prog X.w) X.A (f v) (EP X pins σ Q) X.xe s
def zbs(X:Cx)(f:Value)(r:List V->Hp->VK->Prop):Prop:=
 ∀(pins:List (Addr×Obj)) (s:Shared) (σ : St) (H:Hp) (xs:List V) (us:List Value) (Q:VK),Inv X pins σ H s->Vals xs us->r xs H Q->
  wpAny (model X.prog X.w) X.A (call f us) (EP X pins σ Q) X.xe s
def tOp(r:R2)(ta tb:TE):TE:=fun σ H Q=>ta σ H fun x H1=>tb σ H1 fun y H2=>r x y H2 Q
def tUn(r:V->Hp->VK->Prop)(ta:TE):TE:=fun σ H Q=>ta σ H fun x H1=>r x H1 Q
def rI(C:Int->Int->Prop)(g:Int->Int->V):R2:=fun x y H Q=>isI x fun i=>isI y fun j=>C i j/\Q (g i j) H
def rI0(g:Int->Int->V):R2:=fun x y H Q=>isI x fun i=>isI y fun j=>Q (g i j) H
def rU(g:Int->V):V->Hp->VK->Prop:=fun x H Q=>isI x fun i=>Q (g i) H
section
variable{X:Cx}{a b c:Expr}{ta tb tc:TE}{pos:Pos}
theorem qce(ha:PE X a ta)(hb:PE X b tb){pins:List (Addr×Obj)}{s:Shared}{σ : St}{H:Hp}{R:V->V->Hp->Prop}(I:Inv X pins σ H s)
  (h:ta σ H fun x H1=>tb σ H1 fun y H2=>R x y H2) {Q:Value->Shared->Prop} {f:Value->Value->Sem Value}
  (hf:∀v u s2 x y H2,Inv X pins σ H2 s2->RelV x v->RelV y u->R x y H2->wpAny (model X.prog X.w) X.A (f v u) Q X.xe s2) :
  wpAny (model X.prog X.w) X.A (eval a X.env) (fun v s₁=>wpAny (model X.prog X.w) X.A (eval b X.env) (fun u s₂=>wpAny (model X.prog X.w) X.A (f v u) Q X.xe s₂) X.xe s₁) X.xe s:=by
 refine thn (ha pins s σ H _ I h) fun v s1 ⟨x,H1,I1,r1,q1⟩=>?_
 refine thn (hb pins s1 σ H1 _ I1 q1) fun u s2 ⟨y,H2,I2,r2,q2⟩=>?_
 exact hf v u s2 x y H2 I2 r1 r2 q2
theorem z2g{op:Operator}{r:R2}(ho:OpR X (binaryOp op) r)(ha:PE X a ta)(hb:PE X b tb):PE X (.BinOp a op b pos) (tOp r ta tb):=by
 refine⟨?_⟩
 intro pins s σ H Q I h
 exact wpAny_BinOp (qce ha hb I h fun v u s2 x y H2 I2 rx ry q=>ho pins s2 σ H2 x y v u Q I2 rx ry q)
theorem q8z{op:UnaryOp}{r:V->Hp->VK->Prop}(ho:UnR X (unaryOp op) r)(ha:PE X a ta):PE X (.UnaryOp op a pos) (tUn r ta):=by
 refine⟨?_⟩
 intro pins s σ H Q I h
 exact UnaryOp_ (thn (ha pins s σ H _ I h) fun v s1 ⟨x,H1,I1,r1,q1⟩=>ho pins s1 σ H1 x v Q I1 r1 q1)
theorem opI{f:Value->Value->Sem Value}{C:Int->Int->Prop}{g:Int->Int->Int}
  (rule:∀(i j:Int) (t u:Tok) (s:Shared) (Q:Value->Shared->Prop) (E:Value->Shared->Prop),C i j->Q (.int (g i j) s.toks) {s with toks:=s.toks+1}->wpAny (model X.prog X.w) X.A (f (.int i t) (.int j u)) Q E s) :
  OpR X f (rI C fun i j=>.int (g i j)):=by
 intro pins s σ H x y v u Q I rx ry h
 obtain⟨i,rfl,hA⟩:=isI.o h
 obtain⟨j,rfl,hc,q⟩:=isI.o hA
 obtain⟨t,rfl⟩:=rx
 obtain⟨t',rfl⟩:=ry
 exact rule i j t t' s _ _ hc ⟨.int (g i j),H,I.tok _,⟨_,rfl⟩,q⟩
theorem qd1{f:Value->Value->Sem Value}{g:Int->Int->Int}
  (rule:∀(i j:Int) (t u:Tok) (s:Shared) (Q:Value->Shared->Prop) (E:Value->Shared->Prop),Q (.int (g i j) s.toks) {s with toks:=s.toks+1}->wpAny (model X.prog X.w) X.A (f (.int i t) (.int j u)) Q E s) :
  OpR X f (rI0 fun i j=>.int (g i j)):=by
 intro pins s σ H x y v u Q I rx ry h
 obtain⟨i,rfl,hA⟩:=isI.o h
 obtain⟨j,rfl,q⟩:=isI.o hA
 obtain⟨t,rfl⟩:=rx
 obtain⟨t',rfl⟩:=ry
 exact rule i j t t' s _ _ ⟨.int (g i j),H,I.tok _,⟨_,rfl⟩,q⟩
theorem qb3{f:Value->Value->Sem Value}{g:Int->Int->Bool}
  (rule:∀(i j:Int) (t u:Tok) (s:Shared) (Q:Value->Shared->Prop) (E:Value->Shared->Prop),Q (.bool (g i j)) s->wpAny (model X.prog X.w) X.A (f (.int i t) (.int j u)) Q E s) :
  OpR X f (rI0 fun i j=>.bl (g i j)):=by
 intro pins s σ H x y v u Q I rx ry h
 obtain⟨i,rfl,hA⟩:=isI.o h
 obtain⟨j,rfl,q⟩:=isI.o hA
 obtain⟨t,rfl⟩:=rx
 obtain⟨t',rfl⟩:=ry
 exact rule i j t t' s _ _ ⟨.bl (g i j),H,I,rfl,q⟩
def qe6(i j:Int):Prop:=0 < j/\j < 1073741824
def qco(i j:Int):Prop:=j≠0/\j.natAbs < 1073741824
def CMul(i j:Int):Prop:=(-(2 ^ 64) < i/\i < 2 ^ 64)\/(-(2 ^ 64) < j/\j < 2 ^ 64)
theorem CMul.ok{i j:Int}(h:CMul i j):IntMulOk i j:=by
 rcases h with⟨h1,h2⟩ | ⟨h1,h2⟩
 ·exact .of_left (intBits_le_64 h1 h2)
 ·exact .of_right (intBits_le_64 h1 h2)
theorem z82:OpR X (binaryOp .Add) (rI0 fun i j=>.int (i+j)):=qd1 fun _ _ _ _ _ _ _ q=>add_int q
theorem zlt:OpR X (binaryOp .Sub) (rI0 fun i j=>.int (i - j)):=qd1 fun _ _ _ _ _ _ _ q=>sub_int q
theorem zrd:OpR X (binaryOp .Mult) (rI CMul fun i j=>.int (i * j)):=opI fun _ _ _ _ _ _ _ hc q=>mul_int q hc.ok
theorem q6t:OpR X (binaryOp .FloorDiv) (rI qe6 fun i j=>.int (i / j)):=opI fun i j _ _ _ _ _ hc q=>by
 have h1:(0:Int) < j:=hc.1
 have h2:j < 1073741824:=hc.2
 exact floordiv_int (by omega) (by rw [Int.fdiv_eq_ediv_of_nonneg i (by omega)]; exact q) (.inl (PyProof.noPylong_small (by omega)))
theorem q3g:OpR X (binaryOp .FloorDiv) (rI qco fun i j=>.int (i.fdiv j)):=opI fun _ _ _ _ _ _ _ hc q=>floordiv_int hc.1 q (.inl (PyProof.noPylong_small hc.2))
theorem zvd:OpR X (binaryOp .Mod) (rI (fun _ j=>0 < j) fun i j=>.int (i % j)):=opI fun i j _ _ _ _ _ hc q=>by
 have h1:(0:Int) < j:=hc
 exact mod_int' (by omega) (by rw [Int.fmod_eq_emod_of_nonneg i (by omega)]; exact q)
theorem unI{f:Value->Sem Value}{g:Int->Int}
  (rule:∀(i:Int) (t:Tok) (s:Shared) (Q:Value->Shared->Prop) (E:Value->Shared->Prop),Q (.int (g i) s.toks) {s with toks:=s.toks+1}->wpAny (model X.prog X.w) X.A (f (.int i t)) Q E s) :
  UnR X f (rU fun i=>.int (g i)):=by
 intro pins s σ H x v Q I rx h
 obtain⟨i,rfl,q⟩:=isI.o h
 obtain⟨t,rfl⟩:=rx
 exact rule i t s _ _ ⟨.int (g i),H,I.tok _,⟨_,rfl⟩,q⟩
theorem q4l:UnR X (unaryOp .USub) (rU fun i=>.int (-i)):=unI fun _ _ _ _ _ q=>neg_int q
end
def qaq:V->V->Bool
 | .non,.non=>true | .non,.int _=>true | .int _,.non=>true | .non,.bl _=>true | .bl _,.non=>true | .non,.str _=>true | .str _,.non=>true
 | .int _,.int _=>true | .bl _,.bl _=>true | .str _,.str _=>true | .byt _,.byt _=>true
 | .int _,.str _=>true | .str _,.int _=>true | .bl _,.str _=>true | .str _,.bl _=>true
 | _,_=>false
def rEq:R2:=fun x y H Q=>qaq x y=true/\Q (.bl (decide (x=y))) H
def rNe:R2:=fun x y H Q=>qaq x y=true/\Q (.bl (!decide (x=y))) H
theorem q0z{i j:Int}:decide (V.int i=V.int j)=(i == j):=by
 rw [Bool.eq_iff_iff]
 simp
theorem q5l{i j:Bool}:decide (V.bl i=V.bl j)=(i == j):=by
 rw [Bool.eq_iff_iff]
 simp
theorem q0y{i j:Str}:decide (V.str i=V.str j)=(i == j):=by
 rw [Bool.eq_iff_iff]
 simp
theorem q11{i j:Array UInt8}:decide (V.byt i=V.byt j)=(i.toList == j.toList):=by
 rw [Bool.eq_iff_iff]
 cases i
 cases j
 simp
section
variable{X:Cx}{a b c:Expr}{ta tb tc:TE}{pos:Pos}
theorem z2t{pins:List (Addr×Obj)}{σ : St}{H:Hp}{s:Shared}{Q:VK}{k k':Bool}(I:Inv X pins σ H s)(q:Q (.bl k) H)(e:k=k'):EP X pins σ Q (.bool k') s:=by
 subst e
 exact⟨.bl k,H,I,rfl,q⟩
theorem q9b:OpR X (compareOp .Eq) rEq:=by
 intro pins s σ H x y v u Q I rx ry h
 obtain⟨hs,q⟩:=h
 cases x with
 | non=>
  cases rx
  cases y with
  | non=>cases ry; exact PySem.EqNone.eq_none_none (z2t I q (by simp))
  | bl j=>cases ry; exact PySem.EqNone.eq_none_bool (z2t I q (by simp))
  | int j=>obtain⟨t',rfl⟩:=ry; exact PySem.EqNone.eq_none_int (z2t I q (by simp))
  | str j=>obtain⟨t',rfl⟩:=ry; exact PySem.EqNone.eq_none_str (z2t I q (by simp))
  | _=>exact absurd (show false=true from hs) Bool.false_ne_true
 | bl i=>
  cases rx
  cases y with
  | non=>cases ry; exact PySem.EqNone.eq_bool_none (z2t I q (by simp))
  | bl j=>cases ry; exact eq_bool (z2t I q q5l)
  | str j=>obtain⟨t',rfl⟩:=ry; exact PySem.EqMixed.eq_bool_str (z2t I q (by simp))
  | _=>exact absurd (show false=true from hs) Bool.false_ne_true
 | int i=>
  obtain⟨t,rfl⟩:=rx
  cases y with
  | non=>cases ry; exact PySem.EqNone.eq_int_none (z2t I q (by simp))
  | int j=>obtain⟨t',rfl⟩:=ry; exact eq_int (z2t I q q0z)
  | str j=>obtain⟨t',rfl⟩:=ry; exact PySem.EqMixed.eq_int_str (z2t I q (by simp))
  | _=>exact absurd (show false=true from hs) Bool.false_ne_true
 | str i=>
  obtain⟨t,rfl⟩:=rx
  cases y with
  | non=>cases ry; exact PySem.EqNone.eq_str_none (z2t I q (by simp))
  | bl j=>cases ry; exact PySem.EqMixed.eq_str_bool (z2t I q (by simp))
  | int j=>obtain⟨t',rfl⟩:=ry; exact PySem.EqMixed.eq_str_int (z2t I q (by simp))
  | str j=>obtain⟨t',rfl⟩:=ry; exact eq_str (z2t I q q0y)
  | _=>exact absurd (show false=true from hs) Bool.false_ne_true
 | byt i=>
  obtain⟨t,rfl⟩:=rx
  cases y with
  | byt j=>obtain⟨t',rfl⟩:=ry; exact PySem.W.eq_bytes (z2t I q q11)
  | _=>exact absurd (show false=true from hs) Bool.false_ne_true
 | _=>cases y<;>exact absurd (show false=true from hs) Bool.false_ne_true
theorem q96:OpR X (compareOp .NotEq) rNe:=by
 intro pins s σ H x y v u Q I rx ry h
 obtain⟨hs,q⟩:=h
 cases x with
 | non=>
  cases rx
  cases y with
  | non=>cases ry; exact PySem.EqNone.ne_none_none (z2t I q (by simp))
  | bl j=>cases ry; exact PySem.EqNone.ne_none_bool (z2t I q (by simp))
  | int j=>obtain⟨t',rfl⟩:=ry; exact PySem.EqNone.ne_none_int (z2t I q (by simp))
  | str j=>obtain⟨t',rfl⟩:=ry; exact PySem.EqNone.ne_none_str (z2t I q (by simp))
  | _=>exact absurd (show false=true from hs) Bool.false_ne_true
 | bl i=>
  cases rx
  cases y with
  | non=>cases ry; exact PySem.EqNone.ne_bool_none (z2t I q (by simp))
  | bl j=>cases ry; exact ne_bool (z2t I q (congrArg not q5l))
  | str j=>obtain⟨t',rfl⟩:=ry; exact PySem.EqMixed.ne_bool_str (z2t I q (by simp))
  | _=>exact absurd (show false=true from hs) Bool.false_ne_true
 | int i=>
  obtain⟨t,rfl⟩:=rx
  cases y with
  | non=>cases ry; exact PySem.EqNone.ne_int_none (z2t I q (by simp))
  | int j=>obtain⟨t',rfl⟩:=ry; exact ne_int (z2t I q (congrArg not q0z))
  | str j=>obtain⟨t',rfl⟩:=ry; exact PySem.EqMixed.ne_int_str (z2t I q (by simp))
  | _=>exact absurd (show false=true from hs) Bool.false_ne_true
 | str i=>
  obtain⟨t,rfl⟩:=rx
  cases y with
  | non=>cases ry; exact PySem.EqNone.ne_str_none (z2t I q (by simp))
  | bl j=>cases ry; exact PySem.EqMixed.ne_str_bool (z2t I q (by simp))
  | int j=>obtain⟨t',rfl⟩:=ry; exact PySem.EqMixed.ne_str_int (z2t I q (by simp))
  | str j=>obtain⟨t',rfl⟩:=ry; exact ne_str (z2t I q (congrArg not q0y))
  | _=>exact absurd (show false=true from hs) Bool.false_ne_true
 | byt i=>
  obtain⟨t,rfl⟩:=rx
  cases y with
  | byt j=>obtain⟨t',rfl⟩:=ry; exact PySem.W.ne_bytes (z2t I q (congrArg not q11))
  | _=>exact absurd (show false=true from hs) Bool.false_ne_true
 | _=>cases y<;>exact absurd (show false=true from hs) Bool.false_ne_true
theorem q98:OpR X (compareOp .Lt) (rI0 fun i j=>.bl (decide (i < j))):=qb3 fun _ _ _ _ _ _ _ q=>lt_int q
theorem zzr:OpR X (compareOp .LtE) (rI0 fun i j=>.bl (decide (i<=j))):=qb3 fun _ _ _ _ _ _ _ q=>le_int q
theorem qbt:OpR X (compareOp .Gt) (rI0 fun i j=>.bl (decide (j < i))):=qb3 fun _ _ _ _ _ _ _ q=>gt_int q
theorem qbu:OpR X (compareOp .GtE) (rI0 fun i j=>.bl (decide (j<=i))):=qb3 fun _ _ _ _ _ _ _ q=>ge_int q
theorem zzq:OpR X (compareOp .Lt) (fun x y H Q=>∃i j,x=.str i/\y=.str j/\Q (.bl (decide (i.cps.toList < j.cps.toList))) H):=by
 intro pins s σ H x y v u Q I rx ry h
 obtain⟨i,j,rfl,rfl,q⟩:=h
 obtain⟨t,rfl⟩:=rx
 obtain⟨t',rfl⟩:=ry
 exact lt_str (z2t I q rfl)
theorem q99:OpR X (compareOp .Is) (fun x y H Q=>y=.non/\Q (.bl (decide (x=.non))) H):=by
 intro pins s σ H x y v u Q I rx ry h
 obtain⟨rfl,q⟩:=h
 cases ry
 refine is_none_gen (z2t I q ?_)
 cases x<;>first
  | (cases rx; rfl)
  | (obtain⟨t,rfl⟩:=rx; rfl)
theorem q6s:OpR X (compareOp .IsNot) (fun x y H Q=>y=.non/\Q (.bl (!decide (x=.non))) H):=by
 intro pins s σ H x y v u Q I rx ry h
 obtain⟨rfl,q⟩:=h
 cases ry
 refine isnot_none_gen (z2t I q ?_)
 cases x<;>first
  | (cases rx; rfl)
  | (obtain⟨t,rfl⟩:=rx; rfl)
theorem OpR.or{f:Value->Value->Sem Value}{r r':R2}(h:OpR X f r)(h':OpR X f r'):OpR X f (fun x y H Q=>r x y H Q\/r' x y H Q):=by
 intro pins s σ H x y v u Q I rx ry q
 rcases q with q | q
 ·exact h pins s σ H x y v u Q I rx ry q
 ·exact h' pins s σ H x y v u Q I rx ry q
theorem z0f(b:Expr){op:CmpOp}(h:op≠.In:=by decide)(h2:op≠.NotIn:=by decide):behindInMarks op b=false:=by
 have e1:(op == CmpOp.In)=false:=by cases op<;>first | rfl | exact absurd rfl h
 have e2:(op == CmpOp.NotIn)=false:=by cases op<;>first | rfl | exact absurd rfl h2
 cases b<;>simp[behindInMarks,e1,e2]
theorem z6e{op:CmpOp}{r:R2}(ho:OpR X (compareOp op) r)(ha:PE X a ta)(hb:PE X b tb)(hm:behindInMarks op b=false):PE X (.Compare a [op] [b] pos) (tOp r ta tb):=by
 refine⟨?_⟩
 intro pins s σ H Q I h
 exact wpAny_Compare1 (qce ha hb I h fun v u s2 x y H2 I2 rx ry q=>ho pins s2 σ H2 x y v u Q I2 rx ry q) hm
def zyi(t:TE):TT:=fun σ H Q=>t σ H fun x H'=>isBl x fun k=>Q k H'
theorem z0d{op:CmpOp}{r:R2}(ho:OpR X (compareOp op) r)(ha:PE X a ta)(hb:PE X b tb)(hm:behindInMarks op b=false):PT X (.Compare a [op] [b] pos) (zyi (tOp r ta tb)):=by
 refine⟨?_⟩
 intro pins s σ H Q I h
 refine wpAny_isTrue_Compare1 (thn (ha pins s σ H _ I h) fun v s1 ⟨x,H1,I1,r1,q1⟩=>thn (hb pins s1 σ H1 _ I1 q1) fun u s2 ⟨y,H2,I2,r2,q2⟩=>
  thn (ho pins s2 σ H2 x y v u _ I2 r1 r2 q2) fun c s3 ⟨z,H3,I3,r3,q3⟩=>?_) hm
 obtain⟨k,e,q3⟩:=isBl.o q3
 subst e
 cases r3
 exact wpAny_truthy_bool ⟨H3,I3,q3⟩
def zv2(r r':R2)(ta tb tc:TE):TE:=fun σ H Q=>ta σ H fun x H1=>tb σ H1 fun y H2=>r x y H2 fun z H3=>∃k,z=.bl k/\
 (if k=true then tc σ H3 fun w' H4=>r' y w' H4 Q else Q (.bl false) H3)
theorem q2z{op op':CmpOp}{r r':R2}(ho:OpR X (compareOp op) r)(ho':OpR X (compareOp op') r')(ha:PE X a ta)(hb:PE X b tb)(hc:PE X c tc)
  (hm:lastMarks [op,op'] [b,c]=false:=by with_unfolding_all rfl):PT X (.Compare a [op,op'] [b,c] pos) (zyi (zv2 r r' ta tb tc)):=by
 refine⟨?_⟩
 intro pins s σ H Q I h
 refine isTrue_chain (thn (ha pins s σ H _ I h) fun v s1 ⟨x,H1,I1,r1,q1⟩=>test_link (thn (hb pins s1 σ H1 _ I1 q1) fun u s2 ⟨y,H2,I2,r2,q2⟩=>
  thn (ho pins s2 σ H2 x y v u _ I2 r1 r2 q2) fun d s3 ⟨z,H3,I3,r3,k,e,q3⟩=>?_)) hm
 subst e
 cases r3
 refine wpAny_truthy_bool ?_
 cases k with
 | false=>
  have q3:isBl (V.bl false) (fun k=>Q k H3):=q3
  obtain⟨k',e',q'⟩:=isBl.o q3
  cases e'
  exact ite_ff ⟨H3,I3,q'⟩
 | true=>
  refine ite_tt (test_last (thn (hc pins s3 σ H3 _ I3 q3) fun w' s4 ⟨z',H4,I4,r4,q4⟩=>thn (ho' pins s4 σ H4 y z' u w' _ I4 r2 r4 q4) fun d' s5 ⟨z2,H5,I5,r5,q5⟩=>?_))
  obtain⟨k2,e2,q5⟩:=isBl.o q5
  subst e2
  cases r5
  exact wpAny_truthy_bool ⟨H5,I5,q5⟩
theorem zrr:(sizeLine:Nat) < 2 ^ 63:=by rw [sizeLine_eq]; decide
theorem q5t{x:V}{us:List Value}(r:Vals [x] us):∃u,us=[u]/\RelV x u:=by
 cases r with
 | cons r1 r2=>cases r2; exact⟨_,rfl,r1⟩
theorem q8f{x y:V}{us:List Value}(r:Vals [x,y] us):∃u w',us=[u,w']/\RelV x u/\RelV y w':=by
 cases r with
 | cons r1 r2=>
  cases r2 with
  | cons r3 r4=>cases r4; exact⟨_,_,rfl,r1,r3⟩
theorem zas(hc:X.calm=true):zbs X (.builtin "max") (fun xs H Q=>∃i j,xs=[.int i,.int j]/\Q (.int (if j > i then j else i)) H):=by
 intro pins s σ H xs us Q I r h
 obtain⟨i,j,rfl,q⟩:=h
 obtain⟨u,w',rfl,⟨t,rfl⟩,⟨t',rfl⟩⟩:=q8f r
 refine max_two_ints (I.ok.hd hc) fun h' tk k=>⟨_,H,I.kept k,?_,q⟩
 by_cases hj:j > i
 ·rw [if_pos hj,if_pos hj]; exact⟨_,rfl⟩
 ·rw [if_neg hj,if_neg hj]; exact⟨_,rfl⟩
theorem z8s(hc:X.calm=true):zbs X (.builtin "min") (fun xs H Q=>∃i j,xs=[.int i,.int j]/\Q (.int (if j < i then j else i)) H):=by
 intro pins s σ H xs us Q I r h
 obtain⟨i,j,rfl,q⟩:=h
 obtain⟨u,w',rfl,⟨t,rfl⟩,⟨t',rfl⟩⟩:=q8f r
 refine min_two_ints (I.ok.hd hc) fun h' tk k=>⟨_,H,I.kept k,?_,q⟩
 by_cases hj:j < i
 ·rw [if_pos hj,if_pos hj]; exact⟨_,rfl⟩
 ·rw [if_neg hj,if_neg hj]; exact⟨_,rfl⟩
end
end L2
namespace L2
open PySem PySem.Spec PyProof.Rows
structure ObjM(h:Heap)(x dx C:Addr)(mA:Str->Option Value):Prop where
 obj:h.get? x=some (PySem.W.instObj C dx)
 ns:h.Ns1 dx mA
 ne:dx≠x
theorem q03{h:Heap}{dx:Addr}{mA:Str->Option Value}(n:h.Ns1 dx mA):∃od,h.get? dx=some od/\∀name,PySem.W.lookIn name od=some (mA name):=by
 obtain⟨o,es,ep,ho,hd,hk,_,hm⟩:=n
 refine⟨o,ho,fun name=>?_⟩
 have e:=hm name
 unfold nsFind findBy at e
 rw [<- Array.find?_toList] at e
 unfold PySem.W.lookIn
 rw [hd]
 dsimp only
 split
 ·rename_i y q
  rw [q] at e
  exact congrArg some e
 ·rename_i q
  rw [q] at e
  have a:es.toList.any (·.refKey)=false:=by
   rw [List.any_eq_false]
   intro y hy
   obtain⟨z,t,hkey⟩:=hk y (Array.mem_toList_iff.mp hy)
   simp[DictEntry.refKey,hkey]
  have a':¬ es.toList.any (·.refKey)=true:=by rw [a]; exact Bool.false_ne_true
  rw [if_neg a']
  exact congrArg some e
theorem ObjM.look{h:Heap}{x dx C:Addr}{mA:Str->Option Value}(I:ObjM h x dx C mA):∃od,PySem.W.InstAt h x (PySem.W.instObj C dx) C (some od)/\∀name,PySem.W.lookIn name od=some (mA name):=
 let ⟨od,ho,hl⟩:=q03 I.ns
 ⟨od,⟨I.obj,rfl,rfl,ho⟩,hl⟩
section
variable{prog:Program}{w:World}{A:Around}{E:Value->Shared->Prop}{s:Shared}{K:PySem.W.Frag}{x dx C f:Addr}{mA:Str->Option Value}{name:Str}{v:Value}
theorem q7a{expr:Bool}{Q:Value->Shared->Prop}(X:K.In s.heap)(I:ObjM s.heap x dx C mA)(hg:PySem.W.plainGet K C name=true)(hh:PySem.W.hasDictIn K C=true)
  (ha:PySem.W.findIn K (.ref C) name=some none) (hv:mA name=some v) (hv':PySem.W.handedIn v=true) (h:Q v {s with toks:=s.toks+1}) :
  wpAny (model prog w) A (getAttr (.ref x) name expr) Q E s:=by
 obtain⟨od,J,hl⟩:=I.look
 exact PySem.W.get_value X J (PySem.W.plainGet_of hg).1 (PySem.W.findObj_own hh ha rfl (by rw [hl,hv])) hv' h
theorem q67{ns:List Str}{Q:Unit->Shared->Prop}(X:K.In s.heap)(I:ObjM s.heap x dx C mA)
  (hs:PySem.W.findIn K (.ref C) "__setattr__" = some (some (.builtin "object.__setattr__"))) (hp:PySem.W.plainOver K C=true) (ht:PySem.W.takerIn K C name=some none) (hh:PySem.W.hasDictIn K C=true)
  (hw:PySem.Within mA ns) (hsz:ns.length<=sizeLine)
  (h:∀h',ObjM h' x dx C (fun y=>if y=name then some v else mA y)->Heap.SameBut dx s.heap h'->Q () {s with heap:=h',toks:=s.toks+2}) :
  wpAny (model prog w) A (setAttr (.ref x) name v) Q E s:=by
 obtain⟨od,J,hl⟩:=I.look
 refine PySem.W.set_plain X J hs (PySem.W.osa_open (s:={s with toks:=s.toks+1}) (r:=none) X J hp ht fun b=>?_)
 obtain⟨cd,hc,hd'⟩:=PySem.W.any_some hh
 have hx:s.heap.get? x=some ⟨.ref C,some dx,.plain,#[]⟩:=I.obj
 refine wpAny_bind (wpAny_pure (wpAny_bind (wpAny_bind (wpAny_loadPart hx (wpAny_bind (PySem.W.Looks.here (s:={s with toks:=s.toks+1}) (PySem.W.looks_clsIn X hc) ?_))))))
 rw [hd']
 refine wpAny_pure (a:=some dx) (wpAny_bind (wpAny_pure (wpAny_bind ?_)))
 refine wpAny_nsSet1 (s:={s with toks:=s.toks+1}) I.ns fun h' hn2 hs2=>?_
 obtain⟨oD,esD,epD,hoD,hdD,hcD⟩:=hn2.count (PySem.Within.cons name v hw)
 refine wpAny_bind (wpAny_lookBehind hoD (by rw [hdD]; exact pastItsLine_dict (Nat.le_trans hcD (by rw [List.length_cons]; omega))) ?_)
 exact wpAny_pure (h _ ⟨(hs2.2 _ (Ne.symm I.ne)).trans I.obj,hn2,I.ne⟩ hs2)
theorem q3p{R:Result->Shared->Prop}{vs:List Value}{kw:List (Str×Value)}(X:K.In s.heap)(hm:PySem.W.makesIn K C=true)
  (hi:PySem.W.findIn K (.ref C) "__init__" = some (some (.ref f))) (hf:PySem.W.typeIn K (.ref f)=some (.type "function"))
  (h:codeAny (model prog w) (A.under (.builtin "type.__call__" ⟨.ref C::vs,kw⟩)) (.call (.ref f) ⟨.ref (s.heap.objs.size+1)::vs,kw⟩) (PySem.W.InitBack (s.heap.objs.size+1) R)
   {s with heap:=(s.heap.push PySem.W.emptyDict).push (PySem.W.instObj C s.heap.objs.size)}) :
  codeAny (model prog w) A (.call (.ref C) ⟨vs,kw⟩) R s:=by
 obtain⟨hh,g,d,t,os⟩:=s
 exact PySem.W.make_core (PySem.W.makes_of X hm) (PySem.W.looks_findIn X hi) (fun self=>PySem.W.bind_fn X self hf) (.inl rfl) h
end
def zh9(f:Str)(v:V):List (Str×V)->List (Str×V)
 | []=>[(f,v)]
 | (g,x)::r=>if g=f then(g,v)::r else(g,x)::zh9 f v r
theorem zm6(f g:Str)(v:V):∀fs:List (Str×V),(zh9 f v fs).lookup g=if g=f then some v else fs.lookup g
 | []=>by
  show List.lookup g [(f,v)]=_
  by_cases h:g=f
  ·have hb:(g == f)=true:=beq_iff_eq.mpr h
   simp only[List.lookup,hb,if_pos h]
  ·have hb:(g == f)=false:=beq_eq_false_iff_ne.mpr h
   simp only[List.lookup,hb,if_neg h]
 | (k,x)::r=>by
  have ih:=zm6 f g v r
  rw [show zh9 f v ((k,x)::r)=(if k=f then(k,v)::r else(k,x)::zh9 f v r) from rfl]
  by_cases hk:k=f
  ·rw [if_pos hk]
   by_cases h:g=k
   ·have hb:(g == k)=true:=beq_iff_eq.mpr h
    simp only[List.lookup,hb,if_pos (h.trans hk)]
   ·have hb:(g == k)=false:=beq_eq_false_iff_ne.mpr h
    simp only[List.lookup,hb,if_neg (fun e:g=f=>h (e.trans hk.symm))]
  ·rw [if_neg hk]
   by_cases h:g=k
   ·have hb:(g == k)=true:=beq_iff_eq.mpr h
    simp only[List.lookup,hb,if_neg (fun e:g=f=>hk (h.symm.trans e))]
   ·have hb:(g == k)=false:=beq_eq_false_iff_ne.mpr h
    simp only[List.lookup,hb]
    exact ih
theorem zmh(f:Str)(v:V):∀fs:List (Str×V),f∈(zh9 f v fs).map (·.1)/\∀g,g∈fs.map (·.1)->g∈(zh9 f v fs).map (·.1)
 | []=>⟨by simp[zh9],fun g h=>by simp at h⟩
 | (k,x)::r=>by
  obtain⟨i1,i2⟩:=zmh f v r
  rw [show zh9 f v ((k,x)::r)=(if k=f then(k,v)::r else(k,x)::zh9 f v r) from rfl]
  by_cases hk:k=f
  ·rw [if_pos hk]
   subst hk
   exact⟨by simp,fun g h=>by simpa using h⟩
  ·rw [if_neg hk]
   refine⟨?_,fun g h=>?_⟩
   ·rw [List.map_cons]
    exact List.mem_cons_of_mem _ i1
   ·rw [List.map_cons] at h |-
    rcases List.mem_cons.mp h with e | e
    ·exact List.mem_cons.mpr (.inl e)
    ·exact List.mem_cons_of_mem _ (i2 g e)
theorem zmg(f:Str)(v:V):∀fs:List (Str×V),(zh9 f v fs).length<=fs.length+1
 | []=>by simp[zh9]
 | (k,x)::r=>by
  have ih:=zmg f v r
  rw [show zh9 f v ((k,x)::r)=(if k=f then(k,v)::r else(k,x)::zh9 f v r) from rfl]
  by_cases hk:k=f
  ·rw [if_pos hk,List.length_cons,List.length_cons]; omega
  ·rw [if_neg hk,List.length_cons,List.length_cons]; omega
theorem RelO.some_of{v:V}{o:Option Value}(r:RelO (some v) o):∃u,o=some u/\RelV v u:=by
 cases o with
 | none=>exact(show False from r).elim
 | some u=>exact⟨u,rfl,r⟩
theorem q0p{v:V}{u:Value}(r:RelV v u):PySem.W.handedIn u=true:=by
 cases v with
 | non=>cases (show u=Value.none from r); rfl
 | bl b=>cases (show u=Value.bool b from r); rfl
 | int i=>obtain⟨t,e⟩:=(show ∃t,u=Value.int i t from r); cases e; rfl
 | str x=>obtain⟨t,e⟩:=(show ∃t,u=Value.str x t from r); cases e; rfl
 | byt b=>obtain⟨t,e⟩:=(show ∃t,u=Value.bytes b t from r); cases e; rfl
 | flt b=>obtain⟨t,e⟩:=(show ∃t,u=Value.float b t from r); cases e; rfl
 | ref a=>cases (show u=Value.ref a from r); rfl
 | ty n=>cases (show u=Value.type n from r); rfl
section
variable{P:Program}{w:World}{H H':Hp}{h h':Heap}{a C dx:Addr}{fs fs':List (Str×V)}
theorem zu3(hok:HOk P w H h)(e:H a=some (.ins C dx fs)):∃mA,ObjM h a dx C mA/\(∀f,RelO (fs.lookup f) (mA f))/\PySem.Within mA (fs.map (·.1))/\fs.length<=1000/\H dx=some (.own a):=by
 obtain⟨d,z,ne,ob,mA,n,r,q⟩:=(show ObjOk P w H h a (.ins C dx fs) from hok a _ e)
 exact⟨mA,⟨ob,n,ne⟩,r,q,z,d⟩
end
structure Cls(K:PySem.W.Frag)(C:Addr):Prop where
 pg:PySem.W.plainGet K C Str.empty=true
 hd:PySem.W.hasDictIn K C=true
 po:PySem.W.plainOver K C=true
 sa:PySem.W.findIn K (.ref C) "__setattr__" = some (some (.builtin "object.__setattr__"))
theorem Cls.get{K:PySem.W.Frag}{C:Addr}(c:Cls K C)(f:Str):PySem.W.plainGet K C f=true:=c.pg
def NoAttr(K:PySem.W.Frag)(C:Addr)(f:Str):Prop:=PySem.W.findIn K (.ref C) f=some none
theorem NoAttr.taker{K:PySem.W.Frag}{C:Addr}{f:Str}(n:NoAttr K C f):PySem.W.takerIn K C f=some none:=by
 unfold PySem.W.takerIn
 rw [show PySem.W.findIn K (.ref C) f=some none from n]
 rfl
structure Con(K:PySem.W.Frag)(C:Addr)(f:Str)(v:V)(u:Value):Prop where
 at_:PySem.W.findIn K (.ref C) f=some (some u)
 rel:RelV v u
 get:PySem.W.specialIn K u "__get__" = some none
 cp:PySem.W.copiedNames.contains f=false
structure Meth(K:PySem.W.Frag)(C:Addr)(m:Str)(f:Addr):Prop where
 at_:PySem.W.findIn K (.ref C) m=some (some (.ref f))
 fn:PySem.W.isFn K (.ref f)=true
 kp:PySem.W.keepIn K (.ref f)=true
section
variable{X:Cx}{pins:List (Addr×Obj)}{σ : St}{H:Hp}{s:Shared}{a C dx:Addr}{fs:List (Str×V)}{f:Str}{v:V}{A:Around}{E:Value->Shared->Prop}
theorem zxp{b:Bool}{Q:Value->Shared->Prop}(I:Inv X pins σ H s)(e:H a=some (.ins C dx fs))(c:Cls X.K C)(n:NoAttr X.K C f)(l:fs.lookup f=some v)
  (h:∀u s',Inv X pins σ H s'->RelV v u->Q u s'):wpAny (model X.prog X.w) A (getAttr (.ref a) f b) Q E s:=by
 obtain⟨mA,O,r,_,_,_⟩:=zu3 I.hok e
 obtain⟨u,hu,ru⟩:=RelO.some_of (v:=v) (o:=mA f) (by rw [<- l]; exact r f)
 exact q7a I.kIn O (c.get f) c.hd n hu (q0p ru) (h u _ (I.tok _) ru)
theorem zwp{y:V}{u:Value}{Q:Unit->Shared->Prop}(I:Inv X pins σ H s)(e:H a=some (.ins C dx fs))(c:Cls X.K C)(n:NoAttr X.K C f)(hl:fs.length < 1000)(ry:RelV y u)
  (h:∀s',Inv X pins σ (upd H a (.ins C dx (zh9 f y fs))) s'->Q () s'):wpAny (model X.prog X.w) A (setAttr (.ref a) f u) Q E s:=by
 obtain⟨mA,O,r,wi,_,ho⟩:=zu3 I.hok e
 have hz:(fs.map (·.1)).length<=sizeLine:=by rw [List.length_map,sizeLine_eq]; omega
 refine q67 I.kIn O c.sa c.po n.taker c.hd wi hz fun h' O' sb=>h _ ?_
 have hd:∃o,h'.get? dx=some o:=let ⟨o,_,_,e',_⟩:=O'.ns; ⟨o,e'⟩
 refine I.write (x:=a) (e:=dx) (by rw [e]; exact True.intro) (.inr ho) (fun b q hb z=>(sb.2 b hb).trans z) hd ?_
 refine⟨by rw [z0o O.ne]; exact ho,?_,O.ne,O'.obj,_,O'.ns,fun g=>?_,fun g hg=>?_⟩
 ·have:=zmg f y fs; omega
 ·show RelO ((zh9 f y fs).lookup g) (if g=f then some u else mA g)
  rw [zm6]
  by_cases q:g=f
  ·rw [if_pos q,if_pos q]; exact ry
  ·rw [if_neg q,if_neg q]; exact r g
 ·by_cases q:g=f
  ·rw [q]; exact(zmh f y fs).1
  ·refine(zmh f y fs).2 g (wi g fun z=>hg ?_)
   show(if g=f then some u else mA g)=none
   rw [if_neg q]; exact z
theorem Inv.made(I:Inv X pins σ H s):Inv X pins σ (upd (upd H s.heap.objs.size (.own (s.heap.objs.size+1))) (s.heap.objs.size+1) (.ins C s.heap.objs.size []))
  {s with heap:=(s.heap.push PySem.W.emptyDict).push (PySem.W.instObj C s.heap.objs.size)}:=by
 have e1:(s.heap.push PySem.W.emptyDict).get? s.heap.objs.size=some PySem.W.emptyDict:=Heap.get?_push_size s.heap rfl
 have e2:((s.heap.push PySem.W.emptyDict).push (PySem.W.instObj C s.heap.objs.size)).get? (s.heap.objs.size+1)=some (PySem.W.instObj C s.heap.objs.size):=by
  have:=Heap.get?_push_size (s.heap.push PySem.W.emptyDict) (o:=PySem.W.instObj C s.heap.objs.size) rfl
  rwa [Heap.size_push] at this
 have e3:(s.heap.push PySem.W.emptyDict).Ns s.heap.objs.size (fun _=>none):=⟨PySem.W.emptyDict,#[],_,e1,rfl,(fun e he=>absurd he (by simp)),fun _=>rfl⟩
 have I1:=I.laid (a:=s.heap.objs.size) (o:=.own (s.heap.objs.size+1)) (h':=s.heap.push PySem.W.emptyDict) (t':=s.toks) (fun b u q=>Heap.get?_push_of_some _ q) (Nat.le_refl _) ⟨_,e1⟩
 refine I1.laid (a:=s.heap.objs.size+1) (o:=.ins C s.heap.objs.size []) (t':=s.toks) (fun b u q=>Heap.get?_push_of_some _ q) (Nat.le_of_eq (Heap.size_push _ _)) ?_
 have ne:s.heap.objs.size≠s.heap.objs.size+1:=Nat.ne_of_lt (Nat.lt_succ_self _)
 refine⟨by rw [z0o ne,z02],Nat.zero_le _,ne,e2,fun _=>none,(Heap.Ns1.of_empty e3).at fun o q=>Heap.get?_push_of_some _ q,fun _=>True.intro,fun y hy=>absurd rfl hy⟩
theorem q7t{prog:Program}{w:World}{env:Env}{e:Expr}{f:Str}{pos:Pos}{s:Shared}{Q:Value->Shared->Prop}(hb:attributeBase e f env (eval e env)=eval e env)
  (h:wpAny (model prog w) A (eval e env) (fun o s₁=>wpAny (model prog w) A (getAttr o f true) Q E s₁) E s):wpAny (model prog w) A (eval (.Attribute e f pos) env) Q E s:=
 Attribute_any_ h (by rw [arm_eval_Attribute,hb])
end
def qbb(K:PySem.W.Frag)(ta:TE)(f:Str):TE:=fun σ H Q=>ta σ H fun x H1=>∃a C dx fs v,x=.ref a/\H1 a=some (.ins C dx fs)/\Cls K C/\NoAttr K C f/\fs.lookup f=some v/\Q v H1
def qcv(K:PySem.W.Frag)(ta tv:TE)(f:Str):TS:=fun D σ H=>tv σ H fun y H1=>ta σ H1 fun x H2=>∃a C dx fs,x=.ref a/\H2 a=some (.ins C dx fs)/\Cls K C/\NoAttr K C f/\fs.length < 1000/\
 D.nx σ (upd H2 a (.ins C dx (zh9 f y fs)))
section
variable{X:Cx}{o e value:Expr}{f:Str}{pos pos' tpos:Pos}{ta tv:TE}
theorem zra(he:PE X e ta)(hb:attributeBase e f X.env (eval e X.env)=eval e X.env):PE X (.Attribute e f pos) (qbb X.K ta f):=by
 refine⟨?_⟩
 intro pins s σ H Q I h
 refine q7t hb (thn (he pins s σ H _ I h) fun u s1 hh=>?_)
 obtain⟨x,H1,I1,rx,a,C,dx,fs,v,ex,ea,c,n,l,q⟩:=hh
 subst ex
 obtain rfl:u=Value.ref a:=rx
 exact zxp I1 ea c n l fun u' s2 I2 ru=>⟨v,H1,I2,ru,q⟩
theorem zzi(ha:PE X o ta)(hv:PE X value tv)(hs:swapsWith value (some (.Attribute o f pos')) pos.line X.env=pure false):PS X (.Assign [.Attribute o f pos'] value pos) (qcv X.K ta tv f):=by
 refine⟨?_⟩
 intro pins s σ H D I h
 refine plainObj_wpAny_Assign_Attribute (thn (hv pins s σ H _ I h) fun u s1 ⟨y,H1,I1,ry,q⟩=>thn (ha pins s1 σ H1 _ I1 q) fun ov s2 hh=>?_) hs
 obtain⟨x,H2,I2,rx,a,C,dx,fs,ex,ea,c,n,l,q2⟩:=hh
 subst ex
 obtain rfl:ov=Value.ref a:=rx
 exact zwp I2 ea c n l ry fun s3 I3=>⟨σ,_,I3,q2⟩
end
section
variable{X:Cx}{pins:List (Addr×Obj)}{σ : St}{H:Hp}{s:Shared}{A:Around}{E:Value->Shared->Prop}{Q:Value->Shared->Prop}{c:Value}{b:Bool}
inductive TyOf (K:PySem.W.Frag) (H:Hp):V->Value->Prop where
 | non:TyOf K H .non (.type "NoneType")
 | bl (x:Bool):TyOf K H (.bl x) (.type "bool")
 | int (i:Int):TyOf K H (.int i) (.type "int")
 | str (x:Str):TyOf K H (.str x) (.type "str")
 | flt (x:UInt64):TyOf K H (.flt x) (.type "float")
 | lst {a:Addr} {xs:List V} (e:H a=some (.lst xs)):TyOf K H (.ref a) (.type "list")
 | frz {a:Addr} {o:Obj} {xs:List V} (e:H a=some (.frz o (.lst xs))):TyOf K H (.ref a) (.type "list")
 | tup {a:Addr} {xs:List V} (e:H a=some (.tup xs)):TyOf K H (.ref a) (.type "tuple")
 | dK {a:Addr} {kvs:List (Key×V)} (e:H a=some (.dK kvs)):TyOf K H (.ref a) (.type "dict")
 | dT {a:Addr} {kvs:List (List Key×V)} (e:H a=some (.dT kvs)):TyOf K H (.ref a) (.type "dict")
 | ins {a C dx:Addr} {fs:List (Str×V)} (e:H a=some (.ins C dx fs)) (cl:Cls K C) (ha:PySem.W.findIn K (.ref C) "__class__" = some (some (.builtin "object.__class__")))
   (hn:PySem.W.specialIn K (.builtin "object.__class__") "__get__" = some (some (.builtin "getset_descriptor.__get__"))) (htk:PySem.W.takesIn K (.builtin "object.__class__")=some true)
   (hm:PySem.W.mroIn K C (.type "object")=some true):TyOf K H (.ref a) (.ref C)
theorem q0e{x:V}{u t:Value}(I:Inv X pins σ H s)(rx:RelV x u)(ty:TyOf X.K H x t)(e:PySem.W.kitOne X.K t c=some b)(h:∀tk,Q (.bool b) {s with toks:=tk}) :
  wpAny (model X.prog X.w) A (call (.builtin "isinstance") [u,c]) Q E s:=by
 cases ty with
 | non=>cases (show u=Value.none from rx); exact PySem.W.kia_one PySem.W.kitx_none I.kIn True.intro e (fun z=>nomatch z) h
 | bl y=>cases (show u=Value.bool y from rx); exact PySem.W.kia_one PySem.W.kitx_bool I.kIn True.intro e (fun z=>nomatch z) h
 | int i=>obtain⟨t,q⟩:=(show ∃t,u=Value.int i t from rx); cases q; exact PySem.W.kia_one PySem.W.kitx_int I.kIn True.intro e (fun z=>nomatch z) h
 | str y=>obtain⟨t,q⟩:=(show ∃t,u=Value.str y t from rx); cases q; exact PySem.W.kia_one PySem.W.kitx_str I.kIn True.intro e (fun z=>nomatch z) h
 | flt y=>obtain⟨t,q⟩:=(show ∃t,u=Value.float y t from rx); cases q; exact PySem.W.kia_one PySem.W.kitx_float I.kIn True.intro e (fun z=>nomatch z) h
 | @lst a xs ea=>
  cases (show u=Value.ref a from rx)
  obtain⟨_,_,n,_,h1⟩:=(show ObjOk X.prog X.w H s.heap a (.lst xs) from I.hok a _ ea)
  exact PySem.W.kia_one PySem.W.kitx_list I.kIn ⟨_,h1,rfl⟩ e (fun z=>nomatch z) h
 | @frz a ob xs ea=>
  cases (show u=Value.ref a from rx)
  obtain⟨_,_,_,n,_,h1⟩:=(show ObjOk X.prog X.w H s.heap a (.frz ob (.lst xs)) from I.hok a _ ea)
  exact PySem.W.kia_one PySem.W.kitx_list I.kIn ⟨_,h1,rfl⟩ e (fun z=>nomatch z) h
 | @tup a xs ea=>
  cases (show u=Value.ref a from rx)
  obtain⟨_,_,_,p⟩:=(show ObjOk X.prog X.w H s.heap a (.tup xs) from I.hok a _ ea)
  obtain⟨o,h1,h2,_⟩:=p
  exact PySem.W.kia_one PySem.W.kitx_tuple I.kIn ⟨o,h1,h2⟩ e (fun z=>nomatch z) h
 | @dK a kvs ea=>
  cases (show u=Value.ref a from rx)
  obtain⟨_,_,vs,_,p⟩:=(show ObjOk X.prog X.w H s.heap a (.dK kvs) from I.hok a _ ea)
  obtain⟨o,es,ep,h1,h2,_⟩:=p
  exact PySem.W.kia_one PySem.W.kitx_dict I.kIn ⟨o,h1,h2.1⟩ e (fun z=>nomatch z) h
 | @dT a kvs ea=>
  cases (show u=Value.ref a from rx)
  obtain⟨_,_,xs,_,o,es,ep,h1,h2,_⟩:=(show ObjOk X.prog X.w H s.heap a (.dT kvs) from I.hok a _ ea)
  exact PySem.W.kia_one PySem.W.kitx_dict I.kIn ⟨o,h1,h2.1⟩ e (fun z=>nomatch z) h
 | @ins a C dx fs ea cl ha hn htk hm=>
  cases (show u=Value.ref a from rx)
  obtain⟨mA,O,_⟩:=zu3 I.hok ea
  obtain⟨od,J,_⟩:=O.look
  exact PySem.W.kia_one (PySem.W.kitx_own (cl.get _) cl.hd ha hn htk hm) I.kIn J e (fun z=>nomatch z) h
end
end L2
namespace L2
open PySem PySem.Spec PyProof.Rows
structure Room(k:Nat)(A:Around):Prop where
 hd:A.handled=none
 dp:A.depth+3 * k+5 < recursionLimit
 un:A.units+16 * k+200 < cLine
theorem Room.mono{j k:Nat}{A:Around}(r:Room k A)(h:j<=k):Room j A:=⟨r.hd,by have:=r.dp; omega,by have:=r.un; omega⟩
theorem Room.deeper{k:Nat}{A:Around}(r:Room (k+1) A)(env:Env):Room k (A.deeper env):=
 ⟨r.hd,by have:=r.dp; show A.depth+1+3 * k+5 < _; omega,by have:=r.un; show A.units+3+16 * k+200 < _; omega⟩
theorem zxh{A:Around}{C:Addr}{us:List Value}{kw:List (Str×Value)}:(A.under (.builtin "type.__call__" ⟨.ref C::us,kw⟩)).depth=A.depth+1:=by
 first | rfl | simp[Around.under,Code.weight,Code.isCreation,Code.isGuard,Code.isCaller,Code.frames,Code.isFrame,guardIds]
theorem zxg{A:Around}{C:Addr}{us:List Value}{kw:List (Str×Value)}:(A.under (.builtin "type.__call__" ⟨.ref C::us,kw⟩)).units=A.units+1:=by
 first | rfl | simp[Around.under,Code.cUnits,Code.frames,Code.isFrame]
theorem Room.make{k:Nat}{A:Around}(r:Room (k+1) A)(C:Addr)(us:List Value)(kw:List (Str×Value)):Room k (A.under (.builtin "type.__call__" ⟨.ref C::us,kw⟩)):=
 ⟨r.hd,by have:=r.dp; rw [zxh]; omega,by have:=r.un; rw [zxg]; omega⟩
theorem Room.depth{k:Nat}{A:Around}(r:Room k A):A.depth < recursionLimit:=by have:=r.dp; omega
theorem Room.units{k:Nat}{A:Around}(r:Room k A):A.units+64 < cLine:=by have:=r.un; omega
theorem Room.units0{k:Nat}{A:Around}(r:Room k A):A.units < cLine:=by have:=r.un; omega
def q5x:TA:=fun _ H Q=>Q [] H
def zl9(ta:TE)(tr:TA):TA:=fun σ H Q=>ta σ H fun x H1=>tr σ H1 fun xs H2=>Q (x::xs) H2
section
variable{X:Cx}{e:Expr}{es:List Expr}{te:TE}{t:TA}{pos:Pos}
theorem pa_nil:PA X [] q5x:=⟨fun _ _ _ _ H Q I h=>Calls.spliced_nil ⟨[],H,I,.nil,h⟩⟩
theorem q6q(ha:PE X e te)(hr:PA X es t)(hs:starEach (e::es) X.env=(false,eval e X.env)::starEach es X.env:=by rfl):PA X (e::es) (zl9 te t):=by
 refine⟨?_⟩
 intro pos pins s σ H Q I h
 rw [hs]
 show wpAny _ _ (spliced ((false,eval e X.env)::backTo pos (starEach es X.env))) _ _ s
 refine Calls.spliced_cons (thn (ha pins s σ H _ I h) fun u s1 ⟨x,H1,I1,r1,q1⟩=>?_)
 exact thn (hr pos pins s1 σ H1 _ I1 q1) fun us s2 ⟨xs,H2,I2,r2,q2⟩=>⟨x::xs,H2,I2,.cons r1 r2,q2⟩
def qal(t:TA):TE:=fun σ H Q=>t σ H fun xs H1=>xs.length<=sizeLine/\∀p,H1 p=none->Q (.ref p) (upd H1 p (.tup xs))
def qan(t:TA):TE:=fun σ H Q=>t σ H fun xs H1=>xs.length<=sizeLine/\∀p,H1 p=none->Q (.ref p) (upd H1 p (.lst xs))
theorem z1a{x1}(h:PA X es t):PE X (.Tuple es x1 pos) (qal t):=by
 refine⟨?_⟩
 intro pins s σ H Q I hq
 refine wpAny_Tuple_spliced (thn (h pos pins s σ H _ I hq) fun us s1 ⟨xs,H1,I1,r,z,q⟩=>⟨by rw [<- r.length]; exact z,?_⟩)
 have hf:H1 s1.heap.objs.size=none:=I1.hok.fresh (Nat.le_refl _)
 refine⟨.ref s1.heap.objs.size,upd H1 s1.heap.objs.size (.tup xs),I1.laid (t':=s1.toks) (fun b u e=>Heap.get?_push_of_some _ e) (Nat.le_refl _) ?_,rfl,q _ hf⟩
 exact⟨z,us,r,⟨_,Heap.get?_push_size _ rfl,rfl,_,rfl⟩⟩
theorem zj3(h:PA X es t):PE X (.List es pos) (qan t):=by
 refine⟨?_⟩
 intro pins s σ H Q I hq
 refine wpAny_List_spliced (thn (h pos pins s σ H _ I hq) fun us s1 ⟨xs,H1,I1,r,z,q⟩=>⟨by rw [<- r.length]; exact z,?_⟩)
 have hf:H1 s1.heap.objs.size=none:=I1.hok.fresh (Nat.le_refl _)
 refine⟨.ref s1.heap.objs.size,upd H1 s1.heap.objs.size (.lst xs),I1.laid (t':=s1.toks) (fun b u e=>Heap.get?_push_of_some _ e) (Nat.le_refl _) ?_,rfl,q _ hf⟩
 exact⟨z,us,0,r,Heap.get?_push_size _ rfl⟩
end
abbrev Sp:=List V->Hp->VK->XK->Prop
abbrev CXT:=List Env->Hp->Shared->XK->Value->Shared->Prop
structure Env0(P:Program)(w:World)(K:PySem.W.Frag)(mg:Str->Option Value)(base:Heap)(A:Around)(outer:List Env)(s:Shared)(H:Hp):Prop where
 frames:A.frames=some outer
 mod:Mod K mg base
 bs:∀b o,base.get? b=some o->s.heap.get? b=some o/\H b=none
 bsz:base.objs.size<=s.heap.objs.size
 funs:s.heap.FunFrames base outer
 frf:∀b∈frs outer,H b=none
 hok:HOk P w H s.heap
 bare:AllBare s.gens
def CE(outer:List Env)(P:Program)(w:World)(H:Hp)(s:Shared)(Q:VK)(u:Value)(s':Shared):Prop:=
 ∃v H',s'.os=s.os/\AllBare s'.gens/\Un (frs outer) [] H H' s.heap s'.heap/\HOk P w H' s'.heap/\RelV v u/\Q v H'
def CR(CX:CXT)(outer:List Env)(P:Program)(w:World)(H:Hp)(s:Shared)(Q:VK)(E:XK)(r:Result)(s':Shared):Prop:=
 match r with
 | .ok (.ret u)=>CE outer P w H s Q u s'
 | .ok _=>False
 | .error e=>CX outer H s E e s'
structure FnOk(P:Program)(w:World)(K:PySem.W.Frag)(mg:Str->Option Value)(base:Heap)(CX:CXT)(k:Nat)(f:Addr)(fd:FuncData)(ps:List Str)(sp:Sp):Prop where
 len:∀vs H Q E,sp vs H Q E->vs.length=ps.length
 run:∀(A:Around) (outer:List Env) (s:Shared) (H:Hp) (args:Args) (us:List Value) (vs:List V) (Q:VK) (E:XK),Room k A->Env0 P w K mg base A outer s H->BindsTo s fd args (ps.zip us)->Vals vs us->sp vs H Q E->
  codeAny (model P w) A (.call (.ref f) args) (CR CX outer P w H s Q E) s
theorem FnOk.mono{P:Program}{w:World}{K:PySem.W.Frag}{mg:Str->Option Value}{base:Heap}{CX:CXT}{j k:Nat}{f:Addr}{fd:FuncData}{ps:List Str}{sp:Sp}(F:FnOk P w K mg base CX j f fd ps sp)(h:j<=k) :
  FnOk P w K mg base CX k f fd ps sp:=⟨F.len,fun A outer s H args us vs Q E hr=>F.run A outer s H args us vs Q E (hr.mono h)⟩
theorem FnOk.imp{P:Program}{w:World}{K:PySem.W.Frag}{mg:Str->Option Value}{base:Heap}{CX:CXT}{k:Nat}{f:Addr}{fd:FuncData}{ps:List Str}{sp sp':Sp}(F:FnOk P w K mg base CX k f fd ps sp)
  (h:∀vs H Q E,sp' vs H Q E->sp vs H Q E):FnOk P w K mg base CX k f fd ps sp':=
 ⟨fun vs H Q E q=>F.len vs H Q E (h _ _ _ _ q),fun A outer s H args us vs Q E hr he hb hv hs=>F.run A outer s H args us vs Q E hr he hb hv (h _ _ _ _ hs)⟩
theorem Env0.make{P:Program}{w:World}{K:PySem.W.Frag}{mg:Str->Option Value}{base:Heap}{A:Around}{outer:List Env}{s:Shared}{H:Hp}(e:Env0 P w K mg base A outer s H)(C:Addr)(us:List Value)(kw:List (Str×Value)) :
  Env0 P w K mg base (A.under (.builtin "type.__call__" ⟨.ref C::us,kw⟩)) outer s H:=⟨by first | exact e.frames | (simpa [Around.under,Code.envs,Code.isFrame,pushEnvs] using e.frames),e.mod,e.bs,e.bsz,e.funs,e.frf,e.hok,e.bare⟩
section
variable{X:Cx}{pins:List (Addr×Obj)}{σ : St}{H:Hp}{s s':Shared}
theorem Inv.env0(I:Inv X pins σ H s):Env0 X.prog X.w X.K X.mg X.base X.A X.stack s H:=
 ⟨I.ok.frames,I.ok.mod,I.bs,Nat.le_trans I.ok.bsz I.sz,I.stack,I.stkFree,I.hok,I.bare⟩
theorem Inv.after{Q:VK}{u:Value}(I:Inv X pins σ H s)(h:CE X.stack X.prog X.w H s Q u s'):EP X pins σ Q u s':=by
 obtain⟨v,H',os,bare,un,hok,r,q⟩:=h
 obtain⟨hh,g,d,t,os'⟩:=s'
 obtain rfl:os'=s.os:=os
 exact⟨v,H',I.call (h':=hh) (g':=g) (d':=d) (t':=t) (ch:=[]) un hok bare (fun b z=>absurd z (by simp)),r,q⟩
end
def zta(sp:Sp)(dvs:List V)(E:XK)(t:TA):TE:=fun σ H Q=>t σ H fun vs H1=>sp (vs++dvs) H1 Q E
def q5y(C:Addr)(sp:Sp)(dvs:List V)(E:XK)(t:TA):TE:=fun σ H Q=>t σ H fun vs H1=>∀x dx,H1 x=none->H1 dx=none->dx≠x->
 sp (.ref x::(vs++dvs)) (upd (upd H1 dx (.own x)) x (.ins C dx [])) (fun v H2=>v=.non/\Q (.ref x) H2) E
def Binds(K:PySem.W.Frag)(fd:FuncData)(ps:List Str)(ds:List Value):Prop:=
 ∀(s:Shared) (us:List Value),K.In s.heap->(us++ds).length=ps.length->BindsTo s fd ⟨us,[]⟩ (ps.zip (us++ds))
theorem Binds.all{K:PySem.W.Frag}{fd:FuncData}{ps:List Str}(h:∀us:List Value,us.length=ps.length->bindArgs fd ⟨us,[]⟩=pure (ps.zip us)):Binds K fd ps []:=fun s us _ hl=>by
 rw [List.append_nil] at hl |-
 exact .of_eq (h us hl)
def q1z(CX:CXT)(X:Cx)(E:XK):Prop:=∀(pins:List (Addr×Obj)) (σ : St) (H:Hp) (s:Shared) (e:Value) (s':Shared),Inv X pins σ H s->CX X.stack H s E e s'->X.xe e s'
section
variable{X:Cx}{CX:CXT}{k:Nat}{f C:Addr}{fd:FuncData}{ps:List Str}{sp:Sp}{dvs:List V}{ds:List Value}{E:XK}{x m:Str}{p pos apos:Pos}{e o:Expr}{es:List Expr}{ta:TE}{t:TA}
theorem q50{pins:List (Addr×Obj)}{σ : St}{H:Hp}{s:Shared}{Q:VK}{us:List Value}{vs:List V}(F:FnOk X.prog X.w X.K X.mg X.base CX k f fd ps sp)(hr:Room k X.A)(hb:Binds X.K fd ps ds)(hd:Vals dvs ds)(hx:q1z CX X E)
  (I:Inv X pins σ H s) (r:Vals vs us) (h:sp (vs++dvs) H Q E):wpAny (model X.prog X.w) X.A (call (.ref f) us) (EP X pins σ Q) X.xe s:=by
 have r2:Vals (vs++dvs) (us++ds):=r.append hd
 have hl:(us++ds).length=ps.length:=by rw [<- r2.length]; exact F.len _ _ _ _ h
 refine wpAny_call (codeAny_mono (F.run X.A X.stack s H ⟨us,[]⟩ (us++ds) (vs++dvs) Q E hr I.env0 (hb s us I.kIn hl) r2 h) fun r s' hq=>?_)
 cases r with
 | error e=>exact hx pins σ H s e s' I hq
 | ok fl=>
  cases fl with
  | ret u=>exact I.after hq
  | next=>exact False.elim hq
  | brk=>exact False.elim hq
  | cont=>exact False.elim hq
structure Mk(K:PySem.W.Frag)(C f:Addr):Prop where
 makes:PySem.W.makesIn K C=true
 init:PySem.W.findIn K (.ref C) "__init__" = some (some (.ref f))
 fn:PySem.W.isFn K (.ref f)=true
 kp:PySem.W.keepIn K (.ref C)=true
theorem q2m{pins:List (Addr×Obj)}{σ : St}{H:Hp}{s:Shared}{Q:VK}{us:List Value}{vs:List V}(M:Mk X.K C f)(F:FnOk X.prog X.w X.K X.mg X.base CX k f fd ps sp)(hr:Room (k+1) X.A)(hb:Binds X.K fd ps ds)(hd:Vals dvs ds)
  (hx:q1z CX X E) (I:Inv X pins σ H s) (r:Vals vs us)
  (h:∀x dx,H x=none->H dx=none->dx≠x->sp (.ref x::(vs++dvs)) (upd (upd H dx (.own x)) x (.ins C dx [])) (fun v H2=>v=.non/\Q (.ref x) H2) E) :
  wpAny (model X.prog X.w) X.A (call (.ref C) us) (EP X pins σ Q) X.xe s:=by
 have hq:=h (s.heap.objs.size+1) s.heap.objs.size (I.hok.fresh (Nat.le_succ _)) (I.hok.fresh (Nat.le_refl _)) (Nat.ne_of_lt (Nat.lt_succ_self _))
 have I2:=Inv.made (C:=C) I
 have r2:Vals (V.ref (s.heap.objs.size+1)::(vs++dvs)) (Value.ref (s.heap.objs.size+1)::(us++ds)):=.cons rfl (r.append hd)
 have hl:(Value.ref (s.heap.objs.size+1)::us++ds).length=ps.length:=by
  have e:=r2.length
  rw [F.len _ _ _ _ hq] at e
  exact e.symm
 refine wpAny_call (q3p (f:=f) I.kIn M.makes M.init (beq_iff_eq.mp M.fn) (codeAny_mono (F.run _ X.stack _ _ ⟨Value.ref (s.heap.objs.size+1)::us,[]⟩ (Value.ref (s.heap.objs.size+1)::(us++ds)) _ _ E (hr.make C us [])
  (I2.env0.make C us []) (hb _ (Value.ref (s.heap.objs.size+1)::us) I2.kIn hl) r2 hq) fun r s' hq'=>?_))
 cases r with
 | error e=>exact hx pins σ _ _ e s' I2 hq'
 | ok fl=>
  cases fl with
  | ret u=>
   obtain⟨v,H',I3,rv,ev,q3⟩:=I2.after hq'
   subst ev
   exact⟨rv,⟨V.ref (s.heap.objs.size+1),H',I3,rfl,q3⟩⟩
  | next=>exact False.elim hq'
  | brk=>exact False.elim hq'
  | cont=>exact False.elim hq'
theorem q6l(M:Mk X.K C f)(F:FnOk X.prog X.w X.K X.mg X.base CX k f fd ps sp)(hr:Room (k+1) X.A)(hg:Gl X x)(hm:X.mg x=some (.ref C))(hb:Binds X.K fd ps ds)(hd:Vals dvs ds)(hx:q1z CX X E)
  (ha:PA X (e::es) t) (hdb:(x == ("__debug__" : Str))=false:=by decide) (he:starEach (e::es) X.env=(false,eval e X.env)::starEach es X.env:=by rfl) (hpl:(backTo pos (starEach es X.env)).any (·.1)=false:=by rfl) :
  PE X (.Call (.Name x p) (e::es) [] pos) (q5y C sp dvs E t):=by
 refine⟨?_⟩
 intro pins s σ H Q I h
 refine wpAny_Call_Name_kw (ztx I hg hm ?_ hdb)
 refine PySem.W.callWith_K (h₀:=X.base) I.ok.mod.kin M.kp (thn (ha pos pins s σ H _ I h) fun us s1 ⟨vs,H1,I1,r,q⟩=>⟨I1.kIn,?_⟩) he hpl
 exact q2m M F hr hb hd hx I1 r q
end
section
variable{X:Cx}{CX:CXT}{k:Nat}{f C:Addr}{fd:FuncData}{ps ks:List Str}{sp:Sp}{E:XK}{x m:Str}{p pos apos kpos:Pos}{e o:Expr}{es:List Expr}{kws:List Keyword}{te ta:TE}{t tk:TA}{nm:Option Str}
structure KBinds(K:PySem.W.Frag)(fd:FuncData)(ps ks:List Str)(g:List Value->List Value->List Value)(gV:List V->List V->List V):Prop where
 to:∀(s:Shared) (us ws:List Value),K.In s.heap->(g us ws).length=ps.length->BindsTo s fd ⟨us,ks.zip ws⟩ (ps.zip (g us ws))
 rel:∀{vs:List V} {us:List Value} {zs:List V} {ws:List Value},Vals vs us->Vals zs ws->Vals (gV vs zs) (g us ws)
variable{g:List Value->List Value->List Value}{gV:List V->List V->List V}
end
structure FnScope(N P:List Str)(sc:Scope):Prop where
 kind:sc.kind=.function
 co:sc.isCoroutine=false
 gen:sc.isGenerator=false
 nd:N.Nodup
 pre:N.take P.length=P
 par:∀x∈P,sc.names.lookup x=some .local\/sc.names.lookup x=some .cell
 nofree:∀y∈sc.names,y.2≠.free
theorem zsz{kindOf:Str->Option NameKind}{x:Str}:∀{binds:List (Str×Value)} {m:Str->Option Value},(∀v,(x,v)∉binds)->bindL kindOf binds m x=m x
 | [],_,_=>rfl
 | (n,v)::r,m,h=>by
  unfold bindL
  rw [zsz fun w hw=>h w (List.mem_cons_of_mem _ hw)]
  split
  ·have:x≠n:=by rintro rfl; exact h v List.mem_cons_self
   simp[this]
  ·rfl
theorem zt1{kindOf:Str->Option NameKind}{x:Str}:∀{binds:List (Str×Value)} {m:Str->Option Value},(∀v,(x,v)∉binds)->bindC kindOf binds m x=m x
 | [],_,_=>rfl
 | (n,v)::r,m,h=>by
  unfold bindC
  rw [zt1 fun w hw=>h w (List.mem_cons_of_mem _ hw)]
  split
  ·rfl
  ·have:x≠n:=by rintro rfl; exact h v List.mem_cons_self
   simp[this]
theorem zt0{kindOf:Str->Option NameKind}{x:Str}{v:Value}:∀{P:List Str} {vs:List Value} {i:Nat} {m:Str->Option Value},P.Nodup->P[i]?=some x->vs[i]?=some v->kindOf x=some .local->
  bindL kindOf (P.zip vs) m x=some v
 | [],_,_,_,_,h,_,_=>by simp at h
 | _::_,[],_,_,_,_,h,_=>by simp at h
 | p::P,w::vs,0,m,nd,h1,h2,hk=>by
  simp at h1 h2; subst h1; subst h2
  show bindL kindOf ((p,w)::P.zip vs) m p=_
  unfold bindL
  rw [zsz fun v hv=>(List.nodup_cons.mp nd).1 (List.of_mem_zip hv).1,if_pos hk]
  simp
 | p::P,w::vs,i+1,m,nd,h1,h2,hk=>by
  show bindL kindOf ((p,w)::P.zip vs) m x=_
  unfold bindL
  exact zt0 (i:=i) (List.nodup_cons.mp nd).2 (by simpa using h1) (by simpa using h2) hk
theorem zt2{kindOf:Str->Option NameKind}{x:Str}{v:Value}:∀{P:List Str} {vs:List Value} {i:Nat} {m:Str->Option Value},P.Nodup->P[i]?=some x->vs[i]?=some v->kindOf x≠some .local->
  bindC kindOf (P.zip vs) m x=some v
 | [],_,_,_,_,h,_,_=>by simp at h
 | _::_,[],_,_,_,_,h,_=>by simp at h
 | p::P,w::vs,0,m,nd,h1,h2,hk=>by
  simp at h1 h2; subst h1; subst h2
  show bindC kindOf ((p,w)::P.zip vs) m p=_
  unfold bindC
  rw [zt1 fun v hv=>(List.nodup_cons.mp nd).1 (List.of_mem_zip hv).1,if_neg hk]
  simp
 | p::P,w::vs,i+1,m,nd,h1,h2,hk=>by
  show bindC kindOf ((p,w)::P.zip vs) m x=_
  unfold bindC
  exact zt2 (i:=i) (List.nodup_cons.mp nd).2 (by simpa using h1) (by simpa using h2) hk
def start:List Str->List V->St
 | _::N,v::vs=>some v::start N vs
 | _::N,[]=>none::start N []
 | [],_=>[]
theorem qbd{n:Str}{N:List Str}{v:V}{vs:List V}:start (n::N) (v::vs)=some v::start N vs:=rfl
theorem qbc{n:Str}{N:List Str}:start (n::N) []=none::start N []:=rfl
theorem q62:start [] []=[]:=rfl
theorem zut{n:Str}{N:List Str}{v:V}{vs:List V}{P:V->Prop}:atS 0 (start (n::N) (v::vs)) P=P v:=rfl
theorem zus{i:Nat}{n:Str}{N:List Str}{v:V}{vs:List V}{P:V->Prop}:atS (i+1) (start (n::N) (v::vs)) P=atS i (start N vs) P:=rfl
theorem zpe{n:Str}{N:List Str}{v w:V}{vs:List V}{Q:St->Prop}:zwq 0 v (start (n::N) (w::vs)) Q=Q (some v::start N vs):=rfl
theorem zpd{i:Nat}{n:Str}{N:List Str}{v w:V}{vs:List V}{Q:St->Prop}:zwq (i+1) v (start (n::N) (w::vs)) Q=zwq i v (start N vs) fun σ'=>Q (some w::σ'):=rfl
theorem zpg{n:Str}{N:List Str}{v:V}{Q:St->Prop}:zwq 0 v (start (n::N) []) Q=Q (some v::start N []):=rfl
theorem zpf{i:Nat}{n:Str}{N:List Str}{v:V}{Q:St->Prop}:zwq (i+1) v (start (n::N) []) Q=zwq i v (start N []) fun σ'=>Q (none::σ'):=rfl
theorem zv3:∀N:List Str,start N []=List.replicate N.length none
 | []=>rfl
 | _::N=>by rw [start,zv3 N]; rfl
theorem zfz:∀{N:List Str} {vs:List V},vs.length<=N.length->start N vs=vs.map some++List.replicate (N.length - vs.length) none
 | N,[],_=>by rw [zv3]; simp
 | _::N,v::vs,h=>by
  rw [start,zfz (by simpa using h)]
  simp
 | [],_::_,h=>absurd h (by simp)
def zt3(CX:CXT)(P:Program)(w:World)(K:PySem.W.Frag)(mg:Str->Option Value)(base:Heap)(N:List Str)(qual:Str)(scope:Scope)(f:Addr)(cd:Value)(A:Around)(outer:List Env)(s:Shared)(H:Hp)(E:XK):Cx where
 prog:=P
 w:=w
 K:=K
 mg:=mg
 base:=base
 A:=A.deeper (envOfC qual scope s.heap.objs.size f cd)
 N:=N
 s₀:=s
 H₀:=H
 env:=envOfC qual scope s.heap.objs.size f cd
 outer:=outer
 stack:=envOfC qual scope s.heap.objs.size f cd::outer
 ex:=[]
 calm:=true
 fn:=fun _=>true
 pn:=[]
 xe:=fun e s'=>wpAny (model P w) (A.deeper (envOfC qual scope s.heap.objs.size f cd)) (leaving (envOfC qual scope s.heap.objs.size f cd) e) (fun _ s''=>CX outer H s E e s'') (fun e' s''=>CX outer H s E e' s'') s'
theorem zw5{sc:Scope}{n:Nat}{x:Str}(h:sc.names.lookup x=some .cell):∃c,(cellsFrom n sc.names []).lookup x=some c:=by
 have q:=PySem.W.cellsFrom_some sc.names n [] (.inl h)
 exact Option.isSome_iff_exists.mp q
theorem q0j{CX:CXT}{P:Program}{w:World}{K:PySem.W.Frag}{mg:Str->Option Value}{base:Heap}{N ps:List Str}{qual:Str}{scope:Scope}{f:Addr}{cd:Value}{A:Around}{outer:List Env}{s s1:Shared}{H:Hp}{E:XK}{us:List Value}{vs:List V}
  (S:FnScope N ps scope) (hd:A.handled=none) (e0:Env0 P w K mg base A outer s H) (hl:vs.length=ps.length) (r:Vals vs us)
  (x:InCallC s s.heap.objs.size (bindL (envOfC qual scope s.heap.objs.size f cd).kindOf (ps.zip us) fun _=>none) (cellsFrom (s.heap.objs.size+1) scope.names []) (bindC (envOfC qual scope s.heap.objs.size f cd).kindOf (ps.zip us) fun _=>none) s1) :
  Inv (zt3 CX P w K mg base N qual scope f cd A outer s H E) [] (start N vs) H s1:=by
 have hpl:ps.length<=N.length:=by have:=congrArg List.length S.pre; rw [List.length_take] at this; omega
 obtain⟨h1,tk,rfl,hk⟩:=x.done
 have noA:∀b:Addr,b∉(zt3 CX P w K mg base N qual scope f cd A outer s H E).ex:=fun b z=>absurd (show b∈([]:List Addr) from z) (by simp)
 refine⟨⟨e0.mod,S.kind,rfl,rfl,Nat.le_refl _,fun y z c h1 h2=>?_,fun y hy=>?_,fun y c _ h=>?_,fun _=>hd,Around.frames_deeper e0.frames,.inr ⟨rfl,rfl⟩,fun b z=>absurd z (noA b),e0.bs,e0.bsz,fun b _ _=>noA b,fun b z=>absurd z (noA b),e0.funs,e0.frf⟩,
  rfl,e0.bare,Un.kept hk,⟨_,x.toInCall.ns,fun i y v h1 h2 h3=>?_⟩,fun y c h=>⟨_,x.cell y c h⟩,e0.hok.fresh (Nat.le_refl _),fun y c h=>?_,fun p hp=>absurd (show p∈([]:List (Addr×Obj)) from hp) (by simp),e0.hok.kept hk,?_⟩
 ·exact name_of_addr x.apart (PySem.mem_of_lookup h1) (PySem.mem_of_lookup h2)
 ·have hy:scope.names.lookup y=some .cell\/scope.names.lookup y=some .free:=hy
  rcases hy with hy | hy
  ·exact zw5 hy
  ·exact absurd rfl (S.nofree _ (PySem.mem_of_lookup hy))
 ·exact Nat.le_of_lt (x.above y c (PySem.mem_of_lookup h))
 ·have hi:i < vs.length:=by
   rw [zfz (by omega)] at h2
   by_cases hi:i < vs.length
   ·exact hi
   ·rw [List.getElem?_append_right (by simpa using hi)] at h2
    rw [List.getElem?_replicate] at h2
    split at h2<;>cases h2
  have ha:vs[i]?=some v:=by
   rw [zfz (by omega)] at h2
   rw [List.getElem?_append_left (by simpa using hi),List.getElem?_map] at h2
   cases e:vs[i]? with
   | none=>rw [e] at h2; cases h2
   | some a=>rw [e] at h2; cases h2; rfl
  obtain⟨u,hu,rv⟩:=r.get ha
  have hp:ps[i]?=some y:=by
   rw [<- S.pre,List.getElem?_take_of_lt (by omega)]; exact h1
  have ndP:ps.Nodup:=by rw [<- S.pre]; exact S.nd.sublist (List.take_sublist _ _)
  refine⟨u,rv,?_⟩
  rcases S.par y (List.mem_of_getElem? hp) with k | k
  ·exact .inl ⟨k,zt0 ndP hp hu k⟩
  ·obtain⟨c,e⟩:=zw5 (n:=s.heap.objs.size+1) k
   refine .inr ⟨.inl k,c,e,?_⟩
   have q:=x.cell y c e
   rw [zt2 ndP hp hu (by show scope.names.lookup y≠_; rw [k]; decide)] at q
   exact q
 ·exact e0.hok.fresh (Nat.le_of_lt (x.above y c (PySem.mem_of_lookup h)))
 ·show(start N vs).length=N.length
  rw [zfz (by omega)]
  rw [List.length_append,List.length_map,List.length_replicate]
  omega
theorem qc8{CX:CXT}{P:Program}{w:World}{K:PySem.W.Frag}{mg:Str->Option Value}{base:Heap}{k:Nat}{f:Addr}{name qual:Str}{params:Arguments}{body:List Stmt}{scope:Scope}{dV kV doc pm cdv ct oc:Value}{an od:Option Addr}
  {osl:Array (Option Value)} {N ps:List Str} {sp:Sp} (lk:K.lookup f=some ⟨oc,od,.func (PySem.W.fnOf name qual params body scope dV kV doc pm an cdv ct),osl⟩) (hcd:PySem.W.codeIn K cdv qual=true) (S:FnScope N ps scope)
  (len:∀vs H Q E,sp vs H Q E->vs.length=ps.length)
  (hbody:∀(A:Around) (outer:List Env) (s:Shared) (H:Hp) (vs:List V) (Q:VK) (E:XK),Room k (A.deeper (envOfC qual scope s.heap.objs.size f cdv))->sp vs H Q E->
   ∃t,PSs (zt3 CX P w K mg base N qual scope f cdv A outer s H E) body t/\t {nx:=fun _ H'=>Q .non H',rt:=Q} (start N vs) H) :
  FnOk P w K mg base CX (k+1) f (PySem.W.fnOf name qual params body scope dV kV doc pm an cdv ct) ps sp:=by
 refine⟨len,fun A outer s H args us vs Q E hr e0 hb r hsp=>?_⟩
 have hl:=len _ _ _ _ hsp
 have KX:K.In s.heap:=e0.mod.kin.keeps fun b o e=>(e0.bs b o e).1
 have lim:s.heap.NoLimit:=e0.mod.nolimit.keeps fun b o e=>(e0.bs b o e).1
 have hkind:∀y∈ps.zip us,scope.names.lookup y.1=some .local\/(scope.names.lookup y.1=some .cell/\((cellsFrom (s.heap.objs.size+1) scope.names []).lookup y.1).isSome=true):=fun⟨n,v⟩ hy=>by
  rcases S.par n (List.of_mem_zip hy).1 with q | q
  ·exact .inl q
  ·exact .inr ⟨q,PySem.W.cellsFrom_some _ _ _ (.inl q)⟩
 refine codeAny_call_function hr.depth (KX _ _ lk) rfl S.co S.gen rfl (PySem.W.codeRec_of KX hcd) (hb _ _ _ _ ?_)
 refine wpAny_newFunctionEnv_cells S.kind hkind fun env he s1 x=>?_
 subst he
 refine⟨lim.keeps x.toInCall.keep,codeAny_func ?_⟩
 obtain⟨t,ht,hq⟩:=hbody A outer s H vs Q E (hr.deeper _) hsp
 have I:Inv (zt3 CX P w K mg base N qual scope f cdv A outer s H E) [] (start N vs) H s1:=q0j S hr.hd e0 hl r x
 refine wpAny_mono (ht [] s1 (start N vs) H _ I hq) (fun fl s' hs=>?_) fun e s' hs=>hs
 have fin:∀{σ':St} {H':Hp} {v:V} {u:Value},Inv (zt3 CX P w K mg base N qual scope f cdv A outer s H E) [] σ' H' s'->RelV v u->Q v H'->CE outer P w H s Q u s':=
  fun {σ' H' v u} J rv q=>⟨v,H',J.os,J.bare,J.base,J.hok,rv,q⟩
 cases fl with
 | ret u=>
  obtain⟨v,σ',H',J,rv,q⟩:=hs
  exact fin J rv q
 | next=>
  obtain⟨σ',H',J,q⟩:=hs
  exact fin (v:=V.non) (u:=Value.none) J rfl q
 | brk=>
  obtain⟨_,_,_,q⟩:=hs
  exact False.elim q
 | cont=>
  obtain⟨_,_,_,q⟩:=hs
  exact False.elim q
end L2
namespace L2
open PySem PySem.Spec PyProof.Rows
section
variable{X:Cx}{x:Str}{p pos:Pos}{e:Expr}{es:List Expr}{t:TA}{id T:String}{r:List V->Hp->VK->Prop}
def tCB(r:List V->Hp->VK->Prop)(t:TA):TE:=fun σ H Q=>t σ H fun vs H1=>r vs H1 Q
theorem q37(hc:zbs X (.builtin id) r)(hg:Gl X x)(hm:X.mg x=none)(hv:bootBuiltins x=some (.builtin id))(ha:PA X (e::es) t) (hn:x≠"__name__":=by decide) (hdb:(x == ("__debug__" : Str))=false:=by decide)
  (he:starEach (e::es) X.env=(false,eval e X.env)::starEach es X.env:=by rfl) (hpl:(backTo pos (starEach es X.env)).any (·.1)=false:=by rfl):PE X (.Call (.Name x p) (e::es) [] pos) (tCB r t):=by
 refine⟨?_⟩
 intro pins s σ H Q I h
 refine wpAny_Call_Name_kw (zov I hg hm hv ?_ hn hdb)
 exact PyProof.Rows.callWith_builtin1 (thn (ha pos pins s σ H _ I h) fun us s1 ⟨vs,H1,I1,r1,q1⟩=>hc pins s1 σ H1 vs us Q I1 r1 q1) he hpl
theorem zzo(hc:zbs X (.type T) r)(hg:Gl X x)(hm:X.mg x=none)(hv:bootBuiltins x=some (.type T))(ha:PA X (e::es) t) (hn:x≠"__name__":=by decide) (hdb:(x == ("__debug__" : Str))=false:=by decide)
  (he:starEach (e::es) X.env=(false,eval e X.env)::starEach es X.env:=by rfl) (hpl:(backTo pos (starEach es X.env)).any (·.1)=false:=by rfl):PE X (.Call (.Name x p) (e::es) [] pos) (tCB r t):=by
 refine⟨?_⟩
 intro pins s σ H Q I h
 refine wpAny_Call_Name_kw (zov I hg hm hv ?_ hn hdb)
 exact PyProof.Rows.callWith_type1 (thn (ha pos pins s σ H _ I h) fun us s1 ⟨vs,H1,I1,r1,q1⟩=>hc pins s1 σ H1 vs us Q I1 r1 q1) he hpl
end
end L2
namespace HT
open PySem PyProof.Rows
def zd2:List Int->List Int->Bool
 | [],[]=>false
 | [],_::_=>true
 | _::_,[]=>false
 | x::xs,y::ys=>if x=y then zd2 xs ys else decide (x < y)
theorem zxj(x y:Int)(xs ys:List Int):zd2 (x::xs) (y::ys)=if x=y then zd2 xs ys else decide (x < y):=rfl
theorem zpu:zd2 [] []=false:=rfl
theorem zo5(y:Int)(ys:List Int):zd2 [] (y::ys)=true:=rfl
theorem zo6(x:Int)(xs:List Int):zd2 (x::xs) []=false:=rfl
theorem q41(A:Around)(s:Shared)(a:Int)(t:Tok)(c:Int)(u:Tok):∃e,SeqAt.EqAt A s (.int a t) (.int c u) e/\(e=true↔a=c):=
 ⟨(a == c),SeqAt.EqAt.int_int a t c u,by simp⟩
theorem q2q(A:Around)(s:Shared)(a:Int)(t:Tok)(c:Int)(u:Tok)(prog:Program)(w:World)(E:Value->Shared->Prop)(Q:Value->Shared->Prop)(h:Q (.bool (decide (a < c))) s) :
  wpAny (model prog w) A (richCompare .Lt (.int a t) (.int c u)) Q E s:=
 (PyProof.Rows.lt_int h:wpAny (model prog w) A (compareOp .Lt (.int a t) (.int c u)) Q E s)
section
open PySem.SeqAt
open PySem.AutoSeq1 (wpAny_loadPart')
open PySem.MeetsSeq PySem.MeetsSeq2 PySem.MeetsSeq3
theorem zp6(l b:Addr)(items items2:Array Value)(n n2:Nat)(dd dd2:Option Addr)(sl sl2:Array (Option Value))(ns ms:List Int)(hi:IntsAre items.toList ns)(hj:IntsAre items2.toList ms) :
  Meets (Builtin.«tuple.__lt__» ⟨[.ref l,.ref b],[]⟩)
   (fun _ R s=>s.heap.get? l=some {cls:=.type "tuple",dict:=dd,data:=.seq items n,slots:=sl}/\s.heap.get? b=some {cls:=.type "tuple",dict:=dd2,data:=.seq items2 n2,slots:=sl2}/\
    R (.ok (.ret (.bool (zd2 ns ms)))) s):=
 .of_wp fun prog w A R s h=>by
  obtain⟨hp,g,d,tk,os⟩:=s; obtain⟨hl,hb,h⟩:=h
  have f2:=AutoSeq1.sub_tuple_tuple
  have z1:items.size=ns.length:=by rw [<- hi.length]; simp
  have z2:items2.size=ms.length:=by rw [<- hj.length]; simp
  wp_walk using wpAny_loadPart' hl,wpAny_loadPart' hb,wpAny_forIn_list _ (fun zr7 b s'=>b.1=none/\s'=⟨hp,g,d,tk,os⟩/\∃(vs ws:List Value) (ns' ms':List Int),zr7=vs.zip ws/\
   IntsAre vs ns'/\IntsAre ws ms'/\ns'.length+items2.size=ms'.length+items.size/\R (.ok (.ret (.bool (zd2 ns' ms')))) ⟨hp,g,d,tk,os⟩) _
  case turn=>
   rintro⟨y,x⟩ zr7 b s' ⟨hb',rfl,vs,ws,ns',ms',hz,hvi,hwi,hlen,hR⟩
   cases hvi with
   | nil=>rw [List.zip_nil_left] at hz; cases hz
   | cons a t hvi'=>
    cases hwi with
    | nil=>rw [List.zip_nil_right] at hz; cases hz
    | cons c u hwi'=>
     rw [List.zip_cons_cons] at hz
     injection hz with hyx hrest
     injection hyx with hy hx
     subst hy hx
     rw [zxj] at hR
     simp only[List.length_cons] at hlen
     obtain⟨e,he,hiff⟩:=q41 A.in1 ⟨hp,g,d,tk,os⟩ a t c u
     refine wpAny_bind (he prog w _ _ ?_)
     cases e with
     | true=>
      rw [if_pos (hiff.mp rfl)] at hR
      wp_walk
      exact⟨rfl,rfl,_,_,_,_,hrest,hvi',hwi',by omega,hR⟩
     | false=>
      rw [if_neg (fun q=>absurd (hiff.mpr q) Bool.false_ne_true)] at hR
      have hri:=q2q A.in1 ⟨hp,g,d,tk,os⟩ a t c u prog w
      wp_walk using hri
      exact⟨_,rfl,by simpa using hR⟩
  case fin=>
   rintro⟨b1,b2⟩ s' ⟨hb',rfl,vs,ws,ns',ms',hz,hvi,hwi,hlen,hR⟩
   simp only at hb'
   subst hb'
   have hv:zd2 ns' ms'=decide (items.size < items2.size):=by
    cases hvi with
    | nil=>
     cases hwi with
     | nil=>
      simp only[List.length_nil] at hlen
      rw [zpu]
      exact(decide_eq_false (by omega)).symm
     | cons c u hw=>
      simp only[List.length_nil,List.length_cons] at hlen
      rw [zo5]
      exact(decide_eq_true (by omega)).symm
    | cons a t hv=>
     cases hwi with
     | nil=>
      simp only[List.length_nil,List.length_cons] at hlen
      rw [zo6]
      exact(decide_eq_false (by omega)).symm
     | cons c u hw=>
      rw [List.zip_cons_cons] at hz
      cases hz
   rw [hv] at hR
   wp_walk
   exact⟨_,rfl,by simpa [Builtin.Tuple.tupleCompareSizes] using hR⟩
  case h=>
   exact⟨rfl,rfl,items.toList,items2.toList,ns,ms,rfl,hi,hj,by omega,h⟩
end
section
variable{prog:Program}{w:World}{A:Around}{E:Value->Shared->Prop}{s:Shared}
theorem zxi{l b:Addr}{items items2:Array Value}{ns ms:List Int}{Q:Value->Shared->Prop}(hl:IsTup s.heap l items)(hb:IsTup s.heap b items2)(hi:IntsAre items.toList ns)(hj:IntsAre items2.toList ms)
  (hu:A.units < cLine) (h:Q (.bool (zd2 ns ms)) s):wpAny (model prog w) A (compareOp .Lt (.ref l) (.ref b)) Q E s:=by
 obtain⟨⟨cls,dd,data,sl⟩,ho,hc,n,hd⟩:=id hl
 obtain⟨⟨cls2,dd2,data2,sl2⟩,ho2,hc2,n2,hd2⟩:=id hb
 simp only at hc hd hc2 hd2
 subst hc hd hc2 hd2
 exact richCompare_meets_room (op:=.Lt) ⟨_,ho,rfl⟩ ⟨_,ho2,rfl⟩ PySem.F.slot_tuple_lt PySem.F.entry_tuple_lt (PySem.F.args_tuple_lt_2 _ _) (zp6 l b items items2 n n2 dd dd2 sl sl2 ns ms hi hj)
  ⟨ho,ho2,show Value.bool (zd2 ns ms)≠Value.notImplemented/\Q (.bool (zd2 ns ms)) s from⟨(fun x=>nomatch x),h⟩⟩ hu
theorem q7p{t b:Addr}{vs ws:List Value}{Q:Value->Shared->Prop}(ht:IsTup s.heap t vs.toArray)(hb:IsTup s.heap b ws.toArray)(hv:vs≠[])
  (h1:ws=[]->Q (.ref t) s) (h2:ws≠[]->Q (.ref s.heap.objs.size) {s with heap:=s.heap.push {cls:=.type "tuple",data:=.seq (vs++ws).toArray}})
  (hsz:vs.length+ws.length<=sizeLine):wpAny (model prog w) A (binaryOp .Add (.ref t) (.ref b)) Q E s:=by
 obtain⟨⟨cls,dd,data,sl⟩,ho,hc,n,hd⟩:=id ht
 obtain⟨⟨cls2,dd2,data2,sl2⟩,ho2,hc2,n2,hd2⟩:=id hb
 simp only at hc hd hc2 hd2
 subst hc hd hc2 hd2
 have e:vs.toArray++ws.toArray=(vs++ws).toArray:=by simp
 by_cases hw:ws=[]
 ·exact concat_meets ⟨_,ho,rfl⟩ ⟨_,ho2,rfl⟩ noFill_tuple_add seq_tuple_add PySem.F.slot_tuple_add PySem.F.entry_tuple_add (PySem.F.args_tuple_add_2 _ _)
   (tuple_addW1 t b vs.toArray ws.toArray n n2 dd dd2 sl sl2 (by simpa using hv) (by simp[hw])) ⟨ho,ho2,h1 hw⟩
 ·refine concat_meets ⟨_,ho,rfl⟩ ⟨_,ho2,rfl⟩ noFill_tuple_add seq_tuple_add PySem.F.slot_tuple_add PySem.F.entry_tuple_add (PySem.F.args_tuple_add_2 _ _)
   (tuple_addW2 t b vs.toArray ws.toArray n n2 dd dd2 sl sl2 (by simpa using hv) (by simpa using hw) (by rw [List.size_toArray,List.size_toArray]; exact hsz)) ⟨ho,ho2,?_⟩
  rw [e]
  exact h2 hw
def sIx(n d:Nat):Option Int->Nat
 | none=>d
 | some v=>if v < 0 then(v+(n:Int)).toNat else min v.toNat n
theorem q2k(n d:Nat):sIx n d none=d:=rfl
theorem zzc(n d k:Nat):sIx n d (some (k:Int))=min k n:=by
 show(if(k:Int) < 0 then((k:Int)+(n:Int)).toNat else min (k:Int).toNat n)=min k n
 rw [if_neg (by omega),Int.toNat_natCast]
theorem q8q(n d:Nat)(hd:d<=n)(o:Option Int):sIx n d o<=n:=by
 cases o with
 | none=>exact hd
 | some v=>
  show(if v < 0 then(v+(n:Int)).toNat else min v.toNat n)<=n
  by_cases hv:v < 0
  ·rw [if_pos hv]; omega
  ·rw [if_neg hv]; exact Nat.min_le_right _ _
theorem q1n(v:Int)(n d:Nat):(if v < 0 then max (v+(n:Int)) 0 else min v (n:Int))=((sIx n d (some v):Nat):Int):=by
 show(if v < 0 then max (v+(n:Int)) 0 else min v (n:Int))=(((if v < 0 then(v+(n:Int)).toNat else min v.toNat n):Nat):Int)
 by_cases hv:v < 0
 ·simp only[if_pos hv]; omega
 ·simp only[if_neg hv]; omega
theorem zy5(lo hi:Option Int)(n:Nat):Builtin.Slice.sliceAdjust lo hi 1 (n:Int)=(((sIx n 0 lo:Nat):Int),((sIx n n hi:Nat):Int)):=by
 have h1:¬ ((1:Int) < 0):=by omega
 unfold Builtin.Slice.sliceAdjust
 simp only[h1,if_false]
 refine Prod.ext ?_ ?_
 ·cases lo with
  | none=>rfl
  | some v=>exact q1n v n 0
 ·cases hi with
  | none=>rfl
  | some v=>exact q1n v n n
theorem zx0(i j:Nat):Builtin.Slice.slicePlaces (i:Int) (j:Int) 1=j - i:=by
 unfold Builtin.Slice.slicePlaces
 have h1:(1:Int) > 0:=by omega
 simp only[h1,if_true,Int.ediv_one]
 split<;>omega
theorem zon{v:Value}{o:Option Int}{Q:Option Int->Shared->Prop}(p:IsPart v o)(h:Q o s):wpAny (model prog w) A (Builtin.Slice.slicePartIndex v) Q E s:=by
 cases p with
 | none=>exact slicePart_none h
 | int i t=>exact slicePart_int h
theorem zbx{sl:Addr}{vl vu:Value}{lo hi:Option Int}{n:Nat}{Q:Int×Int×Nat->Shared->Prop}(hs:s.heap.IsSliceOf sl vl vu .none)(pl:IsPart vl lo)(pu:IsPart vu hi)
  (h:Q (((sIx n 0 lo:Nat):Int),1,sIx n n hi - sIx n 0 lo) s):wpAny (model prog w) A (Builtin.Slice.sliceApplied (.ref sl) (pure (n:Int))) Q E s:=by
 obtain⟨os,hos,hcs,hds⟩:=id hs
 unfold Builtin.Slice.sliceApplied Builtin.Slice.sliceFields
 refine wpAny_bind (wpAny_bind (wpAny_field hos hds (x:=vl) rfl (wpAny_bind (wpAny_field hos hds (x:=vu) rfl (wpAny_bind (wpAny_field hos hds (x:=.none) rfl (wpAny_pure ?_)))))))
 refine wpAny_bind (slicePart_none ?_)
 show wpAny _ _ (if((1:Int) == 0)=true then _ else _) _ _ s
 rw [if_neg (by decide)]
 refine wpAny_bind (zon pl (wpAny_bind (zon pu (wpAny_bind (wpAny_pure ?_)))))
 show wpAny _ _ (match Builtin.Slice.sliceAdjust lo hi 1 (n:Int) with | (lo,hi)=>pure (lo,(1:Int),Builtin.Slice.slicePlaces lo hi 1)) _ _ s
 rw [zy5 lo hi n]
 show wpAny _ _ (pure (((sIx n 0 lo:Nat):Int),(1:Int),Builtin.Slice.slicePlaces ((sIx n 0 lo:Nat):Int) ((sIx n n hi:Nat):Int) 1)) _ _ s
 rw [zx0]
 exact wpAny_pure h
theorem q32(xs:Array Value)(i k:Nat):((List.range k).filterMap fun(m:Nat)=>xs[((i:Int)+(m:Int) * 1).toNat]?).toArray=((xs.toList.drop i).take k).toArray:=by
 have e:(fun(m:Nat)=>xs[((i:Int)+(m:Int) * 1).toNat]?)=fun m=>xs[i+m]?:=by
  funext m
  have:((i:Int)+(m:Int) * 1).toNat=i+m:=by omega
  rw [this]
 rw [e]
 have:=pick_run xs i k
 rw [List.filterMap_map] at this
 have e2:((fun x=>xs[x]?) ∘ fun x=>i+x)=fun m=>xs[i+m]?:=rfl
 rw [e2] at this
 rw [this]
theorem zis{t sl:Addr}{items:Array Value}{vl vu:Value}{lo hi:Option Int}{Q:Value->Shared->Prop}(ht:IsTup s.heap t items)(hs:s.heap.IsSliceOf sl vl vu .none)(pl:IsPart vl lo)(pu:IsPart vu hi)
  (hw:¬ (sIx items.size 0 lo=0/\sIx items.size items.size hi=items.size))
  (h:Q (.ref s.heap.objs.size) {s with heap:=s.heap.push {cls:=.type "tuple",data:=.seq ((items.toList.drop (sIx items.size 0 lo)).take (sIx items.size items.size hi - sIx items.size 0 lo)).toArray}})
  (hsz:items.size<=sizeLine):wpAny (model prog w) A (getItem (.ref t) (.ref sl)) Q E s:=by
 have htake:sizeOk (.seq ((items.toList.drop (sIx items.size 0 lo)).take (sIx items.size items.size hi - sIx items.size 0 lo)).toArray):=by
  show((items.toList.drop (sIx items.size 0 lo)).take (sIx items.size items.size hi - sIx items.size 0 lo)).toArray.size<=sizeLine
  rw [List.size_toArray,List.length_take,List.length_drop,Array.length_toList]
  omega
 have hj:sIx items.size items.size hi<=items.size:=q8q _ _ (Nat.le_refl _) hi
 obtain⟨os,hos,hcs,hds⟩:=id hs
 have hTs:s.TypeIs (.ref sl) "slice":=⟨os,hos,hcs⟩
 unfold getItem
 try with_reducible refine wpAny_holding ?_
 first | refine wpAny_bind (wpAny_pure ?_) | skip
 refine wpAny_bind (wpAny_sequenceKey ht.typeIs (by decide) ?_)
 refine wpAny_bind (wpAny_callSpecial?_slot (name:=Str.ofString "__getitem__") ht.typeIs PyProof.Rows.slot_tuple_getitem
  (wpAny_call_entry PyProof.Rows.slot_tuple_getitem ht.typeIs entry_tuple_getitem ?_ (args_tuple_getitem _ _)))
 show wpAny _ _ (Builtin.Tuple.tupleItemsOf (.ref t) >>= _) _ _ s
 refine wpAny_bind (tupleItemsOf_ ht ?_)
 refine wpAny_bind (wpAny_typeOf hTs ?_)
 rw [if_pos (by decide)]
 refine wpAny_bind (zbx hs pl pu ?_)
 have hno:¬ ((((sIx items.size 0 lo:Nat):Int) == 0 && (1:Int) == 1 && (sIx items.size items.size hi - sIx items.size 0 lo) == items.size)=true):=by
  intro q
  rw [Bool.and_eq_true,Bool.and_eq_true] at q
  have q1:((sIx items.size 0 lo:Nat):Int)=0:=eq_of_beq q.1.1
  have q2:sIx items.size items.size hi - sIx items.size 0 lo=items.size:=eq_of_beq q.2
  exact hw ⟨by omega,by omega⟩
 show wpAny _ _ (if(((sIx items.size 0 lo:Nat):Int) == 0 && (1:Int) == 1 && (sIx items.size items.size hi - sIx items.size 0 lo) == items.size)=true then _ else _) _ _ s
 rw [if_neg hno,q32]
 first
  | exact wpAny_bind (m:=Builtin.Tuple.tupleExact _) (wpAny_newObj_type (wpAny_pure ⟨_,rfl,wpAny_pure h⟩) htake)
  | exact wpAny_bind (m:=Builtin.Tuple.tupleExact _) (wpAny_newObj_type (wpAny_bind (wpAny_pure (wpAny_pure ⟨_,rfl,wpAny_pure h⟩))) htake)
  | exact wpAny_bind (wpAny_bind (m:=Builtin.Tuple.tupleExact _) (wpAny_newObj_type (wpAny_pure (wpAny_pure ⟨_,rfl,wpAny_pure h⟩)) htake))
  | exact wpAny_bind (wpAny_bind (m:=Builtin.Tuple.tupleExact _) (wpAny_newObj_type (wpAny_pure ⟨_,rfl,wpAny_pure h⟩) htake))
end
end HT
namespace L2
open PySem PySem.Spec PyProof.Rows
abbrev TO:=St->Hp->(Option Int->Hp->Prop)->Prop
abbrev POv(X:Cx)(e:Option Expr)(t:TO):Prop:=
 ∀(pins:List (Addr×Obj)) (s:Shared) (σ : St) (H:Hp) (Q:Option Int->Hp->Prop),Inv X pins σ H s->t σ H Q->
  wpAny (model X.prog X.w) X.A (evalPart e X.env) (fun u s'=>∃o H',Inv X pins σ H' s'/\IsPart u o/\Q o H') X.xe s
structure PO(X:Cx)(e:Option Expr)(t:TO):Prop where
 run:POv X e t
instance{X:Cx}{e:Option Expr}{t:TO}:CoeFun (PO X e t) (fun _=>POv X e t):=⟨PO.run⟩
def zp8:TO:=fun _ H Q=>Q none H
def q24(t:TE):TO:=fun σ H Q=>t σ H fun x H1=>isI x fun i=>Q (some i) H1
theorem zds{ns:List Int}:∀{us:List Value},Vals (ns.map V.int) us->IntsAre us ns:=by
 induction ns with
 | nil=>intro us r; rw [List.map_nil] at r; cases r; exact .nil
 | cons n ns ih=>
  intro us r
  rw [List.map_cons] at r
  cases r with
  | cons r1 r2=>
   obtain⟨t,e⟩:=r1
   subst e
   exact .cons n t (ih r2)
section
variable{X:Cx}{e:Expr}{te:TE}{lo hi:Option Expr}{tl th:TO}{pos p2:Pos}
theorem zzl:PO X none zp8:=by
 refine⟨?_⟩
 intro pins s σ H Q I h
 rw [evalPart_none]
 exact wpAny_pure ⟨none,H,I,.none,h⟩
theorem zzk(h:PE X e te):PO X (some e) (q24 te):=by
 refine⟨?_⟩
 intro pins s σ H Q I hw
 rw [evalPart_some]
 refine thn (h pins s σ H _ I hw) fun u s1 ⟨x,H1,I1,r1,q1⟩=>?_
 obtain⟨i,rfl,q⟩:=isI.o q1
 obtain⟨t,rfl⟩:=r1
 exact⟨some i,H1,I1,.int i t,q⟩
def SlR(X:Cx)(r:V->Option Int->Option Int->Hp->VK->Prop):Prop:=
 ∀(pins:List (Addr×Obj)) (s:Shared) (σ : St) (H:Hp) (x:V) (v vl vu:Value) (lo hi:Option Int) (sl:Addr) (Q:VK),Inv X pins σ H s->RelV x v->s.heap.IsSliceOf sl vl vu .none->IsPart vl lo->IsPart vu hi->r x lo hi H Q->
  ∃T id,typeLookup (.type T) "__getitem__" = pure (some (.builtin id))/\s.TypeIs v T/\wpAny (model X.prog X.w) X.A (getItem v (.ref sl)) (EP X pins σ Q) X.xe s
def tSl(r:V->Option Int->Option Int->Hp->VK->Prop)(te:TE)(tl th:TO):TE:=fun σ H Q=>te σ H fun x H1=>tl σ H1 fun l H2=>th σ H2 fun u H3=>r x l u H3 Q
theorem zva{r:V->Option Int->Option Int->Hp->VK->Prop}(hr:SlR X r)(he:PE X e te)(hl:PO X lo tl)(hu:PO X hi th):PE X (.Subscript e (.Slice lo hi none p2) pos) (tSl r te tl th):=by
 refine⟨?_⟩
 intro pins s σ H Q I h
 refine Subscript_ (thn (he pins s σ H _ I h) fun v s1 ⟨x,H1,I1,r1,q1⟩=>?_)
 refine wpAny_Slice (thn (hl pins s1 σ H1 _ I1 q1) fun vl s2 ⟨l,H2,I2,pl,q2⟩=>thn (hu pins s2 σ H2 _ I2 q2) fun vu s3 ⟨u,H3,I3,pu,q3⟩=>?_)
 rw [evalPart_none]
 refine wpAny_pure ?_
 have I4:Inv X pins σ H3 {s3 with heap:=s3.heap.push {cls:=.type "slice",data:=.fields #[vl,vu,.none]}}:=I3.kept (t':=s3.toks) fun b ob q=>Heap.get?_push_of_some _ q
 obtain⟨T,id,hT,ht,hg⟩:=hr pins {s3 with heap:=s3.heap.push {cls:=.type "slice",data:=.fields #[vl,vu,.none]}} σ H3 x v vl vu l u s3.heap.objs.size Q I4 r1 (Heap.IsSliceOf.new ..) pl pu q3
 show wpAny (model X.prog X.w) X.A (subscriptTail e (.Slice lo hi none p2) v (.ref s3.heap.objs.size)) (EP X pins σ Q) X.xe {s3 with heap:=s3.heap.push {cls:=.type "slice",data:=.fields #[vl,vu,.none]}}
 exact tail_any (ops:=[.ref s3.heap.objs.size,v]) ht hT hg (by with_unfolding_all rfl)
def q1h(xs:List V)(lo hi:Option Int):List V:=(xs.drop (HT.sIx xs.length 0 lo)).take (HT.sIx xs.length xs.length hi - HT.sIx xs.length 0 lo)
theorem zuj(xs:List V)(lo hi:Option Int):(q1h xs lo hi).length<=xs.length:=by
 unfold q1h
 rw [List.length_take,List.length_drop]
 omega
def qat(K:PySem.W.Frag):V->Option Int->Option Int->Hp->VK->Prop:=fun x lo hi H Q=>∃a xs,x=.ref a/\SqT K H a xs/\
 ¬ (HT.sIx xs.length 0 lo=0/\HT.sIx xs.length xs.length hi=xs.length)/\∀p,H p=none->Q (.ref p) (upd H p (.tup (q1h xs lo hi)))
theorem q8n:SlR X (qat X.K):=by
 intro pins s σ H x v vl vu lo hi sl Q I rx hs pl pu h
 obtain⟨a,xs,rfl,hx,hw,q⟩:=h
 cases rx
 obtain⟨its,r,ht,hz⟩:=I.tuple hx
 have hlen:its.toArray.size=xs.length:=by rw [List.size_toArray]; exact r.length.symm
 refine⟨"tuple",_,PyProof.Rows.slot_tuple_getitem.lookup,ht.typeIs,?_⟩
 refine HT.zis ht hs pl pu (by rw [hlen]; exact hw) ?_ (by rw [hlen]; exact hz)
 rw [hlen]
 refine⟨.ref s.heap.objs.size,_,I.laid (t':=s.toks) (o:=.tup (q1h xs lo hi)) (fun b ob q=>Heap.get?_push_of_some _ q) (Nat.le_refl _) ?_,rfl,q _ (I.hok.fresh (Nat.le_refl _))⟩
 exact⟨Nat.le_trans (zuj xs lo hi) hz,_,(r.drop (HT.sIx xs.length 0 lo)).take (HT.sIx xs.length xs.length hi - HT.sIx xs.length 0 lo),IsTup.new _ _⟩
def qcy(K:PySem.W.Frag):R2:=fun x y H Q=>∃a b ns ms,x=.ref a/\y=.ref b/\SqT K H a (ns.map V.int)/\SqT K H b (ms.map V.int)/\Q (.bl (HT.zd2 ns ms)) H
theorem q97(hu:X.A.units < cLine):OpR X (compareOp .Lt) (qcy X.K):=by
 intro pins s σ H x y v u Q I rx ry h
 obtain⟨a,b,ns,ms,rfl,rfl,ha,hb,q⟩:=h
 cases rx
 cases ry
 obtain⟨its,r1,p1,_⟩:=I.tuple ha
 obtain⟨its2,r2,p2,_⟩:=I.tuple hb
 have i1:IntsAre its.toArray.toList ns:=zds r1
 have i2:IntsAre its2.toArray.toList ms:=zds r2
 exact HT.zxi p1 p2 i1 i2 hu ⟨.bl (HT.zd2 ns ms),H,I,rfl,q⟩
def qbo(K:PySem.W.Frag):R2:=fun x y H Q=>∃a b xs ys,x=.ref a/\y=.ref b/\SqT K H a xs/\SqT K H b ys/\xs≠[]/\xs.length+ys.length<=sizeLine/\
 (ys=[]->Q (.ref a) H)/\(ys≠[]->∀p,H p=none->Q (.ref p) (upd H p (.tup (xs++ys))))
theorem Vals.nil_iff{xs:List V}{us:List Value}(r:Vals xs us):us=[]↔xs=[]:=by
 cases r with
 | nil=>simp
 | cons _ _=>simp
theorem q6u:OpR X (binaryOp .Add) (qbo X.K):=by
 intro pins s σ H x y v u Q I rx ry h
 obtain⟨a,b,xs,ys,rfl,rfl,ha,hb,hx,hz,q1,q2⟩:=h
 cases rx
 cases ry
 obtain⟨its,r1,p1,_⟩:=I.tuple ha
 obtain⟨its2,r2,p2,_⟩:=I.tuple hb
 refine HT.q7p p1 p2 (fun z=>hx (r1.nil_iff.mp z)) (fun z=>⟨.ref a,H,I,rfl,q1 (r2.nil_iff.mp z)⟩) (fun z=>?_) (by rw [<- r1.length,<- r2.length]; exact hz)
 refine⟨.ref s.heap.objs.size,_,I.laid (t':=s.toks) (o:=.tup (xs++ys)) (fun b ob q=>Heap.get?_push_of_some _ q) (Nat.le_refl _) ?_,rfl,q2 (fun w=>z (r2.nil_iff.mpr w)) _ (I.hok.fresh (Nat.le_refl _))⟩
 exact⟨by rw [List.length_append]; exact hz,_,r1.append r2,IsTup.new _ _⟩
end
end L2
namespace L2
open PySem PySem.Spec PyProof.Rows
def ixN(n:Nat)(i:Int):Option Nat:=if 0<=i then(if i < n then some i.toNat else none) else if -(n:Int)<=i then some (i+n).toNat else none
def atI{α : Type}(xs:List α)(i:Int):Option α:=(ixN xs.length i).bind fun j=>xs[j]?
theorem q75{n:Nat}{i:Int}{j:Nat}(h:ixN n i=some j):seqIndex? i n=some j/\j < n/\-(n:Int)<=i/\i < n:=by
 unfold ixN at h
 by_cases h0:0<=i
 ·rw [if_pos h0] at h
  by_cases h1:i < n
  ·rw [if_pos h1] at h
   have e:i.toNat=j:=Option.some.inj h
   exact⟨by rw [seqIndex_of h0 h1,e],by omega,by omega,h1⟩
  ·rw [if_neg h1] at h; cases h
 ·rw [if_neg h0] at h
  by_cases h1 : -(n:Int)<=i
  ·rw [if_pos h1] at h
   have e:(i+n).toNat=j:=Option.some.inj h
   exact⟨by rw [seqIndex_neg (by omega) h1,e],by omega,h1,by omega⟩
  ·rw [if_neg h1] at h; cases h
theorem zuu{α : Type}{xs:List α}{i:Int}{v : α}(h:atI xs i=some v):∃j,seqIndex? i xs.length=some j/\xs[j]?=some v/\j < xs.length/\-(xs.length:Int)<=i/\i < xs.length:=by
 unfold atI at h
 cases e:ixN xs.length i with
 | none=>rw [e] at h; cases h
 | some j=>
  rw [e] at h
  obtain⟨h1,h2,h3,h4⟩:=q75 e
  exact⟨j,h1,h,h2,h3,h4⟩
theorem z7x{α : Type}{xs:List α}{j:Nat}{v : α}(h:xs[j]?=some v):atI xs (j:Int)=some v:=by
 have hj:j < xs.length:=(List.getElem?_eq_some_iff.mp h).1
 have e:ixN xs.length (j:Int)=some j:=by
  unfold ixN
  rw [if_pos (by omega),if_pos (by omega)]; simp
 unfold atI; rw [e]; exact h
def q80(b:Expr):Prop:=∀o i,subscripted b false o i=operate [o,i] (getItem o i)
def IxR(X:Cx)(r:R2):Prop:=
 ∀(value slice:Expr) (pins:List (Addr×Obj)) (s:Shared) (σ : St) (H:Hp) (x y:V) (v u:Value) (Q:VK),Inv X pins σ H s->RelV x v->RelV y u->r x y H Q->
  subscripted slice false v u=operate [v,u] (getItem v u)->wpAny (model X.prog X.w) X.A (subscriptTail value slice v u) (EP X pins σ Q) X.xe s
def MtR(X:Cx)(id:String)(r:V->List V->Hp->VK->Prop):Prop:=
 ∀(pins:List (Addr×Obj)) (s:Shared) (σ : St) (H:Hp) (x:V) (xs:List V) (v:Value) (us:List Value) (Q:VK),Inv X pins σ H s->RelV x v->Vals xs us->r x xs H Q->
  wpAny (model X.prog X.w) X.A (call (.builtin id) (v::us)) (EP X pins σ Q) X.xe s
section
variable{X:Cx}{a b:Expr}{ta tb:TE}{pos:Pos}
theorem IxR.or{r r':R2}(h:IxR X r)(h':IxR X r'):IxR X (fun x y H Q=>r x y H Q\/r' x y H Q):=by
 intro value slice pins s σ H x y v u Q I rx ry q hs
 rcases q with q | q
 ·exact h value slice pins s σ H x y v u Q I rx ry q hs
 ·exact h' value slice pins s σ H x y v u Q I rx ry q hs
theorem z0i{r:R2}(hr:IxR X r)(ha:PE X a ta)(hb:PE X b tb)(hs:q80 b):PE X (.Subscript a b pos) (tOp r ta tb):=by
 refine⟨?_⟩
 intro pins s σ H Q I h
 exact Subscript_ (qce ha hb I h fun v u s2 x y H2 I2 rx ry q=>hr a b pins s2 σ H2 x y v u Q I2 rx ry q (hs _ _))
def q8w(K:PySem.W.Frag):R2:=fun x y H Q=>isRf x fun p=>∃xs,isI y fun i=>SqL K H p xs/\∃v,atI xs i=some v/\Q v H
def zwz(K:PySem.W.Frag):R2:=fun x y H Q=>isRf x fun p=>∃xs,isI y fun i=>SqT K H p xs/\∃v,atI xs i=some v/\Q v H
def q8v:R2:=fun x y H Q=>∃z i c,x=.str z/\y=.int i/\z.length<=sizeLine/\atI z.cps.toList i=some c/\Q (.str ⟨#[c]⟩) H
theorem ix_list:IxR X (q8w X.K):=by
 intro value slice pins s σ H x y v u Q I rx ry h hs
 obtain⟨p,rfl,xs,hA⟩:=isRf.o h
 obtain⟨i,rfl,hq,z,he,q⟩:=isI.o hA
 cases rx
 obtain⟨t,rfl⟩:=ry
 obtain⟨its,r,pl,hz⟩:=I.list hq
 obtain⟨j,h1,h2,h3,h4,h5⟩:=zuu he
 obtain⟨w,ew,rw'⟩:=r.get h2
 have hl:=r.length
 have hn:=zrr
 have fin:EP X pins σ Q w s:=⟨z,H,I,rw',q⟩
 by_cases h0:0<=i
 ·have hj:i.toNat=j:=by
   rw [seqIndex_of h0 h5] at h1
   exact Option.some.inj h1
  exact item_listR pl.isList h0 (by omega) (by rw [hj]; simpa using ew) fin hs
 ·have hj:(i+(its.toArray.size:Int)).toNat=j:=by
   rw [seqIndex_neg (by omega) h4] at h1
   rw [List.size_toArray,<- hl]
   exact Option.some.inj h1
  exact subscriptTail_builtinR (x:=w) pl.isList.typeIs slot_list_getitem.lookup
   (wpAny_getItem_list_neg (Q:=fun r s'=>r=w/\EP X pins σ Q r s') pl.isList (by omega) (by rw [List.size_toArray]<;>omega) (by omega) (by rw [hj]; simpa using ew) ⟨rfl,fin⟩) hs
theorem ix_tup:IxR X (zwz X.K):=by
 intro value slice pins s σ H x y v u Q I rx ry h hs
 obtain⟨p,rfl,xs,hA⟩:=isRf.o h
 obtain⟨i,rfl,hq,z,he,q⟩:=isI.o hA
 cases rx
 obtain⟨t,rfl⟩:=ry
 obtain⟨its,r,pl,hz⟩:=I.tuple hq
 obtain⟨j,h1,h2,h3,h4,h5⟩:=zuu he
 obtain⟨w,ew,rw'⟩:=r.get h2
 have hl:=r.length
 have hn:=zrr
 have fin:EP X pins σ Q w s:=⟨z,H,I,rw',q⟩
 exact subscriptTail_builtinR (x:=w) pl.typeIs slot_tuple_getitem.lookup
  (getItem_tuple (j:=j) (Q:=fun r s'=>r=w/\EP X pins σ Q r s') pl (by omega) (by omega) (by rw [List.size_toArray,<- hl]; exact h1) (by simpa using ew) ⟨rfl,fin⟩) hs
theorem q9o:IxR X q8v:=by
 intro value slice pins s σ H x y v u Q I rx ry h hs
 obtain⟨z,i,c,rfl,rfl,hz,he,q⟩:=h
 obtain⟨t,rfl⟩:=rx
 obtain⟨t',rfl⟩:=ry
 obtain⟨j,h1,h2,h3,h4,h5⟩:=zuu he
 have hl:z.cps.toList.length=z.length:=by simp[Str.length]
 rw [hl] at h1 h4 h5
 have hn:=zrr
 exact tail_any (typeIs_str s z t) slot_str_getitem.lookup (getItem_str (c:=c) (by
  have e1:decide (i < -(2 ^ 63:Int))=false:=decide_eq_false (by omega)
  have e2:decide (i ≥ 2 ^ 63)=false:=decide_eq_false (by omega)
  rw [e1,e2,Bool.or_false]) (by rw [h1]; simpa using h2) ⟨.str ⟨#[c]⟩,H,I.tok _,⟨_,rfl⟩,q⟩) hs
def rIx(K:PySem.W.Frag):R2:=fun x y H Q=>q8w K x y H Q\/zwz K x y H Q\/q8v x y H Q
theorem q9p:IxR X (rIx X.K):=ix_list.or (ix_tup.or q9o)
theorem Inv.lst{pins:List (Addr×Obj)}{σ : St}{H:Hp}{s:Shared}{p:Addr}{xs:List V}(I:Inv X pins σ H s)(h:H p=some (.lst xs)) :
  ∃(its:List Value) (n:Nat),Vals xs its/\s.heap.get? p=some {cls:=.type "list",data:=.seq its.toArray n}/\xs.length<=sizeLine:=by
 obtain⟨z,its,n,r,e⟩:=I.hok p _ h
 exact⟨its,n,r,e,z⟩
def qe7(K:PySem.W.Frag):V->Option Int->Option Int->Hp->VK->Prop:=fun x lo hi H Q=>∃a xs,x=.ref a/\SqL K H a xs/\∀p,H p=none->Q (.ref p) (upd H p (.lst (q1h xs lo hi)))
def zs2:V->Bool
 | .non=>true
 | .bl _=>true
 | .int _=>true
 | .str _=>true
 | _=>false
def eqV:V->V->Bool
 | .non,.non=>true
 | .bl a,.bl b=>a == b
 | .bl a,.int b=>(if a then 1 else 0) == b
 | .int a,.bl b=>a == (if b then 1 else 0)
 | .int a,.int b=>a == b
 | .str a,.str b=>a == b
 | _,_=>false
def inV(x:V)(xs:List V):Bool:=xs.any fun y=>eqV y x
theorem zsx:zbs X (.builtin "len") (fun xs H Q=>∃p ys,xs=[.ref p]/\(SqL X.K H p ys\/SqT X.K H p ys)/\Q (.int ys.length) H):=by
 intro pins s σ H xs us Q I r h
 obtain⟨p,ys,rfl,hq,q⟩:=h
 obtain⟨u,rfl,rx⟩:=q5t r
 cases rx
 have hn:=zrr
 rcases hq with hq | hq
 ·obtain⟨its,r',pl,hz⟩:=I.list hq
  have hlen:=r'.length
  exact Calls.call_len_list pl.isList (by simp only[List.size_toArray]<;>omega) ⟨.int ys.length,H,I.tok _,⟨s.toks+1,by rw [List.size_toArray,hlen]⟩,q⟩
 ·obtain⟨its,r',pl,hz⟩:=I.tuple hq
  have hlen:=r'.length
  exact len_tuple pl (by simp only[List.size_toArray]<;>omega) ⟨.int ys.length,H,I.tok _,⟨s.toks+1,by rw [List.size_toArray,hlen]⟩,q⟩
theorem zsw:zbs X (.builtin "len") (fun xs H Q=>∃z,xs=[.str z]/\z.length<=sizeLine/\Q (.int z.length) H):=by
 intro pins s σ H xs us Q I r h
 obtain⟨z,rfl,hz,q⟩:=h
 obtain⟨u,rfl,t,rfl⟩:=q5t r
 have hn:=zrr
 exact len_str (by omega) ⟨.int z.length,H,I.tok _,⟨_,rfl⟩,q⟩
theorem zqk:zbs X (.type "tuple") (fun xs H Q=>∃p ys,xs=[.ref p]/\((SqL X.K H p ys/\∀l,H l=none->Q (.ref l) (upd H l (.tup ys)))\/(SqT X.K H p ys/\Q (.ref p) H))):=by
 intro pins s σ H xs us Q I r h
 obtain⟨p,ys,rfl,h⟩:=h
 obtain⟨u,rfl,rx⟩:=q5t r
 cases rx
 rcases h with⟨hq,q⟩ | ⟨hq,q⟩
 ·obtain⟨its,r',pl,hz⟩:=I.list hq
  have hlen:=r'.length
  refine call_tuple_list pl.isList (fun h' kp=>?_) (by simp only[List.size_toArray]<;>omega)
  have I1:Inv X pins σ H {s with heap:=h'}:=I.kept (t':=s.toks) kp
  have I2:Inv X pins σ (upd H h'.objs.size (.tup ys)) {s with heap:=h'.push {cls:=.type "tuple",data:=.seq its.toArray}}:=
   I1.laid (t':=s.toks) (fun b o e=>Heap.get?_push_of_some _ e) (Nat.le_refl _) (show ObjOk X.prog X.w _ _ _ (.tup ys) from⟨hz,its,r',IsTup.new _ _⟩)
  exact⟨.ref h'.objs.size,_,I2,rfl,q _ (I1.hok.fresh (Nat.le_refl _))⟩
 ·obtain⟨its,r',pl,hz⟩:=I.tuple hq
  exact call_tuple_same pl ⟨.ref p,H,I,rfl,q⟩
def tyV(K:PySem.W.Frag)(T:String)(x:V)(H:Hp):Prop:=match x with
 | .str _=>T = "str"
 | .int _=>T = "int"
 | .ref p=>(T = "list"/\∃xs,SqL K H p xs)\/(T = "tuple"/\∃o,K.lookup p=some o/\o.cls=.type "tuple"/\o.dict=none)\/
   (T = "dict"/\((∃kvs,H p=some (.dK kvs))\/∃kvs,H p=some (.dT kvs)))\/(T = "set"/\∃S n,H p=some (.set S n))
 | _=>False
theorem q8g{pins:List (Addr×Obj)}{σ : St}{H:Hp}{s:Shared}{T:String}{x:V}{v:Value}(I:Inv X pins σ H s)(r:RelV x v)(ty:tyV X.K T x H) :
  s.TypeIs v T/\∀a,v=.ref a->∃ob,s.heap.get? a=some ob/\ob.dict=none:=by
 cases x with
 | str z=>
  obtain⟨t,rfl⟩:=r
  cases (show T = "str" from ty)
  exact⟨typeIs_str s z t,fun _ e=>nomatch e⟩
 | int i=>
  obtain⟨t,rfl⟩:=r
  cases (show T = "int" from ty)
  exact⟨typeIs_int s i t,fun _ e=>nomatch e⟩
 | ref p=>
  cases r
  rcases ty with⟨rfl,xs,hq⟩ | ⟨rfl,o,hk,hc,hd⟩ | ⟨rfl,hk⟩ | ⟨rfl,S,n,hk⟩
  ·obtain⟨its,_,pl,_⟩:=I.list hq
   refine⟨pl.isList.typeIs,fun a e=>?_⟩
   cases e
   obtain⟨o,n,e,c,hd,_⟩:=pl
   exact⟨o,e,hd⟩
  ·refine⟨⟨o,I.kIn p o hk,hc⟩,fun a e=>?_⟩
   cases e
   exact⟨o,I.kIn _ o hk,hd⟩
  ·have z:∃o,s.heap.get? p=some o/\o.ExactDict:=by
    rcases hk with⟨kvs,hk⟩ | ⟨kvs,hk⟩
    ·obtain⟨_,_,_,_,o,_,_,e,ex,_⟩:=I.hok p _ hk
     exact⟨o,e,ex⟩
    ·obtain⟨_,_,_,_,o,_,_,e,ex,_⟩:=I.hok p _ hk
     exact⟨o,e,ex⟩
   obtain⟨o,e,ex⟩:=z
   refine⟨⟨o,e,ex.1⟩,fun a e2=>?_⟩
   cases e2
   exact⟨o,e,ex.2.1⟩
  ·obtain⟨o,_,_,_,e,ex,_⟩:=I.hok p _ hk
   refine⟨⟨o,e,ex.1⟩,fun a e2=>?_⟩
   cases e2
   exact⟨o,e,ex.2.1⟩
 | _=>exact False.elim ty
def tBM(K:PySem.W.Frag)(T:String)(r:V->List V->Hp->VK->Prop)(to:TE)(t:TA):TE:=fun σ H Q=>to σ H fun x H1=>tyV K T x H1/\t σ H1 fun xs H2=>r x xs H2 Q
variable{o e:Expr}{es:List Expr}{to:TE}{t:TA}{name:Str}{apos cpos:Pos}{T id:String}{r:V->List V->Hp->VK->Prop}
theorem q38(pa:PlainAttrs T)(slot:Slot T name id) (hty:typeOf (.builtin id)=pure (.type "method_descriptor")) (hm:MtR X id r) (ho:PE X o to) (ha:PA X (e::es) t)
  (hbase:attributeBase o name X.env (eval o X.env)=eval o X.env:=by rfl)
  (hfew:((backTo cpos (starEach (e::es) X.env)).all (fun x=>!x.1) && (backToKw cpos (keywordEach [] X.env)).all (fun x=>x.1.isSome)
   && decide ((e::es).length+([]:List Keyword).length+(if([]:List Keyword).isEmpty then 0 else 1) < 30))=true:=by rfl)
  (hline:(apos.endLine == cpos.line)=true:=by rfl) (hs:starEach (e::es) X.env=(false,eval e X.env)::starEach es X.env:=by rfl) (hplain:(backTo cpos (starEach es X.env)).any (·.1)=false:=by rfl) :
  PE X (.Call (.Attribute o name apos) (e::es) [] cpos) (tBM X.K T r to t):=by
 refine⟨?_⟩
 intro pins s σ H Q I h
 refine wpAny_Call_method_late hbase hfew hline rfl (thn (ho pins s σ H _ I h) fun v s1 ⟨x,H1,I1,r1,ty,q1⟩=>?_)
 obtain⟨h1,h2⟩:=q8g I1 r1 ty
 refine⟨T,id,pa,slot,hty,h1,h2,?_⟩
 have hA:=ha cpos pins s1 σ H1 _ I1 q1
 rw [hs] at hA |-
 refine Calls.callWith_builtin (by show(false || (backTo cpos (starEach es X.env)).any (·.1))=false; rw [hplain]<;>rfl) (Calls.evalArgs_plain ?_)
 exact thn hA fun us s2 ⟨vs,H2,I2,r2,q2⟩=>hm pins s2 σ H2 x vs v us Q I2 r1 r2 q2
end
end L2
namespace L2
open PySem PySem.Spec PyProof.Rows
def MtM(X:Cx)(id:String)(r:V->List V->Hp->VK->Prop):Prop:=
 ∀(pins:List (Addr×Obj)) (s:Shared) (σ : St) (H:Hp) (x:V) (xs:List V) (v:Value) (us:List Value) (Q:VK),Inv X pins σ H s->RelV x v->Vals xs us->r x xs H Q->
  wpAny (model X.prog X.w) X.A (call (.builtin id) (v::us)) (EP X pins σ Q) X.xe s
theorem Vals.one:∀{x:V} {us:List Value},Vals [x] us->∃u,us=[u]/\RelV x u
 | _,_,h=>by
  rcases h with _ | ⟨r,t⟩
  cases t
  exact⟨_,rfl,r⟩
theorem Vals.two:∀{x y:V} {us:List Value},Vals [x,y] us->∃u v,us=[u,v]/\RelV x u/\RelV y v
 | _,_,_,h=>by
  rcases h with _ | ⟨r,t⟩
  rcases t with _ | ⟨q,t⟩
  cases t
  exact⟨_,_,rfl,r,q⟩
theorem Vals.zero:∀{us:List Value},Vals [] us->us=[]
 | _,.nil=>rfl
theorem zs1(its:List Value):∀(k:Nat) (acc:List Value),
  List.foldl (fun x1 x2=>x1++x2) acc.toArray (List.replicate k its.toArray)=(acc++(List.replicate k its).flatten).toArray
 | 0,acc=>by simp
 | k+1,acc=>by
  have e:acc.toArray++its.toArray=(acc++its).toArray:=by simp
  have e2:(acc++its)++(List.replicate k its).flatten=acc++(List.replicate (k+1) its).flatten:=by
   rw [List.replicate_succ,List.flatten_cons,List.append_assoc]
  rw [<- e2,<- zs1 its k (acc++its),<- e,List.replicate_succ,List.foldl_cons]
section
variable{X:Cx}{pins:List (Addr×Obj)}{σ : St}{H:Hp}{s:Shared}{l b:Addr}{xs ys zs:List V}
theorem Inv.lset{its its':List Value}{n:Nat}{f:Array Value->Array Value}{t':Nat}(I:Inv X pins σ H s)(hH:H l=some (.lst xs))
  (e:s.heap.get? l=some {cls:=.type "list",data:=.seq its.toArray n}) (hf:f its.toArray=its'.toArray) (hv:Vals ys its') (hz:ys.length<=sizeLine) :
  Inv X pins σ (upd H l (.lst ys)) {s with heap:=s.heap.update l (Obj.mapSeq f),toks:=t'}:=by
 have q:=PySem.IsL.update e f
 rw [hf] at q
 refine I.write (x:=l) (e:=l) (by rw [hH]; exact trivial) (.inl rfl) (fun b' u hb hu=>(Heap.get?_update_other s.heap (Obj.mapSeq f) (Ne.symm hb)).trans hu) ⟨_,q⟩ ?_
 exact⟨hz,its',_,hv,q⟩
theorem Inv.lnew{its:List Value}{t':Nat}(I:Inv X pins σ H s)(hv:Vals ys its)(hz:ys.length<=sizeLine) :
  Inv X pins σ (upd H s.heap.objs.size (.lst ys)) {s with heap:=s.heap.push {cls:=.type "list",data:=.seq its.toArray},toks:=t'}:=
 I.laid (fun _ _ q=>Heap.get?_push_of_some _ q) (Nat.le_refl _) ⟨hz,its,0,hv,Heap.get?_push_size _ rfl⟩
theorem Inv.fresh(I:Inv X pins σ H s):H s.heap.objs.size=none:=I.hok.fresh (Nat.le_refl _)
theorem Inv.lstM(I:Inv X pins σ H s)(hH:H l=some (.lst xs)):xs.length<=sizeLine/\∃(its:List Value) (n:Nat),Vals xs its/\xs.length=its.length/\s.heap.get? l=some {cls:=.type "list",data:=.seq its.toArray n}:=by
 obtain⟨z,its,n,r,e⟩:=I.hok l _ hH
 exact⟨z,its,n,r,r.length,e⟩
theorem q3n{n:Nat}(h:n<=sizeLine):Builtin.List.listTooLong n=false:=by
 unfold Builtin.List.listTooLong
 exact decide_eq_false (by omega)
end
section
variable{X:Cx}
def zpi:V->List V->Hp->VK->Prop:=fun x vs H Q=>∃l xs y,x=.ref l/\vs=[y]/\H l=some (.lst xs)/\xs.length < sizeLine/\Q .non (upd H l (.lst (xs++[y])))
theorem q00:MtM X "list.append" zpi:=by
 intro pins s σ H x vs v us Q I rx rv h
 obtain⟨l,xs,y,rfl,rfl,hH,hz,q⟩:=h
 cases rx
 obtain⟨u,rfl,ru⟩:=rv.one
 obtain⟨z,its,n,r,hl,e⟩:=I.lstM hH
 refine call_meets F.slot_list_append ⟨_,e,rfl⟩ F.entry_list_append (F.args_list_append_2 _ _) (PySem.list_append l its.toArray n u (by rw [List.size_toArray]; omega)) ⟨e,?_⟩
 refine⟨.non,_,I.lset (its':=its++[u]) hH e (by simp) (r.append (.cons ru .nil)) ?_,rfl,q⟩
 rw [List.length_append,List.length_singleton]
 omega
def zph:V->List V->Hp->VK->Prop:=fun x vs H Q=>∃l b xs zs,x=.ref l/\vs=[.ref b]/\H l=some (.lst xs)/\H b=some (.lst zs)/\xs.length+zs.length<=sizeLine/\Q .non (upd H l (.lst (xs++zs)))
theorem zm4:MtM X "list.extend" zph:=by
 intro pins s σ H x vs v us Q I rx rv h
 obtain⟨l,b,xs,zs,rfl,rfl,hH,hB,hz,q⟩:=h
 cases rx
 obtain⟨u,rfl,ru⟩:=rv.one
 cases ru
 obtain⟨z,its,n,r,hl,e⟩:=I.lstM hH
 obtain⟨z2,its2,n2,r2,hl2,e2⟩:=I.lstM hB
 have hsz:its.toArray.size+its2.toArray.size<=sizeLine:=by rw [List.size_toArray,List.size_toArray]; omega
 have hlong:¬ (!its.toArray.isEmpty && Builtin.List.listTooLong (its.toArray.size+its2.toArray.size))=true:=by
  rw [q3n hsz,Bool.and_false]
  exact Bool.false_ne_true
 refine call_meets F.slot_list_extend ⟨_,e,rfl⟩ F.entry_list_extend (F.args_list_extend_2 _ _)
  (AutoSeq1.list_extend_list_list_0 l its.toArray n b its2.toArray n2 hlong (by rw [List.size_toArray]; omega) (by omega)) ⟨e,e2,?_⟩
 refine⟨.non,_,I.lset (its':=its++its2) hH e (by simp) (r.append r2) ?_,rfl,q⟩
 rw [List.length_append]
 omega
def qav:R2:=fun x y H Q=>∃l b xs zs,x=.ref l/\y=.ref b/\H l=some (.lst xs)/\H b=some (.lst zs)/\xs.length+zs.length<=sizeLine/\∀p,H p=none->Q (.ref p) (upd H p (.lst (xs++zs)))
theorem q57:OpR X (binaryOp .Add) qav:=by
 intro pins s σ H x y v u Q I rx ry h
 obtain⟨l,b,xs,zs,rfl,rfl,hH,hB,hz,q⟩:=h
 cases rx
 cases ry
 obtain⟨z,its,n,r,hl,e⟩:=I.lstM hH
 obtain⟨z2,its2,n2,r2,hl2,e2⟩:=I.lstM hB
 refine PySem.P.add_list e e2 ?_ (by rw [List.size_toArray,List.size_toArray]; omega)
 have ea:its.toArray++its2.toArray=(its++its2).toArray:=by simp
 rw [ea]
 exact⟨.ref _,_,I.lnew (t':=s.toks) (r.append r2) (by rw [List.length_append]; omega),rfl,q _ I.fresh⟩
def qbm:R2:=fun x y H Q=>∃l k xs,x=.ref l/\y=.int k/\H l=some (.lst xs)/\-(2 ^ 63)<=k/\k < 2 ^ 63/\xs.length * k.toNat<=sizeLine/\
 ∀p,H p=none->Q (.ref p) (upd H p (.lst (List.replicate k.toNat xs).flatten))
theorem q73{α : Type}(xs:List α)(k:Nat):(List.replicate k xs).flatten.length=k * xs.length:=by
 induction k with
 | zero=>simp
 | succ k ih=>rw [List.replicate_succ,List.flatten_cons,List.length_append,ih,Nat.succ_mul,Nat.add_comm]
end
section
variable{prog:Program}{w:World}{A:Around}{E:Value->Shared->Prop}{s:Shared}
end
section
variable{X:Cx}
end
end L2
namespace Att
open PySem PySem.W PySem.Calls PyProof.Rows
theorem zmo{P:Params}{h:Heap}:∀(ns:List Int) (vs:List Value),WellAll P h vs (ns.map WData.int)->IntsAre vs ns:=by
 intro ns
 induction ns with
 | nil=>
  intro vs w
  rw [List.map_nil] at w
  cases w
  exact .nil
 | cons n ns ih=>
  intro vs w
  rw [List.map_cons] at w
  cases w with
  | cons a b=>
   cases a
   exact .cons _ _ (ih _ b)
theorem zz9{l:OpenLaw}{n:Nat}(hn:l.most=some n){P:Params}{h:Heap}{args:List WData}{vals:List Value}
  (hpre:l.row.toRowW.claim.pre args=true) (hwl:WellAll P h vals args) :
  ∃a vs ns,vals=[Value.ref a]/\args=[WData.list (ns.map WData.int)]/\h.get? a=some {cls:=.type "list",data:=.seq vs.toArray}/\IntsAre vs ns/\ns.length<=n:=by
 have hsh:WShape.hasAll [] args [.list .int]=true:=(pre_splitW hpre).1
 have hc:l.pre.holds [] {args:=args}=true:=(pre_splitW hpre).2
 obtain⟨d,r,rfl,h1,h2⟩:=hasAllW_cons hsh
 obtain rfl:=hasAllW_nil h2
 obtain⟨xs,rfl,h3⟩:=hasW_list h1
 obtain⟨ns,rfl⟩:=items_int h3
 have hlen:ns.length<=n:=by
  unfold OpenLaw.pre at hc
  have h4:(WTm.not (.lt (.lit (.int (n:Int))) (.len (.arg 0)))).holds [] {args:=[.list (ns.map .int)]}=true:=by
   have h4:=(holds_andW hc).1
   rw [hn] at h4
   exact h4
  have h5:=condW_of h4 (w_not (w_lt w_lit (w_len_list (w_arg rfl))))
  rw [List.length_map] at h5
  refine Nat.le_of_not_lt fun q=>?_
  have q':(n:Int) < ((ns.length:Nat):Int):=by omega
  first
   | (rw [decide_eq_true q'] at h5; exact absurd h5 (by decide))
   | (simp at h5; omega)
 cases hwl with
 | cons w1 w2=>
  cases w2
  cases w1 with
  | list ho hall=>exact⟨_,_,ns,rfl,rfl,ho,zmo ns _ hall,hlen⟩
theorem zzj(l:OpenLaw)(args:List WData):l.row.toRowW.claim.post args (.bool true) args=true:=
 postW_of (r:=l.row.toRowW) (X:=(true == true))
  (show WShape.has [] (.bool true) .bool=true by first | rfl | decide | simp[WShape.has,WShape.arms,WShape.armsAll])
  (show(WTm.eq .res (.lit (.bool true))).value [] {args:=args,res:=some (.bool true),after:=args}=some (.bool (true == true)) from w_eq_bool (w_res rfl) w_lit) rfl
theorem zur{l:OpenLaw}{n:Nat}{q:Program}{loose:List Str}{XP:(Str->Option Value)->Heap->Prop}{YP:World->Heap->Prop}{d:DefRec}
  (hn:l.most=some n) (hdf:d.params.defaults=[])
  (call:∀(w:World) (s₀ s₁:Shared) (mg mb:Str->Option Value) (fa:Addr) (o:Obj) (pm cd doc:Value) (a:Addr) (vs:List Value) (ns:List Int),
   Ground q loose [] XP w s₀ mg mb s₁.heap->YP w s₁.heap->
   s₁.heap.get? fa=some o->o.data=.func (docDef d.name d.params d.body d.scope pm cd doc)->s₁.heap.CodeRec cd d.name->mg d.name=some (.ref fa)->
   s₁.heap.get? a=some {cls:=.type "list",data:=.seq vs.toArray}->IntsAre vs ns->ns.length<=n->s₁.gens = #[]->
   codeAny (model l.prog w) callerA (.call (.ref fa) ⟨[.ref a],[]⟩) (fun r s'=>r=.ok (.ret (.bool true))/\OldK s₁.heap s'.heap/\s'.os=s₁.os/\AllBare s'.gens) s₁) :
  WalkO q loose XP YP l.row.toRowW d [] (fun f vs=>PySem.call f vs):=by
 intro w s₀ s₁ mg mb G Y fa o pm cd doc dV kV ho hd hcd hD hmg hg args vals as hpre hlay hrd hwl hlo
 obtain rfl:dV=.none:=Dflts.none hD hdf
 obtain rfl:kV=.none:=Dflts.noKw hD
 obtain⟨a,vs,ns,rfl,rfl,hobj,hints,hlen⟩:=zz9 hn hpre hwl
 refine enter_call (codeAny_mono (call w s₀ s₁ mg mb fa o pm cd doc a vs ns G Y ho (fd_plain hd) hcd hmg hobj hints hlen hg) fun r s' hq=>?_)
 obtain⟨rfl,h2,h3,h4⟩:=hq
 exact⟨.inl ⟨.bool true,.bool true,[],rfl,fun _=>rfl,.bool true,zzj l _,fun _=>⟨List.Pairwise.nil,fun _ hm=>(nomatch hm)⟩⟩,h2,h3,h4⟩
section
variable{prog:Program}{w:World}{A:Around}{E:Value->Shared->Prop}{s:Shared}{K:Frag}
def qd3(h:Heap)(L d:Addr):List (Addr×Obj):=(List.range h.objs.size).filterMap fun a=>if a=L\/a=d then none else(h.get? a).map fun o=>(a,o)
end
end Att
namespace L2
open PySem PySem.Spec PyProof.Rows
theorem zqt:∀{vs:List Value} {ns:List Int},IntsAre vs ns->Vals (ns.map V.int) vs
 | _,_,.nil=>.nil
 | _,_,.cons n t h=>.cons ⟨t,rfl⟩ (zqt h)
def qcl(H:Hp):Prop:=∀b,H b=none\/∃o xs,H b=some (.frz o (.lst xs))
theorem q3r{P:Program}{w:World}{K:PySem.W.Frag}{mg mb:Str->Option Value}{CX:CXT}{k:Nat}{fa a:Addr}{fd:FuncData}{x:Str}{sp:Sp}{s₁:Shared}{vs:List Value}{ns:List Int}
  (KX:K.In s₁.heap) (hns:s₁.heap.Ns mainGlobals mg) (hb:s₁.heap.Ns builtinsNs mb) (hbb:∀x:Str,x≠"__name__"->mb x=bootBuiltins x) (hlim:s₁.heap.NoLimit) (hg:s₁.gens = #[])
  (ha:s₁.heap.get? a=some {cls:=.type "list",data:=.seq vs.toArray}) (hi:IntsAre vs ns) (hl:ns.length<=sizeLine) (hr:Room k callerA)
  (F:∀base:Heap,K.In base->base.Ns mainGlobals mg->FnOk P w K mg base CX k fa fd [x] sp) (hbind:∀(s:Shared) (u:Value),BindsTo s fd ⟨[u],[]⟩ [(x,u)])
  (hsp:∀H:Hp,qcl H->SqL K H a (ns.map V.int)->sp [.ref a] H (fun v _=>v=.bl true) fun _ _ _=>False)
  (hCX:∀H e s',CX [] H s₁ (fun _ _ _=>False) e s'->False) :
  codeAny (model P w) callerA (.call (.ref fa) ⟨[.ref a],[]⟩) (fun r s'=>r=.ok (.ret (.bool true))/\OldK s₁.heap s'.heap/\s'.os=s₁.os/\AllBare s'.gens) s₁:=by
 have rv:=zqt hi
 have lenV:=hi.length
 have core:∀H:Hp,qcl H->SqL K H a (ns.map V.int)->HOk P w H s₁.heap->(∀b,H b≠none->b=a)->(H a≠none->K.lookup a=none)->
   codeAny (model P w) callerA (.call (.ref fa) ⟨[.ref a],[]⟩) (fun r s'=>r=.ok (.ret (.bool true))/\OldK s₁.heap s'.heap/\s'.os=s₁.os/\AllBare s'.gens) s₁:=by
  intro H hO hS hok hA hK
  have base_of:∀{b:Addr} {o:Obj},s₁.heap.get? b=some o->H b=none->(q3x s₁.heap H).get? b=some o:=fun e n=>q3w e n
  have noA:∀{b:Addr} {o:Obj} {es:Array DictEntry} {ep:Nat},s₁.heap.get? b=some o->o.data=.dict es ep->H b=none:=fun {b o es ep} e d=>by
   cases q:H b with
   | none=>rfl
   | some u=>
    have e':b=a:=hA b (by rw [q]; simp)
    subst e'
    rw [ha] at e; cases e
    have d':Data.seq vs.toArray _=Data.dict es ep:=d
    cases d'
  have nsK:∀{b:Addr} {m:Str->Option Value},s₁.heap.Ns b m->(q3x s₁.heap H).Ns b m:=fun {b m} ⟨o,es,ep,e,d,r⟩=>⟨o,es,ep,base_of e (noA e d),d,r⟩
  have hKb:K.In (q3x s₁.heap H):=fun b o e=>base_of (KX b o e) (by
   cases q:H b with
   | none=>rfl
   | some u=>
    have e':b=a:=hA b (by rw [q]; simp)
    subst e'
    rw [hK (by rw [q]; simp)] at e; cases e)
  have hM:Mod K mg (q3x s₁.heap H):=⟨hKb,nsK hns,⟨mb,nsK hb,hbb⟩,let ⟨mc,h1,h2⟩:=hlim; ⟨mc,nsK h1,h2⟩⟩
  have e0:Env0 P w K mg (q3x s₁.heap H) callerA [] s₁ H:=⟨rfl,hM,fun b o e=>q6z e,Nat.le_of_eq (q0l _ _),trivial,fun b hb=>absurd (show b∈([]:List Addr) from hb) (by simp),hok,.of_eq hg⟩
  refine codeAny_mono ((F _ hKb (nsK hns)).run callerA [] s₁ H ⟨[.ref a],[]⟩ [.ref a] [.ref a] _ _ hr e0 (hbind s₁ (.ref a)) (.cons rfl .nil) (hsp H hO hS)) fun r s' h=>?_
  cases r with
  | error e=>exact(hCX H e s' h).elim
  | ok fl=>
   cases fl with
   | next=>exact False.elim h
   | brk=>exact False.elim h
   | cont=>exact False.elim h
   | ret u=>
    obtain⟨v,H',os,bare,un,hok',r',q⟩:=h
    have q':v=.bl true:=q
    subst q'
    obtain rfl:u=Value.bool true:=r'
    refine⟨rfl,OldK.of_keep fun b o e=>?_,os,bare⟩
    cases q:H b with
    | none=>exact un.keep b o e q (by intro z; exact absurd (show b∈([]:List Addr) from z) (by simp)) (by simp)
    | some u=>
     rcases hO b with z | ⟨ob,xs,z⟩
     ·rw [q] at z; cases z
     ·have z2:=un.frzs b ob _ z
      obtain⟨e1,_⟩:=hok b _ z
      obtain⟨e2,_⟩:=hok' b _ z2
      rw [e] at e1; cases e1
      exact e2
 cases hk:K.lookup a with
 | some o=>
  have e:=KX a o hk
  rw [ha] at e
  cases e
  refine core (fun _=>none) (fun _=>.inl rfl) (.inr ⟨_,vs.toArray,_,hk,rfl,rfl,rfl,by rw [List.size_toArray,lenV]; exact hl,by simpa using rv⟩) (fun b u z=>by have z':(none:Option HO)=some u:=z; cases z') (fun b z=>absurd rfl z) fun z=>absurd rfl z
 | none=>
  refine core (fun b=>if b=a then some (.frz {cls:=.type "list",data:=.seq vs.toArray} (.lst (ns.map V.int))) else none) (fun b=>?_) (.inl (.inr ⟨{cls:=.type "list",data:=.seq vs.toArray},if_pos rfl⟩)) (fun b u z=>?_) (fun b z=>?_) fun _=>hk
  ·by_cases hb:b=a
   ·exact .inr ⟨_,_,if_pos hb⟩
   ·exact .inl (if_neg hb)
  ·by_cases hb:b=a
   ·have z':=(if_pos hb).symm.trans z
    cases z'
    subst hb
    exact⟨ha,by rw [List.length_map]; exact hl,vs,_,rv,ha⟩
   ·have z':=(if_neg hb).symm.trans z
    cases z'
  ·by_cases hb:b=a
   ·exact hb
   ·exact absurd (if_neg hb) z
end L2
namespace L2
open PySem PySem.Spec PyProof.Rows
abbrev KOf{K:PySem.W.Frag}{h:Heap}(_:K.In h):PySem.W.Frag:=K
theorem q5r{l:PySem.W.OpenLaw}{n k:Nat}{q:Program}{loose:List Str}{XP:(Str->Option Value)->Heap->Prop}{YP:World->Heap->Prop}{d:DefRec}{K:Params->PySem.W.Frag}{CX:World->CXT}{sp:World->Sp}{x:Str}
  (hn:l.most=some n) (hn2:n<=sizeLine) (hdf:d.params.defaults=[]) (hr:Room k callerA)
  (hY:∀(w:World) (h:Heap),YP w h->(K w.params).In h)
  (F:∀(w:World) (mg:Str->Option Value) (fa:Addr) (h:Heap),(K w.params).In h->h.Ns mainGlobals mg->mg d.name=some (.ref fa)->
   ∃fd:FuncData,(∀(s:Shared) (u:Value),BindsTo s fd ⟨[u],[]⟩ [(x,u)])/\
    ∀base:Heap,(K w.params).In base->base.Ns mainGlobals mg->FnOk l.prog w (K w.params) mg base (CX w) k fa fd [x] (sp w))
  (hsp:∀(w:World) (H:Hp) (a:Addr) (ns:List Int),ns.length<=n->qcl H->SqL (K w.params) H a (ns.map V.int)->sp w [.ref a] H (fun v _=>v=.bl true) fun _ _ _=>False)
  (hCX:∀(w:World) (H:Hp) (s:Shared) (e:Value) (s':Shared),CX w [] H s (fun _ _ _=>False) e s'->False) :
  PySem.W.WalkO q loose XP YP l.row.toRowW d [] (fun f vs=>PySem.call f vs):=by
 refine Att.zur hn hdf fun w s₀ s₁ mg mb fa o pm cd doc a vs ns G Y ho hd hcd hmg hobj hints hlen hg=>?_
 have KX:=hY w _ Y
 obtain⟨fd,hb,hF⟩:=F w mg fa _ KX G.T.g hmg
 exact q3r KX G.T.g G.T.b G.T.builtins G.T.nolimit hg hobj hints (Nat.le_trans hlen hn2) hr hF hb (fun H hO hS=>hsp w H a ns hlen hO hS) fun H e s'=>hCX w H s₁ e s'
end L2
namespace L2
open PySem PySem.Spec PyProof.Rows
def defArgs(s:Stmt):Arguments:=match s with
 | .FunctionDef _ a _ _ _ _ _ _ _ _=>a
 | _=>{posonlyargs:=[],args:=[],vararg:=none,kwonlyargs:=[],kw_defaults:=[],kwarg:=none,defaults:=[]}
def defBody(s:Stmt):List Stmt:=match s with
 | .FunctionDef _ _ b _ _ _ _ _ _ _=>b
 | _=>[]
def defScope(s:Stmt):Scope:=match s with
 | .FunctionDef _ _ _ _ _ _ sc _ _ _=>sc
 | _=>{kind:=.function,names:=[],isGenerator:=false,isCoroutine:=false}
abbrev CX0:CXT:=fun _ _ _ _ _ _=>False
abbrev E0:XK:=fun _ _ _=>False
structure Fun(K:PySem.W.Frag)(x qual:Str)(st:Stmt)(f:Addr)(fd:FuncData):Prop where
 ex:∃(oc:Value) (od:Option Addr) (kV doc pm:Value) (an:Option Addr) (cdv ct:Value) (osl:Array (Option Value)),
  fd=PySem.W.fnOf x qual (defArgs st) (defBody st) (defScope st) .none kV doc pm an cdv ct/\K.lookup f=some ⟨oc,od,.func fd,osl⟩/\PySem.W.codeIn K cdv qual=true
 kp:PySem.W.keepIn K (.ref f)=true
section
variable{P:Program}{w:World}{K:PySem.W.Frag}{mg:Str->Option Value}{base:Heap}
theorem Fun.ok{x qual:Str}{st:Stmt}{f:Addr}{fd:FuncData}{N ps:List Str}{k:Nat}{sp:Sp}(F:Fun K x qual st f fd)(S:FnScope N ps (defScope st))(len:∀vs H Q E,sp vs H Q E->vs.length=ps.length)
  (hbody:∀(cdv:Value) (A:Around) (outer:List Env) (s:Shared) (H:Hp) (vs:List V) (Q:VK) (E:XK),Room k (A.deeper (envOfC qual (defScope st) s.heap.objs.size f cdv))->sp vs H Q E->
   ∃t,PSs (zt3 CX0 P w K mg base N qual (defScope st) f cdv A outer s H E).nox (defBody st) t/\t {nx:=fun _ H'=>Q .non H',rt:=Q} (start N vs) H):FnOk P w K mg base CX0 (k+1) f fd ps sp:=by
 obtain⟨oc,od,kV,doc,pm,an,cdv,ct,osl,rfl,lk,hcd⟩:=F.ex
 refine qc8 lk hcd S len fun A outer s H vs Q E hr hsp=>?_
 obtain⟨t,h,q⟩:=hbody cdv A outer s H vs Q E hr hsp
 exact⟨t,h.nox,q⟩
theorem Fun.binds{x qual:Str}{st:Stmt}{f:Addr}{fd:FuncData}{ps:List Str}(F:Fun K x qual st f fd)
  (h:∀(kV doc pm:Value) (an:Option Addr) (cdv ct:Value) (us:List Value),us.length=ps.length->bindArgs (PySem.W.fnOf x qual (defArgs st) (defBody st) (defScope st) .none kV doc pm an cdv ct) ⟨us,[]⟩=pure (ps.zip us)):Binds K fd ps []:=by
 obtain⟨oc,od,kV,doc,pm,an,cdv,ct,osl,rfl,lk,hcd⟩:=F.ex
 exact .all (h kV doc pm an cdv ct)
theorem z0t{x qual:Str}{st:Stmt}{f:Addr}{oc:Value}{od an:Option Addr}{osl:Array (Option Value)}{kV doc pm cdv ct:Value}(l:K.lookup f=some ⟨oc,od,.func (PySem.W.fnOf x qual (defArgs st) (defBody st) (defScope st) .none kV doc pm an cdv ct),osl⟩)
  (c:PySem.W.codeIn K cdv qual=true) (k:PySem.W.keepIn K (.ref f)=true):Fun K x qual st f (PySem.W.fnOf x qual (defArgs st) (defBody st) (defScope st) .none kV doc pm an cdv ct):=⟨⟨oc,od,kV,doc,pm,an,cdv,ct,osl,rfl,l,c⟩,k⟩
end
theorem z10{n:Nat}(h:n<=1000):n < sizeLine:=Nat.lt_of_le_of_lt h (by decide)
section
variable{X:Cx}
theorem pv(i:Nat){x:Str}{pos:Pos}(hN:X.N[i]?=some x:=by rfl)(hv:Vis X.env.scope x:=by first | exact Or.inl rfl | exact Or.inr (Or.inl rfl) | exact Or.inr (Or.inr rfl)) (hd:(x == ("__debug__" : Str))=false:=by decide)
  (hcd:(x == ("__classdict__" : Str))=false:=by decide):PE X (.Name x pos) (zuy i):=z00 hN hv hd hcd
end
def Same(H H':Hp):Prop:=∀b o,H b=some o->H' b=some o
theorem Same.refl(H:Hp):Same H H:=fun _ _ h=>h
theorem Same.trans{H H1 H2:Hp}(a:Same H H1)(b:Same H1 H2):Same H H2:=fun c o h=>b c o (a c o h)
theorem Same.free{H H':Hp}(e:Same H H'){l:Addr}(h:H' l=Option.none):H l=Option.none:=by
 cases q:H l with
 | none=>rfl
 | some o=>
  rw [e l o q] at h
  cases h
theorem Same.seq{K:PySem.W.Frag}{H H':Hp}{a:Addr}{xs:List V}(e:Same H H')(h:SqL K H a xs):SqL K H' a xs:=by
 rcases h with(h | ⟨o,h⟩) | h
 ·exact .inl (.inl (e _ _ h))
 ·exact .inl (.inr ⟨o,e _ _ h⟩)
 ·exact .inr h
end L2
set_option Elab.async false
set_option linter.all false
set_option maxRecDepth 100000
namespace L2
open PySem PySem.Spec PyProof.Rows
theorem zuk(env:Env):∀(names:List (Str×NameKind)) (acc:List (Str×Addr)),(∀y∈names,y.2=.free->∃c,env.cells.lookup y.1=some c)->(∀x c,acc.lookup x=some c->env.cells.lookup x=some c)->
  ∃cl,(forIn names acc fun(p:Str×NameKind) (r:List (Str×Addr))=>(match p with | (name,kind)=>if(kind == NameKind.free)=true then(do let c <- cellOf env name; pure (ForInStep.yield ((name,c)::r))) else pure (ForInStep.yield r)):Sem (List (Str×Addr)))=pure cl/\
   (∀x c,cl.lookup x=some c->env.cells.lookup x=some c)/\(∀x,(∃c,acc.lookup x=some c)->∃c,cl.lookup x=some c)/\(∀y∈names,y.2=.free->∃c,cl.lookup y.1=some c)
 | [],acc,_,ha=>⟨acc,by simp,ha,fun _ h=>h,fun _ h=>absurd h (by simp)⟩
 | (n,k)::r,acc,hn,ha=>by
  by_cases hk:k=.free
  ·obtain⟨c,hc⟩:=hn (n,k) List.mem_cons_self hk
   have ha':∀x c',((n,c)::acc).lookup x=some c'->env.cells.lookup x=some c':=fun x c' h=>by
    by_cases hx:x=n
    ·subst hx
     rw [List.lookup_cons_self] at h
     cases h; exact hc
    ·have hx':(x == n)=false:=by simpa using hx
     simp only[List.lookup_cons,hx'] at h
     exact ha x c' h
   obtain⟨cl,e,p1,p2,p3⟩:=zuk env r ((n,c)::acc) (fun y hy=>hn y (List.mem_cons_of_mem _ hy)) ha'
   refine⟨cl,?_,p1,fun x ⟨c',hc'⟩=>p2 x ?_,fun y hy hf=>?_⟩
   ·have hco:cellOf env n=pure c:=by unfold cellOf; rw [hc]
    rw [List.forIn_cons]
    subst hk
    simp only[beq_self_eq_true,if_true,hco,pure_bind]
    exact e
   ·by_cases hx:x=n
    ·exact⟨c,by subst hx; rw [List.lookup_cons_self]⟩
    ·have hx':(x == n)=false:=by simpa using hx
     exact⟨c',by simp only[List.lookup_cons,hx']; exact hc'⟩
   ·rcases List.mem_cons.mp hy with rfl | hy
    ·exact p2 _ ⟨c,by rw [List.lookup_cons_self]⟩
    ·exact p3 y hy hf
  ·obtain⟨cl,e,p1,p2,p3⟩:=zuk env r acc (fun y hy=>hn y (List.mem_cons_of_mem _ hy)) ha
   refine⟨cl,?_,p1,p2,fun y hy hf=>?_⟩
   ·have hb:(k == NameKind.free)=false:=by simpa using hk
    rw [List.forIn_cons]
    simp only[hb,Bool.false_eq_true,if_false,pure_bind]
    exact e
   ·rcases List.mem_cons.mp hy with rfl | hy
    ·exact absurd hf hk
    ·exact p3 y hy hf
theorem q1m{scope:Scope}{env:Env}(h:∀y∈scope.names,y.2=.free->∃c,env.cells.lookup y.1=some c) :
  ∃cl,closureFor scope env=pure cl/\(∀x c,cl.lookup x=some c->env.cells.lookup x=some c)/\(∀y∈scope.names,y.2=.free->∃c,cl.lookup y.1=some c):=by
 obtain⟨cl,e,p1,_,p3⟩:=zuk env scope.names [] h (fun x c q=>by simp at q)
 refine⟨cl,?_,p1,p3⟩
 unfold closureFor
 simp only[bind_pure]
 exact e
theorem z9n{env:Env}:∀{names:List (Str×NameKind)} {x:Str} {k:NameKind},(names.map fun(n,k)=>if(k == NameKind.free && env.scope.kind == .function && env.kindOf n == some .cell) then(n,NameKind.cell) else(n,k)).lookup x=some k->
  (∀y∈names,y.2≠.cell)->k=.cell\/k=.free->names.lookup x=some .free
 | [],_,_,h,_,_=>by simp at h
 | (n,k0)::r,x,k,h,hc,hk=>by
  have ih:=@z9n env r x k
  rw [List.map_cons] at h
  cases hx:x == n with
  | true=>
   have hn:k0≠.cell:=hc (n,k0) List.mem_cons_self
   simp only[List.lookup_cons,hx]
   by_cases hcnd:(k0 == NameKind.free && env.scope.kind == .function && env.kindOf n == some .cell)=true
   ·have:k0=.free:=by
     simp only[Bool.and_eq_true,beq_iff_eq] at hcnd
     exact hcnd.1.1
    rw [this]
   ·dsimp only at h
    rw [if_neg hcnd] at h
    simp only[List.lookup_cons,hx] at h
    have h:k0=k:=by simpa using h
    subst h
    rcases hk with hk | hk
    ·exact absurd hk hn
    ·rw [hk]
  | false=>
   simp only[List.lookup_cons,hx]
   refine ih ?_ (fun y hy=>hc y (List.mem_cons_of_mem _ hy)) hk
   by_cases hcnd:(k0 == NameKind.free && env.scope.kind == .function && env.kindOf n == some .cell)=true
   ·dsimp only at h
    rw [if_pos hcnd] at h
    simp only[List.lookup_cons,hx] at h; exact h
   ·dsimp only at h
    rw [if_neg hcnd] at h
    simp only[List.lookup_cons,hx] at h; exact h
def z5y(X:Cx)(N':List Str)(scope:Scope)(cl:List (Str×Addr))(C:Addr)(s₀:Shared)(H₀:Hp)(ex:List Addr):Cx:=
 {X with N:=N',s₀:=s₀,H₀:=H₀,env:=compEnvC scope cl C X.env,outer:=X.stack,stack:=X.stack,ex:=ex,fn:=fun _=>false,pn:=[],xe:=fun _ _=>False}
def subσ(mp:List (Option Nat))(σ : St):St:=mp.map fun o=>match o with | none=>none | some i=>(σ[i]?).getD none
def compOk(N:List Str)(on inn:List (Str×NameKind))(N':List Str)(mp:List (Option Nat)):Bool:=
 mp.length == N'.length && (N'.zip mp).all fun p=>match p.2 with
  | none=>true
  | some i=>N[i]? == some p.1 && inn.lookup p.1 == some .free && on.lookup p.1 == some .cell
abbrev PIfv(X:Cx)(ifs:List Expr)(t:TT):Prop:=
 ∀(pins:List (Addr×Obj)) (s:Shared) (σ : St) (H:Hp) (Q:Bool->Hp->Prop),Inv X pins σ H s->t σ H Q->
  wpAny (model X.prog X.w) X.A (forIn ifs true fun c r=>if r=true then do let ok <- isTrue c X.env (eval c X.env); pure (ForInStep.yield ok) else pure (ForInStep.yield r)) (TP X pins σ Q) X.xe s
structure PIf(X:Cx)(ifs:List Expr)(t:TT):Prop where
 run:PIfv X ifs t
instance{X:Cx}{ifs:List Expr}{t:TT}:CoeFun (PIf X ifs t) (fun _=>PIfv X ifs t):=⟨PIf.run⟩
def q5v:TT:=fun _ H Q=>Q true H
theorem z8b{X:Cx}:PIf X [] q5v:=⟨fun pins s σ H Q I h=>wpAny_tests_nil ⟨H,I,h⟩⟩
theorem q6j{X:Cx}{c:Expr}{t:TT}(h:PT X c t):PIf X [c] t:=⟨fun pins s σ H Q I q=>wpAny_tests_one (h pins s σ H Q I q)⟩
theorem q1j{prog:Program}{w:World}{A:Around}{s:Shared}{elt target iter:PySem.Expr}{ifs:List PySem.Expr}{scope:Scope}{pos:Pos}{it acc:Value}{env:Env}{R:Result->Shared->Prop}(I:Nat->Shared->Prop)
  (turn:∀n s,I n s->wpAny (model prog w) A (pyNext it) (fun r s₁=>match r with
   | none=>R (.ok .next) s₁
   | some v=>wpAny (model prog w) A (letOwnedTupleGo target it v) (fun _ s₀=>wpAny (model prog w) A (assign target env v) (fun _ s₂=>
     wpAny (model prog w) A (forIn ifs true fun c r=>if r=true then do let ok <- isTrue c env (eval c env); pure (ForInStep.yield ok) else pure (ForInStep.yield r)) (fun ok s₃=>if ok=true then wpAny (model prog w) A (eval elt env) (fun x s₄=>
      wpAny (model prog w) A (call (.builtin "list.append") [acc,x]) (fun _ s₅=>∃m,m < n/\I m s₅) (fun _ _=>False) s₄) (fun _ _=>False) s₃
      else ∃m,m < n/\I m s₃) (fun _ _=>False) s₂)
     (fun _ _=>False) s₀) (fun _ _=>False) s₁) (fun _ _=>False) s)
  (n:Nat) (h:I n s):codeAny (model prog w) A (.compLoop (.ListComp elt [⟨target,iter,ifs,0⟩] scope pos) 0 it acc env) R s:=by
 refine codeAny_loop rfl I (fun n s hI=>?_) n h
 show wpAny _ A ((compTurn (.ListComp elt [⟨target,iter,ifs,0⟩] scope pos) 0 it acc env).onRaise (fun x=>do noteFrame x env; theTreesLotGoes x)) _ _ s
 refine wpAny_noted ?_
 rw [compTurn_list]
 refine wpAny_bind (wpAny_standAt (wpAny_bind (wpAny_mono (turn n s hI) (fun r s₁ h₁=>?_) fun _ _ h'=>h'.elim)))
 cases r with
 | none=>exact wpAny_pure h₁
 | some v=>
  refine wpAny_bind (wpAny_mono h₁ (fun _ s₀ h₀'=>?_) fun _ _ h'=>h'.elim)
  refine wpAny_bind (wpAny_mono h₀' (fun _ s₂ h₂=>?_) fun _ _ h'=>h'.elim)
  refine wpAny_bind (wpAny_mono h₂ (fun okb s₃ h₃=>?_) fun _ _ h'=>h'.elim)
  cases okb with
  | false=>exact wpAny_pure ⟨rfl,h₃⟩
  | true=>exact wpAny_bind (wpAny_bind (wpAny_mono h₃ (fun x s₄ h₄=>wpAny_bind (wpAny_mono h₄ (fun _ s₅ h₅=>wpAny_pure (wpAny_pure ⟨rfl,h₅⟩)) fun _ _ h'=>h'.elim)) fun _ _ h'=>h'.elim))
theorem Inv.track{X:Cx}{pins:List (Addr×Obj)}{σ : St}{H:Hp}{s:Shared}{a:Addr}{o:HO}(I:Inv X pins σ H s)(hn:H a=none)(f:FpOk X pins H a)(new:ObjOk X.prog X.w (upd H a o) s.heap a o):Inv X pins σ (upd H a o) s:=by
 obtain⟨_,f1,f2,f3,f4,f5⟩:=f
 have na:∀b u,H b=some u->b≠a:=fun b u e=>z2n e hn
 have J:=I.step (g':=s.gens) (t':=s.toks) (d':=s.drawn) (ch:=[a]) (h':=s.heap) (H':=upd H a o) (fun b hb=>by
   have e:b=a:=by simpa using hb
   subst e
   exact⟨f3,f1,f4,f5⟩) (fun b o _ _ _ e _=>e) (fun b o _ _ _ e _=>⟨o.slots,e⟩) (fun b o hb _ n=>by rw [z0o (by simpa using hb)]; exact n) (fun b o _ e=>⟨o,e⟩)
  (fun b xs e=>by rw [z0o (na b _ e)]; exact e) (fun b o u e=>by rw [z0o (na b _ e)]; exact e) (fun b ps e=>⟨#[],by rw [z0o (na b _ e),e]; simp⟩) (fun m hm=>hm) (fun b u e=>by
   by_cases hb:b=a
   ·subst hb; rw [z02] at e; cases e; exact new
   ·rw [z0o hb] at e
    exact(I.hok b u e).stay (fun c v _ q=>q) (fun c q=>by rw [z0o (na c _ q)]; exact q) fun c xs q=>by rw [z0o (na c _ q)]; exact q) I.bare
 exact J
def zpb(wi:TI)(g:TG)(tt:TT)(te:TE)(mp:List (Option Nat)):TE:=fun σ H Q=>wi σ H fun J H1=>∃W:Nat->Nat->List V->St->Hp->Prop,(∃m,W 0 m [] (subσ mp σ) H1)/\∀i m ys σ H,W i m ys σ H->
 (J.stop i H/\ys.length<=sizeLine/\∀p,H p=none->Q (.ref p) (upd H p (.lst ys)))\/(J.go i H/\ys.length < sizeLine/\∃N:List V->St->Hp->Prop,(∀ys' σ' H',N ys' σ' H'->∃m',m' < m/\W (i+1) m' ys' σ' H')/\∀x H',J.yld i H x H'->g x σ H' fun σ2 H2=>tt σ2 H2 fun b H3=>
  if b=true then te σ2 H3 (fun v H4=>N (ys++[v]) σ2 H4) else N ys σ2 H3)
structure CompS(X:Cx)(N':List Str)(scope:Scope)(mp:List (Option Nat)):Prop where
 kind:scope.kind=.function
 nocell:∀y∈scope.names,y.2≠.cell
 locs:∀y∈scope.names,y.2=.local->scope.names.lookup y.1=some .local
 frees:∀y∈scope.names,y.2=.free->X.env.scope.names.lookup y.1=some .cell
 ok:compOk X.N X.env.scope.names scope.names N' mp=true
theorem zy0{N:List Str}{on inn:List (Str×NameKind)}{N':List Str}{mp:List (Option Nat)}(h:compOk N on inn N' mp=true):mp.length=N'.length/\∀(j:Nat) (x:Str) (i:Nat),N'[j]?=some x->mp[j]?=some (some i)->N[i]?=some x/\inn.lookup x=some .free/\on.lookup x=some .cell:=by
 unfold compOk at h
 rw [Bool.and_eq_true] at h
 obtain⟨h1,h2⟩:=h
 refine⟨by simpa using h1,fun j x i e1 e2=>?_⟩
 have hm:(x,some i)∈N'.zip mp:=by
  refine List.mem_of_getElem? (i:=j) ?_
  rw [List.getElem?_zip_eq_some]
  exact⟨e1,e2⟩
 have q:=List.all_eq_true.mp h2 _ hm
 simp only[Bool.and_eq_true,beq_iff_eq] at q
 exact⟨q.1.1,q.1.2,q.2⟩
theorem subσ_get{mp:List (Option Nat)}{σ : St}{j:Nat}{v:V}(h:(subσ mp σ)[j]?=some (some v)):∃i,mp[j]?=some (some i)/\σ[i]?=some (some v):=by
 unfold subσ at h
 rw [List.getElem?_map] at h
 cases e:mp[j]? with
 | none=>rw [e] at h; cases h
 | some o=>
  rw [e] at h
  cases o with
  | none=>simp at h
  | some i=>
   refine⟨i,rfl,?_⟩
   cases e2 : σ[i]? with
   | none=>simp[e2] at h
   | some z=>
    simp[e2] at h
    rw [h]
section
variable{X:Cx}{pins:List (Addr×Obj)}{σ : St}{H:Hp}
theorem zsp{elt tg iter:Expr}{ifs:List Expr}{scope:Scope}{pos:Pos}{N':List Str}{mp:List (Option Nat)}{g:TG}{tt:TT}{te:TE}{s₂:Shared}{it:Addr}{fp:List Addr}{tn:Nat->Heap->Prop}{J:It}{cl:List (Str×Addr)}
  {Qe:V->Hp->Prop} {RR:Value->Addr->Result->Shared->Prop} {E:Value->Shared->Prop} (hc:X.calm=true) (S:CompS X N' scope mp)
  (hcl:∀x c,cl.lookup x=some c->X.env.cells.lookup x=some c) (hcf:∀y∈scope.names,y.2=.free->∃c,cl.lookup y.1=some c)
  (hg:∀C s₀ H₀ ex,PG (z5y X N' scope cl C s₀ H₀ ex) tg g) (ht:∀C s₀ H₀ ex,PIf (z5y X N' scope cl C s₀ H₀ ex) ifs tt) (he:∀C s₀ H₀ ex,PE (z5y X N' scope cl C s₀ H₀ ex) elt te)
  (I:Inv X pins σ H s₂) (T:Turn X.prog X.w X.K tg J fp it tn) (st:tn 0 s₂.heap) (hf:∀b∈fp,FpOk X pins H b)
  (hw:∃W:Nat->Nat->List V->St->Hp->Prop,(∃m,W 0 m [] (subσ mp σ) H)/\∀i m ys σ H,W i m ys σ H->
   (J.stop i H/\ys.length<=sizeLine/\∀p,H p=none->Qe (.ref p) (upd H p (.lst ys)))\/(J.go i H/\ys.length < sizeLine/\∃N:List V->St->Hp->Prop,(∀ys' σ' H',N ys' σ' H'->∃m',m' < m/\W (i+1) m' ys' σ' H')/\∀x H',J.yld i H x H'->g x σ H' fun σ2 H2=>tt σ2 H2 fun b H3=>
  if b=true then te σ2 H3 (fun v H4=>N (ys++[v]) σ2 H4) else N ys σ2 H3))
  (hR:∀(D C:Addr) (H':Hp) (s':Shared),Inv X pins σ H' s'->Qe (.ref D) H'->(∃m,s'.heap.Ns C m)->FpOk X pins H' C->RR (.ref D) C (.ok .next) s') :
  wpAny (model X.prog X.w) X.A (newList []) (fun acc s₃=>wpAny (model X.prog X.w) X.A (newFunctionEnv scope X.env.globals cl [] X.env.qual none .none (some X.env)) (fun cenv s₄=>
   codeAny (model X.prog X.w) X.A (.compStart (.ListComp elt [⟨tg,iter,ifs,0⟩] scope pos) 0 (.ref it) acc {cenv with scope:=relabel scope X.env}) (RR acc cenv.locals) s₄) E s₃) E s₂:=by
 obtain⟨W,⟨m0,w0⟩,turn⟩:=hw
 refine wpAny_newObj_type (wpAny_newFunctionEnv S.nocell (by intro y hy; simp at hy) (fun h₁ hns₁ hsb₁=>?_) S.kind)
 dsimp only at hns₁ hsb₁ |-
 generalize hH2:s₂.heap.push {cls:=.type "list",dict:=none,data:=.seq ([]:List Value).toArray}=H2 at hns₁ hsb₁ |-
 have hCs:H2.objs.size=s₂.heap.objs.size+1:=by rw [<- hH2,Heap.size_push]
 have I3:Inv X pins σ H {s₂ with heap:=H2}:=by
  rw [<- hH2]
  exact I.kept (t':=s₂.toks) fun b o e=>Heap.get?_push_of_some _ e
 have k1:∀b u,H2.get? b=some u->h₁.get? b=some u:=fun b u e=>hsb₁.extBut b u (Nat.ne_of_lt (Heap.lt_size e)) (Heap.get?_push_of_some _ e)
 have accOk:FpOk X pins H s₂.heap.objs.size:=I.fpOk (Nat.le_refl _) (I.hok.fresh (Nat.le_refl _))
 have COk:FpOk X pins H H2.objs.size:=I3.fpOk (Nat.le_refl _) (I3.hok.fresh (Nat.le_refl _))
 have fpLt:∀b∈fp,b < s₂.heap.objs.size:=fun b hb=>let ⟨o,e,_⟩:=T.obj 0 _ st b hb; Heap.lt_size e
 have accNf:s₂.heap.objs.size∉fp:=fun z=>absurd (fpLt _ z) (Nat.lt_irrefl _)
 have accNC:s₂.heap.objs.size≠H2.objs.size:=by rw [hCs]; exact Nat.ne_of_lt (Nat.lt_succ_self _)
 have exAll:∀b∈s₂.heap.objs.size::fp,FpOk X pins H b:=fun b hb=>(List.mem_cons.mp hb).elim (fun e=>e ▸ accOk) (hf b)
 have exNC:∀b∈s₂.heap.objs.size::fp,b≠H2.objs.size:=fun b hb=>(List.mem_cons.mp hb).elim (fun e=>e ▸ accNC) fun z=>Nat.ne_of_lt (Nat.lt_trans (fpLt b z) (by rw [hCs]; exact Nat.lt_succ_self _))
 have stkN:∀b,FpOk X pins H b->b∉frs X.stack:=fun b f z=>(List.mem_cons.mp (I.stkSub b z)).elim f.2.1 f.2.2.1
 have ok':(z5y X N' scope cl H2.objs.size {s₂ with heap:=H2} H (s₂.heap.objs.size::fp)).Ok:=by
  refine⟨I.ok.mod,S.kind,I.ok.glob,I.ok.blt,Nat.le_refl _,fun x y c h1 h2=>I.ok.inj x y c (hcl x c h1) (hcl y c h2),fun x hx=>?_,fun x c hx=>absurd hx (by show ¬ false=true; decide),I.ok.hd,I.ok.frames,.inl rfl,
   fun b hb=>⟨exNC b hb,fun x c e=>(exAll b hb).2.2.2.2.1 x c (hcl x c e)⟩,fun b o e=>I3.bs b o e,Nat.le_trans I.ok.bsz I3.sz,fun b o e hb=>?_,fun b hb=>stkN b (exAll b hb),I3.stack,I3.stkFree⟩
  ·have hx':(relabel scope X.env).names.lookup x=some .cell\/(relabel scope X.env).names.lookup x=some .free:=hx
   have hfree:scope.names.lookup x=some .free:=by
    rcases hx' with z | z
    ·exact z9n z S.nocell (.inl rfl)
    ·exact z9n z S.nocell (.inr rfl)
   exact hcf (x,.free) (PySem.mem_of_lookup hfree) rfl
  ·rcases(exAll b hb).2.2.2.1 with z | z
   ·exact I.ok.noex b o e z
   ·exact absurd (Nat.lt_of_lt_of_le (Heap.lt_size e) (Nat.le_trans I.ok.bsz z)) (Nat.lt_irrefl _)
 obtain⟨hml,hmp⟩:=zy0 S.ok
 let XC:=z5y X N' scope cl H2.objs.size {s₂ with heap:=H2} H (s₂.heap.objs.size::fp)
 have J4:Inv (z5y X N' scope cl H2.objs.size {s₂ with heap:=H2} H (s₂.heap.objs.size::fp)) [] (subσ mp σ) H {s₂ with heap:=h₁,toks:=s₂.toks+([]:List (Str×Value)).length}:=by
  refine⟨ok',rfl,I.bare,Un.kept k1,⟨_,hns₁,fun j x v e1 e2 e3=>?_⟩,fun x c e=>?_,COk.1,fun x c e=>I.freeC x c (hcl x c e),fun p hp=>absurd (show p∈([]:List (Addr×Obj)) from hp) (by simp),I3.hok.kept k1,by show(subσ mp σ).length=N'.length; unfold subσ; rw [List.length_map,hml]⟩
  ·obtain⟨i,q1,q2⟩:=subσ_get e2
   obtain⟨n1,n2,n3⟩:=hmp j x i e1 q1
   obtain⟨m,hn,hl⟩:=I3.loc
   obtain⟨u,ru,lk⟩:=hl i x v n1 q2 (.inr (.inl n3))
   refine⟨u,ru,?_⟩
   rcases lk with⟨z,_⟩ | ⟨_,c,ec,z⟩
   ·have z':X.env.scope.names.lookup x=some .local:=z
    rw [n3] at z'; cases z'
   ·obtain⟨c',ec'⟩:=hcf (x,.free) (PySem.mem_of_lookup n2) rfl
    have e4:=hcl x c' ec'
    rw [ec] at e4; cases e4
    refine .inr ⟨?_,c,ec',?_⟩
    ·have z3:(relabel scope X.env).names.lookup x=some .local\/(relabel scope X.env).names.lookup x=some .cell\/(relabel scope X.env).names.lookup x=some .free:=e3
     rcases z3 with z3 | z3 | z3
     ·exfalso
      have:∀(names:List (Str×NameKind)),names.lookup x=some .free->(names.map fun(n,k)=>if(k == NameKind.free && X.env.scope.kind == .function && X.env.kindOf n == some .cell) then(n,NameKind.cell) else(n,k)).lookup x≠some .local:=by
       intro names
       induction names with
       | nil=>intro h; simp at h
       | cons p r ih=>
        obtain⟨n,k⟩:=p
        intro h
        cases hx:x == n with
        | true=>
         simp only[List.lookup_cons,hx] at h
         cases h
         rw [List.map_cons]
         dsimp only
         split<;>simp[List.lookup_cons,hx]
        | false=>
         simp only[List.lookup_cons,hx] at h
         rw [List.map_cons]
         dsimp only
         split<;>(simp only[List.lookup_cons,hx]; exact ih h)
      exact this scope.names n2 z3
     ·exact .inl z3
     ·exact .inr z3
    ·obtain⟨o,ho,hd⟩:=z
     exact⟨o,k1 _ _ ho,hd⟩
  ·obtain⟨v,o,ho,hd⟩:=I3.cell x c (hcl x c e)
   exact⟨v,o,k1 _ _ ho,hd⟩
 have acc4:h₁.get? s₂.heap.objs.size=some {cls:=.type "list",data:=.seq ([]:List Value).toArray 0}:=k1 _ _ (by rw [<- hH2]; exact Heap.get?_push_size _ rfl)
 have st4:tn 0 h₁:=T.keep _ _ _ st fun b _ o e=>k1 b o (by rw [<- hH2]; exact Heap.get?_push_of_some _ e)
 have fp4:∀{H':Hp},(∀b∈fp,H' b=none)->∀b∈fp,FpOk (z5y X N' scope cl H2.objs.size {s₂ with heap:=H2} H (s₂.heap.objs.size::fp)) [] H' b:=fun hn b hb=>
  ⟨hn b hb,exNC b (List.mem_cons_of_mem _ hb),stkN b (hf b hb),.inl (List.mem_cons_of_mem _ hb),fun x c e=>(hf b hb).2.2.2.2.1 x c (hcl x c e),fun p hp=>absurd (show p∈([]:List (Addr×Obj)) from hp) (by simp)⟩
 have acc5:∀{H':Hp},H' s₂.heap.objs.size=none->FpOk (z5y X N' scope cl H2.objs.size {s₂ with heap:=H2} H (s₂.heap.objs.size::fp)) [] H' s₂.heap.objs.size:=fun hn=>
  ⟨hn,accNC,stkN _ accOk,.inl List.mem_cons_self,fun x c e=>accOk.2.2.2.2.1 x c (hcl x c e),fun p hp=>absurd (show p∈([]:List (Addr×Obj)) from hp) (by simp)⟩
 have loop:∀s₃:Shared,s₃ = {s₂ with heap:=h₁,toks:=s₂.toks+([]:List (Str×Value)).length}->
   codeAny (model X.prog X.w) X.A (.compLoop (.ListComp elt [⟨tg,iter,ifs,0⟩] scope pos) 0 (.ref it) (.ref s₂.heap.objs.size) (compEnvC scope cl H2.objs.size X.env)) (RR (.ref s₂.heap.objs.size) H2.objs.size) s₃:=by
  rintro s₃ rfl
  refine q1j (fun n s'=>∃i σ' H' ys its k,Inv (z5y X N' scope cl H2.objs.size {s₂ with heap:=H2} H (s₂.heap.objs.size::fp)) [] σ' H' s'/\tn i s'.heap/\(∀b∈fp,H' b=none)/\H' s₂.heap.objs.size=none/\
   Vals ys its/\s'.heap.get? s₂.heap.objs.size=some {cls:=.type "list",data:=.seq its.toArray k}/\W i n ys σ' H') ?_ m0 ⟨0,subσ mp σ,H,[],[],0,J4,st4,fun b hb=>(hf b hb).1,accOk.1,.nil,acc4,w0⟩
  rintro n s5 ⟨i,σ5,H5,ys,its,k,J5,st5,fr5,an5,vy,ea,w5⟩
  have zv:its.length=ys.length:=vy.length.symm
  have pinOk:∀{σ':St} {H':Hp} {s':Shared} {o:Obj},Inv XC [] σ' H' s'->H' s₂.heap.objs.size=none->s'.heap.get? s₂.heap.objs.size=some o->(∀v,o.data≠.cell v)->Inv XC [(s₂.heap.objs.size,o)] σ' H' s':=fun {σ' H' s' o} J a1 a2 a3=>J.pins_of fun p hp=>by
   have e:p=(s₂.heap.objs.size,o):=by simpa using hp
   subst e
   exact⟨a2,a1,accNC,stkN _ accOk,a3⟩
  have fp5:∀{H':Hp} {o:Obj},(∀b∈fp,H' b=none)->∀b∈fp,FpOk XC [(s₂.heap.objs.size,o)] H' b:=fun {H' o} hn b hb=>by
   obtain⟨c1,c2,c3,c4,c5,_⟩:=fp4 hn b hb
   refine⟨c1,c2,c3,c4,c5,fun p hp=>?_⟩
   have e:p=(s₂.heap.objs.size,o):=by
    have hp':p∈([]++[(s₂.heap.objs.size,o)]:List (Addr×Obj)):=hp
    simpa using hp'
   subst e
   intro z
   exact accNf (by rw [show s₂.heap.objs.size=b from z]; exact hb)
  have noc:∀(us:List Value) (k:Nat) (v:Option Value),({cls:=.type "list",data:=.seq us.toArray k}:Obj).data≠.cell v:=fun us k v z=>by
   have z':Data.seq us.toArray k=Data.cell v:=z
   cases z'
  have J5p:=pinOk J5 an5 ea (noc its k)
  rcases turn i n ys σ5 H5 w5 with⟨stop,zl,qn⟩ | ⟨go,zl,N,hN,step⟩
  ·refine thn (T.done XC rfl rfl rfl hc i _ s5 σ5 H5 _ J5p (fp5 fr5) st5 stop) fun r s6 ⟨hr,J6⟩=>?_
   subst hr
   have I6:Inv X pins σ H5 s6:=I3.call' (ch:=s₂.heap.objs.size::fp) (show s6.os=_ from J6.os) J6.base J6.hok J6.bare fun b hb=>let ⟨_,a1,_,a3,a4,a5⟩:=exAll b hb; ⟨a3,a1,a4,a5⟩
   have ea6:s6.heap.get? s₂.heap.objs.size=some {cls:=.type "list",data:=.seq its.toArray k}:=(J6.pin _ (List.mem_append_right _ (List.mem_singleton.mpr rfl))).1
   have I7:Inv X pins σ (upd H5 s₂.heap.objs.size (.lst ys)) s6:=I6.track an5 ⟨an5,accOk.2⟩ ⟨zl,its,k,vy,ea6⟩
   obtain⟨m,hm,_⟩:=J6.loc
   exact hR _ _ _ s6 I7 (qn _ an5) ⟨m,hm⟩ ⟨by rw [z0o (Ne.symm accNC)]; exact J6.free,COk.2⟩
  ·refine thn (T.item XC rfl rfl rfl hc i _ s5 σ5 H5 _ J5p (fp5 fr5) st5 go) fun r s6 ⟨u,hr,h6⟩=>?_
   subst hr
   refine thn h6 fun _ s7 ⟨x,H7,J7,r7,y7,st7,fr7⟩=>?_
   have an7:H7 s₂.heap.objs.size=none:=(J7.pin _ (List.mem_append_right _ (List.mem_singleton.mpr rfl))).2.1
   have J7':=J7.pinned (fp5 fr7) (T.obj _ _ st7)
   refine thn (hg _ _ _ _ _ s7 σ5 H7 x u _ J7' r7 (step x H7 y7)) fun _ s8 ⟨σ8,H8,J8,q8⟩=>?_
   refine thn (ht _ _ _ _ _ s8 σ8 H8 _ J8 q8) fun b s9 ⟨H9,J9,q9⟩=>?_
   have qcf:∀{σ':St} {H':Hp} {s':Shared},Inv XC ([(s₂.heap.objs.size,({cls:=.type "list",data:=.seq its.toArray k}:Obj))]++zr9 fp s7.heap) σ' H' s'->
     Inv XC [] σ' H' s'/\tn (i+1) s'.heap/\(∀b∈fp,H' b=none)/\H' s₂.heap.objs.size=none/\s'.heap.get? s₂.heap.objs.size=some {cls:=.type "list",data:=.seq its.toArray k}:=fun {σ' H' s'} K=>by
    have pa:=K.pin (s₂.heap.objs.size,{cls:=.type "list",data:=.seq its.toArray k}) (List.mem_append_right _ (List.mem_append_left _ (List.mem_singleton.mpr rfl)))
    refine⟨K.pins_of (fun p hp=>absurd hp (by simp)),T.keep _ _ _ st7 fun b hb o e=>(K.pin (b,o) (List.mem_append_right _ (List.mem_append_right _ (zdr hb e)))).1,fun b hb=>?_,pa.2.1,pa.1⟩
    obtain⟨o,e,d⟩:=T.obj _ _ st7 b hb
    exact(K.pin (b,o) (List.mem_append_right _ (List.mem_append_right _ (zdr hb e)))).2.1
   cases b with
   | false=>
    rw [if_neg Bool.false_ne_true] at q9
    rw [if_neg Bool.false_ne_true]
    obtain⟨m',hm',w'⟩:=hN _ _ _ q9
    obtain⟨K1,K2,K3,K4,K5⟩:=qcf J9
    exact⟨m',hm',i+1,σ8,H9,ys,its,k,K1,K2,K3,K4,vy,K5,w'⟩
   | true=>
    rw [if_pos rfl] at q9
    rw [if_pos rfl]
    refine thn (he _ _ _ _ _ s9 σ8 H9 _ J9 q9) fun z s10 ⟨v,H10,J10,r10,q10⟩=>?_
    obtain⟨m',hm',w'⟩:=hN _ _ _ q10
    obtain⟨K1,K2,K3,K4,K5⟩:=qcf J10
    refine call_meets F.slot_list_append ⟨_,K5,rfl⟩ F.entry_list_append (F.args_list_append_2 _ _) (PySem.list_append s₂.heap.objs.size its.toArray k z (by rw [List.size_toArray]; omega)) ⟨K5,?_⟩
    have qa:=PySem.IsL.update K5 (fun x_1=>x_1.push z)
    have eqa:its.toArray.push z=(its++[z]).toArray:=by simp
    rw [eqa] at qa
    have kk:∀b o,b≠s₂.heap.objs.size->s10.heap.get? b=some o->(s10.heap.update s₂.heap.objs.size (Obj.mapSeq fun x_1=>x_1.push z)).get? b=some o:=fun b o hb hu=>(Heap.get?_update_other s10.heap (Obj.mapSeq fun x_1=>x_1.push z) (Ne.symm hb)).trans hu
    obtain⟨d0,d1,d2,d3,d4,d5⟩:=acc5 K4
    have K1':=K1.turned (h':=s10.heap.update s₂.heap.objs.size (Obj.mapSeq fun x_1=>x_1.push z)) (t':=s10.toks) kk d0 d1 d3 d4 d5
    exact⟨m',hm',i+1,σ8,H10,ys++[v],its++[z],_,K1',T.keep _ _ _ K2 (fun b hb o e=>kk b o (fun y=>accNf (by rw [<- y]; exact hb)) e),K3,K4,vy.append (.cons r10 .nil),qa,w'⟩
 exact codeAny_compStart_list (loop _ rfl) (T.self _ _ _ _ _ st4 (loop _ rfl))
theorem z8c{elt tg iter:Expr}{ifs:List Expr}{scope:Scope}{pos:Pos}(N':List Str)(mp:List (Option Nat)){wi:TI}{g:TG}{tt:TT}{te:TE}(hc:X.calm=true)(S:CompS X N' scope mp)(hi:PI X tg iter wi)
  (hg:∀cl C s₀ H₀ ex,PG (z5y X N' scope cl C s₀ H₀ ex) tg g) (ht:∀cl C s₀ H₀ ex,PIf (z5y X N' scope cl C s₀ H₀ ex) ifs tt) (he:∀cl C s₀ H₀ ex,PE (z5y X N' scope cl C s₀ H₀ ex) elt te)
  (hs:∀x,foldedSetIterable iter X.env x=pure x:=by intro _; rfl):PE X (.ListComp elt [⟨tg,iter,ifs,0⟩] scope pos) (zpb wi g tt te mp):=by
 refine⟨?_⟩
 intro pins s σ H Q I h
 obtain⟨cl,e0,e1,e2⟩:=q1m (scope:=scope) (env:=X.env) fun y hy hf=>I.ok.has y.1 (.inl (S.frees y hy hf))
 rw [eval_ListComp]
 refine wpAny_comprehension_free (use:=none) rfl hs e0 S.kind S.locs (thn (hi pins s σ H _ I h) fun v s1 h1=>thn h1 fun itv s2 h2=>?_)
 obtain⟨it,fp,tn,J,H2,e,I2,T,st2,f2,hw⟩:=h2
 subst e
 refine zsp (Qe:=Q) (RR:=fun acc C=>compPost (model X.prog X.w) X.A X.xe none (EP X pins σ Q) acc C) hc S e1 e2 (hg cl) (ht cl) (he cl) I2 T st2 f2 hw fun D C H' s' I' q ⟨m,hm⟩ ⟨f0,f1,_,f3,f4,f5⟩=>?_
 exact⟨m,hm,fun h' sb=>⟨.ref D,H',I'.turned (t':=s'.toks) (fun b o hb e=>(sb.2 b hb).trans e) f0 f1 f3 f4 f5,rfl,q⟩⟩
theorem q6g{elt tg iter:Expr}{ifs:List Expr}{scope:Scope}{pos pos' cpos:Pos}{i:Nat}{x:Str}(N':List Str)(mp:List (Option Nat)){wi:TI}{g:TG}{tt:TT}{te:TE}(hN:X.N.Nodup)(hxi:X.N[i]?=some x)(hx:Loc X.env.scope x)
  (hc:X.calm=true) (S:CompS X N' scope mp) (hi:PI X tg iter wi)
  (hg:∀cl C s₀ H₀ ex,PG (z5y X N' scope cl C s₀ H₀ ex) tg g) (ht:∀cl C s₀ H₀ ex,PIf (z5y X N' scope cl C s₀ H₀ ex) ifs tt) (he:∀cl C s₀ H₀ ex,PE (z5y X N' scope cl C s₀ H₀ ex) elt te)
  (hsw:swapsWith (.ListComp elt [⟨tg,iter,ifs,0⟩] scope cpos) (some (.Name x pos')) pos.line X.env=pure true:=by rfl)
  (hs:∀x,foldedSetIterable iter X.env x=pure x:=by intro _; rfl) (hf:X.fn x=true\/X.env.scope.names.lookup x=some .local:=by first | exact .inl rfl | exact .inr rfl | assumption) :
  PS X (.Assign [.Name x pos'] (.ListComp elt [⟨tg,iter,ifs,0⟩] scope cpos) pos) (q8m (zpb wi g tt te mp) (zci i)):=by
 refine⟨?_⟩
 intro pins s σ H D I h
 obtain⟨cl,e0,e1,e2⟩:=q1m (scope:=scope) (env:=X.env) fun y hy hf=>I.ok.has y.1 (.inl (S.frees y hy hf))
 rw [exec_Assign_Name_used _ _ _ _ hsw]
 refine wpAny_bind (wpAny_standAt (wpAny_bind ?_))
 show wpAny _ X.A (do let _ <- comprehension (.ListComp elt [⟨tg,iter,ifs,0⟩] scope cpos) scope X.env _ (newList []) false (eval iter X.env) (some (assign (.Name x pos') X.env))) _ _ s
 refine wpAny_bind (wpAny_mono (wpAny_comprehension_free (use:=some (assign (.Name x pos') X.env)) (Q:=fun _ s'=>SP X pins D .next s') rfl hs e0 S.kind S.locs
  (thn (hi pins s σ H _ I h) fun v s1 h1=>thn h1 fun itv s2 h2=>?_)) (fun _ s' hq=>wpAny_pure (wpAny_pure hq)) fun _ _ e=>e)
 obtain⟨it,fp,tn,J,H2,e,I2,T,st2,f2,hw⟩:=h2
 subst e
 refine zsp (Qe:=fun x H1=>zci i x σ H1 D.nx) (RR:=fun acc C=>compPost (model X.prog X.w) X.A X.xe (some (assign (.Name x pos') X.env)) (fun _ s'=>SP X pins D .next s') acc C) hc S e1 e2 (hg cl) (ht cl) (he cl) I2 T st2 f2 hw fun D' C H' s' I' q ⟨m,hm⟩ ⟨f0,f1,_,f3,f4,f5⟩=>?_
 show wpAny _ X.A (assign (.Name x pos') X.env (.ref D')) _ _ _
 refine wpAny_assign_Name (zqy I' hN hxi hx (v:=.ref D') rfl (fun s'' I'' ⟨a,sb,ha⟩=>?_) hf)
 have hCa:C≠a:=by
  rcases ha with ha | ha
  ·rw [ha]; exact f1
  ·exact fun z=>f4 x a ha z.symm
 refine⟨m,hm.sameBut sb hCa,fun h' sb'=>?_⟩
 rw [zci,zlk] at q
 exact⟨_,H',I''.turned (t':=s''.toks) (fun b o hb e=>(sb'.2 b hb).trans e) f0 f1 f3 f4 f5,q⟩
end
section
variable{K:PySem.W.Frag}{a:Addr}{xs:List V}{g:TG}{tt:TT}{te:TE}{σ : St}{H:Hp}{Q:VK}
abbrev zfm(J:It)(g:TG)(tt:TT)(te:TE)(Q:VK)(σ : St)(H:Hp):Prop:=∃W:Nat->Nat->List V->St->Hp->Prop,(∃m,W 0 m [] σ H)/\∀i m ys σ H,W i m ys σ H->
 (J.stop i H/\ys.length<=sizeLine/\∀p,H p=none->Q (.ref p) (upd H p (.lst ys)))\/(J.go i H/\ys.length < sizeLine/\∃N:List V->St->Hp->Prop,(∀ys' σ' H',N ys' σ' H'->∃m',m' < m/\W (i+1) m' ys' σ' H')/\∀x H',J.yld i H x H'->g x σ H' fun σ2 H2=>tt σ2 H2 fun b H3=>
  if b=true then te σ2 H3 (fun v H4=>N (ys++[v]) σ2 H4) else N ys σ2 H3)
theorem znb(Pv:Nat->List V->St->Hp->Prop)(h0:Pv 0 [] σ H)(hz:xs.length < sizeLine)(hy:∀i ys σ H,Pv i ys σ H->ys.length<=i)(hl:∀i ys σ H,i<=xs.length->Pv i ys σ H->SqL K H a xs)
  (hs:∀i ys x σ H,xs[i]?=some x->Pv i ys σ H->g x σ H fun σ2 H2=>tt σ2 H2 fun b H3=>if b=true then te σ2 H3 (fun v H4=>Pv (i+1) (ys++[v]) σ2 H4) else Pv (i+1) ys σ2 H3)
  (hd:∀ys σ H,Pv xs.length ys σ H->∀p,H p=none->Q (.ref p) (upd H p (.lst ys))):zfm (Itl K a) g tt te Q σ H:=by
 refine⟨fun i m ys σ H=>m=xs.length - i/\i<=xs.length/\Pv i ys σ H,⟨xs.length,by simp,Nat.zero_le _,h0⟩,?_⟩
 rintro i m ys σ H ⟨rfl,hi,p⟩
 have q:=hl i ys σ H hi p
 have hyl:=hy i ys σ H p
 by_cases hlt:i < xs.length
 ·refine .inr ⟨⟨xs,xs[i],q,by simp[hlt]⟩,by omega,Pv (i+1),fun ys' σ' H' p'=>⟨xs.length - (i+1),by omega,rfl,hlt,p'⟩,fun x H' y=>?_⟩
  obtain⟨e,y⟩:=y
  subst e
  exact hs i ys x σ _ (y xs q) p
 ·have e:i=xs.length:=by omega
  subst e
  exact .inl ⟨⟨xs,q,Nat.le_refl _⟩,by omega,hd ys σ H p⟩
theorem zkr(Pv:Nat->List V->St->Hp->Prop)(h0:Pv 0 [] σ H)(hz:xs.length < sizeLine)(hy:∀i ys σ H,Pv i ys σ H->ys.length<=i)(hl:∀i ys σ H,i<=xs.length->Pv i ys σ H->SqT K H a xs)
  (hs:∀i ys x σ H,xs[i]?=some x->Pv i ys σ H->g x σ H fun σ2 H2=>tt σ2 H2 fun b H3=>if b=true then te σ2 H3 (fun v H4=>Pv (i+1) (ys++[v]) σ2 H4) else Pv (i+1) ys σ2 H3)
  (hd:∀ys σ H,Pv xs.length ys σ H->∀p,H p=none->Q (.ref p) (upd H p (.lst ys))):zfm (Itt K a) g tt te Q σ H:=by
 refine⟨fun i m ys σ H=>m=xs.length - i/\i<=xs.length/\Pv i ys σ H,⟨xs.length,by simp,Nat.zero_le _,h0⟩,?_⟩
 rintro i m ys σ H ⟨rfl,hi,p⟩
 have q:=hl i ys σ H hi p
 have hyl:=hy i ys σ H p
 by_cases hlt:i < xs.length
 ·refine .inr ⟨⟨xs,xs[i],q,by simp[hlt]⟩,by omega,Pv (i+1),fun ys' σ' H' p'=>⟨xs.length - (i+1),by omega,rfl,hlt,p'⟩,fun x H' y=>?_⟩
  obtain⟨e,y⟩:=y
  subst e
  exact hs i ys x σ _ (y xs q) p
 ·have e:i=xs.length:=by omega
  subst e
  exact .inl ⟨⟨xs,q,Nat.le_refl _⟩,by omega,hd ys σ H p⟩
end
end L2
set_option Elab.async false
set_option linter.all false
set_option maxRecDepth 100000
namespace L2
open PySem PySem.Spec PyProof.Rows
section
variable{X:Cx}
def zoq(K:PySem.W.Frag):R2:=fun x y H Q=>∃a b xs ys,x=.ref a/\y=.ref b/\SqT K H a xs/\SqT K H b ys/\xs.length+ys.length<=sizeLine/\
 (xs=[]->Q (.ref b) H)/\(xs≠[]->ys=[]->Q (.ref a) H)/\(xs≠[]->ys≠[]->∀p,H p=none->Q (.ref p) (upd H p (.tup (xs++ys))))
theorem z2x:OpR X (binaryOp .Add) (zoq X.K):=by
 intro pins s σ H x y v u Q I rx ry h
 obtain⟨a,b,xs,ys,rfl,rfl,ha,hb,hz,q0,q1,q2⟩:=h
 by_cases hx:xs=[]
 ·cases rx
  cases ry
  obtain⟨its,r1,p1,_⟩:=I.tuple ha
  obtain⟨its2,r2,p2,_⟩:=I.tuple hb
  obtain⟨⟨cls,dd,data,sl⟩,ho,hc,n,hd⟩:=id p1
  obtain⟨⟨cls2,dd2,data2,sl2⟩,ho2,hc2,n2,hd2⟩:=id p2
  simp only at hc hd hc2 hd2
  subst hc hd hc2 hd2
  have he:its=[]:=r1.nil_iff.mpr hx
  exact concat_meets ⟨_,ho,rfl⟩ ⟨_,ho2,rfl⟩ noFill_tuple_add seq_tuple_add PySem.F.slot_tuple_add PySem.F.entry_tuple_add (PySem.F.args_tuple_add_2 _ _)
   (tuple_addW0 a b its.toArray its2.toArray n n2 dd dd2 sl sl2 (by simp[he])) ⟨ho,ho2,⟨.ref b,H,I,rfl,q0 hx⟩⟩
 ·exact q6u pins s σ H _ _ v u Q I rx ry ⟨a,b,xs,ys,rfl,rfl,ha,hb,hx,hz,q1 hx,q2 hx⟩
def zsn:V->PyData
 | .bl b=>.bool b
 | .int i=>.int i
 | .str x=>.str x
 | _=>.none
theorem zwy{h:Heap}{x:V}{u:Value}(r:RelV x u)(f:zs2 x=true):Reads h u (zsn x) []:=by
 cases x with
 | non=>cases r; exact .none
 | bl b=>cases r; exact .bool b
 | int i=>obtain⟨t,rfl⟩:=r; exact .int i t
 | str z=>obtain⟨t,rfl⟩:=r; exact .str z t
 | _=>exact absurd (show false=true from f) Bool.false_ne_true
theorem zg3{h:Heap}:∀{xs:List V} {us:List Value},Vals xs us->xs.all zs2=true->ReadsAll h us (xs.map zsn) []
 | _,_,.nil,_=>.nil
 | _::_,_::_,.cons r t,f=>by
  rw [List.all_cons,Bool.and_eq_true] at f
  exact .cons (zwy r f.1) (zg3 t f.2)
def okV:V->Bool
 | .non=>true
 | .bl _=>true
 | .int _=>true
 | .str z=>PyData.strOk z
 | _=>false
theorem okV.flat{x:V}(h:okV x=true):zs2 x=true:=by
 cases x<;>first | rfl | exact absurd (show false=true from h) Bool.false_ne_true
theorem okV.all{xs:List V}(h:xs.all okV=true):xs.all zs2=true:=List.all_eq_true.mpr fun x hx=>okV.flat (List.all_eq_true.mp h x hx)
theorem zvm:∀(xs:List V),xs.all okV=true->PyData.canLayAll0 (xs.map zsn)=true/\PyData.depthAll (xs.map zsn)<=1
 | [],_=>by simp[PyData.canLayAll0,PyData.depthAll]
 | x::xs,hz=>by
  rw [List.all_cons,Bool.and_eq_true] at hz
  have h1:(zsn x).canLay0=true/\(zsn x).depth<=1:=by
   cases x with
   | str z=>exact⟨by simpa [zsn,PyData.canLay0,okV] using hz.1,by simp[zsn,PyData.depth]⟩
   | _=>exact⟨by simp[zsn,PyData.canLay0],by simp[zsn,PyData.depth]⟩
  have h2:=zvm xs hz.2
  simp only[List.map_cons,PyData.canLayAll0,PyData.depthAll,h1.1,h2.1,Bool.and_self,true_and]
  have a1:=h1.2
  have a2:=h2.2
  omega
theorem zb2{xs:List V}(h:xs.all okV=true):SeqAt.shaped (.list (xs.map zsn))=true:=by
 have q:=zvm xs h
 unfold SeqAt.shaped
 simp only[PyData.canLay0,PyData.depth,q.1,Bool.true_and]
 have:=q.2
 exact decide_eq_true (by omega)
theorem Inv.readsL{pins:List (Addr×Obj)}{σ : St}{H:Hp}{s:Shared}{a:Addr}{xs:List V}(I:Inv X pins σ H s)(h:SqL X.K H a xs)(f:xs.all okV=true):∃as,Reads s.heap (.ref a) (.list (xs.map zsn)) as:=by
 obtain⟨its,r,⟨o,n,e,c,_,d⟩,_⟩:=I.list h
 exact⟨_,.list e c d (by simpa using zg3 r (okV.all f))⟩
def eqL(xs ys:List V):Bool:=PyData.eqv (.list (xs.map zsn)) (.list (ys.map zsn))
def qcz(K:PySem.W.Frag)(neg:Bool):R2:=fun x y H Q=>∃a b xs ys,x=.ref a/\y=.ref b/\SqL K H a xs/\SqL K H b ys/\xs.all okV=true/\ys.all okV=true/\Q (.bl (if neg then !eqL xs ys else eqL xs ys)) H
theorem q9a(hu:X.A.units+64 < cLine):OpR X (compareOp .Eq) (qcz X.K false):=by
 intro pins s σ H x y v u Q I rx ry h
 obtain⟨a,b,xs,ys,rfl,rfl,ha,hb,fa,fb,q⟩:=h
 cases rx; cases ry
 obtain⟨as,ra⟩:=I.readsL ha fa
 obtain⟨bs,rb⟩:=I.readsL hb fb
 exact eq_dataH ra rb (zb2 fa) (zb2 fb) hu ⟨.bl _,H,I,rfl,q⟩
theorem q94(hu:X.A.units+64 < cLine):OpR X (compareOp .NotEq) (qcz X.K true):=by
 intro pins s σ H x y v u Q I rx ry h
 obtain⟨a,b,xs,ys,rfl,rfl,ha,hb,fa,fb,q⟩:=h
 cases rx; cases ry
 obtain⟨as,ra⟩:=I.readsL ha fa
 obtain⟨bs,rb⟩:=I.readsL hb fb
 exact ne_dataH ra rb (zb2 fa) (zb2 fb) hu ⟨.bl _,H,I,rfl,q⟩
theorem q7e(xs:List V):eqL xs []=xs.isEmpty:=by
 cases xs<;>simp[eqL,PyData.eqv,PyData.eqvAll]
theorem q3f:OpR X (compareOp .Is) (fun x y H Q=>∃a b,x=.bl a/\y=.bl b/\Q (.bl (a == b)) H):=by
 intro pins s σ H x y v u Q I rx ry h
 obtain⟨i,j,rfl,rfl,q⟩:=h
 cases rx; cases ry
 exact is_bool ⟨.bl _,H,I,rfl,q⟩
theorem ztm:OpR X (compareOp .IsNot) (fun x y H Q=>∃a b,x=.bl a/\y=.bl b/\Q (.bl (a !=b)) H):=by
 intro pins s σ H x y v u Q I rx ry h
 obtain⟨i,j,rfl,rfl,q⟩:=h
 cases rx; cases ry
 exact isnot_bool ⟨.bl _,H,I,rfl,q⟩
theorem zup:zbs X (.builtin "isinstance") (fun xs H Q=>∃x n t b,xs=[x,.ty n]/\TyOf X.K H x t/\PySem.W.kitOne X.K t (.type n)=some b/\Q (.bl b) H):=by
 intro pins s σ H xs us Q I r h
 obtain⟨x,n,t,b,rfl,ty,e,q⟩:=h
 obtain⟨u,u2,rfl,r1,r2⟩:=r.two
 cases r2
 exact q0e I r1 ty e fun tk=>⟨.bl b,H,I.tok tk,rfl,q⟩
theorem znj:∀{bs:List Bool} {us:List Value},Vals (bs.map V.bl) us->us=bs.map Value.bool
 | [],_,.nil=>rfl
 | b::bs,_::_,.cons r t=>by
  cases r
  rw [znj t]; rfl
theorem zh8(hh:X.calm=true):zbs X (.builtin "all") (fun xs H Q=>∃(p:Addr) (bs:List Bool),xs=[.ref p]/\SqL X.K H p (bs.map V.bl)/\Q (.bl (bs.all id)) H):=by
 intro pins s σ H xs us Q I r h
 obtain⟨p,bs,rfl,hq,q⟩:=h
 obtain⟨u,rfl,r1⟩:=r.one
 cases r1
 obtain⟨its,rv,pl,hz⟩:=I.list hq
 have eb:=znj rv
 subst eb
 have hl:=pl.isList
 have hlt:p < s.heap.objs.size:=by obtain⟨_,e,_⟩:=hl; exact Heap.lt_size e
 refine call_all_walk (wpAny_pyIter_list hl ?_)
 refine⟨s.heap.objs.size,[s.heap.objs.size,p],[s.heap.objs.size],(bs.map Value.bool).toArray.size,_,_,fun i=>(bs[i]?).getD true,rfl,Walks.list (A:=X.A.in1) (I.ok.hd hh) _ p (Nat.ne_of_lt hlt) (bs.map Value.bool).toArray,
  ⟨⟨_,Heap.get?_push_size _ rfl,rfl,rfl⟩,hl.push _⟩,fun i v s' Q' E' hP hQ=>?_,fun h' tk hk=>?_⟩
 ·have e:(bs.map Value.bool)[i]?=some v:=by simpa using hP
  rw [List.getElem?_map] at e
  cases eb:bs[i]? with
  | none=>rw [eb] at e; cases e
  | some b=>
   rw [eb] at e
   have e':Value.bool b=v:=Option.some.inj e
   subst e'
   simp only[eb,Option.getD_some] at hQ
   exact wpAny_truthy_bool hQ
 ·have e:((List.range (bs.map Value.bool).toArray.size).all fun i=>(bs[i]?).getD true)=bs.all id:=by
   have z:(bs.map Value.bool).toArray.size=bs.length:=by simp
   rw [z,Bool.eq_iff_iff,List.all_eq_true,List.all_eq_true]
   constructor
   ·intro h b hb
    obtain⟨i,hi,rfl⟩:=List.getElem_of_mem hb
    have:=h i (List.mem_range.mpr hi)
    simpa [List.getElem?_eq_getElem hi] using this
   ·intro h i hi
    have hi':=List.mem_range.mp hi
    simp only[List.getElem?_eq_getElem hi',Option.getD_some]
    exact h _ (List.getElem_mem hi')
  rw [e]
  exact⟨.bl _,H,I.kept (fun b o e=>hk b o (fun hm=>by rw [List.mem_singleton.mp hm] at e; exact Nat.lt_irrefl _ (Heap.lt_size e)) (Heap.get?_push_of_some _ e)),rfl,q⟩
def Its(z:Str):It:=⟨fun i _=>i < z.cps.size,fun i H x H'=>H'=H/\∃c,z.cps[i]?=some c/\x=.str ⟨#[c]⟩,fun i _=>i=z.cps.size⟩
def qdo(tl:TE):TI:=fun σ H R=>tl σ H fun x H1=>∃z,x=.str z/\R (Its z) H1
open PySem.AutoSeq1 (wpAny_loadPart') in
theorem q84(l:Addr)(items:Array Value)(n:Nat)(dd:Option Addr)(sl:Array (Option Value))(x:Int)(u:Tok)(h2:2<=x)(hx:x < 2 ^ 62)(hne:items.isEmpty=false)(hz:items.size * x.toNat<=sizeLine) :
  Meets (Builtin.«tuple.__mul__» ⟨[.ref l,.int x u],[]⟩) (fun _ R s=>s.heap.get? l=some {cls:=.type "tuple",dict:=dd,data:=.seq items n,slots:=sl}/\R (.ok (.ret (Value.ref s.heap.objs.size))) {s with heap:=s.heap.push {cls:=Value.type "tuple",data:=Data.seq (List.foldl (fun x1 x2=>x1++x2) #[] (List.replicate x.toNat items))},toks:=s.toks}):=
 .of_wp fun prog w A R s h=>by
  obtain⟨hp,g,d,tk,os⟩:=s; obtain⟨hl,h⟩:=h
  have f1:=AutoSeq1.idx_int
  have hs:sizeLine=16777216:=sizeLine_eq
  have hm:((items.size * x.toNat:Nat):Int)=(items.size:Int) * x:=by
   rw [Int.natCast_mul,Int.toNat_of_nonneg (by omega)]
  have c0:¬ (decide (x < -2 ^ 63) || decide (x ≥ 2 ^ 63))=true:=by
   simp only[Bool.or_eq_true,decide_eq_true_eq,not_or]
   omega
  have c1:¬ (items.isEmpty || x == 1)=true:=by
   rw [hne,Bool.false_or]
   simp only[beq_iff_eq]
   omega
  have c2:¬ (decide (x<=0) || items.isEmpty)=true:=by
   rw [hne,Bool.or_false]
   simp only[decide_eq_true_eq]
   omega
  have c3:¬ ((items.size:Int) * x > (2 ^ 63 - 1) / 8):=by
   rw [<- hm]
   have:(2 ^ 63 - 1:Int) / 8=1152921504606846975:=by decide
   rw [this]
   omega
  have c4:¬ Builtin.Tuple.tupleTooMany ((items.size:Int) * x)=true:=by
   unfold Builtin.Tuple.tupleTooMany
   simp only[decide_eq_true_eq]
   rw [<- hm]
   omega
  wp_walk using wpAny_loadPart' hl
  refine PySem.W.KFB.if_not (Bool.eq_false_iff.mpr c0) ?_
  wp_walk using wpAny_loadPart' hl
  refine PySem.W.KFB.if_not (Bool.eq_false_iff.mpr c1) ?_
  refine PySem.W.KFB.if_not (Bool.eq_false_iff.mpr c2) ?_
  dsimp only
  rw [if_neg c3]
  refine PySem.W.KFB.if_not (Bool.eq_false_iff.mpr c4) ?_
  refine wpAny_bind (wpAny_newObj_type (wpAny_pure ⟨_,rfl,h⟩) ?_)
  show(List.foldl (fun x1 x2=>x1++x2) #[] (List.replicate x.toNat items)).size<=sizeLine
  have e:=zs1 items.toList x.toNat []
  rw [List.nil_append] at e
  have e2:items.toList.toArray=items:=by simp
  rw [e2] at e
  rw [show([]:List Value).toArray = #[] from rfl] at e
  rw [e,List.size_toArray,q73,Array.length_toList,Nat.mul_comm]
  exact hz
def q6c(K:PySem.W.Frag):R2:=fun x y H Q=>∃l k xs,x=.ref l/\y=.int k/\SqT K H l xs/\2<=k/\k < 2 ^ 62/\xs≠[]/\xs.length * k.toNat<=sizeLine/\
 ∀p,H p=none->Q (.ref p) (upd H p (.tup (List.replicate k.toNat xs).flatten))
end
end L2
set_option Elab.async false
set_option linter.all false
set_option maxRecDepth 100000
namespace L2
open PySem PySem.Spec PyProof.Rows
section
variable{X:Cx}
def Seq(K:PySem.W.Frag)(H:Hp)(a:Addr):Prop:=(∃xs,SqL K H a xs)\/∃xs,SqT K H a xs
theorem q3h(hu:X.A.units+64 < cLine):OpR X (compareOp .Eq) (fun x y H Q=>∃a z,x=.ref a/\y=.str z/\Seq X.K H a/\Q (.bl false) H):=by
 intro pins s σ H x y v u Q I rx ry h
 obtain⟨a,z,rfl,rfl,hq,q⟩:=h
 cases rx
 obtain⟨t,rfl⟩:=ry
 show wpAny _ _ (richCompare .Eq _ _) _ _ _
 rcases hq with⟨xs,hq⟩ | ⟨xs,hq⟩
 ·obtain⟨its,r,pl,hz⟩:=I.list hq
  exact SeqAt.RcAt.list_str z t pl.isList (by omega) _ _ _ _ ⟨.bl false,H,I,rfl,q⟩
 ·obtain⟨its,r,pl,hz⟩:=I.tuple hq
  exact SeqAt.RcAt.tuple_str z t (show s.heap.IsTuple a its.toArray from pl) (by omega) _ _ _ _ ⟨.bl false,H,I,rfl,q⟩
def isN:V->Bool
 | .non=>true
 | _=>false
def qbn:R2:=fun x y H Q=>∃i j,x=.str i/\y=.str j/\Q (.bl (!decide (j.cps.toList < i.cps.toList))) H
def q8u:R2:=fun x y H Q=>∃i j,x=.str i/\y=.str j/\Q (.bl (decide (i.cps.toList < j.cps.toList))) H
def qb6(K:PySem.W.Frag)(x y:V)(H:Hp)(b:Bool):Prop:=(qaq x y=true/\b=decide (x=y))\/
 (∃a c xs ys,x=.ref a/\y=.ref c/\SqL K H a xs/\SqL K H c ys/\xs.all okV=true/\ys.all okV=true/\b=eqL xs ys)\/(∃a z,x=.ref a/\y=.str z/\Seq K H a/\b=false)
def qEq(K:PySem.W.Frag):R2:=fun x y H Q=>∃b,qb6 K x y H b/\Q (.bl b) H
def qNe(K:PySem.W.Frag):R2:=fun x y H Q=>∃b,((qaq x y=true/\b=decide (x=y))\/(∃a c xs ys,x=.ref a/\y=.ref c/\SqL K H a xs/\SqL K H c ys/\xs.all okV=true/\ys.all okV=true/\b=eqL xs ys))/\Q (.bl (!b)) H
def qe2(K:PySem.W.Frag)(x y:V)(H:Hp)(b:Bool):Prop:=(∃p xs,y=.ref p/\(SqL K H p xs\/SqT K H p xs)/\zs2 x=true/\xs.all zs2=true/\b=inV x xs)\/
 (∃i j,x=.str i/\y=.str j/\b = !(Builtin.Str.occurrences j i 0 j.length 1).isEmpty)\/
 (∃p xs,x=.non/\y=.ref p/\SqL K H p xs/\(∀v∈xs,v=.non\/∃a ys,v=.ref a/\SqT K H a ys)/\b=xs.any isN)
def qIn(K:PySem.W.Frag):R2:=fun x y H Q=>∃b,qe2 K x y H b/\Q (.bl b) H
def q81(K:PySem.W.Frag)(x y:V)(H:Hp)(b:Bool):Prop:=(∃p xs,y=.ref p/\(SqL K H p xs\/SqT K H p xs)/\zs2 x=true/\xs.all zs2=true/\b = !inV x xs)\/
 (∃i j,x=.str i/\y=.str j/\b = !(!(Builtin.Str.occurrences j i 0 j.length 1).isEmpty))\/
 (∃a p xs,x=.ref a/\y=.ref p/\Seq K H a/\SqT K H p xs/\(∀v∈xs,∃z,v=.str z)/\b=true)
def zzh(K:PySem.W.Frag):R2:=fun x y H Q=>∃b,q81 K x y H b/\Q (.bl b) H
def q82(K:PySem.W.Frag)(x:V)(H:Hp)(n:Nat):Prop:=(∃p ys,x=.ref p/\(SqL K H p ys\/SqT K H p ys)/\n=ys.length)\/∃z,x=.str z/\z.length<=sizeLine/\n=z.length
def qay(K:PySem.W.Frag):List V->Hp->VK->Prop:=fun xs H Q=>∃x n,xs=[x]/\q82 K x H n/\Q (.int n) H
def qaz:R2:=fun x y H Q=>y=.non/\Q (.bl (decide (x=.non))) H
def q2s:R2:=fun x y H Q=>y=.non/\Q (.bl (!decide (x=.non))) H
def qb0:R2:=fun x y H Q=>∃a b,x=.bl a/\y=.bl b/\Q (.bl (a == b)) H
def q2t:R2:=fun x y H Q=>∃a b,x=.bl a/\y=.bl b/\Q (.bl (a !=b)) H
theorem gEq(hu:X.A.units+64 < cLine):OpR X (compareOp .Eq) (qEq X.K):=by
 intro pins s σ H x y v u Q I rx ry h
 obtain⟨b,h,q⟩:=h
 rcases h with⟨h,rfl⟩ | ⟨a,c,xs,ys,h1,h2,h3,h4,h5,h6,rfl⟩ | ⟨a,z,h1,h2,h3,rfl⟩
 ·exact q9b pins s σ H x y v u Q I rx ry ⟨h,q⟩
 ·exact q9a hu pins s σ H x y v u Q I rx ry ⟨a,c,xs,ys,h1,h2,h3,h4,h5,h6,q⟩
 ·exact q3h hu pins s σ H x y v u Q I rx ry ⟨a,z,h1,h2,h3,q⟩
theorem gNe(hu:X.A.units+64 < cLine):OpR X (compareOp .NotEq) (qNe X.K):=by
 intro pins s σ H x y v u Q I rx ry h
 obtain⟨b,h,q⟩:=h
 rcases h with⟨h,rfl⟩ | ⟨a,c,xs,ys,h1,h2,h3,h4,h5,h6,rfl⟩
 ·exact q96 pins s σ H x y v u Q I rx ry ⟨h,q⟩
 ·exact q94 hu pins s σ H x y v u Q I rx ry ⟨a,c,xs,ys,h1,h2,h3,h4,h5,h6,q⟩
theorem qc7:zbs X (.builtin "len") (qay X.K):=by
 intro pins s σ H xs us Q I r h
 obtain⟨x,n,rfl,h,q⟩:=h
 rcases h with⟨p,ys,rfl,h,rfl⟩ | ⟨z,rfl,hz,rfl⟩
 ·exact zsx pins s σ H _ us Q I r ⟨p,ys,rfl,h,q⟩
 ·exact zsw pins s σ H _ us Q I r ⟨z,rfl,hz,q⟩
theorem zre:OpR X (compareOp .Eq) (rI0 fun i j=>.bl (decide (i=j))):=by
 intro pins s σ H x y v u Q I rx ry h
 obtain⟨i,rfl,hA⟩:=isI.o h
 obtain⟨j,rfl,q⟩:=isI.o hA
 refine q9b pins s σ H _ _ v u Q I rx ry ⟨rfl,?_⟩
 have e:decide (V.int i=V.int j)=decide (i=j):=by simp
 rw [e]; exact q
theorem q95:OpR X (compareOp .NotEq) (rI0 fun i j=>.bl (!decide (i=j))):=by
 intro pins s σ H x y v u Q I rx ry h
 obtain⟨i,rfl,hA⟩:=isI.o h
 obtain⟨j,rfl,q⟩:=isI.o hA
 refine q96 pins s σ H _ _ v u Q I rx ry ⟨rfl,?_⟩
 have e:decide (V.int i=V.int j)=decide (i=j):=by simp
 rw [e]; exact q
theorem zqr:OpR X (compareOp .Is) qaz:=q99
theorem q0q:OpR X (compareOp .IsNot) q2s:=q6s
theorem qd6:OpR X (compareOp .Is) qb0:=q3f
theorem qc6:OpR X (compareOp .IsNot) q2t:=ztm
theorem gLtS:OpR X (compareOp .Lt) q8u:=zzq
def q2x(K:PySem.W.Frag):List V->Hp->VK->Prop:=fun xs H Q=>∃x n b,xs=[x,.ty n]/\(∃t,TyOf K H x t/\PySem.W.kitOne K t (.type n)=some b)/\Q (.bl b) H
theorem zxq:zbs X (.builtin "isinstance") (q2x X.K):=by
 intro pins s σ H xs us Q I r h
 obtain⟨x,n,b,rfl,⟨t,h1,h2⟩,q⟩:=h
 exact zup pins s σ H _ us Q I r ⟨x,n,t,b,rfl,h1,h2,q⟩
end
def zmm:Expr->Bool
 | .Starred ..=>true
 | _=>false
def z5r:List Expr->Bool
 | []=>true
 | e::r=>!zmm e && z5r r
theorem z2j{e:Expr}{es:List Expr}{env:Env}(h:zmm e=false):starEach (e::es) env=(false,eval e env)::starEach es env:=by
 cases e<;>first | rfl | exact absurd (show true=false from h) (by decide)
theorem z5q{pos:Pos}{env:Env}:∀{es:List Expr},z5r es=true->(backTo pos (starEach es env)).any (·.1)=false
 | [],_=>rfl
 | e::r,h=>by
  rw [z5r,Bool.and_eq_true,Bool.not_eq_true'] at h
  rw [z2j h.1]
  have q:=z5q (pos:=pos) (env:=env) h.2
  show(false || (backTo pos (starEach r env)).any (·.1))=false
  rw [q]; rfl
theorem z07{X:Cx}{e:Expr}{es:List Expr}{te:TE}{t:TA}(ha:PE X e te)(hr:PA X es t)(h:zmm e=false:=by rfl):PA X (e::es) (zl9 te t):=q6q ha hr (z2j h)
structure Callee(P:Program)(w:World)(K:PySem.W.Frag)(mg:Str->Option Value)(base:Heap)(x:Str)(ps:List Str)(k:Nat)(sp:Sp):Prop where
 ex:∃f fd,FnOk P w K mg base CX0 k f fd ps sp/\mg x=some (.ref f)/\PySem.W.keepIn K (.ref f)=true/\Binds K fd ps []
theorem Callee.mono{P:Program}{w:World}{K:PySem.W.Frag}{mg:Str->Option Value}{base:Heap}{x:Str}{ps:List Str}{j k:Nat}{sp:Sp}(h:Callee P w K mg base x ps j sp)(hk:j<=k):Callee P w K mg base x ps k sp:=by
 obtain⟨f,fd,a,b,c,d⟩:=h
 exact⟨f,fd,a.mono hk,b,c,d⟩
theorem z0g{X:Cx}{x:Str}{ps:List Str}{k j:Nat}{sp:Sp}{e:Expr}{es:List Expr}{t:TA}{p pos:Pos}(C:Callee X.prog X.w X.K X.mg X.base x ps k sp)(hr:Room j X.A)(hk:k<=j)(ha:PA X (e::es) t)(hg:Gl X x:=by rfl)
  (hdb:(x == ("__debug__" : Str))=false:=by decide) (hst:z5r (e::es)=true:=by rfl) :
  PE X (.Call (.Name x p) (e::es) [] pos) (zta sp [] E0 t):=by
 have hst':=hst
 rw [z5r,Bool.and_eq_true,Bool.not_eq_true'] at hst'
 have he:=z2j (es:=es) (env:=X.env) hst'.1
 have hpl:=z5q (pos:=pos) (env:=X.env) hst'.2
 obtain⟨f,fd,F,hm,hkp,hb⟩:=C
 refine⟨?_⟩
 intro pins s σ H Q I h
 refine wpAny_Call_Name_kw (ztx I hg hm ?_ hdb)
 refine PySem.W.callWith_K (h₀:=X.base) I.ok.mod.kin hkp (thn (ha pos pins s σ H _ I h) fun us s1 ⟨vs,H1,I1,r,q⟩=>⟨I1.kIn,?_⟩) he hpl
 exact q50 F (hr.mono hk) hb .nil (fun _ _ _ _ _ _ _ z=>z.elim) I1 r q
theorem z54{X:Cx}{x:Str}{p pos:Pos}{e:Expr}{es:List Expr}{t:TA}{id:String}{r:List V->Hp->VK->Prop}(hc:zbs X (.builtin id) r)(hg:Gl X x)(hm:X.mg x=none)(hv:bootBuiltins x=some (.builtin id))(ha:PA X (e::es) t) (hn:x≠"__name__") (hdb:(x == ("__debug__" : Str))=false)
  (hst:z5r (e::es)=true:=by rfl):PE X (.Call (.Name x p) (e::es) [] pos) (tCB r t):=by
 have hst':=hst
 rw [z5r,Bool.and_eq_true,Bool.not_eq_true'] at hst'
 exact q37 hc hg hm hv ha hn hdb (z2j hst'.1) (z5q hst'.2)
theorem zrb{X:Cx}{x:Str}{p pos:Pos}{e:Expr}{es:List Expr}{t:TA}{T:String}{r:List V->Hp->VK->Prop}(hc:zbs X (.type T) r)(hg:Gl X x)(hm:X.mg x=none)(hv:bootBuiltins x=some (.type T))(ha:PA X (e::es) t) (hn:x≠"__name__") (hdb:(x == ("__debug__" : Str))=false)
  (hst:z5r (e::es)=true:=by rfl):PE X (.Call (.Name x p) (e::es) [] pos) (tCB r t):=by
 have hst':=hst
 rw [z5r,Bool.and_eq_true,Bool.not_eq_true'] at hst'
 exact zzo hc hg hm hv ha hn hdb (z2j hst'.1) (z5q hst'.2)
structure GC(mg:Str->Option Value)(x:Str)(v:V):Prop where
 ex:∃u,mg x=some u/\RelV v u
theorem zg6{X:Cx}{x:Str}{v:V}{pos:Pos}(h:GC X.mg x v)(hg:Gl X x:=by rfl) (hd:(x == ("__debug__" : Str))=false:=by decide):PE X (.Name x pos) (tC v):=by
 obtain⟨u,hm,r⟩:=h
 exact q6n hg hm r hd
def q1k(N:List Str)(on:List (Str×NameKind))(sc:Scope)(N':List Str)(mp:List (Option Nat)):Bool:=
 sc.kind == .function && sc.names.all (fun y=>y.2 !=.cell) && sc.names.all (fun y=>y.2 !=.local || sc.names.lookup y.1 == some .local) && sc.names.all (fun y=>y.2 !=.free || on.lookup y.1 == some .cell) && compOk N on sc.names N' mp
theorem CompS.of{X:Cx}{N':List Str}{sc:Scope}{mp:List (Option Nat)}(h:q1k X.N X.env.scope.names sc N' mp=true):CompS X N' sc mp:=by
 unfold q1k at h
 simp only[Bool.and_eq_true,beq_iff_eq] at h
 obtain⟨⟨⟨⟨h1,h2⟩,h3⟩,h4⟩,h5⟩:=h
 refine⟨h1,fun y hy=>?_,fun y hy e=>?_,fun y hy e=>?_,h5⟩
 ·have:=List.all_eq_true.mp h2 y hy
  simpa using this
 ·have:=List.all_eq_true.mp h3 y hy
  simp only[e,Bool.or_eq_true,beq_iff_eq] at this
  rcases this with z | z
  ·exact absurd z (by decide)
  ·exact z
 ·have:=List.all_eq_true.mp h4 y hy
  simp only[e,Bool.or_eq_true,beq_iff_eq] at this
  rcases this with z | z
  ·exact absurd z (by decide)
  ·exact z
theorem opK{X:Cx}{K:PySem.W.Frag}{f:Value->Value->Sem Value}{r:PySem.W.Frag->R2}(h:OpR X f (r X.K))(hK:X.K=K):OpR X f (r K):=hK ▸ h
theorem ixK{X:Cx}{K:PySem.W.Frag}{r:PySem.W.Frag->R2}(h:IxR X (r X.K))(hK:X.K=K):IxR X (r K):=hK ▸ h
theorem zpk{X:Cx}{K:PySem.W.Frag}{es:List Expr}{k:Nat}{t:TGs}{n:Nat}{pos:Pos}(hK:X.K=K)(hc:X.calm=true)(h:PGs X es t)(hn:(assignEach es X.env).length=n:=by rfl)(hst:(assignEach es X.env).findIdx? (·.1)=none:=by rfl):PG X (.Tuple es k pos) (q7b K n t):=hK ▸ zls hc h hn hst
def q9r:Expr->Bool
 | .ListComp ..=>true
 | .SetComp ..=>true
 | .DictComp ..=>true
 | _=>false
theorem z04{e:Expr}{t:Option Expr}{l:Nat}{env:Env}(h:q9r e=false):swapsWith e t l env=pure false:=by
 cases e<;>first | rfl | exact absurd (show true=false from h) (by decide)
inductive Dm where
 | non | bl (b:Bool) | int (i:Int) | str (x:Str) | tup (ds:List Dm) | lst
mutual
inductive Dt (H:Hp):V->Dm->Prop where
 | non:Dt H .non .non
 | bl (b:Bool):Dt H (.bl b) (.bl b)
 | int (i:Int):Dt H (.int i) (.int i)
 | str (x:Str):Dt H (.str x) (.str x)
 | tup {a:Addr} {xs:List V} {ds:List Dm}:H a=some (.tup xs)->DtA H xs ds->Dt H (.ref a) (.tup ds)
 | lst {a:Addr} {xs:List V}:H a=some (.lst xs)->Dt H (.ref a) .lst
inductive DtA (H:Hp):List V->List Dm->Prop where
 | nil:DtA H [] []
 | cons {x:V} {xs:List V} {d:Dm} {ds:List Dm}:Dt H x d->DtA H xs ds->DtA H (x::xs) (d::ds)
end
structure Kp(H H':Hp):Prop where
 t:∀b xs,H b=some (.tup xs)->H' b=some (.tup xs)
 l:∀b xs,H b=some (.lst xs)->∃ys,H' b=some (.lst ys)
theorem Kp.refl(H:Hp):Kp H H:=⟨fun _ _ h=>h,fun _ xs h=>⟨xs,h⟩⟩
theorem Kp.trans{H H1 H2:Hp}(a:Kp H H1)(b:Kp H1 H2):Kp H H2:=⟨fun c xs h=>b.t c xs (a.t c xs h),fun c xs h=>let ⟨ys,e⟩:=a.l c xs h; b.l c ys e⟩
theorem Same.kp{H H':Hp}(s:Same H H'):Kp H H':=⟨fun b xs h=>s b _ h,fun b xs h=>⟨xs,s b _ h⟩⟩
theorem z06{H:Hp}{p:Addr}(h:H p=none)(o:HO):Same H (upd H p o):=fun b u q=>by rw [z0o (z2n q h)]; exact q
theorem Kp.new{H:Hp}{p:Addr}(h:H p=none)(o:HO):Kp H (upd H p o):=(z06 h o).kp
theorem Kp.set{H:Hp}{p:Addr}{xs ys:List V}(h:H p=some (.lst xs)):Kp H (upd H p (.lst ys)):=
 ⟨fun b zs e=>by rw [z0o (zrl e h (by intro z; cases z))]; exact e,fun b zs e=>by
  by_cases hb:b=p
  ·subst hb; exact⟨ys,z02⟩
  ·exact⟨zs,by rw [z0o hb]; exact e⟩⟩
mutual
theorem Dt.kp{H H':Hp}(k:Kp H H'):∀{v:V} {d:Dm},Dt H v d->Dt H' v d
 | _,_,.non=>.non
 | _,_,.bl b=>.bl b
 | _,_,.int i=>.int i
 | _,_,.str x=>.str x
 | _,_,.tup e r=>.tup (k.t _ _ e) (DtA.kp k r)
 | _,_,.lst e=>let ⟨_,e'⟩:=k.l _ _ e; .lst e'
theorem DtA.kp{H H':Hp}(k:Kp H H'):∀{xs:List V} {ds:List Dm},DtA H xs ds->DtA H' xs ds
 | _,_,.nil=>.nil
 | _,_,.cons r t=>.cons (Dt.kp k r) (DtA.kp k t)
end
theorem DtA.length{H:Hp}:∀{xs:List V} {ds:List Dm},DtA H xs ds->xs.length=ds.length
 | _,_,.nil=>rfl
 | _,_,.cons _ t=>by rw [List.length_cons,List.length_cons,DtA.length t]
theorem DtA.append{H:Hp}:∀{xs ys:List V} {ds es:List Dm},DtA H xs ds->DtA H ys es->DtA H (xs++ys) (ds++es)
 | _,_,_,_,.nil,h=>h
 | _,_,_,_,.cons r t,h=>.cons r (DtA.append t h)
theorem DtA.get{H:Hp}:∀{xs:List V} {ds:List Dm} {i:Nat} {x:V},DtA H xs ds->xs[i]?=some x->∃d,ds[i]?=some d/\Dt H x d
 | _,_,_,_,.nil,e=>by simp at e
 | _,_,0,_,.cons r _,e=>by simp at e; subst e; exact⟨_,rfl,r⟩
 | _,_,i+1,x,.cons _ t,e=>by
  obtain⟨d,h1,h2⟩:=DtA.get (i:=i) (x:=x) t (by simpa using e)
  exact⟨d,by simpa using h1,h2⟩
theorem Dt.tupI{H:Hp}{v:V}{ds:List Dm}(h:Dt H v (.tup ds)):∃a xs,v=.ref a/\H a=some (.tup xs)/\DtA H xs ds:=by
 cases h with
 | tup e r=>exact⟨_,_,rfl,e,r⟩
end L2
set_option Elab.async false
set_option linter.all false
set_option maxRecDepth 100000
namespace L2
open PySem PySem.Spec PyProof.Rows
section
variable{X:Cx}
def q2v(K:PySem.W.Frag):List V->Hp->VK->Prop:=fun xs H Q=>∃(a:Addr) (ns:List Int),xs=[.ref a]/\SqL K H a (ns.map V.int)/\0 < ns.length/\∀M,M∈ns->(∀a∈ns,M<=a)->Q (.int M) H
def q2w(K:PySem.W.Frag):List V->Hp->VK->Prop:=fun xs H Q=>∃(a:Addr) (ns:List Int),xs=[.ref a]/\SqL K H a (ns.map V.int)/\0 < ns.length/\∀M,M∈ns->(∀a∈ns,a<=M)->Q (.int M) H
theorem q1r(hc:X.calm=true):zbs X (.builtin "min") (q2v X.K):=by
 intro pins s σ H xs us Q I r h
 obtain⟨a,ns,rfl,hq,hne,q⟩:=h
 obtain⟨u,rfl,r1⟩:=r.one
 cases r1
 obtain⟨its,rv,pl,hz⟩:=I.list hq
 have hi:=zds rv
 obtain⟨xs,e⟩:=hi.allInts.items
 have hns:ns=xs.toList.map (·.1):=by
  rw [<- hi.numsOf,<- nums_intItems,<- e]
 have hsz:0 < xs.size:=by
  have h3:=hne; rw [hns,List.length_map,Array.length_toList] at h3; exact h3
 have hl:=pl.isList
 rw [e] at hl
 refine min_intList (I.ok.hd hc) hl hsz fun v h' tk hv hk=>?_
 obtain⟨t,rfl⟩:=intItems_at hv
 obtain⟨h1,h2⟩:=argBest_lt (numAt xs) (xs.size - 1)
 refine⟨.int _,H,I.kept hk,⟨_,rfl⟩,q _ ?_ fun a ha=>?_⟩
 ·rw [hns,numAt_eq]; exact getD_mem (by rw [List.length_map,Array.length_toList]; omega)
 ·rw [hns] at ha
  obtain⟨j,hj,rfl⟩:=mem_getD ha
  rw [List.length_map,Array.length_toList] at hj
  rw [<- numAt_eq]; exact h2 j (by omega)
theorem q1s(hc:X.calm=true):zbs X (.builtin "max") (q2w X.K):=by
 intro pins s σ H xs us Q I r h
 obtain⟨a,ns,rfl,hq,hne,q⟩:=h
 obtain⟨u,rfl,r1⟩:=r.one
 cases r1
 obtain⟨its,rv,pl,hz⟩:=I.list hq
 have hi:=zds rv
 obtain⟨xs,e⟩:=hi.allInts.items
 have hns:ns=xs.toList.map (·.1):=by
  rw [<- hi.numsOf,<- nums_intItems,<- e]
 have hsz:0 < xs.size:=by
  have h3:=hne; rw [hns,List.length_map,Array.length_toList] at h3; exact h3
 have hl:=pl.isList
 rw [e] at hl
 refine max_intList (I.ok.hd hc) hl hsz fun v h' tk hv hk=>?_
 obtain⟨t,rfl⟩:=intItems_at hv
 obtain⟨h1,h2⟩:=argBest_gt (numAt xs) (xs.size - 1)
 refine⟨.int _,H,I.kept hk,⟨_,rfl⟩,q _ ?_ fun a ha=>?_⟩
 ·rw [hns,numAt_eq]; exact getD_mem (by rw [List.length_map,Array.length_toList]; omega)
 ·rw [hns] at ha
  obtain⟨j,hj,rfl⟩:=mem_getD ha
  rw [List.length_map,Array.length_toList] at hj
  rw [<- numAt_eq]; exact h2 j (by omega)
def zzg(K:PySem.W.Frag):List V->Hp->VK->Prop:=fun xs H Q=>∃(a:Addr) (ns:List Int),xs=[.ref a]/\SqL K H a (ns.map V.int)/\ns.length < 64/\∀(l:Addr) (ms:List Int),H l=none->ms.Perm ns->ms.Pairwise (· <= ·)->Q (.ref l) (upd H l (.lst (ms.map V.int)))
def qba(t ta tb:TT):TT:=fun σ H Q=>t σ H fun c H1=>if c=true then ta σ H1 Q else tb σ H1 Q
mutual
def Dm.dat:Dm->PyData
 | .non=>.none
 | .bl b=>.bool b
 | .int i=>.int i
 | .str x=>.str x
 | .tup ds=>.tuple (zck ds)
 | .lst=>.none
def zck:List Dm->List PyData
 | []=>[]
 | d::ds=>d.dat::zck ds
end
mutual
def Dm.shut:Dm->Bool
 | .tup ds=>zli ds
 | .lst=>false
 | .str x=>PyData.strOk x
 | _=>true
def zli:List Dm->Bool
 | []=>true
 | d::ds=>d.shut && zli ds
end
mutual
theorem Dt.reads{pins:List (Addr×Obj)}{σ : St}{H:Hp}{s:Shared}(I:Inv X pins σ H s):∀{x:V} {d:Dm} {u:Value},Dt H x d->d.shut=true->RelV x u->∃as,Reads s.heap u d.dat as
 | _,_,_,.non,_,r=>by cases r; exact⟨_,.none⟩
 | _,_,_,.bl b,_,r=>by cases r; exact⟨_,.bool b⟩
 | _,_,_,.int i,_,r=>by obtain⟨t,rfl⟩:=r; exact⟨_,.int i t⟩
 | _,_,_,.str x,_,r=>by obtain⟨t,rfl⟩:=r; exact⟨_,.str x t⟩
 | _,_,_,.tup e ra,hs,r=>by
  cases r
  obtain⟨its,rv,⟨o,ho,hc,n,hd⟩,_⟩:=I.tuple (SqT.of e)
  obtain⟨as,q⟩:=DtA.reads I ra (by simpa [Dm.shut] using hs) rv
  exact⟨as,by rw [Dm.dat]; exact .tuple ho hc hd (by simpa using q)⟩
 | _,_,_,.lst _,hs,_=>absurd hs (by simp[Dm.shut])
theorem DtA.reads{pins:List (Addr×Obj)}{σ : St}{H:Hp}{s:Shared}(I:Inv X pins σ H s):∀{xs:List V} {ds:List Dm} {us:List Value},DtA H xs ds->zli ds=true->Vals xs us->∃as,ReadsAll s.heap us (zck ds) as
 | _,_,_,.nil,_,.nil=>⟨[],by rw [zck]; exact .nil⟩
 | _,_,_,.cons r t,hs,.cons rv rt=>by
  rw [zli,Bool.and_eq_true] at hs
  obtain⟨as,q1⟩:=Dt.reads I r hs.1 rv
  obtain⟨bs,q2⟩:=DtA.reads I t hs.2 rt
  exact⟨as++bs,by rw [zck]; exact .cons q1 q2⟩
end
def EqD(H:Hp)(x y:V)(b:Bool):Prop:=∃d e,Dt H x d/\Dt H y e/\(d.shut=true/\SeqAt.shaped d.dat=true)/\(e.shut=true/\SeqAt.shaped e.dat=true)/\b=PyData.eqv d.dat e.dat
def qb1(_:PySem.W.Frag):R2:=fun x y H Q=>∃b,EqD H x y b/\Q (.bl b) H
def qax(_:PySem.W.Frag):R2:=fun x y H Q=>∃b,EqD H x y b/\Q (.bl (!b)) H
theorem dEq(hu:X.A.units+64 < cLine):OpR X (compareOp .Eq) (qb1 X.K):=by
 intro pins s σ H x y v u Q I rx ry h
 obtain⟨b,⟨d,e,dx,dy,⟨s1,s2⟩,⟨s3,s4⟩,rfl⟩,q⟩:=h
 obtain⟨as,ra⟩:=Dt.reads I dx s1 rx
 obtain⟨bs,rb⟩:=Dt.reads I dy s3 ry
 exact eq_dataH ra rb s2 s4 hu ⟨.bl _,H,I,rfl,q⟩
theorem dNe(hu:X.A.units+64 < cLine):OpR X (compareOp .NotEq) (qax X.K):=by
 intro pins s σ H x y v u Q I rx ry h
 obtain⟨b,⟨d,e,dx,dy,⟨s1,s2⟩,⟨s3,s4⟩,rfl⟩,q⟩:=h
 obtain⟨as,ra⟩:=Dt.reads I dx s1 rx
 obtain⟨bs,rb⟩:=Dt.reads I dy s3 ry
 exact ne_dataH ra rb s2 s4 hu ⟨.bl _,H,I,rfl,q⟩
end
end L2
set_option Elab.async false
set_option linter.all false
set_option maxRecDepth 100000
namespace L2
open PySem PySem.Spec PyProof.Rows
section
variable{κ : Type} [DecidableEq κ]
def zns(kvs:List (κ×V))(k : κ):Option V:=(kvs.find? fun kv=>decide (kv.1=k)).map (·.2)
def zcj(kvs:List (κ×V))(k : κ)(v:V):List (κ×V):=
 if(kvs.any fun kv=>decide (kv.1=k))=true then kvs.map (fun kv=>if kv.1=k then(kv.1,v) else kv) else kvs++[(k,v)]
theorem zay{p : κ×V}{r:List (κ×V)}{k : κ}(e:p.1=k):zns (p::r) k=some p.2:=by simp[zns,List.find?_cons,e]
theorem zaz{p : κ×V}{r:List (κ×V)}{k : κ}(e:¬ p.1=k):zns (p::r) k=zns r k:=by simp[zns,List.find?_cons,e]
theorem zuv(k : κ):∀kvs:List (κ×V),(kvs.any fun kv=>decide (kv.1=k))=(zns kvs k).isSome
 | []=>rfl
 | p::r=>by
  rw [List.any_cons]
  by_cases e:p.1=k
  ·simp only[zay e,decide_eq_true e,Bool.true_or,Option.isSome_some]
  ·rw [zaz e,decide_eq_false e,Bool.false_or]; exact zuv k r
theorem zmf(kvs:List (κ×V))(k : κ)(v:V):(zcj kvs k v).length<=kvs.length+1:=by
 unfold zcj
 split
 ·rw [List.length_map]; omega
 ·rw [List.length_append,List.length_cons,List.length_nil]; omega
theorem RelO.isSome_eq{o:Option V}{u:Option Value}(r:RelO o u):o.isSome=u.isSome:=by
 cases o with
 | none=>cases u with
  | none=>rfl
  | some _=>exact(show False from r).elim
 | some _=>cases u with
  | none=>exact(show False from r).elim
  | some _=>rfl
theorem RelO.getD{o:Option V}{u:Option Value}{d:V}{d':Value}(r:RelO o u)(rd:RelV d d'):RelV (o.getD d) (u.getD d'):=by
 cases o with
 | none=>cases u with
  | none=>exact rd
  | some _=>exact(show False from r).elim
 | some _=>cases u with
  | none=>exact(show False from r).elim
  | some _=>exact r
theorem KV.val{kvs:List (κ×V)}{vs:List (κ×Value)}(r:KV kvs vs)(k : κ):RelO (zns kvs k) (valueAt vs k):=by
 unfold KV at r
 induction r with
 | nil=>exact True.intro
 | @cons p q ps qs h t ih=>
  obtain⟨h1,h2⟩:=h
  by_cases e:p.1=k
  ·have e':q.1=k:=h1.symm.trans e
   have b:valueAt (q::qs) k=some q.2:=by simp[valueAt,List.find?_cons,e']
   rw [zay e,b]; exact h2
  ·have e':¬ q.1=k:=fun z=>e (h1.trans z)
   have b:valueAt (q::qs) k=valueAt qs k:=by simp[valueAt,List.find?_cons,e']
   rw [zaz e,b]; exact ih
theorem KV.any{kvs:List (κ×V)}{vs:List (κ×Value)}(r:KV kvs vs)(k : κ):(kvs.any fun kv=>decide (kv.1=k))=vs.any fun kv=>decide (kv.1=k):=by
 unfold KV at r
 induction r with
 | nil=>rfl
 | cons h t ih=>rw [List.any_cons,List.any_cons,ih,h.1]
theorem KV.repl{kvs:List (κ×V)}{vs:List (κ×Value)}(r:KV kvs vs)(k : κ){y:V}{u:Value}(ry:RelV y u) :
  KV (kvs.map fun kv=>if kv.1=k then(kv.1,y) else kv) (vs.map fun kv=>if kv.1=k then(kv.1,u) else kv):=by
 unfold KV at r |-
 induction r with
 | nil=>exact .nil
 | @cons p q ps qs h t ih=>
  rw [List.map_cons,List.map_cons]
  refine .cons ?_ ih
  obtain⟨h1,h2⟩:=h
  by_cases e:p.1=k
  ·rw [if_pos e,if_pos (h1.symm.trans e)]; exact⟨h1,ry⟩
  ·rw [if_neg e,if_neg (fun z=>e (h1.trans z))]; exact⟨h1,h2⟩
theorem KV.put{kvs:List (κ×V)}{vs:List (κ×Value)}(r:KV kvs vs)(k : κ){y:V}{u:Value}(ry:RelV y u):KV (zcj kvs k y) (stored vs k u):=by
 unfold zcj stored
 rw [r.any k]
 by_cases e:(vs.any fun kv=>decide (kv.1=k))=true
 ·rw [if_pos e,if_pos e]; exact r.repl k ry
 ·rw [if_neg e,if_neg e]; exact Paired.snoc r ⟨rfl,ry⟩
theorem KV.keys{kvs:List (κ×V)}{vs:List (κ×Value)}(r:KV kvs vs):kvs.map (·.1)=vs.map (·.1):=by
 unfold KV at r
 induction r with
 | nil=>rfl
 | cons h t ih=>rw [List.map_cons,List.map_cons,ih,h.1]
theorem KV.length{kvs:List (κ×V)}{vs:List (κ×Value)}(r:KV kvs vs):kvs.length=vs.length:=Paired.length r
end
theorem zxk{P:Program}{w:World}{k:Key}{u:Value}(r:RelV (kV k) u):(z1l P w).is k u=true:=by
 cases k with
 | inl i=>obtain⟨t,e⟩:=(show ∃t,u=Value.int i t from r); subst e; exact ztu P w i t
 | inr x=>obtain⟨t,e⟩:=(show ∃t,u=Value.str x t from r); subst e; exact ztt P w x t
theorem zrt{P:Program}{w:World}:∀{ks:List Key} {us:List Value},Vals (ks.map kV) us->ItemsAre (z1l P w) ks us
 | [],_,r=>by rw [List.map_nil] at r; cases r; exact .nil
 | k::ks,_,r=>by
  rw [List.map_cons] at r
  cases r with
  | cons h t=>exact .cons (zxk h) (zrt t)
abbrev KT(H:Hp):List (List Key×V)->List (List Key×Addr×Value)->Prop:=Paired fun p q=>p.1=q.1/\H q.2.1=some (.tup (p.1.map kV))/\RelV p.2 q.2.2
theorem KT.val{H:Hp}{kvs:List (List Key×V)}{xs:List (List Key×Addr×Value)}(r:KT H kvs xs)(k:List Key):RelO (zns kvs k) ((atKey xs k).map (·.2)):=by
 induction r with
 | nil=>exact True.intro
 | @cons p q ps qs h t ih=>
  obtain⟨h1,_,h2⟩:=h
  by_cases e:p.1=k
  ·have e':q.1=k:=h1.symm.trans e
   have b:atKey (q::qs) k=some q.2:=by simp[atKey,List.find?_cons,e']
   rw [zay e,b]; exact h2
  ·have e':¬ q.1=k:=fun z=>e (h1.trans z)
   have b:atKey (q::qs) k=atKey qs k:=by simp[atKey,List.find?_cons,e']
   rw [zaz e,b]; exact ih
theorem KT.repl{H:Hp}{kvs:List (List Key×V)}{xs:List (List Key×Addr×Value)}(r:KT H kvs xs)(k:List Key){y:V}{u:Value}(ry:RelV y u) :
  KT H (kvs.map fun kv=>if kv.1=k then(kv.1,y) else kv) (xs.map (putAt k u)):=by
 induction r with
 | nil=>exact .nil
 | @cons p q ps qs h t ih=>
  rw [List.map_cons,List.map_cons]
  refine .cons ?_ ih
  obtain⟨h1,h2,h3⟩:=h
  unfold putAt
  by_cases e:p.1=k
  ·rw [if_pos e,if_pos (h1.symm.trans e)]; exact⟨h1,h2,ry⟩
  ·rw [if_neg e,if_neg (fun z=>e (h1.trans z))]; exact⟨h1,h2,h3⟩
theorem KT.put{H:Hp}{kvs:List (List Key×V)}{xs:List (List Key×Addr×Value)}(r:KT H kvs xs)(k:List Key){b:Addr}{y:V}{u:Value}(hb:H b=some (.tup (k.map kV)))(ry:RelV y u) :
  KT H (zcj kvs k y) (storedH xs k b u):=by
 have e:(kvs.any fun kv=>decide (kv.1=k))=(atKey xs k).isSome:=by
  rw [zuv,(r.val k).isSome_eq,Option.isSome_map]
 unfold zcj storedH
 rw [e]
 by_cases q:(atKey xs k).isSome=true
 ·rw [if_pos q,if_pos q]; exact r.repl k ry
 ·rw [if_neg q,if_neg q]; exact Paired.snoc r ⟨rfl,hb,ry⟩
theorem KT.keeps{H H':Hp}{kvs:List (List Key×V)}{xs:List (List Key×Addr×Value)}(r:KT H kvs xs)(ht:∀b ys,H b=some (.tup ys)->H' b=some (.tup ys)):KT H' kvs xs:=
 Paired.mapP r fun _ _ z=>⟨z.1,ht _ _ z.2.1,z.2.2⟩
section
variable{P:Program}{w:World}{H:Hp}{h:Heap}{a:Addr}
theorem q8t{u:HO}(ok:HOk P w H h)(e:Rd H a u):ObjOk P w H h a u:=e.ok ok
theorem zsa{kvs:List (Key×V)}(ok:HOk P w H h)(e:Rd H a (.dK kvs)):kvs.length<=sizeLine/\(a == sysModules)=false/\∃vs,KV kvs vs/\h.DictOf (z1l P w) a vs:=
 show ObjOk P w H h a (.dK kvs) from q8t ok e
theorem qcb{kvs:List (Key×V)}(ok:HOk P w H h)(e:H a=some (.dK kvs)):kvs.length<=sizeLine/\(a == sysModules)=false/\∃vs,KV kvs vs/\h.DictOf (z1l P w) a vs:=zsa ok (.inl e)
theorem zmi{ks:List Key}(ok:HOk P w H h)(e:H a=some (.tup (ks.map kV))):(tupleKind (z1l P w)).is h ks a:=by
 obtain⟨_,its,r,o,h1,h2,n,h3⟩:=(show ObjOk P w H h a (.tup (ks.map kV)) from ok a _ e)
 exact⟨o,its.toArray,n,h1,h2,h3,by simpa using zrt r⟩
theorem zu6{kvs:List (List Key×V)}(ok:HOk P w H h)(e:Rd H a (.dT kvs)):kvs.length<=sizeLine/\(a == sysModules)=false/\
  ∃xs,KT H kvs xs/\h.DictOfH (tupleKind (z1l P w)) a xs:=by
 obtain⟨z,y,xs,r,o,es,ep,h1,h2,h3,h4,h5⟩:=(show ObjOk P w H h a (.dT kvs) from q8t ok e)
 refine⟨z,y,xs,r,o,es,ep,h1,h2,h3,h4,fun x hx=>?_,h5⟩
 have all:∀{l:List (List Key×V)} {m:List (List Key×Addr×Value)},KT H l m->∀x∈m,(tupleKind (z1l P w)).is h x.1 x.2.1:=by
  intro l m q
  induction q with
  | nil=>intro x hx; exact nomatch hx
  | @cons p q ps qs hq t ih=>
   intro x hx
   rcases List.mem_cons.mp hx with e | hx
   ·subst e
    exact zmi ok (by rw [<- hq.1]; exact hq.2.1)
   ·exact ih x hx
 exact all r x hx
theorem qca{kvs:List (List Key×V)}(ok:HOk P w H h)(e:H a=some (.dT kvs)):kvs.length<=sizeLine/\(a == sysModules)=false/\
  ∃xs,KT H kvs xs/\h.DictOfH (tupleKind (z1l P w)) a xs:=zu6 ok (.inl e)
end
def DGet(H:Hp)(a:Addr)(y:V)(r:Option V):Prop:=
 (∃kvs k,Rd H a (.dK kvs)/\y=kV k/\r=zns kvs k)\/∃kvs k b,Rd H a (.dT kvs)/\y=.ref b/\H b=some (.tup (k.map kV))/\r=zns kvs k
def DPut(H:Hp)(a:Addr)(y v:V)(H':Hp):Prop:=
 (∃kvs k,H a=some (.dK kvs)/\y=kV k/\kvs.length < sizeLine/\H'=upd H a (.dK (zcj kvs k v)))\/
 ∃kvs k b,H a=some (.dT kvs)/\y=.ref b/\H b=some (.tup (k.map kV))/\kvs.length < sizeLine/\H'=upd H a (.dT (zcj kvs k v))
theorem DGet.k{H:Hp}{a:Addr}{kvs:List (Key×V)}{k:Key}(e:H a=some (.dK kvs)):DGet H a (kV k) (zns kvs k):=.inl ⟨kvs,k,.inl e,rfl,rfl⟩
theorem DGet.t{H:Hp}{a b:Addr}{kvs:List (List Key×V)}{k:List Key}(e:H a=some (.dT kvs))(eb:H b=some (.tup (k.map kV))):DGet H a (.ref b) (zns kvs k):=.inr ⟨kvs,k,b,.inl e,rfl,eb,rfl⟩
theorem DPut.k{H:Hp}{a:Addr}{kvs:List (Key×V)}{k:Key}{v:V}(e:H a=some (.dK kvs))(hl:kvs.length < sizeLine):DPut H a (kV k) v (upd H a (.dK (zcj kvs k v))):=.inl ⟨kvs,k,e,rfl,hl,rfl⟩
theorem DPut.t{H:Hp}{a b:Addr}{kvs:List (List Key×V)}{k:List Key}{v:V}(e:H a=some (.dT kvs))(eb:H b=some (.tup (k.map kV)))(hl:kvs.length < sizeLine) :
  DPut H a (.ref b) v (upd H a (.dT (zcj kvs k v))):=.inr ⟨kvs,k,b,e,rfl,eb,hl,rfl⟩
section
variable{X:Cx}{pins:List (Addr×Obj)}{σ : St}{H:Hp}{s:Shared}{a:Addr}{y v:V}{u r:Value}{o:Option V}{A:Around}{E:Value->Shared->Prop}
theorem Inv.big(I:Inv X pins σ H s):sysModules < s.heap.objs.size:=by
 have h:mainGlobals < s.heap.objs.size:=(I.mod.glob.keeps I.bk).lt
 exact Nat.lt_trans (by decide) h
theorem q1c{Q:Value->Shared->Prop}(hu:A.units+1 < cLine)(I:Inv X pins σ H s)(g:DGet H a y (some v))(ry:RelV y u)(h:∀w' s',Inv X pins σ H s'->RelV v w'->Q w' s') :
  wpAny (model X.prog X.w) A (getItem (.ref a) u) Q E s:=by
 rcases g with⟨kvs,k,e,ey,l⟩ | ⟨kvs,k,b,e,ey,eb,l⟩
 ·subst ey
  obtain⟨z,hd,vs,rel,dd⟩:=zsa I.hok e
  obtain⟨w',hw,rw'⟩:=RelO.some_of (v:=v) (o:=valueAt vs k) (by rw [l]; exact rel.val k)
  exact wpAny_getItem_of (zxk ry) dd.mapOf hw (h w' _ (I.tok _) rw')
 ·subst ey
  cases (show u=Value.ref b from ry)
  obtain⟨z,hd,xs,rel,dd⟩:=zu6 I.hok e
  obtain⟨w',hw,rw'⟩:=RelO.some_of (v:=v) (o:=(atKey xs k).map (·.2)) (by rw [l]; exact rel.val k)
  obtain⟨p,hp,hp2⟩:=Option.map_eq_some_iff.mp hw
  refine wpAny_getItem_heap (tupleKind_room_in1 hu) (zmi I.hok eb) dd hp ?_
  rw [hp2]
  exact h w' _ (I.tok _) rw'
theorem qdu{Q:Value->Shared->Prop}(hu:A.units+1 < cLine)(I:Inv X pins σ H s)(g:DGet H a y o)(ry:RelV y u)(h:∀s',Inv X pins σ H s'->Q (.bool o.isSome) s') :
  wpAny (model X.prog X.w) A (compareOp .In u (.ref a)) Q E s:=by
 rcases g with⟨kvs,k,e,ey,l⟩ | ⟨kvs,k,b,e,ey,eb,l⟩
 ·subst ey
  obtain⟨z,hd,vs,rel,dd⟩:=zsa I.hok e
  refine wpAny_in_of (zxk ry) hd dd.mapOf ?_
  rw [<- (rel.val k).isSome_eq,<- l]
  exact h _ (I.tok _)
 ·subst ey
  cases (show u=Value.ref b from ry)
  obtain⟨z,hd,xs,rel,dd⟩:=zu6 I.hok e
  refine wpAny_in_heap (tupleKind_room_in1 hu) (zmi I.hok eb) hd dd ?_
  have q:=(rel.val k).isSome_eq
  rw [Option.isSome_map] at q
  rw [<- q,<- l]
  exact h _ (I.tok _)
theorem q1a{h':Heap}{t':Nat}{ob:HO}(I:Inv X pins σ H s)(mu:Mut (H a))(hs:Heap.SameBut a s.heap h')(he:∃q,h'.get? a=some q)(new:ObjOk X.prog X.w (upd H a ob) h' a ob) :
  Inv X pins σ (upd H a ob) {s with heap:=h',toks:=t'}:=
 I.write (x:=a) (e:=a) mu (.inl rfl) (fun b q hb z=>(hs.2 b hb).trans z) he new
theorem q5k{P:Program}{w:World}{H':Hp}{h':Heap}{kvs:List (Key×V)}{vs:List (Key×Value)}(z:kvs.length<=sizeLine)(hd:(a == sysModules)=false)(rel:KV kvs vs)(dd:h'.DictOf (z1l P w) a vs) :
  ObjOk P w H' h' a (.dK kvs):=⟨z,hd,vs,rel,dd⟩
theorem q1b{H':Hp}{Q:Unit->Shared->Prop}(hu:A.units+1 < cLine)(I:Inv X pins σ H s)(g:DPut H a y v H')(ry:RelV y u)(rv:RelV v r)(h:∀s',Inv X pins σ H' s'->Q () s') :
  wpAny (model X.prog X.w) A (setItem (.ref a) u r) Q E s:=by
 rcases g with⟨kvs,k,e,ey,l,eH⟩ | ⟨kvs,k,b,e,ey,eb,l,eH⟩
 ·subst ey eH
  obtain⟨z,hd,vs,rel,dd⟩:=qcb I.hok e
  have hz:vs.length<=sizeLine:=by rw [<- rel.length]; exact z
  have hl:(zcj kvs k v).length<=sizeLine:=by have:=zmf kvs k v; omega
  refine wpAny_setItem_pairs (hsz:=hz) (zxk ry) dd fun h' dd' hs=>h _ ?_
  have he:∃q,h'.get? a=some q:=let ⟨q,_,_,hq,_⟩:=dd'; ⟨q,hq⟩
  exact q1a I (by rw [e]; exact True.intro) hs he (q5k hl hd (rel.put k rv) dd')
 ·subst ey eH
  cases (show u=Value.ref b from ry)
  obtain⟨z,hd,xs,rel,dd⟩:=qca I.hok e
  have hz:xs.length<=sizeLine:=by rw [<- Paired.length rel]; exact z
  have hl:(zcj kvs k v).length<=sizeLine:=by have:=zmf kvs k v; omega
  refine wpAny_setItem_heap (hsz:=hz) (tupleKind_room_in1 hu) (zmi I.hok eb) dd fun h' dd' hs=>h _ ?_
  obtain⟨q,es,ep,hq,h2,h3,h4,_,h5⟩:=dd'
  refine q1a I (by rw [e]; exact True.intro) hs ⟨q,hq⟩ ⟨hl,hd,_,(rel.put k eb rv).keeps fun c ys ec=>?_,q,es,ep,hq,h2,h3,h4,h5⟩
  rw [z0o (zrl ec e (fun z=>nomatch z))]
  exact ec
end
section
variable{X:Cx}{pins:List (Addr×Obj)}{σ : St}{H:Hp}{s:Shared}{a:Addr}{kvs:List (Key×V)}{k:Key}{u:Value}{A:Around}{E:Value->Shared->Prop}
end
def qcm(i:Expr):Prop:=∀ov iv,subscripted i false ov iv=operate [ov,iv] (getItem ov iv)
theorem zyo{prog:Program}{w:World}{A:Around}{E:Value->Shared->Prop}{s:Shared}{env:Env}{value slice:Expr}{pos:Pos}{T id:String}{Q:Value->Shared->Prop}
  (hl:typeLookup (.type T) "__getitem__" = pure (some (.builtin id))) (hs:qcm slice)
  (h:wpAny (model prog w) A (eval value env) (fun o s₁=>wpAny (model prog w) A (eval slice env) (fun i s₂=>s₂.TypeIs o T/\wpAny (model prog w) A (getItem o i) Q E s₂) E s₁) E s) :
  wpAny (model prog w) A (eval (.Subscript value slice pos) env) Q E s:=by
 refine Subscript_ (wpAny_mono h (fun o s₁ h₁=>wpAny_mono h₁ (fun i s₂ h₂=>?_) fun _ _ x=>x) fun _ _ x=>x)
 obtain⟨hT,h₂⟩:=h₂
 unfold subscriptTail
 refine wpAny_bind ?_
 rw [getitemInPython_of_ne hT.not_modules]
 refine wpAny_bind (wpAny_specialOf hT hl ?_)
 have fin:wpAny (model prog w) A (subscripted slice false o i) (fun r s₃=>wpAny (model prog w) A (letTemporaryGo value o r >>= fun _=>pure r) Q E s₃) E s₂:=by
  rw [hs o i]
  exact wpAny_operating (wpAny_mono h₂ (fun r s₃ h₃=>wpAny_bind (wpAny_letTemporaryGo (wpAny_pure h₃))) fun _ _ x=>x)
 first
  | exact wpAny_pure (wpAny_bind fin)
  | exact wpAny_bind (wpAny_pure (wpAny_bind fin))
  | exact wpAny_bind fin
theorem zu7{X:Cx}{pins:List (Addr×Obj)}{σ : St}{H:Hp}{s:Shared}{a:Addr}{y:V}{o:Option V}(I:Inv X pins σ H s)(g:DGet H a y o):s.TypeIs (.ref a) "dict":=by
 rcases g with⟨kvs,k,e,_,_⟩ | ⟨kvs,k,b,e,_,_,_⟩
 ·obtain⟨_,_,vs,_,dd⟩:=zsa I.hok e
  exact dd.typeIs
 ·obtain⟨_,_,xs,_,dd⟩:=zu6 I.hok e
  exact dd.typeIs
def q29(td ty:TE):TE:=fun σ H Q=>td σ H fun x H1=>ty σ H1 fun y H2=>∃a v,x=.ref a/\DGet H2 a y (some v)/\Q v H2
def qcr(ty td:TE):TE:=fun σ H Q=>ty σ H fun y H1=>td σ H1 fun x H2=>∃a o,x=.ref a/\DGet H2 a y o/\Q (.bl o.isSome) H2
def q2l(td ty tv:TE):TS:=fun D σ H=>tv σ H fun v H1=>td σ H1 fun x H2=>ty σ H2 fun y H3=>∃a H4,x=.ref a/\DPut H3 a y v H4/\D.nx σ H4
section
variable{X:Cx}{o i e value:Expr}{pos pos' tpos:Pos}{td ty tv:TE}
theorem z4f(hu:X.A.units+1 < cLine)(ho:PE X o td)(hi:PE X i ty)(hs:qcm i):PE X (.Subscript o i pos) (q29 td ty):=by
 refine⟨?_⟩
 intro pins s σ H Q I h
 refine zyo PySem.F.slot_dict_getitem.lookup hs (thn (ho pins s σ H _ I h) fun u s1 ⟨x,H1,I1,rx,q1⟩=>thn (hi pins s1 σ H1 _ I1 q1) fun iv s2 ⟨y,H2,I2,ry,a,v,ex,g,q2⟩=>?_)
 subst ex
 obtain rfl:u=Value.ref a:=rx
 exact⟨zu7 I2 g,q1c hu I2 g ry fun w' s3 I3 rw'=>⟨v,H2,I3,rw',q2⟩⟩
theorem zos(hu:X.A.units+1 < cLine)(hi:PE X i ty)(ho:PE X o td):PC X .In i o (qcr ty td):=by
 refine⟨?_⟩
 intro pins s σ H Q I h
 refine thn (hi pins s σ H _ I h) fun iv s1 ⟨y,H1,I1,ry,q1⟩=>thn (ho pins s1 σ H1 _ I1 q1) fun u s2 ⟨x,H2,I2,rx,a,ov,ex,g,q2⟩=>?_
 subst ex
 obtain rfl:u=Value.ref a:=rx
 exact qdu hu I2 g ry fun s3 I3=>⟨.bl ov.isSome,H2,I3,rfl,q2⟩
theorem zcx(hu:X.A.units+1 < cLine)(ho:PE X o td)(hi:PE X i ty)(hv:PE X value tv)(hs:swapsWith value (some (.Subscript o i pos')) pos.line X.env=pure false) :
  PS X (.Assign [.Subscript o i pos'] value pos) (q2l td ty tv):=by
 refine⟨?_⟩
 intro pins s σ H D I h
 refine wpAny_Assign_Subscript (thn (hv pins s σ H _ I h) fun r s1 ⟨v,H1,I1,rv,q1⟩=>thn (ho pins s1 σ H1 _ I1 q1) fun u s2 ⟨x,H2,I2,rx,q2⟩=>thn (hi pins s2 σ H2 _ I2 q2) fun iv s3 ⟨y,H3,I3,ry,a,H4,ex,g,q3⟩=>?_) hs
 subst ex
 obtain rfl:u=Value.ref a:=rx
 exact q1b hu I3 g ry rv fun s4 I4=>⟨σ,H4,I4,q3⟩
end
theorem q44{P:Program}{w:World}{H:Hp}(h:Heap)(hb:sysModules < h.objs.size):ObjOk P w H (h.push {cls:=.type "dict",data:=.dict #[]}) h.objs.size (.dK []):=
 ⟨Nat.zero_le _,beq_eq_false_iff_ne.mpr (Ne.symm (Nat.ne_of_lt hb)),[],.nil,Heap.DictOf.new h⟩
theorem q43{P:Program}{w:World}{H:Hp}(h:Heap)(hb:sysModules < h.objs.size):ObjOk P w H (h.push {cls:=.type "dict",data:=.dict #[]}) h.objs.size (.dT []):=
 ⟨Nat.zero_le _,beq_eq_false_iff_ne.mpr (Ne.symm (Nat.ne_of_lt hb)),[],.nil,_,#[],0,Heap.get?_push_size _ rfl,⟨rfl,rfl,rfl⟩,rfl,rfl,List.nodup_nil⟩
def zv0:TE:=fun _ H Q=>∀p,H p=none->Q (.ref p) (upd H p (.dK []))
def zyl:TE:=fun _ H Q=>∀p,H p=none->Q (.ref p) (upd H p (.dT []))
section
variable{X:Cx}{pos:Pos}
theorem zkj:PE X (.Dict [] [] pos) zv0:=⟨fun pins s σ H Q I h=>
 wpAny_Dict_empty ⟨.ref s.heap.objs.size,_,I.laid (a:=s.heap.objs.size) (o:=.dK []) (t':=s.toks) (fun _ _ q=>Heap.get?_push_of_some _ q) (Nat.le_refl _) (q44 s.heap I.big),rfl,h _ (I.hok.fresh (Nat.le_refl _))⟩⟩
theorem zpl:PE X (.Dict [] [] pos) zyl:=⟨fun pins s σ H Q I h=>
 wpAny_Dict_empty ⟨.ref s.heap.objs.size,_,I.laid (a:=s.heap.objs.size) (o:=.dT []) (t':=s.toks) (fun _ _ q=>Heap.get?_push_of_some _ q) (Nat.le_refl _) (q43 s.heap I.big),rfl,h _ (I.hok.fresh (Nat.le_refl _))⟩⟩
end
def zqw:List (TE×TE)->St->Hp->(List (V×V)->Hp->Prop)->Prop
 | [],_,H,Q=>Q [] H
 | (tk,tv)::r,σ,H,Q=>tk σ H fun x H1=>tv σ H1 fun y H2=>zqw r σ H2 fun ps H3=>Q ((x,y)::ps) H3
def q9h(kvs more:List (Key×V)):List (Key×V):=more.foldl (fun acc kv=>zcj acc kv.1 kv.2) kvs
def q5z(trs:List (TE×TE)):TE:=fun σ H Q=>∀p,H p=none->zqw trs σ (upd H p (.dK [])) fun ps H2=>H2 p=some (.dK [])/\∃kvs:List (Key×V),ps=kvs.map (fun kv=>(kV kv.1,kv.2))/\kvs.length<=15/\Q (.ref p) (upd H2 p (.dK (q9h [] kvs)))
structure M1(X:Cx)(o:Expr)(m:Str)(apos:Pos)(e:Expr)(cpos:Pos):Prop where
 base:attributeBase o m X.env (eval o X.env)=eval o X.env
 few:((backTo cpos (starEach [e] X.env)).all (fun x=>!x.1) && (backToKw cpos (keywordEach [] X.env)).all (fun x=>x.1.isSome)
  && decide (([e]:List Expr).length+([]:List Keyword).length+(if([]:List Keyword).isEmpty then 0 else 1) < 30))=true
 line:(apos.endLine == cpos.line)=true
 trees:backTo cpos (starEach [e] X.env)=[(false,eval e X.env)]
structure M2(X:Cx)(o:Expr)(m:Str)(apos:Pos)(e f:Expr)(cpos:Pos):Prop where
 base:attributeBase o m X.env (eval o X.env)=eval o X.env
 few:((backTo cpos (starEach [e,f] X.env)).all (fun x=>!x.1) && (backToKw cpos (keywordEach [] X.env)).all (fun x=>x.1.isSome)
  && decide (([e,f]:List Expr).length+([]:List Keyword).length+(if([]:List Keyword).isEmpty then 0 else 1) < 30))=true
 line:(apos.endLine == cpos.line)=true
 trees:backTo cpos (starEach [e,f] X.env)=[(false,eval e X.env),(false,eval f X.env)]
def IsD(H:Hp)(a:Addr):Prop:=(∃kvs,Rd H a (.dK kvs))\/∃kvs,Rd H a (.dT kvs)
theorem q5f{X:Cx}{pins:List (Addr×Obj)}{σ : St}{H:Hp}{s:Shared}{a:Addr}(I:Inv X pins σ H s)(d:IsD H a) :
  s.TypeIs (.ref a) "dict"/\(∀b,Value.ref a=.ref b->∃ob,s.heap.get? b=some ob/\ob.dict=none)/\(a == sysModules)=false:=by
 rcases d with⟨kvs,e⟩ | ⟨kvs,e⟩
 ·obtain⟨_,hd,vs,_,dd⟩:=zsa I.hok e
  refine⟨dd.typeIs,fun b q=>?_,hd⟩
  cases q
  obtain⟨ob,_,_,h1,h2,_⟩:=dd
  exact⟨ob,h1,h2.2.1⟩
 ·obtain⟨_,hd,xs,_,dd⟩:=zu6 I.hok e
  refine⟨dd.typeIs,fun b q=>?_,hd⟩
  cases q
  obtain⟨ob,_,_,h1,h2,_⟩:=dd
  exact⟨ob,h1,h2.2.1⟩
section
variable{X:Cx}{pins:List (Addr×Obj)}{σ : St}{H:Hp}{s:Shared}{a:Addr}{y d:V}{u r:Value}{o:Option V}{A:Around}{E:Value->Shared->Prop}
theorem qa3{Q:Value->Shared->Prop}(hu:A.units+1 < cLine)(I:Inv X pins σ H s)(g:DGet H a y o)(ry:RelV y u)(h:∀w' s',Inv X pins σ H s'->RelV (o.getD .non) w'->Q w' s') :
  wpAny (model X.prog X.w) A (call (.builtin "dict.get") [.ref a,u]) Q E s:=by
 rcases g with⟨kvs,k,e,ey,l⟩ | ⟨kvs,k,b,e,ey,eb,l⟩
 ·subst ey
  obtain⟨z,hd,vs,rel,dd⟩:=zsa I.hok e
  refine call_meetsIn PySem.F.slot_dict_get dd.typeIs PySem.F.entry_dict_get (PySem.F.args_dict_get_2 _ _) (meets_dict_get (z1l X.prog X.w) a (zxk ry) hd) ⟨_,dd.mapOf,h _ _ (I.tok _) ?_⟩
  rw [l]
  exact(rel.val k).getD rfl
 ·subst ey
  cases (show u=Value.ref b from ry)
  obtain⟨z,hd,xs,rel,dd⟩:=zu6 I.hok e
  refine call_meetsIn PySem.F.slot_dict_get dd.typeIs PySem.F.entry_dict_get (PySem.F.args_dict_get_2 _ _) (meetsH_dict_get (tupleKind (z1l X.prog X.w)) a b hd) ⟨tupleKind_room_in1 hu,k,xs,zmi I.hok eb,dd,h _ _ (I.tok _) ?_⟩
  rw [l]
  exact(rel.val k).getD rfl
theorem qa2{Q:Value->Shared->Prop}(hu:A.units+1 < cLine)(I:Inv X pins σ H s)(g:DGet H a y o)(ry:RelV y u)(rd:RelV d r)(h:∀w' s',Inv X pins σ H s'->RelV (o.getD d) w'->Q w' s') :
  wpAny (model X.prog X.w) A (call (.builtin "dict.get") [.ref a,u,r]) Q E s:=by
 rcases g with⟨kvs,k,e,ey,l⟩ | ⟨kvs,k,b,e,ey,eb,l⟩
 ·subst ey
  obtain⟨z,hd,vs,rel,dd⟩:=zsa I.hok e
  refine call_meetsIn PySem.F.slot_dict_get dd.typeIs PySem.F.entry_dict_get (PySem.F.args_dict_get_3 _ _ _) (meets_dict_get_default (z1l X.prog X.w) a (zxk ry) hd r) ⟨_,dd.mapOf,h _ _ (I.tok _) ?_⟩
  rw [l]
  exact(rel.val k).getD rd
 ·subst ey
  cases (show u=Value.ref b from ry)
  obtain⟨z,hd,xs,rel,dd⟩:=zu6 I.hok e
  refine call_meetsIn PySem.F.slot_dict_get dd.typeIs PySem.F.entry_dict_get (PySem.F.args_dict_get_3 _ _ _) (meetsH_dict_get_default (tupleKind (z1l X.prog X.w)) a b hd r) ⟨tupleKind_room_in1 hu,k,xs,zmi I.hok eb,dd,h _ _ (I.tok _) ?_⟩
  rw [l]
  exact(rel.val k).getD rd
end
def zv1(td ty:TE):TE:=fun σ H Q=>td σ H fun x H1=>∃a,x=.ref a/\IsD H1 a/\ty σ H1 fun y H2=>∃o,DGet H2 a y o/\Q (o.getD .non) H2
def q4n(td ty tx:TE):TE:=fun σ H Q=>td σ H fun x H1=>∃a,x=.ref a/\IsD H1 a/\ty σ H1 fun y H2=>tx σ H2 fun z H3=>∃o,DGet H3 a y o/\Q (o.getD z) H3
section
variable{X:Cx}{o e f:Expr}{apos cpos:Pos}{td ty tx:TE}
theorem zkk(hu:X.A.units+1 < cLine)(ho:PE X o td)(he:PE X e ty) (m:M1 X o "get" apos e cpos):PE X (.Call (.Attribute o "get" apos) [e] [] cpos) (zv1 td ty):=by
 refine⟨?_⟩
 intro pins s σ H Q I h
 refine wpAny_Call_method m.base m.few m.line PySem.F.plainAttrs_dict PySem.F.slot_dict_get PySem.F.type_dict_get (thn (ho pins s σ H _ I h) fun u s1 ⟨x,H1,I1,rx,a,ex,d,q1⟩=>?_)
 subst ex
 obtain rfl:u=Value.ref a:=rx
 obtain⟨t1,t2,_⟩:=q5f I1 d
 refine⟨t1,t2,?_⟩
 rw [m.trees]
 refine Calls.callWith_builtin rfl (Calls.evalArgs_plain (Calls.spliced_cons (thn (he pins s1 σ H1 _ I1 q1) fun iv s2 ⟨y,H2,I2,ry,ov,g,q2⟩=>Calls.spliced_nil ?_)))
 exact qa3 hu I2 g ry fun w' s3 I3 rw'=>⟨_,H2,I3,rw',q2⟩
theorem q35(hu:X.A.units+1 < cLine)(ho:PE X o td)(he:PE X e ty)(hf:PE X f tx) (m:M2 X o "get" apos e f cpos):PE X (.Call (.Attribute o "get" apos) [e,f] [] cpos) (q4n td ty tx):=by
 refine⟨?_⟩
 intro pins s σ H Q I h
 refine wpAny_Call_method m.base m.few m.line PySem.F.plainAttrs_dict PySem.F.slot_dict_get PySem.F.type_dict_get (thn (ho pins s σ H _ I h) fun u s1 ⟨x,H1,I1,rx,a,ex,d,q1⟩=>?_)
 subst ex
 obtain rfl:u=Value.ref a:=rx
 obtain⟨t1,t2,_⟩:=q5f I1 d
 refine⟨t1,t2,?_⟩
 rw [m.trees]
 refine Calls.callWith_builtin rfl (Calls.evalArgs_plain (Calls.spliced_cons (thn (he pins s1 σ H1 _ I1 q1) fun iv s2 ⟨y,H2,I2,ry,q2⟩=>
  Calls.spliced_cons (thn (hf pins s2 σ H2 _ I2 q2) fun fv s3 ⟨z,H3,I3,rz,ov,g,q3⟩=>Calls.spliced_nil ?_))))
 exact qa2 hu I3 g ry rz fun w' s4 I4 rw'=>⟨_,H3,I4,rw',q3⟩
end
section
variable{X:Cx}{pins:List (Addr×Obj)}{σ : St}{H:Hp}{s:Shared}{a:Addr}{kvs:List (Key×V)}{A:Around}{E:Value->Shared->Prop}
theorem q4c{Q:Value->Shared->Prop}(I:Inv X pins σ H s)(e:Rd H a (.dK kvs))(h:∀p s',H p=none->Inv X pins σ (upd H p (.dK kvs)) s'->Q (.ref p) s'):wpAny (model X.prog X.w) A (call (.type "dict") [.ref a]) Q E s:=by
 obtain⟨z,hd,vs,rel,dd⟩:=zsa I.hok e
 refine kt_call_dict hd dd (by rw [<- rel.length]; exact z) fun h' dd' hs=>?_
 refine h _ _ (I.hok.fresh (Nat.le_refl _)) (I.laid (a:=s.heap.objs.size) (o:=.dK kvs) (t':=s.toks) (fun b q hq=>?_) (Nat.le_refl _) (q5k z (beq_eq_false_iff_ne.mpr (Ne.symm (Nat.ne_of_lt I.big))) rel dd'))
 exact(hs.2 b (Nat.ne_of_lt (Heap.lt_size hq))).trans (Heap.get?_push_of_some _ hq)
end
section
variable{X:Cx}{pins:List (Addr×Obj)}{σ : St}{H:Hp}{s:Shared}{a:Addr}{y:V}{u:Value}{A:Around}{E:Value->Shared->Prop}
end
end L2
namespace L2
open PySem PySem.Spec PyProof.Rows
section
variable{X:Cx}
end
section
variable{κ : Type} [DecidableEq κ]
end
end L2
set_option Elab.async false
set_option linter.all false
set_option maxRecDepth 100000
namespace L2
open PySem PySem.Spec PyProof.Rows
section
variable{X:Cx}
def KMap(K:PySem.W.Frag)(a:Addr)(f:Int->Option Value):Prop:=∃o es ep,K.lookup a=some o/\o.ExactDict/\o.data=.dict es ep/\(∀e∈es,∃k,Value.isInt k e.key=true/\e.hash=hashInt k)/\∀k,findBy Value.isInt es k=f k
def q26(K:PySem.W.Frag)(td ty:TE):TE:=fun σ H Q=>td σ H fun x H1=>ty σ H1 fun y H2=>∃a k u v f,x=.ref a/\y=.int k/\KMap K a f/\f k=some u/\RelV v u/\Q v H2
theorem q6m{o i:Expr}{pos:Pos}{td ty:TE}(ho:PE X o td)(hi:PE X i ty)(hs:qcm i):PE X (.Subscript o i pos) (q26 X.K td ty):=by
 refine⟨?_⟩
 intro pins s σ H Q I h
 refine zyo PySem.F.slot_dict_getitem.lookup hs (thn (ho pins s σ H _ I h) fun u s1 ⟨x,H1,I1,rx,q1⟩=>thn (hi pins s1 σ H1 _ I1 q1) fun iv s2 hh=>?_)
 obtain⟨y,H2,I2,ry,a,k,uu,v,f,ex,ey,km,hf,rv,q2⟩:=hh
 subst ex
 subst ey
 obtain rfl:u=Value.ref a:=rx
 obtain⟨t,rfl⟩:=ry
 obtain⟨ob,es,ep,lk,xd,dt,ks,fb⟩:=km
 have hm:s2.heap.MapOf (intKind X.prog X.w) a f:=⟨ob,es,ep,I2.kIn a ob lk,xd,dt,ks,fb⟩
 exact⟨hm.typeIs,wpAny_getItem_of (knd:=intKind X.prog X.w) (k:=k) (by simp[intKind,Value.isInt]) hm hf ⟨v,H2,I2.tok _,rv,q2⟩⟩
end
end L2
set_option Elab.async false
set_option linter.all false
set_option maxRecDepth 100000
namespace L2
open PySem PySem.Spec PyProof.Rows
section
variable{X:Cx}{pins:List (Addr×Obj)}{σ : List (Option V)}{H:Hp}{s:Shared}{h':Heap}
theorem Inv.turnedL{t':Nat}{ch:List Addr}(I:Inv X pins σ H s)(k:∀b o,b∉ch->s.heap.get? b=some o->h'.get? b=some o)(hf:∀b∈ch,FpOk X pins H b):Inv X pins σ H {s with heap:=h',toks:=t'}:=by
 have nit:∀b u,H b=some u->b∉ch:=fun b u e z=>by rw [(hf b z).1] at e; cases e
 refine I.step (g':=s.gens) (d':=s.drawn) (ch:=ch) (fun b hb=>?_) (fun b o _ _ hc e _=>k b o hc e) (fun b o _ _ hc e _=>⟨o.slots,k b o hc e⟩) (fun _ _ _ _ n=>n)
  (fun b o hc e=>⟨o,k b o hc e⟩) (fun _ _ e=>e) (fun _ _ _ e=>e) (fun b ps e=>⟨#[],by rw [e]; simp⟩) (fun m hm=>?_) (fun b u e=>?_) I.bare
 ·obtain⟨_,f1,_,f3,f4,f5⟩:=hf b hb
  exact⟨f3,f1,f4,f5⟩
 ·obtain⟨o,es,ep,ho,r⟩:=hm
  exact⟨o,es,ep,k _ o (fun z=>(hf _ z).2.1 rfl) ho,r⟩
 ·refine(I.hok b u e).stay (fun c v hc q=>k c v ?_ q) (fun _ q=>q) fun _ _ q=>q
  rcases hc with z | z
  ·rw [z]; exact nit b u e
  ·exact nit c _ z
end
def Ite(K:PySem.W.Frag)(a:Addr):It:=
 ⟨fun i H=>∃xs x,SqL K H a xs/\xs[i]?=some x,fun i H x H'=>∃T v,x=.ref T/\H T=none/\H'=upd H T (.tup [.int i,v])/\∀xs,SqL K H a xs->xs[i]?=some v,fun i H=>∃xs,SqL K H a xs/\xs.length<=i⟩
def Itz(K:PySem.W.Frag)(a b:Addr):It:=
 ⟨fun i H=>∃xs ys x y,SqL K H a xs/\SqL K H b ys/\xs[i]?=some x/\ys[i]?=some y,fun i H x H'=>∃T u v,x=.ref T/\H T=none/\H'=upd H T (.tup [u,v])/\(∀xs,SqL K H a xs->xs[i]?=some u)/\∀ys,SqL K H b ys->ys[i]?=some v,
  fun i H=>∃xs ys,SqL K H a xs/\SqL K H b ys/\(xs.length<=i\/ys.length<=i)⟩
theorem q4m:(2:Nat)<=sizeLine:=by decide
section
variable{X:Cx}
def qc5(K:PySem.W.Frag)(ta:TA):TI:=fun σ H R=>ta σ H fun vs H1=>∃a,vs=[.ref a]/\(∃xs,SqL K H1 a xs)/\R (Ite K a) H1
end
section
variable{X:Cx}
def qdn(K:PySem.W.Frag)(ta:TA):TI:=fun σ H R=>ta σ H fun vs H1=>∃a b,vs=[.ref a,.ref b]/\(∃xs,SqL K H1 a xs)/\(∃ys,SqL K H1 b ys)/\R (Itz K a b) H1
end
end L2
set_option Elab.async false
set_option linter.all false
set_option maxRecDepth 100000
namespace L2
open PySem PySem.Spec PyProof.Rows
theorem Room.units1{k:Nat}{A:Around}(r:Room k A):A.units+1 < cLine:=by have:=r.un; omega
section
variable{X:Cx}
theorem z9d:zbs X (.type "dict") (fun xs H Q=>∃a kvs,xs=[.ref a]/\Rd H a (.dK kvs)/\∀p,H p=none->Q (.ref p) (upd H p (.dK kvs))):=by
 intro pins s σ H xs us Q I r h
 obtain⟨a,kvs,rfl,e,q⟩:=h
 obtain⟨u,rfl,r1⟩:=r.one
 cases r1
 exact q4c I e fun p s' hp I'=>⟨.ref p,_,I',rfl,q p hp⟩
theorem ziz:∀{ns:List Str} {us:List Value},StrsAre us ns->Vals (ns.map V.str) us
 | _,_,.nil=>.nil
 | _,_,.cons n t h=>.cons ⟨t,rfl⟩ (ziz h)
def zzf(K:PySem.W.Frag):List V->Hp->VK->Prop:=fun xs H Q=>∃(a:Addr) (ns:List Str),xs=[.ref a]/\SqL K H a (ns.map V.str)/\ns.length < 64/\∀(l:Addr) (ms:List Str),H l=none->ms.Perm ns->sortedS ms=true->Q (.ref l) (upd H l (.lst (ms.map V.str)))
def zt9(r r' r'':R2)(ta tb tc td:TE):TT:=fun σ H Q=>ta σ H fun x H1=>tb σ H1 fun y H2=>r x y H2 fun z H3=>∃k,z=.bl k/\(if k=true then tc σ H3 fun w H4=>r' y w H4 fun z H5=>∃k,z=.bl k/\
 (if k=true then td σ H5 fun v H6=>r'' w v H6 fun z H7=>∃k,z=.bl k/\Q k H7 else Q false H5) else Q false H3)
def qdp(K:PySem.W.Frag)(tl:TE):TI:=fun σ H R=>tl σ H fun x H1=>∃a,x=.ref a/\(((∃xs,SqL K H1 a xs)/\R (Itl K a) H1)\/((∃xs,SqT K H1 a xs)/\R (Itt K a) H1))
end
section
variable{X:Cx}
def qda(K:PySem.W.Frag)(H:Hp)(x y:V)(b:Bool):Prop:=∃a c xs ys ds es,x=.ref a/\y=.ref c/\SqL K H a xs/\SqL K H c ys/\DtA H xs ds/\DtA H ys es/\zli ds=true/\zli es=true/\SeqAt.shaped (.list (zck ds))=true/\SeqAt.shaped (.list (zck es))=true/\b=PyData.eqv (.list (zck ds)) (.list (zck es))
def q6f(K:PySem.W.Frag):R2:=fun x y H Q=>∃b,qda K H x y b/\Q (.bl b) H
def q2u(K:PySem.W.Frag):R2:=fun x y H Q=>∃b,qda K H x y b/\Q (.bl (!b)) H
theorem Inv.readsDL{pins:List (Addr×Obj)}{σ : St}{H:Hp}{s:Shared}{a:Addr}{xs:List V}{ds:List Dm}(I:Inv X pins σ H s)(h:SqL X.K H a xs)(d:DtA H xs ds)(hs:zli ds=true):∃as,Reads s.heap (.ref a) (.list (zck ds)) as:=by
 obtain⟨its,r,⟨o,n,e,c,_,dd⟩,_⟩:=I.list h
 obtain⟨as,q⟩:=DtA.reads I d hs r
 exact⟨_,.list e c dd (by simpa using q)⟩
theorem qdt(hu:X.A.units+64 < cLine):OpR X (compareOp .NotEq) (q2u X.K):=by
 intro pins s σ H x y v u Q I rx ry h
 obtain⟨b,⟨a,c,xs,ys,ds,es,rfl,rfl,h1,h2,d1,d2,s1,s2,s3,s4,rfl⟩,q⟩:=h
 cases rx; cases ry
 obtain⟨as,ra⟩:=I.readsDL h1 d1 s1
 obtain⟨bs,rb⟩:=I.readsDL h2 d2 s2
 exact ne_dataH ra rb s3 s4 hu ⟨.bl _,H,I,rfl,q⟩
end
end L2
set_option Elab.async false
set_option linter.all false
set_option maxRecDepth 100000
namespace L2
open PySem PySem.Spec PyProof.Rows
def Ris(xs:Array Nat):Prop:=xs.toList.Pairwise (· < ·)
end L2
set_option Elab.async false
set_option linter.all false
set_option maxRecDepth 100000
namespace L2
open PySem PySem.Spec PyProof.Rows
section
variable{prog:Program}{w:World}{κ : Type} [DecidableEq κ] (knd:PySem.KeyKind prog w κ) (key:Value->κ)
def SetX(a:Addr)(L:Bool)(ks:List κ)(h:Heap):Prop:=
 ∃o es ep t,h.get? a=some o/\o.ExactSet/\o.data=.set es ep t/\ElemsOf knd es.toList/\ks=es.toList.map (fun e=>key e.2)/\ks.Nodup/\es.size < scanBound/\t.fits es.size=true/\Ris t.place/\t.led=L
variable{knd key}{A:Around}{E:Value->Shared->Prop}{s:Shared}{a:Addr}{L:Bool}{ks:List κ}
theorem SetX.len{h:Heap}(x:SetX knd key a L ks h):ks.length < scanBound:=by
 obtain⟨o,es,ep,t,_,_,_,_,rfl,_,hb,_⟩:=x
 simpa using hb
abbrev qcd(w:World):Bool:=w.params.followText "set-order"
end
end L2
set_option Elab.async false
set_option linter.all false
set_option maxRecDepth 100000
namespace L2
open PySem PySem.Spec PyProof.Rows
section
variable{prog:Program}{w:World}{A:Around}{E:Value->Shared->Prop}{s:Shared}{S I:Addr}{es:Array (Int×Value)}{ep:Nat}{t:SetTable}{o:Obj}
end
end L2
set_option Elab.async false
set_option linter.all false
set_option maxRecDepth 100000
namespace L2
open PySem PySem.Spec PyProof.Rows
section
variable{prog:Program}{w:World}{A:Around}{E:Value->Shared->Prop}{s:Shared}{S I:Addr}{es:Array (Int×Value)}{ep:Nat}{t:SetTable}{o:Obj}
def qdl:Value->Int
 | .int k _=>k
 | _=>0
theorem zpv{k:Int}{v:Value}(h:(intKind prog w).is k v=true):∃t,v=.int k t:=by
 cases v<;>simp[intKind,Value.isInt] at h
 exact⟨_,by rw [h]⟩
end
end L2
set_option Elab.async false
set_option linter.all false
set_option maxRecDepth 100000
namespace L2
open PySem PySem.Spec PyProof.Rows
def qcu(P:Program)(w:World)(p:Addr)(ks:List Int):HO:=.ext (SetX (intKind P w) qdl p (!qcd w) ks)
def qdd(P:Program)(w:World)(K:PySem.W.Frag):List V->Hp->VK->Prop:=fun xs H Q=>∃(a:Addr) (ns:List Int),xs=[.ref a]/\SqL K H a (ns.map V.int)/\ns.length<=1000/\
 ∀(p:Addr) (ks:List Int),H p=none->ks.Nodup->(∀x,x∈ks↔x∈ns)->ks.length<=ns.length->Q (.ref p) (upd H p (qcu P w p ks))
def qaw(P:Program)(w:World):List V->Hp->VK->Prop:=fun xs H Q=>∃(a:Addr) (ks:List Int),xs=[.ref a]/\H a=some (qcu P w a ks)/\ks.length < 64/\
 ∀(l:Addr) (ms:List Int),H l=none->ms.Perm ks->ms.Pairwise (· <= ·)->Q (.ref l) (upd H l (.lst (ms.map V.int)))
section
variable{X:Cx}
end
end L2
set_option Elab.async false
set_option linter.all false
set_option maxRecDepth 100000
namespace L2
open PySem PyProof.Rows
def q8a(P:Program)(w:World)(K:PySem.W.Frag)(mg:Str->Option Value)(base:Heap)(k:Nat)(f:Addr)(sp:Sp):Prop:=∃fd ps,FnOk P w K mg base CX0 k f fd ps sp/\PySem.W.keepIn K (.ref f)=true/\Binds K fd ps []
def zym(L:Addr->Sp->Prop)(i:Nat)(t:TA):TE:=fun σ H Q=>∃f,σ[i]?=some (some (.ref f))/\∃sp,L f sp/\t σ H fun vs H1=>sp vs H1 Q E0
theorem q36{X:Cx}{x:Str}{i k j:Nat}{e:Expr}{es:List Expr}{t:TA}{p pos:Pos}(hN:X.N[i]?=some x)(hv:Vis X.env.scope x)(hr:Room j X.A)(hk:k<=j)(ha:PA X (e::es) t)
  (hd:(x == ("__debug__" : Str))=false:=by decide) (hcd:(x == ("__classdict__" : Str))=false:=by decide) (hst:z5r (e::es)=true:=by rfl) :
  PE X (.Call (.Name x p) (e::es) [] pos) (zym (q8a X.prog X.w X.K X.mg X.base k) i t):=by
 have hst':=hst
 rw [z5r,Bool.and_eq_true,Bool.not_eq_true'] at hst'
 have he:=z2j (es:=es) (env:=X.env) hst'.1
 have hpl:=z5q (pos:=pos) (env:=X.env) hst'.2
 refine⟨?_⟩
 intro pins s σ H Q I h
 obtain⟨f,ei,sp,⟨fd,ps,F,hkp,hb⟩,h⟩:=h
 refine wpAny_Call_Name_kw (thn (z00 (pos:=p) hN hv hd hcd pins s σ H (fun x' H'=>x'=.ref f/\t σ H' fun vs H1=>sp vs H1 Q E0) I (isV.i ei ⟨rfl,h⟩)) fun u s0 ⟨x',H',I',r',ex,h'⟩=>?_)
 subst ex
 cases r'
 refine PySem.W.callWith_K (h₀:=X.base) I'.ok.mod.kin hkp (thn (ha pos pins s0 σ H' _ I' h') fun us s1 ⟨vs,H1,I1,r,q⟩=>⟨I1.kIn,?_⟩) he hpl
 exact q50 F (hr.mono hk) hb .nil (fun _ _ _ _ _ _ _ z=>z.elim) I1 r (by rw [List.append_nil]; exact q)
end L2
set_option Elab.async false
set_option linter.all false
set_option maxRecDepth 100000
namespace L2
open PySem PyProof.Rows
section
variable{P:Program}{w:World}{A:Around}{E:Value->Shared->Prop}{s:Shared}
theorem zvg{it t:Addr}{i:Nat}{its:Array Value}{x:Value}{Q:Value->Shared->Prop}(a:s.heap.IsTupleIter it t i)(b:s.heap.IsTuple t its)(c:its[i]?=some x)
  (q:∀h',h'.IsTupleIter it t (i+1)->Heap.SameBut it s.heap h'->Q x {s with heap:=h'}):wpAny (model P w) A (Builtin.SmallTypes.nextOf (.ref it)) Q E s:=by
 have ty:=a.typeIs
 obtain⟨⟨_,dc,_,sl⟩,eo,rfl,rfl⟩:=a
 obtain⟨⟨_,dl,_,ll⟩,el,rfl,nl,rfl⟩:=b
 rw [Builtin.SmallTypes.nextOf]
 refine wpAny_bind (wpAny_callSpecial?_slot (name:="__next__") ty F.slot_tuple_iterator_next (wpAny_call_entry F.slot_tuple_iterator_next ty F.entry_tuple_iterator_next ?_ (F.args_tuple_iterator_next_1 _)))
 wp_walk
 simp only[Int.toNat_natCast,c]
 wp_walk
 exact⟨_,rfl,wpAny_pure (q _ ⟨_,Heap.get?_update_self _ eo rfl,rfl,by simp[Obj.mapFields,rawInt]⟩ (Heap.SameBut.update ..))⟩
theorem zdq{it t:Addr}{i:Nat}{its:Array Value}{Q:Value->Shared->Prop}(hh:A.handled=none)(a:s.heap.IsTupleIter it t i)(b:s.heap.IsTuple t its)(c:its[i]?=none)
  (q:∀h' e,Heap.ExtBut it s.heap h'->(∃o,h'.get? e=some o/\o.cls=.type "StopIteration")->E (.ref e) {s with heap:=h'}):wpAny (model P w) A (Builtin.SmallTypes.nextOf (.ref it)) Q E s:=by
 have ty:=a.typeIs
 obtain⟨⟨_,dc,_,sl⟩,eo,rfl,rfl⟩:=a
 obtain⟨⟨_,dl,_,ll⟩,el,rfl,nl,rfl⟩:=b
 rw [Builtin.SmallTypes.nextOf]
 refine wpAny_bind (wpAny_callSpecial?_slot (name:="__next__") ty F.slot_tuple_iterator_next (wpAny_call_entry F.slot_tuple_iterator_next ty F.entry_tuple_iterator_next ?_ (F.args_tuple_iterator_next_1 _)))
 wp_walk
 simp only[Int.toNat_natCast,c]
 have hh':A.in1.handled=none:=hh
 wp_walk
 rw [raiseNew]
 wp_walk
 exact q _ _ (((Heap.SameBut.update ..).extBut.push _).push _) ⟨_,Heap.get?_push_size _ rfl,rfl⟩
theorem zt4(t u:Addr)(xs ys:Array Value):Meets (Builtin.«zip.__new__» ⟨[.type "zip",.ref t,.ref u],[]⟩) (fun _ R s=>s.heap.IsTuple t xs/\s.heap.IsTuple u ys/\
  ∀h',IsZip h' (s.heap.objs.size+4) (s.heap.objs.size+2) (s.heap.objs.size+3) .none->IsPair h' (s.heap.objs.size+2) (.ref s.heap.objs.size) (.ref (s.heap.objs.size+1))->IsPair h' (s.heap.objs.size+3) .none .none->
   h'.IsTupleIter s.heap.objs.size t 0->h'.IsTupleIter (s.heap.objs.size+1) u 0->h'.objs.size=s.heap.objs.size+5->(∀c o,s.heap.get? c=some o->h'.get? c=some o)->R (.ok (.ret (.ref (s.heap.objs.size+4)))) {s with heap:=h'}):=by
 refine .of_wp fun prog w A R s h=>?_
 obtain⟨hp,g,d,tk,os⟩:=s
 obtain⟨h1,h2,h⟩:=h
 have zz:=sub_zip
 have e1:Heap.IsTuple (Shared.heap ⟨hp,g,d,tk,os⟩) t xs:=h1
 have e2:Heap.IsTuple (Shared.heap ⟨hp.push {cls:=.type "tuple_iterator",data:=.fields #[.ref t,.int 0 0]},g,d,tk,os⟩) u ys:=Heap.IsTuple.push h2 _
 wp_walk using wpAny_pyIter_tuple e1,wpAny_pyIter_tuple e2
 refine⟨_,rfl,?_⟩
 have put:∀{k:Heap} {o:Obj} {n:Nat},n=k.objs.size->o.isFreed=false->(k.push o).get? n=some o:=fun e f=>by subst e; exact Heap.get?_push_size _ f
 have up:∀{k:Heap} {o o':Obj} {n:Nat},k.get? n=some o->(k.push o').get? n=some o:=fun e=>Heap.get?_push_of_some _ e
 simp only[Heap.size_push,Nat.add_assoc,Nat.reduceAdd]
 refine h _ ?_ ?_ ?_ ⟨_,up (up (up (up (put rfl rfl)))),rfl,rfl⟩ ⟨_,up (up (up (put (by simp[Heap.size_push]) rfl))),rfl,rfl⟩ (by simp[Heap.size_push]) fun c o x=>up (up (up (up (up x))))
 ·exact put (by simp[Heap.size_push]) rfl
 ·exact up (up (put (by simp[Heap.size_push]) rfl))
 ·exact up (put (by simp[Heap.size_push]) rfl)
def Nx(P:Program)(w:World)(A:Around)(it:Addr)(Q:Value->Shared->Prop)(E:Value->Shared->Prop)(s:Shared):Prop:=wpAny (model P w) A (Builtin.SmallTypes.nextOf (.ref it)) Q E s
theorem zm2{it:Addr}{Q:Value->Shared->Prop}(h:Nx P w A it Q E s):wpAny (model P w) A (Builtin.SmallTypes.nextOf (.ref it)) Q E s:=h
end
end L2
set_option Elab.async false
set_option linter.all false
set_option maxRecDepth 100000
namespace L2
open PySem PyProof.Rows
section
variable{P:Program}{w:World}{A:Around}{E:Value->Shared->Prop}{s:Shared}
set_option maxHeartbeats 8000000 in
theorem zwc{z I O i1 i2 t u:Addr}{k:Nat}{xs ys:Array Value}{x y a b:Value}{Q:Value->Shared->Prop}(D:ZipApart z I O i1 i2 t u)(hz:IsZip s.heap z I O .none)(hI:IsPair s.heap I (.ref i1) (.ref i2))(hO:IsPair s.heap O a b)
  (h1:s.heap.IsTupleIter i1 t k) (h2:s.heap.IsTupleIter i2 u k) (ht:s.heap.IsTuple t xs) (hu:s.heap.IsTuple u ys) (hx:xs[k]?=some x) (hy:ys[k]?=some y)
  (q:∀h',IsZip h' z I O (rawInt s.heap.objs.size)->IsPair h' O x y->h'.IsTupleIter i1 t (k+1)->h'.IsTupleIter i2 u (k+1)->IsPair h' s.heap.objs.size x y->h'.objs.size=s.heap.objs.size+1->
   (∀c o,c≠z->c≠O->c≠i1->c≠i2->s.heap.get? c=some o->h'.get? c=some o)->Q (.ref s.heap.objs.size) {s with heap:=h'}) :
  wpAny (model P w) A (Builtin.«zip.__next__» ⟨[.ref z],[]⟩) (fun fin s'=>∃v,fin=.done (.ret v)/\Q v s') E s:=by
 wp_walk using wpAny_onRaise,zm2
 have m0:Heap.SameBut z s.heap (s.heap.update z (Obj.mapFields fun x=>x.setIfInBounds 0 Value.ellipsis)):=Heap.SameBut.update ..
 have z0:IsZip (s.heap.update z (Obj.mapFields fun x=>x.setIfInBounds 0 Value.ellipsis)) z I O .ellipsis:=Heap.get?_update_self _ hz rfl
 generalize s.heap.update z (Obj.mapFields fun x=>x.setIfInBounds 0 Value.ellipsis)=g0 at m0 z0 |-
 refine zvg (h1.extBut m0.extBut D.i1z) (ht.extBut m0.extBut D.l1z) hx fun g1 j1 m1=>?_
 have o1:IsPair g1 O a b:=m1.extBut _ _ D.TOi1 (m0.extBut _ _ D.TOz hO)
 wp_walk using wpAny_onRaise,zm2
 have m2:Heap.SameBut O g1 (g1.update O (Obj.mapSeq fun v=>v.setIfInBounds 0 x)):=Heap.SameBut.update ..
 have o2:IsPair (g1.update O (Obj.mapSeq fun v=>v.setIfInBounds 0 x)) O x b:=Heap.get?_update_self _ o1 rfl
 generalize g1.update O (Obj.mapSeq fun v=>v.setIfInBounds 0 x)=g2 at m2 o2 |-
 refine zvg (((h2.extBut m0.extBut D.i2z).extBut m1.extBut D.i12.symm).extBut m2.extBut D.TOi2.symm) (((hu.extBut m0.extBut D.l2z).extBut m1.extBut D.l2i1).extBut m2.extBut D.l2TO) hy fun g3 j3 m3=>?_
 have o3:IsPair g3 O x b:=m3.extBut _ _ D.TOi2 o2
 have z3:IsZip g3 z I O .ellipsis:=m3.extBut _ _ D.i2z.symm (m2.extBut _ _ D.TOz.symm (m1.extBut _ _ D.i1z.symm z0))
 wp_walk using wpAny_onRaise,zm2
 have m4:Heap.SameBut O g3 (g3.update O (Obj.mapSeq fun v=>v.setIfInBounds (0+1) y)):=Heap.SameBut.update ..
 have o4:IsPair (g3.update O (Obj.mapSeq fun v=>v.setIfInBounds (0+1) y)) O x y:=Heap.get?_update_self _ o3 rfl
 generalize g3.update O (Obj.mapSeq fun v=>v.setIfInBounds (0+1) y)=g4 at m4 o4 |-
 have n4:g4.objs.size=s.heap.objs.size:=m4.1.trans (m3.1.trans (m2.1.trans (m1.1.trans m0.1)))
 rw [show((fun v:Array Value=>v.setIfInBounds (0+1) y) #[x,b]).toList.toArray = #[x,y] from rfl]
 have e5:IsPair (g4.push {cls:=.type "tuple",data:=.seq #[x,y]}) g4.objs.size x y:=Heap.get?_push_size _ rfl
 have z4:IsZip (g4.push {cls:=.type "tuple",data:=.seq #[x,y]}) z I O .ellipsis:=Heap.get?_push_of_some _ (m4.extBut _ _ D.TOz.symm z3)
 have k5:∀c o,c≠z->c≠O->c≠i1->c≠i2->s.heap.get? c=some o->(g4.push {cls:=.type "tuple",data:=.seq #[x,y]}).get? c=some o:=fun c o c1 c2 c3 c4 h=>Heap.get?_push_of_some _ (m4.extBut _ _ c2 (m3.extBut _ _ c4 (m2.extBut _ _ c2 (m1.extBut _ _ c3 (m0.extBut _ _ c1 h)))))
 have o5:IsPair (g4.push {cls:=.type "tuple",data:=.seq #[x,y]}) O x y:=Heap.get?_push_of_some _ o4
 have y1:(g4.push {cls:=.type "tuple",data:=.seq #[x,y]}).IsTupleIter i1 t (k+1):=(((j1.extBut m2.extBut D.TOi1.symm).extBut m3.extBut D.i12).extBut m4.extBut D.TOi1.symm).at fun o h=>Heap.get?_push_of_some _ h
 have y2:(g4.push {cls:=.type "tuple",data:=.seq #[x,y]}).IsTupleIter i2 u (k+1):=(j3.extBut m4.extBut D.TOi2.symm).at fun o h=>Heap.get?_push_of_some _ h
 have s5:(g4.push {cls:=.type "tuple",data:=.seq #[x,y]}).objs.size=s.heap.objs.size+1:=by rw [size_push',n4]
 rw [n4] at e5
 rw [n4]
 generalize g4.push {cls:=.type "tuple",data:=.seq #[x,y]}=g5 at e5 z4 k5 o5 y1 y2 s5 |-
 wp_walk
 have m6:Heap.SameBut z g5 ((g5.update z (Obj.mapFields fun v=>v.setIfInBounds 0 (rawInt s.heap.objs.size))).update z (Obj.mapFields fun v=>v.setIfInBounds 1 (Value.bool false))):=(Heap.SameBut.update ..).trans (Heap.SameBut.update ..)
 refine⟨_,rfl,q _ (Heap.get?_update_self _ (Heap.get?_update_self _ z4 rfl) rfl) (m6.extBut _ _ D.TOz o5) (y1.extBut m6.extBut D.i1z) (y2.extBut m6.extBut D.i2z) (m6.extBut _ _ (Nat.ne_of_gt (Heap.lt_size hz)) e5) (m6.1.trans s5) fun c o c1 c2 c3 c4 h=>m6.extBut _ _ c1 (k5 c o c1 c2 c3 c4 h)⟩
set_option maxHeartbeats 8000000 in
theorem zt5{z I O i1 i2 t u:Addr}{k:Nat}{xs ys:Array Value}{a b:Value}{Q:Fin->Shared->Prop}(hh:A.handled=none)(D:ZipApart z I O i1 i2 t u)(hz:IsZip s.heap z I O .none)(hI:IsPair s.heap I (.ref i1) (.ref i2))(hO:IsPair s.heap O a b)
  (h1:s.heap.IsTupleIter i1 t k) (h2:s.heap.IsTupleIter i2 u k) (ht:s.heap.IsTuple t xs) (hu:s.heap.IsTuple u ys) (hend:xs[k]?=none\/ys[k]?=none)
  (q:∀h' e,(∀c o,c≠z->c≠O->c≠i1->c≠i2->s.heap.get? c=some o->h'.get? c=some o)->(∃o,h'.get? e=some o/\o.cls=.type "StopIteration")->E (.ref e) {s with heap:=h'}) :
  wpAny (model P w) A (Builtin.«zip.__next__» ⟨[.ref z],[]⟩) Q E s:=by
 wp_walk using wpAny_onRaise,zm2
 have m0:Heap.SameBut z s.heap (s.heap.update z (Obj.mapFields fun x=>x.setIfInBounds 0 Value.ellipsis)):=Heap.SameBut.update ..
 have z0:IsZip (s.heap.update z (Obj.mapFields fun x=>x.setIfInBounds 0 Value.ellipsis)) z I O .ellipsis:=Heap.get?_update_self _ hz rfl
 generalize s.heap.update z (Obj.mapFields fun x=>x.setIfInBounds 0 Value.ellipsis)=g0 at m0 z0 |-
 cases hx:xs[k]? with
 | none=>
  refine zdq hh (h1.extBut m0.extBut D.i1z) (ht.extBut m0.extBut D.l1z) hx fun g1 e1 m1 he=>?_
  have z1:IsZip g1 z I O .ellipsis:=m1 _ _ D.i1z.symm z0
  obtain⟨oe,ho,hc⟩:=he
  have ne:e1≠z:=fun x=>by subst x; rw [z1] at ho; cases ho; simp at hc
  exact wpAny_setField_rec z1 (by simp) fun h5 _ m5=>q h5 e1 (fun c o c1 c2 c3 c4 h=>m5.extBut _ _ c1 (m1 _ _ c3 (m0.extBut _ _ c1 h))) ⟨oe,m5.extBut _ _ ne ho,hc⟩
 | some x=>
  have hy:ys[k]?=none:=hend.resolve_left (by rw [hx]; simp)
  refine zvg (h1.extBut m0.extBut D.i1z) (ht.extBut m0.extBut D.l1z) hx fun g1 j1 m1=>?_
  have o1:IsPair g1 O a b:=m1.extBut _ _ D.TOi1 (m0.extBut _ _ D.TOz hO)
  wp_walk using wpAny_onRaise,zm2
  have m2:Heap.SameBut O g1 (g1.update O (Obj.mapSeq fun v=>v.setIfInBounds 0 x)):=Heap.SameBut.update ..
  generalize g1.update O (Obj.mapSeq fun v=>v.setIfInBounds 0 x)=g2 at m2 |-
  refine zdq hh (((h2.extBut m0.extBut D.i2z).extBut m1.extBut D.i12.symm).extBut m2.extBut D.TOi2.symm) (((hu.extBut m0.extBut D.l2z).extBut m1.extBut D.l2i1).extBut m2.extBut D.l2TO) hy fun g3 e3 m3 he=>?_
  have z3:IsZip g3 z I O .ellipsis:=m3 _ _ D.i2z.symm (m2.extBut _ _ D.TOz.symm (m1.extBut _ _ D.i1z.symm z0))
  obtain⟨oe,ho,hc⟩:=he
  have ne:e3≠z:=fun x=>by subst x; rw [z3] at ho; cases ho; simp at hc
  exact wpAny_setField_rec z3 (by simp) fun h5 _ m5=>q h5 e3 (fun c o c1 c2 c3 c4 h=>m5.extBut _ _ c1 (m3 _ _ c4 (m2.extBut _ _ c2 (m1.extBut _ _ c3 (m0.extBut _ _ c1 h))))) ⟨oe,m5.extBut _ _ ne ho,hc⟩
end
end L2
set_option Elab.async false
set_option linter.all false
set_option maxRecDepth 100000
namespace L2
open PySem PySem.Spec PyProof.Rows
section
variable{P:Program}{w:World}{A:Around}{E:Value->Shared->Prop}{s:Shared}
theorem zy8{z I O i1 i2 t u:Addr}{k:Nat}{xs ys:Array Value}{x y a b:Value}{Q:Option Value->Shared->Prop}(D:ZipApart z I O i1 i2 t u)(hz:IsZip s.heap z I O .none)(hI:IsPair s.heap I (.ref i1) (.ref i2))(hO:IsPair s.heap O a b)
  (h1:s.heap.IsTupleIter i1 t k) (h2:s.heap.IsTupleIter i2 u k) (ht:s.heap.IsTuple t xs) (hu:s.heap.IsTuple u ys) (hx:xs[k]?=some x) (hy:ys[k]?=some y)
  (q:∀h',IsZip h' z I O (rawInt s.heap.objs.size)->IsPair h' O x y->h'.IsTupleIter i1 t (k+1)->h'.IsTupleIter i2 u (k+1)->IsPair h' s.heap.objs.size x y->h'.objs.size=s.heap.objs.size+1->
   (∀c o,c≠z->c≠O->c≠i1->c≠i2->s.heap.get? c=some o->h'.get? c=some o)->Q (some (.ref s.heap.objs.size)) {s with heap:=h'}):wpAny (model P w) A (pyNext (.ref z)) Q E s:=by
 have ty:s.TypeIs (.ref z) "zip":=⟨_,hz,rfl⟩
 rw [pyNext]
 refine wpAny_bind (wpAny_attempt (wpAny_callSpecial?_slot (name:="__next__") ty PySem.F.slot_zip_next (wpAny_call_entry PySem.F.slot_zip_next ty PySem.F.entry_zip_next ?_ (PySem.F.args_zip_next_1 _))))
 exact zwc D hz hI hO h1 h2 ht hu hx hy fun h' b1 b2 b3 b4 b5 b6 b7=>wpAny_pure (q h' b1 b2 b3 b4 b5 b6 b7)
theorem q23{z I O i1 i2 t u:Addr}{k:Nat}{xs ys:Array Value}{a b:Value}{Q:Option Value->Shared->Prop}(hh:A.handled=none)(D:ZipApart z I O i1 i2 t u)(hz:IsZip s.heap z I O .none)(hI:IsPair s.heap I (.ref i1) (.ref i2))(hO:IsPair s.heap O a b)
  (h1:s.heap.IsTupleIter i1 t k) (h2:s.heap.IsTupleIter i2 u k) (ht:s.heap.IsTuple t xs) (hu:s.heap.IsTuple u ys) (hend:xs[k]?=none\/ys[k]?=none)
  (q:∀h',(∀c o,c≠z->c≠O->c≠i1->c≠i2->s.heap.get? c=some o->h'.get? c=some o)->Q none {s with heap:=h'}):wpAny (model P w) A (pyNext (.ref z)) Q E s:=by
 have ty:s.TypeIs (.ref z) "zip":=⟨_,hz,rfl⟩
 rw [pyNext]
 refine wpAny_bind (wpAny_attempt (wpAny_callSpecial?_slot (name:="__next__") ty PySem.F.slot_zip_next (wpAny_call_entry PySem.F.slot_zip_next ty PySem.F.entry_zip_next (zt5 (by simpa using hh) D hz hI hO h1 h2 ht hu hend fun h' e hk he=>?_) (PySem.F.args_zip_next_1 _))))
 obtain⟨o,ho,hc⟩:=he
 exact wpAny_bind (wpAny_isInstance (b:=true) ⟨o,ho,hc⟩ isSubtype_stop (wpAny_pure (q _ hk)))
theorem q1q{t u:Addr}{xs ys:Array Value}{Q:Value->Shared->Prop}(ht:s.heap.IsTuple t xs)(hu:s.heap.IsTuple u ys)
  (h:∀h',IsZip h' (s.heap.objs.size+4) (s.heap.objs.size+2) (s.heap.objs.size+3) .none->IsPair h' (s.heap.objs.size+2) (.ref s.heap.objs.size) (.ref (s.heap.objs.size+1))->IsPair h' (s.heap.objs.size+3) .none .none->
   h'.IsTupleIter s.heap.objs.size t 0->h'.IsTupleIter (s.heap.objs.size+1) u 0->h'.objs.size=s.heap.objs.size+5->(∀c o,s.heap.get? c=some o->h'.get? c=some o)->Q (.ref (s.heap.objs.size+4)) {s with heap:=h'}) :
  wpAny (model P w) A (call (.type "zip") [.ref t,.ref u]) Q E s:=by
 refine callType_new PySem.F.called_zip (by decide) (PySem.F.typeCall_zip_2 _ _) (PySem.F.newCall_zip_2 _ _) (fun obj=>PySem.F.args_object_init_3 obj _ _) PySem.F.entry_zip_new (zt4 t u xs ys) ⟨ht,hu,fun h' b1 b2 b3 b4 b5 b6 b7=>?_⟩
 exact⟨⟨_,b1,rfl⟩,h h' b1 b2 b3 b4 b5 b6 b7⟩
end
def qai(K:PySem.W.Frag)(a b:Addr):It:=
 ⟨fun i H=>∃xs ys x y,SqT K H a xs/\SqT K H b ys/\xs[i]?=some x/\ys[i]?=some y,fun i H x H'=>∃T u v,x=.ref T/\H T=none/\H'=upd H T (.tup [u,v])/\(∀xs,SqT K H a xs->xs[i]?=some u)/\∀ys,SqT K H b ys->ys[i]?=some v,
  fun i H=>∃xs ys,SqT K H a xs/\SqT K H b ys/\(xs.length<=i\/ys.length<=i)⟩
theorem zyf{P:Program}{w:World}{K:PySem.W.Frag}{elts:List Expr}{kt:Nat}{pt:Pos}(a b z TI TO i1 i2:Addr)(D:ZipApart z TI TO i1 i2 a b) :
  Turn P w K (.Tuple elts kt pt) (qai K a b) [z,TI,TO,i1,i2] z (fun i h=>IsZip h z TI TO .none/\IsPair h TI (.ref i1) (.ref i2)/\(∃u v,IsPair h TO u v)/\h.IsTupleIter i1 a i/\h.IsTupleIter i2 b i) where
 mem:=by simp
 obj:=fun i h st c hc=>by
  obtain⟨hz,hTI,⟨u,v,hTO⟩,h1,h2⟩:=st
  simp only[List.mem_cons,List.not_mem_nil,or_false] at hc
  rcases hc with rfl | rfl | rfl | rfl | rfl
  ·exact⟨_,hz,fun v z=>by cases z⟩
  ·exact⟨_,hTI,fun v z=>by cases z⟩
  ·exact⟨_,hTO,fun v z=>by cases z⟩
  ·obtain⟨o,e',c,d⟩:=h1
   exact⟨o,e',fun v z=>by rw [d] at z; cases z⟩
  ·obtain⟨o,e',c,d⟩:=h2
   exact⟨o,e',fun v z=>by rw [d] at z; cases z⟩
 keep:=fun i h h' st k=>by
  obtain⟨hz,hTI,⟨u,v,hTO⟩,h1,h2⟩:=st
  exact⟨k z (by simp) _ hz,k TI (by simp) _ hTI,⟨u,v,k TO (by simp) _ hTO⟩,h1.at fun o q=>k i1 (by simp) o q,h2.at fun o q=>k i2 (by simp) o q⟩
 item:=by
  intro X hP hw hK hc i pins s σ H E I hf st hg
  subst hP hw hK
  obtain⟨hz,hTI,⟨u0,v0,hTO⟩,h1,h2⟩:=st
  obtain⟨xs,ys,x,y,hq,hq2,hx,hy⟩:=hg
  obtain⟨its,rv,p,_⟩:=I.tuple hq
  obtain⟨its2,rv2,p2,_⟩:=I.tuple hq2
  obtain⟨u,hu,ru⟩:=rv.get hx
  obtain⟨u2,hu2,ru2⟩:=rv2.get hy
  refine zy8 D hz hTI hTO h1 h2 p p2 (x:=u) (y:=u2) (by simpa using hu) (by simpa using hu2) fun h3 a1 a2 a3 a4 a5 a6 hk=>?_
  refine⟨_,rfl,wpAny_letOwnedTupleGo_zip a1 fun h4 hz4 hs4=>?_⟩
  have hs4':Heap.SameBut z h3 h4:=hs4
  have hzl:z < s.heap.objs.size:=Heap.lt_size hz
  have kk:∀c o,c∉[z,TI,TO,i1,i2]->s.heap.get? c=some o->h4.get? c=some o:=fun c o hc' q=>
   hs4'.extBut c o (fun e=>hc' (by simp[e])) (hk c o (fun e=>hc' (by simp[e])) (fun e=>hc' (by simp[e])) (fun e=>hc' (by simp[e])) (fun e=>hc' (by simp[e])) q)
  have I1:Inv X pins σ H {s with heap:=h4,toks:=s.toks}:=I.turnedL kk hf
  have hTn:H s.heap.objs.size=none:=I.hok.fresh (Nat.le_refl _)
  have hT2:h4.get? s.heap.objs.size=some {cls:=.type "tuple",data:=.seq #[u,u2]}:=hs4'.extBut _ _ (Nat.ne_of_gt hzl) a5
  have I2:Inv X pins σ (upd H s.heap.objs.size (.tup [x,y])) {s with heap:=h4,toks:=s.toks}:=
   I1.track hTn (I.fpOk (Nat.le_refl _) hTn) (show ObjOk X.prog X.w _ h4 _ (.tup [x,y]) from⟨q4m,[u,u2],.cons ru (.cons ru2 .nil),⟨_,hT2,rfl,_,rfl⟩⟩)
  refine⟨.ref s.heap.objs.size,_,I2,rfl,⟨s.heap.objs.size,x,y,rfl,hTn,rfl,fun zs hz'=>by rw [I.tuple_inj hz' hq]; exact hx,fun zs hz'=>by rw [I.tuple_inj hz' hq2]; exact hy⟩,
   ⟨hz4,hs4'.extBut _ _ D.TIz (hk _ _ D.TIz D.TITO D.TIi1 D.TIi2 hTI),⟨_,_,hs4'.extBut _ _ D.TOz a2⟩,a3.at fun o q=>(hs4'.2 i1 D.i1z).trans q,a4.at fun o q=>(hs4'.2 i2 D.i2z).trans q⟩,fun c hc'=>?_⟩
  have hcl:c < s.heap.objs.size:=by
   simp only[List.mem_cons,List.not_mem_nil,or_false] at hc'
   rcases hc' with rfl | rfl | rfl | rfl | rfl
   ·exact hzl
   ·exact Heap.lt_size hTI
   ·exact Heap.lt_size hTO
   ·obtain⟨o,e',_⟩:=h1; exact Heap.lt_size e'
   ·obtain⟨o,e',_⟩:=h2; exact Heap.lt_size e'
  rw [z0o (Nat.ne_of_lt hcl)]
  exact(hf c hc').1
 done:=by
  intro X hP hw hK hc i pins s σ H E I hf st hg
  subst hP hw hK
  obtain⟨hz,hTI,⟨u0,v0,hTO⟩,h1,h2⟩:=st
  obtain⟨xs,ys,hq,hq2,hend⟩:=hg
  obtain⟨its,rv,p,_⟩:=I.tuple hq
  obtain⟨its2,rv2,p2,_⟩:=I.tuple hq2
  have e1:=rv.length
  have e2:=rv2.length
  refine q23 (I.ok.hd hc) D hz hTI hTO h1 h2 p p2 ?_ fun h' hk=>⟨rfl,I.turnedL (t':=s.toks) (fun c o hc' q=>hk c o (fun e=>hc' (by simp[e])) (fun e=>hc' (by simp[e])) (fun e=>hc' (by simp[e])) (fun e=>hc' (by simp[e])) q) hf⟩
  rcases hend with z | z
  ·exact .inl (by simp; omega)
  ·exact .inr (by simp; omega)
 self:=fun _ _ _ _ _ st h=>wpAny_pyIter_zip st.1 h
section
variable{X:Cx}
def q9s(K:PySem.W.Frag)(ta:TA):TI:=fun σ H R=>ta σ H fun vs H1=>∃a b,vs=[.ref a,.ref b]/\(∃xs,SqT K H1 a xs)/\(∃ys,SqT K H1 b ys)/\R (qai K a b) H1
theorem q6k{elts:List Expr}{kt:Nat}{pt p pos:Pos}{l l2:Expr}{ta:TA} (hg:Gl X "zip") (hm:X.mg "zip" = none) (ha:PA X [l,l2] ta) (hst:zmm l=false:=by rfl) (hst2:zmm l2=false:=by rfl):PI X (.Tuple elts kt pt) (.Call (.Name "zip" p) [l,l2] [] pos) (q9s X.K ta):=by
 refine⟨?_⟩
 intro pins s σ H R I h
 have hpl:=z5q (pos:=pos) (env:=X.env) (es:=[l2]) (by simp[z5r,hst2])
 refine Call_ (zov I hg hm boot_zip (PyProof.Rows.callWith_type1 (thn (ha pos pins s σ H _ I h) fun us s1 ⟨vs,H1,I1,r1,q1⟩=>?_) (z2j hst) hpl))
 obtain⟨a,b,e,⟨xs,hq⟩,⟨ys,hq2⟩,q⟩:=q1
 subst e
 cases r1 with
 | cons r rr=>
  cases rr with
  | cons r2 rr=>
   cases rr
   cases r
   cases r2
   obtain⟨its,rv,pl,_⟩:=I1.tuple hq
   obtain⟨its2,rv2,pl2,_⟩:=I1.tuple hq2
   have hla:a < s1.heap.objs.size:=by obtain⟨_,e,_⟩:=pl; exact Heap.lt_size e
   have hlb:b < s1.heap.objs.size:=by obtain⟨_,e,_⟩:=pl2; exact Heap.lt_size e
   refine q1q pl pl2 fun h' hz hTI hTO h1 h2 hsz hk=>?_
   have I2:Inv X pins σ H1 {s1 with heap:=h'}:=I1.kept (t':=s1.toks) hk
   refine wpAny_pyIter_zip hz ?_
   refine⟨s1.heap.objs.size+4,[s1.heap.objs.size+4,s1.heap.objs.size+2,s1.heap.objs.size+3,s1.heap.objs.size,s1.heap.objs.size+1],_,_,H1,rfl,I2,zyf a b _ _ _ _ _ (zipApart_new hla hlb),⟨hz,hTI,⟨_,_,hTO⟩,h1,h2⟩,fun c hc=>?_,q⟩
   have hle:s1.heap.objs.size<=c:=by
    simp only[List.mem_cons,List.not_mem_nil,or_false] at hc
    rcases hc with rfl | rfl | rfl | rfl | rfl<;>first | exact Nat.le_refl _ | exact Nat.le_add_right _ _
   exact I1.fpOk hle (I1.hok.fresh hle)
end
section
variable{prog:Program}{w:World}{A:Around}{E:Value->Shared->Prop}{s:Shared}
theorem zf9{t sl:Addr}{items:Array Value}{vl vu:Value}{lo hi:Option Int}{Q:Value->Shared->Prop}(ht:IsTup s.heap t items)(hs:s.heap.IsSliceOf sl vl vu .none)(pl:IsPart vl lo)(pu:IsPart vu hi)
  (hw:HT.sIx items.size 0 lo=0/\HT.sIx items.size items.size hi=items.size) (h:Q (.ref t) s):wpAny (model prog w) A (getItem (.ref t) (.ref sl)) Q E s:=by
 obtain⟨os,hos,hcs,hds⟩:=id hs
 have ts:s.TypeIs (.ref sl) "slice":=⟨os,hos,hcs⟩
 unfold getItem
 try with_reducible refine wpAny_holding ?_
 first | refine wpAny_bind (wpAny_pure ?_) | skip
 refine wpAny_bind (wpAny_sequenceKey ht.typeIs (by decide) ?_)
 refine wpAny_bind (wpAny_callSpecial?_slot (name:=Str.ofString "__getitem__") ht.typeIs PyProof.Rows.slot_tuple_getitem (wpAny_call_entry PyProof.Rows.slot_tuple_getitem ht.typeIs entry_tuple_getitem ?_ (args_tuple_getitem _ _)))
 show wpAny _ _ (Builtin.Tuple.tupleItemsOf (.ref t) >>= _) _ _ s
 refine wpAny_bind (PyProof.Rows.tupleItemsOf_ ht (wpAny_bind (wpAny_typeOf ts ?_)))
 rw [if_pos (by decide)]
 refine wpAny_bind (HT.zbx hs pl pu ?_)
 refine wpAny_ite_split (fun _=>?_) (fun c=>absurd ?_ c)
 ·unfold Builtin.Tuple.tupleIsExact
  refine wpAny_bind (wpAny_bind (wpAny_typeOf ht.typeIs (wpAny_pure ?_)))
  refine wpAny_ite_split (fun _=>?_) (fun c=>absurd (by decide) c)
  exact wpAny_bind (wpAny_rule (wpAny_pure ⟨_,rfl,wpAny_pure h⟩))
 ·rw [hw.1,hw.2]
  simp
end
section
variable{X:Cx}
def qbl(K:PySem.W.Frag):V->Option Int->Option Int->Hp->VK->Prop:=fun x lo hi H Q=>∃a xs,x=.ref a/\SqT K H a xs/\
 (((HT.sIx xs.length 0 lo=0/\HT.sIx xs.length xs.length hi=xs.length)/\Q (.ref a) H)\/(¬ (HT.sIx xs.length 0 lo=0/\HT.sIx xs.length xs.length hi=xs.length)/\∀p,H p=none->Q (.ref p) (upd H p (.tup (q1h xs lo hi)))))
theorem zz4:SlR X (qbl X.K):=by
 intro pins s σ H x v vl vu lo hi sl Q I rx hs pl pu h
 obtain⟨a,xs,rfl,hx,⟨hw,q⟩ | ⟨hw,q⟩⟩:=h
 ·cases rx
  obtain⟨its,r,ht,hz⟩:=I.tuple hx
  have hlen:its.toArray.size=xs.length:=by rw [List.size_toArray]; exact r.length.symm
  exact⟨"tuple",_,PyProof.Rows.slot_tuple_getitem.lookup,ht.typeIs,zf9 ht hs pl pu (by rw [hlen]; exact hw) ⟨.ref a,H,I,rfl,q⟩⟩
 ·exact q8n pins s σ H (.ref a) v vl vu lo hi sl Q I rx hs pl pu ⟨a,xs,rfl,hx,hw,q⟩
end
theorem q1i{K:PySem.W.Frag}{a b:Addr}{xs ys:List V}{g:TG}{tt:TT}{te:TE}{Q:VK}{σ : St}{H:Hp}(hxy:ys.length<=xs.length)(Pv:Nat->List V->St->Hp->Prop)(h0:Pv 0 [] σ H)(hz:ys.length < sizeLine)(hy:∀i zs σ H,Pv i zs σ H->zs.length<=i)(hl:∀i zs σ H,i<=ys.length->Pv i zs σ H->SqT K H a xs/\SqT K H b ys)
  (hs:∀i zs x y σ H T,xs[i]?=some x->ys[i]?=some y->Pv i zs σ H->H T=none->g (.ref T) σ (upd H T (.tup [x,y])) fun σ2 H2=>tt σ2 H2 fun b H3=>if b=true then te σ2 H3 (fun v H4=>Pv (i+1) (zs++[v]) σ2 H4) else Pv (i+1) zs σ2 H3)
  (hd:∀zs σ H,Pv ys.length zs σ H->∀p,H p=none->Q (.ref p) (upd H p (.lst zs))):zfm (qai K a b) g tt te Q σ H:=by
 refine⟨fun i m zs σ H=>m=ys.length - i/\i<=ys.length/\Pv i zs σ H,⟨ys.length,by simp,Nat.zero_le _,h0⟩,?_⟩
 rintro i m zs σ H ⟨rfl,hi,p⟩
 have q:=hl i zs σ H hi p
 have hyl:=hy i zs σ H p
 by_cases hlt:i < ys.length
 ·refine .inr ⟨⟨xs,ys,xs[i]'(by omega),ys[i],q.1,q.2,by simp,by simp⟩,by omega,Pv (i+1),fun ys' σ' H' p'=>⟨ys.length - (i+1),by omega,rfl,hlt,p'⟩,fun x H' y=>?_⟩
  obtain⟨T,u,v,rfl,hT,rfl,y1,y2⟩:=y
  exact hs i zs u v σ H T (y1 xs q.1) (y2 ys q.2) p hT
 ·have e:i=ys.length:=by omega
  subst e
  exact .inl ⟨⟨xs,ys,q.1,q.2,.inr (Nat.le_refl _)⟩,by omega,hd zs σ H p⟩
theorem zzp{P:Program}{w:World}{K:PySem.W.Frag}{mg:Str->Option Value}{base:Heap}{X:Cx}{x:Str}{i k j:Nat}{e:Expr}{es:List Expr}{t:TA}{p pos:Pos}(eP:X.prog=P)(ew:X.w=w)(eK:X.K=K)(em:X.mg=mg)(eb:X.base=base)
  (hN:X.N[i]?=some x) (hv:Vis X.env.scope x) (hr:Room j X.A) (hk:k<=j) (ha:PA X (e::es) t)
  (hd:(x == ("__debug__" : Str))=false:=by decide) (hcd:(x == ("__classdict__" : Str))=false:=by decide) (hst:z5r (e::es)=true:=by rfl) :
  PE X (.Call (.Name x p) (e::es) [] pos) (zym (q8a P w K mg base k) i t):=by
 subst eP ew eK em eb
 exact q36 hN hv hr hk ha hd hcd hst
end L2
set_option Elab.async false
set_option linter.all false
set_option maxRecDepth 100000
namespace L2
open PySem PySem.Spec PyProof.Rows
inductive DX where
 | c (d:Dm) | var (i:Nat) | tup (l:List DX) | lst (l:List DX) | cat (a b:DX) | lof (a:DX)
def qdv:Dm->Dm->Dm
 | .tup x,.tup y=>.tup (x++y)
 | _,_=>.non
mutual
def DX.val(ρ : Nat->Dm):DX->Dm
 | .c d=>d
 | .var i=>ρ i
 | .tup l=>.tup (q4k ρ l)
 | .lst _=>.lst
 | .cat a b=>qdv (a.val ρ) (b.val ρ)
 | .lof _=>.lst
def q4k(ρ : Nat->Dm):List DX->List Dm
 | []=>[]
 | x::r=>x.val ρ::q4k ρ r
end
mutual
def DX.Fit(ρ : Nat->Dm)(σ : St)(H:Hp):DX->Prop
 | .c _=>True
 | .var i=>∃v,σ[i]?=some (some v)/\Dt H v (ρ i)
 | .tup l=>l.length<=1000/\FitA ρ σ H l
 | .lst l=>l.length<=1000/\FitA ρ σ H l
 | .cat a b=>a.Fit ρ σ H/\b.Fit ρ σ H/\∃x y,a.val ρ = .tup x/\b.val ρ = .tup y/\x.length+y.length<=1000
 | .lof a=>a.Fit ρ σ H/\∃x,a.val ρ = .tup x
def FitA(ρ : Nat->Dm)(σ : St)(H:Hp):List DX->Prop
 | []=>True
 | x::r=>x.Fit ρ σ H/\FitA ρ σ H r
end
mutual
theorem DX.Fit.mono{ρ : Nat->Dm}{σ : St}{H H':Hp}(s:Same H H'):∀{x:DX},x.Fit ρ σ H->x.Fit ρ σ H'
 | .c _,_=>by rw [DX.Fit]; trivial
 | .var i,h=>by
  rw [DX.Fit] at h |-
  obtain⟨v,e,d⟩:=h
  exact⟨v,e,d.kp s.kp⟩
 | .tup l,h=>by
  rw [DX.Fit] at h |-
  exact⟨h.1,FitA.mono s h.2⟩
 | .lst l,h=>by
  rw [DX.Fit] at h |-
  exact⟨h.1,FitA.mono s h.2⟩
 | .cat a b,h=>by
  rw [DX.Fit] at h |-
  exact⟨DX.Fit.mono s h.1,DX.Fit.mono s h.2.1,h.2.2⟩
 | .lof a,h=>by
  rw [DX.Fit] at h |-
  exact⟨DX.Fit.mono s h.1,h.2⟩
theorem FitA.mono{ρ : Nat->Dm}{σ : St}{H H':Hp}(s:Same H H'):∀{l:List DX},FitA ρ σ H l->FitA ρ σ H' l
 | [],_=>by rw [FitA]; trivial
 | x::r,h=>by
  rw [FitA] at h |-
  exact⟨DX.Fit.mono s h.1,FitA.mono s h.2⟩
end
def qaa(vt:List Nat):DX->DX->Bool
 | .var i,.tup l=>vt.contains i && decide (l.length<=100)
 | _,_=>false
def q9i(vt:List Nat):DX->Bool
 | .var i=>vt.contains i
 | _=>false
mutual
def DX.chk(vo vt:List Nat):DX->Bool
 | .c _=>true
 | .var i=>vo.contains i
 | .tup l=>decide (l.length<=100) && qa6 vo vt l
 | .lst l=>decide (l.length<=100) && qa6 vo vt l
 | .cat a b=>qaa vt a b && a.chk vo vt && b.chk vo vt
 | .lof a=>q9i vt a && a.chk vo vt
def qa6(vo vt:List Nat):List DX->Bool
 | []=>true
 | x::r=>x.chk vo vt && qa6 vo vt r
end
structure Env(ρ : Nat->Dm)(σ : St)(H:Hp)(vo vt:List Nat):Prop where
 o:∀i∈vo,∃v,σ[i]?=some (some v)/\Dt H v (ρ i)
 t:∀i∈vt,∃ds,ρ i=.tup ds/\ds.length<=100
theorem zqu(ρ : Nat->Dm):∀l:List DX,(q4k ρ l).length=l.length
 | []=>rfl
 | _::r=>by rw [q4k,List.length_cons,List.length_cons,zqu ρ r]
mutual
theorem Env.fit{ρ : Nat->Dm}{σ : St}{H:Hp}{vo vt:List Nat}(e:Env ρ σ H vo vt):∀{x:DX},x.chk vo vt=true->x.Fit ρ σ H
 | .c _,_=>by rw [DX.Fit]; trivial
 | .var i,h=>by
  rw [DX.chk] at h
  rw [DX.Fit]
  exact e.o i (List.contains_iff_mem.mp h)
 | .tup l,h=>by
  rw [DX.chk,Bool.and_eq_true,decide_eq_true_eq] at h
  rw [DX.Fit]
  exact⟨by omega,e.fitA h.2⟩
 | .lst l,h=>by
  rw [DX.chk,Bool.and_eq_true,decide_eq_true_eq] at h
  rw [DX.Fit]
  exact⟨by omega,e.fitA h.2⟩
 | .cat a b,h=>by
  rw [DX.chk,Bool.and_eq_true,Bool.and_eq_true] at h
  obtain⟨⟨h0,h1⟩,h2⟩:=h
  rw [DX.Fit]
  refine⟨e.fit h1,e.fit h2,?_⟩
  unfold qaa at h0
  split at h0
  ·rename_i i l
   rw [Bool.and_eq_true,decide_eq_true_eq] at h0
   obtain⟨ds,ed,hl⟩:=e.t i (List.contains_iff_mem.mp h0.1)
   exact⟨ds,q4k ρ l,by rw [DX.val]; exact ed,by rw [DX.val],by rw [zqu]; omega⟩
  ·cases h0
 | .lof a,h=>by
  rw [DX.chk,Bool.and_eq_true] at h
  rw [DX.Fit]
  refine⟨e.fit h.2,?_⟩
  have h0:=h.1
  unfold q9i at h0
  split at h0
  ·rename_i i
   obtain⟨ds,ed,hl⟩:=e.t i (List.contains_iff_mem.mp h0)
   exact⟨ds,by rw [DX.val]; exact ed⟩
  ·cases h0
theorem Env.fitA{ρ : Nat->Dm}{σ : St}{H:Hp}{vo vt:List Nat}(e:Env ρ σ H vo vt):∀{l:List DX},qa6 vo vt l=true->FitA ρ σ H l
 | [],_=>by rw [FitA]; trivial
 | x::r,h=>by
  rw [qa6,Bool.and_eq_true] at h
  rw [FitA]
  exact⟨e.fit h.1,e.fitA h.2⟩
end
def tDX(x:DX):TE:=fun σ H Q=>∃ ρ,x.Fit ρ σ H/\∀v H',Same H H'->Dt H' v (x.val ρ)->Q v H'
def qao(l:List DX):TA:=fun σ H Q=>∃ ρ,FitA ρ σ H l/\∀vs H',Same H H'->DtA H' vs (q4k ρ l)->Q vs H'
theorem zuw(ρ : Nat->Dm):∀l:List DX,(q4k ρ l).length=l.length
 | []=>rfl
 | _::r=>by rw [q4k,List.length_cons,List.length_cons,zuw ρ r]
section
variable{X:Cx}
theorem PE.weak{e:Expr}{t t':TE}(h:PE X e t)(k:∀ σ H Q,t' σ H Q->t σ H Q):PE X e t':=⟨fun pins s σ H Q I q=>h pins s σ H Q I (k σ H Q q)⟩
theorem PA.weak{es:List Expr}{t t':TA}(h:PA X es t)(k:∀ σ H Q,t' σ H Q->t σ H Q):PA X es t':=⟨fun pos pins s σ H Q I q=>h pos pins s σ H Q I (k σ H Q q)⟩
theorem qd7{e:Expr}{v:V}{d:Dm}(h:PE X e (tC v))(k:∀H,Dt H v d):PE X e (tDX (.c d)):=h.weak fun σ H Q ⟨ρ,_,q⟩=>q v H (Same.refl _) (k H)
theorem z25{i:Int}{j pos}:PE X (.Constant (.int i) j pos) (tDX (.c (.int i))):=qd7 z03 fun _=>.int i
theorem z24{x j pos}:PE X (.Constant (.str x) j pos) (tDX (.c (.str x))):=qd7 z2s fun _=>.str x
theorem z2u{e:Expr}{i:Nat}(h:PE X e (zuy i)):PE X e (tDX (.var i)):=h.weak fun σ H Q ⟨ρ,f,q⟩=>by
 rw [DX.Fit] at f
 obtain⟨v,ev,d⟩:=f
 exact isV.i ev (q v H (Same.refl _) d)
theorem z0b:PA X [] (qao []):=pa_nil.weak fun σ H Q ⟨ρ,_,q⟩=>q [] H (Same.refl _) .nil
theorem z0c{e:Expr}{es:List Expr}{x:DX}{l:List DX}(h:PE X e (tDX x))(k:PA X es (qao l))(hs:zmm e=false:=by rfl):PA X (e::es) (qao (x::l)):=(z07 h k hs).weak fun σ H Q ⟨ρ,f,q⟩=>by
 rw [FitA] at f
 exact⟨ρ,f.1,fun v H1 s1 d1=>⟨ρ,f.2.mono s1,fun vs H2 s2 d2=>q (v::vs) H2 (s1.trans s2) (.cons (d1.kp s2.kp) d2)⟩⟩
theorem z0h{es:List Expr}{x1}{l:List DX}{pos:Pos}(h:PA X es (qao l)):PE X (.Tuple es x1 pos) (tDX (.tup l)):=(z1a h).weak fun σ H Q ⟨ρ,f,q⟩=>by
 rw [DX.Fit] at f
 exact⟨ρ,f.2,fun vs H1 s1 d1=>⟨by rw [d1.length,zuw]; exact Nat.le_of_lt (z10 f.1),fun p hp=>q _ _ (s1.trans (z06 hp _)) (.tup z02 (d1.kp (z06 hp _).kp))⟩⟩
end
end L2
set_option Elab.async false
set_option linter.all false
set_option maxRecDepth 100000
namespace L2
open PySem PySem.Spec PyProof.Rows PySem.W
def ltI:List Int->List Int->Bool
 | _,[]=>false
 | [],_::_=>true
 | a::x,b::y=>if a=b then ltI x y else decide (a < b)
theorem q59:∀{x y:List Int},ltI x y=true->x≠y
 | [],[],h,_=>by simp[ltI] at h
 | a::x,b::y,h,e=>by
  injection e with e1 e2
  subst e1 e2
  rw [ltI,if_pos rfl] at h
  exact q59 h rfl
theorem q58:∀{x y:List Int},ltI x y=true->ltI y x=false
 | _,[],h=>by cases ‹List Int›<;>simp[ltI] at h
 | [],b::y,_=>by simp[ltI]
 | a::x,b::y,h=>by
  rw [ltI] at h |-
  by_cases e:a=b
  ·subst e
   rw [if_pos rfl] at h |-
   exact q58 h
  ·rw [if_neg e] at h
   rw [if_neg (Ne.symm e)]
   simp only[decide_eq_true_eq,decide_eq_false_iff_not] at h |-
   omega
section
variable{prog:Program}{w:World}{A:Around}{E:Value->Shared->Prop}{s:Shared}
variable{k:SortKind}{vs:List Value}{st:SortSt}
end
end L2
set_option Elab.async false
set_option linter.all false
set_option maxRecDepth 100000
namespace L2
open PySem PySem.Spec PyProof.Rows PySem.W
section
variable{prog:Program}{w:World}{A:Around}{E:Value->Shared->Prop}{s:Shared}
theorem ztz{b:Bool}{Q:Bool->Shared->Prop}:∀(x y:List Int) (us vs:List Value) (i:Nat) (fin:Bool),ItemsAre (intKind prog w) x us->ItemsAre (intKind prog w) y vs->fin=decide (us.length < vs.length)->Q (ltI x y) s->KatLex prog w A b fin Q (us.zip vs) i s:=by
 intro x
 induction x with
 | nil=>
  intro y us vs i fin hx hy hf h
  cases hx
  rw [List.zip_nil_left]
  refine kat_nil ?_
  cases hy with
  | nil=>rw [hf]; simpa [ltI] using h
  | cons _ _=>rw [hf]; simpa [ltI] using h
 | cons a x ih=>
  intro y us vs i fin hx hy hf h
  cases hx with
  | @cons _ u _ us h1 hx=>
   cases hy with
   | nil=>
    rw [List.zip_nil_right]
    refine kat_nil ?_
    rw [hf]
    simpa [ltI] using h
   | @cons c v y vs h2 hy=>
    obtain⟨t1,rfl⟩:=zpv h1
    obtain⟨t2,rfl⟩:=zpv h2
    rw [List.zip_cons_cons]
    refine kat_cons (wpAny_eqBool_int ?_)
    rw [ltI] at h
    by_cases e:a=c
    ·rw [show(a == c)=true from beq_iff_eq.mpr e]
     rw [if_pos e] at h
     exact kat_yes (ih y us vs (i+1) fin hx hy (by simpa using hf) h)
    ·rw [show(a == c)=false from beq_eq_false_iff_ne.mpr e]
     rw [if_neg e] at h
     refine kat_no ?_
     cases b && i == 0 with
     | true=>exact oneLt_int h
     | false=>exact kat_one _ _ (wpAny_lt_int h)
theorem q71{b:Bool}{x y:List Int}{a c:Addr}{Q:Bool->Shared->Prop}(hx:IsTupleKey (intKind prog w) s.heap x a)(hy:IsTupleKey (intKind prog w) s.heap y c)(h:Q (ltI x y) s):wpAny (model prog w) A (keyLt' (tuples' b) (.ref a) (.ref c)) Q E s:=by
 obtain⟨oa,xs,na,hoa,_,hda,hia⟩:=hx
 obtain⟨ob,ys,nb,hob,_,hdb,hib⟩:=hy
 exact kat_lt hoa hda hob hdb (ztz x y _ _ 0 _ hia hib (by simp) h)
end
def pathD(p:List Int):Dm:=.tup (p.map Dm.int)
abbrev Rw2:=List Int×Dm
def q86(r:Rw2):Dm:=.tup [pathD r.1,r.2]
theorem z77{H:Hp}:∀{xs:List V} {p:List Int},DtA H xs (p.map Dm.int)->xs=p.map V.int
 | _,[],.nil=>rfl
 | _,_::_,.cons (.int _) r=>by rw [List.map_cons,<- z77 r]
section
variable{X:Cx}{pins:List (Addr×Obj)}{σ : St}{H:Hp}{s:Shared}
theorem zvn:∀{p:List Int} {us:List Value},Vals (p.map V.int) us->ItemsAre (intKind X.prog X.w) p us
 | [],_,.nil=>.nil
 | i::p,_,.cons r t=>by
  obtain⟨k,rfl⟩:=r
  exact .cons (intKind_is _ _ _ _) (zvn t)
theorem Inv.path(I:Inv X pins σ H s){v:V}{p:List Int}{u:Value}(d:Dt H v (pathD p))(r:RelV v u):∃a,u=.ref a/\IsTupleKey (intKind X.prog X.w) s.heap p a:=by
 cases d with
 | tup e ra=>
  cases r
  obtain⟨its,rv,⟨o,ho,hc,n,hd⟩,_⟩:=I.tuple (SqT.of e)
  have:=z77 ra
  subst this
  exact⟨_,rfl,o,its.toArray,n,ho,hc,hd,zvn rv⟩
end
end L2
set_option Elab.async false
set_option linter.all false
set_option maxRecDepth 100000
namespace L2
open PySem PyProof.Rows
open AutoSeq1 (wpAny_loadPart')
theorem zs7(l:Addr)(items:Array Value)(n:Nat)(dct:Option Addr)(sl:Array (Option Value)) :
  Meets (Builtin.«enumerate.__new__» ⟨[.type "enumerate",.ref l],[]⟩) (fun _ R s=>s.heap.get? l=some {cls:=.type "tuple",dict:=dct,data:=.seq items n,slots:=sl}/\
   R (.ok (.ret (.ref (s.heap.push {cls:=.type "tuple_iterator",data:=.fields #[.ref l,.int 0 0]}).objs.size)))
    {s with heap:=(s.heap.push {cls:=.type "tuple_iterator",data:=.fields #[.ref l,.int 0 0]}).push {cls:=.type "enumerate",data:=.fields #[.none,.bool false,.ref s.heap.objs.size,rawInt 0,.none,.none]}}):=
 .of_wp fun prog w A R s h=>by
  obtain⟨hp,g,d,tk,os⟩:=s; obtain⟨hl,h⟩:=h
  have hsub:=sub_enumerate
  have hL:Heap.IsTuple (Shared.heap ⟨hp,g,d,tk,os⟩) l items:=⟨_,hl,rfl,n,rfl⟩
  wp_walk using wpAny_loadPart' hl
  refine wpAny_stack_any fun st=>wpAny_pure ?_
  split
  ·rename_i c _ _ _ _ _
   cases (c == Value.type "enumerate")
   ·wp_walk using wpAny_loadPart' hl,wpAny_pyIter_tuple hL
    exact⟨_,rfl,h⟩
   ·wp_walk using wpAny_loadPart' hl,wpAny_pyIter_tuple hL
    exact⟨_,rfl,h⟩
  ·wp_walk using wpAny_loadPart' hl,wpAny_pyIter_tuple hL
   exact⟨_,rfl,h⟩
section
variable{prog:Program}{w:World}{A:Around}{E:Value->Shared->Prop}{s:Shared}
theorem zy3{l:Addr}{items:Array Value}{Q:Value->Shared->Prop}(hL:s.heap.IsTuple l items)
  (h:∀h',IsEnum h' (s.heap.objs.size+1) s.heap.objs.size 0 .none->h'.IsTupleIter s.heap.objs.size l 0->h'.objs.size=s.heap.objs.size+2->
   (∀b o,s.heap.get? b=some o->h'.get? b=some o)->Q (.ref (s.heap.objs.size+1)) {s with heap:=h'}) :
  wpAny (model prog w) A (call (.type "enumerate") [.ref l]) Q E s:=by
 obtain⟨⟨c,dct,dt,sl⟩,hl,hc,n,hd⟩:=hL
 replace hc:c=.type "tuple":=hc
 replace hd:dt=.seq items n:=hd
 subst hc hd
 refine callType_new F.called_enumerate (by decide) (F.typeCall_enumerate_1 _) (F.newCall_enumerate_1 _) (fun obj=>F.args_object_init_2 obj _) F.entry_enumerate_new
  (zs7 l items n dct sl) ⟨hl,?_⟩
 have hz:(s.heap.push {cls:=.type "tuple_iterator",data:=.fields #[.ref l,.int 0 0]}).objs.size=s.heap.objs.size+1:=Heap.size_push ..
 show _/\_
 rw [hz]
 have he:IsEnum ((s.heap.push {cls:=.type "tuple_iterator",data:=.fields #[.ref l,.int 0 0]}).push
   {cls:=.type "enumerate",data:=.fields #[.none,.bool false,.ref s.heap.objs.size,rawInt 0,.none,.none]}) (s.heap.objs.size+1) s.heap.objs.size 0 .none:=by
  have:=Heap.get?_push_size (s.heap.push {cls:=.type "tuple_iterator",data:=.fields #[.ref l,.int 0 0]})
   (o:={cls:=.type "enumerate",data:=.fields #[.none,.bool false,.ref s.heap.objs.size,rawInt 0,.none,.none]}) rfl
  rw [hz] at this; exact this
 refine⟨⟨_,he,rfl⟩,h _ he ⟨_,Heap.get?_push_of_some _ (Heap.get?_push_size _ rfl),rfl,rfl⟩ (by rw [Heap.size_push,hz]) fun b o x=>Heap.get?_push_of_some _ (Heap.get?_push_of_some _ x)⟩
theorem q0w{e it l:Addr}{i:Nat}{items:Array Value}{old:Value}{Q:Option Value->Shared->Prop}(hh:A.handled=none)(he:IsEnum s.heap e it i old)(hit:s.heap.IsTupleIter it l i)(hl:s.heap.IsTuple l items)(hx:items[i]?=none)
  (hQ:∀h',Heap.ExtBut it s.heap h'->Q none {s with heap:=h'}):wpAny (model prog w) A (pyNext (.ref e)) Q E s:=by
 have hT:s.TypeIs (.ref e) "enumerate":=⟨_,he,rfl⟩
 unfold pyNext
 refine wpAny_bind (wpAny_attempt (wpAny_callSpecial?_slot (name:=Str.ofString "__next__") hT F.slot_enumerate_next
  (wpAny_call_entry F.slot_enumerate_next hT F.entry_enumerate_next ?_ (F.args_enumerate_next_1 _))))
 show wpAny _ _ (field (.ref e) 2 >>= _) _ _ _
 refine wpAny_bind (wpAny_field he rfl (x:=.ref it) rfl ?_)
 refine wpAny_bind (zdq hh hit hl hx fun h' x he' hx'=>?_)
 obtain⟨o,ho,hc⟩:=hx'
 refine wpAny_bind (wpAny_isInstance (T:="StopIteration") (b:=true) ⟨o,ho,hc⟩ isSubtype_stop ?_)
 exact wpAny_pure (hQ _ he')
end
theorem q9w{prog:Program}{w:World}{A:Around}(hh:A.handled=none)(it l:Addr)(hne:l≠it)(items:Array Value) :
  Draws prog w A it [it,l] items.size (fun i v=>items[i]?=some v) (fun i h=>h.IsTupleIter it l i/\h.IsTuple l items) where
 live:=fun _ _ st=>let ⟨o,ho,_⟩:=st.1; ⟨o,ho⟩
 frame:=fun _ _ _ st hk=>⟨st.1.at fun o e=>hk it (by simp) o e,let ⟨o,ho,r⟩:=st.2; ⟨o,hk l (by simp) o ho,r⟩⟩
 item:=fun i s Q E hi st hQ=>by
  refine zvg st.1 st.2 (x:=items[i]) (by simp[hi]) fun h' hit' hs'=>?_
  exact hQ _ h' s.toks (by simp[hi]) ⟨hit',st.2.extBut hs'.extBut hne⟩ hs'
 done:=fun s Q E st hE=>zdq hh st.1 st.2 (by simp) hE
def q89(K:PySem.W.Frag)(a:Addr):It:=
 ⟨fun i H=>∃xs x,SqT K H a xs/\xs[i]?=some x,fun i H x H'=>∃T v,x=.ref T/\H T=none/\H'=upd H T (.tup [.int i,v])/\∀xs,SqT K H a xs->xs[i]?=some v,fun i H=>∃xs,SqT K H a xs/\xs.length<=i⟩
theorem zwh{P:Program}{w:World}{K:PySem.W.Frag}{elts:List Expr}{kt:Nat}{pt:Pos}(a e it:Addr)(hne:e≠it)(hea:e≠a)(hai:a≠it):Turn P w K (.Tuple elts kt pt) (q89 K a) [e,it] e (fun i h=>(∃old,IsEnum h e it i old)/\h.IsTupleIter it a i) where
 mem:=by simp
 obj:=fun i h st b hb=>by
  obtain⟨⟨old,he⟩,hi⟩:=st
  rcases List.mem_cons.mp hb with rfl | hb
  ·exact⟨_,he,fun v z=>by cases z⟩
  ·obtain rfl:=List.mem_singleton.mp hb
   obtain⟨o,e',c,d⟩:=hi
   exact⟨o,e',fun v z=>by rw [d] at z; cases z⟩
 keep:=fun i h h' st k=>by
  obtain⟨⟨old,he⟩,hi⟩:=st
  exact⟨⟨old,k e (by simp) _ he⟩,hi.at fun o q=>k it (by simp) o q⟩
 item:=by
  intro X hP hw hK hc i pins s σ H E I hf st hg
  subst hP hw hK
  obtain⟨⟨old,he⟩,hit⟩:=st
  obtain⟨xs,x,hq,hx⟩:=hg
  obtain⟨its,rv,p,hz⟩:=I.tuple hq
  obtain⟨u,hu,ru⟩:=rv.get hx
  have hui:its.toArray[i]?=some u:=by simpa using hu
  have hlt:i < its.toArray.size:=by
   rcases Nat.lt_or_ge i its.toArray.size with c | c
   ·exact c
   ·rw [Array.getElem?_eq_none c] at hui; cases hui
  refine wpAny_pyNext_enum_itemD (q9w (A:=X.A.in1) (show X.A.in1.handled=none from I.ok.hd hc) it a hai its.toArray) he ⟨hit,p⟩ hlt hne (by simp[hne,hea]) fun y h1 tk hy ho hst1 hT hsz hk=>?_
  have hy':its.toArray[i]?=some y:=hy
  obtain rfl:u=y:=by rw [hui] at hy'; exact Option.some.inj hy'
  have hit1:=hst1.1
  refine⟨_,rfl,wpAny_letOwnedTupleGo_enum ho fun h2 he2 hs2=>?_⟩
  have helt:e < s.heap.objs.size:=Heap.lt_size he
  have hs2':Heap.SameBut e h1 h2:=hs2
  have kk:∀b o,b∉[e,it]->s.heap.get? b=some o->h2.get? b=some o:=fun b o hb q=>hs2'.extBut b o (fun z=>hb (by simp[z])) (hk b o (fun z=>hb (by simp[z])) (fun z=>hb (by simp[z])) q)
  have I1:Inv X pins σ H {s with heap:=h2,toks:=tk+1}:=I.turnedL kk hf
  have hTn:H s.heap.objs.size=none:=I.hok.fresh (Nat.le_refl _)
  have hT2:h2.get? s.heap.objs.size=some {cls:=.type "tuple",data:=.seq #[.int i tk,u]}:=hs2'.extBut _ _ (Nat.ne_of_gt helt) hT
  have I2:Inv X pins σ (upd H s.heap.objs.size (.tup [.int i,x])) {s with heap:=h2,toks:=tk+1}:=
   I1.track hTn (I.fpOk (Nat.le_refl _) hTn) (show ObjOk X.prog X.w _ h2 _ (.tup [.int i,x]) from⟨q4m,[.int i tk,u],.cons ⟨_,rfl⟩ (.cons ru .nil),⟨_,hT2,rfl,_,rfl⟩⟩)
  refine⟨.ref s.heap.objs.size,_,I2,rfl,⟨s.heap.objs.size,x,rfl,hTn,rfl,fun ys hy=>by rw [I.tuple_inj hy hq]; exact hx⟩,⟨⟨u,by simpa using he2⟩,hit1.at fun o q=>(hs2'.2 it hne.symm).trans q⟩,fun b hb=>?_⟩
  have hbl:b < s.heap.objs.size:=by
   rcases List.mem_cons.mp hb with rfl | hb
   ·exact helt
   ·obtain rfl:=List.mem_singleton.mp hb
    obtain⟨o,e',_⟩:=hit
    exact Heap.lt_size e'
  rw [z0o (Nat.ne_of_lt hbl)]
  exact(hf b hb).1
 done:=by
  intro X hP hw hK hc i pins s σ H E I hf st hg
  subst hP hw hK
  obtain⟨⟨old,he⟩,hit⟩:=st
  obtain⟨xs,hq,hx⟩:=hg
  obtain⟨its,rv,p,hz⟩:=I.tuple hq
  have hl:=rv.length
  exact q0w (I.ok.hd hc) he hit p (by simp; omega) fun h' eb=>⟨rfl,I.turnedL (t':=s.toks) (fun b o hb q=>eb b o (fun z=>hb (by simp[z])) q) hf⟩
 self:=fun _ _ _ _ _ st h=>by
  obtain⟨⟨old,he⟩,_⟩:=st
  exact wpAny_pyIter_enum he h
section
variable{X:Cx}
def q5g(K:PySem.W.Frag)(ta:TA):TI:=fun σ H R=>ta σ H fun vs H1=>∃a,vs=[.ref a]/\(∃xs,SqT K H1 a xs)/\R (q89 K a) H1
theorem zv9{elts:List Expr}{kt:Nat}{pt p pos:Pos}{l:Expr}{ta:TA} (hg:Gl X "enumerate") (hm:X.mg "enumerate" = none) (ha:PA X [l] ta) (hst:zmm l=false:=by rfl):PI X (.Tuple elts kt pt) (.Call (.Name "enumerate" p) [l] [] pos) (q5g X.K ta):=by
 refine⟨?_⟩
 intro pins s σ H R I h
 refine Call_ (zov I hg hm boot_enumerate (PyProof.Rows.callWith_type1 (thn (ha pos pins s σ H _ I h) fun us s1 ⟨vs,H1,I1,r1,q1⟩=>?_) (z2j hst) rfl))
 obtain⟨a,e,⟨xs,hq⟩,q⟩:=q1
 subst e
 cases r1 with
 | cons r rr=>
  cases rr
  cases r
  obtain⟨its,rv,pl,hz⟩:=I1.tuple hq
  have hal:a < s1.heap.objs.size:=by
   obtain⟨o,e,_⟩:=pl
   exact Heap.lt_size e
  refine zy3 pl fun h' he hi hsz hk=>?_
  have I2:Inv X pins σ H1 {s1 with heap:=h'}:=I1.kept (t':=s1.toks) hk
  refine wpAny_pyIter_enum he ?_
  refine⟨s1.heap.objs.size+1,[s1.heap.objs.size+1,s1.heap.objs.size],_,_,H1,rfl,I2,zwh a _ _ (Nat.succ_ne_self _) (Nat.ne_of_gt (Nat.lt_succ_of_lt hal)) (Nat.ne_of_lt hal),⟨⟨_,he⟩,hi⟩,fun b hb=>?_,q⟩
  have hle:s1.heap.objs.size<=b:=by
   rcases List.mem_cons.mp hb with rfl | hb
   ·exact Nat.le_succ _
   ·obtain rfl:=List.mem_singleton.mp hb
    exact Nat.le_refl _
  exact I1.fpOk hle (I1.hok.fresh hle)
end
theorem zs0{K:PySem.W.Frag}{a:Addr}{xs:List V}{g:TG}{tb:TS}{D:Ends}{σ : St}{H:Hp}(Pv:Nat->St->Hp->Prop)(h0:Pv 0 σ H)(hl:∀i σ H,i<=xs.length->Pv i σ H->SqT K H a xs)
  (hs:∀i x σ H T,xs[i]?=some x->Pv i σ H->H T=none->g (.ref T) σ (upd H T (.tup [.int i,x])) fun σ2 H2=>tb {D with nx:=Pv (i+1),ct:=Pv (i+1),bk:=D.nx} σ2 H2) (hd:∀ σ H,Pv xs.length σ H->D.nx σ H) :
  ∃W:Nat->Nat->St->Hp->Prop,(∃m,W 0 m σ H)/\∀i m σ H,W i m σ H->
   ((q89 K a).stop i H/\D.nx σ H)\/((q89 K a).go i H/\∃N:St->Hp->Prop,(∀ σ' H',N σ' H'->∃m',m' < m/\W (i+1) m' σ' H')/\∀x H',(q89 K a).yld i H x H'->g x σ H' fun σ2 H2=>tb {D with nx:=N,ct:=N,bk:=D.nx} σ2 H2):=by
 refine⟨fun i m σ H=>m=xs.length - i/\i<=xs.length/\Pv i σ H,⟨xs.length,by simp,Nat.zero_le _,h0⟩,?_⟩
 rintro i m σ H ⟨rfl,hi,p⟩
 have q:=hl i σ H hi p
 by_cases hlt:i < xs.length
 ·refine .inr ⟨⟨xs,xs[i],q,by simp[hlt]⟩,Pv (i+1),fun σ' H' p'=>⟨xs.length - (i+1),by omega,rfl,hlt,p'⟩,fun x H' y=>?_⟩
  obtain⟨T,v,rfl,hT,rfl,y⟩:=y
  exact hs i v σ H T (y xs q) p hT
 ·have e:i=xs.length:=by omega
  subst e
  exact .inl ⟨⟨xs,q,Nat.le_refl _⟩,hd σ H p⟩
end L2
set_option Elab.async false
set_option linter.all false
set_option maxRecDepth 100000
namespace L2
open PySem PySem.Spec PyProof.Rows
section
variable{prog:Program}{w:World}{A:Around}{E:Value->Shared->Prop}{s:Shared}{S:Addr}
end
section
variable{X:Cx}
end
end L2
set_option Elab.async false
set_option linter.all false
set_option maxRecDepth 100000
namespace L2
open PySem PySem.Spec PyProof.Rows PySem.W
def zy6(r:Nat->Nat)(n:Nat):Nat->Nat->(Bool->Shared->Prop)->Shared->Prop:=fun i j C s=>i < n/\j < n/\C (decide (r i < r j)) s
theorem q1y{α : Type}{r:Nat->Nat}{n:Nat}{cmp:Nat->Nat->(Bool->Shared->Prop)->Shared->Prop}{s:Shared}{Q : α->Shared->Prop}(hc:∀i j C,i < n->j < n->C (decide (r i < r j)) s->cmp i j C s) :
  ∀(t:KasT α),t.kasWp (zy6 r n) (fun a s'=>Q a s) s->t.kasWp cmp Q s
 | .ret a,h=>h
 | .ask i j k,⟨h1,h2,h⟩=>hc i j _ h1 h2 (q1y hc (k _) h)
section
variable{r:Nat->Nat}{n:Nat}{s:Shared}
theorem znm{α : Type}{i j:Nat}{T1 T2:KasT α}{Q : α->Shared->Prop}(hi:i < n)(hj:j < n)(h1:r i < r j->T1.kasWp (zy6 r n) Q s)(h2:¬ r i < r j->T2.kasWp (zy6 r n) Q s):(KasT.ask i j fun c=>if c=true then T1 else T2).kasWp (zy6 r n) Q s:=by
 refine⟨hi,hj,?_⟩
 by_cases c:r i < r j
 ·have:=h1 c
  simpa [c] using this
 ·have:=h2 c
  simpa [c] using this
def rk(r:Nat->Nat)(p:Array Nat)(i:Nat):Nat:=r (p.getD i 0)
def Asc(r:Nat->Nat)(p:Array Nat)(m:Nat):Prop:=∀i j,i < j->j < m->rk r p i < rk r p j
def Dsc(r:Nat->Nat)(p:Array Nat)(m:Nat):Prop:=∀i j,i < j->j < m->rk r p j < rk r p i
structure PermN(r:Nat->Nat)(n:Nat)(p:Array Nat):Prop where
 sz:p.size=n
 lt:∀i,i < n->p.getD i 0 < n
 inj:∀i j,i < n->j < n->rk r p i=rk r p j->i=j
 pm:p.toList.Perm (List.range n)
theorem PermN.of(hr:∀i j,i < n->j < n->r i=r j->i=j){p:Array Nat}(h:p.toList.Perm (List.range n)):PermN r n p:=by
 have sz:p.size=n:=by simpa using h.length_eq
 have lt:∀i,i < n->p.getD i 0 < n:=fun i hi=>by
  have hi':i < p.size:=by omega
  have:p.getD i 0∈p.toList:=by simp[Array.getD,hi']
  simpa using h.mem_iff.mp this
 refine⟨sz,lt,fun i j hi hj e=>?_,h⟩
 have e':=hr _ _ (lt i hi) (lt j hj) e
 have nd:p.toList.Nodup:=h.nodup_iff.mpr List.nodup_range
 have hi':i < p.size:=by omega
 have hj':j < p.size:=by omega
 have:p.toList[i]'(by simpa using hi')=p.toList[j]'(by simpa using hj'):=by simpa [Array.getD,hi',hj'] using e'
 exact(List.getElem_inj nd).mp this
theorem zq1{p q:Array Nat}{i j:Nat}(h:p[i]?=q[j]?):p.getD i 0=q.getD j 0:=by
 have e1:p.getD i 0=(p[i]?).getD 0:=by simp
 have e2:q.getD j 0=(q[j]?).getD 0:=by simp
 rw [e1,e2,h]
theorem qch{p:Array Nat}(P:PermN r n p){Q:Nat->Shared->Prop}:∀(f m:Nat),1<=m->m+f<=n->Asc r p m->(∀k,m<=k->k<=m+f->Asc r p k->(k < m+f->rk r p k < rk r p (k - 1))->Q k s)->(kas_asc p f m).kasWp (zy6 r n) Q s
 | 0,m,h1,h2,h,q=>q m (Nat.le_refl _) (Nat.le_refl _) h (fun z=>absurd z (by omega))
 | f+1,m,h1,h2,h,q=>by
  refine znm (P.lt _ (by omega)) (P.lt _ (by omega)) (fun c=>?_) (fun(c:¬ rk r p m < rk r p (m - 1))=>?_)
  ·exact q m (Nat.le_refl _) (by omega) h (fun _=>c)
  ·refine qch P f (m+1) (by omega) (by omega) (fun i j hij hj=>?_) fun k k1 k2 k3 k4=>q k (by omega) (by omega) k3 (fun z=>k4 (by omega))
   have last:rk r p (m - 1) < rk r p m:=by
    have:rk r p (m - 1)≠rk r p m:=fun e=>by have:=P.inj _ _ (by omega) (by omega) e; omega
    omega
   by_cases e:j=m
   ·subst e
    by_cases e2:i=j - 1
    ·rw [e2]; exact last
    ·exact Nat.lt_trans (h i (j - 1) (by omega) (by omega)) last
   ·exact h i j hij (by omega)
theorem q9x{p:Array Nat}(P:PermN r n p){Q:Array Nat×Nat×Nat->Shared->Prop}:∀(f m:Nat),1<=m->m+f<=n->Dsc r p m->(∀k,m<=k->k<=m+f->Dsc r p k->Q (p,k,0) s)->(kas_desc f p m 0).kasWp (zy6 r n) Q s
 | 0,m,h1,h2,h,q=>q m (Nat.le_refl _) (Nat.le_refl _) h
 | f+1,m,h1,h2,h,q=>by
  refine znm (P.lt _ (by omega)) (P.lt _ (by omega)) (fun c=>?_) (fun(c:¬ rk r p m < rk r p (m - 1))=>?_)
  ·rw [if_neg (by omega)]
   refine q9x P f (m+1) (by omega) (by omega) (fun i j hij hj=>?_) fun k k1 k2 k3=>q k (by omega) (by omega) k3
   by_cases e:j=m
   ·subst e
    by_cases e2:i=j - 1
    ·rw [e2]; exact c
    ·exact Nat.lt_trans c (h i (j - 1) (by omega) (by omega))
   ·exact h i j hij (by omega)
  ·have last:rk r p (m - 1) < rk r p m:=by
    have:rk r p (m - 1)≠rk r p m:=fun e=>by have:=P.inj _ _ (by omega) (by omega) e; omega
    omega
   refine znm (P.lt _ (by omega)) (P.lt _ (by omega)) (fun c=>?_) (fun c=>absurd last c)
   exact q m (Nat.le_refl _) (by omega) h
theorem q2p(hr:∀i j,i < n->j < n->r i=r j->i=j){p:Array Nat}(P:PermN r n p)(i j:Nat):PermN r n (kas_rev p i j):=
 .of hr ((Array.perm_iff_toList_perm.mp (mirror_perm _ _ _ _)).trans P.pm)
theorem q51{p:Array Nat}{m:Nat}(hm:m<=p.size)(k:Nat)(hk:k < m):rk r (kas_rev p 0 m) k=rk r p (m - 1 - k):=by
 have e:=getElem?_mirror_all (xs:=p) (i:=0) hm k
 rw [if_pos (by omega)] at e
 show r _=r _
 rw [show kas_rev p 0 m=mirror p 0 m ((m - 0) / 2) from rfl,zq1 e]
 congr 2
 omega
theorem q8i(hr:∀i j,i < n->j < n->r i=r j->i=j){p:Array Nat}(P:PermN r n p){m:Nat}{Q:Nat×Array Nat->Shared->Prop}(h1:1<=m)(h2:m<=n)(h:Dsc r p m)
  (q:∀k p',PermN r n p'->1<=k->k<=n->Asc r p' k->Q (k,p') s):(kas_tail3 m n p).kasWp (zy6 r n) Q s:=by
 unfold kas_tail3
 rw [KasT.kasWp_bind]
 have P':=q2p hr P 0 m
 refine qch P' (n - m) m h1 (by omega) (fun i j hij hj=>?_) fun k k1 k2 k3 _=>q k _ P' (by omega) (by omega) k3
 rw [q51 (by rw [P.sz]; exact h2) _ (by omega),q51 (by rw [P.sz]; exact h2) _ hj]
 exact h _ _ (by omega) (by omega)
theorem q0x(hr:∀i j,i < n->j < n->r i=r j->i=j){p:Array Nat}(P:PermN r n p){m:Nat}{Q:Nat×Array Nat->Shared->Prop}(h2:m+1<=n)(h:Dsc r p (m+1))
  (q:∀k p',PermN r n p'->1<=k->k<=n->Asc r p' k->Q (k,p') s):(kas_descPart m n p).kasWp (zy6 r n) Q s:=by
 unfold kas_descPart
 rw [KasT.kasWp_bind]
 refine q9x P (n - (m+1)) (m+1) (by omega) (by omega) h fun k k1 k2 k3=>?_
 rw [if_neg (show ¬ (p,k,0).2.2 > 0 from Nat.lt_irrefl 0)]
 have a1:1<=k:=by omega
 have a2:k<=n:=by omega
 exact q8i hr P a1 a2 k3 q
theorem qa5(hr:∀i j,i < n->j < n->r i=r j->i=j){p:Array Nat}(P:PermN r n p){Q:Nat×Array Nat->Shared->Prop}(h1:1<=n)
  (q:∀k p',PermN r n p'->1<=k->k<=n->Asc r p' k->Q (k,p') s):(kas_count n p).kasWp (zy6 r n) Q s:=by
 unfold kas_count
 rw [KasT.kasWp_bind]
 refine qch P (n - 1) 1 (Nat.le_refl _) (by omega) (fun i j hij hj=>by omega) fun m m1 m2 m3 m4=>?_
 by_cases e:m=n
 ·rw [if_pos (by simpa using e)]
  exact q m p P m1 (by omega) m3
 ·rw [if_neg (by simpa using e)]
  by_cases e2:m > 1
  ·rw [if_pos e2]
   refine znm (P.lt _ (by omega)) (P.lt _ (by omega)) (fun c=>?_) (fun c=>absurd (m3 0 (m - 1) (by omega) (by omega)) c)
   exact q m p P m1 (by omega) m3
  ·rw [if_neg e2]
   obtain rfl:m=1:=by omega
   refine q0x hr P (by omega) (fun i j hij hj=>?_) q
   obtain rfl:i=0:=by omega
   obtain rfl:j=1:=by omega
   exact m4 (by omega)
theorem zzm{p:Array Nat}(P:PermN r n p){k:Nat}(hk:k < n)(hs:Asc r p k){Q:Nat->Shared->Prop}:∀(f l u:Nat),l<=u->u<=k->u - l<=f->(∀i,i < l->rk r p i < rk r p k)->(∀i,u<=i->i < k->rk r p k < rk r p i)->
  (∀m,m<=k->(∀i,i < m->rk r p i < rk r p k)->(∀i,m<=i->i < k->rk r p k < rk r p i)->Q m s)->(kas_place p k f l u).kasWp (zy6 r n) Q s
 | 0,l,u,h1,h2,h3,lo,hi,q=>by
  obtain rfl:l=u:=by omega
  exact q l h2 lo hi
 | f+1,l,u,h1,h2,h3,lo,hi,q=>by
  unfold kas_place
  by_cases e:l ≥ u
  ·rw [if_pos e]
   obtain rfl:l=u:=by omega
   exact q l h2 lo hi
  ·rw [if_neg e]
   refine znm (P.lt _ hk) (P.lt _ (by omega)) (fun c=>?_) (fun(c:¬ rk r p k < rk r p ((l+u) / 2))=>?_)
   ·refine zzm P hk hs f l ((l+u) / 2) (by omega) (by omega) (by omega) lo (fun i h1 h2=>?_) q
    by_cases e2:i=(l+u) / 2
    ·rw [e2]; exact c
    ·exact Nat.lt_trans c (hs _ _ (by omega) h2)
   ·have c':rk r p ((l+u) / 2) < rk r p k:=by
     have:rk r p ((l+u) / 2)≠rk r p k:=fun e=>by have:=P.inj _ _ (by omega) hk e; omega
     omega
    refine zzm P hk hs f ((l+u) / 2+1) u (by omega) h2 (by omega) (fun i h1=>?_) hi q
    by_cases e2:i=(l+u) / 2
    ·rw [e2]; exact c'
    ·exact Nat.lt_trans (hs _ _ (show i < (l+u) / 2 by omega) (by omega)) c'
theorem qd9(hr:∀i j,i < n->j < n->r i=r j->i=j){Q:Array Nat->Shared->Prop}:∀(f:Nat) (p:Array Nat) (k:Nat),PermN r n p->k+f=n->Asc r p k->(∀p',PermN r n p'->Asc r p' n->Q p' s)->(kas_bin f p k).kasWp (zy6 r n) Q s
 | 0,p,k,P,e,h,q=>by
  obtain rfl:k=n:=e
  exact q p P h
 | f+1,p,k,P,e,h,q=>by
  rw [show kas_bin (f+1) p k=(kas_place p k k 0 k).bind fun l=>kas_bin f (bubble p k (k - l)) (k+1) from rfl,KasT.kasWp_bind]
  have hk:k < n:=by omega
  refine zzm P hk h k 0 k (Nat.zero_le _) (Nat.le_refl _) (by omega) (fun i z=>absurd z (by omega)) (fun i z z'=>absurd z' (by omega)) fun m m1 m2 m3=>?_
  refine qd9 hr f _ (k+1) (.of hr ((Array.perm_iff_toList_perm.mp (bubble_perm _ _ _)).trans P.pm)) (by omega) (fun i j hij hj=>?_) q
  have at_:∀x,rk r (bubble p k (k - m)) x=if x=m then rk r p k else if m < x/\x<=k then rk r p (x - 1) else rk r p x:=fun x=>by
   have z:=getElem?_bubble (xs:=p) (src:=k) (by rw [P.sz]; exact hk) (k - m) (by omega) x
   rw [show k - (k - m)=m by omega] at z
   show r _=_
   by_cases e1:x=m
   ·rw [if_pos e1] at z |-
    rw [zq1 z,rk]
   ·rw [if_neg e1] at z |-
    by_cases e2:m < x/\x<=k
    ·rw [if_pos e2] at z |-
     rw [zq1 z,rk]
    ·rw [if_neg e2] at z |-
     rw [zq1 z,rk]
  rw [at_,at_]
  repeat' split
  all_goals first
   | (exfalso; omega)
   | exact m2 _ (by omega)
   | exact m3 _ (by omega) (by omega)
   | exact h _ _ (by omega) (by omega)
theorem qbk(hr:∀i j,i < n->j < n->r i=r j->i=j)(h1:1<=n){Q:Array Nat->Shared->Prop}(q:∀p,PermN r n p->Asc r p n->Q p s):(kas_sort n).kasWp (zy6 r n) Q s:=by
 unfold kas_sort
 rw [KasT.kasWp_bind]
 refine qa5 hr (.of hr (by simp)) h1 fun k p P k1 k2 k3=>?_
 dsimp only
 by_cases e:k < n
 ·rw [if_pos e,show max k 1=k by omega]
  exact qd9 hr _ p k P (by omega) k3 q
 ·rw [if_neg e]
  obtain rfl:k=n:=by omega
  exact q p P k3
end
end L2
set_option Elab.async false
set_option linter.all false
set_option maxRecDepth 100000
namespace L2
open PySem PySem.Spec PyProof.Rows PySem.W
theorem hole:∀(n:Nat) (l:List Nat),l.length=n->∃j,j<=n/\j∉l
 | 0,l,h=>⟨0,Nat.le_refl _,by rw [List.length_eq_zero_iff.mp h]; simp⟩
 | n+1,l,h=>by
  by_cases c:n+1∈l
  ·obtain⟨j,hj,hn⟩:=hole n (l.erase (n+1)) (by rw [List.length_erase_of_mem c,h]; rfl)
   exact⟨j,by omega,fun z=>hn ((List.mem_erase_of_ne (show j≠n+1 by omega)).mpr z)⟩
  ·exact⟨n+1,Nat.le_refl _,c⟩
def lps(mask:Nat):Nat->Nat×Nat->Nat×Nat
 | 0,x=>x
 | k+1,x=>lps mask k (SetTable.leap mask x.1 x.2)
theorem zpr(mask:Nat):∀(a b:Nat) (x:Nat×Nat),lps mask (a+b) x=lps mask b (lps mask a x)
 | 0,b,x=>by rw [Nat.zero_add]; rfl
 | a+1,b,x=>by rw [Nat.succ_add]; exact zpr mask a b _
theorem ztw(mask:Nat):∀(k:Nat) (x:Nat×Nat),(lps mask k x).2=x.2 / 32 ^ k
 | 0,x=>by simp[lps]
 | k+1,x=>by
  rw [lps,ztw mask k,SetTable.leap,Nat.div_div_eq_div_mul,Nat.pow_succ,Nat.mul_comm]
theorem q5a(mask:Nat):∀(k:Nat) (x:Nat×Nat),x.1<=mask->(lps mask k x).1<=mask
 | 0,x,h=>h
 | k+1,x,h=>q5a mask k _ (Nat.le_of_lt_succ (Nat.mod_lt _ (Nat.succ_pos _)))
def orb(mask:Nat):Nat->Nat->List Nat
 | 0,i=>[i]
 | k+1,i=>i::orb mask k ((i * 5+1) % (mask+1))
theorem ztl(mask:Nat):∀(k i j:Nat),j∈orb mask k i->∃m,m<=k/\(lps mask m (i,0)).1=j
 | 0,i,j,h=>by
  rw [orb,List.mem_singleton] at h
  exact⟨0,Nat.le_refl _,h.symm⟩
 | k+1,i,j,h=>by
  rw [orb] at h
  rcases List.mem_cons.mp h with h | h
  ·exact⟨0,Nat.zero_le _,h.symm⟩
  ·obtain⟨m,hm,e⟩:=ztl mask k _ j h
   refine⟨m+1,by omega,?_⟩
   rw [lps,SetTable.leap]
   simpa using e
def zwb(mask:Nat):Prop:=mask=7\/mask=31\/mask=127
theorem q6r{mask:Nat}(hm:zwb mask):(∀j,j<=mask->j∈orb mask mask 0)/\(lps mask (mask+1) (0,0)).1=0:=by
 have go:∀n:Nat,((List.range (n+1)).all fun j=>(orb n n 0).contains j)=true->∀j,j<=n->j∈orb n n 0:=fun n h j hj=>by
  rw [List.all_eq_true] at h
  have x:=h j (by simp; omega)
  simpa using x
 rcases hm with rfl | rfl | rfl
 ·exact⟨go 7 (by decide+kernel),by decide+kernel⟩
 ·exact⟨go 31 (by decide+kernel),by decide+kernel⟩
 ·exact⟨go 127 (by decide+kernel),by decide+kernel⟩
theorem zvj(mask k i:Nat):lps mask k (i,0)=((lps mask k (i,0)).1,0):=by
 have:(lps mask k (i,0)).2=0:=by rw [ztw]; exact Nat.zero_div _
 exact Prod.ext rfl this
theorem q3e{mask:Nat}(hm:zwb mask){i j:Nat}(hi:i<=mask)(hj:j<=mask):∃m,m<=mask/\(lps mask m (i,0)).1=j:=by
 obtain⟨all,turn⟩:=q6r hm
 obtain⟨a,ha,ea⟩:=ztl mask mask 0 i (all i hi)
 obtain⟨b,hb,eb⟩:=ztl mask mask 0 j (all j hj)
 have from_:∀m,lps mask m (i,0)=lps mask (a+m) (0,0):=fun m=>by rw [zpr,zvj mask a 0,ea]
 by_cases c:a<=b
 ·refine⟨b - a,by omega,?_⟩
  rw [from_,show a+(b - a)=b by omega]
  exact eb
 ·refine⟨b+(mask+1) - a,by omega,?_⟩
  rw [from_,show a+(b+(mask+1) - a)=(mask+1)+b by omega,zpr,zvj mask (mask+1) 0,turn]
  exact eb
theorem qc2{mask:Nat}(hm:zwb mask){x:Nat×Nat}(h1:x.1<=mask)(h2:x.2 < 2 ^ 64){j:Nat}(hj:j<=mask):∃n,1<=n/\n<=mask+13/\(lps mask n x).1=j:=by
 have e0:(lps mask 13 x).2=0:=by
  rw [ztw]
  exact Nat.div_eq_of_lt (Nat.lt_trans h2 (by decide))
 have e1:lps mask 13 x=((lps mask 13 x).1,0):=by rw [<- e0]
 obtain⟨m,hm',e⟩:=q3e hm (q5a mask 13 x h1) hj
 refine⟨13+m,by omega,by omega,?_⟩
 rw [zpr,e1]
 exact e
def zy7(t:SetTable):Nat->SetTable.Probe->SetTable.Probe
 | 0,p=>p
 | k+1,p=>zy7 t k (t.advance p)
theorem zwa(t:SetTable):∀(a b:Nat) (p:SetTable.Probe),zy7 t (a+b) p=zy7 t b (zy7 t a p)
 | 0,b,p=>by rw [Nat.zero_add]; rfl
 | a+1,b,p=>by rw [Nat.succ_add]; exact zwa t a b _
theorem zr4(mask i:Nat):SetTable.runEnd mask i - i<=9:=by
 unfold SetTable.runEnd
 split<;>omega
theorem zqm(t:SetTable):∀(m:Nat) (p:SetTable.Probe),p.more=m->(zy7 t (m+1) p).j=(SetTable.leap t.mask p.i p.perturb).1/\(zy7 t (m+1) p).i=(SetTable.leap t.mask p.i p.perturb).1/\(zy7 t (m+1) p).perturb=(SetTable.leap t.mask p.i p.perturb).2/\(zy7 t (m+1) p).more<=9
 | 0,p,h=>by
  have e:t.advance p = {p with j:=(SetTable.leap t.mask p.i p.perturb).1,more:=SetTable.runEnd t.mask (SetTable.leap t.mask p.i p.perturb).1 - (SetTable.leap t.mask p.i p.perturb).1,i:=(SetTable.leap t.mask p.i p.perturb).1,perturb:=(SetTable.leap t.mask p.i p.perturb).2}:=by
   unfold SetTable.advance
   rw [if_neg (by omega)]
  show(t.advance p).j=_/\(t.advance p).i=_/\(t.advance p).perturb=_/\(t.advance p).more<=9
  rw [e]
  exact⟨rfl,rfl,rfl,zr4 _ _⟩
 | m+1,p,h=>by
  have e:t.advance p = {p with j:=p.j+1,more:=p.more - 1}:=by
   unfold SetTable.advance
   rw [if_pos (by omega)]
  show(zy7 t (m+1) (t.advance p)).j=_/\_
  obtain⟨a,b,c,d⟩:=zqm t m (t.advance p) (by rw [e]; show p.more - 1=m; omega)
  have e1:(t.advance p).i=p.i:=by rw [e]
  have e2:(t.advance p).perturb=p.perturb:=by rw [e]
  rw [e1,e2] at a b c
  exact⟨a,b,c,d⟩
theorem zp2(t:SetTable):∀(n:Nat) (p:SetTable.Probe),p.more<=9->∃k,k<=10 * (n+1)/\(zy7 t k p).j=(lps t.mask (n+1) (p.i,p.perturb)).1
 | 0,p,h=>by
  obtain⟨a,_⟩:=zqm t p.more p rfl
  exact⟨p.more+1,by omega,a⟩
 | n+1,p,h=>by
  obtain⟨a,b,c,d⟩:=zqm t p.more p rfl
  obtain⟨k,hk,e⟩:=zp2 t n (zy7 t (p.more+1) p) d
  refine⟨p.more+1+k,by omega,?_⟩
  rw [zwa,e,b,c]
  rfl
structure TabOk(t:SetTable):Prop where
 dm:t.dummies = #[]
 mz:t.mask=7/\t.place.size<=4\/t.mask=31/\t.place.size<=18\/t.mask=127/\t.place.size<=60
 rs:Ris t.place
theorem TabOk.mask{t:SetTable}(T:TabOk t):zwb t.mask:=T.mz.elim (fun z=>.inl z.1) fun z=>z.elim (fun z=>.inr (.inl z.1)) fun z=>.inr (.inr z.1)
theorem TabOk.slot{t:SetTable}(T:TabOk t)(j:Nat):t.slot j=if t.place[SetTable.below t.place j]?=some j then .live (SetTable.below t.place j) else .empty:=by
 unfold SetTable.slot
 have:SetTable.has t.dummies j=false:=by rw [T.dm]; rfl
 rw [this]
 simp
theorem TabOk.hole{t:SetTable}(T:TabOk t):∃j,j<=t.mask/\t.slot j=.empty:=by
 obtain⟨j,hj,hn⟩:=L2.hole t.place.size t.place.toList (by simp)
 refine⟨j,?_,?_⟩
 ·rcases T.mz with⟨a,b⟩ | ⟨a,b⟩ | ⟨a,b⟩<;>omega
 ·rw [T.slot,if_neg]
  intro e
  exact hn (List.mem_of_getElem? (i:=SetTable.below t.place j) (by simpa using e))
def qck(t:SetTable)(p:SetTable.Probe):Prop:=p.more<=9/\p.i<=t.mask/\p.perturb < 2 ^ 64
def Far(t:SetTable)(p:SetTable.Probe)(k:Nat):Prop:=p.dummy=none/\t.slot (zy7 t k p).j=.empty
theorem TabOk.far{t:SetTable}(T:TabOk t){p:SetTable.Probe}(h:qck t p)(hd:p.dummy=none):∃k,k < 10 * SetTable.turns t.mask/\Far t p k:=by
 obtain⟨j,hj,he⟩:=T.hole
 obtain⟨n,h1,h2,e⟩:=qc2 T.mask (x:=(p.i,p.perturb)) h.2.1 h.2.2 hj
 obtain⟨m,rfl⟩:∃m,n=m+1:=⟨n - 1,by omega⟩
 obtain⟨k,hk,ek⟩:=zp2 t m p h.1
 refine⟨k,by unfold SetTable.turns; omega,hd,?_⟩
 rw [ek,e]
 exact he
theorem q7s(h:Int):SetTable.bits h < 2 ^ 64:=by
 unfold SetTable.bits
 have a:=Int.emod_lt_of_pos h (show(0:Int) < 2 ^ 64 by decide)
 have b:=Int.emod_nonneg h (show(2 ^ 64:Int)≠0 by decide)
 omega
theorem TabOk.start{t:SetTable}(T:TabOk t)(h:Int):∃k,k < 10 * SetTable.turns t.mask/\Far t (t.probeStart h) k:=
 T.far ⟨zr4 _ _,Nat.le_of_lt_succ (Nat.mod_lt _ (Nat.succ_pos _)),q7s h⟩ rfl
def Own(mask:Nat)(owner:Array (Option Nat))(k:Nat):Prop:=owner.size=mask+1/\((List.range (mask+1)).filterMap fun j=>owner.getD j none).Perm (List.range k)
theorem Own.hole{mask k:Nat}{owner:Array (Option Nat)}(O:Own mask owner k)(hk:k<=mask):∃j,j<=mask/\owner.getD j none=none:=by
 refine Classical.byContradiction fun c=>?_
 have all:∀j,j<=mask->∃v,owner.getD j none=some v:=fun j hj=>by
  cases e:owner.getD j none with
  | none=>exact absurd ⟨j,hj,e⟩ c
  | some v=>exact⟨v,rfl⟩
 have len:∀l:List Nat,(∀j∈l,j<=mask)->(l.filterMap fun j=>owner.getD j none).length=l.length:=by
  intro l
  induction l with
  | nil=>intro _; rfl
  | cons a l ih=>
   intro h
   obtain⟨v,hv⟩:=all a (h a (.head _))
   rw [List.filterMap_cons_some (f:=fun j=>owner.getD j none) (b:=v) hv,List.length_cons,List.length_cons,ih fun j hj=>h j (.tail _ hj)]
 have z:=O.2.length_eq
 rw [len _ fun j hj=>by have:=List.mem_range.mp hj; omega,List.length_range,List.length_range] at z
 omega
end L2
set_option Elab.async false
set_option linter.all false
set_option maxRecDepth 100000
namespace L2
open PySem PySem.Spec PyProof.Rows PySem.W
section
variable{prog:Program}{w:World}{A:Around}{E:Value->Shared->Prop}{s:Shared}{a:Addr}{L:Bool}
theorem zhq{n:Nat}(h:n<=1000):n<=sizeLine:=by rw [sizeLine_eq]; omega
theorem zme{vs:List Value}{a:Addr}{n:Nat}{r:Nat->Nat}{P:PySem.Fin->Shared->Prop} (ho:s.heap.get? a=some (seqObj "list" vs.toArray n)) (h64:vs.length < 64) (hr:∀i j,i < vs.length->j < vs.length->r i=r j->i=j)
  (hR:2<=vs.length->∀h':Heap,(∀b o,b≠a->s.heap.get? b=some o->h'.get? b=some o)->∃k,(∀(E:Value->Shared->Prop) (Q:SortKind->Shared->Prop),Q k {s with heap:=h'}->wpAny (model prog w) A (keyKind' vs.toArray) Q E {s with heap:=h'})/\
   ∀i j,i < vs.length->j < vs.length->∀(E:Value->Shared->Prop) (Q:Bool->Shared->Prop),Q (decide (r i < r j)) {s with heap:=h'}->wpAny (model prog w) A (keyLt' k (vs.getD i .none) (vs.getD j .none)) Q E {s with heap:=h'})
  (h:∀p,PermN r vs.length p->Asc r p vs.length->P (.done (.ret .none)) {s with heap:=sortedHeap s.heap a vs (p.toList.map fun i=>vs.getD i .none).toArray}) :
  wpAny (model prog w) A (Builtin.«list.sort» ⟨[.ref a],[]⟩) P E s:=by
 rw [list_sort_plain]
 have hz:vs.length<=sizeLine:=zhq (by omega)
 have ha:a < s.heap.objs.size:=Heap.lt_size ho
 refine wpAny_bind (listItems_at ho rfl ?_)
 refine wpAny_bind (listUpdate_at ho rfl ?_ (by simpa using hz) (Nat.zero_le _))
 obtain⟨e1,ho1⟩:∃e1,(s.heap.update a (Obj.mapSeq fun _=>#[])).get? a=some (seqObj "list" #[] e1):=⟨_,get?_update_seq ho (fun _=>#[])⟩
 refine wpAny_bind (seqEpoch_at ho1 rfl ?_)
 refine wpAny_bind (wpAny_newTuple ?_ (by simpa using hz))
 refine wpAny_bind (wpAny_newList ?_ (Nat.zero_le _))
 refine wpAny_holding ?_
 have ho6:(((s.heap.update a (Obj.mapSeq fun _=>#[])).push (seqObj "tuple" vs.toArray 0)).push (seqObj "list" #[] 0)).get? a=some (seqObj "list" #[] e1):=by
  rw [Heap.get?_push_ne _ _ _ (by rw [size_push',Heap.size_update]; exact Nat.ne_of_lt (Nat.lt_succ_of_lt ha)),Heap.get?_push_ne _ _ _ (by rw [Heap.size_update]; exact Nat.ne_of_lt ha)]
  exact ho1
 have hkeep:∀b o,b≠a->s.heap.get? b=some o->(((s.heap.update a (Obj.mapSeq fun _=>#[])).push (seqObj "tuple" vs.toArray 0)).push (seqObj "list" #[] 0)).get? b=some o:=fun b o hb e=>by
  refine Heap.get?_push_of_some _ (Heap.get?_push_of_some _ ?_)
  rw [Heap.get?_update_ne _ _ _ _ hb]
  exact e
 show wpAny (model prog w) A _ P E {s with heap:=((s.heap.update a (Obj.mapSeq fun _=>#[])).push (seqObj "tuple" vs.toArray 0)).push (seqObj "list" #[] 0)}
 dsimp only
 have hsz:vs.toArray.size=vs.length:=by simp
 by_cases h2:vs.toArray.size < 2
 ·rw [if_pos h2,if_pos h2]
  refine wpAny_bind (wpAny_pure ?_)
  rw [StateT.run_pure]
  refine wpAny_bind (wpAny_pure ?_)
  dsimp only
  refine wpAny_bind (seqEpoch_at ho6 rfl ?_)
  refine wpAny_bind (listUpdate_at ho6 rfl ?_ (Nat.zero_le _) (by rw [Array.size_map]; show(pairsOf vs).size<=_; rw [pairsOf_size]; exact Nat.le_succ_of_le hz))
  simp only[bne_self_eq_false,Bool.false_eq_true,if_false]
  have e:(arrOf (SortSt.mk' general' (vs.toArray.zip vs.toArray) #[] 7 none)).map (·.2)=vs.toArray:=by
   show(vs.toArray.zip vs.toArray).map (·.2)=_
   apply Array.toList_inj.mp
   simp[List.map_snd_zip]
  rw [e]
  have z:=h (List.toArray (List.range vs.length)) (.of hr (by simp)) (fun i j hij hj=>by rw [hsz] at h2; omega)
  have ev:((List.toArray (List.range vs.length)).toList.map fun i=>vs.getD i Value.none)=vs:=by
   refine List.ext_getElem (by simp) fun i h1 h2=>?_
   simp[h2]
  rw [ev] at z
  exact wpAny_pure z
 ·rw [if_neg h2,if_neg h2]
  rw [hsz] at h2
  obtain⟨kk,hK,hRi⟩:=hR (by omega) _ hkeep
  refine wpAny_bind (hK _ _ ?_)
  refine wpAny_bind (wpAny_mono (kat_run (κ:=kk) (Q:=fun st' s'=>∃p:Array Nat,PermN r vs.length p/\Asc r p vs.length/\arrOf st'=p.map (kas_item (vs.toArray.zip vs.toArray))/\failedOf st'=none/\s' = {s with heap:=((s.heap.update a (Obj.mapSeq fun _=>#[])).push (seqObj "tuple" vs.toArray 0)).push (seqObj "list" #[] 0)})
   (G:=fun p s'=>PermN r vs.length p/\Asc r p vs.length/\s' = {s with heap:=((s.heap.update a (Obj.mapSeq fun _=>#[])).push (seqObj "tuple" vs.toArray 0)).push (seqObj "list" #[] 0)})
   rfl (by omega) h64 (fun p' st' s' a1 a2 a3 ⟨a4,a5,a6⟩=>⟨p',a4,a5,a2,a3,a6⟩) (q1y (r:=r) (fun i j C hi hj hc=>hRi i j hi hj _ _ hc) _ (qbk hr (by omega) fun p P1 P2=>⟨P1,P2,rfl⟩))) ?_ fun _ _ e=>e)
  rintro⟨⟨⟩,st'⟩ s' ⟨p,P1,P2,har,hf,rfl⟩
  dsimp only at har hf |-
  have e:=kat_snds (ks:=vs) (vs:=vs) rfl har
  refine wpAny_bind (seqEpoch_at ho6 rfl ?_)
  refine wpAny_bind (listUpdate_at ho6 rfl ?_ (Nat.zero_le _) (by rw [e,List.size_toArray,List.length_map,Array.length_toList,P1.sz]; exact Nat.le_succ_of_le hz))
  rw [hf]
  simp only[bne_self_eq_false,Bool.false_eq_true,if_false,e]
  exact wpAny_pure (h p P1 P2)
end
theorem q34{α β : Type}{f : α->β}{l m:List β}(h:l.Perm m):∀ps:List α,m=ps.map f->∃ps':List α,ps'.Perm ps/\l=ps'.map f:=by
 induction h with
 | nil=>
  intro ps e
  cases ps with
  | nil=>exact⟨[],.refl _,rfl⟩
  | cons _ _=>cases e
 | cons x _ ih=>
  intro ps e
  cases ps with
  | nil=>cases e
  | cons p ps=>
   injection e with e1 e2
   obtain⟨ps',q,e3⟩:=ih ps e2
   exact⟨p::ps',q.cons p,by rw [List.map_cons,<- e3,e1]⟩
 | swap x y l=>
  intro ps e
  match ps,e with
  | p::q::ps,e=>
   injection e with e1 e2
   injection e2 with e2 e3
   exact⟨q::p::ps,.swap ..,by rw [List.map_cons,List.map_cons,<- e1,<- e2,<- e3]⟩
 | trans _ _ ih1 ih2=>
  intro ps e
  obtain⟨ps1,q1,e1⟩:=ih2 ps e
  obtain⟨ps2,q2,e2⟩:=ih1 ps1 e1
  exact⟨ps2,q2.trans q1,e2⟩
theorem zvi:∀x:List Int,ltI x x=false
 | []=>rfl
 | a::x=>by rw [ltI,if_pos rfl]; exact zvi x
section
variable{prog:Program}{w:World}{A:Around}{E:Value->Shared->Prop}{s:Shared}{S:Addr}
theorem zyh{h:Heap}:∀{vs:List Value},(∀v∈vs,∃b p,v=.ref b/\p≠[]/\IsTupleKey (intKind prog w) h p b)->∃fs,KatTups h vs fs/\fs.length=vs.length/\∀f∈fs,∃n t,f=.int n t
 | [],_=>⟨[],.nil,rfl,fun f h=>absurd h (by simp)⟩
 | v::vs,hv=>by
  obtain⟨fs,k,l,f⟩:=zyh fun x hx=>hv x (.tail _ hx)
  obtain⟨b,p,rfl,h0,o,its,n,ho,hc,hd,hi⟩:=hv v (.head _)
  obtain⟨its⟩:=its
  cases hi with
  | nil=>exact absurd rfl h0
  | @cons i v x vs h1 hx=>
   obtain⟨t1,rfl⟩:=zpv h1
   refine⟨.int i t1::fs,.cons ho hc hd rfl k,by simp[l],fun g hg=>?_⟩
   rcases List.mem_cons.mp hg with rfl | hg
   ·exact⟨_,_,rfl⟩
   ·exact f g hg
end
def adV:V->Addr
 | .ref a=>a
 | _=>0
def RisP(ps:List (List Int)):Prop:=(∀p∈ps,p≠[])/\ps.Pairwise (fun p q=>ltI p q=true)/\ps.length<=60
section
variable{X:Cx}{pins:List (Addr×Obj)}{σ : St}{H:Hp}{s:Shared}
theorem zs9(I:Inv X pins σ H s):∀{ps:List (List Int)} {vs:List V},DtA H vs (ps.map pathD)->vs=(vs.map adV).map V.ref/\vs.length=ps.length/\∀j,j < (vs.map adV).length->IsTupleKey (intKind X.prog X.w) s.heap (ps.getD j []) ((vs.map adV).getD j 0)
 | [],_,.nil=>⟨rfl,rfl,fun j h=>absurd h (by simp)⟩
 | p::ps,_,.cons d t=>by
  obtain⟨e,l,f⟩:=zs9 I t
  cases d with
  | @tup a xs ds e1 ra=>
   obtain⟨b,eb,kb⟩:=I.path (v:=.ref a) (p:=p) (Dt.tup e1 ra) (show RelV (.ref a) (.ref a) from rfl)
   cases eb
   refine⟨by rw [List.map_cons,List.map_cons,<- e]; rfl,by simp[l],fun j hj=>?_⟩
   cases j with
   | zero=>exact kb
   | succ j=>exact f j (by simpa using hj)
theorem RisP.lt{ps:List (List Int)}(R:RisP ps){i j:Nat}(hi:i < ps.length)(hj:j < ps.length):ltI (ps.getD i []) (ps.getD j [])=decide (i < j):=by
 have up:∀i j,i < j->j < ps.length->ltI (ps.getD i []) (ps.getD j [])=true:=fun i j hij hj=>by
  rw [List.getD_eq_getElem?_getD,List.getD_eq_getElem?_getD,List.getElem?_eq_getElem (by omega),List.getElem?_eq_getElem hj]
  exact List.pairwise_iff_getElem.mp R.2.1 i j (by omega) hj hij
 rcases Nat.lt_trichotomy i j with z | rfl | z
 ·rw [up i j z hj,decide_eq_true z]
 ·rw [zvi,decide_eq_false (Nat.lt_irrefl _)]
 ·rw [q58 (up j i z hi),decide_eq_false (by omega)]
theorem zoh:∀as:List Addr,Vals (as.map V.ref) (as.map Value.ref)
 | []=>.nil
 | a::as=>.cons rfl (zoh as)
end
end L2
set_option Elab.async false
set_option linter.all false
set_option maxRecDepth 100000
namespace L2
open PySem PySem.Spec PyProof.Rows PySem.W
section
variable{prog:Program}{w:World}{A:Around}{E:Value->Shared->Prop}{s:Shared}
end
section
variable{X:Cx}
end
end L2
set_option Elab.async false
set_option linter.all false
set_option maxRecDepth 100000
namespace L2
open PySem PySem.Spec PyProof.Rows PySem.W
section
variable{X:Cx}
end
section
variable{prog:Program}{w:World}{A:Around}{E:Value->Shared->Prop}{s:Shared}
end
section
variable{prog:Program}{w:World}{A:Around}{E:Value->Shared->Prop}{s:Shared}{K:Type} [DecidableEq K] {knd:PySem.KeyKind prog w K}
end
section
variable{X:Cx}
theorem zvz{α : Type}{H:Hp}{f : α->V}{g : α->Dm}:∀{l:List α},(∀i∈l,Dt H (f i) (g i))->DtA H (l.map f) (l.map g)
 | [],_=>.nil
 | i::l,h=>.cons (h i (.head _)) (zvz fun j hj=>h j (.tail _ hj))
end
end L2
set_option Elab.async false
set_option linter.all false
set_option maxRecDepth 100000
namespace L2
open PySem PySem.Spec PyProof.Rows PySem.W
theorem zs8:entryFor table "dict.update.loop" = some Builtin.«dict.update.loop»:=entryFor_of_tree (by kernel_rfl)
theorem zg5:plainId "dict.update.loop" = true:=by decide+kernel
theorem qcp{n:Nat}(h:n<=200000):n<=sizeLine:=Nat.le_trans h (by decide)
theorem zro:typeLookup (.type "list") "keys" = pure none:=by rw [typeLookup_type,builtinLookup_eq_fast]; kernel_rfl
section
variable{prog:Program}{w:World}{A:Around}{E:Value->Shared->Prop}{s:Shared}{a:Addr}
theorem q74{its:Array Value}{n:Nat}{Q:Option Value->Shared->Prop}(hh:A.handled=none) (hx:s.heap.get? a=some {cls:=.type "list",data:=.seq its n}) (q:∀h' tk,(∀b o,s.heap.get? b=some o->h'.get? b=some o)->Q none {s with heap:=h',toks:=tk}) :
  wpAny (model prog w) A (getAttr? (.ref a) "keys") Q E s:=by
 obtain⟨hp,g,d,tk,os⟩:=s
 have hT:Shared.TypeIs ⟨hp,g,d,tk,os⟩ (.ref a) "list":=⟨_,hx,rfl⟩
 have hT1:Shared.TypeIs ⟨hp,g,d,tk+1,os⟩ (.ref a) "list":=⟨_,hx,rfl⟩
 have f1:=sub_AttributeError
 have f3:=F.slot_list_getattribute.lookup
 have f4:=F.slot_list_getattribute.bind (.ref a)
 have f5:=am_list_getattr_none
 unfold getAttr? getAttrBy? getAttrBy
 repeat (any_goals (first | assumption | ((with_reducible show wpAny _ _ (call (Value.builtin "list.__getattribute__") _ _) _ _ _); refine call_meets F.slot_list_getattribute hT1 am_entry_list_getattribute (F.args_list_getattribute_2 _ _) (meets_getattribute_miss_list a its n #[] "keys" _ zro (by decide+kernel)) ⟨hx,hh,fun h' tk' e hx'=>?_⟩) | wp_step))
 obtain⟨t',u',he⟩:=hx'.there
 show wpAny _ _ (getattributeRaised _ _ _ _ _ _ _) _ _ _
 unfold getattributeRaised
 repeat (any_goals (first | assumption | wp_step))
 exact q _ _ fun b ob e=>hx'.keeps b ob e
theorem zfb{h h':Heap}{D:Addr}{xs:List (List Key×Addr×Value)}(x:h.DictOfH (tupleKind (z1l prog w)) D xs)(kD:∀o,h.get? D=some o->h'.get? D=some o)(kk:∀y∈xs,(tupleKind (z1l prog w)).is h' y.1 y.2.1):h'.DictOfH (tupleKind (z1l prog w)) D xs:=by
 obtain⟨o,es,ep,e1,e2,e3,e4,_,e6⟩:=x
 exact⟨o,es,ep,kD o e1,e2,e3,e4,kk,e6⟩
theorem zgo{h h':Heap}{p:List Key}{a:Addr}(x:(tupleKind (z1l prog w)).is h p a)(k:∀o,h.get? a=some o->h'.get? a=some o):(tupleKind (z1l prog w)).is h' p a:=by
 obtain⟨o,i,n,e,r⟩:=x
 exact⟨o,i,n,k _ e,r⟩
theorem zx4{a b:Addr}{v:Value}{o:Obj}{its:Array Value}{k:Nat}{Q:List Value->Shared->Prop}(e:s.heap.get? a=some o) (c:o.cls=.type "tuple") (d:o.data=.seq its k) (hi:its.toList=[.ref b,v]) (q:Q [.ref b,v] s):wpAny (model prog w) A (Builtin.Dict.pairItems (.ref a)) Q E s:=by
 unfold Builtin.Dict.pairItems
 refine wpAny_bind (wpAny_typeOf (T:="tuple") ⟨_,e,c⟩ ?_)
 rw [if_pos (by decide)]
 refine wpAny_bind (wpAny_seqItems e d (wpAny_pure ?_))
 show Q its.toList s
 rw [hi]
 exact q
theorem zx3{R:Result->Shared->Prop}{I D:Addr}{fp wr:List Addr}{G:Array GenState->Array GenState->Prop}{n:Nat}{P:Nat->Value->Prop}{St:Nat->Shared->Prop}{rw_ ka:Nat->Addr}{va:Nat->Value}{ks:Nat->List Key}(W:WalksS prog w A.in1 I fp wr G n P St)(hDf:D∉fp)
  (hval:∀i v,P i v->v=.ref (rw_ i)) (hinj:∀i j,i < n->j < n->ks i=ks j->i=j) (hn:n<=100000) (hnw:∀i,i < n->rw_ i∉D::wr/\ka i∉D::wr) (hu:A.units+8 < cLine) :
  ∀(m i:Nat) (s:Shared),i+m=n->St i s->s.heap.DictOfH (tupleKind (z1l prog w)) D ((List.range i).map fun j=>(ks j,ka j,va j))->
   (∀j,j < n->(∃o its k,s.heap.get? (rw_ j)=some o/\o.cls=.type "tuple"/\o.data=.seq its k/\its.toList=[.ref (ka j),va j])/\(tupleKind (z1l prog w)).is s.heap (ks j) (ka j))->
   (∀s',Moved (D::wr) G s s'->s'.heap.DictOfH (tupleKind (z1l prog w)) D ((List.range n).map fun j=>(ks j,ka j,va j))->R (.ok (.ret .none)) s')->
   codeAny (model prog w) A (.builtin "dict.update.loop" ⟨[.ref D,.ref I,rawInt i,.none],[]⟩) R s:=by
 have hw:D∉wr:=fun z=>hDf (W.sub _ z)
 have hm:∀b∈wr,b∈D::wr:=fun b z=>.tail _ z
 intro m
 induction m with
 | zero=>
  intro i s e st x hk q
  obtain rfl:i=n:=e
  refine codeAny_builtin zs8 ?_
  rw [Around.under_plainId zg5]
  refine wpAny_bind (W.done s _ _ st fun s' mv=>?_)
  show wpAny _ _ (Builtin.Dict.addKeywords D [] >>= _) _ _ _
  refine wpAny_bind (wpAny_pure (wpAny_pure (q s' (mv.mono hm) (zfb x (fun o z=>mv.heap D o hw z) fun y hy=>?_))))
  obtain⟨j,hj,rfl⟩:=List.mem_map.mp hy
  have hj:=List.mem_range.mp hj
  exact zgo (hk j hj).2 fun o z=>mv.heap _ o (fun z=>(hnw j hj).2 (hm _ z)) z
 | succ m ih=>
  intro i s e st x hk q
  refine codeAny_builtin zs8 ?_
  rw [Around.under_plainId zg5]
  refine wpAny_bind (W.item i s _ _ (by omega) st fun v s1 hP st1 mv=>?_)
  obtain rfl:=hval i v hP
  have hi:i < n:=by omega
  have hk1:∀j,j < n->(∃o its k,s1.heap.get? (rw_ j)=some o/\o.cls=.type "tuple"/\o.data=.seq its k/\its.toList=[.ref (ka j),va j])/\(tupleKind (z1l prog w)).is s1.heap (ks j) (ka j):=fun j hj=>by
   obtain⟨⟨o,its,k,e1,r⟩,x2⟩:=hk j hj
   exact⟨⟨o,its,k,mv.heap _ o (fun z=>(hnw j hj).1 (hm _ z)) e1,r⟩,zgo x2 fun o z=>mv.heap _ o (fun z=>(hnw j hj).2 (hm _ z)) z⟩
  have x1:s1.heap.DictOfH (tupleKind (z1l prog w)) D ((List.range i).map fun j=>(ks j,ka j,va j)):=zfb x (fun o z=>mv.heap D o hw z) fun y hy=>by
   obtain⟨j,hj,rfl⟩:=List.mem_map.mp hy
   exact(hk1 j (by have:=List.mem_range.mp hj; omega)).2
  obtain⟨⟨o,its,k,e1,e2,e3,e4⟩,x2⟩:=hk1 i hi
  refine wpAny_bind (wpAny_holding (wpAny_bind (wpAny_tryCatch (zx4 e1 e2 e3 e4 (wpAny_holding (wpAny_dictSet_heap (by show A.units+1 < cLine; omega) x2 x1 (fun h' x' sb=>?_) ?_))))))
  ·have hnew:atKey ((List.range i).map fun j=>(ks j,ka j,va j)) (ks i)=none:=atKey_none_of_get fun j p z=>by
    rw [List.getElem?_map] at z
    cases ej:(List.range i)[j]? with
    | none=>rw [ej] at z; cases z
    | some j'=>
     rw [ej] at z
     have hj':=List.mem_range.mp (List.mem_of_getElem? ej)
     have:ks j'=ks i:=by simpa using congrArg Prod.fst (Option.some.inj z)
     have:=hinj j' i (by omega) hi this
     omega
   rw [storedH_new hnew] at x'
   have er:((List.range i).map fun j=>(ks j,ka j,va j))++[(ks i,ka i,va i)]=(List.range (i+1)).map fun j=>(ks j,ka j,va j):=by
    rw [List.range_succ,List.map_append]; rfl
   rw [er] at x'
   have hk2:∀j,j < n->(∃o its k,h'.get? (rw_ j)=some o/\o.cls=.type "tuple"/\o.data=.seq its k/\its.toList=[.ref (ka j),va j])/\(tupleKind (z1l prog w)).is h' (ks j) (ka j):=fun j hj=>by
    obtain⟨⟨o,its,k,e1,r⟩,x2⟩:=hk1 j hj
    exact⟨⟨o,its,k,(sb.2 _ fun z=>(hnw j hj).1 (by rw [z]; exact List.mem_cons_self)).trans e1,r⟩,zgo x2 fun o z=>(sb.2 _ fun z=>(hnw j hj).2 (by rw [z]; exact List.mem_cons_self)).trans z⟩
   refine wpAny_pure ⟨plainId_quiet zg5 _,ih (i+1) _ (by omega) (W.frame _ s1 _ _ st1 (Nat.le_add_right _ _) fun b hb' o z=>?_) x' hk2 fun s2 mv2 x2=>q s2 (Moved.trans W.gtrans ((mv.mono hm).then_heap (Nat.le_add_right _ _) fun b o hb' z=>?_) mv2) x2⟩
   ·rw [sb.2 b fun z:b=D=>hDf (z ▸ hb')]; exact z
   ·rw [sb.2 b fun z:b=D=>hb' (z ▸ List.mem_cons_self)]; exact z
  ·rw [List.length_map,List.length_range]
   exact qcp (by omega)
end
def q52:List V->Hp->VK->Prop:=fun xs H Q=>∃(a:Addr) (vs:List V) (l:List Rw2),xs=[.ref a]/\H a=some (.lst vs)/\DtA H vs (l.map q86)/\(l.map (·.1)).Nodup/\l.length<=100000/\
 ∀(p:Addr) (kvs:List (List Key×V)),H p=none->Paired (fun(kv:List Key×V) (r:Rw2)=>kv.1=r.1.map Sum.inl/\Dt H kv.2 r.2) kvs l->Q (.ref p) (upd H p (.dT kvs))
structure Prw where
 r:Addr
 k:Addr
 x:V
 u:Value
instance:Inhabited Prw:=⟨⟨0,0,.non,.none⟩⟩
section
variable{X:Cx}{pins:List (Addr×Obj)}{σ : St}{H:Hp}{s:Shared}
def q7z(X:Cx)(H:Hp)(h:Heap)(l:Rw2)(q:Prw):Prop:=H q.r=some (.tup [.ref q.k,q.x])/\H q.k=some (.tup (l.1.map V.int))/\Dt H q.x l.2/\RelV q.x q.u/\(∃o its k,h.get? q.r=some o/\o.cls=.type "tuple"/\o.data=.seq its k/\its.toList=[.ref q.k,q.u])/\(tupleKind (z1l X.prog X.w)).is h (l.1.map Sum.inl) q.k
theorem qd0(I:Inv X pins σ H s):∀{l:List Rw2} {vs:List V} {us:List Value},DtA H vs (l.map q86)->Vals vs us->∃qs:List Prw,us=qs.map (fun q=>Value.ref q.r)/\Paired (q7z X H s.heap) l qs
 | [],_,_,.nil,.nil=>⟨[],rfl,.nil⟩
 | r::l,_,_,.cons d t,.cons rr rt=>by
  obtain⟨qs,e,pq⟩:=qd0 I t rt
  cases d with
  | tup e1 ra=>
   cases rr
   obtain⟨its,rv,⟨o,ho,hc,n,hd⟩,_⟩:=I.tuple (SqT.of e1)
   cases ra with
   | cons d1 ra=>
    cases ra with
    | cons d2 ra=>
     cases ra
     cases rv with
     | cons q1 rv=>
      cases rv with
      | cons q2 rv=>
       cases rv
       cases d1 with
       | tup e2 rb=>
        have eb:=z77 rb
        subst eb
        cases q1
        refine⟨⟨_,_,_,_⟩::qs,by rw [e]; rfl,.cons ⟨e1,e2,d2,q2,⟨o,_,n,ho,hc,hd,rfl⟩,?_⟩ pq⟩
        refine zmi I.hok ?_
        rw [e2,List.map_map]
        rfl
theorem zaf{α β : Type}{R : α->β->Prop}:∀{l:List α} {m:List β},Paired R l m->l.length=m.length/\∀(j:Nat) (a : α) (b : β),l[j]?=some a->m[j]?=some b->R a b
 | [],_,.nil=>⟨rfl,fun j a b h=>by simp at h⟩
 | x::l,_,.cons r t=>by
  obtain⟨h1,h2⟩:=zaf t
  refine⟨by simp[h1],fun j a b ha hb=>?_⟩
  cases j with
  | zero=>
   have e1:=Option.some.inj ha
   have e2:=Option.some.inj hb
   subst e1 e2
   exact r
  | succ j=>exact h2 j a b (by simpa using ha) (by simpa using hb)
theorem zrc{α β γ δ : Type}{R : α->β->Prop}{S : γ->δ->Prop}{f : α->β->γ}{g : α->β->δ}:∀{l:List α} {m:List β},Paired R l m->(∀a b,R a b->S (f a b) (g a b))->Paired S (List.zipWith f l m) (List.zipWith g l m)
 | [],_,.nil,_=>.nil
 | _::_,_,.cons r t,h=>.cons (h _ _ r) (zrc t h)
theorem ziw(hc:X.calm=true)(hu:X.A.units+64 < cLine):zbs X (.type "dict") q52:=by
 intro pins s σ H xs us Q I r h
 obtain⟨a,vs,l,rfl,hH,hd,hnd,hz,q⟩:=h
 obtain⟨u,rfl,r1⟩:=r.one
 cases r1
 obtain⟨z,its,n,rv,hl,e⟩:=I.lstM hH
 obtain⟨qs,eq,pq⟩:=qd0 I hd rv
 subst eq
 obtain⟨hlen,hat⟩:=zaf pq
 refine callType_codes (Q₁:=fun obj s₁=>obj=.ref s.heap.objs.size/\s₁ = {s with heap:=s.heap.push {cls:=.type "dict",data:=.dict #[]}}) F.kt_called_dict (F.kt_typeCall_dict_1 _) F.entry_dict_init (kt_code_dict_new _ ⟨rfl,rfl⟩) ?_
 rintro obj s₁ ⟨rfl,rfl⟩
 have hnew:(s.heap.push {cls:=.type "dict",data:=.dict #[]}).DictOfH (tupleKind (z1l X.prog X.w)) s.heap.objs.size []:=Heap.DictOfH.new s.heap
 refine⟨hnew.typeIs,F.args_dict_init_2 _ _,?_⟩
 unfold Builtin.«dict.__init__»
 refine wpAny_bind ?_
 unfold Builtin.Dict.selfAndRest
 refine wpAny_bind (wpAny_notOrdered_dict hnew.typeIs ?_)
 show wpAny _ _ (pure (s.heap.objs.size,[Value.ref a])) _ _ _
 refine wpAny_pure ?_
 show wpAny _ _ (Builtin.Dict.updateFrom "dict.__init__" s.heap.objs.size (.ref a) [] .none) _ _ _
 unfold Builtin.Dict.updateFrom
 have e1:(s.heap.push {cls:=.type "dict",data:=.dict #[]}).get? a=some {cls:=.type "list",data:=.seq (qs.map fun q=>Value.ref q.r).toArray n}:=Heap.get?_push_of_some _ e
 refine wpAny_bind (wpAny_typeOf (T:="list") ⟨_,e1,rfl⟩ ?_)
 rw [if_pos (by decide)]
 refine wpAny_bind (q74 (by simpa using I.ok.hd hc) e1 fun h2 tk2 k2=>?_)
 refine wpAny_ite_split (fun _=>?_) (fun c=>absurd rfl c)
 have e2:=k2 a _ e1
 have eD:=k2 _ _ (Heap.get?_push_size s.heap (o:={cls:=.type "dict",data:=.dict #[]}) rfl)
 have lD:s.heap.objs.size < h2.objs.size:=Heap.lt_size eD
 have la:a < s.heap.objs.size:=Heap.lt_size e
 have hl2:h2.IsList a (qs.map fun q=>Value.ref q.r).toArray:=⟨_,e2,rfl,n,rfl⟩
 refine wpAny_bind (wpAny_rule (wpAny_bind (wpAny_pyIter_list (s:={s with heap:=h2,toks:=tk2}) hl2 (wpAny_pure ⟨plainId_quiet zg5 _,?_⟩))))
 have W:=(Walks.list (prog:=X.prog) (w:=X.w) (A:=X.A.in1.in1) (by simpa using I.ok.hd hc) h2.objs.size a (Nat.ne_of_lt (Nat.lt_trans la lD)) (qs.map fun q=>Value.ref q.r).toArray).toS
 have hsz:(qs.map fun q=>Value.ref q.r).toArray.size=qs.length:=by simp
 rw [hsz] at W
 have hgq:∀j,j < qs.length->qs[j]?=some (qs.getD j default):=fun j hj=>by
  rw [List.getD_eq_getElem?_getD,List.getElem?_eq_getElem hj]; rfl
 have hgl:∀j,j < qs.length->l[j]?=some (l.getD j ([],.non)):=fun j hj=>by
  rw [List.getD_eq_getElem?_getD,List.getElem?_eq_getElem (by omega)]; rfl
 have ok:∀j,j < qs.length->q7z X H s.heap (l.getD j ([],.non)) (qs.getD j default):=fun j hj=>hat j _ _ (hgl j hj) (hgq j hj)
 have kp:∀b o,s.heap.get? b=some o->(h2.push {cls:=.type "list_iterator",data:=.fields #[.ref a,.int 0 0]}).get? b=some o:=fun b o q=>Heap.get?_push_of_some _ (k2 b o (Heap.get?_push_of_some _ q))
 refine zx3 (A:=X.A.in1) (D:=s.heap.objs.size) (rw_:=fun j=>(qs.getD j default).r) (ka:=fun j=>(qs.getD j default).k) (va:=fun j=>(qs.getD j default).u) (ks:=fun j=>(l.getD j ([],.non)).1.map Sum.inl) W ?_ (fun i v hv=>?_) (fun i j hi hj z=>?_) (by omega) (fun j hj=>?_) (by show X.A.units+1+8 < cLine; omega) qs.length 0 _ (Nat.zero_add _) ⟨⟨_,Heap.get?_push_size _ rfl,rfl,rfl⟩,hl2.push _⟩ ?_ (fun j hj=>?_) fun s' mv x=>?_
 ·simp only[List.mem_cons,List.not_mem_nil,or_false,not_or]
  exact⟨Nat.ne_of_lt lD,Nat.ne_of_gt la⟩
 ·have hi:i < qs.length:=by
   refine Classical.byContradiction fun z=>?_
   rw [Array.getElem?_eq_none (by rw [hsz]; omega)] at hv
   cases hv
  have z:(qs.map fun q=>Value.ref q.r)[i]?=some v:=by simpa using hv
  rw [List.getElem?_map,hgq i hi] at z
  exact(Option.some.inj z).symm
 ·have e':(l.getD i ([],Dm.non)).1=(l.getD j ([],Dm.non)).1:=by
   have inj:∀(x y:List Int),x.map (Sum.inl:Int->Key)=y.map Sum.inl->x=y:=by
    intro x
    induction x with
    | nil=>intro y h; cases y with | nil=>rfl | cons _ _=>cases h
    | cons a x ih=>
     intro y h
     cases y with
     | nil=>cases h
     | cons b y=>
      rw [List.map_cons,List.map_cons] at h
      injection h with h1 h2
      injection h1 with h1
      rw [h1,ih y h2]
   exact inj _ _ z
  have hi':i < (l.map (·.1)).length:=by rw [List.length_map]; omega
  have hj':j < (l.map (·.1)).length:=by rw [List.length_map]; omega
  refine(List.getElem_inj (h₀:=hi') (h₁:=hj') hnd).mp ?_
  rw [List.getElem_map,List.getElem_map]
  have a1:=hgl i hi
  have a2:=hgl j hj
  rw [List.getElem?_eq_getElem (by omega)] at a1
  rw [List.getElem?_eq_getElem (by omega)] at a2
  rw [Option.some.inj a1,Option.some.inj a2]
  exact e'
 ·obtain⟨_,_,_,_,⟨o,its,k,g1,_⟩,o2,its2,k2',g2,_⟩:=ok j hj
  have b1:=Heap.lt_size g1
  have b2:=Heap.lt_size g2
  simp only[List.mem_cons,List.not_mem_nil,or_false,not_or]
  exact⟨⟨Nat.ne_of_lt b1,Nat.ne_of_lt (Nat.lt_trans b1 lD)⟩,Nat.ne_of_lt b2,Nat.ne_of_lt (Nat.lt_trans b2 lD)⟩
 ·exact zfb hnew (fun o z=>Heap.get?_push_of_some _ (k2 _ o z)) fun y hy=>absurd hy (by simp)
 ·obtain⟨_,_,_,_,⟨o,its,k,g1,r1⟩,x2⟩:=ok j hj
  exact⟨⟨o,its,k,kp _ _ g1,r1⟩,zgo x2 fun o z=>kp _ o z⟩
 ·obtain⟨h',g',d',tk',os'⟩:=s'
  have z1:g'=s.gens:=mv.gens
  have z2:d'=s.drawn:=mv.drawn
  have z3:os'=s.os:=mv.os
  subst z1 z2 z3
  refine⟨rfl,?_⟩
  have kf:∀b o,s.heap.get? b=some o->h'.get? b=some o:=fun b o q=>by
   have lb:=Heap.lt_size q
   refine mv.heap b o ?_ (kp b o q)
   simp only[List.mem_cons,List.not_mem_nil,or_false,not_or]
   exact⟨Nat.ne_of_lt lb,Nat.ne_of_lt (Nat.lt_trans lb lD)⟩
  obtain⟨oD,es,ep,f1,f2,f3,f4,f5,f6⟩:=x
  have ez:((List.range qs.length).map fun j=>((l.getD j ([],Dm.non)).1.map (Sum.inl:Int->Key),(qs.getD j default).k,(qs.getD j default).u))=List.zipWith (fun(r:Rw2) (q:Prw)=>(r.1.map Sum.inl,q.k,q.u)) l qs:=by
   refine List.ext_getElem (by simp; omega) fun j h1 h2=>?_
   have hj:j < qs.length:=by simpa using h1
   have a1:=hgl j hj
   have a2:=hgq j hj
   rw [List.getElem?_eq_getElem (by omega)] at a1
   rw [List.getElem?_eq_getElem hj] at a2
   rw [List.getElem_map,List.getElem_range,List.getElem_zipWith,Option.some.inj a1,Option.some.inj a2]
  rw [ez] at f4 f6
  refine⟨.ref s.heap.objs.size,_,I.laid (t':=tk') kf (Nat.le_refl _) (show ObjOk X.prog X.w _ _ _ (.dT (List.zipWith (fun(r:Rw2) (q:Prw)=>(r.1.map Sum.inl,q.x)) l qs)) from⟨?_,?_,_,?_,oD,es,ep,f1,f2,f3,f4,f6⟩),rfl,q _ _ (I.hok.fresh (Nat.le_refl _)) ?_⟩
  ·rw [List.length_zipWith]
   exact qcp (by omega)
  ·have:=I.big
   exact beq_eq_false_iff_ne.mpr (Nat.ne_of_gt this)
  ·refine zrc pq fun r q ok=>⟨rfl,?_,ok.2.2.2.1⟩
   rw [z0o (Nat.ne_of_lt (I.hok _ _ ok.2.1).lt),ok.2.1,List.map_map]
   rfl
  ·have key:∀{l:List Rw2} {qs:List Prw},Paired (q7z X H s.heap) l qs->Paired (fun(kv:List Key×V) (r:Rw2)=>kv.1=r.1.map Sum.inl/\Dt H kv.2 r.2) (List.zipWith (fun(r:Rw2) (q:Prw)=>(r.1.map Sum.inl,q.x)) l qs) l:=by
    intro l qs pq
    induction pq with
    | nil=>exact .nil
    | cons r t ih=>exact .cons ⟨rfl,r.2.2.1⟩ ih
   exact key pq
end
def q8l(i j k:Nat)(ta:TA):TS:=fun D σ H=>ta σ H fun vs H1=>∃u v w,vs=[u,v,w]/\D.nx (((σ.set i (some u)).set j (some v)).set k (some w)) H1
theorem q6h{X:Cx}{i j k:Nat}{x y z:Str}{a b c:Expr}{ta:TA}{px py pz pt pos:Pos}{kt k2 pt2}(hc:X.calm=true)(hN:X.N.Nodup)(hi:X.N[i]?=some x)(hj:X.N[j]?=some y)(hk:X.N[k]?=some z)(hij:i≠j)(hik:i≠k)(hjk:j≠k)
  (hx:X.env.scope.names.lookup x=some .local) (hy:X.env.scope.names.lookup y=some .local) (hz:X.env.scope.names.lookup z=some .local) (ha:PA X [a,b,c] ta)
  (hw:swappedStores [.Tuple [.Name x px,.Name y py,.Name z pz] kt pt] (.Tuple [a,b,c] k2 pt2) X.env=pure (some [x,y,z]))
  (hs:swapsWithSole [.Tuple [.Name x px,.Name y py,.Name z pz] kt pt] (.Tuple [a,b,c] k2 pt2) pos.line X.env=pure false:=by rfl) :
  PS X (.Assign [.Tuple [.Name x px,.Name y py,.Name z pz] kt pt] (.Tuple [a,b,c] k2 pt2) pos) (q8l i j k ta):=by
 refine⟨?_⟩
 intro pins s σ H D I h
 rw [exec_Assign_arm]
 refine wpAny_bind (wpAny_standAt ?_)
 rw [hs]
 refine wpAny_bind (wpAny_pure ?_)
 rw [if_neg (by decide)]
 refine wpAny_bind (Tuple_ (thn (ha _ pins s σ H _ I h) fun us s1 ⟨vs,H1,I1,r1,q1⟩=>?_))
 obtain⟨u,v,w,e1,q1⟩:=q1
 subst e1
 obtain⟨u1,u2,u3,rfl,ru,rv,rw'⟩:∃u1 u2 u3,us=[u1,u2,u3]/\RelV u u1/\RelV v u2/\RelV w u3:=by
  cases r1 with
  | cons p q=>
   cases q with
   | cons p' q'=>
    cases q' with
    | cons p'' q''=>
     cases q''
     exact⟨_,_,_,rfl,p,p',p''⟩
 refine wpAny_newObj_type ?_ (by show 3<=sizeLine; decide)
 have I2:Inv X pins σ H1 {s1 with heap:=s1.heap.push {cls:=.type "tuple",data:=.seq [u1,u2,u3].toArray}}:=I1.kept (t':=s1.toks) fun b o e=>Heap.get?_push_of_some _ e
 rw [hw]
 refine wpAny_bind (wpAny_pure ?_)
 show wpAny (model X.prog X.w) X.A (do rule "assign.swapped-stores"; let items <- unpackItems (.ref s1.heap.objs.size) 3 none; assignInOrder [fun v=>bindName X.env z v,fun v=>bindName X.env y v,fun v=>bindName X.env x v] items.reverse; pure Flow.next) _ _ _
 refine wpAny_bind (wpAny_rule (wpAny_bind (unpackItems_tuple (items:=#[u1,u2,u3]) (I.ok.hd hc) (IsTup.new s1.heap _) fun h' hx'=>?_)))
 have I3:=I2.kept (h':=h') (t':=s1.toks) fun b o e=>hx' b o (Nat.ne_of_lt (Heap.lt_size e)) e
 show wpAny _ _ (assignInOrder [fun v=>bindName X.env z v,fun v=>bindName X.env y v,fun v=>bindName X.env x v] [u3,u2,u1] >>= fun _=>pure Flow.next) _ _ _
 refine wpAny_bind (assignInOrder_cons (wpAny_bindName (zb0 I3 hN hk (.inl hz) rw' (fun s2 I4=>?_) (.inr hz))))
 refine assignInOrder_cons (wpAny_bindName (zb0 I4 hN hj (.inl hy) rv (fun s3 I5=>?_) (.inr hy)))
 refine assignInOrder_cons (wpAny_bindName (zb0 I5 hN hi (.inl hx) ru (fun s4 I6=>assignInOrder_nil (wpAny_pure ?_)) (.inr hx)))
 rw [List.set_comm _ _ (Ne.symm hjk),List.set_comm _ _ (Ne.symm hik),List.set_comm _ _ (Ne.symm hij)] at I6
 exact⟨_,H1,I6,q1⟩
end L2
set_option Elab.async false
set_option linter.all false
set_option maxRecDepth 100000
namespace L2
open PySem PySem.Spec PyProof.Rows
structure LamD where
 qual:Str
 params:Arguments
 body:Expr
 scope:Scope
def qdk(D:LamD)(cl:List (Str×Addr))(f c':Addr):HO:=.ext fun h=>∃pm ctv,h.get? f=some (PySem.W.kla_obj "<lambda>" D.qual D.params D.body D.scope cl pm c' ctv)
section
variable{X:Cx}
end
def qa7(c:Addr)(o:Obj):HO:=.ext fun h=>h.get? c=some o
def qcf(cs:List Addr)(H H':Hp):Hp:=fun b=>if b∈cs then H b else H' b
def AreCells(cs:List Addr)(H:Hp):Prop:=∀c∈cs,∃o,H c=some (qa7 c o)
theorem AreCells.not{cs:List Addr}{H:Hp}(h:AreCells cs H){b:Addr}{u:HO}(e:H b=some u)(n:∀o,u≠qa7 b o):b∉cs:=fun hb=>by
 obtain⟨o,q⟩:=h b hb
 rw [e] at q
 cases q
 exact n o rfl
structure LamScope(ps fr:List Str)(cl:List (Str×Addr))(sc:Scope):Prop where
 kind:sc.kind=.function
 co:sc.isCoroutine=false
 gen:sc.isGenerator=false
 nd:(ps++fr).Nodup
 par:∀x∈ps,sc.names.lookup x=some .local
 free:∀x∈fr,sc.names.lookup x=some .free
 nocell:∀y∈sc.names,y.2≠.cell
 has:∀y∈sc.names,y.2=.free->∃c,cl.lookup y.1=some c
 inj:∀x y c,cl.lookup x=some c->cl.lookup y=some c->x=y
 look:∀x c,(x,c)∈cl->cl.lookup x=some c
def IsLam(H:Hp)(f:Addr):Prop:=∃D cl c',H f=some (qdk D cl f c')
theorem IsLam.at{X:Cx}{pins:List (Addr×Obj)}{σ : St}{H:Hp}{s:Shared}{f:Addr}(h:IsLam H f)(I:Inv X pins σ H s):PySem.W.FnAt f s.heap:=by
 obtain⟨D,cl,c',e⟩:=h
 obtain⟨⟨pm,ctv,q⟩,_⟩:=I.hok f _ e
 exact⟨_,_,_,_,q⟩
end L2
set_option Elab.async false
set_option linter.all false
set_option maxRecDepth 100000
namespace L2
open PySem PySem.Spec PyProof.Rows
end L2
set_option Elab.async false
set_option linter.all false
set_option maxRecDepth 100000
namespace L2
open PySem PySem.Spec PyProof.Rows PySem.W
section
variable{prog:Program}{w:World}{A:Around}{E:Value->Shared->Prop}{s:Shared}{a:Addr}
end
section
variable{X:Cx}{pins:List (Addr×Obj)}{σ : St}{H:Hp}{s:Shared}
structure Pkw where
 r:Addr
 k:Value
 u:Value
instance:Inhabited Pkw:=⟨⟨0,.none,.none⟩⟩
end
end L2
set_option Elab.async false
set_option linter.all false
set_option maxRecDepth 100000
namespace L2
open PySem PySem.Spec PyProof.Rows PySem.W
def FlyAt(h:Heap)(l:List PySem.Env)(x T:Addr)(C:Value):Prop:=(∃B:Heap,h.FunFrames B l)/\x∉frs l/\T∉frs l/\T≠x/\∃(oe:Obj) (vs:Array Value) (oT:Obj) (ts:Array Value) (a0:Value),h.get? x=some oe/\oe.cls=C/\vs[0]?=some a0/\oe.data=.fields vs/\vs[1]?=some (.ref T)/\h.get? T=some oT/\oT.data=.fields ts/\ts[3]?=some .none
theorem FlyAt.of{B h:Heap}{l:List PySem.Env}{x:Addr}{C a0:Value}(f:Heap.FlyingW B l x C a0 h):∃T,B.get? T=none/\FlyAt h l x T C:=by
 obtain⟨f1,f2,f3,oe,vs,T,oT,ts,he,⟨hc,h0⟩,hd,h1,hn,ne,hT,hdT,h3⟩:=f
 refine⟨T,hn,⟨B,f3⟩,fun z=>?_,fun z=>?_,ne,oe,vs,oT,ts,a0,he,hc,h0,hd,h1,hT,hdT,h3⟩
 ·obtain⟨_,o,ho,hnf⟩:=f3.mem z
  rw [he] at ho; cases ho
  exact hnf vs hd
 ·obtain⟨_,o,ho,hnf⟩:=f3.mem z
  rw [hT] at ho; cases ho
  exact hnf ts hdT
section
variable{P:Program}{w:World}{h h':Heap}{l:List PySem.Env}{x T:Addr}{H:Hp}
end
def CX1(P:Program)(w:World):CXT:=fun outer H s E e s'=>∃(x T C:Addr) (H':Hp),e=.ref x/\s'.os=s.os/\AllBare s'.gens/\Un (frs outer) [] H H' s.heap s'.heap/\HOk P w H' s'.heap/\FlyAt s'.heap outer x T (.ref C)/\s.heap.get? x=none/\s.heap.get? T=none/\H' x=none/\H' T=none/\E (.ref C) none H'
section
variable{P:Program}{w:World}{K:PySem.W.Frag}{mg:Str->Option Value}{base:Heap}{N:List Str}{qual:Str}{scope:Scope}{f:Addr}{cd:Value}{A:Around}{outer:List PySem.Env}{s₀:Shared}{H₀:Hp}{E:XK}
end
end L2
set_option Elab.async false
set_option linter.all false
set_option maxRecDepth 100000
namespace L2
open PySem PySem.Spec PyProof.Rows PySem.W
structure CalleeX(P:Program)(w:World)(K:PySem.W.Frag)(mg:Str->Option Value)(base:Heap)(x:Str)(ps:List Str)(k:Nat)(sp:Sp):Prop where
 ex:∃f fd,FnOk P w K mg base (CX1 P w) k f fd ps sp/\mg x=some (.ref f)/\PySem.W.keepIn K (.ref f)=true/\Binds K fd ps []
theorem CalleeX.mono{P:Program}{w:World}{K:PySem.W.Frag}{mg:Str->Option Value}{base:Heap}{x:Str}{ps:List Str}{j k:Nat}{sp:Sp}(h:CalleeX P w K mg base x ps j sp)(hk:j<=k):CalleeX P w K mg base x ps k sp:=by
 obtain⟨f,fd,a,b,c,d⟩:=h
 exact⟨f,fd,a.mono hk,b,c,d⟩
section
variable{P:Program}{w:World}{K:PySem.W.Frag}{mg:Str->Option Value}{base:Heap}
theorem Callee.x{x:Str}{ps:List Str}{k:Nat}{sp:Sp}(C:Callee P w K mg base x ps k sp):CalleeX P w K mg base x ps k sp:=by
 obtain⟨f,fd,F,a,b,c⟩:=C
 refine⟨f,fd,⟨F.len,fun A outer s H args us vs Q E hr e0 hb hv hs=>codeAny_mono (F.run A outer s H args us vs Q E hr e0 hb hv hs) fun r s' hq=>?_⟩,a,b,c⟩
 cases r with
 | error e=>exact False.elim hq
 | ok fl=>cases fl<;>exact hq
end
section
variable{X:Cx}{pins:List (Addr×Obj)}{σ : St}{H:Hp}{s:Shared}{h':Heap}{x T:Addr}
structure Strange(X:Cx)(pins:List (Addr×Obj))(x:Addr):Prop where
 new:X.s₀.heap.get? x=none
 loc:x≠X.env.locals
 cell:∀y c,X.env.cells.lookup y=some c->c≠x
 pin:∀p∈X.pn++pins,p.1≠x
theorem Inv.gone{i:Nat}{n:Str}{m:Str->Option Value}{v:Option Value}{t':Nat}(I:Inv X pins σ H s)(hN:X.N.Nodup)(hi:X.N[i]?=some n)(hn:Heap.Ns h' X.env.locals (fun y=>if y=n then v else m y))(hm:s.heap.Ns X.env.locals m)(hs:Heap.SameBut X.env.locals s.heap h') :
  Inv X pins (σ.set i none) H {s with heap:=h',toks:=t'}:=by
 obtain⟨m0,hn0,hl⟩:=I.loc
 have em:m0=m:=hn0.eq_nsMap.trans hm.eq_nsMap.symm
 subst em
 have cne:=I.cne
 have neL:∀b o,X.s₀.heap.get? b=some o->b≠X.env.locals:=fun b o e=>Nat.ne_of_lt (Nat.lt_of_lt_of_le (Heap.lt_size e) I.ok.above)
 refine⟨I.ok,I.os,I.bare,⟨fun b o e n hb hx=>(hs.2 b (neL b o e)).trans (I.base.keep b o e n hb hx),fun b o e n hb hx=>?_,I.base.free,fun b o e hx=>?_,I.base.tups,I.base.frzs,I.base.tbls⟩,⟨_,hn,fun j y v' e1 e2 e3=>?_⟩,fun y c e=>?_,I.free,I.freeC,fun p hp=>?_,fun b u e=>?_,by simpa using I.len⟩
 ·obtain⟨sl,q⟩:=I.base.slot b o e n hb hx
  exact⟨sl,(hs.2 b (neL b o e)).trans q⟩
 ·obtain⟨o',q⟩:=I.base.there b o e hx
  exact⟨o',(hs.2 b (neL b o e)).trans q⟩
 ·by_cases hj:j=i
  ·subst hj
   have hiσ : j < σ.length:=by rw [I.len]; exact(List.getElem?_eq_some_iff.mp hi).1
   rw [List.getElem?_set_self hiσ] at e2
   cases e2
  ·rw [List.getElem?_set_ne (Ne.symm hj)] at e2
   obtain⟨u,r,q⟩:=hl j y v' e1 e2 e3
   refine⟨u,r,?_⟩
   rcases q with⟨k,e⟩ | ⟨k,c,e,z⟩
   ·refine .inl ⟨k,?_⟩
    have:y≠n:=fun e=>hj (zpp hN e1 (e ▸ hi))
    simp[this,e]
   ·exact .inr ⟨k,c,e,z.sameBut hs (cne y c e)⟩
 ·obtain⟨w',z⟩:=I.cell y c e
  exact⟨w',z.sameBut hs (cne y c e)⟩
 ·obtain⟨e,n,ne,nf,d⟩:=I.pin p hp
  exact⟨(hs.2 p.1 ne).trans e,n,ne,nf,d⟩
 ·refine(I.hok b u e).stay (fun c w' hc q=>(hs.2 c ?_).trans q) (fun _ q=>q) fun _ _ q=>q
  rintro rfl
  rcases hc with rfl | hc
  ·rw [I.free] at e; cases e
  ·rw [I.free] at hc; cases hc
end
end L2
set_option Elab.async false
set_option linter.all false
set_option maxRecDepth 100000
namespace L2
open PySem PySem.Spec PyProof.Rows PySem.W
section
variable{X:Cx}{pins:List (Addr×Obj)}{σ : St}{H:Hp}{s:Shared}{e:Value}
end
end L2
set_option Elab.async false
set_option linter.all false
set_option maxRecDepth 100000
namespace L2
open PySem PySem.Spec PyProof.Rows PySem.W PySem.Builtin PySem.Builtin.ObjectAttr PySem.Builtin.Getset_descriptor PySem.Calls
section
variable{prog:Program}{w:World}{A:Around}{E:Value->Shared->Prop}{s:Shared}{K:PySem.W.Frag}{x C:Addr}
structure ExcC(K:PySem.W.Frag)(C:Addr):Prop where
 cl:(clsIn K C).isSome=true
 hb:subIn K (.ref C) (.type "BaseException")=some true
 hga:findIn K (.ref C) "__getattribute__" = some (some (.builtin "BaseException.__getattribute__"))
 hgh:findIn K (.ref C) "__getattr__" = some none
 ha:findIn K (.ref C) "__class__" = some (some (.builtin "object.__class__"))
 hn:specialIn K (.builtin "object.__class__") "__get__" = some (some (.builtin "getset_descriptor.__get__"))
 htk:takesIn K (.builtin "object.__class__")=some true
 hm:mroIn K C (.type "object")=some true
end
section
variable{X:Cx}
end
section
variable{P:Program}{w:World}{K:PySem.W.Frag}{mg:Str->Option Value}{base:Heap}{N:List Str}{qual:Str}{scope:Scope}{f:Addr}{cd:Value}{A:Around}{outer:List PySem.Env}{s₀:Shared}{H₀:Hp}{E:XK}
end
end L2
set_option Elab.async false
set_option linter.all false
set_option maxRecDepth 100000
namespace L2
open PySem PySem.Spec PyProof.Rows PySem.W
def qcc(s:Stmt)(j:Nat):Stmt:=match s with
 | .ClassDef _ _ _ b _ _ _ _ _ _ _=>(b[j]?).getD s
 | _=>s
structure CalleeM(P:Program)(w:World)(K:PySem.W.Frag)(mg:Str->Option Value)(base:Heap)(C:Addr)(m:Str)(ps:List Str)(k:Nat)(sp:Sp):Prop where
 ex:∃f fd,FnOk P w K mg base CX0 k f fd ps sp/\Meth K C m f/\Binds K fd ps []
structure CalleeI(P:Program)(w:World)(K:PySem.W.Frag)(mg:Str->Option Value)(base:Heap)(C:Addr)(ps:List Str)(k:Nat)(sp:Sp):Prop where
 ex:∃f fd,FnOk P w K mg base CX0 k f fd ps sp/\Mk K C f/\Binds K fd ps []
section
variable{X:Cx}{C:Addr}{m x:Str}{ps:List Str}{k j:Nat}{sp:Sp}{o e:Expr}{es:List Expr}{ta:TE}{t:TA}{p apos pos:Pos}{pl:Sem Bool}
theorem qbs(M:CalleeI X.prog X.w X.K X.mg X.base C ps k sp)(hr:Room j X.A)(hk:k+1<=j)(hg:Gl X x)(hm:X.mg x=some (.ref C))(ha:PA X (e::es) t) (hdb:(x == ("__debug__" : Str))=false:=by decide) (hst:z5r (e::es)=true:=by rfl) :
  PE X (.Call (.Name x p) (e::es) [] pos) (q5y C sp [] E0 t):=by
 obtain⟨f,fd,F,hM,hb⟩:=M
 have hst':=hst
 rw [z5r,Bool.and_eq_true,Bool.not_eq_true'] at hst'
 exact q6l hM F (hr.mono hk) hg hm hb .nil (fun _ _ _ _ _ _ _ z=>z.elim) ha hdb (z2j hst'.1) (z5q hst'.2)
end
end L2
set_option Elab.async false
set_option linter.all false
set_option maxRecDepth 100000
namespace L2
open PySem PySem.Spec PyProof.Rows PySem.W
section
variable{P:Program}{w:World}{K:PySem.W.Frag}{mg:Str->Option Value}{base:Heap}{k:Nat}{ps fr N:List Str}{D:LamD}{cl:List (Str×Addr)}{f c':Addr}{A:Around}{outer:List PySem.Env}{s:Shared}{H:Hp}{us:List Value}{vs ws:List V}{Q:VK}{E:XK}
end
end L2
set_option Elab.async false
set_option linter.all false
set_option maxRecDepth 100000
namespace L2
open PySem PySem.Spec PyProof.Rows PySem.W
structure RoomH(k:Nat)(A:Around):Prop where
 dp:A.depth+3 * k+5 < recursionLimit
 un:A.units+16 * k+200 < cLine
theorem Room.h{k:Nat}{A:Around}(r:Room k A):RoomH k A:=⟨r.dp,r.un⟩
theorem RoomH.mono{j k:Nat}{A:Around}(r:RoomH k A)(h:j<=k):RoomH j A:=⟨by have:=r.dp; omega,by have:=r.un; omega⟩
structure FnOkH(P:Program)(w:World)(K:PySem.W.Frag)(mg:Str->Option Value)(base:Heap)(k:Nat)(f:Addr)(fd:FuncData)(ps:List Str)(sp:Sp):Prop where
 len:∀vs H Q E,sp vs H Q E->vs.length=ps.length
 run:∀(A:Around) (outer:List PySem.Env) (s:Shared) (H:Hp) (args:Args) (us:List Value) (vs:List V) (Q:VK) (E:XK),RoomH k A->Env0 P w K mg base A outer s H->BindsTo s fd args (ps.zip us)->Vals vs us->sp vs H Q E->
  codeAny (model P w) A (.call (.ref f) args) (CR CX0 outer P w H s Q E) s
end L2
set_option Elab.async false
set_option linter.all false
set_option maxRecDepth 100000
namespace L2
open PySem PySem.Spec PyProof.Rows PySem.W
structure CalleeH(P:Program)(w:World)(K:PySem.W.Frag)(mg:Str->Option Value)(base:Heap)(x:Str)(ps:List Str)(k:Nat)(sp:Sp):Prop where
 ex:∃f fd,FnOkH P w K mg base k f fd ps sp/\mg x=some (.ref f)/\PySem.W.keepIn K (.ref f)=true/\Binds K fd ps []
end L2
set_option Elab.async false
set_option linter.all false
set_option maxRecDepth 100000
namespace L2
open PySem PySem.Spec PyProof.Rows PySem.W
end L2
set_option Elab.async false
set_option linter.all false
set_option maxRecDepth 100000
namespace L2
open PySem PySem.Spec PyProof.Rows PySem.W
end L2
set_option Elab.async false
set_option linter.all false
set_option maxRecDepth 100000
namespace L2
open PySem PySem.Spec PyProof.Rows PySem.W
structure CalleeMX(P:Program)(w:World)(K:PySem.W.Frag)(mg:Str->Option Value)(base:Heap)(C:Addr)(m:Str)(ps:List Str)(k:Nat)(sp:Sp):Prop where
 ex:∃f fd,FnOk P w K mg base (CX1 P w) k f fd ps sp/\Meth K C m f/\Binds K fd ps []
structure CalleeIX(P:Program)(w:World)(K:PySem.W.Frag)(mg:Str->Option Value)(base:Heap)(C:Addr)(ps:List Str)(k:Nat)(sp:Sp):Prop where
 ex:∃f fd,FnOk P w K mg base (CX1 P w) k f fd ps sp/\Mk K C f/\Binds K fd ps []
section
variable{X:Cx}{C:Addr}{m x:Str}{ps:List Str}{k j:Nat}{sp:Sp}{o e:Expr}{es:List Expr}{ta:TE}{t:TA}{p apos pos:Pos}{pl:Sem Bool}{E:XK}
end
end L2
set_option Elab.async false
set_option linter.all false
set_option maxRecDepth 100000
namespace L2
open PySem PySem.Spec PyProof.Rows PySem.W
end L2
set_option Elab.async false
set_option linter.all false
set_option maxRecDepth 100000
set_option Elab.async false
set_option linter.all false
set_option maxRecDepth 100000
namespace L2
open PySem PySem.Spec PyProof.Rows PySem.W
abbrev q08(d:Addr)(i n ep:Nat):Obj:={cls:=.type "dict_keyiterator",data:=.fields #[.ref d,.int i 0,.int n 0,.int ep 0]}
section
variable{prog:Program}{w:World}{A:Around}{E:Value->Shared->Prop}{s:Shared}{d I:Addr}{es:Array DictEntry}{ep i:Nat}{o:Obj}
set_option maxHeartbeats 4000000 in
theorem zga{Q:Option Value->Shared->Prop}(hh:A.handled=none)(eI:s.heap.get? I=some (q08 d i es.size ep))(e:s.heap.get? d=some o)(dd:o.data=.dict es ep)
  (q1:∀h' en,es[i]?=some en->Heap.SameBut I s.heap h'->h'.get? I=some (q08 d (i+1) es.size ep)->Q (some en.key) {s with heap:=h'})
  (q2:∀h',es[i]?=none->Heap.ExtBut I s.heap h'->Q none {s with heap:=h'}):wpAny (model prog w) A (pyNext (.ref I)) Q E s:=by
 have hT:s.TypeIs (.ref I) "dict_keyiterator":=⟨_,eI,rfl⟩
 unfold pyNext
 refine wpAny_bind (wpAny_attempt (wpAny_callSpecial?_slot (name:="__next__") hT F.slot_dict_keyiterator_next (wpAny_call_entry F.slot_dict_keyiterator_next hT F.entry_dict_keyiterator_next ?_ (F.args_dict_keyiterator_next_1 _))))
 unfold Builtin.«dict_keyiterator.__next__»
 wp_walk using wpAny_dictEntries e dd,wpAny_dictEpoch e dd
 rw [if_neg (show ¬ ((i:Int) < 0) by omega),show((i:Int)).toNat=i from rfl]
 cases ei:es[i]? with
 | some en=>
  wp_walk
  refine⟨_,rfl,wpAny_pure ?_⟩
  rw [if_neg (show ¬ (Builtin.Dict_items.ownsTuple ((Manifest.find? "dict_keyiterator").elim "dict_keyiterator" fun x=>x.tpName)=true) by decide+kernel),if_neg]
  ·exact q1 _ en ei (Heap.SameBut.update ..) (Heap.get?_update_self _ eI rfl)
  ·decide+kernel
 | none=>
  wp_walk
  rw [raiseNew]
  wp_walk
  refine wpAny_of_eq isSubtype_stop (wpAny_pure ?_)
  exact q2 _ ei (((Heap.SameBut.update ..).extBut.push _).push _)
set_option maxHeartbeats 4000000 in
theorem zml{Q:Value->Shared->Prop}(lo:(d == sysModules)=false)(e:s.heap.get? d=some o)(x:o.ExactDict)(dd:o.data=.dict es ep)(q:Q (.ref s.heap.objs.size) {s with heap:=s.heap.push (q08 d 0 es.size ep)}):wpAny (model prog w) A (pyIter (.ref d)) Q E s:=by
 have hT:s.TypeIs (.ref d) "dict":=⟨_,e,x.1⟩
 refine wpAny_pyIter_slot hT F.slot_dict_iter (wpAny_call_entry F.slot_dict_iter hT F.entry_dict_iter ?_ (F.args_dict_iter_1 _))
 unfold Builtin.«dict.__iter__»
 wp_walk using wpAny_dictEntries e dd,wpAny_dictEpoch e dd
 rw [x.1,if_neg (by decide)]
 wp_walk using wpAny_dictEntries e dd,wpAny_dictEpoch e dd
 exact⟨_,rfl,"dict_keyiterator",_,⟨_,Heap.get?_push_size _ rfl,rfl⟩,F.slot_dict_keyiterator_next.lookup,q⟩
theorem zwd(hh:A.handled=none)(hne:d≠I):Walks prog w A I [I,d] [I] es.size (fun i v=>∃en,es[i]?=some en/\v=en.key) (fun i h=>h.get? I=some (q08 d i es.size ep)/\∃o,h.get? d=some o/\o.data=.dict es ep) where
 sub:=fun b hb=>by simp at hb; simp[hb]
 frame:=fun _ _ _ st hk=>⟨hk I (by simp) _ st.1,let ⟨o,e,dd⟩:=st.2; ⟨o,hk d (by simp) o e,dd⟩⟩
 item:=fun i s Q E hi st hQ=>by
  obtain⟨eI,o,e,dd⟩:=st
  refine zga hh eI e dd (fun h' en hen hs' hit'=>?_) (fun h' hn _=>?_)
  ·exact hQ en.key h' s.toks ⟨en,hen,rfl⟩ ⟨hit',o,(hs'.2 d hne).trans e,dd⟩ fun b o hb e=>(hs'.2 b (fun h=>hb (by simp[h]))).trans e
  ·rw [Array.getElem?_eq_getElem hi] at hn
   cases hn
 done:=fun s Q E st hQ=>by
  obtain⟨eI,o,e,dd⟩:=st
  refine zga hh eI e dd (fun h' en hen _ _=>?_) (fun h' _ he'=>hQ h' s.toks fun b o hb e=>he' b o (fun h=>hb (by simp[h])) e)
  rw [Array.getElem?_eq_none (Nat.le_refl _)] at hen
  cases hen
 self:=fun _ s Q E st hQ=>wpAny_pyIter_keyiter ⟨_,st.1,rfl,rfl⟩ hQ
theorem q2d(lo:(d == sysModules)=false):KdlSrc prog w "dict" d d es.size (fun i v=>∃en,es[i]?=some en/\v=en.key) (fun h=>∃o,h.get? d=some o/\o.ExactDict/\o.data=.dict es ep) where
 type:=fun _ ⟨o,e,x,_⟩=>⟨o,e,x.1⟩
 there:=fun _ ⟨o,e,_⟩=>⟨Heap.lt_size e,Heap.lt_size e⟩
 keep:=fun _ _ ⟨o,e,r⟩ hk=>⟨o,hk d (.inl rfl) o e,r⟩
 notList:=by decide
 notTuple:=by decide
 hint:=fun _ _ _ _ ⟨o,e,x,_⟩ hq=>kdl_hint_dict ⟨o,e,x.1⟩ hq
 iter:=fun _ s hh ⟨o,e,x,dd⟩=>⟨_,_,(fun _ _ hq=>zml lo e x dd hq),zwd (ep:=ep) hh (Nat.ne_of_lt (Heap.lt_size e)),⟨Heap.get?_push_size _ rfl,o,Heap.get?_push_of_some _ e,dd⟩⟩
end
end L2
set_option Elab.async false
set_option linter.all false
set_option maxRecDepth 100000
namespace L2
open PySem PySem.Spec PyProof.Rows PySem.W
def Itd(d:Addr)(o:Obj)(u:HO)(ks:List V):It:=⟨fun i H=>H d=some (.frz o u)/\i < ks.length,fun i H x H'=>H'=H/\ks[i]?=some x,fun i H=>H d=some (.frz o u)/\ks.length<=i⟩
section
variable{X:Cx}{pins:List (Addr×Obj)}{σ : St}{H:Hp}{s:Shared}
theorem Inv.freeze{d:Addr}{o:Obj}{u:HO}(I:Inv X pins σ H s)(e:H d=some u)(ho:s.heap.get? d=some o)(n1:∀xs,u≠.tup xs)(n2:∀x,u≠.own x)(n3:∀o v,u≠.frz o v)(n4:∀ps,u≠.tbl ps):Inv X pins σ (upd H d (.frz o u)) s:=by
 have out:∀{b:Addr} {v:HO},H b=some v->v≠u->(upd H d (.frz o u)) b=some v:=fun {b v} q n=>by rw [z0o (zrl q e n)]; exact q
 have hok:HOk X.prog X.w (upd H d (.frz o u)) s.heap:=fun a v q=>by
  by_cases ha:a=d
  ·subst ha
   rw [z02] at q
   cases q
   exact⟨ho,(I.hok a u e).stay (fun _ _ _ q=>q) (fun b q=>out q (Ne.symm (n2 _))) fun b xs q=>out q (Ne.symm (n1 _))⟩
  ·rw [z0o ha] at q
   exact(I.hok a v q).stay (fun _ _ _ q=>q) (fun b q=>out q (Ne.symm (n2 _))) fun b xs q=>out q (Ne.symm (n1 _))
 obtain⟨h,gg,dr,tk,os⟩:=s
 refine I.un (h':=h) (t':=tk) ⟨fun b ob q n _ _=>q,fun b ob q n _ _=>⟨ob.slots,q⟩,fun b ob q n _=>?_,fun b ob q _=>⟨ob,q⟩,fun b xs q=>out q (Ne.symm (n1 _)),fun b ob v q=>out q (Ne.symm (n3 _ _)),fun b ps q=>⟨#[],by rw [out q (Ne.symm (n4 _))]; simp⟩⟩ hok
 rw [z0o (Ne.symm (z2n e n))]
 exact n
theorem zqv{P:Program}{w:World}{K:PySem.W.Frag}{tg:Expr}{d it:Addr}{o:Obj}{u:HO}{ks:List V}{es:Array DictEntry}{ep:Nat}(od:o.data=.dict es ep)(hk:Paired (fun(v:V) (en:DictEntry)=>RelV v en.key) ks es.toList):Turn P w K tg (Itd d o u ks) [it] it (fun i h=>h.get? it=some (q08 d i es.size ep)) where
 mem:=by simp
 obj:=fun i h st b hb=>by
  have e:b=it:=by simpa using hb
  subst e
  exact⟨_,st,fun v z=>by cases z⟩
 keep:=fun i h h' st k=>k it (by simp) _ st
 item:=by
  intro X hP hw hK hc i pins s σ H E I hf st hg
  subst hP hw hK
  obtain⟨hd,hi⟩:=hg
  obtain⟨ho,_⟩:=(show ObjOk X.prog X.w H s.heap d (.frz o u) from I.hok d _ hd)
  obtain⟨f0,f1,f2,f3,f4,f5⟩:=hf it (by simp)
  have hl:ks.length=es.size:=by rw [hk.length]; simp
  refine zga (I.ok.hd hc) st ho od (fun h' en hen sb st'=>?_) (fun h' hn _=>?_)
  ·have I1:Inv X pins σ H {s with heap:=h'}:=I.turned (t':=s.toks) (fun b ob hb e=>(sb.2 b hb).trans e) f0 f1 f3 f4 f5
   obtain⟨v,hv,rv⟩:∃v,ks[i]?=some v/\RelV v en.key:=by
    obtain⟨v,hv⟩:∃v,ks[i]?=some v:=⟨ks[i],List.getElem?_eq_getElem hi⟩
    exact⟨v,hv,(zaf hk).2 i v en hv (by rw [Array.getElem?_toList]; exact hen)⟩
   exact⟨_,rfl,q3z (s:={s with heap:=h'}) st' rfl rfl (by decide) ⟨v,H,I1,rv,⟨rfl,hv⟩,st',fun b hb=>(hf b hb).1⟩⟩
  ·rw [Array.getElem?_eq_getElem (by omega)] at hn
   cases hn
 done:=by
  intro X hP hw hK hc i pins s σ H E I hf st hg
  subst hP hw hK
  obtain⟨hd,hi⟩:=hg
  obtain⟨ho,_⟩:=(show ObjOk X.prog X.w H s.heap d (.frz o u) from I.hok d _ hd)
  obtain⟨f0,f1,f2,f3,f4,f5⟩:=hf it (by simp)
  have hl:ks.length=es.size:=by rw [hk.length]; simp
  refine zga (I.ok.hd hc) st ho od (fun h' en hen sb st'=>?_) (fun h' hn eb=>?_)
  ·rw [Array.getElem?_eq_none (by omega)] at hen
   cases hen
  ·exact⟨rfl,I.turned (t':=s.toks) (fun b o hb e=>eb b o hb e) f0 f1 f3 f4 f5⟩
 self:=fun _ _ _ _ _ st h=>wpAny_pyIter_keyiter ⟨_,st,rfl,rfl⟩ h
def q0k(tl:TE):TI:=fun σ H R=>tl σ H fun x H1=>∃d kvs,x=.ref d/\Rd H1 d (.dK kvs)/\∀o,R (Itd d o (.dK kvs) (kvs.map fun kv=>kV kv.1)) (upd H1 d (.frz o (.dK kvs)))
def q5h(tl:TE):TI:=fun σ H R=>tl σ H fun x H1=>∃d kvs,x=.ref d/\Rd H1 d (.dT kvs)/\∀(o:Obj) (as:List Addr),Paired (fun(kv:List Key×V) (a:Addr)=>H1 a=some (.tup (kv.1.map kV))) kvs as->R (Itd d o (.dT kvs) (as.map V.ref)) (upd H1 d (.frz o (.dT kvs)))
theorem zhw{prog:Program}{w:World}:∀{es:List DictEntry} {vs:List (Key×Value)} {kvs:List (Key×V)},Pairs (z1l prog w) es vs->KV kvs vs->Paired (fun(v:V) (en:DictEntry)=>RelV v en.key) (kvs.map fun kv=>kV kv.1) es
 | [],_,_,.nil,.nil=>.nil
 | e::es,v::vs,kv::kvs,.cons h _ t,.cons r rt=>.cons (by
   obtain⟨e1,_⟩:=r
   show RelV (kV kv.1) e.key
   rcases z3j (show zty v.1 e.key=true from h) with⟨i,t,e2,e3⟩ | ⟨x,t,e2,e3⟩
   ·rw [e1,e2,e3]; exact⟨_,rfl⟩
   ·rw [e1,e2,e3]; exact⟨_,rfl⟩) (zhw t rt)
theorem Rd.frozen{d:Addr}{u:HO}{o:Obj}{P:Program}{w:World}(r:Rd H d u)(x:HOk P w H s.heap)(ho:s.heap.get? d=some o):H d=some u\/upd H d (.frz o u)=H:=by
 rcases r with r | ⟨o',r⟩
 ·exact .inl r
 ·obtain⟨e,_⟩:=(show ObjOk P w H s.heap d (.frz o' u) from x d _ r)
  rw [ho] at e
  cases e
  refine .inr (funext fun b=>?_)
  by_cases hb:b=d
  ·rw [hb,z02,r]
  ·rw [z0o hb]
theorem Inv.frozen{d:Addr}{o:Obj}{u:HO}(I:Inv X pins σ H s)(r:Rd H d u)(ho:s.heap.get? d=some o)(n1:∀xs,u≠.tup xs)(n2:∀x,u≠.own x)(n3:∀o v,u≠.frz o v)(n4:∀ps,u≠.tbl ps):Inv X pins σ (upd H d (.frz o u)) s:=by
 rcases r.frozen I.hok ho with e | e
 ·exact I.freeze e ho n1 n2 n3 n4
 ·rw [e]; exact I
theorem zpj{tg l:Expr}{tl:TE}(hl:PE X l tl):PI X tg l (q0k tl):=by
 refine⟨?_⟩
 intro pins s σ H R I h
 refine thn (hl pins s σ H _ I h) fun v s1 ⟨x,H1,I1,r1,q1⟩=>?_
 obtain⟨d,kvs,e,hr,q⟩:=q1
 subst e
 cases r1
 obtain⟨hz,lo,vs,rv,o,es,ep,ho,hx,hd,hk,hp,hn⟩:=(show ObjOk X.prog X.w H1 s1.heap d (.dK kvs) from hr.ok I1.hok)
 have I2:=I1.frozen hr ho (by intro xs z; cases z) (by intro xs z; cases z) (by intro xs y z; cases z) (by intro xs z; cases z)
 refine zml lo ho hx hd ?_
 refine⟨s1.heap.objs.size,[s1.heap.objs.size],_,_,_,rfl,I2.kept (t':=s1.toks) fun b o e=>Heap.get?_push_of_some _ e,zqv (o:=o) (u:=.dK kvs) hd (zhw hp rv),Heap.get?_push_size _ rfl,fun b hb=>?_,q o⟩
 have e:b=s1.heap.objs.size:=by simpa using hb
 subst e
 exact I1.fpOk (Nat.le_refl _) (I2.hok.fresh (Nat.le_refl _))
theorem q5b{xs:List (List Key×Addr×Value)}{kvs:List (List Key×V)}:∀{kvs:List (List Key×V)} {xs:List (List Key×Addr×Value)},Paired (fun(p:List Key×V) (q:List Key×Addr×Value)=>p.1=q.1/\H q.2.1=some (.tup (p.1.map kV))/\RelV p.2 q.2.2) kvs xs->
  Paired (fun(kv:List Key×V) (a:Addr)=>H a=some (.tup (kv.1.map kV))) kvs (xs.map (·.2.1))/\Paired (fun(v:V) (en:DictEntry)=>RelV v en.key) ((xs.map (·.2.1)).map V.ref) (xs.map (entryOfKey (tupleKind (z1l X.prog X.w))))
 | [],_,.nil=>⟨.nil,.nil⟩
 | _::_,_::_,.cons r t=>let ⟨a,b⟩:=q5b (xs:=[]) (kvs:=[]) t; ⟨.cons r.2.1 a,.cons rfl b⟩
theorem q33{tg l:Expr}{tl:TE}(hl:PE X l tl):PI X tg l (q5h tl):=by
 refine⟨?_⟩
 intro pins s σ H R I h
 refine thn (hl pins s σ H _ I h) fun v s1 ⟨x,H1,I1,r1,q1⟩=>?_
 obtain⟨d,kvs,e,hr,q⟩:=q1
 subst e
 cases r1
 obtain⟨hz,lo,xs,rx,o,es,ep,ho,hx,hd,hes,hn⟩:=(show ObjOk X.prog X.w H1 s1.heap d (.dT kvs) from hr.ok I1.hok)
 have I2:=I1.frozen hr ho (by intro xs z; cases z) (by intro xs z; cases z) (by intro xs y z; cases z) (by intro xs z; cases z)
 obtain⟨ka,kb⟩:=q5b (X:=X) (xs:=[]) (kvs:=[]) rx
 refine zml lo ho hx hd ?_
 refine⟨s1.heap.objs.size,[s1.heap.objs.size],_,_,_,rfl,I2.kept (t':=s1.toks) fun b o e=>Heap.get?_push_of_some _ e,zqv (o:=o) (u:=.dT kvs) hd (hes ▸ kb),Heap.get?_push_size _ rfl,fun b hb=>?_,q o _ ka⟩
 have e:b=s1.heap.objs.size:=by simpa using hb
 subst e
 exact I1.fpOk (Nat.le_refl _) (I2.hok.fresh (Nat.le_refl _))
end
section
variable{d:Addr}{o:Obj}{u:HO}{ks:List V}{g:TG}{tb:TS}{D:Ends}{σ : St}{H:Hp}{tt:TT}{te:TE}{Q:VK}
theorem zvs(Pv:Nat->St->Hp->Prop)(h0:Pv 0 σ H)(hl:∀i σ H,i<=ks.length->Pv i σ H->H d=some (.frz o u))
  (hs:∀i x σ H,ks[i]?=some x->Pv i σ H->g x σ H fun σ2 H2=>tb {D with nx:=Pv (i+1),ct:=Pv (i+1),bk:=D.nx} σ2 H2) (hd:∀ σ H,Pv ks.length σ H->D.nx σ H) :
  ∃W:Nat->Nat->St->Hp->Prop,(∃m,W 0 m σ H)/\∀i m σ H,W i m σ H->
   ((Itd d o u ks).stop i H/\D.nx σ H)\/((Itd d o u ks).go i H/\∃N:St->Hp->Prop,(∀ σ' H',N σ' H'->∃m',m' < m/\W (i+1) m' σ' H')/\∀x H',(Itd d o u ks).yld i H x H'->g x σ H' fun σ2 H2=>tb {D with nx:=N,ct:=N,bk:=D.nx} σ2 H2):=by
 refine⟨fun i m σ H=>m=ks.length - i/\i<=ks.length/\Pv i σ H,⟨ks.length,by simp,Nat.zero_le _,h0⟩,?_⟩
 rintro i m σ H ⟨rfl,hi,p⟩
 have q:=hl i σ H hi p
 by_cases hlt:i < ks.length
 ·refine .inr ⟨⟨q,hlt⟩,Pv (i+1),fun σ' H' p'=>⟨ks.length - (i+1),by omega,rfl,hlt,p'⟩,fun x H' y=>?_⟩
  obtain⟨e,y⟩:=y
  subst e
  exact hs i x σ _ y p
 ·have e:i=ks.length:=by omega
  subst e
  exact .inl ⟨⟨q,Nat.le_refl _⟩,hd σ H p⟩
theorem zso(Pv:Nat->List V->St->Hp->Prop)(h0:Pv 0 [] σ H)(hz:ks.length < sizeLine)(hy:∀i ys σ H,Pv i ys σ H->ys.length<=i)(hl:∀i ys σ H,i<=ks.length->Pv i ys σ H->H d=some (.frz o u))
  (hs:∀i ys x σ H,ks[i]?=some x->Pv i ys σ H->g x σ H fun σ2 H2=>tt σ2 H2 fun b H3=>if b=true then te σ2 H3 (fun v H4=>Pv (i+1) (ys++[v]) σ2 H4) else Pv (i+1) ys σ2 H3)
  (hd:∀ys σ H,Pv ks.length ys σ H->∀p,H p=none->Q (.ref p) (upd H p (.lst ys))):zfm (Itd d o u ks) g tt te Q σ H:=by
 refine⟨fun i m ys σ H=>m=ks.length - i/\i<=ks.length/\Pv i ys σ H,⟨ks.length,by simp,Nat.zero_le _,h0⟩,?_⟩
 rintro i m ys σ H ⟨rfl,hi,p⟩
 have q:=hl i ys σ H hi p
 have hyl:=hy i ys σ H p
 by_cases hlt:i < ks.length
 ·refine .inr ⟨⟨q,hlt⟩,by omega,Pv (i+1),fun ys' σ' H' p'=>⟨ks.length - (i+1),by omega,rfl,hlt,p'⟩,fun x H' y=>?_⟩
  obtain⟨e,y⟩:=y
  subst e
  exact hs i ys x σ _ y p
 ·have e:i=ks.length:=by omega
  subst e
  exact .inl ⟨⟨q,Nat.le_refl _⟩,by omega,hd ys σ H p⟩
end
end L2
set_option Elab.async false
set_option linter.all false
set_option maxRecDepth 100000
namespace L2
open PySem PySem.Spec PyProof.Rows PySem.W
theorem q01:∀a b:List Int,a≠b->ltI a b=true\/ltI b a=true
 | [],[],h=>absurd rfl h
 | [],_::_,_=>.inl rfl
 | _::_,[],_=>.inr rfl
 | x::a,y::b,h=>by
  unfold ltI
  by_cases e:x=y
  ·subst e
   simp only[if_pos]
   exact q01 a b fun z=>h (by rw [z])
  ·rw [if_neg e,if_neg (Ne.symm e)]
   simp only[decide_eq_true_eq]
   omega
theorem zm5:∀{a b c:List Int},ltI a b=true->ltI b c=true->ltI a c=true
 | [],_::_,_::_,_,_=>rfl
 | [],[],_,h,_=>by simp[ltI] at h
 | _,_::_,[],_,h=>by simp[ltI] at h
 | _::_,[],_,h,_=>by simp[ltI] at h
 | x::a,y::b,z::c,h1,h2=>by
  unfold ltI at h1 h2 |-
  by_cases e1:x=y
  ·subst e1
   rw [if_pos rfl] at h1
   by_cases e2:x=z
   ·subst e2
    rw [if_pos rfl] at h2 |-
    exact zm5 h1 h2
   ·rw [if_neg e2] at h2 |-
    exact h2
  ·rw [if_neg e1] at h1
   have h1':=of_decide_eq_true h1
   by_cases e2:y=z
   ·subst e2
    rw [if_neg e1]
    exact h1
   ·rw [if_neg e2] at h2
    have h2':=of_decide_eq_true h2
    rw [if_neg (by omega)]
    exact decide_eq_true (by omega)
theorem zvo{α : Type}(x:List Int×α):∀z:List (List Int×α),z.Pairwise (fun p q=>ltI p.1 q.1=true)->(∀y∈z,y.1≠x.1)->∃z':List (List Int×α),z'.Perm (x::z)/\z'.Pairwise (fun p q=>ltI p.1 q.1=true)
 | [],_,_=>⟨[x],.refl _,List.pairwise_singleton _ _⟩
 | y::z,h,n=>by
  obtain⟨h1,h2⟩:=List.pairwise_cons.mp h
  rcases q01 x.1 y.1 (Ne.symm (n y (.head _))) with c | c
  ·exact⟨x::y::z,.refl _,List.pairwise_cons.mpr ⟨fun w hw=>by
    rcases List.mem_cons.mp hw with rfl | hw
    ·exact c
    ·exact zm5 c (h1 w hw),h⟩⟩
  ·obtain⟨z',p,r⟩:=zvo x z h2 fun w hw=>n w (.tail _ hw)
   refine⟨y::z',(p.cons y).trans (.swap ..),List.pairwise_cons.mpr ⟨fun w hw=>?_,r⟩⟩
   rcases List.mem_cons.mp (p.mem_iff.mp hw) with rfl | hw
   ·exact c
   ·exact h1 w hw
theorem q0u{α : Type}:∀l:List (List Int×α),(l.map (·.1)).Nodup->∃z:List (List Int×α),z.Perm l/\z.Pairwise (fun p q=>ltI p.1 q.1=true)
 | [],_=>⟨[],.refl _,.nil⟩
 | x::l,h=>by
  obtain⟨h1,h2⟩:=List.nodup_cons.mp h
  obtain⟨z,p,r⟩:=q0u l h2
  obtain⟨z',p',r'⟩:=zvo x z r fun y hy e=>h1 (List.mem_map.mpr ⟨y,p.mem_iff.mp hy,e⟩)
  exact⟨z',p'.trans (p.cons x),r'⟩
section
variable{prog:Program}{w:World}{A:Around}{E:Value->Shared->Prop}{s:Shared}{d:Addr}{es:Array DictEntry}{ep:Nat}{o:Obj}
theorem zjg{Q:List Value->Shared->Prop}(hh:A.handled=none)(lo:(d == sysModules)=false)(e:s.heap.get? d=some o)(x:o.ExactDict)(dd:o.data=.dict es ep)(hn:es.size<=sizeLine)
  (q:∀(h':Heap) (tk:Nat),s.heap.objs.size<=h'.objs.size->(∀b u,s.heap.get? b=some u->h'.get? b=some u)->Q (es.toList.map (·.key)) {s with heap:=h',toks:=tk}):wpAny (model prog w) A (collect (.ref d)) Q E s:=by
 have ld:=Heap.lt_size e
 unfold collect
 refine wpAny_bind (wpAny_runValue (codeAny_builtin PySem.F.entry_proto_collect ?_))
 rw [Around.under_plainId PySem.F.plain_proto_collect]
 refine wpAny_bind (wpAny_newList (wpAny_pure ⟨plainId_quiet PySem.F.plain_list_iadd _,codeAny_builtin PySem.F.entry_list_iadd ?_⟩))
 rw [Around.under_plainId PySem.F.plain_list_iadd]
 have e0:(s.heap.push (seqObj "list" #[] 0)).get? s.heap.objs.size=some (seqObj "list" #[] 0):=Heap.get?_push_size _ rfl
 show wpAny _ _ (Builtin.List.listExtendWith (.ref s.heap.objs.size) (.ref d) (.ref s.heap.objs.size)) _ _ {s with heap:=s.heap.push (seqObj "list" #[] 0)}
 have fin:∀(v:Result) (s':Shared),(∃(h':Heap) (tk:Nat) (acc:Array Value) (c:Nat),v=.ok (.ret (.ref s.heap.objs.size))/\s' = {s with heap:=h',toks:=tk}/\h'.get? s.heap.objs.size=some {cls:=.type "list",dict:=none,data:=.seq acc c,slots:=#[]}/\Q acc.toList {s with heap:=h',toks:=tk})->
   (match v with | .ok (.ret v)=>wpAny (model prog w) A (match v with | .ref a=>(do match (<- load a).data with | .seq xs _=>pure xs.toList | _=>unsupported "internal:collect") | _=>unsupported "internal:collect") Q E s' | .ok _=>False | .error e=>E e s'):=by
  rintro v s' ⟨h',tk,acc,c,rfl,rfl,hS,hq⟩
  exact wpAny_bind (wpAny_load hS (wpAny_pure hq))
 refine wpAny_mono (kdl_extend (A:=A) (s:={s with heap:=s.heap.push (seqObj "list" #[] 0)})
  (R:=fun v s'=>∃(h':Heap) (tk:Nat) (acc:Array Value) (c:Nat),v=.ok (.ret (.ref s.heap.objs.size))/\s' = {s with heap:=h',toks:=tk}/\h'.get? s.heap.objs.size=some {cls:=.type "list",dict:=none,data:=.seq acc c,slots:=#[]}/\Q acc.toList {s with heap:=h',toks:=tk})
  (q2d (ep:=ep) (es:=es) lo) hh ⟨o,Heap.get?_push_of_some _ e,x,dd⟩ s.heap.objs.size (Nat.ne_of_gt ld) (Nat.ne_of_gt ld) (.ref s.heap.objs.size) 0 e0 (fun h' tk acc c hk hS hacc=>⟨h',tk,acc,c,rfl,rfl,hS,?_⟩) hn) (fun f s' z=>?_) (fun e s' z=>fin _ _ z)
 ·have ea:acc.toList=es.toList.map (·.key):=by
   refine List.ext_getElem (by simp[hacc.1]) fun i h1 h2=>?_
   have hi:i < acc.size:=by simpa using h1
   obtain⟨en,h3,h4⟩:=hacc.2 i acc[i] (by simp[hi])
   have hi2:i < es.size:=by simpa using h2
   rw [Array.getElem?_eq_getElem hi2] at h3
   cases h3
   simp[h4]
  rw [ea]
  exact q h' tk (Nat.le_of_lt (Heap.lt_size hS)) (fun b u z=>hk b u (Nat.ne_of_lt (Heap.lt_size z)) (Heap.get?_push_of_some _ z))
 ·cases f with
  | done f=>exact fin _ _ z
  | again c=>exact⟨z.1,codeAny_mono z.2 fun r s2 y=>fin r s2 y⟩
theorem zte{as:List Addr}{ps:Nat->List Int}{Q:Value->Shared->Prop}(hh:A.handled=none)(lo:(d == sysModules)=false)(e:s.heap.get? d=some o)(x:o.ExactDict)(dd:o.data=.dict es ep)(hp:(es.toList.map (·.key)).Perm (as.map Value.ref))(hk:∀j,j < as.length->IsTupleKey (intKind prog w) s.heap (ps j) (as.getD j 0))
  (hne:∀j,j < as.length->ps j≠[]) (hlt:∀i j,i < as.length->j < as.length->ltI (ps i) (ps j)=decide (i < j)) (hb:as.length<=60)
  (q:∀(h':Heap) (tk:Nat) (l:Addr) (n:Nat),s.heap.objs.size<=l->(∀b u,s.heap.get? b=some u->h'.get? b=some u)->h'.get? l=some (seqObj "list" (as.map Value.ref).toArray n)->
   Q (.ref l) {s with heap:=h',toks:=tk}):wpAny (model prog w) A (call (.builtin "sorted") [.ref d]) Q E s:=by
 have hes:es.size=as.length:=by simpa using hp.length_eq
 refine Calls.call_function_entry kind_sorted plain_sorted entry_sorted (args_sorted1 _) ?_
 unfold Builtin.«sorted»
 refine wpAny_bind (m:=checkCount "sorted" 1 1 _) (wpAny_pure (wpAny_bind (zjg (by simpa using hh) lo e x dd (zhq (by omega)) fun h1 tk1 z1 k1=>?_)))
 have pv1:=hp
 generalize es.toList.map (·.key)=vs at pv1 hp |-
 have er:as.map Value.ref=(List.range as.length).map fun i=>Value.ref (as.getD i 0):=by
  refine List.ext_getElem (by simp) fun i h1 h2=>?_
  simp at h1
  simp[h1]
 obtain⟨rs,pr,ev⟩:=q34 pv1 _ er
 have hrl:rs.length=as.length:=by simpa using pr.length_eq
 have hvl:vs.length=as.length:=by rw [ev,List.length_map,hrl]
 have hrlt:∀i,i < as.length->rs.getD i 0 < as.length:=fun i hi=>by
  rw [List.getD_eq_getElem?_getD,List.getElem?_eq_getElem (by omega)]
  exact List.mem_range.mp (pr.mem_iff.mp (List.getElem_mem _))
 have hat:∀i,i < as.length->vs.getD i .none=.ref (as.getD (rs.getD i 0) 0):=fun i hi=>by
  have h1:i < rs.length:=by omega
  simp[ev,h1]
 have hinj:∀i j,i < vs.length->j < vs.length->rs.getD i 0=rs.getD j 0->i=j:=fun i j hi hj z=>by
  have nd:rs.Nodup:=pr.nodup_iff.mpr List.nodup_range
  have h1:i < rs.length:=by omega
  have h2:j < rs.length:=by omega
  rw [List.getD_eq_getElem?_getD,List.getD_eq_getElem?_getD,List.getElem?_eq_getElem h1,List.getElem?_eq_getElem h2] at z
  exact(List.getElem_inj nd).mp z
 refine wpAny_bind (wpAny_newList ?_ (zhq (by omega)))
 have eL:(h1.push (seqObj "list" vs.toArray 0)).get? h1.objs.size=some (seqObj "list" vs.toArray 0):=Heap.get?_push_size _ rfl
 have keep:∀b u,s.heap.get? b=some u->(h1.push (seqObj "list" vs.toArray 0)).get? b=some u/\b≠h1.objs.size:=fun b u hu=>by
  have lb:=Heap.lt_size (k1 b u hu)
  exact⟨Heap.get?_push_of_some _ (k1 b u hu),Nat.ne_of_lt lb⟩
 refine wpAny_bind (wpAny_holding (wpAny_call_entry slot_list_sort ⟨_,eL,rfl⟩ entry_list_sort (zme (r:=fun i=>rs.getD i 0) eL (by omega) hinj (fun h2 h' kp=>?_) fun p P1 P2=>⟨_,rfl,?_⟩) (args_list_sort _)))
 ·have hk':∀j,j < as.length->IsTupleKey (intKind prog w) h' (ps j) (as.getD j 0):=fun j hj=>by
   obtain⟨o,its,n,e,r⟩:=hk j hj
   exact⟨o,its,n,kp _ _ (keep _ _ e).2 (keep _ _ e).1,r⟩
  obtain⟨fs,kt,fl,fi⟩:=zyh (prog:=prog) (w:=w) (h:=h') (vs:=vs) fun v hv=>by
   rw [ev] at hv
   obtain⟨j,hj,rfl⟩:=List.mem_map.mp hv
   have hj':=List.mem_range.mp (pr.mem_iff.mp hj)
   exact⟨_,_,rfl,hne j hj',hk' j hj'⟩
  refine⟨tuples' true,fun E Q hQ=>kat_kind (T:=.type "int") kt (by omega) (fun v hv=>?_) rfl hQ,fun i j hi hj E Q hQ=>?_⟩
  ·obtain⟨n,t,rfl⟩:=fi v hv
   exact Looks.of_pure rfl
  ·rw [hat i (by omega),hat j (by omega)]
   refine q71 (hk' _ (hrlt i (by omega))) (hk' _ (hrlt j (by omega))) ?_
   rw [hlt _ _ (hrlt i (by omega)) (hrlt j (by omega))]
   exact hQ
 ·refine wpAny_pure ⟨_,rfl,?_⟩
  have eo:(p.toList.map fun i=>vs.getD i Value.none)=as.map Value.ref:=by
   have e1:(p.toList.map fun i=>vs.getD i Value.none)=(p.toList.map fun i=>rs.getD i 0).map fun i=>Value.ref (as.getD i 0):=by
    rw [List.map_map]
    refine List.map_congr_left fun i hi=>?_
    have:=List.mem_range.mp (P1.pm.mem_iff.mp hi)
    exact hat i (by omega)
   have e2:(p.toList.map fun i=>rs.getD i 0)=List.range as.length:=by
    refine List.Perm.eq_of_pairwise (le:=(· < ·)) (fun x y _ _ a b=>by omega) ?_ List.pairwise_lt_range ?_
    ·rw [List.pairwise_iff_getElem]
     intro i j hi hj hij
     have hj':j < p.size:=by simpa using hj
     have z:=P2 i j hij (by rw [<- P1.sz]; exact hj')
     simpa [rk,Array.getD,hj',Nat.lt_trans hij hj'] using z
    ·have z:=P1.pm.map fun i=>rs.getD i 0
     refine z.trans ?_
     have:((List.range vs.length).map fun i=>rs.getD i 0)=rs:=by
      refine List.ext_getElem (by simp; omega) fun i h1 h2=>?_
      simp[h2]
     rw [this]
     exact pr
   rw [e1,e2,er]
  rw [eo]
  obtain⟨n,en⟩:=sortedHeap_at (out:=(as.map Value.ref).toArray) eL
  refine q _ tk1 h1.objs.size n z1 (fun b u hu=>?_) en
  have lb:=Heap.lt_size (k1 b u hu)
  rw [sortedHeap_old (Nat.ne_of_lt lb) (by rw [size_push']; exact Nat.lt_succ_of_lt lb)]
  exact Heap.get?_push_of_some _ (k1 b u hu)
end
theorem zu2(H:Hp):∀p:List Int,DtA H (p.map V.int) (p.map Dm.int)
 | []=>.nil
 | x::p=>.cons (.int x) (zu2 H p)
theorem q9n{X:Cx}{pins:List (Addr×Obj)}{σ : St}{H:Hp}{s:Shared}(I:Inv X pins σ H s){a:Addr}{p:List Int}(h:H a=some (.tup (p.map V.int))):IsTupleKey (intKind X.prog X.w) s.heap p a:=by
 have:=(zs9 (ps:=[p]) (vs:=[.ref a]) I (.cons (.tup h (zu2 H p)) .nil)).2.2 0 (show 0 < 1 by decide)
 exact this
def q6d:List V->Hp->VK->Prop:=fun xs H Q=>∃(d:Addr) (kvs:List (List Key×V)) (ps:List (List Int)),xs=[.ref d]/\Rd H d (.dT kvs)/\kvs.map (·.1)=ps.map (·.map Sum.inl)/\(∀p∈ps,p≠[])/\ps.length<=60/\
 ∀(l:Addr) (vs:List V) (ps':List (List Int)),H l=none->ps'.Perm ps->ps'.Pairwise (fun p q=>ltI p q=true)->DtA H vs (ps'.map pathD)->Q (.ref l) (upd H l (.lst vs))
theorem q4j{H:Hp}:∀{kvs:List (List Key×V)} {ys:List (List Key×Addr×Value)} {ps:List (List Int)},Paired (fun(p:List Key×V) (q:List Key×Addr×Value)=>p.1=q.1/\H q.2.1=some (.tup (p.1.map kV))/\RelV p.2 q.2.2) kvs ys->kvs.map (·.1)=ps.map (·.map Sum.inl)->
  ps.length=ys.length/\ys.map (·.1)=ps.map (·.map Sum.inl)/\∀y∈ps.zip (ys.map (·.2.1)),H y.2=some (.tup (y.1.map V.int))
 | [],_,[],.nil,_=>⟨rfl,rfl,fun y h=>absurd h (by simp)⟩
 | [],_,_::_,.nil,h=>by simp at h
 | _::_,_::_,[],.cons _ _,h=>by simp at h
 | kv::kvs,y::ys,p::ps,.cons r t,h=>by
  rw [List.map_cons,List.map_cons] at h
  injection h with h1 h2
  obtain⟨l,e,m⟩:=q4j t h2
  refine⟨by rw [List.length_cons,List.length_cons,l],by rw [List.map_cons,List.map_cons,e,<- r.1,h1],fun x hx=>?_⟩
  rw [List.map_cons,List.zip_cons_cons] at hx
  rcases List.mem_cons.mp hx with rfl | hx
  ·have:=r.2.1
   rw [h1,List.map_map] at this
   exact this
  ·exact m x hx
theorem zbr{X:Cx}(hc:X.calm=true):zbs X (.builtin "sorted") q6d:=by
 intro pins s σ H xs us Q I r h
 obtain⟨d,kvs,ps,rfl,hr,hks,hne,hb,q⟩:=h
 obtain⟨u,rfl,r1⟩:=r.one
 cases r1
 obtain⟨hz,lo,ys,rx,o,es,ep,ho,hx,hd,hes,hn⟩:=(show ObjOk X.prog X.w H s.heap d (.dT kvs) from hr.ok I.hok)
 obtain⟨hl,hk1,hk2⟩:=q4j rx hks
 have hnd:ps.Nodup:=by
  rw [hk1] at hn
  exact(List.pairwise_map.mp hn).imp fun h e=>h (by rw [e])
 have e1:(ps.zip (ys.map (·.2.1))).map (·.1)=ps:=List.map_fst_zip (by rw [List.length_map]; omega)
 have e2:(ps.zip (ys.map (·.2.1))).map (·.2)=ys.map (·.2.1):=List.map_snd_zip (by rw [List.length_map]; omega)
 obtain⟨z,pz,rz⟩:=q0u (ps.zip (ys.map (·.2.1))) (by rw [e1]; exact hnd)
 have zl:z.length=ps.length:=by rw [pz.length_eq,List.length_zip,List.length_map]; omega
 have R:RisP (z.map (·.1)):=⟨fun p hp=>hne p (by rw [<- e1]; exact(pz.map (·.1)).mem_iff.mp hp),List.pairwise_map.mpr rz,by rw [List.length_map]; omega⟩
 have pv:(es.toList.map (·.key)).Perm ((z.map (·.2)).map Value.ref):=by
  rw [hes,List.map_map,show((fun x:DictEntry=>x.key) ∘ entryOfKey (tupleKind (z1l X.prog X.w)))=(fun y:List Key×Addr×Value=>Value.ref y.2.1) from rfl]
  have:=((pz.map (·.2)).map Value.ref).symm
  rw [e2,List.map_map] at this
  exact this
 have at_:∀{j:Nat} (hj:j < z.length),H z[j].2=some (.tup (z[j].1.map V.int)):=fun hj=>hk2 _ (pz.mem_iff.mp (List.getElem_mem hj))
 refine zte (as:=z.map (·.2)) (ps:=fun j=>(z.map (·.1)).getD j []) (I.ok.hd hc) lo ho hx hd pv (fun j hj=>?_) (fun j hj=>?_) (fun i j hi hj=>R.lt (by simpa using hi) (by simpa using hj)) (by rw [List.length_map]; omega) fun h' tk l n hl' k en=>?_
 ·have hj':j < z.length:=by simpa using hj
  have:=q9n I (at_ hj')
  simpa [hj'] using this
 ·have hj':j < z.length:=by simpa using hj
  refine R.1 _ ?_
  rw [List.getD_eq_getElem?_getD,List.getElem?_eq_getElem (by simpa using hj')]
  exact List.getElem_mem _
 ·refine⟨.ref l,_,I.laid (t':=tk) k hl' (show ObjOk X.prog X.w _ _ _ (.lst ((z.map (·.2)).map V.ref)) from⟨?_,(z.map (·.2)).map Value.ref,n,zoh _,by simpa [seqObj] using en⟩),rfl,q l _ (z.map (·.1)) (I.hok.fresh hl') ?_ R.2.1 ?_⟩
  ·rw [List.length_map,List.length_map]
   exact zhq (by omega)
  ·have:=pz.map (·.1)
   rw [e1] at this
   exact this
  ·rw [List.map_map,List.map_map]
   exact zvz fun y hy=>.tup (hk2 y (pz.mem_iff.mp hy)) (zu2 H y.1)
end L2
set_option Elab.async false
set_option linter.all false
set_option maxRecDepth 100000
namespace L2
open PySem PySem.Spec PyProof.Rows PySem.W
def FlK(K:PySem.W.Frag)(H:Hp)(x:V)(d:Dm):Prop:=Dt H x d\/∃(p:Addr) (is:List Int),x=.ref p/\d=.tup (is.map Dm.int)/\SqT K H p (is.map V.int)
theorem FlK.of{K:PySem.W.Frag}{H:Hp}{x:V}{d:Dm}(h:Dt H x d):FlK K H x d:=.inl h
section
variable{X:Cx}{pins:List (Addr×Obj)}{σ : St}{H:Hp}{s:Shared}
theorem zop{h:Heap}:∀{is:List Int} {us:List Value},Vals (is.map V.int) us->∃as,ReadsAll h us (zck (is.map Dm.int)) as
 | [],_,.nil=>⟨[],by rw [List.map_nil,zck]; exact .nil⟩
 | i::is,_,.cons r t=>by
  obtain⟨u,rfl⟩:=r
  obtain⟨as,q⟩:=zop t
  exact⟨[]++as,by rw [List.map_cons,zck,Dm.dat]; exact .cons (.int i u) q⟩
theorem FlK.reads(I:Inv X pins σ H s){x:V}{d:Dm}{u:Value}(h:FlK X.K H x d)(hs:d.shut=true)(r:RelV x u):∃as,Reads s.heap u d.dat as:=by
 rcases h with h | ⟨p,is,rfl,rfl,h⟩
 ·exact Dt.reads I h hs r
 ·cases r
  obtain⟨its,rv,⟨o,ho,hc,n,hd⟩,_⟩:=I.tuple h
  obtain⟨as,q⟩:=zop (h:=s.heap) rv
  exact⟨as,by rw [Dm.dat]; exact .tuple ho hc hd (by simpa using q)⟩
def EqK(K:PySem.W.Frag)(H:Hp)(x y:V)(b:Bool):Prop:=∃d e,FlK K H x d/\FlK K H y e/\(d.shut=true/\SeqAt.shaped d.dat=true)/\(e.shut=true/\SeqAt.shaped e.dat=true)/\b=PyData.eqv d.dat e.dat
def qbp(K:PySem.W.Frag):R2:=fun x y H Q=>∃b,EqK K H x y b/\Q (.bl b) H
theorem kEq(hu:X.A.units+64 < cLine):OpR X (compareOp .Eq) (qbp X.K):=by
 intro pins s σ H x y v u Q I rx ry h
 obtain⟨b,⟨d,e,dx,dy,⟨s1,s2⟩,⟨s3,s4⟩,rfl⟩,q⟩:=h
 obtain⟨as,ra⟩:=dx.reads I s1 rx
 obtain⟨bs,rb⟩:=dy.reads I s3 ry
 exact eq_dataH ra rb s2 s4 hu ⟨.bl _,H,I,rfl,q⟩
end
end L2
set_option Elab.async false
set_option linter.all false
set_option maxRecDepth 100000
namespace L2
open PySem PySem.Spec PyProof.Rows PySem.W
theorem zqx:∀{ks:List Str} {es:List DictEntry},Paired (fun(v:V) (en:DictEntry)=>RelV v en.key) (ks.map V.str) es->StrsAre (es.map (·.key)) ks
 | [],_,h=>by
  cases h
  exact .nil
 | x::ks,_,h=>by
  cases h with
  | cons r t=>
   obtain⟨tk,e⟩:∃tk,_=Value.str x tk:=r
   rw [List.map_cons,e]
   exact .cons x tk (zqx t)
section
variable{prog:Program}{w:World}{A:Around}{E:Value->Shared->Prop}{s:Shared}{d:Addr}{es:Array DictEntry}{ep:Nat}{o:Obj}
theorem zz3{ks:List Str}{Q:Value->Shared->Prop}(hh:A.handled=none)(lo:(d == sysModules)=false)(e:s.heap.get? d=some o)(x:o.ExactDict)(dd:o.data=.dict es ep)(hI:StrsAre (es.toList.map (·.key)) ks)(h64:ks.length < 64)
  (q:∀(h':Heap) (tk:Nat) (l:Addr) (out:Array Value) (n:Nat) (ms:List Str),s.heap.objs.size<=l->(∀b u,s.heap.get? b=some u->h'.get? b=some u)->h'.get? l=some (seqObj "list" out n)->StrsAre out.toList ms->ms.Perm ks->sortedS ms=true->
   Q (.ref l) {s with heap:=h',toks:=tk}):wpAny (model prog w) A (call (.builtin "sorted") [.ref d]) Q E s:=by
 have hlen:es.size=ks.length:=by
  have:=hI.length
  rw [List.length_map,Array.length_toList] at this
  exact this
 refine Calls.call_function_entry kind_sorted plain_sorted entry_sorted (args_sorted1 _) ?_
 unfold Builtin.«sorted»
 refine wpAny_bind (m:=checkCount "sorted" 1 1 _) (wpAny_pure (wpAny_bind (zjg (by simpa using hh) lo e x dd (zhq (by omega)) fun h1 tk1 z1 k1=>?_)))
 generalize es.toList.map (·.key)=vs at hI |-
 have hvl:vs.length=ks.length:=hI.length
 refine wpAny_bind (wpAny_newList ?_ (zhq (by omega)))
 have eL:(h1.push (seqObj "list" vs.toArray 0)).get? h1.objs.size=some (seqObj "list" vs.toArray 0):=Heap.get?_push_size _ rfl
 refine wpAny_bind (wpAny_holding (wpAny_call_entry slot_list_sort ⟨_,eL,rfl⟩ entry_list_sort (list_sort_treeK PyProof.Rows.strKind_oneLt eL hI.keysOf (fun v₁ v₂ zr7 e=>keyKind_strs (by rw [<- e]; exact hI)) (by omega) fun st' hp hs=>⟨_,rfl,?_⟩) (args_list_sort _)))
 obtain⟨ms,a1,a2,a3⟩:=sorted_out_str hI hp hs
 refine wpAny_pure ⟨_,rfl,?_⟩
 obtain⟨n,en⟩:=sortedHeap_at (out:=(arrOf st').map (·.2)) eL
 refine q _ tk1 h1.objs.size _ n ms z1 (fun b u hu=>?_) en a1 a2 a3
 have lb:=Heap.lt_size (k1 b u hu)
 rw [sortedHeap_old (Nat.ne_of_lt lb) (by rw [size_push']; exact Nat.lt_succ_of_lt lb)]
 exact Heap.get?_push_of_some _ (k1 b u hu)
end
def q6e:List V->Hp->VK->Prop:=fun xs H Q=>∃(d:Addr) (kvs:List (Key×V)) (ks:List Str),xs=[.ref d]/\Rd H d (.dK kvs)/\kvs.map (·.1)=ks.map Sum.inr/\ks.length < 64/\
 ∀(l:Addr) (ms:List Str),H l=none->ms.Perm ks->sortedS ms=true->Q (.ref l) (upd H l (.lst (ms.map V.str)))
theorem zh7{X:Cx}(hc:X.calm=true):zbs X (.builtin "sorted") q6e:=by
 intro pins s σ H xs us Q I r h
 obtain⟨d,kvs,ks,rfl,hr,hks,h64,q⟩:=h
 obtain⟨u,rfl,r1⟩:=r.one
 cases r1
 obtain⟨hz,lo,vs,rv,o,es,ep,ho,hx,hd,hk,hp,hn⟩:=(show ObjOk X.prog X.w H s.heap d (.dK kvs) from hr.ok I.hok)
 have pk:=zhw hp rv
 have ek:(kvs.map fun kv=>kV kv.1)=ks.map V.str:=by
  have:(kvs.map (·.1)).map kV=(ks.map Sum.inr).map kV:=by rw [hks]
  rw [List.map_map,List.map_map] at this
  exact this
 rw [ek] at pk
 refine zz3 (I.ok.hd hc) lo ho hx hd (zqx pk) h64 fun h' tk l out n ms hl k en a1 a2 a3=>?_
 refine⟨.ref l,_,I.laid (t':=tk) k hl (show ObjOk X.prog X.w _ _ _ (.lst (ms.map V.str)) from⟨?_,out.toList,n,ziz a1,?_⟩),rfl,q l ms (I.hok.fresh hl) a2 a3⟩
 ·rw [List.length_map,a2.length_eq]
  exact Nat.le_of_lt (z10 (by omega))
 ·simpa [seqObj] using en
def qau(K:PySem.W.Frag):R2:=fun x y H Q=>q8u x y H Q\/qcy K x y H Q
theorem qdq{X:Cx}(hu:X.A.units < cLine):OpR X (compareOp .Lt) (qau X.K):=gLtS.or (q97 hu)
end L2
set_option maxHeartbeats 0
namespace SR
open PySem L2
abbrev CDF(x:Str):Prop:=(x == ("__classdict__" : Str))=false
abbrev DBF(x:Str):Prop:=(x == ("__debug__" : Str))=false
abbrev GLF(s:Stmt)(x:Str):Prop:=(defScope s).names.lookup x=some NameKind.globalImplicit
def top(i:Nat):Stmt:=PySem.Challenge.pw_smallrooms_k84_whole_shown_edges.main.body.getD i (.Pass ⟨0,0,0,0⟩)
theorem zsy:bootBuiltins "all" = some (.builtin "all"):=by decide+kernel
theorem q7r:bootBuiltins "bool" = some (.type "bool"):=by decide+kernel
theorem zfk:bootBuiltins "dict" = some (.type "dict"):=by decide+kernel
theorem qac:bootBuiltins "int" = some (.type "int"):=by decide+kernel
theorem z58:bootBuiltins "isinstance" = some (.builtin "isinstance"):=by decide+kernel
theorem q1t:bootBuiltins "len" = some (.builtin "len"):=by decide+kernel
theorem zni:bootBuiltins "max" = some (.builtin "max"):=by decide+kernel
theorem zjk:bootBuiltins "min" = some (.builtin "min"):=by decide+kernel
theorem zdn:bootBuiltins "sorted" = some (.builtin "sorted"):=by decide+kernel
theorem qab:bootBuiltins "str" = some (.type "str"):=by decide+kernel
theorem zkt:bootBuiltins "tuple" = some (.type "tuple"):=by decide+kernel
theorem z9y:CDF "_law_around":=by decide+kernel
theorem zfj:CDF "_law_asked_about":=by decide+kernel
theorem z87:CDF "_law_begin":=by decide+kernel
theorem zsv:CDF "_law_body":=by decide+kernel
theorem zsu:CDF "_law_deed":=by decide+kernel
theorem zqj:CDF "_law_deeds":=by decide+kernel
theorem zbq:CDF "_law_drawn":=by decide+kernel
theorem zfi:CDF "_law_end":=by decide+kernel
theorem z7l:CDF "_law_goal":=by decide+kernel
theorem zh6:CDF "_law_great":=by decide+kernel
theorem z7k:CDF "_law_high":=by decide+kernel
theorem zar:CDF "_law_k":=by decide+kernel
theorem zdm:CDF "_law_last":=by decide+kernel
theorem z50:CDF "_law_low":=by decide+kernel
theorem zst:CDF "_law_many":=by decide+kernel
theorem zdl:CDF "_law_more":=by decide+kernel
theorem z3f:CDF "_law_name":=by decide+kernel
theorem zng:CDF "_law_one":=by decide+kernel
theorem zqi:CDF "_law_other":=by decide+kernel
theorem zbp:CDF "_law_paper":=by decide+kernel
theorem zjj:CDF "_law_path":=by decide+kernel
theorem z4z:CDF "_law_plan":=by decide+kernel
theorem znf:CDF "_law_program":=by decide+kernel
theorem zne:CDF "_law_row":=by decide+kernel
theorem z17:CDF "_law_script":=by decide+kernel
theorem zdk:CDF "_law_told":=by decide+kernel
theorem znd:CDF "_law_two":=by decide+kernel
theorem zss:CDF "_law_wide":=by decide+kernel
theorem q4h:CDF "above":=by decide+kernel
theorem qa9:CDF "at":=by decide+kernel
theorem q4g:CDF "below":=by decide+kernel
theorem zh5:CDF "beside":=by decide+kernel
theorem zuo:CDF "bits":=by decide+kernel
theorem zw9:CDF "block":=by decide+kernel
theorem z1t:CDF "book":=by decide+kernel
theorem zqh:CDF "both":=by decide+kernel
theorem zsr:CDF "can_be":=by decide+kernel
theorem z2a:CDF "deed":=by decide+kernel
theorem zji:CDF "deed_path":=by decide+kernel
theorem q1p:CDF "end":=by decide+kernel
theorem zun:CDF "ends":=by decide+kernel
theorem zjh:CDF "has":=by decide+kernel
theorem zum:CDF "head":=by decide+kernel
theorem z9c:CDF "heads":=by decide+kernel
theorem zqg:CDF "high":=by decide+kernel
theorem q4f:CDF "inner":=by decide+kernel
theorem q1o:CDF "is_row":=by decide+kernel
theorem z5o:CDF "is_so":=by decide+kernel
theorem zy1:CDF "is_sure":=by decide+kernel
theorem zfh:CDF "left":=by decide+kernel
theorem zw8:CDF "low":=by decide+kernel
theorem zep:CDF "low_or_high":=by decide+kernel
theorem q7o:CDF "many":=by decide+kernel
theorem zqf:CDF "marks":=by decide+kernel
theorem z8r:CDF "name":=by decide+kernel
theorem zdw:CDF "notes":=by decide+kernel
theorem zsq:CDF "number":=by decide+kernel
theorem z1e:CDF "one":=by decide+kernel
theorem z0l:CDF "other":=by decide+kernel
theorem z4n:CDF "own":=by decide+kernel
theorem zks:CDF "paper":=by decide+kernel
theorem z1i:CDF "path":=by decide+kernel
theorem z4b:CDF "program":=by decide+kernel
theorem qa8:CDF "row":=by decide+kernel
theorem znc:CDF "rows":=by decide+kernel
theorem zul:CDF "self":=by decide+kernel
theorem zw7:CDF "shelf":=by decide+kernel
theorem z5z:CDF "stretch":=by decide+kernel
theorem z0y:CDF "term":=by decide+kernel
theorem z20:CDF "thing":=by decide+kernel
theorem z2z:CDF "walk":=by decide+kernel
theorem zqe:CDF "wants":=by decide+kernel
theorem z5e:CDF "word":=by decide+kernel
theorem zw6:CDF "worth":=by decide+kernel
theorem q19:DBF "BITS":=by decide+kernel
theorem q4b:DBF "ROOMS":=by decide+kernel
theorem zfg:DBF "WIDE":=by decide+kernel
theorem q7k:DBF "Walk":=by decide+kernel
theorem q18:DBF "ZERO":=by decide+kernel
theorem z9x:DBF "_law_around":=by decide+kernel
theorem zff:DBF "_law_asked_about":=by decide+kernel
theorem z86:DBF "_law_begin":=by decide+kernel
theorem zsm:DBF "_law_body":=by decide+kernel
theorem zsl:DBF "_law_cell":=by decide+kernel
theorem zsk:DBF "_law_deed":=by decide+kernel
theorem zqa:DBF "_law_deeds":=by decide+kernel
theorem zbo:DBF "_law_drawn":=by decide+kernel
theorem zfe:DBF "_law_end":=by decide+kernel
theorem z7j:DBF "_law_goal":=by decide+kernel
theorem zh4:DBF "_law_great":=by decide+kernel
theorem z7i:DBF "_law_high":=by decide+kernel
theorem zaq:DBF "_law_k":=by decide+kernel
theorem zdj:DBF "_law_last":=by decide+kernel
theorem z4y:DBF "_law_low":=by decide+kernel
theorem zsj:DBF "_law_many":=by decide+kernel
theorem zdi:DBF "_law_more":=by decide+kernel
theorem z3e:DBF "_law_name":=by decide+kernel
theorem zna:DBF "_law_one":=by decide+kernel
theorem zq9:DBF "_law_other":=by decide+kernel
theorem zbn:DBF "_law_paper":=by decide+kernel
theorem zjf:DBF "_law_path":=by decide+kernel
theorem z4x:DBF "_law_pick":=by decide+kernel
theorem z4w:DBF "_law_plan":=by decide+kernel
theorem zn9:DBF "_law_program":=by decide+kernel
theorem zn8:DBF "_law_row":=by decide+kernel
theorem z16:DBF "_law_script":=by decide+kernel
theorem zdh:DBF "_law_told":=by decide+kernel
theorem zn7:DBF "_law_two":=by decide+kernel
theorem zsi:DBF "_law_wide":=by decide+kernel
theorem q4a:DBF "above":=by decide+kernel
theorem zsh:DBF "all":=by decide+kernel
theorem zsg:DBF "all_deeds":=by decide+kernel
theorem z9b:DBF "are_rising_rows":=by decide+kernel
theorem qa1:DBF "at":=by decide+kernel
theorem q17:DBF "behind":=by decide+kernel
theorem zh3:DBF "behind_question":=by decide+kernel
theorem q49:DBF "below":=by decide+kernel
theorem zh2:DBF "beside":=by decide+kernel
theorem z57:DBF "between":=by decide+kernel
theorem zuf:DBF "bits":=by decide+kernel
theorem zw4:DBF "block":=by decide+kernel
theorem zsf:DBF "blocks_of":=by decide+kernel
theorem z1s:DBF "book":=by decide+kernel
theorem zp1:DBF "book_of":=by decide+kernel
theorem q7j:DBF "bool":=by decide+kernel
theorem zq8:DBF "both":=by decide+kernel
theorem zse:DBF "can_be":=by decide+kernel
theorem z29:DBF "deed":=by decide+kernel
theorem zje:DBF "deed_path":=by decide+kernel
theorem zap:DBF "deeds_of_block":=by decide+kernel
theorem zfd:DBF "dict":=by decide+kernel
theorem q16:DBF "end":=by decide+kernel
theorem zue:DBF "ends":=by decide+kernel
theorem zog:DBF "fewest_bits":=by decide+kernel
theorem zbm:DBF "go_block":=by decide+kernel
theorem zxy:DBF "go_deed":=by decide+kernel
theorem q48:DBF "go_if":=by decide+kernel
theorem q15:DBF "go_set":=by decide+kernel
theorem zud:DBF "go_while":=by decide+kernel
theorem zjd:DBF "has":=by decide+kernel
theorem zuc:DBF "head":=by decide+kernel
theorem z9a:DBF "heads":=by decide+kernel
theorem zub:DBF "heads_of":=by decide+kernel
theorem zq7:DBF "high":=by decide+kernel
theorem q47:DBF "inner":=by decide+kernel
theorem qa0:DBF "int":=by decide+kernel
theorem ziu:DBF "is_book_within":=by decide+kernel
theorem zxx:DBF "is_held":=by decide+kernel
theorem zbl:DBF "is_paper":=by decide+kernel
theorem zn6:DBF "is_paper_row":=by decide+kernel
theorem zxw:DBF "is_path":=by decide+kernel
theorem q14:DBF "is_row":=by decide+kernel
theorem zn5:DBF "is_shelf_row":=by decide+kernel
theorem z5n:DBF "is_so":=by decide+kernel
theorem zxv:DBF "is_sure":=by decide+kernel
theorem zeo:DBF "is_tuple_of":=by decide+kernel
theorem zn4:DBF "is_whole":=by decide+kernel
theorem zc2:DBF "is_whole_from":=by decide+kernel
theorem z5x:DBF "is_within":=by decide+kernel
theorem z56:DBF "isinstance":=by decide+kernel
theorem zn3:DBF "joined":=by decide+kernel
theorem zdg:DBF "joined_books":=by decide+kernel
theorem zsd:DBF "joined_to":=by decide+kernel
theorem zfc:DBF "left":=by decide+kernel
theorem zdf:DBF "left_by_same":=by decide+kernel
theorem zn2:DBF "left_of_name":=by decide+kernel
theorem zof:DBF "left_of_one":=by decide+kernel
theorem zkh:DBF "left_of_other":=by decide+kernel
theorem q13:DBF "len":=by decide+kernel
theorem zw3:DBF "low":=by decide+kernel
theorem zen:DBF "low_or_high":=by decide+kernel
theorem q7i:DBF "many":=by decide+kernel
theorem zq6:DBF "marks":=by decide+kernel
theorem zn1:DBF "max":=by decide+kernel
theorem zn0:DBF "met":=by decide+kernel
theorem zjc:DBF "min":=by decide+kernel
theorem z8q:DBF "name":=by decide+kernel
theorem zq5:DBF "noted":=by decide+kernel
theorem zdu:DBF "notes":=by decide+kernel
theorem zmz:DBF "notes_by":=by decide+kernel
theorem zsc:DBF "number":=by decide+kernel
theorem z1d:DBF "one":=by decide+kernel
theorem z0k:DBF "other":=by decide+kernel
theorem z4m:DBF "own":=by decide+kernel
theorem zkq:DBF "paper":=by decide+kernel
theorem z1h:DBF "path":=by decide+kernel
theorem zxu:DBF "plan_by":=by decide+kernel
theorem zua:DBF "plan_row":=by decide+kernel
theorem z4a:DBF "program":=by decide+kernel
theorem z5m:DBF "reckoned_from":=by decide+kernel
theorem zxt:DBF "room_of":=by decide+kernel
theorem q9z:DBF "row":=by decide+kernel
theorem zmy:DBF "rows":=by decide+kernel
theorem zu9:DBF "self":=by decide+kernel
theorem zw2:DBF "shelf":=by decide+kernel
theorem zmx:DBF "show":=by decide+kernel
theorem zw1:DBF "shown":=by decide+kernel
theorem zdt:DBF "side_of":=by decide+kernel
theorem zde:DBF "sorted":=by decide+kernel
theorem q46:DBF "spots":=by decide+kernel
theorem z7w:DBF "spots_of_term":=by decide+kernel
theorem q9y:DBF "str":=by decide+kernel
theorem z5w:DBF "stretch":=by decide+kernel
theorem zh1:DBF "stretch_of":=by decide+kernel
theorem z6j:DBF "stretch_of_ends":=by decide+kernel
theorem zh0:DBF "stretch_of_same":=by decide+kernel
theorem z0x:DBF "term":=by decide+kernel
theorem zxr:DBF "term_of":=by decide+kernel
theorem z1z:DBF "thing":=by decide+kernel
theorem zkp:DBF "tuple":=by decide+kernel
theorem z2y:DBF "walk":=by decide+kernel
theorem zc1:DBF "walk_by_paper":=by decide+kernel
theorem q12:DBF "walked":=by decide+kernel
theorem zq4:DBF "wants":=by decide+kernel
theorem zdd:DBF "with_left":=by decide+kernel
theorem zp0:DBF "without":=by decide+kernel
theorem z5d:DBF "word":=by decide+kernel
theorem zw0:DBF "worth":=by decide+kernel
theorem zmw:DBF "worth_of":=by decide+kernel
theorem zrk:("all" : Str)≠"__name__":=by decide+kernel
theorem q70:("bool" : Str)≠"__name__":=by decide+kernel
theorem zeu:("dict" : Str)≠"__name__":=by decide+kernel
theorem q9g:("int" : Str)≠"__name__":=by decide+kernel
theorem z55:("isinstance" : Str)≠"__name__":=by decide+kernel
theorem zzz:("len" : Str)≠"__name__":=by decide+kernel
theorem zm3:("max" : Str)≠"__name__":=by decide+kernel
theorem zj4:("min" : Str)≠"__name__":=by decide+kernel
theorem zcy:("sorted" : Str)≠"__name__":=by decide+kernel
theorem q9f:("str" : Str)≠"__name__":=by decide+kernel
theorem zkl:("tuple" : Str)≠"__name__":=by decide+kernel
abbrev z4q:Stmt:=top 5
theorem sc_spots:FnScope ["program","rows","path","deed"] ["program"] (defScope z4q):=⟨rfl,rfl,rfl,by decide+kernel,rfl,by decide+kernel,by decide+kernel⟩
theorem zgq:GLF z4q "all_deeds":=by decide+kernel
theorem zcd:GLF z4q "spots_of_term":=by decide+kernel
theorem zk8:GLF z4q "term_of":=by decide+kernel
theorem zo1:Loc (defScope z4q) "deed":=Or.inl (by decide+kernel)
theorem zo0:Loc (defScope z4q) "path":=Or.inl (by decide+kernel)
theorem znz:Loc (defScope z4q) "rows":=Or.inl (by decide+kernel)
theorem zno:Vis (defScope z4q) "deed":=Or.inl (by decide+kernel)
theorem znn:Vis (defScope z4q) "path":=Or.inl (by decide+kernel)
theorem zhb:Vis (defScope z4q) "program":=Or.inl (by decide+kernel)
theorem zei:Vis (defScope z4q) "rows":=Or.inl (by decide+kernel)
abbrev z3s:Stmt:=top 6
theorem zth:FnScope ["thing"] ["thing"] (defScope z3s):=⟨rfl,rfl,rfl,by decide+kernel,rfl,by decide+kernel,by decide+kernel⟩
theorem zkd:GLF z3s "bool":=by decide+kernel
theorem zmt:GLF z3s "int":=by decide+kernel
theorem z6s:GLF z3s "isinstance":=by decide+kernel
theorem z92:Vis (defScope z3s) "thing":=Or.inl (by decide+kernel)
abbrev z18:Stmt:=top 7
theorem zjv:FnScope ["thing","low","high"] ["thing","low","high"] (defScope z18):=⟨rfl,rfl,rfl,by decide+kernel,rfl,by decide+kernel,by decide+kernel⟩
theorem z9s:GLF z18 "is_whole":=by decide+kernel
theorem zc7:Vis (defScope z18) "high":=Or.inl (by decide+kernel)
theorem zcp:Vis (defScope z18) "low":=Or.inl (by decide+kernel)
theorem z3z:Vis (defScope z18) "thing":=Or.inl (by decide+kernel)
abbrev z1u:Stmt:=top 8
theorem znv:FnScope ["thing","many"] ["thing","many"] (defScope z1u):=⟨rfl,rfl,rfl,by decide+kernel,rfl,by decide+kernel,by decide+kernel⟩
theorem z9t:GLF z1u "isinstance":=by decide+kernel
theorem zgu:GLF z1u "len":=by decide+kernel
theorem zef:GLF z1u "tuple":=by decide+kernel
theorem ze3:Vis (defScope z1u) "many":=Or.inl (by decide+kernel)
theorem z7c:Vis (defScope z1u) "thing":=Or.inl (by decide+kernel)
abbrev z4r:Stmt:=top 9
theorem zwu:FnScope ["thing"] ["thing"] (defScope z4r):=⟨rfl,rfl,rfl,by decide+kernel,rfl,by decide+kernel,by decide+kernel⟩
theorem zoa:GLF z4r "all":=by decide+kernel
theorem zd7:GLF z4r "isinstance":=by decide+kernel
theorem zke:GLF z4r "tuple":=by decide+kernel
theorem za6:Vis (defScope z4r) "thing":=Or.inl (by decide+kernel)
abbrev z0s:Stmt:=top 10
theorem zg2:FnScope ["thing","is_row"] ["thing","is_row"] (defScope z0s):=⟨rfl,rfl,rfl,by decide+kernel,rfl,by decide+kernel,by decide+kernel⟩
theorem z6t:GLF z0s "all":=by decide+kernel
theorem z7v:GLF z0s "isinstance":=by decide+kernel
theorem zao:GLF z0s "tuple":=by decide+kernel
theorem zch:GLF z0s "zip":=by decide+kernel
theorem z2i:Vis (defScope z0s) "thing":=Or.inl (by decide+kernel)
abbrev z7d:Stmt:=top 11
theorem zws:FnScope ["deed"] ["deed"] (defScope z7d):=⟨rfl,rfl,rfl,by decide+kernel,rfl,by decide+kernel,by decide+kernel⟩
theorem z7m:Vis (defScope z7d) "deed":=Or.inl (by decide+kernel)
abbrev z4t:Stmt:=top 12
theorem zr1:FnScope ["deed"] ["deed"] (defScope z4t):=⟨rfl,rfl,rfl,by decide+kernel,rfl,by decide+kernel,by decide+kernel⟩
theorem z3b:Vis (defScope z4t) "deed":=Or.inl (by decide+kernel)
abbrev z42:Stmt:=top 13
theorem zr2:FnScope ["program"] ["program"] (defScope z42):=⟨rfl,rfl,rfl,by decide+kernel,rfl,by decide+kernel,by decide+kernel⟩
theorem z8m:GLF z42 "deeds_of_block":=by decide+kernel
theorem zcu:Vis (defScope z42) "program":=Or.inl (by decide+kernel)
abbrev z0a:Stmt:=top 14
theorem sc_deeds_of_block:FnScope ["block","path","rows","at","deed","deed_path","number","inner"] ["block","path"] (defScope z0a):=⟨rfl,rfl,rfl,by decide+kernel,rfl,by decide+kernel,by decide+kernel⟩
theorem z8l:GLF z0a "blocks_of":=by decide+kernel
theorem z6l:GLF z0a "deeds_of_block":=by decide+kernel
theorem z8k:GLF z0a "enumerate":=by decide+kernel
theorem zd1:Loc (defScope z0a) "at":=Or.inl (by decide+kernel)
theorem zb9:Loc (defScope z0a) "deed":=Or.inl (by decide+kernel)
theorem z84:Loc (defScope z0a) "deed_path":=Or.inl (by decide+kernel)
theorem zai:Loc (defScope z0a) "inner":=Or.inl (by decide+kernel)
theorem z9o:Loc (defScope z0a) "number":=Or.inl (by decide+kernel)
theorem zb8:Loc (defScope z0a) "rows":=Or.inl (by decide+kernel)
theorem zcs:Vis (defScope z0a) "at":=Or.inl (by decide+kernel)
theorem zab:Vis (defScope z0a) "block":=Or.inl (by decide+kernel)
theorem z68:Vis (defScope z0a) "deed":=Or.inl (by decide+kernel)
theorem z4i:Vis (defScope z0a) "deed_path":=Or.inl (by decide+kernel)
theorem zaa:Vis (defScope z0a) "inner":=Or.inl (by decide+kernel)
theorem z9j:Vis (defScope z0a) "number":=Or.inl (by decide+kernel)
theorem zaw:Vis (defScope z0a) "path":=Or.inl (by decide+kernel)
theorem z40:Vis (defScope z0a) "rows":=Or.inl (by decide+kernel)
abbrev z1q:Stmt:=top 15
theorem zjs:FnScope ["term","path"] ["term","path"] (defScope z1q):=⟨rfl,rfl,rfl,by decide+kernel,rfl,by decide+kernel,by decide+kernel⟩
theorem z3u:GLF z1q "spots_of_term":=by decide+kernel
theorem z35:Vis (defScope z1q) "path":=Or.inl (by decide+kernel)
theorem z1n:Vis (defScope z1q) "term":=Or.inl (by decide+kernel)
abbrev z37:Stmt:=top 17
theorem ztf:FnScope ["word","one","other"] ["word","one","other"] (defScope z37):=⟨rfl,rfl,rfl,by decide+kernel,rfl,by decide+kernel,by decide+kernel⟩
theorem zmq:GLF z37 "max":=by decide+kernel
theorem zmp:GLF z37 "min":=by decide+kernel
theorem z26:Vis (defScope z37) "one":=Or.inl (by decide+kernel)
theorem z1m:Vis (defScope z37) "other":=Or.inl (by decide+kernel)
theorem z2c:Vis (defScope z37) "word":=Or.inl (by decide+kernel)
abbrev z6c:Stmt:=top 19
theorem zza:FnScope ["one","other"] ["one","other"] (defScope z6c):=⟨rfl,rfl,rfl,by decide+kernel,rfl,by decide+kernel,by decide+kernel⟩
theorem zpz:GLF z6c "max":=by decide+kernel
theorem zpy:GLF z6c "min":=by decide+kernel
theorem z76:Vis (defScope z6c) "one":=Or.inl (by decide+kernel)
theorem z5l:Vis (defScope z6c) "other":=Or.inl (by decide+kernel)
abbrev zjw:Stmt:=top 20
theorem q8p:FnScope ["one","other"] ["one","other"] (defScope zjw):=⟨rfl,rfl,rfl,by decide+kernel,rfl,by decide+kernel,by decide+kernel⟩
theorem zo8:GLF zjw "between":=by decide+kernel
theorem zxn:GLF zjw "max":=by decide+kernel
theorem zxm:GLF zjw "min":=by decide+kernel
theorem zeq:Vis (defScope zjw) "one":=Or.inl (by decide+kernel)
theorem zau:Vis (defScope zjw) "other":=Or.inl (by decide+kernel)
abbrev z3h:Stmt:=top 21
theorem zr0:FnScope ["one","other"] ["one","other"] (defScope z3h):=⟨rfl,rfl,rfl,by decide+kernel,rfl,by decide+kernel,by decide+kernel⟩
theorem zkc:GLF z3h "met":=by decide+kernel
theorem za5:Vis (defScope z3h) "one":=Or.inl (by decide+kernel)
theorem zes:Vis (defScope z3h) "other":=Or.inl (by decide+kernel)
abbrev z6d:Stmt:=top 22
theorem zwx:FnScope ["low","high"] ["low","high"] (defScope z6d):=⟨rfl,rfl,rfl,by decide+kernel,rfl,by decide+kernel,by decide+kernel⟩
theorem zbv:Vis (defScope z6d) "high":=Or.inl (by decide+kernel)
theorem zct:Vis (defScope z6d) "low":=Or.inl (by decide+kernel)
abbrev z0r:Stmt:=top 23
theorem sc_stretch_of:FnScope ["word","one","other","below","above"] ["word","one","other"] (defScope z0r):=⟨rfl,rfl,rfl,by decide+kernel,rfl,by decide+kernel,by decide+kernel⟩
theorem z7f:GLF z0r "between":=by decide+kernel
theorem zeb:GLF z0r "joined":=by decide+kernel
theorem zin:GLF z0r "max":=by decide+kernel
theorem zim:GLF z0r "min":=by decide+kernel
theorem z2o:GLF z0r "stretch_of_ends":=by decide+kernel
theorem z7t:GLF z0r "stretch_of_same":=by decide+kernel
theorem ze7:Loc (defScope z0r) "above":=Or.inl (by decide+kernel)
theorem ze6:Loc (defScope z0r) "below":=Or.inl (by decide+kernel)
theorem zdz:Vis (defScope z0r) "above":=Or.inl (by decide+kernel)
theorem zdy:Vis (defScope z0r) "below":=Or.inl (by decide+kernel)
theorem z4g:Vis (defScope z0r) "one":=Or.inl (by decide+kernel)
theorem z1j:Vis (defScope z0r) "other":=Or.inl (by decide+kernel)
theorem z32:Vis (defScope z0r) "word":=Or.inl (by decide+kernel)
abbrev z0n:Stmt:=top 24
theorem sc_stretch_of_same:FnScope ["one","other","is_sure","can_be"] ["one","other"] (defScope z0n):=⟨rfl,rfl,rfl,by decide+kernel,rfl,by decide+kernel,by decide+kernel⟩
theorem zca:GLF z0n "met":=by decide+kernel
theorem z8u:Loc (defScope z0n) "can_be":=Or.inl (by decide+kernel)
theorem z8d:Loc (defScope z0n) "is_sure":=Or.inl (by decide+kernel)
theorem z8t:Vis (defScope z0n) "can_be":=Or.inl (by decide+kernel)
theorem z88:Vis (defScope z0n) "is_sure":=Or.inl (by decide+kernel)
theorem z21:Vis (defScope z0n) "one":=Or.inl (by decide+kernel)
theorem z3g:Vis (defScope z0n) "other":=Or.inl (by decide+kernel)
abbrev z0p:Stmt:=top 25
theorem sc_stretch_of_ends:FnScope ["word","one","other","ends"] ["word","one","other"] (defScope z0p):=⟨rfl,rfl,rfl,by decide+kernel,rfl,by decide+kernel,by decide+kernel⟩
theorem zcc:GLF z0p "max":=by decide+kernel
theorem zcb:GLF z0p "min":=by decide+kernel
theorem zag:Loc (defScope z0p) "ends":=Or.inl (by decide+kernel)
theorem z3m:Vis (defScope z0p) "ends":=Or.inl (by decide+kernel)
theorem z3w:Vis (defScope z0p) "one":=Or.inl (by decide+kernel)
theorem z9f:Vis (defScope z0p) "other":=Or.inr <| Or.inl (by decide+kernel)
abbrev z0v:Stmt:=top 27
theorem zjt:FnScope ["term","book"] ["term","book"] (defScope z0v):=⟨rfl,rfl,rfl,by decide+kernel,rfl,by decide+kernel,by decide+kernel⟩
theorem zd4:GLF z0v "WIDE":=by decide+kernel
theorem zec:GLF z0v "met":=by decide+kernel
theorem z3v:GLF z0v "reckoned_from":=by decide+kernel
theorem z8e:GLF z0v "stretch_of":=by decide+kernel
theorem z4d:Vis (defScope z0v) "book":=Or.inl (by decide+kernel)
theorem z0u:Vis (defScope z0v) "term":=Or.inl (by decide+kernel)
abbrev z4k:Stmt:=top 28
theorem zzb:FnScope ["term","book","is_so"] ["term","book","is_so"] (defScope z4k):=⟨rfl,rfl,rfl,by decide+kernel,rfl,by decide+kernel,by decide+kernel⟩
theorem z9v:GLF z4k "behind_question":=by decide+kernel
theorem zoe:GLF z4k "dict":=by decide+kernel
theorem zcg:GLF z4k "left_of_name":=by decide+kernel
theorem zf8:GLF z4k "with_left":=by decide+kernel
theorem z69:Vis (defScope z4k) "book":=Or.inl (by decide+kernel)
theorem zbw:Vis (defScope z4k) "is_so":=Or.inl (by decide+kernel)
theorem z3p:Vis (defScope z4k) "term":=Or.inl (by decide+kernel)
abbrev z09:Stmt:=top 29
theorem sc_behind_question:FnScope ["term","book","is_so","one","other","left","own"] ["term","book","is_so"] (defScope z09):=⟨rfl,rfl,rfl,by decide+kernel,rfl,by decide+kernel,by decide+kernel⟩
theorem zbj:GLF z09 "dict":=by decide+kernel
theorem z7h:GLF z09 "left_of_one":=by decide+kernel
theorem z6m:GLF z09 "left_of_other":=by decide+kernel
theorem z3k:GLF z09 "reckoned_from":=by decide+kernel
theorem z4l:GLF z09 "with_left":=by decide+kernel
theorem z3t:Loc (defScope z09) "left":=Or.inl (by decide+kernel)
theorem zbb:Loc (defScope z09) "one":=Or.inl (by decide+kernel)
theorem z9p:Loc (defScope z09) "other":=Or.inl (by decide+kernel)
theorem zba:Loc (defScope z09) "own":=Or.inl (by decide+kernel)
theorem z3q:Vis (defScope z09) "book":=Or.inl (by decide+kernel)
theorem z5i:Vis (defScope z09) "is_so":=Or.inl (by decide+kernel)
theorem z1y:Vis (defScope z09) "left":=Or.inl (by decide+kernel)
theorem z41:Vis (defScope z09) "one":=Or.inl (by decide+kernel)
theorem z5h:Vis (defScope z09) "other":=Or.inl (by decide+kernel)
theorem zax:Vis (defScope z09) "own":=Or.inl (by decide+kernel)
theorem z0m:Vis (defScope z09) "term":=Or.inl (by decide+kernel)
abbrev z2e:Stmt:=top 30
theorem sc_with_left:FnScope ["book","name","stretch","left"] ["book","name","stretch"] (defScope z2e):=⟨rfl,rfl,rfl,by decide+kernel,rfl,by decide+kernel,by decide+kernel⟩
theorem zik:GLF z2e "dict":=by decide+kernel
theorem zgd:Loc (defScope z2e) "left":=Or.inl (by decide+kernel)
theorem zfp:Vis (defScope z2e) "book":=Or.inl (by decide+kernel)
theorem z8w:Vis (defScope z2e) "left":=Or.inl (by decide+kernel)
theorem zfo:Vis (defScope z2e) "name":=Or.inl (by decide+kernel)
theorem z79:Vis (defScope z2e) "stretch":=Or.inl (by decide+kernel)
abbrev z1r:Stmt:=top 31
theorem zll:FnScope ["own","is_so"] ["own","is_so"] (defScope z1r):=⟨rfl,rfl,rfl,by decide+kernel,rfl,by decide+kernel,by decide+kernel⟩
theorem zf0:GLF z1r "met":=by decide+kernel
theorem zbg:GLF z1r "without":=by decide+kernel
theorem zc4:Vis (defScope z1r) "is_so":=Or.inl (by decide+kernel)
theorem z59:Vis (defScope z1r) "own":=Or.inl (by decide+kernel)
abbrev z13:Stmt:=top 32
theorem znu:FnScope ["word","own","other","is_so"] ["word","own","other","is_so"] (defScope z13):=⟨rfl,rfl,rfl,by decide+kernel,rfl,by decide+kernel,by decide+kernel⟩
theorem z6r:GLF z13 "between":=by decide+kernel
theorem z8f:GLF z13 "left_by_same":=by decide+kernel
theorem zgt:GLF z13 "max":=by decide+kernel
theorem zgs:GLF z13 "min":=by decide+kernel
theorem z7a:Vis (defScope z13) "is_so":=Or.inl (by decide+kernel)
theorem z4p:Vis (defScope z13) "other":=Or.inl (by decide+kernel)
theorem z33:Vis (defScope z13) "own":=Or.inl (by decide+kernel)
theorem ze1:Vis (defScope z13) "word":=Or.inl (by decide+kernel)
abbrev z0q:Stmt:=top 33
theorem zju:FnScope ["word","own","one","is_so"] ["word","own","one","is_so"] (defScope z0q):=⟨rfl,rfl,rfl,by decide+kernel,rfl,by decide+kernel,by decide+kernel⟩
theorem z5u:GLF z0q "between":=by decide+kernel
theorem z7u:GLF z0q "left_by_same":=by decide+kernel
theorem zee:GLF z0q "max":=by decide+kernel
theorem zed:GLF z0q "min":=by decide+kernel
theorem z65:Vis (defScope z0q) "is_so":=Or.inl (by decide+kernel)
theorem z4o:Vis (defScope z0q) "one":=Or.inl (by decide+kernel)
theorem z2l:Vis (defScope z0q) "own":=Or.inl (by decide+kernel)
theorem zc3:Vis (defScope z0q) "word":=Or.inl (by decide+kernel)
abbrev z1b:Stmt:=top 34
theorem zlm:FnScope ["own","beside","is_so"] ["own","beside","is_so"] (defScope z1b):=⟨rfl,rfl,rfl,by decide+kernel,rfl,by decide+kernel,by decide+kernel⟩
theorem zf1:GLF z1b "met":=by decide+kernel
theorem zbh:GLF z1b "without":=by decide+kernel
theorem z2w:Vis (defScope z1b) "beside":=Or.inl (by decide+kernel)
theorem zc5:Vis (defScope z1b) "is_so":=Or.inl (by decide+kernel)
theorem z5a:Vis (defScope z1b) "own":=Or.inl (by decide+kernel)
abbrev z5k:Stmt:=top 35
theorem zwr:FnScope ["own","worth"] ["own","worth"] (defScope z5k):=⟨rfl,rfl,rfl,by decide+kernel,rfl,by decide+kernel,by decide+kernel⟩
theorem z99:GLF z5k "between":=by decide+kernel
theorem z31:Vis (defScope z5k) "own":=Or.inl (by decide+kernel)
theorem za0:Vis (defScope z5k) "worth":=Or.inl (by decide+kernel)
abbrev z4u:Stmt:=qcc (top 38) 0
theorem zr3:FnScope ["self","heads"] ["self","heads"] (defScope z4u):=⟨rfl,rfl,rfl,by decide+kernel,rfl,by decide+kernel,by decide+kernel⟩
theorem zet:Vis (defScope z4u) "heads":=Or.inl (by decide+kernel)
theorem z6a:Vis (defScope z4u) "self":=Or.inl (by decide+kernel)
abbrev z73:Stmt:=top 39
theorem sc_shown:FnScope ["program","paper","notes"] ["program","paper"] (defScope z73):=⟨rfl,rfl,rfl,by decide+kernel,rfl,by decide+kernel,by decide+kernel⟩
theorem ziq:GLF z73 "notes_by":=by decide+kernel
theorem zmr:GLF z73 "sorted":=by decide+kernel
theorem zma:Loc (defScope z73) "notes":=Or.inr (by decide+kernel)
theorem zkx:Vis (defScope z73) "notes":=Or.inr <| Or.inl (by decide+kernel)
theorem zkw:Vis (defScope z73) "paper":=Or.inl (by decide+kernel)
theorem zhc:Vis (defScope z73) "program":=Or.inl (by decide+kernel)
abbrev z49:Stmt:=top 40
theorem zti:FnScope ["program","thing"] ["program","thing"] (defScope z49):=⟨rfl,rfl,rfl,by decide+kernel,rfl,by decide+kernel,by decide+kernel⟩
theorem z9u:GLF z49 "walk_by_paper":=by decide+kernel
theorem ze4:Vis (defScope z49) "program":=Or.inl (by decide+kernel)
theorem zfu:Vis (defScope z49) "thing":=Or.inl (by decide+kernel)
abbrev z38:Stmt:=top 41
theorem sc_notes_by:FnScope ["program","paper","walk"] ["program","paper"] (defScope z38):=⟨rfl,rfl,rfl,by decide+kernel,rfl,by decide+kernel,by decide+kernel⟩
theorem z9r:GLF z38 "walk_by_paper":=by decide+kernel
theorem zi0:Loc (defScope z38) "walk":=Or.inl (by decide+kernel)
theorem zfr:Vis (defScope z38) "paper":=Or.inl (by decide+kernel)
theorem ze0:Vis (defScope z38) "program":=Or.inl (by decide+kernel)
theorem za2:Vis (defScope z38) "walk":=Or.inl (by decide+kernel)
abbrev z0j:Stmt:=top 42
theorem sc_walk_by_paper:FnScope ["program","thing","heads","walk"] ["program","thing"] (defScope z0j):=⟨rfl,rfl,rfl,by decide+kernel,rfl,by decide+kernel,by decide+kernel⟩
theorem z6k:GLF z0j "are_rising_rows":=by decide+kernel
theorem z9q:GLF z0j "heads_of":=by decide+kernel
theorem zaj:GLF z0j "is_held":=by decide+kernel
theorem z7s:GLF z0j "is_paper_row":=by decide+kernel
theorem zbd:GLF z0j "walked":=by decide+kernel
theorem zb6:Loc (defScope z0j) "heads":=Or.inl (by decide+kernel)
theorem zc9:Loc (defScope z0j) "walk":=Or.inl (by decide+kernel)
theorem z61:Vis (defScope z0j) "heads":=Or.inl (by decide+kernel)
theorem z9e:Vis (defScope z0j) "program":=Or.inl (by decide+kernel)
theorem z60:Vis (defScope z0j) "thing":=Or.inl (by decide+kernel)
theorem z6n:Vis (defScope z0j) "walk":=Or.inl (by decide+kernel)
abbrev z1c:Stmt:=top 43
theorem zlo:FnScope ["thing"] ["thing"] (defScope z1c):=⟨rfl,rfl,rfl,by decide+kernel,rfl,by decide+kernel,by decide+kernel⟩
theorem z75:GLF z1c "are_rising_rows":=by decide+kernel
theorem zbi:GLF z1c "is_path":=by decide+kernel
theorem z85:GLF z1c "is_shelf_row":=by decide+kernel
theorem z8h:GLF z1c "is_tuple_of":=by decide+kernel
theorem z4e:Vis (defScope z1c) "thing":=Or.inl (by decide+kernel)
abbrev z15:Stmt:=top 44
theorem zln:FnScope ["thing"] ["thing"] (defScope z15):=⟨rfl,rfl,rfl,by decide+kernel,rfl,by decide+kernel,by decide+kernel⟩
theorem z5c:GLF z15 "WIDE":=by decide+kernel
theorem z8g:GLF z15 "is_tuple_of":=by decide+kernel
theorem z47:GLF z15 "is_whole_from":=by decide+kernel
theorem z8v:GLF z15 "isinstance":=by decide+kernel
theorem zf4:GLF z15 "str":=by decide+kernel
theorem z2b:Vis (defScope z15) "thing":=Or.inl (by decide+kernel)
abbrev z2f:Stmt:=top 45
theorem sc_heads_of:FnScope ["paper","heads","path","shelf"] ["paper"] (defScope z2f):=⟨rfl,rfl,rfl,by decide+kernel,rfl,by decide+kernel,by decide+kernel⟩
theorem zf5:GLF z2f "book_of":=by decide+kernel
theorem zgl:Loc (defScope z2f) "heads":=Or.inl (by decide+kernel)
theorem zi8:Loc (defScope z2f) "path":=Or.inl (by decide+kernel)
theorem zgk:Loc (defScope z2f) "shelf":=Or.inl (by decide+kernel)
theorem z93:Vis (defScope z2f) "heads":=Or.inl (by decide+kernel)
theorem zfw:Vis (defScope z2f) "paper":=Or.inl (by decide+kernel)
theorem zhj:Vis (defScope z2f) "path":=Or.inl (by decide+kernel)
theorem zfv:Vis (defScope z2f) "shelf":=Or.inl (by decide+kernel)
abbrev z2r:Stmt:=top 46
theorem sc_book_of:FnScope ["shelf","book","name","low","high"] ["shelf"] (defScope z2r):=⟨rfl,rfl,rfl,by decide+kernel,rfl,by decide+kernel,by decide+kernel⟩
theorem zk5:Loc (defScope z2r) "book":=Or.inl (by decide+kernel)
theorem zk4:Loc (defScope z2r) "high":=Or.inl (by decide+kernel)
theorem zmd:Loc (defScope z2r) "low":=Or.inl (by decide+kernel)
theorem zk3:Loc (defScope z2r) "name":=Or.inl (by decide+kernel)
theorem zbu:Vis (defScope z2r) "book":=Or.inl (by decide+kernel)
theorem zjr:Vis (defScope z2r) "high":=Or.inl (by decide+kernel)
theorem zl3:Vis (defScope z2r) "low":=Or.inl (by decide+kernel)
theorem zjq:Vis (defScope z2r) "name":=Or.inl (by decide+kernel)
theorem zhn:Vis (defScope z2r) "shelf":=Or.inl (by decide+kernel)
abbrev z4s:Stmt:=top 47
theorem zwv:FnScope ["wants","heads"] ["wants","heads"] (defScope z4s):=⟨rfl,rfl,rfl,by decide+kernel,rfl,by decide+kernel,by decide+kernel⟩
theorem zob:GLF z4s "all":=by decide+kernel
theorem zak:GLF z4s "sorted":=by decide+kernel
theorem zhi:Vis (defScope z4s) "heads":=Or.inr <| Or.inl (by decide+kernel)
theorem za7:Vis (defScope z4s) "wants":=Or.inr <| Or.inl (by decide+kernel)
abbrev z14:Stmt:=top 48
theorem zhr:FnScope ["one","other"] ["one","other"] (defScope z14):=⟨rfl,rfl,rfl,by decide+kernel,rfl,by decide+kernel,by decide+kernel⟩
theorem zd8:GLF z14 "all":=by decide+kernel
theorem z5v:GLF z14 "sorted":=by decide+kernel
theorem z6o:Vis (defScope z14) "one":=Or.inr <| Or.inl (by decide+kernel)
theorem za8:Vis (defScope z14) "other":=Or.inr <| Or.inl (by decide+kernel)
abbrev z4j:Stmt:=top 49
theorem sc_walked:FnScope ["program","heads","walk"] ["program","heads"] (defScope z4j):=⟨rfl,rfl,rfl,by decide+kernel,rfl,by decide+kernel,by decide+kernel⟩
theorem zo7:GLF z4j "Walk":=by decide+kernel
theorem zil:GLF z4j "book_of":=by decide+kernel
theorem zgp:GLF z4j "go_block":=by decide+kernel
theorem zm9:Loc (defScope z4j) "walk":=Or.inl (by decide+kernel)
theorem zjl:Vis (defScope z4j) "heads":=Or.inl (by decide+kernel)
theorem z8x:Vis (defScope z4j) "program":=Or.inl (by decide+kernel)
theorem zcn:Vis (defScope z4j) "walk":=Or.inl (by decide+kernel)
abbrev z1p:Stmt:=top 50
theorem sc_go_block:FnScope ["block","path","book","walk","at","deed"] ["block","path","book","walk"] (defScope z1p):=⟨rfl,rfl,rfl,by decide+kernel,rfl,by decide+kernel,by decide+kernel⟩
theorem zdb:GLF z1p "enumerate":=by decide+kernel
theorem zf7:GLF z1p "go_deed":=by decide+kernel
theorem zmc:Loc (defScope z1p) "at":=Or.inl (by decide+kernel)
theorem zib:Loc (defScope z1p) "book":=Or.inl (by decide+kernel)
theorem zia:Loc (defScope z1p) "deed":=Or.inl (by decide+kernel)
theorem zl2:Vis (defScope z1p) "at":=Or.inl (by decide+kernel)
theorem zfy:Vis (defScope z1p) "block":=Or.inl (by decide+kernel)
theorem z72:Vis (defScope z1p) "book":=Or.inl (by decide+kernel)
theorem zhm:Vis (defScope z1p) "deed":=Or.inl (by decide+kernel)
theorem zhl:Vis (defScope z1p) "path":=Or.inl (by decide+kernel)
theorem zhk:Vis (defScope z1p) "walk":=Or.inl (by decide+kernel)
abbrev z3d:Stmt:=top 51
theorem zww:FnScope ["deed","path","book","walk"] ["deed","path","book","walk"] (defScope z3d):=⟨rfl,rfl,rfl,by decide+kernel,rfl,by decide+kernel,by decide+kernel⟩
theorem zkg:GLF z3d "go_if":=by decide+kernel
theorem zir:GLF z3d "go_set":=by decide+kernel
theorem zf6:GLF z3d "go_while":=by decide+kernel
theorem z7q:Vis (defScope z3d) "book":=Or.inl (by decide+kernel)
theorem z44:Vis (defScope z3d) "deed":=Or.inl (by decide+kernel)
theorem z7p:Vis (defScope z3d) "path":=Or.inl (by decide+kernel)
theorem z7o:Vis (defScope z3d) "walk":=Or.inl (by decide+kernel)
abbrev z3c:Stmt:=top 52
theorem sc_go_set:FnScope ["deed","path","book","walk","has","end"] ["deed","path","book","walk"] (defScope z3c):=⟨rfl,rfl,rfl,by decide+kernel,rfl,by decide+kernel,by decide+kernel⟩
theorem zod:GLF z3c "dict":=by decide+kernel
theorem zoc:GLF z3c "show":=by decide+kernel
theorem zo4:Loc (defScope z3c) "end":=Or.inl (by decide+kernel)
theorem zo3:Loc (defScope z3c) "has":=Or.inl (by decide+kernel)
theorem zcr:Vis (defScope z3c) "book":=Or.inl (by decide+kernel)
theorem zcq:Vis (defScope z3c) "deed":=Or.inl (by decide+kernel)
theorem zek:Vis (defScope z3c) "end":=Or.inl (by decide+kernel)
theorem zej:Vis (defScope z3c) "has":=Or.inl (by decide+kernel)
theorem zkz:Vis (defScope z3c) "path":=Or.inl (by decide+kernel)
theorem zky:Vis (defScope z3c) "walk":=Or.inl (by decide+kernel)
abbrev z3i:Stmt:=top 53
theorem sc_go_if:FnScope ["deed","path","book","walk","has","one","other"] ["deed","path","book","walk"] (defScope z3i):=⟨rfl,rfl,rfl,by decide+kernel,rfl,by decide+kernel,by decide+kernel⟩
theorem zam:GLF z3i "go_block":=by decide+kernel
theorem zda:GLF z3i "joined_books":=by decide+kernel
theorem zq0:GLF z3i "show":=by decide+kernel
theorem zc0:GLF z3i "side_of":=by decide+kernel
theorem zpt:Loc (defScope z3i) "has":=Or.inl (by decide+kernel)
theorem zps:Loc (defScope z3i) "one":=Or.inl (by decide+kernel)
theorem zmb:Loc (defScope z3i) "other":=Or.inl (by decide+kernel)
theorem z9i:Vis (defScope z3i) "book":=Or.inl (by decide+kernel)
theorem z5g:Vis (defScope z3i) "deed":=Or.inl (by decide+kernel)
theorem zfx:Vis (defScope z3i) "has":=Or.inl (by decide+kernel)
theorem zp5:Vis (defScope z3i) "one":=Or.inl (by decide+kernel)
theorem zl0:Vis (defScope z3i) "other":=Or.inl (by decide+kernel)
theorem z9h:Vis (defScope z3i) "path":=Or.inl (by decide+kernel)
theorem z9g:Vis (defScope z3i) "walk":=Or.inl (by decide+kernel)
abbrev z12:Stmt:=top 54
theorem sc_go_while:FnScope ["deed","path","book","walk","head","has","end"] ["deed","path","book","walk"] (defScope z12):=⟨rfl,rfl,rfl,by decide+kernel,rfl,by decide+kernel,by decide+kernel⟩
theorem zeg:GLF z12 "go_block":=by decide+kernel
theorem zal:GLF z12 "joined_books":=by decide+kernel
theorem zd9:GLF z12 "joined_to":=by decide+kernel
theorem zkf:GLF z12 "show":=by decide+kernel
theorem z8i:GLF z12 "side_of":=by decide+kernel
theorem zk2:Loc (defScope z12) "end":=Or.inl (by decide+kernel)
theorem zk1:Loc (defScope z12) "has":=Or.inl (by decide+kernel)
theorem zi9:Loc (defScope z12) "head":=Or.inl (by decide+kernel)
theorem za9:Vis (defScope z12) "book":=Or.inl (by decide+kernel)
theorem z53:Vis (defScope z12) "deed":=Or.inl (by decide+kernel)
theorem zjp:Vis (defScope z12) "end":=Or.inl (by decide+kernel)
theorem zbt:Vis (defScope z12) "has":=Or.inl (by decide+kernel)
theorem z71:Vis (defScope z12) "head":=Or.inl (by decide+kernel)
theorem z52:Vis (defScope z12) "path":=Or.inl (by decide+kernel)
theorem z51:Vis (defScope z12) "walk":=Or.inl (by decide+kernel)
abbrev z2q:Stmt:=top 55
theorem sc_side_of:FnScope ["term","has","book","is_so","can_be"] ["term","has","book","is_so"] (defScope z2q):=⟨rfl,rfl,rfl,by decide+kernel,rfl,by decide+kernel,by decide+kernel⟩
theorem zd3:GLF z2q "ZERO":=by decide+kernel
theorem zio:GLF z2q "behind":=by decide+kernel
theorem z83:GLF z2q "is_within":=by decide+kernel
theorem zge:Loc (defScope z2q) "can_be":=Or.inl (by decide+kernel)
theorem zjn:Vis (defScope z2q) "book":=Or.inl (by decide+kernel)
theorem zfq:Vis (defScope z2q) "can_be":=Or.inl (by decide+kernel)
theorem zco:Vis (defScope z2q) "has":=Or.inl (by decide+kernel)
theorem za1:Vis (defScope z2q) "is_so":=Or.inl (by decide+kernel)
theorem zjm:Vis (defScope z2q) "term":=Or.inl (by decide+kernel)
abbrev z6p:Stmt:=top 56
theorem sc_show:FnScope ["term","path","book","walk","one","other"] ["term","path","book","walk"] (defScope z6p):=⟨rfl,rfl,rfl,by decide+kernel,rfl,by decide+kernel,by decide+kernel⟩
theorem zbe:GLF z6p "noted":=by decide+kernel
theorem zj8:GLF z6p "show":=by decide+kernel
theorem zgr:GLF z6p "stretch_of":=by decide+kernel
theorem zrn:Loc (defScope z6p) "one":=Or.inl (by decide+kernel)
theorem zo2:Loc (defScope z6p) "other":=Or.inl (by decide+kernel)
theorem zat:Vis (defScope z6p) "book":=Or.inl (by decide+kernel)
theorem ziy:Vis (defScope z6p) "one":=Or.inl (by decide+kernel)
theorem znp:Vis (defScope z6p) "other":=Or.inl (by decide+kernel)
theorem z63:Vis (defScope z6p) "path":=Or.inl (by decide+kernel)
theorem z39:Vis (defScope z6p) "term":=Or.inl (by decide+kernel)
theorem z62:Vis (defScope z6p) "walk":=Or.inl (by decide+kernel)
abbrev z7r:Stmt:=top 57
theorem q2i:FnScope ["stretch","path","walk"] ["stretch","path","walk"] (defScope z7r):=⟨rfl,rfl,rfl,by decide+kernel,rfl,by decide+kernel,by decide+kernel⟩
theorem zpx:GLF z7r "WIDE":=by decide+kernel
theorem zry:GLF z7r "met":=by decide+kernel
theorem znr:Vis (defScope z7r) "path":=Or.inl (by decide+kernel)
theorem z6x:Vis (defScope z7r) "stretch":=Or.inl (by decide+kernel)
theorem znq:Vis (defScope z7r) "walk":=Or.inl (by decide+kernel)
abbrev z0w:Stmt:=top 58
theorem sc_joined_books:FnScope ["one","other","both","name"] ["one","other"] (defScope z0w):=⟨rfl,rfl,rfl,by decide+kernel,rfl,by decide+kernel,by decide+kernel⟩
theorem zce:GLF z0w "joined":=by decide+kernel
theorem zd0:Loc (defScope z0w) "both":=Or.inl (by decide+kernel)
theorem zcz:Loc (defScope z0w) "name":=Or.inl (by decide+kernel)
theorem z7b:Vis (defScope z0w) "both":=Or.inl (by decide+kernel)
theorem z3a:Vis (defScope z0w) "name":=Or.inl (by decide+kernel)
theorem z3l:Vis (defScope z0w) "one":=Or.inl (by decide+kernel)
theorem z36:Vis (defScope z0w) "other":=Or.inl (by decide+kernel)
abbrev z22:Stmt:=top 59
theorem sc_joined_to:FnScope ["book","other","both","name"] ["book","other"] (defScope z22):=⟨rfl,rfl,rfl,by decide+kernel,rfl,by decide+kernel,by decide+kernel⟩
theorem zf3:GLF z22 "joined":=by decide+kernel
theorem zgj:Loc (defScope z22) "both":=Or.inl (by decide+kernel)
theorem zgi:Loc (defScope z22) "name":=Or.inl (by decide+kernel)
theorem z91:Vis (defScope z22) "book":=Or.inl (by decide+kernel)
theorem z90:Vis (defScope z22) "both":=Or.inl (by decide+kernel)
theorem z67:Vis (defScope z22) "name":=Or.inl (by decide+kernel)
theorem zer:Vis (defScope z22) "other":=Or.inl (by decide+kernel)
abbrev z6b:Stmt:=top 63
theorem zwt:FnScope ["bits"] ["bits"] (defScope z6b):=⟨rfl,rfl,rfl,by decide+kernel,rfl,by decide+kernel,by decide+kernel⟩
theorem zk9:GLF z6b "ROOMS":=by decide+kernel
theorem zjo:Vis (defScope z6b) "bits":=Or.inl (by decide+kernel)
abbrev z3r:Stmt:=top 64
theorem sc_plan_by:FnScope ["program","paper","notes"] ["program","paper"] (defScope z3r):=⟨rfl,rfl,rfl,by decide+kernel,rfl,by decide+kernel,by decide+kernel⟩
theorem zez:GLF z3r "notes_by":=by decide+kernel
theorem zkb:GLF z3r "spots":=by decide+kernel
theorem zka:GLF z3r "tuple":=by decide+kernel
theorem zhz:Loc (defScope z3r) "notes":=Or.inr (by decide+kernel)
theorem zhe:Vis (defScope z3r) "paper":=Or.inl (by decide+kernel)
theorem z89:Vis (defScope z3r) "program":=Or.inl (by decide+kernel)
abbrev z1o:Stmt:=top 65
theorem sc_plan_row:FnScope ["path","term","notes","stretch","marks"] ["path","term","notes"] (defScope z1o):=⟨rfl,rfl,rfl,by decide+kernel,rfl,by decide+kernel,by decide+kernel⟩
theorem zbz:GLF z1o "WIDE":=by decide+kernel
theorem zbf:GLF z1o "fewest_bits":=by decide+kernel
theorem z7g:GLF z1o "is_within":=by decide+kernel
theorem zms:GLF z1o "met":=by decide+kernel
theorem z6g:Loc (defScope z1o) "marks":=Or.inl (by decide+kernel)
theorem ze8:Loc (defScope z1o) "stretch":=Or.inl (by decide+kernel)
theorem z64:Vis (defScope z1o) "marks":=Or.inl (by decide+kernel)
theorem z8y:Vis (defScope z1o) "notes":=Or.inl (by decide+kernel)
theorem z6w:Vis (defScope z1o) "path":=Or.inl (by decide+kernel)
theorem z7y:Vis (defScope z1o) "stretch":=Or.inl (by decide+kernel)
theorem zhd:Vis (defScope z1o) "term":=Or.inl (by decide+kernel)
abbrev z1g:Stmt:=top 66
theorem sc_fewest_bits:FnScope ["stretch","bits"] ["stretch"] (defScope z1g):=⟨rfl,rfl,rfl,by decide+kernel,rfl,by decide+kernel,by decide+kernel⟩
theorem z8j:GLF z1g "BITS":=by decide+kernel
theorem zan:GLF z1g "is_within":=by decide+kernel
theorem zcf:GLF z1g "room_of":=by decide+kernel
theorem zea:Loc (defScope z1g) "bits":=Or.inl (by decide+kernel)
theorem z7z:Vis (defScope z1g) "bits":=Or.inl (by decide+kernel)
theorem zav:Vis (defScope z1g) "stretch":=Or.inl (by decide+kernel)
abbrev z48:Stmt:=top 68
theorem ztg:FnScope ["_law_script","_law_k"] ["_law_script","_law_k"] (defScope z48):=⟨rfl,rfl,rfl,by decide+kernel,rfl,by decide+kernel,by decide+kernel⟩
theorem zd6:GLF z48 "len":=by decide+kernel
theorem z3y:Vis (defScope z48) "_law_k":=Or.inl (by decide+kernel)
theorem z1x:Vis (defScope z48) "_law_script":=Or.inl (by decide+kernel)
abbrev z30:Stmt:=top 69
theorem sc_law_pick:FnScope ["_law_script","_law_k","_law_many","_law_drawn"] ["_law_script","_law_k","_law_many"] (defScope z30):=⟨rfl,rfl,rfl,by decide+kernel,rfl,by decide+kernel,by decide+kernel⟩
theorem zd5:GLF z30 "_law_cell":=by decide+kernel
theorem zb7:Loc (defScope z30) "_law_drawn":=Or.inl (by decide+kernel)
theorem z3x:Vis (defScope z30) "_law_drawn":=Or.inl (by decide+kernel)
theorem z8a:Vis (defScope z30) "_law_k":=Or.inl (by decide+kernel)
theorem zc6:Vis (defScope z30) "_law_many":=Or.inl (by decide+kernel)
theorem za3:Vis (defScope z30) "_law_script":=Or.inl (by decide+kernel)
abbrev z28:Stmt:=top 70
theorem sc_law:FnScope ["_law_script","_law_low","_law_wide","_law_high","_law_name","_law_other","_law_deeds","_law_program","_law_plan","_law_goal","_law_deed","_law_asked_about","_law_told","_law_more","_law_great","_law_begin","_law_end","_law_body","_law_around","_law_last","_law_paper"] ["_law_script"] (defScope z28):=⟨rfl,rfl,rfl,by decide+kernel,rfl,by decide+kernel,by decide+kernel⟩
theorem z2p:GLF z28 "_law_pick":=by decide+kernel
theorem zf2:GLF z28 "dict":=by decide+kernel
theorem z6i:GLF z28 "is_paper":=by decide+kernel
theorem zxo:GLF z28 "min":=by decide+kernel
theorem zo9:GLF z28 "plan_by":=by decide+kernel
theorem zrz:GLF z28 "range":=by decide+kernel
theorem zj9:GLF z28 "shown":=by decide+kernel
theorem zgn:(defScope z28).names.lookup ("_law_begin" : Str)=some NameKind.local:=by decide+kernel
theorem zk7:(defScope z28).names.lookup ("_law_end" : Str)=some NameKind.local:=by decide+kernel
theorem zie:(defScope z28).names.lookup ("_law_high" : Str)=some NameKind.local:=by decide+kernel
theorem zk6:(defScope z28).names.lookup ("_law_low" : Str)=some NameKind.local:=by decide+kernel
theorem zid:(defScope z28).names.lookup ("_law_name" : Str)=some NameKind.local:=by decide+kernel
theorem zgm:(defScope z28).names.lookup ("_law_other" : Str)=some NameKind.local:=by decide+kernel
theorem zic:(defScope z28).names.lookup ("_law_wide" : Str)=some NameKind.local:=by decide+kernel
theorem zex:Loc (defScope z28) "_law_around":=Or.inl (by decide+kernel)
theorem zah:Loc (defScope z28) "_law_asked_about":=Or.inl (by decide+kernel)
theorem zi7:Loc (defScope z28) "_law_body":=Or.inl (by decide+kernel)
theorem zi6:Loc (defScope z28) "_law_deed":=Or.inl (by decide+kernel)
theorem zgh:Loc (defScope z28) "_law_deeds":=Or.inl (by decide+kernel)
theorem zi5:Loc (defScope z28) "_law_goal":=Or.inl (by decide+kernel)
theorem zgg:Loc (defScope z28) "_law_great":=Or.inl (by decide+kernel)
theorem zi4:Loc (defScope z28) "_law_last":=Or.inl (by decide+kernel)
theorem zi3:Loc (defScope z28) "_law_more":=Or.inl (by decide+kernel)
theorem zgf:Loc (defScope z28) "_law_paper":=Or.inl (by decide+kernel)
theorem zi2:Loc (defScope z28) "_law_plan":=Or.inl (by decide+kernel)
theorem ze9:Loc (defScope z28) "_law_program":=Or.inl (by decide+kernel)
theorem zi1:Loc (defScope z28) "_law_told":=Or.inl (by decide+kernel)
theorem z5p:Vis (defScope z28) "_law_around":=Or.inl (by decide+kernel)
theorem za4:Vis (defScope z28) "_law_asked_about":=Or.inl (by decide+kernel)
theorem z4h:Vis (defScope z28) "_law_begin":=Or.inl (by decide+kernel)
theorem zhh:Vis (defScope z28) "_law_body":=Or.inl (by decide+kernel)
theorem zhg:Vis (defScope z28) "_law_deed":=Or.inl (by decide+kernel)
theorem zft:Vis (defScope z28) "_law_deeds":=Or.inl (by decide+kernel)
theorem z7n:Vis (defScope z28) "_law_end":=Or.inl (by decide+kernel)
theorem z3o:Vis (defScope z28) "_law_goal":=Or.inl (by decide+kernel)
theorem z8z:Vis (defScope z28) "_law_great":=Or.inl (by decide+kernel)
theorem z3n:Vis (defScope z28) "_law_high":=Or.inl (by decide+kernel)
theorem z70:Vis (defScope z28) "_law_last":=Or.inl (by decide+kernel)
theorem z27:Vis (defScope z28) "_law_low":=Or.inl (by decide+kernel)
theorem z6z:Vis (defScope z28) "_law_more":=Or.inl (by decide+kernel)
theorem z1f:Vis (defScope z28) "_law_name":=Or.inl (by decide+kernel)
theorem zfs:Vis (defScope z28) "_law_other":=Or.inl (by decide+kernel)
theorem z66:Vis (defScope z28) "_law_paper":=Or.inl (by decide+kernel)
theorem z2d:Vis (defScope z28) "_law_plan":=Or.inl (by decide+kernel)
theorem ze2:Vis (defScope z28) "_law_program":=Or.inl (by decide+kernel)
theorem z1w:Vis (defScope z28) "_law_script":=Or.inl (by decide+kernel)
theorem z6y:Vis (defScope z28) "_law_told":=Or.inl (by decide+kernel)
theorem zhf:Vis (defScope z28) "_law_wide":=Or.inl (by decide+kernel)
abbrev q5o(J:It)(g:TG)(tb:TS)(D:Ends)(σ : St)(H:Hp):Prop:=∃W:Nat->Nat->St->Hp->Prop,(∃m,W 0 m σ H)/\∀i m σ H,W i m σ H->
 (J.stop i H/\D.nx σ H)\/(J.go i H/\∃N:St->Hp->Prop,(∀ σ' H',N σ' H'->∃m',m' < m/\W (i+1) m' σ' H')/\∀x H',J.yld i H x H'->g x σ H' fun σ2 H2=>tb {D with nx:=N,ct:=N,bk:=D.nx} σ2 H2)
theorem zpa{K:PySem.W.Frag}{tl:TE}{g:TG}{tb:TS}{D:Ends}{σ : St}{H:Hp}:q27 (qc3 K tl) g tb D σ H=tl σ H fun x H1=>isRf x fun a=>(∃xs,SqT K H1 a xs)/\q5o (Itt K a) g tb D σ H1:=rfl
theorem zl6{K:PySem.W.Frag}{tl:TE}{g:TG}{tb:TS}{D:Ends}{σ : St}{H:Hp}:q27 (q78 K tl) g tb D σ H=tl σ H fun x H1=>isRf x fun a=>(∃xs,SqL K H1 a xs)/\q5o (Itl K a) g tb D σ H1:=rfl
theorem zl5{ta:TA}{g:TG}{tb:TS}{D:Ends}{σ : St}{H:Hp}:q27 (qc4 ta) g tb D σ H=ta σ H fun vs H1=>∃j:Int,vs=[.int j]/\-(2 ^ 62)<=j/\j < 2 ^ 62/\q5o (Itr 0 j.toNat) g tb D σ H1:=rfl
theorem zla{K:PySem.W.Frag}{tl:TE}{g:TG}{tt:TT}{te:TE}{mp:List (Option Nat)}{σ : St}{H:Hp}{Q:VK}:zpb (qc3 K tl) g tt te mp σ H Q=tl σ H fun x H1=>isRf x fun a=>(∃xs,SqT K H1 a xs)/\zfm (Itt K a) g tt te Q (subσ mp σ) H1:=rfl
theorem zho{K:PySem.W.Frag}{tl:TE}{g:TG}{tt:TT}{te:TE}{mp:List (Option Nat)}{σ : St}{H:Hp}{Q:VK}:zpb (q78 K tl) g tt te mp σ H Q=tl σ H fun x H1=>isRf x fun a=>(∃xs,SqL K H1 a xs)/\zfm (Itl K a) g tt te Q (subσ mp σ) H1:=rfl
theorem zlb{tl:TE}{g:TG}{tt:TT}{te:TE}{mp:List (Option Nat)}{σ : St}{H:Hp}{Q:VK}:zpb (qdo tl) g tt te mp σ H Q=tl σ H fun x H1=>∃z,x=.str z/\zfm (Its z) g tt te Q (subσ mp σ) H1:=rfl
inductive Wd where
 | add | sub | mul | quo | less | same | min | max
 deriving DecidableEq
def Wd.str:Wd->Str
 | .add=>"add" | .sub=>"sub" | .mul=>"mul" | .quo=>"quo" | .less=>"less" | .same=>"same" | .min=>"min" | .max=>"max"
inductive T where
 | num (i:Int) | nm (x:Str) | op (w:Wd) (a b:T)
def T.enc:T->Dm
 | .num i=>.tup [.str "num",.int i]
 | .nm x=>.tup [.str "name",.str x]
 | .op w a b=>.tup [.str w.str,a.enc,b.enc]
def T.ok(g:List Str):Nat->T->Prop
 | 0,_=>False
 | _+1,.num i=>-32768<=i/\i<=32767
 | _+1,.nm x=>x∈g
 | n+1,.op _ a b=>T.ok g n a/\T.ok g n b
theorem T.ok.mono{g g':List Str}(hg:∀x∈g,x∈g'):∀{n m:Nat} {t:T},T.ok g n t->n<=m->T.ok g' m t
 | 0,_,_,h,_=>h.elim
 | n+1,0,_,_,h=>absurd h (by omega)
 | n+1,m+1,.num i,h,_=>h
 | n+1,m+1,.nm x,h,_=>hg x h
 | n+1,m+1,.op w a b,h,hm=>⟨T.ok.mono hg h.1 (by omega),T.ok.mono hg h.2 (by omega)⟩
inductive D where
 | set (x:Str) (t:T) | ite (t:T) (b c:List D) | whl (t:T) (m:Int) (b:List D)
mutual
def D.enc:D->Dm
 | .set x t=>.tup [.str "set",.str x,t.enc]
 | .ite t b c=>.tup [.str "if",t.enc,.tup (zko b),.tup (zko c)]
 | .whl t m b=>.tup [.str "while",t.enc,.int m,.tup (zko b)]
def zko:List D->List Dm
 | []=>[]
 | d::r=>d.enc::zko r
end
theorem zfa:∀b:List D,(zko b).length=b.length
 | []=>by simp[zko]
 | d::b=>by rw [zko,List.length_cons,List.length_cons,zfa b]
def zqq:List Str:=["a","b","c","d","dd"]
def okB:Nat->List D->Prop
 | 0,_=>False
 | n+1,b=>b.length<=6/\∀d∈b,match d with
  | .set x t=>x∈zqq/\t.ok zqq 5
  | .ite t b c=>t.ok zqq 5/\okB n b/\okB n c
  | .whl t m b=>t.ok zqq 5/\0<=m/\m<=20/\okB n b
abbrev okD(n:Nat)(d:D):Prop:=match d with
 | .set x t=>x∈zqq/\t.ok zqq 5
 | .ite t b c=>t.ok zqq 5/\okB n b/\okB n c
 | .whl t m b=>t.ok zqq 5/\0<=m/\m<=20/\okB n b
def T.knows(p:List Str):T->Bool
 | .num _=>true
 | .nm x=>p.contains x
 | .op _ a b=>a.knows p && b.knows p
mutual
def kbD(p:List Str):D->Option (List Str)
 | .set x t=>if t.knows p then some (p++[x]) else none
 | .ite t b c=>if t.knows p then(match kbB p b,kbB p c with | some q,some r=>some (q.filter fun x=>r.contains x) | _,_=>none) else none
 | .whl t _ b=>if t.knows p then(match kbB p b with | some _=>some p | none=>none) else none
def kbB(p:List Str):List D->Option (List Str)
 | []=>some p
 | d::r=>match kbD p d with
  | some q=>kbB q r
  | none=>none
end
def Sub(g p:List Str):Prop:=∀x∈g,x∈p
theorem Sub.refl(g:List Str):Sub g g:=fun _ h=>h
theorem Sub.trans{a b c:List Str}(h:Sub a b)(k:Sub b c):Sub a c:=fun x hx=>k x (h x hx)
theorem T.ok.knows{g p:List Str}(hg:Sub g p):∀{n:Nat} {t:T},T.ok g n t->t.knows p=true
 | 0,_,h=>h.elim
 | n+1,.num i,_=>rfl
 | n+1,.nm x,h=>by simpa [T.knows] using hg x h
 | n+1,.op w a b,h=>by simp[T.knows,T.ok.knows hg h.1,T.ok.knows hg h.2]
def Knows(g:List Str)(b:List D)(g':List Str):Prop:=∀p,Sub g p->∃q,kbB p b=some q/\Sub g' q/\Sub p q
def KnowsD(g:List Str)(d:D)(g':List Str):Prop:=∀p,Sub g p->∃q,kbD p d=some q/\Sub g' q/\Sub p q
theorem Knows.nil(g:List Str):Knows g [] g:=fun p h=>⟨p,by simp[kbB],h,Sub.refl p⟩
theorem KnowsD.set{g g':List Str}{x:Str}{t:T}{n:Nat}(ht:t.ok g n)(hs:∀y∈g',y∈g\/y=x):KnowsD g (.set x t) g':=fun p hp=>by
 refine⟨p++[x],by simp[kbD,ht.knows hp],fun y hy=>?_,fun y hy=>List.mem_append_left _ hy⟩
 rcases hs y hy with z | z
 ·exact List.mem_append_left _ (hp y z)
 ·exact List.mem_append_right _ (by simp[z])
theorem KnowsD.ite{g m y g':List Str}{t:T}{b c:List D}{n:Nat}(ht:t.ok g n)(hb:Knows g b m)(hc:Knows g c y)(hs:∀x∈g',x∈m/\x∈y):KnowsD g (.ite t b c) g':=fun p hp=>by
 obtain⟨q,e,s1,s2⟩:=hb p hp
 obtain⟨r,e2,s3,s4⟩:=hc p hp
 refine⟨q.filter fun x=>r.contains x,by simp[kbD,ht.knows hp,e,e2],fun x hx=>?_,fun x hx=>?_⟩
 ·exact List.mem_filter.mpr ⟨s1 x (hs x hx).1,by simpa using s3 x (hs x hx).2⟩
 ·exact List.mem_filter.mpr ⟨s2 x hx,by simpa using s4 x hx⟩
theorem KnowsD.whl{g g1:List Str}{t:T}{m:Int}{b:List D}{n:Nat}(ht:t.ok g n)(hb:Knows g b g1):KnowsD g (.whl t m b) g:=fun p hp=>by
 obtain⟨q,e,s1,s2⟩:=hb p hp
 exact⟨p,by simp[kbD,ht.knows hp,e],hp,Sub.refl p⟩
theorem qag{xs:List V}{k:Int}(h0:0<=k)(h:k < (xs.length:Int)):∃v,xs[k.toNat]?=some v/\atI xs k=some v:=by
 have hk:k.toNat < xs.length:=by omega
 have ek:k=((k.toNat:Nat):Int):=by omega
 refine⟨xs[k.toNat],List.getElem?_eq_getElem hk,?_⟩
 have q:atI xs ((k.toNat:Nat):Int)=some xs[k.toNat]:=z7x (List.getElem?_eq_getElem hk)
 rw [<- ek] at q
 exact q
theorem q1x{α : Type}{c : α->V}{ns:List α}{k:Int}(h0:0<=k)(h:k < (ns.length:Int)):∃v∈ns,atI (ns.map c) k=some (c v):=by
 obtain⟨v,e1,e2⟩:=qag (xs:=ns.map c) h0 (by rw [List.length_map]; exact h)
 rw [List.getElem?_map] at e1
 cases e:ns[k.toNat]? with
 | none=>rw [e] at e1; cases e1
 | some i=>rw [e] at e1; cases e1; exact⟨i,List.mem_of_getElem? e,e2⟩
theorem q9e(ns:List Int):(ns.map V.int).all okV=true:=by simp[okV]
theorem zl(n:Nat)(h:n<=1000):n<=sizeLine:=Nat.le_of_lt (z10 h)
theorem qd2{K:PySem.W.Frag}{H:Hp}{a:Addr}{xs:List V}(h:SqL K H a xs):q82 K (.ref a) H xs.length:=.inl ⟨a,xs,rfl,.inl h,rfl⟩
theorem qdh{K:PySem.W.Frag}{H:Hp}{a:Addr}{xs:List V}(h:SqT K H a xs):q82 K (.ref a) H xs.length:=.inl ⟨a,xs,rfl,.inr h,rfl⟩
theorem qc9{K:PySem.W.Frag}{H:Hp}{a p:Addr}{xs:List V}(h:SqL K H a xs)(ho:xs.all okV=true)(hp:SqL K H p []):qb6 K (.ref a) (.ref p) H xs.isEmpty:=.inr (.inl ⟨a,p,xs,[],rfl,rfl,h,hp,ho,rfl,(q7e xs).symm⟩)
def Wd.worth:Wd->Int->Int->Int
 | .add,a,b=>a+b
 | .sub,a,b=>a - b
 | .mul,a,b=>a * b
 | .quo,a,b=>a.fdiv b
 | .less,a,b=>if a < b then 1 else 0
 | .same,a,b=>if a=b then 1 else 0
 | .min,a,b=>if b < a then b else a
 | .max,a,b=>if b > a then b else a
def Btw(l v h:Int):Prop:=(l<=v/\v<=h)\/(h<=v/\v<=l)
theorem z8n(x y:Int)(hy:y < 0):x.fdiv y=(-x) / (-y):=by
 rw [<- Int.neg_fdiv_neg,Int.fdiv_eq_ediv_of_nonneg _ (by omega)]
theorem z4v{x y z:Int}(hy:0 < y)(h:y<=z):(0<=x->x / z<=x / y)/\(x < 0->x / y<=x / z):=by
 have hz:0 < z:=by omega
 constructor
 ·intro hx
  rw [Int.le_ediv_iff_mul_le hy]
  have h0:0<=x / z:=Int.ediv_nonneg hx (by omega)
  have h1:x / z * y<=x / z * z:=Int.mul_le_mul_of_nonneg_left h h0
  have h2:x / z * z<=x:=Int.ediv_mul_le x (by omega)
  omega
 ·intro hx
  rw [Int.le_ediv_iff_mul_le hz]
  have h0:x / y < 0:=Int.ediv_neg_of_neg_of_pos hx hy
  have h1:x / y * z<=x / y * y:=by
   have:=Int.mul_le_mul_of_nonneg_left h (show 0 <= -(x / y) by omega)
   rw [Int.neg_mul,Int.neg_mul] at this
   omega
  have h2:x / y * y<=x:=Int.ediv_mul_le x (by omega)
  omega
def Sgn(w:Wd)(c d:Int):Prop:=w=.quo->(0 < c\/d < 0)
theorem qdw{w:Wd}(hs:w≠.same){a b x c d y:Int}(h1:a<=x)(h2:x<=b)(h3:c<=y)(h4:y<=d)(hq:Sgn w c d):Btw (w.worth a y) (w.worth x y) (w.worth b y):=by
 cases w<;>simp only[Wd.worth,Btw]
 ·omega
 ·omega
 ·rcases Int.le_total 0 y with h | h
  ·exact .inl ⟨Int.mul_le_mul_of_nonneg_right h1 h,Int.mul_le_mul_of_nonneg_right h2 h⟩
  ·exact .inr ⟨Int.mul_le_mul_of_nonpos_right h2 h,Int.mul_le_mul_of_nonpos_right h1 h⟩
 ·rcases hq rfl with h | h
  ·have hy:0 < y:=by omega
   rw [Int.fdiv_eq_ediv_of_nonneg _ (by omega),Int.fdiv_eq_ediv_of_nonneg _ (by omega),Int.fdiv_eq_ediv_of_nonneg _ (by omega)]
   exact .inl ⟨Int.ediv_le_ediv hy h1,Int.ediv_le_ediv hy h2⟩
  ·have hy:y < 0:=by omega
   rw [z8n _ _ hy,z8n _ _ hy,z8n _ _ hy]
   exact .inr ⟨Int.ediv_le_ediv (by omega) (by omega),Int.ediv_le_ediv (by omega) (by omega)⟩
 ·right; constructor<;>(repeat' split)<;>omega
 ·exact absurd rfl hs
 ·left; constructor<;>(repeat' split)<;>omega
 ·left; constructor<;>(repeat' split)<;>omega
theorem qd8{w:Wd}(hs:w≠.same){x c d y:Int}(h3:c<=y)(h4:y<=d)(hq:Sgn w c d):Btw (w.worth x c) (w.worth x y) (w.worth x d):=by
 cases w<;>simp only[Wd.worth,Btw]
 ·omega
 ·omega
 ·rcases Int.le_total 0 x with h | h
  ·exact .inl ⟨Int.mul_le_mul_of_nonneg_left h3 h,Int.mul_le_mul_of_nonneg_left h4 h⟩
  ·exact .inr ⟨Int.mul_le_mul_of_nonpos_left h h4,Int.mul_le_mul_of_nonpos_left h h3⟩
 ·rcases hq rfl with h | h
  ·rw [Int.fdiv_eq_ediv_of_nonneg _ (by omega),Int.fdiv_eq_ediv_of_nonneg _ (by omega),Int.fdiv_eq_ediv_of_nonneg _ (by omega)]
   rcases(show x < 0\/0<=x by omega) with hx | hx
   ·exact .inl ⟨(z4v (by omega) h3).2 hx,(z4v (by omega) h4).2 hx⟩
   ·exact .inr ⟨(z4v (by omega) h4).1 hx,(z4v (by omega) h3).1 hx⟩
  ·rw [z8n _ _ (by omega),z8n _ _ (by omega),z8n _ _ (by omega)]
   rcases(show -x < 0\/0 <= -x by omega) with hx | hx
   ·exact .inr ⟨(z4v (by omega) (by omega)).2 hx,(z4v (by omega) (by omega)).2 hx⟩
   ·exact .inl ⟨(z4v (by omega) (by omega)).1 hx,(z4v (by omega) (by omega)).1 hx⟩
 ·left; constructor<;>(repeat' split)<;>omega
 ·exact absurd rfl hs
 ·left; constructor<;>(repeat' split)<;>omega
 ·left; constructor<;>(repeat' split)<;>omega
abbrev S:=Option (Int×Int)
def Val(w:Wd)(a b c d v:Int):Prop:=∃x y,a<=x/\x<=b/\c<=y/\y<=d/\(w=.quo->y≠0)/\v=w.worth x y
def ValE(w:Wd)(a b c d v:Int):Prop:=∃x y,(x=a\/x=b)/\(y=c\/y=d\/y = -1\/y=1)/\a<=x/\x<=b/\c<=y/\y<=d/\(w=.quo->y≠0)/\v=w.worth x y
def IsS(w:Wd)(a b c d:Int)(r:S):Prop:=match r with
 | none=>∀v,¬ Val w a b c d v
 | some (lo,hi)=>Val w a b c d lo/\Val w a b c d hi/\(∀v,Val w a b c d v->lo<=v/\v<=hi)/\(w≠.same->ValE w a b c d lo/\ValE w a b c d hi)
theorem ValE.val{w:Wd}{a b c d v:Int}(h:ValE w a b c d v):Val w a b c d v:=by
 obtain⟨x,y,_,_,h1,h2,h3,h4,h5,h6⟩:=h
 exact⟨x,y,h1,h2,h3,h4,h5,h6⟩
theorem Val.mono{w:Wd}{a b c d a' b' c' d' v:Int}(h:Val w a b c d v)(h1:a'<=a)(h2:b<=b')(h3:c'<=c)(h4:d<=d'):Val w a' b' c' d' v:=by
 obtain⟨x,y,k1,k2,k3,k4,k5,k6⟩:=h
 exact⟨x,y,by omega,by omega,by omega,by omega,k5,k6⟩
theorem IsS.unique{w:Wd}{a b c d:Int}{r r':S}(h:IsS w a b c d r)(h':IsS w a b c d r'):r=r':=by
 match r,r',h,h' with
 | none,none,_,_=>rfl
 | none,some (lo,hi),h,h'=>exact absurd h'.1 (h lo)
 | some (lo,hi),none,h,h'=>exact absurd h.1 (h' lo)
 | some (lo,hi),some (lo',hi'),h,h'=>
  have e1:=h.2.2.1 _ h'.1
  have e2:=h.2.2.1 _ h'.2.1
  have e3:=h'.2.2.1 _ h.1
  have e4:=h'.2.2.1 _ h.2.1
  have:lo=lo':=by omega
  have:hi=hi':=by omega
  subst_vars; rfl
structure Hull(ns:List Int)(lo hi:Int):Prop where
 l:lo∈ns
 h:hi∈ns
 all:∀a∈ns,lo<=a/\a<=hi
def z34(w:Wd)(a b c d:Int):List Int:=[w.worth a c,w.worth b c,w.worth a d,w.worth b d]
theorem q42{w:Wd}(hs:w≠.same){a b c d lo hi:Int}(hcd:c<=d)(hq:Sgn w c d)(h:Hull (z34 w a b c d) lo hi){v:Int}(hv:Val w a b c d v):lo<=v/\v<=hi:=by
 obtain⟨x,y,h1,h2,h3,h4,_,rfl⟩:=hv
 have k1:=h.all (w.worth a c) (by simp[z34])
 have k2:=h.all (w.worth b c) (by simp[z34])
 have k3:=h.all (w.worth a d) (by simp[z34])
 have k4:=h.all (w.worth b d) (by simp[z34])
 have e:=qdw hs h1 h2 h3 h4 hq
 have ea:=qd8 hs (x:=a) h3 h4 hq
 have eb:=qd8 hs (x:=b) h3 h4 hq
 simp only[Btw] at e ea eb
 omega
theorem zdv{w:Wd}{a b c d v:Int}(hab:a<=b)(hcd:c<=d)(hq:Sgn w c d)(h:v∈z34 w a b c d):ValE w a b c d v:=by
 have hc:w=.quo->c≠0:=fun e=>by rcases hq e with z | z<;>omega
 have hd:w=.quo->d≠0:=fun e=>by rcases hq e with z | z<;>omega
 simp only[z34,List.mem_cons,List.not_mem_nil,or_false] at h
 rcases h with rfl | rfl | rfl | rfl
 ·exact⟨a,c,.inl rfl,.inl rfl,Int.le_refl _,hab,Int.le_refl _,hcd,hc,rfl⟩
 ·exact⟨b,c,.inr rfl,.inl rfl,hab,Int.le_refl _,Int.le_refl _,hcd,hc,rfl⟩
 ·exact⟨a,d,.inl rfl,.inr (.inl rfl),Int.le_refl _,hab,hcd,Int.le_refl _,hd,rfl⟩
 ·exact⟨b,d,.inr rfl,.inr (.inl rfl),hab,Int.le_refl _,hcd,Int.le_refl _,hd,rfl⟩
theorem zbk{w:Wd}(hs:w≠.same){a b c d lo hi:Int}(hab:a<=b)(hcd:c<=d)(hq:Sgn w c d)(h:Hull (z34 w a b c d) lo hi):IsS w a b c d (some (lo,hi)):=
 ⟨(zdv hab hcd hq h.l).val,(zdv hab hcd hq h.h).val,fun _ hv=>q42 hs hcd hq h hv,fun _=>⟨zdv hab hcd hq h.l,zdv hab hcd hq h.h⟩⟩
def bet(l h:Int):S:=if l > h then none else some (l,h)
def mn(i j:Int):Int:=if j < i then j else i
def mx(i j:Int):Int:=if j > i then j else i
def q5d:S->S->S
 | none,y=>y
 | x,none=>x
 | some (a,b),some (c,d)=>some (mn a c,mx b d)
def zev:S->S->S
 | none,_=>none
 | _,none=>none
 | some (a,b),some (c,d)=>bet (mx a c) (mn b d)
def z2k(x y:S):Bool:=decide (zev x y=x)
def IsE(w:Wd)(a b:Int)(o r:S):Prop:=match o with
 | none=>r=none
 | some (c,d)=>∃lo hi,r=some (lo,hi)/\Hull (z34 w a b c d) lo hi
theorem zze{a b c d:Int}(hab:a<=b)(hcd:c<=d){r1 r2:S}(h1:IsE .quo a b (bet c (mn d (-1))) r1)(h2:IsE .quo a b (bet (mx c 1) d) r2):IsS .quo a b c d (q5d r1 r2):=by
 have hmn:mn d (-1)<=d/\mn d (-1) <= -1/\(mn d (-1)=d\/mn d (-1) = -1):=by unfold mn; split<;>omega
 have hmx:c<=mx c 1/\1<=mx c 1/\(mx c 1=c\/mx c 1=1):=by unfold mx; split<;>omega
 have split:∀v,Val .quo a b c d v->Val .quo a b c (mn d (-1)) v\/Val .quo a b (mx c 1) d v:=by
  rintro v ⟨x,y,k1,k2,k3,k4,k5,k6⟩
  have:=k5 rfl
  rcases Int.lt_or_gt_of_ne this with z | z
  ·exact .inl ⟨x,y,k1,k2,k3,by unfold mn; split<;>omega,k5,k6⟩
  ·exact .inr ⟨x,y,k1,k2,by unfold mx; split<;>omega,k4,k5,k6⟩
 have e1:∀v,Val .quo a b c (mn d (-1)) v->Val .quo a b c d v:=fun v h=>h.mono (Int.le_refl _) (Int.le_refl _) (Int.le_refl _) hmn.1
 have e2:∀v,Val .quo a b (mx c 1) d v->Val .quo a b c d v:=fun v h=>h.mono (Int.le_refl _) (Int.le_refl _) hmx.1 (Int.le_refl _)
 have f1:∀v,ValE .quo a b c (mn d (-1)) v->ValE .quo a b c d v:=by
  rintro v ⟨x,y,k1,k2,k3,k4,k5,k6,k7⟩
  exact⟨x,y,k1,by omega,k3,k4,k5,by omega,k7⟩
 have f2:∀v,ValE .quo a b (mx c 1) d v->ValE .quo a b c d v:=by
  rintro v ⟨x,y,k1,k2,k3,k4,k5,k6,k7⟩
  exact⟨x,y,k1,by omega,k3,k4,by omega,k6,k7⟩
 have g1:∀v,c > mn d (-1)->¬ Val .quo a b c (mn d (-1)) v:=by
  rintro v h ⟨x,y,k1,k2,k3,k4,_⟩; omega
 have g2:∀v,mx c 1 > d->¬ Val .quo a b (mx c 1) d v:=by
  rintro v h ⟨x,y,k1,k2,k3,k4,_⟩; omega
 by_cases q1:c > mn d (-1)
 ·rw [show bet c (mn d (-1))=none from if_pos q1] at h1
  have hr1:r1=none:=h1
  subst hr1
  by_cases q2:mx c 1 > d
  ·rw [show bet (mx c 1) d=none from if_pos q2] at h2
   have hr2:r2=none:=h2
   subst hr2
   intro v hv
   rcases split v hv with z | z
   ·exact g1 v q1 z
   ·exact g2 v q2 z
  ·rw [show bet (mx c 1) d=some (mx c 1,d) from if_neg q2] at h2
   obtain⟨lo,hi,rfl,hh⟩:=h2
   have I:=zbk (w:=.quo) (fun z=>nomatch z) hab (by omega) (fun _=>.inl (by omega)) hh
   refine⟨e2 _ I.1,e2 _ I.2.1,fun v hv=>?_,fun n=>⟨f2 _ (I.2.2.2 n).1,f2 _ (I.2.2.2 n).2⟩⟩
   rcases split v hv with z | z
   ·exact absurd z (g1 v q1)
   ·exact I.2.2.1 v z
 ·rw [show bet c (mn d (-1))=some (c,mn d (-1)) from if_neg q1] at h1
  obtain⟨lo,hi,rfl,hh⟩:=h1
  have I:=zbk (w:=.quo) (fun z=>nomatch z) hab (by omega) (fun _=>.inr (by omega)) hh
  by_cases q2:mx c 1 > d
  ·rw [show bet (mx c 1) d=none from if_pos q2] at h2
   have hr2:r2=none:=h2
   subst hr2
   refine⟨e1 _ I.1,e1 _ I.2.1,fun v hv=>?_,fun n=>⟨f1 _ (I.2.2.2 n).1,f1 _ (I.2.2.2 n).2⟩⟩
   rcases split v hv with z | z
   ·exact I.2.2.1 v z
   ·exact absurd z (g2 v q2)
  ·rw [show bet (mx c 1) d=some (mx c 1,d) from if_neg q2] at h2
   obtain⟨lo',hi',rfl,hh'⟩:=h2
   have J:=zbk (w:=.quo) (fun z=>nomatch z) hab (by omega) (fun _=>.inl (by omega)) hh'
   have p1:mn lo lo'=lo\/mn lo lo'=lo':=by unfold mn; split<;>omega
   have p2:mx hi hi'=hi\/mx hi hi'=hi':=by unfold mx; split<;>omega
   have p3:mn lo lo'<=lo/\mn lo lo'<=lo':=by unfold mn; split<;>omega
   have p4:hi<=mx hi hi'/\hi'<=mx hi hi':=by unfold mx; split<;>omega
   refine⟨?_,?_,fun v hv=>?_,fun n=>⟨?_,?_⟩⟩
   ·rcases p1 with z | z<;>rw [z]
    ·exact e1 _ I.1
    ·exact e2 _ J.1
   ·rcases p2 with z | z<;>rw [z]
    ·exact e1 _ I.2.1
    ·exact e2 _ J.2.1
   ·rcases split v hv with z | z
    ·have:=I.2.2.1 v z; omega
    ·have:=J.2.2.1 v z; omega
   ·rcases p1 with z | z<;>rw [z]
    ·exact f1 _ (I.2.2.2 n).1
    ·exact f2 _ (J.2.2.2 n).1
   ·rcases p2 with z | z<;>rw [z]
    ·exact f1 _ (I.2.2.2 n).2
    ·exact f2 _ (J.2.2.2 n).2
theorem q2j{a b c d:Int}(hab:a<=b)(hcd:c<=d):IsS .same a b c d (some (if(a=c/\b=d)/\a=b then 1 else 0,if zev (some (a,b)) (some (c,d))≠none then 1 else 0)):=by
 have hm:(zev (some (a,b)) (some (c,d))≠none)↔(a<=d/\c<=b):=by
  show bet (mx a c) (mn b d)≠none↔_
  unfold bet mx mn
  constructor
  ·intro h
   by_cases q:(if c > a then c else a) > (if d < b then d else b)
   ·rw [if_pos q] at h; exact absurd rfl h
   ·revert q; (repeat' split)<;>omega
  ·intro h
   rw [if_neg]
   ·exact fun z=>nomatch z
   ·(repeat' split)<;>omega
 refine⟨?_,?_,?_,fun n=>absurd rfl n⟩
 ·by_cases q:(a=c/\b=d)/\a=b
  ·rw [if_pos q]
   exact⟨a,c,Int.le_refl _,hab,Int.le_refl _,hcd,(fun z=>nomatch z),by simp only[Wd.worth]; rw [if_pos q.1.1]⟩
  ·rw [if_neg q]
   by_cases k:a=c
   ·by_cases k2:b=d
    ·exact⟨a,d,Int.le_refl _,hab,hcd,Int.le_refl _,(fun z=>nomatch z),by simp only[Wd.worth]; rw [if_neg]; omega⟩
    ·by_cases k3:a=b
     ·exact⟨a,d,Int.le_refl _,hab,hcd,Int.le_refl _,(fun z=>nomatch z),by simp only[Wd.worth]; rw [if_neg]; omega⟩
     ·exact⟨b,c,hab,Int.le_refl _,Int.le_refl _,hcd,(fun z=>nomatch z),by simp only[Wd.worth]; rw [if_neg]; omega⟩
   ·exact⟨a,c,Int.le_refl _,hab,Int.le_refl _,hcd,(fun z=>nomatch z),by simp only[Wd.worth]; rw [if_neg k]⟩
 ·by_cases q:zev (some (a,b)) (some (c,d))≠none
  ·rw [if_pos q]
   have q2:=hm.mp q
   by_cases k:a<=c
   ·exact⟨c,c,by omega,by omega,by omega,by omega,(fun z=>nomatch z),by simp[Wd.worth]⟩
   ·exact⟨a,a,by omega,by omega,by omega,by omega,(fun z=>nomatch z),by simp[Wd.worth]⟩
  ·rw [if_neg q]
   refine⟨a,c,by omega,by omega,by omega,by omega,(fun z=>nomatch z),?_⟩
   simp only[Wd.worth]
   rw [if_neg]
   intro k
   exact q (hm.mpr (by omega))
 ·rintro v ⟨x,y,k1,k2,k3,k4,_,rfl⟩
  simp only[Wd.worth]
  by_cases q:(a=c/\b=d)/\a=b
  ·have:x=y:=by omega
   rw [if_pos q,if_pos this,if_pos (hm.mpr (by omega))]
   omega
  ·rw [if_neg q]
   by_cases k:x=y
   ·rw [if_pos k,if_pos (hm.mpr (by omega))]; omega
   ·rw [if_neg k]; split<;>omega
def rng(lo:Int)(n:Nat):List Int:=(List.range n).map fun(i:Nat)=>lo+(i:Int)
theorem q1f(CX:CXT)(P:Program)(w:World)(K:PySem.W.Frag)(mg:Str->Option Value)(base:Heap)(N:List Str)(qual:Str)(scope:Scope)(f:Addr)(cd:Value)(A:Around)(outer:List Env)(s:Shared)(H:Hp)(E:XK):(zt3 CX P w K mg base N qual scope f cd A outer s H E).K=K:=rfl
theorem ziv(CX:CXT)(P:Program)(w:World)(K:PySem.W.Frag)(mg:Str->Option Value)(base:Heap)(N:List Str)(qual:Str)(scope:Scope)(f:Addr)(cd:Value)(A:Around)(outer:List Env)(s:Shared)(H:Hp)(E:XK):(zt3 CX P w K mg base N qual scope f cd A outer s H E).nox.K=K:=rfl
theorem zqd(X:Cx)(N':List Str)(scope:Scope)(cl:List (Str×Addr))(C:Addr)(s₀:Shared)(H₀:Hp)(ex:List Addr):(z5y X N' scope cl C s₀ H₀ ex).K=X.K:=rfl
theorem zl7{K:PySem.W.Frag}{ta:TA}{g:TG}{tb:TS}{D:Ends}{σ : St}{H:Hp}:q27 (qc5 K ta) g tb D σ H=ta σ H fun vs H1=>∃a,vs=[.ref a]/\(∃xs,SqL K H1 a xs)/\q5o (Ite K a) g tb D σ H1:=rfl
theorem zp9{K:PySem.W.Frag}{ta:TA}{g:TG}{tb:TS}{D:Ends}{σ : St}{H:Hp}:q27 (qdn K ta) g tb D σ H=ta σ H fun vs H1=>∃a b,vs=[.ref a,.ref b]/\(∃xs,SqL K H1 a xs)/\(∃ys,SqL K H1 b ys)/\q5o (Itz K a b) g tb D σ H1:=rfl
theorem zl4{ta:TA}{g:TG}{tb:TS}{D:Ends}{σ : St}{H:Hp}:q27 (q9t ta) g tb D σ H=ta σ H fun vs H1=>∃i j:Int,vs=[.int i,.int j]/\(-(2 ^ 62)<=i/\i < 2 ^ 62/\-(2 ^ 62)<=j/\j < 2 ^ 62)/\q5o (Itr i (j - i).toNat) g tb D σ H1:=rfl
theorem zlc{K:PySem.W.Frag}{tl:TE}{g:TG}{tt:TT}{te:TE}{mp:List (Option Nat)}{σ : St}{H:Hp}{Q:VK}:zpb (qdp K tl) g tt te mp σ H Q=tl σ H fun x H1=>∃a,x=.ref a/\(((∃xs,SqL K H1 a xs)/\zfm (Itl K a) g tt te Q (subσ mp σ) H1)\/((∃xs,SqT K H1 a xs)/\zfm (Itt K a) g tt te Q (subσ mp σ) H1)):=rfl
theorem q1d(CX:CXT)(P:Program)(w:World)(K:PySem.W.Frag)(mg:Str->Option Value)(base:Heap)(N:List Str)(qual:Str)(scope:Scope)(f:Addr)(cd:Value)(A:Around)(outer:List Env)(s:Shared)(H:Hp)(E:XK):(zt3 CX P w K mg base N qual scope f cd A outer s H E).prog=P:=rfl
theorem qa4(CX:CXT)(P:Program)(w:World)(K:PySem.W.Frag)(mg:Str->Option Value)(base:Heap)(N:List Str)(qual:Str)(scope:Scope)(f:Addr)(cd:Value)(A:Around)(outer:List Env)(s:Shared)(H:Hp)(E:XK):(zt3 CX P w K mg base N qual scope f cd A outer s H E).w=w:=rfl
theorem zqb(CX:CXT)(P:Program)(w:World)(K:PySem.W.Frag)(mg:Str->Option Value)(base:Heap)(N:List Str)(qual:Str)(scope:Scope)(f:Addr)(cd:Value)(A:Around)(outer:List Env)(s:Shared)(H:Hp)(E:XK):(zt3 CX P w K mg base N qual scope f cd A outer s H E).nox.prog=P:=rfl
theorem zxz(CX:CXT)(P:Program)(w:World)(K:PySem.W.Frag)(mg:Str->Option Value)(base:Heap)(N:List Str)(qual:Str)(scope:Scope)(f:Addr)(cd:Value)(A:Around)(outer:List Env)(s:Shared)(H:Hp)(E:XK):(zt3 CX P w K mg base N qual scope f cd A outer s H E).nox.w=w:=rfl
theorem q7l(CX:CXT)(P:Program)(w:World)(K:PySem.W.Frag)(mg:Str->Option Value)(base:Heap)(N:List Str)(qual:Str)(scope:Scope)(f:Addr)(cd:Value)(A:Around)(outer:List Env)(s:Shared)(H:Hp)(E:XK):(zt3 CX P w K mg base N qual scope f cd A outer s H E).mg=mg:=rfl
theorem zug(CX:CXT)(P:Program)(w:World)(K:PySem.W.Frag)(mg:Str->Option Value)(base:Heap)(N:List Str)(qual:Str)(scope:Scope)(f:Addr)(cd:Value)(A:Around)(outer:List Env)(s:Shared)(H:Hp)(E:XK):(zt3 CX P w K mg base N qual scope f cd A outer s H E).nox.mg=mg:=rfl
theorem q1e(CX:CXT)(P:Program)(w:World)(K:PySem.W.Frag)(mg:Str->Option Value)(base:Heap)(N:List Str)(qual:Str)(scope:Scope)(f:Addr)(cd:Value)(A:Around)(outer:List Env)(s:Shared)(H:Hp)(E:XK):(zt3 CX P w K mg base N qual scope f cd A outer s H E).base=base:=rfl
theorem zqc(CX:CXT)(P:Program)(w:World)(K:PySem.W.Frag)(mg:Str->Option Value)(base:Heap)(N:List Str)(qual:Str)(scope:Scope)(f:Addr)(cd:Value)(A:Around)(outer:List Env)(s:Shared)(H:Hp)(E:XK):(zt3 CX P w K mg base N qual scope f cd A outer s H E).nox.base=base:=rfl
theorem zuh(X:Cx)(N':List Str)(scope:Scope)(cl:List (Str×Addr))(C:Addr)(s₀:Shared)(H₀:Hp)(ex:List Addr):(z5y X N' scope cl C s₀ H₀ ex).prog=X.prog:=rfl
theorem q4d(X:Cx)(N':List Str)(scope:Scope)(cl:List (Str×Addr))(C:Addr)(s₀:Shared)(H₀:Hp)(ex:List Addr):(z5y X N' scope cl C s₀ H₀ ex).w=X.w:=rfl
theorem q1g(X:Cx)(N':List Str)(scope:Scope)(cl:List (Str×Addr))(C:Addr)(s₀:Shared)(H₀:Hp)(ex:List Addr):(z5y X N' scope cl C s₀ H₀ ex).mg=X.mg:=rfl
theorem zui(X:Cx)(N':List Str)(scope:Scope)(cl:List (Str×Addr))(C:Addr)(s₀:Shared)(H₀:Hp)(ex:List Addr):(z5y X N' scope cl C s₀ H₀ ex).base=X.base:=rfl
theorem zwk{K:PySem.W.Frag}{ta:TA}{g:TG}{tt:TT}{te:TE}{mp:List (Option Nat)}{σ : St}{H:Hp}{Q:VK}:zpb (q9s K ta) g tt te mp σ H Q=ta σ H fun vs H1=>∃a b,vs=[.ref a,.ref b]/\(∃xs,SqT K H1 a xs)/\(∃ys,SqT K H1 b ys)/\zfm (qai K a b) g tt te Q (subσ mp σ) H1:=rfl
local macro_rules | `(tactic| walk_at "rd")=>`(tactic| simp only[↓q7w,↓q7v,↓zut,↓zus,↓zz8,↓zz7,↓zpe,↓zpd,↓zpg,↓zpf,↓q77,↓q0i,↓q0g,q76,q0h,q0f,q7u,zlk,qbd,qbc,q62,qbz,qby,qc1,qc0,qcj,qci,q8j,zt6,zyi,tOp,zuy,tC,q8m,zci,q7b,zq2,q88,q8k,q5w,q28,zyk,tCB,zl9,q5x,zta,tUn,rU,rI0,rI,q85,tOr,qam,tB,q2a,qb9,q25,tIf,qba,q26,zv2,q29,zv1,q2l,zv0,q5z,zqw,q60,tSl,zp8,q24,qat,zt9,zzf,q6f,q2u,zl7,zp9,zl4,zlc,qal,qan,tBM,
 qEq,qNe,qIn,zzh,qaz,q2s,qb0,q2t,qay,q2x,qb1,qax,q2v,q2w,zzg,rIx,q8w,zwz,q8v,qav,zoq,qbm,q6c,qbn,q8u,zpi,zph,zuz,zyn,q5v,
 zpa,zl6,zl5,zla,zho,zlb,q1f,ziv,zqd,Nat.reduceAdd,Nat.reduceSub,Nat.add_zero,Nat.sub_zero,Nat.add_sub_cancel,
 List.getElem?_cons_zero,List.getElem?_cons_succ,List.set_cons_zero,List.set_cons_succ,List.cons.injEq,Option.some.injEq,V.int.injEq,V.ref.injEq,V.str.injEq,V.bl.injEq,V.ty.injEq,
 reduceCtorEq,false_and,and_false,and_true,true_and,exists_false,exists_const,false_or,or_false,exists_eq_left,exists_eq_left',exists_eq_right,exists_eq_right',exists_and_left,decide_eq_true_eq,Bool.not_eq_true',Bool.decide_eq_true,exists_eq,true_or,or_true,Bool.false_eq_true,if_true,if_false,Bool.true_eq_false,Bool.not_true,Bool.not_false,decide_true,decide_false,List.isEmpty_cons,List.isEmpty_nil,Bool.true_and,Bool.false_and,bne_self_eq_false,beq_self_eq_true])
section
variable{P:Program}{w:World}{K:PySem.W.Frag}{mg:Str->Option Value}{base:Heap}{f:Addr}{fd:FuncData}
def q4x(K:PySem.W.Frag):Sp:=fun vs H Q _=>∃(a:Addr) (ns:List Int) (k:Int),vs=[.ref a,.int k]/\SqL K H a (ns.map V.int)/\0<=k/\∀(i:Int) (H':Hp),Same H H'->Q (.int i) H'
theorem q6x(F:Fun K "_law_cell" "_law_cell" z48 f fd) (b_len:mg "len" = none):FnOk P w K mg base CX0 1 f fd ["_law_script","_law_k"] (q4x K):=by
 refine F.ok ztg (fun vs H Q E h=>?_) (fun cdv A outer s H vs Q E hr h=>?_)
 ·obtain⟨a,ns,k,rfl,_⟩:=h
  rfl
 obtain⟨a,ns,k,rfl,hS,h0,q⟩:=h
 refine⟨_,(z01 (z1k (z0d q98 (z00 (i:=1) rfl z3y zaq zar) (z54 qc7 zd6 b_len q1t (z07 (z00 (i:=0) rfl z1x z16 z17) pa_nil) zzz q13) (z0f _)) (z05 (z08 (z0i ix_list (z00 (i:=0) rfl z1x z16 z17) (z00 (i:=1) rfl z3y zaq zar) (fun _ _=>rfl)))) z0e)
 (z01 (z1k (z0d (gEq hr.units) (z00 (i:=0) rfl z1x z16 z17) (zj3 pa_nil) (z0f _)) (z05 (z08 z03)) z0e)
 (z05 (z08 (z2g z82 (z2g zrd (z0i ix_list (z00 (i:=0) rfl z1x z16 z17) (z2g zvd (z00 (i:=1) rfl z3y zaq zar) (z54 qc7 zd6 b_len q1t (z07 (z00 (i:=0) rfl z1x z16 z17) pa_nil) zzz q13)) (fun _ _=>rfl)) z03) (z00 (i:=1) rfl z3y zaq zar)))))),?_⟩
 walk_at "rd"
 refine⟨_,qd2 hS,?_⟩
 rw [List.length_map]
 split
 ·rename_i hk
  obtain⟨i,_,e⟩:=q1x (c:=V.int) h0 hk
  exact⟨_,hS,_,e,q i H (Same.refl _)⟩
 ·refine⟨Nat.zero_le _,fun p hp=>?_⟩
  have s1:=z06 hp (.lst [])
  refine⟨_,qc9 (s1.seq hS) (q9e ns) (SqL.of z02),?_⟩
  split
  ·exact q 0 _ s1
  ·rename_i hne
   have hl:0 < (ns.length:Int):=by
    cases ns with
    | nil=>exact absurd rfl hne
    | cons a r=>simp only[List.length_cons]; omega
   obtain⟨i,_,e⟩:=q1x (c:=V.int) (ns:=ns) (k:=k % (ns.length:Int)) (Int.emod_nonneg _ (by omega)) (Int.emod_lt_of_pos _ hl)
   exact⟨_,qd2 (s1.seq hS),by rw [List.length_map]; exact hl,_,s1.seq hS,_,by rw [List.length_map]; exact e,i,rfl,.inr ⟨by decide,by decide⟩,q _ _ s1⟩
def q4r(K:PySem.W.Frag):Sp:=fun vs H Q _=>∃(a:Addr) (ns:List Int) (k m:Int),vs=[.ref a,.int k,.int m]/\SqL K H a (ns.map V.int)/\0<=k/\0 < m/\∀(i:Int) (H':Hp),0<=i->i < m->Same H H'->Q (.int i) H'
theorem q6v(F:Fun K "_law_pick" "_law_pick" z30 f fd) (c_law_cell:Callee P w K mg base "_law_cell" ["_law_script","_law_k"] 1 (q4x K)):FnOk P w K mg base CX0 2 f fd ["_law_script","_law_k","_law_many"] (q4r K):=by
 refine F.ok sc_law_pick (fun vs H Q E h=>?_) (fun cdv A outer s H vs Q E hr h=>?_)
 ·obtain⟨a,ns,k,m,rfl,_⟩:=h
  rfl
 obtain⟨a,ns,k,m,rfl,hS,h0,hm,q⟩:=h
 refine⟨_,(z01 (z11 (i:=3) sc_law_pick.nd rfl zb7 (z2g zvd (z2g zrd (z2g z82 (z0g c_law_cell hr (by omega) (z07 (z00 (i:=0) rfl za3 z16 z17) (z07 (z00 (i:=1) rfl z8a zaq zar) pa_nil)) zd5 zsl) (z2g zrd z03 (z2g z82 (z00 (i:=1) rfl z8a zaq zar) z03))) z03) z03) (z04 rfl))
 (z05 (z08 (z2g zvd (z2g zvd (z2g z82 (z2g zrd (z00 (i:=3) rfl z3x zbo zbq) (z00 (i:=3) rfl z3x zbo zbq)) (z2g q6t (z00 (i:=3) rfl z3x zbo zbq) z03)) z03) (z00 (i:=2) rfl zc6 zsj zst))))),?_⟩
 walk_at "rd"
 refine⟨a,ns,k,rfl,hS,h0,fun i H' s1=>?_⟩
 walk_at "rd"
 refine⟨.inl ⟨by decide,by decide⟩,.inr ⟨by decide,by decide⟩,by decide,?_⟩
 have e1:0<=(i+6151 * (k+1)) * 40692 % 2147483399:=Int.emod_nonneg _ (by decide)
 have e2:(i+6151 * (k+1)) * 40692 % 2147483399 < 2147483399:=Int.emod_lt_of_pos _ (by decide)
 refine⟨.inl ⟨by omega,by omega⟩,⟨by decide,by decide⟩,by decide,hm,q _ _ (Int.emod_nonneg _ (by omega)) (Int.emod_lt_of_pos _ hm) s1⟩
structure Df(K:PySem.W.Frag)(mg:Str->Option Value)(x:Str)(st:Stmt)(ps:List Str)(f:Addr)(fd:FuncData):Prop where
 F:Fun K x x st f fd
 m:mg x=some (.ref f)
 b:Binds K fd ps []
theorem Df.callee{x:Str}{st:Stmt}{ps:List Str}{k:Nat}{sp:Sp}(d:Df K mg x st ps f fd)(h:FnOk P w K mg base CX0 k f fd ps sp):Callee P w K mg base x ps k sp:=⟨f,fd,h,d.m,d.F.kp,d.b⟩
theorem z96{H H':Hp}{p:Addr}{o:HO}(s:Same H H')(h:H p=none):Same H (upd H' p o):=fun b u q=>by rw [z0o (z2n q h)]; exact s b u q
end
local macro_rules | `(tactic| walk_at "rw")=>`(tactic| simp only[↓q7w,↓q7v,↓zut,↓zus,↓zz8,↓zz7,↓zpe,↓zpd,↓zpg,↓zpf,↓q77,↓q0i,↓q0g,q76,q0h,q0f,q7u,zlk,qbd,qbc,q62,qbz,qby,qc1,qc0,qcj,qci,q8j,zyl,qbb,qbp,zt6,zyi,tOp,zuy,tC,q8m,zci,q7b,zq2,q88,q8k,q5w,q28,zyk,tCB,zl9,q5x,zta,tUn,rU,rI0,rI,q85,tOr,qam,tB,q2a,qb9,q25,tIf,qba,q26,zv2,q29,zv1,q2l,zv0,q5z,zqw,q60,tSl,zp8,q24,qat,zt9,zzf,q6f,q2u,zl7,zp9,zl4,zlc,qal,qan,tBM,
 qEq,qNe,qIn,zzh,qaz,q2s,qb0,q2t,qay,q2x,qb1,qax,q2v,q2w,zzg,rIx,q8w,zwz,q8v,qav,qbm,q6c,qbn,q8u,zpi,zph,zuz,zyn,q5v,
 zpa,zl6,zl5,zla,zho,zlb,q1f,ziv,zqd,Nat.reduceAdd,Nat.reduceSub,Nat.add_zero,Nat.sub_zero,Nat.add_sub_cancel,
 List.getElem?_cons_zero,List.getElem?_cons_succ,List.set_cons_zero,List.set_cons_succ,List.cons.injEq,Option.some.injEq,V.int.injEq,V.ref.injEq,V.str.injEq,V.bl.injEq,V.ty.injEq,
 reduceCtorEq,false_and,and_false,and_true,true_and,exists_false,exists_const,false_or,or_false,exists_eq_left,exists_eq_left',exists_eq_right,exists_eq_right',exists_and_left,decide_eq_true_eq,Bool.not_eq_true',Bool.decide_eq_true,exists_eq,true_or,or_true,Bool.false_eq_true,if_true,if_false,Bool.true_eq_false,Bool.not_true,Bool.not_false,decide_true,decide_false,List.isEmpty_cons,List.isEmpty_nil,Bool.true_and,Bool.false_and,bne_self_eq_false,beq_self_eq_true])
section
variable{P:Program}{w:World}{K:PySem.W.Frag}{mg:Str->Option Value}{base:Heap}{f:Addr}{fd:FuncData}
theorem z0z{a b:TS}{D:Ends}{σ : St}{H:Hp}(h:∀N:St->Hp->Prop,N=b D->a {D with nx:=N} σ H):q8j a b D σ H:=h _ rfl
def z6u:S->Dm
 | none=>.non
 | some (a,b)=>.tup [.int a,.int b]
theorem zgx(s:S):(z6u s).shut=true/\SeqAt.shaped (z6u s).dat=true:=by
 match s with
 | none=>exact⟨rfl,rfl⟩
 | some (a,b)=>exact⟨rfl,rfl⟩
theorem zvx(s t:S):PyData.eqv (z6u s).dat (z6u t).dat=decide (s=t):=by
 match s,t with
 | none,none=>rfl
 | none,some (c,d)=>rfl
 | some (a,b),none=>rfl
 | some (a,b),some (c,d)=>
  simp only[z6u,Dm.dat,zck,PyData.eqv,PyData.eqvAll,Bool.and_true]
  rw [Bool.eq_iff_iff]
  simp
theorem q9u{H:Hp}{x y:V}{s t:S}(h:Dt H x (z6u s))(k:Dt H y (z6u t)):EqD H x y (decide (s=t)):=
 ⟨_,_,h,k,zgx s,zgx t,(zvx s t).symm⟩
theorem dtS{H:Hp}{x:V}{s:S}(h:Dt H x (z6u s)):(s=none/\x=.non)\/∃a b p,s=some (a,b)/\x=.ref p/\H p=some (.tup [.int a,.int b]):=by
 match s,h with
 | none,.non=>exact .inl ⟨rfl,rfl⟩
 | some (a,b),.tup e r=>
  rcases r with _ | ⟨r1,_ | ⟨r2,_ | _⟩⟩
  cases r1; cases r2
  exact .inr ⟨a,b,_,rfl,rfl,e⟩
theorem z8o{H:Hp}{p:Addr}{a b:Int}(h:H p=some (.tup [.int a,.int b])):Dt H (.ref p) (z6u (some (a,b))):=.tup h (.cons (.int a) (.cons (.int b) .nil))
theorem eqW{H:Hp}(w v:Wd):qb6 K (.str w.str) (.str v.str) H (decide (w=v)):=.inl ⟨rfl,by cases w<;>cases v<;>decide+kernel⟩
def ztb:Sp:=fun vs H Q _=>∃(w:Wd) (a b:Int),vs=[.str w.str,.int a,.int b]/\(w=.quo->b≠0)/\b.natAbs < 1073741824/\Q (.int (w.worth a b)) H
theorem ztn(F:Fun K "worth_of" "worth_of" z37 f fd) (b_min:mg "min" = none) (b_max:mg "max" = none):FnOk P w K mg base CX0 1 f fd ["word","one","other"] ztb:=by
 refine F.ok ztf (fun vs H Q E h=>?_) (fun cdv A outer s H vs Q E hr h=>?_)
 ·obtain⟨w,a,b,rfl,_⟩:=h
  rfl
 obtain⟨w,a,b,rfl,hq,hb,q⟩:=h
 refine⟨_,(z01 (z1k (z0d (gEq hr.units) (z00 (i:=0) rfl z2c z5d z5e) z2s (z0f _)) (z05 (z08 (z2g z82 (z00 (i:=1) rfl z26 z1d z1e) (z00 (i:=2) rfl z1m z0k z0l)))) z0e)
 (z01 (z1k (z0d (gEq hr.units) (z00 (i:=0) rfl z2c z5d z5e) z2s (z0f _)) (z05 (z08 (z2g zlt (z00 (i:=1) rfl z26 z1d z1e) (z00 (i:=2) rfl z1m z0k z0l)))) z0e)
 (z01 (z1k (z0d (gEq hr.units) (z00 (i:=0) rfl z2c z5d z5e) z2s (z0f _)) (z05 (z08 (z2g zrd (z00 (i:=1) rfl z26 z1d z1e) (z00 (i:=2) rfl z1m z0k z0l)))) z0e)
 (z01 (z1k (z0d (gEq hr.units) (z00 (i:=0) rfl z2c z5d z5e) z2s (z0f _)) (z05 (z08 (z2g q3g (z00 (i:=1) rfl z26 z1d z1e) (z00 (i:=2) rfl z1m z0k z0l)))) z0e)
 (z01 (z1k (z0d (gEq hr.units) (z00 (i:=0) rfl z2c z5d z5e) z2s (z0f _)) (z05 (z08 (zb4 (z0d q98 (z00 (i:=1) rfl z26 z1d z1e) (z00 (i:=2) rfl z1m z0k z0l) (z0f _)) z03 z03))) z0e)
 (z01 (z1k (z0d (gEq hr.units) (z00 (i:=0) rfl z2c z5d z5e) z2s (z0f _)) (z05 (z08 (zb4 (z0d zre (z00 (i:=1) rfl z26 z1d z1e) (z00 (i:=2) rfl z1m z0k z0l) (z0f _)) z03 z03))) z0e)
 (z01 (z1k (z0d (gEq hr.units) (z00 (i:=0) rfl z2c z5d z5e) z2s (z0f _)) (z05 (z08 (z54 (z8s rfl) zmp b_min zjk (z07 (z00 (i:=1) rfl z26 z1d z1e) (z07 (z00 (i:=2) rfl z1m z0k z0l) pa_nil)) zj4 zjc))) z0e)
 (z05 (z08 (z54 (zas rfl) zmq b_max zni (z07 (z00 (i:=1) rfl z26 z1d z1e) (z07 (z00 (i:=2) rfl z1m z0k z0l) pa_nil)) zm3 zn1)))))))))),?_⟩
 walk_at "rd"
 have hm:CMul a b:=.inr ⟨by omega,by omega⟩
 refine⟨_,eqW w .add,?_⟩
 split
 ·rename_i e; cases of_decide_eq_true e; exact q
 rename_i n1
 refine⟨_,eqW w .sub,?_⟩
 split
 ·rename_i e; cases of_decide_eq_true e; exact q
 rename_i n2
 refine⟨_,eqW w .mul,?_⟩
 split
 ·rename_i e; cases of_decide_eq_true e; exact⟨hm,q⟩
 rename_i n3
 refine⟨_,eqW w .quo,?_⟩
 split
 ·rename_i e; cases of_decide_eq_true e; exact⟨⟨hq rfl,hb⟩,q⟩
 rename_i n4
 refine⟨_,eqW w .less,?_⟩
 split
 ·rename_i e; cases of_decide_eq_true e
  have q:Q (.int (if a < b then 1 else 0)) H:=q
  split
  ·rename_i c; rw [if_pos c] at q; exact q
  ·rename_i c; rw [if_neg c] at q; exact q
 rename_i n5
 refine⟨_,eqW w .same,?_⟩
 split
 ·rename_i e; cases of_decide_eq_true e
  have q:Q (.int (if a=b then 1 else 0)) H:=q
  split
  ·rename_i c; rw [if_pos c] at q; exact q
  ·rename_i c; rw [if_neg c] at q; exact q
 rename_i n6
 refine⟨_,eqW w .min,?_⟩
 split
 ·rename_i e; cases of_decide_eq_true e; exact⟨_,_,⟨rfl,rfl⟩,q⟩
 rename_i n7
 have e:w=.max:=by
  cases w<;>first | rfl | exact absurd rfl (by assumption)
 cases e
 exact⟨_,_,⟨rfl,rfl⟩,q⟩
def zad:Sp:=fun vs H Q _=>∃(l h:Int),vs=[.int l,.int h]/\∀(r:V) (H':Hp),Same H H'->Dt H' r (z6u (bet l h))->Q r H'
theorem zxd(F:Fun K "between" "between" z6d f fd):FnOk P w K mg base CX0 1 f fd ["low","high"] zad:=by
 refine F.ok zwx (fun vs H Q E h=>?_) (fun cdv A outer s H vs Q E hr h=>?_)
 ·obtain⟨l,h,rfl,_⟩:=h
  rfl
 obtain⟨l,h,rfl,q⟩:=h
 refine⟨_,(z01 (z1k (z0d qbt (z00 (i:=0) rfl zct zw3 zw8) (z00 (i:=1) rfl zbv zq7 zqg) (z0f _)) (z05 (z08 z2m)) z0e)
 (z05 (z08 (z1a (z07 (z00 (i:=0) rfl zct zw3 zw8) (z07 (z00 (i:=1) rfl zbv zq7 zqg) pa_nil)))))),?_⟩
 walk_at "rd"
 split
 ·rename_i c
  rw [show bet l h=none from if_pos c] at q
  exact q _ _ (Same.refl _) .non
 ·rename_i c
  rw [show bet l h=some (l,h) from if_neg c] at q
  exact⟨zl 2 (by decide),fun p hp=>q _ _ (z06 hp _) (z8o z02)⟩
def zwl(g:S->S->S):Sp:=fun vs H Q _=>∃(x y:V) (s t:S),vs=[x,y]/\Dt H x (z6u s)/\Dt H y (z6u t)/\∀(r:V) (H':Hp),Same H H'->Dt H' r (z6u (g s t))->Q r H'
theorem zzt(F:Fun K "joined" "joined" z6c f fd) (b_min:mg "min" = none) (b_max:mg "max" = none):FnOk P w K mg base CX0 1 f fd ["one","other"] (zwl q5d):=by
 refine F.ok zza (fun vs H Q E h=>?_) (fun cdv A outer s H vs Q E hr h=>?_)
 ·obtain⟨x,y,s,t,rfl,_⟩:=h
  rfl
 obtain⟨x,y,s,t,rfl,hx,hy,q⟩:=h
 refine⟨_,(z01 (z1k (z0d zqr (z00 (i:=0) rfl z76 z1d z1e) z2m (z0f _)) (z05 (z08 (z00 (i:=1) rfl z5l z0k z0l))) z0e)
 (z01 (z1k (z0d zqr (z00 (i:=1) rfl z5l z0k z0l) z2m (z0f _)) (z05 (z08 (z00 (i:=0) rfl z76 z1d z1e))) z0e)
 (z05 (z08 (z1a (z07 (z54 (z8s rfl) zpy b_min zjk (z07 (z0i ix_tup (z00 (i:=0) rfl z76 z1d z1e) z03 (fun _ _=>rfl)) (z07 (z0i ix_tup (z00 (i:=1) rfl z5l z0k z0l) z03 (fun _ _=>rfl)) pa_nil)) zj4 zjc) (z07 (z54 (zas rfl) zpz b_max zni (z07 (z0i ix_tup (z00 (i:=0) rfl z76 z1d z1e) z03 (fun _ _=>rfl)) (z07 (z0i ix_tup (z00 (i:=1) rfl z5l z0k z0l) z03 (fun _ _=>rfl)) pa_nil)) zm3 zn1) pa_nil))))))),z0z fun N1 e1=>?_⟩
 rcases dtS hx with⟨rfl,rfl⟩ | ⟨a,b,p,rfl,rfl,hp⟩<;>rcases dtS hy with⟨rfl,rfl⟩ | ⟨c,d,p2,rfl,rfl,hp2⟩<;>walk_at "rd"
 ·exact q _ _ (Same.refl _) hy
 ·exact q _ _ (Same.refl _) hy
 ·rw [e1]
  walk_at "rd"
  exact q _ _ (Same.refl _) hx
 ·rw [e1]
  walk_at "rd"
  exact⟨_,SqT.of hp,_,rfl,_,SqT.of hp2,_,rfl,_,_,⟨rfl,rfl⟩,_,SqT.of hp,_,rfl,_,SqT.of hp2,_,rfl,_,_,⟨rfl,rfl⟩,zl 2 (by decide),fun p3 hp3=>q _ _ (z06 hp3 _) (z8o z02)⟩
def q68:S->S->S
 | some (a,b),some (c,d)=>some (if(a=c/\b=d)/\a=b then 1 else 0,if zev (some (a,b)) (some (c,d))≠none then 1 else 0)
 | _,_=>none
theorem zg7(F:Fun K "stretch_of_same" "stretch_of_same" z0n f fd) (c_met:Callee P w K mg base "met" ["one","other"] 2 (zwl zev)):FnOk P w K mg base CX0 3 f fd ["one","other"] (zwl q68):=by
 refine F.ok sc_stretch_of_same (fun vs H Q E h=>?_) (fun cdv A outer s H vs Q E hr h=>?_)
 ·obtain⟨x,y,s,t,rfl,_⟩:=h
  rfl
 obtain⟨x,y,s,t,rfl,hx,hy,q⟩:=h
 refine⟨_,(z01 (z1k (PW.pt (zhs (z0d zqr (z00 (i:=0) rfl z21 z1d z1e) z2m (z0f _)) (zby (z0d zqr (z00 (i:=1) rfl z3g z0k z0l) z2m (z0f _))))) (z05 (z08 z2m)) z0e)
 (z01 (z11 (i:=2) sc_stretch_of_same.nd rfl z8d (zem (z6e (dEq hr.units) (z00 (i:=0) rfl z21 z1d z1e) (z00 (i:=1) rfl z3g z0k z0l) (z0f _)) (zj2 (z6e zre (z0i ix_tup (z00 (i:=0) rfl z21 z1d z1e) z03 (fun _ _=>rfl)) (z0i ix_tup (z00 (i:=0) rfl z21 z1d z1e) z03 (fun _ _=>rfl)) (z0f _)))) (z04 rfl))
 (z01 (z11 (i:=3) sc_stretch_of_same.nd rfl z8u (z6e q0q (z0g c_met hr (by omega) (z07 (z00 (i:=0) rfl z21 z1d z1e) (z07 (z00 (i:=1) rfl z3g z0k z0l) pa_nil)) zca zn0) z2m (z0f _)) (z04 rfl))
 (z05 (z08 (z1a (z07 (zb4 (z7e (z00 (i:=2) rfl z88 zxv zy1)) z03 z03) (z07 (zb4 (z7e (z00 (i:=3) rfl z8t zse zsr)) z03 z03) pa_nil)))))))),z0z fun N1 e1=>?_⟩
 rcases dtS hx with⟨rfl,rfl⟩ | ⟨a,b,p,rfl,rfl,hp⟩<;>rcases dtS hy with⟨rfl,rfl⟩ | ⟨c,d,p2,rfl,rfl,hp2⟩<;>walk_at "rd"
 ·exact q _ _ (Same.refl _) .non
 ·exact q _ _ (Same.refl _) .non
 ·exact q _ _ (Same.refl _) .non
 ·rw [e1]
  walk_at "rd"
  have fin:∀u:Int,u=(if(a=c/\b=d)/\a=b then 1 else 0)->zwl zev [V.ref p,V.ref p2] H (fun x H1=>
    if decide (x=V.non)=false then 2<=sizeLine/\∀(p:Addr),H1 p=none->Q (V.ref p) (upd H1 p (HO.tup [V.int u,V.int 1]))
    else 2<=sizeLine/\∀(p:Addr),H1 p=none->Q (V.ref p) (upd H1 p (HO.tup [V.int u,V.int 0]))) E0:=by
   intro u hu
   refine⟨_,_,_,_,rfl,hx,hy,fun r H' s1 dr=>?_⟩
   have hF:∀v:Int,v=(if zev (some (a,b)) (some (c,d))≠none then 1 else 0)->q68 (some (a,b)) (some (c,d))=some (u,v):=by
    intro v hv
    rw [hu,hv]; rfl
   rcases dtS dr with⟨e,rfl⟩ | ⟨a1,b1,p3,e,rfl,_⟩
   ·dsimp only
    rw [if_neg (by simp)]
    rw [hF 0 (by rw [if_neg (by rw [e]; simp)])] at q
    exact⟨zl 2 (by decide),fun p3 hp3=>q _ _ (s1.trans (z06 hp3 _)) (z8o z02)⟩
   ·dsimp only
    rw [if_pos (by simp)]
    rw [hF 1 (by rw [if_pos (by rw [e]; simp)])] at q
    exact⟨zl 2 (by decide),fun p3 hp3=>q _ _ (s1.trans (z06 hp3 _)) (z8o z02)⟩
  refine⟨_,q9u hx hy,?_⟩
  split
  ·rename_i e
   have e:=of_decide_eq_true e
   injection e with e
   injection e with e1 e2
   refine⟨_,SqT.of hp,_,rfl,_,SqT.of hp,_,rfl,_,rfl,_,rfl,?_⟩
   by_cases hab:a=b
   ·simp only[if_pos hab]
    exact fin 1 (by rw [if_pos ⟨⟨e1,e2⟩,hab⟩])
   ·simp only[if_neg hab]
    exact fin 0 (by rw [if_neg fun z=>hab z.2])
  ·rename_i e
   refine fin 0 (by rw [if_neg]; rintro⟨⟨h1,h2⟩,_⟩; exact e (decide_eq_true (by rw [h1,h2])))
def q83(w:Wd)(s t r:S):Prop:=match s,t with
 | some (a,b),some (c,d)=>∃lo hi,r=some (lo,hi)/\Hull (z34 w a b c d) lo hi
 | _,_=>r=none
def q7y(w:Wd)(t:S):Prop:=match t with
 | none=>True
 | some (c,d)=>(w=.quo->c≠0/\d≠0)/\c.natAbs < 1073741824/\d.natAbs < 1073741824
def q4v:Sp:=fun vs H Q _=>∃(w:Wd) (x y:V) (s t:S),vs=[.str w.str,x,y]/\Dt H x (z6u s)/\Dt H y (z6u t)/\q7y w t/\∀(r:V) (H':Hp) (o:S),Same H H'->q83 w s t o->Dt H' r (z6u o)->Q r H'
def qe4(H:Hp)(w:Wd)(p2:Addr)(ns:List Int)(k:Int)(i:Nat)(ys:List V)(σ':St)(H':Hp):Prop:=H'=H/\(∃t,σ'=[t,some (.str w.str),some (.ref p2)])/\ys=((ns.take i).map fun x=>w.worth x k).map V.int
theorem zg8(F:Fun K "stretch_of_ends" "stretch_of_ends" z0p f fd) (b_min:mg "min" = none) (b_max:mg "max" = none) (c_worth_of:Callee P w K mg base "worth_of" ["word","one","other"] 1 ztb):FnOk P w K mg base CX0 2 f fd ["word","one","other"] q4v:=by
 refine F.ok sc_stretch_of_ends (fun vs H Q E h=>?_) (fun cdv A outer s H vs Q E hr h=>?_)
 ·obtain⟨w,x,y,s,t,rfl,_⟩:=h
  rfl
 obtain⟨w,x,y,s,t,rfl,hx,hy,hsm,q⟩:=h
 refine⟨_,(z01 (z1k (PW.pt (zhs (z0d zqr (z00 (i:=1) rfl z3w z1d z1e) z2m (z0f _)) (zby (z0d zqr (z00 (i:=2) rfl z9f z0k z0l) z2m (z0f _))))) (z05 (z08 z2m)) z0e)
 (z01 (q6g (i:=3) ["low_or_high","word","other"] [none,some 0,some 2] sc_stretch_of_ends.nd rfl zag rfl (CompS.of (by rfl)) (zj1 (z00 (i:=1) rfl z3w z1d z1e)) (fun _ _ _ _ _=>(z19 (i:=0) (show List.Nodup (["low_or_high","word","other"]:List Str) from by decide+kernel) rfl (Or.inl rfl))) (fun _ _ _ _ _=>z8b) (fun _ _ _ _ _=>(z0g c_worth_of hr (by omega) (z07 (z00 (i:=1) rfl (by first | exact Or.inl rfl | exact Or.inr (Or.inl rfl) | exact Or.inr (Or.inr rfl)) z5d z5e) (z07 (z00 (i:=0) rfl (by first | exact Or.inl rfl | exact Or.inr (Or.inl rfl) | exact Or.inr (Or.inr rfl)) zen zep) (z07 (z0i (ixK (r:=zwz) (K:=K) ix_tup rfl) (z00 (i:=2) rfl (by first | exact Or.inl rfl | exact Or.inr (Or.inl rfl) | exact Or.inr (Or.inr rfl)) z0k z0l) z03 (fun _ _=>rfl)) pa_nil))) rfl zmw)))
 (z01 (zlr (q38 PySem.F.plainAttrs_list PySem.F.slot_list_extend PySem.F.type_list_extend zm4 (z00 (i:=3) rfl z3m zue zun) (z07 (z8c ["low_or_high","word","other"] [none,some 0,some 2] rfl (CompS.of (by rfl)) (zj1 (z00 (i:=1) rfl z3w z1d z1e)) (fun _ _ _ _ _=>(z19 (i:=0) (show List.Nodup (["low_or_high","word","other"]:List Str) from by decide+kernel) rfl (Or.inl rfl))) (fun _ _ _ _ _=>z8b) (fun _ _ _ _ _=>(z0g c_worth_of hr (by omega) (z07 (z00 (i:=1) rfl (by first | exact Or.inl rfl | exact Or.inr (Or.inl rfl) | exact Or.inr (Or.inr rfl)) z5d z5e) (z07 (z00 (i:=0) rfl (by first | exact Or.inl rfl | exact Or.inr (Or.inl rfl) | exact Or.inr (Or.inr rfl)) zen zep) (z07 (z0i (ixK (r:=zwz) (K:=K) ix_tup rfl) (z00 (i:=2) rfl (by first | exact Or.inl rfl | exact Or.inr (Or.inl rfl) | exact Or.inr (Or.inr rfl)) z0k z0l) z03 (fun _ _=>rfl)) pa_nil))) rfl zmw))) pa_nil)) (z04 rfl))
 (z05 (z08 (z1a (z07 (z54 (q1r rfl) zcb b_min zjk (z07 (z00 (i:=3) rfl z3m zue zun) pa_nil) zj4 zjc) (z07 (z54 (q1s rfl) zcc b_max zni (z07 (z00 (i:=3) rfl z3m zue zun) pa_nil) zm3 zn1) pa_nil)))))))),z0z fun N1 e1=>?_⟩
 rcases dtS hx with⟨rfl,rfl⟩ | ⟨a,b,p,rfl,rfl,hp⟩<;>rcases dtS hy with⟨rfl,rfl⟩ | ⟨c,d,p2,rfl,rfl,hp2⟩<;>walk_at "rd"
 ·exact q _ _ none (Same.refl _) rfl .non
 ·exact q _ _ none (Same.refl _) rfl .non
 ·exact q _ _ none (Same.refl _) rfl .non
 ·rw [e1]
  walk_at "rd"
  obtain⟨hq1,hc,hd⟩:=hsm
  have comp:∀(H1:Hp) (j k:Int) (t:Option V) (Q':VK),H1 p=some (.tup [.int a,.int b])->H1 p2=some (.tup [.int c,.int d])->atI [V.int c,V.int d] j=some (.int k)->(w=.quo->k≠0)->k.natAbs < 1073741824->
    (∀p3,H1 p3=none->Q' (.ref p3) (upd H1 p3 (.lst ([w.worth a k,w.worth b k].map V.int))))->
    zfm (Itt K p) (zci 0) q5v (zta ztb [] E0 (zl9 (zuy 1) (zl9 (zuy 0) (zl9 (tOp (zwz K) (zuy 2) (tC (V.int j))) q5x)))) Q' [t,some (V.str w.str),some (V.ref p2)] H1:=by
   intro H1 j k t Q' g1 g2 hj hk0 hk fin
   refine zkr (K:=K) (a:=p) (xs:=[a,b].map V.int) (qe4 H1 w p2 [a,b] k) ⟨rfl,⟨_,rfl⟩,rfl⟩ (z10 (by simp)) ?_ ?_ ?_ ?_
   ·rintro i ys σ' H' ⟨_,_,rfl⟩
    rw [List.length_map,List.length_map,List.length_take]
    omega
   ·rintro i ys σ' H' _ ⟨rfl,_,_⟩
    exact SqT.of g1
   ·rintro i ys v σ' H' hxi ⟨rfl,⟨t,rfl⟩,rfl⟩
    rw [List.getElem?_map] at hxi
    cases hr':([a,b]:List Int)[i]? with
    | none=>rw [hr'] at hxi; cases hxi
    | some x=>
     rw [hr'] at hxi
     have ev:V.int x=v:=by simpa using hxi
     subst ev
     walk_at "rd"
     refine⟨_,SqT.of g2,_,hj,w,x,k,rfl,hk0,hk,rfl,⟨_,rfl⟩,?_⟩
     rw [List.take_add_one,hr',List.map_append,List.map_append]
     rfl
   ·rintro ys σ' H' ⟨rfl,_,rfl⟩ p3 hp3
    exact fin p3 hp3
  refine⟨⟨_,SqT.of hp⟩,comp H 0 c none _ hp hp2 rfl (fun e=>(hq1 e).1) hc fun p3 hp3=>?_⟩
  have s1:=z06 hp3 (.lst ([w.worth a c,w.worth b c].map V.int))
  have e3:(upd H p3 (.lst ([w.worth a c,w.worth b c].map V.int))) p3=_:=z02
  generalize upd H p3 (.lst ([w.worth a c,w.worth b c].map V.int))=U1 at s1 e3 |-
  refine⟨.inl ⟨rfl,_,SqL.of e3⟩,⟨_,SqT.of (s1 _ _ hp)⟩,comp U1 1 d none _ (s1 _ _ hp) (s1 _ _ hp2) rfl (fun e=>(hq1 e).2) hd fun p4 hp4=>?_⟩
  have s2:=z06 hp4 (.lst ([w.worth a d,w.worth b d].map V.int))
  have e4:(upd U1 p4 (.lst ([w.worth a d,w.worth b d].map V.int))) p4=_:=z02
  generalize upd U1 p4 (.lst ([w.worth a d,w.worth b d].map V.int))=U2 at s2 e4 |-
  have e5:upd U2 p3 (.lst (([w.worth a c,w.worth b c].map V.int)++([w.worth a d,w.worth b d].map V.int))) p3=some (.lst ((z34 w a b c d).map V.int)):=z02
  have s3:Same H (upd U2 p3 (.lst (([w.worth a c,w.worth b c].map V.int)++([w.worth a d,w.worth b d].map V.int)))):=z96 (s1.trans s2) hp3
  refine⟨_,rfl,_,rfl,_,s2 _ _ e3,_,e4,zl 4 (by decide),?_⟩
  generalize upd U2 p3 (.lst (([w.worth a c,w.worth b c].map V.int)++([w.worth a d,w.worth b d].map V.int)))=U3 at e5 s3 |-
  refine⟨_,rfl,_,SqL.of e5,by simp[z34],fun lo hlo hlo2=>⟨_,rfl,_,SqL.of e5,by simp[z34],fun hi hhi hhi2=>⟨zl 2 (by decide),fun p5 hp5=>?_⟩⟩⟩
  exact q _ _ (some (lo,hi)) (s3.trans (z06 hp5 _)) ⟨lo,hi,rfl,hlo,hhi,fun v hv=>⟨hlo2 v hv,hhi2 v hv⟩⟩ (z8o z02)
def OfRel(w:Wd)(s t r:S):Prop:=match s,t with
 | some (a,b),some (c,d)=>IsS w a b c d r
 | _,_=>r=none
def okS(n:Nat)(s:S):Prop:=match s with
 | none=>True
 | some (a,b)=>a<=b/\a.natAbs < n/\b.natAbs < n
def qbf:Sp:=fun vs H Q _=>∃(w:Wd) (x y:V) (s t:S),vs=[.str w.str,x,y]/\Dt H x (z6u s)/\Dt H y (z6u t)/\okS 1073741824 s/\okS 1073741824 t/\∀(r:V) (H':Hp) (o:S),Same H H'->OfRel w s t o->Dt H' r (z6u o)->Q r H'
theorem zpn(F:Fun K "stretch_of" "stretch_of" z0r f fd) (b_min:mg "min" = none) (b_max:mg "max" = none) (c_between:Callee P w K mg base "between" ["low","high"] 1 zad) (c_joined:Callee P w K mg base "joined" ["one","other"] 1 (zwl q5d))
  (c_stretch_of_same:Callee P w K mg base "stretch_of_same" ["one","other"] 3 (zwl q68)) (c_stretch_of_ends:Callee P w K mg base "stretch_of_ends" ["word","one","other"] 2 q4v):FnOk P w K mg base CX0 4 f fd ["word","one","other"] qbf:=by
 refine F.ok sc_stretch_of (fun vs H Q E h=>?_) (fun cdv A outer s H vs Q E hr h=>?_)
 ·obtain⟨w,x,y,s,t,rfl,_⟩:=h
  rfl
 obtain⟨w,x,y,s,t,rfl,hx,hy,hs,ht,q⟩:=h
 refine⟨_,(z01 (z1k (z0d (gEq hr.units) (z00 (i:=0) rfl z32 z5d z5e) z2s (z0f _)) (z05 (z08 (z0g c_stretch_of_same hr (by omega) (z07 (z00 (i:=1) rfl z4g z1d z1e) (z07 (z00 (i:=2) rfl z1j z0k z0l) pa_nil)) z7t zh0))) z0e)
 (z01 (z1k (PW.pt (zr8 (z0d (gEq hr.units) (z00 (i:=0) rfl z32 z5d z5e) z2s (z0f _)) (zlq (z0d q0q (z00 (i:=2) rfl z1j z0k z0l) z2m (z0f _))))) (z01 (z11 (i:=3) sc_stretch_of.nd rfl ze6 (z0g c_between hr (by omega) (z07 (z0i ix_tup (z00 (i:=2) rfl z1j z0k z0l) z03 (fun _ _=>rfl)) (z07 (z54 (z8s rfl) zim b_min zjk (z07 (z0i ix_tup (z00 (i:=2) rfl z1j z0k z0l) z03 (fun _ _=>rfl)) (z07 (q8z q4l z03) pa_nil)) zj4 zjc) pa_nil)) z7f z57) (z04 rfl))
 (z01 (z11 (i:=4) sc_stretch_of.nd rfl ze7 (z0g c_between hr (by omega) (z07 (z54 (zas rfl) zin b_max zni (z07 (z0i ix_tup (z00 (i:=2) rfl z1j z0k z0l) z03 (fun _ _=>rfl)) (z07 z03 pa_nil)) zm3 zn1) (z07 (z0i ix_tup (z00 (i:=2) rfl z1j z0k z0l) z03 (fun _ _=>rfl)) pa_nil)) z7f z57) (z04 rfl))
 (z05 (z08 (z0g c_joined hr (by omega) (z07 (z0g c_stretch_of_ends hr (by omega) (z07 (z00 (i:=0) rfl z32 z5d z5e) (z07 (z00 (i:=1) rfl z4g z1d z1e) (z07 (z00 (i:=3) rfl zdy q49 q4g) pa_nil))) z2o z6j) (z07 (z0g c_stretch_of_ends hr (by omega) (z07 (z00 (i:=0) rfl z32 z5d z5e) (z07 (z00 (i:=1) rfl z4g z1d z1e) (z07 (z00 (i:=4) rfl zdz q4a q4h) pa_nil))) z2o z6j) pa_nil)) zeb zn3))))) z0e)
 (z05 (z08 (z0g c_stretch_of_ends hr (by omega) (z07 (z00 (i:=0) rfl z32 z5d z5e) (z07 (z00 (i:=1) rfl z4g z1d z1e) (z07 (z00 (i:=2) rfl z1j z0k z0l) pa_nil))) z2o z6j))))),?_⟩
 walk_at "rd"
 refine⟨_,eqW w .same,?_⟩
 split
 ·rename_i e
  cases of_decide_eq_true e
  refine⟨x,y,s,t,rfl,hx,hy,fun r H' s1 dr=>q r H' _ s1 ?_ dr⟩
  match s,t,hs,ht with
  | none,none,_,_=>exact rfl
  | none,some (c,d),_,_=>exact rfl
  | some (a,b),none,_,_=>exact rfl
  | some (a,b),some (c,d),hs,ht=>exact q2j hs.1 ht.1
 rename_i n1
 have n1:w≠.same:=fun z=>n1 (decide_eq_true z)
 refine⟨_,eqW w .quo,?_⟩
 split
 ·rename_i e
  cases of_decide_eq_true e
  rcases dtS hy with⟨rfl,rfl⟩ | ⟨c,d,p2,rfl,rfl,hp2⟩
  ·rw [if_neg (by simp)]
   refine⟨.quo,x,.non,s,none,rfl,hx,hy,trivial,fun r H' o s1 rel dr=>q r H' o s1 ?_ dr⟩
   match s,rel with
   | none,rel=>exact rel
   | some (a,b),rel=>exact rel
  ·rw [if_pos (by simp)]
   obtain⟨hcd,hc,hd⟩:=ht
   refine⟨_,rfl,_,SqT.of hp2,_,rfl,_,rfl,_,SqT.of hp2,_,rfl,_,_,⟨rfl,rfl⟩,_,_,rfl,fun r1 H1 s1 d1=>?_⟩
   have d1:Dt H1 r1 (z6u (bet c (mn d (-1)))):=d1
   refine⟨_,rfl,_,SqT.of (s1 _ _ hp2),_,rfl,_,_,⟨rfl,rfl⟩,_,rfl,_,SqT.of (s1 _ _ hp2),_,rfl,_,_,rfl,fun r2 H2 s2 d2=>?_⟩
   have d2:Dt H2 r2 (z6u (bet (mx c 1) d)):=d2
   have sm1:q7y .quo (bet c (mn d (-1))):=by
    unfold bet
    split
    ·trivial
    ·rename_i h
     unfold mn at h |-
     split at h<;>rename_i g<;>simp only[g,if_true,if_false]<;>exact⟨fun _=>⟨by omega,by omega⟩,by omega,by omega⟩
   have sm2:q7y .quo (bet (mx c 1) d):=by
    unfold bet
    split
    ·trivial
    ·rename_i h
     unfold mx at h |-
     split at h<;>rename_i g<;>simp only[g,if_true,if_false]<;>exact⟨fun _=>⟨by omega,by omega⟩,by omega,by omega⟩
   refine⟨.quo,x,r1,s,_,rfl,hx.kp (s1.trans s2).kp,d1.kp s2.kp,sm1,fun r3 H3 o3 s3 rel3 d3=>?_⟩
   refine⟨.quo,x,r2,s,_,rfl,hx.kp (s1.trans (s2.trans s3)).kp,d2.kp s3.kp,sm2,fun r4 H4 o4 s4 rel4 d4=>?_⟩
   refine⟨r3,r4,o3,o4,rfl,d3.kp s4.kp,d4,fun r5 H5 s5 d5=>q r5 H5 _ (s1.trans (s2.trans (s3.trans (s4.trans s5)))) ?_ d5⟩
   match s,hs,rel3,rel4 with
   | none,_,rel3,rel4=>
    have e3:o3=none:=by
     revert rel3
     cases bet c (mn d (-1))<;>exact id
    have e4:o4=none:=by
     revert rel4
     cases bet (mx c 1) d<;>exact id
    rw [e3,e4]; exact rfl
   | some (a,b),hs,rel3,rel4=>
    refine zze hs.1 hcd ?_ ?_
    ·revert rel3
     cases bet c (mn d (-1))<;>exact id
    ·revert rel4
     cases bet (mx c 1) d<;>exact id
 ·rename_i n2
  have n2:w≠.quo:=fun z=>n2 (decide_eq_true z)
  refine⟨w,x,y,s,t,rfl,hx,hy,?_,fun r H' o s1 rel dr=>q r H' o s1 ?_ dr⟩
  ·match t,ht with
   | none,_=>trivial
   | some (c,d),ht=>exact⟨fun z=>absurd z n2,ht.2.1,ht.2.2⟩
  ·match s,t,hs,ht,rel with
   | none,none,_,_,rel=>exact rel
   | none,some (c,d),_,_,rel=>exact rel
   | some (a,b),none,_,_,rel=>exact rel
   | some (a,b),some (c,d),hs,ht,rel=>
    obtain⟨lo,hi,rfl,hh⟩:=rel
    exact zbk n1 hs.1 ht.1 (fun z=>absurd z n2) hh
end
theorem Same.seqT{K:PySem.W.Frag}{H H':Hp}{a:Addr}{xs:List V}(e:Same H H')(h:SqT K H a xs):SqT K H' a xs:=by
 rcases h with(h | ⟨o,h⟩) | h
 ·exact .inl (.inl (e _ _ h))
 ·exact .inl (.inr ⟨o,e _ _ h⟩)
 ·exact .inr h
def StK(K:PySem.W.Frag)(H:Hp)(x:V)(s:S):Prop:=(s=none/\x=.non)\/∃a b p,s=some (a,b)/\x=.ref p/\SqT K H p [.int a,.int b]
theorem StK.of{K:PySem.W.Frag}{H:Hp}{x:V}{s:S}(h:Dt H x (z6u s)):StK K H x s:=by
 rcases dtS h with h | ⟨a,b,p,h1,h2,h3⟩
 ·exact .inl h
 ·exact .inr ⟨a,b,p,h1,h2,SqT.of h3⟩
theorem StK.same{K:PySem.W.Frag}{H H':Hp}{x:V}{s:S}(h:StK K H x s)(e:Same H H'):StK K H' x s:=by
 rcases h with h | ⟨a,b,p,h1,h2,h3⟩
 ·exact .inl h
 ·exact .inr ⟨a,b,p,h1,h2,Same.seqT e h3⟩
theorem StK.fl{K:PySem.W.Frag}{H:Hp}{x:V}{s:S}(h:StK K H x s):FlK K H x (z6u s):=by
 rcases h with⟨rfl,rfl⟩ | ⟨a,b,p,rfl,rfl,h3⟩
 ·exact .inl .non
 ·exact .inr ⟨p,[a,b],rfl,rfl,h3⟩
theorem q9v{K:PySem.W.Frag}{H:Hp}{x y:V}{s t:S}(h:StK K H x s)(k:StK K H y t):EqK K H x y (decide (s=t)):=
 ⟨_,_,h.fl,k.fl,zgx s,zgx t,(zvx s t).symm⟩
section
variable{P:Program}{w:World}{K:PySem.W.Frag}{mg:Str->Option Value}{base:Heap}{f:Addr}{fd:FuncData}
theorem Callee.imp{x:Str}{ps:List Str}{k:Nat}{sp sp':Sp}(h:Callee P w K mg base x ps k sp)(i:∀vs H Q E,sp' vs H Q E->sp vs H Q E):Callee P w K mg base x ps k sp':=by
 obtain⟨f,fd,a,b,c,d⟩:=h
 exact⟨f,fd,a.imp i,b,c,d⟩
def zyu(K:PySem.W.Frag)(g:S->S->S):Sp:=fun vs H Q _=>∃(x y:V) (s t:S),vs=[x,y]/\StK K H x s/\StK K H y t/\∀(r:V) (H':Hp),Same H H'->Dt H' r (z6u (g s t))->Q r H'
theorem q69{g:S->S->S}(vs:List V)(H:Hp)(Q:VK)(E:XK)(h:zwl g vs H Q E):zyu K g vs H Q E:=by
 obtain⟨x,y,s,t,e,h1,h2,q⟩:=h
 exact⟨x,y,s,t,e,.of h1,.of h2,q⟩
theorem q6w(F:Fun K "met" "met" zjw f fd) (b_min:mg "min" = none) (b_max:mg "max" = none) (c_between:Callee P w K mg base "between" ["low","high"] 1 zad):FnOk P w K mg base CX0 2 f fd ["one","other"] (zyu K zev):=by
 refine F.ok q8p (fun vs H Q E h=>?_) (fun cdv A outer s H vs Q E hr h=>?_)
 ·obtain⟨x,y,s,t,rfl,_⟩:=h
  rfl
 obtain⟨x,y,s,t,rfl,hx,hy,q⟩:=h
 refine⟨_,(z01 (z1k (PW.pt (zhs (z0d zqr (z00 (i:=0) rfl zeq z1d z1e) z2m (z0f _)) (zby (z0d zqr (z00 (i:=1) rfl zau z0k z0l) z2m (z0f _))))) (z05 (z08 z2m)) z0e)
 (z05 (z08 (z0g c_between hr (by omega) (z07 (z54 (zas rfl) zxn b_max zni (z07 (z0i ix_tup (z00 (i:=0) rfl zeq z1d z1e) z03 (fun _ _=>rfl)) (z07 (z0i ix_tup (z00 (i:=1) rfl zau z0k z0l) z03 (fun _ _=>rfl)) pa_nil)) zm3 zn1) (z07 (z54 (z8s rfl) zxm b_min zjk (z07 (z0i ix_tup (z00 (i:=0) rfl zeq z1d z1e) z03 (fun _ _=>rfl)) (z07 (z0i ix_tup (z00 (i:=1) rfl zau z0k z0l) z03 (fun _ _=>rfl)) pa_nil)) zj4 zjc) pa_nil)) zo8 z57)))),z0z fun N1 e1=>?_⟩
 rcases hx with⟨rfl,rfl⟩ | ⟨a,b,p,rfl,rfl,hp⟩<;>rcases hy with⟨rfl,rfl⟩ | ⟨c,d,p2,rfl,rfl,hp2⟩<;>walk_at "rd"
 ·exact q _ _ (Same.refl _) .non
 ·exact q _ _ (Same.refl _) .non
 ·exact q _ _ (Same.refl _) .non
 ·rw [e1]
  walk_at "rd"
  exact⟨_,hp,_,rfl,_,hp2,_,rfl,_,_,⟨rfl,rfl⟩,_,hp,_,rfl,_,hp2,_,rfl,_,_,⟨rfl,rfl⟩,_,_,rfl,fun r H' s1 hr'=>q _ _ s1 hr'⟩
def zac(K:PySem.W.Frag):Sp:=fun vs H Q _=>∃(x y:V) (s t:S),vs=[x,y]/\StK K H x s/\StK K H y t/\∀(H':Hp),Same H H'->Q (.bl (z2k s t)) H'
theorem zpo(F:Fun K "is_within" "is_within" z3h f fd) (c_met:Callee P w K mg base "met" ["one","other"] 2 (zyu K zev)):FnOk P w K mg base CX0 3 f fd ["one","other"] (zac K):=by
 refine F.ok zr0 (fun vs H Q E h=>?_) (fun cdv A outer s H vs Q E hr h=>?_)
 ·obtain⟨x,y,s,t,rfl,_⟩:=h
  rfl
 obtain⟨x,y,s,t,rfl,hx,hy,q⟩:=h
 refine⟨_,(z05 (z08 (z6e (kEq hr.units) (z0g c_met hr (by omega) (z07 (z00 (i:=0) rfl za5 z1d z1e) (z07 (z00 (i:=1) rfl zes z0k z0l) pa_nil)) zkc zn0) (z00 (i:=0) rfl za5 z1d z1e) (z0f _)))),?_⟩
 walk_at "rw"
 refine⟨x,y,s,t,rfl,hx,hy,fun r H' s1 dr=>?_⟩
 exact⟨_,q9v (.of dr) (hx.same s1),q _ s1⟩
end
def z4c(o:Int×Int)(v:Int):S:=if v=o.1 then bet (o.1+1) o.2 else if v=o.2 then bet o.1 (o.2 - 1) else some o
def znh(o p:Int×Int)(so:Bool):S:=if so=true then zev (some o) (some p) else if p.1≠p.2 then some o else z4c o p.1
def zey(w:Wd)(o p:Int×Int)(so:Bool):S:=if w=.same then znh o p so else if so=true then bet o.1 (mn o.2 (p.2 - 1)) else bet (mx o.1 p.1) o.2
def z6h(w:Wd)(o p:Int×Int)(so:Bool):S:=if w=.same then znh o p so else if so=true then bet (mx o.1 (p.1+1)) o.2 else bet o.1 (mn o.2 p.2)
def zkm(s:S)(so:Bool):S:=match s with
 | none=>none
 | some o=>if so=true then z4c o 0 else zev (some o) (some (0,0))
section
variable{P:Program}{w:World}{K:PySem.W.Frag}{mg:Str->Option Value}{base:Heap}{f:Addr}{fd:FuncData}
theorem q7g{H:Hp}{x:V}{o:Int×Int}(h:Dt H x (z6u (some o))):∃p,x=.ref p/\H p=some (.tup [.int o.1,.int o.2]):=by
 rcases dtS h with⟨e,_⟩ | ⟨a,b,p,e,hx,hp⟩
 ·cases e
 ·cases e; exact⟨p,hx,hp⟩
def zle:Sp:=fun vs H Q _=>∃(x:V) (o:Int×Int) (v:Int),vs=[x,.int v]/\Dt H x (z6u (some o))/\∀(r:V) (H':Hp),Same H H'->Dt H' r (z6u (z4c o v))->Q r H'
theorem zx5(F:Fun K "without" "without" z5k f fd) (c_between:Callee P w K mg base "between" ["low","high"] 1 zad):FnOk P w K mg base CX0 2 f fd ["own","worth"] zle:=by
 refine F.ok zwr (fun vs H Q E h=>?_) (fun cdv A outer s H vs Q E hr h=>?_)
 ·obtain⟨x,o,v,rfl,_⟩:=h
  rfl
 obtain⟨x,o,v,rfl,hx,q⟩:=h
 obtain⟨p,rfl,hp⟩:=q7g hx
 refine⟨_,(z01 (z1k (z0d zre (z00 (i:=1) rfl za0 zw0 zw6) (z0i ix_tup (z00 (i:=0) rfl z31 z4m z4n) z03 (fun _ _=>rfl)) (z0f _)) (z05 (z08 (z0g c_between hr (by omega) (z07 (z2g z82 (z0i ix_tup (z00 (i:=0) rfl z31 z4m z4n) z03 (fun _ _=>rfl)) z03) (z07 (z0i ix_tup (z00 (i:=0) rfl z31 z4m z4n) z03 (fun _ _=>rfl)) pa_nil)) z99 z57))) z0e)
 (z01 (z1k (z0d zre (z00 (i:=1) rfl za0 zw0 zw6) (z0i ix_tup (z00 (i:=0) rfl z31 z4m z4n) z03 (fun _ _=>rfl)) (z0f _)) (z05 (z08 (z0g c_between hr (by omega) (z07 (z0i ix_tup (z00 (i:=0) rfl z31 z4m z4n) z03 (fun _ _=>rfl)) (z07 (z2g zlt (z0i ix_tup (z00 (i:=0) rfl z31 z4m z4n) z03 (fun _ _=>rfl)) z03) pa_nil)) z99 z57))) z0e)
 (z05 (z08 (z00 (i:=0) rfl z31 z4m z4n))))),?_⟩
 walk_at "rd"
 refine⟨_,SqT.of hp,_,rfl,_,rfl,?_⟩
 split
 ·rename_i e
  refine⟨_,SqT.of hp,_,rfl,_,rfl,_,SqT.of hp,_,rfl,_,_,rfl,fun r H' s1 dr=>q r H' s1 ?_⟩
  unfold z4c
  rw [if_pos e]; exact dr
 ·rename_i e
  refine⟨_,SqT.of hp,_,rfl,_,rfl,?_⟩
  split
  ·rename_i e2
   refine⟨_,SqT.of hp,_,rfl,_,SqT.of hp,_,rfl,_,rfl,_,_,rfl,fun r H' s1 dr=>q r H' s1 ?_⟩
   unfold z4c
   rw [if_neg e,if_pos e2]; exact dr
  ·rename_i e2
   refine q _ _ (Same.refl _) ?_
   unfold z4c
   rw [if_neg e,if_neg e2]; exact hx
def qbe(g:Int×Int->Int×Int->Bool->S):Sp:=fun vs H Q _=>∃(x y:V) (o p:Int×Int) (so:Bool),vs=[x,y,.bl so]/\Dt H x (z6u (some o))/\Dt H y (z6u (some p))/\∀(r:V) (H':Hp),Same H H'->Dt H' r (z6u (g o p so))->Q r H'
theorem zlv(F:Fun K "left_by_same" "left_by_same" z1b f fd) (c_met:Callee P w K mg base "met" ["one","other"] 2 (zwl zev)) (c_without:Callee P w K mg base "without" ["own","worth"] 2 zle):FnOk P w K mg base CX0 3 f fd ["own","beside","is_so"] (qbe znh):=by
 refine F.ok zlm (fun vs H Q E h=>?_) (fun cdv A outer s H vs Q E hr h=>?_)
 ·obtain⟨x,y,o,p,so,rfl,_⟩:=h
  rfl
 obtain⟨x,y,o,p,so,rfl,hx,hy,q⟩:=h
 obtain⟨py,rfl,hpy⟩:=q7g hy
 refine⟨_,(z01 (z1k (z7e (z00 (i:=2) rfl zc5 z5n z5o)) (z05 (z08 (z0g c_met hr (by omega) (z07 (z00 (i:=0) rfl z5a z4m z4n) (z07 (z00 (i:=1) rfl z2w zh2 zh5) pa_nil)) zf1 zn0))) z0e)
 (z01 (z1k (z0d q95 (z0i ix_tup (z00 (i:=1) rfl z2w zh2 zh5) z03 (fun _ _=>rfl)) (z0i ix_tup (z00 (i:=1) rfl z2w zh2 zh5) z03 (fun _ _=>rfl)) (z0f _)) (z05 (z08 (z00 (i:=0) rfl z5a z4m z4n))) z0e)
 (z05 (z08 (z0g c_without hr (by omega) (z07 (z00 (i:=0) rfl z5a z4m z4n) (z07 (z0i ix_tup (z00 (i:=1) rfl z2w zh2 zh5) z03 (fun _ _=>rfl)) pa_nil)) zbh zp0))))),?_⟩
 walk_at "rd"
 cases so with
 | true=>
  rw [if_pos rfl]
  exact⟨_,_,_,_,rfl,hx,hy,fun r H' s1 dr=>q r H' s1 dr⟩
 | false=>
  rw [if_neg (by simp)]
  refine⟨_,SqT.of hpy,_,rfl,_,SqT.of hpy,_,rfl,_,rfl,_,rfl,?_⟩
  by_cases e:p.1=p.2
  ·rw [if_neg (by simp[e])]
   refine⟨_,SqT.of hpy,_,rfl,_,_,_,rfl,hx,fun r H' s1 dr=>q r H' s1 ?_⟩
   unfold znh
   rw [if_neg (by simp),if_neg (by simp[e])]; exact dr
  ·rw [if_pos (by simp[e])]
   refine q _ _ (Same.refl _) ?_
   unfold znh
   rw [if_neg (by simp),if_pos e]; exact hx
def qap(g:Wd->Int×Int->Int×Int->Bool->S):Sp:=fun vs H Q _=>∃(w:Wd) (x y:V) (o p:Int×Int) (so:Bool),vs=[.str w.str,x,y,.bl so]/\Dt H x (z6u (some o))/\Dt H y (z6u (some p))/\∀(r:V) (H':Hp),Same H H'->Dt H' r (z6u (g w o p so))->Q r H'
theorem znw(F:Fun K "left_of_one" "left_of_one" z13 f fd) (b_min:mg "min" = none) (b_max:mg "max" = none) (c_between:Callee P w K mg base "between" ["low","high"] 1 zad) (c_left_by_same:Callee P w K mg base "left_by_same" ["own","beside","is_so"] 3 (qbe znh)):FnOk P w K mg base CX0 4 f fd ["word","own","other","is_so"] (qap zey):=by
 refine F.ok znu (fun vs H Q E h=>?_) (fun cdv A outer s H vs Q E hr h=>?_)
 ·obtain⟨w,x,y,o,p,so,rfl,_⟩:=h
  rfl
 obtain⟨w,x,y,o,p,so,rfl,hx,hy,q⟩:=h
 obtain⟨px,rfl,hpx⟩:=q7g hx
 obtain⟨py,rfl,hpy⟩:=q7g hy
 refine⟨_,(z01 (z1k (z0d (gEq hr.units) (z00 (i:=0) rfl ze1 z5d z5e) z2s (z0f _)) (z05 (z08 (z0g c_left_by_same hr (by omega) (z07 (z00 (i:=1) rfl z33 z4m z4n) (z07 (z00 (i:=2) rfl z4p z0k z0l) (z07 (z00 (i:=3) rfl z7a z5n z5o) pa_nil))) z8f zdf))) z0e)
 (z01 (z1k (z7e (z00 (i:=3) rfl z7a z5n z5o)) (z05 (z08 (z0g c_between hr (by omega) (z07 (z0i ix_tup (z00 (i:=1) rfl z33 z4m z4n) z03 (fun _ _=>rfl)) (z07 (z54 (z8s rfl) zgs b_min zjk (z07 (z0i ix_tup (z00 (i:=1) rfl z33 z4m z4n) z03 (fun _ _=>rfl)) (z07 (z2g zlt (z0i ix_tup (z00 (i:=2) rfl z4p z0k z0l) z03 (fun _ _=>rfl)) z03) pa_nil)) zj4 zjc) pa_nil)) z6r z57))) z0e)
 (z05 (z08 (z0g c_between hr (by omega) (z07 (z54 (zas rfl) zgt b_max zni (z07 (z0i ix_tup (z00 (i:=1) rfl z33 z4m z4n) z03 (fun _ _=>rfl)) (z07 (z0i ix_tup (z00 (i:=2) rfl z4p z0k z0l) z03 (fun _ _=>rfl)) pa_nil)) zm3 zn1) (z07 (z0i ix_tup (z00 (i:=1) rfl z33 z4m z4n) z03 (fun _ _=>rfl)) pa_nil)) z6r z57))))),?_⟩
 walk_at "rd"
 refine⟨_,eqW w .same,?_⟩
 split
 ·rename_i e
  refine⟨_,_,_,_,_,rfl,hx,hy,fun r H' s1 dr=>q r H' s1 ?_⟩
  unfold zey
  rw [if_pos (of_decide_eq_true e)]; exact dr
 ·rename_i e
  have e:¬ w=.same:=fun z=>e (decide_eq_true z)
  cases so with
  | true=>
   rw [if_pos rfl]
   refine⟨_,SqT.of hpx,_,rfl,_,SqT.of hpx,_,rfl,_,SqT.of hpy,_,rfl,_,rfl,_,_,⟨rfl,rfl⟩,_,_,rfl,fun r H' s1 dr=>q r H' s1 ?_⟩
   unfold zey
   rw [if_neg e,if_pos rfl]; exact dr
  | false=>
   rw [if_neg (by simp)]
   refine⟨_,SqT.of hpx,_,rfl,_,SqT.of hpy,_,rfl,_,_,⟨rfl,rfl⟩,_,SqT.of hpx,_,rfl,_,_,rfl,fun r H' s1 dr=>q r H' s1 ?_⟩
   unfold zey
   rw [if_neg e,if_neg (by simp)]; exact dr
theorem zjz(F:Fun K "left_of_other" "left_of_other" z0q f fd) (b_min:mg "min" = none) (b_max:mg "max" = none) (c_between:Callee P w K mg base "between" ["low","high"] 1 zad) (c_left_by_same:Callee P w K mg base "left_by_same" ["own","beside","is_so"] 3 (qbe znh)):FnOk P w K mg base CX0 4 f fd ["word","own","one","is_so"] (qap z6h):=by
 refine F.ok zju (fun vs H Q E h=>?_) (fun cdv A outer s H vs Q E hr h=>?_)
 ·obtain⟨w,x,y,o,p,so,rfl,_⟩:=h
  rfl
 obtain⟨w,x,y,o,p,so,rfl,hx,hy,q⟩:=h
 obtain⟨px,rfl,hpx⟩:=q7g hx
 obtain⟨py,rfl,hpy⟩:=q7g hy
 refine⟨_,(z01 (z1k (z0d (gEq hr.units) (z00 (i:=0) rfl zc3 z5d z5e) z2s (z0f _)) (z05 (z08 (z0g c_left_by_same hr (by omega) (z07 (z00 (i:=1) rfl z2l z4m z4n) (z07 (z00 (i:=2) rfl z4o z1d z1e) (z07 (z00 (i:=3) rfl z65 z5n z5o) pa_nil))) z7u zdf))) z0e)
 (z01 (z1k (z7e (z00 (i:=3) rfl z65 z5n z5o)) (z05 (z08 (z0g c_between hr (by omega) (z07 (z54 (zas rfl) zee b_max zni (z07 (z0i ix_tup (z00 (i:=1) rfl z2l z4m z4n) z03 (fun _ _=>rfl)) (z07 (z2g z82 (z0i ix_tup (z00 (i:=2) rfl z4o z1d z1e) z03 (fun _ _=>rfl)) z03) pa_nil)) zm3 zn1) (z07 (z0i ix_tup (z00 (i:=1) rfl z2l z4m z4n) z03 (fun _ _=>rfl)) pa_nil)) z5u z57))) z0e)
 (z05 (z08 (z0g c_between hr (by omega) (z07 (z0i ix_tup (z00 (i:=1) rfl z2l z4m z4n) z03 (fun _ _=>rfl)) (z07 (z54 (z8s rfl) zed b_min zjk (z07 (z0i ix_tup (z00 (i:=1) rfl z2l z4m z4n) z03 (fun _ _=>rfl)) (z07 (z0i ix_tup (z00 (i:=2) rfl z4o z1d z1e) z03 (fun _ _=>rfl)) pa_nil)) zj4 zjc) pa_nil)) z5u z57))))),?_⟩
 walk_at "rd"
 refine⟨_,eqW w .same,?_⟩
 split
 ·rename_i e
  refine⟨_,_,_,_,_,rfl,hx,hy,fun r H' s1 dr=>q r H' s1 ?_⟩
  unfold z6h
  rw [if_pos (of_decide_eq_true e)]; exact dr
 ·rename_i e
  have e:¬ w=.same:=fun z=>e (decide_eq_true z)
  cases so with
  | true=>
   rw [if_pos rfl]
   refine⟨_,SqT.of hpx,_,rfl,_,SqT.of hpy,_,rfl,_,rfl,_,_,⟨rfl,rfl⟩,_,SqT.of hpx,_,rfl,_,_,rfl,fun r H' s1 dr=>q r H' s1 ?_⟩
   unfold z6h
   rw [if_neg e,if_pos rfl]; exact dr
  | false=>
   rw [if_neg (by simp)]
   refine⟨_,SqT.of hpx,_,rfl,_,SqT.of hpx,_,rfl,_,SqT.of hpy,_,rfl,_,_,⟨rfl,rfl⟩,_,_,rfl,fun r H' s1 dr=>q r H' s1 ?_⟩
   unfold z6h
   rw [if_neg e,if_neg (by simp)]; exact dr
def zyy:Sp:=fun vs H Q _=>∃(x:V) (s:S) (so:Bool),vs=[x,.bl so]/\Dt H x (z6u s)/\∀(r:V) (H':Hp),Same H H'->Dt H' r (z6u (zkm s so))->Q r H'
theorem zlu(F:Fun K "left_of_name" "left_of_name" z1r f fd) (c_met:Callee P w K mg base "met" ["one","other"] 2 (zwl zev)) (c_without:Callee P w K mg base "without" ["own","worth"] 2 zle):FnOk P w K mg base CX0 3 f fd ["own","is_so"] zyy:=by
 refine F.ok zll (fun vs H Q E h=>?_) (fun cdv A outer s H vs Q E hr h=>?_)
 ·obtain⟨x,s,so,rfl,_⟩:=h
  rfl
 obtain⟨x,s,so,rfl,hx,q⟩:=h
 refine⟨_,(z01 (z1k (PW.pt (zhs (z0d zqr (z00 (i:=0) rfl z59 z4m z4n) z2m (z0f _)) (zby (zg4 (z7e (z00 (i:=1) rfl zc4 z5n z5o)))))) (z05 (z08 (z0g c_met hr (by omega) (z07 (z00 (i:=0) rfl z59 z4m z4n) (z07 (z1a (z07 z03 (z07 z03 pa_nil))) pa_nil)) zf0 zn0))) z0e)
 (z05 (z08 (z0g c_without hr (by omega) (z07 (z00 (i:=0) rfl z59 z4m z4n) (z07 z03 pa_nil)) zbg zp0)))),?_⟩
 rcases dtS hx with⟨rfl,rfl⟩ | ⟨a,b,p,rfl,rfl,hp⟩<;>cases so<;>walk_at "rd"
 ·refine⟨zl 2 (by decide),fun p hp=>?_⟩
  exact⟨_,_,none,some (0,0),rfl,.non,z8o z02,fun r H' s1 dr=>q r H' ((z06 hp _).trans s1) dr⟩
 ·refine⟨zl 2 (by decide),fun p hp=>?_⟩
  exact⟨_,_,none,some (0,0),rfl,.non,z8o z02,fun r H' s1 dr=>q r H' ((z06 hp _).trans s1) dr⟩
 ·refine⟨zl 2 (by decide),fun p2 hp2=>?_⟩
  exact⟨_,_,_,_,rfl,hx.kp (z06 hp2 _).kp,z8o z02,fun r H' s1 dr=>q r H' ((z06 hp2 _).trans s1) dr⟩
 ·exact⟨_,_,_,rfl,hx,fun r H' s1 dr=>q r H' s1 dr⟩
end
abbrev Bk:=List (Str×Int×Int)
def BkR(H:Hp)(kvs:List (Key×V))(bk:Bk):Prop:=Paired (fun(p:Key×V) (q:Str×Int×Int)=>p.1=.inr q.1/\Dt H p.2 (z6u (some q.2))) kvs bk
theorem BkR.kp{H H':Hp}{kvs:List (Key×V)}{bk:Bk}(h:BkR H kvs bk)(k:Kp H H'):BkR H' kvs bk:=Paired.mapP h fun _ _ z=>⟨z.1,z.2.kp k⟩
def look:Bk->Str->S
 | [],_=>none
 | q::r,x=>if q.1=x then some q.2 else look r x
def zcl(bk:Bk)(x:Str)(s:Int×Int):Bk:=if(bk.any fun q=>decide (q.1=x))=true then bk.map (fun q=>if q.1=x then(q.1,s) else q) else bk++[(x,s)]
theorem BkR.look{H:Hp}{kvs:List (Key×V)}{bk:Bk}(h:BkR H kvs bk)(x:Str):(look bk x=none/\zns kvs (.inr x)=none)\/∃s v,look bk x=some s/\zns kvs (.inr x)=some v/\Dt H v (z6u (some s)):=by
 unfold BkR at h
 induction h with
 | nil=>exact .inl ⟨rfl,rfl⟩
 | cons rr _ ih=>
  rename_i p q _ _ _
  obtain⟨e,d⟩:=rr
  by_cases hx:q.1=x
  ·refine .inr ⟨q.2,p.2,?_,zay (by rw [e,hx]),d⟩
   unfold SR.look
   rw [if_pos hx]
  ·rw [zaz (by rw [e]; intro z; exact hx (Sum.inr.inj z))]
   unfold SR.look
   rw [if_neg hx]
   exact ih
theorem BkR.any{H:Hp}{kvs:List (Key×V)}{bk:Bk}(h:BkR H kvs bk)(x:Str):(kvs.any fun kv=>decide (kv.1=(Sum.inr x:Key)))=bk.any fun q=>decide (q.1=x):=by
 unfold BkR at h
 induction h with
 | nil=>rfl
 | cons rr _ ih=>
  rename_i p q _ _ _
  rw [List.any_cons,List.any_cons,ih,rr.1,q5c]
theorem BkR.put_map{H:Hp}{x:Str}{v:V}{s:Int×Int}(d:Dt H v (z6u (some s))){kvs:List (Key×V)}{bk:Bk}(h:BkR H kvs bk):BkR H (kvs.map fun kv=>if kv.1=Sum.inr x then(kv.1,v) else kv) (bk.map fun q=>if q.1=x then(q.1,s) else q):=by
 unfold BkR at h |-
 induction h with
 | nil=>exact .nil
 | cons rr _ ih=>
  rename_i p q _ _ _
  rw [List.map_cons,List.map_cons]
  refine .cons ?_ ih
  by_cases hx:q.1=x
  ·rw [if_pos hx,if_pos (show p.1=Sum.inr x by rw [rr.1,hx])]
   exact⟨rr.1,d⟩
  ·rw [if_neg hx,if_neg (show ¬ p.1=Sum.inr x by rw [rr.1]; intro z; exact hx (Sum.inr.inj z))]
   exact rr
theorem BkR.put{H:Hp}{kvs:List (Key×V)}{bk:Bk}(h:BkR H kvs bk)(x:Str){v:V}{s:Int×Int}(d:Dt H v (z6u (some s))):BkR H (zcj kvs (.inr x) v) (zcl bk x s):=by
 unfold zcj zcl
 rw [h.any x]
 split
 ·exact h.put_map d
 ·exact Paired.snoc h ⟨rfl,d⟩
theorem BkR.length{H:Hp}{kvs:List (Key×V)}{bk:Bk}(h:BkR H kvs bk):kvs.length=bk.length:=Paired.length h
theorem Rd.same{H H':Hp}{a:Addr}{u:HO}(r:Rd H a u)(s:Same H H'):Rd H' a u:=r.imp (s _ _) fun⟨o,e⟩=>⟨o,s _ _ e⟩
theorem DGet.kr{H:Hp}{a:Addr}{kvs:List (Key×V)}{k:Key}(e:Rd H a (.dK kvs)):DGet H a (kV k) (zns kvs k):=.inl ⟨kvs,k,e,rfl,rfl⟩
def IsBk(H:Hp)(d:Addr)(bk:Bk):Prop:=∃kvs,Rd H d (.dK kvs)/\BkR H kvs bk
theorem IsBk.same{H H':Hp}{d:Addr}{bk:Bk}(h:IsBk H d bk)(s:Same H H'):IsBk H' d bk:=by
 obtain⟨kvs,e,r⟩:=h
 exact⟨kvs,Rd.same e s,r.kp s.kp⟩
def zqn(H:Hp)(r:V)(o:Option Bk):Prop:=match o with
 | none=>r=.non
 | some bk=>∃d,r=.ref d/\IsBk H d bk
theorem zif{H:Hp}{p:Addr}{kvs kvs':List (Key×V)}(h:H p=some (.dK kvs)):Kp H (upd H p (.dK kvs')):=
 ⟨fun b zs e=>by rw [z0o (zrl e h (by intro z; cases z))]; exact e,fun b zs e=>⟨zs,by rw [z0o (zrl e h (by intro z; cases z))]; exact e⟩⟩
section
variable{P:Program}{w:World}{K:PySem.W.Frag}{mg:Str->Option Value}{base:Heap}{f:Addr}{fd:FuncData}
def zhp:Sp:=fun vs H Q _=>∃(d:Addr) (x:Str) (v:V) (bk:Bk) (s:S),vs=[.ref d,.str x,v]/\IsBk H d bk/\bk.length<=910/\Dt H v (z6u s)/\∀(r:V) (H':Hp),Same H H'->zqn H' r (s.map (zcl bk x))->Q r H'
theorem zrf(F:Fun K "with_left" "with_left" z2e f fd) (b_dict:mg "dict" = none):FnOk P w K mg base CX0 1 f fd ["book","name","stretch"] zhp:=by
 refine F.ok sc_with_left (fun vs H Q E h=>?_) (fun cdv A outer s H vs Q E hr h=>?_)
 ·obtain⟨d,x,v,bk,s,rfl,_⟩:=h
  rfl
 obtain⟨d,x,v,bk,s,rfl,⟨kvs,hd,rb⟩,hlen,hv,q⟩:=h
 refine⟨_,(z01 (z1k (z0d zqr (z00 (i:=2) rfl z79 z5w z5z) z2m (z0f _)) (z05 (z08 z2m)) z0e)
 (z01 (z11 (i:=3) sc_with_left.nd rfl zgd (zrb z9d zik b_dict zfk (z07 (z00 (i:=0) rfl zfp z1s z1t) pa_nil) zeu zfd) (z04 rfl))
 (z01 (zcx hr.units1 (z00 (i:=3) rfl z8w zfc zfh) (z00 (i:=1) rfl zfo z8q z8r) (z00 (i:=2) rfl z79 z5w z5z) (z04 rfl))
 (z05 (z08 (z00 (i:=3) rfl z8w zfc zfh)))))),?_⟩
 rcases dtS hv with⟨rfl,rfl⟩ | ⟨a,b,p,rfl,rfl,hp⟩<;>walk_at "rd"
 ·exact q _ _ (Same.refl _) rfl
 ·refine⟨_,hd,fun pd hpd=>?_⟩
  have s1:=z06 hpd (HO.dK kvs)
  have e1:upd H pd (HO.dK kvs) pd=_:=z02
  have s2:∀o,Same H (upd (upd H pd (HO.dK kvs)) pd o):=fun o=>z96 s1 hpd
  generalize upd H pd (HO.dK kvs)=U at s1 e1 s2 |-
  refine⟨_,DPut.k (k:=.inr x) e1 (by rw [rb.length]; exact z10 (by omega)),?_⟩
  refine q _ _ (s2 _) ⟨pd,rfl,_,.inl z02,?_⟩
  exact(rb.kp ((s1.kp).trans (zif e1))).put x (hv.kp ((s1.kp).trans (zif e1)))
def zz6(bk:Bk):T->S
 | .num i=>some (i,i)
 | .nm x=>look bk x
 | .op _ _ _=>none
def zow:T->Prop
 | .op _ _ _=>False
 | _=>True
def zz2:Sp:=fun vs H Q _=>∃(v:V) (t:T) (d:Addr) (bk:Bk),vs=[v,.ref d]/\Dt H v t.enc/\zow t/\IsBk H d bk/\∀(r:V) (H':Hp),Same H H'->Dt H' r (z6u (zz6 bk t))->Q r H'
theorem zjy{rw:Addr} (F:Fun K "reckoned_from" "reckoned_from" z0v f fd) (g_WIDE:GC mg "WIDE" (.ref rw)) (c_met:Callee P w K mg base "met" ["one","other"] 2 (zwl zev)) (c_stretch_of:Callee P w K mg base "stretch_of" ["word","one","other"] 4 qbf)
  (c_reckoned_from:Callee P w K mg base "reckoned_from" ["term","book"] 0 (fun _ _ _ _=>False)):FnOk P w K mg base CX0 5 f fd ["term","book"] zz2:=by
 refine F.ok zjt (fun vs H Q E h=>?_) (fun cdv A outer s H vs Q E hr h=>?_)
 ·obtain⟨v,t,d,bk,rfl,_⟩:=h
  rfl
 obtain⟨v,t,d,bk,rfl,hv,ht,⟨kvs,hd,rb⟩,q⟩:=h
 refine⟨_,(z01 (z1k (z0d (gEq hr.units) (z0i ix_tup (z00 (i:=0) rfl z0u z0x z0y) z03 (fun _ _=>rfl)) z2s (z0f _)) (z05 (z08 (z1a (z07 (z0i ix_tup (z00 (i:=0) rfl z0u z0x z0y) z03 (fun _ _=>rfl)) (z07 (z0i ix_tup (z00 (i:=0) rfl z0u z0x z0y) z03 (fun _ _=>rfl)) pa_nil))))) z0e)
 (z01 (z1k (z0d (gEq hr.units) (z0i ix_tup (z00 (i:=0) rfl z0u z0x z0y) z03 (fun _ _=>rfl)) z2s (z0f _)) (z05 (z08 (zkk hr.units1 (z00 (i:=1) rfl z4d z1s z1t) (z0i ix_tup (z00 (i:=0) rfl z0u z0x z0y) z03 (fun _ _=>rfl)) ⟨rfl,rfl,rfl,rfl⟩))) z0e)
 (z05 (z08 (z0g c_met hr (by omega) (z07 (z0g c_stretch_of hr (by omega) (z07 (z0i ix_tup (z00 (i:=0) rfl z0u z0x z0y) z03 (fun _ _=>rfl)) (z07 (z0g c_reckoned_from hr (by omega) (z07 (z0i ix_tup (z00 (i:=0) rfl z0u z0x z0y) z03 (fun _ _=>rfl)) (z07 (z00 (i:=1) rfl z4d z1s z1t) pa_nil)) z3v z5m) (z07 (z0g c_reckoned_from hr (by omega) (z07 (z0i ix_tup (z00 (i:=0) rfl z0u z0x z0y) z03 (fun _ _=>rfl)) (z07 (z00 (i:=1) rfl z4d z1s z1t) pa_nil)) z3v z5m) pa_nil))) z8e zh1) (z07 (zg6 g_WIDE zd4 zfg) pa_nil)) zec zn0))))),?_⟩
 match t,hv,ht with
 | .num i,hv,_=>
  obtain⟨pv,xs,rfl,hpv,da⟩:=hv.tupI
  rcases da with _ | ⟨d1,_ | ⟨d2,_ | _⟩⟩
  cases d1; cases d2
  walk_at "rd"
  refine⟨_,SqT.of hpv,_,rfl,_,.inl ⟨rfl,rfl⟩,?_⟩
  rw [if_pos (by decide+kernel)]
  exact⟨_,SqT.of hpv,_,rfl,_,SqT.of hpv,_,rfl,zl 2 (by decide),fun p hp=>q _ _ (z06 hp _) (z8o z02)⟩
 | .nm x,hv,_=>
  obtain⟨pv,xs,rfl,hpv,da⟩:=hv.tupI
  rcases da with _ | ⟨d1,_ | ⟨d2,_ | _⟩⟩
  cases d1; cases d2
  walk_at "rd"
  refine⟨_,SqT.of hpv,_,rfl,_,.inl ⟨rfl,rfl⟩,?_⟩
  rw [if_neg (by decide+kernel)]
  refine⟨_,SqT.of hpv,_,rfl,_,.inl ⟨rfl,rfl⟩,?_⟩
  rw [if_pos (by decide+kernel)]
  refine⟨.inl ⟨_,hd⟩,_,SqT.of hpv,_,rfl,_,DGet.kr (k:=.inr x) hd,?_⟩
  have q:∀(r:V) (H':Hp),Same H H'->Dt H' r (z6u (look bk x))->Q r H':=q
  rcases rb.look x with⟨e1,e2⟩ | ⟨sx,vx,e1,e2,dx⟩
  ·rw [e2]
   rw [e1] at q
   exact q _ _ (Same.refl _) .non
  ·rw [e2]
   rw [e1] at q
   exact q _ _ (Same.refl _) dx
end
theorem zvk(x y:Str)(s:Int×Int):∀bk:Bk,look (bk.map fun q=>if q.1=x then(q.1,s) else q) y=if y=x then(look bk y).map (fun _=>s) else look bk y
 | []=>by simp[look]
 | q::r=>by
  rw [List.map_cons,look,look,zvk x y s r]
  by_cases h1:q.1=x
  ·rw [if_pos h1]
   by_cases h2:q.1=y
   ·rw [if_pos h2,if_pos h2,if_pos (by rw [<- h2,h1])]; rfl
   ·rw [if_neg h2,if_neg h2]
  ·rw [if_neg h1]
   by_cases h2:q.1=y
   ·rw [if_pos h2,if_pos h2,if_neg (by rw [<- h2]; exact h1)]
   ·rw [if_neg h2,if_neg h2]
theorem zvl(x:Str):∀bk:Bk,(bk.any fun q=>decide (q.1=x))=(look bk x).isSome
 | []=>rfl
 | q::r=>by
  rw [List.any_cons,look,zvl x r]
  by_cases h:q.1=x
  ·rw [if_pos h]; simp[h]
  ·rw [if_neg h]; simp[h]
theorem zrm(x y:Str)(s:Int×Int):∀bk:Bk,look bk x=none->look (bk++[(x,s)]) y=if y=x then some s else look bk y
 | [],_=>by
  rw [List.nil_append,look,look]
  by_cases h:x=y
  ·rw [if_pos h,if_pos h.symm]
  ·rw [if_neg h,if_neg (fun z=>h z.symm)]; rfl
 | q::r,hn=>by
  rw [look] at hn
  by_cases h:q.1=x
  ·rw [if_pos h] at hn; cases hn
  ·rw [if_neg h] at hn
   rw [List.cons_append,look,look,zrm x y s r hn]
   by_cases h2:q.1=y
   ·rw [if_pos h2,if_pos h2,if_neg (by rw [<- h2]; exact h)]
   ·rw [if_neg h2,if_neg h2]
theorem q02(bk:Bk)(x y:Str)(s:Int×Int):look (zcl bk x s) y=if y=x then some s else look bk y:=by
 unfold zcl
 rw [zvl]
 by_cases h:(look bk x).isSome=true
 ·rw [if_pos h,zvk]
  by_cases e:y=x
  ·rw [if_pos e,if_pos e,e]
   obtain⟨z,hz⟩:=Option.isSome_iff_exists.mp h
   rw [hz]; rfl
  ·rw [if_neg e,if_neg e]
 ·rw [if_neg h]
  exact zrm x y s bk (by simpa using h)
theorem zdx(bk:Bk)(x:Str)(s:Int×Int):(zcl bk x s).length<=bk.length+1:=by
 unfold zcl
 split
 ·rw [List.length_map]; omega
 ·rw [List.length_append]; simp
def bq1(w:Wd)(a:T)(one other:Int×Int)(bk:Bk)(so:Bool):Option Bk:=match a with
 | .nm x=>(zey w one other so).map (zcl bk x)
 | _=>some bk
def bq2(w:Wd)(b:T)(one:Int×Int)(bk:Bk)(so:Bool):Option Bk:=match b with
 | .nm y=>(match look bk y with | some own=>(z6h w own one so).map (zcl bk y) | none=>none)
 | _=>some bk
theorem q5m{w:Wd}{y:Str}{one own:Int×Int}{bk:Bk}{so:Bool}(h:look bk y=some own):bq2 w (.nm y) one bk so=(z6h w own one so).map (zcl bk y):=by
 show(match look bk y with | some own=>(z6h w own one so).map (zcl bk y) | none=>none)=_
 rw [h]
def bq(w:Wd)(a b:T)(bk:Bk)(so:Bool):Option Bk:=match zz6 bk a,zz6 bk b with
 | some one,some other=>(match bq1 w a one other bk so with | some bk1=>bq2 w b one bk1 so | none=>none)
 | _,_=>none
def bhd(t:T)(bk:Bk)(so:Bool):Option Bk:=match t with
 | .nm x=>(zkm (look bk x) so).map (zcl bk x)
 | .op w a b=>bq w a b bk so
 | .num _=>some bk
section
variable{P:Program}{w:World}{K:PySem.W.Frag}{mg:Str->Option Value}{base:Heap}{f:Addr}{fd:FuncData}
theorem zqz{t:T}(h:zow t){H:Hp}{v:V}(hv:Dt H v t.enc):∃p y,v=.ref p/\((∃x,t=.nm x/\y=.str x/\H p=some (.tup [.str "name",y]))\/(∃i,t=.num i/\y=.int i/\H p=some (.tup [.str "num",y]))):=by
 match t,h,hv with
 | .num i,_,hv=>
  obtain⟨pv,xs,rfl,hpv,da⟩:=hv.tupI
  rcases da with _ | ⟨d1,_ | ⟨d2,_ | _⟩⟩
  cases d1; cases d2
  exact⟨pv,_,rfl,.inr ⟨i,rfl,rfl,hpv⟩⟩
 | .nm x,_,hv=>
  obtain⟨pv,xs,rfl,hpv,da⟩:=hv.tupI
  rcases da with _ | ⟨d1,_ | ⟨d2,_ | _⟩⟩
  cases d1; cases d2
  exact⟨pv,_,rfl,.inl ⟨x,rfl,rfl,hpv⟩⟩
def qbi:Sp:=fun vs H Q _=>∃(v:V) (w:Wd) (a b:T) (d:Addr) (bk:Bk) (so:Bool),vs=[v,.ref d,.bl so]/\Dt H v (T.op w a b).enc/\zow a/\zow b/\IsBk H d bk/\bk.length<=900/\∀(r:V) (H':Hp),Same H H'->zqn H' r (bq w a b bk so)->Q r H'
theorem zg9(F:Fun K "behind_question" "behind_question" z09 f fd) (b_dict:mg "dict" = none) (c_reckoned_from:Callee P w K mg base "reckoned_from" ["term","book"] 5 zz2) (c_with_left:Callee P w K mg base "with_left" ["book","name","stretch"] 1 zhp)
  (c_left_of_one:Callee P w K mg base "left_of_one" ["word","own","other","is_so"] 4 (qap zey)) (c_left_of_other:Callee P w K mg base "left_of_other" ["word","own","one","is_so"] 4 (qap z6h)):FnOk P w K mg base CX0 6 f fd ["term","book","is_so"] qbi:=by
 refine F.ok sc_behind_question (fun vs H Q E h=>?_) (fun cdv A outer s H vs Q E hr h=>?_)
 ·obtain⟨v,w,a,b,d,bk,so,rfl,_⟩:=h
  rfl
 obtain⟨v,w,a,b,d,bk,so,rfl,hv,ha,hb,hbk,hlen,q⟩:=h
 obtain⟨pv,xs,rfl,hpv,da⟩:=hv.tupI
 rcases da with _ | ⟨d1,_ | ⟨d2,_ | ⟨d3,_ | _⟩⟩⟩
 cases d1
 rename_i va vb
 refine⟨_,(z01 (z11 (i:=3) sc_behind_question.nd rfl zbb (z0g c_reckoned_from hr (by omega) (z07 (z0i ix_tup (z00 (i:=0) rfl z0m z0x z0y) z03 (fun _ _=>rfl)) (z07 (z00 (i:=1) rfl z3q z1s z1t) pa_nil)) z3k z5m) (z04 rfl))
 (z01 (z11 (i:=4) sc_behind_question.nd rfl z9p (z0g c_reckoned_from hr (by omega) (z07 (z0i ix_tup (z00 (i:=0) rfl z0m z0x z0y) z03 (fun _ _=>rfl)) (z07 (z00 (i:=1) rfl z3q z1s z1t) pa_nil)) z3k z5m) (z04 rfl))
 (z01 (z1k (PW.pt (zhs (z0d zqr (z00 (i:=3) rfl z41 z1d z1e) z2m (z0f _)) (zby (z0d zqr (z00 (i:=4) rfl z5h z0k z0l) z2m (z0f _))))) (z05 (z08 z2m)) z0e)
 (z01 (z11 (i:=5) sc_behind_question.nd rfl z3t (zrb z9d zbj b_dict zfk (z07 (z00 (i:=1) rfl z3q z1s z1t) pa_nil) zeu zfd) (z04 rfl))
 (z01 (z1k (z0d (gEq hr.units) (z0i ix_tup (z0i ix_tup (z00 (i:=0) rfl z0m z0x z0y) z03 (fun _ _=>rfl)) z03 (fun _ _=>rfl)) z2s (z0f _)) (z05 (z11 (i:=5) sc_behind_question.nd rfl z3t (z0g c_with_left hr (by omega) (z07 (z00 (i:=5) rfl z1y zfc zfh) (z07 (z0i ix_tup (z0i ix_tup (z00 (i:=0) rfl z0m z0x z0y) z03 (fun _ _=>rfl)) z03 (fun _ _=>rfl)) (z07 (z0g c_left_of_one hr (by omega) (z07 (z0i ix_tup (z00 (i:=0) rfl z0m z0x z0y) z03 (fun _ _=>rfl)) (z07 (z00 (i:=3) rfl z41 z1d z1e) (z07 (z00 (i:=4) rfl z5h z0k z0l) (z07 (z00 (i:=2) rfl z5i z5n z5o) pa_nil)))) z7h zof) pa_nil))) z4l zdd) (z04 rfl))) z0e)
 (z01 (z1k (PW.pt (zr8 (z0d q0q (z00 (i:=5) rfl z1y zfc zfh) z2m (z0f _)) (zlq (z0d (gEq hr.units) (z0i ix_tup (z0i ix_tup (z00 (i:=0) rfl z0m z0x z0y) z03 (fun _ _=>rfl)) z03 (fun _ _=>rfl)) z2s (z0f _))))) (z01 (z11 (i:=6) sc_behind_question.nd rfl zba (z4f hr.units1 (z00 (i:=5) rfl z1y zfc zfh) (z0i ix_tup (z0i ix_tup (z00 (i:=0) rfl z0m z0x z0y) z03 (fun _ _=>rfl)) z03 (fun _ _=>rfl)) (fun _ _=>rfl)) (z04 rfl))
 (z05 (z11 (i:=5) sc_behind_question.nd rfl z3t (z0g c_with_left hr (by omega) (z07 (z00 (i:=5) rfl z1y zfc zfh) (z07 (z0i ix_tup (z0i ix_tup (z00 (i:=0) rfl z0m z0x z0y) z03 (fun _ _=>rfl)) z03 (fun _ _=>rfl)) (z07 (z0g c_left_of_other hr (by omega) (z07 (z0i ix_tup (z00 (i:=0) rfl z0m z0x z0y) z03 (fun _ _=>rfl)) (z07 (z00 (i:=6) rfl zax z4m z4n) (z07 (z00 (i:=3) rfl z41 z1d z1e) (z07 (z00 (i:=2) rfl z5i z5n z5o) pa_nil)))) z6m zkh) pa_nil))) z4l zdd) (z04 rfl)))) z0e)
 (z05 (z08 (z00 (i:=5) rfl z1y zfc zfh))))))))),?_⟩
 walk_at "rd"
 refine⟨_,SqT.of hpv,_,rfl,va,a,d,bk,rfl,d2,ha,hbk,fun r1 H1 s1 dr1=>?_⟩
 refine⟨_,SqT.of (s1 _ _ hpv),_,rfl,vb,b,d,bk,rfl,d3.kp s1.kp,hb,hbk.same s1,fun r2 H2 s2 dr2=>?_⟩
 have s02:=s1.trans s2
 have dr1:=dr1.kp s2.kp
 rcases dtS dr1 with⟨e1,rfl⟩ | ⟨l1,h1,p1,e1,rfl,hp1⟩
 ·walk_at "rd"
  refine q _ _ s02 ?_
  unfold bq
  rw [e1]; exact rfl
 rcases dtS dr2 with⟨e2,rfl⟩ | ⟨l2,h2,p2,e2,rfl,hp2⟩
 ·walk_at "rd"
  refine q _ _ s02 ?_
  unfold bq
  rw [e1,e2]; exact rfl
 walk_at "rd"
 obtain⟨kvs,hd,rb⟩:=hbk.same s02
 refine⟨kvs,hd,fun pd hpd=>?_⟩
 have s3:=z06 hpd (HO.dK kvs)
 have bU:IsBk (upd H2 pd (HO.dK kvs)) pd bk:=⟨kvs,.inl z02,rb.kp s3.kp⟩
 generalize upd H2 pd (HO.dK kvs)=U at s3 bU |-
 have s03:=s02.trans s3
 obtain⟨pa,ya,rfl,hpa⟩:=zqz ha d2
 obtain⟨pb,yb,rfl,hpb⟩:=zqz hb d3
 have hb1:∀y,b=.nm y->(look bk y).isSome=true:=fun y e=>by
  have z:look bk y=some (l2,h2):=by rw [e] at e2; exact e2
  rw [z]; rfl
 refine⟨_,SqT.of (s03 _ _ hpv),_,rfl,_,rfl,?_⟩
 rcases hpa with⟨x,rfl,rfl,hpa⟩ | ⟨i,rfl,rfl,hpa⟩
 ·refine⟨_,SqT.of (s03 _ _ hpa),_,rfl,_,.inl ⟨rfl,rfl⟩,?_⟩
  rw [if_pos (by decide+kernel)]
  refine⟨_,SqT.of (s03 _ _ hpv),_,rfl,_,rfl,_,SqT.of (s03 _ _ hpa),_,rfl,_,SqT.of (s03 _ _ hpv),_,rfl,?_⟩
  refine⟨w,_,_,(l1,h1),(l2,h2),so,rfl,(z8o hp1).kp s3.kp,(z8o hp2).kp s3.kp,fun r4 H4 s4 dr4=>?_⟩
  refine⟨pd,x,r4,bk,_,rfl,bU.same s4,by omega,dr4,fun r5 H5 s5 hr5=>?_⟩
  cases hl1:zey w (l1,h1) (l2,h2) so with
  | none=>
   rw [hl1] at hr5
   cases hr5
   rw [if_neg (by simp)]
   refine q _ _ (s03.trans (s4.trans s5)) ?_
   unfold bq
   rw [e1,e2]
   dsimp only[bq1]
   rw [hl1]; exact rfl
  | some sl=>
   rw [hl1] at hr5
   obtain⟨dl,rfl,hdl⟩:=hr5
   walk_at "rd"
   have sx:=s03.trans (s4.trans s5)
   have d1x:=(z8o hp1).kp (s3.trans (s4.trans s5)).kp
   have hq:bq w (.nm x) b bk so=bq2 w b (l1,h1) (zcl bk x sl) so:=by
    unfold bq
    rw [e1,e2]
    dsimp only[bq1]
    rw [hl1]; rfl
   have hlx:(zcl bk x sl).length<=905:=by have:=zdx bk x sl; omega
   have hlk:∀y,b=.nm y->(look (zcl bk x sl) y).isSome=true:=fun y e=>by
    rw [q02]
    split
    ·rfl
    ·exact hb1 y e
   generalize zcl bk x sl=bk1 at hdl hq hlx hlk
   refine⟨_,SqT.of (sx _ _ hpv),_,rfl,_,rfl,?_⟩
   rcases hpb with⟨y,rfl,rfl,hpb⟩ | ⟨i,rfl,rfl,hpb⟩
   ·refine⟨_,SqT.of (sx _ _ hpb),_,rfl,_,.inl ⟨rfl,rfl⟩,?_⟩
    rw [if_pos (by decide+kernel)]
    obtain⟨kv1,hd1,rb1⟩:=id hdl
    rcases rb1.look y with⟨z1,z2⟩ | ⟨own,vo,z1,z2,dvo⟩
    ·have:=hlk y rfl
     rw [z1] at this; cases this
    ·have dg:=DGet.kr (k:=.inr y) hd1
     rw [z2] at dg
     refine⟨_,SqT.of (sx _ _ hpv),_,rfl,_,rfl,_,SqT.of (sx _ _ hpb),_,rfl,vo,dg,_,SqT.of (sx _ _ hpv),_,rfl,_,rfl,_,SqT.of (sx _ _ hpb),_,rfl,_,SqT.of (sx _ _ hpv),_,rfl,?_⟩
     refine⟨w,vo,_,own,(l1,h1),so,rfl,dvo,d1x,fun r6 H6 s6 dr6=>?_⟩
     refine⟨dl,y,r6,bk1,_,rfl,hdl.same s6,by omega,dr6,fun r7 H7 s7 hr7=>q r7 H7 (sx.trans (s6.trans s7)) ?_⟩
     rw [hq]
     rw [q5m z1]; exact hr7
   ·refine⟨_,SqT.of (sx _ _ hpb),_,rfl,_,.inl ⟨rfl,rfl⟩,?_⟩
    rw [if_neg (by decide+kernel)]
    exact q _ _ sx (by rw [hq]; exact⟨dl,rfl,hdl⟩)
 ·refine⟨_,SqT.of (s03 _ _ hpa),_,rfl,_,.inl ⟨rfl,rfl⟩,?_⟩
  rw [if_neg (by decide+kernel)]
  have d1x:=(z8o hp1).kp s3.kp
  have hq:bq w (.num i) b bk so=bq2 w b (l1,h1) bk so:=by
   unfold bq
   rw [e1,e2]; rfl
  refine⟨_,SqT.of (s03 _ _ hpv),_,rfl,_,rfl,?_⟩
  rcases hpb with⟨y,rfl,rfl,hpb⟩ | ⟨i2,rfl,rfl,hpb⟩
  ·refine⟨_,SqT.of (s03 _ _ hpb),_,rfl,_,.inl ⟨rfl,rfl⟩,?_⟩
   rw [if_pos (by decide+kernel)]
   obtain⟨kv1,hd1,rb1⟩:=id bU
   rcases rb1.look y with⟨z1,z2⟩ | ⟨own,vo,z1,z2,dvo⟩
   ·have:=hb1 y rfl
    rw [z1] at this; cases this
   ·have dg:=DGet.kr (k:=.inr y) hd1
    rw [z2] at dg
    refine⟨_,SqT.of (s03 _ _ hpv),_,rfl,_,rfl,_,SqT.of (s03 _ _ hpb),_,rfl,vo,dg,_,SqT.of (s03 _ _ hpv),_,rfl,_,rfl,_,SqT.of (s03 _ _ hpb),_,rfl,_,SqT.of (s03 _ _ hpv),_,rfl,?_⟩
    refine⟨w,vo,_,own,(l1,h1),so,rfl,dvo,d1x,fun r6 H6 s6 dr6=>?_⟩
    refine⟨pd,y,r6,bk,_,rfl,bU.same s6,by omega,dr6,fun r7 H7 s7 hr7=>q r7 H7 (s03.trans (s6.trans s7)) ?_⟩
    rw [hq]
    rw [q5m z1]; exact hr7
  ·refine⟨_,SqT.of (s03 _ _ hpb),_,rfl,_,.inl ⟨rfl,rfl⟩,?_⟩
   rw [if_neg (by decide+kernel)]
   exact q _ _ s03 (by rw [hq]; exact⟨pd,rfl,bU⟩)
def isQ:T->Prop
 | .nm _=>True
 | .op w a b=>(w=.less\/w=.same)/\zow a/\zow b
 | .num _=>False
def q2g:Sp:=fun vs H Q _=>∃(v:V) (t:T) (d:Addr) (bk:Bk) (so:Bool),vs=[v,.ref d,.bl so]/\Dt H v t.enc/\isQ t/\IsBk H d bk/\bk.length<=900/\∀(r:V) (H':Hp),Same H H'->zqn H' r (bhd t bk so)->Q r H'
theorem zzv(F:Fun K "behind" "behind" z4k f fd) (b_dict:mg "dict" = none) (c_with_left:Callee P w K mg base "with_left" ["book","name","stretch"] 1 zhp) (c_left_of_name:Callee P w K mg base "left_of_name" ["own","is_so"] 3 zyy)
  (c_behind_question:Callee P w K mg base "behind_question" ["term","book","is_so"] 6 qbi):FnOk P w K mg base CX0 7 f fd ["term","book","is_so"] q2g:=by
 refine F.ok zzb (fun vs H Q E h=>?_) (fun cdv A outer s H vs Q E hr h=>?_)
 ·obtain⟨v,t,d,bk,so,rfl,_⟩:=h
  rfl
 obtain⟨v,t,d,bk,so,rfl,hv,ht,hbk,hlen,q⟩:=h
 refine⟨_,(z01 (z1k (z0d (gEq hr.units) (z0i ix_tup (z00 (i:=0) rfl z3p z0x z0y) z03 (fun _ _=>rfl)) z2s (z0f _)) (z05 (z08 (z0g c_with_left hr (by omega) (z07 (z00 (i:=1) rfl z69 z1s z1t) (z07 (z0i ix_tup (z00 (i:=0) rfl z3p z0x z0y) z03 (fun _ _=>rfl)) (z07 (z0g c_left_of_name hr (by omega) (z07 (zkk hr.units1 (z00 (i:=1) rfl z69 z1s z1t) (z0i ix_tup (z00 (i:=0) rfl z3p z0x z0y) z03 (fun _ _=>rfl)) ⟨rfl,rfl,rfl,rfl⟩) (z07 (z00 (i:=2) rfl zbw z5n z5o) pa_nil)) zcg zn2) pa_nil))) zf8 zdd))) z0e)
 (z01 (z1k (PW.pt (zhs (z0d (gEq hr.units) (z0i ix_tup (z00 (i:=0) rfl z3p z0x z0y) z03 (fun _ _=>rfl)) z2s (z0f _)) (zby (z0d (gEq hr.units) (z0i ix_tup (z00 (i:=0) rfl z3p z0x z0y) z03 (fun _ _=>rfl)) z2s (z0f _))))) (z05 (z08 (z0g c_behind_question hr (by omega) (z07 (z00 (i:=0) rfl z3p z0x z0y) (z07 (z00 (i:=1) rfl z69 z1s z1t) (z07 (z00 (i:=2) rfl zbw z5n z5o) pa_nil))) z9v zh3))) z0e)
 (z05 (z08 (zrb z9d zoe b_dict zfk (z07 (z00 (i:=1) rfl z69 z1s z1t) pa_nil) zeu zfd))))),?_⟩
 match t,hv,ht with
 | .nm x,hv,_=>
  obtain⟨pv,xs,rfl,hpv,da⟩:=hv.tupI
  rcases da with _ | ⟨d1,_ | ⟨d2,_ | _⟩⟩
  cases d1; cases d2
  walk_at "rd"
  refine⟨_,SqT.of hpv,_,rfl,_,.inl ⟨rfl,rfl⟩,?_⟩
  rw [if_pos (by decide+kernel)]
  obtain⟨kvs,hd,rb⟩:=id hbk
  refine⟨_,SqT.of hpv,_,rfl,.inl ⟨_,hd⟩,_,SqT.of hpv,_,rfl,_,DGet.kr (k:=.inr x) hd,?_⟩
  rcases rb.look x with⟨z1,z2⟩ | ⟨own,vo,z1,z2,dvo⟩
  ·rw [z2]
   refine⟨_,none,so,rfl,.non,fun r1 H1 s1 dr1=>?_⟩
   refine⟨d,x,r1,bk,_,rfl,hbk.same s1,by omega,dr1,fun r2 H2 s2 hr2=>q r2 H2 (s1.trans s2) ?_⟩
   show zqn H2 r2 (Option.map (zcl bk x) (zkm (look bk x) so))
   rw [z1]; exact hr2
  ·rw [z2]
   refine⟨_,some own,so,rfl,dvo,fun r1 H1 s1 dr1=>?_⟩
   refine⟨d,x,r1,bk,_,rfl,hbk.same s1,by omega,dr1,fun r2 H2 s2 hr2=>q r2 H2 (s1.trans s2) ?_⟩
   show zqn H2 r2 (Option.map (zcl bk x) (zkm (look bk x) so))
   rw [z1]; exact hr2
 | .op w a b,hv,ht=>
  obtain⟨hw,ha,hb⟩:=ht
  obtain⟨pv,xs,rfl,hpv,da⟩:=id hv.tupI
  rcases da with _ | ⟨d1,_ | ⟨d2,_ | ⟨d3,_ | _⟩⟩⟩
  cases d1
  walk_at "rd"
  have fin:qbi [V.ref pv,V.ref d,V.bl so] H Q E0:=⟨_,w,a,b,d,bk,so,rfl,hv,ha,hb,hbk,hlen,q⟩
  refine⟨_,SqT.of hpv,_,rfl,_,.inl ⟨rfl,rfl⟩,?_⟩
  rw [if_neg (by rcases hw with rfl | rfl<;>decide+kernel)]
  refine⟨_,SqT.of hpv,_,rfl,_,eqW w .less,?_⟩
  split
  ·exact fin
  ·rename_i e
   refine⟨_,SqT.of hpv,_,rfl,_,eqW w .same,?_⟩
   rw [if_pos (decide_eq_true (hw.resolve_left fun z=>e (decide_eq_true z)))]
   exact fin
end
abbrev Pth:=List Int
abbrev Nts:=List (Pth×Int×Int)
def z81(p:Pth):List Key:=p.map Sum.inl
theorem z6f:∀p:Pth,(z81 p).map kV=p.map V.int
 | []=>rfl
 | i::r=>by
  show kV (.inl i)::(z81 r).map kV=.int i::r.map V.int
  rw [z6f r]; rfl
theorem zb5:∀{p q:Pth},z81 p=z81 q->p=q
 | [],[],_=>rfl
 | [],_::_,h=>by cases h
 | _::_,[],h=>by cases h
 | i::p,j::q,h=>by
  have h:Sum.inl i::z81 p=(Sum.inl j:Key)::z81 q:=h
  injection h with h1 h2
  injection h1 with h1
  rw [h1,zb5 h2]
theorem zvb(p q:Pth):decide (z81 p=z81 q)=decide (p=q):=by
 rw [decide_eq_decide]
 exact⟨zb5,fun h=>by rw [h]⟩
def PtA(H:Hp)(v:V)(p:Pth):Prop:=∃a,v=.ref a/\H a=some (.tup (p.map V.int))
theorem PtA.kp{H H':Hp}{v:V}{p:Pth}(h:PtA H v p)(k:Kp H H'):PtA H' v p:=by
 obtain⟨a,e,h⟩:=h
 exact⟨a,e,k.t _ _ h⟩
theorem q4i{K:PySem.W.Frag}{H:Hp}{v:V}{b:Addr}{p q:Pth}{Q:VK}(h:PtA H v p)(hb:H b=some (.tup (q.map V.int)))(hl:p.length+q.length<=1000)(k:∀r H',Same H H'->PtA H' r (p++q)->Q r H'):zoq K v (.ref b) H Q:=by
 obtain⟨a,rfl,ha⟩:=h
 refine⟨a,b,_,_,rfl,rfl,SqT.of ha,SqT.of hb,by rw [List.length_map,List.length_map]; exact zl _ hl,fun e=>?_,fun _ e=>?_,fun _ _ c hc=>?_⟩
 ·have e:p=[]:=by simpa using e
  subst e
  exact k _ _ (Same.refl _) ⟨b,rfl,hb⟩
 ·have e:q=[]:=by simpa using e
  subst e
  exact k _ _ (Same.refl _) ⟨a,rfl,by rw [List.append_nil]; exact ha⟩
 ·exact k _ _ (z06 hc _) ⟨c,rfl,by rw [z02,List.map_append]⟩
def NtR(H:Hp)(kvs:List (List Key×V))(ns:Nts):Prop:=Paired (fun(p:List Key×V) (q:Pth×Int×Int)=>p.1=z81 q.1/\Dt H p.2 (z6u (some q.2))) kvs ns
theorem NtR.kp{H H':Hp}{kvs:List (List Key×V)}{ns:Nts}(h:NtR H kvs ns)(k:Kp H H'):NtR H' kvs ns:=Paired.mapP h fun _ _ z=>⟨z.1,z.2.kp k⟩
def zzx(ns:Nts)(p:Pth)(s:Int×Int):Nts:=if(ns.any fun q=>decide (q.1=p))=true then ns.map (fun q=>if q.1=p then(q.1,s) else q) else ns++[(p,s)]
theorem q3m(ns:Nts)(p:Pth)(s:Int×Int):(zzx ns p s).length<=ns.length+1:=by
 unfold zzx
 split
 ·rw [List.length_map]; omega
 ·rw [List.length_append]; simp
theorem NtR.any{H:Hp}{kvs:List (List Key×V)}{ns:Nts}(h:NtR H kvs ns)(p:Pth):(kvs.any fun kv=>decide (kv.1=z81 p))=ns.any fun q=>decide (q.1=p):=by
 unfold NtR at h
 induction h with
 | nil=>rfl
 | cons rr _ ih=>
  rename_i a q _ _ _
  rw [List.any_cons,List.any_cons,ih,rr.1,zvb]
theorem NtR.put_map{H:Hp}{p:Pth}{v:V}{s:Int×Int}(d:Dt H v (z6u (some s))){kvs:List (List Key×V)}{ns:Nts}(h:NtR H kvs ns):NtR H (kvs.map fun kv=>if kv.1=z81 p then(kv.1,v) else kv) (ns.map fun q=>if q.1=p then(q.1,s) else q):=by
 unfold NtR at h |-
 induction h with
 | nil=>exact .nil
 | cons rr _ ih=>
  rename_i a q _ _ _
  rw [List.map_cons,List.map_cons]
  refine .cons ?_ ih
  by_cases hx:q.1=p
  ·rw [if_pos hx,if_pos (show a.1=z81 p by rw [rr.1,hx])]
   exact⟨rr.1,d⟩
  ·rw [if_neg hx,if_neg (show ¬ a.1=z81 p by rw [rr.1]; intro z; exact hx (zb5 z))]
   exact rr
theorem NtR.put{H:Hp}{kvs:List (List Key×V)}{ns:Nts}(h:NtR H kvs ns)(p:Pth){v:V}{s:Int×Int}(d:Dt H v (z6u (some s))):NtR H (zcj kvs (z81 p) v) (zzx ns p s):=by
 unfold zcj zzx
 rw [h.any p]
 split
 ·exact h.put_map d
 ·exact Paired.snoc h ⟨rfl,d⟩
theorem NtR.length{H:Hp}{kvs:List (List Key×V)}{ns:Nts}(h:NtR H kvs ns):kvs.length=ns.length:=Paired.length h
def SB(n:Addr)(H H':Hp):Prop:=∀b o,H b=some o->H' b=some o\/(∃ob kvs,(o=.dK kvs\/∃o2,o=.frz o2 (.dK kvs))/\H' b=some (.frz ob (.dK kvs)))\/(n=n/\∃k k',o=.dT k/\H' b=some (.dT k'))
theorem SB.of{n:Addr}{H H':Hp}(s:Same H H'):SB n H H':=fun b o h=>.inl (s b o h)
theorem SB.trans{n:Addr}{H H1 H2:Hp}(a:SB n H H1)(b:SB n H1 H2):SB n H H2:=fun c o h=>by
 rcases a c o h with h1 | ⟨ob,kvs,e,h1⟩ | ⟨_,k,k',e,h1⟩
 ·exact b c o h1
 ·rcases b c _ h1 with h2 | ⟨o2,kv2,e2 | ⟨_,e2⟩,h2⟩ | ⟨_,_,_,e2,_⟩
  ·exact .inr (.inl ⟨ob,kvs,e,h2⟩)
  ·cases e2
  ·cases e2
   exact .inr (.inl ⟨o2,kvs,e,h2⟩)
  ·cases e2
 ·rcases b c _ h1 with h2 | ⟨_,_,e2 | ⟨_,e2⟩,_⟩ | ⟨_,k1,k2,e2,h2⟩
  ·exact .inr (.inr ⟨rfl,k,k',e,h2⟩)
  ·cases e2
  ·cases e2
  ·exact .inr (.inr ⟨rfl,k,k2,e,h2⟩)
theorem SB.stay{n:Addr}{H H':Hp}(s:SB n H H'){b:Addr}{o:HO}(h:H b=some o)(n1:∀k,o≠.dK k)(n2:∀k,o≠.dT k)(n3:∀ob u,o≠.frz ob u):H' b=some o:=by
 rcases s b o h with h1 | ⟨_,_,e | ⟨_,e⟩,_⟩ | ⟨_,_,_,e,_⟩
 ·exact h1
 ·exact absurd e (n1 _)
 ·exact absurd e (n3 _ _)
 ·exact absurd e (n2 _)
theorem SB.kp{n:Addr}{H H':Hp}(s:SB n H H'):Kp H H':=⟨fun b xs h=>s.stay h (fun _ z=>by cases z) (fun _ z=>by cases z) (fun _ _ z=>by cases z),fun b xs h=>⟨xs,s.stay h (fun _ z=>by cases z) (fun _ z=>by cases z) (fun _ _ z=>by cases z)⟩⟩
theorem SB.ins{n:Addr}{H H':Hp}(s:SB n H H'){a C dx:Addr}{fs:List (Str×V)}(h:H a=some (.ins C dx fs)):H' a=some (.ins C dx fs):=s.stay h (fun _ z=>by cases z) (fun _ z=>by cases z) (fun _ _ z=>by cases z)
theorem SB.bk{n:Addr}{H H':Hp}(s:SB n H H'){d:Addr}{bk:Bk}(h:IsBk H d bk):IsBk H' d bk:=by
 obtain⟨kvs,e,r⟩:=h
 refine⟨kvs,?_,r.kp s.kp⟩
 rcases e with e | ⟨o,e⟩
 ·rcases s _ _ e with h1 | ⟨ob,_,e | ⟨_,e⟩,h1⟩ | ⟨_,_,_,e,_⟩
  ·exact .inl h1
  ·cases e; exact .inr ⟨ob,h1⟩
  ·cases e
  ·cases e
 ·rcases s _ _ e with h1 | ⟨ob,_,e | ⟨_,e⟩,h1⟩ | ⟨_,_,_,e,_⟩
  ·exact .inr ⟨o,h1⟩
  ·cases e
  ·cases e; exact .inr ⟨ob,h1⟩
  ·cases e
theorem SB.res{n:Addr}{H H':Hp}(s:SB n H H'){r:V}{o:Option Bk}(h:zqn H r o):zqn H' r o:=by
 match o,h with
 | none,h=>exact h
 | some bk,⟨d,e,h⟩=>exact⟨d,e,s.bk h⟩
theorem Same.res{H H':Hp}(s:Same H H'){r:V}{o:Option Bk}(h:zqn H r o):zqn H' r o:=SB.res (n:=0) (.of s) h
abbrev Hds:=List (Pth×Bk)
def HdR(H:Hp)(kvs:List (List Key×V))(l:Hds):Prop:=Paired (fun(p:List Key×V) (q:Pth×Bk)=>p.1=z81 q.1/\∃d,p.2=.ref d/\IsBk H d q.2) kvs l
theorem HdR.sb{n:Addr}{H H':Hp}{kvs:List (List Key×V)}{l:Hds}(h:HdR H kvs l)(s:SB n H H'):HdR H' kvs l:=Paired.mapP h fun _ _ ⟨e,d,e2,k⟩=>⟨e,d,e2,s.bk k⟩
theorem HdR.length{H:Hp}{kvs:List (List Key×V)}{l:Hds}(h:HdR H kvs l):kvs.length=l.length:=Paired.length h
def ze5:Hds->Pth->Option Bk
 | [],_=>none
 | q::r,p=>if q.1=p then some q.2 else ze5 r p
def q22(l:Hds)(p:Pth)(b:Bk):Hds:=if(l.any fun q=>decide (q.1=p))=true then l.map (fun q=>if q.1=p then(q.1,b) else q) else l++[(p,b)]
theorem zvp(l:Hds)(p:Pth)(b:Bk):(q22 l p b).length<=l.length+1:=by
 unfold q22
 split
 ·rw [List.length_map]; omega
 ·rw [List.length_append]; simp
theorem HdR.look{H:Hp}{kvs:List (List Key×V)}{l:Hds}(h:HdR H kvs l)(p:Pth):(ze5 l p=none/\zns kvs (z81 p)=none)\/∃b d,ze5 l p=some b/\zns kvs (z81 p)=some (.ref d)/\IsBk H d b:=by
 unfold HdR at h
 induction h with
 | nil=>exact .inl ⟨rfl,rfl⟩
 | cons rr _ ih=>
  rename_i u q _ _ _
  obtain⟨e,d,e2,k⟩:=rr
  by_cases hx:q.1=p
  ·refine .inr ⟨q.2,d,?_,by rw [zay (by rw [e,hx]),e2],k⟩
   unfold ze5
   rw [if_pos hx]
  ·rw [zaz (by rw [e]; intro z; exact hx (zb5 z))]
   unfold ze5
   rw [if_neg hx]
   exact ih
theorem HdR.any{H:Hp}{kvs:List (List Key×V)}{l:Hds}(h:HdR H kvs l)(p:Pth):(kvs.any fun kv=>decide (kv.1=z81 p))=l.any fun q=>decide (q.1=p):=by
 unfold HdR at h
 induction h with
 | nil=>rfl
 | cons rr _ ih=>
  rename_i a q _ _ _
  rw [List.any_cons,List.any_cons,ih,rr.1,zvb]
theorem HdR.put_map{H:Hp}{p:Pth}{d:Addr}{b:Bk}(k:IsBk H d b){kvs:List (List Key×V)}{l:Hds}(h:HdR H kvs l):HdR H (kvs.map fun kv=>if kv.1=z81 p then(kv.1,V.ref d) else kv) (l.map fun q=>if q.1=p then(q.1,b) else q):=by
 unfold HdR at h |-
 induction h with
 | nil=>exact .nil
 | cons rr _ ih=>
  rename_i a q _ _ _
  rw [List.map_cons,List.map_cons]
  refine .cons ?_ ih
  by_cases hx:q.1=p
  ·rw [if_pos hx,if_pos (show a.1=z81 p by rw [rr.1,hx])]
   exact⟨rr.1,d,rfl,k⟩
  ·rw [if_neg hx,if_neg (show ¬ a.1=z81 p by rw [rr.1]; intro z; exact hx (zb5 z))]
   exact rr
theorem HdR.put{H:Hp}{kvs:List (List Key×V)}{l:Hds}(h:HdR H kvs l)(p:Pth){d:Addr}{b:Bk}(k:IsBk H d b):HdR H (zcj kvs (z81 p) (.ref d)) (q22 l p b):=by
 unfold zcj q22
 rw [h.any p]
 split
 ·exact h.put_map k
 ·exact Paired.snoc h ⟨rfl,d,rfl,k⟩
abbrev NW:=Nts×Hds
abbrev wkF3(hA n wA:Addr):List (Str×V):=[("heads",.ref hA),("notes",.ref n),("wants",.ref wA)]
structure Wk(K:PySem.W.Frag)(H:Hp)(a n:Addr)(hd:Hds)(st:NW):Prop where
 ob:∃C dx hA wA,H a=some (.ins C dx (wkF3 hA n wA))/\Cls K C/\(NoAttr K C "heads"/\NoAttr K C "notes"/\NoAttr K C "wants")/\(n≠wA/\n≠hA/\wA≠hA)/\(∃hk,H hA=some (.dT hk)/\HdR H hk hd)/\∃wk,H wA=some (.dT wk)/\HdR H wk st.2
 nt:∃kvs,H n=some (.dT kvs)/\NtR H kvs st.1
theorem Wk.same{K:PySem.W.Frag}{H H':Hp}{a n:Addr}{hd:Hds}{st:NW}(h:Wk K H a n hd st)(s:Same H H'):Wk K H' a n hd st:=by
 obtain⟨⟨C,dx,hA,wA,e,c,d,ne,⟨hk,e1,r1⟩,wk,e2,r2⟩,kvs,e3,r⟩:=h
 have sb:SB 0 H H':=.of s
 exact⟨⟨C,dx,hA,wA,s _ _ e,c,d,ne,⟨hk,s _ _ e1,r1.sb sb⟩,wk,s _ _ e2,r2.sb sb⟩,kvs,s _ _ e3,r.kp s.kp⟩
theorem wkF_ne:(("wants" : Str) == "heads")=false/\(("wants" : Str) == "notes")=false/\(("notes" : Str) == "heads")=false:=by decide+kernel
theorem q04{hA n wA:Addr}:(wkF3 hA n wA).lookup ("heads" : Str)=some (V.ref hA):=by simp only[wkF3,List.lookup,beq_self_eq_true]
theorem zrq{hA n wA:Addr}:(wkF3 hA n wA).lookup ("notes" : Str)=some (V.ref n):=by simp only[wkF3,List.lookup,wkF_ne.2.2,beq_self_eq_true]
theorem zrp{hA n wA:Addr}:(wkF3 hA n wA).lookup ("wants" : Str)=some (V.ref wA):=by simp only[wkF3,List.lookup,wkF_ne.1,wkF_ne.2.1,beq_self_eq_true]
def zp4:Int×Int:=(-32768,32767)
theorem OfRel.unique{w:Wd}{s t r r':S}(h:OfRel w s t r)(k:OfRel w s t r'):r=r':=by
 match s,t,h,k with
 | none,none,h,k=>exact h.trans k.symm
 | none,some _,h,k=>exact h.trans k.symm
 | some _,none,h,k=>exact h.trans k.symm
 | some (a,b),some (c,d),h,k=>exact IsS.unique h k
open Classical in
noncomputable def stF (w:Wd) (s t:S):S:=if h:∃r,OfRel w s t r then h.choose else none
theorem zoi{w:Wd}{s t r:S}(h:OfRel w s t r):stF w s t=r:=by
 have e:∃r,OfRel w s t r:=⟨r,h⟩
 unfold stF
 rw [dif_pos e]
 exact OfRel.unique e.choose_spec h
def qb4(s:S)(p:Pth)(ns:Nts):Nts:=match s with
 | none=>ns
 | some r=>zzx ns p r
theorem zpq(s:S)(p:Pth)(ns:Nts):(qb4 s p ns).length<=ns.length+1:=by
 cases s with
 | none=>exact Nat.le_succ _
 | some r=>exact q3m ns p r
def q87(s:S)(p:Pth)(ns:Nts):S×Nts:=(zev s (some zp4),qb4 s p ns)
theorem ztv(s:S):okS 1073741824 (zev s (some zp4)):=by
 match s with
 | none=>trivial
 | some (a,b)=>
  show okS _ (bet (mx a (-32768)) (mn b 32767))
  unfold bet
  split
  ·trivial
  ·rename_i h
   unfold mx mn at *
   refine⟨?_,?_,?_⟩<;>(repeat' split at h)<;>(repeat' split)<;>omega
def T.sz:T->Nat
 | .op _ a b=>a.sz+b.sz+1
 | .num _=>1
 | .nm _=>1
noncomputable def shS (bk:Bk):T->Pth->Nts->S×Nts
 | .num i,p,ns=>q87 (some (i,i)) p ns
 | .nm x,p,ns=>q87 (look bk x) p ns
 | .op w a b,p,ns=>
  if(shS bk a (p++[0]) ns).1=none then(none,(shS bk a (p++[0]) ns).2)
  else q87 (stF w (shS bk a (p++[0]) ns).1 (shS bk b (p++[1]) (shS bk a (p++[0]) ns).2).1) p (shS bk b (p++[1]) (shS bk a (p++[0]) ns).2).2
theorem zb3(bk:Bk):∀(t:T) (p:Pth) (ns:Nts),(shS bk t p ns).2.length<=ns.length+t.sz
 | .num i,p,ns=>by rw [shS]; exact zpq (some (i,i)) p ns
 | .nm x,p,ns=>by rw [shS]; exact zpq (look bk x) p ns
 | .op w a b,p,ns=>by
  have h1:=zb3 bk a (p++[0]) ns
  have h2:=zb3 bk b (p++[1]) (shS bk a (p++[0]) ns).2
  rw [shS,T.sz]
  split
  ·dsimp only; omega
  ·have:=zpq (stF w (shS bk a (p++[0]) ns).1 (shS bk b (p++[1]) (shS bk a (p++[0]) ns).2).1) p (shS bk b (p++[1]) (shS bk a (p++[0]) ns).2).2
   dsimp only[q87]; omega
theorem q4z(bk:Bk)(t:T)(p:Pth)(ns:Nts):okS 1073741824 (shS bk t p ns).1:=by
 cases t with
 | num i=>rw [shS]; exact ztv (some (i,i))
 | nm x=>rw [shS]; exact ztv (look bk x)
 | op w a b=>
  rw [shS]
  split
  ·trivial
  ·exact ztv _
section
variable{P:Program}{w:World}{K:PySem.W.Frag}{mg:Str->Option Value}{base:Heap}{f:Addr}{fd:FuncData}
def zyx(K:PySem.W.Frag):Sp:=fun vs H Q _=>∃(v pv:V) (s:S) (p:Pth) (a n:Addr) (hd:Hds) (ns:Nts) (ws:Hds),vs=[v,pv,.ref a]/\Dt H v (z6u s)/\PtA H pv p/\Wk K H a n hd (ns,ws)/\ns.length<=900/\∀(r:V) (H':Hp),SB n H H'->Wk K H' a n hd ((q87 s p ns).2,ws)->Dt H' r (z6u (q87 s p ns).1)->Q r H'
theorem q3k{rw:Addr} (F:Fun K "noted" "noted" z7r f fd) (g_WIDE:GC mg "WIDE" (.ref rw)) (hW:∀H,SqT K H rw [.int (-32768),.int 32767]) (c_met:Callee P w K mg base "met" ["one","other"] 2 (zyu K zev)):FnOk P w K mg base CX0 3 f fd ["stretch","path","walk"] (zyx K):=by
 refine F.ok q2i (fun vs H Q E h=>?_) (fun cdv A outer s H vs Q E hr h=>?_)
 ·obtain⟨v,pv,s,p,a,n,hds,ns,ws,rfl,_⟩:=h
  rfl
 obtain⟨v,pv,s,p,a,n,hds,ns,ws,rfl,hv,hp,hw,hl,q⟩:=h
 refine⟨_,(z01 (z1k (z0d q0q (z00 (i:=0) rfl z6x z5w z5z) z2m (z0f _)) (z05 (zcx hr.units1 (zra (z00 (i:=2) rfl znq z2y z2z) rfl) (z00 (i:=1) rfl znr z1h z1i) (z00 (i:=0) rfl z6x z5w z5z) (z04 rfl))) z0e)
 (z05 (z08 (z0g c_met hr (by omega) (z07 (z00 (i:=0) rfl z6x z5w z5z) (z07 (zg6 g_WIDE zpx zfg) pa_nil)) zry zn0)))),?_⟩
 rcases dtS hv with⟨rfl,rfl⟩ | ⟨l,h,pp,rfl,rfl,hpp⟩<;>walk_at "rw"
 ·exact⟨_,_,none,some zp4,rfl,.of hv,.inr ⟨_,_,rw,rfl,rfl,hW _⟩,fun r H' s1 dr=>q r H' (.of s1) (hw.same s1) dr⟩
 ·obtain⟨pa,rfl,hpa⟩:=hp
  obtain⟨⟨C,dx,hA,wA,e,c,d,ne,⟨hk,e4,r4⟩,wk,e5,r5⟩,kvs,e2,r⟩:=hw
  have r:NtR H kvs ns:=r
  refine⟨C,dx,_,e,c,d.2.1,_,zrq,n,rfl,_,DPut.t (k:=z81 p) e2 (by rw [z6f]; exact hpa) (by rw [r.length]; exact z10 (by omega)),?_⟩
  have sb:SB n H (upd H n (.dT (zcj kvs (z81 p) (.ref pp)))):=fun b o hb=>by
   by_cases hn:b=n
   ·subst hn
    rw [e2] at hb
    cases hb
    exact .inr (.inr ⟨rfl,_,_,rfl,z02⟩)
   ·exact .inl (by rw [z0o hn]; exact hb)
  have e3:upd H n (.dT (zcj kvs (z81 p) (.ref pp))) n=_:=z02
  have e6:upd H n (.dT (zcj kvs (z81 p) (.ref pp))) hA=_:=(z0o ne.2.1.symm).trans e4
  have e7:upd H n (.dT (zcj kvs (z81 p) (.ref pp))) wA=_:=(z0o ne.1.symm).trans e5
  generalize upd H n (.dT (zcj kvs (z81 p) (.ref pp)))=U at sb e3 e6 e7 |-
  have hwU:Wk K U a n hds (zzx ns p (l,h),ws):=⟨⟨C,dx,hA,wA,sb.ins e,c,d,ne,⟨hk,e6,r4.sb sb⟩,wk,e7,r5.sb sb⟩,_,e3,(r.kp sb.kp).put p (hv.kp sb.kp)⟩
  exact⟨_,_,some (l,h),some zp4,rfl,.of (hv.kp sb.kp),.inr ⟨_,_,rw,rfl,rfl,hW _⟩,fun r H' s1 dr=>q r H' (sb.trans (.of s1)) (hwU.same s1) dr⟩
end
section
variable{P:Program}{w:World}{K:PySem.W.Frag}{mg:Str->Option Value}{base:Heap}{f:Addr}{fd:FuncData}
def T.dp:Nat->T->Prop
 | 0,_=>False
 | n+1,.op _ a b=>T.dp n a/\T.dp n b
 | _+1,_=>True
def zlg(K:PySem.W.Frag)(k:Nat):Sp:=fun vs H Q _=>∃(v pv:V) (t:T) (p:Pth) (d a n:Addr) (bk:Bk) (hd:Hds) (ns:Nts) (ws:Hds),vs=[v,pv,.ref d,.ref a]/\Dt H v t.enc/\T.dp k t/\PtA H pv p/\IsBk H d bk/\Wk K H a n hd (ns,ws)/\ns.length+t.sz<=900/\p.length+k<=900/\∀(r:V) (H':Hp),SB n H H'->Wk K H' a n hd ((shS bk t p ns).2,ws)->Dt H' r (z6u (shS bk t p ns).1)->Q r H'
theorem zzy{k:Nat}{n1 n2 n3 n4:Str}:FnOk P w K mg base CX0 k f fd [n1,n2,n3,n4] (zlg K 0):=by
 have no:∀vs H Q E,¬ zlg K 0 vs H Q E:=fun vs H Q E h=>by
  obtain⟨v,pv,t,p,d,a,n,bk,hds,ns,ws,_,_,h,_⟩:=h
  exact h.elim
 exact⟨fun vs H Q E h=>absurd h (no vs H Q E),fun A outer s H args us vs Q E _ _ _ _ h=>absurd h (no vs H Q E)⟩
theorem zhx{n:Nat} (F:Fun K "show" "show" z6p f fd) (c_noted:Callee P w K mg base "noted" ["stretch","path","walk"] 3 (zyx K)) (c_stretch_of:Callee P w K mg base "stretch_of" ["word","one","other"] 4 qbf)
  (c_show:Callee P w K mg base "show" ["term","path","book","walk"] (n+5) (zlg K n)):FnOk P w K mg base CX0 (n+6) f fd ["term","path","book","walk"] (zlg K (n+1)):=by
 refine F.ok sc_show (fun vs H Q E h=>?_) (fun cdv A outer s H vs Q E hr h=>?_)
 ·obtain⟨v,pv,t,p,d,a,n,bk,hds,ns,ws,rfl,_⟩:=h
  rfl
 obtain⟨v,pv,t,p,d,a,nn,bk,hds,ns,ws,rfl,hv,ht,hp,hbk,hw,hl,hpl,q⟩:=h
 refine⟨_,(z01 (z1k (z0d (gEq hr.units) (z0i ix_tup (z00 (i:=0) rfl z39 z0x z0y) z03 (fun _ _=>rfl)) z2s (z0f _)) (z05 (z08 (z0g c_noted hr (by omega) (z07 (z1a (z07 (z0i ix_tup (z00 (i:=0) rfl z39 z0x z0y) z03 (fun _ _=>rfl)) (z07 (z0i ix_tup (z00 (i:=0) rfl z39 z0x z0y) z03 (fun _ _=>rfl)) pa_nil))) (z07 (z00 (i:=1) rfl z63 z1h z1i) (z07 (z00 (i:=3) rfl z62 z2y z2z) pa_nil))) zbe zq5))) z0e)
 (z01 (z1k (z0d (gEq hr.units) (z0i ix_tup (z00 (i:=0) rfl z39 z0x z0y) z03 (fun _ _=>rfl)) z2s (z0f _)) (z05 (z08 (z0g c_noted hr (by omega) (z07 (zkk hr.units1 (z00 (i:=2) rfl zat z1s z1t) (z0i ix_tup (z00 (i:=0) rfl z39 z0x z0y) z03 (fun _ _=>rfl)) ⟨rfl,rfl,rfl,rfl⟩) (z07 (z00 (i:=1) rfl z63 z1h z1i) (z07 (z00 (i:=3) rfl z62 z2y z2z) pa_nil))) zbe zq5))) z0e)
 (z01 (z11 (i:=4) sc_show.nd rfl zrn (z0g c_show hr (by omega) (z07 (z0i ix_tup (z00 (i:=0) rfl z39 z0x z0y) z03 (fun _ _=>rfl)) (z07 (z2g z2x (z00 (i:=1) rfl z63 z1h z1i) (z1a (z07 z03 pa_nil))) (z07 (z00 (i:=2) rfl zat z1s z1t) (z07 (z00 (i:=3) rfl z62 z2y z2z) pa_nil)))) zj8 zmx) (z04 rfl))
 (z01 (z1k (z0d zqr (z00 (i:=4) rfl ziy z1d z1e) z2m (z0f _)) (z05 (z08 z2m)) z0e)
 (z01 (z11 (i:=5) sc_show.nd rfl zo2 (z0g c_show hr (by omega) (z07 (z0i ix_tup (z00 (i:=0) rfl z39 z0x z0y) z03 (fun _ _=>rfl)) (z07 (z2g z2x (z00 (i:=1) rfl z63 z1h z1i) (z1a (z07 z03 pa_nil))) (z07 (z00 (i:=2) rfl zat z1s z1t) (z07 (z00 (i:=3) rfl z62 z2y z2z) pa_nil)))) zj8 zmx) (z04 rfl))
 (z05 (z08 (z0g c_noted hr (by omega) (z07 (z0g c_stretch_of hr (by omega) (z07 (z0i ix_tup (z00 (i:=0) rfl z39 z0x z0y) z03 (fun _ _=>rfl)) (z07 (z00 (i:=4) rfl ziy z1d z1e) (z07 (z00 (i:=5) rfl znp z0k z0l) pa_nil))) zgr zh1) (z07 (z00 (i:=1) rfl z63 z1h z1i) (z07 (z00 (i:=3) rfl z62 z2y z2z) pa_nil))) zbe zq5)))))))),z0z fun N1 e1=>?_⟩
 match t,hv,ht,hl with
 | .num i,hv,_,hl=>
  obtain⟨pv2,xs,rfl,hpv,da⟩:=hv.tupI
  rcases da with _ | ⟨d1,_ | ⟨d2,_ | _⟩⟩
  cases d1; cases d2
  walk_at "rw"
  refine⟨_,SqT.of hpv,_,rfl,_,.inl ⟨rfl,rfl⟩,?_⟩
  rw [if_pos (by decide+kernel)]
  rw [T.sz] at hl
  refine⟨_,SqT.of hpv,_,rfl,_,SqT.of hpv,_,rfl,zl 2 (by decide),fun p1 hp1=>?_⟩
  have s1:=z06 hp1 (HO.tup [.int i,.int i])
  refine⟨_,_,some (i,i),p,a,nn,hds,ns,ws,rfl,z8o z02,hp.kp s1.kp,hw.same s1,by omega,fun r H' s2 w2 dr=>?_⟩
  rw [shS] at q
  exact q r H' (SB.trans (.of s1) s2) w2 dr
 | .nm x,hv,_,hl=>
  obtain⟨pv2,xs,rfl,hpv,da⟩:=hv.tupI
  rcases da with _ | ⟨d1,_ | ⟨d2,_ | _⟩⟩
  cases d1; cases d2
  walk_at "rw"
  refine⟨_,SqT.of hpv,_,rfl,_,.inl ⟨rfl,rfl⟩,?_⟩
  rw [if_neg (by decide+kernel)]
  show N1 _ _
  rw [e1]
  refine z0z fun N2 e2=>?_
  walk_at "rw"
  refine⟨_,SqT.of hpv,_,rfl,_,.inl ⟨rfl,rfl⟩,?_⟩
  rw [if_pos (by decide+kernel)]
  rw [T.sz] at hl
  obtain⟨kvs,hd,rb⟩:=hbk
  refine⟨.inl ⟨_,hd⟩,_,SqT.of hpv,_,rfl,_,DGet.kr (k:=.inr x) hd,?_⟩
  rw [shS] at q
  rcases rb.look x with⟨z1,z2⟩ | ⟨sx,vx,z1,z2,dx⟩
  ·rw [z2]
   rw [z1] at q
   exact⟨_,_,none,p,a,nn,hds,ns,ws,rfl,.non,hp,hw,by omega,q⟩
  ·rw [z2]
   rw [z1] at q
   exact⟨_,_,some sx,p,a,nn,hds,ns,ws,rfl,dx,hp,hw,by omega,q⟩
 | .op w ta tb,hv,ht,hl=>
  obtain⟨pv2,xs,rfl,hpv,da⟩:=hv.tupI
  rcases da with _ | ⟨d1,_ | ⟨d2,_ | ⟨d3,_ | _⟩⟩⟩
  cases d1
  rename_i va vb
  rw [T.sz] at hl
  have hla:=zb3 bk ta (p++[0]) ns
  walk_at "rw"
  refine⟨_,SqT.of hpv,_,rfl,_,.inl ⟨rfl,rfl⟩,?_⟩
  rw [if_neg (by cases w<;>decide+kernel)]
  show N1 _ _
  rw [e1]
  refine z0z fun N2 e2=>?_
  walk_at "rw"
  refine⟨_,SqT.of hpv,_,rfl,_,.inl ⟨rfl,rfl⟩,?_⟩
  rw [if_neg (by cases w<;>decide+kernel)]
  show N2 _ _
  rw [e2]
  walk_at "rw"
  refine⟨_,SqT.of hpv,_,rfl,zl 1 (by decide),fun p1 hp1=>?_⟩
  have s1:=z06 hp1 (HO.tup [.int 0])
  have e3:upd H p1 (HO.tup [.int 0]) p1=_:=z02
  generalize upd H p1 (HO.tup [.int 0])=U at s1 e3 |-
  refine q4i (q:=[0]) (hp.kp s1.kp) e3 (by simp; omega) fun r2 H2 s2 hr2=>?_
  have s12:=s1.trans s2
  refine⟨va,r2,ta,p++[0],d,a,nn,bk,hds,ns,ws,rfl,d2.kp s12.kp,ht.1,hr2,hbk.same s12,hw.same s12,by omega,by simp; omega,fun r3 H3 s3 w3 dr3=>?_⟩
  have sb3:SB nn H H3:=SB.trans (.of s12) s3
  rw [shS] at q
  rcases dtS dr3 with⟨z,rfl⟩ | ⟨l,h,pp,z,rfl,hpp⟩
  ·walk_at "rw"
   rw [if_pos z] at q
   exact q _ _ sb3 w3 .non
  ·rw [if_neg (by rw [z]; simp)] at q
   walk_at "rw"
   refine⟨_,SqT.of (sb3.kp.t _ _ hpv),_,rfl,zl 1 (by decide),fun p4 hp4=>?_⟩
   have s4:=z06 hp4 (HO.tup [.int 1])
   have e4:upd H3 p4 (HO.tup [.int 1]) p4=_:=z02
   generalize upd H3 p4 (HO.tup [.int 1])=U4 at s4 e4 |-
   refine q4i (q:=[1]) ((hp.kp sb3.kp).kp s4.kp) e4 (by simp; omega) fun r5 H5 s5 hr5=>?_
   have s45:=s4.trans s5
   have sb5:SB nn H H5:=sb3.trans (.of s45)
   refine⟨vb,r5,tb,p++[1],d,a,nn,bk,hds,(shS bk ta (p++[0]) ns).2,ws,rfl,d3.kp sb5.kp,ht.2,hr5,sb5.bk hbk,w3.same s45,by omega,by simp; omega,fun r6 H6 s6 w6 dr6=>?_⟩
   have sb6:=sb5.trans s6
   have hlb:=zb3 bk tb (p++[1]) (shS bk ta (p++[0]) ns).2
   refine⟨_,SqT.of (sb6.kp.t _ _ hpv),_,rfl,w,_,r6,_,_,rfl,(dr3.kp s45.kp).kp s6.kp,dr6,q4z _ _ _ _,q4z _ _ _ _,fun r7 H7 o s7 rel dr7=>?_⟩
   rw [zoi rel] at q
   have sb7:=sb6.trans (.of s7)
   exact⟨r7,pv,o,p,a,nn,hds,(shS bk tb (p++[1]) (shS bk ta (p++[0]) ns).2).2,ws,rfl,dr7,hp.kp sb7.kp,w6.same s7,by omega,fun r8 H8 s8 w8 dr8=>q r8 H8 (sb7.trans s8) w8 dr8⟩
end
theorem zwj{tl:TE}{g:TG}{tb:TS}{D:Ends}{σ : St}{H:Hp}:q27 (q0k tl) g tb D σ H=tl σ H fun x H1=>∃d kvs,x=.ref d/\Rd H1 d (.dK kvs)/\∀o,q5o (Itd d o (.dK kvs) (kvs.map fun kv=>kV kv.1)) g tb D σ (upd H1 d (.frz o (.dK kvs))):=rfl
theorem zwi{K:PySem.W.Frag}{ta:TA}{g:TG}{tb:TS}{D:Ends}{σ : St}{H:Hp}:q27 (q5g K ta) g tb D σ H=ta σ H fun vs H1=>∃a,vs=[.ref a]/\(∃xs,SqT K H1 a xs)/\q5o (q89 K a) g tb D σ H1:=rfl
theorem zt7{tl:TE}{g:TG}{tt:TT}{te:TE}{mp:List (Option Nat)}{σ : St}{H:Hp}{Q:VK}:zpb (q5h tl) g tt te mp σ H Q=tl σ H fun x H1=>∃d kvs,x=.ref d/\Rd H1 d (.dT kvs)/\∀(o:Obj) (as:List Addr),Paired (fun(kv:List Key×V) (a:Addr)=>H1 a=some (.tup (kv.1.map kV))) kvs as->zfm (Itd d o (.dT kvs) (as.map V.ref)) g tt te Q (subσ mp σ) (upd H1 d (.frz o (.dT kvs))):=rfl
theorem SB.frz{n:Addr}{H:Hp}{d:Addr}{kvs:List (Key×V)}(o:Obj)(h:Rd H d (.dK kvs)):SB n H (upd H d (.frz o (.dK kvs))):=fun b u e=>by
 by_cases hb:b=d
 ·subst hb
  rcases h with h | ⟨o2,h⟩
  ·rw [e] at h; cases h
   exact .inr (.inl ⟨o,kvs,.inl rfl,z02⟩)
  ·rw [e] at h; cases h
   exact .inr (.inl ⟨o,kvs,.inr ⟨_,rfl⟩,z02⟩)
 ·exact .inl (by rw [z0o hb]; exact e)
theorem SB.upd{n:Addr}{H H':Hp}(s:SB n H H'){p:Addr}(h:H p=none)(o:HO):SB n H (upd H' p o):=fun b u e=>by
 have hb:b≠p:=z2n e h
 rw [z0o hb]
 exact s b u e
def jn(s t:Int×Int):Int×Int:=(mn s.1 t.1,mx s.2 t.2)
theorem q0a(s t:Int×Int):q5d (some s) (some t)=some (jn s t):=by
 obtain⟨a,b⟩:=s
 obtain⟨c,d⟩:=t
 rfl
def zmj(one other acc:Bk)(x:Str):Bk:=match look one x,look other x with
 | some s,some t=>zcl acc x (jn s t)
 | _,_=>acc
def zxl(one other:Bk):Bk:=(one.map fun q=>q.1).foldl (zmj one other) []
theorem q0d(one other acc:Bk)(x:Str):(zmj one other acc x).length<=acc.length+1:=by
 unfold zmj
 split
 ·exact zdx _ _ _
 ·omega
theorem zmk(one other:Bk):∀(xs:List Str) (acc:Bk),(xs.foldl (zmj one other) acc).length<=acc.length+xs.length
 | [],acc=>Nat.le_refl _
 | x::r,acc=>by
  have h1:=q0d one other acc x
  have h2:=zmk one other r (zmj one other acc x)
  rw [List.foldl_cons,List.length_cons]
  omega
theorem q0c(one other:Bk):(zxl one other).length<=one.length:=by
 have:=zmk one other (one.map fun q=>q.1) []
 rw [List.length_map] at this
 simpa [zxl] using this
def q3s:Option Bk->Option Bk->Option Bk
 | none,o=>o
 | some a,none=>some a
 | some a,some b=>some (zxl a b)
abbrev Bh:=T->Bk->Bool->Option Bk
def z45(bh:Bh)(t:T)(has:S)(bk:Bk)(so:Bool):Option Bk:=if(if so=true then !z2k has (some (0,0)) else z2k (some (0,0)) has)=true then bh t bk so else none
def jtS(s:Int×Int):S->Int×Int
 | none=>s
 | some t=>jn s t
def znt(book other acc:Bk)(x:Str):Bk:=match look book x with
 | some s=>zcl acc x (jtS s (look other x))
 | none=>acc
def jtB(book other:Bk):Bk:=(book.map fun q=>q.1).foldl (znt book other) []
theorem zyj(one other acc:Bk)(x:Str):(znt one other acc x).length<=acc.length+1:=by
 unfold znt
 split
 ·exact zdx _ _ _
 ·omega
theorem zl8(one other:Bk):∀(xs:List Str) (acc:Bk),(xs.foldl (znt one other) acc).length<=acc.length+xs.length
 | [],acc=>Nat.le_refl _
 | x::r,acc=>by
  have h1:=zyj one other acc x
  have h2:=zl8 one other r (znt one other acc x)
  rw [List.foldl_cons,List.length_cons]
  omega
theorem q09(one other:Bk):(jtB one other).length<=one.length:=by
 have:=zl8 one other (one.map fun q=>q.1) []
 rw [List.length_map] at this
 simpa [jtB] using this
def z5b(hd:Hds)(p:Pth)(bk:Bk):Bk:=jtB bk ((ze5 hd p).getD [])
def zyc(bk:Bk):Option Bk->Bk
 | none=>bk
 | some e=>zxl bk e
mutual
noncomputable def wkD (bh:Bh) (hd:Hds):D->Pth->Bk->NW->Option Bk×NW
 | .set x t,p,bk,st=>((shS bk t (p++[0]) st.1).1.map (zcl bk x),((shS bk t (p++[0]) st.1).2,st.2))
 | .ite t b c,p,bk,st=>
  (q3s (wkB bh hd b (p++[1]) 0 (z45 bh t (shS bk t (p++[0]) st.1).1 bk true) ((shS bk t (p++[0]) st.1).2,st.2)).1
   (wkB bh hd c (p++[2]) 0 (z45 bh t (shS bk t (p++[0]) st.1).1 bk false) (wkB bh hd b (p++[1]) 0 (z45 bh t (shS bk t (p++[0]) st.1).1 bk true) ((shS bk t (p++[0]) st.1).2,st.2)).2).1,
   (wkB bh hd c (p++[2]) 0 (z45 bh t (shS bk t (p++[0]) st.1).1 bk false) (wkB bh hd b (p++[1]) 0 (z45 bh t (shS bk t (p++[0]) st.1).1 bk true) ((shS bk t (p++[0]) st.1).2,st.2)).2).2)
 | .whl t _ b,p,bk,st=>
  (z45 bh t (shS (z5b hd p bk) t (p++[0]) st.1).1 (z5b hd p bk) false,
   ((wkB bh hd b (p++[1]) 0 (z45 bh t (shS (z5b hd p bk) t (p++[0]) st.1).1 (z5b hd p bk) true) ((shS (z5b hd p bk) t (p++[0]) st.1).2,st.2)).2.1,
    q22 (wkB bh hd b (p++[1]) 0 (z45 bh t (shS (z5b hd p bk) t (p++[0]) st.1).1 (z5b hd p bk) true) ((shS (z5b hd p bk) t (p++[0]) st.1).2,st.2)).2.2 p
     (zyc bk (wkB bh hd b (p++[1]) 0 (z45 bh t (shS (z5b hd p bk) t (p++[0]) st.1).1 (z5b hd p bk) true) ((shS (z5b hd p bk) t (p++[0]) st.1).2,st.2)).1)))
noncomputable def wkB (bh:Bh) (hd:Hds):List D->Pth->Int->Option Bk->NW->Option Bk×NW
 | [],_,_,o,st=>(o,st)
 | _::_,_,_,none,st=>(none,st)
 | d::r,p,i,some bk,st=>wkB bh hd r p (i+1) (wkD bh hd d (p++[i]) bk st).1 (wkD bh hd d (p++[i]) bk st).2
end
mutual
def D.sz:D->Nat
 | .set _ t=>t.sz+3
 | .ite t b c=>t.sz+szB b+szB c+6
 | .whl t _ b=>t.sz+szB b+3
def szB:List D->Nat
 | []=>1
 | d::r=>d.sz+szB r
end
def zfl(bh:Bh):Prop:=∀t bk so b',bh t bk so=some b'->b'.length<=bk.length+2
theorem zae{bh:Bh}(hb:zfl bh){t:T}{has:S}{bk b':Bk}{so:Bool}(h:z45 bh t has bk so=some b'):b'.length<=bk.length+2:=by
 unfold z45 at h
 generalize (if so=true then !z2k has (some (0,0)) else z2k (some (0,0)) has)=c at h
 cases c with
 | true=>exact hb _ _ _ _ h
 | false=>cases h
theorem q0b{a b:Option Bk}{c:Bk}{k:Nat}(h:q3s a b=some c)(ha:∀x,a=some x->x.length<=k)(hb:∀x,b=some x->x.length<=k):c.length<=k:=by
 match a,b,h with
 | none,b,h=>exact hb _ h
 | some x,none,h=>exact ha _ h
 | some x,some y,h=>
  have h:some (zxl x y)=some c:=h
  injection h with h
  have:=q0c x y
  have:=ha x rfl
  rw [<- h]; omega
mutual
theorem zy9{bh:Bh}{hd:Hds}(hb:zfl bh):∀(d:D) (p:Pth) (bk:Bk) (st:NW),((wkD bh hd d p bk st).2.1.length<=st.1.length+d.sz/\(wkD bh hd d p bk st).2.2.length<=st.2.length+d.sz)/\∀b',(wkD bh hd d p bk st).1=some b'->b'.length<=bk.length+d.sz
 | .set x t,p,bk,st=>by
  have h1:=zb3 bk t (p++[0]) st.1
  rw [wkD,D.sz]
  refine⟨by dsimp only; omega,fun b' h=>?_⟩
  dsimp only at h
  cases hs:(shS bk t (p++[0]) st.1).1 with
  | none=>rw [hs] at h; cases h
  | some r=>
   rw [hs] at h
   have h:some (zcl bk x r)=some b':=h
   injection h with h
   have:=zdx bk x r
   rw [<- h]; omega
 | .ite t b c,p,bk,st=>by
  have h1:=zb3 bk t (p++[0]) st.1
  have h2:=zha (hd:=hd) hb b (p++[1]) 0 (z45 bh t (shS bk t (p++[0]) st.1).1 bk true) ((shS bk t (p++[0]) st.1).2,st.2)
  have h3:=zha (hd:=hd) hb c (p++[2]) 0 (z45 bh t (shS bk t (p++[0]) st.1).1 bk false) (wkB bh hd b (p++[1]) 0 (z45 bh t (shS bk t (p++[0]) st.1).1 bk true) ((shS bk t (p++[0]) st.1).2,st.2)).2
  rw [wkD,D.sz]
  refine⟨by have:=h2.1; have:=h3.1; dsimp only at *; omega,fun b' h=>?_⟩
  refine q0b h (fun x hx=>?_) (fun x hx=>?_)
  ·obtain⟨y,e,l⟩:=h2.2 x hx
   have:=zae hb e
   omega
  ·obtain⟨y,e,l⟩:=h3.2 x hx
   have:=zae hb e
   omega
 | .whl t m b,p,bk,st=>by
  have h1:=zb3 (z5b hd p bk) t (p++[0]) st.1
  have h2:=zha (hd:=hd) hb b (p++[1]) 0 (z45 bh t (shS (z5b hd p bk) t (p++[0]) st.1).1 (z5b hd p bk) true) ((shS (z5b hd p bk) t (p++[0]) st.1).2,st.2)
  have h0:(z5b hd p bk).length<=bk.length:=q09 _ _
  rw [wkD,D.sz]
  refine⟨?_,fun b' h=>?_⟩
  ·have:=h2.1
   dsimp only at *
   have:=zvp (wkB bh hd b (p++[1]) 0 (z45 bh t (shS (z5b hd p bk) t (p++[0]) st.1).1 (z5b hd p bk) true) ((shS (z5b hd p bk) t (p++[0]) st.1).2,st.2)).2.2 p (zyc bk (wkB bh hd b (p++[1]) 0 (z45 bh t (shS (z5b hd p bk) t (p++[0]) st.1).1 (z5b hd p bk) true) ((shS (z5b hd p bk) t (p++[0]) st.1).2,st.2)).1)
   omega
  ·have:=zae hb h
   omega
theorem zha{bh:Bh}{hd:Hds}(hb:zfl bh):∀(b:List D) (p:Pth) (i:Int) (o:Option Bk) (st:NW),((wkB bh hd b p i o st).2.1.length<=st.1.length+szB b/\(wkB bh hd b p i o st).2.2.length<=st.2.length+szB b)/\∀b',(wkB bh hd b p i o st).1=some b'->∃bk,o=some bk/\b'.length<=bk.length+szB b
 | [],p,i,o,st=>by
  rw [wkB]
  exact⟨⟨Nat.le_add_right _ _,Nat.le_add_right _ _⟩,fun b' h=>⟨b',h,Nat.le_add_right _ _⟩⟩
 | d::r,p,i,none,st=>by
  rw [wkB]
  exact⟨⟨Nat.le_add_right _ _,Nat.le_add_right _ _⟩,fun b' h=>by cases h⟩
 | d::r,p,i,some bk,st=>by
  have h1:=zy9 (hd:=hd) hb d (p++[i]) bk st
  have h2:=zha (hd:=hd) hb r p (i+1) (wkD bh hd d (p++[i]) bk st).1 (wkD bh hd d (p++[i]) bk st).2
  rw [wkB,szB]
  refine⟨by have:=h1.1; have:=h2.1; omega,fun b' h=>?_⟩
  obtain⟨y,e,l⟩:=h2.2 b' h
  have:=h1.2 y e
  exact⟨bk,rfl,by omega⟩
end
theorem zt8{tl:TE}{g:TG}{tt:TT}{te:TE}{mp:List (Option Nat)}{σ : St}{H:Hp}{Q:VK}:zpb (q0k tl) g tt te mp σ H Q=tl σ H fun x H1=>∃d kvs,x=.ref d/\Rd H1 d (.dK kvs)/\∀o,zfm (Itd d o (.dK kvs) (kvs.map fun kv=>kV kv.1)) g tt te Q (subσ mp σ) (upd H1 d (.frz o (.dK kvs))):=rfl
local macro_rules | `(tactic| walk_at "ry")=>`(tactic| simp only[q4n,qcq,q8l,zt8,↓q7w,↓q7v,↓zut,↓zus,↓zz8,↓zz7,↓zpe,↓zpd,↓zpg,↓zpf,↓q77,↓q0i,↓q0g,q76,q0h,q0f,q7u,zlk,qbd,qbc,q62,qbz,qby,qc1,qc0,qcj,qci,q8j,qcv,q5y,q1d,qa4,zqb,zxz,q7l,q1e,zug,zqc,zuh,q4d,q1g,zui,zwk,zym,qbl,zwj,zwi,zt7,qcr,zyl,qbb,qbp,zt6,zyi,tOp,zuy,tC,q8m,zci,q7b,zq2,q88,q8k,q5w,q28,zyk,tCB,zl9,q5x,zta,tUn,rU,rI0,rI,q85,tOr,qam,tB,q2a,qb9,q25,tIf,qba,q26,zv2,q29,zv1,q2l,zv0,q5z,zqw,q60,tSl,zp8,q24,qat,zt9,zzf,q6f,q2u,zl7,zp9,zl4,zlc,qal,qan,tBM,
 qEq,qNe,qIn,zzh,qaz,q2s,qb0,q2t,qay,q2x,qb1,qax,q2v,q2w,zzg,rIx,q8w,zwz,q8v,qav,qbm,q6c,qbn,q8u,zpi,zph,zuz,zyn,q5v,
 zpa,zl6,zl5,zla,zho,zlb,q1f,ziv,zqd,Nat.reduceAdd,Nat.reduceSub,Nat.add_zero,Nat.sub_zero,Nat.add_sub_cancel,
 List.getElem?_cons_zero,List.getElem?_cons_succ,List.set_cons_zero,List.set_cons_succ,List.cons.injEq,Option.some.injEq,V.int.injEq,V.ref.injEq,V.str.injEq,V.bl.injEq,V.ty.injEq,
 reduceCtorEq,false_and,and_false,and_true,true_and,exists_false,exists_const,false_or,or_false,exists_eq_left,exists_eq_left',exists_eq_right,exists_eq_right',exists_and_left,decide_eq_true_eq,Bool.not_eq_true',Bool.decide_eq_true,exists_eq,true_or,or_true,Bool.false_eq_true,if_true,if_false,Bool.true_eq_false,Bool.not_true,Bool.not_false,decide_true,decide_false,List.isEmpty_cons,List.isEmpty_nil,Bool.true_and,Bool.false_and,bne_self_eq_false,beq_self_eq_true])
def Fz(H H':Hp):Prop:=∀b o,H b=some o->H' b=some o\/∃ob kvs,(o=.dK kvs\/∃o2,o=.frz o2 (.dK kvs))/\H' b=some (.frz ob (.dK kvs))
theorem Fz.of{H H':Hp}(s:Same H H'):Fz H H':=fun b o h=>.inl (s b o h)
theorem Fz.trans{H H1 H2:Hp}(a:Fz H H1)(b:Fz H1 H2):Fz H H2:=fun c o h=>by
 rcases a c o h with h1 | ⟨ob,kvs,e,h1⟩
 ·exact b c o h1
 ·rcases b c _ h1 with h2 | ⟨o2,kv2,e2 | ⟨_,e2⟩,h2⟩
  ·exact .inr ⟨ob,kvs,e,h2⟩
  ·cases e2
  ·cases e2
   exact .inr ⟨o2,kvs,e,h2⟩
theorem Fz.sb{n:Addr}{H H':Hp}(s:Fz H H'):SB n H H':=fun b o h=>(s b o h).imp_right .inl
theorem Fz.bk{H H':Hp}(s:Fz H H'){d:Addr}{bk:Bk}(h:IsBk H d bk):IsBk H' d bk:=SB.bk (n:=0) s.sb h
theorem Fz.kp{H H':Hp}(s:Fz H H'):Kp H H':=SB.kp (n:=0) s.sb
theorem Fz.stay{H H':Hp}(s:Fz H H'){b:Addr}{o:HO}(h:H b=some o)(n1:∀k,o≠.dK k)(n3:∀ob u,o≠.frz ob u):H' b=some o:=by
 rcases s b o h with h1 | ⟨_,_,e | ⟨_,e⟩,_⟩
 ·exact h1
 ·exact absurd e (n1 _)
 ·exact absurd e (n3 _ _)
theorem Fz.dT{H H':Hp}(s:Fz H H'){b:Addr}{k:List (List Key×V)}(h:H b=some (.dT k)):H' b=some (.dT k):=s.stay h (fun _ z=>by cases z) (fun _ _ z=>by cases z)
theorem Fz.frz{H:Hp}{d:Addr}{kvs:List (Key×V)}(o:Obj)(h:Rd H d (.dK kvs)):Fz H (upd H d (.frz o (.dK kvs))):=fun b u e=>by
 by_cases hb:b=d
 ·subst hb
  rcases h with h | ⟨o2,h⟩
  ·rw [e] at h; cases h
   exact .inr ⟨o,kvs,.inl rfl,z02⟩
  ·rw [e] at h; cases h
   exact .inr ⟨o,kvs,.inr ⟨_,rfl⟩,z02⟩
 ·exact .inl (by rw [z0o hb]; exact e)
theorem Fz.upd{H H':Hp}(s:Fz H H'){p:Addr}(h:H p=none)(o:HO):Fz H (upd H' p o):=fun b u e=>by
 have hb:b≠p:=z2n e h
 rw [z0o hb]
 exact s b u e
theorem Wk.fz{K:PySem.W.Frag}{H H':Hp}{a n:Addr}{hd:Hds}{st:NW}(h:Wk K H a n hd st)(s:Fz H H'):Wk K H' a n hd st:=by
 obtain⟨⟨C,dx,hA,wA,e,c,d,ne,⟨hk,e1,r1⟩,wk,e2,r2⟩,kvs,e3,r⟩:=h
 have sb:SB 0 H H':=s.sb
 exact⟨⟨C,dx,hA,wA,sb.ins e,c,d,ne,⟨hk,s.dT e1,r1.sb sb⟩,wk,s.dT e2,r2.sb sb⟩,kvs,s.dT e3,r.kp s.kp⟩
section
variable{P:Program}{w:World}{K:PySem.W.Frag}{mg:Str->Option Value}{base:Heap}{f:Addr}{fd:FuncData}
def qct(Pq:T->Prop)(bh:Bh):Sp:=fun vs H Q _=>∃(v:V) (t:T) (d:Addr) (bk:Bk) (so:Bool),vs=[v,.ref d,.bl so]/\Dt H v t.enc/\Pq t/\IsBk H d bk/\bk.length<=900/\∀(r:V) (H':Hp),Same H H'->zqn H' r (bh t bk so)->Q r H'
def zys(Pq:T->Prop)(bh:Bh):Sp:=fun vs H Q _=>∃(v hv:V) (t:T) (has:S) (d:Addr) (bk:Bk) (so:Bool),vs=[v,hv,.ref d,.bl so]/\Dt H v t.enc/\Pq t/\Dt H hv (z6u has)/\IsBk H d bk/\bk.length<=900/\∀(r:V) (H':Hp),Same H H'->zqn H' r (z45 bh t has bk so)->Q r H'
theorem zx7{Pq:T->Prop}{bh:Bh}{rz:Addr} (F:Fun K "side_of" "side_of" z2q f fd) (g_ZERO:GC mg "ZERO" (.ref rz)) (hZ:∀H,SqT K H rz [.int 0,.int 0]) (c_is_within:Callee P w K mg base "is_within" ["one","other"] 3 (zac K))
  (c_behind:Callee P w K mg base "behind" ["term","book","is_so"] 7 (qct Pq bh)):FnOk P w K mg base CX0 8 f fd ["term","has","book","is_so"] (zys Pq bh):=by
 refine F.ok sc_side_of (fun vs H Q E h=>?_) (fun cdv A outer s H vs Q E hr h=>?_)
 ·obtain⟨v,hv,t,has,d,bk,so,rfl,_⟩:=h
  rfl
 obtain⟨v,hv,t,has,d,bk,so,rfl,dv,hq,dh,hbk,hl,q⟩:=h
 refine⟨_,(z01 (z11 (i:=4) sc_side_of.nd rfl zge (zb4 (z7e (z00 (i:=3) rfl za1 z5n z5o)) (q55 (z0g c_is_within hr (by omega) (z07 (z00 (i:=1) rfl zco zjd zjh) (z07 (zg6 g_ZERO zd3 q18) pa_nil)) z83 z5x)) (z0g c_is_within hr (by omega) (z07 (zg6 g_ZERO zd3 q18) (z07 (z00 (i:=1) rfl zco zjd zjh) pa_nil)) z83 z5x)) (z04 rfl))
 (z01 (z1k (zg4 (z7e (z00 (i:=4) rfl zfq zse zsr))) (z05 (z08 z2m)) z0e)
 (z05 (z08 (z0g c_behind hr (by omega) (z07 (z00 (i:=0) rfl zjm z0x z0y) (z07 (z00 (i:=2) rfl zjn z1s z1t) (z07 (z00 (i:=3) rfl za1 z5n z5o) pa_nil))) zio q17))))),?_⟩
 have hz:StK K H (.ref rz) (some (0,0)):=.inr ⟨_,_,rz,rfl,rfl,hZ _⟩
 unfold z45 at q
 cases so with
 | true=>
  rw [if_pos rfl] at q
  walk_at "ry"
  refine⟨_,_,has,some (0,0),rfl,.of dh,hz,fun H1 s1=>?_⟩
  cases hc:z2k has (some (0,0)) with
  | true=>
   rw [hc,if_neg (by simp)] at q
   walk_at "ry"
   exact q _ _ s1 rfl
  | false=>
   rw [hc,if_pos (by simp)] at q
   walk_at "ry"
   exact⟨v,t,d,bk,true,rfl,dv.kp s1.kp,hq,hbk.same s1,hl,fun r H' s2 hr'=>q r H' (s1.trans s2) hr'⟩
 | false=>
  rw [if_neg (show ¬ false=true from Bool.false_ne_true)] at q
  walk_at "ry"
  refine⟨_,_,some (0,0),has,rfl,hz,.of dh,fun H1 s1=>?_⟩
  cases hc:z2k (some (0,0)) has with
  | false=>
   rw [hc,if_neg (by simp)] at q
   walk_at "ry"
   exact q _ _ s1 rfl
  | true=>
   rw [hc,if_pos rfl] at q
   walk_at "ry"
   exact⟨v,t,d,bk,false,rfl,dv.kp s1.kp,hq,hbk.same s1,hl,fun r H' s2 hr'=>q r H' (s1.trans s2) hr'⟩
def qbh:Sp:=fun vs H Q _=>∃(x y:V) (s t:Option Bk),vs=[x,y]/\zqn H x s/\zqn H y t/\(∀b,s=some b->b.length<=900)/\∀(r:V) (H':Hp),Fz H H'->zqn H' r (q3s s t)->Q r H'
end
section
variable{P:Program}{w:World}{K:PySem.W.Frag}{mg:Str->Option Value}{base:Heap}{f:Addr}{fd:FuncData}
theorem BkR.key_at{H:Hp}{kvs:List (Key×V)}{bk:Bk}(h:BkR H kvs bk):(kvs.map fun kv=>kV kv.1)=bk.map fun q=>V.str q.1:=by
 unfold BkR at h
 induction h with
 | nil=>rfl
 | cons rr _ ih=>
  rename_i p q _ _ _
  rw [List.map_cons,List.map_cons,ih,rr.1]; rfl
theorem zgb:∀{bk:Bk} {x:Str},x∈bk.map (fun q=>q.1)->∃s,look bk x=some s
 | [],_,h=>by cases h
 | q::r,x,h=>by
  rw [look]
  by_cases e:q.1=x
  ·exact⟨q.2,if_pos e⟩
  ·rw [if_neg e]
   rw [List.map_cons,List.mem_cons] at h
   exact zgb (h.resolve_left fun z=>e z.symm)
def JI(H:Hp)(d1 d2 db:Addr)(o:Obj)(kvs:List (Key×V))(b1 b2:Bk)(i:Nat)(σ':St)(H':Hp):Prop:=
 Fz H H'/\H' d1=some (.frz o (.dK kvs))/\(∃t,σ'=[some (.ref d1),some (.ref d2),some (.ref db),t])/\∃kv,H' db=some (.dK kv)/\BkR H' kv (((b1.map fun q=>q.1).take i).foldl (zmj b1 b2) [])
theorem zlw(F:Fun K "joined_books" "joined_books" z0w f fd) (c_joined:Callee P w K mg base "joined" ["one","other"] 1 (zwl q5d)):FnOk P w K mg base CX0 2 f fd ["one","other"] qbh:=by
 refine F.ok sc_joined_books (fun vs H Q E h=>?_) (fun cdv A outer s H vs Q E hr h=>?_)
 ·obtain⟨x,y,s,t,rfl,_⟩:=h
  rfl
 obtain⟨x,y,s,t,rfl,hx,hy,hlen,q⟩:=h
 refine⟨_,(z01 (z1k (z0d zqr (z00 (i:=0) rfl z3l z1d z1e) z2m (z0f _)) (z05 (z08 (z00 (i:=1) rfl z36 z0k z0l))) z0e)
 (z01 (z1k (z0d zqr (z00 (i:=1) rfl z36 z0k z0l) z2m (z0f _)) (z05 (z08 (z00 (i:=0) rfl z3l z1d z1e))) z0e)
 (z01 (z11 (i:=2) sc_joined_books.nd rfl zd0 zkj (z04 rfl))
 (z01 (zel PassesOwn.never rfl (zpj (z00 (i:=0) rfl z3l z1d z1e)) (z19 (i:=3) sc_joined_books.nd rfl zcz)
 (z05 (z1k (zv8 (zos hr.units1 (z00 (i:=3) rfl z3a z8q z8r) (z00 (i:=1) rfl z36 z0k z0l))) (z05 (zcx hr.units1 (z00 (i:=2) rfl z7b zq8 zqh) (z00 (i:=3) rfl z3a z8q z8r) (z0g c_joined hr (by omega) (z07 (z4f hr.units1 (z00 (i:=0) rfl z3l z1d z1e) (z00 (i:=3) rfl z3a z8q z8r) (fun _ _=>rfl)) (z07 (z4f hr.units1 (z00 (i:=1) rfl z36 z0k z0l) (z00 (i:=3) rfl z3a z8q z8r) (fun _ _=>rfl)) pa_nil)) zce zn3) (z04 rfl))) z0e)))
 (z05 (z08 (z00 (i:=2) rfl z7b zq8 zqh))))))),?_⟩
 match s,t,hx,hy,hlen,q with
 | none,t,hx,hy,_,q=>
  cases hx
  walk_at "ry"
  exact q _ _ (.of (Same.refl _)) hy
 | some b1,none,⟨d1,e1,h1⟩,hy,_,q=>
  cases hy; cases e1
  walk_at "ry"
  exact q _ _ (.of (Same.refl _)) ⟨d1,rfl,h1⟩
 | some b1,some b2,⟨d1,e1,h1⟩,⟨d2,e2,h2⟩,hlen,q=>
  cases e1; cases e2
  have hl:=hlen b1 rfl
  walk_at "ry"
  intro db hdb
  have s1:=z06 hdb (HO.dK [])
  have eb:upd H db (HO.dK []) db=_:=z02
  have hne:d1≠db:=by
   intro z
   subst z
   obtain⟨kvs,e | ⟨_,e⟩,_⟩:=h1<;>rw [hdb] at e<;>cases e
  generalize upd H db (HO.dK [])=U at s1 eb |-
  obtain⟨kvs,hd,rb⟩:=id (h1.same s1)
  refine⟨kvs,hd,fun o=>?_⟩
  have sF:Fz U (upd U d1 (.frz o (.dK kvs))):=Fz.frz o hd
  have eF:upd U d1 (.frz o (.dK kvs)) d1=_:=z02
  have ebF:upd U d1 (.frz o (.dK kvs)) db=some (.dK []):=by rw [z0o (Ne.symm hne)]; exact eb
  generalize upd U d1 (.frz o (.dK kvs))=UF at sF eF ebF |-
  have sbF:Fz H UF:=Fz.trans (.of s1) sF
  rw [rb.key_at]
  refine zvs (JI H d1 d2 db o kvs b1 b2) ⟨sbF,eF,⟨_,rfl⟩,[],ebF,.nil⟩ ?_ ?_ ?_
  ·rintro i σ' H' _ ⟨_,h,_⟩
   exact h
  ·rintro i v σ' H' hv ⟨sb,hf,⟨t,rfl⟩,kv,hkv,rkv⟩
   rw [List.getElem?_map] at hv
   cases hq:b1[i]? with
   | none=>rw [hq] at hv; cases hv
   | some qq=>
    rw [hq] at hv
    have ev:V.str qq.1=v:=by simpa using hv
    subst ev
    have hmem:qq.1∈b1.map (fun q=>q.1):=List.mem_map.mpr ⟨qq,List.mem_of_getElem? hq,rfl⟩
    have htk:((b1.map fun q=>q.1).take (i+1))=((b1.map fun q=>q.1).take i)++[qq.1]:=by
     rw [List.take_add_one,List.getElem?_map,hq]; rfl
    have hil:i < b1.length:=(List.getElem?_eq_some_iff.mp hq).1
    obtain⟨sx,hsx⟩:=zgb hmem
    obtain⟨k1,hk1,r1⟩:=sb.bk h1
    obtain⟨k2,hk2,r2⟩:=sb.bk h2
    rcases r1.look qq.1 with⟨z,_⟩ | ⟨s1',v1,z1,z1v,dv1⟩
    ·rw [hsx] at z; cases z
    have g1:=DGet.kr (k:=.inr qq.1) hk1
    have g2:=DGet.kr (k:=.inr qq.1) hk2
    rw [z1v] at g1
    have hlacc:=zmk b1 b2 ((b1.map fun q=>q.1).take i) []
    rw [List.length_take,List.length_nil] at hlacc
    unfold JI
    rw [htk,List.foldl_append]
    generalize ((b1.map fun q=>q.1).take i).foldl (zmj b1 b2) []=acc at rkv hlacc |-
    show _
    rcases r2.look qq.1 with⟨z2,z2v⟩ | ⟨s2',v2,z2,z2v,dv2⟩
    ·rw [z2v] at g2
     walk_at "ry"
     refine⟨_,g2,?_⟩
     refine⟨sb,hf,⟨_,rfl⟩,kv,hkv,?_⟩
     show BkR H' kv (zmj b1 b2 acc qq.1)
     unfold zmj
     rw [z1,z2]; exact rkv
    ·rw [z2v] at g2
     walk_at "ry"
     refine⟨_,g2,?_⟩
     refine⟨v1,g1,v2,g2,v1,v2,some s1',some s2',rfl,dv1,dv2,fun r4 H4 s4 dr4=>?_⟩
     rw [q0a] at dr4
     refine⟨_,DPut.k (k:=.inr qq.1) (s4 _ _ hkv) (by rw [rkv.length]; exact z10 (by omega)),?_⟩
     have hkp:Kp H4 (upd H4 db (.dK (zcj kv (.inr qq.1) r4))):=zif (s4 _ _ hkv)
     have sb4:Fz H H4:=sb.trans (.of s4)
     have hf5:upd H4 db (.dK (zcj kv (.inr qq.1) r4)) d1=some (.frz o (.dK kvs)):=by rw [z0o hne]; exact s4 _ _ hf
     refine⟨sb4.upd hdb _,hf5,⟨_,rfl⟩,_,z02,?_⟩
     show BkR _ _ (zmj b1 b2 acc qq.1)
     unfold zmj
     rw [z1,z2]
     exact(rkv.kp (s4.kp.trans hkp)).put _ (dr4.kp hkp)
  ·rintro σ' H' ⟨sb,hf,⟨t,rfl⟩,kv,hkv,rkv⟩
   walk_at "ry"
   rw [List.length_map,List.take_of_length_le (by rw [List.length_map]; exact Nat.le_refl _)] at rkv
   exact q _ _ sb ⟨db,rfl,kv,.inl hkv,rkv⟩
end
section
variable{P:Program}{w:World}{K:PySem.W.Frag}{mg:Str->Option Value}{base:Heap}{f:Addr}{fd:FuncData}
def zvf(Pq:T->Prop):Nat->List D->Prop
 | 0,_=>False
 | n+1,b=>∀d∈b,match d with
  | .set _ t=>T.dp 6 t
  | .ite t b c=>T.dp 6 t/\Pq t/\zvf Pq n b/\zvf Pq n c
  | .whl t _ b=>T.dp 6 t/\Pq t/\zvf Pq n b
def qbw(Pq:T->Prop)(n:Nat)(d:D):Prop:=match d with
 | .set _ t=>T.dp 6 t
 | .ite t b c=>T.dp 6 t/\Pq t/\zvf Pq n b/\zvf Pq n c
 | .whl t _ b=>T.dp 6 t/\Pq t/\zvf Pq n b
def q9q:D->Prop
 | .set _ t=>T.dp 6 t
 | _=>False
def qd5(Pq:T->Prop)(n:Nat):D->Prop
 | .ite t b c=>T.dp 6 t/\Pq t/\zvf Pq n b/\zvf Pq n c
 | _=>False
def qd4(Pq:T->Prop)(n:Nat):D->Prop
 | .whl t _ b=>T.dp 6 t/\Pq t/\zvf Pq n b
 | _=>False
def q4w(K:PySem.W.Frag)(bh:Bh)(m:Nat)(ok:D->Prop):Sp:=fun vs H Q _=>∃(dv pv:V) (dd:D) (p:Pth) (d a nn:Addr) (bk:Bk) (hd:Hds) (st:NW),vs=[dv,pv,.ref d,.ref a]/\Dt H dv dd.enc/\ok dd/\PtA H pv p/\IsBk H d bk/\Wk K H a nn hd st/\(st.1.length+dd.sz<=900/\st.2.length+dd.sz<=900)/\bk.length+dd.sz<=900/\p.length+m<=900/\
 ∀(r:V) (H':Hp),SB nn H H'->Wk K H' a nn hd (wkD bh hd dd p bk st).2->zqn H' r (wkD bh hd dd p bk st).1->Q r H'
def zwm(K:PySem.W.Frag)(bh:Bh)(Pq:T->Prop)(n:Nat):Sp:=fun vs H Q _=>∃(bv pv ov:V) (b:List D) (p:Pth) (a nn:Addr) (o:Option Bk) (hd:Hds) (st:NW),vs=[bv,pv,ov,.ref a]/\Dt H bv (.tup (zko b))/\zvf Pq n b/\PtA H pv p/\zqn H ov o/\Wk K H a nn hd st/\(st.1.length+szB b<=900/\st.2.length+szB b<=900)/\(∀bk,o=some bk->bk.length+szB b<=900)/\p.length+(2 * n+10)<=900/\
 ∀(r:V) (H':Hp),SB nn H H'->Wk K H' a nn hd (wkB bh hd b p 0 o st).2->zqn H' r (wkB bh hd b p 0 o st).1->Q r H'
theorem q3o{bh:Bh}{Pq:T->Prop}{k:Nat}{n1 n2 n3 n4:Str}:FnOk P w K mg base CX0 k f fd [n1,n2,n3,n4] (zwm K bh Pq 0):=by
 have no:∀vs H Q E,¬ zwm K bh Pq 0 vs H Q E:=fun vs H Q E h=>by
  obtain⟨bv,pv,ov,b,p,a,nn,o,hds,st,_,_,h,_⟩:=h
  exact h.elim
 exact⟨fun vs H Q E h=>absurd h (no vs H Q E),fun A outer s H args us vs Q E _ _ _ _ h=>absurd h (no vs H Q E)⟩
theorem zzu{bh:Bh} (F:Fun K "go_set" "go_set" z3c f fd) (b_dict:mg "dict" = none) (c_show:Callee P w K mg base "show" ["term","path","book","walk"] 11 (zlg K 6)):FnOk P w K mg base CX0 12 f fd ["deed","path","book","walk"] (q4w K bh 8 q9q):=by
 refine F.ok sc_go_set (fun vs H Q E h=>?_) (fun cdv A outer s H vs Q E hr h=>?_)
 ·obtain⟨dv,pv,dd,p,d,a,nn,bk,hds,st,rfl,_⟩:=h
  rfl
 obtain⟨dv,pv,dd,p,d,a,nn,bk,hds,st,rfl,hv,ht,hp,hbk,hw,hl,hlb,hpl,q⟩:=h
 match dd,ht,hv,hl,hlb,q with
 | .set x t,ht,hv,hl,hlb,q=>
  rw [D.sz] at hl hlb
  rw [wkD] at q
  obtain⟨pd,xs,rfl,hpd,da⟩:=hv.tupI
  rcases da with _ | ⟨d1,_ | ⟨d2,_ | ⟨d3,_ | _⟩⟩⟩
  cases d1; cases d2
  rename_i vt
  refine⟨_,(z01 (z11 (i:=4) sc_go_set.nd rfl zo3 (z0g c_show hr (by omega) (z07 (z0i ix_tup (z00 (i:=0) rfl zcq z29 z2a) z03 (fun _ _=>rfl)) (z07 (z2g z2x (z00 (i:=1) rfl zkz z1h z1i) (z1a (z07 z03 pa_nil))) (z07 (z00 (i:=2) rfl zcr z1s z1t) (z07 (z00 (i:=3) rfl zky z2y z2z) pa_nil)))) zoc zmx) (z04 rfl))
 (z01 (z1k (z0d zqr (z00 (i:=4) rfl zej zjd zjh) z2m (z0f _)) (z05 (z08 z2m)) z0e)
 (z01 (z11 (i:=5) sc_go_set.nd rfl zo4 (zrb z9d zod b_dict zfk (z07 (z00 (i:=2) rfl zcr z1s z1t) pa_nil) zeu zfd) (z04 rfl))
 (z01 (zcx hr.units1 (z00 (i:=5) rfl zek q16 q1p) (z0i ix_tup (z00 (i:=0) rfl zcq z29 z2a) z03 (fun _ _=>rfl)) (z00 (i:=4) rfl zej zjd zjh) (z04 rfl))
 (z05 (z08 (z00 (i:=5) rfl zek q16 q1p))))))),?_⟩
  walk_at "ry"
  refine⟨_,SqT.of hpd,_,rfl,zl 1 (by decide),fun p1 hp1=>?_⟩
  have s1:=z06 hp1 (HO.tup [.int 0])
  have e1:upd H p1 (HO.tup [.int 0]) p1=_:=z02
  generalize upd H p1 (HO.tup [.int 0])=U at s1 e1 |-
  refine q4i (q:=[0]) (hp.kp s1.kp) e1 (by simp; omega) fun r2 H2 s2 hr2=>?_
  have s12:=s1.trans s2
  refine⟨vt,r2,t,p++[0],d,a,nn,bk,hds,st.1,st.2,rfl,d3.kp s12.kp,ht,hr2,hbk.same s12,hw.same s12,by omega,by simp; omega,fun r3 H3 s3 w3 dr3=>?_⟩
  have sb3:SB nn H H3:=SB.trans (.of s12) s3
  rcases dtS dr3 with⟨z,rfl⟩ | ⟨l,h,pp,z,rfl,hpp⟩
  ·walk_at "ry"
   rw [z] at q
   exact q _ _ sb3 w3 rfl
  ·walk_at "ry"
   rw [z] at q
   obtain⟨kvs,hd,rb⟩:=sb3.bk hbk
   refine⟨kvs,hd,fun p4 hp4=>?_⟩
   have s4:=z06 hp4 (HO.dK kvs)
   have e4:upd H3 p4 (HO.dK kvs) p4=_:=z02
   have s5:∀o,Same H3 (upd (upd H3 p4 (HO.dK kvs)) p4 o):=fun o=>z96 s4 hp4
   generalize upd H3 p4 (HO.dK kvs)=U4 at s4 e4 s5 |-
   refine⟨_,SqT.of (s4 _ _ (sb3.kp.t _ _ hpd)),_,rfl,_,DPut.k (k:=.inr x) e4 (by rw [rb.length]; exact z10 (by omega)),?_⟩
   have hk:=s4.kp.trans (zif (kvs':=zcj kvs (.inr x) (V.ref pp)) e4)
   rw [z] at dr3
   exact q _ _ (sb3.trans (.of (s5 _))) (w3.same (s5 _)) ⟨p4,rfl,_,.inl z02,(rb.kp hk).put x (dr3.kp hk)⟩
theorem zve{bh:Bh}{Pq:T->Prop}{n:Nat}(hg:zfl bh) (F:Fun K "go_if" "go_if" z3i f fd) (c_show:Callee P w K mg base "show" ["term","path","book","walk"] 11 (zlg K 6)) (c_side_of:Callee P w K mg base "side_of" ["term","has","book","is_so"] 8 (zys Pq bh)) (c_joined_books:Callee P w K mg base "joined_books" ["one","other"] 2 qbh)
  (c_go_block:Callee P w K mg base "go_block" ["block","path","book","walk"] (3 * n+12) (zwm K bh Pq n)):FnOk P w K mg base CX0 (3 * n+13) f fd ["deed","path","book","walk"] (q4w K bh (2 * n+11) (qd5 Pq n)):=by
 refine F.ok sc_go_if (fun vs H Q E h=>?_) (fun cdv A outer s H vs Q E hr h=>?_)
 ·obtain⟨dv,pv,dd,p,d,a,nn,bk,hds,st,rfl,_⟩:=h
  rfl
 obtain⟨dv,pv,dd,p,d,a,nn,bk,hds,st,rfl,hv,ht,hp,hbk,hw,hl,hlb,hpl,q⟩:=h
 match dd,ht,hv,hl,hlb,q with
 | .ite t b c,⟨ht,hpq,hb,hc⟩,hv,hl,hlb,q=>
  rw [D.sz] at hl hlb
  rw [wkD] at q
  obtain⟨pd,xs,rfl,hpd,da⟩:=hv.tupI
  rcases da with _ | ⟨d1,_ | ⟨d2,_ | ⟨d3,_ | ⟨d4,_ | _⟩⟩⟩⟩
  cases d1
  rename_i vt vb vc
  have g1:=zb3 bk t (p++[0]) st.1
  refine⟨_,(z01 (z11 (i:=4) sc_go_if.nd rfl zpt (z0g c_show hr (by omega) (z07 (z0i ix_tup (z00 (i:=0) rfl z5g z29 z2a) z03 (fun _ _=>rfl)) (z07 (z2g z2x (z00 (i:=1) rfl z9h z1h z1i) (z1a (z07 z03 pa_nil))) (z07 (z00 (i:=2) rfl z9i z1s z1t) (z07 (z00 (i:=3) rfl z9g z2y z2z) pa_nil)))) zq0 zmx) (z04 rfl))
 (z01 (z11 (i:=5) sc_go_if.nd rfl zps (z0g c_go_block hr (by omega) (z07 (z0i ix_tup (z00 (i:=0) rfl z5g z29 z2a) z03 (fun _ _=>rfl)) (z07 (z2g z2x (z00 (i:=1) rfl z9h z1h z1i) (z1a (z07 z03 pa_nil))) (z07 (z0g c_side_of hr (by omega) (z07 (z0i ix_tup (z00 (i:=0) rfl z5g z29 z2a) z03 (fun _ _=>rfl)) (z07 (z00 (i:=4) rfl zfx zjd zjh) (z07 (z00 (i:=2) rfl z9i z1s z1t) (z07 zc8 pa_nil)))) zc0 zdt) (z07 (z00 (i:=3) rfl z9g z2y z2z) pa_nil)))) zam zbm) (z04 rfl))
 (z01 (z11 (i:=6) sc_go_if.nd rfl zmb (z0g c_go_block hr (by omega) (z07 (z0i ix_tup (z00 (i:=0) rfl z5g z29 z2a) z03 (fun _ _=>rfl)) (z07 (z2g z2x (z00 (i:=1) rfl z9h z1h z1i) (z1a (z07 z03 pa_nil))) (z07 (z0g c_side_of hr (by omega) (z07 (z0i ix_tup (z00 (i:=0) rfl z5g z29 z2a) z03 (fun _ _=>rfl)) (z07 (z00 (i:=4) rfl zfx zjd zjh) (z07 (z00 (i:=2) rfl z9i z1s z1t) (z07 zc8 pa_nil)))) zc0 zdt) (z07 (z00 (i:=3) rfl z9g z2y z2z) pa_nil)))) zam zbm) (z04 rfl))
 (z05 (z08 (z0g c_joined_books hr (by omega) (z07 (z00 (i:=5) rfl zp5 z1d z1e) (z07 (z00 (i:=6) rfl zl0 z0k z0l) pa_nil)) zda zdg)))))),?_⟩
  walk_at "ry"
  refine⟨_,SqT.of hpd,_,rfl,zl 1 (by decide),fun p1 hp1=>?_⟩
  have s1:=z06 hp1 (HO.tup [.int 0])
  have e1:upd H p1 (HO.tup [.int 0]) p1=_:=z02
  generalize upd H p1 (HO.tup [.int 0])=U at s1 e1 |-
  refine q4i (q:=[0]) (hp.kp s1.kp) e1 (by simp; omega) fun r2 H2 s2 hr2=>?_
  have s12:=s1.trans s2
  refine⟨vt,r2,t,p++[0],d,a,nn,bk,hds,st.1,st.2,rfl,d2.kp s12.kp,ht,hr2,hbk.same s12,hw.same s12,by omega,by simp; omega,fun r3 H3 s3 w3 dr3=>?_⟩
  have sb3:SB nn H H3:=SB.trans (.of s12) s3
  generalize shS bk t (p++[0]) st.1=sh at g1 w3 dr3 q
  walk_at "ry"
  refine⟨_,SqT.of (sb3.kp.t _ _ hpd),_,rfl,zl 1 (by decide),fun p4 hp4=>?_⟩
  have s4:=z06 hp4 (HO.tup [.int 1])
  have e4:upd H3 p4 (HO.tup [.int 1]) p4=_:=z02
  generalize upd H3 p4 (HO.tup [.int 1])=U4 at s4 e4 |-
  refine q4i (q:=[1]) ((hp.kp sb3.kp).kp s4.kp) e4 (by simp; omega) fun r5 H5 s5 hr5=>?_
  have s45:=s4.trans s5
  have sb5:SB nn H H5:=sb3.trans (.of s45)
  refine⟨_,SqT.of (sb5.kp.t _ _ hpd),_,rfl,vt,r3,t,sh.1,d,bk,true,rfl,d2.kp sb5.kp,hpq,dr3.kp s45.kp,sb5.bk hbk,by omega,fun r6 H6 s6 hr6=>?_⟩
  have sb6:=sb5.trans (.of s6)
  have gs1:∀bk',z45 bh t sh.1 bk true=some bk'->bk'.length+szB b<=900:=fun bk' e=>by
   have:=zae hg e
   omega
  have g2:=zha (hd:=hds) hg b (p++[1]) 0 (z45 bh t sh.1 bk true) (sh.2,st.2)
  refine⟨vb,r5,r6,b,p++[1],a,nn,_,hds,(sh.2,st.2),rfl,d3.kp sb6.kp,hb,hr5.kp s6.kp,hr6,(w3.same s45).same s6,by dsimp only at *; omega,gs1,by simp; omega,fun r7 H7 s7 w7 hr7=>?_⟩
  have sb7:=sb6.trans s7
  have gs2:∀bk',(wkB bh hds b (p++[1]) 0 (z45 bh t sh.1 bk true) (sh.2,st.2)).1=some bk'->bk'.length<=900:=fun bk' e=>by
   obtain⟨y,e2,l⟩:=g2.2 bk' e
   have:=gs1 y e2
   omega
  generalize wkB bh hds b (p++[1]) 0 (z45 bh t sh.1 bk true) (sh.2,st.2)=wb at g2 gs2 w7 hr7 q
  walk_at "ry"
  refine⟨_,SqT.of (sb7.kp.t _ _ hpd),_,rfl,zl 1 (by decide),fun p8 hp8=>?_⟩
  have s8:=z06 hp8 (HO.tup [.int 2])
  have e8:upd H7 p8 (HO.tup [.int 2]) p8=_:=z02
  generalize upd H7 p8 (HO.tup [.int 2])=U8 at s8 e8 |-
  refine q4i (q:=[2]) ((hp.kp sb7.kp).kp s8.kp) e8 (by simp; omega) fun r9 H9 s9 hr9=>?_
  have s89:=s8.trans s9
  have sb9:SB nn H H9:=sb7.trans (.of s89)
  have dr3':Dt H9 r3 (z6u sh.1):=((((dr3.kp s45.kp).kp s6.kp).kp s7.kp).kp s89.kp)
  refine⟨_,SqT.of (sb9.kp.t _ _ hpd),_,rfl,vt,r3,t,sh.1,d,bk,false,rfl,d2.kp sb9.kp,hpq,dr3',sb9.bk hbk,by omega,fun r10 H10 s10 hr10=>?_⟩
  have sb10:=sb9.trans (.of s10)
  have gs3:∀bk',z45 bh t sh.1 bk false=some bk'->bk'.length+szB c<=900:=fun bk' e=>by
   have:=zae hg e
   omega
  have g2l:=g2.1
  refine⟨vc,r9,r10,c,p++[2],a,nn,_,hds,wb.2,rfl,d4.kp sb10.kp,hc,hr9.kp s10.kp,hr10,(w7.same s89).same s10,by dsimp only at *; omega,gs3,by simp; omega,fun r11 H11 s11 w11 hr11=>?_⟩
  have sb11:=sb10.trans s11
  have hr7':zqn H11 r7 wb.1:=s11.res (Same.res s10 (Same.res s89 hr7))
  walk_at "ry"
  refine⟨r7,r11,_,_,rfl,hr7',hr11,gs2,fun r12 H12 s12' hr12=>?_⟩
  exact q r12 H12 (sb11.trans s12'.sb) (w11.fz s12') hr12
end
section
variable{P:Program}{w:World}{K:PySem.W.Frag}{mg:Str->Option Value}{base:Heap}{f:Addr}{fd:FuncData}
def qbg:Sp:=fun vs H Q _=>∃(d1 d2:Addr) (b1 b2:Bk),vs=[.ref d1,.ref d2]/\IsBk H d1 b1/\IsBk H d2 b2/\b1.length<=900/\∀(r:Addr) (H':Hp),Fz H H'->IsBk H' r (jtB b1 b2)->Q (.ref r) H'
def TI(H:Hp)(d1 d2 db:Addr)(o:Obj)(kvs:List (Key×V))(b1 b2:Bk)(i:Nat)(σ':St)(H':Hp):Prop:=
 Fz H H'/\H' d1=some (.frz o (.dK kvs))/\(∃t,σ'=[some (.ref d1),some (.ref d2),some (.ref db),t])/\∃kv,H' db=some (.dK kv)/\BkR H' kv (((b1.map fun q=>q.1).take i).foldl (znt b1 b2) [])
theorem zrg(F:Fun K "joined_to" "joined_to" z22 f fd) (c_joined:Callee P w K mg base "joined" ["one","other"] 1 (zwl q5d)):FnOk P w K mg base CX0 2 f fd ["book","other"] qbg:=by
 refine F.ok sc_joined_to (fun vs H Q E h=>?_) (fun cdv A outer s H vs Q E hr h=>?_)
 ·obtain⟨d1,d2,b1,b2,rfl,_⟩:=h
  rfl
 obtain⟨d1,d2,b1,b2,rfl,h1,h2,hl,q⟩:=h
 refine⟨_,(z01 (z11 (i:=2) sc_joined_to.nd rfl zgj zkj (z04 rfl))
 (z01 (zel PassesOwn.never rfl (zpj (z00 (i:=0) rfl z91 z1s z1t)) (z19 (i:=3) sc_joined_to.nd rfl zgi)
 (z05 (zcx hr.units1 (z00 (i:=2) rfl z90 zq8 zqh) (z00 (i:=3) rfl z67 z8q z8r) (z0g c_joined hr (by omega) (z07 (z4f hr.units1 (z00 (i:=0) rfl z91 z1s z1t) (z00 (i:=3) rfl z67 z8q z8r) (fun _ _=>rfl)) (z07 (zkk hr.units1 (z00 (i:=1) rfl zer z0k z0l) (z00 (i:=3) rfl z67 z8q z8r) ⟨rfl,rfl,rfl,rfl⟩) pa_nil)) zf3 zn3) (z04 rfl))))
 (z05 (z08 (z00 (i:=2) rfl z90 zq8 zqh))))),z0z fun N1 e1=>?_⟩
 walk_at "ry"
 intro db hdb
 rw [e1]
 refine z0z fun N2 e2=>?_
 walk_at "ry"
 have s1:=z06 hdb (HO.dK [])
 have eb:upd H db (HO.dK []) db=_:=z02
 have hne:d1≠db:=by
  intro z
  subst z
  obtain⟨kvs,e | ⟨_,e⟩,_⟩:=h1<;>rw [hdb] at e<;>cases e
 generalize upd H db (HO.dK [])=U at s1 eb |-
 obtain⟨kvs,hd,rb⟩:=id (h1.same s1)
 refine⟨kvs,hd,fun o=>?_⟩
 have sF:Fz U (upd U d1 (.frz o (.dK kvs))):=Fz.frz o hd
 have eF:upd U d1 (.frz o (.dK kvs)) d1=_:=z02
 have ebF:upd U d1 (.frz o (.dK kvs)) db=some (.dK []):=by rw [z0o (Ne.symm hne)]; exact eb
 generalize upd U d1 (.frz o (.dK kvs))=UF at sF eF ebF |-
 have sbF:Fz H UF:=Fz.trans (.of s1) sF
 rw [rb.key_at]
 refine zvs (TI H d1 d2 db o kvs b1 b2) ⟨sbF,eF,⟨_,rfl⟩,[],ebF,.nil⟩ ?_ ?_ ?_
 ·rintro i σ' H' _ ⟨_,h,_⟩
  exact h
 ·rintro i v σ' H' hv ⟨sb,hf,⟨t,rfl⟩,kv,hkv,rkv⟩
  rw [List.getElem?_map] at hv
  cases hq:b1[i]? with
  | none=>rw [hq] at hv; cases hv
  | some qq=>
   rw [hq] at hv
   have ev:V.str qq.1=v:=by simpa using hv
   subst ev
   have hmem:qq.1∈b1.map (fun q=>q.1):=List.mem_map.mpr ⟨qq,List.mem_of_getElem? hq,rfl⟩
   have htk:((b1.map fun q=>q.1).take (i+1))=((b1.map fun q=>q.1).take i)++[qq.1]:=by
    rw [List.take_add_one,List.getElem?_map,hq]; rfl
   have hil:i < b1.length:=(List.getElem?_eq_some_iff.mp hq).1
   obtain⟨sx,hsx⟩:=zgb hmem
   obtain⟨k1,hk1,r1⟩:=sb.bk h1
   obtain⟨k2,hk2,r2⟩:=sb.bk h2
   rcases r1.look qq.1 with⟨z,_⟩ | ⟨s1',v1,z1,z1v,dv1⟩
   ·rw [hsx] at z; cases z
   have g1:=DGet.kr (k:=.inr qq.1) hk1
   have g2:=DGet.kr (k:=.inr qq.1) hk2
   rw [z1v] at g1
   have hlacc:=zl8 b1 b2 ((b1.map fun q=>q.1).take i) []
   rw [List.length_take,List.length_nil] at hlacc
   unfold TI
   rw [htk,List.foldl_append]
   generalize ((b1.map fun q=>q.1).take i).foldl (znt b1 b2) []=acc at rkv hlacc |-
   have fin:∀(v2:V) (o2:S),Dt H' v2 (z6u o2)->look b2 qq.1=o2->zwl q5d [v1,v2] H' (fun x H1=>∃H4,DPut H1 db (V.str qq.1) x H4/\(Fz H H4/\H4 d1=some (.frz o (.dK kvs))/\(∃t,some (V.str qq.1)=t)/\∃kv,H4 db=some (.dK kv)/\BkR H4 kv ([qq.1].foldl (znt b1 b2) acc))) E0:=by
    intro v2 o2 dv2 z2
    refine⟨v1,v2,some s1',o2,rfl,dv1,dv2,fun r4 H4 s4 dr4=>?_⟩
    have ej:q5d (some s1') o2=some (jtS s1' o2):=by
     cases o2 with
     | none=>rfl
     | some t=>exact q0a _ _
    rw [ej] at dr4
    refine⟨_,DPut.k (k:=.inr qq.1) (s4 _ _ hkv) (by rw [rkv.length]; exact z10 (by omega)),?_⟩
    have hkp:Kp H4 (upd H4 db (.dK (zcj kv (.inr qq.1) r4))):=zif (s4 _ _ hkv)
    have sb4:Fz H H4:=sb.trans (.of s4)
    have hf5:upd H4 db (.dK (zcj kv (.inr qq.1) r4)) d1=some (.frz o (.dK kvs)):=by rw [z0o hne]; exact s4 _ _ hf
    refine⟨sb4.upd hdb _,hf5,⟨_,rfl⟩,_,z02,?_⟩
    show BkR _ _ (znt b1 b2 acc qq.1)
    unfold znt
    rw [z1,z2]
    exact(rkv.kp (s4.kp.trans hkp)).put _ (dr4.kp hkp)
   walk_at "ry"
   refine⟨v1,g1,.inl ⟨_,hk2⟩,_,g2,?_⟩
   rcases r2.look qq.1 with⟨z2,z2v⟩ | ⟨s2',v2,z2,z2v,dv2⟩
   ·rw [z2v]
    exact fin .non none .non z2
   ·rw [z2v]
    exact fin v2 (some s2') dv2 z2
 ·rintro σ' H' ⟨sb,hf,⟨t,rfl⟩,kv,hkv,rkv⟩
  show N2 _ _
  rw [e2]
  walk_at "ry"
  rw [List.length_map,List.take_of_length_le (by rw [List.length_map]; exact Nat.le_refl _)] at rkv
  exact q _ _ sb ⟨kv,.inl hkv,rkv⟩
theorem zlz{bh:Bh}{Pq:T->Prop}{n:Nat}(hg:zfl bh) (F:Fun K "go_while" "go_while" z12 f fd) (c_joined_to:Callee P w K mg base "joined_to" ["book","other"] 2 qbg) (c_show:Callee P w K mg base "show" ["term","path","book","walk"] 11 (zlg K 6)) (c_side_of:Callee P w K mg base "side_of" ["term","has","book","is_so"] 8 (zys Pq bh)) (c_joined_books:Callee P w K mg base "joined_books" ["one","other"] 2 qbh)
  (c_go_block:Callee P w K mg base "go_block" ["block","path","book","walk"] (3 * n+12) (zwm K bh Pq n)):FnOk P w K mg base CX0 (3 * n+13) f fd ["deed","path","book","walk"] (q4w K bh (2 * n+11) (qd4 Pq n)):=by
 refine F.ok sc_go_while (fun vs H Q E h=>?_) (fun cdv A outer s H vs Q E hr h=>?_)
 ·obtain⟨dv,pv,dd,p,d,a,nn,bk,hds,st,rfl,_⟩:=h
  rfl
 obtain⟨dv,pv,dd,p,d,a,nn,bk,hds,st,rfl,hv,ht,hp,hbk,hw,hl,hlb,hpl,q⟩:=h
 match dd,ht,hv,hl,hlb,q with
 | .whl t m b,⟨ht,hpq,hb⟩,hv,hl,hlb,q=>
  rw [D.sz] at hl hlb
  rw [wkD] at q
  obtain⟨pd,xs,rfl,hpd,da⟩:=hv.tupI
  rcases da with _ | ⟨d1,_ | ⟨d2,_ | ⟨d3,_ | ⟨d4,_ | _⟩⟩⟩⟩
  cases d1
  rename_i vt vm vb
  have g0:(z5b hds p bk).length<=bk.length:=q09 _ _
  have g1:=zb3 (z5b hds p bk) t (p++[0]) st.1
  obtain⟨pa,epa,hpa⟩:=id hp
  refine⟨_,(z01 (z11 (i:=4) sc_go_while.nd rfl zi9 (z0g c_joined_to hr (by omega) (z07 (z00 (i:=2) rfl za9 z1s z1t) (z07 (q35 hr.units1 (zra (z00 (i:=3) rfl z51 z2y z2z) rfl) (z00 (i:=1) rfl z52 z1h z1i) zkj ⟨rfl,rfl,rfl,rfl⟩) pa_nil)) zd9 zsd) (z04 rfl))
 (z01 (z11 (i:=5) sc_go_while.nd rfl zk1 (z0g c_show hr (by omega) (z07 (z0i ix_tup (z00 (i:=0) rfl z53 z29 z2a) z03 (fun _ _=>rfl)) (z07 (z2g z2x (z00 (i:=1) rfl z52 z1h z1i) (z1a (z07 z03 pa_nil))) (z07 (z00 (i:=4) rfl z71 zuc zum) (z07 (z00 (i:=3) rfl z51 z2y z2z) pa_nil)))) zkf zmx) (z04 rfl))
 (z01 (z11 (i:=6) sc_go_while.nd rfl zk2 (z0g c_go_block hr (by omega) (z07 (z0i ix_tup (z00 (i:=0) rfl z53 z29 z2a) z03 (fun _ _=>rfl)) (z07 (z2g z2x (z00 (i:=1) rfl z52 z1h z1i) (z1a (z07 z03 pa_nil))) (z07 (z0g c_side_of hr (by omega) (z07 (z0i ix_tup (z00 (i:=0) rfl z53 z29 z2a) z03 (fun _ _=>rfl)) (z07 (z00 (i:=5) rfl zbt zjd zjh) (z07 (z00 (i:=4) rfl z71 zuc zum) (z07 zc8 pa_nil)))) z8i zdt) (z07 (z00 (i:=3) rfl z51 z2y z2z) pa_nil)))) zeg zbm) (z04 rfl))
 (z01 (zcx hr.units1 (zra (z00 (i:=3) rfl z51 z2y z2z) rfl) (z00 (i:=1) rfl z52 z1h z1i) (z0g c_joined_books hr (by omega) (z07 (z00 (i:=2) rfl za9 z1s z1t) (z07 (z00 (i:=6) rfl zjp q16 q1p) pa_nil)) zal zdg) (z04 rfl))
 (z05 (z08 (z0g c_side_of hr (by omega) (z07 (z0i ix_tup (z00 (i:=0) rfl z53 z29 z2a) z03 (fun _ _=>rfl)) (z07 (z00 (i:=5) rfl zbt zjd zjh) (z07 (z00 (i:=4) rfl z71 zuc zum) (z07 zc8 pa_nil)))) z8i zdt))))))),z0z fun N1 e1=>?_⟩
  walk_at "ry"
  obtain⟨⟨C,dx,hA,wA,e,c,nd,ne,⟨hk,e4,r4⟩,wk,e5,r5⟩,kvs,e6,r6⟩:=id hw
  have zr7:∀(ha:Addr) (H2:Hp),Fz H H2->IsBk H2 ha (z5b hds p bk)->N1 [some (V.ref pd),some pv,some (V.ref d),some (V.ref a),some (V.ref ha),none,none] H2:=by
   intro ha H2 f2 hh
   have sb2:SB nn H H2:=f2.sb
   have w2:=hw.fz f2
   generalize z5b hds p bk=hb' at g0 g1 hh q
   rw [e1]
   refine z0z fun N2 e2=>?_
   walk_at "ry"
   refine⟨_,SqT.of (sb2.kp.t _ _ hpd),_,rfl,zl 1 (by decide),fun p1 hp1=>?_⟩
   have s1:=z06 hp1 (HO.tup [.int 0])
   have f1:upd H2 p1 (HO.tup [.int 0]) p1=_:=z02
   generalize upd H2 p1 (HO.tup [.int 0])=U at s1 f1 |-
   refine q4i (q:=[0]) ((hp.kp sb2.kp).kp s1.kp) f1 (by simp; omega) fun r2 H3 s2 hr2=>?_
   have s12:=s1.trans s2
   have sb3:SB nn H H3:=sb2.trans (.of s12)
   refine⟨vt,r2,t,p++[0],ha,a,nn,hb',hds,st.1,st.2,rfl,d2.kp sb3.kp,ht,hr2,hh.same s12,w2.same s12,by omega,by simp; omega,fun r4' H4 s4 w4 dr4=>?_⟩
   have sb4:=sb3.trans s4
   have hh4:=s4.bk (hh.same s12)
   generalize shS hb' t (p++[0]) st.1=sh at g1 w4 dr4 q
   rw [e2]
   refine z0z fun N3 e3=>?_
   walk_at "ry"
   refine⟨_,SqT.of (sb4.kp.t _ _ hpd),_,rfl,zl 1 (by decide),fun p5 hp5=>?_⟩
   have s5:=z06 hp5 (HO.tup [.int 1])
   have f5:upd H4 p5 (HO.tup [.int 1]) p5=_:=z02
   generalize upd H4 p5 (HO.tup [.int 1])=U5 at s5 f5 |-
   refine q4i (q:=[1]) ((hp.kp sb4.kp).kp s5.kp) f5 (by simp; omega) fun r6' H6 s6 hr6=>?_
   have s56:=s5.trans s6
   have sb6:SB nn H H6:=sb4.trans (.of s56)
   refine⟨_,SqT.of (sb6.kp.t _ _ hpd),_,rfl,vt,r4',t,sh.1,ha,hb',true,rfl,d2.kp sb6.kp,hpq,dr4.kp s56.kp,hh4.same s56,by omega,fun r7 H7 s7 hr7=>?_⟩
   have sb7:=sb6.trans (.of s7)
   have gs1:∀bk',z45 bh t sh.1 hb' true=some bk'->bk'.length+szB b<=900:=fun bk' e=>by
    have:=zae hg e
    omega
   have g2:=zha (hd:=hds) hg b (p++[1]) 0 (z45 bh t sh.1 hb' true) (sh.2,st.2)
   refine⟨vb,r6',r7,b,p++[1],a,nn,_,hds,(sh.2,st.2),rfl,d4.kp sb7.kp,hb,hr6.kp s7.kp,hr7,(w4.same s56).same s7,by dsimp only at *; omega,gs1,by simp; omega,fun r8 H8 s8 w8 hr8=>?_⟩
   have sb8:=sb7.trans s8
   have hh8:=s8.bk ((hh4.same s56).same s7)
   have dr8:Dt H8 r4' (z6u sh.1):=((dr4.kp s56.kp).kp s7.kp).kp s8.kp
   have gs2:∀bk',(wkB bh hds b (p++[1]) 0 (z45 bh t sh.1 hb' true) (sh.2,st.2)).1=some bk'->bk'.length<=900:=fun bk' e=>by
    obtain⟨y,e2,l⟩:=g2.2 bk' e
    have:=gs1 y e2
    omega
   generalize wkB bh hds b (p++[1]) 0 (z45 bh t sh.1 hb' true) (sh.2,st.2)=wb at g2 gs2 w8 hr8 q
   rw [e3]
   refine z0z fun N4 e4'=>?_
   walk_at "ry"
   refine⟨.ref d,r8,some bk,wb.1,rfl,⟨d,rfl,sb8.bk hbk⟩,hr8,fun x e=>by cases e; omega,fun r9 H9 f9 hr9=>?_⟩
   obtain⟨dw,er9,hdw⟩:∃dw,r9=.ref dw/\IsBk H9 dw (zyc bk wb.1):=by
    rcases wb with⟨_ | eb,st'⟩
    ·exact hr9
    ·exact hr9
   subst er9
   have w9:=w8.fz f9
   have sb9:SB nn H H9:=sb8.trans f9.sb
   obtain⟨⟨C',dx',hA',wA',k1,k2,k3,k4,⟨hk',k5,k6⟩,wk',k7,k8⟩,kvs',k9,k10⟩:=w9
   obtain⟨pa9,epa9,hpa9⟩:=hp.kp sb9.kp
   subst epa9
   have lw:wk'.length<=900:=by
    have:=g2.1.2
    rw [k8.length]
    dsimp only at *
    omega
   refine⟨_,_,_,k1,k2,k3.2.2,_,zrp,_,rfl,_,DPut.t (k:=z81 p) k7 (by rw [z6f]; exact hpa9) (z10 (by omega)),?_⟩
   have sU:SB nn H9 (upd H9 wA' (.dT (zcj wk' (z81 p) (.ref dw)))):=fun b o hb=>by
    by_cases hn:b=wA'
    ·subst hn
     rw [k7] at hb
     cases hb
     exact .inr (.inr ⟨rfl,_,_,rfl,z02⟩)
    ·exact .inl (by rw [z0o hn]; exact hb)
   have u1:upd H9 wA' (.dT (zcj wk' (z81 p) (.ref dw))) wA'=_:=z02
   have u2:upd H9 wA' (.dT (zcj wk' (z81 p) (.ref dw))) hA'=_:=(z0o k4.2.2.symm).trans k5
   have u3:upd H9 wA' (.dT (zcj wk' (z81 p) (.ref dw))) nn=_:=(z0o k4.1).trans k9
   generalize upd H9 wA' (.dT (zcj wk' (z81 p) (.ref dw)))=U9 at sU u1 u2 u3 |-
   have wU:Wk K U9 a nn hds (wb.2.1,q22 wb.2.2 p (zyc bk wb.1)):=⟨⟨C',dx',hA',wA',sU.ins k1,k2,k3,k4,⟨hk',u2,k6.sb sU⟩,_,u1,(k8.sb sU).put p (sU.bk hdw)⟩,kvs',u3,k10.kp sU.kp⟩
   have sbU:=sb9.trans sU
   rw [e4']
   walk_at "ry"
   exact⟨_,SqT.of (sbU.kp.t _ _ hpd),_,rfl,vt,r4',t,sh.1,ha,hb',false,rfl,d2.kp sbU.kp,hpq,(dr8.kp f9.kp).kp sU.kp,sU.bk (f9.bk hh8),by omega,fun r10 H10 s10 hr10=>q _ _ (sbU.trans (.of s10)) (wU.same s10) hr10⟩
  subst epa
  refine⟨C,dx,_,e,c,nd.1,_,q04,hA,rfl,.inr ⟨hk,.inl e4⟩,fun pz hz=>?_⟩
  have s0:=z06 hz (HO.dK [])
  refine⟨_,DGet.t (k:=z81 p) (s0 _ _ e4) (by rw [z6f]; exact s0 _ _ hpa),?_⟩
  have fin:∀(do':Addr) (bo:Bk),IsBk (upd H pz (HO.dK [])) do' bo->(ze5 hds p).getD []=bo->qbg [V.ref d,V.ref do'] (upd H pz (HO.dK [])) (fun x H1=>N1 [some (V.ref pd),some (V.ref pa),some (V.ref d),some (V.ref a),some x,none,none] H1) E0:=by
   intro do' bo ho eo
   exact⟨d,do',bk,bo,rfl,hbk.same s0,ho,by omega,fun r H' f hr'=>zr7 r H' (Fz.trans (.of s0) f) (by unfold z5b; rw [eo]; exact hr')⟩
  rcases r4.look p with⟨z1,z2⟩ | ⟨b0,d0,z1,z2,hb0⟩
  ·rw [z2]
   exact fin pz [] ⟨[],.inl z02,.nil⟩ (by rw [z1]; rfl)
  ·rw [z2]
   exact fin d0 b0 (hb0.same s0) (by rw [z1]; rfl)
end
section
variable{P:Program}{w:World}{K:PySem.W.Frag}{mg:Str->Option Value}{base:Heap}{f:Addr}{fd:FuncData}
theorem zot{bh:Bh}{Pq:T->Prop}{n:Nat} (F:Fun K "go_deed" "go_deed" z3d f fd) (c_go_set:Callee P w K mg base "go_set" ["deed","path","book","walk"] 12 (q4w K bh 8 q9q)) (c_go_if:Callee P w K mg base "go_if" ["deed","path","book","walk"] (3 * n+13) (q4w K bh (2 * n+11) (qd5 Pq n)))
  (c_go_while:Callee P w K mg base "go_while" ["deed","path","book","walk"] (3 * n+13) (q4w K bh (2 * n+11) (qd4 Pq n))):FnOk P w K mg base CX0 (3 * n+14) f fd ["deed","path","book","walk"] (q4w K bh (2 * n+11) (qbw Pq n)):=by
 refine F.ok zww (fun vs H Q E h=>?_) (fun cdv A outer s H vs Q E hr h=>?_)
 ·obtain⟨dv,pv,dd,p,d,a,nn,bk,hds,st,rfl,_⟩:=h
  rfl
 obtain⟨dv,pv,dd,p,d,a,nn,bk,hds,st,rfl,hv,ht,hp,hbk,hw,hl,hlb,hpl,q⟩:=h
 refine⟨_,(z01 (z1k (z0d (gEq hr.units) (z0i ix_tup (z00 (i:=0) rfl z44 z29 z2a) z03 (fun _ _=>rfl)) z2s (z0f _)) (z05 (z08 (z0g c_go_set hr (by omega) (z07 (z00 (i:=0) rfl z44 z29 z2a) (z07 (z00 (i:=1) rfl z7p z1h z1i) (z07 (z00 (i:=2) rfl z7q z1s z1t) (z07 (z00 (i:=3) rfl z7o z2y z2z) pa_nil)))) zir q15))) z0e)
 (z01 (z1k (z0d (gEq hr.units) (z0i ix_tup (z00 (i:=0) rfl z44 z29 z2a) z03 (fun _ _=>rfl)) z2s (z0f _)) (z05 (z08 (z0g c_go_if hr (by omega) (z07 (z00 (i:=0) rfl z44 z29 z2a) (z07 (z00 (i:=1) rfl z7p z1h z1i) (z07 (z00 (i:=2) rfl z7q z1s z1t) (z07 (z00 (i:=3) rfl z7o z2y z2z) pa_nil)))) zkg q48))) z0e)
 (z05 (z08 (z0g c_go_while hr (by omega) (z07 (z00 (i:=0) rfl z44 z29 z2a) (z07 (z00 (i:=1) rfl z7p z1h z1i) (z07 (z00 (i:=2) rfl z7q z1s z1t) (z07 (z00 (i:=3) rfl z7o z2y z2z) pa_nil)))) zf6 zud))))),z0z fun N1 e1=>?_⟩
 match dd,ht,hv,hl,hlb,q with
 | .set x t,ht,hv,hl,hlb,q=>
  obtain⟨pd,xs,rfl,hpd,da⟩:=id hv.tupI
  rcases da with _ | ⟨d1,_ | ⟨d2,_ | ⟨d3,_ | _⟩⟩⟩
  cases d1
  walk_at "ry"
  refine⟨_,SqT.of hpd,_,rfl,_,.inl ⟨rfl,rfl⟩,?_⟩
  rw [if_pos (by decide+kernel)]
  exact⟨_,pv,.set x t,p,d,a,nn,bk,hds,st,rfl,hv,ht,hp,hbk,hw,hl,hlb,by omega,q⟩
 | .ite t b c,ht,hv,hl,hlb,q=>
  obtain⟨pd,xs,rfl,hpd,da⟩:=id hv.tupI
  rcases da with _ | ⟨d1,_ | ⟨d2,_ | ⟨d3,_ | ⟨d4,_ | _⟩⟩⟩⟩
  cases d1
  walk_at "ry"
  refine⟨_,SqT.of hpd,_,rfl,_,.inl ⟨rfl,rfl⟩,?_⟩
  rw [if_neg (by decide+kernel)]
  show N1 _ _
  rw [e1]
  walk_at "ry"
  refine⟨_,SqT.of hpd,_,rfl,_,.inl ⟨rfl,rfl⟩,?_⟩
  rw [if_pos (by decide+kernel)]
  exact⟨_,pv,.ite t b c,p,d,a,nn,bk,hds,st,rfl,hv,ht,hp,hbk,hw,hl,hlb,by omega,q⟩
 | .whl t m b,ht,hv,hl,hlb,q=>
  obtain⟨pd,xs,rfl,hpd,da⟩:=id hv.tupI
  rcases da with _ | ⟨d1,_ | ⟨d2,_ | ⟨d3,_ | ⟨d4,_ | _⟩⟩⟩⟩
  cases d1
  walk_at "ry"
  refine⟨_,SqT.of hpd,_,rfl,_,.inl ⟨rfl,rfl⟩,?_⟩
  rw [if_neg (by decide+kernel)]
  show N1 _ _
  rw [e1]
  refine z0z fun N2 e2=>?_
  walk_at "ry"
  refine⟨_,SqT.of hpd,_,rfl,_,.inl ⟨rfl,rfl⟩,?_⟩
  rw [if_neg (by decide+kernel)]
  show N2 _ _
  rw [e2]
  walk_at "ry"
  exact⟨_,pv,.whl t m b,p,d,a,nn,bk,hds,st,rfl,hv,ht,hp,hbk,hw,hl,hlb,by omega,q⟩
theorem zu5:∀{b:List D} {ds:List V} {H:Hp} {i:Nat} {x:V},DtA H ds (zko b)->ds[i]?=some x->∃d,b[i]?=some d/\Dt H x d.enc
 | [],ds,H,i,x,h,hx=>by
  rw [zko] at h
  cases h; cases hx
 | d::b,ds,H,i,x,h,hx=>by
  rw [zko] at h
  cases h with
  | cons h1 h2=>
   cases i with
   | zero=>
    rw [List.getElem?_cons_zero] at hx
    cases hx
    exact⟨d,rfl,h1⟩
   | succ i=>
    rw [List.getElem?_cons_succ] at hx |-
    exact zu5 h2 hx
theorem q6y{Pq:T->Prop}{n:Nat}{b:List D}(h:zvf Pq (n+1) b){d:D}(hd:d∈b):qbw Pq n d:=by
 have:=h d hd
 cases d<;>exact this
def BI(K:PySem.W.Frag)(bh:Bh)(H:Hp)(bv pv:V)(a nn:Addr)(b:List D)(p:Pth)(hd:Hds)(res:Option Bk×NW)(i:Nat)(σ':St)(H':Hp):Prop:=
 SB nn H H'/\∃(ov:V) (o:Option Bk) (st:NW),(∃t1 t2,σ'=[some bv,some pv,some ov,some (.ref a),t1,t2])/\zqn H' ov o/\Wk K H' a nn hd st/\wkB bh hd (b.drop i) p i o st=res/\(st.1.length+szB (b.drop i)<=900/\st.2.length+szB (b.drop i)<=900)/\∀bk,o=some bk->bk.length+szB (b.drop i)<=900
theorem zm0{bh:Bh}{Pq:T->Prop}{n:Nat}(hg:zfl bh) (F:Fun K "go_block" "go_block" z1p f fd) (b_enumerate:mg "enumerate" = none) (c_go_deed:Callee P w K mg base "go_deed" ["deed","path","book","walk"] (3 * n+14) (q4w K bh (2 * n+11) (qbw Pq n))):FnOk P w K mg base CX0 (3 * (n+1)+12) f fd ["block","path","book","walk"] (zwm K bh Pq (n+1)):=by
 refine F.ok sc_go_block (fun vs H Q E h=>?_) (fun cdv A outer s H vs Q E hr h=>?_)
 ·obtain⟨bv,pv,ov,b,p,a,nn,o,hds,st,rfl,_⟩:=h
  rfl
 obtain⟨bv,pv,ov,b,p,a,nn,o,hds,st,rfl,hv,hok,hp,ho,hw,hl,hlb,hpl,q⟩:=h
 obtain⟨pb,xs,rfl,hpb,da⟩:=hv.tupI
 have hxl:xs.length=b.length:=by rw [da.length,zfa]
 refine⟨_,(z01 (zel PassesOwn.never rfl (zv9 zdb b_enumerate (z07 (z00 (i:=0) rfl zfy zw4 zw9) pa_nil)) (zls (n:=2) rfl (z23 (z19 (i:=4) sc_go_block.nd rfl zmc) (z23 (z19 (i:=5) sc_go_block.nd rfl zia) z9m)))
 (z01 (z1k (z0d zqr (z00 (i:=2) rfl z72 z1s z1t) z2m (z0f _)) (z05 (z08 z2m)) z0e)
 (z05 (z11 (i:=2) sc_go_block.nd rfl zib (z0g c_go_deed hr (by omega) (z07 (z00 (i:=5) rfl zhm z29 z2a) (z07 (z2g z2x (z00 (i:=1) rfl zhl z1h z1i) (z1a (z07 (z00 (i:=4) rfl zl2 qa1 qa9) pa_nil))) (z07 (z00 (i:=2) rfl z72 z1s z1t) (z07 (z00 (i:=3) rfl zhk z2y z2z) pa_nil)))) zf7 zxy) (z04 rfl)))))
 (z05 (z08 (z00 (i:=2) rfl z72 z1s z1t)))),?_⟩
 walk_at "ry"
 refine⟨⟨_,SqT.of hpb⟩,?_⟩
 refine zs0 (xs:=xs) (BI K bh H (.ref pb) pv a nn b p hds (wkB bh hds b p 0 o st)) ⟨.of (Same.refl _),ov,o,st,⟨_,_,rfl⟩,ho,hw,rfl,hl,hlb⟩ ?_ ?_ ?_
 ·rintro i σ' H' _ ⟨sb,_⟩
  exact SqT.of (sb.kp.t _ _ hpb)
 ·rintro i x σ' H' T hx ⟨sb,ov,o,st',⟨t1,t2,rfl⟩,ho,hw,hres,hl,hlb⟩ hT
  obtain⟨dd,hdd,_⟩:=zu5 da hx
  have s1:=z06 hT (HO.tup [V.int i,x])
  have e1:upd H' T (HO.tup [V.int i,x]) T=_:=z02
  generalize upd H' T (HO.tup [V.int i,x])=U at s1 e1 |-
  have sbU:SB nn H U:=sb.trans (.of s1)
  obtain⟨dd',hdd',dx⟩:=zu5 (DtA.kp sbU.kp da) hx
  rw [hdd] at hdd'
  cases hdd'
  have hmem:dd∈b:=List.mem_of_getElem? hdd
  have hil:i < b.length:=(List.getElem?_eq_some_iff.mp hdd).1
  have hdr:b.drop i=dd::b.drop (i+1):=by
   rw [List.drop_eq_getElem_cons hil]
   congr 1
   have:=(List.getElem?_eq_some_iff.mp hdd).2
   exact this
  rw [hdr] at hres hl hlb
  rw [szB] at hl hlb
  walk_at "ry"
  refine⟨_,SqT.of e1,rfl,_,_,rfl,_,_,rfl,rfl,?_⟩
  match o,ho,hres,hlb with
  | none,ho,hres,_=>
   cases ho
   walk_at "ry"
   rw [wkB] at hres
   rw [<- hres] at q
   exact q _ _ sbU (hw.same s1) rfl
  | some bk,⟨d,e,hbk⟩,hres,hlb=>
   cases e
   have hlb:=hlb bk rfl
   walk_at "ry"
   rw [wkB] at hres
   refine⟨zl 1 (by decide),fun p2 hp2=>?_⟩
   have s2:=z06 hp2 (HO.tup [.int i])
   have e2:upd U p2 (HO.tup [.int i]) p2=_:=z02
   generalize upd U p2 (HO.tup [.int i])=U2 at s2 e2 |-
   refine q4i (q:=[(i:Int)]) ((hp.kp sbU.kp).kp s2.kp) e2 (by simp; omega) fun r3 H3 s3 hr3=>?_
   have s13:=s1.trans (s2.trans s3)
   have sb3:SB nn H H3:=sb.trans (.of s13)
   have gl:=zy9 (hd:=hds) hg dd (p++[(i:Int)]) bk st'
   refine⟨x,r3,dd,p++[(i:Int)],d,a,nn,bk,hds,st',rfl,dx.kp (s2.trans s3).kp,q6y hok hmem,hr3,hbk.same s13,hw.same s13,by omega,by omega,by simp; omega,fun r4 H4 s4 w4 hr4=>?_⟩
   have gl1:=gl.1
   refine⟨sb3.trans s4,r4,_,_,⟨_,_,rfl⟩,hr4,w4,?_,by omega,fun bk' e=>by have:=gl.2 bk' e; omega⟩
   rw [<- hres]; rfl
 ·rintro σ' H' ⟨sb,ov,o,st',⟨t1,t2,rfl⟩,ho,hw,hres,hl,hlb⟩
  rw [hxl,List.drop_length,wkB] at hres
  walk_at "ry"
  rw [<- hres] at q
  exact q _ _ sb hw ho
end
section
variable{P:Program}{w:World}{K:PySem.W.Frag}{mg:Str->Option Value}{base:Heap}{f:Addr}{fd:FuncData}
def tyD:Dm->String
 | .non=>"NoneType" | .bl _=>"bool" | .int _=>"int" | .str _=>"str" | .tup _=>"tuple" | .lst=>"list"
theorem qaj{H:Hp}{v:V}{d:Dm}(h:Dt H v d):TyOf K H v (.type (tyD d)):=by
 cases h with
 | non=>exact .non
 | bl b=>exact .bl b
 | int i=>exact .int i
 | str x=>exact .str x
 | tup e _=>exact .tup e
 | lst e=>exact .lst e
def isT:Dm->Bool
 | .tup _=>true
 | _=>false
def isI:Dm->Bool
 | .int _=>true
 | .bl _=>true
 | _=>false
def isB:Dm->Bool
 | .bl _=>true
 | _=>false
def isS:Dm->Bool
 | .str _=>true
 | _=>false
theorem zih{H:Hp}{v:V}{d:Dm}(h:Dt H v d):∃t,TyOf K H v t/\PySem.W.kitOne K t (.type "tuple")=some (isT d):=⟨_,qaj h,by cases d<;>rfl⟩
theorem q5u{H:Hp}{v:V}{a b:Dm}(h:Dt H v (.tup [a,b])):∃p x y,v=.ref p/\H p=some (.tup [x,y])/\Dt H x a/\Dt H y b:=by
 obtain⟨p,xs,rfl,e,r⟩:=h.tupI
 rcases r with _ | ⟨r1,_ | ⟨r2,_ | _⟩⟩
 exact⟨p,_,_,rfl,e,r1,r2⟩
theorem q8h{H:Hp}{v:V}{a b c:Dm}(h:Dt H v (.tup [a,b,c])):∃p x y z,v=.ref p/\H p=some (.tup [x,y,z])/\Dt H x a/\Dt H y b/\Dt H z c:=by
 obtain⟨p,xs,rfl,e,r⟩:=h.tupI
 rcases r with _ | ⟨r1,_ | ⟨r2,_ | ⟨r3,_ | _⟩⟩⟩
 exact⟨p,_,_,_,rfl,e,r1,r2,r3⟩
theorem qak{H:Hp}{v:V}{a b c d:Dm}(h:Dt H v (.tup [a,b,c,d])):∃p x y z u,v=.ref p/\H p=some (.tup [x,y,z,u])/\Dt H x a/\Dt H y b/\Dt H z c/\Dt H u d:=by
 obtain⟨p,xs,rfl,e,r⟩:=h.tupI
 rcases r with _ | ⟨r1,_ | ⟨r2,_ | ⟨r3,_ | ⟨r4,_ | _⟩⟩⟩⟩
 exact⟨p,_,_,_,_,rfl,e,r1,r2,r3,r4⟩
theorem q3v{H:Hp}{v:V}{d:Dm}(h:Dt H v d):∃t,TyOf K H v t/\PySem.W.kitOne K t (.type "int")=some (isI d):=⟨_,qaj h,by cases d<;>rfl⟩
theorem zrw{H:Hp}{v:V}{d:Dm}(h:Dt H v d):∃t,TyOf K H v t/\PySem.W.kitOne K t (.type "bool")=some (isB d):=⟨_,qaj h,by cases d<;>rfl⟩
def zbc:Dm->Bool
 | .int _=>true
 | _=>false
def zj7(d:Dm)(lo hi:Int):Bool:=match d with
 | .int i=>decide (lo<=i) && decide (i<=hi)
 | _=>false
def zu0(d:Dm)(n:Int):Bool:=match d with
 | .tup ds=>decide ((ds.length:Int)=n)
 | _=>false
def qbj(g:Dm->Bool):Sp:=fun vs H Q _=>∃v d,vs=[v]/\Dt H v d/\∀H',Same H H'->Q (.bl (g d)) H'
theorem ztq(F:Fun K "is_whole" "is_whole" z3s f fd) (b_isinstance:mg "isinstance" = none) (b_int:mg "int" = none) (b_bool:mg "bool" = none):FnOk P w K mg base CX0 1 f fd ["thing"] (qbj zbc):=by
 refine F.ok zth (fun vs H Q E h=>?_) (fun cdv A outer s H vs Q E hr h=>?_)
 ·obtain⟨v,d,rfl,_⟩:=h
  rfl
 obtain⟨v,d,rfl,hd,q⟩:=h
 refine⟨_,(z05 (z08 (zem (z54 zxq z6s b_isinstance z58 (z07 (z00 (i:=0) rfl z92 z1z z20) (z07 (zhv (v:=V.ty "int") zmt b_int qac rfl q9g qa0) pa_nil)) z55 z56) (zj2 (q55 (z54 zxq z6s b_isinstance z58 (z07 (z00 (i:=0) rfl z92 z1z z20) (z07 (zhv (v:=V.ty "bool") zkd b_bool q7r rfl q70 q7j) pa_nil)) z55 z56)))))),?_⟩
 walk_at "rd"
 refine⟨_,_,⟨rfl,rfl⟩,_,q3v hd,?_⟩
 have q':=q H (Same.refl _)
 cases d with
 | int i=>exact⟨_,_,⟨rfl,rfl⟩,_,zrw hd,q'⟩
 | bl b=>exact⟨_,_,⟨rfl,rfl⟩,_,zrw hd,q'⟩
 | non=>exact q'
 | str x=>exact q'
 | tup ds=>exact q'
 | lst=>exact q'
def q4u:Sp:=fun vs H Q _=>∃v d lo hi,vs=[v,.int lo,.int hi]/\Dt H v d/\∀H',Same H H'->Q (.bl (zj7 d lo hi)) H'
theorem zk0(F:Fun K "is_whole_from" "is_whole_from" z18 f fd) (c_is_whole:Callee P w K mg base "is_whole" ["thing"] 1 (qbj zbc)):FnOk P w K mg base CX0 2 f fd ["thing","low","high"] q4u:=by
 refine F.ok zjv (fun vs H Q E h=>?_) (fun cdv A outer s H vs Q E hr h=>?_)
 ·obtain⟨v,d,lo,hi,rfl,_⟩:=h
  rfl
 obtain⟨v,d,lo,hi,rfl,hd,q⟩:=h
 refine⟨_,(z05 (z08 (zem (z0g c_is_whole hr (by omega) (z07 (z00 (i:=0) rfl z3z z1z z20) pa_nil) z9s zn4) (zem (z6e zzr (z00 (i:=1) rfl zcp zw3 zw8) (z00 (i:=0) rfl z3z z1z z20) (z0f _)) (zj2 (z6e zzr (z00 (i:=0) rfl z3z z1z z20) (z00 (i:=2) rfl zc7 zq7 zqg) (z0f _))))))),?_⟩
 walk_at "rd"
 refine⟨v,d,rfl,hd,fun H1 s1=>?_⟩
 have q':=q H1 s1
 cases hd with
 | int i=>
  walk_at "rd"
  simp only[zbc,if_true]
  replace q':Q (.bl (decide (lo<=i) && decide (i<=hi))) H1:=q'
  split
  ·rename_i hlo
   rw [decide_eq_true hlo,Bool.true_and] at q'
   exact q'
  ·rename_i hlo
   rw [decide_eq_false hlo,Bool.false_and] at q'
   exact q'
 | _=>exact⟨_,rfl,q'⟩
def ztc:Sp:=fun vs H Q _=>∃v d n,vs=[v,.int n]/\Dt H v d/\∀H',Same H H'->Q (.bl (zu0 d n)) H'
theorem znx(F:Fun K "is_tuple_of" "is_tuple_of" z1u f fd) (b_isinstance:mg "isinstance" = none) (b_len:mg "len" = none) (b_tuple:mg "tuple" = none):FnOk P w K mg base CX0 1 f fd ["thing","many"] ztc:=by
 refine F.ok znv (fun vs H Q E h=>?_) (fun cdv A outer s H vs Q E hr h=>?_)
 ·obtain⟨v,d,n,rfl,_⟩:=h
  rfl
 obtain⟨v,d,n,rfl,hd,q⟩:=h
 refine⟨_,(z05 (z08 (zem (z54 zxq z9t b_isinstance z58 (z07 (z00 (i:=0) rfl z7c z1z z20) (z07 (zhv (v:=V.ty "tuple") zef b_tuple zkt rfl zkl zkp) pa_nil)) z55 z56) (zj2 (z6e zre (z54 qc7 zgu b_len q1t (z07 (z00 (i:=0) rfl z7c z1z z20) pa_nil) zzz q13) (z00 (i:=1) rfl ze3 q7i q7o) (z0f _)))))),?_⟩
 walk_at "rd"
 refine⟨_,_,⟨rfl,rfl⟩,_,zih hd,?_⟩
 have q':=q H (Same.refl _)
 cases hd with
 | tup e r=>
  refine⟨_,qdh (SqT.of e),?_⟩
  rw [r.length]
  exact q'
 | _=>exact q'
mutual
def zcw:Dm->Prop
 | .str z=>z.length<=1000
 | .tup ds=>smallA ds/\ds.length<=1000
 | _=>True
def smallA:List Dm->Prop
 | []=>True
 | d::r=>zcw d/\smallA r
end
theorem smallA.get:∀{ds:List Dm} {i:Nat} {d:Dm},smallA ds->ds[i]?=some d->zcw d
 | [],_,_,_,e=>by simp at e
 | x::r,0,d,h,e=>by
  simp at e; subst e
  rw [smallA] at h
  exact h.1
 | x::r,i+1,d,h,e=>by
  rw [smallA] at h
  exact smallA.get h.2 (by simpa using e)
end
section
variable{P:Program}{w:World}{K:PySem.W.Frag}{mg:Str->Option Value}{base:Heap}{f:Addr}{fd:FuncData}
theorem q3u{H:Hp}{v:V}{d:Dm}(h:Dt H v d):∃t,TyOf K H v t/\PySem.W.kitOne K t (.type "str")=some (isS d):=⟨_,qaj h,by cases d<;>rfl⟩
def zpw:List Dm->List Int
 | .int i::r=>i::zpw r
 | _=>[]
theorem zkn:∀p:List Int,zpw (p.map Dm.int)=p
 | []=>rfl
 | i::p=>by rw [List.map_cons,zpw,zkn p]
def ltR:Dm->Dm->Bool
 | .tup (.str x::_),.tup (.str y::_)=>decide (x.cps.toList < y.cps.toList)
 | .tup (.tup p::_),.tup (.tup q::_)=>HT.zd2 (zpw p) (zpw q)
 | _,_=>false
def q20(ds:List Dm):List Bool:=List.zipWith ltR ds ds.tail
def zlp(R:Dm->Bool)(d:Dm):Bool:=match d with
 | .tup rows=>rows.all R && (q20 rows).all id
 | _=>false
inductive CmpD:Dm->Dm->Prop
 | txt {x y:Str} {r s:List Dm}:CmpD (.tup (.str x::r)) (.tup (.str y::s))
 | pth {p q:List Int} {r s:List Dm}:CmpD (.tup (pathD p::r)) (.tup (pathD q::s))
def q4p(R:Dm->Bool):Sp:=fun vs H Q _=>∃v d,vs=[v]/\Dt H v d/\zcw d/\∀H',Same H H'->Q (.bl (R d)) H'
def qe0(H:Hp)(R:Dm->Bool)(fi:Addr)(ds:List Dm)(i:Nat)(ys:List V)(σ':St)(H':Hp):Prop:=Same H H'/\(∃t,σ'=[t,some (.ref fi)])/\ys=((ds.take i).map R).map V.bl
def qdy(H:Hp)(ds:List Dm)(i:Nat)(ys:List V)(σ':St)(H':Hp):Prop:=Same H H'/\(∃t u,σ'=[t,u])/\ys=((q20 ds).take i).map V.bl
def zyv(P:Program)(w:World)(K:PySem.W.Frag)(mg:Str->Option Value)(base:Heap)(kk:Nat)(R:Dm->Bool):Sp:=fun vs H Q _=>∃v d fi,vs=[v,.ref fi]/\Dt H v d/\zcw d/\q8a P w K mg base kk fi (q4p R)/\(∀a b,R a=true->R b=true->CmpD a b)/\∀H',Same H H'->Q (.bl (zlp R d)) H'
theorem zrv{H:Hp}:∀{xs:List V} {p:List Int},DtA H xs (p.map Dm.int)->xs=p.map V.int
 | _,[],h=>by cases h; rfl
 | _,i::p,h=>by
  cases h with
  | cons d r=>cases d; rw [zrv r]; rfl
theorem zmu{H:Hp}{v:V}{p:List Int}(d:Dt H v (pathD p)):∃a,v=.ref a/\H a=some (.tup (p.map V.int)):=by
 obtain⟨a,xs,rfl,ha,da⟩:=d.tupI
 rw [zrv da] at ha
 exact⟨a,rfl,ha⟩
theorem q9k{H:Hp}{x y:V}{a b:Dm}(c:CmpD a b)(dx:Dt H x a)(dy:Dt H y b):∃p q xs ys v u,x=.ref p/\y=.ref q/\H p=some (.tup (v::xs))/\H q=some (.tup (u::ys))/\∀Q:VK,Q (.bl (ltR a b)) H->qau K v u H Q:=by
 cases c with
 | txt=>
  obtain⟨p,xs,rfl,hp,da⟩:=dx.tupI
  obtain⟨q,ys,rfl,hq,db⟩:=dy.tupI
  cases da with
  | cons d1 _=>
   cases db with
   | cons d2 _=>
    cases d1; cases d2
    exact⟨p,q,_,_,_,_,rfl,rfl,hp,hq,fun Q h=>.inl ⟨_,_,rfl,rfl,h⟩⟩
 | @pth p' q' r s=>
  obtain⟨p,xs,rfl,hp,da⟩:=dx.tupI
  obtain⟨q,ys,rfl,hq,db⟩:=dy.tupI
  cases da with
  | cons d1 _=>
   cases db with
   | cons d2 _=>
    obtain⟨a1,h1⟩:=zmu d1
    obtain⟨a2,h2⟩:=zmu d2
    exact⟨p,q,_,_,_,_,rfl,rfl,hp,hq,fun Q h=>.inr ⟨_,_,p',q',h1.1,h2.1,SqT.of h1.2,SqT.of h2.2,by
     have:ltR (.tup (pathD p'::r)) (.tup (pathD q'::s))=HT.zd2 p' q':=by
      show HT.zd2 (zpw (p'.map Dm.int)) (zpw (q'.map Dm.int))=_
      rw [zkn,zkn]
     rw [<- this]; exact h⟩⟩
theorem z97{kk:Nat}{R:Dm->Bool} (F:Fun K "are_rising_rows" "are_rising_rows" z0s f fd) (b_isinstance:mg "isinstance" = none) (b_tuple:mg "tuple" = none) (b_all:mg "all" = none) (b_zip:mg "zip" = none):FnOk P w K mg base CX0 (kk+1) f fd ["thing","is_row"] (zyv P w K mg base kk R):=by
 refine F.ok zg2 (fun vs H Q E h=>?_) (fun cdv A outer s H vs Q E hr h=>?_)
 ·obtain⟨v,d,fi,rfl,_⟩:=h
  rfl
 obtain⟨v,d,fi,rfl,hd,hz,hH,hc,q⟩:=h
 refine⟨_,(z01 (z1k (PW.pt (zhs (zg4 (z7e (z54 zxq z7v b_isinstance z58 (z07 (z00 (i:=0) rfl z2i z1z z20) (z07 (zhv (v:=V.ty "tuple") zao b_tuple zkt rfl zkl zkp) pa_nil)) z55 z56))) (zby (zg4 (z7e (z54 (zh8 rfl) z6t b_all zsy (z07 (z8c ["row","is_row"] [none,some 1] rfl (CompS.of (by rfl)) (zj1 (z00 (i:=0) rfl z2i z1z z20)) (fun _ _ _ _ _=>(z19 (i:=0) (show List.Nodup (["row","is_row"]:List Str) from by decide+kernel) rfl (Or.inl rfl))) (fun _ _ _ _ _=>z8b) (fun _ _ _ _ _=>(zzp (P:=P) (w:=w) (K:=K) (mg:=mg) (base:=base) (i:=1) (k:=kk) rfl rfl rfl rfl rfl rfl (by first | exact Or.inl rfl | exact Or.inr (Or.inl rfl) | exact Or.inr (Or.inr rfl)) hr (by omega) (z07 (z00 (i:=0) rfl (by first | exact Or.inl rfl | exact Or.inr (Or.inl rfl) | exact Or.inr (Or.inr rfl)) q9z qa8) pa_nil) q14 q1o))) pa_nil) zrk zsh)))))) (z05 (z08 zc8)) z0e)
 (z05 (z08 (z54 (zh8 rfl) z6t b_all zsy (z07 (z8c ["one","other"] [none,none] rfl (CompS.of (by rfl)) (q6k zch b_zip (z07 (z00 (i:=0) rfl z2i z1z z20) (z07 (zva zz4 (z00 (i:=0) rfl z2i z1z z20) (zzk z03) zzl) pa_nil))) (fun _ _ _ _ _=>(zpk (n:=2) (K:=K) rfl rfl (z23 (z19 (i:=0) (show List.Nodup (["one","other"]:List Str) from by decide+kernel) rfl (Or.inl rfl)) (z23 (z19 (i:=1) (show List.Nodup (["one","other"]:List Str) from by decide+kernel) rfl (Or.inl rfl)) z9m)))) (fun _ _ _ _ _=>z8b) (fun _ _ _ _ _=>(z6e (opK (r:=qau) (K:=K) (qdq hr.units0) rfl) (z0i (ixK (r:=zwz) (K:=K) ix_tup rfl) (z00 (i:=0) rfl (by first | exact Or.inl rfl | exact Or.inr (Or.inl rfl) | exact Or.inr (Or.inr rfl)) z1d z1e) z03 (fun _ _=>rfl)) (z0i (ixK (r:=zwz) (K:=K) ix_tup rfl) (z00 (i:=1) rfl (by first | exact Or.inl rfl | exact Or.inr (Or.inl rfl) | exact Or.inr (Or.inr rfl)) z0k z0l) z03 (fun _ _=>rfl)) (z0f _)))) pa_nil) zrk zsh)))),z0z fun N1 e1=>?_⟩
 walk_at "ry"
 refine⟨_,_,⟨rfl,rfl⟩,_,zih hd,?_⟩
 cases hd with
 | @tup pa xs ds e r=>
  simp only[isT,Bool.true_eq_false,if_false]
  have hzz:=hz
  rw [zcw] at hzz
  obtain⟨hdz,hlen⟩:=hzz
  have hxl:xs.length=ds.length:=r.length
  refine⟨_,rfl,⟨_,SqT.of e⟩,?_⟩
  refine zkr (K:=K) (a:=pa) (xs:=xs) (qe0 H R fi ds) ⟨Same.refl _,⟨none,rfl⟩,rfl⟩ (z10 (by omega)) ?_ ?_ ?_ ?_
  ·rintro i ys σ' H' ⟨_,_,rfl⟩
   rw [List.length_map,List.length_map,List.length_take]
   omega
  ·rintro i ys σ' H' _ ⟨s1,_,_⟩
   exact SqT.of (s1 _ _ e)
  ·rintro i ys v σ' H' hxi ⟨s1,⟨t,rfl⟩,rfl⟩
   obtain⟨d,hd',dd⟩:=r.get hxi
   walk_at "ry"
   refine⟨q4p R,hH,v,d,rfl,dd.kp s1.kp,hdz.get hd',fun H2 s2=>⟨s1.trans s2,⟨_,rfl⟩,?_⟩⟩
   rw [List.take_add_one,hd',List.map_append,List.map_append]
   rfl
  rintro ys σ' H1 ⟨s1,_,rfl⟩ pl hpl
  rw [hxl,List.take_length]
  have u1:=s1.trans (z06 hpl (HO.lst ((ds.map R).map V.bl)))
  have e2:upd H1 pl (HO.lst ((ds.map R).map V.bl)) pl=_:=z02
  generalize upd H1 pl (HO.lst ((ds.map R).map V.bl))=U1 at u1 e2 |-
  refine⟨_,rfl,ds.map R,SqL.of e2,?_⟩
  have hall:(ds.map R).all id=ds.all R:=by rw [List.all_map]; rfl
  have q0:∀H',Same H H'->Q (.bl (ds.all R && (q20 ds).all id)) H':=q
  rw [hall]
  cases ha:ds.all R with
  | false=>
   rw [if_pos rfl]
   rw [ha,Bool.false_and] at q0
   exact q0 _ u1
  | true=>
   rw [if_neg (by decide)]
   rw [ha,Bool.true_and] at q0
   have all:∀r∈ds,R r=true:=List.all_eq_true.mp ha
   show N1 _ _
   rw [e1]
   walk_at "ry"
   have zc:∀(H1:Hp) (b:Addr),Same H H1->H1 b=some (.tup xs.tail)->zfm (qai K pa b) (q7b K 2 (zq2 (zci 0) (zq2 (zci 1) q88))) q5v (tOp (qau K) (tOp (zwz K) (zuy 0) (tC (V.int 0))) (tOp (zwz K) (zuy 1) (tC (V.int 0)))) (fun x H1=>∃p,x=V.ref p/\∃x,SqL K H1 p (List.map V.bl x)/\Q (V.bl (x.all id)) H1) (subσ [none,none] [some (V.ref pa),some (V.ref fi)]) H1:=by
    intro H1 b s1 eb
    have zl1:(q20 ds).length=xs.tail.length:=by
     unfold q20
     rw [List.length_zipWith,List.length_tail,List.length_tail,hxl]
     omega
    refine q1i (xs:=xs) (ys:=xs.tail) (by simp) (qdy H1 ds) ⟨Same.refl _,⟨none,none,rfl⟩,rfl⟩ (z10 (by rw [List.length_tail]; omega)) ?_ ?_ ?_ ?_
    ·rintro i ys σ' H' ⟨_,_,rfl⟩
     rw [List.length_map,List.length_take]
     omega
    ·rintro i ys σ' H' _ ⟨s2,_,_⟩
     exact⟨SqT.of (s2 _ _ (s1 _ _ e)),SqT.of (s2 _ _ eb)⟩
    ·rintro i zs x y σ' H' T hx hy ⟨s2,⟨t,u,rfl⟩,rfl⟩ hT
     have hy':xs[i+1]?=some y:=by rw [List.getElem?_tail] at hy; exact hy
     obtain⟨d,hd',dd⟩:=r.get hx
     obtain⟨d2,hd2,dd2⟩:=r.get hy'
     have s3:=s1.trans (s2.trans (z06 hT (HO.tup [x,y])))
     obtain⟨p,p',xr,yr,v0,w0,rfl,rfl,hp,hp',hlt⟩:=q9k (K:=K) (hc d d2 (all d (List.mem_of_getElem? hd')) (all d2 (List.mem_of_getElem? hd2))) (dd.kp s3.kp) (dd2.kp s3.kp)
     walk_at "ry"
     refine⟨_,SqT.of z02,rfl,_,_,rfl,_,_,rfl,rfl,?_⟩
     walk_at "ry"
     refine⟨_,SqT.of hp,_,z7x (j:=0) rfl,_,SqT.of hp',_,z7x (j:=0) rfl,hlt _ ⟨s2.trans (z06 hT _),⟨_,_,rfl⟩,?_⟩⟩
     have ez:(q20 ds)[i]?=some (ltR d d2):=by
      unfold q20
      rw [List.getElem?_zipWith,hd',List.getElem?_tail,hd2]
      all_goals rfl
     rw [List.take_add_one,ez,List.map_append]
     rfl
    ·rintro zs σ' H' ⟨s2,_,rfl⟩ p hp
     rw [<- zl1,List.take_length]
     exact⟨_,rfl,q20 ds,SqL.of z02,q0 _ (s1.trans (s2.trans (z06 hp _)))⟩
   have e3:=u1 _ _ e
   refine⟨xs,SqT.of e3,?_⟩
   cases xs with
   | nil=>exact .inl ⟨⟨rfl,rfl⟩,_,_,⟨rfl,rfl⟩,⟨_,SqT.of e3⟩,⟨_,SqT.of e3⟩,zc _ _ u1 e3⟩
   | cons x0 xr=>
    refine .inr ⟨fun z=>?_,fun p hp=>?_⟩
    ·have:=z.1
     rw [show(some (1:Int))=some ((1:Nat):Int) from rfl,HT.zzc,List.length_cons] at this
     omega
    ·have ec:q1h (x0::xr) (some 1) none=xr:=by
      unfold q1h
      rw [show(some (1:Int))=some ((1:Nat):Int) from rfl,HT.zzc,HT.q2k,List.length_cons,show min 1 (xr.length+1)=1 by omega]
      all_goals simp
     rw [ec]
     have s3:=u1.trans (z06 hp (HO.tup xr))
     exact⟨_,_,⟨rfl,rfl⟩,⟨_,SqT.of (s3 _ _ e)⟩,⟨_,SqT.of z02⟩,zc _ _ s3 z02⟩
 | _=>exact q H (Same.refl _)
end
section
variable{P:Program}{w:World}{K:PySem.W.Frag}{mg:Str->Option Value}{base:Heap}{f:Addr}{fd:FuncData}
theorem z94{c:TT}{a b:TS}{D:Ends}{σ : St}{H:Hp}(h:∀Y Z:St->Hp->Prop,Y=a D->Z=b D->zt6 c (fun _=>Y) (fun _=>Z) D σ H):zt6 c a b D σ H:=h _ _ rfl rfl
def zu1(a b:Dm):Bool:=match a with
 | .int l=>zj7 b l 32767
 | _=>false
def z5s:Dm->Bool
 | .tup [.str _,a,b]=>zj7 a (-32768) 32767 && zu1 a b
 | _=>false
theorem zig{d:Dm}{lo hi:Int}(h:zj7 d lo hi=true):∃i,d=.int i/\lo<=i/\i<=hi:=by
 match d,h with
 | .int i,h=>
  have h:(decide (lo<=i) && decide (i<=hi))=true:=h
  rw [Bool.and_eq_true] at h
  exact⟨i,rfl,of_decide_eq_true h.1,of_decide_eq_true h.2⟩
theorem qdi{H:Hp}{xs:List V}{ds:List Dm}(h:DtA H xs ds)(l:((ds.length:Nat):Int)=3):∃x y z a b c,xs=[x,y,z]/\ds=[a,b,c]/\Dt H x a/\Dt H y b/\Dt H z c:=by
 have l:ds.length=3:=by omega
 rcases h with _ | ⟨h1,_ | ⟨h2,_ | ⟨h3,_ | ⟨_,_⟩⟩⟩⟩
 ·cases l
 ·cases l
 ·cases l
 ·exact⟨_,_,_,_,_,_,rfl,rfl,h1,h2,h3⟩
 ·cases l
theorem qdj{H:Hp}{xs:List V}{ds:List Dm}(h:DtA H xs ds)(l:((ds.length:Nat):Int)=2):∃x y a b,xs=[x,y]/\ds=[a,b]/\Dt H x a/\Dt H y b:=by
 have l:ds.length=2:=by omega
 rcases h with _ | ⟨h1,_ | ⟨h2,_ | ⟨_,_⟩⟩⟩
 ·cases l
 ·cases l
 ·exact⟨_,_,_,_,rfl,rfl,h1,h2⟩
 ·cases l
theorem qdf{d:Dm}(h:zu0 d 3=false):z5s d=false:=by
 cases d with
 | tup ds=>
  match ds,h with
  | [],_=>rfl
  | [a],_=>cases a<;>rfl
  | [a,_],_=>cases a<;>rfl
  | [_,_,_],h=>exact absurd h (by simp[zu0])
  | a::_::_::_::_,_=>cases a<;>rfl
 | _=>rfl
theorem zlx{rw:Addr} (F:Fun K "is_shelf_row" "is_shelf_row" z15 f fd) (b_isinstance:mg "isinstance" = none) (b_str:mg "str" = none) (g_WIDE:GC mg "WIDE" (.ref rw)) (hW:∀H,SqT K H rw [.int (-32768),.int 32767]) (c_is_tuple_of:Callee P w K mg base "is_tuple_of" ["thing","many"] 1 ztc) (c_is_whole_from:Callee P w K mg base "is_whole_from" ["thing","low","high"] 2 q4u):FnOk P w K mg base CX0 3 f fd ["thing"] (q4p z5s):=by
 refine F.ok zln (fun vs H Q E h=>?_) (fun cdv A outer s H vs Q E hr h=>?_)
 ·obtain⟨v,d,rfl,_⟩:=h
  rfl
 obtain⟨v,d,rfl,hd,hz,q⟩:=h
 refine⟨_,(z01 (z1k (PW.pt (zhs (zg4 (z7e (z0g c_is_tuple_of hr (by omega) (z07 (z00 (i:=0) rfl z2b z1z z20) (z07 z03 pa_nil)) z8g zeo))) (zby (zg4 (z7e (z54 zxq z8v b_isinstance z58 (z07 (z0i ix_tup (z00 (i:=0) rfl z2b z1z z20) z03 (fun _ _=>rfl)) (z07 (zhv (v:=V.ty "str") zf4 b_str qab rfl q9f q9y) pa_nil)) z55 z56)))))) (z05 (z08 zc8)) z0e)
 (z05 (z08 (zem (z0g c_is_whole_from hr (by omega) (z07 (z0i ix_tup (z00 (i:=0) rfl z2b z1z z20) z03 (fun _ _=>rfl)) (z07 (z0i ix_tup (zg6 g_WIDE z5c zfg) z03 (fun _ _=>rfl)) (z07 (z0i ix_tup (zg6 g_WIDE z5c zfg) z03 (fun _ _=>rfl)) pa_nil))) z47 zc2) (zj2 (z0g c_is_whole_from hr (by omega) (z07 (z0i ix_tup (z00 (i:=0) rfl z2b z1z z20) z03 (fun _ _=>rfl)) (z07 (z0i ix_tup (z00 (i:=0) rfl z2b z1z z20) z03 (fun _ _=>rfl)) (z07 (z0i ix_tup (zg6 g_WIDE z5c zfg) z03 (fun _ _=>rfl)) pa_nil))) z47 zc2)))))),z0z fun N1 e1=>z94 fun Y Z eY eZ=>?_⟩
 walk_at "ry"
 refine⟨v,d,3,rfl,hd,fun H1 s1=>?_⟩
 walk_at "ry"
 have no:z5s d=false->∀H',Same H H'->Y [some v] H':=fun z H' s'=>by
  rw [eY]
  walk_at "ry"
  rw [z] at q
  exact q _ s'
 cases h3:zu0 d 3 with
 | false=>rw [if_pos rfl]; exact no (qdf h3) _ s1
 | true=>
  rw [if_neg (by decide)]
  match d,h3,hd with
  | .tup ds,h3,hd=>
   have h3:((ds.length:Nat):Int)=3:=of_decide_eq_true h3
   obtain⟨pa,xs,rfl,hp,da⟩:=hd.tupI
   obtain⟨x,y,z,a,b,c,rfl,rfl,d1,d2,d3⟩:=qdi da h3
   refine⟨pa,rfl,_,SqT.of (s1 _ _ hp),_,z7x (j:=0) rfl,_,_,⟨rfl,rfl⟩,_,q3u (d1.kp s1.kp),?_⟩
   match a,d1 with
   | .str n,_=>
    rw [if_neg (show ¬ isS (.str n)=false from fun z=>nomatch z)]
    rw [eZ]
    show N1 _ _
    rw [e1]
    walk_at "ry"
    refine⟨_,SqT.of (s1 _ _ hp),_,z7x (j:=1) rfl,_,hW _,_,z7x (j:=0) rfl,_,hW _,_,z7x (j:=1) rfl,y,b,_,_,rfl,d2.kp s1.kp,fun H2 s2=>⟨_,rfl,?_⟩⟩
    have q:∀H',Same H H'->Q (.bl (zj7 b (-32768) 32767 && zu1 b c)) H':=q
    cases hb:zj7 b (-32768) 32767 with
    | false=>
     rw [if_neg (by decide)]
     rw [hb,Bool.false_and] at q
     exact q _ (s1.trans s2)
    | true=>
     rw [if_pos rfl]
     obtain⟨i,rfl,_,_⟩:=zig hb
     rw [hb,Bool.true_and] at q
     cases d2
     have s12:=s1.trans s2
     exact⟨_,SqT.of (s12 _ _ hp),_,z7x (j:=2) rfl,_,SqT.of (s12 _ _ hp),_,z7x (j:=1) rfl,_,hW _,_,z7x (j:=1) rfl,z,c,_,_,rfl,d3.kp s12.kp,fun H3 s3=>q _ (s12.trans s3)⟩
   | .non,_=>exact no rfl _ s1
   | .bl _,_=>exact no rfl _ s1
   | .int _,_=>exact no rfl _ s1
   | .tup _,_=>exact no rfl _ s1
   | .lst,_=>exact no rfl _ s1
def zru:Dm->Bool
 | .tup ds=>ds.all zbc
 | _=>false
def qe1(H:Hp)(ds:List Dm)(i:Nat)(ys:List V)(σ':St)(H':Hp):Prop:=Same H H'/\(∃t,σ'=[t])/\ys=((ds.take i).map zbc).map V.bl
theorem zxa(F:Fun K "is_path" "is_path" z4r f fd) (b_isinstance:mg "isinstance" = none) (b_tuple:mg "tuple" = none) (b_all:mg "all" = none) (c_is_whole:Callee P w K mg base "is_whole" ["thing"] 1 (qbj zbc)):FnOk P w K mg base CX0 2 f fd ["thing"] (q4p zru):=by
 refine F.ok zwu (fun vs H Q E h=>?_) (fun cdv A outer s H vs Q E hr h=>?_)
 ·obtain⟨v,d,rfl,_⟩:=h
  rfl
 obtain⟨v,d,rfl,hd,hz,q⟩:=h
 refine⟨_,(z05 (z08 (zem (z54 zxq zd7 b_isinstance z58 (z07 (z00 (i:=0) rfl za6 z1z z20) (z07 (zhv (v:=V.ty "tuple") zke b_tuple zkt rfl zkl zkp) pa_nil)) z55 z56) (zj2 (z54 (zh8 rfl) zoa b_all zsy (z07 (z8c ["number"] [none] rfl (CompS.of (by rfl)) (zj1 (z00 (i:=0) rfl za6 z1z z20)) (fun _ _ _ _ _=>(z19 (i:=0) (show List.Nodup (["number"]:List Str) from by decide+kernel) rfl (Or.inl rfl))) (fun _ _ _ _ _=>z8b) (fun _ _ _ _ _=>(z0g c_is_whole hr (by omega) (z07 (z00 (i:=0) rfl (by first | exact Or.inl rfl | exact Or.inr (Or.inl rfl) | exact Or.inr (Or.inr rfl)) zsc zsq) pa_nil) rfl zn4))) pa_nil) zrk zsh))))),?_⟩
 walk_at "ry"
 refine⟨_,_,⟨rfl,rfl⟩,_,zih hd,?_⟩
 cases hd with
 | @tup pa xs ds e r=>
  rw [if_pos (show isT (.tup ds)=true from rfl)]
  rw [zcw] at hz
  have hxl:xs.length=ds.length:=r.length
  refine⟨_,rfl,⟨_,SqT.of e⟩,?_⟩
  refine zkr (K:=K) (a:=pa) (xs:=xs) (qe1 H ds) ⟨Same.refl _,⟨none,rfl⟩,rfl⟩ (z10 (by omega)) ?_ ?_ ?_ ?_
  ·rintro i ys σ' H' ⟨_,_,rfl⟩
   rw [List.length_map,List.length_map,List.length_take]
   omega
  ·rintro i ys σ' H' _ ⟨s1,_,_⟩
   exact SqT.of (s1 _ _ e)
  ·rintro i ys v σ' H' hxi ⟨s1,⟨t,rfl⟩,rfl⟩
   obtain⟨d,hd',dd⟩:=r.get hxi
   walk_at "ry"
   refine⟨v,d,rfl,dd.kp s1.kp,fun H2 s2=>⟨s1.trans s2,⟨_,rfl⟩,?_⟩⟩
   rw [List.take_add_one,hd',List.map_append,List.map_append]
   rfl
  ·rintro ys σ' H1 ⟨s1,_,rfl⟩ pl hpl
   rw [hxl,List.take_length]
   refine⟨_,rfl,ds.map zbc,SqL.of z02,?_⟩
   rw [show(ds.map zbc).all id=zru (.tup ds) by rw [List.all_map]; rfl]
   exact q _ (s1.trans (z06 hpl _))
 | _=>exact q H (Same.refl _)
def z6q:Dm->Bool
 | .tup [a,b]=>zru a && zlp z5s b
 | _=>false
theorem qdg{d:Dm}(h:zu0 d 2=false):z6q d=false:=by
 cases d with
 | tup ds=>
  match ds,h with
  | [],_=>rfl
  | [_],_=>rfl
  | [_,_],h=>exact absurd h (by simp[zu0])
  | _::_::_::_,_=>rfl
 | _=>rfl
theorem q1l(a b:Dm)(ha:z5s a=true)(hb:z5s b=true):CmpD a b:=by
 have key:∀d,z5s d=true->∃x r,d=.tup (.str x::r):=by
  intro d h
  match d,h with
  | .tup [.str x,y,z],_=>exact⟨x,_,rfl⟩
 obtain⟨x,r,rfl⟩:=key a ha
 obtain⟨y,s,rfl⟩:=key b hb
 exact .txt
theorem q53:∀{ds:List Dm},ds.all zbc=true->∃p:List Int,ds=p.map Dm.int
 | [],_=>⟨[],rfl⟩
 | .int i::r,h=>by
  rw [List.all_cons,Bool.and_eq_true] at h
  obtain⟨p,e⟩:=q53 h.2
  exact⟨i::p,by rw [e]; rfl⟩
theorem q3t{d:Dm}(h:zru d=true):∃p,d=pathD p:=by
 match d,h with
 | .tup ds,h=>
  obtain⟨p,e⟩:=q53 h
  exact⟨p,by rw [e]; rfl⟩
theorem zmn{d:Dm}(h:z6q d=true):∃p b,d=.tup [pathD p,b]/\zlp z5s b=true:=by
 match d,h with
 | .tup [a,b],h=>
  have h:(zru a && zlp z5s b)=true:=h
  rw [Bool.and_eq_true] at h
  obtain⟨p,e⟩:=q3t h.1
  exact⟨p,b,by rw [e],h.2⟩
theorem q4e(a b:Dm)(ha:z6q a=true)(hb:z6q b=true):CmpD a b:=by
 obtain⟨p,r,rfl,_⟩:=zmn ha
 obtain⟨q,s,rfl,_⟩:=zmn hb
 exact .pth
theorem zly{fi:Addr} (F:Fun K "is_paper_row" "is_paper_row" z1c f fd) (g_is_shelf_row:GC mg "is_shelf_row" (.ref fi)) (hH:q8a P w K mg base 3 fi (q4p z5s)) (c_is_tuple_of:Callee P w K mg base "is_tuple_of" ["thing","many"] 1 ztc) (c_is_path:Callee P w K mg base "is_path" ["thing"] 2 (q4p zru))
  (c_are_rising_rows:Callee P w K mg base "are_rising_rows" ["thing","is_row"] 4 (zyv P w K mg base 3 z5s)):FnOk P w K mg base CX0 5 f fd ["thing"] (q4p z6q):=by
 refine F.ok zlo (fun vs H Q E h=>?_) (fun cdv A outer s H vs Q E hr h=>?_)
 ·obtain⟨v,d,rfl,_⟩:=h
  rfl
 obtain⟨v,d,rfl,hd,hz,q⟩:=h
 refine⟨_,(z05 (z08 (zem (z0g c_is_tuple_of hr (by omega) (z07 (z00 (i:=0) rfl z4e z1z z20) (z07 z03 pa_nil)) z8h zeo) (zem (z0g c_is_path hr (by omega) (z07 (z0i ix_tup (z00 (i:=0) rfl z4e z1z z20) z03 (fun _ _=>rfl)) pa_nil) zbi zxw) (zj2 (z0g c_are_rising_rows hr (by omega) (z07 (z0i ix_tup (z00 (i:=0) rfl z4e z1z z20) z03 (fun _ _=>rfl)) (z07 (zg6 g_is_shelf_row z85 zn5) pa_nil)) z75 z9b)))))),?_⟩
 walk_at "ry"
 refine⟨v,d,2,rfl,hd,fun H1 s1=>⟨_,rfl,?_⟩⟩
 cases h2:zu0 d 2 with
 | false=>
  rw [if_neg (by decide)]
  rw [qdg h2] at q
  exact q _ s1
 | true=>
  rw [if_pos rfl]
  match d,h2,hd,hz with
  | .tup ds,h2,hd,hz=>
   have h2:((ds.length:Nat):Int)=2:=of_decide_eq_true h2
   obtain⟨pa,xs,rfl,hp,da⟩:=hd.tupI
   obtain⟨x,y,a,b,rfl,rfl,d1,d2⟩:=qdj da h2
   rw [zcw,smallA,smallA] at hz
   have q:∀H',Same H H'->Q (.bl (zru a && zlp z5s b)) H':=q
   refine⟨pa,rfl,_,SqT.of (s1 _ _ hp),_,z7x (j:=0) rfl,x,a,rfl,d1.kp s1.kp,hz.1.1,fun H2 s2=>⟨_,rfl,?_⟩⟩
   have s12:=s1.trans s2
   cases ha:zru a with
   | false=>
    rw [if_neg (by decide)]
    rw [ha,Bool.false_and] at q
    exact q _ s12
   | true=>
    rw [if_pos rfl]
    rw [ha,Bool.true_and] at q
    exact⟨pa,rfl,_,SqT.of (s12 _ _ hp),_,z7x (j:=1) rfl,y,b,fi,rfl,d2.kp s12.kp,hz.1.2.1,hH,q1l,fun H3 s3=>q _ (s12.trans s3)⟩
end
section
variable{P:Program}{w:World}{K:PySem.W.Frag}{mg:Str->Option Value}{base:Heap}{f:Addr}{fd:FuncData}
theorem zj6{α : Type}{f : α->Dm}{H:Hp}{xs:List V}{b:List α}{i:Nat}{x:V}(h:DtA H xs (b.map f))(hx:xs[i]?=some x):∃d,b[i]?=some d/\Dt H x (f d):=by
 obtain⟨e,he,de⟩:=h.get hx
 rw [List.getElem?_map] at he
 cases hb:b[i]? with
 | none=>rw [hb] at he; cases he
 | some d=>
  rw [hb] at he
  have:f d=e:=by simpa using he
  subst this
  exact⟨d,rfl,de⟩
theorem z5j{α : Type}{l:List α}{i:Nat}{x : α}(h:l[i]?=some x):l.take (i+1)=l.take i++[x]:=by
 rw [List.take_add_one,h]; rfl
abbrev Rw:=Str×Int×Int
def zj0(r:Rw):Dm:=.tup [.str r.1,.int r.2.1,.int r.2.2]
def z9z(rows:List Rw):Bk:=rows.foldl (fun b r=>zcl b r.1 r.2) []
def zpc:Sp:=fun vs H Q _=>∃(v:V) (rows:List Rw),vs=[v]/\Dt H v (.tup (rows.map zj0))/\rows.length<=900/\∀(d:Addr) (H':Hp),Same H H'->IsBk H' d (z9z rows)->Q (.ref d) H'
theorem znl:∀(rows:List Rw) (b:Bk),(rows.foldl (fun b r=>zcl b r.1 r.2) b).length<=b.length+rows.length
 | [],b=>Nat.le_refl _
 | r::rs,b=>by
  have h1:=zdx b r.1 r.2
  have h2:=znl rs (zcl b r.1 r.2)
  rw [List.foldl_cons,List.length_cons]
  omega
def OI(H:Hp)(v:V)(db:Addr)(rows:List Rw)(i:Nat)(σ':St)(H':Hp):Prop:=
 Same H H'/\(∃t1 t2 t3,σ'=[some v,some (.ref db),t1,t2,t3])/\∃kv,H' db=some (.dK kv)/\BkR H' kv (z9z (rows.take i))
theorem zxc(F:Fun K "book_of" "book_of" z2r f fd):FnOk P w K mg base CX0 1 f fd ["shelf"] zpc:=by
 refine F.ok sc_book_of (fun vs H Q E h=>?_) (fun cdv A outer s H vs Q E hr h=>?_)
 ·obtain⟨v,rows,rfl,_⟩:=h
  rfl
 obtain⟨v,rows,rfl,hv,hl,q⟩:=h
 obtain⟨pv,xs,rfl,hpv,da⟩:=hv.tupI
 have hxl:xs.length=rows.length:=by rw [da.length,List.length_map]
 refine⟨_,(z01 (z11 (i:=1) sc_book_of.nd rfl zk5 zkj (z04 rfl))
 (z01 (zel PassesOwn.never rfl (zj1 (z00 (i:=0) rfl zhn zw2 zw7)) (zls (n:=3) rfl (z23 (z19 (i:=2) sc_book_of.nd rfl zk3) (z23 (z19 (i:=3) sc_book_of.nd rfl zmd) (z23 (z19 (i:=4) sc_book_of.nd rfl zk4) z9m))))
 (z05 (zcx hr.units1 (z00 (i:=1) rfl zbu z1s z1t) (z00 (i:=2) rfl zjq z8q z8r) (z1a (z07 (z00 (i:=3) rfl zl3 zw3 zw8) (z07 (z00 (i:=4) rfl zjr zq7 zqg) pa_nil))) (z04 rfl))))
 (z05 (z08 (z00 (i:=1) rfl zbu z1s z1t))))),?_⟩
 walk_at "ry"
 intro db hdb
 have s1:=z06 hdb (HO.dK [])
 have eb:upd H db (HO.dK []) db=_:=z02
 generalize upd H db (HO.dK [])=U at s1 eb |-
 refine⟨⟨_,SqT.of (s1 _ _ hpv)⟩,?_⟩
 refine zu4 (K:=K) (a:=pv) (xs:=xs) (OI H (.ref pv) db rows) ⟨s1,⟨_,_,_,rfl⟩,[],eb,.nil⟩ ?_ ?_ ?_
 ·rintro i σ' H' _ ⟨s2,_⟩
  exact SqT.of (s2 _ _ hpv)
 ·rintro i x σ' H' hx ⟨s2,⟨t1,t2,t3,rfl⟩,kv,hkv,rkv⟩
  obtain⟨r,hri,dr⟩:=zj6 da hx
  obtain⟨ra,ys,rfl,hra,dra⟩:=dr.tupI
  rcases dra with _ | ⟨u1,_ | ⟨u2,_ | ⟨u3,_ | _⟩⟩⟩
  cases u1; cases u2; cases u3
  have hil:i < rows.length:=(List.getElem?_eq_some_iff.mp hri).1
  walk_at "ry"
  refine⟨_,SqT.of (s2 _ _ hra),rfl,_,_,rfl,_,_,rfl,_,_,rfl,rfl,zl 2 (by decide),fun p3 hp3=>?_⟩
  have s3:=z06 hp3 (HO.tup [V.int r.2.1,V.int r.2.2])
  have e3:upd H' p3 (HO.tup [V.int r.2.1,V.int r.2.2]) p3=_:=z02
  generalize upd H' p3 (HO.tup [V.int r.2.1,V.int r.2.2])=U3 at s3 e3 |-
  have hbl:=znl (rows.take i) []
  rw [List.length_take,List.length_nil] at hbl
  refine⟨_,DPut.k (k:=.inr r.1) (s3 _ _ hkv) (by rw [rkv.length]; exact z10 (by unfold z9z; omega)),?_⟩
  have hkp:Kp U3 (upd U3 db (.dK (zcj kv (.inr r.1) (.ref p3)))):=zif (s3 _ _ hkv)
  refine⟨z96 (s2.trans s3) hdb,⟨_,_,_,rfl⟩,_,z02,?_⟩
  rw [z5j hri]
  show BkR _ _ (List.foldl _ _ _)
  rw [List.foldl_append]
  exact(rkv.kp (s3.kp.trans hkp)).put r.1 ((z8o e3).kp hkp)
 ·rintro σ' H' ⟨s2,⟨t1,t2,t3,rfl⟩,kv,hkv,rkv⟩
  rw [hxl,List.take_length] at rkv
  walk_at "ry"
  exact q db H' s2 ⟨kv,.inl hkv,rkv⟩
abbrev Ppr:=List (Pth×List Rw)
def zht(r:Pth×List Rw):Dm:=.tup [pathD r.1,.tup (r.2.map zj0)]
def z5t(pp:Ppr):Hds:=pp.foldl (fun l r=>q22 l r.1 (z9z r.2)) []
theorem zrx:∀(pp:Ppr) (l:Hds),(pp.foldl (fun l r=>q22 l r.1 (z9z r.2)) l).length<=l.length+pp.length
 | [],l=>Nat.le_refl _
 | r::rs,l=>by
  have h1:=zvp l r.1 (z9z r.2)
  have h2:=zrx rs (q22 l r.1 (z9z r.2))
  rw [List.foldl_cons,List.length_cons]
  omega
def zz0:Sp:=fun vs H Q _=>∃(v:V) (pp:Ppr),vs=[v]/\Dt H v (.tup (pp.map zht))/\pp.length<=900/\(∀r∈pp,r.2.length<=900)/\∀(d:Addr) (kvs:List (List Key×V)) (H':Hp),Same H H'->H d=none->H' d=some (.dT kvs)->HdR H' kvs (z5t pp)->Q (.ref d) H'
def HOI(H:Hp)(v:V)(db:Addr)(pp:Ppr)(i:Nat)(σ':St)(H':Hp):Prop:=
 Same H H'/\(∃t1 t2,σ'=[some v,some (.ref db),t1,t2])/\∃kv,H' db=some (.dT kv)/\HdR H' kv (z5t (pp.take i))
theorem zts(F:Fun K "heads_of" "heads_of" z2f f fd) (c_book_of:Callee P w K mg base "book_of" ["shelf"] 1 zpc):FnOk P w K mg base CX0 2 f fd ["paper"] zz0:=by
 refine F.ok sc_heads_of (fun vs H Q E h=>?_) (fun cdv A outer s H vs Q E hr h=>?_)
 ·obtain⟨v,pp,rfl,_⟩:=h
  rfl
 obtain⟨v,pp,rfl,hv,hl,hr2,q⟩:=h
 obtain⟨pv,xs,rfl,hpv,da⟩:=hv.tupI
 have hxl:xs.length=pp.length:=by rw [da.length,List.length_map]
 refine⟨_,(z01 (z11 (i:=1) sc_heads_of.nd rfl zgl zpl (z04 rfl))
 (z01 (zel PassesOwn.never rfl (zj1 (z00 (i:=0) rfl zfw zkq zks)) (zls (n:=2) rfl (z23 (z19 (i:=2) sc_heads_of.nd rfl zi8) (z23 (z19 (i:=3) sc_heads_of.nd rfl zgk) z9m)))
 (z05 (zcx hr.units1 (z00 (i:=1) rfl z93 z9a z9c) (z00 (i:=2) rfl zhj z1h z1i) (z0g c_book_of hr (by omega) (z07 (z00 (i:=3) rfl zfv zw2 zw7) pa_nil) zf5 zp1) (z04 rfl))))
 (z05 (z08 (z00 (i:=1) rfl z93 z9a z9c))))),z0z fun N1 e1=>?_⟩
 walk_at "ry"
 intro db hdb
 rw [e1]
 refine z0z fun N2 e2=>?_
 walk_at "ry"
 have s1:=z06 hdb (HO.dT [])
 have eb:upd H db (HO.dT []) db=_:=z02
 generalize upd H db (HO.dT [])=U at s1 eb |-
 refine⟨⟨_,SqT.of (s1 _ _ hpv)⟩,?_⟩
 refine zu4 (K:=K) (a:=pv) (xs:=xs) (HOI H (.ref pv) db pp) ⟨s1,⟨_,_,rfl⟩,[],eb,.nil⟩ ?_ ?_ ?_
 ·rintro i σ' H' _ ⟨s2,_⟩
  exact SqT.of (s2 _ _ hpv)
 ·rintro i x σ' H' hx ⟨s2,⟨t1,t2,rfl⟩,kv,hkv,rkv⟩
  obtain⟨r,hri,dr⟩:=zj6 da hx
  obtain⟨ra,ys,rfl,hra,dra⟩:=dr.tupI
  rcases dra with _ | ⟨u1,_ | ⟨u2,_ | _⟩⟩
  rename_i x1 x2
  have hil:i < pp.length:=(List.getElem?_eq_some_iff.mp hri).1
  obtain⟨pk,epk,hpk⟩:=zmu u1
  subst epk
  walk_at "ry"
  refine⟨_,SqT.of (s2 _ _ hra),rfl,_,_,rfl,_,_,rfl,rfl,x2,r.2,rfl,u2.kp s2.kp,hr2 r (List.mem_of_getElem? hri),fun bd H3 s3 hbd=>?_⟩
  have hbl:=zrx (pp.take i) []
  rw [List.length_take,List.length_nil] at hbl
  have hkv3:=s3 _ _ hkv
  refine⟨_,DPut.t (k:=z81 r.1) hkv3 (by rw [z6f]; exact s3 _ _ (s2 _ _ hpk)) (by rw [rkv.length]; exact z10 (by unfold z5t; omega)),?_⟩
  have sU:SB 0 H3 (upd H3 db (.dT (zcj kv (z81 r.1) (.ref bd)))):=fun b o hb=>by
   by_cases hn:b=db
   ·subst hn
    rw [hkv3] at hb
    cases hb
    exact .inr (.inr ⟨rfl,_,_,rfl,z02⟩)
   ·exact .inl (by rw [z0o hn]; exact hb)
  refine⟨z96 (s2.trans s3) hdb,⟨_,_,rfl⟩,_,z02,?_⟩
  rw [z5j hri]
  show HdR _ _ (List.foldl _ _ _)
  rw [List.foldl_append]
  exact((rkv.sb (n:=0) (.of s3)).sb sU).put r.1 (sU.bk hbd)
 ·rintro σ' H' ⟨s2,⟨t1,t2,rfl⟩,kv,hkv,rkv⟩
  rw [hxl,List.take_length] at rkv
  show N2 _ _
  rw [e2]
  walk_at "ry"
  exact q db kv H' s2 hdb hkv rkv
end
section
variable{P:Program}{w:World}{K:PySem.W.Frag}{mg:Str->Option Value}{base:Heap}{f:Addr}{fd:FuncData}
def Chg(o:HO):Prop:=(∃k,o=.dK k)\/(∃k,o=.dT k)\/(∃a k,o=.frz a (.dK k))\/(∃a k,o=.frz a (.dT k))\/∃c d f,o=.ins c d f
structure Keeps(H H':Hp):Prop where
 a:∀b o,¬ Chg o->H b=some o->H' b=some o
theorem q7m{xs:List V}:¬ Chg (.tup xs):=by rintro(⟨_,z⟩ | ⟨_,z⟩ | ⟨_,_,z⟩ | ⟨_,_,z⟩ | ⟨_,_,_,z⟩)<;>cases z
theorem q7n{xs:List V}:¬ Chg (.lst xs):=by rintro(⟨_,z⟩ | ⟨_,z⟩ | ⟨_,_,z⟩ | ⟨_,_,z⟩ | ⟨_,_,_,z⟩)<;>cases z
theorem Keeps.t{H H':Hp}(h:Keeps H H'):∀b xs,H b=some (.tup xs)->H' b=some (.tup xs):=fun b xs e=>h.a b _ q7m e
theorem Keeps.l{H H':Hp}(h:Keeps H H'):∀b xs,H b=some (.lst xs)->H' b=some (.lst xs):=fun b xs e=>h.a b _ q7n e
theorem Keeps.kp{H H':Hp}(h:Keeps H H'):Kp H H':=⟨h.t,fun b xs e=>⟨xs,h.l b xs e⟩⟩
theorem Keeps.trans{H H1 H2:Hp}(h:Keeps H H1)(k:Keeps H1 H2):Keeps H H2:=⟨fun b o c e=>k.a b o c (h.a b o c e)⟩
theorem Same.keeps{H H':Hp}(s:Same H H'):Keeps H H':=⟨fun b o _ e=>s b _ e⟩
theorem SB.keeps{n:Addr}{H H':Hp}(s:SB n H H'):Keeps H H':=⟨fun b o c h=>by
 rcases s b o h with h1 | ⟨ob,kvs,e | ⟨o2,e⟩,h1⟩ | ⟨_,k,k',e,h1⟩
 ·exact h1
 ·exact absurd (.inl ⟨_,e⟩) c
 ·exact absurd (.inr (.inr (.inl ⟨_,_,e⟩))) c
 ·exact absurd (.inr (.inl ⟨_,e⟩)) c⟩
theorem zrs{H:Hp}{x:Addr}{k:List (List Key×V)}{o:HO}(h:Rd H x (.dT k)):Keeps H (upd H x o):=
 ⟨fun b o c e=>by rw [z0o (fun z=>by rcases h with h | ⟨_,h⟩<;>(rw [z,h] at e; cases e); exact c (.inr (.inl ⟨_,rfl⟩)); exact c (.inr (.inr (.inr (.inl ⟨_,_,rfl⟩)))))]; exact e⟩
structure WkC(K:PySem.W.Frag)(C:Addr):Prop where
 c:Cls K C
 nh:NoAttr K C "heads"
 nn:NoAttr K C "notes"
 nw:NoAttr K C "wants"
abbrev wkF(hv:V)(n wn:Addr):List (Str×V):=[("heads",hv),("notes",.ref n),("wants",.ref wn)]
theorem q8x(hv:V)(n wn:Addr):zh9 ("wants" : Str) (V.ref wn) (zh9 ("notes" : Str) (V.ref n) (zh9 ("heads" : Str) hv []))=wkF hv n wn:=by
 rfl
def zyr(C:Addr):Sp:=fun vs H Q _=>∃(x dx:Addr) (hv:V),vs=[.ref x,hv]/\H x=some (.ins C dx [])/\∀(n wn:Addr) (H':Hp),(∀b o,b≠x->H b=some o->H' b=some o)->H' x=some (.ins C dx (wkF hv n wn))->H' n=some (.dT [])->H' wn=some (.dT [])->n≠wn->H n=none->H wn=none->Q .non H'
theorem zrj{C:Addr} (F:Fun K "__init__" "Walk.__init__" z4u f fd) (t:WkC K C):FnOk P w K mg base CX0 1 f fd ["self","heads"] (zyr C):=by
 refine F.ok zr3 (fun vs H Q E h=>?_) (fun cdv A outer s H vs Q E hr h=>?_)
 ·obtain⟨x,dx,hv,rfl,_⟩:=h
  rfl
 obtain⟨x,dx,hv,rfl,hx,q⟩:=h
 refine⟨_,(z01 (zzi (f:="heads") (z00 (i:=0) rfl z6a zu9 zul) (z00 (i:=1) rfl zet z9a z9c) (z04 rfl))
 (z01 (zzi (f:="notes") (z00 (i:=0) rfl z6a zu9 zul) zpl (z04 rfl))
 (z05 (zzi (f:="wants") (z00 (i:=0) rfl z6a zu9 zul) zpl (z04 rfl))))),?_⟩
 walk_at "ry"
 refine⟨_,_,_,hx,t.c,t.nh,by decide,fun n hn=>?_⟩
 have hx1:upd H x (.ins C dx (zh9 ("heads" : Str) hv [])) x=_:=z02
 have m1:∀b o,b≠x->H b=some o->(upd H x (.ins C dx (zh9 ("heads" : Str) hv []))) b=some o:=fun b o z e=>by rw [z0o z]; exact e
 generalize upd H x (.ins C dx (zh9 ("heads" : Str) hv []))=H1 at hx1 m1 hn |-
 have s2:=z06 hn (HO.dT [])
 have en:upd H1 n (HO.dT []) n=_:=z02
 have hx2:=s2 _ _ hx1
 generalize upd H1 n (HO.dT [])=H2 at s2 en hx2 |-
 refine⟨_,_,_,hx2,t.c,t.nn,(show 1 < 1000 from by decide),fun wn hwn=>?_⟩
 have nx:n≠x:=zrl en hx2 (by intro z; cases z)
 have hx3:upd H2 x (.ins C dx (zh9 ("notes" : Str) (.ref n) (zh9 ("heads" : Str) hv []))) x=_:=z02
 have m3:∀b o,b≠x->H2 b=some o->(upd H2 x (.ins C dx (zh9 ("notes" : Str) (.ref n) (zh9 ("heads" : Str) hv [])))) b=some o:=fun b o z e=>by rw [z0o z]; exact e
 generalize upd H2 x (.ins C dx (zh9 ("notes" : Str) (.ref n) (zh9 ("heads" : Str) hv [])))=H3 at hx3 m3 hwn |-
 have s4:=z06 hwn (HO.dT [])
 have ew:upd H3 wn (HO.dT []) wn=_:=z02
 have hx4:=s4 _ _ hx3
 generalize upd H3 wn (HO.dT [])=H4 at s4 ew hx4 |-
 refine⟨_,_,_,hx4,t.c,t.nw,(show 2 < 1000 from by decide),?_⟩
 have wx:wn≠x:=zrl ew hx4 (by intro z; cases z)
 rw [q8x]
 have en3:=m3 _ _ nx en
 refine q n wn _ (fun b o z e=>?_) z02 ?_ ?_ ?_ ?_ ?_
 ·rw [z0o z]
  exact s4 _ _ (m3 _ _ z (s2 _ _ (m1 _ _ z e)))
 ·rw [z0o nx]
  exact s4 _ _ en3
 ·rw [z0o wx]
  exact ew
 ·intro z
  subst z
  rw [en3] at hwn
  cases hwn
 ·cases hHn:H n with
  | none=>rfl
  | some o=>
   rw [m1 _ _ nx hHn] at hn
   cases hn
 ·cases hHn:H wn with
  | none=>rfl
  | some o=>
   rw [m3 _ _ wx (s2 _ _ (m1 _ _ wx hHn))] at hwn
   cases hwn
end
section
variable{P:Program}{w:World}{K:PySem.W.Frag}{mg:Str->Option Value}{base:Heap}{f:Addr}{fd:FuncData}
noncomputable def walkB (bh:Bh) (hd:Hds) (rows:List Rw) (b:List D):NW:=(wkB bh hd b [] 0 (some (z9z rows)) ([],[])).2
def z78(Pq:T->Prop)(n:Nat)(rows:List Rw)(b:List D):Prop:=zvf Pq n b/\rows.length+szB b<=900/\2 * n+10<=900
abbrev z9k(rows:List Rw)(b:List D):Dm:=.tup [.tup (rows.map zj0),.tup (zko b)]
def zv5(K:PySem.W.Frag)(Pq:T->Prop)(bh:Bh)(n:Nat)(C:Addr):Sp:=fun vs H Q _=>∃(gv:V) (hA:Addr) (hk:List (List Key×V)) (hds:Hds) (rows:List Rw) (b:List D),vs=[gv,.ref hA]/\Dt H gv (z9k rows b)/\H hA=some (.dT hk)/\HdR H hk hds/\z78 Pq n rows b/\
 ∀(a dx nn wA:Addr) (H':Hp),Keeps H H'->H' a=some (.ins C dx (wkF3 hA nn wA))->Wk K H' a nn hds (walkB bh hds rows b)->Q (.ref a) H'
theorem zzs{Pq:T->Prop}{bh:Bh}{n:Nat}{C:Addr} (F:Fun K "walked" "walked" z4j f fd) (m_Walk:mg "Walk" = some (.ref C)) (t:WkC K C) (c_Walk_init:CalleeI P w K mg base C ["self","heads"] 1 (zyr C)) (c_book_of:Callee P w K mg base "book_of" ["shelf"] 1 zpc)
  (c_go_block:Callee P w K mg base "go_block" ["block","path","book","walk"] (3 * n+12) (zwm K bh Pq n)):FnOk P w K mg base CX0 (3 * n+13) f fd ["program","heads"] (zv5 K Pq bh n C):=by
 refine F.ok sc_walked (fun vs H Q E h=>?_) (fun cdv A outer s H vs Q E hr h=>?_)
 ·obtain⟨gv,hA,hk,hds,rows,b,rfl,_⟩:=h
  rfl
 obtain⟨gv,hA,hk,hds,rows,b,rfl,hg,hhA,hhr,⟨hok,hsz,hn⟩,q⟩:=h
 obtain⟨pg,xs,rfl,hpg,da⟩:=hg.tupI
 rcases da with _ | ⟨d1,_ | ⟨d2,_ | _⟩⟩
 rename_i vr vb
 refine⟨_,(z01 (z11 (i:=2) sc_walked.nd rfl zm9 (qbs c_Walk_init hr (by omega) zo7 m_Walk (z07 (z00 (i:=1) rfl zjl z9a z9c) pa_nil) q7k) (z04 rfl))
 (z01 (zlr (z0g c_go_block hr (by omega) (z07 (z0i ix_tup (z00 (i:=0) rfl z8x z4a z4b) z03 (fun _ _=>rfl)) (z07 (z1a pa_nil) (z07 (z0g c_book_of hr (by omega) (z07 (z0i ix_tup (z00 (i:=0) rfl z8x z4a z4b) z03 (fun _ _=>rfl)) pa_nil) zil zp1) (z07 (z00 (i:=2) rfl zcn z2y z2z) pa_nil)))) zgp zbm) (z04 rfl))
 (z05 (z08 (z00 (i:=2) rfl zcn z2y z2z))))),?_⟩
 walk_at "ry"
 intro x dx hx hdx ndx
 have ex0:upd (upd H dx (HO.own x)) x (HO.ins C dx []) x=_:=z02
 have s0:Same H (upd (upd H dx (HO.own x)) x (HO.ins C dx [])):=fun b o e=>by
  rw [z0o (z2n e hx),z0o (z2n e hdx)]; exact e
 generalize upd (upd H dx (HO.own x)) x (HO.ins C dx [])=U at ex0 s0 |-
 refine⟨x,dx,_,rfl,ex0,fun nn wA H1 m1 hx1 hn1 hw1 hne hnn0 hwn0=>?_⟩
 refine⟨rfl,?_⟩
 have s1:Same H H1:=fun b o e=>m1 b o (z2n e hx) (s0 _ _ e)
 have n1:nn≠hA:=fun z=>by rw [z,s0 _ _ hhA] at hnn0; cases hnn0
 have n2:wA≠hA:=fun z=>by rw [z,s0 _ _ hhA] at hwn0; cases hwn0
 refine⟨_,SqT.of (s1 _ _ hpg),_,rfl,Nat.zero_le _,fun p2 hp2=>?_⟩
 have s2:=z06 hp2 (HO.tup [])
 have e2:upd H1 p2 (HO.tup []) p2=_:=z02
 generalize upd H1 p2 (HO.tup [])=U2 at s2 e2 |-
 have s12:=s1.trans s2
 refine⟨_,SqT.of (s12 _ _ hpg),_,rfl,vr,rows,rfl,d1.kp s12.kp,by omega,fun db H3 s3 hbk=>?_⟩
 have s13:=s12.trans s3
 have s23:=s2.trans s3
 have wk3:Wk K H3 x nn hds ([],[]):=⟨⟨C,dx,hA,wA,s23 _ _ hx1,t.c,⟨t.nh,t.nn,t.nw⟩,⟨hne,n1,n2⟩,⟨hk,s13 _ _ hhA,hhr.sb (n:=0) (.of s13)⟩,[],s23 _ _ hw1,.nil⟩,[],s23 _ _ hn1,.nil⟩
 have hbl:(z9z rows).length<=rows.length:=by
  have:=znl rows []
  rw [List.length_nil,Nat.zero_add] at this
  exact this
 refine⟨vb,_,_,b,[],x,nn,some (z9z rows),hds,([],[]),rfl,d2.kp s13.kp,hok,⟨p2,rfl,s3 _ _ e2⟩,⟨db,rfl,hbk⟩,wk3,by simp; omega,fun bk e=>by cases e; omega,by simp; omega,fun r H4 s4 w4 _=>?_⟩
 exact q x dx nn wA H4 ((Same.keeps s13).trans s4.keeps) (s4.ins (s23 _ _ hx1)) w4
end
section
variable{P:Program}{w:World}{K:PySem.W.Frag}{mg:Str->Option Value}{base:Heap}{f:Addr}{fd:FuncData}
abbrev leS(x y:Str):Prop:=x.cps.toList<=y.cps.toList
theorem zr6:∀(l:List Str) (p:Str),PyProof.Rows.risingS p l=true->(p::l).Pairwise leS
 | [],p,_=>List.pairwise_singleton _ _
 | x::l,p,h=>by
  rw [PyProof.Rows.risingS,Bool.and_eq_true] at h
  have ih:=zr6 l x h.2
  have h1:leS p x:=by
   have h2:=h.1
   rw [PyProof.Rows.ltCps_eq,Bool.not_eq_true',decide_eq_false_iff_not] at h2
   exact h2
  refine List.pairwise_cons.mpr ⟨fun y hy=>?_,ih⟩
  rcases List.mem_cons.mp hy with rfl | hy
  ·exact h1
  ·exact List.le_trans h1 ((List.pairwise_cons.mp ih).1 y hy)
theorem zom{l:List Str}(h:PyProof.Rows.sortedS l=true):l.Pairwise leS:=by
 cases l with
 | nil=>exact .nil
 | cons x l=>exact zr6 l x h
theorem q3q{x y:Str}(h1:leS x y)(h2:leS y x):x=y:=by
 have:=List.le_antisymm h1 h2
 obtain⟨⟨a⟩⟩:=x
 obtain⟨⟨b⟩⟩:=y
 have:a=b:=this
 rw [this]
theorem zwn{l m:List Str}(h1:PyProof.Rows.sortedS l=true)(h2:PyProof.Rows.sortedS m=true)(hp:l.Perm m):l=m:=
 List.Perm.eq_of_pairwise (le:=leS) (fun x y _ _ u v=>q3q u v) (zom h1) (zom h2) hp
theorem zvw:∀l m:List Str,eqL (l.map V.str) (m.map V.str)=decide (l=m)
 | [],[]=>rfl
 | [],_::_=>by simp[eqL,zsn,PyData.eqv,PyData.eqvAll]
 | _::_,[]=>by simp[eqL,zsn,PyData.eqv,PyData.eqvAll]
 | x::l,y::m=>by
  have ih:=zvw l m
  unfold eqL at ih |-
  simp only[List.map_cons,zsn,PyData.eqv,PyData.eqvAll] at ih |-
  rw [ih]
  by_cases e:x=y
  ·subst e
   simp
  ·simp[e]
open Classical in
noncomputable def withinB (b1 b2:Bk):Bool:=decide ((b1.map (·.1)).Perm (b2.map (·.1))) && b1.all fun q=>match look b1 q.1,look b2 q.1 with
 | some s,some t=>z2k (some s) (some t)
 | _,_=>false
theorem BkR.keys{H:Hp}{kvs:List (Key×V)}{bk:Bk}(h:BkR H kvs bk):kvs.map (·.1)=(bk.map (·.1)).map Sum.inr:=by
 unfold BkR at h
 induction h with
 | nil=>rfl
 | cons rr _ ih=>rw [List.map_cons,List.map_cons,List.map_cons,ih,rr.1]
end
section
variable{P:Program}{w:World}{K:PySem.W.Frag}{mg:Str->Option Value}{base:Heap}{f:Addr}{fd:FuncData}
def qcs:Sp:=fun vs H Q _=>∃(d1 d2:Addr) (b1 b2:Bk),vs=[.ref d1,.ref d2]/\IsBk H d1 b1/\IsBk H d2 b2/\(b1.length < 64/\b2.length < 64)/\(∀q∈b1,PyData.strOk q.1=true)/\(∀q∈b2,PyData.strOk q.1=true)/\∀(H':Hp),Fz H H'->Q (.bl (withinB b1 b2)) H'
def BWI(U:Hp)(d1 d2:Addr)(o:Obj)(kvs:List (Key×V))(b1 b2:Bk)(i:Nat)(ys:List V)(σ':St)(H':Hp):Prop:=Same U H'/\H' d1=some (.frz o (.dK kvs))/\(∃t,σ'=[t,some (.ref d1),some (.ref d2)])/\ys=((b1.take i).map fun q=>match look b1 q.1,look b2 q.1 with
 | some s,some t=>z2k (some s) (some t)
 | _,_=>false).map V.bl
theorem q9d{l:List Str}(h:∀x∈l,PyData.strOk x=true):(l.map V.str).all okV=true:=by
 rw [List.all_map,List.all_eq_true]
 exact fun x hx=>h x hx
theorem zhy(F:Fun K "is_book_within" "is_book_within" z14 f fd) (b_sorted:mg "sorted" = none) (b_all:mg "all" = none) (c_is_within:Callee P w K mg base "is_within" ["one","other"] 3 (zac K)):FnOk P w K mg base CX0 4 f fd ["one","other"] qcs:=by
 refine F.ok zhr (fun vs H Q E h=>?_) (fun cdv A outer s H vs Q E hr h=>?_)
 ·obtain⟨d1,d2,b1,b2,rfl,_⟩:=h
  rfl
 obtain⟨d1,d2,b1,b2,rfl,h1,h2,hl,ho1,ho2,q⟩:=h
 obtain⟨k1,r1,p1⟩:=id h1
 obtain⟨k2,r2,p2⟩:=id h2
 refine⟨_,(z01 (z1k (z0d (gNe hr.units) (z54 (zh7 rfl) z5v b_sorted zdn (z07 (z00 (i:=0) rfl z6o z1d z1e) pa_nil) zcy zde) (z54 (zh7 rfl) z5v b_sorted zdn (z07 (z00 (i:=1) rfl za8 z0k z0l) pa_nil) zcy zde) (z0f _)) (z05 (z08 zc8)) z0e)
 (z05 (z08 (z54 (zh8 rfl) zd8 b_all zsy (z07 (z8c ["name","one","other"] [none,some 0,some 1] rfl (CompS.of (by rfl)) (zpj (z00 (i:=0) rfl z6o z1d z1e)) (fun _ _ _ _ _=>(z19 (i:=0) (show List.Nodup (["name","one","other"]:List Str) from by decide+kernel) rfl (Or.inl rfl))) (fun _ _ _ _ _=>z8b) (fun _ _ _ _ _=>(z0g c_is_within hr (by omega) (z07 (z4f hr.units1 (z00 (i:=1) rfl (by first | exact Or.inl rfl | exact Or.inr (Or.inl rfl) | exact Or.inr (Or.inr rfl)) z1d z1e) (z00 (i:=0) rfl (by first | exact Or.inl rfl | exact Or.inr (Or.inl rfl) | exact Or.inr (Or.inr rfl)) z8q z8r) (fun _ _=>rfl)) (z07 (z4f hr.units1 (z00 (i:=2) rfl (by first | exact Or.inl rfl | exact Or.inr (Or.inl rfl) | exact Or.inr (Or.inr rfl)) z0k z0l) (z00 (i:=0) rfl (by first | exact Or.inl rfl | exact Or.inr (Or.inl rfl) | exact Or.inr (Or.inr rfl)) z8q z8r) (fun _ _=>rfl)) pa_nil)) rfl z5x))) pa_nil) zrk zsh)))),z0z fun N1 e1=>z94 fun Y Z eY eZ=>?_⟩
 walk_at "ry"
 refine⟨d1,k1,b1.map (·.1),rfl,r1,p1.keys,by rw [List.length_map]; exact hl.1,fun l1 m1 hl1 pm1 sm1=>?_⟩
 have s1:=z06 hl1 (HO.lst (m1.map V.str))
 have f1:upd H l1 (HO.lst (m1.map V.str)) l1=_:=z02
 generalize upd H l1 (HO.lst (m1.map V.str))=U1 at s1 f1 |-
 refine⟨d2,k2,b2.map (·.1),rfl,Rd.same r2 s1,p2.keys,by rw [List.length_map]; exact hl.2,fun l2 m2 hl2 pm2 sm2=>?_⟩
 have s2:=z06 hl2 (HO.lst (m2.map V.str))
 have f2:upd U1 l2 (HO.lst (m2.map V.str)) l2=_:=z02
 generalize upd U1 l2 (HO.lst (m2.map V.str))=U2 at s2 f2 |-
 have s12:=s1.trans s2
 have okk:∀{b:Bk} {m:List Str},(∀q∈b,PyData.strOk q.1=true)->m.Perm (b.map (·.1))->∀x∈m,PyData.strOk x=true:=fun ho pm x hx=>by
  obtain⟨q,hq,rfl⟩:=List.mem_map.mp (pm.mem_iff.mp hx)
  exact ho q hq
 refine⟨_,.inr ⟨l1,rfl,l2,rfl,_,SqL.of (s2 _ _ f1),_,SqL.of f2,q9d (okk ho1 pm1),q9d (okk ho2 pm2),rfl⟩,?_⟩
 rw [zvw]
 have hk:(m1=m2)↔(b1.map (·.1)).Perm (b2.map (·.1)):=⟨fun e=>pm1.symm.trans (e ▸ pm2),fun h=>zwn sm1 sm2 (pm1.trans (h.trans pm2.symm))⟩
 by_cases hm:m1=m2
 ·rw [decide_eq_true hm,if_neg (by decide)]
  have q:∀H',Fz H H'->Q (.bl (b1.all fun q=>match look b1 q.1,look b2 q.1 with | some s,some t=>z2k (some s) (some t) | _,_=>false)) H':=fun H' f=>by
   have:=q H' f
   unfold withinB at this
   rw [decide_eq_true (hk.mp hm),Bool.true_and] at this
   exact this
  rw [eZ]
  show N1 _ _
  rw [e1]
  walk_at "ry"
  obtain⟨kv,hd,rb⟩:=h1.same s12
  refine⟨kv,hd,fun o=>?_⟩
  have sF:Fz U2 (upd U2 d1 (.frz o (.dK kv))):=Fz.frz o hd
  have eF:upd U2 d1 (.frz o (.dK kv)) d1=_:=z02
  generalize upd U2 d1 (.frz o (.dK kv))=UF at sF eF |-
  have fz:Fz H UF:=Fz.trans (.of s12) sF
  rw [rb.key_at]
  refine zso (BWI UF d1 d2 o kv b1 b2) ⟨Same.refl _,eF,⟨_,rfl⟩,by rw [List.take_zero]; rfl⟩ (by rw [List.length_map]; exact z10 (by omega)) ?_ ?_ ?_ ?_
  ·rintro i ys σ' H' ⟨_,_,_,rfl⟩
   rw [List.length_map,List.length_map,List.length_take]
   omega
  ·rintro i ys σ' H' _ ⟨_,h,_⟩
   exact h
  ·rintro i ys v σ' H' hv ⟨sU,hf,⟨t,rfl⟩,rfl⟩
   rw [List.getElem?_map] at hv
   cases hq:b1[i]? with
   | none=>rw [hq] at hv; cases hv
   | some qq=>
    rw [hq] at hv
    have ev:V.str qq.1=v:=by simpa using hv
    subst ev
    have hmem:qq.1∈b1.map (·.1):=List.mem_map.mpr ⟨qq,List.mem_of_getElem? hq,rfl⟩
    have hmem2:=(hk.mp hm).mem_iff.mp hmem
    obtain⟨sx,hsx⟩:=zgb hmem
    obtain⟨sy,hsy⟩:=zgb hmem2
    have fU:Fz H H':=fz.trans (.of sU)
    obtain⟨g1,hg1,rg1⟩:=fU.bk h1
    obtain⟨g2,hg2,rg2⟩:=fU.bk h2
    rcases rg1.look qq.1 with⟨z,_⟩ | ⟨u1,v1,z1,z1v,dv1⟩
    ·rw [hsx] at z; cases z
    rcases rg2.look qq.1 with⟨z,_⟩ | ⟨u2,v2,z2,z2v,dv2⟩
    ·rw [hsy] at z; cases z
    have a1:=DGet.kr (k:=.inr qq.1) hg1
    have a2:=DGet.kr (k:=.inr qq.1) hg2
    rw [z1v] at a1
    rw [z2v] at a2
    walk_at "ry"
    refine⟨v1,a1,v2,a2,v1,v2,some u1,some u2,rfl,.of dv1,.of dv2,fun H2 s2'=>⟨sU.trans s2',s2' _ _ hf,⟨_,rfl⟩,?_⟩⟩
    rw [List.take_add_one,hq,List.map_append,List.map_append]
    simp only[Option.toList_some,List.map_cons,List.map_nil,z1,z2]
  ·rintro ys σ' H' ⟨sU,_,_,rfl⟩ pl hpl
   rw [List.length_map,List.take_length]
   refine⟨pl,rfl,_,SqL.of z02,?_⟩
   rw [List.all_map]
   exact q _ (fz.trans (.of (sU.trans (z06 hpl _))))
 ·rw [decide_eq_false hm,if_pos rfl]
  rw [eY]
  walk_at "ry"
  have:=q U2 (.of s12)
  unfold withinB at this
  rw [decide_eq_false (fun z=>hm (hk.mpr z)),Bool.false_and] at this
  exact this
end
def Fine(n:Nat)(d:Dm):Prop:=d.shut=true/\d.dat.canLay0=true/\d.dat.depth<=n
theorem Fine.mono{n m:Nat}{d:Dm}(h:Fine n d)(k:n<=m):Fine m d:=⟨h.1,h.2.1,Nat.le_trans h.2.2 k⟩
theorem q7c{n:Nat}:∀{ds:List Dm},(∀d∈ds,Fine n d)->zli ds=true/\PyData.canLayAll0 (zck ds)=true/\PyData.depthAll (zck ds)<=n
 | [],_=>⟨by simp[zli],by simp[zck,PyData.canLayAll0],by simp[zck,PyData.depthAll]⟩
 | d::ds,h=>by
  obtain⟨a,b,c⟩:=q7c (ds:=ds) fun e he=>h e (.tail _ he)
  obtain⟨x,y,z⟩:=h d (.head _)
  refine⟨by simp[zli,x,a],by simp[zck,PyData.canLayAll0,y,b],?_⟩
  simp only[zck,PyData.depthAll]
  omega
theorem zgv{n:Nat}{ds:List Dm}(h:∀d∈ds,Fine n d):Fine (n+1) (.tup ds):=by
 obtain⟨a,b,c⟩:=q7c h
 exact⟨by simpa [Dm.shut] using a,by simpa [Dm.dat,PyData.canLay0] using b,by simp only[Dm.dat,PyData.depth]; omega⟩
theorem zq3(n:Nat)(i:Int):Fine n (.int i):=⟨by simp[Dm.shut],by simp[Dm.dat,PyData.canLay0],by simp[Dm.dat,PyData.depth]⟩
theorem q40(n:Nat){x:Str}(h:PyData.strOk x=true):Fine n (.str x):=⟨by simpa [Dm.shut] using h,by simpa [Dm.dat,PyData.canLay0] using h,by simp[Dm.dat,PyData.depth]⟩
theorem Fine.eq{n:Nat}{d:Dm}(h:Fine n d)(k:n<=64):d.shut=true/\SeqAt.shaped d.dat=true:=⟨h.1,by
 unfold SeqAt.shaped
 rw [h.2.1,Bool.true_and,decide_eq_true_eq]
 exact Nat.le_trans h.2.2 k⟩
theorem q0s(p:List Int):Fine 1 (pathD p):=zgv fun d hd=>by
 obtain⟨i,_,rfl⟩:=List.mem_map.mp hd
 exact zq3 _ _
section
variable{P:Program}{w:World}{K:PySem.W.Frag}{mg:Str->Option Value}{base:Heap}{f:Addr}{fd:FuncData}
theorem zvv:∀p q:List Int,PyData.eqvAll (zck (p.map Dm.int)) (zck (q.map Dm.int))=decide (p=q)
 | [],[]=>by simp[zck,PyData.eqvAll]
 | [],_::_=>by simp[zck,PyData.eqvAll]
 | _::_,[]=>by simp[zck,PyData.eqvAll]
 | x::p,y::q=>by
  have ih:=zvv p q
  simp only[List.map_cons,zck,PyData.eqvAll,Dm.dat,PyData.eqv]
  rw [ih]
  by_cases e:x=y
  ·subst e; simp
  ·simp[e]
theorem zs6:∀p q:List Pth,PyData.eqvAll (zck (p.map pathD)) (zck (q.map pathD))=decide (p=q)
 | [],[]=>by simp[zck,PyData.eqvAll]
 | [],_::_=>by simp[zck,PyData.eqvAll]
 | _::_,[]=>by simp[zck,PyData.eqvAll]
 | x::p,y::q=>by
  have ih:=zs6 p q
  have h1:PyData.eqv (pathD x).dat (pathD y).dat=decide (x=y):=by
   show PyData.eqv (Dm.tup (x.map Dm.int)).dat (Dm.tup (y.map Dm.int)).dat=_
   simp only[Dm.dat,PyData.eqv]
   exact zvv x y
  simp only[List.map_cons,zck,PyData.eqvAll]
  rw [ih,h1]
  by_cases e:x=y
  ·subst e; simp
  ·simp[e]
theorem q39{l m:List Pth}(h1:l.Pairwise fun p q=>ltI p q=true)(h2:m.Pairwise fun p q=>ltI p q=true)(hp:l.Perm m):l=m:=
 List.Perm.eq_of_pairwise (le:=fun p q=>ltI p q=true) (fun x y _ _ u v=>absurd rfl (q59 (zm5 u v))) h1 h2 hp
open Classical in
noncomputable def heldB (ws hd:Hds):Bool:=decide ((ws.map (·.1)).Perm (hd.map (·.1))) && ws.all fun q=>match ze5 ws q.1,ze5 hd q.1 with
 | some a,some b=>withinB a b
 | _,_=>false
theorem HdR.keys{H:Hp}{kvs:List (List Key×V)}{l:Hds}(h:HdR H kvs l):kvs.map (·.1)=(l.map (·.1)).map (·.map Sum.inl):=by
 unfold HdR at h
 induction h with
 | nil=>rfl
 | cons rr _ ih=>rw [List.map_cons,List.map_cons,List.map_cons,ih,rr.1]; rfl
theorem zm8:∀{l:Hds} {p:Pth},p∈l.map (·.1)->∃b,ze5 l p=some b/\(p,b)∈l
 | [],_,h=>by cases h
 | q::r,p,h=>by
  rw [ze5]
  by_cases e:q.1=p
  ·exact⟨q.2,if_pos e,by rw [<- e]; exact List.mem_cons_self⟩
  ·rw [if_neg e]
   rw [List.map_cons,List.mem_cons] at h
   obtain⟨b,h1,h2⟩:=zm8 (h.resolve_left fun z=>e z.symm)
   exact⟨b,h1,List.mem_cons_of_mem _ h2⟩
theorem zaf{α β : Type}{R : α->β->Prop}:∀{l:List α} {m:List β} {i:Nat} {b : β},Paired R l m->m[i]?=some b->∃a,l[i]?=some a/\R a b
 | _,_,0,b,.cons r _,h=>by
  have h:some _=some b:=h
  cases h
  exact⟨_,rfl,r⟩
 | _,_,i+1,b,.cons _ t,h=>by
  obtain⟨a,e,r⟩:=zaf t (i:=i) (by simpa using h)
  exact⟨a,by simpa using e,r⟩
 | _,_,_,_,.nil,h=>by simp at h
theorem HdR.at_{H:Hp}:∀{kvs:List (List Key×V)} {l:Hds} {i:Nat} {kv:List Key×V},HdR H kvs l->kvs[i]?=some kv->∃q,l[i]?=some q/\kv.1=z81 q.1
 | _,_,0,kv,.cons r _,h=>by
  have h:some _=some kv:=h
  cases h
  exact⟨_,rfl,r.1⟩
 | _,_,i+1,kv,.cons _ t,h=>by
  obtain⟨q,e,r⟩:=HdR.at_ (i:=i) t (by simpa using h)
  exact⟨q,by simpa using e,r⟩
 | _,_,_,_,.nil,h=>by simp at h
theorem HdR.mono{H H':Hp}{kvs:List (List Key×V)}{l:Hds}(h:HdR H kvs l)(k:∀d b,IsBk H d b->IsBk H' d b):HdR H' kvs l:=Paired.mapP h fun _ _ ⟨e,d,e2,z⟩=>⟨e,d,e2,k d _ z⟩
structure HeldR(wA:Addr)(H H':Hp):Prop where
 st:∀c o,c≠wA->(∀k,o≠.dK k)->(∀a k,o≠.frz a (.dK k))->H c=some o->H' c=some o
 bk:∀d b,IsBk H d b->IsBk H' d b
 rd:∀k,Rd H wA (.dT k)->Rd H' wA (.dT k)
theorem HeldR.of{wA:Addr}{H H':Hp}(s:Same H H'):HeldR wA H H':=⟨fun c o _ _ _ e=>s c o e,fun d b h=>h.same s,fun k h=>Rd.same h s⟩
theorem HeldR.trans{wA:Addr}{H H1 H2:Hp}(a:HeldR wA H H1)(b:HeldR wA H1 H2):HeldR wA H H2:=⟨fun c o n1 n2 n3 e=>b.st c o n1 n2 n3 (a.st c o n1 n2 n3 e),fun d k h=>b.bk d k (a.bk d k h),fun k h=>b.rd k (a.rd k h)⟩
theorem HeldR.fz{wA:Addr}{H H':Hp}(s:Fz H H'):HeldR wA H H':=⟨fun c o _ n2 n3 e=>by
 rcases s c o e with h1 | ⟨_,_,z | ⟨_,z⟩,_⟩
 ·exact h1
 ·exact absurd z (n2 _)
 ·exact absurd z (n3 _ _),fun d b h=>s.bk h,fun k h=>by
 rcases h with h | ⟨o,h⟩
 ·exact .inl (s.dT h)
 ·rcases s _ _ h with h1 | ⟨_,_,e | ⟨_,e⟩,_⟩
  ·exact .inr ⟨o,h1⟩
  ·cases e
  ·cases e⟩
theorem HeldR.frz{wA:Addr}{H:Hp}{k:List (List Key×V)}(o:Obj)(h:Rd H wA (.dT k)):HeldR wA H (upd H wA (.frz o (.dT k))):=⟨fun c u n _ _ e=>by rw [z0o n]; exact e,fun d b hb=>by
 have nd:d≠wA:=fun z=>by
  obtain⟨kv,r,_⟩:=hb
  rw [z] at r
  rcases r with r | ⟨_,r⟩<;>rcases h with h | ⟨_,h⟩<;>(rw [r] at h; cases h)
 have kp:Kp H (upd H wA (.frz o (.dT k))):=(zrs (o:=.frz o (.dT k)) h).kp
 obtain⟨kv,r,p⟩:=hb
 exact⟨kv,Or.elim r (fun r=>.inl ((z0o nd).trans r)) (fun⟨o2,r⟩=>.inr ⟨o2,(z0o nd).trans r⟩),p.kp kp⟩,fun k2 h2=>by
 have:k2=k:=by rcases h with h | ⟨_,h⟩<;>rcases h2 with h2 | ⟨_,h2⟩<;>(rw [h] at h2; cases h2<;>rfl)
 exact .inr ⟨o,by rw [z02,this]⟩⟩
def zqp(l:Hds):Prop:=l.length<=60/\(∀q∈l,q.1≠[])/\∀q∈l,q.2.length < 64/\∀r∈q.2,PyData.strOk r.1=true
def q4t:Sp:=fun vs H Q _=>∃(wA hA:Addr) (wk hk:List (List Key×V)) (ws hd:Hds),vs=[.ref wA,.ref hA]/\Rd H wA (.dT wk)/\HdR H wk ws/\H hA=some (.dT hk)/\HdR H hk hd/\wA≠hA/\zqp ws/\zqp hd/\∀(H':Hp),HeldR wA H H'->Q (.bl (heldB ws hd)) H'
def qe3(U:Hp)(wA hA:Addr)(o:Obj)(wk:List (List Key×V))(ws hd:Hds)(i:Nat)(ys:List V)(σ':St)(H':Hp):Prop:=Fz U H'/\H' wA=some (.frz o (.dT wk))/\(∃t,σ'=[t,some (.ref wA),some (.ref hA)])/\ys=((ws.take i).map fun q=>match ze5 ws q.1,ze5 hd q.1 with
 | some a,some b=>withinB a b
 | _,_=>false).map V.bl
theorem zxb(F:Fun K "is_held" "is_held" z4s f fd) (b_sorted:mg "sorted" = none) (b_all:mg "all" = none) (c_is_book_within:Callee P w K mg base "is_book_within" ["one","other"] 4 qcs):FnOk P w K mg base CX0 5 f fd ["wants","heads"] q4t:=by
 refine F.ok zwv (fun vs H Q E h=>?_) (fun cdv A outer s H vs Q E hr h=>?_)
 ·obtain⟨wA,hA,wk,hk,ws,hd,rfl,_⟩:=h
  rfl
 obtain⟨wA,hA,wk,hk,ws,hd,rfl,hw,rw1,hh,rh1,hne,ow,oh,q⟩:=h
 refine⟨_,(z01 (z1k (z0d (qdt hr.units) (z54 (zbr rfl) zak b_sorted zdn (z07 (z00 (i:=0) rfl za7 zq4 zqe) pa_nil) zcy zde) (z54 (zbr rfl) zak b_sorted zdn (z07 (z00 (i:=1) rfl zhi z9a z9c) pa_nil) zcy zde) (z0f _)) (z05 (z08 zc8)) z0e)
 (z05 (z08 (z54 (zh8 rfl) zob b_all zsy (z07 (z8c ["path","wants","heads"] [none,some 0,some 1] rfl (CompS.of (by rfl)) (q33 (z00 (i:=0) rfl za7 zq4 zqe)) (fun _ _ _ _ _=>(z19 (i:=0) (show List.Nodup (["path","wants","heads"]:List Str) from by decide+kernel) rfl (Or.inl rfl))) (fun _ _ _ _ _=>z8b) (fun _ _ _ _ _=>(z0g c_is_book_within hr (by omega) (z07 (z4f hr.units1 (z00 (i:=1) rfl (by first | exact Or.inl rfl | exact Or.inr (Or.inl rfl) | exact Or.inr (Or.inr rfl)) zq4 zqe) (z00 (i:=0) rfl (by first | exact Or.inl rfl | exact Or.inr (Or.inl rfl) | exact Or.inr (Or.inr rfl)) z1h z1i) (fun _ _=>rfl)) (z07 (z4f hr.units1 (z00 (i:=2) rfl (by first | exact Or.inl rfl | exact Or.inr (Or.inl rfl) | exact Or.inr (Or.inr rfl)) z9a z9c) (z00 (i:=0) rfl (by first | exact Or.inl rfl | exact Or.inr (Or.inl rfl) | exact Or.inr (Or.inr rfl)) z1h z1i) (fun _ _=>rfl)) pa_nil)) rfl ziu))) pa_nil) zrk zsh)))),z0z fun N1 e1=>z94 fun Y Z eY eZ=>?_⟩
 walk_at "ry"
 refine⟨wA,wk,ws.map (·.1),rfl,hw,rw1.keys,(fun p hp=>by obtain⟨q,hq,rfl⟩:=List.mem_map.mp hp; exact ow.2.1 q hq),by rw [List.length_map]; exact ow.1,fun l1 v1 m1 hl1 pm1 sm1 dm1=>?_⟩
 have s1:=z06 hl1 (HO.lst v1)
 have f1:upd H l1 (HO.lst v1) l1=_:=z02
 generalize upd H l1 (HO.lst v1)=U1 at s1 f1 |-
 refine⟨hA,hk,hd.map (·.1),rfl,.inl (s1 _ _ hh),rh1.keys,(fun p hp=>by obtain⟨q,hq,rfl⟩:=List.mem_map.mp hp; exact oh.2.1 q hq),by rw [List.length_map]; exact oh.1,fun l2 v2 m2 hl2 pm2 sm2 dm2=>?_⟩
 have s2:=z06 hl2 (HO.lst v2)
 have f2:upd U1 l2 (HO.lst v2) l2=_:=z02
 generalize upd U1 l2 (HO.lst v2)=U2 at s2 f2 |-
 have s12:=s1.trans s2
 have fin:∀m:List Pth,zli (m.map pathD)=true/\SeqAt.shaped (.list (zck (m.map pathD)))=true:=fun m=>by
  obtain⟨a1,a2,a3⟩:=q7c (n:=1) (ds:=m.map pathD) fun d hd=>by obtain⟨p,_,rfl⟩:=List.mem_map.mp hd; exact q0s p
  refine⟨a1,?_⟩
  unfold SeqAt.shaped
  rw [Bool.and_eq_true,decide_eq_true_eq]
  exact⟨by simpa [PyData.canLay0] using a2,by simp only[PyData.depth]; omega⟩
 refine⟨decide (m1=m2),⟨l1,l2,_,_,_,_,rfl,rfl,SqL.of (s2 _ _ f1),SqL.of f2,(dm1.kp s12.kp),dm2.kp s2.kp,(fin m1).1,(fin m2).1,(fin m1).2,(fin m2).2,?_⟩,?_⟩
 ·rw [<- zs6]
  simp only[PyData.eqv]
 have hkk:(m1=m2)↔(ws.map (·.1)).Perm (hd.map (·.1)):=⟨fun e=>pm1.symm.trans (e ▸ pm2),fun h=>q39 sm1 sm2 (pm1.trans (h.trans pm2.symm))⟩
 by_cases hm:m1=m2
 ·rw [decide_eq_true hm,if_neg (by decide)]
  have q:∀H',HeldR wA H H'->Q (.bl (ws.all fun q=>match ze5 ws q.1,ze5 hd q.1 with | some a,some b=>withinB a b | _,_=>false)) H':=fun H' f=>by
   have:=q H' f
   unfold heldB at this
   rw [decide_eq_true (hkk.mp hm),Bool.true_and] at this
   exact this
  rw [eZ]
  show N1 _ _
  rw [e1]
  walk_at "ry"
  refine⟨wk,Rd.same hw s12,fun o as pr=>?_⟩
  have hF:=HeldR.frz o (Rd.same hw s12)
  have kF:Keeps U2 (upd U2 wA (.frz o (.dT wk))):=zrs (Rd.same hw s12)
  have eF:upd U2 wA (.frz o (.dT wk)) wA=_:=z02
  have ehF:upd U2 wA (.frz o (.dT wk)) hA=_:=(z0o hne.symm).trans (s12 _ _ hh)
  generalize upd U2 wA (.frz o (.dT wk))=UF at hF kF eF ehF |-
  have hrF:HeldR wA H UF:=(HeldR.of s12).trans hF
  have hal:as.length=ws.length:=by rw [<- rw1.length]; exact(Paired.length pr).symm
  refine zso (qe3 UF wA hA o wk ws hd) ⟨.of (Same.refl _),eF,⟨_,rfl⟩,by rw [List.take_zero]; rfl⟩ (by rw [List.length_map]; have:=ow.1; exact z10 (by omega)) ?_ ?_ ?_ ?_
  ·rintro i ys σ' H' ⟨_,_,_,rfl⟩
   rw [List.length_map,List.length_map,List.length_take]
   omega
  ·rintro i ys σ' H' _ ⟨_,h,_⟩
   exact h
  ·rintro i ys v σ' H' hv ⟨fU,hf,⟨t,rfl⟩,rfl⟩
   rw [List.getElem?_map] at hv
   cases ha:as[i]? with
   | none=>rw [ha] at hv; cases hv
   | some a=>
    rw [ha] at hv
    have ev:V.ref a=v:=by simpa using hv
    subst ev
    obtain⟨kv,hkv,ea⟩:=zaf pr ha
    obtain⟨qq,hqq,ekv⟩:=HdR.at_ rw1 hkv
    rw [ekv,z6f] at ea
    have hmem:qq.1∈ws.map (·.1):=List.mem_map.mpr ⟨qq,List.mem_of_getElem? hqq,rfl⟩
    have hmem2:=(hkk.mp hm).mem_iff.mp hmem
    have eaH:H' a=some (.tup (qq.1.map V.int)):=fU.kp.t _ _ (kF.t _ _ ea)
    have bkH:∀d b,IsBk H d b->IsBk H' d b:=fun d b h=>fU.bk (hrF.bk d b h)
    obtain⟨b1,hb1,hb1m⟩:=zm8 hmem
    obtain⟨b2,hb2,hb2m⟩:=zm8 hmem2
    rcases(rw1.mono bkH).look qq.1 with⟨z,_⟩ | ⟨c1,d1,z1,z1v,k1⟩
    ·rw [hb1] at z; cases z
    rcases(rh1.mono bkH).look qq.1 with⟨z,_⟩ | ⟨c2,d2,z2,z2v,k2⟩
    ·rw [hb2] at z; cases z
    rw [hb1] at z1; cases z1
    rw [hb2] at z2; cases z2
    have ehH:H' hA=some (.dT hk):=fU.dT ehF
    have g1:DGet H' wA (.ref a) (some (.ref d1)):=.inr ⟨wk,z81 qq.1,a,.inr ⟨o,hf⟩,rfl,by rw [z6f]; exact eaH,z1v.symm⟩
    have g2:DGet H' hA (.ref a) (some (.ref d2)):=.inr ⟨hk,z81 qq.1,a,.inl ehH,rfl,by rw [z6f]; exact eaH,z2v.symm⟩
    walk_at "ry"
    refine⟨_,g1,_,g2,d1,d2,b1,b2,rfl,k1,k2,⟨(ow.2.2 _ hb1m).1,(oh.2.2 _ hb2m).1⟩,(ow.2.2 _ hb1m).2,(oh.2.2 _ hb2m).2,fun H2 f2=>⟨fU.trans f2,?_,⟨_,rfl⟩,?_⟩⟩
    ·rcases f2 _ _ hf with h1 | ⟨_,_,e | ⟨_,e⟩,_⟩
     ·exact h1
     ·cases e
     ·cases e
    ·rw [List.take_add_one,hqq,List.map_append,List.map_append]
     simp only[Option.toList_some,List.map_cons,List.map_nil,hb1,hb2]
  ·rintro ys σ' H' ⟨fU,_,_,rfl⟩ pl hpl
   rw [List.length_map,hal,List.take_length]
   refine⟨pl,rfl,_,SqL.of z02,?_⟩
   rw [List.all_map]
   exact q _ (hrF.trans ((HeldR.fz fU).trans (.of (z06 hpl _))))
 ·rw [decide_eq_false hm,if_pos rfl]
  rw [eY]
  walk_at "ry"
  have:=q U2 (.of s12)
  unfold heldB at this
  rw [decide_eq_false (fun z=>hm (hkk.mpr z)),Bool.false_and] at this
  exact this
end
section
variable{P:Program}{w:World}{K:PySem.W.Frag}{mg:Str->Option Value}{base:Heap}{f:Addr}{fd:FuncData}
def qar:Dm->Rw
 | .tup [.str x,.int l,.int h]=>(x,l,h)
 | _=>("",0,0)
def qb2:Dm->Pth×List Rw
 | .tup [.tup p,.tup rs]=>(zpw p,rs.map qar)
 | _=>([],[])
def zdp:Dm->Ppr
 | .tup ds=>ds.map qb2
 | _=>[]
theorem q2h:∀{d:Dm},z5s d=true->d=zj0 (qar d)
 | .tup [.str x,a,b],h=>by
  have h:(zj7 a (-32768) 32767 && zu1 a b)=true:=h
  rw [Bool.and_eq_true] at h
  obtain⟨i,rfl,_,_⟩:=zig h.1
  obtain⟨j,rfl,_,_⟩:=zig (show zj7 b i 32767=true from h.2)
  rfl
theorem zix{α : Type}{g : α->α}:∀{l:List α},(∀x∈l,x=g x)->l=l.map g
 | [],_=>rfl
 | x::l,h=>by
  rw [List.map_cons,<- zix fun y hy=>h y (List.mem_cons_of_mem _ hy),<- h x List.mem_cons_self]
theorem q6i{d:Dm}(h:z6q d=true):d=zht (qb2 d):=by
 obtain⟨p,b,rfl,hb⟩:=zmn h
 match b,hb with
 | .tup rs,hb=>
  have hb:(rs.all z5s && (q20 rs).all id)=true:=hb
  rw [Bool.and_eq_true] at hb
  have hr:rs=(rs.map qar).map zj0:=by
   rw [List.map_map]
   exact zix fun x hx=>q2h (List.all_eq_true.mp hb.1 x hx)
  show Dm.tup [pathD p,.tup rs]=.tup [pathD (zpw (p.map Dm.int)),.tup ((rs.map qar).map zj0)]
  rw [zkn,<- hr]
theorem qbr{d:Dm}(h:zlp z6q d=true):d=.tup ((zdp d).map zht):=by
 match d,h with
 | .tup ds,h=>
  have h:(ds.all z6q && (q20 ds).all id)=true:=h
  rw [Bool.and_eq_true] at h
  have hr:ds=(ds.map qb2).map zht:=by
   rw [List.map_map]
   exact zix fun x hx=>q6i (List.all_eq_true.mp h.1 x hx)
  show Dm.tup ds=.tup ((ds.map qb2).map zht)
  rw [<- hr]
noncomputable def papB (bh:Bh) (rows:List Rw) (b:List D) (d:Dm):Bool:=zlp z6q d && heldB (walkB bh (z5t (zdp d)) rows b).2 (z5t (zdp d))
theorem HeldR.keeps{wA:Addr}{H H':Hp}{k:List (List Key×V)}(h:HeldR wA H H')(hw:H wA=some (.dT k)):Keeps H H':=⟨fun c o n e=>h.st c o (fun z=>by
 rw [z,hw] at e
 cases e
 exact n (.inr (.inl ⟨_,rfl⟩))) (fun k z=>n (.inl ⟨k,z⟩)) (fun a k z=>n (.inr (.inr (.inl ⟨a,k,z⟩)))) e⟩
def q66(K:PySem.W.Frag)(Pq:T->Prop)(bh:Bh)(n:Nat):Sp:=fun vs H Q _=>∃(gv v:V) (rows:List Rw) (b:List D) (d:Dm),vs=[gv,v]/\Dt H gv (z9k rows b)/\z78 Pq n rows b/\Dt H v d/\zcw d/\(zlp z6q d=true->zqp (z5t (zdp d))/\zqp (walkB bh (z5t (zdp d)) rows b).2/\(zdp d).length<=900/\∀r∈zdp d,r.2.length<=900)/\
 (papB bh rows b d=false->∀H',Keeps H H'->Q .non H')/\
 (papB bh rows b d=true->∀(a nn C dx hA wA:Addr) (kvs:List (List Key×V)) (H':Hp),Keeps H H'->H' a=some (.ins C dx (wkF3 hA nn wA))->Cls K C->NoAttr K C "notes"->H' nn=some (.dT kvs)->NtR H' kvs (walkB bh (z5t (zdp d)) rows b).1->Q (.ref a) H')
theorem zjx{Pq:T->Prop}{bh:Bh}{n:Nat}{C fi:Addr} (F:Fun K "walk_by_paper" "walk_by_paper" z0j f fd) (t:WkC K C) (g_is_paper_row:GC mg "is_paper_row" (.ref fi)) (hH:q8a P w K mg base 5 fi (q4p z6q)) (c_are_rising_rows:Callee P w K mg base "are_rising_rows" ["thing","is_row"] 6 (zyv P w K mg base 5 z6q)) (c_heads_of:Callee P w K mg base "heads_of" ["paper"] 2 zz0)
  (c_walked:Callee P w K mg base "walked" ["program","heads"] (3 * n+13) (zv5 K Pq bh n C)) (c_is_held:Callee P w K mg base "is_held" ["wants","heads"] 5 q4t):FnOk P w K mg base CX0 (3 * n+14) f fd ["program","thing"] (q66 K Pq bh n):=by
 refine F.ok sc_walk_by_paper (fun vs H Q E h=>?_) (fun cdv A outer s H vs Q E hr h=>?_)
 ·obtain⟨gv,v,rows,b,d,rfl,_⟩:=h
  rfl
 obtain⟨gv,v,rows,b,d,rfl,hg,hwk,hd,hz,hok,qn,qy⟩:=h
 refine⟨_,(z01 (z1k (zg4 (z7e (z0g c_are_rising_rows hr (by omega) (z07 (z00 (i:=1) rfl z60 z1z z20) (z07 (zg6 g_is_paper_row z7s zn6) pa_nil)) z6k z9b))) (z05 (z08 z2m)) z0e)
 (z01 (z11 (i:=2) sc_walk_by_paper.nd rfl zb6 (z0g c_heads_of hr (by omega) (z07 (z00 (i:=1) rfl z60 z1z z20) pa_nil) z9q zub) (z04 rfl))
 (z01 (z11 (i:=3) sc_walk_by_paper.nd rfl zc9 (z0g c_walked hr (by omega) (z07 (z00 (i:=0) rfl z9e z4a z4b) (z07 (z00 (i:=2) rfl z61 z9a z9c) pa_nil)) zbd q12) (z04 rfl))
 (z01 (z1k (zg4 (z7e (z0g c_is_held hr (by omega) (z07 (zra (z00 (i:=3) rfl z6n z2y z2z) rfl) (z07 (z00 (i:=2) rfl z61 z9a z9c) pa_nil)) zaj zxx))) (z05 (z08 z2m)) z0e)
 (z05 (z08 (z00 (i:=3) rfl z6n z2y z2z))))))),z0z fun N1 e1=>z94 fun Y Z eY eZ=>?_⟩
 walk_at "ry"
 refine⟨v,d,fi,rfl,hd,hz,hH,q4e,fun H1 s1=>⟨_,rfl,?_⟩⟩
 cases hR:zlp z6q d with
 | false=>
  rw [if_pos rfl,eY]
  walk_at "ry"
  exact qn (by unfold papB; rw [hR]; rfl) H1 (Same.keeps s1)
 | true=>
  rw [if_neg (by decide),eZ]
  show N1 _ _
  rw [e1]
  obtain⟨bo,bw,l1,l2⟩:=hok hR
  have hd':Dt H v (.tup ((zdp d).map zht)):=qbr hR ▸ hd
  have hP:papB bh rows b d=heldB (walkB bh (z5t (zdp d)) rows b).2 (z5t (zdp d)):=by unfold papB; rw [hR]; rfl
  rw [hP] at qn qy
  generalize hpp:zdp d=pp at *
  refine z0z fun N2 e2=>?_
  walk_at "ry"
  refine⟨v,pp,rfl,hd'.kp s1.kp,l1,l2,fun hA hk H2 s2 _ eA rA=>?_⟩
  have s12:=s1.trans s2
  rw [e2]
  refine z0z fun N3 e3=>?_
  walk_at "ry"
  refine⟨gv,hA,hk,z5t pp,rows,b,rfl,hg.kp s12.kp,eA,rA,hwk,fun a dx nn wA H3 k3 ea wk=>?_⟩
  obtain⟨⟨C',dx',hA',wA',e,c1,⟨d1,d2,d3⟩,⟨n1,n2,n3⟩,⟨hk',eh,rh⟩,wkv,ew,rw1⟩,kvs,en,rn⟩:=wk
  rw [ea] at e
  have ez:C=C'/\dx=dx'/\wkF3 hA nn wA=wkF3 hA' nn wA':=by injection e with e; injection e with x1 x2 x3; exact⟨x1,x2,x3⟩
  obtain⟨rfl,rfl,ez⟩:=ez
  have e5:hA=hA'/\wA=wA':=by simpa [wkF3] using ez
  obtain⟨rfl,rfl⟩:=e5
  rw [e3]
  refine z0z fun N4 e4=>z94 fun Y2 Z2 eY2 eZ2=>?_
  walk_at "ry"
  refine⟨_,_,_,ea,c1,d3,_,zrp,wA,hA,wkv,hk',_,_,rfl,.inl ew,rw1,eh,rh,n3,bw,bo,fun H4 h4=>?_⟩
  have kk:Keeps H H4:=(Same.keeps s12).trans (k3.trans (h4.keeps ew))
  refine⟨_,rfl,?_⟩
  cases hB:heldB (walkB bh (z5t pp) rows b).2 (z5t pp) with
  | false=>
   rw [if_pos rfl,eY2]
   walk_at "ry"
   exact qn hB H4 kk
  | true=>
   rw [if_neg (by decide),eZ2]
   show N4 _ _
   rw [e4]
   walk_at "ry"
   exact qy hB a nn C dx hA wA kvs H4 kk (h4.st _ _ (zrl ea ew (by intro z; cases z)) (fun _ z=>by cases z) (fun _ _ z=>by cases z) ea) c1 d2 (h4.st _ _ n1 (fun _ z=>by cases z) (fun _ _ z=>by cases z) en) (rn.kp (h4.keeps ew).kp)
end
section
variable{P:Program}{w:World}{K:PySem.W.Frag}{mg:Str->Option Value}{base:Heap}{f:Addr}{fd:FuncData}
def z43:Nts->Pth->S
 | [],_=>none
 | q::r,p=>if q.1=p then some q.2 else z43 r p
theorem NtR.look{H:Hp}{kvs:List (List Key×V)}{ns:Nts}(h:NtR H kvs ns)(p:Pth):(z43 ns p=none/\zns kvs (z81 p)=none)\/∃s v,z43 ns p=some s/\zns kvs (z81 p)=some v/\Dt H v (z6u (some s)):=by
 unfold NtR at h
 induction h with
 | nil=>exact .inl ⟨rfl,rfl⟩
 | cons rr _ ih=>
  rename_i a q _ _ _
  obtain⟨e,d⟩:=rr
  by_cases hx:q.1=p
  ·refine .inr ⟨q.2,a.2,?_,zay (by rw [e,hx]),d⟩
   rw [z43,if_pos hx]
  ·rw [zaz (by rw [e]; intro z; exact hx (zb5 z))]
   rw [z43,if_neg hx]
   exact ih
theorem NtR.keys{H:Hp}{kvs:List (List Key×V)}{ns:Nts}(h:NtR H kvs ns):kvs.map (·.1)=(ns.map (·.1)).map (·.map Sum.inl):=by
 unfold NtR at h
 induction h with
 | nil=>rfl
 | cons rr _ ih=>
  rw [List.map_cons,List.map_cons,List.map_cons,ih,rr.1]; rfl
theorem zgc:∀{ns:Nts} {p:Pth},p∈ns.map (·.1)->∃s,z43 ns p=some s
 | [],_,h=>by cases h
 | q::r,p,h=>by
  rw [z43]
  by_cases e:q.1=p
  ·exact⟨q.2,if_pos e⟩
  ·rw [if_neg e]
   rw [List.map_cons,List.mem_cons] at h
   exact zgc (h.resolve_left fun z=>e z.symm)
def zqo(bh:Bh)(rows:List Rw)(b:List D)(d:Dm):Prop:=zcw d/\(zlp z6q d=true->zqp (z5t (zdp d))/\zqp (walkB bh (z5t (zdp d)) rows b).2/\(zdp d).length<=900/\∀r∈zdp d,r.2.length<=900)
def zyz(Pq:T->Prop)(bh:Bh)(n:Nat):Sp:=fun vs H Q _=>∃(gv v:V) (rows:List Rw) (b:List D) (d:Dm),vs=[gv,v]/\Dt H gv (z9k rows b)/\z78 Pq n rows b/\Dt H v d/\zqo bh rows b d/\∀H',Keeps H H'->Q (.bl (papB bh rows b d)) H'
theorem ztr{Pq:T->Prop}{bh:Bh}{n:Nat} (F:Fun K "is_paper" "is_paper" z49 f fd) (c_walk_by_paper:Callee P w K mg base "walk_by_paper" ["program","thing"] (3 * n+14) (q66 K Pq bh n)):FnOk P w K mg base CX0 (3 * n+15) f fd ["program","thing"] (zyz Pq bh n):=by
 refine F.ok zti (fun vs H Q E h=>?_) (fun cdv A outer s H vs Q E hr h=>?_)
 ·obtain⟨gv,v,rows,b,d,rfl,_⟩:=h
  rfl
 obtain⟨gv,v,rows,b,d,rfl,hg,hwk,hd,⟨hz,hok⟩,q⟩:=h
 refine⟨_,(z05 (z08 (z6e q0q (z0g c_walk_by_paper hr (by omega) (z07 (z00 (i:=0) rfl ze4 z4a z4b) (z07 (z00 (i:=1) rfl zfu z1z z20) pa_nil)) z9u zc1) z2m (z0f _)))),?_⟩
 walk_at "ry"
 refine⟨gv,v,rows,b,d,rfl,hg,hwk,hd,hz,hok,fun hp H' k=>?_,fun hp a nn C dx hA wA kvs H' k e c1 c2 en rn=>?_⟩
 ·rw [hp] at q
  exact q H' k
 ·rw [hp] at q
  exact q H' k
def ztd(Pq:T->Prop)(bh:Bh)(n:Nat):Sp:=fun vs H Q _=>∃(gv v:V) (rows:List Rw) (b:List D) (d:Dm),vs=[gv,v]/\Dt H gv (z9k rows b)/\z78 Pq n rows b/\Dt H v d/\zqo bh rows b d/\papB bh rows b d=true/\∀(nn:Addr) (kvs:List (List Key×V)) (H':Hp),Keeps H H'->H' nn=some (.dT kvs)->NtR H' kvs (walkB bh (z5t (zdp d)) rows b).1->Q (.ref nn) H'
theorem ztp{Pq:T->Prop}{bh:Bh}{n:Nat} (F:Fun K "notes_by" "notes_by" z38 f fd) (c_walk_by_paper:Callee P w K mg base "walk_by_paper" ["program","thing"] (3 * n+14) (q66 K Pq bh n)):FnOk P w K mg base CX0 (3 * n+15) f fd ["program","paper"] (ztd Pq bh n):=by
 refine F.ok sc_notes_by (fun vs H Q E h=>?_) (fun cdv A outer s H vs Q E hr h=>?_)
 ·obtain⟨gv,v,rows,b,d,rfl,_⟩:=h
  rfl
 obtain⟨gv,v,rows,b,d,rfl,hg,hwk,hd,⟨hz,hok⟩,hp,q⟩:=h
 refine⟨_,(z01 (z11 (i:=2) sc_notes_by.nd rfl zi0 (z0g c_walk_by_paper hr (by omega) (z07 (z00 (i:=0) rfl ze0 z4a z4b) (z07 (z00 (i:=1) rfl zfr zkq zks) pa_nil)) z9r zc1) (z04 rfl))
 (z01 (z1k (z0d zqr (z00 (i:=2) rfl za2 z2y z2z) z2m (z0f _)) (z05 q30) z0e)
 (z05 (z08 (zra (z00 (i:=2) rfl za2 z2y z2z) rfl))))),?_⟩
 walk_at "ry"
 refine⟨gv,v,rows,b,d,rfl,hg,hwk,hd,hz,hok,fun z=>(by rw [hp] at z; cases z),fun _ a nn C dx hA wA kvs H' k e c1 c2 en rn=>?_⟩
 walk_at "ry"
 exact⟨_,_,_,e,c1,c2,_,zrq,q nn kvs H' k en rn⟩
def q8s(ns:Nts)(p:Pth):Dm:=match z43 ns p with
 | some s=>.tup [pathD p,.int s.1,.int s.2]
 | none=>.non
def zyt(Pq:T->Prop)(bh:Bh)(n:Nat):Sp:=fun vs H Q _=>∃(gv v:V) (rows:List Rw) (b:List D) (d:Dm),vs=[gv,v]/\Dt H gv (z9k rows b)/\z78 Pq n rows b/\Dt H v d/\zqo bh rows b d/\papB bh rows b d=true/\(∀q∈(walkB bh (z5t (zdp d)) rows b).1,q.1≠[])/\(walkB bh (z5t (zdp d)) rows b).1.length<=60/\
 ∀(l:Addr) (vs:List V) (ps:List Pth) (H':Hp),Keeps H H'->ps.Perm ((walkB bh (z5t (zdp d)) rows b).1.map (·.1))->ps.Pairwise (fun p q=>ltI p q=true)->H' l=some (.lst vs)->DtA H' vs (ps.map (q8s (walkB bh (z5t (zdp d)) rows b).1))->Q (.ref l) H'
def HI(U:Hp)(nn:Addr)(ns:Nts)(ps:List Pth)(i:Nat)(ys:List V)(σ':St)(H':Hp):Prop:=Same U H'/\(∃t,σ'=[t,some (.ref nn)])/\DtA H' ys ((ps.take i).map (q8s ns))/\i<=ps.length
theorem q3j{Pq:T->Prop}{bh:Bh}{n:Nat} (F:Fun K "shown" "shown" z73 f fd) (b_sorted:mg "sorted" = none) (c_notes_by:Callee P w K mg base "notes_by" ["program","paper"] (3 * n+15) (ztd Pq bh n)):FnOk P w K mg base CX0 (3 * n+16) f fd ["program","paper"] (zyt Pq bh n):=by
 refine F.ok sc_shown (fun vs H Q E h=>?_) (fun cdv A outer s H vs Q E hr h=>?_)
 ·obtain⟨gv,v,rows,b,d,rfl,_⟩:=h
  rfl
 obtain⟨gv,v0,rows,b,d0,rfl,hg,hwk,hd0,hin,hp0,hne,h60,q⟩:=h
 refine⟨_,(z01 (z11 (i:=2) sc_shown.nd rfl zma (z0g c_notes_by hr (by omega) (z07 (z00 (i:=0) rfl zhc z4a z4b) (z07 (z00 (i:=1) rfl zkw zkq zks) pa_nil)) ziq zmz) (z04 rfl))
 (z05 (z08 (z8c ["path","notes"] [none,some 2] rfl (CompS.of (by rfl)) (zhu (z54 (zbr rfl) zmr b_sorted zdn (z07 (z00 (i:=2) rfl zkx zdu zdw) pa_nil) zcy zde)) (fun _ _ _ _ _=>(z19 (i:=0) (show List.Nodup (["path","notes"]:List Str) from by decide+kernel) rfl (Or.inl rfl))) (fun _ _ _ _ _=>z8b) (fun _ _ _ _ _=>(z2g (opK (r:=zoq) (K:=K) z2x rfl) (z1a (z07 (z00 (i:=0) rfl (by first | exact Or.inl rfl | exact Or.inr (Or.inl rfl) | exact Or.inr (Or.inr rfl)) z1h z1i) pa_nil)) (z4f hr.units1 (z00 (i:=1) rfl (by first | exact Or.inl rfl | exact Or.inr (Or.inl rfl) | exact Or.inr (Or.inr rfl)) zdu zdw) (z00 (i:=0) rfl (by first | exact Or.inl rfl | exact Or.inr (Or.inl rfl) | exact Or.inr (Or.inr rfl)) z1h z1i) (fun _ _=>rfl)))))))),?_⟩
 walk_at "ry"
 refine⟨gv,v0,rows,b,d0,rfl,hg,hwk,hd0,hin,hp0,fun nn kvs H1 k1 e1 r1=>?_⟩
 generalize (walkB bh (z5t (zdp d0)) rows b).1=ns at hne h60 q r1
 refine⟨nn,kvs,ns.map (·.1),rfl,.inl e1,r1.keys,?_,by rw [List.length_map]; exact h60,fun l vs ps hl hpm hpw dvs=>?_⟩
 ·intro p hp
  obtain⟨z,hz,rfl⟩:=List.mem_map.mp hp
  exact hne z hz
 have s2:=z06 hl (HO.lst vs)
 have e2:upd H1 l (HO.lst vs) l=_:=z02
 generalize upd H1 l (HO.lst vs)=U at s2 e2 |-
 have hvl:vs.length=ps.length:=by rw [dvs.length,List.length_map]
 have hpl:ps.length<=60:=by rw [hpm.length_eq,List.length_map]; exact h60
 refine⟨l,rfl,⟨_,SqL.of e2⟩,?_⟩
 refine znb (K:=K) (a:=l) (xs:=vs) (HI U nn ns ps) ⟨Same.refl _,⟨_,rfl⟩,.nil,Nat.zero_le _⟩ (z10 (by omega)) ?_ ?_ ?_ ?_
 ·rintro i ys σ' H' ⟨_,_,d,hi⟩
  rw [d.length,List.length_map,List.length_take]
  omega
 ·rintro i ys σ' H' _ ⟨s3,_⟩
  exact SqL.of (s3 _ _ e2)
 ·rintro i ys x σ' H' hx ⟨s3,⟨t,rfl⟩,d,hi⟩
  obtain⟨p,hp,dp⟩:=zj6 dvs hx
  have hmem:p∈ns.map (·.1):=hpm.mem_iff.mp (List.mem_of_getElem? hp)
  obtain⟨sv,hsv⟩:=zgc hmem
  obtain⟨px,xs2,rfl,hpx,dpx⟩:=dp.tupI
  rw [z77 dpx] at hpx
  have s23:=s2.trans s3
  rcases(r1.kp s23.kp).look p with⟨z,_⟩ | ⟨sv',v,z1,z2,dv⟩
  ·rw [hsv] at z; cases z
  have g:=DGet.t (s23 _ _ e1) (k:=z81 p) (b:=px) (by rw [z6f]; exact s23 _ _ hpx)
  rw [z2] at g
  walk_at "ry"
  refine⟨zl 1 (by decide),fun p3 hp3=>?_⟩
  have s4:=z06 hp3 (HO.tup [V.ref px])
  have e4:upd H' p3 (HO.tup [V.ref px]) p3=_:=z02
  have g4:=DGet.t (s4 _ _ (s23 _ _ e1)) (k:=z81 p) (b:=px) (by rw [z6f]; exact s4 _ _ (s23 _ _ hpx))
  rw [z2] at g4
  generalize upd H' p3 (HO.tup [V.ref px])=U4 at s4 e4 g4 |-
  refine⟨v,g4,?_⟩
  obtain⟨pv,rfl,hpv⟩:=q7g (dv.kp s4.kp)
  refine⟨p3,pv,_,_,rfl,rfl,SqT.of e4,SqT.of hpv,zl 3 (by decide),fun z=>(by cases z),fun _ z=>(by cases z),fun _ _ p5 hp5=>?_⟩
  have s5:=z06 hp5 (HO.tup ([V.ref px]++[V.int sv'.1,V.int sv'.2]))
  have hil:i < ps.length:=(List.getElem?_eq_some_iff.mp hp).1
  refine⟨s3.trans (s4.trans s5),⟨_,rfl⟩,?_,hil⟩
  rw [z5j hp,List.map_append]
  refine DtA.append (DtA.kp (s4.trans s5).kp d) (.cons ?_ .nil)
  unfold q8s
  rw [z1]
  exact .tup z02 (.cons (dp.kp (s23.trans (s4.trans s5)).kp) (.cons (.int _) (.cons (.int _) .nil)))
 ·rintro ys σ' H' ⟨s3,_,d,hi⟩ pl hpl2
  rw [hvl,List.take_length] at d
  have s4:=z06 hpl2 (HO.lst ys)
  exact q pl ys ps _ (k1.trans (Same.keeps (s2.trans (s3.trans s4)))) hpm hpw z02 (DtA.kp s4.kp d)
end
section
variable{P:Program}{w:World}{K:PySem.W.Frag}{mg:Str->Option Value}{base:Heap}{f:Addr}{fd:FuncData}
def rlo(b:Int):Int:=if b=4 then -8 else if b=8 then -128 else -32768
def rhi(b:Int):Int:=if b=4 then 7 else if b=8 then 127 else 32767
def B3(b:Int):Prop:=b=4\/b=8\/b=16
structure Rooms(K:PySem.W.Frag)(mg:Str->Option Value)(r:Addr):Prop where
 g:GC mg "ROOMS" (.ref r)
 m:∃g,KMap K r g/\∀b,B3 b->∃t,g b=some (.ref t)/\∀H,SqT K H t [.int (rlo b),.int (rhi b)]
def zyw(K:PySem.W.Frag):Sp:=fun vs H Q _=>∃b,vs=[.int b]/\B3 b/\∀t,(∀H,SqT K H t [.int (rlo b),.int (rhi b)])->Q (.ref t) H
theorem zx8{r:Addr} (F:Fun K "room_of" "room_of" z6b f fd) (R:Rooms K mg r):FnOk P w K mg base CX0 1 f fd ["bits"] (zyw K):=by
 have g_ROOMS:=R.g
 refine F.ok zwt (fun vs H Q E h=>?_) (fun cdv A outer s H vs Q E hr h=>?_)
 ·obtain⟨b,rfl,_⟩:=h
  rfl
 obtain⟨b,rfl,hb,q⟩:=h
 refine⟨_,(z05 (z08 (q6m (zg6 g_ROOMS zk9 q4b) (z00 (i:=0) rfl zjo zuf zuo) (fun _ _=>rfl)))),?_⟩
 walk_at "ry"
 obtain⟨g,km,hg⟩:=R.m
 obtain⟨t,e,ht⟩:=hg b hb
 exact⟨_,V.ref t,_,km,e,rfl,q t ht⟩
def zdo(s:S):Int:=if z2k s (some (-8,7)) then 4 else if z2k s (some (-128,127)) then 8 else 16
def q4y(K:PySem.W.Frag):Sp:=fun vs H Q _=>∃x s,vs=[x]/\StK K H x s/\∀H',Same H H'->Q (.int (zdo s)) H'
def FbI(H0:Hp)(x:V)(s:S)(i:Nat)(σ : St)(Hc:Hp):Prop:=Same H0 Hc/\(∃t,σ = [some x,t])/\(1<=i->z2k s (some (-8,7))=false)/\(2<=i->z2k s (some (-128,127))=false)
theorem zny{bA:Addr} (F:Fun K "fewest_bits" "fewest_bits" z1g f fd) (g_BITS:GC mg "BITS" (.ref bA)) (hB:∀H,SqT K H bA [.int 4,.int 8,.int 16]) (c_is_within:Callee P w K mg base "is_within" ["one","other"] 3 (zac K)) (c_room_of:Callee P w K mg base "room_of" ["bits"] 1 (zyw K)):FnOk P w K mg base CX0 4 f fd ["stretch"] (q4y K):=by
 refine F.ok sc_fewest_bits (fun vs H Q E h=>?_) (fun cdv A outer s H vs Q E hr h=>?_)
 ·obtain⟨x,s,rfl,_⟩:=h
  rfl
 obtain⟨x,s,rfl,hx,q⟩:=h
 refine⟨_,(z01 (zel PassesOwn.never rfl (zj1 (zg6 g_BITS z8j q19)) (z19 (i:=1) sc_fewest_bits.nd rfl zea)
 (z05 (z1k (z7e (z0g c_is_within hr (by omega) (z07 (z00 (i:=0) rfl zav z5w z5z) (z07 (z0g c_room_of hr (by omega) (z07 (z00 (i:=1) rfl z7z zuf zuo) pa_nil) zcf zxt) pa_nil)) zan z5x)) (z05 (z08 (z00 (i:=1) rfl z7z zuf zuo))) z0e)))
 (z05 (z08 (z0i q9p (zg6 g_BITS z8j q19) (q8z q4l z03) (fun _ _=>rfl))))),z0z fun N1 e1=>?_⟩
 walk_at "ry"
 refine⟨⟨_,hB H⟩,zu4 (xs:=[.int 4,.int 8,.int 16]) (FbI H x s) ⟨Same.refl _,⟨_,rfl⟩,fun z=>absurd z (by decide),fun z=>absurd z (by decide)⟩ (fun _ _ H' _ _=>hB H') ?_ ?_⟩
 ·rintro i y σ Hc hy ⟨sc,⟨t,rfl⟩,k1,k2⟩
  have step:∀b:Int,y=.int b->B3 b->(z2k s (some (rlo b,rhi b))=true->zdo s=b)->(z2k s (some (rlo b,rhi b))=false->(1<=i+1->z2k s (some (-8,7))=false)/\(2<=i+1->z2k s (some (-128,127))=false))->zci 1 y [some x,t] Hc fun σ2 H2=>(zt6 (tB (zta (zac K) [] E0 (zl9 (zuy 0) (zl9 (zta (zyw K) [] E0 (zl9 (zuy 1) q5x)) q5x)))) (q8k (zuy 1)) zyk) {nx:=FbI H x s (i+1),rt:=Q,ct:=FbI H x s (i+1),bk:=N1} σ2 H2:=fun b e hb hy1 hn=>by
   subst e
   walk_at "ry"
   refine⟨b,rfl,hb,fun r hr=>⟨x,.ref r,s,_,rfl,hx.same sc,.inr ⟨_,_,_,rfl,rfl,hr _⟩,fun H' s1=>⟨_,rfl,?_⟩⟩⟩
   cases hw:z2k s (some (rlo b,rhi b)) with
   | true=>
    rw [if_pos rfl]
    have:=q H' (sc.trans s1)
    rw [hy1 hw] at this
    exact this
   | false=>
    rw [if_neg (by decide)]
    exact⟨sc.trans s1,⟨_,rfl⟩,hn hw⟩
  match i,hy with
  | 0,hy=>
   have e:some (V.int 4)=some y:=hy
   cases e
   exact step 4 rfl (.inl rfl) (fun h=>if_pos h) fun h=>⟨fun _=>h,fun z=>absurd z (by decide)⟩
  | 1,hy=>
   have e:some (V.int 8)=some y:=hy
   cases e
   have h1:=k1 (by decide)
   exact step 8 rfl (.inr (.inl rfl)) (fun h=>by unfold zdo; rw [h1,if_neg (by decide)]; exact if_pos h) fun h=>⟨fun _=>h1,fun _=>h⟩
  | 2,hy=>
   have e:some (V.int 16)=some y:=hy
   cases e
   have h1:=k1 (by decide)
   have h2:=k2 (by decide)
   exact step 16 rfl (.inr (.inr rfl)) (fun _=>by unfold zdo; rw [h1,h2]; rfl) fun h=>⟨fun _=>h1,fun _=>h2⟩
  | _+3,hy=>cases hy
 ·rintro σ Hc ⟨sc,⟨t,rfl⟩,k1,k2⟩
  show N1 _ _
  rw [e1]
  walk_at "ry"
  refine .inr ⟨_,hB _,_,rfl,?_⟩
  have:=q Hc sc
  unfold zdo at this
  rw [k1 (by decide),k2 (by decide)] at this
  exact this
end
section
variable{P:Program}{w:World}{K:PySem.W.Frag}{mg:Str->Option Value}{base:Heap}{f:Addr}{fd:FuncData}
def eqS(d:Dm)(z:Str):Bool:=match d with
 | .str x=>decide (x=z)
 | _=>false
theorem zgw{H:Hp}{x:V}{d:Dm}{z:Str}(h:Dt H x d):qb6 K x (.str z) H (eqS d z):=by
 cases h with
 | str y=>exact .inl ⟨rfl,by show decide (y=z)=decide (V.str y=V.str z); simp⟩
 | tup e _=>exact .inr (.inr ⟨_,_,rfl,rfl,.inr ⟨_,SqT.of e⟩,rfl⟩)
 | lst e=>exact .inr (.inr ⟨_,_,rfl,rfl,.inl ⟨_,SqL.of e⟩,rfl⟩)
 | non=>exact .inl ⟨rfl,by simp[eqS]⟩
 | bl b=>exact .inl ⟨rfl,by simp[eqS]⟩
 | int i=>exact .inl ⟨rfl,by simp[eqS]⟩
def D.term:D->T
 | .set _ t=>t
 | .ite t _ _=>t
 | .whl t _ _=>t
def zv6:Sp:=fun vs H Q _=>∃v e,vs=[v]/\Dt H v (D.enc e)/\∀x,Dt H x e.term.enc->Q x H
theorem zx6(F:Fun K "term_of" "term_of" z7d f fd):FnOk P w K mg base CX0 1 f fd ["deed"] zv6:=by
 refine F.ok zws (fun vs H Q E h=>?_) (fun cdv A outer s H vs Q E hr h=>?_)
 ·obtain⟨v,d,rfl,_⟩:=h
  rfl
 obtain⟨v,e,rfl,hd,q⟩:=h
 refine⟨_,(z01 (z1k (z0d (gEq hr.units) (z0i ix_tup (z00 (i:=0) rfl z7m z29 z2a) z03 (fun _ _=>rfl)) z2s (z0f _)) (z05 (z08 (z0i ix_tup (z00 (i:=0) rfl z7m z29 z2a) z03 (fun _ _=>rfl)))) z0e)
 (z05 (z08 (z0i ix_tup (z00 (i:=0) rfl z7m z29 z2a) z03 (fun _ _=>rfl))))),?_⟩
 walk_at "rd"
 cases e with
 | set x t=>
  rw [D.enc] at hd
  obtain⟨p,x0,x1,x2,rfl,hp,t0,t1,t2⟩:=q8h hd
  refine⟨_,rfl,_,SqT.of hp,_,rfl,_,zgw t0,?_⟩
  rw [if_pos (show eqS (.str "set") "set" = true from by decide+kernel)]
  exact⟨_,rfl,_,SqT.of hp,_,rfl,q _ t2⟩
 | ite t b c=>
  rw [D.enc] at hd
  obtain⟨p,x0,x1,x2,x3,rfl,hp,t0,t1,t2,t3⟩:=qak hd
  refine⟨_,rfl,_,SqT.of hp,_,rfl,_,zgw t0,?_⟩
  rw [if_neg (show ¬ eqS (.str "if") "set" = true from by decide+kernel)]
  exact⟨_,rfl,_,SqT.of hp,_,rfl,q _ t1⟩
 | whl t m b=>
  rw [D.enc] at hd
  obtain⟨p,x0,x1,x2,x3,rfl,hp,t0,t1,t2,t3⟩:=qak hd
  refine⟨_,rfl,_,SqT.of hp,_,rfl,_,zgw t0,?_⟩
  rw [if_neg (show ¬ eqS (.str "while") "set" = true from by decide+kernel)]
  exact⟨_,rfl,_,SqT.of hp,_,rfl,q _ t1⟩
def D.blocks:D->List (Int×List D)
 | .set _ _=>[]
 | .ite _ b c=>[(1,b),(2,c)]
 | .whl _ _ b=>[(1,b)]
def qad(p:Int×List D):Dm:=.tup [.int p.1,.tup (zko p.2)]
def zok:Sp:=fun vs H Q _=>∃v e,vs=[v]/\Dt H v (D.enc e)/\∀(r:Addr) (H':Hp) (xs:List V),Same H H'->H r=none->H' r=some (.lst xs)->DtA H' xs (e.blocks.map qad)->Q (.ref r) H'
theorem zrh(F:Fun K "blocks_of" "blocks_of" z4t f fd):FnOk P w K mg base CX0 1 f fd ["deed"] zok:=by
 refine F.ok zr1 (fun vs H Q E h=>?_) (fun cdv A outer s H vs Q E hr h=>?_)
 ·obtain⟨v,d,rfl,_⟩:=h
  rfl
 obtain⟨v,e,rfl,hd,q⟩:=h
 refine⟨_,(z01 (z1k (z0d (gEq hr.units) (z0i ix_tup (z00 (i:=0) rfl z3b z29 z2a) z03 (fun _ _=>rfl)) z2s (z0f _)) (z05 (z08 (zj3 (z07 (z1a (z07 z03 (z07 (z0i ix_tup (z00 (i:=0) rfl z3b z29 z2a) z03 (fun _ _=>rfl)) pa_nil))) (z07 (z1a (z07 z03 (z07 (z0i ix_tup (z00 (i:=0) rfl z3b z29 z2a) z03 (fun _ _=>rfl)) pa_nil))) pa_nil))))) z0e)
 (z01 (z1k (z0d (gEq hr.units) (z0i ix_tup (z00 (i:=0) rfl z3b z29 z2a) z03 (fun _ _=>rfl)) z2s (z0f _)) (z05 (z08 (zj3 (z07 (z1a (z07 z03 (z07 (z0i ix_tup (z00 (i:=0) rfl z3b z29 z2a) z03 (fun _ _=>rfl)) pa_nil))) pa_nil)))) z0e)
 (z05 (z08 (zj3 pa_nil))))),?_⟩
 walk_at "rd"
 cases e with
 | set x t=>
  rw [D.enc] at hd
  obtain⟨p,x0,x1,x2,rfl,hp,t0,t1,t2⟩:=q8h hd
  refine⟨_,rfl,_,SqT.of hp,_,rfl,_,zgw t0,?_⟩
  rw [if_neg (show ¬ eqS (.str "set") "if" = true from by decide+kernel)]
  refine⟨_,rfl,_,SqT.of hp,_,rfl,_,zgw t0,?_⟩
  rw [if_neg (show ¬ eqS (.str "set") "while" = true from by decide+kernel)]
  exact⟨Nat.zero_le _,fun r hr'=>q r _ [] (z06 hr' _) hr' z02 .nil⟩
 | ite t b c=>
  rw [D.enc] at hd
  obtain⟨p,x0,x1,x2,x3,rfl,hp,t0,t1,t2,t3⟩:=qak hd
  refine⟨_,rfl,_,SqT.of hp,_,rfl,_,zgw t0,?_⟩
  rw [if_pos (show eqS (.str "if") "if" = true from by decide+kernel)]
  refine⟨_,rfl,_,SqT.of hp,_,rfl,zl 2 (by decide),fun p1 h1=>?_⟩
  have s1:=z06 h1 (HO.tup [V.int 1,x2])
  refine⟨_,rfl,_,SqT.of (s1 _ _ hp),_,rfl,zl 2 (by decide),fun p2 h2=>⟨zl 2 (by decide),fun r hr'=>?_⟩⟩
  have s2:=z06 h2 (HO.tup [V.int 2,x3])
  have s3:=z06 hr' (HO.lst [V.ref p1,V.ref p2])
  refine q r _ _ (s1.trans (s2.trans s3)) ((s1.trans s2).free hr') z02 (.cons (.tup (s3 _ _ (s2 _ _ z02)) (.cons (.int 1) (.cons (t2.kp (s1.trans (s2.trans s3)).kp) .nil))) (.cons (.tup (s3 _ _ z02) (.cons (.int 2) (.cons (t3.kp (s1.trans (s2.trans s3)).kp) .nil))) .nil))
 | whl t m b=>
  rw [D.enc] at hd
  obtain⟨p,x0,x1,x2,x3,rfl,hp,t0,t1,t2,t3⟩:=qak hd
  refine⟨_,rfl,_,SqT.of hp,_,rfl,_,zgw t0,?_⟩
  rw [if_neg (show ¬ eqS (.str "while") "if" = true from by decide+kernel)]
  refine⟨_,rfl,_,SqT.of hp,_,rfl,_,zgw t0,?_⟩
  rw [if_pos (show eqS (.str "while") "while" = true from by decide+kernel)]
  refine⟨_,rfl,_,SqT.of hp,_,rfl,zl 2 (by decide),fun p1 h1=>⟨zl 1 (by decide),fun r hr'=>?_⟩⟩
  have s1:=z06 h1 (HO.tup [V.int 1,x3])
  have s3:=z06 hr' (HO.lst [V.ref p1])
  exact q r _ _ (s1.trans s3) (s1.free hr') z02 (.cons (.tup (s3 _ _ z02) (.cons (.int 1) (.cons (t3.kp (s1.trans s3).kp) .nil))) .nil)
def T.deep:T->Nat
 | .op _ a b=>max a.deep b.deep+1
 | _=>1
theorem Wd.ne(w:Wd):eqS (.str w.str) "num" = false/\eqS (.str w.str) "name" = false:=by cases w<;>decide+kernel
abbrev RT:=List Int×T
abbrev RD:=List Int×D
def q8r(r:RT):Dm:=q86 (r.1,r.2.enc)
def q6b(r:RD):Dm:=q86 (r.1,r.2.enc)
def z95(p:List Int):T->List RT
 | .num i=>[(p,.num i)]
 | .nm x=>[(p,.nm x)]
 | .op w a b=>(p,.op w a b)::(z95 (p++[0]) a++z95 (p++[1]) b)
mutual
def zjb(p:List Int):D->List RD
 | .set x t=>[(p,.set x t)]
 | .ite t b c=>(p,.ite t b c)::(z2h (p++[1]) 0 b++z2h (p++[2]) 0 c)
 | .whl t m b=>(p,.whl t m b)::z2h (p++[1]) 0 b
def z2h(p:List Int)(k:Int):List D->List RD
 | []=>[]
 | d::r=>zjb (p++[k]) d++z2h p (k+1) r
end
def z9w(p:List Int):List (Int×List D)->List RD
 | []=>[]
 | q::r=>z2h (p++[q.1]) 0 q.2++z9w p r
theorem zsb(p:List Int)(d:D):zjb p d=(p,d)::z9w p d.blocks:=by
 cases d<;>simp[zjb,z9w,D.blocks]
theorem zja(p:List Int):∀(a b:List (Int×List D)),z9w p (a++b)=z9w p a++z9w p b
 | [],b=>by simp[z9w]
 | q::a,b=>by rw [List.cons_append,z9w,z9w,zja p a b,List.append_assoc]
theorem zgz(p:List Int):∀(k:Int) (a b:List D),z2h p k (a++b)=z2h p k a++z2h p (k+a.length) b
 | k,[],b=>by simp[z2h]
 | k,d::a,b=>by
  rw [List.cons_append,z2h,z2h,zgz p (k+1) a b,List.append_assoc,List.length_cons]
  congr 3
  omega
theorem zu8(p:List Int)(a:List D)(d:D):z2h p 0 (a++[d])=z2h p 0 a++zjb (p++[(a.length:Int)]) d:=by
 rw [zgz,z2h,z2h,List.append_nil,Int.zero_add]
def bnd:Nat->Nat
 | 0=>0
 | n+1=>6 * (1+2 * bnd n)
theorem zoz{n:Nat}(ih:∀(b:List D) (p:List Int) (k:Int),okB n b->(z2h p k b).length<=bnd n):∀(b:List D) (p:List Int) (k:Int),(∀d∈b,okD n d)->(z2h p k b).length<=b.length * (1+2 * bnd n)
 | [],p,k,_=>by simp[z2h]
 | d::b,p,k,h=>by
  have h2:=zoz ih b p (k+1) fun e he=>h e (.tail _ he)
  have h1:(zjb (p++[k]) d).length<=1+2 * bnd n:=by
   have hd:=h d (.head _)
   cases d with
   | set x t=>simp[zjb]
   | ite t b c=>
    have a1:=ih b (p++[k]++[1]) 0 hd.2.1
    have a2:=ih c (p++[k]++[2]) 0 hd.2.2
    rw [zjb,List.length_cons,List.length_append]
    omega
   | whl t m b=>
    have a1:=ih b (p++[k]++[1]) 0 hd.2.2.2
    rw [zjb,List.length_cons]
    omega
  rw [z2h,List.length_append,List.length_cons,Nat.succ_mul]
  omega
theorem zdc:∀(n:Nat) (b:List D) (p:List Int) (k:Int),okB n b->(z2h p k b).length<=bnd n
 | 0,_,_,_,h=>h.elim
 | n+1,b,p,k,h=>by
  refine Nat.le_trans (zoz (zdc n) b p k fun d hd=>h.2 d hd) ?_
  exact Nat.mul_le_mul_right _ h.1
theorem q1v{n:Nat}(h:n<=3):bnd n<=942:=by
 match n,h with
 | 0,_=>decide
 | 1,_=>decide
 | 2,_=>decide
 | 3,_=>decide
theorem q5j{H:Hp}:∀p:List Int,DtA H (p.map V.int) (p.map Dm.int)
 | []=>.nil
 | i::p=>.cons (.int i) (q5j p)
theorem zy2{K:PySem.W.Frag}{H:Hp}{Q:VK}{x y:V}{p q:List Int}(dx:Dt H x (pathD p))(dy:Dt H y (pathD q))(hz:p.length+q.length<=1000)(h:∀z H',Same H H'->Dt H' z (pathD (p++q))->Q z H'):zoq K x y H Q:=by
 obtain⟨a,xs,rfl,ha,da⟩:=dx.tupI
 obtain⟨b,ys,rfl,hb,db⟩:=dy.tupI
 have ea:=z77 da
 have eb:=z77 db
 subst ea eb
 refine⟨a,b,_,_,rfl,rfl,SqT.of ha,SqT.of hb,?_,fun e=>?_,fun _ e=>?_,fun _ _ r hr=>?_⟩
 ·rw [List.length_map,List.length_map]
  exact Nat.le_of_lt (z10 hz)
 ·have:p=[]:=by simpa using e
  subst this
  exact h _ _ (Same.refl _) dy
 ·have:q=[]:=by simpa using e
  subst this
  rw [List.append_nil] at h
  exact h _ _ (Same.refl _) dx
 ·refine h _ _ (z06 hr _) (.tup z02 ?_)
  rw [<- List.map_append]
  exact q5j _
theorem zx1{H:Hp}{r:Addr}{i:Int}:Dt (upd H r (.tup [.int i])) (.ref r) (pathD [i]):=.tup z02 (.cons (.int i) .nil)
theorem zvy:∀(b:List D) (i:Nat),(zko b)[i]?=(b[i]?).map D.enc
 | [],i=>by simp[zko]
 | d::b,0=>by simp[zko]
 | d::b,i+1=>by simp[zko,zvy b i]
theorem q7h{H:Hp}{xs:List V}{b:List D}{i:Nat}{x:V}(h:DtA H xs (zko b))(hx:xs[i]?=some x):∃d,b[i]?=some d/\Dt H x d.enc:=by
 obtain⟨e,he,de⟩:=h.get hx
 rw [zvy] at he
 cases hb:b[i]? with
 | none=>rw [hb] at he; cases he
 | some d=>
  rw [hb] at he
  have:d.enc=e:=by simpa using he
  subst this
  exact⟨d,rfl,de⟩
def qe5(H:Hp)(ab:Addr)(pv:V)(p:List Int)(b:List D)(pr:Addr)(i:Nat)(σ : St)(Hc:Hp):Prop:=∃(vs:List V) (x3 x4 x5 x6 x7:Option V),σ = [some (.ref ab),some pv,some (.ref pr),x3,x4,x5,x6,x7]/\Same H Hc/\Hc pr=some (.lst vs)/\DtA Hc vs ((z2h p 0 (b.take i)).map q6b)
def qcn(H H1:Hp)(rb:Addr)(bs:List V)(ab:Addr)(pv:V)(p:List Int)(b:List D)(pr:Addr)(i:Nat)(d:D)(dv qv:V)(j:Nat)(σ : St)(Hc:Hp):Prop:=∃(vs:List V) (x3 x6 x7:Option V),σ = [some (.ref ab),some pv,some (.ref pr),x3,some dv,some qv,x6,x7]/\Same H Hc/\Hc pr=some (.lst vs)/\DtA Hc vs ((z2h p 0 (b.take i)++(p++[(i:Int)],d)::z9w (p++[(i:Int)]) (d.blocks.take j)).map q6b)/\Kp H1 Hc/\Hc rb=some (.lst bs)
theorem zld:∀(t:T) (p:List Int),(z95 p t).length < 2 ^ t.deep
 | .num i,p=>by simp[z95,T.deep]
 | .nm x,p=>by simp[z95,T.deep]
 | .op w a b,p=>by
  have h1:=zld a (p++[0])
  have h2:=zld b (p++[1])
  have g1:2 ^ a.deep<=2 ^ max a.deep b.deep:=Nat.pow_le_pow_right (by decide) (by omega)
  have g2:2 ^ b.deep<=2 ^ max a.deep b.deep:=Nat.pow_le_pow_right (by decide) (by omega)
  rw [z95,T.deep,List.length_cons,List.length_append,Nat.pow_succ]
  omega
theorem zb1{t:T}{p:List Int}{n:Nat}(h:t.deep<=n)(hn:n<=6):(z95 p t).length<=64:=by
 have h1:=zld t p
 have h2:2 ^ t.deep<=2 ^ 6:=Nat.pow_le_pow_right (by decide) (by omega)
 omega
theorem q45{p:List Int}{b:List D}{i:Nat}{d:D}(h:b[i]?=some d):z2h p 0 (b.take (i+1))=z2h p 0 (b.take i)++(p++[(i:Int)],d)::z9w (p++[(i:Int)]) d.blocks:=by
 have hl:i < b.length:=(List.getElem?_eq_some_iff.mp h).1
 have e:(b.take i).length=i:=by rw [List.length_take]; omega
 rw [z5j h,zu8,zsb,e]
theorem zmv{n:Nat}{b:List D}(h:okB (n+1) b){i:Nat}(p:List Int):(z2h p 0 (b.take i)).length<=bnd (n+1):=by
 refine zdc (n+1) _ p 0 ⟨?_,fun d hd=>h.2 d (List.mem_of_mem_take hd)⟩
 rw [List.length_take]
 have:=h.1
 omega
theorem znk{n:Nat}{d:D}{nb:Int×List D}(h:okD n d)(hm:nb∈d.blocks):okB n nb.2:=by
 cases d with
 | set x t=>simp[D.blocks] at hm
 | ite t b c=>
  simp only[D.blocks,List.mem_cons,List.not_mem_nil,or_false] at hm
  rcases hm with rfl | rfl
  ·exact h.2.1
  ·exact h.2.2
 | whl t m b=>
  simp only[D.blocks,List.mem_cons,List.not_mem_nil,or_false] at hm
  subst hm
  exact h.2.2.2
theorem zvt{n:Nat}(p:List Int):∀(l:List (Int×List D)),(∀q∈l,okB n q.2)->(z9w p l).length<=l.length * bnd n
 | [],_=>by simp[z9w]
 | q::l,h=>by
  have h1:=zdc n q.2 (p++[q.1]) 0 (h q (.head _))
  have h2:=zvt p l fun r hr=>h r (.tail _ hr)
  rw [z9w,List.length_append,List.length_cons,Nat.succ_mul]
  omega
theorem zy4(d:D):d.blocks.length<=2:=by cases d<;>simp[D.blocks]
theorem zz{n:Nat}(h:n<=10000):n<=sizeLine:=Nat.le_trans h (by decide)
theorem q3a{n:Nat}{d:D}(h:okD n d)(hn:n+1<=3)(p:List Int)(l:List (Int×List D))(hl:∀q∈l,q∈d.blocks)(h2:l.length<=2):(z9w p l).length<=1884:=by
 have h1:=zvt (n:=n) p l fun q hq=>znk h (hl q hq)
 have h3:=q1v (n:=n) (by omega)
 have:l.length * bnd n<=2 * 942:=Nat.mul_le_mul h2 h3
 omega
theorem zm1{g:List Str}:∀{n:Nat} {t:T},T.ok g n t->t.deep<=n
 | 0,_,h=>h.elim
 | n+1,.num i,_=>by simp[T.deep]
 | n+1,.nm x,_=>by simp[T.deep]
 | n+1,.op w a b,h=>by
  have h1:=zm1 h.1
  have h2:=zm1 h.2
  simp only[T.deep]
  omega
theorem q3l{n:Nat}{d:D}(h:okD n d):T.ok zqq 5 d.term:=by
 cases d with
 | set x t=>exact h.2
 | ite t b c=>exact h.1
 | whl t m b=>exact h.1
theorem zr5{n:Nat}(ih:∀(b:List D) (p:List Int) (k:Int),okB n b->∀r∈z2h p k b,r.1.length<=p.length+2 * n/\T.ok zqq 5 r.2.term):∀(b:List D) (p:List Int) (k:Int),(∀d∈b,okD n d)->∀r∈z2h p k b,r.1.length<=p.length+2 * (n+1)/\T.ok zqq 5 r.2.term
 | [],p,k,_,r,hr=>by simp[z2h] at hr
 | d::b,p,k,h,r,hr=>by
  rw [z2h,List.mem_append] at hr
  rcases hr with hr | hr
  ·have hd:=h d (.head _)
   rw [zsb,List.mem_cons] at hr
   rcases hr with rfl | hr
   ·exact⟨by simp; omega,q3l hd⟩
   ·have key:∀l:List (Int×List D),(∀q∈l,q∈d.blocks)->r∈z9w (p++[k]) l->r.1.length<=p.length+2 * (n+1)/\T.ok zqq 5 r.2.term:=by
     intro l
     induction l with
     | nil=>intro _ hr; simp[z9w] at hr
     | cons q l ihl=>
      intro hl hr
      rw [z9w,List.mem_append] at hr
      rcases hr with hr | hr
      ·have:=ih q.2 (p++[k]++[q.1]) 0 (znk hd (hl q (.head _))) r hr
       exact⟨by have:=this.1; simp at this; omega,this.2⟩
      ·exact ihl (fun z hz=>hl z (.tail _ hz)) hr
    exact key d.blocks (fun _ z=>z) hr
  ·exact zr5 ih b p (k+1) (fun e he=>h e (.tail _ he)) r hr
theorem zoy:∀(n:Nat) (b:List D) (p:List Int) (k:Int),okB n b->∀r∈z2h p k b,r.1.length<=p.length+2 * n/\T.ok zqq 5 r.2.term
 | 0,_,_,_,h=>h.elim
 | n+1,b,p,k,h=>zr5 (zoy n) b p k h.2
def z80:List RD->List RT
 | []=>[]
 | r::l=>z95 (r.1++[0]) r.2.term++z80 l
theorem zg0:∀(a b:List RD),z80 (a++b)=z80 a++z80 b
 | [],b=>by simp[z80]
 | r::a,b=>by rw [List.cons_append,z80,z80,zg0 a b,List.append_assoc]
theorem zoj:∀(l:List RD),(∀r∈l,T.ok zqq 5 r.2.term)->(z80 l).length<=l.length * 64
 | [],_=>by simp[z80]
 | r::l,h=>by
  have h1:=zb1 (p:=r.1++[0]) (zm1 (h r (.head _))) (by decide:5<=6)
  have h2:=zoj l fun z hz=>h z (.tail _ hz)
  rw [z80,List.length_append,List.length_cons,Nat.succ_mul]
  omega
theorem zz5{n:Nat}(h:n<=200000):n<=sizeLine:=Nat.le_trans h (by decide)
def zgy(b:List D):List RD:=z2h [] 0 b
def zcv(b:List D):List RT:=z80 (zgy b)
def qdz(H:Hp)(v:V)(ds:List RD)(ra:Addr)(us:List V)(pr:Addr)(i:Nat)(σ : St)(Hc:Hp):Prop:=∃(vs:List V) (x2 x3:Option V),σ = [some v,some (.ref pr),x2,x3]/\Same H Hc/\Hc pr=some (.lst vs)/\DtA Hc vs ((z80 (ds.take i)).map q8r)/\Hc ra=some (.lst us)/\DtA Hc us (ds.map q6b)
end
section
variable{P:Program}{w:World}{K:PySem.W.Frag}{mg:Str->Option Value}{base:Heap}{f:Addr}{fd:FuncData}
def zlf(n:Nat):Sp:=fun vs H Q _=>∃v t pv p,vs=[v,pv]/\Dt H v (T.enc t)/\Dt H pv (pathD p)/\t.deep<=n/\n<=6/\p.length+n<=100/\∀(r:Addr) (H':Hp) (xs:List V),Same H H'->H r=none->H' r=some (.lst xs)->DtA H' xs ((z95 p t).map q8r)->Q (.ref r) H'
theorem z46{n:Nat} (F:Fun K "spots_of_term" "spots_of_term" z1q f fd) (c_spots_of_term:Callee P w K mg base "spots_of_term" ["term","path"] (n+1) (zlf n)):FnOk P w K mg base CX0 (n+2) f fd ["term","path"] (zlf (n+1)):=by
 refine F.ok zjs (fun vs H Q E h=>?_) (fun cdv A outer s H vs Q E hr h=>?_)
 ·obtain⟨v,t,pv,p,rfl,_⟩:=h
  rfl
 obtain⟨v,t,pv,p,rfl,hd,hp,hn,hn6,hl,q⟩:=h
 refine⟨_,(z01 (z1k (PW.pt (zhs (z0d (gEq hr.units) (z0i ix_tup (z00 (i:=0) rfl z1n z0x z0y) z03 (fun _ _=>rfl)) z2s (z0f _)) (zby (z0d (gEq hr.units) (z0i ix_tup (z00 (i:=0) rfl z1n z0x z0y) z03 (fun _ _=>rfl)) z2s (z0f _))))) (z05 (z08 (zj3 (z07 (z1a (z07 (z00 (i:=1) rfl z35 z1h z1i) (z07 (z00 (i:=0) rfl z1n z0x z0y) pa_nil))) pa_nil)))) z0e)
 (z05 (z08 (z2g q57 (z2g q57 (zj3 (z07 (z1a (z07 (z00 (i:=1) rfl z35 z1h z1i) (z07 (z00 (i:=0) rfl z1n z0x z0y) pa_nil))) pa_nil)) (z0g c_spots_of_term hr (by omega) (z07 (z0i ix_tup (z00 (i:=0) rfl z1n z0x z0y) z03 (fun _ _=>rfl)) (z07 (z2g z2x (z00 (i:=1) rfl z35 z1h z1i) (z1a (z07 z03 pa_nil))) pa_nil)) z3u z7w)) (z0g c_spots_of_term hr (by omega) (z07 (z0i ix_tup (z00 (i:=0) rfl z1n z0x z0y) z03 (fun _ _=>rfl)) (z07 (z2g z2x (z00 (i:=1) rfl z35 z1h z1i) (z1a (z07 z03 pa_nil))) pa_nil)) z3u z7w))))),?_⟩
 walk_at "ry"
 have leaf:(z95 p t=[(p,t)])->2<=sizeLine/\∀(r:Addr),H r=none->1<=sizeLine/\∀(r1:Addr),upd H r (HO.tup [pv,v]) r1=none->Q (V.ref r1) (upd (upd H r (HO.tup [pv,v])) r1 (HO.lst [V.ref r])):=fun e=>by
  refine⟨zl 2 (by decide),fun r h1=>⟨zl 1 (by decide),fun r1 h2=>?_⟩⟩
  have s1:=z06 h1 (HO.tup [pv,v])
  have s2:=z06 h2 (HO.lst [V.ref r])
  refine q r1 _ _ (s1.trans s2) (s1.free h2) z02 ?_
  rw [e]
  exact .cons (.tup (s2 _ _ z02) (.cons (hp.kp (s1.trans s2).kp) (.cons (hd.kp (s1.trans s2).kp) .nil))) .nil
 have hdv:=hd
 cases t with
 | num i=>
  rw [T.enc] at hd
  obtain⟨a,x0,x1,rfl,ha,t0,t1⟩:=q5u hd
  refine⟨_,rfl,_,SqT.of ha,_,rfl,_,zgw t0,?_⟩
  rw [if_pos (show eqS (.str "num") "num" = true from by decide+kernel)]
  exact leaf rfl
 | nm x=>
  rw [T.enc] at hd
  obtain⟨a,x0,x1,rfl,ha,t0,t1⟩:=q5u hd
  refine⟨_,rfl,_,SqT.of ha,_,rfl,_,zgw t0,?_⟩
  rw [if_neg (show ¬ eqS (.str "name") "num" = true from by decide+kernel)]
  refine⟨_,rfl,_,SqT.of ha,_,rfl,_,zgw t0,?_⟩
  rw [if_pos (show eqS (.str "name") "name" = true from by decide+kernel)]
  exact leaf rfl
 | op wd ta tb=>
  rw [T.enc] at hd
  obtain⟨a,x0,x1,x2,rfl,ha,t0,t1,t2⟩:=q8h hd
  refine⟨_,rfl,_,SqT.of ha,_,rfl,_,zgw t0,?_⟩
  rw [if_neg (by rw [wd.ne.1]; decide)]
  refine⟨_,rfl,_,SqT.of ha,_,rfl,_,zgw t0,?_⟩
  rw [if_neg (by rw [wd.ne.2]; decide)]
  have hab:ta.deep<=n/\tb.deep<=n:=by
   simp only[T.deep] at hn
   omega
  refine⟨zl 2 (by decide),fun r h1=>⟨zl 1 (by decide),fun r1 h2=>?_⟩⟩
  have s1:=z06 h1 (HO.tup [pv,V.ref a])
  have s2:=z06 h2 (HO.lst [V.ref r])
  have s02:=s1.trans s2
  have f1:H r1=none:=s1.free h2
  have hr1:(upd (upd H r (HO.tup [pv,V.ref a])) r1 (HO.lst [V.ref r])) r1=some (.lst [V.ref r]):=z02
  have row:Dt (upd (upd H r (HO.tup [pv,V.ref a])) r1 (HO.lst [V.ref r])) (.ref r) (q8r (p,.op wd ta tb)):=.tup (s2 _ _ z02) (.cons (hp.kp s02.kp) (.cons (hdv.kp s02.kp) .nil))
  generalize upd (upd H r (HO.tup [pv,V.ref a])) r1 (HO.lst [V.ref r])=U at s2 s02 hr1 row |-
  refine⟨_,rfl,_,SqT.of (s02 _ _ ha),_,rfl,zl 1 (by decide),fun r3 h3=>?_⟩
  have s3:=z06 h3 (HO.tup [V.int 0])
  refine zy2 (hp.kp (s02.trans s3).kp) zx1 (by simp; omega) fun z H1 s4 dz=>?_
  have s24:=s3.trans s4
  refine⟨x1,ta,z,p++[0],rfl,t1.kp (s02.trans s24).kp,dz,hab.1,by omega,by simp; omega,fun r4 H2 ys s5 f5 h5 d5=>?_⟩
  walk_at "ry"
  have s25:=s24.trans s5
  have l1:=zb1 (p:=p++[0]) hab.1 (by omega:n<=6)
  have l2:=zb1 (p:=p++[1]) hab.2 (by omega:n<=6)
  have e5:ys.length=(z95 (p++[0]) ta).length:=by rw [d5.length,List.length_map]
  refine⟨_,s25 _ _ hr1,_,h5,Nat.le_of_lt (z10 (by rw [e5,List.length_singleton]; omega)),fun r6 h6=>?_⟩
  have s6:=z06 h6 (HO.lst ([V.ref r]++ys))
  have s26:=s25.trans s6
  have hr6:(upd H2 r6 (HO.lst ([V.ref r]++ys))) r6=some (.lst ([V.ref r]++ys)):=z02
  have d6:DtA (upd H2 r6 (HO.lst ([V.ref r]++ys))) ([V.ref r]++ys) ((p,T.op wd ta tb)::z95 (p++[0]) ta |>.map q8r):=.cons (row.kp s26.kp) (d5.kp s6.kp)
  generalize upd H2 r6 (HO.lst ([V.ref r]++ys))=U2 at s6 s26 hr6 d6 |-
  refine⟨_,SqT.of ((s02.trans s26) _ _ ha),_,rfl,zl 1 (by decide),fun r7 h7=>?_⟩
  have s7:=z06 h7 (HO.tup [V.int 1])
  refine zy2 (hp.kp ((s02.trans s26).trans s7).kp) zx1 (by simp; omega) fun z2 H3 s8 dz2=>?_
  have s78:=s7.trans s8
  refine⟨x2,tb,z2,p++[1],rfl,t2.kp ((s02.trans s26).trans s78).kp,dz2,hab.2,by omega,by simp; omega,fun r9 H4 zs s9 f9 h9 d9=>?_⟩
  walk_at "ry"
  have s79:=s78.trans s9
  have e9:zs.length=(z95 (p++[1]) tb).length:=by rw [d9.length,List.length_map]
  refine⟨_,s79 _ _ hr6,_,h9,Nat.le_of_lt (z10 (by rw [List.length_append,e5,e9,List.length_singleton]; omega)),fun r10 h10=>?_⟩
  have s10:=z06 h10 (HO.lst (([V.ref r]++ys)++zs))
  refine q r10 _ _ ((s02.trans s26).trans (s79.trans s10)) (((s02.trans s26).trans s79).free h10) z02 ?_
  rw [z95,<- List.cons_append,List.map_append]
  exact(d6.kp (s79.trans s10).kp).append (d9.kp s10.kp)
def zlh(n:Nat):Sp:=fun vs H Q _=>∃v b pv p,vs=[v,pv]/\Dt H v (.tup (zko b))/\Dt H pv (pathD p)/\okB n b/\n<=3/\p.length+2 * n<=100/\∀(r:Addr) (H':Hp) (xs:List V),Same H H'->H r=none->H' r=some (.lst xs)->DtA H' xs ((z2h p 0 b).map q6b)->Q (.ref r) H'
theorem z74{n:Nat} (F:Fun K "deeds_of_block" "deeds_of_block" z0a f fd) (b_enumerate:mg "enumerate" = none) (c_blocks_of:Callee P w K mg base "blocks_of" ["deed"] 1 zok) (c_deeds_of_block:Callee P w K mg base "deeds_of_block" ["block","path"] (n+2) (zlh n)):FnOk P w K mg base CX0 (n+3) f fd ["block","path"] (zlh (n+1)):=by
 refine F.ok sc_deeds_of_block (fun vs H Q E h=>?_) (fun cdv A outer s H vs Q E hr h=>?_)
 ·obtain⟨v,t,pv,p,rfl,_⟩:=h
  rfl
 obtain⟨v,b,pv,p,rfl,hd,hp,hok,hn,hl,q⟩:=h
 refine⟨_,(z01 (z11 (i:=2) sc_deeds_of_block.nd rfl zb8 (zj3 pa_nil) (z04 rfl))
 (z01 (zel PassesOwn.never rfl (zv9 z8k b_enumerate (z07 (z00 (i:=0) rfl zab zw4 zw9) pa_nil)) (zls (n:=2) rfl (z23 (z19 (i:=3) sc_deeds_of_block.nd rfl zd1) (z23 (z19 (i:=4) sc_deeds_of_block.nd rfl zb9) z9m)))
 (z01 (z11 (i:=5) sc_deeds_of_block.nd rfl z84 (z2g z2x (z00 (i:=1) rfl zaw z1h z1i) (z1a (z07 (z00 (i:=3) rfl zcs qa1 qa9) pa_nil))) (z04 rfl))
 (z01 (zlr (q38 PySem.F.plainAttrs_list PySem.F.slot_list_append PySem.F.type_list_append q00 (z00 (i:=2) rfl z40 zmy znc) (z07 (z1a (z07 (z00 (i:=5) rfl z4i zje zji) (z07 (z00 (i:=4) rfl z68 z29 z2a) pa_nil))) pa_nil)) (z04 rfl))
 (z05 (zel PassesOwn.never rfl (zhu (z0g c_blocks_of hr (by omega) (z07 (z00 (i:=4) rfl z68 z29 z2a) pa_nil) z8l zsf)) (zls (n:=2) rfl (z23 (z19 (i:=6) sc_deeds_of_block.nd rfl z9o) (z23 (z19 (i:=7) sc_deeds_of_block.nd rfl zai) z9m)))
 (z05 (zlr (q38 PySem.F.plainAttrs_list PySem.F.slot_list_extend PySem.F.type_list_extend zm4 (z00 (i:=2) rfl z40 zmy znc) (z07 (z0g c_deeds_of_block hr (by omega) (z07 (z00 (i:=7) rfl zaa q47 q4f) (z07 (z2g z2x (z00 (i:=5) rfl z4i zje zji) (z1a (z07 (z00 (i:=6) rfl z9j zsc zsq) pa_nil))) pa_nil)) z6l zap) pa_nil)) (z04 rfl))))))))
 (z05 (z08 (z00 (i:=2) rfl z40 zmy znc))))),?_⟩
 walk_at "ry"
 refine⟨Nat.zero_le _,fun pr hpr=>?_⟩
 obtain⟨ab,xs,rfl,hab,hda⟩:=hd.tupI
 have s1:=z06 hpr (HO.lst [])
 have hxl:xs.length=b.length:=by rw [hda.length,zfa]
 refine⟨ab,rfl,⟨_,SqT.of (s1 _ _ hab)⟩,?_⟩
 refine zs0 (xs:=xs) (qe5 H ab pv p b pr) ?start ?lst ?step ?done
 case start=>exact⟨[],_,_,_,_,_,rfl,s1,z02,by rw [List.take_zero,z2h]; exact .nil⟩
 case lst=>
  rintro i σ Hc _ ⟨vs,_,_,_,_,_,rfl,sc,_⟩
  exact SqT.of (sc _ _ hab)
 case done=>
  rintro σ Hc ⟨vs,_,_,_,_,_,rfl,sc,hv,dv⟩
  walk_at "ry"
  rw [hxl,List.take_length] at dv
  exact q pr Hc vs sc hpr hv dv
 case step=>
  rintro i x σ Hc Tu hx ⟨vs,_,_,_,_,_,rfl,sc,hv,dv⟩ hT
  obtain⟨d,hbi,dx⟩:=q7h hda hx
  have hib:i < b.length:=(List.getElem?_eq_some_iff.mp hbi).1
  have s2:=z06 hT (HO.tup [V.int i,x])
  walk_at "ry"
  refine⟨_,SqT.of z02,rfl,_,_,rfl,_,_,rfl,rfl,zl 1 (by decide),fun r1 h1=>?_⟩
  have s3:=z06 h1 (HO.tup [V.int i])
  refine zy2 (hp.kp (sc.trans (s2.trans s3)).kp) zx1 (by simp; omega) fun z H1 s4 dz=>?_
  have s24:=(s2.trans s3).trans s4
  refine⟨.inl ⟨rfl,_,SqL.of (s24 _ _ hv)⟩,zl 2 (by decide),fun r2 h2=>?_⟩
  have s5:=z06 h2 (HO.tup [z,x])
  have s25:=s24.trans s5
  have hbn:=q1v hn
  have hvl:vs.length<=942:=by
   have e:vs.length=(z2h p 0 (b.take i)).length:=by rw [dv.length,List.length_map]
   have:=zmv hok (i:=i) p
   omega
  refine⟨_,s25 _ _ hv,z10 (by omega),?_⟩
  have hw2:(upd H1 r2 (HO.tup [z,x])) r2=some (.tup [z,x]):=z02
  have rowW:Dt (upd H1 r2 (HO.tup [z,x])) (.ref r2) (q6b (p++[(i:Int)],d)):=.tup hw2 (.cons (dz.kp s5.kp) (.cons (dx.kp (sc.trans s25).kp) .nil))
  have hvW:=s25 _ _ hv
  generalize upd H1 r2 (HO.tup [z,x])=W at s5 s25 hw2 rowW hvW |-
  have k6:Kp W (upd W pr (HO.lst (vs++[V.ref r2]))):=Kp.set hvW
  have sU:Same H (upd W pr (HO.lst (vs++[V.ref r2]))):=z96 (sc.trans s25) hpr
  have vU:(upd W pr (HO.lst (vs++[V.ref r2]))) pr=some (.lst (vs++[V.ref r2])):=z02
  have dU:DtA (upd W pr (HO.lst (vs++[V.ref r2]))) (vs++[V.ref r2]) ((z2h p 0 (b.take i)++[(p++[(i:Int)],d)]).map q6b):=by
   rw [List.map_append]
   exact(dv.kp (s25.kp.trans k6)).append (.cons (rowW.kp k6) .nil)
  have hzU:=dz.kp (s5.kp.trans k6)
  generalize upd W pr (HO.lst (vs++[V.ref r2]))=U at k6 sU vU dU hzU |-
  refine⟨x,d,rfl,dx.kp sU.kp,fun rb H5 bs s6 f6 hb db=>?_⟩
  refine⟨rb,rfl,⟨_,SqL.of hb⟩,?_⟩
  have hnp:rb≠pr:=fun e=>by rw [e,vU] at f6; cases f6
  refine zvr (xs:=bs) (qcn H H5 rb bs ab pv p b pr i d x z) ?s2 ?l2 ?st2 ?d2
  case s2=>exact⟨vs++[V.ref r2],_,_,_,rfl,sU.trans s6,s6 _ _ vU,by rw [List.take_zero,z9w]; exact dU.kp s6.kp,Kp.refl _,hb⟩
  case l2=>
   rintro j σ Hd _ ⟨us,_,_,_,rfl,_,_,_,_,hbd⟩
   exact SqL.of hbd
  case d2=>
   rintro σ Hd ⟨us,_,_,_,rfl,sd,hu,du,_⟩
   have e:bs.length=d.blocks.length:=by rw [db.length,List.length_map]
   rw [e,List.take_length,<- q45 hbi] at du
   exact⟨us,_,_,_,_,_,rfl,sd,hu,du⟩
  case st2=>
   rintro j y σ Hd hy ⟨us,_,_,_,rfl,sd,hu,du,kd,hbd⟩
   obtain⟨nb,hnb,dnb⟩:=zj6 db hy
   obtain⟨pp,y0,y1,rfl,hpp,u0,u1⟩:=q5u (dnb.kp kd)
   cases u0
   walk_at "ry"
   have hdo:=hok.2 d (List.mem_of_getElem? hbi)
   have hbok:okB n nb.2:=znk hdo (List.mem_of_getElem? hnb)
   refine⟨_,SqT.of hpp,rfl,_,_,rfl,_,_,rfl,rfl,.inl ⟨rfl,_,SqL.of hu⟩,zl 1 (by decide),fun r3 h3=>?_⟩
   have s7:=z06 h3 (HO.tup [V.int nb.1])
   refine zy2 (hzU.kp (s6.kp.trans (kd.trans s7.kp))) zx1 (by simp; omega) fun z2 H6 s8 dz2=>?_
   have s78:=s7.trans s8
   refine⟨y1,nb.2,z2,_,rfl,u1.kp s78.kp,dz2,hbok,by omega,by simp; omega,fun r4 H7 ws s9 f9 h9 d9=>?_⟩
   have s79:=s78.trans s9
   have hws:ws.length<=942:=by
    have e:ws.length=(z2h (p++[(i:Int)]++[nb.1]) 0 nb.2).length:=by rw [d9.length,List.length_map]
    have g1:=zdc n nb.2 (p++[(i:Int)]++[nb.1]) 0 hbok
    have g2:=q1v (n:=n) (by omega)
    omega
   have hus:us.length<=2900:=by
    have e:=du.length
    rw [List.length_map,List.length_append,List.length_cons] at e
    have g1:=zmv hok (i:=i) p
    have g2:=q3a hdo (by omega) (p++[(i:Int)]) (d.blocks.take j) (fun q hq=>List.mem_of_mem_take hq) (by rw [List.length_take]; have:=zy4 d; omega)
    omega
   refine⟨r4,rfl,us,s79 _ _ hu,ws,h9,zz (by omega),?_⟩
   have k7:Kp H7 (upd H7 pr (HO.lst (us++ws))):=Kp.set (s79 _ _ hu)
   refine⟨us++ws,_,_,_,rfl,z96 (sd.trans s79) hpr,z02,?_,kd.trans (s79.kp.trans k7),by rw [z0o hnp]; exact s79 _ _ hbd⟩
   rw [z5j hnb,zja,z9w,z9w,List.append_nil,<- List.cons_append,<- List.append_assoc,List.map_append]
   exact(du.kp (s79.kp.trans k7)).append (d9.kp k7)
end
section
variable{P:Program}{w:World}{K:PySem.W.Frag}{mg:Str->Option Value}{base:Heap}{f:Addr}{fd:FuncData}
theorem zxe{k:Nat}{n1 n2:Str}:FnOk P w K mg base CX0 k f fd [n1,n2] (zlf 0):=by
 have no:∀vs H Q E,¬ zlf 0 vs H Q E:=fun vs H Q E h=>by
  obtain⟨v,t,pv,p,_,_,_,h1,_⟩:=h
  cases t<;>simp[T.deep] at h1
 exact⟨fun vs H Q E h=>absurd h (no vs H Q E),fun A outer s H args us vs Q E _ _ _ _ h=>absurd h (no vs H Q E)⟩
theorem zxf{k:Nat}{n1 n2:Str}:FnOk P w K mg base CX0 k f fd [n1,n2] (zlh 0):=by
 have no:∀vs H Q E,¬ zlh 0 vs H Q E:=fun vs H Q E h=>by
  obtain⟨v,t,pv,p,_,_,_,h1,_⟩:=h
  exact h1
 exact⟨fun vs H Q E h=>absurd h (no vs H Q E),fun A outer s H args us vs Q E _ _ _ _ h=>absurd h (no vs H Q E)⟩
def zol:Sp:=fun vs H Q _=>∃v ins b,vs=[v]/\Dt H v (.tup [ins,.tup (zko b)])/\okB 3 b/\∀(r:Addr) (H':Hp) (xs:List V),Same H H'->H r=none->H' r=some (.lst xs)->DtA H' xs ((zgy b).map q6b)->Q (.ref r) H'
theorem zri(F:Fun K "all_deeds" "all_deeds" z42 f fd) (c_deeds_of_block:Callee P w K mg base "deeds_of_block" ["block","path"] 5 (zlh 3)):FnOk P w K mg base CX0 6 f fd ["program"] zol:=by
 refine F.ok zr2 (fun vs H Q E h=>?_) (fun cdv A outer s H vs Q E hr h=>?_)
 ·obtain⟨v,ins,b,rfl,_⟩:=h
  rfl
 obtain⟨v,ins,b,rfl,hd,hok,q⟩:=h
 refine⟨_,(z05 (z08 (z0g c_deeds_of_block hr (by omega) (z07 (z0i ix_tup (z00 (i:=0) rfl zcu z4a z4b) z03 (fun _ _=>rfl)) (z07 (z1a pa_nil) pa_nil)) z8m zap))),?_⟩
 walk_at "ry"
 obtain⟨a,x0,x1,rfl,ha,t0,t1⟩:=q5u hd
 refine⟨_,rfl,_,SqT.of ha,_,rfl,Nat.zero_le _,fun r1 h1=>?_⟩
 have s1:=z06 h1 (HO.tup [])
 exact⟨x1,b,.ref r1,[],rfl,t1.kp s1.kp,.tup z02 .nil,hok,by decide,by decide,fun r H' xs s2 f2 h2 d2=>q r H' xs (s1.trans s2) (s1.free f2) h2 d2⟩
def zv7:Sp:=fun vs H Q _=>∃v ins b,vs=[v]/\Dt H v (.tup [ins,.tup (zko b)])/\okB 3 b/\∀(r:Addr) (H':Hp) (xs:List V),Same H H'->H r=none->H' r=some (.lst xs)->DtA H' xs ((zcv b).map q8r)->Q (.ref r) H'
theorem q3i(F:Fun K "spots" "spots" z4q f fd) (c_all_deeds:Callee P w K mg base "all_deeds" ["program"] 6 zol) (c_spots_of_term:Callee P w K mg base "spots_of_term" ["term","path"] 6 (zlf 5)) (c_term_of:Callee P w K mg base "term_of" ["deed"] 1 zv6):FnOk P w K mg base CX0 7 f fd ["program"] zv7:=by
 refine F.ok sc_spots (fun vs H Q E h=>?_) (fun cdv A outer s H vs Q E hr h=>?_)
 ·obtain⟨v,ins,b,rfl,_⟩:=h
  rfl
 obtain⟨v,ins,b,rfl,hd,hok,q⟩:=h
 refine⟨_,(z01 (z11 (i:=1) sc_spots.nd rfl znz (zj3 pa_nil) (z04 rfl))
 (z01 (zel PassesOwn.never rfl (zhu (z0g c_all_deeds hr (by omega) (z07 (z00 (i:=0) rfl zhb z4a z4b) pa_nil) zgq zsg)) (zls (n:=2) rfl (z23 (z19 (i:=2) sc_spots.nd rfl zo0) (z23 (z19 (i:=3) sc_spots.nd rfl zo1) z9m)))
 (z05 (zlr (q38 PySem.F.plainAttrs_list PySem.F.slot_list_extend PySem.F.type_list_extend zm4 (z00 (i:=1) rfl zei zmy znc) (z07 (z0g c_spots_of_term hr (by omega) (z07 (z0g c_term_of hr (by omega) (z07 (z00 (i:=3) rfl zno z29 z2a) pa_nil) zk8 zxr) (z07 (z2g z2x (z00 (i:=2) rfl znn z1h z1i) (z1a (z07 z03 pa_nil))) pa_nil)) zcd z7w) pa_nil)) (z04 rfl))))
 (z05 (z08 (z00 (i:=1) rfl zei zmy znc))))),?_⟩
 walk_at "ry"
 refine⟨Nat.zero_le _,fun pr hpr=>?_⟩
 have s1:=z06 hpr (HO.lst [])
 refine⟨v,ins,b,rfl,hd.kp s1.kp,hok,fun ra H1 us s2 f2 h2 d2=>?_⟩
 have hne:ra≠pr:=fun e=>by rw [e,z02] at f2; cases f2
 have hrows:=zoy 3 b [] 0 hok
 have hbl:=zdc 3 b [] 0 hok
 have hb3:bnd 3=942:=by decide
 refine⟨ra,rfl,⟨_,SqL.of h2⟩,?_⟩
 refine zvr (xs:=us) (qdz H v (zgy b) ra us pr) ?start ?lst ?step ?done
 case start=>exact⟨[],_,_,rfl,s1.trans s2,s2 _ _ z02,by rw [List.take_zero,z80]; exact .nil,h2,d2⟩
 case lst=>
  rintro i σ Hc _ ⟨vs,_,_,rfl,_,_,_,hu,_⟩
  exact SqL.of hu
 case done=>
  rintro σ Hc ⟨vs,_,_,rfl,sc,hv,dv,hu,du⟩
  walk_at "ry"
  rw [show us.length=(zgy b).length by rw [d2.length,List.length_map],List.take_length] at dv
  exact q pr Hc vs sc hpr hv dv
 case step=>
  rintro i y σ Hc hy ⟨vs,_,_,rfl,sc,hv,dv,hu,du⟩
  obtain⟨r,hri,dr⟩:=zj6 du hy
  obtain⟨pp,y0,y1,rfl,hpp,u0,u1⟩:=q5u dr
  walk_at "ry"
  have hrm:=hrows r (List.mem_of_getElem? hri)
  refine⟨_,SqT.of hpp,rfl,_,_,rfl,_,_,rfl,rfl,.inl ⟨rfl,_,SqL.of hv⟩,y1,r.2,rfl,u1,fun x dx=>⟨zl 1 (by decide),fun r1 h1=>?_⟩⟩
  have s3:=z06 h1 (HO.tup [V.int 0])
  have hrl:r.1.length<=6:=by have:=hrm.1; simp at this; omega
  refine zy2 (u0.kp s3.kp) zx1 (by simp; omega) fun z H2 s4 dz=>?_
  have s34:=s3.trans s4
  refine⟨x,r.2.term,z,_,rfl,dx.kp s34.kp,dz,zm1 hrm.2,by decide,by simp; omega,fun r4 H3 ws s5 f5 h5 d5=>?_⟩
  have s35:=s34.trans s5
  have l1:ws.length<=64:=by
   rw [d5.length,List.length_map]
   exact zb1 (zm1 hrm.2) (by decide)
  have l2:vs.length<=942 * 64:=by
   have e:vs.length=(z80 ((zgy b).take i)).length:=by rw [dv.length,List.length_map]
   have g1:=zoj ((zgy b).take i) fun z hz=>(hrows z (List.mem_of_mem_take hz)).2
   have g2:((zgy b).take i).length<=942:=by
    rw [List.length_take]
    have:(zgy b).length<=bnd 3:=hbl
    omega
   have g3:((zgy b).take i).length * 64<=942 * 64:=Nat.mul_le_mul_right _ g2
   omega
  refine⟨r4,rfl,vs,s35 _ _ hv,ws,h5,zz5 (by omega),?_⟩
  have k6:Kp H3 (upd H3 pr (HO.lst (vs++ws))):=Kp.set (s35 _ _ hv)
  refine⟨vs++ws,_,_,rfl,z96 (sc.trans s35) hpr,z02,?_,by rw [z0o hne]; exact s35 _ _ hu,du.kp (s35.kp.trans k6)⟩
  rw [z5j hri,zg0,z80,z80,List.append_nil,List.map_append]
  exact(dv.kp (s35.kp.trans k6)).append (d5.kp k6)
end
section
variable{P:Program}{w:World}{K:PySem.W.Frag}{mg:Str->Option Value}{base:Heap}{f:Addr}{fd:FuncData}
def z98(s:S):List Dm:=if z2k s (some zp4) then [] else [.str "over"]
def zou(ns:Nts)(p:Pth):T->List Dm
 | .op .quo _ _=>if z2k (some (0,0)) (z43 ns (p++[1])) then [.str "zero"] else []
 | _=>[]
def ztj(ns:Nts)(p:Pth)(t:T):Dm:=.tup [pathD p,.int (zdo (zev (z43 ns p) (some zp4))),.tup (z98 (z43 ns p)++zou ns p t)]
def q4s:Sp:=fun vs H Q _=>∃(pv tv:V) (nn:Addr) (kvs:List (List Key×V)) (ns:Nts) (p:Pth) (t:T),vs=[pv,tv,.ref nn]/\Dt H pv (pathD p)/\Dt H tv t.enc/\H nn=some (.dT kvs)/\NtR H kvs ns/\(z43 ns p).isSome/\(∀a b,t=.op .quo a b->(z43 ns (p++[1])).isSome)/\p.length<=100/\∀z H',Same H H'->Dt H' z (ztj ns p t)->Q z H'
def T.word:T->Str
 | .num _=>"num" | .nm _=>"name" | .op w _ _=>w.str
theorem T.enc_word(t:T):∃r,t.enc=.tup (.str t.word::r):=by
 cases t with
 | num i=>exact⟨_,rfl⟩
 | nm x=>exact⟨_,rfl⟩
 | op w a b=>exact⟨_,rfl⟩
theorem T.word_quo(t:T):(eqS (.str t.word) "quo" = true/\∃a b,t=.op .quo a b)\/(eqS (.str t.word) "quo" = false/\∀ns p,zou ns p t=[]):=by
 cases t with
 | num i=>exact .inr ⟨show eqS (.str "num") "quo" = false by decide+kernel,fun _ _=>rfl⟩
 | nm x=>exact .inr ⟨show eqS (.str "name") "quo" = false by decide+kernel,fun _ _=>rfl⟩
 | op w a b=>
  have h:eqS (.str w.str) "quo" = decide (w=.quo):=by cases w<;>decide+kernel
  have e:(T.op w a b).word=w.str:=rfl
  rw [e,h]
  by_cases hq:w=.quo
  ·subst hq
   exact .inl ⟨by decide,a,b,rfl⟩
  ·refine .inr ⟨decide_eq_false hq,fun _ _=>?_⟩
   cases w<;>first | rfl | exact absurd rfl hq
theorem qcg{α : Type}(x : α)(xs:List α):atI (x::xs) 0=some x:=by
 unfold atI ixN
 rw [if_pos (by decide),if_pos (by rw [List.length_cons]; omega)]
 rfl
theorem q7q{K:PySem.W.Frag}{H:Hp}{Q:VK}{x y:V}{ds es:List Dm}(dx:Dt H x (.tup ds))(dy:Dt H y (.tup es))(hz:ds.length+es.length<=1000)(h:∀z H',Same H H'->Dt H' z (.tup (ds++es))->Q z H'):zoq K x y H Q:=by
 obtain⟨a,xs,rfl,ha,da⟩:=dx.tupI
 obtain⟨b,ys,rfl,hb,db⟩:=dy.tupI
 refine⟨a,b,_,_,rfl,rfl,SqT.of ha,SqT.of hb,?_,fun e=>?_,fun _ e=>?_,fun _ _ r hr=>?_⟩
 ·rw [da.length,db.length]
  exact Nat.le_of_lt (z10 hz)
 ·subst e
  cases da
  exact h _ _ (Same.refl _) dy
 ·subst e
  cases db
  rw [List.append_nil] at h
  exact h _ _ (Same.refl _) dx
 ·exact h _ _ (z06 hr _) (.tup z02 ((da.append db).kp (z06 hr _).kp))
theorem zto{wA:Addr} (F:Fun K "plan_row" "plan_row" z1o f fd) (g_WIDE:GC mg "WIDE" (.ref wA)) (hW:∀H,SqT K H wA [.int (-32768),.int 32767]) (c_is_within:Callee P w K mg base "is_within" ["one","other"] 3 (zac K)) (c_met:Callee P w K mg base "met" ["one","other"] 2 (zyu K zev)) (c_fewest_bits:Callee P w K mg base "fewest_bits" ["stretch"] 4 (q4y K)):FnOk P w K mg base CX0 5 f fd ["path","term","notes"] q4s:=by
 refine F.ok sc_plan_row (fun vs H Q E h=>?_) (fun cdv A outer s H vs Q E hr h=>?_)
 ·obtain⟨pv,tv,nn,kvs,ns,p,t,rfl,_⟩:=h
  rfl
 obtain⟨pv,tv,nn,kvs,ns,p,t,rfl,hp,ht,hn,hr1,hs,hs2,hl,q⟩:=h
 refine⟨_,(z01 (z11 (i:=3) sc_plan_row.nd rfl ze8 (z4f hr.units1 (z00 (i:=2) rfl z8y zdu zdw) (z00 (i:=0) rfl z6w z1h z1i) (fun _ _=>rfl)) (z04 rfl))
 (z01 (z11 (i:=4) sc_plan_row.nd rfl z6g (z1a pa_nil) (z04 rfl))
 (z01 (z1k (zg4 (z7e (z0g c_is_within hr (by omega) (z07 (z00 (i:=3) rfl z7y z5w z5z) (z07 (zg6 g_WIDE zbz zfg) pa_nil)) z7g z5x))) (z05 (z11 (i:=4) sc_plan_row.nd rfl z6g (z2g z2x (z00 (i:=4) rfl z64 zq6 zqf) (z1a (z07 z2s pa_nil))) (z04 rfl))) z0e)
 (z01 (z1k (PW.pt (zr8 (z0d (gEq hr.units) (z0i ix_tup (z00 (i:=1) rfl zhd z0x z0y) z03 (fun _ _=>rfl)) z2s (z0f _)) (zlq (z7e (z0g c_is_within hr (by omega) (z07 (z1a (z07 z03 (z07 z03 pa_nil))) (z07 (z4f hr.units1 (z00 (i:=2) rfl z8y zdu zdw) (z2g z2x (z00 (i:=0) rfl z6w z1h z1i) (z1a (z07 z03 pa_nil))) (fun _ _=>rfl)) pa_nil)) z7g z5x))))) (z05 (z11 (i:=4) sc_plan_row.nd rfl z6g (z2g z2x (z00 (i:=4) rfl z64 zq6 zqf) (z1a (z07 z2s pa_nil))) (z04 rfl))) z0e)
 (z05 (z08 (z1a (z07 (z00 (i:=0) rfl z6w z1h z1i) (z07 (z0g c_fewest_bits hr (by omega) (z07 (z0g c_met hr (by omega) (z07 (z00 (i:=3) rfl z7y z5w z5z) (z07 (zg6 g_WIDE zbz zfg) pa_nil)) zms zn0) pa_nil) zbf zog) (z07 (z00 (i:=4) rfl z64 zq6 zqf) pa_nil)))))))))),z0z fun N1 e1=>?_⟩
 walk_at "ry"
 obtain⟨pa,xs,rfl,hpa,dpa⟩:=hp.tupI
 have exs:=z77 dpa
 subst exs
 rcases hr1.look p with⟨z,_⟩ | ⟨sv,v,z1,z2,dv⟩
 ·rw [z] at hs; cases hs
 have g:=DGet.t hn (k:=z81 p) (b:=pa) (by rw [z6f]; exact hpa)
 rw [z2] at g
 refine⟨v,g,?_⟩
 rw [e1]
 refine z0z fun N2 e2=>?_
 walk_at "ry"
 refine⟨Nat.zero_le _,fun m0 hm0=>?_⟩
 have s0:=z06 hm0 (HO.tup [])
 have d0:Dt (upd H m0 (HO.tup [])) (.ref m0) (.tup []):=.tup z02 .nil
 generalize upd H m0 (HO.tup [])=H0 at s0 d0 |-
 rw [e2]
 have hwd:∀H,StK K H (.ref wA) (some zp4):=fun H=>.inr ⟨_,_,_,rfl,rfl,hW H⟩
 refine z0z fun N3 e3=>?_
 have K3:∀m H1,Same H H1->Dt H1 m (.tup (z98 (z43 ns p)))->N3 [some (.ref pa),some tv,some (.ref nn),some v,some m] H1:=fun m H1 s1 d1=>by
  have ml:(z98 (z43 ns p)).length<=1:=by unfold z98; split<;>decide
  rw [e3]
  refine z0z fun N4 e4=>?_
  have K4:∀m H2,Same H H2->Dt H2 m (.tup (z98 (z43 ns p)++zou ns p t))->N4 [some (.ref pa),some tv,some (.ref nn),some v,some m] H2:=fun m H2 s2 d2=>by
   rw [e4]
   walk_at "ry"
   refine⟨v,.ref wA,_,_,rfl,.of (dv.kp s2.kp),hwd _,fun r H3 s3 d3=>⟨_,_,rfl,.of d3,fun H4 s4=>⟨zl 3 (by decide),fun l hl=>?_⟩⟩⟩
   have s5:=z06 hl (HO.tup [.ref pa,.int (zdo (zev (some sv) (some zp4))),m])
   have k5:=s3.trans (s4.trans s5)
   refine q _ _ (s2.trans k5) ?_
   unfold ztj
   rw [z1]
   rw [z1] at d2
   exact .tup z02 (.cons (hp.kp (s2.trans k5).kp) (.cons (.int _) (.cons (d2.kp k5.kp) .nil)))
  refine z94 fun Y Z eY eZ=>?_
  obtain⟨zr7,ew⟩:=t.enc_word
  have ht1:=ht.kp s1.kp
  rw [ew] at ht1
  obtain⟨ta,txs,rfl,hta,dta⟩:=ht1.tupI
  rcases dta with _ | ⟨t0,_⟩
  walk_at "ry"
  refine⟨_,SqT.of hta,_,qcg _ _,_,zgw t0,?_⟩
  rcases t.word_quo with⟨eq,ea,eb,et⟩ | ⟨eq,hz⟩
  ·rw [if_pos eq]
   refine⟨zl 2 (by decide),fun r1 h1=>⟨zl 1 (by decide),fun r2 h2=>?_⟩⟩
   have s2:=z06 h1 (HO.tup [V.int 0,V.int 0])
   have f2:Dt (upd H1 r1 (HO.tup [V.int 0,V.int 0])) (.ref r1) (z6u (some (0,0))):=.tup z02 (.cons (.int 0) (.cons (.int 0) .nil))
   generalize upd H1 r1 (HO.tup [V.int 0,V.int 0])=U1 at s2 f2 h2 |-
   have s3:=z06 h2 (HO.tup [V.int 1])
   refine zy2 (hp.kp (s1.trans (s2.trans s3)).kp) zx1 (by simp; omega) fun z H2 s4 dz=>?_
   have s24:=s2.trans (s3.trans s4)
   obtain⟨za,zxs,rfl,hza,dza⟩:=dz.tupI
   have ez:=z77 dza
   subst ez
   have hk1:=hs2 ea eb et
   rcases(hr1.kp (s1.trans s24).kp).look (p++[1]) with⟨z,_⟩ | ⟨sv2,v2,y1,y2,dv2⟩
   ·rw [z] at hk1; cases hk1
   have g2:=DGet.t ((s1.trans s24) _ _ hn) (k:=z81 (p++[1])) (b:=za) (by rw [z6f]; exact hza)
   rw [y2] at g2
   refine⟨v2,g2,_,_,_,_,rfl,.of (f2.kp (s3.trans s4).kp),.of dv2,fun H3 s5=>⟨_,rfl,?_⟩⟩
   have s25:=s24.trans s5
   cases hw:z2k (some (0,0)) (some sv2) with
   | true=>
    rw [if_pos rfl,eY]
    walk_at "ry"
    refine⟨zl 1 (by decide),fun m1 hm1=>?_⟩
    have s6:=z06 hm1 (HO.tup [.str "zero"])
    refine q7q (d1.kp (s25.trans s6).kp) (.tup z02 (.cons (.str _) .nil)) (by simp; omega) fun z H' s7 dz=>?_
    refine K4 _ _ (s1.trans (s25.trans (s6.trans s7))) ?_
    rw [show zou ns p t=[.str "zero"] by rw [et]; show(if z2k _ _ then _ else _)=_; rw [y1,hw,if_pos rfl]]
    exact dz
   | false=>
    rw [if_neg (by decide),eZ]
    refine K4 _ _ (s1.trans s25) ?_
    rw [show zou ns p t=[] by rw [et]; show(if z2k _ _ then _ else _)=_; rw [y1,hw,if_neg (by decide)],List.append_nil]
    exact d1.kp s25.kp
  ·rw [if_neg (by rw [eq]; decide),eZ]
   refine K4 _ _ s1 ?_
   rw [hz,List.append_nil]
   exact d1
 refine z94 fun Y Z eY eZ=>?_
 walk_at "ry"
 refine⟨v,.ref wA,_,_,rfl,.of (dv.kp s0.kp),hwd _,fun H1 s1=>⟨_,rfl,?_⟩⟩
 cases hw:z2k (some sv) (some zp4) with
 | true=>
  rw [if_neg (by decide),eZ]
  refine K3 _ _ (s0.trans s1) ?_
  unfold z98
  rw [z1,hw,if_pos rfl]
  exact d0.kp s1.kp
 | false=>
  rw [if_pos rfl,eY]
  walk_at "ry"
  refine⟨zl 1 (by decide),fun m1 hm1=>?_⟩
  have s2:=z06 hm1 (HO.tup [.str "over"])
  refine q7q (d0.kp (s1.trans s2).kp) (.tup z02 (.cons (.str _) .nil)) (by simp) fun z H' s3 dz=>?_
  refine K3 _ _ (s0.trans (s1.trans (s2.trans s3))) ?_
  unfold z98
  rw [z1,hw,if_neg (by decide)]
  exact dz
end
section
variable{P:Program}{w:World}{K:PySem.W.Frag}{mg:Str->Option Value}{base:Heap}{f:Addr}{fd:FuncData}
def ztk(ns:Nts)(l:List RT):List Dm:=(l.filter fun r=>(z43 ns r.1).isSome).map fun r=>ztj ns r.1 r.2
def q4q(Pq:T->Prop)(bh:Bh)(n:Nat):Sp:=fun vs H Q _=>∃(gv v:V) (rows:List Rw) (b:List D) (d:Dm),vs=[gv,v]/\Dt H gv (z9k rows b)/\z78 Pq n rows b/\Dt H v d/\zqo bh rows b d/\papB bh rows b d=true/\okB 3 b/\(zcv b).length<=900/\(∀r∈zcv b,r.1.length<=100/\∀x y,r.2=.op .quo x y->(z43 (walkB bh (z5t (zdp d)) rows b).1 r.1).isSome->(z43 (walkB bh (z5t (zdp d)) rows b).1 (r.1++[1])).isSome)/\
 ∀(l:V) (H':Hp),Keeps H H'->Dt H' l (.tup (ztk (walkB bh (z5t (zdp d)) rows b).1 (zcv b)))->Q l H'
def PlI(U:Hp)(nn:Addr)(ns:Nts)(l:List RT)(i:Nat)(ys:List V)(σ':St)(H':Hp):Prop:=Same U H'/\(∃t1 t2,σ'=[t1,t2,some (.ref nn)])/\DtA H' ys (ztk ns (l.take i))
theorem zx9{Pq:T->Prop}{bh:Bh}{n:Nat}(hn:1<=n) (F:Fun K "plan_by" "plan_by" z3r f fd) (b_tuple:mg "tuple" = none) (c_notes_by:Callee P w K mg base "notes_by" ["program","paper"] (3 * n+15) (ztd Pq bh n)) (c_spots:Callee P w K mg base "spots" ["program"] 7 zv7) (c_plan_row:Callee P w K mg base "plan_row" ["path","term","notes"] 5 q4s):FnOk P w K mg base CX0 (3 * n+16) f fd ["program","paper"] (q4q Pq bh n):=by
 refine F.ok sc_plan_by (fun vs H Q E h=>?_) (fun cdv A outer s H vs Q E hr h=>?_)
 ·obtain⟨gv,v,rows,b,d,rfl,_⟩:=h
  rfl
 obtain⟨gv,v0,rows,b,d0,rfl,hg,hwk,hd0,hin,hp0,hok,hl9,hsp,q⟩:=h
 refine⟨_,(z01 (z11 (i:=2) sc_plan_by.nd rfl zhz (z0g c_notes_by hr (by omega) (z07 (z00 (i:=0) rfl z89 z4a z4b) (z07 (z00 (i:=1) rfl zhe zkq zks) pa_nil)) zez zmz) (z04 rfl))
 (z05 (z08 (zrb zqk zka b_tuple zkt (z07 (z8c ["path","term","notes"] [none,none,some 2] rfl (CompS.of (by rfl)) (zhu (z0g c_spots hr (by omega) (z07 (z00 (i:=0) rfl z89 z4a z4b) pa_nil) zkb q46)) (fun _ _ _ _ _=>(zpk (n:=2) (K:=K) rfl rfl (z23 (z19 (i:=0) (show List.Nodup (["path","term","notes"]:List Str) from by decide+kernel) rfl (Or.inl rfl)) (z23 (z19 (i:=1) (show List.Nodup (["path","term","notes"]:List Str) from by decide+kernel) rfl (Or.inl rfl)) z9m)))) (fun _ _ _ _ _=>(q6j (zv8 (zos hr.units1 (z00 (i:=0) rfl (by first | exact Or.inl rfl | exact Or.inr (Or.inl rfl) | exact Or.inr (Or.inr rfl)) z1h z1i) (z00 (i:=2) rfl (by first | exact Or.inl rfl | exact Or.inr (Or.inl rfl) | exact Or.inr (Or.inr rfl)) zdu zdw))))) (fun _ _ _ _ _=>(z0g c_plan_row hr (by omega) (z07 (z00 (i:=0) rfl (by first | exact Or.inl rfl | exact Or.inr (Or.inl rfl) | exact Or.inr (Or.inr rfl)) z1h z1i) (z07 (z00 (i:=1) rfl (by first | exact Or.inl rfl | exact Or.inr (Or.inl rfl) | exact Or.inr (Or.inr rfl)) z0x z0y) (z07 (z00 (i:=2) rfl (by first | exact Or.inl rfl | exact Or.inr (Or.inl rfl) | exact Or.inr (Or.inr rfl)) zdu zdw) pa_nil))) rfl zua))) pa_nil) zkl zkp)))),z0z fun N1 e1=>?_⟩
 walk_at "ry"
 refine⟨gv,v0,rows,b,d0,rfl,hg,hwk,hd0,hin,hp0,fun nn kvs H1 k1 en rn=>?_⟩
 generalize (walkB bh (z5t (zdp d0)) rows b).1=ns at hsp q rn
 rw [e1]
 walk_at "ry"
 refine⟨gv,_,b,rfl,hg.kp k1.kp,hok,fun sa H2 xs s2 _ h2 d2=>?_⟩
 have hxl:xs.length=(zcv b).length:=by rw [d2.length,List.length_map]
 generalize zcv b=l at hl9 hsp q d2 hxl
 refine⟨sa,rfl,⟨_,SqL.of h2⟩,?_⟩
 refine znb (K:=K) (a:=sa) (xs:=xs) (PlI H2 nn ns l) ⟨Same.refl _,⟨_,_,rfl⟩,.nil⟩ (z10 (by omega)) ?_ ?_ ?_ ?_
 ·rintro i ys σ' H' ⟨_,_,d⟩
  rw [d.length]
  unfold ztk
  rw [List.length_map]
  exact Nat.le_trans (List.length_filter_le _ _) (by rw [List.length_take]; omega)
 ·rintro i ys σ' H' _ ⟨s3,_⟩
  exact SqL.of (s3 _ _ h2)
 ·rintro i ys x σ' H' hx ⟨s3,⟨t1,t2,rfl⟩,dy⟩
  obtain⟨r,hri,dr⟩:=zj6 d2 hx
  have s23:=s2.trans s3
  obtain⟨pp,y0,y1,rfl,hpp,u0,u1⟩:=q5u (dr.kp s3.kp)
  obtain⟨pa,pxs,rfl,hpa,dpa⟩:=u0.tupI
  have ez:=z77 dpa
  subst ez
  walk_at "ry"
  have g:=DGet.t (s23 _ _ en) (k:=z81 r.1) (b:=pa) (by rw [z6f]; exact hpa)
  have hm:=hsp r (List.mem_of_getElem? hri)
  have rn3:=rn.kp s23.kp
  refine⟨_,SqT.of hpp,rfl,_,_,rfl,_,_,rfl,rfl,_,g,?_⟩
  rcases rn3.look r.1 with⟨z,zv⟩ | ⟨sv,v,z1,z2,dv⟩
  ·rw [zv,if_neg (by decide)]
   refine⟨s3,⟨_,_,rfl⟩,?_⟩
   rw [z5j hri]
   unfold ztk at dy |-
   rw [List.filter_append,List.filter_cons_of_neg (by rw [z]; decide),List.filter_nil,List.append_nil]
   exact dy
  ·rw [z2,if_pos (show(some v).isSome=true from rfl)]
   refine⟨_,_,nn,kvs,ns,r.1,r.2,rfl,u0,u1,s23 _ _ en,rn3,by rw [z1]; rfl,fun x y e=>hm.2 x y e (by rw [z1]; rfl),hm.1,fun zz H4 s4 dz=>⟨s3.trans s4,⟨_,_,rfl⟩,?_⟩⟩
   rw [z5j hri]
   unfold ztk at dy |-
   rw [List.filter_append,List.filter_cons_of_pos (by rw [z1]; rfl),List.filter_nil,List.map_append]
   exact(dy.kp s4.kp).append (.cons dz .nil)
 ·rintro ys σ' H' ⟨s3,_,dy⟩ pl hpl
  rw [hxl,List.take_length] at dy
  have s4:=z06 hpl (HO.lst ys)
  refine⟨pl,rfl,ys,.inl ⟨SqL.of z02,fun r hr=>?_⟩⟩
  have s5:=z06 hr (HO.tup ys)
  exact q _ _ (k1.trans (Same.keeps (s2.trans (s3.trans (s4.trans s5))))) (.tup z02 (dy.kp (s4.trans s5).kp))
end
section
theorem q5i:∀(x:Int) (l:List Int),∃lo hi,Hull (x::l) lo hi
 | x,[]=>⟨x,x,.head _,.head _,fun v hv=>by rw [List.mem_singleton.mp hv]; exact⟨Int.le_refl _,Int.le_refl _⟩⟩
 | x,y::l=>by
  obtain⟨lo,hi,h1,h2,h3⟩:=q5i y l
  have k:=h3 lo h1
  rcases Int.le_total x lo with e | e
  ·refine⟨x,hi,.head _,.tail _ h2,fun v hv=>?_⟩
   rcases List.mem_cons.mp hv with rfl | hv
   ·exact⟨Int.le_refl _,Int.le_trans e k.2⟩
   ·exact⟨Int.le_trans e (h3 v hv).1,(h3 v hv).2⟩
  ·rcases Int.le_total hi x with i | i
   ·refine⟨lo,x,.tail _ h1,.head _,fun v hv=>?_⟩
    rcases List.mem_cons.mp hv with rfl | hv
    ·exact⟨e,Int.le_refl _⟩
    ·exact⟨(h3 v hv).1,Int.le_trans (h3 v hv).2 i⟩
   ·refine⟨lo,hi,.tail _ h1,.tail _ h2,fun v hv=>?_⟩
    rcases List.mem_cons.mp hv with rfl | hv
    ·exact⟨e,i⟩
    ·exact h3 v hv
theorem q79(w:Wd)(a b c d:Int):∃lo hi,Hull (z34 w a b c d) lo hi:=q5i _ _
theorem q5e(a b:Int)(o:S):∃r,IsE .quo a b o r:=by
 cases o with
 | none=>exact⟨none,rfl⟩
 | some p=>
  obtain⟨lo,hi,h⟩:=q79 .quo a b p.1 p.2
  exact⟨_,lo,hi,rfl,h⟩
theorem q64{a b c d:Int}(hab:a<=b)(hcd:c<=d):∃r,stF .quo (some (a,b)) (some (c,d))=r/\IsS .quo a b c d r:=by
 obtain⟨r1,h1⟩:=q5e a b (bet c (mn d (-1)))
 obtain⟨r2,h2⟩:=q5e a b (bet (mx c 1) d)
 have h:=zze hab hcd h1 h2
 exact⟨_,zoi (s:=some (a,b)) (t:=some (c,d)) h,h⟩
theorem q2b{a b:Int}(hab:a<=b):stF .quo (some (a,b)) (some (0,0))=none:=by
 refine zoi (s:=some (a,b)) (t:=some (0,0)) (show IsS .quo a b 0 0 none from ?_)
 rintro v ⟨x,y,_,_,h1,h2,h3,_⟩
 exact h3 rfl (by omega)
theorem zvu{o y:Int}(ho:0<=o)(hy:y≠0) : -o - 1<=o.fdiv y/\o.fdiv y<=o:=by
 rcases(show 0 < y\/y < 0 by omega) with h | h
 ·rw [Int.fdiv_eq_ediv_of_nonneg _ (by omega)]
  have h1:=Int.ediv_nonneg ho (by omega:0<=y)
  have h2:=Int.ediv_le_self y ho
  omega
 ·rw [z8n _ _ h]
  have e1:(-o) / (-y) * (-y) <= -o:=Int.ediv_mul_le _ (by omega)
  have e2 : -o < ((-o) / (-y)+1) * (-y):=Int.lt_ediv_add_one_mul_self _ (by omega)
  generalize (-o) / (-y)=q at e1 e2
  have hz:1 <= -y:=by omega
  generalize -y=z at e1 e2 hz
  constructor
  ·rcases(show 0<=q+1\/q+1 < 0 by omega) with k | k
   ·omega
   ·have:(q+1) * z<=(q+1) * 1:=Int.mul_le_mul_of_nonpos_left (by omega) hz
    omega
  ·rcases(show q<=0\/0 < q by omega) with k | k
   ·omega
   ·have:q * 1<=q * z:=Int.mul_le_mul_of_nonneg_left hz (by omega)
    omega
theorem q2c{o lo hi:Int}(ho:0<=o)(hl:lo<=hi)(hz:(lo,hi)≠(0,0)):∃r:Int×Int,stF .quo (some (o,o)) (some (lo,hi))=some r/\-o - 1<=r.1/\r.1<=r.2/\r.2<=o:=by
 obtain⟨r,e,h⟩:=q64 (Int.le_refl o) hl
 have hv:∃y,lo<=y/\y<=hi/\y≠0:=by
  by_cases h0:lo=0
  ·refine⟨hi,hl,Int.le_refl _,fun z=>hz ?_⟩
   rw [h0,z]
  ·exact⟨lo,Int.le_refl _,hl,h0⟩
 obtain⟨y,y1,y2,y3⟩:=hv
 match r,e,h with
 | none,_,h=>exact absurd (⟨o,y,Int.le_refl _,Int.le_refl _,y1,y2,fun _=>y3,rfl⟩:Val .quo o o lo hi _) (h _)
 | some (p,q),e,⟨⟨x1,z1,a1,a2,_,_,a5,a6⟩,⟨x2,z2,b1,b2,_,_,b5,b6⟩,h3,_⟩=>
  refine⟨(p,q),e,?_⟩
  have e1:x1=o:=by omega
  have e2:x2=o:=by omega
  subst e1
  have k1:=zvu ho (a5 rfl)
  rw [e2] at b6
  have k2:=zvu ho (b5 rfl)
  have k3:=(h3 p ⟨_,z1,a1,a2,by assumption,by assumption,a5,a6⟩)
  have a6:p=Int.fdiv _ z1:=a6
  have b6:q=Int.fdiv _ z2:=b6
  simp only
  omega
theorem zyp{a b c d:Int}(hab:a<=b)(hcd:c<=d):stF .add (some (a,b)) (some (c,d))=some (a+c,b+d):=
 zoi (s:=some (a,b)) (t:=some (c,d)) (zbk (by decide) hab hcd (fun z=>by cases z) ⟨by simp[z34,Wd.worth],by simp[z34,Wd.worth],by simp only[z34,Wd.worth,List.mem_cons,List.not_mem_nil,or_false]; intro v hv; omega⟩)
theorem q63{a b c d:Int}(hab:a<=b)(hcd:c<=d):stF .sub (some (a,b)) (some (c,d))=some (a - d,b - c):=
 zoi (s:=some (a,b)) (t:=some (c,d)) (zbk (by decide) hab hcd (fun z=>by cases z) ⟨by simp[z34,Wd.worth],by simp[z34,Wd.worth],by simp only[z34,Wd.worth,List.mem_cons,List.not_mem_nil,or_false]; intro v hv; omega⟩)
theorem zv4{a b c d:Int}(hab:a<=b)(hcd:c<=d):stF .less (some (a,b)) (some (c,d))=some (if b < c then 1 else 0,if a < d then 1 else 0):=
 zoi (s:=some (a,b)) (t:=some (c,d)) (zbk (by decide) hab hcd (fun z=>by cases z) ⟨by simp[z34,Wd.worth],by simp[z34,Wd.worth],by simp only[z34,Wd.worth,List.mem_cons,List.not_mem_nil,or_false]; intro v hv; (repeat' split at hv)<;>(repeat' split)<;>omega⟩)
end
section
def inW(s:Int×Int):Prop:=-32768<=s.1/\s.1<=s.2/\s.2<=32767
theorem zj5{s:Int×Int}(h:inW s):zev (some s) (some zp4)=some s:=by
 obtain⟨a,b⟩:=s
 obtain⟨h1,h2,h3⟩:=h
 simp only at h1 h2 h3
 show bet (mx a (-32768)) (mn b 32767)=some (a,b)
 rw [show mx a (-32768)=a by unfold mx; rw [if_neg (by omega)],show mn b 32767=b by unfold mn; rw [if_neg (by omega)]]
 unfold bet
 rw [if_neg (by omega)]
theorem zg1{bk:Bk}{i:Int}(h:inW (i,i))(p:Pth)(ns:Nts):shS bk (.num i) p ns=(some (i,i),zzx ns p (i,i)):=by
 rw [shS]
 show(zev (some (i,i)) (some zp4),zzx ns p (i,i))=_
 rw [zj5 h]
theorem zlj{bk:Bk}{x:Str}{s:Int×Int}(e:look bk x=some s)(h:inW s)(p:Pth)(ns:Nts):shS bk (.nm x) p ns=(some s,zzx ns p s):=by
 rw [shS,e]
 show(zev (some s) (some zp4),zzx ns p s)=_
 rw [zj5 h]
theorem zwo{bk:Bk}{w:Wd}{a b:T}{p:Pth}{ns n1 n2:Nts}{s1 s2 r:Int×Int}(e1:shS bk a (p++[0]) ns=(some s1,n1))(e2:shS bk b (p++[1]) n1=(some s2,n2))(e:stF w (some s1) (some s2)=some r)(h:inW r):shS bk (.op w a b) p ns=(some r,zzx n2 p r):=by
 rw [shS,e1,e2]
 rw [if_neg (by simp)]
 show(zev (stF w (some s1) (some s2)) (some zp4),qb4 (stF w (some s1) (some s2)) p n2)=_
 rw [e,zj5 h]
 rfl
theorem q8o{bk:Bk}{w:Wd}{a b:T}{p:Pth}{ns n1 n2:Nts}{s1 s2:Int×Int}(e1:shS bk a (p++[0]) ns=(some s1,n1))(e2:shS bk b (p++[1]) n1=(some s2,n2))(e:stF w (some s1) (some s2)=none):shS bk (.op w a b) p ns=(none,n2):=by
 rw [shS,e1,e2]
 rw [if_neg (by simp)]
 show(zev (stF w (some s1) (some s2)) (some zp4),qb4 (stF w (some s1) (some s2)) p n2)=_
 rw [e]
 rfl
theorem zeh{bh:Bh}{hd:Hds}{x:Str}{t:T}{p:Pth}{bk:Bk}{st:NW}{s:Int×Int}{n1:Nts}(e:shS bk t (p++[0]) st.1=(some s,n1)):wkD bh hd (.set x t) p bk st=(some (zcl bk x s),(n1,st.2)):=by
 rw [wkD,e]
 rfl
theorem q5p{bh:Bh}{hd:Hds}{x:Str}{t:T}{p:Pth}{bk:Bk}{st:NW}{n1:Nts}(e:shS bk t (p++[0]) st.1=(none,n1)):wkD bh hd (.set x t) p bk st=(none,(n1,st.2)):=by
 rw [wkD,e]
 rfl
theorem z6v{bh:Bh}{hd:Hds}{d:D}{r:List D}{p:Pth}{i:Int}{bk:Bk}{st:NW}{o:Option Bk}{st':NW}(e:wkD bh hd d (p++[i]) bk st=(o,st')):wkB bh hd (d::r) p i (some bk) st=wkB bh hd r p (i+1) o st':=by
 rw [wkB,e]
theorem q5q{bh:Bh}{hd:Hds}{r:List D}{p:Pth}{i:Int}{st:NW}:wkB bh hd r p i none st=(none,st):=by
 cases r<;>rw [wkB]
theorem zku{bh:Bh}{hd:Hds}{p:Pth}{i:Int}{o:Option Bk}{st:NW}:wkB bh hd [] p i o st=(o,st):=by rw [wkB]
def b1(o:Int):List D:=[.set "b" (.nm "a"),.set "c" (.op .quo (.num o) (.nm "a")),.set "d" (.op .add (.nm "a") (.num 300))]
def qbx(A:Int×Int)(o:Int):Nts:=[([0,0],A),([1,0,0],(o,o)),([1,0,1],A)]
def ns1(A r:Int×Int)(o:Int):Nts:=[([0,0],A),([1,0,0],(o,o)),([1,0,1],A),([1,0],r),([2,0,0],A),([2,0,1],(300,300)),([2,0],(A.1+300,A.2+300))]
theorem qb8{A:Int×Int}{o:Int}(hA : -4<=A.1/\A.1<=A.2/\A.2<=99)(ho:2<=o/\o<=301)(hz:A≠(0,0)){r:Int×Int}(hr:stF .quo (some (o,o)) (some A)=some r)(hrw:inW r):walkB bhd [] [("a",A)] (b1 o)=(ns1 A r o,[]):=by
 have wA:inW A:=⟨by omega,hA.2.1,by omega⟩
 have wO:inW (o,o):=⟨by simp only; omega,by simp only; omega,by simp only; omega⟩
 have w3:inW (300,300):=⟨by decide,by decide,by decide⟩
 have w4:inW (A.1+300,A.2+300):=⟨by simp only; omega,by simp only; omega,by simp only; omega⟩
 have l0:look (z9z [("a",A)]) "a" = some A:=rfl
 have l1:look (zcl (z9z [("a",A)]) "b" A) "a" = some A:=rfl
 have l2:look (zcl (zcl (z9z [("a",A)]) "b" A) "c" r) "a" = some A:=rfl
 unfold walkB b1
 rw [z6v (zeh (zlj l0 wA _ _)),z6v (zeh (zwo (zg1 wO _ _) (zlj l1 wA _ _) hr hrw)),z6v (zeh (zwo (zlj l2 wA _ _) (zg1 w3 _ _) (zyp hA.2.1 (by decide)) w4)),zku]
 rfl
theorem q8e{A:Int×Int}{o:Int}(ho:2<=o/\o<=301)(hz:A=(0,0)):walkB bhd [] [("a",A)] (b1 o)=(qbx A o,[]):=by
 subst hz
 have wA:inW (0,0):=⟨by decide,by decide,by decide⟩
 have wO:inW (o,o):=⟨by simp only; omega,by simp only; omega,by simp only; omega⟩
 have l0:look (z9z [("a",((0,0):Int×Int))]) "a" = some (0,0):=rfl
 have l1:look (zcl (z9z [("a",((0,0):Int×Int))]) "b" (0,0)) "a" = some (0,0):=rfl
 unfold walkB b1
 rw [z6v (zeh (zlj l0 wA _ _)),z6v (q5p (q8o (zg1 wO _ _) (zlj l1 wA _ _) (q2b (Int.le_refl o)))),q5q]
 rfl
end
section
abbrev bkA(s:Int×Int):Bk:=[("a",s)]
theorem q8d{bh:Bh}{hd:Hds}{t:T}{b c:List D}{p:Pth}{bk:Bk}{st:NW}{s:S}{n1:Nts}{o1 o2 u1 u2:Option Bk}{st1 st2:NW}(e:shS bk t (p++[0]) st.1=(s,n1))(x1:z45 bh t s bk true=u1)(x2:z45 bh t s bk false=u2)(e1:wkB bh hd b (p++[1]) 0 u1 (n1,st.2)=(o1,st1))(e2:wkB bh hd c (p++[2]) 0 u2 st1=(o2,st2)):wkD bh hd (.ite t b c) p bk st=(q3s o1 o2,st2):=by
 subst x1 x2
 rw [wkD,e]
 simp only
 rw [e1]
 simp only
 rw [e2]
theorem q8c{bh:Bh}{hd:Hds}{t:T}{m:Int}{b:List D}{p:Pth}{bk hb:Bk}{st:NW}{s:S}{n1:Nts}{o1 u1:Option Bk}{st1:NW}(eh:z5b hd p bk=hb)(e:shS hb t (p++[0]) st.1=(s,n1))(x1:z45 bh t s hb true=u1)(e1:wkB bh hd b (p++[1]) 0 u1 (n1,st.2)=(o1,st1)):wkD bh hd (.whl t m b) p bk st=(z45 bh t s hb false,(st1.1,q22 st1.2 p (zyc bk o1))):=by
 subst x1
 rw [wkD,eh,e]
 simp only
 rw [e1]
theorem q05{g lo hi:Int}(h:lo < g)(hl:lo<=hi):bhd (.op .less (.nm "a") (.num g)) (bkA (lo,hi)) true=some (bkA (lo,mn hi (g - 1))):=by
 have e:bet lo (mn hi (g - 1))=some (lo,mn hi (g - 1)):=by unfold bet; rw [if_neg (by unfold mn; split<;>omega)]
 show(match bq1 .less (.nm "a") (lo,hi) (g,g) (bkA (lo,hi)) true with | some bk1=>bq2 .less (.num g) (lo,hi) bk1 true | none=>none)=_
 have e1:bq1 .less (.nm "a") (lo,hi) (g,g) (bkA (lo,hi)) true=some (bkA (lo,mn hi (g - 1))):=by
  show(bet lo (mn hi (g - 1))).map (zcl (bkA (lo,hi)) "a")=_
  rw [e]
  rfl
 rw [e1]
 rfl
theorem q72{g lo hi:Int}(h:g<=hi)(hl:lo<=hi):bhd (.op .less (.nm "a") (.num g)) (bkA (lo,hi)) false=some (bkA (mx lo g,hi)):=by
 have e:bet (mx lo g) hi=some (mx lo g,hi):=by unfold bet; rw [if_neg (by unfold mx; split<;>omega)]
 show(match bq1 .less (.nm "a") (lo,hi) (g,g) (bkA (lo,hi)) false with | some bk1=>bq2 .less (.num g) (lo,hi) bk1 false | none=>none)=_
 have e1:bq1 .less (.nm "a") (lo,hi) (g,g) (bkA (lo,hi)) false=some (bkA (mx lo g,hi)):=by
  show(bet (mx lo g) hi).map (zcl (bkA (lo,hi)) "a")=_
  rw [e]
  rfl
 rw [e1]
 rfl
abbrev q2(g:Int):T:=.op .less (.nm "a") (.num g)
def b2(g:Int):List D:=[.ite (q2 g) [.set "b" (.nm "a")] [.set "b" (.nm "a")]]
def ns2(lo g:Int):Nts:=[([0,0,0],(lo,g+4)),([0,0,1],(g,g)),([0,0],(0,1)),([0,1,0,0],(lo,g - 1)),([0,2,0,0],(g,g+4))]
theorem qb7{lo g:Int}(h1 : -4<=lo)(h2:lo < g)(h3:g<=20):walkB bhd [] [("a",(lo,g+4))] (b2 g)=(ns2 lo g,[]):=by
 have wA:inW (lo,g+4):=⟨by simp only; omega,by simp only; omega,by simp only; omega⟩
 have wG:inW (g,g):=⟨by simp only; omega,by simp only; omega,by simp only; omega⟩
 have w1:inW (0,1):=⟨by decide,by decide,by decide⟩
 have wB:inW (lo,g - 1):=⟨by simp only; omega,by simp only; omega,by simp only; omega⟩
 have wC:inW (g,g+4):=⟨by simp only; omega,by simp only; omega,by simp only; omega⟩
 have l0:look (z9z [("a",(lo,g+4))]) "a" = some (lo,g+4):=rfl
 have es:stF .less (some (lo,g+4)) (some (g,g))=some (0,1):=by
  rw [zv4 (by omega) (Int.le_refl _),if_neg (by omega),if_pos (by omega)]
 have eS:z45 bhd (q2 g) (some (0,1)) (z9z [("a",(lo,g+4))]) true=some (bkA (lo,g - 1)):=by
  have:z45 bhd (q2 g) (some (0,1)) (z9z [("a",(lo,g+4))]) true=bhd (q2 g) (bkA (lo,g+4)) true:=rfl
  rw [this]
  rw [q05 h2 (by omega),show mn (g+4) (g - 1)=g - 1 by unfold mn; rw [if_pos (by omega)]]
 have eN:z45 bhd (q2 g) (some (0,1)) (z9z [("a",(lo,g+4))]) false=some (bkA (g,g+4)):=by
  have:z45 bhd (q2 g) (some (0,1)) (z9z [("a",(lo,g+4))]) false=bhd (q2 g) (bkA (lo,g+4)) false:=rfl
  rw [this]
  rw [q72 (by omega) (by omega),show mx lo g=g by unfold mx; rw [if_pos (by omega)]]
 have l1:look (bkA (lo,g - 1)) "a" = some (lo,g - 1):=rfl
 have l2:look (bkA (g,g+4)) "a" = some (g,g+4):=rfl
 unfold walkB b2
 rw [z6v (q8d (zwo (zlj l0 wA _ _) (zg1 wG _ _) es w1) eS eN ((z6v (zeh (zlj l1 wB _ _))).trans zku) ((z6v (zeh (zlj l2 wC _ _))).trans zku)),zku]
 rfl
def b3(m:Int):List D:=[.set "a" (.num m),.set "b" (.op .sub (.nm "a") (.num 1))]
def ns3(m:Int):Nts:=[([0,0],(m,m)),([1,0,0],(m,m)),([1,0,1],(1,1)),([1,0],(m - 1,m - 1))]
theorem q5s{m:Int}(hd:Hds)(h1:100<=m)(h2:m<=30099):walkB bhd hd [] (b3 m)=(ns3 m,[]):=by
 have wM:inW (m,m):=⟨by simp only; omega,by simp only; omega,by simp only; omega⟩
 have w1:inW (1,1):=⟨by decide,by decide,by decide⟩
 have wN:inW (m - 1,m - 1):=⟨by simp only; omega,by simp only; omega,by simp only; omega⟩
 have l1:look (zcl (z9z []) "a" (m,m)) "a" = some (m,m):=rfl
 unfold walkB b3
 rw [z6v (zeh (zg1 wM _ _)),z6v (zeh (zwo (zlj l1 wM _ _) (zg1 w1 _ _) (q63 (Int.le_refl _) (Int.le_refl _)) wN)),zku]
 rfl
def b4(B E:Int):List D:=[.set "a" (.num B),.whl (q2 E) 20 [.set "a" (.op .add (.nm "a") (.num 1))]]
theorem zwe{hd:Hds}{B E L:Int}(h1:0<=B)(h2:B<=3)(h3:5<=E)(h4:E<=13)(h5:B<=L)(h6:L<=E+1)(hh:z5b hd [1] (bkA (B,B))=(bkA (B,L))):(walkB bhd hd [] (b4 B E)).2=[([1],(bkA (B,mn L (E - 1)+1)))]:=by
 have hm:mn L (E - 1)<=L/\mn L (E - 1)<=E - 1/\B<=mn L (E - 1):=by unfold mn; split<;>omega
 have wB:inW (B,B):=⟨by simp only; omega,by simp only; omega,by simp only; omega⟩
 have wL:inW (B,L):=⟨by simp only; omega,by simp only; omega,by simp only; omega⟩
 have wE:inW (E,E):=⟨by simp only; omega,by simp only; omega,by simp only; omega⟩
 have w1:inW (1,1):=⟨by decide,by decide,by decide⟩
 have wM:inW (B,mn L (E - 1)):=⟨by simp only; omega,by simp only; omega,by simp only; omega⟩
 have wN:inW (B+1,mn L (E - 1)+1):=⟨by simp only; omega,by simp only; omega,by simp only; omega⟩
 have l1:look (bkA (B,L)) "a" = some (B,L):=rfl
 have es:stF .less (some (B,L)) (some (E,E))=some (if L < E then 1 else 0,1):=by
  rw [zv4 h5 (Int.le_refl _),if_pos (show B < E by omega)]
 have wS:inW (if L < E then 1 else 0,1):=⟨by simp only; split<;>decide,by simp only; split<;>decide,by simp only; decide⟩
 have eS:z45 bhd (q2 E) (some (if L < E then 1 else 0,1)) (bkA (B,L)) true=some (bkA (B,mn L (E - 1))):=by
  have:z45 bhd (q2 E) (some (if L < E then 1 else 0,1)) (bkA (B,L)) true=bhd (q2 E) (bkA (B,L)) true:=by split<;>rfl
  rw [this]
  exact q05 (by omega) h5
 have l2:look (bkA (B,mn L (E - 1))) "a" = some (B,mn L (E - 1)):=rfl
 unfold walkB b4
 rw [z6v (zeh (zg1 wB _ _)),z6v (q8c hh (zwo (zlj l1 wL _ _) (zg1 wE _ _) es wS) eS ((z6v (zeh (zwo (zlj l2 wM _ _) (zg1 w1 _ _) (zyp hm.2.2 (by decide)) wN))).trans zku)),zku]
 show [([1],zxl (bkA (B,B)) (bkA (B+1,mn L (E - 1)+1)))]=_
 show [([1],(bkA (jn (B,B) (B+1,mn L (E - 1)+1))))]=_
 unfold jn
 rw [show mn (B,B).1 (B+1,mn L (E - 1)+1).1=B by unfold mn; simp only; rw [if_neg (by omega)],show mx (B,B).2 (B+1,mn L (E - 1)+1).2=mn L (E - 1)+1 by unfold mx; simp only; rw [if_pos (by omega)]]
end
section
def rwP(i:Int)(B L:Int):Dm:=.tup [.tup [.int i],.tup [.tup [.str "a",.int B,.int L]]]
theorem zii{ws hd:Hds}(h:¬ (ws.map (·.1)).Perm (hd.map (·.1))):heldB ws hd=false:=by
 unfold heldB
 rw [decide_eq_false h,Bool.false_and]
theorem q0n:heldB [] []=true:=by
 unfold heldB
 rw [decide_eq_true (List.Perm.refl _)]
 rfl
theorem q0m{p:Pth}{a b:Bk}:heldB [(p,a)] [(p,b)]=withinB a b:=by
 unfold heldB
 rw [decide_eq_true (show(List.map (fun x=>x.1) [(p,a)]).Perm (List.map (fun x=>x.1) [(p,b)]) from List.Perm.refl _)]
 show(true && ((match (if p=p then some a else none),(if p=p then some b else none) with | some a,some b=>withinB a b | _,_=>false) && true))=_
 rw [if_pos rfl,if_pos rfl]
 simp
theorem zyb(s t:Int×Int):withinB (bkA s) (bkA t)=z2k (some s) (some t):=by
 unfold withinB
 rw [decide_eq_true (show(List.map (fun x=>x.1) (bkA s)).Perm (List.map (fun x=>x.1) (bkA t)) from List.Perm.refl _)]
 show(true && ((match look (bkA s) "a",look (bkA t) "a" with | some s,some t=>z2k (some s) (some t) | _,_=>false) && true))=_
 show(true && (z2k (some s) (some t) && true))=_
 simp
theorem zya{B m L:Int}(h1:B<=m)(h2:B<=L):z2k (some (B,m)) (some (B,L))=decide (m<=L):=by
 unfold z2k
 show decide (bet (mx B B) (mn m L)=some (B,m))=_
 rw [show mx B B=B by unfold mx; rw [if_neg (by omega)]]
 by_cases h:m<=L
 ·rw [show mn m L=m by unfold mn; rw [if_neg (by omega)],decide_eq_true h]
  unfold bet
  rw [if_neg (by omega)]
  simp
 ·rw [show mn m L=L by unfold mn; rw [if_pos (by omega)],decide_eq_false h]
  unfold bet
  rw [if_neg (by omega)]
  simp
  omega
theorem q61:PyData.strOk ("a" : Str)=true:=by decide+kernel
theorem zuq(p:Pth)(hp:p≠[])(s:Int×Int):zqp [(p,bkA s)]:=by
 refine⟨show 1<=60 by decide,fun q hq=>?_,fun q hq=>?_⟩<;>(rw [List.mem_singleton] at hq; subst hq)
 ·exact hp
 ·exact⟨show 1 < 64 by decide,fun r hr=>by rw [List.mem_singleton] at hr; subst hr; exact q61⟩
theorem qae(p q:Pth)(hp:p≠[])(hq:q≠[])(s t:Int×Int):zqp [(p,bkA s),(q,bkA t)]:=by
 have h1:=zuq p hp s
 have h2:=zuq q hq t
 refine⟨show 2<=60 by decide,fun z hz=>?_,fun z hz=>?_⟩<;>(rw [List.mem_cons] at hz; rcases hz with hz | hz)
 ·exact h1.2.1 z (by rw [hz]; exact List.mem_singleton.mpr rfl)
 ·exact h2.2.1 z hz
 ·exact h1.2.2 z (by rw [hz]; exact List.mem_singleton.mpr rfl)
 ·exact h2.2.2 z hz
theorem zql:zqp []:=⟨by decide,fun _ h=>(by cases h),fun _ h=>(by cases h)⟩
theorem q6a{i B L:Int}(h1:0<=B)(h2:B<=L)(h3:L<=100):z6q (rwP i B L)=true:=by
 show((true && true) && ((((decide (-32768<=B) && decide (B<=32767)) && (decide (B<=L) && decide (L<=32767))) && true) && true))=true
 simp
 omega
def pr1(i B L:Int):Pth×List Rw:=([i],[("a",(B,L))])
theorem q31(B L:Int):zdp (.tup [rwP 1 B L])=[pr1 1 B L]:=rfl
theorem q8y(B L:Int):zdp (.tup [rwP 0 B L,rwP 1 B L])=[pr1 0 B L,pr1 1 B L]:=rfl
theorem zox(B L:Int):z5t (zdp (.tup [rwP 1 B L]))=[([1],bkA (B,L))]:=rfl
theorem q0o(B L:Int):z5t (zdp (.tup [rwP 0 B L,rwP 1 B L]))=[([0],bkA (B,L)),([1],bkA (B,L))]:=rfl
theorem zvq:z5t (zdp (.tup []))=[]:=rfl
theorem q3y{B L:Int}(h:B<=L){hd:Hds}(e:ze5 hd [1]=some (bkA (B,L))):z5b hd [1] (bkA (B,B))=bkA (B,L):=by
 unfold z5b
 rw [e]
 show bkA (jn (B,B) (B,L))=_
 unfold jn
 rw [show mn (B,B).1 (B,L).1=B by unfold mn; simp only; rw [if_neg (by omega)],show mx (B,B).2 (B,L).2=L by unfold mx; simp only; split<;>omega]
theorem zki(i B L:Int):zcw (rwP i B L):=by
 show(smallA _/\_)
 simp only[smallA,zcw,and_true,true_and,List.length_cons,List.length_nil]
 decide+kernel
variable{B E L:Int}(h1:0<=B)(h2:B<=3)(h3:5<=E)(h4:E<=13)(h5:B<=L)(h6:L<=E+1)
include h1 h2 h3 h4 h5 h6
theorem q3c:zqo bhd [] (b4 B E) (.tup [rwP 1 B L]):=by
 refine⟨⟨⟨zki _ _ _,trivial⟩,by simp⟩,fun _=>⟨?_,?_,?_,?_⟩⟩
 ·rw [zox]
  exact zuq _ (by simp) _
 ·rw [zox,zwe h1 h2 h3 h4 h5 h6 (q3y h5 rfl)]
  exact zuq _ (by simp) _
 ·rw [q31]
  exact(show 1<=900 by decide)
 ·intro r hr
  rw [q31,List.mem_singleton] at hr
  subst hr
  exact(show 1<=900 by decide)
theorem q91:papB bhd [] (b4 B E) (.tup [rwP 1 B L])=decide (L ≥ E):=by
 unfold papB
 rw [zox,zwe h1 h2 h3 h4 h5 h6 (q3y h5 rfl),q0m,zyb,zya (by unfold mn; split<;>omega) h5]
 rw [show zlp z6q (.tup [rwP 1 B L])=true by show((z6q (rwP 1 B L) && true) && true)=true; rw [q6a h1 h5 (by omega)]; rfl,Bool.true_and]
 by_cases h:L ≥ E
 ·rw [decide_eq_true h,decide_eq_true (by unfold mn; split<;>omega)]
 ·rw [decide_eq_false h,decide_eq_false (by unfold mn; split<;>omega)]
theorem q3b:zqo bhd [] (b4 B E) (.tup [rwP 0 B L,rwP 1 B L]):=by
 refine⟨⟨⟨zki _ _ _,zki _ _ _,trivial⟩,by simp⟩,fun _=>⟨?_,?_,?_,?_⟩⟩
 ·rw [q0o]
  exact qae _ _ (by simp) (by simp) _ _
 ·rw [q0o,zwe h1 h2 h3 h4 h5 h6 (q3y h5 rfl)]
  exact zuq _ (by simp) _
 ·rw [q8y]
  exact(show 2<=900 by decide)
 ·intro r hr
  rw [q8y] at hr
  simp only[List.mem_cons,List.not_mem_nil,or_false] at hr
  rcases hr with rfl | rfl<;>exact(show 1<=900 by decide)
theorem q90:papB bhd [] (b4 B E) (.tup [rwP 0 B L,rwP 1 B L])=false:=by
 unfold papB
 rw [q0o,zwe h1 h2 h3 h4 h5 h6 (q3y h5 rfl),zii (fun z=>by have:=z.length_eq; simp at this),Bool.and_false]
theorem q3d:zqo bhd [] (b4 B E) (.tup []):=by
 refine⟨⟨trivial,by decide⟩,fun _=>⟨zql,?_,by decide,fun _ h=>by cases h⟩⟩
 rw [zvq,zwe (L:=B) h1 h2 h3 h4 (Int.le_refl _) (by omega) (show z5b [] [1] (bkA (B,B))=_ from rfl)]
 exact zuq _ (by simp) _
theorem q92:papB bhd [] (b4 B E) (.tup [])=false:=by
 unfold papB
 rw [zvq,zwe (L:=B) h1 h2 h3 h4 (Int.le_refl _) (by omega) (show z5b [] [1] (bkA (B,B))=_ from rfl),zii (fun z=>by have:=z.length_eq; simp at this),Bool.and_false]
end
section
theorem zye(A:Int×Int)(o:Int):z78 isQ 2 [("a",A)] (b1 o):=by
 refine⟨fun d hd=>?_,by unfold b1; simp only[szB,D.sz,T.sz,List.length_cons,List.length_nil]; decide,by decide⟩
 simp only[b1,List.mem_cons,List.not_mem_nil,or_false] at hd
 rcases hd with rfl | rfl | rfl
 ·trivial
 ·exact⟨trivial,trivial⟩
 ·exact⟨trivial,trivial⟩
theorem q2y(g:Int):T.dp 6 (q2 g)/\isQ (q2 g):=⟨⟨trivial,trivial⟩,.inl rfl,trivial,trivial⟩
theorem zyd(A:Int×Int)(g:Int):z78 isQ 2 [("a",A)] (b2 g):=by
 have hb:zvf isQ 1 [.set "b" (.nm "a")]:=fun d hd=>by
  rw [List.mem_singleton] at hd
  subst hd
  trivial
 refine⟨fun d hd=>?_,by unfold b2; simp only[szB,D.sz,T.sz,List.length_cons,List.length_nil]; decide,by decide⟩
 rw [b2,List.mem_singleton] at hd
 subst hd
 exact⟨(q2y g).1,(q2y g).2,hb,hb⟩
theorem zqs(m:Int):z78 isQ 2 [] (b3 m):=by
 refine⟨fun d hd=>?_,by unfold b3; simp only[szB,D.sz,T.sz,List.length_cons,List.length_nil]; decide,by decide⟩
 simp only[b3,List.mem_cons,List.not_mem_nil,or_false] at hd
 rcases hd with rfl | rfl
 ·trivial
 ·exact⟨trivial,trivial⟩
theorem zkv(B E:Int):z78 isQ 2 [] (b4 B E):=by
 have hb:zvf isQ 1 [.set "a" (.op .add (.nm "a") (.num 1))]:=fun d hd=>by
  rw [List.mem_singleton] at hd
  subst hd
  exact⟨trivial,trivial⟩
 refine⟨fun d hd=>?_,by unfold b4; simp only[szB,D.sz,T.sz,List.length_cons,List.length_nil]; decide,by decide⟩
 simp only[b4,List.mem_cons,List.not_mem_nil,or_false] at hd
 rcases hd with rfl | rfl
 ·trivial
 ·exact⟨(q2y E).1,(q2y E).2,hb⟩
theorem qde{o:Int}(h:2<=o/\o<=301):okB 3 (b1 o):=by
 have ha:("a" : Str)∈zqq:=by decide+kernel
 have hb:("b" : Str)∈zqq:=by decide+kernel
 have hc:("c" : Str)∈zqq:=by decide+kernel
 have hd':("d" : Str)∈zqq:=by decide+kernel
 refine⟨show 3<=6 by decide,fun d hd=>?_⟩
 simp only[b1,List.mem_cons,List.not_mem_nil,or_false] at hd
 rcases hd with rfl | rfl | rfl
 ·exact⟨hb,ha⟩
 ·exact⟨hc,(⟨by omega,by omega⟩ : -32768<=o/\o<=32767),ha⟩
 ·exact⟨hd',ha,(⟨by decide,by decide⟩:(-32768:Int)<=300/\(300:Int)<=32767)⟩
theorem zx2{rows:List Rw}{b:List D}{ns:Nts}(h:walkB bhd [] rows b=(ns,[])):zqo bhd rows b (.tup [])/\papB bhd rows b (.tup [])=true:=by
 refine⟨⟨⟨trivial,by decide⟩,fun _=>⟨zql,?_,by decide,fun _ h=>by cases h⟩⟩,?_⟩
 ·rw [zvq,h]
  exact zql
 ·unfold papB
  rw [zvq,h,q0n]
  rfl
theorem q6p{m B L:Int}(h1:100<=m)(h2:m<=30099):zqo bhd [] (b3 m) (.tup [rwP 1 B L]):=by
 refine⟨⟨⟨zki _ _ _,trivial⟩,by simp⟩,fun _=>⟨?_,?_,?_,?_⟩⟩
 ·rw [zox]
  exact zuq _ (by simp) _
 ·rw [zox,q5s _ h1 h2]
  exact zql
 ·rw [q31]
  exact(show 1<=900 by decide)
 ·intro r hr
  rw [q31,List.mem_singleton] at hr
  subst hr
  exact(show 1<=900 by decide)
theorem q93{m B L:Int}(h1:100<=m)(h2:m<=30099):papB bhd [] (b3 m) (.tup [rwP 1 B L])=false:=by
 unfold papB
 rw [zox,q5s _ h1 h2,zii (fun z=>by have:=z.length_eq; simp at this),Bool.and_false]
def rt1(o:Int):List RT:=[([0,0],.nm "a"),([1,0],.op .quo (.num o) (.nm "a")),([1,0,0],.num o),([1,0,1],.nm "a"),([2,0],.op .add (.nm "a") (.num 300)),([2,0,0],.nm "a"),([2,0,1],.num 300)]
theorem q4o(o:Int):zcv (b1 o)=rt1 o:=rfl
def q1w(A:Int×Int):Int:=if A.2<=7 then 4 else 8
theorem zcm{a b c d:Int}(h:a<=b):z2k (some (a,b)) (some (c,d))=decide (c<=a/\b<=d):=by
 unfold z2k
 show decide (bet (mx a c) (mn b d)=some (a,b))=_
 apply decide_eq_decide.mpr
 unfold bet mx mn
 constructor
 ·intro e
  by_cases k1:c > a
  ·rw [if_pos k1] at e
   generalize (if d < b then d else b)=m at e
   by_cases k3:c > m
   ·rw [if_pos k3] at e
    cases e
   ·rw [if_neg k3] at e
    have:=congrArg Prod.fst (Option.some.inj e)
    simp only at this
    omega
  ·rw [if_neg k1] at e
   by_cases k2:d < b
   ·rw [if_pos k2] at e
    split at e
    ·cases e
    ·have e:=Option.some.inj e
     have:=congrArg Prod.snd e
     simp only at this
     omega
   ·omega
 ·rintro⟨h1,h2⟩
  rw [if_neg (show ¬ c > a by omega),if_neg (show ¬ d < b by omega),if_neg (by omega)]
theorem q5n{A:Int×Int}(hA : -4<=A.1/\A.1<=A.2/\A.2<=99):zdo (some A)=q1w A:=by
 obtain⟨a,b⟩:=A
 simp only at hA
 unfold zdo q1w
 rw [zcm hA.2.1,zcm hA.2.1]
 simp only
 by_cases h:b<=7
 ·rw [if_pos h,if_pos (decide_eq_true (by omega))]
 ·rw [if_neg h,if_neg (by rw [decide_eq_false (by omega)]; decide),if_pos (decide_eq_true (by omega))]
theorem qaf{A:Int×Int}(hA : -4<=A.1/\A.1<=A.2/\A.2<=99):zdo (some (A.1+300,A.2+300))=16:=by
 unfold zdo
 rw [zcm (by omega),zcm (by omega),if_neg (by rw [decide_eq_false (by omega)]; decide),if_neg (by rw [decide_eq_false (by omega)]; decide)]
def zp3(A:Int×Int):List Dm:=if A.1<=0/\0<=A.2 then [.str "zero"] else []
theorem q8b{A:Int×Int}:(if z2k (some (0,0)) (some A) then [Dm.str "zero"] else [])=zp3 A:=by
 unfold zp3
 rw [show some A=some (A.1,A.2) from rfl,zcm (Int.le_refl _)]
 by_cases h:A.1<=0/\0<=A.2
 ·rw [if_pos h,decide_eq_true h,if_pos rfl]
 ·rw [if_neg h,decide_eq_false h,if_neg (by decide)]
theorem zvc{s:Int×Int}(h:inW s):z98 (some s)=[]:=by
 unfold z98 z2k
 rw [zj5 h,decide_eq_true rfl,if_pos rfl]
end
section
theorem q2e{A r:Int×Int}{o:Int}:∀x∈zcv (b1 o),x.1.length<=100/\∀y z,x.2=.op .quo y z->(z43 (ns1 A r o) x.1).isSome->(z43 (ns1 A r o) (x.1++[1])).isSome:=by
 rw [q4o]
 intro x hx
 simp only[rt1,List.mem_cons,List.not_mem_nil,or_false] at hx
 rcases hx with rfl | rfl | rfl | rfl | rfl | rfl | rfl
 ·exact⟨show 2<=100 by decide,fun y z e=>by cases e⟩
 ·exact⟨show 2<=100 by decide,fun y z e _=>rfl⟩
 ·exact⟨show 3<=100 by decide,fun y z e=>by cases e⟩
 ·exact⟨show 3<=100 by decide,fun y z e=>by cases e⟩
 ·exact⟨show 2<=100 by decide,fun y z e=>by cases e⟩
 ·exact⟨show 3<=100 by decide,fun y z e=>by cases e⟩
 ·exact⟨show 3<=100 by decide,fun y z e=>by cases e⟩
theorem zyq{A:Int×Int}{o:Int}:∀x∈zcv (b1 o),x.1.length<=100/\∀y z,x.2=.op .quo y z->(z43 (qbx A o) x.1).isSome->(z43 (qbx A o) (x.1++[1])).isSome:=by
 rw [q4o]
 intro x hx
 simp only[rt1,List.mem_cons,List.not_mem_nil,or_false] at hx
 rcases hx with rfl | rfl | rfl | rfl | rfl | rfl | rfl
 ·exact⟨show 2<=100 by decide,fun y z e=>by cases e⟩
 ·exact⟨show 2<=100 by decide,fun y z e _=>rfl⟩
 ·exact⟨show 3<=100 by decide,fun y z e=>by cases e⟩
 ·exact⟨show 3<=100 by decide,fun y z e=>by cases e⟩
 ·exact⟨show 2<=100 by decide,fun y z e=>by cases e⟩
 ·exact⟨show 3<=100 by decide,fun y z e=>by cases e⟩
 ·exact⟨show 3<=100 by decide,fun y z e=>by cases e⟩
def pR(p:Pth)(i:Int)(m:List Dm):Dm:=.tup [pathD p,.int i,.tup m]
end
section
variable{P:Program}{w:World}{K:PySem.W.Frag}{mg:Str->Option Value}{base:Heap}{f:Addr}{fd:FuncData}
theorem slK{X:Cx}{r:PySem.W.Frag->V->Option Int->Option Int->Hp->VK->Prop}{K:PySem.W.Frag}(h:SlR X (r X.K))(e:X.K=K):SlR X (r K):=e ▸ h
theorem zfn{x:DX}{σ : St}{H:Hp}{Q:VK}(ρ : Nat->Dm){vo:List Nat}(e:Env ρ σ H vo [])(h:x.chk vo []=true)(q:∀v H',Same H H'->Dt H' v (x.val ρ)->Q v H'):tDX x σ H Q:=⟨ρ,e.fit h,q⟩
def zew:List (Pth×Dm)->Pth->Option Dm
 | [],_=>none
 | q::r,p=>if q.1=p then some q.2 else zew r p
theorem q6o{H:Hp}{kvs:List (List Key×V)}{l:List (Pth×Dm)}(h:Paired (fun(kv:List Key×V) (r:Pth×Dm)=>kv.1=r.1.map Sum.inl/\Dt H kv.2 r.2) kvs l)(p:Pth):(zew l p=none/\zns kvs (z81 p)=none)\/∃d v,zew l p=some d/\zns kvs (z81 p)=some v/\Dt H v d:=by
 induction h with
 | nil=>exact .inl ⟨rfl,rfl⟩
 | cons rr _ ih=>
  rename_i a q _ _ _
  obtain⟨e,d⟩:=rr
  by_cases hx:q.1=p
  ·refine .inr ⟨q.2,a.2,?_,zay (by rw [e,hx]; rfl),d⟩
   rw [zew,if_pos hx]
  ·rw [zaz (by rw [e]; intro z; exact hx (zb5 z))]
   rw [zew,if_neg hx]
   exact ih
def zzd(ns:Nts):List RT->List (Pth×Int×List Dm)
 | []=>[]
 | r::l=>if(z43 ns r.1).isSome then(r.1,zdo (zev (z43 ns r.1) (some zp4)),z98 (z43 ns r.1)++zou ns r.1 r.2)::zzd ns l else zzd ns l
theorem zor(ns:Nts):∀l:List RT,ztk ns l=(zzd ns l).map fun r=>pR r.1 r.2.1 r.2.2
 | []=>rfl
 | r::l=>by
  have ih:=zor ns l
  unfold ztk at ih |-
  rw [zzd]
  by_cases h:(z43 ns r.1).isSome=true
  ·rw [List.filter_cons_of_pos (p:=fun r:RT=>(z43 ns r.1).isSome) h,List.map_cons,ih,if_pos h,List.map_cons]
   rfl
  ·rw [List.filter_cons_of_neg (p:=fun r:RT=>(z43 ns r.1).isSome) h,ih,if_neg h]
def qas(lo hi o:Int):Nat->Dm
 | 1=>.int lo
 | 3=>.int hi
 | 4=>T.enc (.nm "a")
 | 5=>T.enc (.num o)
 | 6=>.tup (zko (b1 o))
 | _=>.non
theorem q7f{ρ : Nat->Dm}{σ : St}{H:Hp}{i j:Nat}{v w:V}(e1 : σ[i]?=some (some v))(e2 : σ[j]?=some (some w))(d1:Dt H v (ρ i))(d2:Dt H w (ρ j)):Env ρ σ H [i,j] []:=⟨fun k h=>by
 simp only[List.mem_cons,List.not_mem_nil,or_false] at h
 rcases h with rfl | rfl
 ·exact⟨_,e1,d1⟩
 ·exact⟨_,e2,d2⟩,fun _ h=>(by cases h)⟩
theorem qds{ρ : Nat->Dm}{σ : St}{H:Hp}{i j l:Nat}{v w u:V}(e1 : σ[i]?=some (some v))(e2 : σ[j]?=some (some w))(e3 : σ[l]?=some (some u))(d1:Dt H v (ρ i))(d2:Dt H w (ρ j))(d3:Dt H u (ρ l)):Env ρ σ H [i,j,l] []:=⟨fun k h=>by
 simp only[List.mem_cons,List.not_mem_nil,or_false] at h
 rcases h with rfl | rfl | rfl
 ·exact⟨_,e1,d1⟩
 ·exact⟨_,e2,d2⟩
 ·exact⟨_,e3,d3⟩,fun _ h=>(by cases h)⟩
def q2n(r:Pth×Int×List Dm):Pth×Dm:=(r.1,.tup [.int r.2.1,.tup r.2.2])
theorem qbq{A:Int×Int}{o:Int}(hA : -4<=A.1/\A.1<=A.2/\A.2<=99)(ho:2<=o/\o<=301):∃(nsx:Nts) (R:List (Pth×Int×List Dm)),walkB bhd [] [("a",A)] (b1 o)=(nsx,[])/\(∀x∈zcv (b1 o),x.1.length<=100/\∀y z,x.2=.op .quo y z->(z43 nsx x.1).isSome->(z43 nsx (x.1++[1])).isSome)/\zzd nsx (zcv (b1 o))=R/\(R.map (·.1)).Nodup/\R.length<=7/\
  zew (R.map q2n) [0,0]=some (.tup [.int (q1w A),.tup []])/\(A=(0,0)->zew (R.map q2n) [1,0]=none/\zew (R.map q2n) [2,0]=none)/\(A≠(0,0)->(∃b,zew (R.map q2n) [1,0]=some (.tup [.int b,.tup (zp3 A)]))/\zew (R.map q2n) [2,0]=some (.tup [.int 16,.tup []])):=by
 have wA:inW A:=⟨by omega,hA.2.1,by omega⟩
 have w4:inW (A.1+300,A.2+300):=⟨by simp only; omega,by simp only; omega,by simp only; omega⟩
 by_cases hz:A=(0,0)
 ·refine⟨_,_,q8e ho hz,zyq,rfl,?_,?_,?_,fun _=>⟨rfl,rfl⟩,fun z=>absurd hz z⟩
  ·show([[0,0],[1,0,0],[1,0,1]]:List Pth).Nodup
   decide
  ·exact(show 3<=7 by decide)
  ·show some (Dm.tup [.int (zdo (zev (some A) (some zp4))),.tup (z98 (some A)++[])])=_
   rw [zj5 wA,zvc wA,q5n hA]
   rfl
 ·obtain⟨r,er,r1,r2,r3⟩:=q2c (o:=o) (lo:=A.1) (hi:=A.2) (by omega) hA.2.1 hz
  have hr:inW r:=⟨by omega,r2,by omega⟩
  refine⟨_,_,qb8 hA ho hz er hr,q2e,rfl,?_,?_,?_,fun z=>absurd z hz,fun _=>⟨⟨zdo (some r),?_⟩,?_⟩⟩
  ·show([[0,0],[1,0],[1,0,0],[1,0,1],[2,0],[2,0,0],[2,0,1]]:List Pth).Nodup
   decide
  ·exact(show 7<=7 by decide)
  ·show some (Dm.tup [.int (zdo (zev (some A) (some zp4))),.tup (z98 (some A)++[])])=_
   rw [zj5 wA,zvc wA,q5n hA]
   rfl
  ·show some (Dm.tup [.int (zdo (zev (some r) (some zp4))),.tup (z98 (some r)++(if z2k (some (0,0)) (some A) then [Dm.str "zero"] else []))])=_
   rw [zj5 hr,zvc hr,q8b]
   rfl
  ·show some (Dm.tup [.int (zdo (zev (some (A.1+300,A.2+300)) (some zp4))),.tup (z98 (some (A.1+300,A.2+300))++[])])=_
   rw [zj5 w4,zvc w4,qaf hA]
   rfl
def PcI(U:Hp)(R:List (Pth×Int×List Dm))(i:Nat)(ys:List V)(σ':St)(H':Hp):Prop:=Same U H'/\(∃t,σ'=[t])/\DtA H' ys (((R.take i).map q2n).map q86)/\i<=R.length
theorem z8p{U:Hp}{pD:Addr}{kvs:List (List Key×V)}{l:List (Pth×Dm)}(eD:U pD=some (.dT kvs))(pr:Paired (fun(kv:List Key×V) (r:Pth×Dm)=>kv.1=r.1.map Sum.inl/\Dt U kv.2 r.2) kvs l){y:V}{p:Pth}(dy:Dt U y (pathD p)):(zew l p=none/\DGet U pD y none)\/∃d v,zew l p=some d/\DGet U pD y (some v)/\Dt U v d:=by
 obtain⟨b,xs,rfl,hb,db⟩:=dy.tupI
 have e:=z77 db
 subst e
 have g:=DGet.t eD (k:=z81 p) (b:=b) (by rw [z6f]; exact hb)
 rcases q6o pr p with⟨h1,h2⟩ | ⟨d,v,h1,h2,h3⟩
 ·rw [h2] at g
  exact .inl ⟨h1,g⟩
 ·rw [h2] at g
  exact .inr ⟨d,v,h1,g,h3⟩
theorem z9l{U U':Hp}{kvs:List (List Key×V)}{l:List (Pth×Dm)}(s:Same U U')(pr:Paired (fun(kv:List Key×V) (r:Pth×Dm)=>kv.1=r.1.map Sum.inl/\Dt U kv.2 r.2) kvs l):Paired (fun(kv:List Key×V) (r:Pth×Dm)=>kv.1=r.1.map Sum.inl/\Dt U' kv.2 r.2) kvs l:=Paired.mapP pr fun _ _ z=>⟨z.1,z.2.kp s.kp⟩
theorem q0t(n:Nat):Fine (n+1) (.tup []):=zgv fun d hd=>by cases hd
theorem zs5(b:Int):Fine 2 (.tup [.int b,.tup []]):=zgv fun d hd=>by
 simp only[List.mem_cons,List.not_mem_nil,or_false] at hd
 rcases hd with rfl | rfl
 ·exact zq3 _ _
 ·exact q0t _
theorem q0v{H:Hp}{x y:V}{b:Int}(dx:Dt H x (.tup [.int b,.tup []]))(dy:Dt H y (.tup [.int b,.tup []])):EqD H x y true:=
 ⟨_,_,dx,dy,(zs5 b).eq (by decide),(zs5 b).eq (by decide),by simp[Dm.dat,zck,PyData.eqv,PyData.eqvAll]⟩
theorem zs3(A:Int×Int):Fine 1 (.tup (zp3 A)):=by
 refine zgv fun d hd=>?_
 unfold zp3 at hd
 split at hd
 ·rw [List.mem_singleton] at hd
  subst hd
  exact q40 _ (by decide+kernel)
 ·cases hd
theorem q7d{H:Hp}{x y:V}{A:Int×Int}(dx:Dt H x (.tup (zp3 A)))(dy:Dt H y (.tup (zp3 A))):EqD H x y true:=
 ⟨_,_,dx,dy,(zs3 A).eq (by decide),(zs3 A).eq (by decide),by unfold zp3; split<;>simp[Dm.dat,zck,PyData.eqv,PyData.eqvAll]⟩
theorem zs4(a b:Int):Fine 1 (.tup [.int a,.int b]):=zgv fun d hd=>by
 simp only[List.mem_cons,List.not_mem_nil,or_false] at hd
 rcases hd with rfl | rfl<;>exact zq3 _ _
theorem zit{H:Hp}{x y:V}{a b c d:Int}(dx:Dt H x (.tup [.int a,.int b]))(dy:Dt H y (.tup [.int c,.int d])):EqD H x y (decide ((a,b)=(c,d))):=
 ⟨_,_,dx,dy,(zs4 a b).eq (by decide),(zs4 c d).eq (by decide),by simp[Dm.dat,zck,PyData.eqv,PyData.eqvAll]; rfl⟩
theorem zp7{t1 t2:TT}{a b:TS}{D:Ends}{σ : St}{H:Hp}(h:∀Y Z:Hp->Prop,(Y=fun H1=>a D σ H1)->(Z=fun H1=>zt6 t2 a b D σ H1)->t1 σ H (fun c H1=>if c=true then Y H1 else Z H1)):zt6 (tOr t1 t2) a b D σ H:=by
 have:=h _ _ rfl rfl
 unfold zt6 at this
 unfold zt6 tOr
 simpa using this
theorem zux{t1 t2:TT}{a b:TS}{D:Ends}{σ : St}{H:Hp}(h:∀Y Z:Hp->Prop,(Y=fun H1=>zt6 t2 a b D σ H1)->(Z=fun H1=>b D σ H1)->t1 σ H (fun c H1=>if c=true then Y H1 else Z H1)):zt6 (q85 t1 t2) a b D σ H:=by
 have:=h _ _ rfl rfl
 unfold zt6 at this
 unfold zt6 q85
 simpa using this
theorem Keeps.seq{K:PySem.W.Frag}{H H':Hp}{a:Addr}{xs:List V}(e:Keeps H H')(h:SqL K H a xs):SqL K H' a xs:=by
 rcases h with(h | ⟨o,h⟩) | h
 ·exact .inl (.inl (e.l _ _ h))
 ·exact .inl (.inr ⟨o,e.a _ _ (by rintro(⟨_,z⟩ | ⟨_,z⟩ | ⟨_,_,z⟩ | ⟨_,_,z⟩ | ⟨_,_,_,z⟩)<;>cases z) h⟩)
 ·exact .inr h
end
section
variable{P:Program}{w:World}{K:PySem.W.Frag}{mg:Str->Option Value}{base:Heap}{f:Addr}{fd:FuncData}
def q21(ns:Nts)(p:Pth):Pth×Dm:=(p,z6u (z43 ns p))
def ScI(U:Hp)(ns:Nts)(ps:List Pth)(i:Nat)(ys:List V)(σ':St)(H':Hp):Prop:=Same U H'/\(∃t1 t2 t3,σ'=[t1,t2,t3])/\DtA H' ys (((ps.take i).map (q21 ns)).map q86)/\i<=ps.length
theorem zoo{ns:Nts}{ps:List Pth}{l:Addr}{vs:List V}{H:Hp}{Q':VK}(hl:H l=some (.lst vs))(dv:DtA H vs (ps.map (q8s ns)))(hm:∀p∈ps,∃s,z43 ns p=some s)(h60:ps.length<=60)(nd:ps.Nodup)
  (q:∀(pD:Addr) (kvs:List (List Key×V)) (U:Hp),Same H U->U pD=some (.dT kvs)->Paired (fun(kv:List Key×V) (r:Pth×Dm)=>kv.1=r.1.map Sum.inl/\Dt U kv.2 r.2) kvs (ps.map (q21 ns))->Q' (.ref pD) U) :
  zfm (Itl K l) (q7b K 3 (zq2 (zci 0) (zq2 (zci 1) (zq2 (zci 2) q88)))) q5v (tDX (DX.tup [DX.var 0,DX.tup [DX.var 1,DX.var 2]])) (fun x H1=>q52 [x] H1 Q') [none,none,none] H:=by
 have hvl:vs.length=ps.length:=by rw [dv.length,List.length_map]
 refine znb (K:=K) (a:=l) (xs:=vs) (ScI H ns ps) ⟨Same.refl _,⟨_,_,_,rfl⟩,.nil,Nat.zero_le _⟩ (z10 (by omega)) ?_ ?_ ?_ ?_
 ·rintro i ys σ' H' ⟨_,_,d,hi⟩
  rw [d.length,List.length_map,List.length_map,List.length_take]
  omega
 ·rintro i ys σ' H' _ ⟨s3,_⟩
  exact SqL.of (s3 _ _ hl)
 ·rintro i ys x σ' H' hx ⟨s3,⟨t1,t2,t3,rfl⟩,d,hi⟩
  obtain⟨p,hp,dp⟩:=zj6 dv hx
  obtain⟨sv,hsv⟩:=hm p (List.mem_of_getElem? hp)
  have dp:=dp.kp s3.kp
  unfold q8s at dp
  rw [hsv] at dp
  obtain⟨pp,y0,y1,y2,rfl,hpp,u0,u1,u2⟩:=q8h dp
  walk_at "ry"
  refine⟨_,SqT.of hpp,rfl,_,_,rfl,_,_,rfl,_,_,rfl,rfl,?_⟩
  refine⟨fun i=>if i=0 then pathD p else if i=1 then .int sv.1 else .int sv.2,?_,fun z H2 s4 dz=>?_⟩
  ·simp only[DX.Fit,FitA]
   exact⟨by decide,⟨_,rfl,u0⟩,⟨by decide,⟨_,rfl,u1⟩,⟨_,rfl,u2⟩,trivial⟩,trivial⟩
  ·refine⟨s3.trans s4,⟨_,_,_,rfl⟩,?_,(List.getElem?_eq_some_iff.mp hp).1⟩
   rw [z5j hp,List.map_append,List.map_append]
   refine DtA.append (DtA.kp s4.kp d) (.cons ?_ .nil)
   unfold q21
   rw [hsv]
   exact dz
 ·rintro ys σ' H' ⟨s3,_,d,hi⟩ pl hpl
  rw [hvl,List.take_length] at d
  have t1:=z06 hpl (HO.lst ys)
  refine⟨pl,ys,ps.map (q21 ns),rfl,z02,DtA.kp t1.kp d,(show((ps.map (q21 ns)).map fun x=>x.1).Nodup by rw [List.map_map,show((fun x:Pth×Dm=>x.1) ∘ q21 ns)=id from rfl,List.map_id]; exact nd),by rw [List.length_map]; omega,fun pD kvs hpD pr=>?_⟩
  have t2:=z06 hpD (HO.dT kvs)
  exact q pD kvs _ (s3.trans (t1.trans t2)) z02 (Paired.mapP pr fun _ _ z=>⟨z.1,z.2.kp t2.kp⟩)
end
section
variable{P:Program}{w:World}{K:PySem.W.Frag}{mg:Str->Option Value}{base:Heap}{f:Addr}{fd:FuncData}
theorem dx0{x:DX}{σ : St}{H:Hp}{Q:VK}(h:x.chk [] []=true)(q:∀v H',Same H H'->Dt H' v (x.val fun _=>.non)->Q v H'):tDX x σ H Q:=zfn (fun _=>.non) (vo:=[]) ⟨fun _ h=>(by cases h),fun _ h=>(by cases h)⟩ h q
theorem zpm{U:Hp}{p:Addr}(hp:U p=none)(a b:Int):Same U (upd U p (HO.tup [V.int a,V.int b]))/\Dt (upd U p (HO.tup [V.int a,V.int b])) (.ref p) (.tup [.int a,.int b]):=⟨z06 hp _,.tup z02 (.cons (.int _) (.cons (.int _) .nil))⟩
theorem g_i{g:TG}{x:V}{σ : St}{H:Hp}{b:St->Hp->Prop}(h:∀N:St->Hp->Prop,N=b->g x σ H N):g x σ H b:=h _ rfl
theorem zm7{ns:Nts}{p:Pth}:∀{ps:List Pth},p∈ps->zew (ps.map (q21 ns)) p=some (z6u (z43 ns p))
 | q::ps,h=>by
  rw [List.map_cons,zew]
  by_cases e:q=p
  ·subst e
   rw [if_pos (show(q21 ns q).1=q from rfl)]
   rfl
  ·rw [if_neg (show ¬ (q21 ns q).1=p from e)]
   exact zm7 ((List.mem_cons.mp h).resolve_left fun z=>e z.symm)
theorem qb5{U:Hp}{pD:Addr}{kvs:List (List Key×V)}{ns:Nts}{ps:List Pth}(eD:U pD=some (.dT kvs))(pr:Paired (fun(kv:List Key×V) (r:Pth×Dm)=>kv.1=r.1.map Sum.inl/\Dt U kv.2 r.2) kvs (ps.map (q21 ns))){p:Pth}{y:V}{a b:Int}(hp:p∈ps)(hl:z43 ns p=some (a,b))(dy:Dt U y (pathD p)):∃v,DGet U pD y (some v)/\Dt U v (.tup [.int a,.int b]):=by
 rcases z8p eD pr dy with⟨z,_⟩ | ⟨d,v,z,g,dv⟩
 ·rw [zm7 hp] at z
  cases z
 ·rw [zm7 hp,hl] at z
  cases z
  exact⟨v,g,dv⟩
def qdc(g:Int):Nat->Dm
 | 4=>T.enc (.nm "a")
 | 9=>.int g
 | _=>.non
def qdb(m:Int):Nat->Dm
 | 4=>T.enc (.nm "a")
 | 13=>.int m
 | _=>.non
def qcx(B E:Int):Nat->Dm
 | 4=>T.enc (.nm "a")
 | 15=>.int B
 | 16=>.int E
 | 17=>.tup [D.enc (.set "a" (.op .add (.nm "a") (.num 1)))]
 | _=>.non
theorem qdr{ρ : Nat->Dm}{σ : St}{H:Hp}{i j l m:Nat}{v w u x:V}(e1 : σ[i]?=some (some v))(e2 : σ[j]?=some (some w))(e3 : σ[l]?=some (some u))(e4 : σ[m]?=some (some x))(d1:Dt H v (ρ i))(d2:Dt H w (ρ j))(d3:Dt H u (ρ l))(d4:Dt H x (ρ m)):Env ρ σ H [i,j,l,m] []:=⟨fun k h=>by
 simp only[List.mem_cons,List.not_mem_nil,or_false] at h
 rcases h with rfl | rfl | rfl | rfl
 ·exact⟨_,e1,d1⟩
 ·exact⟨_,e2,d2⟩
 ·exact⟨_,e3,d3⟩
 ·exact⟨_,e4,d4⟩,fun _ h=>(by cases h)⟩
def LpI(V0:Hp)(st:List (Option V))(B:Int)(i:Nat)(σ : St)(H:Hp):Prop:=Keeps V0 H/\∃t u,σ = st++[t,u]/\(0 < i->∃x L,u=some x/\Dt H x (.tup [rwP 1 B L]))
def qcw(B L:Int):Nat->Dm
 | 15=>.int B
 | 19=>.int L
 | _=>.non
def q2f(K:PySem.W.Frag):Sp:=fun vs H Q _=>∃(a:Addr) (ns:List Int),vs=[.ref a]/\SqL K H a (ns.map V.int)/\ns.length<=63/\∀H',Q (.bl true) H'
theorem q9c(F:Fun K "law" "law" z28 f fd) (b_range:mg "range" = none) (b_dict:mg "dict" = none) (b_min:mg "min" = none) (c_law_pick:Callee P w K mg base "_law_pick" ["_law_script","_law_k","_law_many"] 2 (q4r K)) (c_shown:Callee P w K mg base "shown" ["program","paper"] 22 (zyt isQ bhd 2)) (c_plan_by:Callee P w K mg base "plan_by" ["program","paper"] 22 (q4q isQ bhd 2)) (c_is_paper:Callee P w K mg base "is_paper" ["program","thing"] 21 (zyz isQ bhd 2)):FnOk P w K mg base CX0 23 f fd ["_law_script"] (q2f K):=by
 refine F.ok sc_law (fun vs H Q E h=>?_) (fun cdv A outer s H vs Q E hr h=>?_)
 ·obtain⟨a,ns,rfl,_⟩:=h
  rfl
 obtain⟨a,ns,rfl,hS,h63,q⟩:=h
 refine⟨_,(z01 (q54 (i:=1) (j:=2) rfl sc_law.nd rfl rfl (by decide) zk6 zic (z07 (z2g zlt (z0g c_law_pick hr (by omega) (z07 (z00 (i:=0) rfl z1w z16 z17) (z07 z03 (z07 z03 pa_nil))) z2p z4x) z03) (z07 (z0g c_law_pick hr (by omega) (z07 (z00 (i:=0) rfl z1w z16 z17) (z07 z03 (z07 z03 pa_nil))) z2p z4x) pa_nil)) (by rfl))
 (z01 (q6h (i:=3) (j:=4) (k:=5) rfl sc_law.nd rfl rfl rfl (by decide) (by decide) (by decide) zie zid zgm (z07 (z54 (z8s rfl) zxo b_min zjk (z07 z03 (z07 (z2g z82 (z00 (i:=1) rfl z27 z4y z50) (z00 (i:=2) rfl zhf zsi zss)) pa_nil)) zj4 zjc) (z07 (z0h (z0c z24 (z0c z24 z0b))) (z07 (z1a (z07 z2s (z07 (z2g z82 z03 (z0g c_law_pick hr (by omega) (z07 (z00 (i:=0) rfl z1w z16 z17) (z07 z03 (z07 z03 pa_nil))) z2p z4x)) pa_nil))) pa_nil))) (by rfl))
 (z01 (z11 (i:=6) sc_law.nd rfl zgh (z0h (z0c (z0h (z0c z24 (z0c z24 (z0c (z2u (z00 (i:=4) rfl z1f z3e z3f)) z0b)))) (z0c (z0h (z0c z24 (z0c z24 (z0c (z0h (z0c z24 (z0c (z2u (z00 (i:=5) rfl zfs zq9 zqi)) (z0c (z2u (z00 (i:=4) rfl z1f z3e z3f)) z0b)))) z0b)))) (z0c (z0h (z0c z24 (z0c z24 (z0c (z0h (z0c z24 (z0c (z2u (z00 (i:=4) rfl z1f z3e z3f)) (z0c (z0h (z0c z24 (z0c z25 z0b))) z0b)))) z0b)))) z0b)))) (z04 rfl))
 (z01 (z11 (i:=7) sc_law.nd rfl ze9 (z0h (z0c (z0h (z0c (z0h (z0c z24 (z0c (z2u (z00 (i:=1) rfl z27 z4y z50)) (z0c (z2u (z00 (i:=3) rfl z3n z7i z7k)) z0b)))) z0b)) (z0c (z2u (z00 (i:=6) rfl zft zqa zqj)) z0b))) (z04 rfl))
 (z01 (z11 (i:=8) sc_law.nd rfl zi2 (zrb (ziw rfl hr.units) zf2 b_dict zfk (z07 (z8c ["_law_row"] [none] rfl (CompS.of (by rfl)) (zj1 (z0g c_plan_by hr (by omega) (z07 (z00 (i:=7) rfl ze2 zn9 znf) (z07 (z0h z0b) pa_nil)) zo9 zxu)) (fun _ _ _ _ _=>(z19 (i:=0) (show List.Nodup (["_law_row"]:List Str) from by decide+kernel) rfl (Or.inl rfl))) (fun _ _ _ _ _=>z8b) (fun _ _ _ _ _=>(z1a (z07 (z0i (ixK (r:=zwz) (K:=K) ix_tup rfl) (z00 (i:=0) rfl (by first | exact Or.inl rfl | exact Or.inr (Or.inl rfl) | exact Or.inr (Or.inr rfl)) zn8 zne) z03 (fun _ _=>rfl)) (z07 (zva (slK (r:=qbl) (K:=K) zz4 rfl) (z00 (i:=0) rfl (by first | exact Or.inl rfl | exact Or.inr (Or.inl rfl) | exact Or.inr (Or.inr rfl)) zn8 zne) (zzk z03) zzl) pa_nil))))) pa_nil) zeu zfd) (z04 rfl))
 (z01 (z1k (PW.pt (zhs (z0d (dNe hr.units) (z4f hr.units1 (z00 (i:=8) rfl z2d z4w z4z) (z0h (z0c z25 (z0c z25 z0b))) (fun _ _=>rfl)) (z1a (z07 (zb4 (z0d zzr (z00 (i:=3) rfl z3n z7i z7k) z03 (z0f _)) z03 z03) (z07 (z0h z0b) pa_nil))) (z0f _)) (zby (PW.pt (zr8 (zv8 (zos hr.units1 (z0h (z0c z25 (z0c z25 z0b))) (z00 (i:=8) rfl z2d z4w z4z))) (zlq (z0d (dNe hr.units) (z4f hr.units1 (z00 (i:=8) rfl z2d z4w z4z) (z0h (z0c z25 (z0c z25 z0b))) (fun _ _=>rfl)) (z0h (z0c z25 (z0c (z0h z0b) z0b))) (z0f _)))))))) (z05 (z08 zc8)) z0e)
 (z01 (z1k (PW.pt (zr8 (zv8 (zos hr.units1 (z0h (z0c z25 (z0c z25 z0b))) (z00 (i:=8) rfl z2d z4w z4z))) (zlq (z0d (dNe hr.units) (z0i ix_tup (z4f hr.units1 (z00 (i:=8) rfl z2d z4w z4z) (z0h (z0c z25 (z0c z25 z0b))) (fun _ _=>rfl)) z03 (fun _ _=>rfl)) (zb4 (q2z zzr zzr (z00 (i:=1) rfl z27 z4y z50) z03 (z00 (i:=3) rfl z3n z7i z7k)) (z0h (z0c z24 z0b)) (z0h z0b)) (z0f _))))) (z05 (z08 zc8)) z0e)
 (z01 (z1k (PW.pt (zhs (z0d (gNe hr.units) (q56 (zos hr.units1 (z0h (z0c z25 (z0c z25 z0b))) (z00 (i:=8) rfl z2d z4w z4z))) (z6e (dNe hr.units) (z0h (z0c (z2u (z00 (i:=1) rfl z27 z4y z50)) (z0c (z2u (z00 (i:=3) rfl z3n z7i z7k)) z0b))) (z0h (z0c z25 (z0c z25 z0b))) (z0f _)) (z0f _)) (zby (z0d (gNe hr.units) (q56 (zos hr.units1 (z0h (z0c z25 (z0c z25 z0b))) (z00 (i:=8) rfl z2d z4w z4z))) (z6e (dNe hr.units) (z0h (z0c (z2u (z00 (i:=1) rfl z27 z4y z50)) (z0c (z2u (z00 (i:=3) rfl z3n z7i z7k)) z0b))) (z0h (z0c z25 (z0c z25 z0b))) (z0f _)) (z0f _))))) (z05 (z08 zc8)) z0e)
 (z01 (z11 (i:=9) sc_law.nd rfl zi5 (z2g z82 (z2g z82 (z00 (i:=1) rfl z27 z4y z50) z03) (z0g c_law_pick hr (by omega) (z07 (z00 (i:=0) rfl z1w z16 z17) (z07 z03 (z07 z03 pa_nil))) z2p z4x)) (z04 rfl))
 (z01 (z11 (i:=10) sc_law.nd rfl zi6 (z0h (z0c z24 (z0c (z0h (z0c z24 (z0c (z2u (z00 (i:=4) rfl z1f z3e z3f)) (z0c (z0h (z0c z24 (z0c (z2u (z00 (i:=9) rfl z3o z7j z7l)) z0b))) z0b)))) (z0c (z0h (z0c (z0h (z0c z24 (z0c z24 (z0c (z2u (z00 (i:=4) rfl z1f z3e z3f)) z0b)))) z0b)) (z0c (z0h (z0c (z0h (z0c z24 (z0c z24 (z0c (z2u (z00 (i:=4) rfl z1f z3e z3f)) z0b)))) z0b)) z0b))))) (z04 rfl))
 (z01 (z11 (i:=11) sc_law.nd rfl zah (z1a (z07 (z1a (z07 (z1a (z07 z2s (z07 (z00 (i:=1) rfl z27 z4y z50) (z07 (z2g z82 (z00 (i:=9) rfl z3o z7j z7l) z03) pa_nil)))) pa_nil)) (z07 (z0h (z0c (z2u (z00 (i:=10) rfl zhg zsk zsu)) z0b)) pa_nil))) (z04 rfl))
 (z01 (z11 (i:=12) sc_law.nd rfl zi1 (zrb (ziw rfl hr.units) zf2 b_dict zfk (z07 (z8c ["_law_path","_law_one","_law_two"] [none,none,none] rfl (CompS.of (by rfl)) (zhu (z0g c_shown hr (by omega) (z07 (z00 (i:=11) rfl za4 zff zfj) (z07 (z0h z0b) pa_nil)) zj9 zw1)) (fun _ _ _ _ _=>(zpk (n:=3) (K:=K) rfl rfl (z23 (z19 (i:=0) (show List.Nodup (["_law_path","_law_one","_law_two"]:List Str) from by decide+kernel) rfl (Or.inl rfl)) (z23 (z19 (i:=1) (show List.Nodup (["_law_path","_law_one","_law_two"]:List Str) from by decide+kernel) rfl (Or.inl rfl)) (z23 (z19 (i:=2) (show List.Nodup (["_law_path","_law_one","_law_two"]:List Str) from by decide+kernel) rfl (Or.inl rfl)) z9m))))) (fun _ _ _ _ _=>z8b) (fun _ _ _ _ _=>(z0h (z0c (z2u (z00 (i:=0) rfl (by first | exact Or.inl rfl | exact Or.inr (Or.inl rfl) | exact Or.inr (Or.inr rfl)) zjf zjj)) (z0c (z0h (z0c (z2u (z00 (i:=1) rfl (by first | exact Or.inl rfl | exact Or.inr (Or.inl rfl) | exact Or.inr (Or.inr rfl)) zna zng)) (z0c (z2u (z00 (i:=2) rfl (by first | exact Or.inl rfl | exact Or.inr (Or.inl rfl) | exact Or.inr (Or.inr rfl)) zn7 znd)) z0b))) z0b))))) pa_nil) zeu zfd) (z04 rfl))
 (z01 (z1k (PW.pt (zhs (z0d (dNe hr.units) (z4f hr.units1 (z00 (i:=12) rfl z6y zdh zdk) (z0h (z0c z25 (z0c z25 (z0c z25 (z0c z25 z0b))))) (fun _ _=>rfl)) (z1a (z07 (z00 (i:=1) rfl z27 z4y z50) (z07 (z2g zlt (z00 (i:=9) rfl z3o z7j z7l) z03) pa_nil))) (z0f _)) (zhs (z0d (dNe hr.units) (z4f hr.units1 (z00 (i:=12) rfl z6y zdh zdk) (z0h (z0c z25 (z0c z25 (z0c z25 (z0c z25 z0b))))) (fun _ _=>rfl)) (z1a (z07 (z00 (i:=9) rfl z3o z7j z7l) (z07 (z2g z82 (z00 (i:=9) rfl z3o z7j z7l) z03) pa_nil))) (z0f _)) (zby (z0d (dNe hr.units) (z4f hr.units1 (z00 (i:=12) rfl z6y zdh zdk) (z0h (z0c z25 (z0c z25 z0b))) (fun _ _=>rfl)) (z0h (z0c z25 (z0c z25 z0b))) (z0f _)))))) (z05 (z08 zc8)) z0e)
 (z01 (z11 (i:=13) sc_law.nd rfl zi3 (z2g z82 z03 (z0g c_law_pick hr (by omega) (z07 (z00 (i:=0) rfl z1w z16 z17) (z07 z03 (z07 z03 pa_nil))) z2p z4x)) (z04 rfl))
 (z01 (z11 (i:=14) sc_law.nd rfl zgg (z0h (z0c (z0h z0b) (z0c (z0h (z0c (z0h (z0c z24 (z0c z24 (z0c (z0h (z0c z24 (z0c (z2u (z00 (i:=13) rfl z6z zdi zdl)) z0b))) z0b)))) (z0c (z0h (z0c z24 (z0c z24 (z0c (z0h (z0c z24 (z0c (z2u (z00 (i:=4) rfl z1f z3e z3f)) (z0c (z0h (z0c z24 (z0c z25 z0b))) z0b)))) z0b)))) z0b))) z0b))) (z04 rfl))
 (z01 (z1k (z0d (dNe hr.units) (z4f hr.units1 (zrb (ziw rfl hr.units) zf2 b_dict zfk (z07 (z8c ["_law_path","_law_one","_law_two"] [none,none,none] rfl (CompS.of (by rfl)) (zhu (z0g c_shown hr (by omega) (z07 (z00 (i:=14) rfl z8z zh4 zh6) (z07 (z0h z0b) pa_nil)) zj9 zw1)) (fun _ _ _ _ _=>(zpk (n:=3) (K:=K) rfl rfl (z23 (z19 (i:=0) (show List.Nodup (["_law_path","_law_one","_law_two"]:List Str) from by decide+kernel) rfl (Or.inl rfl)) (z23 (z19 (i:=1) (show List.Nodup (["_law_path","_law_one","_law_two"]:List Str) from by decide+kernel) rfl (Or.inl rfl)) (z23 (z19 (i:=2) (show List.Nodup (["_law_path","_law_one","_law_two"]:List Str) from by decide+kernel) rfl (Or.inl rfl)) z9m))))) (fun _ _ _ _ _=>z8b) (fun _ _ _ _ _=>(z0h (z0c (z2u (z00 (i:=0) rfl (by first | exact Or.inl rfl | exact Or.inr (Or.inl rfl) | exact Or.inr (Or.inr rfl)) zjf zjj)) (z0c (z0h (z0c (z2u (z00 (i:=1) rfl (by first | exact Or.inl rfl | exact Or.inr (Or.inl rfl) | exact Or.inr (Or.inr rfl)) zna zng)) (z0c (z2u (z00 (i:=2) rfl (by first | exact Or.inl rfl | exact Or.inr (Or.inl rfl) | exact Or.inr (Or.inr rfl)) zn7 znd)) z0b))) z0b))))) pa_nil) zeu zfd) (z0h (z0c z25 (z0c z25 z0b))) (fun _ _=>rfl)) (z1a (z07 (z2g zlt (z00 (i:=13) rfl z6z zdi zdl) z03) (z07 (z2g zlt (z00 (i:=13) rfl z6z zdi zdl) z03) pa_nil))) (z0f _)) (z05 (z08 zc8)) z0e)
 (z01 (q54 (i:=15) (j:=16) rfl sc_law.nd rfl rfl (by decide) zgn zk7 (z07 (z0g c_law_pick hr (by omega) (z07 (z00 (i:=0) rfl z1w z16 z17) (z07 z03 (z07 z03 pa_nil))) z2p z4x) (z07 (z2g z82 z03 (z0g c_law_pick hr (by omega) (z07 (z00 (i:=0) rfl z1w z16 z17) (z07 z03 (z07 z03 pa_nil))) z2p z4x)) pa_nil)) (by rfl))
 (z01 (z11 (i:=17) sc_law.nd rfl zi7 (z0h (z0c (z0h (z0c z24 (z0c z24 (z0c (z0h (z0c z24 (z0c (z2u (z00 (i:=4) rfl z1f z3e z3f)) (z0c (z0h (z0c z24 (z0c z25 z0b))) z0b)))) z0b)))) z0b)) (z04 rfl))
 (z01 (z11 (i:=18) sc_law.nd rfl zex (z0h (z0c (z0h z0b) (z0c (z0h (z0c (z0h (z0c z24 (z0c z24 (z0c (z0h (z0c z24 (z0c (z2u (z00 (i:=15) rfl z4h z86 z87)) z0b))) z0b)))) (z0c (z0h (z0c z24 (z0c (z0h (z0c z24 (z0c (z2u (z00 (i:=4) rfl z1f z3e z3f)) (z0c (z0h (z0c z24 (z0c (z2u (z00 (i:=16) rfl z7n zfe zfi)) z0b))) z0b)))) (z0c z25 (z0c (z2u (z00 (i:=17) rfl zhh zsm zsv)) z0b))))) z0b))) z0b))) (z04 rfl))
 (z01 (zel PassesOwn.never rfl (zzn zrz b_range (z07 (z00 (i:=15) rfl z4h z86 z87) (z07 (z2g z82 (z00 (i:=16) rfl z7n zfe zfi) z03) pa_nil))) (z19 (i:=19) sc_law.nd rfl zi4)
 (z01 (z11 (i:=20) sc_law.nd rfl zgf (z0h (z0c (z0h (z0c (z0h (z0c z25 z0b)) (z0c (z0h (z0c (z0h (z0c z24 (z0c (z2u (z00 (i:=15) rfl z4h z86 z87)) (z0c (z2u (z00 (i:=19) rfl z70 zdj zdm)) z0b)))) z0b)) z0b))) z0b)) (z04 rfl))
 (z01 (z1k (z0d (gNe hr.units) (z0g c_is_paper hr (by omega) (z07 (z00 (i:=18) rfl z5p z9x z9y) (z07 (z00 (i:=20) rfl z66 zbn zbp) pa_nil)) z6i zbl) (z6e qbu (z00 (i:=19) rfl z70 zdj zdm) (z00 (i:=16) rfl z7n zfe zfi) (z0f _)) (z0f _)) (z05 (z08 zc8)) z0e)
 (z05 (z1k (z0d qc6 (z0g c_is_paper hr (by omega) (z07 (z00 (i:=18) rfl z5p z9x z9y) (z07 (z2g z2x (z0h (z0c (z0h (z0c (z0h (z0c z25 z0b)) (z0c (z0h (z0c (z0h (z0c z24 (z0c (z2u (z00 (i:=15) rfl z4h z86 z87)) (z0c (z2u (z00 (i:=19) rfl z70 zdj zdm)) z0b)))) z0b)) z0b))) z0b)) (z00 (i:=20) rfl z66 zbn zbp)) pa_nil)) z6i zbl) zc8 (z0f _)) (z05 (z08 zc8)) z0e)))))
 (z05 (z08 (zem (z6e qd6 (z0g c_is_paper hr (by omega) (z07 (z00 (i:=18) rfl z5p z9x z9y) (z07 (z0h z0b) pa_nil)) z6i zbl) zc8 (z0f _)) (zj2 (z6e qd6 (z0g c_is_paper hr (by omega) (z07 (z00 (i:=14) rfl z8z zh4 zh6) (z07 (z00 (i:=20) rfl z66 zbn zbp) pa_nil)) z6i zbl) zc8 (z0f _)))))))))))))))))))))))))),z0z fun N1 e1=>?_⟩
 walk_at "ry"
 refine⟨a,ns,0,9,rfl,hS,by decide,by decide,fun i0 H1 i00 i01 s1=>⟨i0,rfl,a,ns,1,90,rfl,s1.seq hS,by decide,by decide,fun i1 H2 i10 i11 s2=>?_⟩⟩
 have s02:=s1.trans s2
 refine⟨_,_,⟨rfl,rfl⟩,?_⟩
 rw [e1]
 refine z0z fun N2 e2=>?_
 walk_at "ry"
 refine⟨_,_,⟨rfl,rfl⟩,?_⟩
 refine zfn (fun _=>.non) (vo:=[]) ⟨fun _ h=>(by cases h),fun _ h=>(by cases h)⟩ rfl fun vn H3 s3 dn=>?_
 have dn:Dt H3 vn (T.enc (.nm "a")):=dn
 have s03:=s02.trans s3
 refine⟨a,ns,2,300,rfl,s03.seq hS,by decide,by decide,fun i2 H4 i20 i21 s4=>⟨i2,rfl,zl 2 (by decide),fun po hpo=>?_⟩⟩
 have s5:=z06 hpo (HO.tup [V.str "num",V.int (2+i2)])
 have dO:Dt (upd H4 po (HO.tup [V.str "num",V.int (2+i2)])) (.ref po) (T.enc (.num (2+i2))):=.tup z02 (.cons (.str _) (.cons (.int _) .nil))
 generalize upd H4 po (HO.tup [V.str "num",V.int (2+i2)])=H5 at s5 dO |-
 have dn5:=dn.kp (s4.trans s5).kp
 refine⟨_,_,_,⟨rfl,rfl,rfl⟩,?_⟩
 generalize hhi:(if i0 - 4+i1 < 99 then i0 - 4+i1 else 99)=hi
 rw [e2]
 refine z0z fun N3 e3=>?_
 have hlo : -4<=i0 - 4/\i0 - 4<=hi/\hi<=99:=by rw [<- hhi]; split<;>omega
 have ho:2<=2+i2/\2+i2<=301:=by omega
 have hl4:i0 - 4<=4:=by omega
 generalize i0 - 4=lo at hlo hl4 |-
 generalize 2+i2=o at ho dO |-
 refine zfn (qas lo hi o) (vo:=[4,5]) (q7f rfl rfl dn5 dO) rfl fun vd H6 s6 dd=>?_
 show N3 _ _
 have dd:Dt H6 vd (.tup (zko (b1 o))):=dd
 rw [e3]
 refine z0z fun N4 e4=>?_
 refine zfn (qas lo hi o) (vo:=[1,3,6]) (qds rfl rfl rfl (.int _) (.int _) dd) rfl fun vp H7 s7 dp=>?_
 show N4 _ _
 have dp:Dt H7 vp (z9k [("a",(lo,hi))] (b1 o)):=dp
 have s07:=(s03.trans (s4.trans s5)).trans (s6.trans s7)
 have dn7:=dn5.kp (s6.trans s7).kp
 rw [e4]
 refine z0z fun N5 e5=>?_
 walk_at "ry"
 obtain⟨nsx,R,ew,hsp,eR,nd,hRl,l00,lz,lnz⟩:=qbq (A:=(lo,hi)) hlo ho
 refine zfn (fun _=>.non) (vo:=[]) ⟨fun _ h=>(by cases h),fun _ h=>(by cases h)⟩ rfl fun v0 H8 s8 d0=>?_
 have d0:Dt H8 v0 (.tup []):=d0
 have ew':walkB bhd (z5t (zdp (.tup []))) [("a",(lo,hi))] (b1 o)=(nsx,[]):=ew
 refine⟨vp,v0,[("a",(lo,hi))],b1 o,.tup [],rfl,dp.kp s8.kp,zye _ _,d0,(zx2 ew).1,(zx2 ew).2,qde ho,(show 7<=900 by decide),?_,fun l H9 k9 dl=>?_⟩
 ·rw [ew']
  exact hsp
 rw [ew',zor,eR] at dl
 obtain⟨la,lxs,rfl,hla,dla⟩:=dl.tupI
 have hlx:lxs.length=R.length:=by rw [dla.length,List.length_map]
 refine⟨la,rfl,⟨_,SqT.of hla⟩,?_⟩
 refine zkr (K:=K) (a:=la) (xs:=lxs) (PcI H9 R) ⟨Same.refl _,⟨_,rfl⟩,.nil,Nat.zero_le _⟩ (z10 (by omega)) ?_ ?_ ?_ ?_
 ·rintro i ys σ' H' ⟨_,_,d,hi⟩
  rw [d.length,List.length_map,List.length_map,List.length_take]
  omega
 ·rintro i ys σ' H' _ ⟨s9,_⟩
  exact SqT.of (s9 _ _ hla)
 ·rintro i ys x σ' H' hx ⟨s9,⟨t,rfl⟩,d,hle⟩
  obtain⟨r,hri,dr⟩:=zj6 dla hx
  obtain⟨pp,y0,y1,y2,rfl,hpp,u0,u1,u2⟩:=q8h (dr.kp s9.kp)
  walk_at "ry"
  refine⟨_,SqT.of hpp,y0,rfl,_,SqT.of hpp,.inr ⟨show ¬(HT.sIx 3 0 (some 1)=0/\HT.sIx 3 3 none=3) by decide,fun p1 hp1=>⟨zl 2 (by decide),fun p2 hp2=>?_⟩⟩⟩
  have t1:=z06 hp1 (HO.tup (q1h [y0,y1,y2] (some 1) none))
  have dt1:Dt (upd H' p1 (HO.tup (q1h [y0,y1,y2] (some 1) none))) (.ref p1) (.tup [.int r.2.1,.tup r.2.2]):=.tup z02 (.cons (u1.kp t1.kp) (.cons (u2.kp t1.kp) .nil))
  generalize upd H' p1 (HO.tup (q1h [y0,y1,y2] (some 1) none))=U1 at t1 dt1 hp2 |-
  have t2:=z06 hp2 (HO.tup [y0,V.ref p1])
  refine⟨s9.trans (t1.trans t2),⟨_,rfl⟩,?_,(List.getElem?_eq_some_iff.mp hri).1⟩
  rw [z5j hri,List.map_append,List.map_append]
  exact DtA.append (DtA.kp (t1.trans t2).kp d) (.cons (.tup z02 (.cons (u0.kp (t1.trans t2).kp) (.cons (dt1.kp t2.kp) .nil))) .nil)
 ·rintro ys σ' H' ⟨s9,_,d,hle⟩ pl hpl
  rw [hlx,List.take_length] at d
  have t1:=z06 hpl (HO.lst ys)
  have el:upd H' pl (HO.lst ys) pl=_:=z02
  have d:=DtA.kp t1.kp d
  generalize upd H' pl (HO.lst ys)=U1 at t1 el d |-
  refine⟨pl,ys,R.map q2n,rfl,el,d,by rw [List.map_map]; exact nd,by rw [List.length_map]; omega,fun pD kvs hpD pr=>?_⟩
  have t2:=z06 hpD (HO.dT kvs)
  have eD:upd U1 pD (HO.dT kvs) pD=_:=z02
  have pr:Paired (fun(kv:List Key×V) (r:Pth×Dm)=>kv.1=r.1.map Sum.inl/\Dt (upd U1 pD (HO.dT kvs)) kv.2 r.2) kvs (R.map q2n):=Paired.mapP pr fun _ _ z=>⟨z.1,z.2.kp t2.kp⟩
  generalize upd U1 pD (HO.dT kvs)=U2 at t2 eD pr |-
  have kU:Keeps H7 U2:=(Same.keeps s8).trans (k9.trans (Same.keeps (s9.trans (t1.trans t2))))
  have dnU:=dn7.kp kU.kp
  clear d el hpl hpD
  rw [e5]
  refine z0z fun N6 e6=>zp7 fun Y1 Z1 _ eZ1=>?_
  have KN6:∀U,Same U2 U->N6 [some (V.ref a),some (V.int lo),some (V.int i1),some (V.int hi),some vn,some (V.ref po),some vd,some vp,some (V.ref pD),none,none,none,none,none,none,none,none,none,none,none,none] U:=fun U sU=>by
   rw [e6]
   refine z0z fun N7 e7=>?_
   have KN7:∀U,Same U2 U->N7 [some (V.ref a),some (V.int lo),some (V.int i1),some (V.int hi),some vn,some (V.ref po),some vd,some vp,some (V.ref pD),none,none,none,none,none,none,none,none,none,none,none,none] U:=fun U sU=>by
    rw [e7]
    refine z0z fun N8 e8=>?_
    have KN8:∀U,Same U2 U->N8 [some (V.ref a),some (V.int lo),some (V.int i1),some (V.int hi),some vn,some (V.ref po),some vd,some vp,some (V.ref pD),none,none,none,none,none,none,none,none,none,none,none,none] U:=fun U sU=>by
     rw [e8]
     have k8:Keeps H U:=(Same.keeps s07).trans (kU.trans (Same.keeps sU))
     refine z0z fun N9 e9=>?_
     walk_at "ry"
     refine⟨a,ns,3,5,rfl,k8.seq hS,by decide,by decide,fun i3 U9 i30 i31 t9=>?_⟩
     refine⟨i3,rfl,?_⟩
     have hg:lo < lo+1+i3/\lo+1+i3<=20:=by omega
     generalize lo+1+i3=g at hg |-
     rw [e9]
     refine z0z fun N10 e10=>?_
     have dn9:=dnU.kp (sU.trans t9).kp
     refine zfn (qdc g) (vo:=[4,9]) (q7f rfl rfl dn9 (.int _)) rfl fun vi U10 t10 di=>?_
     show N10 _ _
     have di:Dt U10 vi (D.enc (.ite (q2 g) [.set "b" (.nm "a")] [.set "b" (.nm "a")])):=di
     rw [e10]
     refine z0z fun N11 e11=>?_
     walk_at "ry"
     refine⟨zl 3 (by decide),fun p1 hp1=>⟨zl 1 (by decide),fun p2 hp2=>?_⟩⟩
     have u1:=z06 hp1 (HO.tup [V.str "a",V.int lo,V.int (g+4)])
     have du1:Dt (upd U10 p1 (HO.tup [V.str "a",V.int lo,V.int (g+4)])) (.ref p1) (zj0 ("a",(lo,g+4))):=.tup z02 (.cons (.str _) (.cons (.int _) (.cons (.int _) .nil)))
     generalize upd U10 p1 (HO.tup [V.str "a",V.int lo,V.int (g+4)])=U11 at u1 du1 hp2 |-
     have u2:=z06 hp2 (HO.tup [V.ref p1])
     have du2:Dt (upd U11 p2 (HO.tup [V.ref p1])) (.ref p2) (.tup [zj0 ("a",(lo,g+4))]):=.tup z02 (.cons (du1.kp u2.kp) .nil)
     generalize upd U11 p2 (HO.tup [V.ref p1])=U12 at u2 du2 |-
     refine zfn (fun i=>if i=10 then D.enc (.ite (q2 g) [.set "b" (.nm "a")] [.set "b" (.nm "a")]) else .non) (vo:=[10]) ⟨fun k h=>(by rw [List.mem_singleton] at h; subst h; exact⟨_,rfl,di.kp (u1.trans u2).kp⟩),fun _ h=>(by cases h)⟩ rfl fun vb U13 u3 db=>⟨zl 2 (by decide),fun p3 hp3=>?_⟩
     have db:Dt U13 vb (.tup (zko (b2 g))):=db
     have u4:=z06 hp3 (HO.tup [V.ref p2,vb])
     have dq:Dt (upd U13 p3 (HO.tup [V.ref p2,vb])) (.ref p3) (z9k [("a",(lo,g+4))] (b2 g)):=.tup z02 (.cons (du2.kp (u3.trans u4).kp) (.cons (db.kp u4.kp) .nil))
     generalize upd U13 p3 (HO.tup [V.ref p2,vb])=U14 at u4 dq |-
     have u14:Same U2 U14:=sU.trans (t9.trans (t10.trans (u1.trans (u2.trans (u3.trans u4)))))
     rw [e11]
     refine z0z fun N12 e12=>?_
     walk_at "ry"
     have ew2:=qb7 (lo:=lo) (g:=g) hlo.1 hg.1 hg.2
     have ew2':walkB bhd (z5t (zdp (.tup []))) [("a",(lo,g+4))] (b2 g)=(ns2 lo g,[]):=ew2
     refine zfn (fun _=>.non) (vo:=[]) ⟨fun _ h=>(by cases h),fun _ h=>(by cases h)⟩ rfl fun v1 U15 u5 d15=>?_
     have d15:Dt U15 v1 (.tup []):=d15
     refine⟨.ref p3,v1,[("a",(lo,g+4))],b2 g,.tup [],rfl,dq.kp u5.kp,zyd _ _,d15,(zx2 ew2).1,(zx2 ew2).2,?_,?_,fun sl svs ps U16 k16 hpm hpw hsl dsv=>?_⟩
     ·rw [ew2']
      intro q hq
      simp only[ns2,List.mem_cons,List.not_mem_nil,or_false] at hq
      rcases hq with rfl | rfl | rfl | rfl | rfl<;>simp
     ·rw [ew2']
      exact(show 5<=60 by decide)
     rw [ew2'] at hpm dsv
     refine⟨sl,rfl,⟨_,SqL.of hsl⟩,?_⟩
     refine zoo hsl dsv (fun p hp=>zgc (hpm.mem_iff.mp hp)) (by rw [hpm.length_eq]; exact(show 5<=60 by decide)) (hpm.nodup_iff.mpr (show([[0,0,0],[0,0,1],[0,0],[0,1,0,0],[0,2,0,0]]:List Pth).Nodup by decide)) fun pT kvT U17 u17 eT pT'=>?_
     have hin:∀p:Pth,p∈([[0,0,0],[0,0,1],[0,0],[0,1,0,0],[0,2,0,0]]:List Pth)->p∈ps:=fun p hp=>hpm.mem_iff.mpr hp
     rw [e12]
     refine z0z fun N13 e13=>?_
     have KN13:∀U,Same U17 U->N13 [some (V.ref a),some (V.int lo),some (V.int i1),some (V.int hi),some vn,some (V.ref po),some vd,some vp,some (V.ref pD),some (V.int g),some vi,some (V.ref p3),some (V.ref pT),none,none,none,none,none,none,none,none] U:=fun U sV=>by
      rw [e13]
      have k13:Keeps U2 U:=(Same.keeps u14).trans ((Same.keeps u5).trans (k16.trans (Same.keeps (u17.trans sV))))
      have kH:Keeps H U:=(Same.keeps s07).trans (kU.trans k13)
      have dn13:=dnU.kp k13.kp
      refine z0z fun N14 e14=>?_
      walk_at "ry"
      refine⟨a,ns,4,30000,rfl,kH.seq hS,by decide,by decide,fun i4 V14 i40 i41 v14=>⟨i4,rfl,?_⟩⟩
      have hm:100<=100+i4/\100+i4<=30099:=by omega
      generalize 100+i4=m at hm |-
      rw [e14]
      refine z0z fun N15 e15=>?_
      refine zfn (qdb m) (vo:=[4,13]) (q7f rfl rfl (dn13.kp v14.kp) (.int _)) rfl fun vg V15 v15 dg=>?_
      show N15 _ _
      have dg:Dt V15 vg (z9k [] (b3 m)):=dg
      have k15:Keeps H V15:=kH.trans (Same.keeps (v14.trans v15))
      have dn15:=dn13.kp (v14.trans v15).kp
      rw [e15]
      refine z0z fun N16 e16=>z94 fun Y3 Z3 _ eZ3=>?_
      walk_at "ry"
      have ew3':walkB bhd (z5t (zdp (.tup []))) [] (b3 m)=(ns3 m,[]):=q5s _ hm.1 hm.2
      refine dx0 rfl fun v3 V16 v16 d16=>?_
      refine⟨vg,v3,[],b3 m,.tup [],rfl,dg.kp v16.kp,zqs _,d16,(zx2 ew3').1,(zx2 ew3').2,?_,?_,fun sl svs ps V17 k17 hpm hpw hsl dsv=>?_⟩
      ·rw [ew3']
       intro q hq
       simp only[ns3,List.mem_cons,List.not_mem_nil,or_false] at hq
       rcases hq with rfl | rfl | rfl | rfl<;>simp
      ·rw [ew3']
       exact(show 4<=60 by decide)
      rw [ew3'] at hpm dsv
      refine⟨sl,rfl,⟨_,SqL.of hsl⟩,?_⟩
      refine zoo hsl dsv (fun p hp=>zgc (hpm.mem_iff.mp hp)) (by rw [hpm.length_eq]; exact(show 4<=60 by decide)) (hpm.nodup_iff.mpr (show([[0,0],[1,0,0],[1,0,1],[1,0]]:List Pth).Nodup by decide)) fun pF kvF V18 v18 eF pF'=>?_
      refine dx0 rfl fun y1 V19 v19 dy1=>⟨pF,rfl,?_⟩
      obtain⟨x1,g1,dx1⟩:=qb5 (v19 _ _ eF) (z9l v19 pF') (p:=[1,0]) (hpm.mem_iff.mpr (show([1,0]:Pth)∈([[0,0],[1,0,0],[1,0,1],[1,0]]:List Pth) by decide)) (show z43 (ns3 m) [1,0]=some (m - 1,m - 1) from rfl) dy1
      refine⟨x1,g1,zl 2 (by decide),fun p1 hp1=>?_⟩
      obtain⟨v20,dz⟩:=zpm hp1 (m - 1) (m - 1)
      generalize upd V19 p1 (HO.tup [V.int (m - 1),V.int (m - 1)])=V20 at v20 dz |-
      refine⟨_,zit (dx1.kp v20.kp) dz,?_⟩
      rw [decide_eq_true rfl,if_neg (by decide),eZ3]
      have k20:Keeps V15 V20:=(Same.keeps v16).trans (k17.trans (Same.keeps (v18.trans (v19.trans v20))))
      have dn20:=dn15.kp k20.kp
      have dg20:=dg.kp k20.kp
      have kH20:=k15.trans k20
      show N16 _ V20
      rw [e16]
      refine z0z fun N17 e17=>?_
      walk_at "ry"
      refine⟨a,ns,5,4,rfl,kH20.seq hS,by decide,by decide,fun B V21 B0 B1 v21=>⟨a,ns,6,9,rfl,v21.seq (kH20.seq hS),by decide,by decide,fun i6 V22 i60 i61 v22=>⟨i6,rfl,?_⟩⟩⟩
      refine⟨_,_,⟨rfl,rfl⟩,?_⟩
      have hE:5<=5+i6/\5+i6<=13:=by omega
      generalize 5+i6=E' at hE |-
      rw [e17]
      refine z0z fun N18 e18=>?_
      have dn22:=dn20.kp (v21.trans v22).kp
      refine zfn (qcx B E') (vo:=[4]) ⟨fun k h=>(by rw [List.mem_singleton] at h; subst h; exact⟨_,rfl,dn22⟩),fun _ h=>(by cases h)⟩ rfl fun vy V23 v23 dy=>?_
      show N18 _ _
      rw [e18]
      refine z0z fun N19 e19=>?_
      refine zfn (qcx B E') (vo:=[4,15,16,17]) (qdr rfl rfl rfl rfl (dn22.kp v23.kp) (.int _) (.int _) dy) rfl fun va V24 v24 da=>?_
      show N19 _ _
      have da:Dt V24 va (z9k [] (b4 B E')):=da
      have dg24:=dg20.kp ((v21.trans v22).trans (v23.trans v24)).kp
      rw [e19]
      refine z0z fun N20 e20=>?_
      walk_at "ry"
      refine⟨_,_,⟨rfl,rfl⟩,⟨by omega,by omega,by omega,by omega⟩,?_⟩
      refine q0r (lo:=B) (n:=(E'+2 - B).toNat) (LpI V24 [some (V.ref a),some (V.int lo),some (V.int i1),some (V.int hi),some vn,some (V.ref po),some vd,some vp,some (V.ref pD),some (V.int g),some vi,some (V.ref p3),some (V.ref pT),some (V.int m),some vg,some (V.int B),some (V.int E'),some vy,some va] B) ⟨Same.keeps (Same.refl _),_,_,rfl,fun h=>absurd h (by decide)⟩ ?_ ?_
      ·rintro j σ Hc hj ⟨kc,t,u,rfl,_⟩
       refine g_i fun M0 f0=>?_
       walk_at "ry"
       rw [f0]
       have hL:B<=B+(j:Int)/\B+(j:Int)<=E'+1:=by omega
       generalize B+(j:Int)=L at hL |-
       refine z0z fun M1 f1=>?_
       refine zfn (qcw B L) (vo:=[15,19]) (q7f rfl rfl (.int _) (.int _)) rfl fun vq W1 w1 dq=>?_
       show M1 _ _
       have dq:Dt W1 vq (.tup [rwP 1 B L]):=dq
       have kc1:=kc.trans (Same.keeps w1)
       rw [f1]
       refine z0z fun M2 f2=>z94 fun Y1 Z1 _ eZ1=>?_
       walk_at "ry"
       refine⟨va,vq,[],b4 B E',_,rfl,da.kp kc1.kp,zkv _ _,dq,q3c B0 (by omega) hE.1 hE.2 hL.1 hL.2,fun W2 k2=>?_⟩
       rw [q91 B0 (by omega) hE.1 hE.2 hL.1 hL.2]
       refine⟨true,⟨rfl,by simp⟩,?_⟩
       rw [if_neg (by decide),eZ1]
       have kc2:=kc1.trans k2
       have dq2:=dq.kp k2.kp
       show M2 _ W2
       rw [f2]
       refine z94 fun Y2 Z2 _ eZ2=>?_
       walk_at "ry"
       refine zfn (qcw B L) (vo:=[15,19]) (q7f rfl rfl (.int _) (.int _)) rfl fun vr W3 w3 dr=>?_
       have dr:Dt W3 vr (.tup [rwP 0 B L]):=dr
       refine q7q dr (dq2.kp w3.kp) (show 2<=1000 by decide) fun vz W4 w4 dz=>?_
       have kc4:=kc2.trans (Same.keeps (w3.trans w4))
       refine⟨va,vz,[],b4 B E',_,rfl,da.kp kc4.kp,zkv _ _,dz,q3b B0 (by omega) hE.1 hE.2 hL.1 hL.2,fun W5 k5=>⟨false,?_,?_⟩⟩
       ·exact congrArg V.bl (q90 B0 (by omega) hE.1 hE.2 hL.1 hL.2)
       rw [if_neg (by decide),eZ2]
       exact⟨kc4.trans k5,_,_,rfl,fun _=>⟨_,_,rfl,dq2.kp ((Same.keeps (w3.trans w4)).trans k5).kp⟩⟩
      ·rintro σ Hc ⟨kc,t,u,rfl,hu⟩
       obtain⟨x,L,rfl,dx⟩:=hu (by omega)
       show N20 _ _
       rw [e20]
       walk_at "ry"
       refine dx0 rfl fun ve W1 w1 de=>?_
       have kc1:=kc.trans (Same.keeps w1)
       refine⟨va,ve,[],b4 B E',.tup [],rfl,da.kp kc1.kp,zkv _ _,de,q3d (L:=B) B0 (by omega) hE.1 hE.2 (Int.le_refl _) (by omega),fun W2 k2=>⟨false,?_,?_⟩⟩
       ·rw [q92 (L:=B) B0 (by omega) hE.1 hE.2 (Int.le_refl _) (by omega)]
       rw [if_pos (by rfl)]
       refine⟨vg,x,[],b3 m,_,rfl,dg24.kp (kc1.trans k2).kp,zqs _,dx.kp ((Same.keeps w1).trans k2).kp,q6p hm.1 hm.2,fun W3 k3=>⟨false,?_,q _⟩⟩
       rw [q93 hm.1 hm.2]
     refine zp7 fun Y1 Z1 _ eZ1=>?_
     walk_at "ry"
     refine dx0 rfl fun y1 V1 v1 dy1=>?_
     obtain⟨x1,g1,dx1⟩:=qb5 (v1 _ _ eT) (z9l v1 pT') (p:=[0,1,0,0]) (hin _ (by decide)) (show z43 (ns2 lo g) [0,1,0,0]=some (lo,g - 1) from rfl) dy1
     refine⟨x1,g1,zl 2 (by decide),fun p1 hp1=>?_⟩
     obtain⟨v2,dz⟩:=zpm hp1 lo (g - 1)
     generalize upd V1 p1 (HO.tup [V.int lo,V.int (g - 1)])=V2 at v2 dz |-
     refine⟨_,zit (dx1.kp v2.kp) dz,?_⟩
     rw [decide_eq_true rfl,if_neg (by decide),eZ1]
     refine zp7 fun Y2 Z2 _ eZ2=>?_
     walk_at "ry"
     have v02:=v1.trans v2
     refine dx0 rfl fun y3 V3 v3 dy3=>?_
     have v03:=v02.trans v3
     obtain⟨x3,g3,dx3⟩:=qb5 (v03 _ _ eT) (z9l v03 pT') (p:=[0,2,0,0]) (hin _ (by decide)) (show z43 (ns2 lo g) [0,2,0,0]=some (g,g+4) from rfl) dy3
     refine⟨x3,g3,zl 2 (by decide),fun p4 hp4=>?_⟩
     obtain⟨v4,dz4⟩:=zpm hp4 g (g+4)
     generalize upd V3 p4 (HO.tup [V.int g,V.int (g+4)])=V4 at v4 dz4 |-
     refine⟨_,zit (dx3.kp v4.kp) dz4,?_⟩
     rw [decide_eq_true rfl,if_neg (by decide),eZ2]
     refine z94 fun Y3 Z3 _ eZ3=>?_
     walk_at "ry"
     have v04:=v03.trans v4
     refine dx0 rfl fun y5 V5 v5 dy5=>?_
     have v05:=v04.trans v5
     obtain⟨x5,g5,dx5⟩:=qb5 (v05 _ _ eT) (z9l v05 pT') (p:=[0,0]) (hin _ (by decide)) (show z43 (ns2 lo g) [0,0]=some (0,1) from rfl) dy5
     refine⟨x5,g5,?_⟩
     refine dx0 rfl fun y6 V6 v6 dy6=>?_
     refine⟨_,zit (c:=0) (d:=1) (dx5.kp v6.kp) dy6,?_⟩
     rw [decide_eq_true rfl,if_neg (by decide),eZ3]
     exact KN13 V6 (v05.trans v6)
    have lk:∀p:Pth,(p=[1,0]\/p=[2,0])->(zew (R.map q2n) p).isSome = !(decide ((lo,hi)=(0,0))):=fun p hp=>by
     by_cases z:(lo,hi)=(0,0)
     ·rw [decide_eq_true z]
      rcases hp with rfl | rfl
      ·rw [(lz z).1]; rfl
      ·rw [(lz z).2]; rfl
     ·rw [decide_eq_false z]
      rcases hp with rfl | rfl
      ·obtain⟨bq,hbq⟩:=(lnz z).1
       rw [hbq]; rfl
      ·rw [(lnz z).2]; rfl
    have ask:∀(p:Pth),(p=[1,0]\/p=[2,0])->∀(W:Hp) (y:V),Same U2 W->Dt W y (pathD p)->∃o,DGet W pD y o/\o.isSome = !(decide ((lo,hi)=(0,0))):=fun p hp W y sW dy=>by
     rcases z8p (sW _ _ eD) (z9l sW pr) dy with⟨z,g1⟩ | ⟨dd0,v00,z1,g1,dv1⟩
     ·exact⟨none,g1,by rw [<- lk p hp,z]; rfl⟩
     ·exact⟨some v00,g1,by rw [<- lk p hp,z1]; rfl⟩
    refine zp7 fun Y2 Z2 _ eZ2=>?_
    walk_at "ry"
    refine zfn (fun _=>.non) (vo:=[]) ⟨fun _ h=>(by cases h),fun _ h=>(by cases h)⟩ rfl fun y1 W1 w1 dy1=>?_
    obtain⟨o1,g1,ho1⟩:=ask [1,0] (.inl rfl) W1 y1 (sU.trans w1) dy1
    refine⟨o1,g1,?_⟩
    refine zfn (qas lo hi o) (vo:=[1,3]) (q7f rfl rfl (.int _) (.int _)) rfl fun y2 W2 w2 dy2=>?_
    refine zfn (fun _=>.non) (vo:=[]) ⟨fun _ h=>(by cases h),fun _ h=>(by cases h)⟩ rfl fun y3 W3 w3 dy3=>?_
    refine⟨_,zit (a:=lo) (b:=hi) (c:=0) (d:=0) (dy2.kp w3.kp) dy3,true,⟨rfl,by rw [ho1]; simp⟩,?_⟩
    rw [if_neg (by decide),eZ2]
    refine z94 fun Y3 Z3 eY3 eZ3=>?_
    walk_at "ry"
    refine zfn (fun _=>.non) (vo:=[]) ⟨fun _ h=>(by cases h),fun _ h=>(by cases h)⟩ rfl fun y4 W4 w4 dy4=>?_
    have s4':=(sU.trans w1).trans (w2.trans (w3.trans w4))
    obtain⟨o2,g2,ho2⟩:=ask [2,0] (.inr rfl) W4 y4 s4' dy4
    refine⟨o2,g2,?_⟩
    refine zfn (qas lo hi o) (vo:=[1,3]) (q7f rfl rfl (.int _) (.int _)) rfl fun y5 W5 w5 dy5=>?_
    refine zfn (fun _=>.non) (vo:=[]) ⟨fun _ h=>(by cases h),fun _ h=>(by cases h)⟩ rfl fun y6 W6 w6 dy6=>?_
    refine⟨_,zit (a:=lo) (b:=hi) (c:=0) (d:=0) (dy5.kp w6.kp) dy6,true,⟨rfl,by rw [ho2]; simp⟩,?_⟩
    rw [if_neg (by decide),eZ3]
    exact KN8 W6 (s4'.trans (w5.trans w6))
   refine zux fun Y2 Z2 eY2 eZ2=>?_
   walk_at "ry"
   refine zfn (fun _=>.non) (vo:=[]) ⟨fun _ h=>(by cases h),fun _ h=>(by cases h)⟩ rfl fun y1 W1 w1 dy1=>?_
   have dy1:Dt W1 y1 (pathD [1,0]):=dy1
   have sW:=sU.trans w1
   rcases z8p (sW _ _ eD) (z9l sW pr) dy1 with⟨z,g1⟩ | ⟨dd0,v00,z1,g1,dv1⟩
   ·refine⟨none,g1,?_⟩
    rw [if_neg (by decide),eZ2]
    exact KN7 W1 sW
   ·refine⟨some v00,g1,?_⟩
    rw [if_pos (show(some v00).isSome=true from rfl),eY2]
    have hz:(lo,hi)≠(0,0):=fun z=>by rw [(lz z).1] at z1; cases z1
    obtain⟨bq,hbq⟩:=(lnz hz).1
    refine z94 fun Y3 Z3 eY3 eZ3=>?_
    walk_at "ry"
    refine zfn (fun _=>.non) (vo:=[]) ⟨fun _ h=>(by cases h),fun _ h=>(by cases h)⟩ rfl fun y2 W2 w2 dy2=>?_
    have dy2:Dt W2 y2 (pathD [1,0]):=dy2
    have sW2:=sW.trans w2
    rcases z8p (sW2 _ _ eD) (z9l sW2 pr) dy2 with⟨z,_⟩ | ⟨dd1,v01,z2,g2,dv2⟩
    ·rw [hbq] at z
     cases z
    rw [hbq] at z2
    cases z2
    refine⟨v01,g2,?_⟩
    obtain⟨pz,z0,zz1,rfl,hpz,dz0,dz1⟩:=q5u dv2
    refine⟨pz,rfl,_,SqT.of hpz,zz1,rfl,?_⟩
    have tl:∀(ds:List Dm),zp3 (lo,hi)=ds->∀(y:V) (W3:Hp),Same W2 W3->Dt W3 y (.tup ds)->∃b,EqD W3 zz1 y b/\if b=false then Y3 [some (V.ref a),some (V.int lo),some (V.int i1),some (V.int hi),some vn,some (V.ref po),some vd,some vp,some (V.ref pD),none,none,none,none,none,none,none,none,none,none,none,none] W3 else Z3 [some (V.ref a),some (V.int lo),some (V.int i1),some (V.int hi),some vn,some (V.ref po),some vd,some vp,some (V.ref pD),none,none,none,none,none,none,none,none,none,none,none,none] W3:=fun ds eds y W3 w3 dy=>by
     subst eds
     refine⟨true,q7d (dz1.kp w3.kp) dy,?_⟩
     rw [if_neg (by decide),eZ3]
     exact KN7 W3 (sW2.trans w3)
    by_cases hl0:lo<=0
    ·rw [if_pos hl0]
     by_cases h0:0<=hi
     ·rw [if_pos h0]
      exact zfn (fun _=>.non) (vo:=[]) ⟨fun _ h=>(by cases h),fun _ h=>(by cases h)⟩ rfl fun y W3 w3 dy=>tl _ (if_pos ⟨hl0,h0⟩) y W3 w3 dy
     ·rw [if_neg h0]
      exact zfn (fun _=>.non) (vo:=[]) ⟨fun _ h=>(by cases h),fun _ h=>(by cases h)⟩ rfl fun y W3 w3 dy=>tl _ (if_neg fun z=>h0 z.2) y W3 w3 dy
    ·rw [if_neg hl0]
     exact zfn (fun _=>.non) (vo:=[]) ⟨fun _ h=>(by cases h),fun _ h=>(by cases h)⟩ rfl fun y W3 w3 dy=>tl _ (if_neg fun z=>hl0 z.1) y W3 w3 dy
  have K1:∀U,Same U2 U->Z1 U:=fun U sU=>by
   rw [eZ1]
   refine zux fun Y2 Z2 eY2 eZ2=>?_
   walk_at "ry"
   refine zfn (fun _=>.non) (vo:=[]) ⟨fun _ h=>(by cases h),fun _ h=>(by cases h)⟩ rfl fun y1 W1 w1 dy1=>?_
   have dy1:Dt W1 y1 (pathD [2,0]):=dy1
   have sW:=sU.trans w1
   rcases z8p (sW _ _ eD) (z9l sW pr) dy1 with⟨z,g1⟩ | ⟨dd0,v00,z1,g1,dv1⟩
   ·refine⟨none,g1,?_⟩
    rw [if_neg (by decide),eZ2]
    exact KN6 W1 sW
   ·refine⟨some v00,g1,?_⟩
    rw [if_pos (show(some v00).isSome=true from rfl),eY2]
    have hz:(lo,hi)≠(0,0):=fun z=>by rw [(lz z).2] at z1; cases z1
    rw [(lnz hz).2] at z1
    cases z1
    refine z94 fun Y3 Z3 eY3 eZ3=>?_
    walk_at "ry"
    refine zfn (fun _=>.non) (vo:=[]) ⟨fun _ h=>(by cases h),fun _ h=>(by cases h)⟩ rfl fun y2 W2 w2 dy2=>?_
    have dy2:Dt W2 y2 (pathD [2,0]):=dy2
    have sW2:=sW.trans w2
    rcases z8p (sW2 _ _ eD) (z9l sW2 pr) dy2 with⟨z,_⟩ | ⟨dd1,v01,z2,g2,dv2⟩
    ·rw [(lnz hz).2] at z
     cases z
    rw [(lnz hz).2] at z2
    cases z2
    refine⟨v01,g2,?_⟩
    refine zfn (fun _=>.non) (vo:=[]) ⟨fun _ h=>(by cases h),fun _ h=>(by cases h)⟩ rfl fun y3 W3 w3 dy3=>?_
    refine⟨true,q0v (b:=16) (dv2.kp w3.kp) dy3,?_⟩
    rw [if_neg (by decide),eZ3]
    exact KN6 W3 (sW2.trans w3)
  walk_at "ry"
  refine zfn (fun _=>.non) (vo:=[]) ⟨fun _ h=>(by cases h),fun _ h=>(by cases h)⟩ rfl fun y1 W1 w1 dy1=>?_
  have dy1:Dt W1 y1 (pathD [0,0]):=dy1
  rcases z8p (w1 _ _ eD) (z9l w1 pr) dy1 with⟨z,_⟩ | ⟨dd0,v00,z1,g1,dv1⟩
  ·rw [l00] at z
   cases z
  rw [l00] at z1
  cases z1
  refine⟨v00,g1,?_⟩
  have tl:∀n:Int,q1w (lo,hi)=n->∀(x:V) (W2:Hp),Same W1 W2->Dt W2 x (.tup [])->∀p,W2 p=none->∃b,EqD (upd W2 p (HO.tup [V.int n,x])) v00 (.ref p) b/\if b=false then Y1 (upd W2 p (HO.tup [V.int n,x])) else Z1 (upd W2 p (HO.tup [V.int n,x])):=fun n en x W2 w2 dx p hp=>by
   subst en
   have w3:=z06 hp (HO.tup [V.int (q1w (lo,hi)),x])
   exact⟨true,q0v (dv1.kp (w2.trans w3).kp) (.tup z02 (.cons (.int _) (.cons (dx.kp w3.kp) .nil))),by rw [if_neg (by decide)]; exact K1 _ (w1.trans (w2.trans w3))⟩
  by_cases h7:hi<=7
  ·rw [if_pos h7]
   exact zfn (fun _=>.non) (vo:=[]) ⟨fun _ h=>(by cases h),fun _ h=>(by cases h)⟩ rfl fun x W2 w2 dx=>⟨zl 2 (by decide),tl 4 (if_pos h7) x W2 w2 dx⟩
  ·rw [if_neg h7]
   exact zfn (fun _=>.non) (vo:=[]) ⟨fun _ h=>(by cases h),fun _ h=>(by cases h)⟩ rfl fun x W2 w2 dx=>⟨zl 2 (by decide),tl 8 (if_neg h7) x W2 w2 dx⟩
end
section
variable{P:Program}{w:World}{K:PySem.W.Frag}{mg:Str->Option Value}{base:Heap}{f:Addr}{fd:FuncData}
theorem qbv{k:Nat}{ps:List Str}:FnOk P w K mg base CX0 k f fd ps (fun _ _ _ _=>False):=⟨fun _ _ _ _ h=>h.elim,fun _ _ _ _ _ _ _ _ _ _ _ _ _ h=>h.elim⟩
theorem Df.held{x:Str}{st:Stmt}{ps:List Str}{k:Nat}{sp:Sp}(d:Df K mg x st ps f fd)(h:FnOk P w K mg base CX0 k f fd ps sp):q8a P w K mg base k f sp:=⟨fd,ps,h,d.F.kp,d.b⟩
theorem q1u(bk:Bk)(t:T)(so:Bool)(b':Bk)(h:bhd t bk so=some b'):b'.length<=bk.length+2:=by
 have mp:∀(s:S) (bk:Bk) (x:Str) (b':Bk),s.map (zcl bk x)=some b'->b'.length<=bk.length+1:=fun s bk x b' h=>by
  cases s with
  | none=>cases h
  | some r=>
   have h:some (zcl bk x r)=some b':=h
   injection h with h
   rw [<- h]; exact zdx _ _ _
 cases t with
 | num i=>
  have h:some bk=some b':=h
  injection h with h
  rw [h]; omega
 | nm x=>
  have:=mp _ _ _ _ h
  omega
 | op w a b=>
  have h:bq w a b bk so=some b':=h
  unfold bq at h
  cases h1:zz6 bk a with
  | none=>rw [h1] at h; cases h
  | some one=>
   cases h2:zz6 bk b with
   | none=>rw [h1,h2] at h; cases h
   | some other=>
    rw [h1,h2] at h
    dsimp only at h
    cases h3:bq1 w a one other bk so with
    | none=>rw [h3] at h; cases h
    | some bk1=>
     rw [h3] at h
     dsimp only at h
     have l1:bk1.length<=bk.length+1:=by
      cases a with
      | nm x=>exact mp _ _ _ _ h3
      | num i=>cases h3; omega
      | op _ _ _=>cases h3; omega
     cases b with
     | nm y=>
      have h:(match look bk1 y with | some own=>(z6h w own one so).map (zcl bk1 y) | none=>none)=some b':=h
      cases h4:look bk1 y with
      | none=>rw [h4] at h; cases h
      | some own=>
       rw [h4] at h
       have:=mp _ _ _ _ h
       omega
     | num i=>cases h; omega
     | op _ _ _=>cases h; omega
theorem zij:zfl bhd:=fun t bk so b' h=>q1u bk t so b' h
theorem q2o{r t1 t2 t3:Addr}{e1 e2 e3 u1 u2 u3 u4 u5 u6:Tok}{ep n1 n2 n3:Nat}{o1 o2 o3:Option Addr}{l1 l2 l3:Array (Option Value)} (hm:mg "ROOMS" = some (.ref r))
  (h:K.lookup r=some ⟨.type "dict",none,.dict #[⟨4,.int 4 e1,.ref t1⟩,⟨8,.int 8 e2,.ref t2⟩,⟨16,.int 16 e3,.ref t3⟩] ep,#[]⟩)
  (h1:K.lookup t1=some ⟨.type "tuple",o1,.seq #[.int (-8) u1,.int 7 u2] n1,l1⟩) (h2:K.lookup t2=some ⟨.type "tuple",o2,.seq #[.int (-128) u3,.int 127 u4] n2,l2⟩)
  (h3:K.lookup t3=some ⟨.type "tuple",o3,.seq #[.int (-32768) u5,.int 32767 u6] n3,l3⟩):Rooms K mg r:=by
 refine⟨⟨_,hm,rfl⟩,fun k=>findBy Value.isInt #[⟨4,.int 4 e1,.ref t1⟩,⟨8,.int 8 e2,.ref t2⟩,⟨16,.int 16 e3,.ref t3⟩] k,⟨_,_,_,h,⟨rfl,rfl,rfl⟩,rfl,?_,fun _=>rfl⟩,?_⟩
 ·intro e he
  simp only[List.mem_toArray,List.mem_cons,List.not_mem_nil,or_false] at he
  rcases he with rfl | rfl | rfl
  ·exact⟨4,by simp[Value.isInt],by show(4:Int)=hashInt 4; decide+kernel⟩
  ·exact⟨8,by simp[Value.isInt],by show(8:Int)=hashInt 8; decide+kernel⟩
  ·exact⟨16,by simp[Value.isInt],by show(16:Int)=hashInt 16; decide+kernel⟩
 ·intro b hb
  rcases hb with rfl | rfl | rfl
  ·exact⟨t1,by simp[findBy,Value.isInt],fun H=>.inr ⟨_,_,_,h1,rfl,rfl,by show 2<=sizeLine; decide,.cons ⟨_,rfl⟩ (.cons ⟨_,rfl⟩ .nil)⟩⟩
  ·exact⟨t2,by simp[findBy,Value.isInt],fun H=>.inr ⟨_,_,_,h2,rfl,rfl,by show 2<=sizeLine; decide,.cons ⟨_,rfl⟩ (.cons ⟨_,rfl⟩ .nil)⟩⟩
  ·exact⟨t3,by simp[findBy,Value.isInt],fun H=>.inr ⟨_,_,_,h3,rfl,rfl,by show 2<=sizeLine; decide,.cons ⟨_,rfl⟩ (.cons ⟨_,rfl⟩ .nil)⟩⟩
end
theorem q65{K:PySem.W.Frag}{a:Addr}{o:Option Addr}{its:Array Value}{n:Nat}{l:Array (Option Value)}{xs:List V} (h:K.lookup a=some ⟨.type "tuple",o,.seq its n,l⟩) (r:Vals xs its.toList) (hz:its.size<=sizeLine:=by decide):∀H,SqT K H a xs:=fun H=>.inr ⟨_,_,_,h,rfl,rfl,hz,r⟩
theorem us1{Pr:List Value->Prop}(h:∀a0,Pr [a0])(us:List Value)(l:us.length=1):Pr us:=by
 rcases us with _ | ⟨_,_ | ⟨_,_⟩⟩
 ·cases l
 ·exact h _
 ·cases l
theorem us2{Pr:List Value->Prop}(h:∀a0 a1,Pr [a0,a1])(us:List Value)(l:us.length=2):Pr us:=by
 rcases us with _ | ⟨_,_ | ⟨_,_ | ⟨_,_⟩⟩⟩
 ·cases l
 ·cases l
 ·exact h _ _
 ·cases l
theorem us3{Pr:List Value->Prop}(h:∀a0 a1 a2,Pr [a0,a1,a2])(us:List Value)(l:us.length=3):Pr us:=by
 rcases us with _ | ⟨_,_ | ⟨_,_ | ⟨_,_ | ⟨_,_⟩⟩⟩⟩
 ·cases l
 ·cases l
 ·cases l
 ·exact h _ _ _
 ·cases l
theorem us4{Pr:List Value->Prop}(h:∀a0 a1 a2 a3,Pr [a0,a1,a2,a3])(us:List Value)(l:us.length=4):Pr us:=by
 rcases us with _ | ⟨_,_ | ⟨_,_ | ⟨_,_ | ⟨_,_ | ⟨_,_⟩⟩⟩⟩⟩
 ·cases l
 ·cases l
 ·cases l
 ·cases l
 ·exact h _ _ _ _
 ·cases l
theorem qah{l:PySem.W.OpenLaw}{w:World}{K:PySem.W.Frag}{h:Heap}{mg:Str->Option Value}{fa f0 f1 f2 f3 f4 f5 f6 f7 f8 f9 f10 f11 f12 f13 f14 f15 f16 f17 f18 f19 f20 f21 f22 f23 f24 f25 f26 f27 f28 f29 f30 f31 f32 f33 f34 f35 f36 f37 f38 f39 f40 f41 f42 f43 f44 f45 f46 f47 f48 f49 f50 f51 f52 f53 f54 f55:Addr}(X:K.In h)(G:h.Ns mainGlobals mg) (hfa:mg "law" = some (.ref fa))
  {od0 an0 od1 an1 od2 an2 od3 an3 od4 an4 od5 an5 od6 an6 od7 an7 od8 an8 od9 an9 od10 an10 od11 an11 od12 an12 od13 an13 od14 an14 od15 an15 od16 an16 od17 an17 od18 an18 od19 an19 od20 an20 od21 an21 od22 an22 od23 an23 od24 an24 od25 an25 od26 an26 od27 an27 od28 an28 od29 an29 od30 an30 od31 an31 od32 an32 od33 an33 od34 an34 od35 an35 od36 an36 od37 an37 od38 an38 od39 an39 od40 an40 od41 an41 od42 an42 od43 an43 od44 an44 od45 an45 od46 an46 od47 an47 od48 an48 od49 an49 od50 an50 od51 an51 od52 an52 od53 an53 od54 an54 od55 an55:Option Addr} {sl0 sl1 sl2 sl3 sl4 sl5 sl6 sl7 sl8 sl9 sl10 sl11 sl12 sl13 sl14 sl15 sl16 sl17 sl18 sl19 sl20 sl21 sl22 sl23 sl24 sl25 sl26 sl27 sl28 sl29 sl30 sl31 sl32 sl33 sl34 sl35 sl36 sl37 sl38 sl39 sl40 sl41 sl42 sl43 sl44 sl45 sl46 sl47 sl48 sl49 sl50 sl51 sl52 sl53 sl54 sl55:Array (Option Value)} {oc0 kV0 dc0 pm0 ct0 cd0 oc1 kV1 dc1 pm1 ct1 cd1 oc2 kV2 dc2 pm2 ct2 cd2 oc3 kV3 dc3 pm3 ct3 cd3 oc4 kV4 dc4 pm4 ct4 cd4 oc5 kV5 dc5 pm5 ct5 cd5 oc6 kV6 dc6 pm6 ct6 cd6 oc7 kV7 dc7 pm7 ct7 cd7 oc8 kV8 dc8 pm8 ct8 cd8 oc9 kV9 dc9 pm9 ct9 cd9 oc10 kV10 dc10 pm10 ct10 cd10 oc11 kV11 dc11 pm11 ct11 cd11 oc12 kV12 dc12 pm12 ct12 cd12 oc13 kV13 dc13 pm13 ct13 cd13 oc14 kV14 dc14 pm14 ct14 cd14 oc15 kV15 dc15 pm15 ct15 cd15 oc16 kV16 dc16 pm16 ct16 cd16 oc17 kV17 dc17 pm17 ct17 cd17 oc18 kV18 dc18 pm18 ct18 cd18 oc19 kV19 dc19 pm19 ct19 cd19 oc20 kV20 dc20 pm20 ct20 cd20 oc21 kV21 dc21 pm21 ct21 cd21 oc22 kV22 dc22 pm22 ct22 cd22 oc23 kV23 dc23 pm23 ct23 cd23 oc24 kV24 dc24 pm24 ct24 cd24 oc25 kV25 dc25 pm25 ct25 cd25 oc26 kV26 dc26 pm26 ct26 cd26 oc27 kV27 dc27 pm27 ct27 cd27 oc28 kV28 dc28 pm28 ct28 cd28 oc29 kV29 dc29 pm29 ct29 cd29 oc30 kV30 dc30 pm30 ct30 cd30 oc31 kV31 dc31 pm31 ct31 cd31 oc32 kV32 dc32 pm32 ct32 cd32 oc33 kV33 dc33 pm33 ct33 cd33 oc34 kV34 dc34 pm34 ct34 cd34 oc35 kV35 dc35 pm35 ct35 cd35 oc36 kV36 dc36 pm36 ct36 cd36 oc37 kV37 dc37 pm37 ct37 cd37 oc38 kV38 dc38 pm38 ct38 cd38 oc39 kV39 dc39 pm39 ct39 cd39 oc40 kV40 dc40 pm40 ct40 cd40 oc41 kV41 dc41 pm41 ct41 cd41 oc42 kV42 dc42 pm42 ct42 cd42 oc43 kV43 dc43 pm43 ct43 cd43 oc44 kV44 dc44 pm44 ct44 cd44 oc45 kV45 dc45 pm45 ct45 cd45 oc46 kV46 dc46 pm46 ct46 cd46 oc47 kV47 dc47 pm47 ct47 cd47 oc48 kV48 dc48 pm48 ct48 cd48 oc49 kV49 dc49 pm49 ct49 cd49 oc50 kV50 dc50 pm50 ct50 cd50 oc51 kV51 dc51 pm51 ct51 cd51 oc52 kV52 dc52 pm52 ct52 cd52 oc53 kV53 dc53 pm53 ct53 cd53 oc54 kV54 dc54 pm54 ct54 cd54 oc55 kV55 dc55 pm55 ct55 cd55:Value}
  {ai az:Addr} {oi oz:Option Addr} {ni nz:Nat} {li lz:Array (Option Value)} {ti0 ti1 tz0 tz1:Tok} {a_Walk:Addr} {rr rt1 rt2 rt3:Addr} {re1 re2 re3 ru1 ru2 ru3 ru4 ru5 ru6:Tok} {rep rn1 rn2 rn3:Nat} {ro1 ro2 ro3:Option Addr} {rl1 rl2 rl3:Array (Option Value)} {ab:Addr} {ob:Option Addr} {nb:Nat} {lb:Array (Option Value)} {tb0 tb1 tb2:Tok}
  (a0:PySem.W.nsIn K mainGlobals "spots" = some (some (.ref f0))) (l0:K.lookup f0=some ⟨oc0,od0,.func (PySem.W.fnOf "spots" "spots" (defArgs z4q) (defBody z4q) (defScope z4q) .none kV0 dc0 pm0 an0 cd0 ct0),sl0⟩) (c0:PySem.W.codeIn K cd0 "spots" = true) (k0:PySem.W.keepIn K (.ref f0)=true)
  (a1:PySem.W.nsIn K mainGlobals "is_whole" = some (some (.ref f1))) (l1:K.lookup f1=some ⟨oc1,od1,.func (PySem.W.fnOf "is_whole" "is_whole" (defArgs z3s) (defBody z3s) (defScope z3s) .none kV1 dc1 pm1 an1 cd1 ct1),sl1⟩) (c1:PySem.W.codeIn K cd1 "is_whole" = true) (k1:PySem.W.keepIn K (.ref f1)=true)
  (a2:PySem.W.nsIn K mainGlobals "is_whole_from" = some (some (.ref f2))) (l2:K.lookup f2=some ⟨oc2,od2,.func (PySem.W.fnOf "is_whole_from" "is_whole_from" (defArgs z18) (defBody z18) (defScope z18) .none kV2 dc2 pm2 an2 cd2 ct2),sl2⟩) (c2:PySem.W.codeIn K cd2 "is_whole_from" = true) (k2:PySem.W.keepIn K (.ref f2)=true)
  (a3:PySem.W.nsIn K mainGlobals "is_tuple_of" = some (some (.ref f3))) (l3:K.lookup f3=some ⟨oc3,od3,.func (PySem.W.fnOf "is_tuple_of" "is_tuple_of" (defArgs z1u) (defBody z1u) (defScope z1u) .none kV3 dc3 pm3 an3 cd3 ct3),sl3⟩) (c3:PySem.W.codeIn K cd3 "is_tuple_of" = true) (k3:PySem.W.keepIn K (.ref f3)=true)
  (a4:PySem.W.nsIn K mainGlobals "is_path" = some (some (.ref f4))) (l4:K.lookup f4=some ⟨oc4,od4,.func (PySem.W.fnOf "is_path" "is_path" (defArgs z4r) (defBody z4r) (defScope z4r) .none kV4 dc4 pm4 an4 cd4 ct4),sl4⟩) (c4:PySem.W.codeIn K cd4 "is_path" = true) (k4:PySem.W.keepIn K (.ref f4)=true)
  (a5:PySem.W.nsIn K mainGlobals "are_rising_rows" = some (some (.ref f5))) (l5:K.lookup f5=some ⟨oc5,od5,.func (PySem.W.fnOf "are_rising_rows" "are_rising_rows" (defArgs z0s) (defBody z0s) (defScope z0s) .none kV5 dc5 pm5 an5 cd5 ct5),sl5⟩) (c5:PySem.W.codeIn K cd5 "are_rising_rows" = true) (k5:PySem.W.keepIn K (.ref f5)=true)
  (a6:PySem.W.nsIn K mainGlobals "term_of" = some (some (.ref f6))) (l6:K.lookup f6=some ⟨oc6,od6,.func (PySem.W.fnOf "term_of" "term_of" (defArgs z7d) (defBody z7d) (defScope z7d) .none kV6 dc6 pm6 an6 cd6 ct6),sl6⟩) (c6:PySem.W.codeIn K cd6 "term_of" = true) (k6:PySem.W.keepIn K (.ref f6)=true)
  (a7:PySem.W.nsIn K mainGlobals "blocks_of" = some (some (.ref f7))) (l7:K.lookup f7=some ⟨oc7,od7,.func (PySem.W.fnOf "blocks_of" "blocks_of" (defArgs z4t) (defBody z4t) (defScope z4t) .none kV7 dc7 pm7 an7 cd7 ct7),sl7⟩) (c7:PySem.W.codeIn K cd7 "blocks_of" = true) (k7:PySem.W.keepIn K (.ref f7)=true)
  (a8:PySem.W.nsIn K mainGlobals "all_deeds" = some (some (.ref f8))) (l8:K.lookup f8=some ⟨oc8,od8,.func (PySem.W.fnOf "all_deeds" "all_deeds" (defArgs z42) (defBody z42) (defScope z42) .none kV8 dc8 pm8 an8 cd8 ct8),sl8⟩) (c8:PySem.W.codeIn K cd8 "all_deeds" = true) (k8:PySem.W.keepIn K (.ref f8)=true)
  (a9:PySem.W.nsIn K mainGlobals "deeds_of_block" = some (some (.ref f9))) (l9:K.lookup f9=some ⟨oc9,od9,.func (PySem.W.fnOf "deeds_of_block" "deeds_of_block" (defArgs z0a) (defBody z0a) (defScope z0a) .none kV9 dc9 pm9 an9 cd9 ct9),sl9⟩) (c9:PySem.W.codeIn K cd9 "deeds_of_block" = true) (k9:PySem.W.keepIn K (.ref f9)=true)
  (a10:PySem.W.nsIn K mainGlobals "spots_of_term" = some (some (.ref f10))) (l10:K.lookup f10=some ⟨oc10,od10,.func (PySem.W.fnOf "spots_of_term" "spots_of_term" (defArgs z1q) (defBody z1q) (defScope z1q) .none kV10 dc10 pm10 an10 cd10 ct10),sl10⟩) (c10:PySem.W.codeIn K cd10 "spots_of_term" = true) (k10:PySem.W.keepIn K (.ref f10)=true)
  (a11:PySem.W.nsIn K mainGlobals "worth_of" = some (some (.ref f11))) (l11:K.lookup f11=some ⟨oc11,od11,.func (PySem.W.fnOf "worth_of" "worth_of" (defArgs z37) (defBody z37) (defScope z37) .none kV11 dc11 pm11 an11 cd11 ct11),sl11⟩) (c11:PySem.W.codeIn K cd11 "worth_of" = true) (k11:PySem.W.keepIn K (.ref f11)=true)
  (a12:PySem.W.nsIn K mainGlobals "joined" = some (some (.ref f12))) (l12:K.lookup f12=some ⟨oc12,od12,.func (PySem.W.fnOf "joined" "joined" (defArgs z6c) (defBody z6c) (defScope z6c) .none kV12 dc12 pm12 an12 cd12 ct12),sl12⟩) (c12:PySem.W.codeIn K cd12 "joined" = true) (k12:PySem.W.keepIn K (.ref f12)=true)
  (a13:PySem.W.nsIn K mainGlobals "met" = some (some (.ref f13))) (l13:K.lookup f13=some ⟨oc13,od13,.func (PySem.W.fnOf "met" "met" (defArgs zjw) (defBody zjw) (defScope zjw) .none kV13 dc13 pm13 an13 cd13 ct13),sl13⟩) (c13:PySem.W.codeIn K cd13 "met" = true) (k13:PySem.W.keepIn K (.ref f13)=true)
  (a14:PySem.W.nsIn K mainGlobals "is_within" = some (some (.ref f14))) (l14:K.lookup f14=some ⟨oc14,od14,.func (PySem.W.fnOf "is_within" "is_within" (defArgs z3h) (defBody z3h) (defScope z3h) .none kV14 dc14 pm14 an14 cd14 ct14),sl14⟩) (c14:PySem.W.codeIn K cd14 "is_within" = true) (k14:PySem.W.keepIn K (.ref f14)=true)
  (a15:PySem.W.nsIn K mainGlobals "between" = some (some (.ref f15))) (l15:K.lookup f15=some ⟨oc15,od15,.func (PySem.W.fnOf "between" "between" (defArgs z6d) (defBody z6d) (defScope z6d) .none kV15 dc15 pm15 an15 cd15 ct15),sl15⟩) (c15:PySem.W.codeIn K cd15 "between" = true) (k15:PySem.W.keepIn K (.ref f15)=true)
  (a16:PySem.W.nsIn K mainGlobals "stretch_of" = some (some (.ref f16))) (l16:K.lookup f16=some ⟨oc16,od16,.func (PySem.W.fnOf "stretch_of" "stretch_of" (defArgs z0r) (defBody z0r) (defScope z0r) .none kV16 dc16 pm16 an16 cd16 ct16),sl16⟩) (c16:PySem.W.codeIn K cd16 "stretch_of" = true) (k16:PySem.W.keepIn K (.ref f16)=true)
  (a17:PySem.W.nsIn K mainGlobals "stretch_of_same" = some (some (.ref f17))) (l17:K.lookup f17=some ⟨oc17,od17,.func (PySem.W.fnOf "stretch_of_same" "stretch_of_same" (defArgs z0n) (defBody z0n) (defScope z0n) .none kV17 dc17 pm17 an17 cd17 ct17),sl17⟩) (c17:PySem.W.codeIn K cd17 "stretch_of_same" = true) (k17:PySem.W.keepIn K (.ref f17)=true)
  (a18:PySem.W.nsIn K mainGlobals "stretch_of_ends" = some (some (.ref f18))) (l18:K.lookup f18=some ⟨oc18,od18,.func (PySem.W.fnOf "stretch_of_ends" "stretch_of_ends" (defArgs z0p) (defBody z0p) (defScope z0p) .none kV18 dc18 pm18 an18 cd18 ct18),sl18⟩) (c18:PySem.W.codeIn K cd18 "stretch_of_ends" = true) (k18:PySem.W.keepIn K (.ref f18)=true)
  (a19:PySem.W.nsIn K mainGlobals "reckoned_from" = some (some (.ref f19))) (l19:K.lookup f19=some ⟨oc19,od19,.func (PySem.W.fnOf "reckoned_from" "reckoned_from" (defArgs z0v) (defBody z0v) (defScope z0v) .none kV19 dc19 pm19 an19 cd19 ct19),sl19⟩) (c19:PySem.W.codeIn K cd19 "reckoned_from" = true) (k19:PySem.W.keepIn K (.ref f19)=true)
  (a20:PySem.W.nsIn K mainGlobals "behind" = some (some (.ref f20))) (l20:K.lookup f20=some ⟨oc20,od20,.func (PySem.W.fnOf "behind" "behind" (defArgs z4k) (defBody z4k) (defScope z4k) .none kV20 dc20 pm20 an20 cd20 ct20),sl20⟩) (c20:PySem.W.codeIn K cd20 "behind" = true) (k20:PySem.W.keepIn K (.ref f20)=true)
  (a21:PySem.W.nsIn K mainGlobals "behind_question" = some (some (.ref f21))) (l21:K.lookup f21=some ⟨oc21,od21,.func (PySem.W.fnOf "behind_question" "behind_question" (defArgs z09) (defBody z09) (defScope z09) .none kV21 dc21 pm21 an21 cd21 ct21),sl21⟩) (c21:PySem.W.codeIn K cd21 "behind_question" = true) (k21:PySem.W.keepIn K (.ref f21)=true)
  (a22:PySem.W.nsIn K mainGlobals "with_left" = some (some (.ref f22))) (l22:K.lookup f22=some ⟨oc22,od22,.func (PySem.W.fnOf "with_left" "with_left" (defArgs z2e) (defBody z2e) (defScope z2e) .none kV22 dc22 pm22 an22 cd22 ct22),sl22⟩) (c22:PySem.W.codeIn K cd22 "with_left" = true) (k22:PySem.W.keepIn K (.ref f22)=true)
  (a23:PySem.W.nsIn K mainGlobals "left_of_name" = some (some (.ref f23))) (l23:K.lookup f23=some ⟨oc23,od23,.func (PySem.W.fnOf "left_of_name" "left_of_name" (defArgs z1r) (defBody z1r) (defScope z1r) .none kV23 dc23 pm23 an23 cd23 ct23),sl23⟩) (c23:PySem.W.codeIn K cd23 "left_of_name" = true) (k23:PySem.W.keepIn K (.ref f23)=true)
  (a24:PySem.W.nsIn K mainGlobals "left_of_one" = some (some (.ref f24))) (l24:K.lookup f24=some ⟨oc24,od24,.func (PySem.W.fnOf "left_of_one" "left_of_one" (defArgs z13) (defBody z13) (defScope z13) .none kV24 dc24 pm24 an24 cd24 ct24),sl24⟩) (c24:PySem.W.codeIn K cd24 "left_of_one" = true) (k24:PySem.W.keepIn K (.ref f24)=true)
  (a25:PySem.W.nsIn K mainGlobals "left_of_other" = some (some (.ref f25))) (l25:K.lookup f25=some ⟨oc25,od25,.func (PySem.W.fnOf "left_of_other" "left_of_other" (defArgs z0q) (defBody z0q) (defScope z0q) .none kV25 dc25 pm25 an25 cd25 ct25),sl25⟩) (c25:PySem.W.codeIn K cd25 "left_of_other" = true) (k25:PySem.W.keepIn K (.ref f25)=true)
  (a26:PySem.W.nsIn K mainGlobals "left_by_same" = some (some (.ref f26))) (l26:K.lookup f26=some ⟨oc26,od26,.func (PySem.W.fnOf "left_by_same" "left_by_same" (defArgs z1b) (defBody z1b) (defScope z1b) .none kV26 dc26 pm26 an26 cd26 ct26),sl26⟩) (c26:PySem.W.codeIn K cd26 "left_by_same" = true) (k26:PySem.W.keepIn K (.ref f26)=true)
  (a27:PySem.W.nsIn K mainGlobals "without" = some (some (.ref f27))) (l27:K.lookup f27=some ⟨oc27,od27,.func (PySem.W.fnOf "without" "without" (defArgs z5k) (defBody z5k) (defScope z5k) .none kV27 dc27 pm27 an27 cd27 ct27),sl27⟩) (c27:PySem.W.codeIn K cd27 "without" = true) (k27:PySem.W.keepIn K (.ref f27)=true)
  (a28:PySem.W.nsIn K mainGlobals "shown" = some (some (.ref f28))) (l28:K.lookup f28=some ⟨oc28,od28,.func (PySem.W.fnOf "shown" "shown" (defArgs z73) (defBody z73) (defScope z73) .none kV28 dc28 pm28 an28 cd28 ct28),sl28⟩) (c28:PySem.W.codeIn K cd28 "shown" = true) (k28:PySem.W.keepIn K (.ref f28)=true)
  (a29:PySem.W.nsIn K mainGlobals "is_paper" = some (some (.ref f29))) (l29:K.lookup f29=some ⟨oc29,od29,.func (PySem.W.fnOf "is_paper" "is_paper" (defArgs z49) (defBody z49) (defScope z49) .none kV29 dc29 pm29 an29 cd29 ct29),sl29⟩) (c29:PySem.W.codeIn K cd29 "is_paper" = true) (k29:PySem.W.keepIn K (.ref f29)=true)
  (a30:PySem.W.nsIn K mainGlobals "notes_by" = some (some (.ref f30))) (l30:K.lookup f30=some ⟨oc30,od30,.func (PySem.W.fnOf "notes_by" "notes_by" (defArgs z38) (defBody z38) (defScope z38) .none kV30 dc30 pm30 an30 cd30 ct30),sl30⟩) (c30:PySem.W.codeIn K cd30 "notes_by" = true) (k30:PySem.W.keepIn K (.ref f30)=true)
  (a31:PySem.W.nsIn K mainGlobals "walk_by_paper" = some (some (.ref f31))) (l31:K.lookup f31=some ⟨oc31,od31,.func (PySem.W.fnOf "walk_by_paper" "walk_by_paper" (defArgs z0j) (defBody z0j) (defScope z0j) .none kV31 dc31 pm31 an31 cd31 ct31),sl31⟩) (c31:PySem.W.codeIn K cd31 "walk_by_paper" = true) (k31:PySem.W.keepIn K (.ref f31)=true)
  (a32:PySem.W.nsIn K mainGlobals "is_paper_row" = some (some (.ref f32))) (l32:K.lookup f32=some ⟨oc32,od32,.func (PySem.W.fnOf "is_paper_row" "is_paper_row" (defArgs z1c) (defBody z1c) (defScope z1c) .none kV32 dc32 pm32 an32 cd32 ct32),sl32⟩) (c32:PySem.W.codeIn K cd32 "is_paper_row" = true) (k32:PySem.W.keepIn K (.ref f32)=true)
  (a33:PySem.W.nsIn K mainGlobals "is_shelf_row" = some (some (.ref f33))) (l33:K.lookup f33=some ⟨oc33,od33,.func (PySem.W.fnOf "is_shelf_row" "is_shelf_row" (defArgs z15) (defBody z15) (defScope z15) .none kV33 dc33 pm33 an33 cd33 ct33),sl33⟩) (c33:PySem.W.codeIn K cd33 "is_shelf_row" = true) (k33:PySem.W.keepIn K (.ref f33)=true)
  (a34:PySem.W.nsIn K mainGlobals "heads_of" = some (some (.ref f34))) (l34:K.lookup f34=some ⟨oc34,od34,.func (PySem.W.fnOf "heads_of" "heads_of" (defArgs z2f) (defBody z2f) (defScope z2f) .none kV34 dc34 pm34 an34 cd34 ct34),sl34⟩) (c34:PySem.W.codeIn K cd34 "heads_of" = true) (k34:PySem.W.keepIn K (.ref f34)=true)
  (a35:PySem.W.nsIn K mainGlobals "book_of" = some (some (.ref f35))) (l35:K.lookup f35=some ⟨oc35,od35,.func (PySem.W.fnOf "book_of" "book_of" (defArgs z2r) (defBody z2r) (defScope z2r) .none kV35 dc35 pm35 an35 cd35 ct35),sl35⟩) (c35:PySem.W.codeIn K cd35 "book_of" = true) (k35:PySem.W.keepIn K (.ref f35)=true)
  (a36:PySem.W.nsIn K mainGlobals "is_held" = some (some (.ref f36))) (l36:K.lookup f36=some ⟨oc36,od36,.func (PySem.W.fnOf "is_held" "is_held" (defArgs z4s) (defBody z4s) (defScope z4s) .none kV36 dc36 pm36 an36 cd36 ct36),sl36⟩) (c36:PySem.W.codeIn K cd36 "is_held" = true) (k36:PySem.W.keepIn K (.ref f36)=true)
  (a37:PySem.W.nsIn K mainGlobals "is_book_within" = some (some (.ref f37))) (l37:K.lookup f37=some ⟨oc37,od37,.func (PySem.W.fnOf "is_book_within" "is_book_within" (defArgs z14) (defBody z14) (defScope z14) .none kV37 dc37 pm37 an37 cd37 ct37),sl37⟩) (c37:PySem.W.codeIn K cd37 "is_book_within" = true) (k37:PySem.W.keepIn K (.ref f37)=true)
  (a38:PySem.W.nsIn K mainGlobals "walked" = some (some (.ref f38))) (l38:K.lookup f38=some ⟨oc38,od38,.func (PySem.W.fnOf "walked" "walked" (defArgs z4j) (defBody z4j) (defScope z4j) .none kV38 dc38 pm38 an38 cd38 ct38),sl38⟩) (c38:PySem.W.codeIn K cd38 "walked" = true) (k38:PySem.W.keepIn K (.ref f38)=true)
  (a39:PySem.W.nsIn K mainGlobals "go_block" = some (some (.ref f39))) (l39:K.lookup f39=some ⟨oc39,od39,.func (PySem.W.fnOf "go_block" "go_block" (defArgs z1p) (defBody z1p) (defScope z1p) .none kV39 dc39 pm39 an39 cd39 ct39),sl39⟩) (c39:PySem.W.codeIn K cd39 "go_block" = true) (k39:PySem.W.keepIn K (.ref f39)=true)
  (a40:PySem.W.nsIn K mainGlobals "go_deed" = some (some (.ref f40))) (l40:K.lookup f40=some ⟨oc40,od40,.func (PySem.W.fnOf "go_deed" "go_deed" (defArgs z3d) (defBody z3d) (defScope z3d) .none kV40 dc40 pm40 an40 cd40 ct40),sl40⟩) (c40:PySem.W.codeIn K cd40 "go_deed" = true) (k40:PySem.W.keepIn K (.ref f40)=true)
  (a41:PySem.W.nsIn K mainGlobals "go_set" = some (some (.ref f41))) (l41:K.lookup f41=some ⟨oc41,od41,.func (PySem.W.fnOf "go_set" "go_set" (defArgs z3c) (defBody z3c) (defScope z3c) .none kV41 dc41 pm41 an41 cd41 ct41),sl41⟩) (c41:PySem.W.codeIn K cd41 "go_set" = true) (k41:PySem.W.keepIn K (.ref f41)=true)
  (a42:PySem.W.nsIn K mainGlobals "go_if" = some (some (.ref f42))) (l42:K.lookup f42=some ⟨oc42,od42,.func (PySem.W.fnOf "go_if" "go_if" (defArgs z3i) (defBody z3i) (defScope z3i) .none kV42 dc42 pm42 an42 cd42 ct42),sl42⟩) (c42:PySem.W.codeIn K cd42 "go_if" = true) (k42:PySem.W.keepIn K (.ref f42)=true)
  (a43:PySem.W.nsIn K mainGlobals "go_while" = some (some (.ref f43))) (l43:K.lookup f43=some ⟨oc43,od43,.func (PySem.W.fnOf "go_while" "go_while" (defArgs z12) (defBody z12) (defScope z12) .none kV43 dc43 pm43 an43 cd43 ct43),sl43⟩) (c43:PySem.W.codeIn K cd43 "go_while" = true) (k43:PySem.W.keepIn K (.ref f43)=true)
  (a44:PySem.W.nsIn K mainGlobals "side_of" = some (some (.ref f44))) (l44:K.lookup f44=some ⟨oc44,od44,.func (PySem.W.fnOf "side_of" "side_of" (defArgs z2q) (defBody z2q) (defScope z2q) .none kV44 dc44 pm44 an44 cd44 ct44),sl44⟩) (c44:PySem.W.codeIn K cd44 "side_of" = true) (k44:PySem.W.keepIn K (.ref f44)=true)
  (a45:PySem.W.nsIn K mainGlobals "show" = some (some (.ref f45))) (l45:K.lookup f45=some ⟨oc45,od45,.func (PySem.W.fnOf "show" "show" (defArgs z6p) (defBody z6p) (defScope z6p) .none kV45 dc45 pm45 an45 cd45 ct45),sl45⟩) (c45:PySem.W.codeIn K cd45 "show" = true) (k45:PySem.W.keepIn K (.ref f45)=true)
  (a46:PySem.W.nsIn K mainGlobals "noted" = some (some (.ref f46))) (l46:K.lookup f46=some ⟨oc46,od46,.func (PySem.W.fnOf "noted" "noted" (defArgs z7r) (defBody z7r) (defScope z7r) .none kV46 dc46 pm46 an46 cd46 ct46),sl46⟩) (c46:PySem.W.codeIn K cd46 "noted" = true) (k46:PySem.W.keepIn K (.ref f46)=true)
  (a47:PySem.W.nsIn K mainGlobals "joined_books" = some (some (.ref f47))) (l47:K.lookup f47=some ⟨oc47,od47,.func (PySem.W.fnOf "joined_books" "joined_books" (defArgs z0w) (defBody z0w) (defScope z0w) .none kV47 dc47 pm47 an47 cd47 ct47),sl47⟩) (c47:PySem.W.codeIn K cd47 "joined_books" = true) (k47:PySem.W.keepIn K (.ref f47)=true)
  (a48:PySem.W.nsIn K mainGlobals "joined_to" = some (some (.ref f48))) (l48:K.lookup f48=some ⟨oc48,od48,.func (PySem.W.fnOf "joined_to" "joined_to" (defArgs z22) (defBody z22) (defScope z22) .none kV48 dc48 pm48 an48 cd48 ct48),sl48⟩) (c48:PySem.W.codeIn K cd48 "joined_to" = true) (k48:PySem.W.keepIn K (.ref f48)=true)
  (a49:PySem.W.nsIn K mainGlobals "room_of" = some (some (.ref f49))) (l49:K.lookup f49=some ⟨oc49,od49,.func (PySem.W.fnOf "room_of" "room_of" (defArgs z6b) (defBody z6b) (defScope z6b) .none kV49 dc49 pm49 an49 cd49 ct49),sl49⟩) (c49:PySem.W.codeIn K cd49 "room_of" = true) (k49:PySem.W.keepIn K (.ref f49)=true)
  (a50:PySem.W.nsIn K mainGlobals "plan_by" = some (some (.ref f50))) (l50:K.lookup f50=some ⟨oc50,od50,.func (PySem.W.fnOf "plan_by" "plan_by" (defArgs z3r) (defBody z3r) (defScope z3r) .none kV50 dc50 pm50 an50 cd50 ct50),sl50⟩) (c50:PySem.W.codeIn K cd50 "plan_by" = true) (k50:PySem.W.keepIn K (.ref f50)=true)
  (a51:PySem.W.nsIn K mainGlobals "plan_row" = some (some (.ref f51))) (l51:K.lookup f51=some ⟨oc51,od51,.func (PySem.W.fnOf "plan_row" "plan_row" (defArgs z1o) (defBody z1o) (defScope z1o) .none kV51 dc51 pm51 an51 cd51 ct51),sl51⟩) (c51:PySem.W.codeIn K cd51 "plan_row" = true) (k51:PySem.W.keepIn K (.ref f51)=true)
  (a52:PySem.W.nsIn K mainGlobals "fewest_bits" = some (some (.ref f52))) (l52:K.lookup f52=some ⟨oc52,od52,.func (PySem.W.fnOf "fewest_bits" "fewest_bits" (defArgs z1g) (defBody z1g) (defScope z1g) .none kV52 dc52 pm52 an52 cd52 ct52),sl52⟩) (c52:PySem.W.codeIn K cd52 "fewest_bits" = true) (k52:PySem.W.keepIn K (.ref f52)=true)
  (a53:PySem.W.nsIn K mainGlobals "_law_cell" = some (some (.ref f53))) (l53:K.lookup f53=some ⟨oc53,od53,.func (PySem.W.fnOf "_law_cell" "_law_cell" (defArgs z48) (defBody z48) (defScope z48) .none kV53 dc53 pm53 an53 cd53 ct53),sl53⟩) (c53:PySem.W.codeIn K cd53 "_law_cell" = true) (k53:PySem.W.keepIn K (.ref f53)=true)
  (a54:PySem.W.nsIn K mainGlobals "_law_pick" = some (some (.ref f54))) (l54:K.lookup f54=some ⟨oc54,od54,.func (PySem.W.fnOf "_law_pick" "_law_pick" (defArgs z30) (defBody z30) (defScope z30) .none kV54 dc54 pm54 an54 cd54 ct54),sl54⟩) (c54:PySem.W.codeIn K cd54 "_law_pick" = true) (k54:PySem.W.keepIn K (.ref f54)=true)
  (a55:PySem.W.nsIn K mainGlobals "law" = some (some (.ref f55))) (l55:K.lookup f55=some ⟨oc55,od55,.func (PySem.W.fnOf "law" "law" (defArgs z28) (defBody z28) (defScope z28) .none kV55 dc55 pm55 an55 cd55 ct55),sl55⟩) (c55:PySem.W.codeIn K cd55 "law" = true) (k55:PySem.W.keepIn K (.ref f55)=true)
  (x_Walk:PySem.W.nsIn K mainGlobals "Walk" = some (some (.ref a_Walk)))
  {fm_Walk_init:Addr} {od_Walk_init an_Walk_init:Option Addr} {sl_Walk_init:Array (Option Value)} {oc_Walk_init kV_Walk_init dc_Walk_init pm_Walk_init cd_Walk_init ct_Walk_init:Value} (ma_Walk_init:PySem.W.findIn K (.ref a_Walk) "__init__" = some (some (.ref fm_Walk_init))) (ml_Walk_init:K.lookup fm_Walk_init=some ⟨oc_Walk_init,od_Walk_init,.func (PySem.W.fnOf "__init__" "Walk.__init__" (defArgs z4u) (defBody z4u) (defScope z4u) .none kV_Walk_init dc_Walk_init pm_Walk_init an_Walk_init cd_Walk_init ct_Walk_init),sl_Walk_init⟩) (mc_Walk_init:PySem.W.codeIn K cd_Walk_init "Walk.__init__" = true) (mf_Walk_init:PySem.W.isFn K (.ref fm_Walk_init)=true) (mk_Walk_init:PySem.W.keepIn K (.ref fm_Walk_init)=true)
  (z_all:PySem.W.nsIn K mainGlobals "all" = some none)
  (z_bool:PySem.W.nsIn K mainGlobals "bool" = some none)
  (z_dict:PySem.W.nsIn K mainGlobals "dict" = some none)
  (z_enumerate:PySem.W.nsIn K mainGlobals "enumerate" = some none)
  (z_int:PySem.W.nsIn K mainGlobals "int" = some none)
  (z_isinstance:PySem.W.nsIn K mainGlobals "isinstance" = some none)
  (z_len:PySem.W.nsIn K mainGlobals "len" = some none)
  (z_max:PySem.W.nsIn K mainGlobals "max" = some none)
  (z_min:PySem.W.nsIn K mainGlobals "min" = some none)
  (z_range:PySem.W.nsIn K mainGlobals "range" = some none)
  (z_sorted:PySem.W.nsIn K mainGlobals "sorted" = some none)
  (z_str:PySem.W.nsIn K mainGlobals "str" = some none)
  (z_tuple:PySem.W.nsIn K mainGlobals "tuple" = some none)
  (z_zip:PySem.W.nsIn K mainGlobals "zip" = some none)
  (pw:PySem.W.nsIn K mainGlobals "WIDE" = some (some (.ref ai)))
  (ph:K.lookup ai=some ⟨.type "tuple",oi,.seq #[.int (-32768) ti0,.int 32767 ti1] ni,li⟩)
  (pz:PySem.W.nsIn K mainGlobals "ZERO" = some (some (.ref az)))
  (phz:K.lookup az=some ⟨.type "tuple",oz,.seq #[.int 0 tz0,.int 0 tz1] nz,lz⟩)
  (t_Walk:WkC K a_Walk)
  (mk_Walk:PySem.W.makesIn K a_Walk=true)
  (kp_Walk:PySem.W.keepIn K (.ref a_Walk)=true)
  (ra:PySem.W.nsIn K mainGlobals "ROOMS" = some (some (.ref rr)))
  (rh:K.lookup rr=some ⟨.type "dict",none,.dict #[⟨4,.int 4 re1,.ref rt1⟩,⟨8,.int 8 re2,.ref rt2⟩,⟨16,.int 16 re3,.ref rt3⟩] rep,#[]⟩)
  (rh1:K.lookup rt1=some ⟨.type "tuple",ro1,.seq #[.int (-8) ru1,.int 7 ru2] rn1,rl1⟩)
  (rh2:K.lookup rt2=some ⟨.type "tuple",ro2,.seq #[.int (-128) ru3,.int 127 ru4] rn2,rl2⟩)
  (rh3:K.lookup rt3=some ⟨.type "tuple",ro3,.seq #[.int (-32768) ru5,.int 32767 ru6] rn3,rl3⟩)
  (pb:PySem.W.nsIn K mainGlobals "BITS" = some (some (.ref ab)))
  (phb:K.lookup ab=some ⟨.type "tuple",ob,.seq #[.int 4 tb0,.int 8 tb1,.int 16 tb2] nb,lb⟩)
  : ∃fd:FuncData,(∀(s:Shared) (v:Value),BindsTo s fd ⟨[v],[]⟩ [("_law_script",v)])/\∀base:Heap,K.In base->base.Ns mainGlobals mg->FnOk l.prog w K mg base CX0 23 fa fd ["_law_script"] (q2f K):=by
 have e:=hfa.symm.trans (PySem.W.mg_of X G a55)
 cases e
 have F_spots:=z0t (st:=z4q) l0 c0 k0
 have B_spots:=F_spots.binds (ps:=["program"]) fun _ _ _ _ _ _=>us1 fun _=>rfl
 have d_spots:Df K mg "spots" z4q ["program"] f0 _:=⟨F_spots,PySem.W.mg_of X G a0,B_spots⟩
 have F_is_whole:=z0t (st:=z3s) l1 c1 k1
 have B_is_whole:=F_is_whole.binds (ps:=["thing"]) fun _ _ _ _ _ _=>us1 fun _=>rfl
 have d_is_whole:Df K mg "is_whole" z3s ["thing"] f1 _:=⟨F_is_whole,PySem.W.mg_of X G a1,B_is_whole⟩
 have F_is_whole_from:=z0t (st:=z18) l2 c2 k2
 have B_is_whole_from:=F_is_whole_from.binds (ps:=["thing","low","high"]) fun _ _ _ _ _ _=>us3 fun _ _ _=>rfl
 have d_is_whole_from:Df K mg "is_whole_from" z18 ["thing","low","high"] f2 _:=⟨F_is_whole_from,PySem.W.mg_of X G a2,B_is_whole_from⟩
 have F_is_tuple_of:=z0t (st:=z1u) l3 c3 k3
 have B_is_tuple_of:=F_is_tuple_of.binds (ps:=["thing","many"]) fun _ _ _ _ _ _=>us2 fun _ _=>rfl
 have d_is_tuple_of:Df K mg "is_tuple_of" z1u ["thing","many"] f3 _:=⟨F_is_tuple_of,PySem.W.mg_of X G a3,B_is_tuple_of⟩
 have F_is_path:=z0t (st:=z4r) l4 c4 k4
 have B_is_path:=F_is_path.binds (ps:=["thing"]) fun _ _ _ _ _ _=>us1 fun _=>rfl
 have d_is_path:Df K mg "is_path" z4r ["thing"] f4 _:=⟨F_is_path,PySem.W.mg_of X G a4,B_is_path⟩
 have F_are_rising_rows:=z0t (st:=z0s) l5 c5 k5
 have B_are_rising_rows:=F_are_rising_rows.binds (ps:=["thing","is_row"]) fun _ _ _ _ _ _=>us2 fun _ _=>rfl
 have d_are_rising_rows:Df K mg "are_rising_rows" z0s ["thing","is_row"] f5 _:=⟨F_are_rising_rows,PySem.W.mg_of X G a5,B_are_rising_rows⟩
 have F_term_of:=z0t (st:=z7d) l6 c6 k6
 have B_term_of:=F_term_of.binds (ps:=["deed"]) fun _ _ _ _ _ _=>us1 fun _=>rfl
 have d_term_of:Df K mg "term_of" z7d ["deed"] f6 _:=⟨F_term_of,PySem.W.mg_of X G a6,B_term_of⟩
 have F_blocks_of:=z0t (st:=z4t) l7 c7 k7
 have B_blocks_of:=F_blocks_of.binds (ps:=["deed"]) fun _ _ _ _ _ _=>us1 fun _=>rfl
 have d_blocks_of:Df K mg "blocks_of" z4t ["deed"] f7 _:=⟨F_blocks_of,PySem.W.mg_of X G a7,B_blocks_of⟩
 have F_all_deeds:=z0t (st:=z42) l8 c8 k8
 have B_all_deeds:=F_all_deeds.binds (ps:=["program"]) fun _ _ _ _ _ _=>us1 fun _=>rfl
 have d_all_deeds:Df K mg "all_deeds" z42 ["program"] f8 _:=⟨F_all_deeds,PySem.W.mg_of X G a8,B_all_deeds⟩
 have F_deeds_of_block:=z0t (st:=z0a) l9 c9 k9
 have B_deeds_of_block:=F_deeds_of_block.binds (ps:=["block","path"]) fun _ _ _ _ _ _=>us2 fun _ _=>rfl
 have d_deeds_of_block:Df K mg "deeds_of_block" z0a ["block","path"] f9 _:=⟨F_deeds_of_block,PySem.W.mg_of X G a9,B_deeds_of_block⟩
 have F_spots_of_term:=z0t (st:=z1q) l10 c10 k10
 have B_spots_of_term:=F_spots_of_term.binds (ps:=["term","path"]) fun _ _ _ _ _ _=>us2 fun _ _=>rfl
 have d_spots_of_term:Df K mg "spots_of_term" z1q ["term","path"] f10 _:=⟨F_spots_of_term,PySem.W.mg_of X G a10,B_spots_of_term⟩
 have F_worth_of:=z0t (st:=z37) l11 c11 k11
 have B_worth_of:=F_worth_of.binds (ps:=["word","one","other"]) fun _ _ _ _ _ _=>us3 fun _ _ _=>rfl
 have d_worth_of:Df K mg "worth_of" z37 ["word","one","other"] f11 _:=⟨F_worth_of,PySem.W.mg_of X G a11,B_worth_of⟩
 have F_joined:=z0t (st:=z6c) l12 c12 k12
 have B_joined:=F_joined.binds (ps:=["one","other"]) fun _ _ _ _ _ _=>us2 fun _ _=>rfl
 have d_joined:Df K mg "joined" z6c ["one","other"] f12 _:=⟨F_joined,PySem.W.mg_of X G a12,B_joined⟩
 have F_met:=z0t (st:=zjw) l13 c13 k13
 have B_met:=F_met.binds (ps:=["one","other"]) fun _ _ _ _ _ _=>us2 fun _ _=>rfl
 have d_met:Df K mg "met" zjw ["one","other"] f13 _:=⟨F_met,PySem.W.mg_of X G a13,B_met⟩
 have F_is_within:=z0t (st:=z3h) l14 c14 k14
 have B_is_within:=F_is_within.binds (ps:=["one","other"]) fun _ _ _ _ _ _=>us2 fun _ _=>rfl
 have d_is_within:Df K mg "is_within" z3h ["one","other"] f14 _:=⟨F_is_within,PySem.W.mg_of X G a14,B_is_within⟩
 have F_between:=z0t (st:=z6d) l15 c15 k15
 have B_between:=F_between.binds (ps:=["low","high"]) fun _ _ _ _ _ _=>us2 fun _ _=>rfl
 have d_between:Df K mg "between" z6d ["low","high"] f15 _:=⟨F_between,PySem.W.mg_of X G a15,B_between⟩
 have F_stretch_of:=z0t (st:=z0r) l16 c16 k16
 have B_stretch_of:=F_stretch_of.binds (ps:=["word","one","other"]) fun _ _ _ _ _ _=>us3 fun _ _ _=>rfl
 have d_stretch_of:Df K mg "stretch_of" z0r ["word","one","other"] f16 _:=⟨F_stretch_of,PySem.W.mg_of X G a16,B_stretch_of⟩
 have F_stretch_of_same:=z0t (st:=z0n) l17 c17 k17
 have B_stretch_of_same:=F_stretch_of_same.binds (ps:=["one","other"]) fun _ _ _ _ _ _=>us2 fun _ _=>rfl
 have d_stretch_of_same:Df K mg "stretch_of_same" z0n ["one","other"] f17 _:=⟨F_stretch_of_same,PySem.W.mg_of X G a17,B_stretch_of_same⟩
 have F_stretch_of_ends:=z0t (st:=z0p) l18 c18 k18
 have B_stretch_of_ends:=F_stretch_of_ends.binds (ps:=["word","one","other"]) fun _ _ _ _ _ _=>us3 fun _ _ _=>rfl
 have d_stretch_of_ends:Df K mg "stretch_of_ends" z0p ["word","one","other"] f18 _:=⟨F_stretch_of_ends,PySem.W.mg_of X G a18,B_stretch_of_ends⟩
 have F_reckoned_from:=z0t (st:=z0v) l19 c19 k19
 have B_reckoned_from:=F_reckoned_from.binds (ps:=["term","book"]) fun _ _ _ _ _ _=>us2 fun _ _=>rfl
 have d_reckoned_from:Df K mg "reckoned_from" z0v ["term","book"] f19 _:=⟨F_reckoned_from,PySem.W.mg_of X G a19,B_reckoned_from⟩
 have F_behind:=z0t (st:=z4k) l20 c20 k20
 have B_behind:=F_behind.binds (ps:=["term","book","is_so"]) fun _ _ _ _ _ _=>us3 fun _ _ _=>rfl
 have d_behind:Df K mg "behind" z4k ["term","book","is_so"] f20 _:=⟨F_behind,PySem.W.mg_of X G a20,B_behind⟩
 have F_behind_question:=z0t (st:=z09) l21 c21 k21
 have B_behind_question:=F_behind_question.binds (ps:=["term","book","is_so"]) fun _ _ _ _ _ _=>us3 fun _ _ _=>rfl
 have d_behind_question:Df K mg "behind_question" z09 ["term","book","is_so"] f21 _:=⟨F_behind_question,PySem.W.mg_of X G a21,B_behind_question⟩
 have F_with_left:=z0t (st:=z2e) l22 c22 k22
 have B_with_left:=F_with_left.binds (ps:=["book","name","stretch"]) fun _ _ _ _ _ _=>us3 fun _ _ _=>rfl
 have d_with_left:Df K mg "with_left" z2e ["book","name","stretch"] f22 _:=⟨F_with_left,PySem.W.mg_of X G a22,B_with_left⟩
 have F_left_of_name:=z0t (st:=z1r) l23 c23 k23
 have B_left_of_name:=F_left_of_name.binds (ps:=["own","is_so"]) fun _ _ _ _ _ _=>us2 fun _ _=>rfl
 have d_left_of_name:Df K mg "left_of_name" z1r ["own","is_so"] f23 _:=⟨F_left_of_name,PySem.W.mg_of X G a23,B_left_of_name⟩
 have F_left_of_one:=z0t (st:=z13) l24 c24 k24
 have B_left_of_one:=F_left_of_one.binds (ps:=["word","own","other","is_so"]) fun _ _ _ _ _ _=>us4 fun _ _ _ _=>rfl
 have d_left_of_one:Df K mg "left_of_one" z13 ["word","own","other","is_so"] f24 _:=⟨F_left_of_one,PySem.W.mg_of X G a24,B_left_of_one⟩
 have F_left_of_other:=z0t (st:=z0q) l25 c25 k25
 have B_left_of_other:=F_left_of_other.binds (ps:=["word","own","one","is_so"]) fun _ _ _ _ _ _=>us4 fun _ _ _ _=>rfl
 have d_left_of_other:Df K mg "left_of_other" z0q ["word","own","one","is_so"] f25 _:=⟨F_left_of_other,PySem.W.mg_of X G a25,B_left_of_other⟩
 have F_left_by_same:=z0t (st:=z1b) l26 c26 k26
 have B_left_by_same:=F_left_by_same.binds (ps:=["own","beside","is_so"]) fun _ _ _ _ _ _=>us3 fun _ _ _=>rfl
 have d_left_by_same:Df K mg "left_by_same" z1b ["own","beside","is_so"] f26 _:=⟨F_left_by_same,PySem.W.mg_of X G a26,B_left_by_same⟩
 have F_without:=z0t (st:=z5k) l27 c27 k27
 have B_without:=F_without.binds (ps:=["own","worth"]) fun _ _ _ _ _ _=>us2 fun _ _=>rfl
 have d_without:Df K mg "without" z5k ["own","worth"] f27 _:=⟨F_without,PySem.W.mg_of X G a27,B_without⟩
 have F_shown:=z0t (st:=z73) l28 c28 k28
 have B_shown:=F_shown.binds (ps:=["program","paper"]) fun _ _ _ _ _ _=>us2 fun _ _=>rfl
 have d_shown:Df K mg "shown" z73 ["program","paper"] f28 _:=⟨F_shown,PySem.W.mg_of X G a28,B_shown⟩
 have F_is_paper:=z0t (st:=z49) l29 c29 k29
 have B_is_paper:=F_is_paper.binds (ps:=["program","thing"]) fun _ _ _ _ _ _=>us2 fun _ _=>rfl
 have d_is_paper:Df K mg "is_paper" z49 ["program","thing"] f29 _:=⟨F_is_paper,PySem.W.mg_of X G a29,B_is_paper⟩
 have F_notes_by:=z0t (st:=z38) l30 c30 k30
 have B_notes_by:=F_notes_by.binds (ps:=["program","paper"]) fun _ _ _ _ _ _=>us2 fun _ _=>rfl
 have d_notes_by:Df K mg "notes_by" z38 ["program","paper"] f30 _:=⟨F_notes_by,PySem.W.mg_of X G a30,B_notes_by⟩
 have F_walk_by_paper:=z0t (st:=z0j) l31 c31 k31
 have B_walk_by_paper:=F_walk_by_paper.binds (ps:=["program","thing"]) fun _ _ _ _ _ _=>us2 fun _ _=>rfl
 have d_walk_by_paper:Df K mg "walk_by_paper" z0j ["program","thing"] f31 _:=⟨F_walk_by_paper,PySem.W.mg_of X G a31,B_walk_by_paper⟩
 have F_is_paper_row:=z0t (st:=z1c) l32 c32 k32
 have B_is_paper_row:=F_is_paper_row.binds (ps:=["thing"]) fun _ _ _ _ _ _=>us1 fun _=>rfl
 have d_is_paper_row:Df K mg "is_paper_row" z1c ["thing"] f32 _:=⟨F_is_paper_row,PySem.W.mg_of X G a32,B_is_paper_row⟩
 have F_is_shelf_row:=z0t (st:=z15) l33 c33 k33
 have B_is_shelf_row:=F_is_shelf_row.binds (ps:=["thing"]) fun _ _ _ _ _ _=>us1 fun _=>rfl
 have d_is_shelf_row:Df K mg "is_shelf_row" z15 ["thing"] f33 _:=⟨F_is_shelf_row,PySem.W.mg_of X G a33,B_is_shelf_row⟩
 have F_heads_of:=z0t (st:=z2f) l34 c34 k34
 have B_heads_of:=F_heads_of.binds (ps:=["paper"]) fun _ _ _ _ _ _=>us1 fun _=>rfl
 have d_heads_of:Df K mg "heads_of" z2f ["paper"] f34 _:=⟨F_heads_of,PySem.W.mg_of X G a34,B_heads_of⟩
 have F_book_of:=z0t (st:=z2r) l35 c35 k35
 have B_book_of:=F_book_of.binds (ps:=["shelf"]) fun _ _ _ _ _ _=>us1 fun _=>rfl
 have d_book_of:Df K mg "book_of" z2r ["shelf"] f35 _:=⟨F_book_of,PySem.W.mg_of X G a35,B_book_of⟩
 have F_is_held:=z0t (st:=z4s) l36 c36 k36
 have B_is_held:=F_is_held.binds (ps:=["wants","heads"]) fun _ _ _ _ _ _=>us2 fun _ _=>rfl
 have d_is_held:Df K mg "is_held" z4s ["wants","heads"] f36 _:=⟨F_is_held,PySem.W.mg_of X G a36,B_is_held⟩
 have F_is_book_within:=z0t (st:=z14) l37 c37 k37
 have B_is_book_within:=F_is_book_within.binds (ps:=["one","other"]) fun _ _ _ _ _ _=>us2 fun _ _=>rfl
 have d_is_book_within:Df K mg "is_book_within" z14 ["one","other"] f37 _:=⟨F_is_book_within,PySem.W.mg_of X G a37,B_is_book_within⟩
 have F_walked:=z0t (st:=z4j) l38 c38 k38
 have B_walked:=F_walked.binds (ps:=["program","heads"]) fun _ _ _ _ _ _=>us2 fun _ _=>rfl
 have d_walked:Df K mg "walked" z4j ["program","heads"] f38 _:=⟨F_walked,PySem.W.mg_of X G a38,B_walked⟩
 have F_go_block:=z0t (st:=z1p) l39 c39 k39
 have B_go_block:=F_go_block.binds (ps:=["block","path","book","walk"]) fun _ _ _ _ _ _=>us4 fun _ _ _ _=>rfl
 have d_go_block:Df K mg "go_block" z1p ["block","path","book","walk"] f39 _:=⟨F_go_block,PySem.W.mg_of X G a39,B_go_block⟩
 have F_go_deed:=z0t (st:=z3d) l40 c40 k40
 have B_go_deed:=F_go_deed.binds (ps:=["deed","path","book","walk"]) fun _ _ _ _ _ _=>us4 fun _ _ _ _=>rfl
 have d_go_deed:Df K mg "go_deed" z3d ["deed","path","book","walk"] f40 _:=⟨F_go_deed,PySem.W.mg_of X G a40,B_go_deed⟩
 have F_go_set:=z0t (st:=z3c) l41 c41 k41
 have B_go_set:=F_go_set.binds (ps:=["deed","path","book","walk"]) fun _ _ _ _ _ _=>us4 fun _ _ _ _=>rfl
 have d_go_set:Df K mg "go_set" z3c ["deed","path","book","walk"] f41 _:=⟨F_go_set,PySem.W.mg_of X G a41,B_go_set⟩
 have F_go_if:=z0t (st:=z3i) l42 c42 k42
 have B_go_if:=F_go_if.binds (ps:=["deed","path","book","walk"]) fun _ _ _ _ _ _=>us4 fun _ _ _ _=>rfl
 have d_go_if:Df K mg "go_if" z3i ["deed","path","book","walk"] f42 _:=⟨F_go_if,PySem.W.mg_of X G a42,B_go_if⟩
 have F_go_while:=z0t (st:=z12) l43 c43 k43
 have B_go_while:=F_go_while.binds (ps:=["deed","path","book","walk"]) fun _ _ _ _ _ _=>us4 fun _ _ _ _=>rfl
 have d_go_while:Df K mg "go_while" z12 ["deed","path","book","walk"] f43 _:=⟨F_go_while,PySem.W.mg_of X G a43,B_go_while⟩
 have F_side_of:=z0t (st:=z2q) l44 c44 k44
 have B_side_of:=F_side_of.binds (ps:=["term","has","book","is_so"]) fun _ _ _ _ _ _=>us4 fun _ _ _ _=>rfl
 have d_side_of:Df K mg "side_of" z2q ["term","has","book","is_so"] f44 _:=⟨F_side_of,PySem.W.mg_of X G a44,B_side_of⟩
 have F_show:=z0t (st:=z6p) l45 c45 k45
 have B_show:=F_show.binds (ps:=["term","path","book","walk"]) fun _ _ _ _ _ _=>us4 fun _ _ _ _=>rfl
 have d_show:Df K mg "show" z6p ["term","path","book","walk"] f45 _:=⟨F_show,PySem.W.mg_of X G a45,B_show⟩
 have F_noted:=z0t (st:=z7r) l46 c46 k46
 have B_noted:=F_noted.binds (ps:=["stretch","path","walk"]) fun _ _ _ _ _ _=>us3 fun _ _ _=>rfl
 have d_noted:Df K mg "noted" z7r ["stretch","path","walk"] f46 _:=⟨F_noted,PySem.W.mg_of X G a46,B_noted⟩
 have F_joined_books:=z0t (st:=z0w) l47 c47 k47
 have B_joined_books:=F_joined_books.binds (ps:=["one","other"]) fun _ _ _ _ _ _=>us2 fun _ _=>rfl
 have d_joined_books:Df K mg "joined_books" z0w ["one","other"] f47 _:=⟨F_joined_books,PySem.W.mg_of X G a47,B_joined_books⟩
 have F_joined_to:=z0t (st:=z22) l48 c48 k48
 have B_joined_to:=F_joined_to.binds (ps:=["book","other"]) fun _ _ _ _ _ _=>us2 fun _ _=>rfl
 have d_joined_to:Df K mg "joined_to" z22 ["book","other"] f48 _:=⟨F_joined_to,PySem.W.mg_of X G a48,B_joined_to⟩
 have F_room_of:=z0t (st:=z6b) l49 c49 k49
 have B_room_of:=F_room_of.binds (ps:=["bits"]) fun _ _ _ _ _ _=>us1 fun _=>rfl
 have d_room_of:Df K mg "room_of" z6b ["bits"] f49 _:=⟨F_room_of,PySem.W.mg_of X G a49,B_room_of⟩
 have F_plan_by:=z0t (st:=z3r) l50 c50 k50
 have B_plan_by:=F_plan_by.binds (ps:=["program","paper"]) fun _ _ _ _ _ _=>us2 fun _ _=>rfl
 have d_plan_by:Df K mg "plan_by" z3r ["program","paper"] f50 _:=⟨F_plan_by,PySem.W.mg_of X G a50,B_plan_by⟩
 have F_plan_row:=z0t (st:=z1o) l51 c51 k51
 have B_plan_row:=F_plan_row.binds (ps:=["path","term","notes"]) fun _ _ _ _ _ _=>us3 fun _ _ _=>rfl
 have d_plan_row:Df K mg "plan_row" z1o ["path","term","notes"] f51 _:=⟨F_plan_row,PySem.W.mg_of X G a51,B_plan_row⟩
 have F_fewest_bits:=z0t (st:=z1g) l52 c52 k52
 have B_fewest_bits:=F_fewest_bits.binds (ps:=["stretch"]) fun _ _ _ _ _ _=>us1 fun _=>rfl
 have d_fewest_bits:Df K mg "fewest_bits" z1g ["stretch"] f52 _:=⟨F_fewest_bits,PySem.W.mg_of X G a52,B_fewest_bits⟩
 have F_law_cell:=z0t (st:=z48) l53 c53 k53
 have B_law_cell:=F_law_cell.binds (ps:=["_law_script","_law_k"]) fun _ _ _ _ _ _=>us2 fun _ _=>rfl
 have d_law_cell:Df K mg "_law_cell" z48 ["_law_script","_law_k"] f53 _:=⟨F_law_cell,PySem.W.mg_of X G a53,B_law_cell⟩
 have F_law_pick:=z0t (st:=z30) l54 c54 k54
 have B_law_pick:=F_law_pick.binds (ps:=["_law_script","_law_k","_law_many"]) fun _ _ _ _ _ _=>us3 fun _ _ _=>rfl
 have d_law_pick:Df K mg "_law_pick" z30 ["_law_script","_law_k","_law_many"] f54 _:=⟨F_law_pick,PySem.W.mg_of X G a54,B_law_pick⟩
 have F_law:=z0t (st:=z28) l55 c55 k55
 have F_Walk_init:=z0t (st:=z4u) ml_Walk_init mc_Walk_init mk_Walk_init
 have B_Walk_init:=F_Walk_init.binds (ps:=["self","heads"]) fun _ _ _ _ _ _=>us2 fun _ _=>rfl
 have b_all:=PySem.W.mg_none_of X G z_all
 have b_bool:=PySem.W.mg_none_of X G z_bool
 have b_dict:=PySem.W.mg_none_of X G z_dict
 have b_enumerate:=PySem.W.mg_none_of X G z_enumerate
 have b_int:=PySem.W.mg_none_of X G z_int
 have b_isinstance:=PySem.W.mg_none_of X G z_isinstance
 have b_len:=PySem.W.mg_none_of X G z_len
 have b_max:=PySem.W.mg_none_of X G z_max
 have b_min:=PySem.W.mg_none_of X G z_min
 have b_range:=PySem.W.mg_none_of X G z_range
 have b_sorted:=PySem.W.mg_none_of X G z_sorted
 have b_str:=PySem.W.mg_none_of X G z_str
 have b_tuple:=PySem.W.mg_none_of X G z_tuple
 have b_zip:=PySem.W.mg_none_of X G z_zip
 refine⟨PySem.W.fnOf "law" "law" (defArgs z28) (defBody z28) (defScope z28) .none kV55 dc55 pm55 an55 cd55 ct55,fun s v=>.of_eq rfl,fun base _ _=>?_⟩
 have c_worth_of:=d_worth_of.callee (ztn (P:=l.prog) (w:=w) (base:=base) F_worth_of b_min b_max)
 have c_between:=d_between.callee (zxd (P:=l.prog) (w:=w) (base:=base) F_between)
 have c_joined:=d_joined.callee (zzt (P:=l.prog) (w:=w) (base:=base) F_joined b_min b_max)
 have c_metK:=d_met.callee (q6w F_met b_min b_max c_between)
 have c_met:=Callee.imp c_metK q69
 have c_within:=d_is_within.callee (zpo F_is_within c_metK)
 have c_same:=d_stretch_of_same.callee (zg7 F_stretch_of_same c_met)
 have c_ends:=d_stretch_of_ends.callee (zg8 F_stretch_of_ends b_min b_max c_worth_of)
 have c_of:=d_stretch_of.callee (zpn F_stretch_of b_min b_max c_between c_joined c_same c_ends)
 have c_cell:=d_law_cell.callee (q6x (P:=l.prog) (w:=w) (base:=base) F_law_cell b_len)
 have c_pick:=d_law_pick.callee (q6v F_law_pick c_cell)
 have c_without:=d_without.callee (zx5 F_without c_between)
 have c_bysame:=d_left_by_same.callee (zlv F_left_by_same c_met c_without)
 have c_lone:=d_left_of_one.callee (znw F_left_of_one b_min b_max c_between c_bysame)
 have c_lother:=d_left_of_other.callee (zjz F_left_of_other b_min b_max c_between c_bysame)
 have c_lname:=d_left_of_name.callee (zlu F_left_of_name c_met c_without)
 have c_with:=d_with_left.callee (zrf (P:=l.prog) (w:=w) (base:=base) F_with_left b_dict)
 have g_WIDE:GC mg "WIDE" (.ref ai):=⟨_,PySem.W.mg_of X G pw,rfl⟩
 have hI:∀H,SqT K H ai [.int (-32768),.int 32767]:=q65 ph (.cons ⟨_,rfl⟩ (.cons ⟨_,rfl⟩ .nil)) (show(2:Nat)<=sizeLine by decide)
 have g_ZERO:GC mg "ZERO" (.ref az):=⟨_,PySem.W.mg_of X G pz,rfl⟩
 have hZ:∀H,SqT K H az [.int 0,.int 0]:=q65 phz (.cons ⟨_,rfl⟩ (.cons ⟨_,rfl⟩ .nil)) (show(2:Nat)<=sizeLine by decide)
 have c_rf0:=d_reckoned_from.callee (k:=0) (qbv (P:=l.prog) (w:=w) (base:=base))
 have c_rf:=d_reckoned_from.callee (zjy F_reckoned_from g_WIDE c_met c_of c_rf0)
 have c_bq:=d_behind_question.callee (zg9 F_behind_question b_dict c_rf c_with c_lone c_lother)
 have c_bh:Callee l.prog w K mg base "behind" ["term","book","is_so"] 7 (qct isQ bhd):=d_behind.callee (zzv F_behind b_dict c_with c_lname c_bq)
 have c_noted:=d_noted.callee (q3k F_noted g_WIDE hI c_metK)
 have c_sh0:=d_show.callee (k:=5) (zzy (P:=l.prog) (w:=w) (base:=base) (K:=K) (mg:=mg))
 have c_sh1:=d_show.callee (zhx (n:=0) F_show c_noted c_of c_sh0)
 have c_sh2:=d_show.callee (zhx (n:=1) F_show c_noted c_of c_sh1)
 have c_sh3:=d_show.callee (zhx (n:=2) F_show c_noted c_of c_sh2)
 have c_sh4:=d_show.callee (zhx (n:=3) F_show c_noted c_of c_sh3)
 have c_sh5:=d_show.callee (zhx (n:=4) F_show c_noted c_of c_sh4)
 have c_sh6:=d_show.callee (zhx (n:=5) F_show c_noted c_of c_sh5)
 have c_side:=d_side_of.callee (zx7 F_side_of g_ZERO hZ c_within c_bh)
 have c_jb:=d_joined_books.callee (zlw F_joined_books c_joined)
 have c_set:=d_go_set.callee (zzu (bh:=bhd) F_go_set b_dict c_sh6)
 have c_book:=d_book_of.callee (zxc (P:=l.prog) (w:=w) (base:=base) F_book_of)
 have c_jt:=d_joined_to.callee (zrg F_joined_to c_joined)
 have c_gb0:=d_go_block.callee (k:=12) (q3o (P:=l.prog) (w:=w) (base:=base) (K:=K) (mg:=mg) (bh:=bhd) (Pq:=isQ))
 have c_if0:=d_go_if.callee (zve (n:=0) zij F_go_if c_sh6 c_side c_jb c_gb0)
 have c_wh0:=d_go_while.callee (zlz (n:=0) zij F_go_while c_jt c_sh6 c_side c_jb c_gb0)
 have c_dd0:=d_go_deed.callee (zot (n:=0) F_go_deed c_set c_if0 c_wh0)
 have c_gb1:=d_go_block.callee (zm0 (n:=0) zij F_go_block b_enumerate c_dd0)
 have c_if1:=d_go_if.callee (zve (n:=1) zij F_go_if c_sh6 c_side c_jb c_gb1)
 have c_wh1:=d_go_while.callee (zlz (n:=1) zij F_go_while c_jt c_sh6 c_side c_jb c_gb1)
 have c_dd1:=d_go_deed.callee (zot (n:=1) F_go_deed c_set c_if1 c_wh1)
 have c_gb2:=d_go_block.callee (zm0 (n:=1) zij F_go_block b_enumerate c_dd1)
 have c_heads:=d_heads_of.callee (zts F_heads_of c_book)
 have i_init:CalleeI l.prog w K mg base a_Walk _ 1 _:=⟨_,_,zrj (P:=l.prog) (w:=w) (base:=base) F_Walk_init t_Walk,⟨mk_Walk,ma_Walk_init,mf_Walk_init,kp_Walk⟩,B_Walk_init⟩
 have c_walked:=d_walked.callee (zzs (n:=2) F_walked (PySem.W.mg_of X G x_Walk) t_Walk i_init c_book c_gb2)
 have c_whole:=d_is_whole.callee (ztq (P:=l.prog) (w:=w) (base:=base) F_is_whole b_isinstance b_int b_bool)
 have c_wfrom:=d_is_whole_from.callee (zk0 F_is_whole_from c_whole)
 have c_tupof:=d_is_tuple_of.callee (znx (P:=l.prog) (w:=w) (base:=base) F_is_tuple_of b_isinstance b_len b_tuple)
 have o_shelf:=zlx F_is_shelf_row b_isinstance b_str g_WIDE hI c_tupof c_wfrom
 have h_shelf:=d_is_shelf_row.held o_shelf
 have c_path:=d_is_path.callee (zxa F_is_path b_isinstance b_tuple b_all c_whole)
 have c_rise3:=d_are_rising_rows.callee (z97 (P:=l.prog) (w:=w) (base:=base) (kk:=3) (R:=z5s) F_are_rising_rows b_isinstance b_tuple b_all b_zip)
 have o_prow:=zly F_is_paper_row ⟨_,d_is_shelf_row.m,rfl⟩ h_shelf c_tupof c_path c_rise3
 have h_prow:=d_is_paper_row.held o_prow
 have c_rise5:=d_are_rising_rows.callee (z97 (P:=l.prog) (w:=w) (base:=base) (kk:=5) (R:=z6q) F_are_rising_rows b_isinstance b_tuple b_all b_zip)
 have c_ibw:=d_is_book_within.callee (zhy F_is_book_within b_sorted b_all c_within)
 have c_held:=d_is_held.callee (zxb F_is_held b_sorted b_all c_ibw)
 have c_wbp:=d_walk_by_paper.callee (zjx (n:=2) F_walk_by_paper t_Walk ⟨_,d_is_paper_row.m,rfl⟩ h_prow c_rise5 c_heads c_walked c_held)
 have c_isp:=d_is_paper.callee (ztr (n:=2) F_is_paper c_wbp)
 have c_notes:=d_notes_by.callee (ztp (n:=2) F_notes_by c_wbp)
 have c_shown:=d_shown.callee (q3j (n:=2) F_shown b_sorted c_notes)
 have R:=q2o (mg:=mg) (PySem.W.mg_of X G ra) rh rh1 rh2 rh3
 have c_room:=d_room_of.callee (zx8 (P:=l.prog) (w:=w) (base:=base) F_room_of R)
 have g_BITS:GC mg "BITS" (.ref ab):=⟨_,PySem.W.mg_of X G pb,rfl⟩
 have hB:∀H,SqT K H ab [.int 4,.int 8,.int 16]:=q65 phb (.cons ⟨_,rfl⟩ (.cons ⟨_,rfl⟩ (.cons ⟨_,rfl⟩ .nil))) (show(3:Nat)<=sizeLine by decide)
 have c_few:=d_fewest_bits.callee (zny F_fewest_bits g_BITS hB c_within c_room)
 have c_tof:=d_term_of.callee (zx6 (P:=l.prog) (w:=w) (base:=base) F_term_of)
 have c_bof:=d_blocks_of.callee (zrh (P:=l.prog) (w:=w) (base:=base) F_blocks_of)
 have c_s0:=d_spots_of_term.callee (k:=1) (zxe (P:=l.prog) (w:=w) (base:=base))
 have c_s1:=d_spots_of_term.callee (z46 (n:=0) F_spots_of_term c_s0)
 have c_s2:=d_spots_of_term.callee (z46 (n:=1) F_spots_of_term c_s1)
 have c_s3:=d_spots_of_term.callee (z46 (n:=2) F_spots_of_term c_s2)
 have c_s4:=d_spots_of_term.callee (z46 (n:=3) F_spots_of_term c_s3)
 have c_s5:=d_spots_of_term.callee (z46 (n:=4) F_spots_of_term c_s4)
 have c_d0:=d_deeds_of_block.callee (k:=2) (zxf (P:=l.prog) (w:=w) (base:=base))
 have c_d1:=d_deeds_of_block.callee (z74 (n:=0) F_deeds_of_block b_enumerate c_bof c_d0)
 have c_d2:=d_deeds_of_block.callee (z74 (n:=1) F_deeds_of_block b_enumerate c_bof c_d1)
 have c_d3:=d_deeds_of_block.callee (z74 (n:=2) F_deeds_of_block b_enumerate c_bof c_d2)
 have c_ad:=d_all_deeds.callee (zri F_all_deeds c_d3)
 have c_sp:=d_spots.callee (q3i F_spots c_ad c_s5 c_tof)
 have c_prow:=d_plan_row.callee (zto F_plan_row g_WIDE hI c_within c_metK c_few)
 have c_plan:=d_plan_by.callee (zx9 (n:=2) (by decide) F_plan_by b_tuple c_notes c_sp c_prow)
 exact q9c F_law b_range b_dict b_min c_pick c_shown c_plan c_isp
theorem z5f{l:PySem.W.OpenLaw}{q:Program}{loose:List Str}{XP:(Str->Option Value)->Heap->Prop}{YP:World->Heap->Prop}{d:DefRec}{K:Params->PySem.W.Frag}(hn:l.most=some 63)(hdf:d.params.defaults=[])
  (hY:∀(w:World) (h:Heap),YP w h->(K w.params).In h)
  (F:∀(w:World) (mg:Str->Option Value) (fa:Addr) (h:Heap),(K w.params).In h->h.Ns mainGlobals mg->mg d.name=some (.ref fa)->
   ∃fd:FuncData,(∀(s:Shared) (u:Value),BindsTo s fd ⟨[u],[]⟩ [("_law_script",u)])/\∀base:Heap,(K w.params).In base->base.Ns mainGlobals mg->FnOk l.prog w (K w.params) mg base CX0 23 fa fd ["_law_script"] (q2f (K w.params))) :
  PySem.W.WalkO q loose XP YP l.row.toRowW d [] (fun f vs=>PySem.call f vs):=
 L2.q5r (n:=63) (k:=23) (x:="_law_script") (CX:=fun _=>CX0) (sp:=fun w=>q2f (K w.params)) hn (by decide) hdf ⟨rfl,by decide,by decide⟩ hY F (fun _ _ a ns hl _ hS=>⟨a,ns,rfl,hS,hl,fun _=>rfl⟩) fun _ _ _ _ _ z=>z
end SR
namespace PySem.W.Fast
def tw5122644399024482201:=0
def tw10368493298293036456:=0
def tw10702910731647261716:=0
def tw469709276089163880:=0
def tw11818981555341447994:=0
def tw13217776286541014132:=0
def tw15250375266439447867:=0
def tw3697519745007767933:=0
def tw10009374962322848232:=0
def tw12109710425558653840:=0
def tw17592619697299076015:=0
def tw10936133189218612286:=0
def tw6896677008075372977:=0
def tw8858737300953627808:=0
def tw17611557632098087188:=0
def tw17562786300651519961:=0
def tw13321091757106440977:=0
def tw16482340750692566083:=0
def tw1695576892729718717:=0
def tw9327014196104257932:=0
def tw240069559317842151:=0
def tw15546237569716867984:=0
def tw18202304905551052023:=0
def tw17314214427542699711:=0
def tw15617857863374603841:=0
def tw11783865037293998594:=0
def tw1028013194977032063:=0
def tw15049542861459756620:=0
def tw7164141284864403363:=0
def tw14473337892018371155:=0
def tw12288038694536740017:=0
def tw9413919476868484079:=0
def tw13629903093616658290:=0
def tw11509478353030621422:=0
def tw18303344759995701621:=0
def tw15850826931138325546:=0
def tw7877459497055710910:=0
def tw16897836933505011743:=0
def tw4144854153097686346:=0
def tw11672770528958561857:=0
def tw12851160247780438980:=0
def tw18280048795912585032:=0
def tw13980276789816104002:=0
def tw14388580269959709817:=0
def tw8713659237427075240:=0
def tw4229506381555332515:=0
def tw7310509259820584536:=0
def tw16555181454504602026:=0
def tw17706956217404456923:=0
def tw331319587610781213:=0
def tw5544744075748921003:=0
def tw10829241872568673613:=0
def tw15287129992310362064:=0
def tw9281015999207292728:=0
def tw1213426596219529496:=0
def tw5040190233750829905:=0
def tw13181867586111086972:=0
def tw18251223172729993729:=0
def tw5327166490706166729:=0
def tw7727648735749216902:=0
def tw2615040371290238094:=0
def tw8172866577074016241:=0
def tw5844546790000954500:=0
def tw15599397285580376393:=0
def tw6796507822148298549:=0
def tw15706731421706271648:=0
def tw5248563775668421255:=0
def tw17219155184755980330:=0
def tw16960509099202241744:=0
def tw1878862693900167093:=0
def tw10335050438104094444:=0
def tw744317315621177329:=0
def tw5579258249683863723:=0
def tw10650999737484373702:=0
def tw14117316549753294385:=0
def tw4383828629370247595:=0
def tw6123083085446856536:=0
def tw11760608493615732269:=0
def tw17883985649933223789:=0
def tw2130019269513828938:=0
def tw7424477316778860339:=0
def tw14474108678129861531:=0
def tw564165867251342697:=0
def tw598349048692261007:=0
def tw16585498641150516984:=0
def tw11882323977508216108:=0
def tw12806095620746307101:=0
def tw16590236603004077029:=0
def tw3015520296236974331:=0
def tw15472012391606952618:=0
def tw13991263549831544616:=0
def tw6193111742678586186:=0
def tw10885574603476111915:=0
def tw2228772554128686585:=0
def tw2329701021650619636:=0
def tw9149172136734891958:=0
def tw1814821060092193398:=0
def tw18282647470641421978:=0
def tw13475924636307620370:=0
def tw11892224318541674946:=0
def tw18116210786616732460:=0
def tw5297637244005083243:=0
def tw1233778615218471084:=0
def tw463829038299369238:=0
def tw16527089349754012574:=0
def tw10776636524538721182:=0
def tw3412080354494681229:=0
def tw12777744142908339075:=0
def tw8867709032406322827:=0
def tw3637171853574482791:=0
def tw5313620149139420926:=0
def tw16024528803042142955:=0
def tw8822642228975930590:=0
def tw13657357857377754538:=0
def tw16269981374139948942:=0
def tw7144076454565706076:=0
def tw1897880480654369299:=0
def tw17815779238343468980:=0
def tw15903468516940799771:=0
def tw13760886637425382519:=0
def tw9509692181303142274:=0
def tw12741277876568923724:=0
def tw3007425236101804260:=0
def tw6203698969562685794:=0
def tw13245768259183968988:=0
def tw16311492954413393277:=0
def tw17282581726074078485:=0
def tw18338210636581441989:=0
def tw12162435719619013311:=0
def tw9123678732431311365:=0
def tw2391449134686619790:=0
def tw14369109423040094842:=0
def tw14366163750240819389:=0
def tw7836265451903615894:=0
def tw9489765715318421711:=0
def tw3512303958426573430:=0
def tw5957901033076483806:=0
def tw13440547945115286905:=0
def tw12971404072398556536:=0
def tw7024338272238582791:=0
def tw12580376493425606833:=0
def tw6191605419918141156:=0
def tw7945025876475227364:=0
def tw17284551182814509052:=0
def tw8373610185034294901:=0
def tw9522865498341534316:=0
def tw15804265074834747855:=0
def tw3933201057135624852:=0
def tw5921927757067328950:=0
def tw3467360405164308277:=0
def tw15823476090381853902:=0
def tw2103544540133220066:=0
def tw15852517076923865501:=0
def tw18150045865474086737:=0
def tw7058455147356964723:=0
def tw6990096122347864557:=0
def tw7698043921888102443:=0
def tw2003631518772705352:=0
def tw7799747330724204344:=0
def tw3572004840792827264:=0
def tw17123945483508935412:=0
def tw17728861567300674086:=0
def tw4382404150408069597:=0
def tw16801729100255031293:=0
def tw12495840163978592015:=0
def tw5209421791847947371:=0
def tw2431835662549949249:=0
def tw1427702187190372270:=0
def tw4061426067414028038:=0
def tw6174053394857376604:=0
def tw5546015696238677001:=0
def tw4576860909465373610:=0
def tw8647599701945678895:=0
def tw16241585815597549954:=0
def tw6942172715825766384:=0
def tw3454629383417535540:=0
def tw7718742478275610935:=0
def tw7113026564029468772:=0
def tw6036299857226827838:=0
def tw4695513962975751073:=0
def tw12003008162026449899:=0
def tw18080512803298962479:=0
def tw15725699494426376641:=0
def tw15020728909545422216:=0
def tw17504562634521335544:=0
def tw3850168224178100037:=0
def tw6348832056539765939:=0
def tw1454388794492755603:=0
def tw9081197157031174500:=0
def tw9773825377022569504:=0
def tw8003470183785406238:=0
def tw248380720418383950:=0
def tw1984821517174650601:=0
def tw1418884498686533663:=0
def tw9220549485296008237:=0
def tw7455092415420759976:=0
def tw14813644911038750122:=0
def tw9045058407779231800:=0
def tw4735247676172638725:=0
def tw14110196280487634967:=0
def tw14776519058434722449:=0
def tw3951486083407530758:=0
def tw15558452758607247969:=0
def tw6244903115882474583:=0
def tw1479372606850226811:=0
def tw16085711661105372656:=0
def tw11361981379305686251:=0
def tw15455972087993987397:=0
def tw7109356563074513437:=0
def tw7498785717286260727:=0
def tw14064477224743075657:=0
def tw10835659252221536442:=0
def tw4834540220397989917:=0
def tw15699933309488780621:=0
def tw18296557181697191851:=0
def tw9061704150410734493:=0
def tw2029794683463719107:=0
def tw11492343472739491142:=0
def tw11629227268519925784:=0
def tw9760045889780037243:=0
def tw9255639512450803052:=0
def tw1418145046954886087:=0
def tw17186247811576753928:=0
def tw14622450435998943291:=0
def tw7908012292950542897:=0
def tw12493502606867980080:=0
def tw13398704242785861297:=0
def tw12857962044441959999:=0
def tw12500477811947736079:=0
def tw4436461821135718900:=0
def tw5394039578817564035:=0
def tw14986729473509884373:=0
def tw14374753679874189760:=0
def tw11668583955135767256:=0
def tw6175062179247395203:=0
def tw8258534726510207674:=0
def tw3400183368884007744:=0
def tw2944678997330594389:=0
def tw7603575283752320563:=0
def tw5844564739133336751:=0
def tw16809442220308159083:=0
def tw14222315601177916146:=0
def tw14876620763356303264:=0
def tw10808563906194816199:=0
def tw16746265448716338755:=0
def tw3245702511833487064:=0
def tw13589941307249904540:=0
def tw1207549621193412916:=0
def tw1337893631299430077:=0
def tw8331170128809302160:=0
def tw8780541817292409541:=0
def tw9854218409456723866:=0
def tw2899959392799569127:=0
def tw7432779559384965580:=0
def tw9816731701105337209:=0
def tw198863728779174671:=0
def tw7716718907555589958:=0
def tw10260993924118605403:=0
def tw1793786579536712956:=0
def tw13631462629255036992:=0
def tw1367091799445312466:=0
def tw13877194624712638754:=0
def tw5243464010204290696:=0
def tw8320417559999262920:=0
def tw14101097633893294384:=0
def tw5881780194301003260:=0
def tw10262946961966161452:=0
def tw15139778347045408229:=0
def tw12359676422289883301:=0
def tw4007595953077992623:=0
def tw5939990152111123460:=0
def tw812222555875266119:=0
def tw6551449961068697974:=0
def tw13392714379417392797:=0
def tw17874196866958617245:=0
def tw5114218181246079605:=0
def tw16113096078823000354:=0
def tw7545432284646597708:=0
def tw14411347980570315580:=0
def tw6866875445812342852:=0
def tw2102765704051245154:=0
def tw8205119284769814642:=0
def tw14933481852440010480:=0
def tw87862342265889746:=0
def tw2420307428797973926:=0
def tw4879496280519996976:=0
def tw8220065369457835445:=0
def tw6766322308025679075:=0
def tw17344411866089875605:=0
def tw4339045711432567199:=0
def tw11202515043381342406:=0
def tw848824057519064900:=0
def tw12660020806395680419:=0
def tw7986678138414839048:=0
def tw11843336527951218684:=0
def tw10238430138852506783:=0
def tw518841471513321532:=0
def tw7040446114722340529:=0
def tw10210881407323106893:=0
def tw16458423000848707386:=0
def tw6751331303294260250:=0
def tw2113440889187705133:=0
def tw2562666578964166270:=0
def tw15897623092287112489:=0
def tw18411939975311264316:=0
def tw15255617261631426830:=0
def tw18030939889922965293:=0
def tw855746236949554886:=0
def tw4449800763667167750:=0
def tw15033234478739411139:=0
def tw3208842830498674262:=0
def tw11707470535686500421:=0
def tw7504107176934960758:=0
def tw7138967323561288504:=0
def tw5333680708453316060:=0
def tw4950977613171872317:=0
def tw1177418125284056733:=0
def tw3414665560279821787:=0
def tw7690703024960676712:=0
def tw17144671723235177212:=0
def tw6886486149046414725:=0
def tw11815009616136043413:=0
def tw13843062040445435441:=0
def tw17455263512460840238:=0
def tw14970176380754535718:=0
def tw4951971658066409247:=0
def tw1395958534933289003:=0
def tw8008190389887540964:=0
def tw5269429659898526832:=0
def tw16107129055644982622:=0
def tw14656080793929847956:=0
def tw11261602599242376791:=0
def tw11933233185797552264:=0
def tw15025090569149136683:=0
def tw10397818568719655458:=0
def tw2937789293797931817:=0
def tw566317706879282955:=0
def tw7066424017665754669:=0
def tw17236636485918987501:=0
def tw1398686825513413162:=0
def tw4477111723119662552:=0
def tw10817686853605566349:=0
def tw2216086910591291100:=0
def tw8251188831576383098:=0
def tw8034933710163380722:=0
def tw8166198562837545234:=0
def tw16464568581612134251:=0
def tw17846754829966840509:=0
def tw7174518125499798438:=0
def tw16581139928143630204:=0
def tw4305002982631992287:=0
def tw15065049880048189329:=0
def tw2260403091822664910:=0
def tw17007855169056181940:=0
def tw16007168663050131444:=0
def tw3425074771532411469:=0
def tw695640938670627366:=0
def tw8289058059549879773:=0
def tw6742444217445182053:=0
def tw2867878238722919360:=0
def tw5494416453702776347:=0
def tw2990051677612184829:=0
def tw4871951047667850990:=0
def tw7589256384851081113:=0
def tw9951166746549854332:=0
def tw3804970814599501476:=0
def tw831513813860708133:=0
def tw12194956145445608131:=0
def tw9251465058303808797:=0
def tw7217640498183819285:=0
def tw4971698296985333437:=0
def tw3055112795900601126:=0
def tw14187905370744955352:=0
def tw7352334620001348279:=0
def tw3464775806580982757:=0
def tw4623545162164221775:=0
def tw14226804115371343812:=0
def tw14659246142145318923:=0
def tw11865306348428576472:=0
def tw16821727730087723663:=0
def tw15960324882485067008:=0
def tw13882844579404655974:=0
def tw18225499579228582046:=0
def tw9019459395193983532:=0
def tw11447400659849852755:=0
def tw3640529460260298829:=0
def tw4348936530644694395:=0
def tw12119244793263418202:=0
def tw17218177863678725457:=0
def tw360894881333306986:=0
def tw7634951266760181897:=0
def tw100285471360255931:=0
def tw7925262727930886991:=0
def tw16477947153796657506:=0
def tw12331173109957037309:=0
def tw10223452891833307578:=0
def tw11265722817350664483:=0
def tw4717548273510436573:=0
def tw4026575577281003448:=0
def tw12218790721994454968:=0
def tw16152407287261762198:=0
def tw2340758130494424916:=0
def tw6280473336092051028:=0
def tw1024020081095346506:=0
def tw7144649298111758775:=0
end PySem.W.Fast
open PySem PySem.W PyProof.Rows
set_option maxRecDepth 100000 in
set_option maxHeartbeats 0 in
theorem PySem.Challenge.cw_smallrooms_k84_whole_shown_edges_holds : PySem.Challenge.rw_smallrooms_k84_whole_shown_edges.Holds := by
 w_on; o_law; k_head; (case hw=>w_witness2)
 k_fill
 refine SR.z5f (l:=PySem.Challenge.rw_smallrooms_k84_whole_shown_edges) rfl rfl (fun w h Y=>PySem.W.kIn_of Y) ?F
 case F=>
  intro w mg fa h KX G hmg
  refine' SR.qah KX G hmg ?a0 ?l0 ?c0 ?k0 ?a1 ?l1 ?c1 ?k1 ?a2 ?l2 ?c2 ?k2 ?a3 ?l3 ?c3 ?k3 ?a4 ?l4 ?c4 ?k4 ?a5 ?l5 ?c5 ?k5 ?a6 ?l6 ?c6 ?k6 ?a7 ?l7 ?c7 ?k7 ?a8 ?l8 ?c8 ?k8 ?a9 ?l9 ?c9 ?k9 ?a10 ?l10 ?c10 ?k10 ?a11 ?l11 ?c11 ?k11 ?a12 ?l12 ?c12 ?k12 ?a13 ?l13 ?c13 ?k13 ?a14 ?l14 ?c14 ?k14 ?a15 ?l15 ?c15 ?k15 ?a16 ?l16 ?c16 ?k16 ?a17 ?l17 ?c17 ?k17 ?a18 ?l18 ?c18 ?k18 ?a19 ?l19 ?c19 ?k19 ?a20 ?l20 ?c20 ?k20 ?a21 ?l21 ?c21 ?k21 ?a22 ?l22 ?c22 ?k22 ?a23 ?l23 ?c23 ?k23 ?a24 ?l24 ?c24 ?k24 ?a25 ?l25 ?c25 ?k25 ?a26 ?l26 ?c26 ?k26 ?a27 ?l27 ?c27 ?k27 ?a28 ?l28 ?c28 ?k28 ?a29 ?l29 ?c29 ?k29 ?a30 ?l30 ?c30 ?k30 ?a31 ?l31 ?c31 ?k31 ?a32 ?l32 ?c32 ?k32 ?a33 ?l33 ?c33 ?k33 ?a34 ?l34 ?c34 ?k34 ?a35 ?l35 ?c35 ?k35 ?a36 ?l36 ?c36 ?k36 ?a37 ?l37 ?c37 ?k37 ?a38 ?l38 ?c38 ?k38 ?a39 ?l39 ?c39 ?k39 ?a40 ?l40 ?c40 ?k40 ?a41 ?l41 ?c41 ?k41 ?a42 ?l42 ?c42 ?k42 ?a43 ?l43 ?c43 ?k43 ?a44 ?l44 ?c44 ?k44 ?a45 ?l45 ?c45 ?k45 ?a46 ?l46 ?c46 ?k46 ?a47 ?l47 ?c47 ?k47 ?a48 ?l48 ?c48 ?k48 ?a49 ?l49 ?c49 ?k49 ?a50 ?l50 ?c50 ?k50 ?a51 ?l51 ?c51 ?k51 ?a52 ?l52 ?c52 ?k52 ?a53 ?l53 ?c53 ?k53 ?a54 ?l54 ?c54 ?k54 ?a55 ?l55 ?c55 ?k55 ?x_Walk ?ma_Walk_init ?ml_Walk_init ?mc_Walk_init ?mf_Walk_init ?mk_Walk_init ?z_all ?z_bool ?z_dict ?z_enumerate ?z_int ?z_isinstance ?z_len ?z_max ?z_min ?z_range ?z_sorted ?z_str ?z_tuple ?z_zip ?pw ?ph ?pz ?phz ?t_Walk ?mk_Walk ?kp_Walk ?ra ?rh ?rh1 ?rh2 ?rh3 ?pb ?phb
  (case a0=>k_is); (case l0=>k_is); (case c0=>k_is); (case k0=>k_is)
  (case a1=>k_is); (case l1=>k_is); (case c1=>k_is); (case k1=>k_is)
  (case a2=>k_is); (case l2=>k_is); (case c2=>k_is); (case k2=>k_is)
  (case a3=>k_is); (case l3=>k_is); (case c3=>k_is); (case k3=>k_is)
  (case a4=>k_is); (case l4=>k_is); (case c4=>k_is); (case k4=>k_is)
  (case a5=>k_is); (case l5=>k_is); (case c5=>k_is); (case k5=>k_is)
  (case a6=>k_is); (case l6=>k_is); (case c6=>k_is); (case k6=>k_is)
  (case a7=>k_is); (case l7=>k_is); (case c7=>k_is); (case k7=>k_is)
  (case a8=>k_is); (case l8=>k_is); (case c8=>k_is); (case k8=>k_is)
  (case a9=>k_is); (case l9=>k_is); (case c9=>k_is); (case k9=>k_is)
  (case a10=>k_is); (case l10=>k_is); (case c10=>k_is); (case k10=>k_is)
  (case a11=>k_is); (case l11=>k_is); (case c11=>k_is); (case k11=>k_is)
  (case a12=>k_is); (case l12=>k_is); (case c12=>k_is); (case k12=>k_is)
  (case a13=>k_is); (case l13=>k_is); (case c13=>k_is); (case k13=>k_is)
  (case a14=>k_is); (case l14=>k_is); (case c14=>k_is); (case k14=>k_is)
  (case a15=>k_is); (case l15=>k_is); (case c15=>k_is); (case k15=>k_is)
  (case a16=>k_is); (case l16=>k_is); (case c16=>k_is); (case k16=>k_is)
  (case a17=>k_is); (case l17=>k_is); (case c17=>k_is); (case k17=>k_is)
  (case a18=>k_is); (case l18=>k_is); (case c18=>k_is); (case k18=>k_is)
  (case a19=>k_is); (case l19=>k_is); (case c19=>k_is); (case k19=>k_is)
  (case a20=>k_is); (case l20=>k_is); (case c20=>k_is); (case k20=>k_is)
  (case a21=>k_is); (case l21=>k_is); (case c21=>k_is); (case k21=>k_is)
  (case a22=>k_is); (case l22=>k_is); (case c22=>k_is); (case k22=>k_is)
  (case a23=>k_is); (case l23=>k_is); (case c23=>k_is); (case k23=>k_is)
  (case a24=>k_is); (case l24=>k_is); (case c24=>k_is); (case k24=>k_is)
  (case a25=>k_is); (case l25=>k_is); (case c25=>k_is); (case k25=>k_is)
  (case a26=>k_is); (case l26=>k_is); (case c26=>k_is); (case k26=>k_is)
  (case a27=>k_is); (case l27=>k_is); (case c27=>k_is); (case k27=>k_is)
  (case a28=>k_is); (case l28=>k_is); (case c28=>k_is); (case k28=>k_is)
  (case a29=>k_is); (case l29=>k_is); (case c29=>k_is); (case k29=>k_is)
  (case a30=>k_is); (case l30=>k_is); (case c30=>k_is); (case k30=>k_is)
  (case a31=>k_is); (case l31=>k_is); (case c31=>k_is); (case k31=>k_is)
  (case a32=>k_is); (case l32=>k_is); (case c32=>k_is); (case k32=>k_is)
  (case a33=>k_is); (case l33=>k_is); (case c33=>k_is); (case k33=>k_is)
  (case a34=>k_is); (case l34=>k_is); (case c34=>k_is); (case k34=>k_is)
  (case a35=>k_is); (case l35=>k_is); (case c35=>k_is); (case k35=>k_is)
  (case a36=>k_is); (case l36=>k_is); (case c36=>k_is); (case k36=>k_is)
  (case a37=>k_is); (case l37=>k_is); (case c37=>k_is); (case k37=>k_is)
  (case a38=>k_is); (case l38=>k_is); (case c38=>k_is); (case k38=>k_is)
  (case a39=>k_is); (case l39=>k_is); (case c39=>k_is); (case k39=>k_is)
  (case a40=>k_is); (case l40=>k_is); (case c40=>k_is); (case k40=>k_is)
  (case a41=>k_is); (case l41=>k_is); (case c41=>k_is); (case k41=>k_is)
  (case a42=>k_is); (case l42=>k_is); (case c42=>k_is); (case k42=>k_is)
  (case a43=>k_is); (case l43=>k_is); (case c43=>k_is); (case k43=>k_is)
  (case a44=>k_is); (case l44=>k_is); (case c44=>k_is); (case k44=>k_is)
  (case a45=>k_is); (case l45=>k_is); (case c45=>k_is); (case k45=>k_is)
  (case a46=>k_is); (case l46=>k_is); (case c46=>k_is); (case k46=>k_is)
  (case a47=>k_is); (case l47=>k_is); (case c47=>k_is); (case k47=>k_is)
  (case a48=>k_is); (case l48=>k_is); (case c48=>k_is); (case k48=>k_is)
  (case a49=>k_is); (case l49=>k_is); (case c49=>k_is); (case k49=>k_is)
  (case a50=>k_is); (case l50=>k_is); (case c50=>k_is); (case k50=>k_is)
  (case a51=>k_is); (case l51=>k_is); (case c51=>k_is); (case k51=>k_is)
  (case a52=>k_is); (case l52=>k_is); (case c52=>k_is); (case k52=>k_is)
  (case a53=>k_is); (case l53=>k_is); (case c53=>k_is); (case k53=>k_is)
  (case a54=>k_is); (case l54=>k_is); (case c54=>k_is); (case k54=>k_is)
  (case a55=>k_is); (case l55=>k_is); (case c55=>k_is); (case k55=>k_is)
  (case x_Walk=>k_is); (case ma_Walk_init=>k_is); (case ml_Walk_init=>k_is); (case mc_Walk_init=>k_is)
  (case mf_Walk_init=>k_is); (case mk_Walk_init=>k_is); (case z_all=>k_is); (case z_bool=>k_is)
  (case z_dict=>k_is); (case z_enumerate=>k_is); (case z_int=>k_is); (case z_isinstance=>k_is)
  (case z_len=>k_is); (case z_max=>k_is); (case z_min=>k_is); (case z_range=>k_is)
  (case z_sorted=>k_is); (case z_str=>k_is); (case z_tuple=>k_is); (case z_zip=>k_is)
  (case pw=>k_is); (case ph=>k_is); (case pz=>k_is); (case phz=>k_is)
  (case t_Walk=>exact⟨⟨by kernel_rfl,by kernel_rfl,by kernel_rfl,by kernel_rfl⟩,by unfold L2.NoAttr; kernel_rfl,by unfold L2.NoAttr; kernel_rfl,by unfold L2.NoAttr; kernel_rfl⟩); (case mk_Walk=>k_is); (case kp_Walk=>k_is); (case ra=>k_is)
  (case rh=>k_is); (case rh1=>k_is); (case rh2=>k_is); (case rh3=>k_is)
  (case pb=>k_is); (case phb=>k_is)
