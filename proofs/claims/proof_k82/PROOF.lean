import PyProof.Rows.All
import Wide.All
import OpenK.AllK
import Wide.FinOn
import Lean
import PyProof.EqAt
import PyProof.EqKinds
import PyProof.TupleCall
import PyProof.AttrMissHeap
import PySem.Challenge.RW_smallrooms_k82_whole_told_lists
set_option Elab.async false
set_option linter.all false
set_option maxRecDepth 100000
set_option Elab.async false
set_option linter.all false
set_option maxRecDepth 100000
namespace L2
open PySem PySem.Spec PyProof.Rows
abbrev Key:=Sum Int Str
def zou:Key->Value->Bool
 | .inl k,v=>Value.isInt k v
 | .inr x,v=>Value.isStrOf x v
def q75(w:World):Key->Int
 | .inl k=>hashInt k
 | .inr x=>hashStr w x
theorem z2w:∀{k:Key} {v:Value},zou k v=true->(∃i t,k=Sum.inl i/\v=Value.int i t)\/(∃x t,k=Sum.inr x/\v=Value.str x t)
 | .inl i,v,h=>by
  obtain⟨t,e⟩:=Value.isInt_shape (k:=i) (v:=v) h
  exact .inl ⟨i,t,rfl,e⟩
 | .inr x,v,h=>by
  obtain⟨t,e⟩:=Value.isStrOf_shape (x:=x) (v:=v) h
  exact .inr ⟨x,t,rfl,e⟩
theorem zvf(i:Int)(t:Tok):zou (.inl i) (.int i t)=true:=by simp[zou,Value.isInt]
theorem zve(x:Str)(t:Tok):zou (.inr x) (.str x t)=true:=by simp[zou,Value.isStrOf]
theorem q45(a b:Int):decide ((Sum.inl a:Key)=Sum.inl b)=(a == b):=by
 by_cases e:a=b
 ·subst e; simp
 ·have h:¬ (Sum.inl a:Key)=Sum.inl b:=fun q=>e (Sum.inl.inj q)
  rw [decide_eq_false h]
  exact(beq_eq_false_iff_ne.mpr e).symm
theorem q42(a b:Str):decide ((Sum.inr a:Key)=Sum.inr b)=decide (a=b):=by
 by_cases e:a=b
 ·subst e; simp
 ·have h:¬ (Sum.inr a:Key)=Sum.inr b:=fun q=>e (Sum.inr.inj q)
  rw [decide_eq_false h,decide_eq_false e]
theorem q44(a:Int)(b:Str):decide ((Sum.inl a:Key)=Sum.inr b)=false:=decide_eq_false (fun q=>nomatch q)
theorem q43(a:Str)(b:Int):decide ((Sum.inr a:Key)=Sum.inl b)=false:=decide_eq_false (fun q=>nomatch q)
def z1k(prog:Program)(w:World):PySem.KeyKind prog w Key where
 is:=zou
 hash:=q75 w
 inj:=fun v a b ha hb=>by
  rcases z2w ha with⟨i,t,rfl,rfl⟩ | ⟨x,t,rfl,rfl⟩
  ·rcases z2w hb with⟨j,u,rfl,e⟩ | ⟨y,u,rfl,e⟩
   ·injection e with e1 _; rw [e1]
   ·exact nomatch e
  ·rcases z2w hb with⟨j,u,rfl,e⟩ | ⟨y,u,rfl,e⟩
   ·exact nomatch e
   ·injection e with e1 _; rw [e1]
 byValue:=fun k v h=>by
  rcases z2w h with⟨i,t,rfl,rfl⟩ | ⟨x,t,rfl,rfl⟩<;>rfl
 pyHash:=fun hv h=>by
  rcases z2w hv with⟨i,t,rfl,rfl⟩ | ⟨x,t,rfl,rfl⟩
  ·exact wpAny_pyHash_int h
  ·exact wpAny_pyHash_str h
 eqBool:=fun hu hv h=>by
  rcases z2w hu with⟨i,t,rfl,rfl⟩ | ⟨x,t,rfl,rfl⟩
  ·rcases z2w hv with⟨j,u,rfl,rfl⟩ | ⟨y,u,rfl,rfl⟩
   ·rw [q45] at h; exact wpAny_eqBool_int h
   ·rw [q44] at h; exact SeqAt.EqAt.int_str i t y u _ _ _ _ h
  ·rcases z2w hv with⟨j,u,rfl,rfl⟩ | ⟨y,u,rfl,rfl⟩
   ·rw [q43] at h; exact SeqAt.EqAt.str_int x t j u _ _ _ _ h
   ·rw [q42] at h; exact wpAny_eqBool_str h
 «strs»:=fun k x t v h=>by
  rcases z2w h with⟨i,u,rfl,e⟩ | ⟨y,u,rfl,e⟩
  ·exact nomatch e
  ·injection e with e1 _
   subst e1
   cases v<;>rfl
theorem zor(prog:Program)(w:World)(i:Int)(t:Tok):(z1k prog w).is (.inl i) (.int i t)=true:=zvf i t
theorem zoq(prog:Program)(w:World)(x:Str)(t:Tok):(z1k prog w).is (.inr x) (.str x t)=true:=zve x t
end L2
namespace L2
open PySem PySem.Spec PyProof.Rows
inductive V where
 | non | bl (b:Bool) | int (i:Int) | str (x:Str) | byt (b:Array UInt8) | flt (b:UInt64) | ref (a:Addr) | ty (n:String)
 deriving DecidableEq
def RelV:V->Value->Prop
 | .non,u=>u=Value.none
 | .bl b,u=>u=Value.bool b
 | .int i,u=>∃t,u=Value.int i t
 | .str x,u=>∃t,u=Value.str x t
 | .byt b,u=>∃t,u=Value.bytes b t
 | .flt b,u=>∃t,u=Value.float b t
 | .ref a,u=>u=Value.ref a
 | .ty n,u=>u=Value.type n
abbrev Vals:List V->List Value->Prop:=Paired RelV
theorem Vals.length{xs:List V}{us:List Value}(r:Vals xs us):xs.length=us.length:=Paired.length r
theorem Vals.get:∀{xs:List V} {us:List Value} {i:Nat} {x:V},Vals xs us->xs[i]?=some x->∃u,us[i]?=some u/\RelV x u
 | _,_,_,_,.nil,e=>by simp at e
 | _,_,0,_,.cons r _,e=>by simp at e; subst e; exact⟨_,rfl,r⟩
 | _,_,i+1,x,.cons _ t,e=>by
  obtain⟨u,h1,h2⟩:=Vals.get (i:=i) (x:=x) t (by simpa using e)
  exact⟨u,by simpa using h1,h2⟩
theorem Vals.set{x:V}{u:Value}(r:RelV x u):∀{xs:List V} {us:List Value} (i:Nat),Vals xs us->Vals (xs.set i x) (us.set i u)
 | _,_,_,.nil=>.nil
 | _,_,0,.cons _ t=>.cons r t
 | _,_,i+1,.cons q t=>.cons q (Vals.set r i t)
theorem Vals.append:∀{xs ys:List V} {us ws:List Value},Vals xs us->Vals ys ws->Vals (xs++ys) (us++ws)
 | _,_,_,_,.nil,s=>s
 | _,_,_,_,.cons r t,s=>.cons r (Vals.append t s)
theorem Vals.take:∀{xs:List V} {us:List Value} (n:Nat),Vals xs us->Vals (xs.take n) (us.take n)
 | _,_,0,_=>.nil
 | _,_,_+1,.nil=>.nil
 | _,_,n+1,.cons r t=>.cons r (Vals.take n t)
theorem Vals.drop:∀{xs:List V} {us:List Value} (n:Nat),Vals xs us->Vals (xs.drop n) (us.drop n)
 | _,_,0,r=>r
 | _,_,_+1,.nil=>.nil
 | _,_,n+1,.cons _ t=>Vals.drop n t
def RelO:Option V->Option Value->Prop
 | some v,some u=>RelV v u
 | none,none=>True
 | _,_=>False
def KV{κ : Type}:List (κ×V)->List (κ×Value)->Prop:=Paired fun(p : κ×V) (q : κ×Value)=>p.1=q.1/\RelV p.2 q.2
def kV:Key->V
 | .inl i=>.int i
 | .inr x=>.str x
inductive HO where
 | lst (xs:List V)
 | tup (xs:List V)
 | dK (kvs:List (Key×V)) | dT (kvs:List (List Key×V))
 | set (S:Int->Bool) (n:Nat)
 | ins (C dx:Addr) (fs:List (Str×V))
 | own (x:Addr)
 | xd (fs:List (Str×V))
 | met (f x:Addr)
 | rng (lo hi:Int)
 | frz (o:Obj) (u:HO)
 | tbl (ps:Array Value)
 | ext (φ : Heap->Prop)
abbrev Hp:=Addr->Option HO
def upd(H:Hp)(a:Addr)(o:HO):Hp:=fun b=>if b=a then some o else H b
theorem z01{H:Hp}{a:Addr}{o:HO}:upd H a o a=some o:=by unfold upd; rw [if_pos rfl]
theorem z0b{H:Hp}{a b:Addr}{o:HO}(h:b≠a):upd H a o b=H b:=by unfold upd; rw [if_neg h]
theorem z5w{H:Hp}{a b:Addr}{o u:HO}(h:H a=some o)(h':H b=some u)(d:o≠u):a≠b:=by
 intro e; subst e; rw [h] at h'; exact d (Option.some.inj h')
theorem z0e{H:Hp}{a b:Addr}{o:HO}(h:H a=some o)(h':H b=none):a≠b:=by
 intro e; subst e; rw [h] at h'; cases h'
section
variable(P:Program)(w:World)
def ObjOk(H:Hp)(h:Heap)(a:Addr):HO->Prop
 | .lst xs=>xs.length<=sizeLine/\∃(its:List Value) (n:Nat),Vals xs its/\h.get? a=some {cls:=.type "list",data:=.seq its.toArray n}
 | .tup xs=>xs.length<=sizeLine/\∃its:List Value,Vals xs its/\IsTup h a its.toArray
 | .dK kvs=>kvs.length<=sizeLine/\(a == sysModules)=false/\∃vs,KV kvs vs/\h.DictOf (z1k P w) a vs
 | .dT kvs=>kvs.length<=sizeLine/\(a == sysModules)=false/\∃xs:List (List Key×Addr×Value),
   Paired (fun(p:List Key×V) (q:List Key×Addr×Value)=>p.1=q.1/\H q.2.1=some (.tup (p.1.map kV))/\RelV p.2 q.2.2) kvs xs/\
   ∃o es ep,h.get? a=some o/\o.ExactDict/\o.data=.dict es ep/\es.toList=xs.map (entryOfKey (tupleKind (z1k P w)))/\(xs.map (·.1)).Nodup
 | .set S n=>h.SetOf (intKind P w) a S n
 | .ins C dx fs=>H dx=some (.own a)/\fs.length<=1000/\dx≠a/\h.get? a=some (PySem.W.instObj C dx)/\
   ∃mA,h.Ns1 dx mA/\(∀f,RelO (fs.lookup f) (mA f))/\PySem.Within mA (fs.map (·.1))
 | .own _=>∃o,h.get? a=some o
 | .xd fs=>∃mA,h.Ns1 a mA/\∀f,RelO (fs.lookup f) (mA f)
 | .rng lo hi=>∃t u v,h.get? a=some {cls:=.type "range",data:=.fields #[.int lo t,.int hi u,.int 1 v]}
 | .frz o u=>h.get? a=some o/\ObjOk H h a u
 | .tbl ps=>h.get? a=some {cls:=.none,data:=.fields ps}
 | .met f x=>h.get? a=some (PySem.W.methodObj (.ref f) (.ref x))
 | .ext φ=>φ h/\(∃o,h.get? a=some o)/\∀h1 h2:Heap,φ h1->(∀o,h1.get? a=some o->h2.get? a=some o)->φ h2
def HOk(H:Hp)(h:Heap):Prop:=∀a o,H a=some o->ObjOk P w H h a o
end
section
variable{P:Program}{w:World}{H H':Hp}{h h':Heap}{a:Addr}{o:HO}
theorem ObjOk.lt(x:ObjOk P w H h a o):a < h.objs.size:=by
 cases o with
 | lst xs=>obtain⟨_,_,_,_,e⟩:=x; exact Heap.lt_size e
 | tup xs=>obtain⟨_,_,_,p⟩:=x; exact p.lt
 | dK kvs=>obtain⟨_,_,_,_,o,_,_,e,_⟩:=x; exact Heap.lt_size e
 | dT kvs=>obtain⟨_,_,_,_,o,_,_,e,_⟩:=x; exact Heap.lt_size e
 | set S n=>obtain⟨o,_,_,_,e,_⟩:=x; exact Heap.lt_size e
 | ins C dx fs=>obtain⟨_,_,_,e,_⟩:=x; exact Heap.lt_size e
 | own y=>obtain⟨_,e⟩:=x; exact Heap.lt_size e
 | xd fs=>obtain⟨_,⟨_,_,_,e,_⟩,_⟩:=x; exact Heap.lt_size e
 | rng lo hi=>obtain⟨_,_,_,e⟩:=x; exact Heap.lt_size e
 | frz ob u=>obtain⟨e,_⟩:=x; exact Heap.lt_size e
 | tbl ps=>exact Heap.lt_size (show h.get? a=some _ from x)
 | met f y=>exact Heap.lt_size (show h.get? a=some _ from x)
 | ext φ=>obtain⟨_,⟨_,e⟩,_⟩:=x; exact Heap.lt_size e
theorem Paired.mapP{α β : Type}{F G : α->β->Prop}:∀{l₁:List α} {l₂:List β},Paired F l₁ l₂->(∀a b,F a b->G a b)->Paired G l₁ l₂
 | _,_,.nil,_=>.nil
 | _,_,.cons r t,f=>.cons (f _ _ r) (Paired.mapP t f)
theorem Paired.imp'{α β : Type}{F G : α->β->Prop}(f:∀a b,F a b->G a b){l₁:List α}{l₂:List β}(r:Paired F l₁ l₂):Paired G l₁ l₂:=Paired.mapP r f
theorem ObjOk.stay(x:ObjOk P w H h a o)(k:∀b u,(b=a\/H b=some (.own a))->h.get? b=some u->h'.get? b=some u)
  (ho:∀b,H b=some (.own a)->H' b=some (.own a)) (ht:∀b xs,H b=some (.tup xs)->H' b=some (.tup xs)):ObjOk P w H' h' a o:=by
 induction o with
 | lst xs=>obtain⟨z,its,n,r,e⟩:=x; exact⟨z,its,n,r,k _ _ (.inl rfl) e⟩
 | tup xs=>obtain⟨z,its,r,ob,e,c⟩:=x; exact⟨z,its,r,ob,k _ _ (.inl rfl) e,c⟩
 | dK kvs=>obtain⟨z,y,vs,r,ob,es,ep,e,c⟩:=x; exact⟨z,y,vs,r,ob,es,ep,k _ _ (.inl rfl) e,c⟩
 | dT kvs=>
  obtain⟨z,y,xs,r,ob,es,ep,e,c⟩:=x
  exact⟨z,y,xs,Paired.mapP r fun p q z=>⟨z.1,ht _ _ z.2.1,z.2.2⟩,ob,es,ep,k _ _ (.inl rfl) e,c⟩
 | set S n=>obtain⟨ob,es,ep,t,e,c⟩:=x; exact⟨ob,es,ep,t,k _ _ (.inl rfl) e,c⟩
 | ins C dx fs=>
  obtain⟨d,z,ne,e,mA,⟨od,es,ep,e2,c⟩,r⟩:=x
  exact⟨ho _ d,z,ne,k _ _ (.inl rfl) e,mA,⟨od,es,ep,k _ _ (.inr d) e2,c⟩,r⟩
 | own y=>obtain⟨ob,e⟩:=x; exact⟨ob,k _ _ (.inl rfl) e⟩
 | xd fs=>obtain⟨mA,⟨od,es,ep,e,c⟩,r⟩:=x; exact⟨mA,⟨od,es,ep,k _ _ (.inl rfl) e,c⟩,r⟩
 | rng lo hi=>obtain⟨t,u,v,e⟩:=x; exact⟨t,u,v,k _ _ (.inl rfl) e⟩
 | frz ob u ih=>obtain⟨e,q⟩:=x; exact⟨k _ _ (.inl rfl) e,ih q⟩
 | tbl ps=>
  have e:h.get? a=some {cls:=.none,data:=.fields ps}:=x
  show h'.get? a=some {cls:=.none,data:=.fields ps}
  exact k a _ (.inl rfl) e
 | met f y=>
  have e:h.get? a=some (PySem.W.methodObj (.ref f) (.ref y)):=x
  show h'.get? a=some (PySem.W.methodObj (.ref f) (.ref y))
  exact k a _ (.inl rfl) e
 | ext φ=>obtain⟨p,⟨o,e⟩,st⟩:=x; exact⟨st _ _ p fun o q=>k _ _ (.inl rfl) q,⟨o,k _ _ (.inl rfl) e⟩,st⟩
theorem HOk.lt(x:HOk P w H h)(e:H a=some o):a < h.objs.size:=(x a o e).lt
theorem HOk.fresh(x:HOk P w H h)(e:h.objs.size<=a):H a=none:=by
 cases q:H a with
 | none=>rfl
 | some u=>exact absurd (Nat.lt_of_lt_of_le (x.lt q) e) (Nat.lt_irrefl _)
theorem HOk.kept(x:HOk P w H h)(k:∀b u,h.get? b=some u->h'.get? b=some u):HOk P w H h':=fun a o e=>
 (x a o e).stay (fun b u _ q=>k b u q) (fun _ q=>q) fun _ _ q=>q
theorem HOk.laid(x:HOk P w H h)(k:∀b u,h.get? b=some u->h'.get? b=some u)(hp:h.objs.size<=a)(new:ObjOk P w (upd H a o) h' a o):HOk P w (upd H a o) h':=fun b u e=>by
 have hn:=x.fresh hp
 by_cases hb:b=a
 ·subst hb; rw [z01] at e; cases e; exact new
 ·rw [z0b hb] at e
  exact(x b u e).stay (fun c v _ q=>k c v q) (fun c q=>by rw [z0b (z0e q hn)]; exact q) fun c xs q=>by rw [z0b (z0e q hn)]; exact q
end
def Rd(H:Hp)(a:Addr)(u:HO):Prop:=H a=some u\/∃o,H a=some (.frz o u)
theorem Rd.of{H:Hp}{a:Addr}{u:HO}(h:H a=some u):Rd H a u:=.inl h
theorem Rd.ok{P:Program}{w:World}{H:Hp}{h:Heap}{a:Addr}{u:HO}(r:Rd H a u)(x:HOk P w H h):ObjOk P w H h a u:=by
 rcases r with r | ⟨o,r⟩
 ·exact x a u r
 ·obtain⟨_,q⟩:=x a _ r
  exact q
def Mut:Option HO->Prop
 | some (.lst _)=>True
 | some (.dK _)=>True
 | some (.dT _)=>True
 | some (.set _ _)=>True
 | some (.ins _ _ _)=>True
 | some (.ext _)=>True
 | _=>False
section
variable{P:Program}{w:World}{H:Hp}{h h':Heap}{x e:Addr}{o':HO}
theorem HOk.write(ok:HOk P w H h)(mu:Mut (H x))(he:e=x\/H e=some (.own x))(k:∀b u,b≠e->h.get? b=some u->h'.get? b=some u)(heo:∃u,h'.get? e=some u)
  (new:ObjOk P w (upd H x o') h' x o'):HOk P w (upd H x o') h':=fun b u q=>by
 have nown:∀c y,H c=some (.own y)->c≠x:=fun c y r z=>by subst z; rw [r] at mu; exact mu
 have ntup:∀c xs,H c=some (.tup xs)->c≠x:=fun c xs r z=>by subst z; rw [r] at mu; exact mu
 by_cases hb:b=x
 ·subst hb; rw [z01] at q; cases q; exact new
 ·rw [z0b hb] at q
  by_cases hbe:b=e
  ·have q':H b=some (.own x):=by
    rcases he with z | z
    ·exact absurd (hbe.trans z) hb
    ·rw [hbe]; exact z
   rw [q] at q'; cases q'
   obtain⟨v,hv⟩:=heo
   exact⟨v,by rw [hbe]; exact hv⟩
  ·refine(ok b u q).stay (fun c v hc r=>k c v ?_ r) (fun c r=>by rw [z0b (nown c b r)]; exact r) fun c xs r=>by rw [z0b (ntup c xs r)]; exact r
   rcases hc with rfl | hc
   ·exact hbe
   ·rintro rfl
    rcases he with z | z
    ·exact nown c b hc z
    ·rw [hc] at z; cases z; exact hb rfl
end
structure Un(fs ex:List Addr)(H H':Hp)(h h':Heap):Prop where
 keep:∀b o,h.get? b=some o->H b=none->b∉fs->b∉ex->h'.get? b=some o
 slot:∀b o,h.get? b=some o->H b=none->b∈fs->b∉ex->∃sl,h'.get? b=some {o with slots:=sl}
 free:∀b o,h.get? b=some o->H b=none->b∉ex->H' b=none
 there:∀b o,h.get? b=some o->b∉ex->∃o',h'.get? b=some o'
 tups:∀b xs,H b=some (.tup xs)->H' b=some (.tup xs)
 frzs:∀b o u,H b=some (.frz o u)->H' b=some (.frz o u)
 tbls:∀b ps,H b=some (.tbl ps)->∃more,H' b=some (.tbl (ps++more))
section
variable{fs fs' ex ex':List Addr}{H H1 H2:Hp}{h h1 h2 h':Heap}{a x e:Addr}{o:HO}
theorem Un.any(u:Un fs ex H H1 h h1){b:Addr}{ob:Obj}(q:h.get? b=some ob)(n:H b=none)(hx:b∉ex):∃sl,h1.get? b=some {ob with slots:=sl}:=by
 by_cases hb:b∈fs
 ·exact u.slot b ob q n hb hx
 ·exact⟨ob.slots,u.keep b ob q n hb hx⟩
theorem Un.trans(a:Un fs ex H H1 h h1)(b:Un fs ex H1 H2 h1 h2):Un fs ex H H2 h h2 where
 keep:=fun c ob q n hc hx=>b.keep c ob (a.keep c ob q n hc hx) (a.free c ob q n hx) hc hx
 slot:=fun c ob q n hc hx=>by
  obtain⟨sl,e1⟩:=a.slot c ob q n hc hx
  obtain⟨sl',e2⟩:=b.slot c _ e1 (a.free c ob q n hx) hc hx
  exact⟨sl',e2⟩
 free:=fun c ob q n hx=>by
  obtain⟨o',e1⟩:=a.there c ob q hx
  exact b.free c o' e1 (a.free c ob q n hx) hx
 there:=fun c ob q hx=>by
  obtain⟨o',e1⟩:=a.there c ob q hx
  exact b.there c o' e1 hx
 tups:=fun c xs q=>b.tups c xs (a.tups c xs q)
 frzs:=fun c ob xs q=>b.frzs c ob xs (a.frzs c ob xs q)
 tbls:=fun c ps q=>by
  obtain⟨m1,e1⟩:=a.tbls c ps q
  obtain⟨m2,e2⟩:=b.tbls c _ e1
  exact⟨m1++m2,by rw [e2,Array.append_assoc]⟩
theorem Un.kept(k:∀b u,h.get? b=some u->h'.get? b=some u):Un fs ex H H h h':=
 ⟨fun b ob q _ _ _=>k b ob q,fun b ob q _ _ _=>⟨ob.slots,k b ob q⟩,fun _ _ _ n _=>n,fun b ob q _=>⟨ob,k b ob q⟩,fun _ _ q=>q,fun _ _ _ q=>q,fun _ ps q=>⟨#[],by rw [q]; simp⟩⟩
theorem Un.refl:Un fs ex H H h h:=Un.kept fun _ _ q=>q
theorem Un.laid(k:∀b u,h.get? b=some u->h'.get? b=some u)(hp:h.objs.size<=a)(hn:H a=none):Un fs ex H (upd H a o) h h' where
 keep:=fun b u q _ _ _=>k b u q
 slot:=fun b u q _ _ _=>⟨u.slots,k b u q⟩
 free:=fun b u q n _=>by rw [z0b (Nat.ne_of_lt (Nat.lt_of_lt_of_le (Heap.lt_size q) hp))]; exact n
 there:=fun b u q _=>⟨u,k b u q⟩
 tups:=fun b xs q=>by rw [z0b (z0e q hn)]; exact q
 frzs:=fun b u xs q=>by rw [z0b (z0e q hn)]; exact q
 tbls:=fun b ps q=>⟨#[],by rw [z0b (z0e q hn),q]; simp⟩
theorem Un.write(mu:Mut (H x))(he:e=x\/H e=some (.own x))(k:∀b u,b≠e->h.get? b=some u->h'.get? b=some u)(heo:∃u,h'.get? e=some u):Un fs ex H (upd H x o) h h':=by
 have hx:∀b,H b=none->b≠x:=fun b n z=>by subst z; rw [n] at mu; exact mu
 have hb:∀b,H b=none->b≠e:=fun b n z=>by
  subst z
  rcases he with r | r
  ·exact hx b n r
  ·rw [n] at r; cases r
 have hm:∀b u,H b=some u->¬ Mut (some u)->b≠x:=fun b u q nm z=>by subst z; rw [q] at mu; exact nm mu
 refine⟨fun b u q n _ _=>k b u (hb b n) q,fun b u q n _ _=>⟨u.slots,k b u (hb b n) q⟩,fun b u q n _=>by rw [z0b (hx b n)]; exact n,fun b u q _=>?_,
  fun b xs q=>by rw [z0b (hm b _ q fun z=>z)]; exact q,fun b u xs q=>by rw [z0b (hm b _ q fun z=>z)]; exact q,fun b ps q=>⟨#[],by rw [z0b (hm b _ q fun z=>z),q]; simp⟩⟩
 by_cases hbe:b=e
 ·subst hbe; exact heo
 ·exact⟨u,k b u hbe q⟩
end
def trk(h:Heap)(H:Hp):List Addr:=(List.range h.objs.size).filter fun a=>(H a).isSome
def zow(h:Heap)(H:Hp):Heap:=PySem.W.hideAll h (trk h H)
theorem zml(h:Heap)(H:Hp):(zow h H).objs.size=h.objs.size:=PySem.W.hideAll_size _ _
theorem zqi{h:Heap}{H:Hp}{b:Addr}{o:Obj}(e:h.get? b=some o)(n:H b=none):(zow h H).get? b=some o:=
 PySem.W.hideAll_get _ e fun hm=>by
  have q:(H b).isSome=true:=(List.mem_filter.mp hm).2
  rw [n] at q; simp at q
theorem zv1{h:Heap}{H:Hp}{b:Addr}{o:Obj}(e:(zow h H).get? b=some o):h.get? b=some o/\H b=none:=by
 have e':h.get? b=some o:=PySem.W.of_hideAll (trk h H) e
 refine⟨e',?_⟩
 cases q:H b with
 | none=>rfl
 | some x=>
  have hm:b∈trk h H:=List.mem_filter.mpr ⟨List.mem_range.mpr (Heap.lt_size e'),by simp[q]⟩
  have z:(zow h H).get? b=none:=PySem.W.hideAll_none (trk h H) hm
  rw [z] at e; cases e
def q21(g h:Heap)(L:Addr):List (Addr×Obj):=(List.range h.objs.size).filterMap fun a=>if a=L\/(g.get? a).isSome=true then none else(h.get? a).map fun o=>(a,o)
def zo8(g h:Heap)(L d:Addr):List (Addr×Obj):=(q21 g h L).filter fun p=>decide (p.1≠d)
end L2
namespace L2
open PySem PySem.Spec PyProof.Rows
structure Mod(K:PySem.W.Frag)(mg:Str->Option Value)(base:Heap):Prop where
 kin:K.In base
 glob:base.Ns mainGlobals mg
 blt:∃mb,base.Ns builtinsNs mb/\∀x:Str,x≠"__name__"->mb x=bootBuiltins x
 nolimit:base.NoLimit
structure Cx where
 prog:Program
 w:World
 K:PySem.W.Frag
 mg:Str->Option Value
 base:Heap
 A:Around
 N:List Str
 s₀:Shared
 H₀:Hp
 env:Env
 outer:List Env
 stack:List Env
 ex:List Addr
 fn:Str->Bool
 calm:Bool
 pn:List (Addr×Obj)
 xe:Value->Shared->Prop
def frs(l:List Env):List Addr:=l.filterMap (·.frame)
abbrev Cx.fs(X:Cx):List Addr:=frs X.outer
def Vis(sc:Scope)(x:Str):Prop:=sc.names.lookup x=some .local\/sc.names.lookup x=some .cell\/sc.names.lookup x=some .free
def Loc(sc:Scope)(x:Str):Prop:=sc.names.lookup x=some .local\/sc.names.lookup x=some .cell
def Look(env:Env)(h:Heap)(m:Str->Option Value)(x:Str)(u:Value):Prop:=
 (env.kindOf x=some .local/\m x=some u)\/((env.kindOf x=some .cell\/env.kindOf x=some .free)/\∃c,env.cells.lookup x=some c/\h.IsCell c (some u))
structure Cx.Ok(X:Cx):Prop where
 mod:Mod X.K X.mg X.base
 kind:X.env.scope.kind=.function
 glob:X.env.globals=mainGlobals
 blt:X.env.builtins=builtinsNs
 above:X.s₀.heap.objs.size<=X.env.locals
 inj:∀x y c,X.env.cells.lookup x=some c->X.env.cells.lookup y=some c->x=y
 has:∀x,(X.env.kindOf x=some .cell\/X.env.kindOf x=some .free)->∃c,X.env.cells.lookup x=some c
 cab:∀x c,X.fn x=true->X.env.cells.lookup x=some c->X.s₀.heap.objs.size<=c
 hd:X.calm=true->X.A.handled=none
 frames:X.A.frames=some X.stack
 stk:X.stack=X.outer\/(X.stack=X.env::X.outer/\X.env.frame=some X.env.locals)
 exf:∀b∈X.ex,b≠X.env.locals/\∀x c,X.env.cells.lookup x=some c->c≠b
 bs:∀b o,X.base.get? b=some o->X.s₀.heap.get? b=some o/\X.H₀ b=none
 bsz:X.base.objs.size<=X.s₀.heap.objs.size
 noex:∀b o,X.base.get? b=some o->b∉X.ex
 exfs:∀b∈X.ex,b∉X.fs
 funs:X.s₀.heap.FunFrames X.base X.outer
 frf:∀b∈X.fs,X.H₀ b=none
structure Inv(X:Cx)(pins:List (Addr×Obj))(σ : List (Option V))(H:Hp)(s:Shared):Prop where
 ok:X.Ok
 os:s.os=X.s₀.os
 bare:AllBare s.gens
 base:Un X.fs X.ex X.H₀ H X.s₀.heap s.heap
 loc:∃m,s.heap.Ns X.env.locals m/\∀(i:Nat) (x:Str) (v:V),X.N[i]?=some x->σ[i]?=some (some v)->Vis X.env.scope x->∃u,RelV v u/\Look X.env s.heap m x u
 cell:∀x c,X.env.cells.lookup x=some c->∃v,s.heap.IsCell c v
 free:H X.env.locals=none
 freeC:∀x c,X.env.cells.lookup x=some c->H c=none
 pin:∀p∈X.pn++pins,s.heap.get? p.1=some p.2/\H p.1=none/\p.1≠X.env.locals/\p.1∉X.fs/\∀v,p.2.data≠.cell v
 hok:HOk X.prog X.w H s.heap
 len : σ.length=X.N.length
section
variable{X:Cx}{pins:List (Addr×Obj)}{σ : List (Option V)}{H H':Hp}{s:Shared}{h':Heap}
theorem Cx.Ok.nofr(ok:X.Ok){b:Addr}{o:Obj}(e:X.base.get? b=some o):b∉X.fs:=fun hb=>by
 have:=(ok.funs.mem hb).1
 rw [e] at this; cases this
theorem Inv.bs(I:Inv X pins σ H s):∀b o,X.base.get? b=some o->s.heap.get? b=some o/\H b=none:=fun b o e=>
 ⟨I.base.keep b o (I.ok.bs b o e).1 (I.ok.bs b o e).2 (I.ok.nofr e) (I.ok.noex b o e),I.base.free b o (I.ok.bs b o e).1 (I.ok.bs b o e).2 (I.ok.noex b o e)⟩
theorem Inv.bk(I:Inv X pins σ H s):∀b o,X.base.get? b=some o->s.heap.get? b=some o:=fun b o e=>(I.bs b o e).1
theorem Inv.mod(I:Inv X pins σ H s):Mod X.K X.mg X.base:=I.ok.mod
theorem Inv.kIn(I:Inv X pins σ H s):X.K.In s.heap:=I.ok.mod.kin.keeps I.bk
theorem Inv.nolimit(I:Inv X pins σ H s):s.heap.NoLimit:=I.ok.mod.nolimit.keeps I.bk
theorem Inv.lt(I:Inv X pins σ H s):X.env.locals < s.heap.objs.size:=let ⟨_,hn,_⟩:=I.loc; hn.lt
theorem Inv.sz(I:Inv X pins σ H s):X.s₀.heap.objs.size<=s.heap.objs.size:=Nat.le_trans I.ok.above (Nat.le_of_lt I.lt)
theorem Inv.nofs(I:Inv X pins σ H s){a:Addr}(h:s.heap.objs.size<=a):a∉X.fs:=fun hb=>by
 obtain⟨_,o,ho,_⟩:=I.ok.funs.mem hb
 exact absurd (Nat.lt_of_lt_of_le (Heap.lt_size ho) (Nat.le_trans I.sz h)) (Nat.lt_irrefl _)
theorem Inv.cne(I:Inv X pins σ H s):∀x c,X.env.cells.lookup x=some c->c≠X.env.locals:=fun x c e z=>by
 obtain⟨v,o,ho,hd⟩:=I.cell x c e
 obtain⟨m,⟨o',es,ep,ho',hd',_⟩,_⟩:=I.loc
 rw [z,ho'] at ho; cases ho; rw [hd'] at hd; cases hd
theorem Inv.funs(I:Inv X pins σ H s):s.heap.FunFrames X.base X.outer:=by
 have all:∀(l:List Env),(∀b∈frs l,b∈X.fs)->X.s₀.heap.FunFrames X.base l->s.heap.FunFrames X.base l:=by
  intro l
  induction l with
  | nil=>intro _ _; trivial
  | cons env r ih=>
   intro hs hl
   obtain⟨hk,⟨L,o,hf,hn,ho,hd⟩,hr⟩:=hl
   have hL:L∈X.fs:=hs L (by unfold frs; rw [List.filterMap_cons,hf]; exact List.mem_cons_self)
   obtain⟨sl,e⟩:=I.base.slot L o ho (I.ok.frf L hL) hL fun z=>I.ok.exfs L z hL
   exact⟨hk,⟨L,_,hf,hn,e,hd⟩,ih (fun b hb=>hs b (by unfold frs; rw [List.filterMap_cons,hf]; exact List.mem_cons_of_mem _ hb)) hr⟩
 exact all X.outer (fun _ hb=>hb) I.ok.funs
theorem Inv.stack(I:Inv X pins σ H s):s.heap.FunFrames X.base X.stack:=by
 rcases I.ok.stk with e | ⟨e,hf⟩
 ·rw [e]; exact I.funs
 ·rw [e]
  obtain⟨m,hn,_⟩:=I.loc
  refine .cons (by rw [I.ok.kind]; decide) hf hn ?_ I.funs
  exact Heap.get?_none_of_le (Nat.le_trans I.ok.bsz I.ok.above)
theorem Inv.stkSub(I:Inv X pins σ H s):∀b∈frs X.stack,b∈X.env.locals::X.fs:=fun b hb=>by
 rcases I.ok.stk with e | ⟨e,hf⟩
 ·rw [e] at hb; exact List.mem_cons_of_mem _ hb
 ·rw [e] at hb
  unfold frs at hb
  rw [List.filterMap_cons,hf] at hb
  exact hb
theorem Inv.stkFree(I:Inv X pins σ H s):∀b∈frs X.stack,H b=none:=fun b hb=>by
 rcases List.mem_cons.mp (I.stkSub b hb) with e | hb
 ·rw [e]; exact I.free
 ·obtain⟨_,o,ho,_⟩:=I.ok.funs.mem hb
  exact I.base.free b o ho (I.ok.frf b hb) fun z=>I.ok.exfs b z hb
theorem Inv.step{g':Array GenState}{t':Nat}{d':Drawn}{ch:List Addr}(I:Inv X pins σ H s)
  (hch:∀b∈ch,(b∈X.ex\/X.s₀.heap.objs.size<=b)/\b≠X.env.locals/\(∀x c,X.env.cells.lookup x=some c->c≠b)/\∀p∈X.pn++pins,p.1≠b)
  (keep:∀b o,b≠X.env.locals->b∉X.fs->b∉ch->s.heap.get? b=some o->H b=none->h'.get? b=some o)
  (slot:∀b o,b≠X.env.locals->b∈X.fs->b∉ch->s.heap.get? b=some o->H b=none->∃sl,h'.get? b=some {o with slots:=sl}) (free:∀b o,b∉ch->s.heap.get? b=some o->H b=none->H' b=none)
  (there:∀b o,b∉ch->s.heap.get? b=some o->∃o',h'.get? b=some o')
  (tups:∀b xs,H b=some (.tup xs)->H' b=some (.tup xs)) (frzs:∀b o u,H b=some (.frz o u)->H' b=some (.frz o u)) (tbls:∀b ps,H b=some (.tbl ps)->∃more,H' b=some (.tbl (ps++more)))
  (ns:∀m,s.heap.Ns X.env.locals m->h'.Ns X.env.locals m) (hok:HOk X.prog X.w H' h') (hg:AllBare g') :
  Inv X pins σ H' {s with heap:=h',gens:=g',drawn:=d',toks:=t'}:=by
 have neL:∀b o,X.s₀.heap.get? b=some o->b≠X.env.locals:=fun b o e=>Nat.ne_of_lt (Nat.lt_of_lt_of_le (Heap.lt_size e) I.ok.above)
 have neC:∀b o,X.s₀.heap.get? b=some o->b∉X.ex->b∉ch:=fun b o e hx hb=>by
  rcases(hch b hb).1 with z | z
  ·exact hx z
  ·exact absurd (Nat.lt_of_lt_of_le (Heap.lt_size e) z) (Nat.lt_irrefl _)
 have cellK:∀x c,X.env.cells.lookup x=some c->∀v,s.heap.IsCell c v->h'.IsCell c v:=fun x c e v ⟨o,ho,hd⟩=>by
  have nch:c∉ch:=fun z=>(hch c z).2.2.1 x c e rfl
  by_cases hc:c∈X.fs
  ·obtain⟨sl,q⟩:=slot c o (I.cne x c e) hc nch ho (I.freeC x c e)
   exact⟨_,q,hd⟩
  ·exact⟨o,keep c o (I.cne x c e) hc nch ho (I.freeC x c e),hd⟩
 refine⟨I.ok,I.os,hg,⟨fun b o e n hb hx=>?_,fun b o e n hb hx=>?_,fun b o e n hx=>?_,fun b o e hx=>?_,fun b xs e=>tups b xs (I.base.tups b xs e),fun b o xs e=>frzs b o xs (I.base.frzs b o xs e),fun b ps e=>?_⟩,?_,fun x c e=>?_,?_,fun x c e=>?_,fun p hp=>?_,hok,I.len⟩
 ·exact keep b o (neL b o e) hb (neC b o e hx) (I.base.keep b o e n hb hx) (I.base.free b o e n hx)
 ·obtain⟨sl,e1⟩:=I.base.slot b o e n hb hx
  obtain⟨sl',e2⟩:=slot b _ (neL b o e) hb (neC b o e hx) e1 (I.base.free b o e n hx)
  exact⟨sl',e2⟩
 ·obtain⟨o',e1⟩:=I.base.there b o e hx
  exact free b o' (neC b o e hx) e1 (I.base.free b o e n hx)
 ·obtain⟨o',e1⟩:=I.base.there b o e hx
  exact there b o' (neC b o e hx) e1
 ·obtain⟨m1,e1⟩:=I.base.tbls b ps e
  obtain⟨m2,e2⟩:=tbls b _ e1
  exact⟨m1++m2,by rw [e2,Array.append_assoc]⟩
 ·obtain⟨m,hn,hl⟩:=I.loc
  refine⟨m,ns m hn,fun i x v e1 e2 e3=>?_⟩
  obtain⟨u,r,l⟩:=hl i x v e1 e2 e3
  refine⟨u,r,?_⟩
  rcases l with l | ⟨k,c,e,z⟩
  ·exact .inl l
  ·exact .inr ⟨k,c,e,cellK x c e _ z⟩
 ·obtain⟨v,z⟩:=I.cell x c e
  exact⟨v,cellK x c e v z⟩
 ·obtain⟨m,⟨o,_,_,ho,_⟩,_⟩:=I.loc
  exact free _ o (fun z=>(hch _ z).2.1 rfl) ho I.free
 ·obtain⟨v,o,ho,hd⟩:=I.cell x c e
  exact free c o (fun z=>(hch c z).2.2.1 x c e rfl) ho (I.freeC x c e)
 ·obtain⟨e,n,ne,nf,d⟩:=I.pin p hp
  have nch:p.1∉ch:=fun z=>(hch p.1 z).2.2.2 p hp rfl
  exact⟨keep p.1 p.2 ne nf nch e n,free p.1 p.2 nch e n,ne,nf,d⟩
theorem Inv.un{t':Nat}(I:Inv X pins σ H s)(u:Un X.fs [] H H' s.heap h')(hok:HOk X.prog X.w H' h'):Inv X pins σ H' {s with heap:=h',toks:=t'}:=by
 obtain⟨m,⟨o,es,ep,ho,r⟩,_⟩:=id I.loc
 obtain⟨sl,hL⟩:=u.any ho I.free (by simp)
 exact I.step (g':=s.gens) (d':=s.drawn) (ch:=[]) (fun _ z=>nomatch z) (fun b o _ hb _ e n=>u.keep b o e n hb (by simp)) (fun b o _ hb _ e n=>u.slot b o e n hb (by simp)) (fun b o _ e n=>u.free b o e n (by simp)) (fun b o _ e=>u.there b o e (by simp)) u.tups u.frzs u.tbls (fun m' hm=>by
  obtain⟨o',es',ep',ho',r'⟩:=hm
  rw [ho] at ho'; cases ho'
  exact⟨_,es',ep',hL,r'⟩) hok I.bare
theorem Inv.call{g':Array GenState}{t':Nat}{d':Drawn}{ch:List Addr}(I:Inv X pins σ H s)(u:Un (frs X.stack) ch H H' s.heap h')(hok:HOk X.prog X.w H' h')(hg:AllBare g')
  (hch:∀b∈ch,(b∈X.ex\/X.s₀.heap.objs.size<=b)/\b≠X.env.locals/\(∀x c,X.env.cells.lookup x=some c->c≠b)/\∀p∈X.pn++pins,p.1≠b) :
  Inv X pins σ H' {s with heap:=h',gens:=g',drawn:=d',toks:=t'}:=by
 obtain⟨m,⟨o,es,ep,ho,r⟩,_⟩:=id I.loc
 obtain⟨sl,hL⟩:=u.any ho I.free fun z=>(hch _ z).2.1 rfl
 exact I.step (ch:=ch) hch (fun b o hL hb hc e n=>u.keep b o e n (fun z=>(List.mem_cons.mp (I.stkSub b z)).elim hL hb) hc) (fun b o _ _ hc e n=>u.any e n hc) (fun b o hc e n=>u.free b o e n hc) (fun b o hc e=>u.there b o e hc) u.tups u.frzs u.tbls (fun m' hm=>by
  obtain⟨o',es',ep',ho',r'⟩:=hm
  rw [ho] at ho'; cases ho'
  exact⟨_,es',ep',hL,r'⟩) hok hg
theorem Inv.turned{t':Nat}{it:Addr}(I:Inv X pins σ H s)(k:∀b o,b≠it->s.heap.get? b=some o->h'.get? b=some o)(hn:H it=none)(hL:it≠X.env.locals)
  (h1:it∈X.ex\/X.s₀.heap.objs.size<=it) (h2:∀x c,X.env.cells.lookup x=some c->c≠it) (h3:∀p∈X.pn++pins,p.1≠it):Inv X pins σ H {s with heap:=h',toks:=t'}:=by
 have nit:∀b u,H b=some u->b≠it:=fun b u e z=>by rw [z,hn] at e; cases e
 refine I.step (g':=s.gens) (d':=s.drawn) (ch:=[it]) (fun b hb=>?_) (fun b o _ _ hc e _=>k b o (fun z=>hc (by simp[z])) e) (fun b o _ _ hc e _=>⟨o.slots,k b o (fun z=>hc (by simp[z])) e⟩) (fun _ _ _ _ n=>n)
  (fun b o hc e=>⟨o,k b o (fun z=>hc (by simp[z])) e⟩) (fun _ _ e=>e) (fun _ _ _ e=>e) (fun b ps e=>⟨#[],by rw [e]; simp⟩) (fun m hm=>?_) (fun b u e=>?_) I.bare
 ·have e:b=it:=by simpa using hb
  subst e
  exact⟨h1,hL,h2,h3⟩
 ·obtain⟨o,es,ep,ho,r⟩:=hm
  exact⟨o,es,ep,k _ o (Ne.symm hL) ho,r⟩
 ·refine(I.hok b u e).stay (fun c v hc q=>k c v ?_ q) (fun _ q=>q) fun _ _ q=>q
  rcases hc with z | z
  ·rw [z]; exact nit b u e
  ·exact nit c _ z
theorem Inv.tok(I:Inv X pins σ H s)(t:Nat):Inv X pins σ H {s with toks:=t}:=I.un (h':=s.heap) (t':=t) Un.refl I.hok
theorem Inv.kept{t':Nat}(I:Inv X pins σ H s)(k:∀b u,s.heap.get? b=some u->h'.get? b=some u):Inv X pins σ H {s with heap:=h',toks:=t'}:=I.un (Un.kept k) (I.hok.kept k)
theorem Inv.laid{a:Addr}{o:HO}{t':Nat}(I:Inv X pins σ H s)(k:∀b u,s.heap.get? b=some u->h'.get? b=some u)(hp:s.heap.objs.size<=a)(new:ObjOk X.prog X.w (upd H a o) h' a o) :
  Inv X pins σ (upd H a o) {s with heap:=h',toks:=t'}:=I.un (Un.laid k hp (I.hok.fresh hp)) (I.hok.laid k hp new)
theorem Inv.write{x e:Addr}{o:HO}{t':Nat}(I:Inv X pins σ H s)(mu:Mut (H x))(he:e=x\/H e=some (.own x))(k:∀b u,b≠e->s.heap.get? b=some u->h'.get? b=some u)(heo:∃u,h'.get? e=some u)
  (new:ObjOk X.prog X.w (upd H x o) h' x o):Inv X pins σ (upd H x o) {s with heap:=h',toks:=t'}:=I.un (Un.write mu he k heo) (I.hok.write mu he k heo new)
theorem Inv.pins_of{pins':List (Addr×Obj)}(I:Inv X pins σ H s)(h:∀p∈pins',s.heap.get? p.1=some p.2/\H p.1=none/\p.1≠X.env.locals/\p.1∉X.fs/\∀v,p.2.data≠.cell v):Inv X pins' σ H s:=
 ⟨I.ok,I.os,I.bare,I.base,I.loc,I.cell,I.free,I.freeC,fun p hp=>(List.mem_append.mp hp).elim (fun z=>I.pin p (List.mem_append_left _ z)) (h p),I.hok,I.len⟩
theorem zq9{N:List Str}(hN:N.Nodup){i j:Nat}{x:Str}(a:N[i]?=some x)(b:N[j]?=some x):i=j:=by
 obtain⟨h1,e1⟩:=List.getElem?_eq_some_iff.mp a
 obtain⟨h2,e2⟩:=List.getElem?_eq_some_iff.mp b
 exact(List.getElem_inj hN).mp (e1.trans e2.symm)
theorem zle{M:Model}{A:Around}{E:Value->Shared->Prop}{i:Nat}{x:Str}{v:V}{u:Value}{Q:Unit->Shared->Prop}(I:Inv X pins σ H s)(hN:X.N.Nodup)(hi:X.N[i]?=some x)(hx:Loc X.env.scope x)(r:RelV v u)
  (h:∀s',Inv X pins (σ.set i (some v)) H s'->(∃a,Heap.SameBut a s.heap s'.heap/\(a=X.env.locals\/X.env.cells.lookup x=some a))->Q () s') (hf:X.fn x=true\/X.env.scope.names.lookup x=some .local:=by first | exact .inl rfl | exact .inr rfl | assumption):wpAny M A (storeName X.env x u) Q E s:=by
 obtain⟨m,hn,hl⟩:=id I.loc
 have hcls:(X.env.scope.kind == .class || (X.env.scope.kind == .module && X.env.locals !=X.env.globals))=false:=by rw [I.ok.kind]; rfl
 have hiσ : i < σ.length:=by rw [I.len]; exact(List.getElem?_eq_some_iff.mp hi).1
 have cne:=I.cne
 have tracked:∀{a:Addr} {h':Heap},(∃o,s.heap.get? a=some o/\H a=none)->Heap.SameBut a s.heap h'->HOk X.prog X.w H h':=fun {a h'} ha hs b ob e=>by
  obtain⟨_,_,hfree⟩:=ha
  refine(I.hok b ob e).stay (fun c w' hc q=>(hs.2 c ?_).trans q) (fun _ q=>q) fun _ _ q=>q
  rintro rfl
  rcases hc with rfl | hc
  ·rw [hfree] at e; cases e
  ·rw [hfree] at hc; cases hc
 rcases hx with hk | hk
 ·refine wpAny_storeName_local hk hn (fun h' hn' hs=>?_) hcls
  obtain⟨oL,_,_,hoL,_⟩:=id hn
  refine h _ ⟨I.ok,I.os,I.bare,⟨fun b o e n hb hx=>?_,fun b o e n hb hx=>?_,I.base.free,fun b o e hx=>?_,I.base.tups,I.base.frzs,I.base.tbls⟩,⟨_,hn',fun j y v' e1 e2 e3=>?_⟩,fun y c e=>?_,I.free,I.freeC,fun p hp=>?_,tracked ⟨oL,hoL,I.free⟩ hs,by simpa using I.len⟩ ⟨_,hs,.inl rfl⟩
  ·exact(hs.2 b (Nat.ne_of_lt (Nat.lt_of_lt_of_le (Heap.lt_size e) I.ok.above))).trans (I.base.keep b o e n hb hx)
  ·obtain⟨sl,e1⟩:=I.base.slot b o e n hb hx
   exact⟨sl,(hs.2 b (Nat.ne_of_lt (Nat.lt_of_lt_of_le (Heap.lt_size e) I.ok.above))).trans e1⟩
  ·obtain⟨o',e1⟩:=I.base.there b o e hx
   exact⟨o',(hs.2 b (Nat.ne_of_lt (Nat.lt_of_lt_of_le (Heap.lt_size e) I.ok.above))).trans e1⟩
  ·by_cases hj:j=i
   ·subst hj
    rw [hi] at e1; cases e1
    rw [List.getElem?_set_self hiσ] at e2
    cases e2
    exact⟨u,r,.inl ⟨hk,by simp⟩⟩
   ·rw [List.getElem?_set_ne (Ne.symm hj)] at e2
    obtain⟨u',r',q⟩:=hl j y v' e1 e2 e3
    refine⟨u',r',?_⟩
    rcases q with⟨k,e⟩ | ⟨k,c,e,z⟩
    ·refine .inl ⟨k,?_⟩
     have:y≠x:=fun e=>hj (zq9 hN e1 (e ▸ hi))
     simp[this,e]
    ·exact .inr ⟨k,c,e,z.sameBut hs (cne y c e)⟩
  ·obtain⟨w',z⟩:=I.cell y c e
   exact⟨w',z.sameBut hs (cne y c e)⟩
  ·obtain⟨e,n,ne,nf,d⟩:=I.pin p hp
   exact⟨(hs.2 p.1 ne).trans e,n,ne,nf,d⟩
 ·have hfn:X.fn x=true:=by
   rcases hf with z | z
   ·exact z
   ·rw [z] at hk; cases hk
  obtain⟨c,hc⟩:=I.ok.has x (.inl hk)
  obtain⟨w',z⟩:=I.cell x c hc
  refine wpAny_storeName_cell I.ok.kind hk hc z (fun h' hc' hs=>?_)
  obtain⟨oc,hoc,hocd⟩:=id z
  refine h {s with heap:=h'} ⟨I.ok,I.os,I.bare,⟨fun b o e n hb hx=>?_,fun b o e n hb hx=>?_,I.base.free,fun b o e hx=>?_,I.base.tups,I.base.frzs,I.base.tbls⟩,⟨m,hn.sameBut hs (Ne.symm (cne x c hc)),fun j y v' e1 e2 e3=>?_⟩,fun y c' e=>?_,I.free,I.freeC,fun p hp=>?_,tracked ⟨oc,hoc,I.freeC x c hc⟩ hs,by simpa using I.len⟩ ⟨c,hs,.inr hc⟩
  ·exact(hs.2 b (Nat.ne_of_lt (Nat.lt_of_lt_of_le (Heap.lt_size e) (I.ok.cab x c hfn hc)))).trans (I.base.keep b o e n hb hx)
  ·obtain⟨sl,e1⟩:=I.base.slot b o e n hb hx
   exact⟨sl,(hs.2 b (Nat.ne_of_lt (Nat.lt_of_lt_of_le (Heap.lt_size e) (I.ok.cab x c hfn hc)))).trans e1⟩
  ·obtain⟨o',e1⟩:=I.base.there b o e hx
   exact⟨o',(hs.2 b (Nat.ne_of_lt (Nat.lt_of_lt_of_le (Heap.lt_size e) (I.ok.cab x c hfn hc)))).trans e1⟩
  ·by_cases hj:j=i
   ·subst hj
    rw [hi] at e1; cases e1
    rw [List.getElem?_set_self hiσ] at e2
    cases e2
    exact⟨u,r,.inr ⟨.inl hk,c,hc,hc'⟩⟩
   ·rw [List.getElem?_set_ne (Ne.symm hj)] at e2
    obtain⟨u',r',q⟩:=hl j y v' e1 e2 e3
    refine⟨u',r',?_⟩
    rcases q with q | ⟨k,c',e,z'⟩
    ·exact .inl q
    ·refine .inr ⟨k,c',e,z'.sameBut hs ?_⟩
     rintro rfl
     exact hj (zq9 hN e1 (I.ok.inj _ _ _ e hc ▸ hi))
  ·by_cases hcc:c'=c
   ·subst hcc; exact⟨_,hc'⟩
   ·obtain⟨w2,z2⟩:=I.cell y c' e
    exact⟨w2,z2.sameBut hs hcc⟩
  ·obtain⟨e,n,ne,nf,d⟩:=I.pin p hp
   refine⟨(hs.2 p.1 ?_).trans e,n,ne,nf,d⟩
   intro q
   rw [q,hoc] at e
   have q':oc=p.2:=Option.some.inj e
   exact d w' (by rw [<- q']; exact hocd)
theorem zpi{M:Model}{A:Around}{E:Value->Shared->Prop}{i:Nat}{x:Str}{v:V}{u:Value}{Q:Unit->Shared->Prop}(I:Inv X pins σ H s)(hN:X.N.Nodup)(hi:X.N[i]?=some x)(hx:Loc X.env.scope x)(r:RelV v u)
  (h:∀s',Inv X pins (σ.set i (some v)) H s'->Q () s') (hf:X.fn x=true\/X.env.scope.names.lookup x=some .local:=by first | exact .inl rfl | exact .inr rfl | assumption):wpAny M A (storeName X.env x u) Q E s:=
 zle I hN hi hx r (fun s' I' _=>h s' I') hf
theorem Inv.call'{s':Shared}{ch:List Addr}(I:Inv X pins σ H s)(ho:s'.os=s.os)(u:Un (frs X.stack) ch H H' s.heap s'.heap)(hok:HOk X.prog X.w H' s'.heap)(hg:AllBare s'.gens)
  (hch:∀b∈ch,(b∈X.ex\/X.s₀.heap.objs.size<=b)/\b≠X.env.locals/\(∀x c,X.env.cells.lookup x=some c->c≠b)/\∀p∈X.pn++pins,p.1≠b):Inv X pins σ H' s':=by
 obtain⟨h',g',d',t',o'⟩:=s'
 have e:o'=s.os:=ho
 subst e
 exact I.call (g':=g') (t':=t') (d':=d') u hok hg hch
end
abbrev XK:=Value->Option Addr->Hp->Prop
abbrev St:=List (Option V)
abbrev VK:=V->Hp->Prop
abbrev TE:=St->Hp->VK->Prop
abbrev TT:=St->Hp->(Bool->Hp->Prop)->Prop
abbrev TA:=St->Hp->(List V->Hp->Prop)->Prop
structure Ends where
 nx:St->Hp->Prop
 rt:VK
 bk:St->Hp->Prop:=fun _ _=>False
 ct:St->Hp->Prop:=fun _ _=>False
abbrev TS:=Ends->St->Hp->Prop
def EP(X:Cx)(pins:List (Addr×Obj))(σ : St)(Q:VK)(u:Value)(s':Shared):Prop:=∃v H',Inv X pins σ H' s'/\RelV v u/\Q v H'
def TP(X:Cx)(pins:List (Addr×Obj))(σ : St)(Q:Bool->Hp->Prop)(b:Bool)(s':Shared):Prop:=∃H',Inv X pins σ H' s'/\Q b H'
def AP(X:Cx)(pins:List (Addr×Obj))(σ : St)(Q:List V->Hp->Prop)(us:List Value)(s':Shared):Prop:=∃vs H',Inv X pins σ H' s'/\Vals vs us/\Q vs H'
def SP(X:Cx)(pins:List (Addr×Obj))(D:Ends)(f:Flow)(s':Shared):Prop:=
 match f with
 | .next=>∃ σ' H',Inv X pins σ' H' s'/\D.nx σ' H'
 | .brk=>∃ σ' H',Inv X pins σ' H' s'/\D.bk σ' H'
 | .cont=>∃ σ' H',Inv X pins σ' H' s'/\D.ct σ' H'
 | .ret u=>∃v σ' H',Inv X pins σ' H' s'/\RelV v u/\D.rt v H'
abbrev PEv(X:Cx)(e:Expr)(t:TE):Prop:=
 ∀(pins:List (Addr×Obj)) (s:Shared) (σ : St) (H:Hp) (Q:VK),Inv X pins σ H s->t σ H Q->wpAny (model X.prog X.w) X.A (eval e X.env) (EP X pins σ Q) X.xe s
structure PE(X:Cx)(e:Expr)(t:TE):Prop where
 run:PEv X e t
instance{X:Cx}{e:Expr}{t:TE}:CoeFun (PE X e t) (fun _=>PEv X e t):=⟨PE.run⟩
abbrev PTv(X:Cx)(e:Expr)(t:TT):Prop:=
 ∀(pins:List (Addr×Obj)) (s:Shared) (σ : St) (H:Hp) (Q:Bool->Hp->Prop),Inv X pins σ H s->t σ H Q->wpAny (model X.prog X.w) X.A (isTrue e X.env (eval e X.env)) (TP X pins σ Q) X.xe s
structure PT(X:Cx)(e:Expr)(t:TT):Prop where
 run:PTv X e t
instance{X:Cx}{e:Expr}{t:TT}:CoeFun (PT X e t) (fun _=>PTv X e t):=⟨PT.run⟩
abbrev PWv(X:Cx)(e:Expr)(t:TT):Prop:=
 ∀(whole:Sem Value) (pins:List (Addr×Obj)) (s:Shared) (σ : St) (H:Hp) (Q:Bool->Hp->Prop),Inv X pins σ H s->t σ H Q->wpAny (model X.prog X.w) X.A (isTrue e X.env whole) (TP X pins σ Q) X.xe s
structure PW(X:Cx)(e:Expr)(t:TT):Prop where
 run:PWv X e t
instance{X:Cx}{e:Expr}{t:TT}:CoeFun (PW X e t) (fun _=>PWv X e t):=⟨PW.run⟩
theorem PW.pt{X:Cx}{e:Expr}{t:TT}(h:PW X e t):PT X e t:=⟨h.run _⟩
abbrev PAv(X:Cx)(es:List Expr)(t:TA):Prop:=
 ∀(pos:Pos) (pins:List (Addr×Obj)) (s:Shared) (σ : St) (H:Hp) (Q:List V->Hp->Prop),Inv X pins σ H s->t σ H Q->wpAny (model X.prog X.w) X.A (spliced (backTo pos (starEach es X.env))) (AP X pins σ Q) X.xe s
structure PA(X:Cx)(es:List Expr)(t:TA):Prop where
 run:PAv X es t
instance{X:Cx}{es:List Expr}{t:TA}:CoeFun (PA X es t) (fun _=>PAv X es t):=⟨PA.run⟩
abbrev PSv(X:Cx)(st:Stmt)(t:TS):Prop:=
 ∀(pins:List (Addr×Obj)) (s:Shared) (σ : St) (H:Hp) (D:Ends),Inv X pins σ H s->t D σ H->wpAny (model X.prog X.w) X.A (exec st X.env) (SP X pins D) X.xe s
structure PS(X:Cx)(st:Stmt)(t:TS):Prop where
 run:PSv X st t
instance{X:Cx}{st:Stmt}{t:TS}:CoeFun (PS X st t) (fun _=>PSv X st t):=⟨PS.run⟩
abbrev PSsv(X:Cx)(st:List Stmt)(t:TS):Prop:=
 ∀(pins:List (Addr×Obj)) (s:Shared) (σ : St) (H:Hp) (D:Ends),Inv X pins σ H s->t D σ H->wpAny (model X.prog X.w) X.A (execs st X.env) (SP X pins D) X.xe s
structure PSs(X:Cx)(st:List Stmt)(t:TS):Prop where
 run:PSsv X st t
instance{X:Cx}{st:List Stmt}{t:TS}:CoeFun (PSs X st t) (fun _=>PSsv X st t):=⟨PSs.run⟩
theorem thn{α : Type}{t:Sem α}{Q Q' : α->Shared->Prop}{M:Model}{A:Around}{E:Value->Shared->Prop}{s:Shared}(h:wpAny M A t Q E s)(hQ:∀a s,Q a s->Q' a s):wpAny M A t Q' E s:=wpAny_mono h hQ fun _ _ x=>x
end L2
namespace L2
open PySem PySem.Spec PyProof.Rows
section
variable{X:Cx}
def isI(x:V)(P:Int->Prop):Prop:=match x with | .int i=>P i | _=>False
def isBl(x:V)(P:Bool->Prop):Prop:=match x with | .bl i=>P i | _=>False
def isRf(x:V)(P:Addr->Prop):Prop:=match x with | .ref i=>P i | _=>False
theorem zvk{i:Int}{P:Int->Prop}:isI (.int i) P=P i:=rfl
theorem zji{i:Bool}{P:Bool->Prop}:isBl (.bl i) P=P i:=rfl
theorem zmi{i:Addr}{P:Addr->Prop}:isRf (.ref i) P=P i:=rfl
theorem isI.o{x:V}{P:Int->Prop}(h:isI x P):∃i,x=.int i/\P i:=by
 cases x<;>first | exact h.elim | exact⟨_,rfl,h⟩
theorem isBl.o{x:V}{P:Bool->Prop}(h:isBl x P):∃i,x=.bl i/\P i:=by
 cases x<;>first | exact h.elim | exact⟨_,rfl,h⟩
theorem isRf.o{x:V}{P:Addr->Prop}(h:isRf x P):∃i,x=.ref i/\P i:=by
 cases x<;>first | exact h.elim | exact⟨_,rfl,h⟩
theorem zvj{x:V}{P:Int->Prop}:isI x P=∃i,x=.int i/\P i:=propext ⟨isI.o,fun⟨i,e,h⟩=>by subst e; exact h⟩
theorem zmj{x:V}{P:Bool->Prop}:isBl x P=∃i,x=.bl i/\P i:=propext ⟨isBl.o,fun⟨i,e,h⟩=>by subst e; exact h⟩
theorem zmh{x:V}{P:Addr->Prop}:isRf x P=∃i,x=.ref i/\P i:=propext ⟨isRf.o,fun⟨i,e,h⟩=>by subst e; exact h⟩
def atS:Nat->St->(V->Prop)->Prop
 | 0,some v::_,P=>P v
 | i+1,_::σ,P=>atS i σ P
 | _,_,_=>False
theorem zx4{v:V}{σ : St}{P:V->Prop}:atS 0 (some v::σ) P=P v:=rfl
theorem zx3{i:Nat}{x:Option V}{σ : St}{P:V->Prop}:atS (i+1) (x::σ) P=atS i σ P:=rfl
theorem isV.o:∀{i:Nat} {σ : St} {P:V->Prop},atS i σ P->∃v,σ[i]?=some (some v)/\P v
 | 0,some v::_,_,h=>⟨v,rfl,h⟩
 | i+1,_::σ,P,h=>by
  obtain⟨v,e,h⟩:=isV.o (i:=i) (σ:=σ) h
  exact⟨v,by simpa using e,h⟩
 | 0,[],_,h=>h.elim
 | 0,none::_,_,h=>h.elim
 | _+1,[],_,h=>h.elim
theorem isV.i:∀{i:Nat} {σ : St} {v:V} {P:V->Prop},σ[i]?=some (some v)->P v->atS i σ P
 | 0,some v::_,_,_,e,h=>by
  have e:some (some v)=some (some _):=e
  cases e; exact h
 | i+1,_::σ,v,P,e,h=>isV.i (i:=i) (σ:=σ) (by simpa using e) h
 | 0,[],_,_,e,_=>by simp at e
 | 0,none::_,_,_,e,_=>by simp at e
 | _+1,[],_,_,e,_=>by simp at e
theorem zx2{i:Nat}{σ : St}{P:V->Prop}:atS i σ P=∃v,σ[i]?=some (some v)/\P v:=propext ⟨isV.o,fun⟨_,e,h⟩=>isV.i e h⟩
def zrl:Nat->V->St->(St->Prop)->Prop
 | 0,v,_::σ,Q=>Q (some v::σ)
 | i+1,v,x::σ,Q=>zrl i v σ fun σ'=>Q (x::σ')
 | _,_,[],Q=>Q []
theorem zlm{v:V}{x:Option V}{σ : St}{Q:St->Prop}:zrl 0 v (x::σ) Q=Q (some v::σ):=rfl
theorem zll{i:Nat}{v:V}{x:Option V}{σ : St}{Q:St->Prop}:zrl (i+1) v (x::σ) Q=zrl i v σ fun σ'=>Q (x::σ'):=rfl
theorem zdf:∀{i:Nat} {v:V} {σ : St} {Q:St->Prop},zrl i v σ Q=Q (σ.set i (some v))
 | 0,v,_::σ,Q=>rfl
 | i+1,v,x::σ,Q=>by rw [zrl,zdf (i:=i)]; rfl
 | 0,_,[],Q=>rfl
 | i+1,_,[],Q=>rfl
theorem q3u{α β : Type}{f : α->β}{a : α}{l:List α}:List.map f (a::l)=f a::List.map f l:=rfl
theorem q3t{α β : Type}{f : α->β}:List.map f []=[]:=rfl
theorem q3y{α : Type}{a : α}{l:List α}:(a::l).length=l.length+1:=rfl
theorem q3x{α : Type}:([]:List α).length=0:=rfl
theorem q55{α : Type}{a : α}{l r:List α}:(a::l)++r=a::(l++r):=rfl
theorem q54{α : Type}{r:List α}:[]++r=r:=rfl
def zim(i:Nat):TE:=fun σ H Q=>atS i σ fun v=>Q v H
def tC(v:V):TE:=fun _ H Q=>Q v H
theorem z00{i:Nat}{x:Str}{pos:Pos}(hN:X.N[i]?=some x)(hv:Vis X.env.scope x) (hd:(x == ("__debug__" : Str))=false:=by decide) (hcd:(x == ("__classdict__" : Str))=false:=by decide):PE X (.Name x pos) (zim i):=by
 refine⟨?_⟩
 intro pins s σ H Q I h
 obtain⟨v,e,h⟩:=isV.o h
 obtain⟨m,hn,hl⟩:=I.loc
 obtain⟨u,r,l⟩:=hl i x v hN e hv
 have fin:EP X pins σ Q u s:=⟨v,H,I,r,h⟩
 rcases l with⟨hk,hm⟩ | ⟨hk,c,hc,hcell⟩
 ·exact wpAny_Name (wpAny_loadName_local I.ok.kind hk hn hm fin) hd
 ·rcases hk with hk | hk
  ·exact wpAny_Name (wpAny_loadName_cell I.ok.kind hk hc hcell fin) hd
  ·exact wpAny_Name (wpAny_loadName_free I.ok.kind hk hc hcell fin hcd) hd
theorem z03{i j pos}:PE X (.Constant (.int i) j pos) (tC (.int i)):=⟨fun _ _ _ H _ I h=>wpAny_Constant_int ⟨.int i,H,I.tok _,⟨_,rfl⟩,h⟩⟩
theorem q0u{b j pos}:PE X (.Constant (.bool b) j pos) (tC (.bl b)):=⟨fun _ _ _ H _ I h=>Constant_bool ⟨.bl b,H,I,rfl,h⟩⟩
theorem zfx{j pos}:PE X (.Constant .none j pos) (tC .non):=⟨fun _ _ _ H _ I h=>Constant_none ⟨.non,H,I,rfl,h⟩⟩
theorem z0m{x j pos}:PE X (.Constant (.str x) j pos) (tC (.str x)):=⟨fun _ _ _ H _ I h=>Calls.Constant_str ⟨.str x,H,I.tok _,⟨_,rfl⟩,h⟩⟩
def Gl(X:Cx)(x:Str):Prop:=X.env.kindOf x=some .globalImplicit
theorem zhq{E:Value->Shared->Prop}{pins:List (Addr×Obj)}{s:Shared}{σ : St}{H:Hp}{x:Str}{u:Value}{pos:Pos}{Q:Value->Shared->Prop}(I:Inv X pins σ H s)(hg:Gl X x)(hm:X.mg x=some u)(h:Q u s)
  (hd:(x == ("__debug__" : Str))=false:=by decide):wpAny (model X.prog X.w) X.A (eval (.Name x pos) X.env) Q E s:=
 Calls.Name_function_global I.ok.kind hg (Calls.loadGlobal_global (by rw [I.ok.glob]; exact I.mod.glob.keeps I.bk) hm h) hd
theorem zje{E:Value->Shared->Prop}{pins:List (Addr×Obj)}{s:Shared}{σ : St}{H:Hp}{x:Str}{u:Value}{pos:Pos}{Q:Value->Shared->Prop}(I:Inv X pins σ H s)(hg:Gl X x)(hm:X.mg x=none)(hv:bootBuiltins x=some u)(h:Q u s)
  (hn:x≠"__name__":=by decide) (hd:(x == ("__debug__" : Str))=false:=by decide):wpAny (model X.prog X.w) X.A (eval (.Name x pos) X.env) Q E s:=by
 obtain⟨mb,h1,h2⟩:=I.mod.blt
 exact Calls.Name_function_global I.ok.kind hg (Calls.loadGlobal_builtin (by rw [I.ok.glob]; exact I.mod.glob.keeps I.bk) hm (by rw [I.ok.blt]; exact h1.keeps I.bk) ((h2 x hn).trans hv) h) hd
theorem q0s{x:Str}{v:V}{u:Value}{pos:Pos}(hg:Gl X x)(hm:X.mg x=some u)(r:RelV v u) (hd:(x == ("__debug__" : Str))=false:=by decide):PE X (.Name x pos) (tC v):=
 ⟨fun _ _ _ H _ I h=>zhq I hg hm ⟨v,H,I,r,h⟩ hd⟩
theorem zk6{x:Str}{v:V}{u:Value}{pos:Pos}(hg:Gl X x)(hm:X.mg x=none)(hv:bootBuiltins x=some u)(r:RelV v u) (hn:x≠"__name__":=by decide) (hd:(x == ("__debug__" : Str))=false:=by decide):PE X (.Name x pos) (tC v):=
 ⟨fun _ _ _ H _ I h=>zje I hg hm hv ⟨v,H,I,r,h⟩ hn hd⟩
variable{a b:Expr}{ta tb:TE}{pos:Pos}
abbrev PCv(X:Cx)(op:CmpOp)(a b:Expr)(t:TE):Prop:=
 ∀(pins:List (Addr×Obj)) (s:Shared) (σ : St) (H:Hp) (Q:VK),Inv X pins σ H s->t σ H Q->
  wpAny (model X.prog X.w) X.A (eval a X.env) (fun v s₁=>wpAny (model X.prog X.w) X.A (eval b X.env) (fun u s₂=>wpAny (model X.prog X.w) X.A (compareOp op v u) (EP X pins σ Q) X.xe s₂) X.xe s₁) X.xe s
structure PC(X:Cx)(op:CmpOp)(a b:Expr)(t:TE):Prop where
 run:PCv X op a b t
instance{X:Cx}{op:CmpOp}{a b:Expr}{t:TE}:CoeFun (PC X op a b t) (fun _=>PCv X op a b t):=⟨PC.run⟩
theorem zye(b:Expr){op:CmpOp}(h:op≠.In)(h2:op≠.NotIn):behindInMarks op b=false:=by
 have e1:(op == CmpOp.In)=false:=by cases op<;>first | rfl | exact absurd rfl h
 have e2:(op == CmpOp.NotIn)=false:=by cases op<;>first | rfl | exact absurd rfl h2
 cases b<;>simp[behindInMarks,e1,e2]
def tB(t:TE):TT:=fun σ H Q=>t σ H fun x H1=>isBl x fun c=>Q c H1
theorem q37{op:CmpOp}{t:TE}(h:PC X op a b t)(h1:behindInMarks op b=false:=by first | exact zye _ (by decide) (by decide) | rfl):PT X (.Compare a [op] [b] pos) (tB t):=by
 refine⟨?_⟩
 intro pins s σ H Q I hw
 refine wpAny_isTrue_Compare1 (thn (h pins s σ H _ I hw) fun v s1 h1=>thn h1 fun u s2 h2=>thn h2 fun c s3 ⟨x,H1,I1,r1,q1⟩=>?_) h1
 obtain⟨d,rfl,q⟩:=isBl.o q1
 cases r1
 exact wpAny_truthy_bool ⟨H1,I1,q⟩
theorem zpt{e:Expr}{t:TE}(h:PE X e t)(he:∀whole,isTrue e X.env whole=(do let v <- whole; standAt e.pos; holding [v] (truthy v)):=by intro _; rfl):PT X e (tB t):=by
 refine⟨?_⟩
 intro pins s σ H Q I hw
 refine isTrue_plain (thn (h pins s σ H _ I hw) fun v s1 ⟨x,H1,I1,r1,q1⟩=>?_) (he _)
 obtain⟨d,rfl,q⟩:=isBl.o q1
 cases r1
 exact wpAny_truthy_bool ⟨H1,I1,q⟩
variable{tA tB':TT}{zo8:List Expr}
def q0a(t u:TT):TT:=fun σ H Q=>t σ H fun c H1=>if c=true then u σ H1 Q else Q false H1
def tOr(t u:TT):TT:=fun σ H Q=>t σ H fun c H1=>if c=true then Q true H1 else u σ H1 Q
def q2c(t:TT):TT:=fun σ H Q=>t σ H fun c H1=>Q (!c) H1
theorem zo9(ha:PT X a tA):PW X (.BoolOp .And [a] pos) tA:=by
 refine⟨?_⟩
 intro wh pins s σ H Q I h
 refine isTrue_and (thn (ha pins s σ H Q I h) fun c s1 e=>?_)
 cases c with
 | true=>exact isTrue_and_nil e
 | false=>exact e
theorem zps(ha:PT X a tA):PW X (.BoolOp .Or [a] pos) tA:=by
 refine⟨?_⟩
 intro wh pins s σ H Q I h
 refine isTrue_or (thn (ha pins s σ H Q I h) fun c s1 e=>?_)
 cases c with
 | false=>exact isTrue_or_nil e
 | true=>exact e
theorem zud(ha:PT X a tA)(hb:PW X (.BoolOp .And (b::zo8) pos) tB'):PW X (.BoolOp .And (a::b::zo8) pos) (q0a tA tB'):=by
 refine⟨?_⟩
 intro wh pins s σ H Q I h
 refine isTrue_and (thn (ha pins s σ H _ I h) fun c s1 ⟨H1,I1,q1⟩=>?_)
 cases c with
 | true=>exact hb wh pins s1 σ H1 Q I1 q1
 | false=>exact⟨H1,I1,q1⟩
theorem zuc(ha:PT X a tA)(hb:PW X (.BoolOp .Or (b::zo8) pos) tB'):PW X (.BoolOp .Or (a::b::zo8) pos) (tOr tA tB'):=by
 refine⟨?_⟩
 intro wh pins s σ H Q I h
 refine isTrue_or (thn (ha pins s σ H _ I h) fun c s1 ⟨H1,I1,q1⟩=>?_)
 cases c with
 | true=>exact⟨H1,I1,q1⟩
 | false=>exact hb wh pins s1 σ H1 Q I1 q1
theorem zuf(ha:PT X a tA):PT X (.UnaryOp .Not a pos) (q2c tA):=by
 refine⟨?_⟩
 intro pins s σ H Q I h
 exact isTrue_not (ha pins s σ H (fun c H1=>Q (!c) H1) I h)
def zrg(ta tb:TE):TE:=fun σ H Q=>ta σ H fun x H1=>isBl x fun c=>if c=true then tb σ H1 Q else Q (.bl false) H1
def q2v(ta tb:TE):TE:=fun σ H Q=>ta σ H fun x H1=>isBl x fun c=>if c=true then Q (.bl true) H1 else tb σ H1 Q
def zr9(ta:TE):TE:=fun σ H Q=>ta σ H fun x H1=>isBl x fun c=>Q (.bl (!c)) H1
theorem zpw{op}{t:TE}(h:PE X a t):PE X (.BoolOp op [a] pos) t:=⟨fun pins s σ H Q I hw=>BoolOp_one (h pins s σ H Q I hw)⟩
theorem zm0(ha:PE X a ta)(hb:PE X (.BoolOp .And (b::zo8) pos) tb):PE X (.BoolOp .And (a::b::zo8) pos) (zrg ta tb):=by
 refine⟨?_⟩
 intro pins s σ H Q I h
 refine BoolOp_and (thn (ha pins s σ H _ I h) fun v s1 ⟨x,H1,I1,r1,q1⟩=>?_)
 obtain⟨c,rfl,q1⟩:=isBl.o q1
 cases r1
 refine wpAny_truthy_bool ?_
 cases c with
 | true=>exact hb pins s1 σ H1 Q I1 q1
 | false=>exact⟨.bl false,H1,I1,rfl,q1⟩
theorem q3a(ha:PE X a ta):PE X (.UnaryOp .Not a pos) (zr9 ta):=by
 refine⟨?_⟩
 intro pins s σ H Q I h
 refine UnaryOp_ (thn (ha pins s σ H _ I h) fun v s1 ⟨x,H1,I1,r1,q1⟩=>?_)
 obtain⟨c,rfl,q1⟩:=isBl.o q1
 cases r1
 exact not_of (wpAny_truthy_bool ⟨.bl (!c),H1,I1,rfl,q1⟩)
def tIf(t:TT)(ta tb:TE):TE:=fun σ H Q=>t σ H fun c H1=>if c=true then ta σ H1 Q else tb σ H1 Q
theorem zpz{c:Expr}(hc:PT X c tA)(ha:PE X a ta)(hb:PE X b tb):PE X (.IfExp c a b pos) (tIf tA ta tb):=by
 refine⟨?_⟩
 intro pins s σ H Q I h
 refine wpAny_IfExp (thn (hc pins s σ H _ I h) fun d s1 ⟨H1,I1,q1⟩=>?_)
 cases d with
 | true=>exact ha pins s1 σ H1 Q I1 q1
 | false=>exact hb pins s1 σ H1 Q I1 q1
end
end L2
namespace L2
open PySem PySem.Spec PyProof.Rows
def SqL(K:PySem.W.Frag)(H:Hp)(a:Addr)(xs:List V):Prop:=
 Rd H a (.lst xs)\/
  ∃(o:Obj) (its:Array Value) (n:Nat),K.lookup a=some o/\o.cls=.type "list"/\o.dict=none/\o.data=.seq its n/\its.size<=sizeLine/\Vals xs its.toList
def SqT(K:PySem.W.Frag)(H:Hp)(a:Addr)(xs:List V):Prop:=
 Rd H a (.tup xs)\/
  ∃(o:Obj) (its:Array Value) (n:Nat),K.lookup a=some o/\o.cls=.type "tuple"/\o.data=.seq its n/\its.size<=sizeLine/\Vals xs its.toList
def q7d:Value->Option V
 | .none=>some .non
 | .bool b=>some (.bl b)
 | .int i _=>some (.int i)
 | .str x _=>some (.str x)
 | .bytes b _=>some (.byt b)
 | .float b _=>some (.flt b)
 | .ref a=>some (.ref a)
 | .type n=>some (.ty n)
 | _=>none
theorem RelV.abs{x:V}{u:Value}(r:RelV x u):q7d u=some x:=by
 cases x with
 | non=>cases r; rfl
 | bl _=>cases r; rfl
 | int _=>obtain⟨t,rfl⟩:=r; rfl
 | str _=>obtain⟨t,rfl⟩:=r; rfl
 | byt _=>obtain⟨t,rfl⟩:=r; rfl
 | flt _=>obtain⟨t,rfl⟩:=r; rfl
 | ref _=>cases r; rfl
 | ty _=>cases r; rfl
theorem RelV.inj{x y:V}{u:Value}(r:RelV x u)(q:RelV y u):x=y:=Option.some.inj (r.abs.symm.trans q.abs)
theorem Vals.inj:∀{xs ys:List V} {us:List Value},Vals xs us->Vals ys us->xs=ys
 | _,_,_,.nil,.nil=>rfl
 | _,_,_,.cons r t,.cons r' t'=>by rw [r.inj r',Vals.inj t t']
section
variable{X:Cx}{pins:List (Addr×Obj)}{σ : St}{H:Hp}{s:Shared}{a:Addr}{xs ys:List V}
theorem SqL.of{K:PySem.W.Frag}(h:H a=some (.lst xs)):SqL K H a xs:=.inl (.inl h)
theorem SqT.of{K:PySem.W.Frag}(h:H a=some (.tup xs)):SqT K H a xs:=.inl (.inl h)
theorem Inv.list(I:Inv X pins σ H s)(h:SqL X.K H a xs):∃its:List Value,Vals xs its/\PlainL s.heap a its.toArray/\xs.length<=sizeLine:=by
 rcases h with h | ⟨o,its,n,hk,hc,hd,hs,hz,r⟩
 ·obtain⟨z,its,n,r,e⟩:=h.ok I.hok
  exact⟨its,r,⟨_,n,e,rfl,rfl,rfl⟩,z⟩
 ·refine⟨its.toList,r,⟨o,n,I.kIn a o hk,hc,hd,by simpa using hs⟩,?_⟩
  have e:=r.length
  simp only[Array.length_toList] at e
  omega
theorem Inv.tuple(I:Inv X pins σ H s)(h:SqT X.K H a xs):∃its:List Value,Vals xs its/\IsTup s.heap a its.toArray/\xs.length<=sizeLine:=by
 rcases h with h | ⟨o,its,n,hk,hc,hs,hz,r⟩
 ·obtain⟨z,its,r,p⟩:=h.ok I.hok
  exact⟨its,r,p,z⟩
 ·refine⟨its.toList,r,⟨o,I.kIn a o hk,hc,n,by simpa using hs⟩,?_⟩
  have e:=r.length
  simp only[Array.length_toList] at e
  omega
theorem Inv.list_inj(I:Inv X pins σ H s)(h:SqL X.K H a xs)(h':SqL X.K H a ys):xs=ys:=by
 obtain⟨its,r,⟨o,n,e,_,_,d⟩,_⟩:=I.list h
 obtain⟨its',r',⟨o',n',e',_,_,d'⟩,_⟩:=I.list h'
 rw [e] at e'; cases e'
 rw [d] at d'
 injection d' with d1 _
 have:its=its':=by simpa using congrArg Array.toList d1
 subst this
 exact r.inj r'
theorem Inv.tuple_inj(I:Inv X pins σ H s)(h:SqT X.K H a xs)(h':SqT X.K H a ys):xs=ys:=by
 obtain⟨its,r,⟨o,e,_,n,d⟩,_⟩:=I.tuple h
 obtain⟨its',r',⟨o',e',_,n',d'⟩,_⟩:=I.tuple h'
 rw [e] at e'; cases e'
 rw [d] at d'
 injection d' with d1 _
 have:its=its':=by simpa using congrArg Array.toList d1
 subst this
 exact r.inj r'
end
abbrev Cx.wish(X:Cx)(E:Value->Shared->Prop):Cx:={X with xe:=E}
abbrev Cx.nox(X:Cx):Cx:=X.wish fun _ _=>False
theorem Cx.Ok.wish{X:Cx}(ok:X.Ok)(E:Value->Shared->Prop):(X.wish E).Ok:=
 ⟨ok.mod,ok.kind,ok.glob,ok.blt,ok.above,ok.inj,ok.has,ok.cab,ok.hd,ok.frames,ok.stk,ok.exf,ok.bs,ok.bsz,ok.noex,ok.exfs,ok.funs,ok.frf⟩
theorem Cx.Ok.unwish{X:Cx}{E:Value->Shared->Prop}(ok:(X.wish E).Ok):X.Ok:=
 ⟨ok.mod,ok.kind,ok.glob,ok.blt,ok.above,ok.inj,ok.has,ok.cab,ok.hd,ok.frames,ok.stk,ok.exf,ok.bs,ok.bsz,ok.noex,ok.exfs,ok.funs,ok.frf⟩
section
variable{X:Cx}{pins:List (Addr×Obj)}{σ : St}{H:Hp}{s:Shared}{E:Value->Shared->Prop}
theorem Inv.wish(I:Inv X pins σ H s)(E:Value->Shared->Prop):Inv (X.wish E) pins σ H s:=⟨I.ok.wish E,I.os,I.bare,I.base,I.loc,I.cell,I.free,I.freeC,I.pin,I.hok,I.len⟩
theorem Inv.unwish(I:Inv (X.wish E) pins σ H s):Inv X pins σ H s:=⟨I.ok.unwish,I.os,I.bare,I.base,I.loc,I.cell,I.free,I.freeC,I.pin,I.hok,I.len⟩
theorem SP.unwish{D:Ends}{f:Flow}{s':Shared}(h:SP (X.wish E) pins D f s'):SP X pins D f s':=by
 cases f with
 | next=>obtain⟨σ',H',I,q⟩:=h; exact⟨σ',H',I.unwish,q⟩
 | brk=>obtain⟨σ',H',I,q⟩:=h; exact⟨σ',H',I.unwish,q⟩
 | cont=>obtain⟨σ',H',I,q⟩:=h; exact⟨σ',H',I.unwish,q⟩
 | ret u=>obtain⟨v,σ',H',I,r,q⟩:=h; exact⟨v,σ',H',I.unwish,r,q⟩
theorem PE.nox{e:Expr}{t:TE}(h:PE X.nox e t):PE X e t:=⟨fun pins s σ H Q I hw=>
 wpAny_mono (h pins s σ H Q (I.wish _) hw) (fun _ _ ⟨v,H',I',r,q⟩=>⟨v,H',I'.unwish,r,q⟩) fun _ _ z=>False.elim z⟩
theorem PT.nox{e:Expr}{t:TT}(h:PT X.nox e t):PT X e t:=⟨fun pins s σ H Q I hw=>
 wpAny_mono (h pins s σ H Q (I.wish _) hw) (fun _ _ ⟨H',I',q⟩=>⟨H',I'.unwish,q⟩) fun _ _ z=>False.elim z⟩
theorem PSs.nox{st:List Stmt}{t:TS}(h:PSs X.nox st t):PSs X st t:=⟨fun pins s σ H D I hw=>
 wpAny_mono (h pins s σ H D (I.wish _) hw) (fun _ _ q=>q.unwish) fun _ _ z=>False.elim z⟩
end
section
variable{X:Cx}{st:Stmt}{zo8:List Stmt}{t u:TS}{e:Expr}{te:TE}{pos:Pos}
def zrb:TS:=fun D σ H=>D.nx σ H
def zr7(t u:TS):TS:=fun D σ H=>t {D with nx:=u D} σ H
theorem z0x:PSs X [] zrb:=⟨fun _ _ σ H _ I h=>wpAny_execs_nil ⟨σ,H,I,h⟩⟩
theorem z06(h1:PS X st t)(h2:PSs X zo8 u):PSs X (st::zo8) (zr7 t u):=by
 refine⟨?_⟩
 intro pins s σ H D I h
 refine wpAny_execs_cons (thn (h1 pins s σ H {D with nx:=u D} I h) fun f s1 q=>?_)
 cases f with
 | next=>
  obtain⟨σ',H',I',q⟩:=q
  exact h2 pins s1 σ' H' D I' q
 | ret v=>exact q
 | brk=>exact q
 | cont=>exact q
theorem z0a(h1:PS X st t):PSs X [st] t:=by
 refine⟨?_⟩
 intro pins s σ H D I h
 refine wpAny_execs_cons (thn (h1 pins s σ H D I h) fun f s1 q=>?_)
 cases f with
 | next=>exact wpAny_execs_nil q
 | ret v=>exact q
 | brk=>exact q
 | cont=>exact q
def zld:TS:=fun D σ H=>D.bk σ H
def ztp:TS:=fun D σ H=>D.ct σ H
theorem Inv.quiet{pins:List (Addr×Obj)}{σ : St}{H:Hp}{s:Shared}(I:Inv X pins σ H s):interactive X.env=false:=by simp[interactive,I.ok.kind]
def zrc(te:TE):TS:=fun D σ H=>te σ H fun _ H1=>D.nx σ H1
theorem z46(he:PE X e te)(hs:swapsWith e none pos.line X.env=pure false:=by rfl):PS X (.Expr e pos) (zrc te):=by
 refine⟨?_⟩
 intro pins s σ H D I h
 exact wpAny_Expr_any (thn (he pins s σ H _ I h) fun v s1 ⟨x,H1,I1,r1,q1⟩=>⟨σ,H1,I1,q1⟩) I.quiet hs
def q2b(te:TE):TS:=fun D σ H=>te σ H D.rt
theorem z0h(he:PE X e te):PS X (.Return (some e) pos) (q2b te):=by
 refine⟨?_⟩
 intro pins s σ H D I h
 exact wpAny_Return_some (thn (he pins s σ H _ I h) fun v s1 ⟨x,H1,I1,r1,q1⟩=>⟨x,σ,H1,I1,r1,q1⟩)
def zti:TS:=fun D _ H=>D.rt .non H
def ztm(c:TT)(t u:TS):TS:=fun D σ H=>c σ H fun b H1=>if b=true then t D σ H1 else u D σ H1
theorem z32{c:Expr}{a b:List Stmt}{tc:TT}(hc:PT X c tc)(ha:PSs X a t)(hb:PSs X b u):PS X (.If c a b pos) (ztm tc t u):=by
 refine⟨?_⟩
 intro pins s σ H D I h
 refine wpAny_If (thn (hc pins s σ H _ I h) fun d s1 ⟨H1,I1,q1⟩=>?_)
 cases d with
 | true=>exact ha pins s1 σ H1 D I1 q1
 | false=>exact hb pins s1 σ H1 D I1 q1
def zj4:TS:=fun _ _ _=>False
theorem zk1:PS X st zj4:=⟨fun _ _ _ _ _ _ h=>h.elim⟩
end
abbrev TG:=V->St->Hp->(St->Hp->Prop)->Prop
abbrev TGs:=List V->St->Hp->(St->Hp->Prop)->Prop
abbrev PGv(X:Cx)(target:Expr)(t:TG):Prop:=
 ∀(pins:List (Addr×Obj)) (s:Shared) (σ : St) (H:Hp) (v:V) (u:Value) (Q:St->Hp->Prop),Inv X pins σ H s->RelV v u->t v σ H Q->
  wpAny (model X.prog X.w) X.A (assign target X.env u) (fun _ s'=>∃ σ' H',Inv X pins σ' H' s'/\Q σ' H') X.xe s
structure PG(X:Cx)(target:Expr)(t:TG):Prop where
 run:PGv X target t
instance{X:Cx}{target:Expr}{t:TG}:CoeFun (PG X target t) (fun _=>PGv X target t):=⟨PG.run⟩
abbrev PGsv(X:Cx)(ts:List Expr)(t:TGs):Prop:=
 ∀(pins:List (Addr×Obj)) (s:Shared) (σ : St) (H:Hp) (vs:List V) (us:List Value) (Q:St->Hp->Prop),Inv X pins σ H s->Vals vs us->t vs σ H Q->
  wpAny (model X.prog X.w) X.A (assignInOrder ((assignEach ts X.env).map (·.2)) us) (fun _ s'=>∃ σ' H',Inv X pins σ' H' s'/\Q σ' H') X.xe s
structure PGs(X:Cx)(ts:List Expr)(t:TGs):Prop where
 run:PGsv X ts t
instance{X:Cx}{ts:List Expr}{t:TGs}:CoeFun (PGs X ts t) (fun _=>PGsv X ts t):=⟨PGs.run⟩
section
variable{X:Cx}{pos:Pos}
def z8o(i:Nat):TG:=fun v σ H Q=>zrl i v σ fun σ'=>Q σ' H
theorem z10{i:Nat}{x:Str}(hN:X.N.Nodup)(hi:X.N[i]?=some x)(hx:Loc X.env.scope x)(hf:X.fn x=true\/X.env.scope.names.lookup x=some .local:=by first | exact .inl rfl | exact .inr rfl | assumption):PG X (.Name x pos) (z8o i):=by
 refine⟨?_⟩
 intro pins s σ H v u Q I r h
 rw [z8o,zdf] at h
 exact wpAny_assign_Name (zpi I hN hi hx r (fun s' I'=>⟨_,H,I',h⟩) hf)
def zyw:TGs:=fun vs σ H Q=>vs=[]/\Q σ H
def zgp(t:TG)(u:TGs):TGs:=fun vs σ H Q=>∃v r,vs=v::r/\t v σ H fun σ' H'=>u r σ' H' Q
theorem z4f:PGs X [] zyw:=by
 refine⟨?_⟩
 intro pins s σ H vs us Q I r h
 obtain⟨e,h⟩:=h
 subst e
 cases r
 exact assignInOrder_nil ⟨σ,H,I,h⟩
theorem z0y{e:Expr}{es:List Expr}{t:TG}{u:TGs}(h1:PG X e t)(h2:PGs X es u)
  (hs:(assignEach (e::es) X.env).map (·.2)=assign e X.env::(assignEach es X.env).map (·.2):=by rfl):PGs X (e::es) (zgp t u):=by
 refine⟨?_⟩
 intro pins s σ H vs us Q I r h
 obtain⟨v,vr,e1,h⟩:=h
 subst e1
 cases r with
 | cons r rr=>
  rw [hs]
  refine assignInOrder_cons (thn (h1 pins s σ H _ _ _ I r h) fun _ s1 ⟨σ1,H1,I1,q1⟩=>?_)
  exact h2 pins s1 σ1 H1 _ _ Q I1 rr q1
def zxa(K:PySem.W.Frag)(n:Nat)(t:TGs):TG:=fun v σ H Q=>isRf v fun a=>∃xs,SqT K H a xs/\xs.length=n/\t xs σ H Q
theorem zcj{es:List Expr}{k:Nat}{t:TGs}{n:Nat}(hc:X.calm=true)(h:PGs X es t)
  (hn:(assignEach es X.env).length=n:=by rfl) (hst:(assignEach es X.env).findIdx? (·.1)=none:=by rfl):PG X (.Tuple es k pos) (zxa X.K n t):=by
 refine⟨?_⟩
 intro pins s σ H v u Q I r hw
 obtain⟨a,e1,xs,hq,hl,hA⟩:=isRf.o hw
 subst e1
 cases r
 obtain⟨its,rv,ht,hz⟩:=I.tuple hq
 refine assign_Tuple_tuple (I.ok.hd hc) ht (by simp[hn,<- hl,rv.length]) hst fun h' hx=>?_
 have I1:Inv X pins σ H {s with heap:=h'}:=I.kept (t':=s.toks) fun b o e=>hx b o (Nat.ne_of_lt (Heap.lt_size e)) e
 exact h pins _ σ H xs _ Q I1 (by simpa using rv) hA
def zzd(te:TE)(g:TG):TS:=fun D σ H=>te σ H fun x H1=>g x σ H1 D.nx
theorem zzo{tg e:Expr}{te:TE}{g:TG}(he:PE X e te)(hg:PG X tg g)(hs:swapsWithSole [tg] e pos.line X.env=pure false:=by rfl)(hw:swappedStores [tg] e X.env=pure none:=by rfl)
  (h1:(assignEach [tg] X.env).map (·.2)=[assign tg X.env]:=by rfl):PS X (.Assign [tg] e pos) (zzd te g):=by
 refine⟨?_⟩
 intro pins s σ H D I h
 refine wpAny_Assign_stores (thn (he pins s σ H _ I h) fun v s1 ⟨x,H1,I1,r1,q1⟩=>?_) hs hw
 rw [h1]
 exact thn (hg pins s1 σ H1 x v _ I1 r1 q1) fun _ s2 q=>q
theorem z1g{i:Nat}{x:Str}{e:Expr}{te:TE}{pos':Pos}(hN:X.N.Nodup)(hi:X.N[i]?=some x)(hx:Loc X.env.scope x)(he:PE X e te)(hs:swapsWith e (some (.Name x pos')) pos.line X.env=pure false:=by rfl)(hf:X.fn x=true\/X.env.scope.names.lookup x=some .local:=by first | exact .inl rfl | exact .inr rfl | assumption) :
  PS X (.Assign [.Name x pos'] e pos) (zzd te (z8o i)):=by
 refine⟨?_⟩
 intro pins s σ H D I h
 refine wpAny_Assign_Name (thn (he pins s σ H _ I h) fun v s1 ⟨y,H1,I1,r1,q1⟩=>?_) hs
 have q1:z8o i y σ H1 D.nx:=q1
 rw [z8o,zdf] at q1
 exact zpi I1 hN hi hx r1 (fun s2 I2=>⟨_,H1,I2,q1⟩) hf
end
section
variable{X:Cx}{pos:Pos}
def q2t(c:TT)(tb:TS):TS:=fun D σ H=>∃W:Nat->St->Hp->Prop,(∃m,W m σ H)/\∀m σ H,W m σ H->
 c σ H fun b H1=>if b=true then ∃N:St->Hp->Prop,(∀ σ' H',N σ' H'->∃m',m' < m/\W m' σ' H')/\tb {D with nx:=N,ct:=N,bk:=D.nx} σ H1 else D.nx σ H1
theorem zxz{c:Expr}{body:List Stmt}{tc:TT}{tb:TS}(hp:PassesOwn (model X.prog X.w) X.A X.env X.xe)(hc:PT X c tc)(hb:PSs X body tb):PS X (.While c body [] pos) (q2t tc tb):=by
 refine⟨?_⟩
 intro pins s σ H D I h
 obtain⟨W,⟨m0,w0⟩,turn⟩:=h
 refine wpAny_While (codeAny_whileLoop (fun n s'=>∃ σ' H',Inv X pins σ' H' s'/\W n σ' H') ?_ m0 ⟨σ,H,I,w0⟩)
 rintro n s1 ⟨σ1,H1,I1,w1⟩
 refine wpAny_passesOwn hp (thn (hc pins s1 σ1 H1 _ I1 (turn n σ1 H1 w1)) fun b s2 ⟨H2,I2,q2⟩=>?_)
 cases b with
 | true=>
  obtain⟨N,hN,q2⟩:=q2
  rw [if_pos rfl]
  refine wpAny_passesOwn hp (thn (hb pins s2 σ1 H2 _ I2 q2) fun f s3 q3=>?_)
  cases f with
  | next=>
   obtain⟨σ3,H3,I3,n3⟩:=q3
   obtain⟨m',hm,w3⟩:=hN σ3 H3 n3
   exact⟨m',hm,σ3,H3,I3,w3⟩
  | cont=>
   obtain⟨σ3,H3,I3,n3⟩:=q3
   obtain⟨m',hm,w3⟩:=hN σ3 H3 n3
   exact⟨m',hm,σ3,H3,I3,w3⟩
  | brk=>exact q3
  | ret v=>exact q3
 | false=>
  rw [if_neg Bool.false_ne_true]
  exact wpAny_execs_nil ⟨σ1,H2,I2,q2⟩
end
structure It where
 go:Nat->Hp->Prop
 yld:Nat->Hp->V->Hp->Prop
 stop:Nat->Hp->Prop
def FpOk(X:Cx)(pins:List (Addr×Obj))(H:Hp)(b:Addr):Prop:=
 H b=none/\b≠X.env.locals/\b∉X.fs/\(b∈X.ex\/X.s₀.heap.objs.size<=b)/\(∀x c,X.env.cells.lookup x=some c->c≠b)/\∀p∈X.pn++pins,p.1≠b
theorem Inv.fpOk{X:Cx}{pins:List (Addr×Obj)}{σ : St}{H H':Hp}{s:Shared}{b:Addr}(I:Inv X pins σ H s)(hb:s.heap.objs.size<=b)(hn:H' b=none):FpOk X pins H' b:=by
 refine⟨hn,Nat.ne_of_gt (Nat.lt_of_lt_of_le I.lt hb),I.nofs hb,.inr (Nat.le_trans I.sz hb),fun x c e z=>?_,fun p hp z=>?_⟩
 ·obtain⟨v,q⟩:=I.cell x c e
  exact absurd (Nat.lt_of_lt_of_le q.lt (by rw [z]; exact hb)) (Nat.lt_irrefl _)
 ·exact absurd (Nat.lt_of_lt_of_le (Heap.lt_size (I.pin p hp).1) (by rw [z]; exact hb)) (Nat.lt_irrefl _)
structure Turn(P:Program)(w:World)(K:PySem.W.Frag)(tg:Expr)(J:It)(fp:List Addr)(it:Addr)(tn:Nat->Heap->Prop):Prop where
 mem:it∈fp
 obj:∀i h,tn i h->∀b∈fp,∃o,h.get? b=some o/\∀v,o.data≠.cell v
 keep:∀i h h',tn i h->(∀b∈fp,∀o,h.get? b=some o->h'.get? b=some o)->tn i h'
 item:∀(X:Cx),X.prog=P->X.w=w->X.K=K->X.calm=true->∀(i:Nat) (pins:List (Addr×Obj)) (s:Shared) (σ : St) (H:Hp) (E:Value->Shared->Prop),Inv X pins σ H s->(∀b∈fp,FpOk X pins H b)->tn i s.heap->J.go i H->
  wpAny (model P w) X.A (pyNext (.ref it)) (fun r s1=>∃u,r=some u/\
   wpAny (model P w) X.A (letOwnedTupleGo tg (.ref it) u) (fun _ s2=>∃x H',Inv X pins σ H' s2/\RelV x u/\J.yld i H x H'/\tn (i+1) s2.heap/\∀b∈fp,H' b=none) E s1) E s
 done:∀(X:Cx),X.prog=P->X.w=w->X.K=K->X.calm=true->∀(i:Nat) (pins:List (Addr×Obj)) (s:Shared) (σ : St) (H:Hp) (E:Value->Shared->Prop),Inv X pins σ H s->(∀b∈fp,FpOk X pins H b)->tn i s.heap->J.stop i H->
  wpAny (model P w) X.A (pyNext (.ref it)) (fun r s1=>r=none/\Inv X pins σ H s1) E s
 self:∀(A:Around) (i:Nat) (s:Shared) (Q:Value->Shared->Prop) (E:Value->Shared->Prop),tn i s.heap->Q (.ref it) s->wpAny (model P w) A (pyIter (.ref it)) Q E s
abbrev TI:=St->Hp->(It->Hp->Prop)->Prop
def PIE(X:Cx)(pins:List (Addr×Obj))(σ : St)(tg:Expr)(R:It->Hp->Prop)(itv:Value)(s2:Shared):Prop:=
 ∃(it:Addr) (fp:List Addr) (tn:Nat->Heap->Prop) (J:It) (H':Hp),itv=.ref it/\Inv X pins σ H' s2/\Turn X.prog X.w X.K tg J fp it tn/\tn 0 s2.heap/\(∀b∈fp,FpOk X pins H' b)/\R J H'
abbrev PIv(X:Cx)(tg iter:Expr)(wi:TI):Prop:=
 ∀(pins:List (Addr×Obj)) (s:Shared) (σ : St) (H:Hp) (R:It->Hp->Prop),Inv X pins σ H s->wi σ H R->
  wpAny (model X.prog X.w) X.A (eval iter X.env) (fun v s1=>wpAny (model X.prog X.w) X.A (pyIter v) (PIE X pins σ tg R) X.xe s1) X.xe s
structure PI(X:Cx)(tg iter:Expr)(wi:TI):Prop where
 run:PIv X tg iter wi
instance{X:Cx}{tg iter:Expr}{wi:TI}:CoeFun (PI X tg iter wi) (fun _=>PIv X tg iter wi):=⟨PI.run⟩
theorem q1k{M:Model}{A:Around}{E:Value->Shared->Prop}{s:Shared}{tg:Expr}{it:Addr}{u:Value}{o:Obj}{n:String}{vs:Array Value}{Q:Unit->Shared->Prop}(ho:s.heap.get? it=some o)(hc:o.cls=.type n)(hd:o.data=.fields vs)
    (hn:["enumerate","zip","dict_itemiterator","dict_reverseitemiterator","odict_iterator","itertools.zip_longest","itertools.pairwise"].contains n=false) (hQ:Q () s):wpAny M A (letOwnedTupleGo tg (.ref it) u) Q E s:=by
  unfold letOwnedTupleGo
  cases tg<;>first
    | exact wpAny_pure hQ
    | (cases u<;>first
        | exact wpAny_pure hQ
        | (refine wpAny_bind (wpAny_load ho ?_)
           rw [hc,hd]
           show wpAny M A (if(["enumerate","zip","dict_itemiterator","dict_reverseitemiterator","odict_iterator","itertools.zip_longest","itertools.pairwise"].contains n && vs[0]? == some (rawInt _))=true then _ else _) Q E s
           rw [if_neg (by intro h; rw [hn,Bool.false_and] at h; cases h)]
           exact wpAny_pure hQ))
def Itl(K:PySem.W.Frag)(a:Addr):It:=
 ⟨fun i H=>∃xs x,SqL K H a xs/\xs[i]?=some x,fun i H x H'=>H'=H/\∀xs,SqL K H a xs->xs[i]?=some x,fun i H=>∃xs,SqL K H a xs/\xs.length<=i⟩
def Itt(K:PySem.W.Frag)(a:Addr):It:=
 ⟨fun i H=>∃xs x,SqT K H a xs/\xs[i]?=some x,fun i H x H'=>H'=H/\∀xs,SqT K H a xs->xs[i]?=some x,fun i H=>∃xs,SqT K H a xs/\xs.length<=i⟩
def Itr(lo:Int)(n:Nat):It:=⟨fun i _=>i < n,fun i H x H'=>H'=H/\x=.int (lo+i),fun i _=>n<=i⟩
theorem ztg{P:Program}{w:World}{K:PySem.W.Frag}{tg:Expr}(a it:Addr):Turn P w K tg (Itl K a) [it] it (fun i h=>h.IsListIter it a i) where
 mem:=by simp
 obj:=fun i h st b hb=>by
  have e:b=it:=by simpa using hb
  subst e
  obtain⟨o,e,c,d⟩:=st
  exact⟨o,e,fun v z=>by rw [d] at z; cases z⟩
 keep:=fun i h h' st k=>st.at fun o e=>k it (by simp) o e
 item:=by
  intro X hP hw hK hc i pins s σ H E I hf st hg
  subst hP hw hK
  obtain⟨xs,x,hq,hx⟩:=hg
  obtain⟨its,rv,p,hz⟩:=I.list hq
  obtain⟨u,hu,ru⟩:=rv.get hx
  obtain⟨f0,f1,f2,f3,f4,f5⟩:=hf it (by simp)
  refine wpAny_pyNext_list_item st p.isList (x:=u) (by simpa using hu) fun h' st' sb=>?_
  have I1:Inv X pins σ H {s with heap:=h'}:=I.turned (t':=s.toks) (fun b o hb e=>(sb.2 b hb).trans e) f0 f1 f3 f4 f5
  obtain⟨o,e,c,d⟩:=id st'
  exact⟨u,rfl,q1k (s:={s with heap:=h'}) e c d (by decide) ⟨x,H,I1,ru,⟨rfl,fun ys hy=>by rw [I.list_inj hy hq]; exact hx⟩,st',fun b hb=>(hf b hb).1⟩⟩
 done:=by
  intro X hP hw hK hc i pins s σ H E I hf st hg
  subst hP hw hK
  obtain⟨xs,hq,hx⟩:=hg
  obtain⟨its,rv,p,hz⟩:=I.list hq
  obtain⟨f0,f1,f2,f3,f4,f5⟩:=hf it (by simp)
  have hl:=rv.length
  exact wpAny_pyNext_list_end (I.ok.hd hc) st p.isList (by simp; omega) fun h' eb=>⟨rfl,I.turned (t':=s.toks) (fun b o hb e=>eb b o hb e) f0 f1 f3 f4 f5⟩
 self:=fun _ _ _ _ _ st h=>wpAny_pyIter_listiter st h
theorem zr3{P:Program}{w:World}{K:PySem.W.Frag}{tg:Expr}(a it:Addr):Turn P w K tg (Itt K a) [it] it (fun i h=>h.IsTupleIter it a i) where
 mem:=by simp
 obj:=fun i h st b hb=>by
  have e:b=it:=by simpa using hb
  subst e
  obtain⟨o,e,c,d⟩:=st
  exact⟨o,e,fun v z=>by rw [d] at z; cases z⟩
 keep:=fun i h h' st k=>st.at fun o e=>k it (by simp) o e
 item:=by
  intro X hP hw hK hc i pins s σ H E I hf st hg
  subst hP hw hK
  obtain⟨xs,x,hq,hx⟩:=hg
  obtain⟨its,rv,p,hz⟩:=I.tuple hq
  obtain⟨u,hu,ru⟩:=rv.get hx
  obtain⟨f0,f1,f2,f3,f4,f5⟩:=hf it (by simp)
  refine wpAny_pyNext_tuple_item st (show s.heap.IsTuple a its.toArray from p) (x:=u) (by simpa using hu) fun h' st' sb=>?_
  have I1:Inv X pins σ H {s with heap:=h'}:=I.turned (t':=s.toks) (fun b o hb e=>(sb.2 b hb).trans e) f0 f1 f3 f4 f5
  obtain⟨o,e,c,d⟩:=id st'
  exact⟨u,rfl,q1k (s:={s with heap:=h'}) e c d (by decide) ⟨x,H,I1,ru,⟨rfl,fun ys hy=>by rw [I.tuple_inj hy hq]; exact hx⟩,st',fun b hb=>(hf b hb).1⟩⟩
 done:=by
  intro X hP hw hK hc i pins s σ H E I hf st hg
  subst hP hw hK
  obtain⟨xs,hq,hx⟩:=hg
  obtain⟨its,rv,p,hz⟩:=I.tuple hq
  obtain⟨f0,f1,f2,f3,f4,f5⟩:=hf it (by simp)
  have hl:=rv.length
  exact wpAny_pyNext_tuple_end (I.ok.hd hc) st (show s.heap.IsTuple a its.toArray from p) (by simp; omega) fun h' eb=>⟨rfl,I.turned (t':=s.toks) (fun b o hb e=>eb b o hb e) f0 f1 f3 f4 f5⟩
 self:=fun _ _ _ _ _ st h=>wpAny_pyIter_tupleiter st h
theorem zr4{P:Program}{w:World}{K:PySem.W.Frag}{tg:Expr}(it:Addr)(lo:Int)(n:Nat):Turn P w K tg (Itr lo n) [it] it (fun i h=>IsRangeIter h it (lo+(i:Nat) * 1) ((n:Int) - (i:Nat)) 1) where
 mem:=by simp
 obj:=fun i h st b hb=>by
  have e:b=it:=by simpa using hb
  subst e
  exact⟨_,st,fun v z=>by
   have z':Data.fields _=Data.cell v:=z
   cases z'⟩
 keep:=fun i h h' st k=>k it (by simp) _ st
 item:=by
  intro X hP hw hK hc i pins s σ H E I hf st hg
  subst hP hw hK
  obtain⟨f0,f1,f2,f3,f4,f5⟩:=hf it (by simp)
  have W:=Walks.range (prog:=X.prog) (w:=X.w) (I.ok.hd hc) it lo 1 n
  refine W.item i s _ _ hg st fun v h' tk hv st' kk=>?_
  obtain⟨t,rfl⟩:=hv
  have I1:Inv X pins σ H {s with heap:=h',toks:=tk}:=I.turned (fun b o hb e=>kk b o (by simpa using hb) e) f0 f1 f3 f4 f5
  refine⟨_,rfl,q1k (s:={s with heap:=h',toks:=tk}) (n:="range_iterator") st' rfl rfl (by decide) ⟨.int (lo+i),H,I1,⟨t,?_⟩,⟨rfl,rfl⟩,st',fun b hb=>(hf b hb).1⟩⟩
  rw [Int.mul_one]
 done:=by
  intro X hP hw hK hc i pins s σ H E I hf st hg
  subst hP hw hK
  obtain⟨f0,f1,f2,f3,f4,f5⟩:=hf it (by simp)
  exact wpAny_pyNext_range_end (I.ok.hd hc) st (by have:n<=i:=hg; omega) fun h' eb=>⟨rfl,I.turned (t':=s.toks) (fun b o hb e=>eb b o hb e) f0 f1 f3 f4 f5⟩
 self:=fun _ _ _ _ _ st h=>wpAny_pyIter_rangeiter st h
end L2
namespace L2
open PySem PySem.Spec PyProof.Rows
section
variable{X:Cx}{tg:Expr}
def q1j(K:PySem.W.Frag)(tl:TE):TI:=fun σ H R=>tl σ H fun x H1=>isRf x fun a=>(∃xs,SqL K H1 a xs)/\R (Itl K a) H1
def q5w(K:PySem.W.Frag)(tl:TE):TI:=fun σ H R=>tl σ H fun x H1=>isRf x fun a=>(∃xs,SqT K H1 a xs)/\R (Itt K a) H1
theorem z6s{l:Expr}{tl:TE}(hl:PE X l tl):PI X tg l (q1j X.K tl):=by
 refine⟨?_⟩
 intro pins s σ H R I h
 refine thn (hl pins s σ H _ I h) fun v s1 ⟨x,H1,I1,r1,q1⟩=>?_
 obtain⟨a,e,⟨xs,hq⟩,q⟩:=isRf.o q1
 subst e
 cases r1
 obtain⟨its,rv,p,hz⟩:=I1.list hq
 refine wpAny_pyIter_list p.isList ?_
 refine⟨s1.heap.objs.size,[s1.heap.objs.size],_,_,H1,rfl,I1.kept (t':=s1.toks) fun b o e=>Heap.get?_push_of_some _ e,ztg a _,⟨_,Heap.get?_push_size _ rfl,rfl,rfl⟩,fun b hb=>?_,q⟩
 have e:b=s1.heap.objs.size:=by simpa using hb
 subst e
 exact I1.fpOk (Nat.le_refl _) (I1.hok.fresh (Nat.le_refl _))
theorem q39{l:Expr}{tl:TE}(hl:PE X l tl):PI X tg l (q5w X.K tl):=by
 refine⟨?_⟩
 intro pins s σ H R I h
 refine thn (hl pins s σ H _ I h) fun v s1 ⟨x,H1,I1,r1,q1⟩=>?_
 obtain⟨a,e,⟨xs,hq⟩,q⟩:=isRf.o q1
 subst e
 cases r1
 obtain⟨its,rv,p,hz⟩:=I1.tuple hq
 refine wpAny_pyIter_tuple (show s1.heap.IsTuple a its.toArray from p) ?_
 refine⟨s1.heap.objs.size,[s1.heap.objs.size],_,_,H1,rfl,I1.kept (t':=s1.toks) fun b o e=>Heap.get?_push_of_some _ e,zr3 a _,⟨_,Heap.get?_push_size _ rfl,rfl,rfl⟩,fun b hb=>?_,q⟩
 have e:b=s1.heap.objs.size:=by simpa using hb
 subst e
 exact I1.fpOk (Nat.le_refl _) (I1.hok.fresh (Nat.le_refl _))
theorem zxw{pins:List (Addr×Obj)}{σ : St}{H:Hp}{s:Shared}{R:It->Hp->Prop}{E:Value->Shared->Prop}{lo hi:Int}{t u v:Tok}{tk:Nat}(I:Inv X pins σ H s)(h1 : -(2 ^ 62)<=lo)(h2:lo < 2 ^ 62)(h3 : -(2 ^ 62)<=hi)(h4:hi < 2 ^ 62)
  (q:R (Itr lo (hi - lo).toNat) H):wpAny (model X.prog X.w) X.A (pyIter (.ref s.heap.objs.size)) (PIE X pins σ tg R) E {s with heap:=s.heap.push {cls:=.type "range",data:=.fields #[.int lo t,.int hi u,.int 1 v]},toks:=tk}:=by
 refine wpAny_pyIter_range (IsRange.new ..) (small_one h1 h2 h3 h4) ?_
 have I1:Inv X pins σ H {s with heap:=s.heap.push {cls:=.type "range",data:=.fields #[.int lo t,.int hi u,.int 1 v]},toks:=tk}:=I.kept fun b o e=>Heap.get?_push_of_some _ e
 refine⟨(s.heap.push {cls:=.type "range",data:=.fields #[.int lo t,.int hi u,.int 1 v]}).objs.size,[(s.heap.push {cls:=.type "range",data:=.fields #[.int lo t,.int hi u,.int 1 v]}).objs.size],_,_,H,rfl,
  I1.kept (t':=tk) fun b o e=>Heap.get?_push_of_some _ e,zr4 _ lo (hi - lo).toNat,?_,fun b hb=>?_,q⟩
 ·have e1:lo+((0:Nat):Int) * 1=lo:=by simp
  have e2:(((hi - lo).toNat:Nat):Int) - ((0:Nat):Int)=Builtin.Range.rangeSize lo hi 1:=by rw [rangeSize_one]; split<;>omega
  show IsRangeIter _ _ (lo+((0:Nat):Int) * 1) ((((hi - lo).toNat:Nat):Int) - ((0:Nat):Int)) 1
  rw [e1,e2]
  exact Heap.get?_push_size _ rfl
 ·have e:b=(s.heap.push {cls:=.type "range",data:=.fields #[.int lo t,.int hi u,.int 1 v]}).objs.size:=by simpa using hb
  subst e
  exact I1.fpOk (Nat.le_refl _) (I1.hok.fresh (Nat.le_refl _))
def q4a(ta:TA):TI:=fun σ H R=>ta σ H fun vs H1=>∃j:Int,vs=[.int j]/\-(2 ^ 62)<=j/\j < 2 ^ 62/\R (Itr 0 j.toNat) H1
def q49(ta:TA):TI:=fun σ H R=>ta σ H fun vs H1=>∃i j:Int,vs=[.int i,.int j]/\(-(2 ^ 62)<=i/\i < 2 ^ 62/\-(2 ^ 62)<=j/\j < 2 ^ 62)/\R (Itr i (j - i).toNat) H1
theorem zly{a:Expr}{ta:TA}{p pos:Pos} (hg:Gl X "range") (hm:X.mg "range" = none) (ha:PA X [a] ta) (hs:starEach [a] X.env=[(false,eval a X.env)]:=by rfl):PI X tg (.Call (.Name "range" p) [a] [] pos) (q4a ta):=by
 refine⟨?_⟩
 intro pins s σ H R I h
 refine Call_ (zje I hg hm boot_range (PyProof.Rows.callWith_type1 (thn (ha pos pins s σ H _ I h) fun us s1 ⟨vs,H1,I1,r1,q1⟩=>?_) hs rfl))
 obtain⟨j,e,q1,q2,q⟩:=q1
 subst e
 cases r1 with
 | cons r rr=>
  cases rr
  obtain⟨t,rfl⟩:=r
  exact call_range_1 (zxw I1 (by omega) (by omega) q1 q2 (by simpa using q))
def zxl(wi:TI)(g:TG)(tb:TS):TS:=fun D σ H=>wi σ H fun J H1=>∃W:Nat->Nat->St->Hp->Prop,(∃m,W 0 m σ H1)/\∀i m σ H,W i m σ H->
 (J.stop i H/\D.nx σ H)\/(J.go i H/\∃N:St->Hp->Prop,(∀ σ' H',N σ' H'->∃m',m' < m/\W (i+1) m' σ' H')/\∀x H',J.yld i H x H'->g x σ H' fun σ2 H2=>tb {D with nx:=N,ct:=N,bk:=D.nx} σ2 H2)
def zlx(fp:List Addr)(h:Heap):List (Addr×Obj):=fp.filterMap fun b=>(h.get? b).map fun o=>(b,o)
theorem zbt{fp:List Addr}{h:Heap}{b:Addr}{o:Obj}(hb:b∈fp)(e:h.get? b=some o):(b,o)∈zlx fp h:=List.mem_filterMap.mpr ⟨b,hb,by rw [e]; rfl⟩
theorem zv0{fp:List Addr}{h:Heap}{p:Addr×Obj}(hp:p∈zlx fp h):p.1∈fp/\h.get? p.1=some p.2:=by
 obtain⟨b,hb,e⟩:=List.mem_filterMap.mp hp
 cases q:h.get? b with
 | none=>rw [q] at e; cases e
 | some o=>
  rw [q] at e
  have e':(b,o)=p:=Option.some.inj e
  subst e'
  exact⟨hb,q⟩
theorem Inv.pinned{pins:List (Addr×Obj)}{σ : St}{H:Hp}{s:Shared}{fp:List Addr}(I:Inv X pins σ H s)(hf:∀b∈fp,FpOk X pins H b)(ho:∀b∈fp,∃o,s.heap.get? b=some o/\∀v,o.data≠.cell v):Inv X (pins++zlx fp s.heap) σ H s:=
 I.pins_of fun p hp=>(List.mem_append.mp hp).elim (fun z=>I.pin p (List.mem_append_right _ z)) fun z=>by
  obtain⟨hb,e⟩:=zv0 z
  obtain⟨f0,f1,f2,_⟩:=hf p.1 hb
  obtain⟨o,e',d⟩:=ho p.1 hb
  rw [e] at e'; cases e'
  exact⟨e,f0,f1,f2,d⟩
theorem Inv.unpinned{pins pl:List (Addr×Obj)}{σ : St}{H:Hp}{s:Shared}(I:Inv X (pins++pl) σ H s):Inv X pins σ H s:=I.pins_of fun p hp=>I.pin p (List.mem_append_right _ (List.mem_append_left _ hp))
theorem zdo{iter:Expr}{body:List Stmt}{wi:TI}{g:TG}{tb:TS}{pos:Pos}(hp:PassesOwn (model X.prog X.w) X.A X.env X.xe)(hc:X.calm=true)(hi:PI X tg iter wi)(hg:PG X tg g)(hb:PSs X body tb)
  (hs:∀x,foldedSetIterable iter X.env x=pure x:=by intro _; rfl):PS X (.For tg iter body [] pos) (zxl wi g tb):=by
 refine⟨?_⟩
 intro pins s σ H D I h
 refine wpAny_For (thn (hi pins s σ H _ I h) fun v s1 h1=>thn h1 fun itv s2 h2=>?_) hs
 obtain⟨it,fp,tn,J,H2,e,I2,T,st2,f2,W,⟨m0,w0⟩,turn⟩:=h2
 subst e
 have stat:∀{H':Hp},(∀b∈fp,H' b=none)->∀b∈fp,FpOk X pins H' b:=fun hn b hb=>⟨hn b hb,(f2 b hb).2⟩
 refine codeAny_forLoop_any (fun n s'=>∃i σ' H',Inv X pins σ' H' s'/\tn i s'.heap/\(∀b∈fp,H' b=none)/\W i n σ' H') ?_ m0 ⟨0,σ,H2,I2,st2,fun b hb=>(f2 b hb).1,w0⟩
 rintro n s3 ⟨i,σ3,H3,I3,st3,fr3,w3⟩
 rcases turn i n σ3 H3 w3 with⟨stop,qn⟩ | ⟨go,N,hN,step⟩
 ·refine wpAny_passesOwn hp (thn (T.done X rfl rfl rfl hc i pins s3 σ3 H3 X.xe I3 (stat fr3) st3 stop) fun r s4 ⟨hr,I4⟩=>?_)
  subst hr
  exact wpAny_execs_nil ⟨σ3,H3,I4,qn⟩
 ·refine wpAny_passesOwn hp (thn (T.item X rfl rfl rfl hc i pins s3 σ3 H3 X.xe I3 (stat fr3) st3 go) fun r s4 ⟨u,hr,h4⟩=>?_)
  subst hr
  refine wpAny_passesOwn hp (thn h4 fun _ s5 ⟨x,H5,I5,r5,y5,st5,fr5⟩=>?_)
  have I5':=I5.pinned (stat fr5) (T.obj _ _ st5)
  refine wpAny_passesOwn hp (thn (hg _ s5 σ3 H5 x u _ I5' r5 (step x H5 y5)) fun _ s6 ⟨σ6,H6,I6,q6⟩=>?_)
  refine wpAny_passesOwn hp (thn (hb _ s6 σ6 H6 _ I6 q6) fun f s7 q7=>?_)
  have again:∀{σ7:St} {H7:Hp},Inv X (pins++zlx fp s5.heap) σ7 H7 s7->N σ7 H7->∃m,m < n/\∃i σ' H',Inv X pins σ' H' s7/\tn i s7.heap/\(∀b∈fp,H' b=none)/\W i m σ' H':=fun {σ7 H7} I7 n7=>by
   obtain⟨m',hm,w7⟩:=hN σ7 H7 n7
   refine⟨m',hm,i+1,σ7,H7,I7.unpinned,T.keep _ _ _ st5 fun b hb o e=>(I7.pin (b,o) (List.mem_append_right _ (List.mem_append_right _ (zbt hb e)))).1,fun b hb=>?_,w7⟩
   obtain⟨o,e,d⟩:=T.obj _ _ st5 b hb
   exact(I7.pin (b,o) (List.mem_append_right _ (List.mem_append_right _ (zbt hb e)))).2.1
  cases f with
  | next=>obtain⟨σ7,H7,I7,n7⟩:=q7; exact again I7 n7
  | cont=>obtain⟨σ7,H7,I7,n7⟩:=q7; exact again I7 n7
  | brk=>obtain⟨σ7,H7,I7,q7⟩:=q7; exact⟨σ7,H7,I7.unpinned,q7⟩
  | ret v=>obtain⟨x7,σ7,H7,I7,r7,q7⟩:=q7; exact⟨x7,σ7,H7,I7.unpinned,r7,q7⟩
end
theorem zh1{K:PySem.W.Frag}{a:Addr}{xs:List V}{g:TG}{tb:TS}{D:Ends}{σ : St}{H:Hp}(Pv:Nat->St->Hp->Prop)(h0:Pv 0 σ H)(hl:∀i σ H,i<=xs.length->Pv i σ H->SqL K H a xs)
  (hs:∀i x σ H,xs[i]?=some x->Pv i σ H->g x σ H fun σ2 H2=>tb {D with nx:=Pv (i+1),ct:=Pv (i+1),bk:=D.nx} σ2 H2) (hd:∀ σ H,Pv xs.length σ H->D.nx σ H) :
  ∃W:Nat->Nat->St->Hp->Prop,(∃m,W 0 m σ H)/\∀i m σ H,W i m σ H->
   ((Itl K a).stop i H/\D.nx σ H)\/((Itl K a).go i H/\∃N:St->Hp->Prop,(∀ σ' H',N σ' H'->∃m',m' < m/\W (i+1) m' σ' H')/\∀x H',(Itl K a).yld i H x H'->g x σ H' fun σ2 H2=>tb {D with nx:=N,ct:=N,bk:=D.nx} σ2 H2):=by
 refine⟨fun i m σ H=>m=xs.length - i/\i<=xs.length/\Pv i σ H,⟨xs.length,by simp,Nat.zero_le _,h0⟩,?_⟩
 rintro i m σ H ⟨rfl,hi,p⟩
 have q:=hl i σ H hi p
 by_cases hlt:i < xs.length
 ·refine .inr ⟨⟨xs,xs[i],q,by simp[hlt]⟩,Pv (i+1),fun σ' H' p'=>⟨xs.length - (i+1),by omega,rfl,hlt,p'⟩,fun x H' y=>?_⟩
  obtain⟨e,y⟩:=y
  subst e
  exact hs i x σ _ (y xs q) p
 ·have e:i=xs.length:=by omega
  subst e
  exact .inl ⟨⟨xs,q,Nat.le_refl _⟩,hd σ H p⟩
theorem zmn{lo:Int}{n:Nat}{g:TG}{tb:TS}{D:Ends}{σ : St}{H:Hp}(Pv:Nat->St->Hp->Prop)(h0:Pv 0 σ H)
  (hs:∀i σ H,i < n->Pv i σ H->g (.int (lo+i)) σ H fun σ2 H2=>tb {D with nx:=Pv (i+1),ct:=Pv (i+1),bk:=D.nx} σ2 H2) (hd:∀ σ H,Pv n σ H->D.nx σ H) :
  ∃W:Nat->Nat->St->Hp->Prop,(∃m,W 0 m σ H)/\∀i m σ H,W i m σ H->
   ((Itr lo n).stop i H/\D.nx σ H)\/((Itr lo n).go i H/\∃N:St->Hp->Prop,(∀ σ' H',N σ' H'->∃m',m' < m/\W (i+1) m' σ' H')/\∀x H',(Itr lo n).yld i H x H'->g x σ H' fun σ2 H2=>tb {D with nx:=N,ct:=N,bk:=D.nx} σ2 H2):=by
 refine⟨fun i m σ H=>m=n - i/\i<=n/\Pv i σ H,⟨n,by simp,Nat.zero_le _,h0⟩,?_⟩
 rintro i m σ H ⟨rfl,hi,p⟩
 by_cases hlt:i < n
 ·refine .inr ⟨hlt,Pv (i+1),fun σ' H' p'=>⟨n - (i+1),by omega,rfl,hlt,p'⟩,fun x H' y=>?_⟩
  obtain⟨e,y⟩:=y
  subst e y
  exact hs i σ _ hlt p
 ·have e:i=n:=by omega
  subst e
  exact .inl ⟨Nat.le_refl _,hd σ H p⟩
end L2
namespace L2
open PySem PySem.Spec PyProof.Rows
abbrev R2:=V->V->Hp->VK->Prop
def OpR(X:Cx)(f:Value->Value->Sem Value)(r:R2):Prop:=
 ∀(pins:List (Addr×Obj)) (s:Shared) (σ : St) (H:Hp) (x y:V) (v u:Value) (Q:VK),Inv X pins σ H s->RelV x v->RelV y u->r x y H Q->
  wpAny (model X.prog X.w) X.A (f v u) (EP X pins σ Q) X.xe s
def UnR(X:Cx)(f:Value->Sem Value)(r:V->Hp->VK->Prop):Prop:=
 ∀(pins:List (Addr×Obj)) (s:Shared) (σ : St) (H:Hp) (x:V) (v:Value) (Q:VK),Inv X pins σ H s->RelV x v->r x H Q->
  wpAny (model X.prog X.w) X.A (f v) (EP X pins σ Q) X.xe s
def CallR(X:Cx)(f:Value)(r:List V->Hp->VK->Prop):Prop:=
 ∀(pins:List (Addr×Obj)) (s:Shared) (σ : St) (H:Hp) (xs:List V) (us:List Value) (Q:VK),Inv X pins σ H s->Vals xs us->r xs H Q->
  wpAny (model X.prog X.w) X.A (call f us) (EP X pins σ Q) X.xe s
def tOp(r:R2)(ta tb:TE):TE:=fun σ H Q=>ta σ H fun x H1=>tb σ H1 fun y H2=>r x y H2 Q
def tUn(r:V->Hp->VK->Prop)(ta:TE):TE:=fun σ H Q=>ta σ H fun x H1=>r x H1 Q
def rI(C:Int->Int->Prop)(g:Int->Int->V):R2:=fun x y H Q=>isI x fun i=>isI y fun j=>C i j/\Q (g i j) H
def rI0(g:Int->Int->V):R2:=fun x y H Q=>isI x fun i=>isI y fun j=>Q (g i j) H
def rU(g:Int->V):V->Hp->VK->Prop:=fun x H Q=>isI x fun i=>Q (g i) H
section
variable{X:Cx}{a b c:Expr}{ta tb tc:TE}{pos:Pos}
theorem q5z(ha:PE X a ta)(hb:PE X b tb){pins:List (Addr×Obj)}{s:Shared}{σ : St}{H:Hp}{R:V->V->Hp->Prop}(I:Inv X pins σ H s)
  (h:ta σ H fun x H1=>tb σ H1 fun y H2=>R x y H2) {Q:Value->Shared->Prop} {f:Value->Value->Sem Value}
  (hf:∀v u s2 x y H2,Inv X pins σ H2 s2->RelV x v->RelV y u->R x y H2->wpAny (model X.prog X.w) X.A (f v u) Q X.xe s2) :
  wpAny (model X.prog X.w) X.A (eval a X.env) (fun v s₁=>wpAny (model X.prog X.w) X.A (eval b X.env) (fun u s₂=>wpAny (model X.prog X.w) X.A (f v u) Q X.xe s₂) X.xe s₁) X.xe s:=by
 refine thn (ha pins s σ H _ I h) fun v s1 ⟨x,H1,I1,r1,q1⟩=>?_
 refine thn (hb pins s1 σ H1 _ I1 q1) fun u s2 ⟨y,H2,I2,r2,q2⟩=>?_
 exact hf v u s2 x y H2 I2 r1 r2 q2
theorem z0r{op:Operator}{r:R2}(ho:OpR X (binaryOp op) r)(ha:PE X a ta)(hb:PE X b tb):PE X (.BinOp a op b pos) (tOp r ta tb):=by
 refine⟨?_⟩
 intro pins s σ H Q I h
 exact wpAny_BinOp (q5z ha hb I h fun v u s2 x y H2 I2 rx ry q=>ho pins s2 σ H2 x y v u Q I2 rx ry q)
theorem zum{op:UnaryOp}{r:V->Hp->VK->Prop}(ho:UnR X (unaryOp op) r)(ha:PE X a ta):PE X (.UnaryOp op a pos) (tUn r ta):=by
 refine⟨?_⟩
 intro pins s σ H Q I h
 exact UnaryOp_ (thn (ha pins s σ H _ I h) fun v s1 ⟨x,H1,I1,r1,q1⟩=>ho pins s1 σ H1 x v Q I1 r1 q1)
theorem opI{f:Value->Value->Sem Value}{C:Int->Int->Prop}{g:Int->Int->Int}
  (rule:∀(i j:Int) (t u:Tok) (s:Shared) (Q:Value->Shared->Prop) (E:Value->Shared->Prop),C i j->Q (.int (g i j) s.toks) {s with toks:=s.toks+1}->wpAny (model X.prog X.w) X.A (f (.int i t) (.int j u)) Q E s) :
  OpR X f (rI C fun i j=>.int (g i j)):=by
 intro pins s σ H x y v u Q I rx ry h
 obtain⟨i,rfl,hA⟩:=isI.o h
 obtain⟨j,rfl,hc,q⟩:=isI.o hA
 obtain⟨t,rfl⟩:=rx
 obtain⟨t',rfl⟩:=ry
 exact rule i j t t' s _ _ hc ⟨.int (g i j),H,I.tok _,⟨_,rfl⟩,q⟩
theorem q6i{f:Value->Value->Sem Value}{g:Int->Int->Int}
  (rule:∀(i j:Int) (t u:Tok) (s:Shared) (Q:Value->Shared->Prop) (E:Value->Shared->Prop),Q (.int (g i j) s.toks) {s with toks:=s.toks+1}->wpAny (model X.prog X.w) X.A (f (.int i t) (.int j u)) Q E s) :
  OpR X f (rI0 fun i j=>.int (g i j)):=by
 intro pins s σ H x y v u Q I rx ry h
 obtain⟨i,rfl,hA⟩:=isI.o h
 obtain⟨j,rfl,q⟩:=isI.o hA
 obtain⟨t,rfl⟩:=rx
 obtain⟨t',rfl⟩:=ry
 exact rule i j t t' s _ _ ⟨.int (g i j),H,I.tok _,⟨_,rfl⟩,q⟩
theorem q5g{f:Value->Value->Sem Value}{g:Int->Int->Bool}
  (rule:∀(i j:Int) (t u:Tok) (s:Shared) (Q:Value->Shared->Prop) (E:Value->Shared->Prop),Q (.bool (g i j)) s->wpAny (model X.prog X.w) X.A (f (.int i t) (.int j u)) Q E s) :
  OpR X f (rI0 fun i j=>.bl (g i j)):=by
 intro pins s σ H x y v u Q I rx ry h
 obtain⟨i,rfl,hA⟩:=isI.o h
 obtain⟨j,rfl,q⟩:=isI.o hA
 obtain⟨t,rfl⟩:=rx
 obtain⟨t',rfl⟩:=ry
 exact rule i j t t' s _ _ ⟨.bl (g i j),H,I,rfl,q⟩
def q7m(i j:Int):Prop:=0 < j/\j < 1073741824
def q66(i j:Int):Prop:=j≠0/\j.natAbs < 1073741824
def CMul(i j:Int):Prop:=(-(2 ^ 64) < i/\i < 2 ^ 64)\/(-(2 ^ 64) < j/\j < 2 ^ 64)
theorem CMul.ok{i j:Int}(h:CMul i j):IntMulOk i j:=by
 rcases h with⟨h1,h2⟩ | ⟨h1,h2⟩
 ·exact .of_left (intBits_le_64 h1 h2)
 ·exact .of_right (intBits_le_64 h1 h2)
theorem z1l:OpR X (binaryOp .Add) (rI0 fun i j=>.int (i+j)):=q6i fun _ _ _ _ _ _ _ q=>add_int q
theorem zck:OpR X (binaryOp .Sub) (rI0 fun i j=>.int (i - j)):=q6i fun _ _ _ _ _ _ _ q=>sub_int q
theorem zar:OpR X (binaryOp .Mult) (rI CMul fun i j=>.int (i * j)):=opI fun _ _ _ _ _ _ _ hc q=>mul_int q hc.ok
theorem q11:OpR X (binaryOp .FloorDiv) (rI q7m fun i j=>.int (i / j)):=opI fun i j _ _ _ _ _ hc q=>by
 have h1:(0:Int) < j:=hc.1
 have h2:j < 1073741824:=hc.2
 exact floordiv_int (by omega) (by rw [Int.fdiv_eq_ediv_of_nonneg i (by omega)]; exact q) (.inl (PyProof.noPylong_small (by omega)))
theorem zy7:OpR X (binaryOp .FloorDiv) (rI q66 fun i j=>.int (i.fdiv j)):=opI fun _ _ _ _ _ _ _ hc q=>floordiv_int hc.1 q (.inl (PyProof.noPylong_small hc.2))
theorem zm6:OpR X (binaryOp .Mod) (rI (fun _ j=>0 < j) fun i j=>.int (i % j)):=opI fun i j _ _ _ _ _ hc q=>by
 have h1:(0:Int) < j:=hc
 exact mod_int' (by omega) (by rw [Int.fmod_eq_emod_of_nonneg i (by omega)]; exact q)
theorem unI{f:Value->Sem Value}{g:Int->Int}
  (rule:∀(i:Int) (t:Tok) (s:Shared) (Q:Value->Shared->Prop) (E:Value->Shared->Prop),Q (.int (g i) s.toks) {s with toks:=s.toks+1}->wpAny (model X.prog X.w) X.A (f (.int i t)) Q E s) :
  UnR X f (rU fun i=>.int (g i)):=by
 intro pins s σ H x v Q I rx h
 obtain⟨i,rfl,q⟩:=isI.o h
 obtain⟨t,rfl⟩:=rx
 exact rule i t s _ _ ⟨.int (g i),H,I.tok _,⟨_,rfl⟩,q⟩
theorem zl5:UnR X (unaryOp .USub) (rU fun i=>.int (-i)):=unI fun _ _ _ _ _ q=>neg_int q
end
def q5d:V->V->Bool
 | .non,.non=>true | .non,.int _=>true | .int _,.non=>true | .non,.bl _=>true | .bl _,.non=>true | .non,.str _=>true | .str _,.non=>true
 | .int _,.int _=>true | .bl _,.bl _=>true | .str _,.str _=>true | .byt _,.byt _=>true
 | .int _,.str _=>true | .str _,.int _=>true | .bl _,.str _=>true | .str _,.bl _=>true
 | _,_=>false
def rEq:R2:=fun x y H Q=>q5d x y=true/\Q (.bl (decide (x=y))) H
def rNe:R2:=fun x y H Q=>q5d x y=true/\Q (.bl (!decide (x=y))) H
theorem zw8{i j:Int}:decide (V.int i=V.int j)=(i == j):=by
 rw [Bool.eq_iff_iff]
 simp
theorem q00{i j:Bool}:decide (V.bl i=V.bl j)=(i == j):=by
 rw [Bool.eq_iff_iff]
 simp
theorem zw7{i j:Str}:decide (V.str i=V.str j)=(i == j):=by
 rw [Bool.eq_iff_iff]
 simp
theorem zw9{i j:Array UInt8}:decide (V.byt i=V.byt j)=(i.toList == j.toList):=by
 rw [Bool.eq_iff_iff]
 cases i
 cases j
 simp
section
variable{X:Cx}{a b c:Expr}{ta tb tc:TE}{pos:Pos}
theorem z28{pins:List (Addr×Obj)}{σ : St}{H:Hp}{s:Shared}{Q:VK}{k k':Bool}(I:Inv X pins σ H s)(q:Q (.bl k) H)(e:k=k'):EP X pins σ Q (.bool k') s:=by
 subst e
 exact⟨.bl k,H,I,rfl,q⟩
theorem q3k:OpR X (compareOp .Eq) rEq:=by
 intro pins s σ H x y v u Q I rx ry h
 obtain⟨hs,q⟩:=h
 cases x with
 | non=>
  cases rx
  cases y with
  | non=>cases ry; exact PySem.EqNone.eq_none_none (z28 I q (by simp))
  | bl j=>cases ry; exact PySem.EqNone.eq_none_bool (z28 I q (by simp))
  | int j=>obtain⟨t',rfl⟩:=ry; exact PySem.EqNone.eq_none_int (z28 I q (by simp))
  | str j=>obtain⟨t',rfl⟩:=ry; exact PySem.EqNone.eq_none_str (z28 I q (by simp))
  | _=>exact absurd (show false=true from hs) Bool.false_ne_true
 | bl i=>
  cases rx
  cases y with
  | non=>cases ry; exact PySem.EqNone.eq_bool_none (z28 I q (by simp))
  | bl j=>cases ry; exact eq_bool (z28 I q q00)
  | str j=>obtain⟨t',rfl⟩:=ry; exact PySem.EqMixed.eq_bool_str (z28 I q (by simp))
  | _=>exact absurd (show false=true from hs) Bool.false_ne_true
 | int i=>
  obtain⟨t,rfl⟩:=rx
  cases y with
  | non=>cases ry; exact PySem.EqNone.eq_int_none (z28 I q (by simp))
  | int j=>obtain⟨t',rfl⟩:=ry; exact eq_int (z28 I q zw8)
  | str j=>obtain⟨t',rfl⟩:=ry; exact PySem.EqMixed.eq_int_str (z28 I q (by simp))
  | _=>exact absurd (show false=true from hs) Bool.false_ne_true
 | str i=>
  obtain⟨t,rfl⟩:=rx
  cases y with
  | non=>cases ry; exact PySem.EqNone.eq_str_none (z28 I q (by simp))
  | bl j=>cases ry; exact PySem.EqMixed.eq_str_bool (z28 I q (by simp))
  | int j=>obtain⟨t',rfl⟩:=ry; exact PySem.EqMixed.eq_str_int (z28 I q (by simp))
  | str j=>obtain⟨t',rfl⟩:=ry; exact eq_str (z28 I q zw7)
  | _=>exact absurd (show false=true from hs) Bool.false_ne_true
 | byt i=>
  obtain⟨t,rfl⟩:=rx
  cases y with
  | byt j=>obtain⟨t',rfl⟩:=ry; exact PySem.W.eq_bytes (z28 I q zw9)
  | _=>exact absurd (show false=true from hs) Bool.false_ne_true
 | _=>cases y<;>exact absurd (show false=true from hs) Bool.false_ne_true
theorem q3f:OpR X (compareOp .NotEq) rNe:=by
 intro pins s σ H x y v u Q I rx ry h
 obtain⟨hs,q⟩:=h
 cases x with
 | non=>
  cases rx
  cases y with
  | non=>cases ry; exact PySem.EqNone.ne_none_none (z28 I q (by simp))
  | bl j=>cases ry; exact PySem.EqNone.ne_none_bool (z28 I q (by simp))
  | int j=>obtain⟨t',rfl⟩:=ry; exact PySem.EqNone.ne_none_int (z28 I q (by simp))
  | str j=>obtain⟨t',rfl⟩:=ry; exact PySem.EqNone.ne_none_str (z28 I q (by simp))
  | _=>exact absurd (show false=true from hs) Bool.false_ne_true
 | bl i=>
  cases rx
  cases y with
  | non=>cases ry; exact PySem.EqNone.ne_bool_none (z28 I q (by simp))
  | bl j=>cases ry; exact ne_bool (z28 I q (congrArg not q00))
  | str j=>obtain⟨t',rfl⟩:=ry; exact PySem.EqMixed.ne_bool_str (z28 I q (by simp))
  | _=>exact absurd (show false=true from hs) Bool.false_ne_true
 | int i=>
  obtain⟨t,rfl⟩:=rx
  cases y with
  | non=>cases ry; exact PySem.EqNone.ne_int_none (z28 I q (by simp))
  | int j=>obtain⟨t',rfl⟩:=ry; exact ne_int (z28 I q (congrArg not zw8))
  | str j=>obtain⟨t',rfl⟩:=ry; exact PySem.EqMixed.ne_int_str (z28 I q (by simp))
  | _=>exact absurd (show false=true from hs) Bool.false_ne_true
 | str i=>
  obtain⟨t,rfl⟩:=rx
  cases y with
  | non=>cases ry; exact PySem.EqNone.ne_str_none (z28 I q (by simp))
  | bl j=>cases ry; exact PySem.EqMixed.ne_str_bool (z28 I q (by simp))
  | int j=>obtain⟨t',rfl⟩:=ry; exact PySem.EqMixed.ne_str_int (z28 I q (by simp))
  | str j=>obtain⟨t',rfl⟩:=ry; exact ne_str (z28 I q (congrArg not zw7))
  | _=>exact absurd (show false=true from hs) Bool.false_ne_true
 | byt i=>
  obtain⟨t,rfl⟩:=rx
  cases y with
  | byt j=>obtain⟨t',rfl⟩:=ry; exact PySem.W.ne_bytes (z28 I q (congrArg not zw9))
  | _=>exact absurd (show false=true from hs) Bool.false_ne_true
 | _=>cases y<;>exact absurd (show false=true from hs) Bool.false_ne_true
theorem zof:OpR X (compareOp .Lt) (rI0 fun i j=>.bl (decide (i < j))):=q5g fun _ _ _ _ _ _ _ q=>lt_int q
theorem q3g:OpR X (compareOp .LtE) (rI0 fun i j=>.bl (decide (i<=j))):=q5g fun _ _ _ _ _ _ _ q=>le_int q
theorem q3i:OpR X (compareOp .Gt) (rI0 fun i j=>.bl (decide (j < i))):=q5g fun _ _ _ _ _ _ _ q=>gt_int q
theorem q5t:OpR X (compareOp .GtE) (rI0 fun i j=>.bl (decide (j<=i))):=q5g fun _ _ _ _ _ _ _ q=>ge_int q
theorem zus:OpR X (compareOp .In) (fun x y H Q=>∃i j,x=.str i/\y=.str j/\Q (.bl (!(Builtin.Str.occurrences j i 0 j.length 1).isEmpty)) H):=by
 intro pins s σ H x y v u Q I rx ry h
 obtain⟨i,j,rfl,rfl,q⟩:=h
 obtain⟨t,rfl⟩:=rx
 obtain⟨t',rfl⟩:=ry
 exact in_str (z28 I q rfl)
theorem q3h:OpR X (compareOp .Is) (fun x y H Q=>y=.non/\Q (.bl (decide (x=.non))) H):=by
 intro pins s σ H x y v u Q I rx ry h
 obtain⟨rfl,q⟩:=h
 cases ry
 refine is_none_gen (z28 I q ?_)
 cases x<;>first
  | (cases rx; rfl)
  | (obtain⟨t,rfl⟩:=rx; rfl)
theorem q0x:OpR X (compareOp .IsNot) (fun x y H Q=>y=.non/\Q (.bl (!decide (x=.non))) H):=by
 intro pins s σ H x y v u Q I rx ry h
 obtain⟨rfl,q⟩:=h
 cases ry
 refine isnot_none_gen (z28 I q ?_)
 cases x<;>first
  | (cases rx; rfl)
  | (obtain⟨t,rfl⟩:=rx; rfl)
theorem OpR.or{f:Value->Value->Sem Value}{r r':R2}(h:OpR X f r)(h':OpR X f r'):OpR X f (fun x y H Q=>r x y H Q\/r' x y H Q):=by
 intro pins s σ H x y v u Q I rx ry q
 rcases q with q | q
 ·exact h pins s σ H x y v u Q I rx ry q
 ·exact h' pins s σ H x y v u Q I rx ry q
theorem z0s(b:Expr){op:CmpOp}(h:op≠.In:=by decide)(h2:op≠.NotIn:=by decide):behindInMarks op b=false:=by
 have e1:(op == CmpOp.In)=false:=by cases op<;>first | rfl | exact absurd rfl h
 have e2:(op == CmpOp.NotIn)=false:=by cases op<;>first | rfl | exact absurd rfl h2
 cases b<;>simp[behindInMarks,e1,e2]
theorem zfd{op:CmpOp}{r:R2}(ho:OpR X (compareOp op) r)(ha:PE X a ta)(hb:PE X b tb)(hm:behindInMarks op b=false):PE X (.Compare a [op] [b] pos) (tOp r ta tb):=by
 refine⟨?_⟩
 intro pins s σ H Q I h
 exact wpAny_Compare1 (q5z ha hb I h fun v u s2 x y H2 I2 rx ry q=>ho pins s2 σ H2 x y v u Q I2 rx ry q) hm
def zin(t:TE):TT:=fun σ H Q=>t σ H fun x H'=>isBl x fun k=>Q k H'
theorem z0g{op:CmpOp}{r:R2}(ho:OpR X (compareOp op) r)(ha:PE X a ta)(hb:PE X b tb)(hm:behindInMarks op b=false):PT X (.Compare a [op] [b] pos) (zin (tOp r ta tb)):=by
 refine⟨?_⟩
 intro pins s σ H Q I h
 refine wpAny_isTrue_Compare1 (thn (ha pins s σ H _ I h) fun v s1 ⟨x,H1,I1,r1,q1⟩=>thn (hb pins s1 σ H1 _ I1 q1) fun u s2 ⟨y,H2,I2,r2,q2⟩=>
  thn (ho pins s2 σ H2 x y v u _ I2 r1 r2 q2) fun c s3 ⟨z,H3,I3,r3,q3⟩=>?_) hm
 obtain⟨k,e,q3⟩:=isBl.o q3
 subst e
 cases r3
 exact wpAny_truthy_bool ⟨H3,I3,q3⟩
def zla(r r':R2)(ta tb tc:TE):TE:=fun σ H Q=>ta σ H fun x H1=>tb σ H1 fun y H2=>r x y H2 fun z H3=>∃k,z=.bl k/\
 (if k=true then tc σ H3 fun w' H4=>r' y w' H4 Q else Q (.bl false) H3)
theorem zqc:(sizeLine:Nat) < 2 ^ 63:=by rw [sizeLine_eq]; decide
theorem zxf{x:V}{us:List Value}(r:Vals [x] us):∃u,us=[u]/\RelV x u:=by
 cases r with
 | cons r1 r2=>cases r2; exact⟨_,rfl,r1⟩
theorem q2p{x y:V}{us:List Value}(r:Vals [x,y] us):∃u w',us=[u,w']/\RelV x u/\RelV y w':=by
 cases r with
 | cons r1 r2=>
  cases r2 with
  | cons r3 r4=>cases r4; exact⟨_,_,rfl,r1,r3⟩
theorem zwz(hc:X.calm=true):CallR X (.builtin "max") (fun xs H Q=>∃i j,xs=[.int i,.int j]/\Q (.int (if j > i then j else i)) H):=by
 intro pins s σ H xs us Q I r h
 obtain⟨i,j,rfl,q⟩:=h
 obtain⟨u,w',rfl,⟨t,rfl⟩,⟨t',rfl⟩⟩:=q2p r
 refine max_two_ints (I.ok.hd hc) fun h' tk k=>⟨_,H,I.kept k,?_,q⟩
 by_cases hj:j > i
 ·rw [if_pos hj,if_pos hj]; exact⟨_,rfl⟩
 ·rw [if_neg hj,if_neg hj]; exact⟨_,rfl⟩
theorem zwy(hc:X.calm=true):CallR X (.builtin "min") (fun xs H Q=>∃i j,xs=[.int i,.int j]/\Q (.int (if j < i then j else i)) H):=by
 intro pins s σ H xs us Q I r h
 obtain⟨i,j,rfl,q⟩:=h
 obtain⟨u,w',rfl,⟨t,rfl⟩,⟨t',rfl⟩⟩:=q2p r
 refine min_two_ints (I.ok.hd hc) fun h' tk k=>⟨_,H,I.kept k,?_,q⟩
 by_cases hj:j < i
 ·rw [if_pos hj,if_pos hj]; exact⟨_,rfl⟩
 ·rw [if_neg hj,if_neg hj]; exact⟨_,rfl⟩
end
end L2
namespace L2
open PySem PySem.Spec PyProof.Rows
structure ObjM(h:Heap)(x dx C:Addr)(mA:Str->Option Value):Prop where
 obj:h.get? x=some (PySem.W.instObj C dx)
 ns:h.Ns1 dx mA
 ne:dx≠x
theorem zv7{h:Heap}{dx:Addr}{mA:Str->Option Value}(n:h.Ns1 dx mA):∃od,h.get? dx=some od/\∀name,PySem.W.lookIn name od=some (mA name):=by
 obtain⟨o,es,ep,ho,hd,hk,_,hm⟩:=n
 refine⟨o,ho,fun name=>?_⟩
 have e:=hm name
 unfold nsFind findBy at e
 rw [<- Array.find?_toList] at e
 unfold PySem.W.lookIn
 rw [hd]
 dsimp only
 split
 ·rename_i y q
  rw [q] at e
  exact congrArg some e
 ·rename_i q
  rw [q] at e
  have a:es.toList.any (·.refKey)=false:=by
   rw [List.any_eq_false]
   intro y hy
   obtain⟨z,t,hkey⟩:=hk y (Array.mem_toList_iff.mp hy)
   simp[DictEntry.refKey,hkey]
  have a':¬ es.toList.any (·.refKey)=true:=by rw [a]; exact Bool.false_ne_true
  rw [if_neg a']
  exact congrArg some e
theorem ObjM.look{h:Heap}{x dx C:Addr}{mA:Str->Option Value}(I:ObjM h x dx C mA):∃od,PySem.W.InstAt h x (PySem.W.instObj C dx) C (some od)/\∀name,PySem.W.lookIn name od=some (mA name):=
 let ⟨od,ho,hl⟩:=zv7 I.ns
 ⟨od,⟨I.obj,rfl,rfl,ho⟩,hl⟩
section
variable{prog:Program}{w:World}{A:Around}{E:Value->Shared->Prop}{s:Shared}{K:PySem.W.Frag}{x dx C f:Addr}{mA:Str->Option Value}{name:Str}{v:Value}
theorem q1l{expr:Bool}{Q:Value->Shared->Prop}(X:K.In s.heap)(I:ObjM s.heap x dx C mA)(hg:PySem.W.plainGet K C name=true)(hh:PySem.W.hasDictIn K C=true)
  (ha:PySem.W.findIn K (.ref C) name=some none) (hv:mA name=some v) (hv':PySem.W.handedIn v=true) (h:Q v {s with toks:=s.toks+1}) :
  wpAny (model prog w) A (getAttr (.ref x) name expr) Q E s:=by
 obtain⟨od,J,hl⟩:=I.look
 exact PySem.W.get_value X J (PySem.W.plainGet_of hg).1 (PySem.W.findObj_own hh ha rfl (by rw [hl,hv])) hv' h
theorem zyv{pl:Sem Bool}{Q:Value×List Value->Shared->Prop}(X:K.In s.heap)(I:ObjM s.heap x dx C mA)(hg:PySem.W.plainGet K C name=true)
  (hf:PySem.W.findIn K (.ref C) name=some (some (.ref f))) (ht:PySem.W.isFn K (.ref f)=true) (hv:mA name=none) (h:Q (.ref f,[.ref x]) s) :
  wpAny (model prog w) A (getMethod (.ref x) name pl) Q E s:=by
 obtain⟨od,J,hl⟩:=I.look
 exact PySem.W.method_fn X J (PySem.W.plainGet_of hg).1 (PySem.W.plainGet_of hg).2 hf (beq_iff_eq.mp ht) (by show(PySem.W.lookIn name od).map (·.isSome)=some false; rw [hl,hv]; rfl) h
theorem q0d{ns:List Str}{Q:Unit->Shared->Prop}(X:K.In s.heap)(I:ObjM s.heap x dx C mA)
  (hs:PySem.W.findIn K (.ref C) "__setattr__" = some (some (.builtin "object.__setattr__"))) (hp:PySem.W.plainOver K C=true) (ht:PySem.W.takerIn K C name=some none) (hh:PySem.W.hasDictIn K C=true)
  (hw:PySem.Within mA ns) (hsz:ns.length<=sizeLine)
  (h:∀h',ObjM h' x dx C (fun y=>if y=name then some v else mA y)->Heap.SameBut dx s.heap h'->Q () {s with heap:=h',toks:=s.toks+2}) :
  wpAny (model prog w) A (setAttr (.ref x) name v) Q E s:=by
 obtain⟨od,J,hl⟩:=I.look
 refine PySem.W.set_plain X J hs (PySem.W.osa_open (s:={s with toks:=s.toks+1}) (r:=none) X J hp ht fun b=>?_)
 obtain⟨cd,hc,hd'⟩:=PySem.W.any_some hh
 have hx:s.heap.get? x=some ⟨.ref C,some dx,.plain,#[]⟩:=I.obj
 refine wpAny_bind (wpAny_pure (wpAny_bind (wpAny_bind (wpAny_loadPart hx (wpAny_bind (PySem.W.Looks.here (s:={s with toks:=s.toks+1}) (PySem.W.looks_clsIn X hc) ?_))))))
 rw [hd']
 refine wpAny_pure (a:=some dx) (wpAny_bind (wpAny_pure (wpAny_bind ?_)))
 refine wpAny_nsSet1 (s:={s with toks:=s.toks+1}) I.ns fun h' hn2 hs2=>?_
 obtain⟨oD,esD,epD,hoD,hdD,hcD⟩:=hn2.count (PySem.Within.cons name v hw)
 refine wpAny_bind (wpAny_lookBehind hoD (by rw [hdD]; exact pastItsLine_dict (Nat.le_trans hcD (by rw [List.length_cons]; omega))) ?_)
 exact wpAny_pure (h _ ⟨(hs2.2 _ (Ne.symm I.ne)).trans I.obj,hn2,I.ne⟩ hs2)
theorem zyi{R:Result->Shared->Prop}{vs:List Value}{kw:List (Str×Value)}(X:K.In s.heap)(hm:PySem.W.makesIn K C=true)
  (hi:PySem.W.findIn K (.ref C) "__init__" = some (some (.ref f))) (hf:PySem.W.typeIn K (.ref f)=some (.type "function"))
  (h:codeAny (model prog w) (A.under (.builtin "type.__call__" ⟨.ref C::vs,kw⟩)) (.call (.ref f) ⟨.ref (s.heap.objs.size+1)::vs,kw⟩) (PySem.W.InitBack (s.heap.objs.size+1) R)
   {s with heap:=(s.heap.push PySem.W.emptyDict).push (PySem.W.instObj C s.heap.objs.size)}) :
  codeAny (model prog w) A (.call (.ref C) ⟨vs,kw⟩) R s:=by
 obtain⟨hh,g,d,t,os⟩:=s
 exact PySem.W.make_core (PySem.W.makes_of X hm) (PySem.W.looks_findIn X hi) (fun self=>PySem.W.bind_fn X self hf) (.inl rfl) h
end
def z5g(f:Str)(v:V):List (Str×V)->List (Str×V)
 | []=>[(f,v)]
 | (g,x)::r=>if g=f then(g,v)::r else(g,x)::z5g f v r
theorem zhk(f g:Str)(v:V):∀fs:List (Str×V),(z5g f v fs).lookup g=if g=f then some v else fs.lookup g
 | []=>by
  show List.lookup g [(f,v)]=_
  by_cases h:g=f
  ·have hb:(g == f)=true:=beq_iff_eq.mpr h
   simp only[List.lookup,hb,if_pos h]
  ·have hb:(g == f)=false:=beq_eq_false_iff_ne.mpr h
   simp only[List.lookup,hb,if_neg h]
 | (k,x)::r=>by
  have ih:=zhk f g v r
  rw [show z5g f v ((k,x)::r)=(if k=f then(k,v)::r else(k,x)::z5g f v r) from rfl]
  by_cases hk:k=f
  ·rw [if_pos hk]
   by_cases h:g=k
   ·have hb:(g == k)=true:=beq_iff_eq.mpr h
    simp only[List.lookup,hb,if_pos (h.trans hk)]
   ·have hb:(g == k)=false:=beq_eq_false_iff_ne.mpr h
    simp only[List.lookup,hb,if_neg (fun e:g=f=>h (e.trans hk.symm))]
  ·rw [if_neg hk]
   by_cases h:g=k
   ·have hb:(g == k)=true:=beq_iff_eq.mpr h
    simp only[List.lookup,hb,if_neg (fun e:g=f=>hk (h.symm.trans e))]
   ·have hb:(g == k)=false:=beq_eq_false_iff_ne.mpr h
    simp only[List.lookup,hb]
    exact ih
theorem zhr(f:Str)(v:V):∀fs:List (Str×V),f∈(z5g f v fs).map (·.1)/\∀g,g∈fs.map (·.1)->g∈(z5g f v fs).map (·.1)
 | []=>⟨by simp[z5g],fun g h=>by simp at h⟩
 | (k,x)::r=>by
  obtain⟨i1,i2⟩:=zhr f v r
  rw [show z5g f v ((k,x)::r)=(if k=f then(k,v)::r else(k,x)::z5g f v r) from rfl]
  by_cases hk:k=f
  ·rw [if_pos hk]
   subst hk
   exact⟨by simp,fun g h=>by simpa using h⟩
  ·rw [if_neg hk]
   refine⟨?_,fun g h=>?_⟩
   ·rw [List.map_cons]
    exact List.mem_cons_of_mem _ i1
   ·rw [List.map_cons] at h |-
    rcases List.mem_cons.mp h with e | e
    ·exact List.mem_cons.mpr (.inl e)
    ·exact List.mem_cons_of_mem _ (i2 g e)
theorem zhp(f:Str)(v:V):∀fs:List (Str×V),(z5g f v fs).length<=fs.length+1
 | []=>by simp[z5g]
 | (k,x)::r=>by
  have ih:=zhp f v r
  rw [show z5g f v ((k,x)::r)=(if k=f then(k,v)::r else(k,x)::z5g f v r) from rfl]
  by_cases hk:k=f
  ·rw [if_pos hk,List.length_cons,List.length_cons]; omega
  ·rw [if_neg hk,List.length_cons,List.length_cons]; omega
theorem RelO.some_of{v:V}{o:Option Value}(r:RelO (some v) o):∃u,o=some u/\RelV v u:=by
 cases o with
 | none=>exact(show False from r).elim
 | some u=>exact⟨u,rfl,r⟩
theorem RelO.none_of{o:Option Value}(r:RelO none o):o=none:=by
 cases o with
 | none=>rfl
 | some u=>exact(show False from r).elim
theorem zvs{v:V}{u:Value}(r:RelV v u):PySem.W.handedIn u=true:=by
 cases v with
 | non=>cases (show u=Value.none from r); rfl
 | bl b=>cases (show u=Value.bool b from r); rfl
 | int i=>obtain⟨t,e⟩:=(show ∃t,u=Value.int i t from r); cases e; rfl
 | str x=>obtain⟨t,e⟩:=(show ∃t,u=Value.str x t from r); cases e; rfl
 | byt b=>obtain⟨t,e⟩:=(show ∃t,u=Value.bytes b t from r); cases e; rfl
 | flt b=>obtain⟨t,e⟩:=(show ∃t,u=Value.float b t from r); cases e; rfl
 | ref a=>cases (show u=Value.ref a from r); rfl
 | ty n=>cases (show u=Value.type n from r); rfl
section
variable{P:Program}{w:World}{H H':Hp}{h h':Heap}{a C dx:Addr}{fs fs':List (Str×V)}
theorem zkf(hok:HOk P w H h)(e:H a=some (.ins C dx fs)):∃mA,ObjM h a dx C mA/\(∀f,RelO (fs.lookup f) (mA f))/\PySem.Within mA (fs.map (·.1))/\fs.length<=1000/\H dx=some (.own a):=by
 obtain⟨d,z,ne,ob,mA,n,r,q⟩:=(show ObjOk P w H h a (.ins C dx fs) from hok a _ e)
 exact⟨mA,⟨ob,n,ne⟩,r,q,z,d⟩
end
structure Cls(K:PySem.W.Frag)(C:Addr):Prop where
 pg:PySem.W.plainGet K C Str.empty=true
 hd:PySem.W.hasDictIn K C=true
 po:PySem.W.plainOver K C=true
 sa:PySem.W.findIn K (.ref C) "__setattr__" = some (some (.builtin "object.__setattr__"))
theorem Cls.get{K:PySem.W.Frag}{C:Addr}(c:Cls K C)(f:Str):PySem.W.plainGet K C f=true:=c.pg
def NoAttr(K:PySem.W.Frag)(C:Addr)(f:Str):Prop:=PySem.W.findIn K (.ref C) f=some none
theorem NoAttr.taker{K:PySem.W.Frag}{C:Addr}{f:Str}(n:NoAttr K C f):PySem.W.takerIn K C f=some none:=by
 unfold PySem.W.takerIn
 rw [show PySem.W.findIn K (.ref C) f=some none from n]
 rfl
structure Con(K:PySem.W.Frag)(C:Addr)(f:Str)(v:V)(u:Value):Prop where
 at_:PySem.W.findIn K (.ref C) f=some (some u)
 rel:RelV v u
 get:PySem.W.specialIn K u "__get__" = some none
 cp:PySem.W.copiedNames.contains f=false
structure Meth(K:PySem.W.Frag)(C:Addr)(m:Str)(f:Addr):Prop where
 at_:PySem.W.findIn K (.ref C) m=some (some (.ref f))
 fn:PySem.W.isFn K (.ref f)=true
 kp:PySem.W.keepIn K (.ref f)=true
section
variable{X:Cx}{pins:List (Addr×Obj)}{σ : St}{H:Hp}{s:Shared}{a C dx:Addr}{fs:List (Str×V)}{f:Str}{v:V}{A:Around}{E:Value->Shared->Prop}
theorem zsj{b:Bool}{Q:Value->Shared->Prop}(I:Inv X pins σ H s)(e:H a=some (.ins C dx fs))(c:Cls X.K C)(n:NoAttr X.K C f)(l:fs.lookup f=some v)
  (h:∀u s',Inv X pins σ H s'->RelV v u->Q u s'):wpAny (model X.prog X.w) A (getAttr (.ref a) f b) Q E s:=by
 obtain⟨mA,O,r,_,_,_⟩:=zkf I.hok e
 obtain⟨u,hu,ru⟩:=RelO.some_of (v:=v) (o:=mA f) (by rw [<- l]; exact r f)
 exact q1l I.kIn O (c.get f) c.hd n hu (zvs ru) (h u _ (I.tok _) ru)
theorem zsi{m:Str}{g:Addr}{pl:Sem Bool}{Q:Value×List Value->Shared->Prop}(I:Inv X pins σ H s)(e:H a=some (.ins C dx fs))(c:Cls X.K C)(k:Meth X.K C m g)(l:fs.lookup m=none)
  (h:Q (.ref g,[.ref a]) s):wpAny (model X.prog X.w) A (getMethod (.ref a) m pl) Q E s:=by
 obtain⟨mA,O,r,_,_,_⟩:=zkf I.hok e
 have hn:mA m=none:=RelO.none_of (by rw [<- l]; exact r m)
 exact zyv I.kIn O (c.get m) k.at_ k.fn hn h
theorem zrj{y:V}{u:Value}{Q:Unit->Shared->Prop}(I:Inv X pins σ H s)(e:H a=some (.ins C dx fs))(c:Cls X.K C)(n:NoAttr X.K C f)(hl:fs.length < 1000)(ry:RelV y u)
  (h:∀s',Inv X pins σ (upd H a (.ins C dx (z5g f y fs))) s'->Q () s'):wpAny (model X.prog X.w) A (setAttr (.ref a) f u) Q E s:=by
 obtain⟨mA,O,r,wi,_,ho⟩:=zkf I.hok e
 have hz:(fs.map (·.1)).length<=sizeLine:=by rw [List.length_map,sizeLine_eq]; omega
 refine q0d I.kIn O c.sa c.po n.taker c.hd wi hz fun h' O' sb=>h _ ?_
 have hd:∃o,h'.get? dx=some o:=let ⟨o,_,_,e',_⟩:=O'.ns; ⟨o,e'⟩
 refine I.write (x:=a) (e:=dx) (by rw [e]; exact True.intro) (.inr ho) (fun b q hb z=>(sb.2 b hb).trans z) hd ?_
 refine⟨by rw [z0b O.ne]; exact ho,?_,O.ne,O'.obj,_,O'.ns,fun g=>?_,fun g hg=>?_⟩
 ·have:=zhp f y fs; omega
 ·show RelO ((z5g f y fs).lookup g) (if g=f then some u else mA g)
  rw [zhk]
  by_cases q:g=f
  ·rw [if_pos q,if_pos q]; exact ry
  ·rw [if_neg q,if_neg q]; exact r g
 ·by_cases q:g=f
  ·rw [q]; exact(zhr f y fs).1
  ·refine(zhr f y fs).2 g (wi g fun z=>hg ?_)
   show(if g=f then some u else mA g)=none
   rw [if_neg q]; exact z
theorem Inv.made(I:Inv X pins σ H s):Inv X pins σ (upd (upd H s.heap.objs.size (.own (s.heap.objs.size+1))) (s.heap.objs.size+1) (.ins C s.heap.objs.size []))
  {s with heap:=(s.heap.push PySem.W.emptyDict).push (PySem.W.instObj C s.heap.objs.size)}:=by
 have e1:(s.heap.push PySem.W.emptyDict).get? s.heap.objs.size=some PySem.W.emptyDict:=Heap.get?_push_size s.heap rfl
 have e2:((s.heap.push PySem.W.emptyDict).push (PySem.W.instObj C s.heap.objs.size)).get? (s.heap.objs.size+1)=some (PySem.W.instObj C s.heap.objs.size):=by
  have:=Heap.get?_push_size (s.heap.push PySem.W.emptyDict) (o:=PySem.W.instObj C s.heap.objs.size) rfl
  rwa [Heap.size_push] at this
 have e3:(s.heap.push PySem.W.emptyDict).Ns s.heap.objs.size (fun _=>none):=⟨PySem.W.emptyDict,#[],_,e1,rfl,(fun e he=>absurd he (by simp)),fun _=>rfl⟩
 have I1:=I.laid (a:=s.heap.objs.size) (o:=.own (s.heap.objs.size+1)) (h':=s.heap.push PySem.W.emptyDict) (t':=s.toks) (fun b u q=>Heap.get?_push_of_some _ q) (Nat.le_refl _) ⟨_,e1⟩
 refine I1.laid (a:=s.heap.objs.size+1) (o:=.ins C s.heap.objs.size []) (t':=s.toks) (fun b u q=>Heap.get?_push_of_some _ q) (Nat.le_of_eq (Heap.size_push _ _)) ?_
 have ne:s.heap.objs.size≠s.heap.objs.size+1:=Nat.ne_of_lt (Nat.lt_succ_self _)
 refine⟨by rw [z0b ne,z01],Nat.zero_le _,ne,e2,fun _=>none,(Heap.Ns1.of_empty e3).at fun o q=>Heap.get?_push_of_some _ q,fun _=>True.intro,fun y hy=>absurd rfl hy⟩
theorem q20{prog:Program}{w:World}{env:Env}{e:Expr}{f:Str}{pos:Pos}{s:Shared}{Q:Value->Shared->Prop}(hb:attributeBase e f env (eval e env)=eval e env)
  (h:wpAny (model prog w) A (eval e env) (fun o s₁=>wpAny (model prog w) A (getAttr o f true) Q E s₁) E s):wpAny (model prog w) A (eval (.Attribute e f pos) env) Q E s:=
 Attribute_any_ h (by rw [arm_eval_Attribute,hb])
end
def q5c(K:PySem.W.Frag)(ta:TE)(f:Str):TE:=fun σ H Q=>ta σ H fun x H1=>∃a C dx fs v,x=.ref a/\H1 a=some (.ins C dx fs)/\Cls K C/\NoAttr K C f/\fs.lookup f=some v/\Q v H1
def q5e(K:PySem.W.Frag)(ta tv:TE)(f:Str):TS:=fun D σ H=>tv σ H fun y H1=>ta σ H1 fun x H2=>∃a C dx fs,x=.ref a/\H2 a=some (.ins C dx fs)/\Cls K C/\NoAttr K C f/\fs.length < 1000/\
 D.nx σ (upd H2 a (.ins C dx (z5g f y fs)))
section
variable{X:Cx}{o e value:Expr}{f:Str}{pos pos' tpos:Pos}{ta tv:TE}
theorem z8a(he:PE X e ta)(hb:attributeBase e f X.env (eval e X.env)=eval e X.env):PE X (.Attribute e f pos) (q5c X.K ta f):=by
 refine⟨?_⟩
 intro pins s σ H Q I h
 refine q20 hb (thn (he pins s σ H _ I h) fun u s1 hh=>?_)
 obtain⟨x,H1,I1,rx,a,C,dx,fs,v,ex,ea,c,n,l,q⟩:=hh
 subst ex
 obtain rfl:u=Value.ref a:=rx
 exact zsj I1 ea c n l fun u' s2 I2 ru=>⟨v,H1,I2,ru,q⟩
theorem zlw(ha:PE X o ta)(hv:PE X value tv)(hs:swapsWith value (some (.Attribute o f pos')) pos.line X.env=pure false):PS X (.Assign [.Attribute o f pos'] value pos) (q5e X.K ta tv f):=by
 refine⟨?_⟩
 intro pins s σ H D I h
 refine plainObj_wpAny_Assign_Attribute (thn (hv pins s σ H _ I h) fun u s1 ⟨y,H1,I1,ry,q⟩=>thn (ha pins s1 σ H1 _ I1 q) fun ov s2 hh=>?_) hs
 obtain⟨x,H2,I2,rx,a,C,dx,fs,ex,ea,c,n,l,q2⟩:=hh
 subst ex
 obtain rfl:ov=Value.ref a:=rx
 exact zrj I2 ea c n l ry fun s3 I3=>⟨σ,_,I3,q2⟩
end
section
variable{X:Cx}{pins:List (Addr×Obj)}{σ : St}{H:Hp}{s:Shared}{A:Around}{E:Value->Shared->Prop}{Q:Value->Shared->Prop}{c:Value}{b:Bool}
inductive TyOf (K:PySem.W.Frag) (H:Hp):V->Value->Prop where
 | non:TyOf K H .non (.type "NoneType")
 | bl (x:Bool):TyOf K H (.bl x) (.type "bool")
 | int (i:Int):TyOf K H (.int i) (.type "int")
 | str (x:Str):TyOf K H (.str x) (.type "str")
 | flt (x:UInt64):TyOf K H (.flt x) (.type "float")
 | lst {a:Addr} {xs:List V} (e:H a=some (.lst xs)):TyOf K H (.ref a) (.type "list")
 | frz {a:Addr} {o:Obj} {xs:List V} (e:H a=some (.frz o (.lst xs))):TyOf K H (.ref a) (.type "list")
 | tup {a:Addr} {xs:List V} (e:H a=some (.tup xs)):TyOf K H (.ref a) (.type "tuple")
 | dK {a:Addr} {kvs:List (Key×V)} (e:H a=some (.dK kvs)):TyOf K H (.ref a) (.type "dict")
 | dT {a:Addr} {kvs:List (List Key×V)} (e:H a=some (.dT kvs)):TyOf K H (.ref a) (.type "dict")
 | ins {a C dx:Addr} {fs:List (Str×V)} (e:H a=some (.ins C dx fs)) (cl:Cls K C) (ha:PySem.W.findIn K (.ref C) "__class__" = some (some (.builtin "object.__class__")))
   (hn:PySem.W.specialIn K (.builtin "object.__class__") "__get__" = some (some (.builtin "getset_descriptor.__get__"))) (htk:PySem.W.takesIn K (.builtin "object.__class__")=some true)
   (hm:PySem.W.mroIn K C (.type "object")=some true):TyOf K H (.ref a) (.ref C)
theorem zvi{x:V}{u t:Value}(I:Inv X pins σ H s)(rx:RelV x u)(ty:TyOf X.K H x t)(e:PySem.W.kitOne X.K t c=some b)(h:∀tk,Q (.bool b) {s with toks:=tk}) :
  wpAny (model X.prog X.w) A (call (.builtin "isinstance") [u,c]) Q E s:=by
 cases ty with
 | non=>cases (show u=Value.none from rx); exact PySem.W.kia_one PySem.W.kitx_none I.kIn True.intro e (fun z=>nomatch z) h
 | bl y=>cases (show u=Value.bool y from rx); exact PySem.W.kia_one PySem.W.kitx_bool I.kIn True.intro e (fun z=>nomatch z) h
 | int i=>obtain⟨t,q⟩:=(show ∃t,u=Value.int i t from rx); cases q; exact PySem.W.kia_one PySem.W.kitx_int I.kIn True.intro e (fun z=>nomatch z) h
 | str y=>obtain⟨t,q⟩:=(show ∃t,u=Value.str y t from rx); cases q; exact PySem.W.kia_one PySem.W.kitx_str I.kIn True.intro e (fun z=>nomatch z) h
 | flt y=>obtain⟨t,q⟩:=(show ∃t,u=Value.float y t from rx); cases q; exact PySem.W.kia_one PySem.W.kitx_float I.kIn True.intro e (fun z=>nomatch z) h
 | @lst a xs ea=>
  cases (show u=Value.ref a from rx)
  obtain⟨_,_,n,_,h1⟩:=(show ObjOk X.prog X.w H s.heap a (.lst xs) from I.hok a _ ea)
  exact PySem.W.kia_one PySem.W.kitx_list I.kIn ⟨_,h1,rfl⟩ e (fun z=>nomatch z) h
 | @frz a ob xs ea=>
  cases (show u=Value.ref a from rx)
  obtain⟨_,_,_,n,_,h1⟩:=(show ObjOk X.prog X.w H s.heap a (.frz ob (.lst xs)) from I.hok a _ ea)
  exact PySem.W.kia_one PySem.W.kitx_list I.kIn ⟨_,h1,rfl⟩ e (fun z=>nomatch z) h
 | @tup a xs ea=>
  cases (show u=Value.ref a from rx)
  obtain⟨_,_,_,p⟩:=(show ObjOk X.prog X.w H s.heap a (.tup xs) from I.hok a _ ea)
  obtain⟨o,h1,h2,_⟩:=p
  exact PySem.W.kia_one PySem.W.kitx_tuple I.kIn ⟨o,h1,h2⟩ e (fun z=>nomatch z) h
 | @dK a kvs ea=>
  cases (show u=Value.ref a from rx)
  obtain⟨_,_,vs,_,p⟩:=(show ObjOk X.prog X.w H s.heap a (.dK kvs) from I.hok a _ ea)
  obtain⟨o,es,ep,h1,h2,_⟩:=p
  exact PySem.W.kia_one PySem.W.kitx_dict I.kIn ⟨o,h1,h2.1⟩ e (fun z=>nomatch z) h
 | @dT a kvs ea=>
  cases (show u=Value.ref a from rx)
  obtain⟨_,_,xs,_,o,es,ep,h1,h2,_⟩:=(show ObjOk X.prog X.w H s.heap a (.dT kvs) from I.hok a _ ea)
  exact PySem.W.kia_one PySem.W.kitx_dict I.kIn ⟨o,h1,h2.1⟩ e (fun z=>nomatch z) h
 | @ins a C dx fs ea cl ha hn htk hm=>
  cases (show u=Value.ref a from rx)
  obtain⟨mA,O,_⟩:=zkf I.hok ea
  obtain⟨od,J,_⟩:=O.look
  exact PySem.W.kia_one (PySem.W.kitx_own (cl.get _) cl.hd ha hn htk hm) I.kIn J e (fun z=>nomatch z) h
end
end L2
namespace L2
open PySem PySem.Spec PyProof.Rows
structure Room(k:Nat)(A:Around):Prop where
 hd:A.handled=none
 dp:A.depth+3 * k+5 < recursionLimit
 un:A.units+16 * k+200 < cLine
theorem Room.mono{j k:Nat}{A:Around}(r:Room k A)(h:j<=k):Room j A:=⟨r.hd,by have:=r.dp; omega,by have:=r.un; omega⟩
theorem Room.deeper{k:Nat}{A:Around}(r:Room (k+1) A)(env:Env):Room k (A.deeper env):=
 ⟨r.hd,by have:=r.dp; show A.depth+1+3 * k+5 < _; omega,by have:=r.un; show A.units+3+16 * k+200 < _; omega⟩
theorem zsd{A:Around}{C:Addr}{us:List Value}{kw:List (Str×Value)}:(A.under (.builtin "type.__call__" ⟨.ref C::us,kw⟩)).depth=A.depth+1:=by
 first | rfl | simp[Around.under,Code.weight,Code.isCreation,Code.isGuard,Code.isCaller,Code.frames,Code.isFrame,guardIds]
theorem zsc{A:Around}{C:Addr}{us:List Value}{kw:List (Str×Value)}:(A.under (.builtin "type.__call__" ⟨.ref C::us,kw⟩)).units=A.units+1:=by
 first | rfl | simp[Around.under,Code.cUnits,Code.frames,Code.isFrame]
theorem Room.make{k:Nat}{A:Around}(r:Room (k+1) A)(C:Addr)(us:List Value)(kw:List (Str×Value)):Room k (A.under (.builtin "type.__call__" ⟨.ref C::us,kw⟩)):=
 ⟨r.hd,by have:=r.dp; rw [zsd]; omega,by have:=r.un; rw [zsc]; omega⟩
theorem Room.depth{k:Nat}{A:Around}(r:Room k A):A.depth < recursionLimit:=by have:=r.dp; omega
theorem Room.units{k:Nat}{A:Around}(r:Room k A):A.units+64 < cLine:=by have:=r.un; omega
def zra:TA:=fun _ H Q=>Q [] H
def zf1(ta:TE)(tr:TA):TA:=fun σ H Q=>ta σ H fun x H1=>tr σ H1 fun xs H2=>Q (x::xs) H2
section
variable{X:Cx}{e:Expr}{es:List Expr}{te:TE}{t:TA}{pos:Pos}
theorem z04:PA X [] zra:=⟨fun _ _ _ _ H Q I h=>Calls.spliced_nil ⟨[],H,I,.nil,h⟩⟩
theorem q0v(ha:PE X e te)(hr:PA X es t)(hs:starEach (e::es) X.env=(false,eval e X.env)::starEach es X.env:=by rfl):PA X (e::es) (zf1 te t):=by
 refine⟨?_⟩
 intro pos pins s σ H Q I h
 rw [hs]
 show wpAny _ _ (spliced ((false,eval e X.env)::backTo pos (starEach es X.env))) _ _ s
 refine Calls.spliced_cons (thn (ha pins s σ H _ I h) fun u s1 ⟨x,H1,I1,r1,q1⟩=>?_)
 exact thn (hr pos pins s1 σ H1 _ I1 q1) fun us s2 ⟨xs,H2,I2,r2,q2⟩=>⟨x::xs,H2,I2,.cons r1 r2,q2⟩
def q09(t:TA):TE:=fun σ H Q=>t σ H fun xs H1=>xs.length<=sizeLine/\∀p,H1 p=none->Q (.ref p) (upd H1 p (.tup xs))
def q2d(t:TA):TE:=fun σ H Q=>t σ H fun xs H1=>xs.length<=sizeLine/\∀p,H1 p=none->Q (.ref p) (upd H1 p (.lst xs))
theorem z13{x1}(h:PA X es t):PE X (.Tuple es x1 pos) (q09 t):=by
 refine⟨?_⟩
 intro pins s σ H Q I hq
 refine wpAny_Tuple_spliced (thn (h pos pins s σ H _ I hq) fun us s1 ⟨xs,H1,I1,r,z,q⟩=>⟨by rw [<- r.length]; exact z,?_⟩)
 have hf:H1 s1.heap.objs.size=none:=I1.hok.fresh (Nat.le_refl _)
 refine⟨.ref s1.heap.objs.size,upd H1 s1.heap.objs.size (.tup xs),I1.laid (t':=s1.toks) (fun b u e=>Heap.get?_push_of_some _ e) (Nat.le_refl _) ?_,rfl,q _ hf⟩
 exact⟨z,us,r,⟨_,Heap.get?_push_size _ rfl,rfl,_,rfl⟩⟩
theorem z44(h:PA X es t):PE X (.List es pos) (q2d t):=by
 refine⟨?_⟩
 intro pins s σ H Q I hq
 refine wpAny_List_spliced (thn (h pos pins s σ H _ I hq) fun us s1 ⟨xs,H1,I1,r,z,q⟩=>⟨by rw [<- r.length]; exact z,?_⟩)
 have hf:H1 s1.heap.objs.size=none:=I1.hok.fresh (Nat.le_refl _)
 refine⟨.ref s1.heap.objs.size,upd H1 s1.heap.objs.size (.lst xs),I1.laid (t':=s1.toks) (fun b u e=>Heap.get?_push_of_some _ e) (Nat.le_refl _) ?_,rfl,q _ hf⟩
 exact⟨z,us,0,r,Heap.get?_push_size _ rfl⟩
end
abbrev Sp:=List V->Hp->VK->XK->Prop
abbrev CXT:=List Env->Hp->Shared->XK->Value->Shared->Prop
structure Env0(P:Program)(w:World)(K:PySem.W.Frag)(mg:Str->Option Value)(base:Heap)(A:Around)(outer:List Env)(s:Shared)(H:Hp):Prop where
 frames:A.frames=some outer
 mod:Mod K mg base
 bs:∀b o,base.get? b=some o->s.heap.get? b=some o/\H b=none
 bsz:base.objs.size<=s.heap.objs.size
 funs:s.heap.FunFrames base outer
 frf:∀b∈frs outer,H b=none
 hok:HOk P w H s.heap
 bare:AllBare s.gens
def CE(outer:List Env)(P:Program)(w:World)(H:Hp)(s:Shared)(Q:VK)(u:Value)(s':Shared):Prop:=
 ∃v H',s'.os=s.os/\AllBare s'.gens/\Un (frs outer) [] H H' s.heap s'.heap/\HOk P w H' s'.heap/\RelV v u/\Q v H'
def CR(CX:CXT)(outer:List Env)(P:Program)(w:World)(H:Hp)(s:Shared)(Q:VK)(E:XK)(r:Result)(s':Shared):Prop:=
 match r with
 | .ok (.ret u)=>CE outer P w H s Q u s'
 | .ok _=>False
 | .error e=>CX outer H s E e s'
structure FnOk(P:Program)(w:World)(K:PySem.W.Frag)(mg:Str->Option Value)(base:Heap)(CX:CXT)(k:Nat)(f:Addr)(fd:FuncData)(ps:List Str)(sp:Sp):Prop where
 len:∀vs H Q E,sp vs H Q E->vs.length=ps.length
 run:∀(A:Around) (outer:List Env) (s:Shared) (H:Hp) (args:Args) (us:List Value) (vs:List V) (Q:VK) (E:XK),Room k A->Env0 P w K mg base A outer s H->BindsTo s fd args (ps.zip us)->Vals vs us->sp vs H Q E->
  codeAny (model P w) A (.call (.ref f) args) (CR CX outer P w H s Q E) s
theorem Env0.make{P:Program}{w:World}{K:PySem.W.Frag}{mg:Str->Option Value}{base:Heap}{A:Around}{outer:List Env}{s:Shared}{H:Hp}(e:Env0 P w K mg base A outer s H)(C:Addr)(us:List Value)(kw:List (Str×Value)) :
  Env0 P w K mg base (A.under (.builtin "type.__call__" ⟨.ref C::us,kw⟩)) outer s H:=⟨by first | exact e.frames | (simpa [Around.under,Code.envs,Code.isFrame,pushEnvs] using e.frames),e.mod,e.bs,e.bsz,e.funs,e.frf,e.hok,e.bare⟩
section
variable{X:Cx}{pins:List (Addr×Obj)}{σ : St}{H:Hp}{s s':Shared}
theorem Inv.env0(I:Inv X pins σ H s):Env0 X.prog X.w X.K X.mg X.base X.A X.stack s H:=
 ⟨I.ok.frames,I.ok.mod,I.bs,Nat.le_trans I.ok.bsz I.sz,I.stack,I.stkFree,I.hok,I.bare⟩
theorem Inv.after{Q:VK}{u:Value}(I:Inv X pins σ H s)(h:CE X.stack X.prog X.w H s Q u s'):EP X pins σ Q u s':=by
 obtain⟨v,H',os,bare,un,hok,r,q⟩:=h
 obtain⟨hh,g,d,t,os'⟩:=s'
 obtain rfl:os'=s.os:=os
 exact⟨v,H',I.call (h':=hh) (g':=g) (d':=d) (t':=t) (ch:=[]) un hok bare (fun b z=>absurd z (by simp)),r,q⟩
end
def zrf(sp:Sp)(dvs:List V)(E:XK)(t:TA):TE:=fun σ H Q=>t σ H fun vs H1=>sp (vs++dvs) H1 Q E
def zns(C:Addr)(m:Str)(sp:Sp)(dvs:List V)(E:XK)(ta:TE)(t:TA):TE:=fun σ H Q=>ta σ H fun x H1=>∃a dx fs,x=.ref a/\H1 a=some (.ins C dx fs)/\fs.lookup m=none/\
 t σ H1 fun vs H2=>sp (x::(vs++dvs)) H2 Q E
def ztj(C:Addr)(sp:Sp)(dvs:List V)(E:XK)(t:TA):TE:=fun σ H Q=>t σ H fun vs H1=>∀x dx,H1 x=none->H1 dx=none->dx≠x->
 sp (.ref x::(vs++dvs)) (upd (upd H1 dx (.own x)) x (.ins C dx [])) (fun v H2=>v=.non/\Q (.ref x) H2) E
def Binds(K:PySem.W.Frag)(fd:FuncData)(ps:List Str)(ds:List Value):Prop:=
 ∀(s:Shared) (us:List Value),K.In s.heap->(us++ds).length=ps.length->BindsTo s fd ⟨us,[]⟩ (ps.zip (us++ds))
theorem Binds.all{K:PySem.W.Frag}{fd:FuncData}{ps:List Str}(h:∀us:List Value,us.length=ps.length->bindArgs fd ⟨us,[]⟩=pure (ps.zip us)):Binds K fd ps []:=fun s us _ hl=>by
 rw [List.append_nil] at hl |-
 exact .of_eq (h us hl)
def zr0(CX:CXT)(X:Cx)(E:XK):Prop:=∀(pins:List (Addr×Obj)) (σ : St) (H:Hp) (s:Shared) (e:Value) (s':Shared),Inv X pins σ H s->CX X.stack H s E e s'->X.xe e s'
section
variable{X:Cx}{CX:CXT}{k:Nat}{f C:Addr}{fd:FuncData}{ps:List Str}{sp:Sp}{dvs:List V}{ds:List Value}{E:XK}{x m:Str}{p pos apos:Pos}{e o:Expr}{es:List Expr}{ta:TE}{t:TA}
theorem zzk{pins:List (Addr×Obj)}{σ : St}{H:Hp}{s:Shared}{Q:VK}{us:List Value}{vs:List V}(F:FnOk X.prog X.w X.K X.mg X.base CX k f fd ps sp)(hr:Room k X.A)(hb:Binds X.K fd ps ds)(hd:Vals dvs ds)(hx:zr0 CX X E)
  (I:Inv X pins σ H s) (r:Vals vs us) (h:sp (vs++dvs) H Q E):wpAny (model X.prog X.w) X.A (call (.ref f) us) (EP X pins σ Q) X.xe s:=by
 have r2:Vals (vs++dvs) (us++ds):=r.append hd
 have hl:(us++ds).length=ps.length:=by rw [<- r2.length]; exact F.len _ _ _ _ h
 refine wpAny_call (codeAny_mono (F.run X.A X.stack s H ⟨us,[]⟩ (us++ds) (vs++dvs) Q E hr I.env0 (hb s us I.kIn hl) r2 h) fun r s' hq=>?_)
 cases r with
 | error e=>exact hx pins σ H s e s' I hq
 | ok fl=>
  cases fl with
  | ret u=>exact I.after hq
  | next=>exact False.elim hq
  | brk=>exact False.elim hq
  | cont=>exact False.elim hq
theorem zy1{pl:Sem Bool}(he:PE X o ta)(c:Cls X.K C)(hm:Meth X.K C m f)(F:FnOk X.prog X.w X.K X.mg X.base CX k f fd ps sp)(hr:Room k X.A)(hb:Binds X.K fd ps ds)(hd:Vals dvs ds)(hx:zr0 CX X E)
  (ht:eval (.Call (.Attribute o m apos) [] [] pos) X.env=(do
   let ov <- eval o X.env
   standAt apos.atName
   let (f,first) <- holding [ov] (getMethod ov m pl)
   callWith pos f first (backTo pos (starEach [] X.env)) (backToKw pos (keywordEach [] X.env))):=by rfl) :
  PE X (.Call (.Attribute o m apos) [] [] pos) (zns C m sp dvs E ta zra):=by
 refine⟨?_⟩
 intro pins s σ H Q I h
 refine PySem.W.methodCall_KW (pl:=pl) (thn (he pins s σ H _ I h) fun u s1 ⟨x,H1,I1,rx,a,dx,fs,ex,ea,l,q⟩=>?_) ht
 subst ex
 obtain rfl:u=Value.ref a:=rx
 refine zsi I1 ea c hm l ?_
 exact PySem.W.callWith_K0 (first:=[.ref a]) I1.kIn hm.kp (zzk (us:=[.ref a]) (vs:=[.ref a]) F hr hb hd hx I1 (.cons rfl .nil) q)
structure Mk(K:PySem.W.Frag)(C f:Addr):Prop where
 makes:PySem.W.makesIn K C=true
 init:PySem.W.findIn K (.ref C) "__init__" = some (some (.ref f))
 fn:PySem.W.isFn K (.ref f)=true
 kp:PySem.W.keepIn K (.ref C)=true
theorem zxr{pins:List (Addr×Obj)}{σ : St}{H:Hp}{s:Shared}{Q:VK}{us:List Value}{vs:List V}(M:Mk X.K C f)(F:FnOk X.prog X.w X.K X.mg X.base CX k f fd ps sp)(hr:Room (k+1) X.A)(hb:Binds X.K fd ps ds)(hd:Vals dvs ds)
  (hx:zr0 CX X E) (I:Inv X pins σ H s) (r:Vals vs us)
  (h:∀x dx,H x=none->H dx=none->dx≠x->sp (.ref x::(vs++dvs)) (upd (upd H dx (.own x)) x (.ins C dx [])) (fun v H2=>v=.non/\Q (.ref x) H2) E) :
  wpAny (model X.prog X.w) X.A (call (.ref C) us) (EP X pins σ Q) X.xe s:=by
 have hq:=h (s.heap.objs.size+1) s.heap.objs.size (I.hok.fresh (Nat.le_succ _)) (I.hok.fresh (Nat.le_refl _)) (Nat.ne_of_lt (Nat.lt_succ_self _))
 have I2:=Inv.made (C:=C) I
 have r2:Vals (V.ref (s.heap.objs.size+1)::(vs++dvs)) (Value.ref (s.heap.objs.size+1)::(us++ds)):=.cons rfl (r.append hd)
 have hl:(Value.ref (s.heap.objs.size+1)::us++ds).length=ps.length:=by
  have e:=r2.length
  rw [F.len _ _ _ _ hq] at e
  exact e.symm
 refine wpAny_call (zyi (f:=f) I.kIn M.makes M.init (beq_iff_eq.mp M.fn) (codeAny_mono (F.run _ X.stack _ _ ⟨Value.ref (s.heap.objs.size+1)::us,[]⟩ (Value.ref (s.heap.objs.size+1)::(us++ds)) _ _ E (hr.make C us [])
  (I2.env0.make C us []) (hb _ (Value.ref (s.heap.objs.size+1)::us) I2.kIn hl) r2 hq) fun r s' hq'=>?_))
 cases r with
 | error e=>exact hx pins σ _ _ e s' I2 hq'
 | ok fl=>
  cases fl with
  | ret u=>
   obtain⟨v,H',I3,rv,ev,q3⟩:=I2.after hq'
   subst ev
   exact⟨rv,⟨V.ref (s.heap.objs.size+1),H',I3,rfl,q3⟩⟩
  | next=>exact False.elim hq'
  | brk=>exact False.elim hq'
  | cont=>exact False.elim hq'
theorem q0r(M:Mk X.K C f)(F:FnOk X.prog X.w X.K X.mg X.base CX k f fd ps sp)(hr:Room (k+1) X.A)(hg:Gl X x)(hm:X.mg x=some (.ref C))(hb:Binds X.K fd ps ds)(hd:Vals dvs ds)(hx:zr0 CX X E)
  (ha:PA X (e::es) t) (hdb:(x == ("__debug__" : Str))=false:=by decide) (he:starEach (e::es) X.env=(false,eval e X.env)::starEach es X.env:=by rfl) (hpl:(backTo pos (starEach es X.env)).any (·.1)=false:=by rfl) :
  PE X (.Call (.Name x p) (e::es) [] pos) (ztj C sp dvs E t):=by
 refine⟨?_⟩
 intro pins s σ H Q I h
 refine wpAny_Call_Name_kw (zhq I hg hm ?_ hdb)
 refine PySem.W.callWith_K (h₀:=X.base) I.ok.mod.kin M.kp (thn (ha pos pins s σ H _ I h) fun us s1 ⟨vs,H1,I1,r,q⟩=>⟨I1.kIn,?_⟩) he hpl
 exact zxr M F hr hb hd hx I1 r q
end
section
variable{X:Cx}{CX:CXT}{k:Nat}{f C:Addr}{fd:FuncData}{ps ks:List Str}{sp:Sp}{E:XK}{x m:Str}{p pos apos kpos:Pos}{e o:Expr}{es:List Expr}{kws:List Keyword}{te ta:TE}{t tk:TA}{nm:Option Str}
structure KBinds(K:PySem.W.Frag)(fd:FuncData)(ps ks:List Str)(g:List Value->List Value->List Value)(gV:List V->List V->List V):Prop where
 to:∀(s:Shared) (us ws:List Value),K.In s.heap->(g us ws).length=ps.length->BindsTo s fd ⟨us,ks.zip ws⟩ (ps.zip (g us ws))
 rel:∀{vs:List V} {us:List Value} {zs:List V} {ws:List Value},Vals vs us->Vals zs ws->Vals (gV vs zs) (g us ws)
variable{g:List Value->List Value->List Value}{gV:List V->List V->List V}
end
structure FnScope(N P:List Str)(sc:Scope):Prop where
 kind:sc.kind=.function
 co:sc.isCoroutine=false
 gen:sc.isGenerator=false
 nd:N.Nodup
 pre:N.take P.length=P
 par:∀x∈P,sc.names.lookup x=some .local\/sc.names.lookup x=some .cell
 nofree:∀y∈sc.names,y.2≠.free
theorem zng{kindOf:Str->Option NameKind}{x:Str}:∀{binds:List (Str×Value)} {m:Str->Option Value},(∀v,(x,v)∉binds)->bindL kindOf binds m x=m x
 | [],_,_=>rfl
 | (n,v)::r,m,h=>by
  unfold bindL
  rw [zng fun w hw=>h w (List.mem_cons_of_mem _ hw)]
  split
  ·have:x≠n:=by rintro rfl; exact h v List.mem_cons_self
   simp[this]
  ·rfl
theorem zni{kindOf:Str->Option NameKind}{x:Str}:∀{binds:List (Str×Value)} {m:Str->Option Value},(∀v,(x,v)∉binds)->bindC kindOf binds m x=m x
 | [],_,_=>rfl
 | (n,v)::r,m,h=>by
  unfold bindC
  rw [zni fun w hw=>h w (List.mem_cons_of_mem _ hw)]
  split
  ·rfl
  ·have:x≠n:=by rintro rfl; exact h v List.mem_cons_self
   simp[this]
theorem znh{kindOf:Str->Option NameKind}{x:Str}{v:Value}:∀{P:List Str} {vs:List Value} {i:Nat} {m:Str->Option Value},P.Nodup->P[i]?=some x->vs[i]?=some v->kindOf x=some .local->
  bindL kindOf (P.zip vs) m x=some v
 | [],_,_,_,_,h,_,_=>by simp at h
 | _::_,[],_,_,_,_,h,_=>by simp at h
 | p::P,w::vs,0,m,nd,h1,h2,hk=>by
  simp at h1 h2; subst h1; subst h2
  show bindL kindOf ((p,w)::P.zip vs) m p=_
  unfold bindL
  rw [zng fun v hv=>(List.nodup_cons.mp nd).1 (List.of_mem_zip hv).1,if_pos hk]
  simp
 | p::P,w::vs,i+1,m,nd,h1,h2,hk=>by
  show bindL kindOf ((p,w)::P.zip vs) m x=_
  unfold bindL
  exact znh (i:=i) (List.nodup_cons.mp nd).2 (by simpa using h1) (by simpa using h2) hk
theorem znj{kindOf:Str->Option NameKind}{x:Str}{v:Value}:∀{P:List Str} {vs:List Value} {i:Nat} {m:Str->Option Value},P.Nodup->P[i]?=some x->vs[i]?=some v->kindOf x≠some .local->
  bindC kindOf (P.zip vs) m x=some v
 | [],_,_,_,_,h,_,_=>by simp at h
 | _::_,[],_,_,_,_,h,_=>by simp at h
 | p::P,w::vs,0,m,nd,h1,h2,hk=>by
  simp at h1 h2; subst h1; subst h2
  show bindC kindOf ((p,w)::P.zip vs) m p=_
  unfold bindC
  rw [zni fun v hv=>(List.nodup_cons.mp nd).1 (List.of_mem_zip hv).1,if_neg hk]
  simp
 | p::P,w::vs,i+1,m,nd,h1,h2,hk=>by
  show bindC kindOf ((p,w)::P.zip vs) m x=_
  unfold bindC
  exact znj (i:=i) (List.nodup_cons.mp nd).2 (by simpa using h1) (by simpa using h2) hk
def start:List Str->List V->St
 | _::N,v::vs=>some v::start N vs
 | _::N,[]=>none::start N []
 | [],_=>[]
theorem q30{n:Str}{N:List Str}{v:V}{vs:List V}:start (n::N) (v::vs)=some v::start N vs:=rfl
theorem q2z{n:Str}{N:List Str}:start (n::N) []=none::start N []:=rfl
theorem ztr:start [] []=[]:=rfl
theorem zih{n:Str}{N:List Str}{v:V}{vs:List V}{P:V->Prop}:atS 0 (start (n::N) (v::vs)) P=P v:=rfl
theorem zig{i:Nat}{n:Str}{N:List Str}{v:V}{vs:List V}{P:V->Prop}:atS (i+1) (start (n::N) (v::vs)) P=atS i (start N vs) P:=rfl
theorem zdh{n:Str}{N:List Str}{v w:V}{vs:List V}{Q:St->Prop}:zrl 0 v (start (n::N) (w::vs)) Q=Q (some v::start N vs):=rfl
theorem zdg{i:Nat}{n:Str}{N:List Str}{v w:V}{vs:List V}{Q:St->Prop}:zrl (i+1) v (start (n::N) (w::vs)) Q=zrl i v (start N vs) fun σ'=>Q (some w::σ'):=rfl
theorem zdj{n:Str}{N:List Str}{v:V}{Q:St->Prop}:zrl 0 v (start (n::N) []) Q=Q (some v::start N []):=rfl
theorem zdi{i:Nat}{n:Str}{N:List Str}{v:V}{Q:St->Prop}:zrl (i+1) v (start (n::N) []) Q=zrl i v (start N []) fun σ'=>Q (none::σ'):=rfl
theorem zpj:∀N:List Str,start N []=List.replicate N.length none
 | []=>rfl
 | _::N=>by rw [start,zpj N]; rfl
theorem zdc:∀{N:List Str} {vs:List V},vs.length<=N.length->start N vs=vs.map some++List.replicate (N.length - vs.length) none
 | N,[],_=>by rw [zpj]; simp
 | _::N,v::vs,h=>by
  rw [start,zdc (by simpa using h)]
  simp
 | [],_::_,h=>absurd h (by simp)
def zl1(CX:CXT)(P:Program)(w:World)(K:PySem.W.Frag)(mg:Str->Option Value)(base:Heap)(N:List Str)(qual:Str)(scope:Scope)(f:Addr)(cd:Value)(A:Around)(outer:List Env)(s:Shared)(H:Hp)(E:XK):Cx where
 prog:=P
 w:=w
 K:=K
 mg:=mg
 base:=base
 A:=A.deeper (envOfC qual scope s.heap.objs.size f cd)
 N:=N
 s₀:=s
 H₀:=H
 env:=envOfC qual scope s.heap.objs.size f cd
 outer:=outer
 stack:=envOfC qual scope s.heap.objs.size f cd::outer
 ex:=[]
 calm:=true
 fn:=fun _=>true
 pn:=[]
 xe:=fun e s'=>wpAny (model P w) (A.deeper (envOfC qual scope s.heap.objs.size f cd)) (leaving (envOfC qual scope s.heap.objs.size f cd) e) (fun _ s''=>CX outer H s E e s'') (fun e' s''=>CX outer H s E e' s'') s'
theorem zqu{sc:Scope}{n:Nat}{x:Str}(h:sc.names.lookup x=some .cell):∃c,(cellsFrom n sc.names []).lookup x=some c:=by
 have q:=PySem.W.cellsFrom_some sc.names n [] (.inl h)
 exact Option.isSome_iff_exists.mp q
theorem zvm{CX:CXT}{P:Program}{w:World}{K:PySem.W.Frag}{mg:Str->Option Value}{base:Heap}{N ps:List Str}{qual:Str}{scope:Scope}{f:Addr}{cd:Value}{A:Around}{outer:List Env}{s s1:Shared}{H:Hp}{E:XK}{us:List Value}{vs:List V}
  (S:FnScope N ps scope) (hd:A.handled=none) (e0:Env0 P w K mg base A outer s H) (hl:vs.length=ps.length) (r:Vals vs us)
  (x:InCallC s s.heap.objs.size (bindL (envOfC qual scope s.heap.objs.size f cd).kindOf (ps.zip us) fun _=>none) (cellsFrom (s.heap.objs.size+1) scope.names []) (bindC (envOfC qual scope s.heap.objs.size f cd).kindOf (ps.zip us) fun _=>none) s1) :
  Inv (zl1 CX P w K mg base N qual scope f cd A outer s H E) [] (start N vs) H s1:=by
 have hpl:ps.length<=N.length:=by have:=congrArg List.length S.pre; rw [List.length_take] at this; omega
 obtain⟨h1,tk,rfl,hk⟩:=x.done
 have noA:∀b:Addr,b∉(zl1 CX P w K mg base N qual scope f cd A outer s H E).ex:=fun b z=>absurd (show b∈([]:List Addr) from z) (by simp)
 refine⟨⟨e0.mod,S.kind,rfl,rfl,Nat.le_refl _,fun y z c h1 h2=>?_,fun y hy=>?_,fun y c _ h=>?_,fun _=>hd,Around.frames_deeper e0.frames,.inr ⟨rfl,rfl⟩,fun b z=>absurd z (noA b),e0.bs,e0.bsz,fun b _ _=>noA b,fun b z=>absurd z (noA b),e0.funs,e0.frf⟩,
  rfl,e0.bare,Un.kept hk,⟨_,x.toInCall.ns,fun i y v h1 h2 h3=>?_⟩,fun y c h=>⟨_,x.cell y c h⟩,e0.hok.fresh (Nat.le_refl _),fun y c h=>?_,fun p hp=>absurd (show p∈([]:List (Addr×Obj)) from hp) (by simp),e0.hok.kept hk,?_⟩
 ·exact name_of_addr x.apart (PySem.mem_of_lookup h1) (PySem.mem_of_lookup h2)
 ·have hy:scope.names.lookup y=some .cell\/scope.names.lookup y=some .free:=hy
  rcases hy with hy | hy
  ·exact zqu hy
  ·exact absurd rfl (S.nofree _ (PySem.mem_of_lookup hy))
 ·exact Nat.le_of_lt (x.above y c (PySem.mem_of_lookup h))
 ·have hi:i < vs.length:=by
   rw [zdc (by omega)] at h2
   by_cases hi:i < vs.length
   ·exact hi
   ·rw [List.getElem?_append_right (by simpa using hi)] at h2
    rw [List.getElem?_replicate] at h2
    split at h2<;>cases h2
  have ha:vs[i]?=some v:=by
   rw [zdc (by omega)] at h2
   rw [List.getElem?_append_left (by simpa using hi),List.getElem?_map] at h2
   cases e:vs[i]? with
   | none=>rw [e] at h2; cases h2
   | some a=>rw [e] at h2; cases h2; rfl
  obtain⟨u,hu,rv⟩:=r.get ha
  have hp:ps[i]?=some y:=by
   rw [<- S.pre,List.getElem?_take_of_lt (by omega)]; exact h1
  have ndP:ps.Nodup:=by rw [<- S.pre]; exact S.nd.sublist (List.take_sublist _ _)
  refine⟨u,rv,?_⟩
  rcases S.par y (List.mem_of_getElem? hp) with k | k
  ·exact .inl ⟨k,znh ndP hp hu k⟩
  ·obtain⟨c,e⟩:=zqu (n:=s.heap.objs.size+1) k
   refine .inr ⟨.inl k,c,e,?_⟩
   have q:=x.cell y c e
   rw [znj ndP hp hu (by show scope.names.lookup y≠_; rw [k]; decide)] at q
   exact q
 ·exact e0.hok.fresh (Nat.le_of_lt (x.above y c (PySem.mem_of_lookup h)))
 ·show(start N vs).length=N.length
  rw [zdc (by omega)]
  rw [List.length_append,List.length_map,List.length_replicate]
  omega
theorem q4c{CX:CXT}{P:Program}{w:World}{K:PySem.W.Frag}{mg:Str->Option Value}{base:Heap}{k:Nat}{f:Addr}{name qual:Str}{params:Arguments}{body:List Stmt}{scope:Scope}{dV kV doc pm cdv ct oc:Value}{an od:Option Addr}
  {osl:Array (Option Value)} {N ps:List Str} {sp:Sp} (lk:K.lookup f=some ⟨oc,od,.func (PySem.W.fnOf name qual params body scope dV kV doc pm an cdv ct),osl⟩) (hcd:PySem.W.codeIn K cdv qual=true) (S:FnScope N ps scope)
  (len:∀vs H Q E,sp vs H Q E->vs.length=ps.length)
  (hbody:∀(A:Around) (outer:List Env) (s:Shared) (H:Hp) (vs:List V) (Q:VK) (E:XK),Room k (A.deeper (envOfC qual scope s.heap.objs.size f cdv))->sp vs H Q E->
   ∃t,PSs (zl1 CX P w K mg base N qual scope f cdv A outer s H E) body t/\t {nx:=fun _ H'=>Q .non H',rt:=Q} (start N vs) H) :
  FnOk P w K mg base CX (k+1) f (PySem.W.fnOf name qual params body scope dV kV doc pm an cdv ct) ps sp:=by
 refine⟨len,fun A outer s H args us vs Q E hr e0 hb r hsp=>?_⟩
 have hl:=len _ _ _ _ hsp
 have KX:K.In s.heap:=e0.mod.kin.keeps fun b o e=>(e0.bs b o e).1
 have lim:s.heap.NoLimit:=e0.mod.nolimit.keeps fun b o e=>(e0.bs b o e).1
 have hkind:∀y∈ps.zip us,scope.names.lookup y.1=some .local\/(scope.names.lookup y.1=some .cell/\((cellsFrom (s.heap.objs.size+1) scope.names []).lookup y.1).isSome=true):=fun⟨n,v⟩ hy=>by
  rcases S.par n (List.of_mem_zip hy).1 with q | q
  ·exact .inl q
  ·exact .inr ⟨q,PySem.W.cellsFrom_some _ _ _ (.inl q)⟩
 refine codeAny_call_function hr.depth (KX _ _ lk) rfl S.co S.gen rfl (PySem.W.codeRec_of KX hcd) (hb _ _ _ _ ?_)
 refine wpAny_newFunctionEnv_cells S.kind hkind fun env he s1 x=>?_
 subst he
 refine⟨lim.keeps x.toInCall.keep,codeAny_func ?_⟩
 obtain⟨t,ht,hq⟩:=hbody A outer s H vs Q E (hr.deeper _) hsp
 have I:Inv (zl1 CX P w K mg base N qual scope f cdv A outer s H E) [] (start N vs) H s1:=zvm S hr.hd e0 hl r x
 refine wpAny_mono (ht [] s1 (start N vs) H _ I hq) (fun fl s' hs=>?_) fun e s' hs=>hs
 have fin:∀{σ':St} {H':Hp} {v:V} {u:Value},Inv (zl1 CX P w K mg base N qual scope f cdv A outer s H E) [] σ' H' s'->RelV v u->Q v H'->CE outer P w H s Q u s':=
  fun {σ' H' v u} J rv q=>⟨v,H',J.os,J.bare,J.base,J.hok,rv,q⟩
 cases fl with
 | ret u=>
  obtain⟨v,σ',H',J,rv,q⟩:=hs
  exact fin J rv q
 | next=>
  obtain⟨σ',H',J,q⟩:=hs
  exact fin (v:=V.non) (u:=Value.none) J rfl q
 | brk=>
  obtain⟨_,_,_,q⟩:=hs
  exact False.elim q
 | cont=>
  obtain⟨_,_,_,q⟩:=hs
  exact False.elim q
end L2
namespace L2
open PySem PySem.Spec PyProof.Rows
section
variable{X:Cx}{x:Str}{p pos:Pos}{e:Expr}{es:List Expr}{t:TA}{id T:String}{r:List V->Hp->VK->Prop}
def tCB(r:List V->Hp->VK->Prop)(t:TA):TE:=fun σ H Q=>t σ H fun vs H1=>r vs H1 Q
theorem zy3(hc:CallR X (.builtin id) r)(hg:Gl X x)(hm:X.mg x=none)(hv:bootBuiltins x=some (.builtin id))(ha:PA X (e::es) t) (hn:x≠"__name__":=by decide) (hdb:(x == ("__debug__" : Str))=false:=by decide)
  (he:starEach (e::es) X.env=(false,eval e X.env)::starEach es X.env:=by rfl) (hpl:(backTo pos (starEach es X.env)).any (·.1)=false:=by rfl):PE X (.Call (.Name x p) (e::es) [] pos) (tCB r t):=by
 refine⟨?_⟩
 intro pins s σ H Q I h
 refine wpAny_Call_Name_kw (zje I hg hm hv ?_ hn hdb)
 exact PyProof.Rows.callWith_builtin1 (thn (ha pos pins s σ H _ I h) fun us s1 ⟨vs,H1,I1,r1,q1⟩=>hc pins s1 σ H1 vs us Q I1 r1 q1) he hpl
theorem zup(hc:CallR X (.type T) r)(hg:Gl X x)(hm:X.mg x=none)(hv:bootBuiltins x=some (.type T))(ha:PA X (e::es) t) (hn:x≠"__name__":=by decide) (hdb:(x == ("__debug__" : Str))=false:=by decide)
  (he:starEach (e::es) X.env=(false,eval e X.env)::starEach es X.env:=by rfl) (hpl:(backTo pos (starEach es X.env)).any (·.1)=false:=by rfl):PE X (.Call (.Name x p) (e::es) [] pos) (tCB r t):=by
 refine⟨?_⟩
 intro pins s σ H Q I h
 refine wpAny_Call_Name_kw (zje I hg hm hv ?_ hn hdb)
 exact PyProof.Rows.callWith_type1 (thn (ha pos pins s σ H _ I h) fun us s1 ⟨vs,H1,I1,r1,q1⟩=>hc pins s1 σ H1 vs us Q I1 r1 q1) he hpl
end
end L2
namespace HT
open PySem PyProof.Rows
section
open PySem.SeqAt
open PySem.AutoSeq1 (wpAny_loadPart')
open PySem.MeetsSeq PySem.MeetsSeq2 PySem.MeetsSeq3
end
section
variable{prog:Program}{w:World}{A:Around}{E:Value->Shared->Prop}{s:Shared}
theorem q1w{t b:Addr}{vs ws:List Value}{Q:Value->Shared->Prop}(ht:IsTup s.heap t vs.toArray)(hb:IsTup s.heap b ws.toArray)(hv:vs≠[])
  (h1:ws=[]->Q (.ref t) s) (h2:ws≠[]->Q (.ref s.heap.objs.size) {s with heap:=s.heap.push {cls:=.type "tuple",data:=.seq (vs++ws).toArray}})
  (hsz:vs.length+ws.length<=sizeLine):wpAny (model prog w) A (binaryOp .Add (.ref t) (.ref b)) Q E s:=by
 obtain⟨⟨cls,dd,data,sl⟩,ho,hc,n,hd⟩:=id ht
 obtain⟨⟨cls2,dd2,data2,sl2⟩,ho2,hc2,n2,hd2⟩:=id hb
 simp only at hc hd hc2 hd2
 subst hc hd hc2 hd2
 have e:vs.toArray++ws.toArray=(vs++ws).toArray:=by simp
 by_cases hw:ws=[]
 ·exact concat_meets ⟨_,ho,rfl⟩ ⟨_,ho2,rfl⟩ noFill_tuple_add seq_tuple_add PySem.F.slot_tuple_add PySem.F.entry_tuple_add (PySem.F.args_tuple_add_2 _ _)
   (tuple_addW1 t b vs.toArray ws.toArray n n2 dd dd2 sl sl2 (by simpa using hv) (by simp[hw])) ⟨ho,ho2,h1 hw⟩
 ·refine concat_meets ⟨_,ho,rfl⟩ ⟨_,ho2,rfl⟩ noFill_tuple_add seq_tuple_add PySem.F.slot_tuple_add PySem.F.entry_tuple_add (PySem.F.args_tuple_add_2 _ _)
   (tuple_addW2 t b vs.toArray ws.toArray n n2 dd dd2 sl sl2 (by simpa using hv) (by simpa using hw) (by rw [List.size_toArray,List.size_toArray]; exact hsz)) ⟨ho,ho2,?_⟩
  rw [e]
  exact h2 hw
def sIx(n d:Nat):Option Int->Nat
 | none=>d
 | some v=>if v < 0 then(v+(n:Int)).toNat else min v.toNat n
theorem zxp(n d:Nat):sIx n d none=d:=rfl
theorem q0f(n d k:Nat):sIx n d (some (k:Int))=min k n:=by
 show(if(k:Int) < 0 then((k:Int)+(n:Int)).toNat else min (k:Int).toNat n)=min k n
 rw [if_neg (by omega),Int.toNat_natCast]
end
end HT
namespace L2
open PySem PySem.Spec PyProof.Rows
abbrev TO:=St->Hp->(Option Int->Hp->Prop)->Prop
abbrev POv(X:Cx)(e:Option Expr)(t:TO):Prop:=
 ∀(pins:List (Addr×Obj)) (s:Shared) (σ : St) (H:Hp) (Q:Option Int->Hp->Prop),Inv X pins σ H s->t σ H Q->
  wpAny (model X.prog X.w) X.A (evalPart e X.env) (fun u s'=>∃o H',Inv X pins σ H' s'/\IsPart u o/\Q o H') X.xe s
structure PO(X:Cx)(e:Option Expr)(t:TO):Prop where
 run:POv X e t
instance{X:Cx}{e:Option Expr}{t:TO}:CoeFun (PO X e t) (fun _=>POv X e t):=⟨PO.run⟩
def zf0:TO:=fun _ H Q=>Q none H
def zr8(t:TE):TO:=fun σ H Q=>t σ H fun x H1=>isI x fun i=>Q (some i) H1
section
variable{X:Cx}{e:Expr}{te:TE}{lo hi:Option Expr}{tl th:TO}{pos p2:Pos}
theorem zui:PO X none zf0:=by
 refine⟨?_⟩
 intro pins s σ H Q I h
 rw [evalPart_none]
 exact wpAny_pure ⟨none,H,I,.none,h⟩
theorem zuh(h:PE X e te):PO X (some e) (zr8 te):=by
 refine⟨?_⟩
 intro pins s σ H Q I hw
 rw [evalPart_some]
 refine thn (h pins s σ H _ I hw) fun u s1 ⟨x,H1,I1,r1,q1⟩=>?_
 obtain⟨i,rfl,q⟩:=isI.o q1
 obtain⟨t,rfl⟩:=r1
 exact⟨some i,H1,I1,.int i t,q⟩
def SlR(X:Cx)(r:V->Option Int->Option Int->Hp->VK->Prop):Prop:=
 ∀(pins:List (Addr×Obj)) (s:Shared) (σ : St) (H:Hp) (x:V) (v vl vu:Value) (lo hi:Option Int) (sl:Addr) (Q:VK),Inv X pins σ H s->RelV x v->s.heap.IsSliceOf sl vl vu .none->IsPart vl lo->IsPart vu hi->r x lo hi H Q->
  ∃T id,typeLookup (.type T) "__getitem__" = pure (some (.builtin id))/\s.TypeIs v T/\wpAny (model X.prog X.w) X.A (getItem v (.ref sl)) (EP X pins σ Q) X.xe s
theorem SlR.or{r r':V->Option Int->Option Int->Hp->VK->Prop}(h:SlR X r)(h':SlR X r'):SlR X (fun x lo hi H Q=>r x lo hi H Q\/r' x lo hi H Q):=by
 intro pins s σ H x v vl vu lo hi sl Q I rx hs pl pu q
 rcases q with q | q
 ·exact h pins s σ H x v vl vu lo hi sl Q I rx hs pl pu q
 ·exact h' pins s σ H x v vl vu lo hi sl Q I rx hs pl pu q
def tSl(r:V->Option Int->Option Int->Hp->VK->Prop)(te:TE)(tl th:TO):TE:=fun σ H Q=>te σ H fun x H1=>tl σ H1 fun l H2=>th σ H2 fun u H3=>r x l u H3 Q
theorem zpv{r:V->Option Int->Option Int->Hp->VK->Prop}(hr:SlR X r)(he:PE X e te)(hl:PO X lo tl)(hu:PO X hi th):PE X (.Subscript e (.Slice lo hi none p2) pos) (tSl r te tl th):=by
 refine⟨?_⟩
 intro pins s σ H Q I h
 refine Subscript_ (thn (he pins s σ H _ I h) fun v s1 ⟨x,H1,I1,r1,q1⟩=>?_)
 refine wpAny_Slice (thn (hl pins s1 σ H1 _ I1 q1) fun vl s2 ⟨l,H2,I2,pl,q2⟩=>thn (hu pins s2 σ H2 _ I2 q2) fun vu s3 ⟨u,H3,I3,pu,q3⟩=>?_)
 rw [evalPart_none]
 refine wpAny_pure ?_
 have I4:Inv X pins σ H3 {s3 with heap:=s3.heap.push {cls:=.type "slice",data:=.fields #[vl,vu,.none]}}:=I3.kept (t':=s3.toks) fun b ob q=>Heap.get?_push_of_some _ q
 obtain⟨T,id,hT,ht,hg⟩:=hr pins {s3 with heap:=s3.heap.push {cls:=.type "slice",data:=.fields #[vl,vu,.none]}} σ H3 x v vl vu l u s3.heap.objs.size Q I4 r1 (Heap.IsSliceOf.new ..) pl pu q3
 show wpAny (model X.prog X.w) X.A (subscriptTail e (.Slice lo hi none p2) v (.ref s3.heap.objs.size)) (EP X pins σ Q) X.xe {s3 with heap:=s3.heap.push {cls:=.type "slice",data:=.fields #[vl,vu,.none]}}
 exact tail_any (ops:=[.ref s3.heap.objs.size,v]) ht hT hg (by with_unfolding_all rfl)
def zwn(xs:List V)(lo hi:Option Int):List V:=(xs.drop (HT.sIx xs.length 0 lo)).take (HT.sIx xs.length xs.length hi - HT.sIx xs.length 0 lo)
theorem zp8(xs:List V)(lo hi:Option Int):(zwn xs lo hi).length<=xs.length:=by
 unfold zwn
 rw [List.length_take,List.length_drop]
 omega
def q32(K:PySem.W.Frag):V->Option Int->Option Int->Hp->VK->Prop:=fun x lo hi H Q=>∃a xs,x=.ref a/\SqT K H a xs/\
 ¬ (HT.sIx xs.length 0 lo=0/\HT.sIx xs.length xs.length hi=xs.length)/\∀p,H p=none->Q (.ref p) (upd H p (.tup (zwn xs lo hi)))
def q5o(K:PySem.W.Frag):R2:=fun x y H Q=>∃a b xs ys,x=.ref a/\y=.ref b/\SqT K H a xs/\SqT K H b ys/\xs≠[]/\xs.length+ys.length<=sizeLine/\
 (ys=[]->Q (.ref a) H)/\(ys≠[]->∀p,H p=none->Q (.ref p) (upd H p (.tup (xs++ys))))
theorem Vals.nil_iff{xs:List V}{us:List Value}(r:Vals xs us):us=[]↔xs=[]:=by
 cases r with
 | nil=>simp
 | cons _ _=>simp
theorem q12:OpR X (binaryOp .Add) (q5o X.K):=by
 intro pins s σ H x y v u Q I rx ry h
 obtain⟨a,b,xs,ys,rfl,rfl,ha,hb,hx,hz,q1,q2⟩:=h
 cases rx
 cases ry
 obtain⟨its,r1,p1,_⟩:=I.tuple ha
 obtain⟨its2,r2,p2,_⟩:=I.tuple hb
 refine HT.q1w p1 p2 (fun z=>hx (r1.nil_iff.mp z)) (fun z=>⟨.ref a,H,I,rfl,q1 (r2.nil_iff.mp z)⟩) (fun z=>?_) (by rw [<- r1.length,<- r2.length]; exact hz)
 refine⟨.ref s.heap.objs.size,_,I.laid (t':=s.toks) (o:=.tup (xs++ys)) (fun b ob q=>Heap.get?_push_of_some _ q) (Nat.le_refl _) ?_,rfl,q2 (fun w=>z (r2.nil_iff.mpr w)) _ (I.hok.fresh (Nat.le_refl _))⟩
 exact⟨by rw [List.length_append]; exact hz,_,r1.append r2,IsTup.new _ _⟩
end
end L2
namespace L2
open PySem PySem.Spec PyProof.Rows
def ixN(n:Nat)(i:Int):Option Nat:=if 0<=i then(if i < n then some i.toNat else none) else if -(n:Int)<=i then some (i+n).toNat else none
def atI{α : Type}(xs:List α)(i:Int):Option α:=(ixN xs.length i).bind fun j=>xs[j]?
theorem q1f{n:Nat}{i:Int}{j:Nat}(h:ixN n i=some j):seqIndex? i n=some j/\j < n/\-(n:Int)<=i/\i < n:=by
 unfold ixN at h
 by_cases h0:0<=i
 ·rw [if_pos h0] at h
  by_cases h1:i < n
  ·rw [if_pos h1] at h
   have e:i.toNat=j:=Option.some.inj h
   exact⟨by rw [seqIndex_of h0 h1,e],by omega,by omega,h1⟩
  ·rw [if_neg h1] at h; cases h
 ·rw [if_neg h0] at h
  by_cases h1 : -(n:Int)<=i
  ·rw [if_pos h1] at h
   have e:(i+n).toNat=j:=Option.some.inj h
   exact⟨by rw [seqIndex_neg (by omega) h1,e],by omega,h1,by omega⟩
  ·rw [if_neg h1] at h; cases h
theorem zx5{α : Type}{xs:List α}{i:Int}{v : α}(h:atI xs i=some v):∃j,seqIndex? i xs.length=some j/\xs[j]?=some v/\j < xs.length/\-(xs.length:Int)<=i/\i < xs.length:=by
 unfold atI at h
 cases e:ixN xs.length i with
 | none=>rw [e] at h; cases h
 | some j=>
  rw [e] at h
  obtain⟨h1,h2,h3,h4⟩:=q1f e
  exact⟨j,h1,h,h2,h3,h4⟩
theorem z24{α : Type}{xs:List α}{j:Nat}{v : α}(h:xs[j]?=some v):atI xs (j:Int)=some v:=by
 have hj:j < xs.length:=(List.getElem?_eq_some_iff.mp h).1
 have e:ixN xs.length (j:Int)=some j:=by
  unfold ixN
  rw [if_pos (by omega),if_pos (by omega)]; simp
 unfold atI; rw [e]; exact h
def q24(b:Expr):Prop:=∀o i,subscripted b false o i=operate [o,i] (getItem o i)
def IxR(X:Cx)(r:R2):Prop:=
 ∀(value slice:Expr) (pins:List (Addr×Obj)) (s:Shared) (σ : St) (H:Hp) (x y:V) (v u:Value) (Q:VK),Inv X pins σ H s->RelV x v->RelV y u->r x y H Q->
  subscripted slice false v u=operate [v,u] (getItem v u)->wpAny (model X.prog X.w) X.A (subscriptTail value slice v u) (EP X pins σ Q) X.xe s
def MtR(X:Cx)(id:String)(r:V->List V->Hp->VK->Prop):Prop:=
 ∀(pins:List (Addr×Obj)) (s:Shared) (σ : St) (H:Hp) (x:V) (xs:List V) (v:Value) (us:List Value) (Q:VK),Inv X pins σ H s->RelV x v->Vals xs us->r x xs H Q->
  wpAny (model X.prog X.w) X.A (call (.builtin id) (v::us)) (EP X pins σ Q) X.xe s
section
variable{X:Cx}{a b:Expr}{ta tb:TE}{pos:Pos}
theorem IxR.or{r r':R2}(h:IxR X r)(h':IxR X r'):IxR X (fun x y H Q=>r x y H Q\/r' x y H Q):=by
 intro value slice pins s σ H x y v u Q I rx ry q hs
 rcases q with q | q
 ·exact h value slice pins s σ H x y v u Q I rx ry q hs
 ·exact h' value slice pins s σ H x y v u Q I rx ry q hs
theorem MtR.or{id:String}{r r':V->List V->Hp->VK->Prop}(h:MtR X id r)(h':MtR X id r'):MtR X id (fun x xs H Q=>r x xs H Q\/r' x xs H Q):=by
 intro pins s σ H x xs v us Q I rx rs q
 rcases q with q | q
 ·exact h pins s σ H x xs v us Q I rx rs q
 ·exact h' pins s σ H x xs v us Q I rx rs q
theorem z0z{r:R2}(hr:IxR X r)(ha:PE X a ta)(hb:PE X b tb)(hs:q24 b):PE X (.Subscript a b pos) (tOp r ta tb):=by
 refine⟨?_⟩
 intro pins s σ H Q I h
 exact Subscript_ (q5z ha hb I h fun v u s2 x y H2 I2 rx ry q=>hr a b pins s2 σ H2 x y v u Q I2 rx ry q (hs _ _))
def q0j(K:PySem.W.Frag):R2:=fun x y H Q=>isRf x fun p=>∃xs,isI y fun i=>SqL K H p xs/\∃v,atI xs i=some v/\Q v H
def zl0(K:PySem.W.Frag):R2:=fun x y H Q=>isRf x fun p=>∃xs,isI y fun i=>SqT K H p xs/\∃v,atI xs i=some v/\Q v H
def q2i:R2:=fun x y H Q=>∃z i c,x=.str z/\y=.int i/\z.length<=sizeLine/\atI z.cps.toList i=some c/\Q (.str ⟨#[c]⟩) H
theorem z6t:IxR X (q0j X.K):=by
 intro value slice pins s σ H x y v u Q I rx ry h hs
 obtain⟨p,rfl,xs,hA⟩:=isRf.o h
 obtain⟨i,rfl,hq,z,he,q⟩:=isI.o hA
 cases rx
 obtain⟨t,rfl⟩:=ry
 obtain⟨its,r,pl,hz⟩:=I.list hq
 obtain⟨j,h1,h2,h3,h4,h5⟩:=zx5 he
 obtain⟨w,ew,rw'⟩:=r.get h2
 have hl:=r.length
 have hn:=zqc
 have fin:EP X pins σ Q w s:=⟨z,H,I,rw',q⟩
 by_cases h0:0<=i
 ·have hj:i.toNat=j:=by
   rw [seqIndex_of h0 h5] at h1
   exact Option.some.inj h1
  exact item_listR pl.isList h0 (by omega) (by rw [hj]; simpa using ew) fin hs
 ·have hj:(i+(its.toArray.size:Int)).toNat=j:=by
   rw [seqIndex_neg (by omega) h4] at h1
   rw [List.size_toArray,<- hl]
   exact Option.some.inj h1
  exact subscriptTail_builtinR (x:=w) pl.isList.typeIs slot_list_getitem.lookup
   (wpAny_getItem_list_neg (Q:=fun r s'=>r=w/\EP X pins σ Q r s') pl.isList (by omega) (by rw [List.size_toArray]<;>omega) (by omega) (by rw [hj]; simpa using ew) ⟨rfl,fin⟩) hs
theorem z0n:IxR X (zl0 X.K):=by
 intro value slice pins s σ H x y v u Q I rx ry h hs
 obtain⟨p,rfl,xs,hA⟩:=isRf.o h
 obtain⟨i,rfl,hq,z,he,q⟩:=isI.o hA
 cases rx
 obtain⟨t,rfl⟩:=ry
 obtain⟨its,r,pl,hz⟩:=I.tuple hq
 obtain⟨j,h1,h2,h3,h4,h5⟩:=zx5 he
 obtain⟨w,ew,rw'⟩:=r.get h2
 have hl:=r.length
 have hn:=zqc
 have fin:EP X pins σ Q w s:=⟨z,H,I,rw',q⟩
 exact subscriptTail_builtinR (x:=w) pl.typeIs slot_tuple_getitem.lookup
  (getItem_tuple (j:=j) (Q:=fun r s'=>r=w/\EP X pins σ Q r s') pl (by omega) (by omega) (by rw [List.size_toArray,<- hl]; exact h1) (by simpa using ew) ⟨rfl,fin⟩) hs
def rIx(K:PySem.W.Frag):R2:=fun x y H Q=>q0j K x y H Q\/zl0 K x y H Q\/q2i x y H Q
theorem Inv.lst{pins:List (Addr×Obj)}{σ : St}{H:Hp}{s:Shared}{p:Addr}{xs:List V}(I:Inv X pins σ H s)(h:H p=some (.lst xs)) :
  ∃(its:List Value) (n:Nat),Vals xs its/\s.heap.get? p=some {cls:=.type "list",data:=.seq its.toArray n}/\xs.length<=sizeLine:=by
 obtain⟨z,its,n,r,e⟩:=I.hok p _ h
 exact⟨its,n,r,e,z⟩
theorem zlk(lo hi:Option Int)(n:Nat):(sliceBounds lo hi none n).1=((HT.sIx n 0 lo:Nat):Int)/\(sliceBounds lo hi none n).2.1=((HT.sIx n n hi:Nat):Int)/\(sliceBounds lo hi none n).2.2=1:=by
 refine⟨?_,?_,rfl⟩
 ·cases lo with
  | none=>simp[sliceBounds,HT.sIx]
  | some i=>
   simp only[sliceBounds,HT.sIx,Option.getD_none,show(1:Int) > 0 by decide,if_true]
   by_cases h:i < 0
   ·simp only[h,if_true]<;>omega
   ·simp only[h,if_false]<;>omega
 ·cases hi with
  | none=>simp[sliceBounds,HT.sIx]
  | some i=>
   simp only[sliceBounds,HT.sIx,Option.getD_none,show(1:Int) > 0 by decide,if_true]
   by_cases h:i < 0
   ·simp only[h,if_true]<;>omega
   ·simp only[h,if_false]<;>omega
theorem zjs(its:List Value)(lo hi:Option Int):slicePick its.toArray lo hi none=((its.drop (HT.sIx its.length 0 lo)).take (HT.sIx its.length its.length hi - HT.sIx its.length 0 lo)).toArray:=by
 obtain⟨h1,h2,h3⟩:=zlk lo hi its.toArray.size
 unfold slicePick
 rw [h1,h2,h3]
 simp only[sliceRange_one,pick_run,List.size_toArray]<;>rfl
def q2g(K:PySem.W.Frag):V->Option Int->Option Int->Hp->VK->Prop:=fun x lo hi H Q=>∃a xs,x=.ref a/\SqL K H a xs/\∀p,H p=none->Q (.ref p) (upd H p (.lst (zwn xs lo hi)))
theorem ztw:SlR X (q2g X.K):=by
 intro pins s σ H x v vl vu lo hi sl Q I rx hs pl pu h
 obtain⟨a,xs,rfl,hx,q⟩:=h
 cases rx
 obtain⟨its,r,ht,hz⟩:=I.list hx
 have hlen:=r.length
 refine⟨"list",_,slot_list_getitem.lookup,ht.isList.typeIs,?_⟩
 refine wpAny_getItem_list_slice ht.isList hs pl pu .none (by simp) ?_ (by rw [List.size_toArray]<;>omega)
 rw [zjs,<- hlen]
 refine⟨.ref s.heap.objs.size,_,I.laid (t':=s.toks) (o:=.lst (zwn xs lo hi)) (fun b ob q=>Heap.get?_push_of_some _ q) (Nat.le_refl _) ?_,rfl,q _ (I.hok.fresh (Nat.le_refl _))⟩
 exact⟨Nat.le_trans (zp8 xs lo hi) hz,_,0,(r.drop (HT.sIx xs.length 0 lo)).take (HT.sIx xs.length xs.length hi - HT.sIx xs.length 0 lo),Heap.get?_push_size _ rfl⟩
def zab:V->Bool
 | .non=>true
 | .bl _=>true
 | .int _=>true
 | .str _=>true
 | _=>false
def eqV:V->V->Bool
 | .non,.non=>true
 | .bl a,.bl b=>a == b
 | .bl a,.int b=>(if a then 1 else 0) == b
 | .int a,.bl b=>a == (if b then 1 else 0)
 | .int a,.int b=>a == b
 | .str a,.str b=>a == b
 | _,_=>false
theorem q4h{A:Around}{s:Shared}{y x:V}{u v:Value}(ry:RelV y u)(rx:RelV x v)(fy:zab y=true)(fx:zab x=true):SeqAt.EqAt A s u v (eqV y x):=by
 cases y with
 | non=>
  cases ry
  cases x with
  | non=>cases rx; exact SeqAt.EqAt.same _
  | bl b=>cases rx; exact SeqAt.EqAt.none_bool b
  | int b=>obtain⟨t,rfl⟩:=rx; exact SeqAt.EqAt.none_int b t
  | str b=>obtain⟨t,rfl⟩:=rx; exact SeqAt.EqAt.none_str b t
  | _=>exact absurd (show false=true from fx) Bool.false_ne_true
 | bl a=>
  cases ry
  cases x with
  | non=>cases rx; exact SeqAt.EqAt.bool_none a
  | bl b=>cases rx; exact SeqAt.EqAt.bool_bool a b
  | int b=>obtain⟨t,rfl⟩:=rx; exact SeqAt.EqAt.bool_int a b t
  | str b=>obtain⟨t,rfl⟩:=rx; exact SeqAt.EqAt.bool_str a b t
  | _=>exact absurd (show false=true from fx) Bool.false_ne_true
 | int a=>
  obtain⟨t',rfl⟩:=ry
  cases x with
  | non=>cases rx; exact SeqAt.EqAt.int_none a t'
  | bl b=>cases rx; exact SeqAt.EqAt.int_bool a t' b
  | int b=>obtain⟨t,rfl⟩:=rx; exact SeqAt.EqAt.int_int a t' b t
  | str b=>obtain⟨t,rfl⟩:=rx; exact SeqAt.EqAt.int_str a t' b t
  | _=>exact absurd (show false=true from fx) Bool.false_ne_true
 | str a=>
  obtain⟨t',rfl⟩:=ry
  cases x with
  | non=>cases rx; exact SeqAt.EqAt.str_none a t'
  | bl b=>cases rx; exact SeqAt.EqAt.str_bool a t' b
  | int b=>obtain⟨t,rfl⟩:=rx; exact SeqAt.EqAt.str_int a t' b t
  | str b=>obtain⟨t,rfl⟩:=rx; exact SeqAt.EqAt.str_str a t' b t
  | _=>exact absurd (show false=true from fx) Bool.false_ne_true
 | _=>exact absurd (show false=true from fy) Bool.false_ne_true
def eqU(x:V)(u:Value):Bool:=match u with
 | .none=>eqV .non x
 | .bool b=>eqV (.bl b) x
 | .int i _=>eqV (.int i) x
 | .str z _=>eqV (.str z) x
 | _=>false
theorem zzy{x y:V}{u:Value}(r:RelV y u)(f:zab y=true):eqU x u=eqV y x:=by
 cases y with
 | non=>cases r; rfl
 | bl b=>cases r; rfl
 | int i=>obtain⟨t,rfl⟩:=r; rfl
 | str z=>obtain⟨t,rfl⟩:=r; rfl
 | _=>exact absurd (show false=true from f) Bool.false_ne_true
theorem zij{x:V}:∀{xs:List V} {us:List Value},Vals xs us->xs.all zab=true->us.any (eqU x)=xs.any fun y=>eqV y x
 | _,_,.nil,_=>rfl
 | y::xs,u::us,.cons r t,f=>by
  rw [List.all_cons,Bool.and_eq_true] at f
  rw [List.any_cons,List.any_cons,zzy r f.1,zij t f.2]
theorem zdy{A:Around}{s:Shared}{x:V}{v:Value}(rx:RelV x v)(fx:zab x=true):∀{xs:List V} {us:List Value},Vals xs us->xs.all zab=true->∀u∈us,SeqAt.EqAt A s u v (eqU x u)
 | _,_,.nil,_=>fun u hu=>by cases hu
 | y::xs,u::us,.cons r t,f=>fun u' hu=>by
  rw [List.all_cons,Bool.and_eq_true] at f
  rcases List.mem_cons.mp hu with rfl | hu
  ·rw [zzy r f.1]; exact q4h r rx f.1 fx
  ·exact zdy rx fx t f.2 u' hu
def inV(x:V)(xs:List V):Bool:=xs.any fun y=>eqV y x
def rIn(K:PySem.W.Frag)(neg:Bool):R2:=fun x y H Q=>∃p xs,y=.ref p/\(SqL K H p xs\/SqT K H p xs)/\zab x=true/\xs.all zab=true/\Q (.bl (if neg then !inV x xs else inV x xs)) H
theorem zut:OpR X (compareOp .In) (rIn X.K false):=by
 intro pins s σ H x y v u Q I rx ry h
 obtain⟨p,xs,rfl,hq,fx,fs,q⟩:=h
 cases ry
 rcases hq with hq | hq
 ·obtain⟨its,r,pl,hz⟩:=I.list hq
  refine SeqAt.in_listAt (eqU x) pl.isList (fun w hw=>zdy rx fx r fs w (by simpa using hw)) ⟨.bl _,H,I,rfl,?_⟩
  rw [show its.toArray.any (eqU x)=its.any (eqU x) by simp,zij r fs]
  exact q
 ·obtain⟨its,r,pl,hz⟩:=I.tuple hq
  refine SeqAt.in_tupleAt (eqU x) pl (fun w hw=>zdy rx fx r fs w (by simpa using hw)) ⟨.bl _,H,I,rfl,?_⟩
  rw [show its.toArray.any (eqU x)=its.any (eqU x) by simp,zij r fs]
  exact q
theorem zm5:OpR X (compareOp .NotIn) (rIn X.K true):=by
 intro pins s σ H x y v u Q I rx ry h
 obtain⟨p,xs,rfl,hq,fx,fs,q⟩:=h
 cases ry
 rcases hq with hq | hq
 ·obtain⟨its,r,pl,hz⟩:=I.list hq
  refine SeqAt.notIn_listAt (eqU x) pl.isList (fun w hw=>zdy rx fx r fs w (by simpa using hw)) ⟨.bl _,H,I,rfl,?_⟩
  rw [show its.toArray.any (eqU x)=its.any (eqU x) by simp,zij r fs]
  exact q
 ·obtain⟨its,r,pl,hz⟩:=I.tuple hq
  refine SeqAt.notIn_tupleAt (eqU x) pl (fun w hw=>zdy rx fx r fs w (by simpa using hw)) ⟨.bl _,H,I,rfl,?_⟩
  rw [show its.toArray.any (eqU x)=its.any (eqU x) by simp,zij r fs]
  exact q
theorem zm4:OpR X (compareOp .NotIn) (fun x y H Q=>∃i j,x=.str i/\y=.str j/\Q (.bl (!(!(Builtin.Str.occurrences j i 0 j.length 1).isEmpty))) H):=by
 intro pins s σ H x y v u Q I rx ry h
 obtain⟨i,j,rfl,rfl,q⟩:=h
 obtain⟨t,rfl⟩:=rx
 obtain⟨t',rfl⟩:=ry
 exact notIn_str ⟨.bl _,H,I,rfl,q⟩
theorem zne:CallR X (.builtin "len") (fun xs H Q=>∃p ys,xs=[.ref p]/\(SqL X.K H p ys\/SqT X.K H p ys)/\Q (.int ys.length) H):=by
 intro pins s σ H xs us Q I r h
 obtain⟨p,ys,rfl,hq,q⟩:=h
 obtain⟨u,rfl,rx⟩:=zxf r
 cases rx
 have hn:=zqc
 rcases hq with hq | hq
 ·obtain⟨its,r',pl,hz⟩:=I.list hq
  have hlen:=r'.length
  exact Calls.call_len_list pl.isList (by simp only[List.size_toArray]<;>omega) ⟨.int ys.length,H,I.tok _,⟨s.toks+1,by rw [List.size_toArray,hlen]⟩,q⟩
 ·obtain⟨its,r',pl,hz⟩:=I.tuple hq
  have hlen:=r'.length
  exact len_tuple pl (by simp only[List.size_toArray]<;>omega) ⟨.int ys.length,H,I.tok _,⟨s.toks+1,by rw [List.size_toArray,hlen]⟩,q⟩
theorem znd:CallR X (.builtin "len") (fun xs H Q=>∃z,xs=[.str z]/\z.length<=sizeLine/\Q (.int z.length) H):=by
 intro pins s σ H xs us Q I r h
 obtain⟨z,rfl,hz,q⟩:=h
 obtain⟨u,rfl,t,rfl⟩:=zxf r
 have hn:=zqc
 exact len_str (by omega) ⟨.int z.length,H,I.tok _,⟨_,rfl⟩,q⟩
theorem CallR.or{f:Value}{r r':List V->Hp->VK->Prop}(h:CallR X f r)(h':CallR X f r'):CallR X f (fun xs H Q=>r xs H Q\/r' xs H Q):=by
 intro pins s σ H xs us Q I rs q
 rcases q with q | q
 ·exact h pins s σ H xs us Q I rs q
 ·exact h' pins s σ H xs us Q I rs q
theorem znc:CallR X (.type "list") (fun xs H Q=>∃p ys,xs=[.ref p]/\(SqL X.K H p ys\/SqT X.K H p ys)/\∀l,H l=none->Q (.ref l) (upd H l (.lst ys))):=by
 intro pins s σ H xs us Q I r h
 obtain⟨p,ys,rfl,hq,q⟩:=h
 obtain⟨u,rfl,rx⟩:=zxf r
 cases rx
 have fin:∀(its:List Value),Vals ys its->ys.length<=sizeLine->∀(h':Heap) (c':Nat),(∀b o',s.heap.get? b=some o'->h'.get? b=some o')->
   h'.get? s.heap.objs.size=some {cls:=.type "list",dict:=none,data:=.seq its.toArray c',slots:=#[]}->EP X pins σ Q (.ref s.heap.objs.size) {s with heap:=h'}:=fun its r' hz h' c' kp e=>
  ⟨.ref s.heap.objs.size,_,I.laid (t':=s.toks) kp (Nat.le_refl _) (show ObjOk X.prog X.w _ h' _ (.lst ys) from⟨hz,its,c',r',e⟩),rfl,q _ (I.hok.fresh (Nat.le_refl _))⟩
 rcases hq with hq | hq
 ·obtain⟨its,r',pl,hz⟩:=I.list hq
  have hlen:=r'.length
  obtain⟨o,ho,hc,n,hd⟩:=pl.isList
  exact call_list_seq p (.inl rfl) ho hc hd (fun h' c' kp e=>fin its r' hz h' c' kp e) (by simp only[List.size_toArray]<;>omega)
 ·obtain⟨its,r',pl,hz⟩:=I.tuple hq
  have hlen:=r'.length
  obtain⟨o,ho,hc,n,hd⟩:=pl
  exact call_list_seq p (.inr rfl) ho hc hd (fun h' c' kp e=>fin its r' hz h' c' kp e) (by simp only[List.size_toArray]<;>omega)
theorem z6f:CallR X (.type "tuple") (fun xs H Q=>∃p ys,xs=[.ref p]/\((SqL X.K H p ys/\∀l,H l=none->Q (.ref l) (upd H l (.tup ys)))\/(SqT X.K H p ys/\Q (.ref p) H))):=by
 intro pins s σ H xs us Q I r h
 obtain⟨p,ys,rfl,h⟩:=h
 obtain⟨u,rfl,rx⟩:=zxf r
 cases rx
 rcases h with⟨hq,q⟩ | ⟨hq,q⟩
 ·obtain⟨its,r',pl,hz⟩:=I.list hq
  have hlen:=r'.length
  refine call_tuple_list pl.isList (fun h' kp=>?_) (by simp only[List.size_toArray]<;>omega)
  have I1:Inv X pins σ H {s with heap:=h'}:=I.kept (t':=s.toks) kp
  have I2:Inv X pins σ (upd H h'.objs.size (.tup ys)) {s with heap:=h'.push {cls:=.type "tuple",data:=.seq its.toArray}}:=
   I1.laid (t':=s.toks) (fun b o e=>Heap.get?_push_of_some _ e) (Nat.le_refl _) (show ObjOk X.prog X.w _ _ _ (.tup ys) from⟨hz,its,r',IsTup.new _ _⟩)
  exact⟨.ref h'.objs.size,_,I2,rfl,q _ (I1.hok.fresh (Nat.le_refl _))⟩
 ·obtain⟨its,r',pl,hz⟩:=I.tuple hq
  exact call_tuple_same pl ⟨.ref p,H,I,rfl,q⟩
def tyV(K:PySem.W.Frag)(T:String)(x:V)(H:Hp):Prop:=match x with
 | .str _=>T = "str"
 | .int _=>T = "int"
 | .ref p=>(T = "list"/\∃xs,SqL K H p xs)\/(T = "tuple"/\∃o,K.lookup p=some o/\o.cls=.type "tuple"/\o.dict=none)\/
   (T = "dict"/\((∃kvs,H p=some (.dK kvs))\/∃kvs,H p=some (.dT kvs)))\/(T = "set"/\∃S n,H p=some (.set S n))
 | _=>False
theorem q2q{pins:List (Addr×Obj)}{σ : St}{H:Hp}{s:Shared}{T:String}{x:V}{v:Value}(I:Inv X pins σ H s)(r:RelV x v)(ty:tyV X.K T x H) :
  s.TypeIs v T/\∀a,v=.ref a->∃ob,s.heap.get? a=some ob/\ob.dict=none:=by
 cases x with
 | str z=>
  obtain⟨t,rfl⟩:=r
  cases (show T = "str" from ty)
  exact⟨typeIs_str s z t,fun _ e=>nomatch e⟩
 | int i=>
  obtain⟨t,rfl⟩:=r
  cases (show T = "int" from ty)
  exact⟨typeIs_int s i t,fun _ e=>nomatch e⟩
 | ref p=>
  cases r
  rcases ty with⟨rfl,xs,hq⟩ | ⟨rfl,o,hk,hc,hd⟩ | ⟨rfl,hk⟩ | ⟨rfl,S,n,hk⟩
  ·obtain⟨its,_,pl,_⟩:=I.list hq
   refine⟨pl.isList.typeIs,fun a e=>?_⟩
   cases e
   obtain⟨o,n,e,c,hd,_⟩:=pl
   exact⟨o,e,hd⟩
  ·refine⟨⟨o,I.kIn p o hk,hc⟩,fun a e=>?_⟩
   cases e
   exact⟨o,I.kIn _ o hk,hd⟩
  ·have z:∃o,s.heap.get? p=some o/\o.ExactDict:=by
    rcases hk with⟨kvs,hk⟩ | ⟨kvs,hk⟩
    ·obtain⟨_,_,_,_,o,_,_,e,ex,_⟩:=I.hok p _ hk
     exact⟨o,e,ex⟩
    ·obtain⟨_,_,_,_,o,_,_,e,ex,_⟩:=I.hok p _ hk
     exact⟨o,e,ex⟩
   obtain⟨o,e,ex⟩:=z
   refine⟨⟨o,e,ex.1⟩,fun a e2=>?_⟩
   cases e2
   exact⟨o,e,ex.2.1⟩
  ·obtain⟨o,_,_,_,e,ex,_⟩:=I.hok p _ hk
   refine⟨⟨o,e,ex.1⟩,fun a e2=>?_⟩
   cases e2
   exact⟨o,e,ex.2.1⟩
 | _=>exact False.elim ty
def tBM(K:PySem.W.Frag)(T:String)(r:V->List V->Hp->VK->Prop)(to:TE)(t:TA):TE:=fun σ H Q=>to σ H fun x H1=>tyV K T x H1/\t σ H1 fun xs H2=>r x xs H2 Q
variable{o e:Expr}{es:List Expr}{to:TE}{t:TA}{name:Str}{apos cpos:Pos}{T id:String}{r:V->List V->Hp->VK->Prop}
theorem zdq(pa:PlainAttrs T)(slot:Slot T name id) (hty:typeOf (.builtin id)=pure (.type "method_descriptor")) (hm:MtR X id r) (ho:PE X o to) (ha:PA X (e::es) t)
  (hbase:attributeBase o name X.env (eval o X.env)=eval o X.env:=by rfl)
  (hfew:((backTo cpos (starEach (e::es) X.env)).all (fun x=>!x.1) && (backToKw cpos (keywordEach [] X.env)).all (fun x=>x.1.isSome)
   && decide ((e::es).length+([]:List Keyword).length+(if([]:List Keyword).isEmpty then 0 else 1) < 30))=true:=by rfl)
  (hline:(apos.endLine == cpos.line)=true:=by rfl) (hs:starEach (e::es) X.env=(false,eval e X.env)::starEach es X.env:=by rfl) (hplain:(backTo cpos (starEach es X.env)).any (·.1)=false:=by rfl) :
  PE X (.Call (.Attribute o name apos) (e::es) [] cpos) (tBM X.K T r to t):=by
 refine⟨?_⟩
 intro pins s σ H Q I h
 refine wpAny_Call_method_late hbase hfew hline rfl (thn (ho pins s σ H _ I h) fun v s1 ⟨x,H1,I1,r1,ty,q1⟩=>?_)
 obtain⟨h1,h2⟩:=q2q I1 r1 ty
 refine⟨T,id,pa,slot,hty,h1,h2,?_⟩
 have hA:=ha cpos pins s1 σ H1 _ I1 q1
 rw [hs] at hA |-
 refine Calls.callWith_builtin (by show(false || (backTo cpos (starEach es X.env)).any (·.1))=false; rw [hplain]<;>rfl) (Calls.evalArgs_plain ?_)
 exact thn hA fun us s2 ⟨vs,H2,I2,r2,q2⟩=>hm pins s2 σ H2 x vs v us Q I2 r1 r2 q2
end
end L2
namespace L2
open PySem PySem.Spec PyProof.Rows
def MtM(X:Cx)(id:String)(r:V->List V->Hp->VK->Prop):Prop:=
 ∀(pins:List (Addr×Obj)) (s:Shared) (σ : St) (H:Hp) (x:V) (xs:List V) (v:Value) (us:List Value) (Q:VK),Inv X pins σ H s->RelV x v->Vals xs us->r x xs H Q->
  wpAny (model X.prog X.w) X.A (call (.builtin id) (v::us)) (EP X pins σ Q) X.xe s
theorem Vals.one:∀{x:V} {us:List Value},Vals [x] us->∃u,us=[u]/\RelV x u
 | _,_,h=>by
  rcases h with _ | ⟨r,t⟩
  cases t
  exact⟨_,rfl,r⟩
theorem Vals.two:∀{x y:V} {us:List Value},Vals [x,y] us->∃u v,us=[u,v]/\RelV x u/\RelV y v
 | _,_,_,h=>by
  rcases h with _ | ⟨r,t⟩
  rcases t with _ | ⟨q,t⟩
  cases t
  exact⟨_,_,rfl,r,q⟩
theorem Vals.rep{xs:List V}{us:List Value}(h:Vals xs us):∀k:Nat,Vals (List.replicate k xs).flatten (List.replicate k us).flatten
 | 0=>.nil
 | k+1=>by
  rw [List.replicate_succ,List.replicate_succ,List.flatten_cons,List.flatten_cons]
  exact Vals.append h (Vals.rep h k)
theorem zi3(its:List Value):∀(k:Nat) (acc:List Value),
  List.foldl (fun x1 x2=>x1++x2) acc.toArray (List.replicate k its.toArray)=(acc++(List.replicate k its).flatten).toArray
 | 0,acc=>by simp
 | k+1,acc=>by
  have e:acc.toArray++its.toArray=(acc++its).toArray:=by simp
  have e2:(acc++its)++(List.replicate k its).flatten=acc++(List.replicate (k+1) its).flatten:=by
   rw [List.replicate_succ,List.flatten_cons,List.append_assoc]
  rw [<- e2,<- zi3 its k (acc++its),<- e,List.replicate_succ,List.foldl_cons]
section
variable{X:Cx}{pins:List (Addr×Obj)}{σ : St}{H:Hp}{s:Shared}{l b:Addr}{xs ys zs:List V}
theorem Inv.lset{its its':List Value}{n:Nat}{f:Array Value->Array Value}{t':Nat}(I:Inv X pins σ H s)(hH:H l=some (.lst xs))
  (e:s.heap.get? l=some {cls:=.type "list",data:=.seq its.toArray n}) (hf:f its.toArray=its'.toArray) (hv:Vals ys its') (hz:ys.length<=sizeLine) :
  Inv X pins σ (upd H l (.lst ys)) {s with heap:=s.heap.update l (Obj.mapSeq f),toks:=t'}:=by
 have q:=PySem.IsL.update e f
 rw [hf] at q
 refine I.write (x:=l) (e:=l) (by rw [hH]; exact trivial) (.inl rfl) (fun b' u hb hu=>(Heap.get?_update_other s.heap (Obj.mapSeq f) (Ne.symm hb)).trans hu) ⟨_,q⟩ ?_
 exact⟨hz,its',_,hv,q⟩
theorem Inv.lnew{its:List Value}{t':Nat}(I:Inv X pins σ H s)(hv:Vals ys its)(hz:ys.length<=sizeLine) :
  Inv X pins σ (upd H s.heap.objs.size (.lst ys)) {s with heap:=s.heap.push {cls:=.type "list",data:=.seq its.toArray},toks:=t'}:=
 I.laid (fun _ _ q=>Heap.get?_push_of_some _ q) (Nat.le_refl _) ⟨hz,its,0,hv,Heap.get?_push_size _ rfl⟩
theorem Inv.fresh(I:Inv X pins σ H s):H s.heap.objs.size=none:=I.hok.fresh (Nat.le_refl _)
theorem Inv.lstM(I:Inv X pins σ H s)(hH:H l=some (.lst xs)):xs.length<=sizeLine/\∃(its:List Value) (n:Nat),Vals xs its/\xs.length=its.length/\s.heap.get? l=some {cls:=.type "list",data:=.seq its.toArray n}:=by
 obtain⟨z,its,n,r,e⟩:=I.hok l _ hH
 exact⟨z,its,n,r,r.length,e⟩
theorem zq8{n:Nat}(h:n<=sizeLine):Builtin.List.listTooLong n=false:=by
 unfold Builtin.List.listTooLong
 exact decide_eq_false (by omega)
end
section
variable{X:Cx}
def zfa:V->List V->Hp->VK->Prop:=fun x vs H Q=>∃l xs y,x=.ref l/\vs=[y]/\H l=some (.lst xs)/\xs.length < sizeLine/\Q .non (upd H l (.lst (xs++[y])))
theorem z3i:MtM X "list.append" zfa:=by
 intro pins s σ H x vs v us Q I rx rv h
 obtain⟨l,xs,y,rfl,rfl,hH,hz,q⟩:=h
 cases rx
 obtain⟨u,rfl,ru⟩:=rv.one
 obtain⟨z,its,n,r,hl,e⟩:=I.lstM hH
 refine call_meets F.slot_list_append ⟨_,e,rfl⟩ F.entry_list_append (F.args_list_append_2 _ _) (PySem.list_append l its.toArray n u (by rw [List.size_toArray]; omega)) ⟨e,?_⟩
 refine⟨.non,_,I.lset (its':=its++[u]) hH e (by simp) (r.append (.cons ru .nil)) ?_,rfl,q⟩
 rw [List.length_append,List.length_singleton]
 omega
def zf9:V->List V->Hp->VK->Prop:=fun x vs H Q=>∃l b xs zs,x=.ref l/\vs=[.ref b]/\H l=some (.lst xs)/\H b=some (.lst zs)/\xs.length+zs.length<=sizeLine/\Q .non (upd H l (.lst (xs++zs)))
theorem zma:MtM X "list.extend" zf9:=by
 intro pins s σ H x vs v us Q I rx rv h
 obtain⟨l,b,xs,zs,rfl,rfl,hH,hB,hz,q⟩:=h
 cases rx
 obtain⟨u,rfl,ru⟩:=rv.one
 cases ru
 obtain⟨z,its,n,r,hl,e⟩:=I.lstM hH
 obtain⟨z2,its2,n2,r2,hl2,e2⟩:=I.lstM hB
 have hsz:its.toArray.size+its2.toArray.size<=sizeLine:=by rw [List.size_toArray,List.size_toArray]; omega
 have hlong:¬ (!its.toArray.isEmpty && Builtin.List.listTooLong (its.toArray.size+its2.toArray.size))=true:=by
  rw [zq8 hsz,Bool.and_false]
  exact Bool.false_ne_true
 refine call_meets F.slot_list_extend ⟨_,e,rfl⟩ F.entry_list_extend (F.args_list_extend_2 _ _)
  (AutoSeq1.list_extend_list_list_0 l its.toArray n b its2.toArray n2 hlong (by rw [List.size_toArray]; omega) (by omega)) ⟨e,e2,?_⟩
 refine⟨.non,_,I.lset (its':=its++its2) hH e (by simp) (r.append r2) ?_,rfl,q⟩
 rw [List.length_append]
 omega
def q2j:R2:=fun x y H Q=>∃l b xs zs,x=.ref l/\y=.ref b/\H l=some (.lst xs)/\H b=some (.lst zs)/\xs.length+zs.length<=sizeLine/\∀p,H p=none->Q (.ref p) (upd H p (.lst (xs++zs)))
theorem zq3:OpR X (binaryOp .Add) q2j:=by
 intro pins s σ H x y v u Q I rx ry h
 obtain⟨l,b,xs,zs,rfl,rfl,hH,hB,hz,q⟩:=h
 cases rx
 cases ry
 obtain⟨z,its,n,r,hl,e⟩:=I.lstM hH
 obtain⟨z2,its2,n2,r2,hl2,e2⟩:=I.lstM hB
 refine PySem.P.add_list e e2 ?_ (by rw [List.size_toArray,List.size_toArray]; omega)
 have ea:its.toArray++its2.toArray=(its++its2).toArray:=by simp
 rw [ea]
 exact⟨.ref _,_,I.lnew (t':=s.toks) (r.append r2) (by rw [List.length_append]; omega),rfl,q _ I.fresh⟩
def q2h:R2:=fun x y H Q=>∃l k xs,x=.ref l/\y=.int k/\H l=some (.lst xs)/\-(2 ^ 63)<=k/\k < 2 ^ 63/\xs.length * k.toNat<=sizeLine/\
 ∀p,H p=none->Q (.ref p) (upd H p (.lst (List.replicate k.toNat xs).flatten))
theorem zv8{α : Type}(xs:List α)(k:Nat):(List.replicate k xs).flatten.length=k * xs.length:=by
 induction k with
 | zero=>simp
 | succ k ih=>rw [List.replicate_succ,List.flatten_cons,List.length_append,ih,Nat.succ_mul,Nat.add_comm]
theorem q3c:OpR X (binaryOp .Mult) q2h:=by
 intro pins s σ H x y v u Q I rx ry h
 obtain⟨l,k,xs,rfl,rfl,hH,h1,h2,hz,q⟩:=h
 cases rx
 obtain⟨t,rfl⟩:=ry
 obtain⟨z,its,n,r,hl,e⟩:=I.lstM hH
 have hlen:its.toArray.size * k.toNat<=sizeLine:=by rw [List.size_toArray,<- hl]; exact hz
 have hcap:¬ its.toArray.size * k.toNat > (2 ^ 63 - 1) / 8:=by
  have:(sizeLine:Nat)<=(2 ^ 63 - 1) / 8:=by decide
  omega
 have hfit:¬ (!Builtin.List.listFitsIndex k)=true:=by
  rw [fitsIndex_both h1 h2]
  exact Bool.false_ne_true
 have hlong:¬ Builtin.List.listTooLong (its.toArray.size * k.toNat)=true:=by
  rw [zq8 hlen]
  exact Bool.false_ne_true
 have hnew:List.foldl (fun x1 x2=>x1++x2) #[] (List.replicate (if its.toArray.isEmpty=true then 0 else k.toNat) its.toArray)=(List.replicate k.toNat its).flatten.toArray:=by
  have f0:∀m:Nat,List.foldl (fun x1 x2=>x1++x2) #[] (List.replicate m its.toArray)=(List.replicate m its).flatten.toArray:=fun m=>by
   have:=zi3 its m []
   rw [List.nil_append] at this
   exact this
  rw [f0]
  cases its with
  | nil=>simp
  | cons a r'=>rw [if_neg (by simp)]
 refine wpAny_binaryOp_repeat_ref (T:="list") (U:="int") (by decide) ⟨_,e,rfl⟩ (fun s'=>typeIs_int s' k t) noFill_list_mul F.fills_int_mul F.slot_int_rmul repeat_list F.slot_int_index.lookup
  (call_meets F.slot_int_rmul (typeIs_int s k t) F.entry_int_rmul (F.args_int_rmul_2 _ _) (int___rmul___int_list k t l its.toArray n)
   ⟨e,rfl,⟨_,e,rfl⟩,call_meets F.slot_list_mul ⟨_,e,rfl⟩ F.entry_list_mul (F.args_list_mul_2 _ _) (AutoListH.list___mul___list_int_3 l its.toArray n k t hfit hcap hlong) ⟨e,?_⟩⟩)
 rw [hnew]
 exact⟨.ref _,_,I.lnew (t':=s.toks) (r.rep k.toNat) (by rw [zv8,Nat.mul_comm]; exact hz),rfl,q _ I.fresh⟩
end
section
variable{prog:Program}{w:World}{A:Around}{E:Value->Shared->Prop}{s:Shared}
end
section
variable{X:Cx}
end
end L2
namespace Att
open PySem PySem.W PySem.Calls PyProof.Rows
theorem zhv{P:Params}{h:Heap}:∀(ns:List Int) (vs:List Value),WellAll P h vs (ns.map WData.int)->IntsAre vs ns:=by
 intro ns
 induction ns with
 | nil=>
  intro vs w
  rw [List.map_nil] at w
  cases w
  exact .nil
 | cons n ns ih=>
  intro vs w
  rw [List.map_cons] at w
  cases w with
  | cons a b=>
   cases a
   exact .cons _ _ (ih _ b)
theorem zty{l:OpenLaw}{n:Nat}(hn:l.most=some n){P:Params}{h:Heap}{args:List WData}{vals:List Value}
  (hpre:l.row.toRowW.claim.pre args=true) (hwl:WellAll P h vals args) :
  ∃a vs ns,vals=[Value.ref a]/\args=[WData.list (ns.map WData.int)]/\h.get? a=some {cls:=.type "list",data:=.seq vs.toArray}/\IntsAre vs ns/\ns.length<=n:=by
 have hsh:WShape.hasAll [] args [.list .int]=true:=(pre_splitW hpre).1
 have hc:l.pre.holds [] {args:=args}=true:=(pre_splitW hpre).2
 obtain⟨d,r,rfl,h1,h2⟩:=hasAllW_cons hsh
 obtain rfl:=hasAllW_nil h2
 obtain⟨xs,rfl,h3⟩:=hasW_list h1
 obtain⟨ns,rfl⟩:=items_int h3
 have hlen:ns.length<=n:=by
  unfold OpenLaw.pre at hc
  have h4:(WTm.not (.lt (.lit (.int (n:Int))) (.len (.arg 0)))).holds [] {args:=[.list (ns.map .int)]}=true:=by
   have h4:=(holds_andW hc).1
   rw [hn] at h4
   exact h4
  have h5:=condW_of h4 (w_not (w_lt w_lit (w_len_list (w_arg rfl))))
  rw [List.length_map] at h5
  refine Nat.le_of_not_lt fun q=>?_
  have q':(n:Int) < ((ns.length:Nat):Int):=by omega
  first
   | (rw [decide_eq_true q'] at h5; exact absurd h5 (by decide))
   | (simp at h5; omega)
 cases hwl with
 | cons w1 w2=>
  cases w2
  cases w1 with
  | list ho hall=>exact⟨_,_,ns,rfl,rfl,ho,zhv ns _ hall,hlen⟩
theorem zug(l:OpenLaw)(args:List WData):l.row.toRowW.claim.post args (.bool true) args=true:=
 postW_of (r:=l.row.toRowW) (X:=(true == true))
  (show WShape.has [] (.bool true) .bool=true by first | rfl | decide | simp[WShape.has,WShape.arms,WShape.armsAll])
  (show(WTm.eq .res (.lit (.bool true))).value [] {args:=args,res:=some (.bool true),after:=args}=some (.bool (true == true)) from w_eq_bool (w_res rfl) w_lit) rfl
theorem zif{l:OpenLaw}{n:Nat}{q:Program}{loose:List Str}{XP:(Str->Option Value)->Heap->Prop}{YP:World->Heap->Prop}{d:DefRec}
  (hn:l.most=some n) (hdf:d.params.defaults=[])
  (call:∀(w:World) (s₀ s₁:Shared) (mg mb:Str->Option Value) (fa:Addr) (o:Obj) (pm cd doc:Value) (a:Addr) (vs:List Value) (ns:List Int),
   Ground q loose [] XP w s₀ mg mb s₁.heap->YP w s₁.heap->
   s₁.heap.get? fa=some o->o.data=.func (docDef d.name d.params d.body d.scope pm cd doc)->s₁.heap.CodeRec cd d.name->mg d.name=some (.ref fa)->
   s₁.heap.get? a=some {cls:=.type "list",data:=.seq vs.toArray}->IntsAre vs ns->ns.length<=n->s₁.gens = #[]->
   codeAny (model l.prog w) callerA (.call (.ref fa) ⟨[.ref a],[]⟩) (fun r s'=>r=.ok (.ret (.bool true))/\OldK s₁.heap s'.heap/\s'.os=s₁.os/\AllBare s'.gens) s₁) :
  WalkO q loose XP YP l.row.toRowW d [] (fun f vs=>PySem.call f vs):=by
 intro w s₀ s₁ mg mb G Y fa o pm cd doc dV kV ho hd hcd hD hmg hg args vals as hpre hlay hrd hwl hlo
 obtain rfl:dV=.none:=Dflts.none hD hdf
 obtain rfl:kV=.none:=Dflts.noKw hD
 obtain⟨a,vs,ns,rfl,rfl,hobj,hints,hlen⟩:=zty hn hpre hwl
 refine enter_call (codeAny_mono (call w s₀ s₁ mg mb fa o pm cd doc a vs ns G Y ho (fd_plain hd) hcd hmg hobj hints hlen hg) fun r s' hq=>?_)
 obtain⟨rfl,h2,h3,h4⟩:=hq
 exact⟨.inl ⟨.bool true,.bool true,[],rfl,fun _=>rfl,.bool true,zug l _,fun _=>⟨List.Pairwise.nil,fun _ hm=>(nomatch hm)⟩⟩,h2,h3,h4⟩
section
variable{prog:Program}{w:World}{A:Around}{E:Value->Shared->Prop}{s:Shared}{K:Frag}
def q6k(h:Heap)(L d:Addr):List (Addr×Obj):=(List.range h.objs.size).filterMap fun a=>if a=L\/a=d then none else(h.get? a).map fun o=>(a,o)
end
end Att
namespace L2
open PySem PySem.Spec PyProof.Rows
theorem zh7:∀{vs:List Value} {ns:List Int},IntsAre vs ns->Vals (ns.map V.int) vs
 | _,_,.nil=>.nil
 | _,_,.cons n t h=>.cons ⟨t,rfl⟩ (zh7 h)
def q63(H:Hp):Prop:=∀b,H b=none\/∃o xs,H b=some (.frz o (.lst xs))
theorem zyn{P:Program}{w:World}{K:PySem.W.Frag}{mg mb:Str->Option Value}{CX:CXT}{k:Nat}{fa a:Addr}{fd:FuncData}{x:Str}{sp:Sp}{s₁:Shared}{vs:List Value}{ns:List Int}
  (KX:K.In s₁.heap) (hns:s₁.heap.Ns mainGlobals mg) (hb:s₁.heap.Ns builtinsNs mb) (hbb:∀x:Str,x≠"__name__"->mb x=bootBuiltins x) (hlim:s₁.heap.NoLimit) (hg:s₁.gens = #[])
  (ha:s₁.heap.get? a=some {cls:=.type "list",data:=.seq vs.toArray}) (hi:IntsAre vs ns) (hl:ns.length<=sizeLine) (hr:Room k callerA)
  (F:∀base:Heap,K.In base->base.Ns mainGlobals mg->FnOk P w K mg base CX k fa fd [x] sp) (hbind:∀(s:Shared) (u:Value),BindsTo s fd ⟨[u],[]⟩ [(x,u)])
  (hsp:∀H:Hp,q63 H->SqL K H a (ns.map V.int)->sp [.ref a] H (fun v _=>v=.bl true) fun _ _ _=>False)
  (hCX:∀H e s',CX [] H s₁ (fun _ _ _=>False) e s'->False) :
  codeAny (model P w) callerA (.call (.ref fa) ⟨[.ref a],[]⟩) (fun r s'=>r=.ok (.ret (.bool true))/\OldK s₁.heap s'.heap/\s'.os=s₁.os/\AllBare s'.gens) s₁:=by
 have rv:=zh7 hi
 have lenV:=hi.length
 have core:∀H:Hp,q63 H->SqL K H a (ns.map V.int)->HOk P w H s₁.heap->(∀b,H b≠none->b=a)->(H a≠none->K.lookup a=none)->
   codeAny (model P w) callerA (.call (.ref fa) ⟨[.ref a],[]⟩) (fun r s'=>r=.ok (.ret (.bool true))/\OldK s₁.heap s'.heap/\s'.os=s₁.os/\AllBare s'.gens) s₁:=by
  intro H hO hS hok hA hK
  have base_of:∀{b:Addr} {o:Obj},s₁.heap.get? b=some o->H b=none->(zow s₁.heap H).get? b=some o:=fun e n=>zqi e n
  have noA:∀{b:Addr} {o:Obj} {es:Array DictEntry} {ep:Nat},s₁.heap.get? b=some o->o.data=.dict es ep->H b=none:=fun {b o es ep} e d=>by
   cases q:H b with
   | none=>rfl
   | some u=>
    have e':b=a:=hA b (by rw [q]; simp)
    subst e'
    rw [ha] at e; cases e
    have d':Data.seq vs.toArray _=Data.dict es ep:=d
    cases d'
  have nsK:∀{b:Addr} {m:Str->Option Value},s₁.heap.Ns b m->(zow s₁.heap H).Ns b m:=fun {b m} ⟨o,es,ep,e,d,r⟩=>⟨o,es,ep,base_of e (noA e d),d,r⟩
  have hKb:K.In (zow s₁.heap H):=fun b o e=>base_of (KX b o e) (by
   cases q:H b with
   | none=>rfl
   | some u=>
    have e':b=a:=hA b (by rw [q]; simp)
    subst e'
    rw [hK (by rw [q]; simp)] at e; cases e)
  have hM:Mod K mg (zow s₁.heap H):=⟨hKb,nsK hns,⟨mb,nsK hb,hbb⟩,let ⟨mc,h1,h2⟩:=hlim; ⟨mc,nsK h1,h2⟩⟩
  have e0:Env0 P w K mg (zow s₁.heap H) callerA [] s₁ H:=⟨rfl,hM,fun b o e=>zv1 e,Nat.le_of_eq (zml _ _),trivial,fun b hb=>absurd (show b∈([]:List Addr) from hb) (by simp),hok,.of_eq hg⟩
  refine codeAny_mono ((F _ hKb (nsK hns)).run callerA [] s₁ H ⟨[.ref a],[]⟩ [.ref a] [.ref a] _ _ hr e0 (hbind s₁ (.ref a)) (.cons rfl .nil) (hsp H hO hS)) fun r s' h=>?_
  cases r with
  | error e=>exact(hCX H e s' h).elim
  | ok fl=>
   cases fl with
   | next=>exact False.elim h
   | brk=>exact False.elim h
   | cont=>exact False.elim h
   | ret u=>
    obtain⟨v,H',os,bare,un,hok',r',q⟩:=h
    have q':v=.bl true:=q
    subst q'
    obtain rfl:u=Value.bool true:=r'
    refine⟨rfl,OldK.of_keep fun b o e=>?_,os,bare⟩
    cases q:H b with
    | none=>exact un.keep b o e q (by intro z; exact absurd (show b∈([]:List Addr) from z) (by simp)) (by simp)
    | some u=>
     rcases hO b with z | ⟨ob,xs,z⟩
     ·rw [q] at z; cases z
     ·have z2:=un.frzs b ob _ z
      obtain⟨e1,_⟩:=hok b _ z
      obtain⟨e2,_⟩:=hok' b _ z2
      rw [e] at e1; cases e1
      exact e2
 cases hk:K.lookup a with
 | some o=>
  have e:=KX a o hk
  rw [ha] at e
  cases e
  refine core (fun _=>none) (fun _=>.inl rfl) (.inr ⟨_,vs.toArray,_,hk,rfl,rfl,rfl,by rw [List.size_toArray,lenV]; exact hl,by simpa using rv⟩) (fun b u z=>by have z':(none:Option HO)=some u:=z; cases z') (fun b z=>absurd rfl z) fun z=>absurd rfl z
 | none=>
  refine core (fun b=>if b=a then some (.frz {cls:=.type "list",data:=.seq vs.toArray} (.lst (ns.map V.int))) else none) (fun b=>?_) (.inl (.inr ⟨{cls:=.type "list",data:=.seq vs.toArray},if_pos rfl⟩)) (fun b u z=>?_) (fun b z=>?_) fun _=>hk
  ·by_cases hb:b=a
   ·exact .inr ⟨_,_,if_pos hb⟩
   ·exact .inl (if_neg hb)
  ·by_cases hb:b=a
   ·have z':=(if_pos hb).symm.trans z
    cases z'
    subst hb
    exact⟨ha,by rw [List.length_map]; exact hl,vs,_,rv,ha⟩
   ·have z':=(if_neg hb).symm.trans z
    cases z'
  ·by_cases hb:b=a
   ·exact hb
   ·exact absurd (if_neg hb) z
end L2
namespace L2
open PySem PySem.Spec PyProof.Rows
abbrev KOf{K:PySem.W.Frag}{h:Heap}(_:K.In h):PySem.W.Frag:=K
theorem q5k{l:PySem.W.OpenLaw}{n k:Nat}{q:Program}{loose:List Str}{XP:(Str->Option Value)->Heap->Prop}{YP:World->Heap->Prop}{d:DefRec}{K:Params->PySem.W.Frag}{CX:World->CXT}{sp:World->Sp}{x:Str}
  (hn:l.most=some n) (hn2:n<=sizeLine) (hdf:d.params.defaults=[]) (hr:Room k callerA)
  (hY:∀(w:World) (h:Heap),YP w h->(K w.params).In h)
  (F:∀(w:World) (mg:Str->Option Value) (fa:Addr) (h:Heap),(K w.params).In h->h.Ns mainGlobals mg->mg d.name=some (.ref fa)->
   ∃fd:FuncData,(∀(s:Shared) (u:Value),BindsTo s fd ⟨[u],[]⟩ [(x,u)])/\
    ∀base:Heap,(K w.params).In base->base.Ns mainGlobals mg->FnOk l.prog w (K w.params) mg base (CX w) k fa fd [x] (sp w))
  (hsp:∀(w:World) (H:Hp) (a:Addr) (ns:List Int),ns.length<=n->q63 H->SqL (K w.params) H a (ns.map V.int)->sp w [.ref a] H (fun v _=>v=.bl true) fun _ _ _=>False)
  (hCX:∀(w:World) (H:Hp) (s:Shared) (e:Value) (s':Shared),CX w [] H s (fun _ _ _=>False) e s'->False) :
  PySem.W.WalkO q loose XP YP l.row.toRowW d [] (fun f vs=>PySem.call f vs):=by
 refine Att.zif hn hdf fun w s₀ s₁ mg mb fa o pm cd doc a vs ns G Y ho hd hcd hmg hobj hints hlen hg=>?_
 have KX:=hY w _ Y
 obtain⟨fd,hb,hF⟩:=F w mg fa _ KX G.T.g hmg
 exact zyn KX G.T.g G.T.b G.T.builtins G.T.nolimit hg hobj hints (Nat.le_trans hlen hn2) hr hF hb (fun H hO hS=>hsp w H a ns hlen hO hS) fun H e s'=>hCX w H s₁ e s'
end L2
namespace L2
open PySem PySem.Spec PyProof.Rows
def defArgs(s:Stmt):Arguments:=match s with
 | .FunctionDef _ a _ _ _ _ _ _ _ _=>a
 | _=>{posonlyargs:=[],args:=[],vararg:=none,kwonlyargs:=[],kw_defaults:=[],kwarg:=none,defaults:=[]}
def defBody(s:Stmt):List Stmt:=match s with
 | .FunctionDef _ _ b _ _ _ _ _ _ _=>b
 | _=>[]
def defScope(s:Stmt):Scope:=match s with
 | .FunctionDef _ _ _ _ _ _ sc _ _ _=>sc
 | _=>{kind:=.function,names:=[],isGenerator:=false,isCoroutine:=false}
abbrev CX0:CXT:=fun _ _ _ _ _ _=>False
abbrev E0:XK:=fun _ _ _=>False
structure Fun(K:PySem.W.Frag)(x qual:Str)(st:Stmt)(f:Addr)(fd:FuncData):Prop where
 ex:∃(oc:Value) (od:Option Addr) (kV doc pm:Value) (an:Option Addr) (cdv ct:Value) (osl:Array (Option Value)),
  fd=PySem.W.fnOf x qual (defArgs st) (defBody st) (defScope st) .none kV doc pm an cdv ct/\K.lookup f=some ⟨oc,od,.func fd,osl⟩/\PySem.W.codeIn K cdv qual=true
 kp:PySem.W.keepIn K (.ref f)=true
section
variable{P:Program}{w:World}{K:PySem.W.Frag}{mg:Str->Option Value}{base:Heap}
theorem Fun.ok{x qual:Str}{st:Stmt}{f:Addr}{fd:FuncData}{N ps:List Str}{k:Nat}{sp:Sp}(F:Fun K x qual st f fd)(S:FnScope N ps (defScope st))(len:∀vs H Q E,sp vs H Q E->vs.length=ps.length)
  (hbody:∀(cdv:Value) (A:Around) (outer:List Env) (s:Shared) (H:Hp) (vs:List V) (Q:VK) (E:XK),Room k (A.deeper (envOfC qual (defScope st) s.heap.objs.size f cdv))->sp vs H Q E->
   ∃t,PSs (zl1 CX0 P w K mg base N qual (defScope st) f cdv A outer s H E).nox (defBody st) t/\t {nx:=fun _ H'=>Q .non H',rt:=Q} (start N vs) H):FnOk P w K mg base CX0 (k+1) f fd ps sp:=by
 obtain⟨oc,od,kV,doc,pm,an,cdv,ct,osl,rfl,lk,hcd⟩:=F.ex
 refine q4c lk hcd S len fun A outer s H vs Q E hr hsp=>?_
 obtain⟨t,h,q⟩:=hbody cdv A outer s H vs Q E hr hsp
 exact⟨t,h.nox,q⟩
theorem Fun.binds{x qual:Str}{st:Stmt}{f:Addr}{fd:FuncData}{ps:List Str}(F:Fun K x qual st f fd)
  (h:∀(kV doc pm:Value) (an:Option Addr) (cdv ct:Value) (us:List Value),us.length=ps.length->bindArgs (PySem.W.fnOf x qual (defArgs st) (defBody st) (defScope st) .none kV doc pm an cdv ct) ⟨us,[]⟩=pure (ps.zip us)):Binds K fd ps []:=by
 obtain⟨oc,od,kV,doc,pm,an,cdv,ct,osl,rfl,lk,hcd⟩:=F.ex
 exact .all (h kV doc pm an cdv ct)
theorem zfz{x qual:Str}{st:Stmt}{f:Addr}{oc:Value}{od an:Option Addr}{osl:Array (Option Value)}{kV doc pm cdv ct:Value}(l:K.lookup f=some ⟨oc,od,.func (PySem.W.fnOf x qual (defArgs st) (defBody st) (defScope st) .none kV doc pm an cdv ct),osl⟩)
  (c:PySem.W.codeIn K cdv qual=true) (k:PySem.W.keepIn K (.ref f)=true):Fun K x qual st f (PySem.W.fnOf x qual (defArgs st) (defBody st) (defScope st) .none kV doc pm an cdv ct):=⟨⟨oc,od,kV,doc,pm,an,cdv,ct,osl,rfl,l,c⟩,k⟩
end
theorem z20{n:Nat}(h:n<=1000):n < sizeLine:=Nat.lt_of_le_of_lt h (by decide)
section
variable{X:Cx}
theorem pv(i:Nat){x:Str}{pos:Pos}(hN:X.N[i]?=some x:=by rfl)(hv:Vis X.env.scope x:=by first | exact Or.inl rfl | exact Or.inr (Or.inl rfl) | exact Or.inr (Or.inr rfl)) (hd:(x == ("__debug__" : Str))=false:=by decide)
  (hcd:(x == ("__classdict__" : Str))=false:=by decide):PE X (.Name x pos) (zim i):=z00 hN hv hd hcd
end
def Same(H H':Hp):Prop:=∀b o,H b=some o->H' b=some o
theorem Same.refl(H:Hp):Same H H:=fun _ _ h=>h
theorem Same.trans{H H1 H2:Hp}(a:Same H H1)(b:Same H1 H2):Same H H2:=fun c o h=>b c o (a c o h)
theorem Same.free{H H':Hp}(e:Same H H'){l:Addr}(h:H' l=Option.none):H l=Option.none:=by
 cases q:H l with
 | none=>rfl
 | some o=>
  rw [e l o q] at h
  cases h
theorem Same.seq{K:PySem.W.Frag}{H H':Hp}{a:Addr}{xs:List V}(e:Same H H')(h:SqL K H a xs):SqL K H' a xs:=by
 rcases h with(h | ⟨o,h⟩) | h
 ·exact .inl (.inl (e _ _ h))
 ·exact .inl (.inr ⟨o,e _ _ h⟩)
 ·exact .inr h
end L2
set_option Elab.async false
set_option linter.all false
set_option maxRecDepth 100000
namespace L2
open PySem PySem.Spec PyProof.Rows
theorem zpb(env:Env):∀(names:List (Str×NameKind)) (acc:List (Str×Addr)),(∀y∈names,y.2=.free->∃c,env.cells.lookup y.1=some c)->(∀x c,acc.lookup x=some c->env.cells.lookup x=some c)->
  ∃cl,(forIn names acc fun(p:Str×NameKind) (r:List (Str×Addr))=>(match p with | (name,kind)=>if(kind == NameKind.free)=true then(do let c <- cellOf env name; pure (ForInStep.yield ((name,c)::r))) else pure (ForInStep.yield r)):Sem (List (Str×Addr)))=pure cl/\
   (∀x c,cl.lookup x=some c->env.cells.lookup x=some c)/\(∀x,(∃c,acc.lookup x=some c)->∃c,cl.lookup x=some c)/\(∀y∈names,y.2=.free->∃c,cl.lookup y.1=some c)
 | [],acc,_,ha=>⟨acc,by simp,ha,fun _ h=>h,fun _ h=>absurd h (by simp)⟩
 | (n,k)::r,acc,hn,ha=>by
  by_cases hk:k=.free
  ·obtain⟨c,hc⟩:=hn (n,k) List.mem_cons_self hk
   have ha':∀x c',((n,c)::acc).lookup x=some c'->env.cells.lookup x=some c':=fun x c' h=>by
    by_cases hx:x=n
    ·subst hx
     rw [List.lookup_cons_self] at h
     cases h; exact hc
    ·have hx':(x == n)=false:=by simpa using hx
     simp only[List.lookup_cons,hx'] at h
     exact ha x c' h
   obtain⟨cl,e,p1,p2,p3⟩:=zpb env r ((n,c)::acc) (fun y hy=>hn y (List.mem_cons_of_mem _ hy)) ha'
   refine⟨cl,?_,p1,fun x ⟨c',hc'⟩=>p2 x ?_,fun y hy hf=>?_⟩
   ·have hco:cellOf env n=pure c:=by unfold cellOf; rw [hc]
    rw [List.forIn_cons]
    subst hk
    simp only[beq_self_eq_true,if_true,hco,pure_bind]
    exact e
   ·by_cases hx:x=n
    ·exact⟨c,by subst hx; rw [List.lookup_cons_self]⟩
    ·have hx':(x == n)=false:=by simpa using hx
     exact⟨c',by simp only[List.lookup_cons,hx']; exact hc'⟩
   ·rcases List.mem_cons.mp hy with rfl | hy
    ·exact p2 _ ⟨c,by rw [List.lookup_cons_self]⟩
    ·exact p3 y hy hf
  ·obtain⟨cl,e,p1,p2,p3⟩:=zpb env r acc (fun y hy=>hn y (List.mem_cons_of_mem _ hy)) ha
   refine⟨cl,?_,p1,p2,fun y hy hf=>?_⟩
   ·have hb:(k == NameKind.free)=false:=by simpa using hk
    rw [List.forIn_cons]
    simp only[hb,Bool.false_eq_true,if_false,pure_bind]
    exact e
   ·rcases List.mem_cons.mp hy with rfl | hy
    ·exact absurd hf hk
    ·exact p3 y hy hf
theorem zwr{scope:Scope}{env:Env}(h:∀y∈scope.names,y.2=.free->∃c,env.cells.lookup y.1=some c) :
  ∃cl,closureFor scope env=pure cl/\(∀x c,cl.lookup x=some c->env.cells.lookup x=some c)/\(∀y∈scope.names,y.2=.free->∃c,cl.lookup y.1=some c):=by
 obtain⟨cl,e,p1,_,p3⟩:=zpb env scope.names [] h (fun x c q=>by simp at q)
 refine⟨cl,?_,p1,p3⟩
 unfold closureFor
 simp only[bind_pure]
 exact e
theorem z7q{env:Env}:∀{names:List (Str×NameKind)} {x:Str} {k:NameKind},(names.map fun(n,k)=>if(k == NameKind.free && env.scope.kind == .function && env.kindOf n == some .cell) then(n,NameKind.cell) else(n,k)).lookup x=some k->
  (∀y∈names,y.2≠.cell)->k=.cell\/k=.free->names.lookup x=some .free
 | [],_,_,h,_,_=>by simp at h
 | (n,k0)::r,x,k,h,hc,hk=>by
  have ih:=@z7q env r x k
  rw [List.map_cons] at h
  cases hx:x == n with
  | true=>
   have hn:k0≠.cell:=hc (n,k0) List.mem_cons_self
   simp only[List.lookup_cons,hx]
   by_cases hcnd:(k0 == NameKind.free && env.scope.kind == .function && env.kindOf n == some .cell)=true
   ·have:k0=.free:=by
     simp only[Bool.and_eq_true,beq_iff_eq] at hcnd
     exact hcnd.1.1
    rw [this]
   ·dsimp only at h
    rw [if_neg hcnd] at h
    simp only[List.lookup_cons,hx] at h
    have h:k0=k:=by simpa using h
    subst h
    rcases hk with hk | hk
    ·exact absurd hk hn
    ·rw [hk]
  | false=>
   simp only[List.lookup_cons,hx]
   refine ih ?_ (fun y hy=>hc y (List.mem_cons_of_mem _ hy)) hk
   by_cases hcnd:(k0 == NameKind.free && env.scope.kind == .function && env.kindOf n == some .cell)=true
   ·dsimp only at h
    rw [if_pos hcnd] at h
    simp only[List.lookup_cons,hx] at h; exact h
   ·dsimp only at h
    rw [if_neg hcnd] at h
    simp only[List.lookup_cons,hx] at h; exact h
def z4p(X:Cx)(N':List Str)(scope:Scope)(cl:List (Str×Addr))(C:Addr)(s₀:Shared)(H₀:Hp)(ex:List Addr):Cx:=
 {X with N:=N',s₀:=s₀,H₀:=H₀,env:=compEnvC scope cl C X.env,outer:=X.stack,stack:=X.stack,ex:=ex,fn:=fun _=>false,pn:=[],xe:=fun _ _=>False}
def subσ(mp:List (Option Nat))(σ : St):St:=mp.map fun o=>match o with | none=>none | some i=>(σ[i]?).getD none
def compOk(N:List Str)(on inn:List (Str×NameKind))(N':List Str)(mp:List (Option Nat)):Bool:=
 mp.length == N'.length && (N'.zip mp).all fun p=>match p.2 with
  | none=>true
  | some i=>N[i]? == some p.1 && inn.lookup p.1 == some .free && on.lookup p.1 == some .cell
abbrev PIfv(X:Cx)(ifs:List Expr)(t:TT):Prop:=
 ∀(pins:List (Addr×Obj)) (s:Shared) (σ : St) (H:Hp) (Q:Bool->Hp->Prop),Inv X pins σ H s->t σ H Q->
  wpAny (model X.prog X.w) X.A (forIn ifs true fun c r=>if r=true then do let ok <- isTrue c X.env (eval c X.env); pure (ForInStep.yield ok) else pure (ForInStep.yield r)) (TP X pins σ Q) X.xe s
structure PIf(X:Cx)(ifs:List Expr)(t:TT):Prop where
 run:PIfv X ifs t
instance{X:Cx}{ifs:List Expr}{t:TT}:CoeFun (PIf X ifs t) (fun _=>PIfv X ifs t):=⟨PIf.run⟩
def q08:TT:=fun _ H Q=>Q true H
theorem zob{X:Cx}:PIf X [] q08:=⟨fun pins s σ H Q I h=>wpAny_tests_nil ⟨H,I,h⟩⟩
theorem zfb{X:Cx}{c:Expr}{t:TT}(h:PT X c t):PIf X [c] t:=⟨fun pins s σ H Q I q=>wpAny_tests_one (h pins s σ H Q I q)⟩
theorem zwp{prog:Program}{w:World}{A:Around}{s:Shared}{elt target iter:PySem.Expr}{ifs:List PySem.Expr}{scope:Scope}{pos:Pos}{it acc:Value}{env:Env}{R:Result->Shared->Prop}(I:Nat->Shared->Prop)
  (turn:∀n s,I n s->wpAny (model prog w) A (pyNext it) (fun r s₁=>match r with
   | none=>R (.ok .next) s₁
   | some v=>wpAny (model prog w) A (letOwnedTupleGo target it v) (fun _ s₀=>wpAny (model prog w) A (assign target env v) (fun _ s₂=>
     wpAny (model prog w) A (forIn ifs true fun c r=>if r=true then do let ok <- isTrue c env (eval c env); pure (ForInStep.yield ok) else pure (ForInStep.yield r)) (fun ok s₃=>if ok=true then wpAny (model prog w) A (eval elt env) (fun x s₄=>
      wpAny (model prog w) A (call (.builtin "list.append") [acc,x]) (fun _ s₅=>∃m,m < n/\I m s₅) (fun _ _=>False) s₄) (fun _ _=>False) s₃
      else ∃m,m < n/\I m s₃) (fun _ _=>False) s₂)
     (fun _ _=>False) s₀) (fun _ _=>False) s₁) (fun _ _=>False) s)
  (n:Nat) (h:I n s):codeAny (model prog w) A (.compLoop (.ListComp elt [⟨target,iter,ifs,0⟩] scope pos) 0 it acc env) R s:=by
 refine codeAny_loop rfl I (fun n s hI=>?_) n h
 show wpAny _ A ((compTurn (.ListComp elt [⟨target,iter,ifs,0⟩] scope pos) 0 it acc env).onRaise (fun x=>do noteFrame x env; theTreesLotGoes x)) _ _ s
 refine wpAny_noted ?_
 rw [compTurn_list]
 refine wpAny_bind (wpAny_standAt (wpAny_bind (wpAny_mono (turn n s hI) (fun r s₁ h₁=>?_) fun _ _ h'=>h'.elim)))
 cases r with
 | none=>exact wpAny_pure h₁
 | some v=>
  refine wpAny_bind (wpAny_mono h₁ (fun _ s₀ h₀'=>?_) fun _ _ h'=>h'.elim)
  refine wpAny_bind (wpAny_mono h₀' (fun _ s₂ h₂=>?_) fun _ _ h'=>h'.elim)
  refine wpAny_bind (wpAny_mono h₂ (fun okb s₃ h₃=>?_) fun _ _ h'=>h'.elim)
  cases okb with
  | false=>exact wpAny_pure ⟨rfl,h₃⟩
  | true=>exact wpAny_bind (wpAny_bind (wpAny_mono h₃ (fun x s₄ h₄=>wpAny_bind (wpAny_mono h₄ (fun _ s₅ h₅=>wpAny_pure (wpAny_pure ⟨rfl,h₅⟩)) fun _ _ h'=>h'.elim)) fun _ _ h'=>h'.elim))
theorem Inv.track{X:Cx}{pins:List (Addr×Obj)}{σ : St}{H:Hp}{s:Shared}{a:Addr}{o:HO}(I:Inv X pins σ H s)(hn:H a=none)(f:FpOk X pins H a)(new:ObjOk X.prog X.w (upd H a o) s.heap a o):Inv X pins σ (upd H a o) s:=by
 obtain⟨_,f1,f2,f3,f4,f5⟩:=f
 have na:∀b u,H b=some u->b≠a:=fun b u e=>z0e e hn
 have J:=I.step (g':=s.gens) (t':=s.toks) (d':=s.drawn) (ch:=[a]) (h':=s.heap) (H':=upd H a o) (fun b hb=>by
   have e:b=a:=by simpa using hb
   subst e
   exact⟨f3,f1,f4,f5⟩) (fun b o _ _ _ e _=>e) (fun b o _ _ _ e _=>⟨o.slots,e⟩) (fun b o hb _ n=>by rw [z0b (by simpa using hb)]; exact n) (fun b o _ e=>⟨o,e⟩)
  (fun b xs e=>by rw [z0b (na b _ e)]; exact e) (fun b o u e=>by rw [z0b (na b _ e)]; exact e) (fun b ps e=>⟨#[],by rw [z0b (na b _ e),e]; simp⟩) (fun m hm=>hm) (fun b u e=>by
   by_cases hb:b=a
   ·subst hb; rw [z01] at e; cases e; exact new
   ·rw [z0b hb] at e
    exact(I.hok b u e).stay (fun c v _ q=>q) (fun c q=>by rw [z0b (na c _ q)]; exact q) fun c xs q=>by rw [z0b (na c _ q)]; exact q) I.bare
 exact J
def zjo(wi:TI)(g:TG)(tt:TT)(te:TE)(mp:List (Option Nat)):TE:=fun σ H Q=>wi σ H fun J H1=>∃W:Nat->Nat->List V->St->Hp->Prop,(∃m,W 0 m [] (subσ mp σ) H1)/\∀i m ys σ H,W i m ys σ H->
 (J.stop i H/\ys.length<=sizeLine/\∀p,H p=none->Q (.ref p) (upd H p (.lst ys)))\/(J.go i H/\ys.length < sizeLine/\∃N:List V->St->Hp->Prop,(∀ys' σ' H',N ys' σ' H'->∃m',m' < m/\W (i+1) m' ys' σ' H')/\∀x H',J.yld i H x H'->g x σ H' fun σ2 H2=>tt σ2 H2 fun b H3=>
  if b=true then te σ2 H3 (fun v H4=>N (ys++[v]) σ2 H4) else N ys σ2 H3)
structure CompS(X:Cx)(N':List Str)(scope:Scope)(mp:List (Option Nat)):Prop where
 kind:scope.kind=.function
 nocell:∀y∈scope.names,y.2≠.cell
 locs:∀y∈scope.names,y.2=.local->scope.names.lookup y.1=some .local
 frees:∀y∈scope.names,y.2=.free->X.env.scope.names.lookup y.1=some .cell
 ok:compOk X.N X.env.scope.names scope.names N' mp=true
theorem zsv{N:List Str}{on inn:List (Str×NameKind)}{N':List Str}{mp:List (Option Nat)}(h:compOk N on inn N' mp=true):mp.length=N'.length/\∀(j:Nat) (x:Str) (i:Nat),N'[j]?=some x->mp[j]?=some (some i)->N[i]?=some x/\inn.lookup x=some .free/\on.lookup x=some .cell:=by
 unfold compOk at h
 rw [Bool.and_eq_true] at h
 obtain⟨h1,h2⟩:=h
 refine⟨by simpa using h1,fun j x i e1 e2=>?_⟩
 have hm:(x,some i)∈N'.zip mp:=by
  refine List.mem_of_getElem? (i:=j) ?_
  rw [List.getElem?_zip_eq_some]
  exact⟨e1,e2⟩
 have q:=List.all_eq_true.mp h2 _ hm
 simp only[Bool.and_eq_true,beq_iff_eq] at q
 exact⟨q.1.1,q.1.2,q.2⟩
theorem subσ_get{mp:List (Option Nat)}{σ : St}{j:Nat}{v:V}(h:(subσ mp σ)[j]?=some (some v)):∃i,mp[j]?=some (some i)/\σ[i]?=some (some v):=by
 unfold subσ at h
 rw [List.getElem?_map] at h
 cases e:mp[j]? with
 | none=>rw [e] at h; cases h
 | some o=>
  rw [e] at h
  cases o with
  | none=>simp at h
  | some i=>
   refine⟨i,rfl,?_⟩
   cases e2 : σ[i]? with
   | none=>simp[e2] at h
   | some z=>
    simp[e2] at h
    rw [h]
section
variable{X:Cx}{pins:List (Addr×Obj)}{σ : St}{H:Hp}
theorem zn4{elt tg iter:Expr}{ifs:List Expr}{scope:Scope}{pos:Pos}{N':List Str}{mp:List (Option Nat)}{g:TG}{tt:TT}{te:TE}{s₂:Shared}{it:Addr}{fp:List Addr}{tn:Nat->Heap->Prop}{J:It}{cl:List (Str×Addr)}
  {Qe:V->Hp->Prop} {RR:Value->Addr->Result->Shared->Prop} {E:Value->Shared->Prop} (hc:X.calm=true) (S:CompS X N' scope mp)
  (hcl:∀x c,cl.lookup x=some c->X.env.cells.lookup x=some c) (hcf:∀y∈scope.names,y.2=.free->∃c,cl.lookup y.1=some c)
  (hg:∀C s₀ H₀ ex,PG (z4p X N' scope cl C s₀ H₀ ex) tg g) (ht:∀C s₀ H₀ ex,PIf (z4p X N' scope cl C s₀ H₀ ex) ifs tt) (he:∀C s₀ H₀ ex,PE (z4p X N' scope cl C s₀ H₀ ex) elt te)
  (I:Inv X pins σ H s₂) (T:Turn X.prog X.w X.K tg J fp it tn) (st:tn 0 s₂.heap) (hf:∀b∈fp,FpOk X pins H b)
  (hw:∃W:Nat->Nat->List V->St->Hp->Prop,(∃m,W 0 m [] (subσ mp σ) H)/\∀i m ys σ H,W i m ys σ H->
   (J.stop i H/\ys.length<=sizeLine/\∀p,H p=none->Qe (.ref p) (upd H p (.lst ys)))\/(J.go i H/\ys.length < sizeLine/\∃N:List V->St->Hp->Prop,(∀ys' σ' H',N ys' σ' H'->∃m',m' < m/\W (i+1) m' ys' σ' H')/\∀x H',J.yld i H x H'->g x σ H' fun σ2 H2=>tt σ2 H2 fun b H3=>
  if b=true then te σ2 H3 (fun v H4=>N (ys++[v]) σ2 H4) else N ys σ2 H3))
  (hR:∀(D C:Addr) (H':Hp) (s':Shared),Inv X pins σ H' s'->Qe (.ref D) H'->(∃m,s'.heap.Ns C m)->FpOk X pins H' C->RR (.ref D) C (.ok .next) s') :
  wpAny (model X.prog X.w) X.A (newList []) (fun acc s₃=>wpAny (model X.prog X.w) X.A (newFunctionEnv scope X.env.globals cl [] X.env.qual none .none (some X.env)) (fun cenv s₄=>
   codeAny (model X.prog X.w) X.A (.compStart (.ListComp elt [⟨tg,iter,ifs,0⟩] scope pos) 0 (.ref it) acc {cenv with scope:=relabel scope X.env}) (RR acc cenv.locals) s₄) E s₃) E s₂:=by
 obtain⟨W,⟨m0,w0⟩,turn⟩:=hw
 refine wpAny_newObj_type (wpAny_newFunctionEnv S.nocell (by intro y hy; simp at hy) (fun h₁ hns₁ hsb₁=>?_) S.kind)
 dsimp only at hns₁ hsb₁ |-
 generalize hH2:s₂.heap.push {cls:=.type "list",dict:=none,data:=.seq ([]:List Value).toArray}=H2 at hns₁ hsb₁ |-
 have hCs:H2.objs.size=s₂.heap.objs.size+1:=by rw [<- hH2,Heap.size_push]
 have I3:Inv X pins σ H {s₂ with heap:=H2}:=by
  rw [<- hH2]
  exact I.kept (t':=s₂.toks) fun b o e=>Heap.get?_push_of_some _ e
 have k1:∀b u,H2.get? b=some u->h₁.get? b=some u:=fun b u e=>hsb₁.extBut b u (Nat.ne_of_lt (Heap.lt_size e)) (Heap.get?_push_of_some _ e)
 have accOk:FpOk X pins H s₂.heap.objs.size:=I.fpOk (Nat.le_refl _) (I.hok.fresh (Nat.le_refl _))
 have COk:FpOk X pins H H2.objs.size:=I3.fpOk (Nat.le_refl _) (I3.hok.fresh (Nat.le_refl _))
 have fpLt:∀b∈fp,b < s₂.heap.objs.size:=fun b hb=>let ⟨o,e,_⟩:=T.obj 0 _ st b hb; Heap.lt_size e
 have accNf:s₂.heap.objs.size∉fp:=fun z=>absurd (fpLt _ z) (Nat.lt_irrefl _)
 have accNC:s₂.heap.objs.size≠H2.objs.size:=by rw [hCs]; exact Nat.ne_of_lt (Nat.lt_succ_self _)
 have exAll:∀b∈s₂.heap.objs.size::fp,FpOk X pins H b:=fun b hb=>(List.mem_cons.mp hb).elim (fun e=>e ▸ accOk) (hf b)
 have exNC:∀b∈s₂.heap.objs.size::fp,b≠H2.objs.size:=fun b hb=>(List.mem_cons.mp hb).elim (fun e=>e ▸ accNC) fun z=>Nat.ne_of_lt (Nat.lt_trans (fpLt b z) (by rw [hCs]; exact Nat.lt_succ_self _))
 have stkN:∀b,FpOk X pins H b->b∉frs X.stack:=fun b f z=>(List.mem_cons.mp (I.stkSub b z)).elim f.2.1 f.2.2.1
 have ok':(z4p X N' scope cl H2.objs.size {s₂ with heap:=H2} H (s₂.heap.objs.size::fp)).Ok:=by
  refine⟨I.ok.mod,S.kind,I.ok.glob,I.ok.blt,Nat.le_refl _,fun x y c h1 h2=>I.ok.inj x y c (hcl x c h1) (hcl y c h2),fun x hx=>?_,fun x c hx=>absurd hx (by show ¬ false=true; decide),I.ok.hd,I.ok.frames,.inl rfl,
   fun b hb=>⟨exNC b hb,fun x c e=>(exAll b hb).2.2.2.2.1 x c (hcl x c e)⟩,fun b o e=>I3.bs b o e,Nat.le_trans I.ok.bsz I3.sz,fun b o e hb=>?_,fun b hb=>stkN b (exAll b hb),I3.stack,I3.stkFree⟩
  ·have hx':(relabel scope X.env).names.lookup x=some .cell\/(relabel scope X.env).names.lookup x=some .free:=hx
   have hfree:scope.names.lookup x=some .free:=by
    rcases hx' with z | z
    ·exact z7q z S.nocell (.inl rfl)
    ·exact z7q z S.nocell (.inr rfl)
   exact hcf (x,.free) (PySem.mem_of_lookup hfree) rfl
  ·rcases(exAll b hb).2.2.2.1 with z | z
   ·exact I.ok.noex b o e z
   ·exact absurd (Nat.lt_of_lt_of_le (Heap.lt_size e) (Nat.le_trans I.ok.bsz z)) (Nat.lt_irrefl _)
 obtain⟨hml,hmp⟩:=zsv S.ok
 let XC:=z4p X N' scope cl H2.objs.size {s₂ with heap:=H2} H (s₂.heap.objs.size::fp)
 have J4:Inv (z4p X N' scope cl H2.objs.size {s₂ with heap:=H2} H (s₂.heap.objs.size::fp)) [] (subσ mp σ) H {s₂ with heap:=h₁,toks:=s₂.toks+([]:List (Str×Value)).length}:=by
  refine⟨ok',rfl,I.bare,Un.kept k1,⟨_,hns₁,fun j x v e1 e2 e3=>?_⟩,fun x c e=>?_,COk.1,fun x c e=>I.freeC x c (hcl x c e),fun p hp=>absurd (show p∈([]:List (Addr×Obj)) from hp) (by simp),I3.hok.kept k1,by show(subσ mp σ).length=N'.length; unfold subσ; rw [List.length_map,hml]⟩
  ·obtain⟨i,q1,q2⟩:=subσ_get e2
   obtain⟨n1,n2,n3⟩:=hmp j x i e1 q1
   obtain⟨m,hn,hl⟩:=I3.loc
   obtain⟨u,ru,lk⟩:=hl i x v n1 q2 (.inr (.inl n3))
   refine⟨u,ru,?_⟩
   rcases lk with⟨z,_⟩ | ⟨_,c,ec,z⟩
   ·have z':X.env.scope.names.lookup x=some .local:=z
    rw [n3] at z'; cases z'
   ·obtain⟨c',ec'⟩:=hcf (x,.free) (PySem.mem_of_lookup n2) rfl
    have e4:=hcl x c' ec'
    rw [ec] at e4; cases e4
    refine .inr ⟨?_,c,ec',?_⟩
    ·have z3:(relabel scope X.env).names.lookup x=some .local\/(relabel scope X.env).names.lookup x=some .cell\/(relabel scope X.env).names.lookup x=some .free:=e3
     rcases z3 with z3 | z3 | z3
     ·exfalso
      have:∀(names:List (Str×NameKind)),names.lookup x=some .free->(names.map fun(n,k)=>if(k == NameKind.free && X.env.scope.kind == .function && X.env.kindOf n == some .cell) then(n,NameKind.cell) else(n,k)).lookup x≠some .local:=by
       intro names
       induction names with
       | nil=>intro h; simp at h
       | cons p r ih=>
        obtain⟨n,k⟩:=p
        intro h
        cases hx:x == n with
        | true=>
         simp only[List.lookup_cons,hx] at h
         cases h
         rw [List.map_cons]
         dsimp only
         split<;>simp[List.lookup_cons,hx]
        | false=>
         simp only[List.lookup_cons,hx] at h
         rw [List.map_cons]
         dsimp only
         split<;>(simp only[List.lookup_cons,hx]; exact ih h)
      exact this scope.names n2 z3
     ·exact .inl z3
     ·exact .inr z3
    ·obtain⟨o,ho,hd⟩:=z
     exact⟨o,k1 _ _ ho,hd⟩
  ·obtain⟨v,o,ho,hd⟩:=I3.cell x c (hcl x c e)
   exact⟨v,o,k1 _ _ ho,hd⟩
 have acc4:h₁.get? s₂.heap.objs.size=some {cls:=.type "list",data:=.seq ([]:List Value).toArray 0}:=k1 _ _ (by rw [<- hH2]; exact Heap.get?_push_size _ rfl)
 have st4:tn 0 h₁:=T.keep _ _ _ st fun b _ o e=>k1 b o (by rw [<- hH2]; exact Heap.get?_push_of_some _ e)
 have fp4:∀{H':Hp},(∀b∈fp,H' b=none)->∀b∈fp,FpOk (z4p X N' scope cl H2.objs.size {s₂ with heap:=H2} H (s₂.heap.objs.size::fp)) [] H' b:=fun hn b hb=>
  ⟨hn b hb,exNC b (List.mem_cons_of_mem _ hb),stkN b (hf b hb),.inl (List.mem_cons_of_mem _ hb),fun x c e=>(hf b hb).2.2.2.2.1 x c (hcl x c e),fun p hp=>absurd (show p∈([]:List (Addr×Obj)) from hp) (by simp)⟩
 have acc5:∀{H':Hp},H' s₂.heap.objs.size=none->FpOk (z4p X N' scope cl H2.objs.size {s₂ with heap:=H2} H (s₂.heap.objs.size::fp)) [] H' s₂.heap.objs.size:=fun hn=>
  ⟨hn,accNC,stkN _ accOk,.inl List.mem_cons_self,fun x c e=>accOk.2.2.2.2.1 x c (hcl x c e),fun p hp=>absurd (show p∈([]:List (Addr×Obj)) from hp) (by simp)⟩
 have loop:∀s₃:Shared,s₃ = {s₂ with heap:=h₁,toks:=s₂.toks+([]:List (Str×Value)).length}->
   codeAny (model X.prog X.w) X.A (.compLoop (.ListComp elt [⟨tg,iter,ifs,0⟩] scope pos) 0 (.ref it) (.ref s₂.heap.objs.size) (compEnvC scope cl H2.objs.size X.env)) (RR (.ref s₂.heap.objs.size) H2.objs.size) s₃:=by
  rintro s₃ rfl
  refine zwp (fun n s'=>∃i σ' H' ys its k,Inv (z4p X N' scope cl H2.objs.size {s₂ with heap:=H2} H (s₂.heap.objs.size::fp)) [] σ' H' s'/\tn i s'.heap/\(∀b∈fp,H' b=none)/\H' s₂.heap.objs.size=none/\
   Vals ys its/\s'.heap.get? s₂.heap.objs.size=some {cls:=.type "list",data:=.seq its.toArray k}/\W i n ys σ' H') ?_ m0 ⟨0,subσ mp σ,H,[],[],0,J4,st4,fun b hb=>(hf b hb).1,accOk.1,.nil,acc4,w0⟩
  rintro n s5 ⟨i,σ5,H5,ys,its,k,J5,st5,fr5,an5,vy,ea,w5⟩
  have zv:its.length=ys.length:=vy.length.symm
  have pinOk:∀{σ':St} {H':Hp} {s':Shared} {o:Obj},Inv XC [] σ' H' s'->H' s₂.heap.objs.size=none->s'.heap.get? s₂.heap.objs.size=some o->(∀v,o.data≠.cell v)->Inv XC [(s₂.heap.objs.size,o)] σ' H' s':=fun {σ' H' s' o} J a1 a2 a3=>J.pins_of fun p hp=>by
   have e:p=(s₂.heap.objs.size,o):=by simpa using hp
   subst e
   exact⟨a2,a1,accNC,stkN _ accOk,a3⟩
  have fp5:∀{H':Hp} {o:Obj},(∀b∈fp,H' b=none)->∀b∈fp,FpOk XC [(s₂.heap.objs.size,o)] H' b:=fun {H' o} hn b hb=>by
   obtain⟨c1,c2,c3,c4,c5,_⟩:=fp4 hn b hb
   refine⟨c1,c2,c3,c4,c5,fun p hp=>?_⟩
   have e:p=(s₂.heap.objs.size,o):=by
    have hp':p∈([]++[(s₂.heap.objs.size,o)]:List (Addr×Obj)):=hp
    simpa using hp'
   subst e
   intro z
   exact accNf (by rw [show s₂.heap.objs.size=b from z]; exact hb)
  have noc:∀(us:List Value) (k:Nat) (v:Option Value),({cls:=.type "list",data:=.seq us.toArray k}:Obj).data≠.cell v:=fun us k v z=>by
   have z':Data.seq us.toArray k=Data.cell v:=z
   cases z'
  have J5p:=pinOk J5 an5 ea (noc its k)
  rcases turn i n ys σ5 H5 w5 with⟨stop,zl,qn⟩ | ⟨go,zl,N,hN,step⟩
  ·refine thn (T.done XC rfl rfl rfl hc i _ s5 σ5 H5 _ J5p (fp5 fr5) st5 stop) fun r s6 ⟨hr,J6⟩=>?_
   subst hr
   have I6:Inv X pins σ H5 s6:=I3.call' (ch:=s₂.heap.objs.size::fp) (show s6.os=_ from J6.os) J6.base J6.hok J6.bare fun b hb=>let ⟨_,a1,_,a3,a4,a5⟩:=exAll b hb; ⟨a3,a1,a4,a5⟩
   have ea6:s6.heap.get? s₂.heap.objs.size=some {cls:=.type "list",data:=.seq its.toArray k}:=(J6.pin _ (List.mem_append_right _ (List.mem_singleton.mpr rfl))).1
   have I7:Inv X pins σ (upd H5 s₂.heap.objs.size (.lst ys)) s6:=I6.track an5 ⟨an5,accOk.2⟩ ⟨zl,its,k,vy,ea6⟩
   obtain⟨m,hm,_⟩:=J6.loc
   exact hR _ _ _ s6 I7 (qn _ an5) ⟨m,hm⟩ ⟨by rw [z0b (Ne.symm accNC)]; exact J6.free,COk.2⟩
  ·refine thn (T.item XC rfl rfl rfl hc i _ s5 σ5 H5 _ J5p (fp5 fr5) st5 go) fun r s6 ⟨u,hr,h6⟩=>?_
   subst hr
   refine thn h6 fun _ s7 ⟨x,H7,J7,r7,y7,st7,fr7⟩=>?_
   have an7:H7 s₂.heap.objs.size=none:=(J7.pin _ (List.mem_append_right _ (List.mem_singleton.mpr rfl))).2.1
   have J7':=J7.pinned (fp5 fr7) (T.obj _ _ st7)
   refine thn (hg _ _ _ _ _ s7 σ5 H7 x u _ J7' r7 (step x H7 y7)) fun _ s8 ⟨σ8,H8,J8,q8⟩=>?_
   refine thn (ht _ _ _ _ _ s8 σ8 H8 _ J8 q8) fun b s9 ⟨H9,J9,q9⟩=>?_
   have zgs:∀{σ':St} {H':Hp} {s':Shared},Inv XC ([(s₂.heap.objs.size,({cls:=.type "list",data:=.seq its.toArray k}:Obj))]++zlx fp s7.heap) σ' H' s'->
     Inv XC [] σ' H' s'/\tn (i+1) s'.heap/\(∀b∈fp,H' b=none)/\H' s₂.heap.objs.size=none/\s'.heap.get? s₂.heap.objs.size=some {cls:=.type "list",data:=.seq its.toArray k}:=fun {σ' H' s'} K=>by
    have pa:=K.pin (s₂.heap.objs.size,{cls:=.type "list",data:=.seq its.toArray k}) (List.mem_append_right _ (List.mem_append_left _ (List.mem_singleton.mpr rfl)))
    refine⟨K.pins_of (fun p hp=>absurd hp (by simp)),T.keep _ _ _ st7 fun b hb o e=>(K.pin (b,o) (List.mem_append_right _ (List.mem_append_right _ (zbt hb e)))).1,fun b hb=>?_,pa.2.1,pa.1⟩
    obtain⟨o,e,d⟩:=T.obj _ _ st7 b hb
    exact(K.pin (b,o) (List.mem_append_right _ (List.mem_append_right _ (zbt hb e)))).2.1
   cases b with
   | false=>
    rw [if_neg Bool.false_ne_true] at q9
    rw [if_neg Bool.false_ne_true]
    obtain⟨m',hm',w'⟩:=hN _ _ _ q9
    obtain⟨K1,K2,K3,K4,K5⟩:=zgs J9
    exact⟨m',hm',i+1,σ8,H9,ys,its,k,K1,K2,K3,K4,vy,K5,w'⟩
   | true=>
    rw [if_pos rfl] at q9
    rw [if_pos rfl]
    refine thn (he _ _ _ _ _ s9 σ8 H9 _ J9 q9) fun z s10 ⟨v,H10,J10,r10,q10⟩=>?_
    obtain⟨m',hm',w'⟩:=hN _ _ _ q10
    obtain⟨K1,K2,K3,K4,K5⟩:=zgs J10
    refine call_meets F.slot_list_append ⟨_,K5,rfl⟩ F.entry_list_append (F.args_list_append_2 _ _) (PySem.list_append s₂.heap.objs.size its.toArray k z (by rw [List.size_toArray]; omega)) ⟨K5,?_⟩
    have qa:=PySem.IsL.update K5 (fun x_1=>x_1.push z)
    have eqa:its.toArray.push z=(its++[z]).toArray:=by simp
    rw [eqa] at qa
    have kk:∀b o,b≠s₂.heap.objs.size->s10.heap.get? b=some o->(s10.heap.update s₂.heap.objs.size (Obj.mapSeq fun x_1=>x_1.push z)).get? b=some o:=fun b o hb hu=>(Heap.get?_update_other s10.heap (Obj.mapSeq fun x_1=>x_1.push z) (Ne.symm hb)).trans hu
    obtain⟨d0,d1,d2,d3,d4,d5⟩:=acc5 K4
    have K1':=K1.turned (h':=s10.heap.update s₂.heap.objs.size (Obj.mapSeq fun x_1=>x_1.push z)) (t':=s10.toks) kk d0 d1 d3 d4 d5
    exact⟨m',hm',i+1,σ8,H10,ys++[v],its++[z],_,K1',T.keep _ _ _ K2 (fun b hb o e=>kk b o (fun y=>accNf (by rw [<- y]; exact hb)) e),K3,K4,vy.append (.cons r10 .nil),qa,w'⟩
 exact codeAny_compStart_list (loop _ rfl) (T.self _ _ _ _ _ st4 (loop _ rfl))
theorem zaq{elt tg iter:Expr}{ifs:List Expr}{scope:Scope}{pos:Pos}(N':List Str)(mp:List (Option Nat)){wi:TI}{g:TG}{tt:TT}{te:TE}(hc:X.calm=true)(S:CompS X N' scope mp)(hi:PI X tg iter wi)
  (hg:∀cl C s₀ H₀ ex,PG (z4p X N' scope cl C s₀ H₀ ex) tg g) (ht:∀cl C s₀ H₀ ex,PIf (z4p X N' scope cl C s₀ H₀ ex) ifs tt) (he:∀cl C s₀ H₀ ex,PE (z4p X N' scope cl C s₀ H₀ ex) elt te)
  (hs:∀x,foldedSetIterable iter X.env x=pure x:=by intro _; rfl):PE X (.ListComp elt [⟨tg,iter,ifs,0⟩] scope pos) (zjo wi g tt te mp):=by
 refine⟨?_⟩
 intro pins s σ H Q I h
 obtain⟨cl,e0,e1,e2⟩:=zwr (scope:=scope) (env:=X.env) fun y hy hf=>I.ok.has y.1 (.inl (S.frees y hy hf))
 rw [eval_ListComp]
 refine wpAny_comprehension_free (use:=none) rfl hs e0 S.kind S.locs (thn (hi pins s σ H _ I h) fun v s1 h1=>thn h1 fun itv s2 h2=>?_)
 obtain⟨it,fp,tn,J,H2,e,I2,T,st2,f2,hw⟩:=h2
 subst e
 refine zn4 (Qe:=Q) (RR:=fun acc C=>compPost (model X.prog X.w) X.A X.xe none (EP X pins σ Q) acc C) hc S e1 e2 (hg cl) (ht cl) (he cl) I2 T st2 f2 hw fun D C H' s' I' q ⟨m,hm⟩ ⟨f0,f1,_,f3,f4,f5⟩=>?_
 exact⟨m,hm,fun h' sb=>⟨.ref D,H',I'.turned (t':=s'.toks) (fun b o hb e=>(sb.2 b hb).trans e) f0 f1 f3 f4 f5,rfl,q⟩⟩
theorem q0n{elt tg iter:Expr}{ifs:List Expr}{scope:Scope}{pos pos' cpos:Pos}{i:Nat}{x:Str}(N':List Str)(mp:List (Option Nat)){wi:TI}{g:TG}{tt:TT}{te:TE}(hN:X.N.Nodup)(hxi:X.N[i]?=some x)(hx:Loc X.env.scope x)
  (hc:X.calm=true) (S:CompS X N' scope mp) (hi:PI X tg iter wi)
  (hg:∀cl C s₀ H₀ ex,PG (z4p X N' scope cl C s₀ H₀ ex) tg g) (ht:∀cl C s₀ H₀ ex,PIf (z4p X N' scope cl C s₀ H₀ ex) ifs tt) (he:∀cl C s₀ H₀ ex,PE (z4p X N' scope cl C s₀ H₀ ex) elt te)
  (hsw:swapsWith (.ListComp elt [⟨tg,iter,ifs,0⟩] scope cpos) (some (.Name x pos')) pos.line X.env=pure true:=by rfl)
  (hs:∀x,foldedSetIterable iter X.env x=pure x:=by intro _; rfl) (hf:X.fn x=true\/X.env.scope.names.lookup x=some .local:=by first | exact .inl rfl | exact .inr rfl | assumption) :
  PS X (.Assign [.Name x pos'] (.ListComp elt [⟨tg,iter,ifs,0⟩] scope cpos) pos) (zzd (zjo wi g tt te mp) (z8o i)):=by
 refine⟨?_⟩
 intro pins s σ H D I h
 obtain⟨cl,e0,e1,e2⟩:=zwr (scope:=scope) (env:=X.env) fun y hy hf=>I.ok.has y.1 (.inl (S.frees y hy hf))
 rw [exec_Assign_Name_used _ _ _ _ hsw]
 refine wpAny_bind (wpAny_standAt (wpAny_bind ?_))
 show wpAny _ X.A (do let _ <- comprehension (.ListComp elt [⟨tg,iter,ifs,0⟩] scope cpos) scope X.env _ (newList []) false (eval iter X.env) (some (assign (.Name x pos') X.env))) _ _ s
 refine wpAny_bind (wpAny_mono (wpAny_comprehension_free (use:=some (assign (.Name x pos') X.env)) (Q:=fun _ s'=>SP X pins D .next s') rfl hs e0 S.kind S.locs
  (thn (hi pins s σ H _ I h) fun v s1 h1=>thn h1 fun itv s2 h2=>?_)) (fun _ s' hq=>wpAny_pure (wpAny_pure hq)) fun _ _ e=>e)
 obtain⟨it,fp,tn,J,H2,e,I2,T,st2,f2,hw⟩:=h2
 subst e
 refine zn4 (Qe:=fun x H1=>z8o i x σ H1 D.nx) (RR:=fun acc C=>compPost (model X.prog X.w) X.A X.xe (some (assign (.Name x pos') X.env)) (fun _ s'=>SP X pins D .next s') acc C) hc S e1 e2 (hg cl) (ht cl) (he cl) I2 T st2 f2 hw fun D' C H' s' I' q ⟨m,hm⟩ ⟨f0,f1,_,f3,f4,f5⟩=>?_
 show wpAny _ X.A (assign (.Name x pos') X.env (.ref D')) _ _ _
 refine wpAny_assign_Name (zle I' hN hxi hx (v:=.ref D') rfl (fun s'' I'' ⟨a,sb,ha⟩=>?_) hf)
 have hCa:C≠a:=by
  rcases ha with ha | ha
  ·rw [ha]; exact f1
  ·exact fun z=>f4 x a ha z.symm
 refine⟨m,hm.sameBut sb hCa,fun h' sb'=>?_⟩
 rw [z8o,zdf] at q
 exact⟨_,H',I''.turned (t':=s''.toks) (fun b o hb e=>(sb'.2 b hb).trans e) f0 f1 f3 f4 f5,q⟩
end
section
variable{K:PySem.W.Frag}{a:Addr}{xs:List V}{g:TG}{tt:TT}{te:TE}{σ : St}{H:Hp}{Q:VK}
abbrev zd4(J:It)(g:TG)(tt:TT)(te:TE)(Q:VK)(σ : St)(H:Hp):Prop:=∃W:Nat->Nat->List V->St->Hp->Prop,(∃m,W 0 m [] σ H)/\∀i m ys σ H,W i m ys σ H->
 (J.stop i H/\ys.length<=sizeLine/\∀p,H p=none->Q (.ref p) (upd H p (.lst ys)))\/(J.go i H/\ys.length < sizeLine/\∃N:List V->St->Hp->Prop,(∀ys' σ' H',N ys' σ' H'->∃m',m' < m/\W (i+1) m' ys' σ' H')/\∀x H',J.yld i H x H'->g x σ H' fun σ2 H2=>tt σ2 H2 fun b H3=>
  if b=true then te σ2 H3 (fun v H4=>N (ys++[v]) σ2 H4) else N ys σ2 H3)
theorem z75(Pv:Nat->List V->St->Hp->Prop)(h0:Pv 0 [] σ H)(hz:xs.length < sizeLine)(hy:∀i ys σ H,Pv i ys σ H->ys.length<=i)(hl:∀i ys σ H,i<=xs.length->Pv i ys σ H->SqL K H a xs)
  (hs:∀i ys x σ H,xs[i]?=some x->Pv i ys σ H->g x σ H fun σ2 H2=>tt σ2 H2 fun b H3=>if b=true then te σ2 H3 (fun v H4=>Pv (i+1) (ys++[v]) σ2 H4) else Pv (i+1) ys σ2 H3)
  (hd:∀ys σ H,Pv xs.length ys σ H->∀p,H p=none->Q (.ref p) (upd H p (.lst ys))):zd4 (Itl K a) g tt te Q σ H:=by
 refine⟨fun i m ys σ H=>m=xs.length - i/\i<=xs.length/\Pv i ys σ H,⟨xs.length,by simp,Nat.zero_le _,h0⟩,?_⟩
 rintro i m ys σ H ⟨rfl,hi,p⟩
 have q:=hl i ys σ H hi p
 have hyl:=hy i ys σ H p
 by_cases hlt:i < xs.length
 ·refine .inr ⟨⟨xs,xs[i],q,by simp[hlt]⟩,by omega,Pv (i+1),fun ys' σ' H' p'=>⟨xs.length - (i+1),by omega,rfl,hlt,p'⟩,fun x H' y=>?_⟩
  obtain⟨e,y⟩:=y
  subst e
  exact hs i ys x σ _ (y xs q) p
 ·have e:i=xs.length:=by omega
  subst e
  exact .inl ⟨⟨xs,q,Nat.le_refl _⟩,by omega,hd ys σ H p⟩
theorem zz8(Pv:Nat->List V->St->Hp->Prop)(h0:Pv 0 [] σ H)(hz:xs.length < sizeLine)(hy:∀i ys σ H,Pv i ys σ H->ys.length<=i)(hl:∀i ys σ H,i<=xs.length->Pv i ys σ H->SqT K H a xs)
  (hs:∀i ys x σ H,xs[i]?=some x->Pv i ys σ H->g x σ H fun σ2 H2=>tt σ2 H2 fun b H3=>if b=true then te σ2 H3 (fun v H4=>Pv (i+1) (ys++[v]) σ2 H4) else Pv (i+1) ys σ2 H3)
  (hd:∀ys σ H,Pv xs.length ys σ H->∀p,H p=none->Q (.ref p) (upd H p (.lst ys))):zd4 (Itt K a) g tt te Q σ H:=by
 refine⟨fun i m ys σ H=>m=xs.length - i/\i<=xs.length/\Pv i ys σ H,⟨xs.length,by simp,Nat.zero_le _,h0⟩,?_⟩
 rintro i m ys σ H ⟨rfl,hi,p⟩
 have q:=hl i ys σ H hi p
 have hyl:=hy i ys σ H p
 by_cases hlt:i < xs.length
 ·refine .inr ⟨⟨xs,xs[i],q,by simp[hlt]⟩,by omega,Pv (i+1),fun ys' σ' H' p'=>⟨xs.length - (i+1),by omega,rfl,hlt,p'⟩,fun x H' y=>?_⟩
  obtain⟨e,y⟩:=y
  subst e
  exact hs i ys x σ _ (y xs q) p
 ·have e:i=xs.length:=by omega
  subst e
  exact .inl ⟨⟨xs,q,Nat.le_refl _⟩,by omega,hd ys σ H p⟩
end
end L2
set_option Elab.async false
set_option linter.all false
set_option maxRecDepth 100000
namespace L2
open PySem PySem.Spec PyProof.Rows
section
variable{X:Cx}
def zpr(K:PySem.W.Frag):R2:=fun x y H Q=>∃a b xs ys,x=.ref a/\y=.ref b/\SqT K H a xs/\SqT K H b ys/\xs.length+ys.length<=sizeLine/\
 (xs=[]->Q (.ref b) H)/\(xs≠[]->ys=[]->Q (.ref a) H)/\(xs≠[]->ys≠[]->∀p,H p=none->Q (.ref p) (upd H p (.tup (xs++ys))))
theorem z3d:OpR X (binaryOp .Add) (zpr X.K):=by
 intro pins s σ H x y v u Q I rx ry h
 obtain⟨a,b,xs,ys,rfl,rfl,ha,hb,hz,q0,q1,q2⟩:=h
 by_cases hx:xs=[]
 ·cases rx
  cases ry
  obtain⟨its,r1,p1,_⟩:=I.tuple ha
  obtain⟨its2,r2,p2,_⟩:=I.tuple hb
  obtain⟨⟨cls,dd,data,sl⟩,ho,hc,n,hd⟩:=id p1
  obtain⟨⟨cls2,dd2,data2,sl2⟩,ho2,hc2,n2,hd2⟩:=id p2
  simp only at hc hd hc2 hd2
  subst hc hd hc2 hd2
  have he:its=[]:=r1.nil_iff.mpr hx
  exact concat_meets ⟨_,ho,rfl⟩ ⟨_,ho2,rfl⟩ noFill_tuple_add seq_tuple_add PySem.F.slot_tuple_add PySem.F.entry_tuple_add (PySem.F.args_tuple_add_2 _ _)
   (tuple_addW0 a b its.toArray its2.toArray n n2 dd dd2 sl sl2 (by simp[he])) ⟨ho,ho2,⟨.ref b,H,I,rfl,q0 hx⟩⟩
 ·exact q12 pins s σ H _ _ v u Q I rx ry ⟨a,b,xs,ys,rfl,rfl,ha,hb,hx,hz,q1 hx,q2 hx⟩
def zqq:V->PyData
 | .bl b=>.bool b
 | .int i=>.int i
 | .str x=>.str x
 | _=>.none
theorem zrt{h:Heap}{x:V}{u:Value}(r:RelV x u)(f:zab x=true):Reads h u (zqq x) []:=by
 cases x with
 | non=>cases r; exact .none
 | bl b=>cases r; exact .bool b
 | int i=>obtain⟨t,rfl⟩:=r; exact .int i t
 | str z=>obtain⟨t,rfl⟩:=r; exact .str z t
 | _=>exact absurd (show false=true from f) Bool.false_ne_true
theorem zdn{h:Heap}:∀{xs:List V} {us:List Value},Vals xs us->xs.all zab=true->ReadsAll h us (xs.map zqq) []
 | _,_,.nil,_=>.nil
 | _::_,_::_,.cons r t,f=>by
  rw [List.all_cons,Bool.and_eq_true] at f
  exact .cons (zrt r f.1) (zdn t f.2)
def okV:V->Bool
 | .non=>true
 | .bl _=>true
 | .int _=>true
 | .str z=>PyData.strOk z
 | _=>false
theorem okV.flat{x:V}(h:okV x=true):zab x=true:=by
 cases x<;>first | rfl | exact absurd (show false=true from h) Bool.false_ne_true
theorem okV.all{xs:List V}(h:xs.all okV=true):xs.all zab=true:=List.all_eq_true.mpr fun x hx=>okV.flat (List.all_eq_true.mp h x hx)
theorem zqd:∀(xs:List V),xs.all okV=true->PyData.canLayAll0 (xs.map zqq)=true/\PyData.depthAll (xs.map zqq)<=1
 | [],_=>by simp[PyData.canLayAll0,PyData.depthAll]
 | x::xs,hz=>by
  rw [List.all_cons,Bool.and_eq_true] at hz
  have h1:(zqq x).canLay0=true/\(zqq x).depth<=1:=by
   cases x with
   | str z=>exact⟨by simpa [zqq,PyData.canLay0,okV] using hz.1,by simp[zqq,PyData.depth]⟩
   | _=>exact⟨by simp[zqq,PyData.canLay0],by simp[zqq,PyData.depth]⟩
  have h2:=zqd xs hz.2
  simp only[List.map_cons,PyData.canLayAll0,PyData.depthAll,h1.1,h2.1,Bool.and_self,true_and]
  have a1:=h1.2
  have a2:=h2.2
  omega
theorem z94{xs:List V}(h:xs.all okV=true):SeqAt.shaped (.list (xs.map zqq))=true:=by
 have q:=zqd xs h
 unfold SeqAt.shaped
 simp only[PyData.canLay0,PyData.depth,q.1,Bool.true_and]
 have:=q.2
 exact decide_eq_true (by omega)
theorem Inv.readsL{pins:List (Addr×Obj)}{σ : St}{H:Hp}{s:Shared}{a:Addr}{xs:List V}(I:Inv X pins σ H s)(h:SqL X.K H a xs)(f:xs.all okV=true):∃as,Reads s.heap (.ref a) (.list (xs.map zqq)) as:=by
 obtain⟨its,r,⟨o,n,e,c,_,d⟩,_⟩:=I.list h
 exact⟨_,.list e c d (by simpa using zdn r (okV.all f))⟩
def eqL(xs ys:List V):Bool:=PyData.eqv (.list (xs.map zqq)) (.list (ys.map zqq))
def q6f(K:PySem.W.Frag)(neg:Bool):R2:=fun x y H Q=>∃a b xs ys,x=.ref a/\y=.ref b/\SqL K H a xs/\SqL K H b ys/\xs.all okV=true/\ys.all okV=true/\Q (.bl (if neg then !eqL xs ys else eqL xs ys)) H
theorem q3j(hu:X.A.units+64 < cLine):OpR X (compareOp .Eq) (q6f X.K false):=by
 intro pins s σ H x y v u Q I rx ry h
 obtain⟨a,b,xs,ys,rfl,rfl,ha,hb,fa,fb,q⟩:=h
 cases rx; cases ry
 obtain⟨as,ra⟩:=I.readsL ha fa
 obtain⟨bs,rb⟩:=I.readsL hb fb
 exact eq_dataH ra rb (z94 fa) (z94 fb) hu ⟨.bl _,H,I,rfl,q⟩
theorem q3d(hu:X.A.units+64 < cLine):OpR X (compareOp .NotEq) (q6f X.K true):=by
 intro pins s σ H x y v u Q I rx ry h
 obtain⟨a,b,xs,ys,rfl,rfl,ha,hb,fa,fb,q⟩:=h
 cases rx; cases ry
 obtain⟨as,ra⟩:=I.readsL ha fa
 obtain⟨bs,rb⟩:=I.readsL hb fb
 exact ne_dataH ra rb (z94 fa) (z94 fb) hu ⟨.bl _,H,I,rfl,q⟩
theorem zw0(xs:List V):eqL xs []=xs.isEmpty:=by
 cases xs<;>simp[eqL,PyData.eqv,PyData.eqvAll]
theorem zpd:CallR X (.builtin "isinstance") (fun xs H Q=>∃x n t b,xs=[x,.ty n]/\TyOf X.K H x t/\PySem.W.kitOne X.K t (.type n)=some b/\Q (.bl b) H):=by
 intro pins s σ H xs us Q I r h
 obtain⟨x,n,t,b,rfl,ty,e,q⟩:=h
 obtain⟨u,u2,rfl,r1,r2⟩:=r.two
 cases r2
 exact zvi I r1 ty e fun tk=>⟨.bl b,H,I.tok tk,rfl,q⟩
def Its(z:Str):It:=⟨fun i _=>i < z.cps.size,fun i H x H'=>H'=H/\∃c,z.cps[i]?=some c/\x=.str ⟨#[c]⟩,fun i _=>i=z.cps.size⟩
def q77(tl:TE):TI:=fun σ H R=>tl σ H fun x H1=>∃z,x=.str z/\R (Its z) H1
open PySem.AutoSeq1 (wpAny_loadPart') in
theorem q2a(l:Addr)(items:Array Value)(n:Nat)(dd:Option Addr)(sl:Array (Option Value))(x:Int)(u:Tok)(h2:2<=x)(hx:x < 2 ^ 62)(hne:items.isEmpty=false)(hz:items.size * x.toNat<=sizeLine) :
  Meets (Builtin.«tuple.__mul__» ⟨[.ref l,.int x u],[]⟩) (fun _ R s=>s.heap.get? l=some {cls:=.type "tuple",dict:=dd,data:=.seq items n,slots:=sl}/\R (.ok (.ret (Value.ref s.heap.objs.size))) {s with heap:=s.heap.push {cls:=Value.type "tuple",data:=Data.seq (List.foldl (fun x1 x2=>x1++x2) #[] (List.replicate x.toNat items))},toks:=s.toks}):=
 .of_wp fun prog w A R s h=>by
  obtain⟨hp,g,d,tk,os⟩:=s; obtain⟨hl,h⟩:=h
  have f1:=AutoSeq1.idx_int
  have hs:sizeLine=16777216:=sizeLine_eq
  have hm:((items.size * x.toNat:Nat):Int)=(items.size:Int) * x:=by
   rw [Int.natCast_mul,Int.toNat_of_nonneg (by omega)]
  have c0:¬ (decide (x < -2 ^ 63) || decide (x ≥ 2 ^ 63))=true:=by
   simp only[Bool.or_eq_true,decide_eq_true_eq,not_or]
   omega
  have c1:¬ (items.isEmpty || x == 1)=true:=by
   rw [hne,Bool.false_or]
   simp only[beq_iff_eq]
   omega
  have c2:¬ (decide (x<=0) || items.isEmpty)=true:=by
   rw [hne,Bool.or_false]
   simp only[decide_eq_true_eq]
   omega
  have c3:¬ ((items.size:Int) * x > (2 ^ 63 - 1) / 8):=by
   rw [<- hm]
   have:(2 ^ 63 - 1:Int) / 8=1152921504606846975:=by decide
   rw [this]
   omega
  have c4:¬ Builtin.Tuple.tupleTooMany ((items.size:Int) * x)=true:=by
   unfold Builtin.Tuple.tupleTooMany
   simp only[decide_eq_true_eq]
   rw [<- hm]
   omega
  wp_walk using wpAny_loadPart' hl
  refine PySem.W.KFB.if_not (Bool.eq_false_iff.mpr c0) ?_
  wp_walk using wpAny_loadPart' hl
  refine PySem.W.KFB.if_not (Bool.eq_false_iff.mpr c1) ?_
  refine PySem.W.KFB.if_not (Bool.eq_false_iff.mpr c2) ?_
  dsimp only
  rw [if_neg c3]
  refine PySem.W.KFB.if_not (Bool.eq_false_iff.mpr c4) ?_
  refine wpAny_bind (wpAny_newObj_type (wpAny_pure ⟨_,rfl,h⟩) ?_)
  show(List.foldl (fun x1 x2=>x1++x2) #[] (List.replicate x.toNat items)).size<=sizeLine
  have e:=zi3 items.toList x.toNat []
  rw [List.nil_append] at e
  have e2:items.toList.toArray=items:=by simp
  rw [e2] at e
  rw [show([]:List Value).toArray = #[] from rfl] at e
  rw [e,List.size_toArray,zv8,Array.length_toList,Nat.mul_comm]
  exact hz
def zu3(K:PySem.W.Frag):R2:=fun x y H Q=>∃l k xs,x=.ref l/\y=.int k/\SqT K H l xs/\2<=k/\k < 2 ^ 62/\xs≠[]/\xs.length * k.toNat<=sizeLine/\
 ∀p,H p=none->Q (.ref p) (upd H p (.tup (List.replicate k.toNat xs).flatten))
end
end L2
set_option Elab.async false
set_option linter.all false
set_option maxRecDepth 100000
namespace L2
open PySem PySem.Spec PyProof.Rows
section
variable{X:Cx}
def Seq(K:PySem.W.Frag)(H:Hp)(a:Addr):Prop:=(∃xs,SqL K H a xs)\/∃xs,SqT K H a xs
theorem zy8(hu:X.A.units+64 < cLine):OpR X (compareOp .Eq) (fun x y H Q=>∃a z,x=.ref a/\y=.str z/\Seq X.K H a/\Q (.bl false) H):=by
 intro pins s σ H x y v u Q I rx ry h
 obtain⟨a,z,rfl,rfl,hq,q⟩:=h
 cases rx
 obtain⟨t,rfl⟩:=ry
 show wpAny _ _ (richCompare .Eq _ _) _ _ _
 rcases hq with⟨xs,hq⟩ | ⟨xs,hq⟩
 ·obtain⟨its,r,pl,hz⟩:=I.list hq
  exact SeqAt.RcAt.list_str z t pl.isList (by omega) _ _ _ _ ⟨.bl false,H,I,rfl,q⟩
 ·obtain⟨its,r,pl,hz⟩:=I.tuple hq
  exact SeqAt.RcAt.tuple_str z t (show s.heap.IsTuple a its.toArray from pl) (by omega) _ _ _ _ ⟨.bl false,H,I,rfl,q⟩
def isN:V->Bool
 | .non=>true
 | _=>false
def q47:Value->Bool
 | .none=>true
 | _=>false
theorem zs2(hu:X.A.units+64 < cLine):OpR X (compareOp .In) (fun x y H Q=>∃p xs,x=.non/\y=.ref p/\SqL X.K H p xs/\(∀v∈xs,v=.non\/∃a ys,v=.ref a/\SqT X.K H a ys)/\Q (.bl (xs.any isN)) H):=by
 intro pins s σ H x y v u Q I rx ry h
 obtain⟨p,xs,rfl,rfl,hq,hall,q⟩:=h
 cases rx; cases ry
 obtain⟨its,r,pl,hz⟩:=I.list hq
 have hmem:∀(xs:List V) (us:List Value),Vals xs us->(∀v∈xs,v=.non\/∃a ys,v=.ref a/\SqT X.K H a ys)->(∀u∈us,SeqAt.EqAt X.A.in1 s u .none (q47 u))/\us.any q47=xs.any isN:=by
  intro xs us rv
  induction rv with
  | nil=>intro _; exact⟨fun u hu=>(by cases hu),rfl⟩
  | cons rr _ ih=>
   intro ha
   obtain⟨i1,i2⟩:=ih fun v hv=>ha v (List.mem_cons_of_mem _ hv)
   rcases ha _ List.mem_cons_self with e | ⟨a,ys,e,hs⟩
   ·subst e
    cases rr
    refine⟨fun u hu'=>?_,by rw [List.any_cons,List.any_cons,i2]; rfl⟩
    rcases List.mem_cons.mp hu' with rfl | h'
    ·exact SeqAt.EqAt.same _
    ·exact i1 u h'
   ·subst e
    cases rr
    refine⟨fun u hu'=>?_,by rw [List.any_cons,List.any_cons,i2]; rfl⟩
    rcases List.mem_cons.mp hu' with rfl | h'
    ·obtain⟨its,_,ht,_⟩:=I.tuple hs
     exact SeqAt.EqAt.tuple_none (show s.heap.IsTuple a its.toArray from ht) (by show X.A.units+1 < _; omega)
    ·exact i1 u h'
 obtain⟨h1,h2⟩:=hmem xs its r hall
 refine SeqAt.in_listAt q47 pl.isList (fun w hw=>h1 w (by simpa using hw)) ⟨.bl _,H,I,rfl,?_⟩
 rw [show its.toArray.any q47=its.any q47 by simp,h2]
 exact q
def q34:R2:=fun x y H Q=>∃i j,x=.str i/\y=.str j/\Q (.bl (!decide (j.cps.toList < i.cps.toList))) H
def q33:R2:=fun x y H Q=>∃i j,x=.str i/\y=.str j/\Q (.bl (decide (i.cps.toList < j.cps.toList))) H
def q59(K:PySem.W.Frag)(x y:V)(H:Hp)(b:Bool):Prop:=(q5d x y=true/\b=decide (x=y))\/
 (∃a c xs ys,x=.ref a/\y=.ref c/\SqL K H a xs/\SqL K H c ys/\xs.all okV=true/\ys.all okV=true/\b=eqL xs ys)\/(∃a z,x=.ref a/\y=.str z/\Seq K H a/\b=false)
def qEq(K:PySem.W.Frag):R2:=fun x y H Q=>∃b,q59 K x y H b/\Q (.bl b) H
def qNe(K:PySem.W.Frag):R2:=fun x y H Q=>∃b,((q5d x y=true/\b=decide (x=y))\/(∃a c xs ys,x=.ref a/\y=.ref c/\SqL K H a xs/\SqL K H c ys/\xs.all okV=true/\ys.all okV=true/\b=eqL xs ys))/\Q (.bl (!b)) H
def q7i(K:PySem.W.Frag)(x y:V)(H:Hp)(b:Bool):Prop:=(∃p xs,y=.ref p/\(SqL K H p xs\/SqT K H p xs)/\zab x=true/\xs.all zab=true/\b=inV x xs)\/
 (∃i j,x=.str i/\y=.str j/\b = !(Builtin.Str.occurrences j i 0 j.length 1).isEmpty)\/
 (∃p xs,x=.non/\y=.ref p/\SqL K H p xs/\(∀v∈xs,v=.non\/∃a ys,v=.ref a/\SqT K H a ys)/\b=xs.any isN)
def qIn(K:PySem.W.Frag):R2:=fun x y H Q=>∃b,q7i K x y H b/\Q (.bl b) H
def q25(K:PySem.W.Frag)(x y:V)(H:Hp)(b:Bool):Prop:=(∃p xs,y=.ref p/\(SqL K H p xs\/SqT K H p xs)/\zab x=true/\xs.all zab=true/\b = !inV x xs)\/
 (∃i j,x=.str i/\y=.str j/\b = !(!(Builtin.Str.occurrences j i 0 j.length 1).isEmpty))\/
 (∃a p xs,x=.ref a/\y=.ref p/\Seq K H a/\SqT K H p xs/\(∀v∈xs,∃z,v=.str z)/\b=true)
def zhf(K:PySem.W.Frag):R2:=fun x y H Q=>∃b,q25 K x y H b/\Q (.bl b) H
def q26(K:PySem.W.Frag)(x:V)(H:Hp)(n:Nat):Prop:=(∃p ys,x=.ref p/\(SqL K H p ys\/SqT K H p ys)/\n=ys.length)\/∃z,x=.str z/\z.length<=sizeLine/\n=z.length
def q2k(K:PySem.W.Frag):List V->Hp->VK->Prop:=fun xs H Q=>∃x n,xs=[x]/\q26 K x H n/\Q (.int n) H
def q2l:R2:=fun x y H Q=>y=.non/\Q (.bl (decide (x=.non))) H
def zrv:R2:=fun x y H Q=>y=.non/\Q (.bl (!decide (x=.non))) H
def q36:R2:=fun x y H Q=>∃a b,x=.bl a/\y=.bl b/\Q (.bl (a == b)) H
def zu8:R2:=fun x y H Q=>∃a b,x=.bl a/\y=.bl b/\Q (.bl (a !=b)) H
theorem zoe(hu:X.A.units+64 < cLine):OpR X (compareOp .NotIn) (fun x y H Q=>∃a p xs,x=.ref a/\y=.ref p/\Seq X.K H a/\SqT X.K H p xs/\(∀v∈xs,∃z,v=.str z)/\Q (.bl true) H):=by
 intro pins s σ H x y v u Q I rx ry h
 obtain⟨a,p,xs,rfl,rfl,hq,hp,hall,q⟩:=h
 cases rx; cases ry
 obtain⟨its,r,pl,hz⟩:=I.tuple hp
 have hmem:∀(xs:List V) (us:List Value),Vals xs us->(∀v∈xs,∃z,v=.str z)->∀u∈us,SeqAt.EqAt X.A.in1 s u (.ref a) ((fun _=>false) u):=by
  intro xs us rv
  induction rv with
  | nil=>intro _ u hu; cases hu
  | cons rr _ ih=>
   intro ha u hu'
   rcases List.mem_cons.mp hu' with rfl | h'
   ·obtain⟨z,e⟩:=ha _ List.mem_cons_self
    subst e
    obtain⟨t,rfl⟩:=rr
    rcases hq with⟨ys,hq⟩ | ⟨ys,hq⟩
    ·obtain⟨its,_,pl,_⟩:=I.list hq
     exact SeqAt.EqAt.str_list z t pl.isList (by show X.A.units+1 < _; omega)
    ·obtain⟨its,_,pl,_⟩:=I.tuple hq
     exact SeqAt.EqAt.str_tuple z t (show s.heap.IsTuple a its.toArray from pl) (by show X.A.units+1 < _; omega)
   ·exact ih (fun v hv=>ha v (List.mem_cons_of_mem _ hv)) u h'
 refine SeqAt.notIn_tupleAt (fun _=>false) pl (fun w hw=>hmem xs its r hall w (by simpa using hw)) ⟨.bl _,H,I,rfl,?_⟩
 have e:(!its.toArray.any fun _=>false)=true:=by simp
 rw [e]
 exact q
theorem gEq(hu:X.A.units+64 < cLine):OpR X (compareOp .Eq) (qEq X.K):=by
 intro pins s σ H x y v u Q I rx ry h
 obtain⟨b,h,q⟩:=h
 rcases h with⟨h,rfl⟩ | ⟨a,c,xs,ys,h1,h2,h3,h4,h5,h6,rfl⟩ | ⟨a,z,h1,h2,h3,rfl⟩
 ·exact q3k pins s σ H x y v u Q I rx ry ⟨h,q⟩
 ·exact q3j hu pins s σ H x y v u Q I rx ry ⟨a,c,xs,ys,h1,h2,h3,h4,h5,h6,q⟩
 ·exact zy8 hu pins s σ H x y v u Q I rx ry ⟨a,z,h1,h2,h3,q⟩
theorem gNe(hu:X.A.units+64 < cLine):OpR X (compareOp .NotEq) (qNe X.K):=by
 intro pins s σ H x y v u Q I rx ry h
 obtain⟨b,h,q⟩:=h
 rcases h with⟨h,rfl⟩ | ⟨a,c,xs,ys,h1,h2,h3,h4,h5,h6,rfl⟩
 ·exact q3f pins s σ H x y v u Q I rx ry ⟨h,q⟩
 ·exact q3d hu pins s σ H x y v u Q I rx ry ⟨a,c,xs,ys,h1,h2,h3,h4,h5,h6,q⟩
theorem gIn(hu:X.A.units+64 < cLine):OpR X (compareOp .In) (qIn X.K):=by
 intro pins s σ H x y v u Q I rx ry h
 obtain⟨b,h,q⟩:=h
 rcases h with⟨p,xs,h1,h2,h3,h4,rfl⟩ | ⟨i,j,h1,h2,rfl⟩ | ⟨p,xs,h1,h2,h3,h4,rfl⟩
 ·exact zut pins s σ H x y v u Q I rx ry ⟨p,xs,h1,h2,h3,h4,q⟩
 ·exact zus pins s σ H x y v u Q I rx ry ⟨i,j,h1,h2,q⟩
 ·exact zs2 hu pins s σ H x y v u Q I rx ry ⟨p,xs,h1,h2,h3,h4,q⟩
theorem q4b(hu:X.A.units+64 < cLine):OpR X (compareOp .NotIn) (zhf X.K):=by
 intro pins s σ H x y v u Q I rx ry h
 obtain⟨b,h,q⟩:=h
 rcases h with⟨p,xs,h1,h2,h3,h4,rfl⟩ | ⟨i,j,h1,h2,rfl⟩ | ⟨a,p,xs,h1,h2,h3,h4,h5,rfl⟩
 ·exact zm5 pins s σ H x y v u Q I rx ry ⟨p,xs,h1,h2,h3,h4,q⟩
 ·exact zm4 pins s σ H x y v u Q I rx ry ⟨i,j,h1,h2,q⟩
 ·exact zoe hu pins s σ H x y v u Q I rx ry ⟨a,p,xs,h1,h2,h3,h4,h5,q⟩
theorem zzx:CallR X (.builtin "len") (q2k X.K):=by
 intro pins s σ H xs us Q I r h
 obtain⟨x,n,rfl,h,q⟩:=h
 rcases h with⟨p,ys,rfl,h,rfl⟩ | ⟨z,rfl,hz,rfl⟩
 ·exact zne pins s σ H _ us Q I r ⟨p,ys,rfl,h,q⟩
 ·exact znd pins s σ H _ us Q I r ⟨z,rfl,hz,q⟩
theorem zds:OpR X (compareOp .Eq) (rI0 fun i j=>.bl (decide (i=j))):=by
 intro pins s σ H x y v u Q I rx ry h
 obtain⟨i,rfl,hA⟩:=isI.o h
 obtain⟨j,rfl,q⟩:=isI.o hA
 refine q3k pins s σ H _ _ v u Q I rx ry ⟨rfl,?_⟩
 have e:decide (V.int i=V.int j)=decide (i=j):=by simp
 rw [e]; exact q
theorem q3e:OpR X (compareOp .NotEq) (rI0 fun i j=>.bl (!decide (i=j))):=by
 intro pins s σ H x y v u Q I rx ry h
 obtain⟨i,rfl,hA⟩:=isI.o h
 obtain⟨j,rfl,q⟩:=isI.o hA
 refine q3f pins s σ H _ _ v u Q I rx ry ⟨rfl,?_⟩
 have e:decide (V.int i=V.int j)=decide (i=j):=by simp
 rw [e]; exact q
theorem q7b:OpR X (compareOp .Is) q2l:=q3h
theorem q1m:OpR X (compareOp .IsNot) zrv:=q0x
def zrw(K:PySem.W.Frag):List V->Hp->VK->Prop:=fun xs H Q=>∃x n b,xs=[x,.ty n]/\(∃t,TyOf K H x t/\PySem.W.kitOne K t (.type n)=some b)/\Q (.bl b) H
theorem zyx:CallR X (.builtin "isinstance") (zrw X.K):=by
 intro pins s σ H xs us Q I r h
 obtain⟨x,n,b,rfl,⟨t,h1,h2⟩,q⟩:=h
 exact zpd pins s σ H _ us Q I r ⟨x,n,t,b,rfl,h1,h2,q⟩
end
def zjh:Expr->Bool
 | .Starred ..=>true
 | _=>false
def z3l:List Expr->Bool
 | []=>true
 | e::r=>!zjh e && z3l r
theorem z1f{e:Expr}{es:List Expr}{env:Env}(h:zjh e=false):starEach (e::es) env=(false,eval e env)::starEach es env:=by
 cases e<;>first | rfl | exact absurd (show true=false from h) (by decide)
theorem z3e{pos:Pos}{env:Env}:∀{es:List Expr},z3l es=true->(backTo pos (starEach es env)).any (·.1)=false
 | [],_=>rfl
 | e::r,h=>by
  rw [z3l,Bool.and_eq_true,Bool.not_eq_true'] at h
  rw [z1f h.1]
  have q:=z3e (pos:=pos) (env:=env) h.2
  show(false || (backTo pos (starEach r env)).any (·.1))=false
  rw [q]; rfl
theorem z09{X:Cx}{e:Expr}{es:List Expr}{te:TE}{t:TA}(ha:PE X e te)(hr:PA X es t)(h:zjh e=false:=by rfl):PA X (e::es) (zf1 te t):=q0v ha hr (z1f h)
structure Callee(P:Program)(w:World)(K:PySem.W.Frag)(mg:Str->Option Value)(base:Heap)(x:Str)(ps:List Str)(k:Nat)(sp:Sp):Prop where
 ex:∃f fd,FnOk P w K mg base CX0 k f fd ps sp/\mg x=some (.ref f)/\PySem.W.keepIn K (.ref f)=true/\Binds K fd ps []
theorem z18{X:Cx}{x:Str}{ps:List Str}{k j:Nat}{sp:Sp}{e:Expr}{es:List Expr}{t:TA}{p pos:Pos}(C:Callee X.prog X.w X.K X.mg X.base x ps k sp)(hr:Room j X.A)(hk:k<=j)(ha:PA X (e::es) t)(hg:Gl X x:=by rfl)
  (hdb:(x == ("__debug__" : Str))=false:=by decide) (hst:z3l (e::es)=true:=by rfl) :
  PE X (.Call (.Name x p) (e::es) [] pos) (zrf sp [] E0 t):=by
 have hst':=hst
 rw [z3l,Bool.and_eq_true,Bool.not_eq_true'] at hst'
 have he:=z1f (es:=es) (env:=X.env) hst'.1
 have hpl:=z3e (pos:=pos) (env:=X.env) hst'.2
 obtain⟨f,fd,F,hm,hkp,hb⟩:=C
 refine⟨?_⟩
 intro pins s σ H Q I h
 refine wpAny_Call_Name_kw (zhq I hg hm ?_ hdb)
 refine PySem.W.callWith_K (h₀:=X.base) I.ok.mod.kin hkp (thn (ha pos pins s σ H _ I h) fun us s1 ⟨vs,H1,I1,r,q⟩=>⟨I1.kIn,?_⟩) he hpl
 exact zzk F (hr.mono hk) hb .nil (fun _ _ _ _ _ _ _ z=>z.elim) I1 r q
theorem za5{X:Cx}{x:Str}{p pos:Pos}{e:Expr}{es:List Expr}{t:TA}{id:String}{r:List V->Hp->VK->Prop}(hc:CallR X (.builtin id) r)(hg:Gl X x)(hm:X.mg x=none)(hv:bootBuiltins x=some (.builtin id))(ha:PA X (e::es) t) (hn:x≠"__name__") (hdb:(x == ("__debug__" : Str))=false)
  (hst:z3l (e::es)=true:=by rfl):PE X (.Call (.Name x p) (e::es) [] pos) (tCB r t):=by
 have hst':=hst
 rw [z3l,Bool.and_eq_true,Bool.not_eq_true'] at hst'
 exact zy3 hc hg hm hv ha hn hdb (z1f hst'.1) (z3e hst'.2)
theorem zoc{X:Cx}{x:Str}{p pos:Pos}{e:Expr}{es:List Expr}{t:TA}{T:String}{r:List V->Hp->VK->Prop}(hc:CallR X (.type T) r)(hg:Gl X x)(hm:X.mg x=none)(hv:bootBuiltins x=some (.type T))(ha:PA X (e::es) t) (hn:x≠"__name__") (hdb:(x == ("__debug__" : Str))=false)
  (hst:z3l (e::es)=true:=by rfl):PE X (.Call (.Name x p) (e::es) [] pos) (tCB r t):=by
 have hst':=hst
 rw [z3l,Bool.and_eq_true,Bool.not_eq_true'] at hst'
 exact zup hc hg hm hv ha hn hdb (z1f hst'.1) (z3e hst'.2)
structure GC(mg:Str->Option Value)(x:Str)(v:V):Prop where
 ex:∃u,mg x=some u/\RelV v u
theorem q3b{X:Cx}{x:Str}{v:V}{pos:Pos}(h:GC X.mg x v)(hg:Gl X x:=by rfl) (hd:(x == ("__debug__" : Str))=false:=by decide):PE X (.Name x pos) (tC v):=by
 obtain⟨u,hm,r⟩:=h
 exact q0s hg hm r hd
def zwq(N:List Str)(on:List (Str×NameKind))(sc:Scope)(N':List Str)(mp:List (Option Nat)):Bool:=
 sc.kind == .function && sc.names.all (fun y=>y.2 !=.cell) && sc.names.all (fun y=>y.2 !=.local || sc.names.lookup y.1 == some .local) && sc.names.all (fun y=>y.2 !=.free || on.lookup y.1 == some .cell) && compOk N on sc.names N' mp
theorem CompS.of{X:Cx}{N':List Str}{sc:Scope}{mp:List (Option Nat)}(h:zwq X.N X.env.scope.names sc N' mp=true):CompS X N' sc mp:=by
 unfold zwq at h
 simp only[Bool.and_eq_true,beq_iff_eq] at h
 obtain⟨⟨⟨⟨h1,h2⟩,h3⟩,h4⟩,h5⟩:=h
 refine⟨h1,fun y hy=>?_,fun y hy e=>?_,fun y hy e=>?_,h5⟩
 ·have:=List.all_eq_true.mp h2 y hy
  simpa using this
 ·have:=List.all_eq_true.mp h3 y hy
  simp only[e,Bool.or_eq_true,beq_iff_eq] at this
  rcases this with z | z
  ·exact absurd z (by decide)
  ·exact z
 ·have:=List.all_eq_true.mp h4 y hy
  simp only[e,Bool.or_eq_true,beq_iff_eq] at this
  rcases this with z | z
  ·exact absurd z (by decide)
  ·exact z
theorem opK{X:Cx}{K:PySem.W.Frag}{f:Value->Value->Sem Value}{r:PySem.W.Frag->R2}(h:OpR X f (r X.K))(hK:X.K=K):OpR X f (r K):=hK ▸ h
theorem ixK{X:Cx}{K:PySem.W.Frag}{r:PySem.W.Frag->R2}(h:IxR X (r X.K))(hK:X.K=K):IxR X (r K):=hK ▸ h
theorem zfc{X:Cx}{K:PySem.W.Frag}{es:List Expr}{k:Nat}{t:TGs}{n:Nat}{pos:Pos}(hK:X.K=K)(hc:X.calm=true)(h:PGs X es t)(hn:(assignEach es X.env).length=n:=by rfl)(hst:(assignEach es X.env).findIdx? (·.1)=none:=by rfl):PG X (.Tuple es k pos) (zxa K n t):=hK ▸ zcj hc h hn hst
def q48:Expr->Bool
 | .ListComp ..=>true
 | .SetComp ..=>true
 | .DictComp ..=>true
 | _=>false
theorem z05{e:Expr}{t:Option Expr}{l:Nat}{env:Env}(h:q48 e=false):swapsWith e t l env=pure false:=by
 cases e<;>first | rfl | exact absurd (show true=false from h) (by decide)
theorem zrh{elt:Expr}{gs:List Comprehension}{sc:Scope}{cp p:Pos}{x:Str}{l:Nat}{env:Env}(h:env.scope.names.lookup x=some .cell):swapsWith (.ListComp elt gs sc cp) (some (.Name x p)) l env=pure false:=by
 unfold swapsWith
 have e:(env.kindOf x == some NameKind.local)=false:=by
  unfold Env.kindOf
  rw [h]; rfl
 simp only[e,Bool.and_false,Bool.false_and]
inductive Dm where
 | non | bl (b:Bool) | int (i:Int) | str (x:Str) | tup (ds:List Dm) | lst
mutual
inductive Dt (H:Hp):V->Dm->Prop where
 | non:Dt H .non .non
 | bl (b:Bool):Dt H (.bl b) (.bl b)
 | int (i:Int):Dt H (.int i) (.int i)
 | str (x:Str):Dt H (.str x) (.str x)
 | tup {a:Addr} {xs:List V} {ds:List Dm}:H a=some (.tup xs)->DtA H xs ds->Dt H (.ref a) (.tup ds)
 | lst {a:Addr} {xs:List V}:H a=some (.lst xs)->Dt H (.ref a) .lst
inductive DtA (H:Hp):List V->List Dm->Prop where
 | nil:DtA H [] []
 | cons {x:V} {xs:List V} {d:Dm} {ds:List Dm}:Dt H x d->DtA H xs ds->DtA H (x::xs) (d::ds)
end
structure Kp(H H':Hp):Prop where
 t:∀b xs,H b=some (.tup xs)->H' b=some (.tup xs)
 l:∀b xs,H b=some (.lst xs)->∃ys,H' b=some (.lst ys)
theorem Kp.refl(H:Hp):Kp H H:=⟨fun _ _ h=>h,fun _ xs h=>⟨xs,h⟩⟩
theorem Kp.trans{H H1 H2:Hp}(a:Kp H H1)(b:Kp H1 H2):Kp H H2:=⟨fun c xs h=>b.t c xs (a.t c xs h),fun c xs h=>let ⟨ys,e⟩:=a.l c xs h; b.l c ys e⟩
theorem Same.kp{H H':Hp}(s:Same H H'):Kp H H':=⟨fun b xs h=>s b _ h,fun b xs h=>⟨xs,s b _ h⟩⟩
theorem z02{H:Hp}{p:Addr}(h:H p=none)(o:HO):Same H (upd H p o):=fun b u q=>by rw [z0b (z0e q h)]; exact q
theorem Kp.new{H:Hp}{p:Addr}(h:H p=none)(o:HO):Kp H (upd H p o):=(z02 h o).kp
theorem Kp.set{H:Hp}{p:Addr}{xs ys:List V}(h:H p=some (.lst xs)):Kp H (upd H p (.lst ys)):=
 ⟨fun b zs e=>by rw [z0b (z5w e h (by intro z; cases z))]; exact e,fun b zs e=>by
  by_cases hb:b=p
  ·subst hb; exact⟨ys,z01⟩
  ·exact⟨zs,by rw [z0b hb]; exact e⟩⟩
mutual
theorem Dt.kp{H H':Hp}(k:Kp H H'):∀{v:V} {d:Dm},Dt H v d->Dt H' v d
 | _,_,.non=>.non
 | _,_,.bl b=>.bl b
 | _,_,.int i=>.int i
 | _,_,.str x=>.str x
 | _,_,.tup e r=>.tup (k.t _ _ e) (DtA.kp k r)
 | _,_,.lst e=>let ⟨_,e'⟩:=k.l _ _ e; .lst e'
theorem DtA.kp{H H':Hp}(k:Kp H H'):∀{xs:List V} {ds:List Dm},DtA H xs ds->DtA H' xs ds
 | _,_,.nil=>.nil
 | _,_,.cons r t=>.cons (Dt.kp k r) (DtA.kp k t)
end
theorem DtA.length{H:Hp}:∀{xs:List V} {ds:List Dm},DtA H xs ds->xs.length=ds.length
 | _,_,.nil=>rfl
 | _,_,.cons _ t=>by rw [List.length_cons,List.length_cons,DtA.length t]
theorem DtA.append{H:Hp}:∀{xs ys:List V} {ds es:List Dm},DtA H xs ds->DtA H ys es->DtA H (xs++ys) (ds++es)
 | _,_,_,_,.nil,h=>h
 | _,_,_,_,.cons r t,h=>.cons r (DtA.append t h)
theorem DtA.get{H:Hp}:∀{xs:List V} {ds:List Dm} {i:Nat} {x:V},DtA H xs ds->xs[i]?=some x->∃d,ds[i]?=some d/\Dt H x d
 | _,_,_,_,.nil,e=>by simp at e
 | _,_,0,_,.cons r _,e=>by simp at e; subst e; exact⟨_,rfl,r⟩
 | _,_,i+1,x,.cons _ t,e=>by
  obtain⟨d,h1,h2⟩:=DtA.get (i:=i) (x:=x) t (by simpa using e)
  exact⟨d,by simpa using h1,h2⟩
theorem Dt.tupI{H:Hp}{v:V}{ds:List Dm}(h:Dt H v (.tup ds)):∃a xs,v=.ref a/\H a=some (.tup xs)/\DtA H xs ds:=by
 cases h with
 | tup e r=>exact⟨_,_,rfl,e,r⟩
end L2
set_option Elab.async false
set_option linter.all false
set_option maxRecDepth 100000
namespace L2
open PySem PySem.Spec PyProof.Rows
section
variable{X:Cx}
def zua(K:PySem.W.Frag):List V->Hp->VK->Prop:=fun xs H Q=>∃(a:Addr) (ns:List Int),xs=[.ref a]/\SqL K H a (ns.map V.int)/\0 < ns.length/\∀M,M∈ns->(∀a∈ns,M<=a)->Q (.int M) H
def zub(K:PySem.W.Frag):List V->Hp->VK->Prop:=fun xs H Q=>∃(a:Addr) (ns:List Int),xs=[.ref a]/\SqL K H a (ns.map V.int)/\0 < ns.length/\∀M,M∈ns->(∀a∈ns,a<=M)->Q (.int M) H
def zlv(K:PySem.W.Frag):List V->Hp->VK->Prop:=fun xs H Q=>∃(a:Addr) (ns:List Int),xs=[.ref a]/\SqL K H a (ns.map V.int)/\ns.length < 64/\∀(l:Addr) (ms:List Int),H l=none->ms.Perm ns->ms.Pairwise (· <= ·)->Q (.ref l) (upd H l (.lst (ms.map V.int)))
def q2w(t ta tb:TT):TT:=fun σ H Q=>t σ H fun c H1=>if c=true then ta σ H1 Q else tb σ H1 Q
mutual
def Dm.dat:Dm->PyData
 | .non=>.none
 | .bl b=>.bool b
 | .int i=>.int i
 | .str x=>.str x
 | .tup ds=>.tuple (zej ds)
 | .lst=>.none
def zej:List Dm->List PyData
 | []=>[]
 | d::ds=>d.dat::zej ds
end
mutual
def Dm.shut:Dm->Bool
 | .tup ds=>zf7 ds
 | .lst=>false
 | .str x=>PyData.strOk x
 | _=>true
def zf7:List Dm->Bool
 | []=>true
 | d::ds=>d.shut && zf7 ds
end
mutual
theorem Dt.reads{pins:List (Addr×Obj)}{σ : St}{H:Hp}{s:Shared}(I:Inv X pins σ H s):∀{x:V} {d:Dm} {u:Value},Dt H x d->d.shut=true->RelV x u->∃as,Reads s.heap u d.dat as
 | _,_,_,.non,_,r=>by cases r; exact⟨_,.none⟩
 | _,_,_,.bl b,_,r=>by cases r; exact⟨_,.bool b⟩
 | _,_,_,.int i,_,r=>by obtain⟨t,rfl⟩:=r; exact⟨_,.int i t⟩
 | _,_,_,.str x,_,r=>by obtain⟨t,rfl⟩:=r; exact⟨_,.str x t⟩
 | _,_,_,.tup e ra,hs,r=>by
  cases r
  obtain⟨its,rv,⟨o,ho,hc,n,hd⟩,_⟩:=I.tuple (SqT.of e)
  obtain⟨as,q⟩:=DtA.reads I ra (by simpa [Dm.shut] using hs) rv
  exact⟨as,by rw [Dm.dat]; exact .tuple ho hc hd (by simpa using q)⟩
 | _,_,_,.lst _,hs,_=>absurd hs (by simp[Dm.shut])
theorem DtA.reads{pins:List (Addr×Obj)}{σ : St}{H:Hp}{s:Shared}(I:Inv X pins σ H s):∀{xs:List V} {ds:List Dm} {us:List Value},DtA H xs ds->zf7 ds=true->Vals xs us->∃as,ReadsAll s.heap us (zej ds) as
 | _,_,_,.nil,_,.nil=>⟨[],by rw [zej]; exact .nil⟩
 | _,_,_,.cons r t,hs,.cons rv rt=>by
  rw [zf7,Bool.and_eq_true] at hs
  obtain⟨as,q1⟩:=Dt.reads I r hs.1 rv
  obtain⟨bs,q2⟩:=DtA.reads I t hs.2 rt
  exact⟨as++bs,by rw [zej]; exact .cons q1 q2⟩
end
def EqD(H:Hp)(x y:V)(b:Bool):Prop:=∃d e,Dt H x d/\Dt H y e/\(d.shut=true/\SeqAt.shaped d.dat=true)/\(e.shut=true/\SeqAt.shaped e.dat=true)/\b=PyData.eqv d.dat e.dat
def zzm(_:PySem.W.Frag):R2:=fun x y H Q=>∃b,EqD H x y b/\Q (.bl b) H
def q35(_:PySem.W.Frag):R2:=fun x y H Q=>∃b,EqD H x y b/\Q (.bl (!b)) H
theorem dEq(hu:X.A.units+64 < cLine):OpR X (compareOp .Eq) (zzm X.K):=by
 intro pins s σ H x y v u Q I rx ry h
 obtain⟨b,⟨d,e,dx,dy,⟨s1,s2⟩,⟨s3,s4⟩,rfl⟩,q⟩:=h
 obtain⟨as,ra⟩:=Dt.reads I dx s1 rx
 obtain⟨bs,rb⟩:=Dt.reads I dy s3 ry
 exact eq_dataH ra rb s2 s4 hu ⟨.bl _,H,I,rfl,q⟩
end
end L2
set_option Elab.async false
set_option linter.all false
set_option maxRecDepth 100000
namespace L2
open PySem PySem.Spec PyProof.Rows
section
variable{κ : Type} [DecidableEq κ]
def zl3(kvs:List (κ×V))(k : κ):Option V:=(kvs.find? fun kv=>decide (kv.1=k)).map (·.2)
def zoa(kvs:List (κ×V))(k : κ)(v:V):List (κ×V):=
 if(kvs.any fun kv=>decide (kv.1=k))=true then kvs.map (fun kv=>if kv.1=k then(kv.1,v) else kv) else kvs++[(k,v)]
theorem zgt{p : κ×V}{r:List (κ×V)}{k : κ}(e:p.1=k):zl3 (p::r) k=some p.2:=by simp[zl3,List.find?_cons,e]
theorem zgu{p : κ×V}{r:List (κ×V)}{k : κ}(e:¬ p.1=k):zl3 (p::r) k=zl3 r k:=by simp[zl3,List.find?_cons,e]
theorem zpf(k : κ):∀kvs:List (κ×V),(kvs.any fun kv=>decide (kv.1=k))=(zl3 kvs k).isSome
 | []=>rfl
 | p::r=>by
  rw [List.any_cons]
  by_cases e:p.1=k
  ·simp only[zgt e,decide_eq_true e,Bool.true_or,Option.isSome_some]
  ·rw [zgu e,decide_eq_false e,Bool.false_or]; exact zpf k r
theorem zho(kvs:List (κ×V))(k : κ)(v:V):(zoa kvs k v).length<=kvs.length+1:=by
 unfold zoa
 split
 ·rw [List.length_map]; omega
 ·rw [List.length_append,List.length_cons,List.length_nil]; omega
theorem RelO.isSome_eq{o:Option V}{u:Option Value}(r:RelO o u):o.isSome=u.isSome:=by
 cases o with
 | none=>cases u with
  | none=>rfl
  | some _=>exact(show False from r).elim
 | some _=>cases u with
  | none=>exact(show False from r).elim
  | some _=>rfl
theorem RelO.getD{o:Option V}{u:Option Value}{d:V}{d':Value}(r:RelO o u)(rd:RelV d d'):RelV (o.getD d) (u.getD d'):=by
 cases o with
 | none=>cases u with
  | none=>exact rd
  | some _=>exact(show False from r).elim
 | some _=>cases u with
  | none=>exact(show False from r).elim
  | some _=>exact r
theorem KV.val{kvs:List (κ×V)}{vs:List (κ×Value)}(r:KV kvs vs)(k : κ):RelO (zl3 kvs k) (valueAt vs k):=by
 unfold KV at r
 induction r with
 | nil=>exact True.intro
 | @cons p q ps qs h t ih=>
  obtain⟨h1,h2⟩:=h
  by_cases e:p.1=k
  ·have e':q.1=k:=h1.symm.trans e
   have b:valueAt (q::qs) k=some q.2:=by simp[valueAt,List.find?_cons,e']
   rw [zgt e,b]; exact h2
  ·have e':¬ q.1=k:=fun z=>e (h1.trans z)
   have b:valueAt (q::qs) k=valueAt qs k:=by simp[valueAt,List.find?_cons,e']
   rw [zgu e,b]; exact ih
theorem KV.any{kvs:List (κ×V)}{vs:List (κ×Value)}(r:KV kvs vs)(k : κ):(kvs.any fun kv=>decide (kv.1=k))=vs.any fun kv=>decide (kv.1=k):=by
 unfold KV at r
 induction r with
 | nil=>rfl
 | cons h t ih=>rw [List.any_cons,List.any_cons,ih,h.1]
theorem KV.repl{kvs:List (κ×V)}{vs:List (κ×Value)}(r:KV kvs vs)(k : κ){y:V}{u:Value}(ry:RelV y u) :
  KV (kvs.map fun kv=>if kv.1=k then(kv.1,y) else kv) (vs.map fun kv=>if kv.1=k then(kv.1,u) else kv):=by
 unfold KV at r |-
 induction r with
 | nil=>exact .nil
 | @cons p q ps qs h t ih=>
  rw [List.map_cons,List.map_cons]
  refine .cons ?_ ih
  obtain⟨h1,h2⟩:=h
  by_cases e:p.1=k
  ·rw [if_pos e,if_pos (h1.symm.trans e)]; exact⟨h1,ry⟩
  ·rw [if_neg e,if_neg (fun z=>e (h1.trans z))]; exact⟨h1,h2⟩
theorem KV.put{kvs:List (κ×V)}{vs:List (κ×Value)}(r:KV kvs vs)(k : κ){y:V}{u:Value}(ry:RelV y u):KV (zoa kvs k y) (stored vs k u):=by
 unfold zoa stored
 rw [r.any k]
 by_cases e:(vs.any fun kv=>decide (kv.1=k))=true
 ·rw [if_pos e,if_pos e]; exact r.repl k ry
 ·rw [if_neg e,if_neg e]; exact Paired.snoc r ⟨rfl,ry⟩
theorem KV.keys{kvs:List (κ×V)}{vs:List (κ×Value)}(r:KV kvs vs):kvs.map (·.1)=vs.map (·.1):=by
 unfold KV at r
 induction r with
 | nil=>rfl
 | cons h t ih=>rw [List.map_cons,List.map_cons,ih,h.1]
theorem KV.length{kvs:List (κ×V)}{vs:List (κ×Value)}(r:KV kvs vs):kvs.length=vs.length:=Paired.length r
end
theorem zvh{P:Program}{w:World}{k:Key}{u:Value}(r:RelV (kV k) u):(z1k P w).is k u=true:=by
 cases k with
 | inl i=>obtain⟨t,e⟩:=(show ∃t,u=Value.int i t from r); subst e; exact zor P w i t
 | inr x=>obtain⟨t,e⟩:=(show ∃t,u=Value.str x t from r); subst e; exact zoq P w x t
theorem zmf{P:Program}{w:World}:∀{ks:List Key} {us:List Value},Vals (ks.map kV) us->ItemsAre (z1k P w) ks us
 | [],_,r=>by rw [List.map_nil] at r; cases r; exact .nil
 | k::ks,_,r=>by
  rw [List.map_cons] at r
  cases r with
  | cons h t=>exact .cons (zvh h) (zmf t)
abbrev KT(H:Hp):List (List Key×V)->List (List Key×Addr×Value)->Prop:=Paired fun p q=>p.1=q.1/\H q.2.1=some (.tup (p.1.map kV))/\RelV p.2 q.2.2
theorem KT.val{H:Hp}{kvs:List (List Key×V)}{xs:List (List Key×Addr×Value)}(r:KT H kvs xs)(k:List Key):RelO (zl3 kvs k) ((atKey xs k).map (·.2)):=by
 induction r with
 | nil=>exact True.intro
 | @cons p q ps qs h t ih=>
  obtain⟨h1,_,h2⟩:=h
  by_cases e:p.1=k
  ·have e':q.1=k:=h1.symm.trans e
   have b:atKey (q::qs) k=some q.2:=by simp[atKey,List.find?_cons,e']
   rw [zgt e,b]; exact h2
  ·have e':¬ q.1=k:=fun z=>e (h1.trans z)
   have b:atKey (q::qs) k=atKey qs k:=by simp[atKey,List.find?_cons,e']
   rw [zgu e,b]; exact ih
theorem KT.repl{H:Hp}{kvs:List (List Key×V)}{xs:List (List Key×Addr×Value)}(r:KT H kvs xs)(k:List Key){y:V}{u:Value}(ry:RelV y u) :
  KT H (kvs.map fun kv=>if kv.1=k then(kv.1,y) else kv) (xs.map (putAt k u)):=by
 induction r with
 | nil=>exact .nil
 | @cons p q ps qs h t ih=>
  rw [List.map_cons,List.map_cons]
  refine .cons ?_ ih
  obtain⟨h1,h2,h3⟩:=h
  unfold putAt
  by_cases e:p.1=k
  ·rw [if_pos e,if_pos (h1.symm.trans e)]; exact⟨h1,h2,ry⟩
  ·rw [if_neg e,if_neg (fun z=>e (h1.trans z))]; exact⟨h1,h2,h3⟩
theorem KT.put{H:Hp}{kvs:List (List Key×V)}{xs:List (List Key×Addr×Value)}(r:KT H kvs xs)(k:List Key){b:Addr}{y:V}{u:Value}(hb:H b=some (.tup (k.map kV)))(ry:RelV y u) :
  KT H (zoa kvs k y) (storedH xs k b u):=by
 have e:(kvs.any fun kv=>decide (kv.1=k))=(atKey xs k).isSome:=by
  rw [zpf,(r.val k).isSome_eq,Option.isSome_map]
 unfold zoa storedH
 rw [e]
 by_cases q:(atKey xs k).isSome=true
 ·rw [if_pos q,if_pos q]; exact r.repl k ry
 ·rw [if_neg q,if_neg q]; exact Paired.snoc r ⟨rfl,hb,ry⟩
theorem KT.keeps{H H':Hp}{kvs:List (List Key×V)}{xs:List (List Key×Addr×Value)}(r:KT H kvs xs)(ht:∀b ys,H b=some (.tup ys)->H' b=some (.tup ys)):KT H' kvs xs:=
 Paired.mapP r fun _ _ z=>⟨z.1,ht _ _ z.2.1,z.2.2⟩
section
variable{P:Program}{w:World}{H:Hp}{h:Heap}{a:Addr}
theorem q31{u:HO}(ok:HOk P w H h)(e:Rd H a u):ObjOk P w H h a u:=e.ok ok
theorem zsn{kvs:List (Key×V)}(ok:HOk P w H h)(e:Rd H a (.dK kvs)):kvs.length<=sizeLine/\(a == sysModules)=false/\∃vs,KV kvs vs/\h.DictOf (z1k P w) a vs:=
 show ObjOk P w H h a (.dK kvs) from q31 ok e
theorem q1o{kvs:List (Key×V)}(ok:HOk P w H h)(e:H a=some (.dK kvs)):kvs.length<=sizeLine/\(a == sysModules)=false/\∃vs,KV kvs vs/\h.DictOf (z1k P w) a vs:=zsn ok (.inl e)
theorem zjf{ks:List Key}(ok:HOk P w H h)(e:H a=some (.tup (ks.map kV))):(tupleKind (z1k P w)).is h ks a:=by
 obtain⟨_,its,r,o,h1,h2,n,h3⟩:=(show ObjOk P w H h a (.tup (ks.map kV)) from ok a _ e)
 exact⟨o,its.toArray,n,h1,h2,h3,by simpa using zmf r⟩
theorem zsm{kvs:List (List Key×V)}(ok:HOk P w H h)(e:Rd H a (.dT kvs)):kvs.length<=sizeLine/\(a == sysModules)=false/\
  ∃xs,KT H kvs xs/\h.DictOfH (tupleKind (z1k P w)) a xs:=by
 obtain⟨z,y,xs,r,o,es,ep,h1,h2,h3,h4,h5⟩:=(show ObjOk P w H h a (.dT kvs) from q31 ok e)
 refine⟨z,y,xs,r,o,es,ep,h1,h2,h3,h4,fun x hx=>?_,h5⟩
 have all:∀{l:List (List Key×V)} {m:List (List Key×Addr×Value)},KT H l m->∀x∈m,(tupleKind (z1k P w)).is h x.1 x.2.1:=by
  intro l m q
  induction q with
  | nil=>intro x hx; exact nomatch hx
  | @cons p q ps qs hq t ih=>
   intro x hx
   rcases List.mem_cons.mp hx with e | hx
   ·subst e
    exact zjf ok (by rw [<- hq.1]; exact hq.2.1)
   ·exact ih x hx
 exact all r x hx
theorem q5y{kvs:List (List Key×V)}(ok:HOk P w H h)(e:H a=some (.dT kvs)):kvs.length<=sizeLine/\(a == sysModules)=false/\
  ∃xs,KT H kvs xs/\h.DictOfH (tupleKind (z1k P w)) a xs:=zsm ok (.inl e)
end
def DGet(H:Hp)(a:Addr)(y:V)(r:Option V):Prop:=
 (∃kvs k,Rd H a (.dK kvs)/\y=kV k/\r=zl3 kvs k)\/∃kvs k b,Rd H a (.dT kvs)/\y=.ref b/\H b=some (.tup (k.map kV))/\r=zl3 kvs k
def DPut(H:Hp)(a:Addr)(y v:V)(H':Hp):Prop:=
 (∃kvs k,H a=some (.dK kvs)/\y=kV k/\kvs.length < sizeLine/\H'=upd H a (.dK (zoa kvs k v)))\/
 ∃kvs k b,H a=some (.dT kvs)/\y=.ref b/\H b=some (.tup (k.map kV))/\kvs.length < sizeLine/\H'=upd H a (.dT (zoa kvs k v))
theorem DGet.k{H:Hp}{a:Addr}{kvs:List (Key×V)}{k:Key}(e:H a=some (.dK kvs)):DGet H a (kV k) (zl3 kvs k):=.inl ⟨kvs,k,.inl e,rfl,rfl⟩
theorem DGet.t{H:Hp}{a b:Addr}{kvs:List (List Key×V)}{k:List Key}(e:H a=some (.dT kvs))(eb:H b=some (.tup (k.map kV))):DGet H a (.ref b) (zl3 kvs k):=.inr ⟨kvs,k,b,.inl e,rfl,eb,rfl⟩
theorem DPut.k{H:Hp}{a:Addr}{kvs:List (Key×V)}{k:Key}{v:V}(e:H a=some (.dK kvs))(hl:kvs.length < sizeLine):DPut H a (kV k) v (upd H a (.dK (zoa kvs k v))):=.inl ⟨kvs,k,e,rfl,hl,rfl⟩
theorem DPut.t{H:Hp}{a b:Addr}{kvs:List (List Key×V)}{k:List Key}{v:V}(e:H a=some (.dT kvs))(eb:H b=some (.tup (k.map kV)))(hl:kvs.length < sizeLine) :
  DPut H a (.ref b) v (upd H a (.dT (zoa kvs k v))):=.inr ⟨kvs,k,b,e,rfl,eb,hl,rfl⟩
section
variable{X:Cx}{pins:List (Addr×Obj)}{σ : St}{H:Hp}{s:Shared}{a:Addr}{y v:V}{u r:Value}{o:Option V}{A:Around}{E:Value->Shared->Prop}
theorem Inv.big(I:Inv X pins σ H s):sysModules < s.heap.objs.size:=by
 have h:mainGlobals < s.heap.objs.size:=(I.mod.glob.keeps I.bk).lt
 exact Nat.lt_trans (by decide) h
theorem zwl{Q:Value->Shared->Prop}(hu:A.units+1 < cLine)(I:Inv X pins σ H s)(g:DGet H a y (some v))(ry:RelV y u)(h:∀w' s',Inv X pins σ H s'->RelV v w'->Q w' s') :
  wpAny (model X.prog X.w) A (getItem (.ref a) u) Q E s:=by
 rcases g with⟨kvs,k,e,ey,l⟩ | ⟨kvs,k,b,e,ey,eb,l⟩
 ·subst ey
  obtain⟨z,hd,vs,rel,dd⟩:=zsn I.hok e
  obtain⟨w',hw,rw'⟩:=RelO.some_of (v:=v) (o:=valueAt vs k) (by rw [l]; exact rel.val k)
  exact wpAny_getItem_of (zvh ry) dd.mapOf hw (h w' _ (I.tok _) rw')
 ·subst ey
  cases (show u=Value.ref b from ry)
  obtain⟨z,hd,xs,rel,dd⟩:=zsm I.hok e
  obtain⟨w',hw,rw'⟩:=RelO.some_of (v:=v) (o:=(atKey xs k).map (·.2)) (by rw [l]; exact rel.val k)
  obtain⟨p,hp,hp2⟩:=Option.map_eq_some_iff.mp hw
  refine wpAny_getItem_heap (tupleKind_room_in1 hu) (zjf I.hok eb) dd hp ?_
  rw [hp2]
  exact h w' _ (I.tok _) rw'
theorem q1t{Q:Value->Shared->Prop}(hu:A.units+1 < cLine)(I:Inv X pins σ H s)(g:DGet H a y o)(ry:RelV y u)(h:∀s',Inv X pins σ H s'->Q (.bool (!o.isSome)) s') :
  wpAny (model X.prog X.w) A (compareOp .NotIn u (.ref a)) Q E s:=by
 rcases g with⟨kvs,k,e,ey,l⟩ | ⟨kvs,k,b,e,ey,eb,l⟩
 ·subst ey
  obtain⟨z,hd,vs,rel,dd⟩:=zsn I.hok e
  refine wpAny_notIn_of (zvh ry) hd dd.mapOf ?_
  rw [<- (rel.val k).isSome_eq,<- l]
  exact h _ (I.tok _)
 ·subst ey
  cases (show u=Value.ref b from ry)
  obtain⟨z,hd,xs,rel,dd⟩:=zsm I.hok e
  refine wpAny_notIn_heap (tupleKind_room_in1 hu) (zjf I.hok eb) hd dd ?_
  have q:=(rel.val k).isSome_eq
  rw [Option.isSome_map] at q
  rw [<- q,<- l]
  exact h _ (I.tok _)
theorem zwj{h':Heap}{t':Nat}{ob:HO}(I:Inv X pins σ H s)(mu:Mut (H a))(hs:Heap.SameBut a s.heap h')(he:∃q,h'.get? a=some q)(new:ObjOk X.prog X.w (upd H a ob) h' a ob) :
  Inv X pins σ (upd H a ob) {s with heap:=h',toks:=t'}:=
 I.write (x:=a) (e:=a) mu (.inl rfl) (fun b q hb z=>(hs.2 b hb).trans z) he new
theorem q4j{P:Program}{w:World}{H':Hp}{h':Heap}{kvs:List (Key×V)}{vs:List (Key×Value)}(z:kvs.length<=sizeLine)(hd:(a == sysModules)=false)(rel:KV kvs vs)(dd:h'.DictOf (z1k P w) a vs) :
  ObjOk P w H' h' a (.dK kvs):=⟨z,hd,vs,rel,dd⟩
theorem zwk{H':Hp}{Q:Unit->Shared->Prop}(hu:A.units+1 < cLine)(I:Inv X pins σ H s)(g:DPut H a y v H')(ry:RelV y u)(rv:RelV v r)(h:∀s',Inv X pins σ H' s'->Q () s') :
  wpAny (model X.prog X.w) A (setItem (.ref a) u r) Q E s:=by
 rcases g with⟨kvs,k,e,ey,l,eH⟩ | ⟨kvs,k,b,e,ey,eb,l,eH⟩
 ·subst ey eH
  obtain⟨z,hd,vs,rel,dd⟩:=q1o I.hok e
  have hz:vs.length<=sizeLine:=by rw [<- rel.length]; exact z
  have hl:(zoa kvs k v).length<=sizeLine:=by have:=zho kvs k v; omega
  refine wpAny_setItem_pairs (hsz:=hz) (zvh ry) dd fun h' dd' hs=>h _ ?_
  have he:∃q,h'.get? a=some q:=let ⟨q,_,_,hq,_⟩:=dd'; ⟨q,hq⟩
  exact zwj I (by rw [e]; exact True.intro) hs he (q4j hl hd (rel.put k rv) dd')
 ·subst ey eH
  cases (show u=Value.ref b from ry)
  obtain⟨z,hd,xs,rel,dd⟩:=q5y I.hok e
  have hz:xs.length<=sizeLine:=by rw [<- Paired.length rel]; exact z
  have hl:(zoa kvs k v).length<=sizeLine:=by have:=zho kvs k v; omega
  refine wpAny_setItem_heap (hsz:=hz) (tupleKind_room_in1 hu) (zjf I.hok eb) dd fun h' dd' hs=>h _ ?_
  obtain⟨q,es,ep,hq,h2,h3,h4,_,h5⟩:=dd'
  refine zwj I (by rw [e]; exact True.intro) hs ⟨q,hq⟩ ⟨hl,hd,_,(rel.put k eb rv).keeps fun c ys ec=>?_,q,es,ep,hq,h2,h3,h4,h5⟩
  rw [z0b (z5w ec e (fun z=>nomatch z))]
  exact ec
end
section
variable{X:Cx}{pins:List (Addr×Obj)}{σ : St}{H:Hp}{s:Shared}{a:Addr}{kvs:List (Key×V)}{k:Key}{u:Value}{A:Around}{E:Value->Shared->Prop}
end
def q6p(i:Expr):Prop:=∀ov iv,subscripted i false ov iv=operate [ov,iv] (getItem ov iv)
theorem q0b{prog:Program}{w:World}{A:Around}{E:Value->Shared->Prop}{s:Shared}{env:Env}{value slice:Expr}{pos:Pos}{T id:String}{Q:Value->Shared->Prop}
  (hl:typeLookup (.type T) "__getitem__" = pure (some (.builtin id))) (hs:q6p slice)
  (h:wpAny (model prog w) A (eval value env) (fun o s₁=>wpAny (model prog w) A (eval slice env) (fun i s₂=>s₂.TypeIs o T/\wpAny (model prog w) A (getItem o i) Q E s₂) E s₁) E s) :
  wpAny (model prog w) A (eval (.Subscript value slice pos) env) Q E s:=by
 refine Subscript_ (wpAny_mono h (fun o s₁ h₁=>wpAny_mono h₁ (fun i s₂ h₂=>?_) fun _ _ x=>x) fun _ _ x=>x)
 obtain⟨hT,h₂⟩:=h₂
 unfold subscriptTail
 refine wpAny_bind ?_
 rw [getitemInPython_of_ne hT.not_modules]
 refine wpAny_bind (wpAny_specialOf hT hl ?_)
 have fin:wpAny (model prog w) A (subscripted slice false o i) (fun r s₃=>wpAny (model prog w) A (letTemporaryGo value o r >>= fun _=>pure r) Q E s₃) E s₂:=by
  rw [hs o i]
  exact wpAny_operating (wpAny_mono h₂ (fun r s₃ h₃=>wpAny_bind (wpAny_letTemporaryGo (wpAny_pure h₃))) fun _ _ x=>x)
 first
  | exact wpAny_pure (wpAny_bind fin)
  | exact wpAny_bind (wpAny_pure (wpAny_bind fin))
  | exact wpAny_bind fin
theorem zp0{X:Cx}{pins:List (Addr×Obj)}{σ : St}{H:Hp}{s:Shared}{a:Addr}{y:V}{o:Option V}(I:Inv X pins σ H s)(g:DGet H a y o):s.TypeIs (.ref a) "dict":=by
 rcases g with⟨kvs,k,e,_,_⟩ | ⟨kvs,k,b,e,_,_,_⟩
 ·obtain⟨_,_,vs,_,dd⟩:=zsn I.hok e
  exact dd.typeIs
 ·obtain⟨_,_,xs,_,dd⟩:=zsm I.hok e
  exact dd.typeIs
def zrd(td ty:TE):TE:=fun σ H Q=>td σ H fun x H1=>ty σ H1 fun y H2=>∃a v,x=.ref a/\DGet H2 a y (some v)/\Q v H2
def q6x(ty td:TE):TE:=fun σ H Q=>ty σ H fun y H1=>td σ H1 fun x H2=>∃a o,x=.ref a/\DGet H2 a y o/\Q (.bl o.isSome) H2
def zto(ty td:TE):TE:=fun σ H Q=>ty σ H fun y H1=>td σ H1 fun x H2=>∃a o,x=.ref a/\DGet H2 a y o/\Q (.bl (!o.isSome)) H2
def zrr(td ty tv:TE):TS:=fun D σ H=>tv σ H fun v H1=>td σ H1 fun x H2=>ty σ H2 fun y H3=>∃a H4,x=.ref a/\DPut H3 a y v H4/\D.nx σ H4
section
variable{X:Cx}{o i e value:Expr}{pos pos' tpos:Pos}{td ty tv:TE}
theorem q0t(hu:X.A.units+1 < cLine)(ho:PE X o td)(hi:PE X i ty)(hs:q6p i):PE X (.Subscript o i pos) (zrd td ty):=by
 refine⟨?_⟩
 intro pins s σ H Q I h
 refine q0b PySem.F.slot_dict_getitem.lookup hs (thn (ho pins s σ H _ I h) fun u s1 ⟨x,H1,I1,rx,q1⟩=>thn (hi pins s1 σ H1 _ I1 q1) fun iv s2 ⟨y,H2,I2,ry,a,v,ex,g,q2⟩=>?_)
 subst ex
 obtain rfl:u=Value.ref a:=rx
 exact⟨zp0 I2 g,zwl hu I2 g ry fun w' s3 I3 rw'=>⟨v,H2,I3,rw',q2⟩⟩
theorem zuq(hu:X.A.units+1 < cLine)(hi:PE X i ty)(ho:PE X o td):PC X .NotIn i o (zto ty td):=by
 refine⟨?_⟩
 intro pins s σ H Q I h
 refine thn (hi pins s σ H _ I h) fun iv s1 ⟨y,H1,I1,ry,q1⟩=>thn (ho pins s1 σ H1 _ I1 q1) fun u s2 ⟨x,H2,I2,rx,a,ov,ex,g,q2⟩=>?_
 subst ex
 obtain rfl:u=Value.ref a:=rx
 exact q1t hu I2 g ry fun s3 I3=>⟨.bl (!ov.isSome),H2,I3,rfl,q2⟩
theorem zk2(hu:X.A.units+1 < cLine)(ho:PE X o td)(hi:PE X i ty)(hv:PE X value tv)(hs:swapsWith value (some (.Subscript o i pos')) pos.line X.env=pure false) :
  PS X (.Assign [.Subscript o i pos'] value pos) (zrr td ty tv):=by
 refine⟨?_⟩
 intro pins s σ H D I h
 refine wpAny_Assign_Subscript (thn (hv pins s σ H _ I h) fun r s1 ⟨v,H1,I1,rv,q1⟩=>thn (ho pins s1 σ H1 _ I1 q1) fun u s2 ⟨x,H2,I2,rx,q2⟩=>thn (hi pins s2 σ H2 _ I2 q2) fun iv s3 ⟨y,H3,I3,ry,a,H4,ex,g,q3⟩=>?_) hs
 subst ex
 obtain rfl:u=Value.ref a:=rx
 exact zwk hu I3 g ry rv fun s4 I4=>⟨σ,H4,I4,q3⟩
end
theorem zz1{P:Program}{w:World}{H:Hp}(h:Heap)(hb:sysModules < h.objs.size):ObjOk P w H (h.push {cls:=.type "dict",data:=.dict #[]}) h.objs.size (.dK []):=
 ⟨Nat.zero_le _,beq_eq_false_iff_ne.mpr (Ne.symm (Nat.ne_of_lt hb)),[],.nil,Heap.DictOf.new h⟩
theorem zz0{P:Program}{w:World}{H:Hp}(h:Heap)(hb:sysModules < h.objs.size):ObjOk P w H (h.push {cls:=.type "dict",data:=.dict #[]}) h.objs.size (.dT []):=
 ⟨Nat.zero_le _,beq_eq_false_iff_ne.mpr (Ne.symm (Nat.ne_of_lt hb)),[],.nil,_,#[],0,Heap.get?_push_size _ rfl,⟨rfl,rfl,rfl⟩,rfl,rfl,List.nodup_nil⟩
def zj5:TE:=fun _ H Q=>∀p,H p=none->Q (.ref p) (upd H p (.dK []))
def q2y:TE:=fun _ H Q=>∀p,H p=none->Q (.ref p) (upd H p (.dT []))
section
variable{X:Cx}{pos:Pos}
theorem zq0:PE X (.Dict [] [] pos) zj5:=⟨fun pins s σ H Q I h=>
 wpAny_Dict_empty ⟨.ref s.heap.objs.size,_,I.laid (a:=s.heap.objs.size) (o:=.dK []) (t':=s.toks) (fun _ _ q=>Heap.get?_push_of_some _ q) (Nat.le_refl _) (zz1 s.heap I.big),rfl,h _ (I.hok.fresh (Nat.le_refl _))⟩⟩
theorem zy2:PE X (.Dict [] [] pos) q2y:=⟨fun pins s σ H Q I h=>
 wpAny_Dict_empty ⟨.ref s.heap.objs.size,_,I.laid (a:=s.heap.objs.size) (o:=.dT []) (t':=s.toks) (fun _ _ q=>Heap.get?_push_of_some _ q) (Nat.le_refl _) (zz0 s.heap I.big),rfl,h _ (I.hok.fresh (Nat.le_refl _))⟩⟩
end
def zh8:List (TE×TE)->St->Hp->(List (V×V)->Hp->Prop)->Prop
 | [],_,H,Q=>Q [] H
 | (tk,tv)::r,σ,H,Q=>tk σ H fun x H1=>tv σ H1 fun y H2=>zh8 r σ H2 fun ps H3=>Q ((x,y)::ps) H3
def q3v(kvs more:List (Key×V)):List (Key×V):=more.foldl (fun acc kv=>zoa acc kv.1 kv.2) kvs
def ztn(trs:List (TE×TE)):TE:=fun σ H Q=>∀p,H p=none->zh8 trs σ (upd H p (.dK [])) fun ps H2=>H2 p=some (.dK [])/\∃kvs:List (Key×V),ps=kvs.map (fun kv=>(kV kv.1,kv.2))/\kvs.length<=15/\Q (.ref p) (upd H2 p (.dK (q3v [] kvs)))
structure M1(X:Cx)(o:Expr)(m:Str)(apos:Pos)(e:Expr)(cpos:Pos):Prop where
 base:attributeBase o m X.env (eval o X.env)=eval o X.env
 few:((backTo cpos (starEach [e] X.env)).all (fun x=>!x.1) && (backToKw cpos (keywordEach [] X.env)).all (fun x=>x.1.isSome)
  && decide (([e]:List Expr).length+([]:List Keyword).length+(if([]:List Keyword).isEmpty then 0 else 1) < 30))=true
 line:(apos.endLine == cpos.line)=true
 trees:backTo cpos (starEach [e] X.env)=[(false,eval e X.env)]
structure M2(X:Cx)(o:Expr)(m:Str)(apos:Pos)(e f:Expr)(cpos:Pos):Prop where
 base:attributeBase o m X.env (eval o X.env)=eval o X.env
 few:((backTo cpos (starEach [e,f] X.env)).all (fun x=>!x.1) && (backToKw cpos (keywordEach [] X.env)).all (fun x=>x.1.isSome)
  && decide (([e,f]:List Expr).length+([]:List Keyword).length+(if([]:List Keyword).isEmpty then 0 else 1) < 30))=true
 line:(apos.endLine == cpos.line)=true
 trees:backTo cpos (starEach [e,f] X.env)=[(false,eval e X.env),(false,eval f X.env)]
def IsD(H:Hp)(a:Addr):Prop:=(∃kvs,Rd H a (.dK kvs))\/∃kvs,Rd H a (.dT kvs)
theorem zvl{X:Cx}{pins:List (Addr×Obj)}{σ : St}{H:Hp}{s:Shared}{a:Addr}(I:Inv X pins σ H s)(d:IsD H a) :
  s.TypeIs (.ref a) "dict"/\(∀b,Value.ref a=.ref b->∃ob,s.heap.get? b=some ob/\ob.dict=none)/\(a == sysModules)=false:=by
 rcases d with⟨kvs,e⟩ | ⟨kvs,e⟩
 ·obtain⟨_,hd,vs,_,dd⟩:=zsn I.hok e
  refine⟨dd.typeIs,fun b q=>?_,hd⟩
  cases q
  obtain⟨ob,_,_,h1,h2,_⟩:=dd
  exact⟨ob,h1,h2.2.1⟩
 ·obtain⟨_,hd,xs,_,dd⟩:=zsm I.hok e
  refine⟨dd.typeIs,fun b q=>?_,hd⟩
  cases q
  obtain⟨ob,_,_,h1,h2,_⟩:=dd
  exact⟨ob,h1,h2.2.1⟩
section
variable{X:Cx}{pins:List (Addr×Obj)}{σ : St}{H:Hp}{s:Shared}{a:Addr}{y d:V}{u r:Value}{o:Option V}{A:Around}{E:Value->Shared->Prop}
theorem q4r{Q:Value->Shared->Prop}(hu:A.units+1 < cLine)(I:Inv X pins σ H s)(g:DGet H a y o)(ry:RelV y u)(rd:RelV d r)(h:∀w' s',Inv X pins σ H s'->RelV (o.getD d) w'->Q w' s') :
  wpAny (model X.prog X.w) A (call (.builtin "dict.get") [.ref a,u,r]) Q E s:=by
 rcases g with⟨kvs,k,e,ey,l⟩ | ⟨kvs,k,b,e,ey,eb,l⟩
 ·subst ey
  obtain⟨z,hd,vs,rel,dd⟩:=zsn I.hok e
  refine call_meetsIn PySem.F.slot_dict_get dd.typeIs PySem.F.entry_dict_get (PySem.F.args_dict_get_3 _ _ _) (meets_dict_get_default (z1k X.prog X.w) a (zvh ry) hd r) ⟨_,dd.mapOf,h _ _ (I.tok _) ?_⟩
  rw [l]
  exact(rel.val k).getD rd
 ·subst ey
  cases (show u=Value.ref b from ry)
  obtain⟨z,hd,xs,rel,dd⟩:=zsm I.hok e
  refine call_meetsIn PySem.F.slot_dict_get dd.typeIs PySem.F.entry_dict_get (PySem.F.args_dict_get_3 _ _ _) (meetsH_dict_get_default (tupleKind (z1k X.prog X.w)) a b hd r) ⟨tupleKind_room_in1 hu,k,xs,zjf I.hok eb,dd,h _ _ (I.tok _) ?_⟩
  rw [l]
  exact(rel.val k).getD rd
end
def zl9(td ty:TE):TE:=fun σ H Q=>td σ H fun x H1=>∃a,x=.ref a/\IsD H1 a/\ty σ H1 fun y H2=>∃o,DGet H2 a y o/\Q (o.getD .non) H2
def zl8(td ty tx:TE):TE:=fun σ H Q=>td σ H fun x H1=>∃a,x=.ref a/\IsD H1 a/\ty σ H1 fun y H2=>tx σ H2 fun z H3=>∃o,DGet H3 a y o/\Q (o.getD z) H3
section
variable{X:Cx}{o e f:Expr}{apos cpos:Pos}{td ty tx:TE}
theorem zq1(hu:X.A.units+1 < cLine)(ho:PE X o td)(he:PE X e ty)(hf:PE X f tx) (m:M2 X o "get" apos e f cpos):PE X (.Call (.Attribute o "get" apos) [e,f] [] cpos) (zl8 td ty tx):=by
 refine⟨?_⟩
 intro pins s σ H Q I h
 refine wpAny_Call_method m.base m.few m.line PySem.F.plainAttrs_dict PySem.F.slot_dict_get PySem.F.type_dict_get (thn (ho pins s σ H _ I h) fun u s1 ⟨x,H1,I1,rx,a,ex,d,q1⟩=>?_)
 subst ex
 obtain rfl:u=Value.ref a:=rx
 obtain⟨t1,t2,_⟩:=zvl I1 d
 refine⟨t1,t2,?_⟩
 rw [m.trees]
 refine Calls.callWith_builtin rfl (Calls.evalArgs_plain (Calls.spliced_cons (thn (he pins s1 σ H1 _ I1 q1) fun iv s2 ⟨y,H2,I2,ry,q2⟩=>
  Calls.spliced_cons (thn (hf pins s2 σ H2 _ I2 q2) fun fv s3 ⟨z,H3,I3,rz,ov,g,q3⟩=>Calls.spliced_nil ?_))))
 exact q4r hu I3 g ry rz fun w' s4 I4 rw'=>⟨_,H3,I4,rw',q3⟩
end
section
variable{X:Cx}{pins:List (Addr×Obj)}{σ : St}{H:Hp}{s:Shared}{a:Addr}{kvs:List (Key×V)}{A:Around}{E:Value->Shared->Prop}
end
section
variable{X:Cx}{pins:List (Addr×Obj)}{σ : St}{H:Hp}{s:Shared}{a:Addr}{y:V}{u:Value}{A:Around}{E:Value->Shared->Prop}
end
end L2
namespace L2
open PySem PySem.Spec PyProof.Rows
section
variable{X:Cx}
end
section
variable{κ : Type} [DecidableEq κ]
end
end L2
set_option Elab.async false
set_option linter.all false
set_option maxRecDepth 100000
namespace L2
open PySem PySem.Spec PyProof.Rows
section
variable{X:Cx}
def q7h(K:PySem.W.Frag)(a:Addr)(f:Int->Option Value):Prop:=∃o es ep,K.lookup a=some o/\o.ExactDict/\o.data=.dict es ep/\(∀e∈es,∃k,Value.isInt k e.key=true/\e.hash=hashInt k)/\∀k,findBy Value.isInt es k=f k
def ztk(K:PySem.W.Frag)(td ty:TE):TE:=fun σ H Q=>td σ H fun x H1=>ty σ H1 fun y H2=>∃a k u v f,x=.ref a/\y=.int k/\q7h K a f/\f k=some u/\RelV v u/\Q v H2
end
end L2
set_option Elab.async false
set_option linter.all false
set_option maxRecDepth 100000
namespace L2
open PySem PySem.Spec PyProof.Rows
section
variable{X:Cx}{pins:List (Addr×Obj)}{σ : List (Option V)}{H:Hp}{s:Shared}{h':Heap}
theorem Inv.turnedL{t':Nat}{ch:List Addr}(I:Inv X pins σ H s)(k:∀b o,b∉ch->s.heap.get? b=some o->h'.get? b=some o)(hf:∀b∈ch,FpOk X pins H b):Inv X pins σ H {s with heap:=h',toks:=t'}:=by
 have nit:∀b u,H b=some u->b∉ch:=fun b u e z=>by rw [(hf b z).1] at e; cases e
 refine I.step (g':=s.gens) (d':=s.drawn) (ch:=ch) (fun b hb=>?_) (fun b o _ _ hc e _=>k b o hc e) (fun b o _ _ hc e _=>⟨o.slots,k b o hc e⟩) (fun _ _ _ _ n=>n)
  (fun b o hc e=>⟨o,k b o hc e⟩) (fun _ _ e=>e) (fun _ _ _ e=>e) (fun b ps e=>⟨#[],by rw [e]; simp⟩) (fun m hm=>?_) (fun b u e=>?_) I.bare
 ·obtain⟨_,f1,_,f3,f4,f5⟩:=hf b hb
  exact⟨f3,f1,f4,f5⟩
 ·obtain⟨o,es,ep,ho,r⟩:=hm
  exact⟨o,es,ep,k _ o (fun z=>(hf _ z).2.1 rfl) ho,r⟩
 ·refine(I.hok b u e).stay (fun c v hc q=>k c v ?_ q) (fun _ q=>q) fun _ _ q=>q
  rcases hc with z | z
  ·rw [z]; exact nit b u e
  ·exact nit c _ z
end
def Ite(K:PySem.W.Frag)(a:Addr):It:=
 ⟨fun i H=>∃xs x,SqL K H a xs/\xs[i]?=some x,fun i H x H'=>∃T v,x=.ref T/\H T=none/\H'=upd H T (.tup [.int i,v])/\∀xs,SqL K H a xs->xs[i]?=some v,fun i H=>∃xs,SqL K H a xs/\xs.length<=i⟩
def Itz(K:PySem.W.Frag)(a b:Addr):It:=
 ⟨fun i H=>∃xs ys x y,SqL K H a xs/\SqL K H b ys/\xs[i]?=some x/\ys[i]?=some y,fun i H x H'=>∃T u v,x=.ref T/\H T=none/\H'=upd H T (.tup [u,v])/\(∀xs,SqL K H a xs->xs[i]?=some u)/\∀ys,SqL K H b ys->ys[i]?=some v,
  fun i H=>∃xs ys,SqL K H a xs/\SqL K H b ys/\(xs.length<=i\/ys.length<=i)⟩
theorem zpg:(2:Nat)<=sizeLine:=by decide
section
variable{X:Cx}
def q5x(K:PySem.W.Frag)(ta:TA):TI:=fun σ H R=>ta σ H fun vs H1=>∃a,vs=[.ref a]/\(∃xs,SqL K H1 a xs)/\R (Ite K a) H1
end
section
variable{X:Cx}
def q76(K:PySem.W.Frag)(ta:TA):TI:=fun σ H R=>ta σ H fun vs H1=>∃a b,vs=[.ref a,.ref b]/\(∃xs,SqL K H1 a xs)/\(∃ys,SqL K H1 b ys)/\R (Itz K a b) H1
end
end L2
set_option Elab.async false
set_option linter.all false
set_option maxRecDepth 100000
namespace L2
open PySem PySem.Spec PyProof.Rows
theorem Room.units1{k:Nat}{A:Around}(r:Room k A):A.units+1 < cLine:=by have:=r.un; omega
section
variable{X:Cx}
theorem zj7:∀{ns:List Str} {us:List Value},Vals (ns.map V.str) us->StrsAre us ns
 | [],_,.nil=>.nil
 | n::ns,_::_,.cons r t=>by
  obtain⟨k,rfl⟩:=r
  exact .cons n k (zj7 t)
theorem zfu:∀{ns:List Str} {us:List Value},StrsAre us ns->Vals (ns.map V.str) us
 | _,_,.nil=>.nil
 | _,_,.cons n t h=>.cons ⟨t,rfl⟩ (zfu h)
def zlu(K:PySem.W.Frag):List V->Hp->VK->Prop:=fun xs H Q=>∃(a:Addr) (ns:List Str),xs=[.ref a]/\SqL K H a (ns.map V.str)/\ns.length < 64/\∀(l:Addr) (ms:List Str),H l=none->ms.Perm ns->sortedS ms=true->Q (.ref l) (upd H l (.lst (ms.map V.str)))
def zh9(r r' r'':R2)(ta tb tc td:TE):TT:=fun σ H Q=>ta σ H fun x H1=>tb σ H1 fun y H2=>r x y H2 fun z H3=>∃k,z=.bl k/\(if k=true then tc σ H3 fun w H4=>r' y w H4 fun z H5=>∃k,z=.bl k/\
 (if k=true then td σ H5 fun v H6=>r'' w v H6 fun z H7=>∃k,z=.bl k/\Q k H7 else Q false H5) else Q false H3)
def q78(K:PySem.W.Frag)(tl:TE):TI:=fun σ H R=>tl σ H fun x H1=>∃a,x=.ref a/\(((∃xs,SqL K H1 a xs)/\R (Itl K a) H1)\/((∃xs,SqT K H1 a xs)/\R (Itt K a) H1))
end
section
variable{X:Cx}
def q6q(K:PySem.W.Frag)(H:Hp)(x y:V)(b:Bool):Prop:=∃a c xs ys ds es,x=.ref a/\y=.ref c/\SqL K H a xs/\SqL K H c ys/\DtA H xs ds/\DtA H ys es/\zf7 ds=true/\zf7 es=true/\SeqAt.shaped (.list (zej ds))=true/\SeqAt.shaped (.list (zej es))=true/\b=PyData.eqv (.list (zej ds)) (.list (zej es))
def zrx(K:PySem.W.Frag):R2:=fun x y H Q=>∃b,q6q K H x y b/\Q (.bl b) H
def zu9(K:PySem.W.Frag):R2:=fun x y H Q=>∃b,q6q K H x y b/\Q (.bl (!b)) H
theorem Inv.readsDL{pins:List (Addr×Obj)}{σ : St}{H:Hp}{s:Shared}{a:Addr}{xs:List V}{ds:List Dm}(I:Inv X pins σ H s)(h:SqL X.K H a xs)(d:DtA H xs ds)(hs:zf7 ds=true):∃as,Reads s.heap (.ref a) (.list (zej ds)) as:=by
 obtain⟨its,r,⟨o,n,e,c,_,dd⟩,_⟩:=I.list h
 obtain⟨as,q⟩:=DtA.reads I d hs r
 exact⟨_,.list e c dd (by simpa using q)⟩
theorem q7c(hu:X.A.units+64 < cLine):OpR X (compareOp .Eq) (zrx X.K):=by
 intro pins s σ H x y v u Q I rx ry h
 obtain⟨b,⟨a,c,xs,ys,ds,es,rfl,rfl,h1,h2,d1,d2,s1,s2,s3,s4,rfl⟩,q⟩:=h
 cases rx; cases ry
 obtain⟨as,ra⟩:=I.readsDL h1 d1 s1
 obtain⟨bs,rb⟩:=I.readsDL h2 d2 s2
 exact eq_dataH ra rb s3 s4 hu ⟨.bl _,H,I,rfl,q⟩
end
end L2
set_option Elab.async false
set_option linter.all false
set_option maxRecDepth 100000
namespace L2
open PySem PySem.Spec PyProof.Rows
def Ris(xs:Array Nat):Prop:=xs.toList.Pairwise (· < ·)
theorem Ris.lt{xs:Array Nat}(h:Ris xs){i j:Nat}(hij:i < j)(hj:j < xs.size)(d:Nat):xs.getD i d < xs.getD j d:=by
 have e:=List.pairwise_iff_getElem.mp h i j (by simp; omega) (by simpa using hj) hij
 simpa [Array.getD,hj,Nat.lt_trans hij hj] using e
theorem zkx{xs:Array Nat}{j:Nat}(hs:Ris xs):∀(fuel lo hi:Nat),hi - lo<=fuel->lo<=hi->hi<=xs.size->(∀i,i < lo->xs.getD i j < j)->(∀i,hi<=i->i < xs.size->j<=xs.getD i j)->
  SetTable.below.go xs j fuel lo hi<=xs.size/\(∀i,i < SetTable.below.go xs j fuel lo hi->xs.getD i j < j)/\(∀i,SetTable.below.go xs j fuel lo hi<=i->i < xs.size->j<=xs.getD i j)
 | 0,lo,hi,hf,hl,hh,h1,h2=>by
  obtain rfl:lo=hi:=by omega
  exact⟨hh,h1,h2⟩
 | fuel+1,lo,hi,hf,hl,hh,h1,h2=>by
  unfold SetTable.below.go
  by_cases c:lo < hi
  ·rw [if_pos c]
   dsimp only
   by_cases d:xs.getD ((lo+hi) / 2) j < j
   ·rw [if_pos d]
    refine zkx hs fuel _ hi (by omega) (by omega) hh (fun i hi'=>?_) h2
    by_cases e:i=(lo+hi) / 2
    ·rw [e]; exact d
    ·exact Nat.lt_trans (hs.lt (show i < (lo+hi) / 2 by omega) (by omega) j) d
   ·rw [if_neg d]
    refine zkx hs fuel lo _ (by omega) (by omega) (by omega) h1 (fun i hi' hx=>?_)
    by_cases e:i=(lo+hi) / 2
    ·rw [e]; omega
    ·have:=hs.lt (show(lo+hi) / 2 < i by omega) hx j
     omega
  ·rw [if_neg c]
   obtain rfl:lo=hi:=by omega
   exact⟨hh,h1,h2⟩
theorem zbw{xs:Array Nat}(hs:Ris xs)(j:Nat):SetTable.below xs j<=xs.size/\(∀i,i < SetTable.below xs j->xs.getD i j < j)/\(∀i,SetTable.below xs j<=i->i < xs.size->j<=xs.getD i j):=
 zkx hs _ 0 _ (by omega) (Nat.zero_le _) (Nat.le_refl _) (fun i h=>absurd h (by omega)) (fun i h h'=>absurd h' (by omega))
theorem zx1{xs:Array Nat}(hs:Ris xs){j:Nat}(h:j∈xs.toList):xs[SetTable.below xs j]?=some j:=by
 obtain⟨h0,h1,h2⟩:=zbw hs j
 obtain⟨i,hi,e⟩:=List.getElem_of_mem h
 have hi':i < xs.size:=by simpa using hi
 have e':xs.getD i j=j:=by simpa [Array.getD,hi'] using e
 have c1:SetTable.below xs j<=i:=by
  rcases Nat.lt_or_ge i (SetTable.below xs j) with z | z
  ·have:=h1 i z; omega
  ·exact z
 have c2:SetTable.below xs j=i:=by
  rcases Nat.lt_or_ge (SetTable.below xs j) i with z | z
  ·have a:=h2 _ (Nat.le_refl _) (by omega)
   have b:=hs.lt z hi' j
   omega
  ·omega
 rw [c2]
 simpa [hi'] using e
theorem zsk{xs:Array Nat}(hs:Ris xs){i:Nat}(hi:i < xs.size):SetTable.below xs (xs.getD i 0+1)=i+1:=by
 obtain⟨h0,h1,h2⟩:=zbw hs (xs.getD i 0+1)
 have g:∀k,k < xs.size->∀d,xs.getD k d=xs.getD k 0:=fun k hk d=>by simp[Array.getD,hk]
 generalize SetTable.below xs (xs.getD i 0+1)=b at h0 h1 h2
 rcases Nat.lt_trichotomy b (i+1) with z | z | z
 ·have q:=h2 i (by omega) hi
  rw [g i hi (xs.getD i 0+1)] at q
  omega
 ·exact z
 ·have a:=h1 (i+1) z
  have c:=hs.lt (show i < i+1 by omega) (show i+1 < xs.size by omega) 0
  rw [g (i+1) (by omega) (xs.getD i 0+1)] at a
  omega
theorem zt3{xs:Array Nat}(hs:Ris xs):SetTable.below xs 0=0:=by
 obtain⟨h0,h1,_⟩:=zbw hs 0
 rcases Nat.eq_zero_or_pos (SetTable.below xs 0) with z | z
 ·exact z
 ·have:=h1 0 z; omega
theorem zrs{xs:Array Nat}(hs:Ris xs){j:Nat}(h:xs[SetTable.below xs j]?≠some j):Ris (SetTable.insertAt xs (SetTable.below xs j) j):=by
 have hn:j∉xs.toList:=fun z=>h (zx1 hs z)
 obtain⟨h0,h1,h2⟩:=zbw hs j
 unfold Ris
 rw [SetTable.toList_insertAt]
 refine List.pairwise_append.mpr ⟨hs.sublist (List.take_sublist _ _),List.pairwise_cons.mpr ⟨fun a ha=>?_,hs.sublist (List.drop_sublist _ _)⟩,fun a ha b hb=>?_⟩
 ·obtain⟨i,hi,e⟩:=List.getElem_of_mem ha
  have hm:a∈xs.toList:=List.mem_of_mem_drop ha
  rw [List.getElem_drop] at e
  have hx:SetTable.below xs j+i < xs.size:=by simp at hi; omega
  have:=h2 _ (Nat.le_add_right _ i) hx
  have e':xs.getD (SetTable.below xs j+i) j=a:=by simpa [Array.getD,hx] using e
  have:a≠j:=fun z=>hn (z ▸ hm)
  omega
 ·have la:a < j:=by
   obtain⟨i,hi,e⟩:=List.getElem_of_mem ha
   rw [List.getElem_take] at e
   have hx:i < xs.size:=by simp at hi; omega
   have:=h1 i (by simp at hi; omega)
   have e':xs.getD i j=a:=by simpa [Array.getD,hx] using e
   omega
  rcases List.mem_cons.mp hb with rfl | hb
  ·exact la
  ·obtain⟨i,hi,e⟩:=List.getElem_of_mem hb
   rw [List.getElem_drop] at e
   have hx:SetTable.below xs j+i < xs.size:=by simp at hi; omega
   have:=h2 _ (Nat.le_add_right _ i) hx
   have e':xs.getD (SetTable.below xs j+i) j=b:=by simpa [Array.getD,hx] using e
   omega
theorem zdm(n:Nat):Ris (Array.range n):=by
 unfold Ris
 rw [Array.toList_range]
 exact List.pairwise_lt_range
theorem zxn{t:SetTable}{j:Nat}(h:∀i,t.slot j≠.live i):t.place[SetTable.below t.place j]?≠some j:=by
 intro e
 refine h (SetTable.below t.place j) ?_
 unfold SetTable.slot
 simp[e]
theorem zk3{t:SetTable}{hashAt:Nat->Int}{h:Int}:∀(fuel:Nat) (p:SetTable.Probe) (j:Nat) (d:Option Nat),SetTable.probe.go t hashAt h fuel p=some (.empty j d)->(∀e,p.dummy=some e->∀i,t.slot e≠.live i)->∀i,t.slot (d.getD j)≠.live i
 | 0,p,j,d,e,_=>by simp[SetTable.probe.go] at e
 | fuel+1,p,j,d,e,hd=>by
  unfold SetTable.probe.go at e
  cases hs:t.slot p.j with
  | empty=>
   rw [hs] at e
   dsimp only at e
   cases e
   cases hp:p.dummy with
   | none=>intro i; simp[hs]
   | some q=>exact hd q hp
  | dummy=>
   rw [hs] at e
   refine zk3 fuel _ j d e fun q hq=>?_
   have:q=p.j:=by
    unfold SetTable.advance at hq
    split at hq<;>(dsimp only at hq; cases hq; rfl)
   rw [this,hs]
   intro i
   simp
  | live i0=>
   rw [hs] at e
   dsimp only at e
   split at e
   ·cases e
   ·refine zk3 fuel _ j d e fun q hq=>hd q ?_
    unfold SetTable.advance at hq
    split at hq<;>exact hq
theorem zyy{t:SetTable}{h:Int}{j:Nat}{b:Bool}(e:t.freeSlot h=some (j,b)):t.place[SetTable.below t.place j]?≠some j:=by
 unfold SetTable.freeSlot at e
 split at e
 ·rename_i k d hp
  cases e
  exact zxn (zk3 _ _ _ _ hp fun q hq=>by simp[SetTable.probeStart] at hq)
 ·cases e
theorem zsg{t:SetTable}(hs:Ris t.place)(es:Array (Int×Value))(h:Int)(x:Value):Ris (layNew t es h x).2.1.place/\(layNew t es h x).2.1.led=t.led:=by
 unfold layNew
 split
 ·rename_i j b e
  dsimp only
  unfold SetTable.orStandIn
  split
  ·exact⟨zrs hs (zyy e),rfl⟩
  ·exact⟨zdm _,rfl⟩
 ·exact⟨zdm _,rfl⟩
theorem zpq(owner:Nat->Option Nat):∀l:List Nat,l.Pairwise (· < ·)->((l.filterMap fun j=>(owner j).map (j,·)).map (·.1)).Pairwise (· < ·)/\∀x∈(l.filterMap fun j=>(owner j).map (j,·)).map (·.1),x∈l
 | [],_=>⟨.nil,fun x h=>h⟩
 | j::l,h=>by
  obtain⟨h1,h2⟩:=List.pairwise_cons.mp h
  obtain⟨i1,i2⟩:=zpq owner l h2
  cases e:owner j with
  | none=>
   rw [List.filterMap_cons_none (by rw [e]; rfl)]
   exact⟨i1,fun x hx=>List.mem_cons_of_mem _ (i2 x hx)⟩
  | some k=>
   rw [List.filterMap_cons_some (b:=(j,k)) (by rw [e]; rfl)]
   refine⟨List.pairwise_cons.mpr ⟨fun x hx=>h1 x (i2 x hx),i1⟩,fun x hx=>?_⟩
   rcases List.mem_cons.mp hx with rfl | hx
   ·exact List.mem_cons_self
   ·exact List.mem_cons_of_mem _ (i2 x hx)
theorem zlt(t:SetTable)(es:Array (Int×Value))(wanted:Nat):Ris (relayAll t es wanted).2.1.place/\(relayAll t es wanted).2.1.led=t.led:=by
 unfold relayAll
 split
 ·rename_i t' order e
  dsimp only
  split
  ·unfold SetTable.relaid SetTable.laid at e
   obtain⟨ow,_,e⟩:=Option.bind_eq_some_iff.mp e
   cases e
   exact⟨(zpq (fun j=>ow.getD j none) _ List.pairwise_lt_range).1,rfl⟩
  ·exact⟨zdm _,rfl⟩
 ·exact⟨zdm _,rfl⟩
end L2
set_option Elab.async false
set_option linter.all false
set_option maxRecDepth 100000
namespace L2
open PySem PySem.Spec PyProof.Rows
section
variable{prog:Program}{w:World}{κ : Type} [DecidableEq κ] (knd:PySem.KeyKind prog w κ) (key:Value->κ)
def SetX(a:Addr)(L:Bool)(ks:List κ)(h:Heap):Prop:=
 ∃o es ep t,h.get? a=some o/\o.ExactSet/\o.data=.set es ep t/\ElemsOf knd es.toList/\ks=es.toList.map (fun e=>key e.2)/\ks.Nodup/\es.size < scanBound/\t.fits es.size=true/\Ris t.place/\t.led=L
variable{knd key}{A:Around}{E:Value->Shared->Prop}{s:Shared}{a:Addr}{L:Bool}{ks:List κ}
theorem SetX.moved{h h':Heap}(x:SetX knd key a L ks h)(k:∀o,h.get? a=some o->h'.get? a=some o):SetX knd key a L ks h':=by
 obtain⟨o,es,ep,t,e,r⟩:=x
 exact⟨o,es,ep,t,k o e,r⟩
theorem SetX.len{h:Heap}(x:SetX knd key a L ks h):ks.length < scanBound:=by
 obtain⟨o,es,ep,t,_,_,_,_,rfl,_,hb,_⟩:=x
 simpa using hb
theorem zpp{h:Heap}{o:Obj}{es:Array (Int×Value)}{ep:Nat}{t:SetTable}(e:h.get? a=some o)(x:o.ExactSet)(d:o.data=.set es ep t){es':Array (Int×Value)}{t':SetTable}
  (hel:ElemsOf knd es'.toList) (hn:(es'.toList.map fun q=>key q.2).Nodup) (hb:es'.size < scanBound) (hf:t'.fits es'.size=true) (hr:Ris t'.place) (hl:t'.led=L) :
  SetX knd key a L (es'.toList.map fun q=>key q.2) (h.update a (Obj.putSet es' t'))/\(h.update a (Obj.putSet es' t')).get? a=some {o with data:=.set es' (ep+1) t'}:=by
 have g:(h.update a (Obj.putSet es' t')).get? a=some (Obj.putSet es' t' o):=Heap.get?_update_self _ e (by rw [putSet_of es' t' d]; rfl)
 rw [putSet_of es' t' d] at g
 exact⟨⟨_,es',ep+1,t',g,x,rfl,hel,rfl,hn,hb,hf,hr,hl⟩,g⟩
theorem zzb{k : κ}{x:Value}{Q:Bool->Shared->Prop}(hkey:∀k v,knd.is k v=true->key v=k)(hi:knd.is k x=true)(hsc:x.scannable=true)(hS:SetX knd key a L ks s.heap)(hroom:ks.length+1 < scanBound)
  (h:∀(b:Bool) (h':Heap) (ks':List κ),Heap.SameBut a s.heap h'->SetX knd key a L ks' h'->ks'.Perm (if k∈ks then ks else ks++[k])->Q b {s with heap:=h'}) :
  wpAny (model prog w) A (setAddHashed a x (knd.hash k)) Q E s:=by
 obtain⟨o,es,ep,t,e,xo,d,hel,hks,hnd,hb,hf,hr,hl⟩:=id hS
 have hz:es.size=ks.length:=by rw [hks]; simp
 unfold setAddHashed setAddHashedIn
 refine wpAny_holding (wpAny_bind (wpAny_setState_of e d hf ?_))
 dsimp only
 rw [byScan_of hsc hb hel,if_pos rfl]
 unfold setAddByScan
 refine wpAny_bind (wpAny_bind (wpAny_rule (wpAny_bind (wpAny_setScan_of hi e d hf hel ?_))))
 have hin:k∈ks↔∃q∈es.toList,knd.is k q.2=true:=by
  rw [hks,List.mem_map]
  constructor
  ·rintro⟨q,hq,rfl⟩
   obtain⟨⟨k',hk',_⟩,_⟩:=hel q hq
   exact⟨q,hq,by rw [hkey _ _ hk']; exact hk'⟩
  ·rintro⟨q,hq,z⟩
   exact⟨q,hq,hkey _ _ z⟩
 cases hfi:List.findIdx? (fun e=>knd.is k e.2) es.toList with
 | some j=>
  obtain⟨hj,z,_⟩:=List.findIdx?_eq_some_iff_getElem.mp hfi
  have hm:k∈ks:=hin.mpr ⟨_,List.getElem_mem hj,z⟩
  refine wpAny_pure (wpAny_pure ?_)
  exact h _ s.heap ks (Heap.SameBut.refl a s.heap) hS (by rw [if_pos hm])
 | none=>
  have hm:k∉ks:=fun z=>by
   obtain⟨q,hq,z⟩:=hin.mp z
   have y:=List.findIdx?_eq_none_iff.mp hfi q hq
   rw [z] at y
   cases y
  rw [if_neg hm] at h
  have p1:=layNew_perm t es (knd.hash k) x
  have p2:=layNew_fits t es (knd.hash k) x
  obtain⟨p3,p4⟩:=zsg hr es (knd.hash k) x
  generalize layNew t es (knd.hash k) x=N at p1 p2 p3 p4 |-
  obtain⟨es1,t1,was,gave⟩:=N
  dsimp only at p1 p2 p3 p4 |-
  rw [Array.toList_push] at p1
  have q1:(es1.toList.map fun q=>key q.2).Perm (ks++[k]):=by
   have z:=p1.map fun q=>key q.2
   rw [List.map_append,<- hks] at z
   simpa [hkey _ _ hi] using z
  have q2:ElemsOf knd es1.toList:=(hel.push hi hsc).perm p1
  have q3:(es1.toList.map fun q=>key q.2).Nodup:=q1.nodup_iff.mpr (List.nodup_append.mpr ⟨hnd,by simp,fun y hy z hz e=>hm (by rw [List.mem_singleton] at hz; rw [<- hz,<- e]; exact hy)⟩)
  have q4:es1.size=ks.length+1:=by
   have z:=q1.length_eq
   simpa using z
  have gw:∀(b:Bool) {s₁:Shared} {Q':Unit->Shared->Prop},Q' () s₁->wpAny (model prog w) A (match b with | true=>rule "set.scan.the-table-gave-way" | false=>pure ()) Q' E s₁:=fun b s₁ Q' z=>by
   cases b
   ·exact wpAny_pure z
   ·exact wpAny_rule z
  refine wpAny_bind (gw gave ?_)
  have last:∀(t2:SetTable),t2.fits es1.size=true->Ris t2.place->t2.led=L->wpAny (model prog w) A (do
    storeSet a es1 t2
    if(!was && t2.tooFull)=true then do
      (match (relayAll t2 es1 (SetTable.grown es1.size)).2.2 with | true=>rule "set.scan.the-table-gave-way" | false=>pure ())
      storeSet a (relayAll t2 es1 (SetTable.grown es1.size)).1 (relayAll t2 es1 (SetTable.grown es1.size)).2.1
      pure (some true)
     else pure (some true)) (fun r s'=>∃h',r=some true/\s' = {s with heap:=h'}/\Q true s') E s:=fun t2 f2 r2 l2=>by
   refine wpAny_bind (wpAny_storeSet_of e d ?_ (fits_of_scanBound (by omega)))
   obtain⟨x1,g1⟩:=zpp (knd:=knd) (key:=key) e xo d q2 q3 (by omega) f2 r2 l2
   have b1:=Heap.SameBut.update s.heap a (Obj.putSet es1 t2)
   split
   ·have r1:=relayAll_perm t2 es1 (SetTable.grown es1.size)
    have r2':=relayAll_fits t2 es1 (SetTable.grown es1.size)
    obtain⟨r3,r4⟩:=zlt t2 es1 (SetTable.grown es1.size)
    generalize relayAll t2 es1 (SetTable.grown es1.size)=N at r1 r2' r3 r4 |-
    obtain⟨es2,t3,gave2⟩:=N
    dsimp only at r1 r2' r3 r4 |-
    have z2:=r1.map fun q=>key q.2
    have hsz:es2.size=es1.size:=by simpa using r1.length_eq
    refine wpAny_bind (gw gave2 (wpAny_bind (wpAny_storeSet_of g1 rfl ?_ (fits_of_scanBound (by omega)))))
    obtain⟨x2,_⟩:=zpp (knd:=knd) (key:=key) (L:=L) g1 xo rfl (q2.perm r1) (z2.nodup_iff.mpr q3) (by omega) r2' r3 (r4.trans l2)
    exact wpAny_pure ⟨_,rfl,rfl,h true _ _ (b1.trans (Heap.SameBut.update _ a _)) x2 (z2.trans q1)⟩
   ·exact wpAny_pure ⟨_,rfl,rfl,h true _ _ b1 x1 q1⟩
  have fin:∀(r:Option Bool) (s':Shared),(∃h',r=some true/\s' = {s with heap:=h'}/\Q true s')->wpAny (model prog w) A (match r with | some added=>pure added | none=>setAddHashedIn a x (knd.hash k) 99999) Q E s':=by
   rintro r s' ⟨h',rfl,rfl,z⟩
   exact wpAny_pure z
  split
  ·rw [hashByValue_scannable 8 hsc]
   refine wpAny_bind (wpAny_pure ?_)
   refine thn (last _ ?_ ?_ ?_) fin
   ·split
    ·exact p2
    ·exact SetTable.fits_plain_off p2
   ·split<;>exact p3
   ·split<;>exact p4.trans hl
  ·refine wpAny_bind (wpAny_pure ?_)
   exact thn (last _ p2 p3 (p4.trans hl)) fin
theorem zxh{R:Result->Shared->Prop}{I S:Addr}{fp wr:List Addr}{G:Array GenState->Array GenState->Prop}{n:Nat}{P:Nat->Value->Prop}{St:Nat->Shared->Prop}(W:WalksS prog w A.in1 I fp wr G n P St)(hSf:S∉fp)
  (hkey:∀k v,knd.is k v=true->key v=k) (val:Nat->κ) (hval:∀i v,P i v->knd.is (val i) v=true/\v.scannable=true) (hb:n+1 < scanBound) :
  ∀(m i:Nat) (s:Shared) (ks:List κ),i+m=n->St i s->SetX knd key S L ks s.heap->ks.length<=i->(∀x,x∈ks↔∃j,j < i/\val j=x)->
   (∀s' ks',Moved (S::wr) G s s'->SetX knd key S L ks' s'.heap->ks'.length<=n->(∀x,x∈ks'↔∃j,j < n/\val j=x)->R (.ok (.ret .none)) s')->
   codeAny (model prog w) A (.builtin "set.update.loop" ⟨[.ref S,.ref I],[]⟩) R s:=by
 have hw:S∉wr:=fun z=>hSf (W.sub _ z)
 have hm:∀b∈wr,b∈S::wr:=fun b z=>.tail _ z
 intro m
 induction m with
 | zero=>
  intro i s ks e st x hl hx q
  obtain rfl:i=n:=e
  refine codeAny_builtin F.entry_set_update_loop ?_
  rw [Around.under_plainId F.plain_set_update_loop]
  refine wpAny_bind (W.done s _ _ st fun s' mv=>?_)
  exact wpAny_pure (q s' ks (mv.mono hm) (x.moved fun o z=>mv.heap S o hw z) hl hx)
 | succ m ih=>
  intro i s ks e st x hl hx q
  refine codeAny_builtin F.entry_set_update_loop ?_
  rw [Around.under_plainId F.plain_set_update_loop]
  refine wpAny_bind (W.item i s _ _ (by omega) st fun v s1 hP st1 mv=>?_)
  obtain⟨hi,hsc⟩:=hval i v hP
  refine wpAny_bind (wpAny_holding ?_)
  unfold setAdd
  refine wpAny_holding (wpAny_bind (knd.pyHash hi ?_))
  refine zzb (s:={s1 with toks:=s1.toks+1}) hkey hi hsc (x.moved fun o z=>mv.heap S o hw z) (by omega) fun b h' ks' sb x' pm=>?_
  refine wpAny_pure ⟨plainId_quiet F.plain_set_update_loop _,ih (i+1) _ ks' (by omega) (W.frame _ s1 _ _ st1 (Nat.le_succ _) fun b hb' o z=>?_) x' ?_ (fun y=>?_) fun s2 ks2 mv2 x2=>q s2 ks2 (Moved.trans W.gtrans ((mv.mono hm).then_heap (Nat.le_succ _) fun b o hb' z=>?_) mv2) x2⟩
  ·rw [sb.2 b fun z:b=S=>hSf (z ▸ hb')]; exact z
  ·rw [pm.length_eq]
   split
   ·omega
   ·simp; omega
  ·rw [pm.mem_iff]
   have step:(∃j,j < i+1/\val j=y)↔y∈ks\/y=val i:=by
    rw [hx y]
    constructor
    ·rintro⟨j,hj,rfl⟩
     by_cases c:j=i
     ·exact .inr (by rw [c])
     ·exact .inl ⟨j,by omega,rfl⟩
    ·rintro(⟨j,hj,rfl⟩ | rfl)
     ·exact⟨j,by omega,rfl⟩
     ·exact⟨i,by omega,rfl⟩
   rw [step]
   split
   ·rename_i c
    exact⟨.inl,fun z=>z.elim id fun z=>z ▸ c⟩
   ·simp
  ·rw [sb.2 b fun z:b=S=>hb' (z ▸ List.mem_cons_self)]; exact z
abbrev z5o(w:World):Bool:=w.params.followText "set-order"
abbrev z4x(L:Bool):Obj:={cls:=.type "set",dict:=none,data:=.set #[] 0 (.fresh 0 0 L)}
theorem q0c(v:Value){Q₁:Value->Shared->Prop}(h:Q₁ (.ref s.heap.objs.size) {s with heap:=s.heap.push (z4x (!z5o w))}) :
  codeAny (model prog w) A (.call (.builtin "set.__new__") ⟨[.type "set",v],[]⟩) (wants Q₁ E) s:=by
 have hsub:=sub_set_self
 refine codeAny_call_builtin PySem.F.plain_set_new PySem.F.entry_set_new ?_
 rw [PySem.F.newCall_set_1 v]
 refine wpAny_pure ?_
 unfold Builtin.«set.__new__» Builtin.Frozenset.newClass
 obtain⟨hp,g,d,tk,os⟩:=s
 wp_walk
 refine wpAny_askSetting (wpAny_pure ?_)
 exact wpAny_newObj_type (wpAny_pure h)
theorem znf{T newId initId:String}{args:List Value}{Q Q₁:Value->Shared->Prop}(ft:TypeCalled T newId initId)(hct:checkTypeCall T ⟨args,[]⟩=pure ())
  (hnew:codeAny (model prog w) A.in1 (.call (.builtin newId) ⟨.type T::args,[]⟩) (wants Q₁ E) s)
  (hinit:∀obj s₁,Q₁ obj s₁->s₁.TypeIs obj T/\codeAny (model prog w) A.in1 (.call (.builtin initId) ⟨obj::args,[]⟩) (wants (fun r s₂=>r=.none/\Q obj s₂) E) s₁) :
  wpAny (model prog w) A (call (.type T) args) Q E s:=by
 obtain⟨c,tl,hm⟩:=ft.mro
 have f1:=ft.made
 have f2:=ft.sub
 have f3:=ft.notType
 have f4:=ft.canCreate
 refine wpAny_call (codeAny_of_tree (wpAny_pure ⟨Code.quiet_builtin _ (by decide+kernel),codeAny_builtin PySem.F.entry_type_call ?_⟩))
 rw [Around.under_plain (weight_type_call_type T args []) rfl]
 repeat (any_goals (first | assumption | wp_step))
 refine codeAny_mono hnew fun r s₁ z=>?_
 match r,z with
 | .error e,z=>exact z
 | .ok (.ret obj),z=>
  obtain⟨hT,hc⟩:=hinit _ _ z
  have g1:=ft.init.lookup
  have g2:=ft.init.bind obj
  repeat (any_goals (first | assumption | wp_step))
  refine codeAny_mono hc fun r s₂ z=>?_
  match r,z with
  | .error e,z=>exact z
  | .ok (.ret v),z=>
   obtain⟨rfl,q⟩:=z
   repeat (any_goals (first | assumption | wp_step))
theorem zww{l:Addr}{items:Array Value}{val:Nat->κ}{Q:Value->Shared->Prop}(hh:A.handled=none)(hl:s.heap.IsList l items)(hkey:∀k v,knd.is k v=true->key v=k)
  (hv:∀(i:Nat) v,items[i]?=some v->knd.is (val i) v=true/\v.scannable=true) (hb:items.size+1 < scanBound)
  (h:∀(h':Heap) (tk:Nat) (ks:List κ),SetX knd key s.heap.objs.size (!z5o w) ks h'->ks.length<=items.size->(∀x,x∈ks↔∃j,j < items.size/\val j=x)->(∀b o,s.heap.get? b=some o->h'.get? b=some o)->
   Q (.ref s.heap.objs.size) {s with heap:=h',toks:=tk}) :
  wpAny (model prog w) A (call (.type "set") [.ref l]) Q E s:=by
 refine znf (Q₁:=fun obj s₁=>obj=.ref s.heap.objs.size/\s₁ = {s with heap:=s.heap.push (z4x (!z5o w))}) PySem.F.called_set (PySem.F.typeCall_set_1 _) (q0c _ ⟨rfl,rfl⟩) ?_
 rintro obj s₁ ⟨rfl,rfl⟩
 have eS:(s.heap.push (z4x (!z5o w))).get? s.heap.objs.size=some (z4x (!z5o w)):=Heap.get?_push_size _ rfl
 have hT:Shared.TypeIs {s with heap:=s.heap.push (z4x (!z5o w))} (.ref s.heap.objs.size) "set":=⟨_,eS,rfl⟩
 refine⟨hT,codeAny_call_builtin PySem.F.called_set.init.plain PySem.F.entry_set_init (check_set_init_1 hT ?_)⟩
 obtain⟨ol,hol,hcl,nl,hdl⟩:=id hl
 have hol':(s.heap.push (z4x (!z5o w))).get? l=some ol:=Heap.get?_push_of_some _ hol
 have hl1:(s.heap.push (z4x (!z5o w))).IsList l items:=⟨_,hol',hcl,nl,hdl⟩
 have hTl:Shared.TypeIs {s with heap:=s.heap.push (z4x (!z5o w))} (.ref l) "list":=⟨_,hol',hcl⟩
 have s1:=PySem.F.sub_list_set
 have s2:=PySem.F.sub_list_frozenset
 unfold Builtin.«set.__init__» noKeywords Builtin.Frozenset.updateFrom
 generalize hPI:pyIter=PI
 wp_walk
 subst hPI
 refine wpAny_pyIter_list hl1 (wpAny_bind (wpAny_runValue ?_))
 have n1:(s.heap.push (z4x (!z5o w))).objs.size=s.heap.objs.size+1:=size_push' _ _
 have lS:l < s.heap.objs.size:=Heap.lt_size hol
 have nI:l≠(s.heap.push (z4x (!z5o w))).objs.size:=Nat.ne_of_lt (by rw [n1]; exact Nat.lt_succ_of_lt lS)
 have sf:s.heap.objs.size∉[(s.heap.push (z4x (!z5o w))).objs.size,l]:=by
  rw [n1]
  simp only[List.mem_cons,List.not_mem_nil,or_false,not_or]
  exact⟨Nat.ne_of_lt (Nat.lt_succ_self _),Nat.ne_of_gt lS⟩
 refine zxh (knd:=knd) (key:=key) (L:=!z5o w) ((Walks.list (by simp[hh]) _ l nI items).toS) sf hkey val hv hb items.size 0 _ [] (Nat.zero_add _) ⟨⟨_,Heap.get?_push_size _ rfl,rfl,rfl⟩,hl1.push _⟩
  ⟨_,#[],0,_,Heap.get?_push_of_some _ eS,⟨rfl,rfl,rfl⟩,rfl,(fun e he=>by simp at he),rfl,.nil,by decide,rfl,.nil,rfl⟩ (Nat.le_refl _) (fun x=>by simp) fun s' ks mv x hlen hmem=>?_
 refine wpAny_pure (wpAny_pure ⟨rfl,?_⟩)
 obtain⟨h',g',d',tk',os'⟩:=s'
 have z1:g'=s.gens:=mv.gens
 have z2:d'=s.drawn:=mv.drawn
 have z3:os'=s.os:=mv.os
 subst z1 z2 z3
 refine h h' tk' ks x hlen hmem fun b o e=>?_
 have lb:=Heap.lt_size e
 refine mv.heap b o ?_ (Heap.get?_push_of_some _ (Heap.get?_push_of_some _ e))
 rw [n1]
 simp only[List.mem_cons,List.not_mem_nil,or_false,not_or]
 exact⟨Nat.ne_of_lt lb,Nat.ne_of_lt (Nat.lt_succ_of_lt lb)⟩
end
end L2
set_option Elab.async false
set_option linter.all false
set_option maxRecDepth 100000
namespace L2
open PySem PySem.Spec PyProof.Rows
theorem slot_si_next:Slot "set_iterator" "__next__" "set_iterator.__next__":=.of (owner:="set_iterator") (n:="__next__") (by rw [typeLookup_type,builtinLookup_eq_fast]; kernel_rfl) (by decide+kernel) (by decide+kernel) (by decide+kernel) (by first | exact .inl (by decide+kernel) | exact .inr (by decide+kernel)) (by rw [isSubtype_type]; kernel_rfl)
theorem zfv:Slot "set_iterator" "__iter__" "set_iterator.__iter__":=.of (owner:="set_iterator") (n:="__iter__") (by rw [typeLookup_type,builtinLookup_eq_fast]; kernel_rfl) (by decide+kernel) (by decide+kernel) (by decide+kernel) (by first | exact .inl (by decide+kernel) | exact .inr (by decide+kernel)) (by rw [isSubtype_type]; kernel_rfl)
theorem zko:entryFor table "set_iterator.__next__" = some Builtin.«set_iterator.__next__»:=entryFor_of_tree (by kernel_rfl)
theorem ziz:entryFor table "set.__iter__" = some Builtin.«frozenset.__iter__»:=entryFor_alias (id':="frozenset.__iter__") (by kernel_rfl) rfl (by decide+kernel) (by kernel_rfl)
theorem znk(a:Value):argsOk "set_iterator.__next__" ⟨[a],[]⟩:=by unfold argsOk; kernel_rfl
theorem slot_set_len':Slot "set" "__len__" "set.__len__":=.of (owner:="set") (n:="__len__") (by rw [typeLookup_type,builtinLookup_eq_fast]; kernel_rfl) (by decide+kernel) (by decide+kernel) (by decide+kernel) (by first | exact .inl (by decide+kernel) | exact .inr (by decide+kernel)) (by rw [isSubtype_type]; kernel_rfl)
abbrev zrq(f:Value)(i:Nat)(S:Addr)(n ep:Nat):Obj:={cls:=.type "set_iterator",data:=.fields #[f,rawInt i,.ref S,rawInt n,rawInt ep]}
section
variable{prog:Program}{w:World}{A:Around}{E:Value->Shared->Prop}{s:Shared}{S I:Addr}{es:Array (Int×Value)}{ep:Nat}{t:SetTable}{o:Obj}
theorem zjj{α : Type}{l:List α}{i:Nat}{x : α}(h:l[i]?=some x):(x::l.eraseIdx i).Perm l:=by
 obtain⟨hi,rfl⟩:=List.getElem?_eq_some_iff.mp h
 have e:l=l.take i++l[i]::l.drop (i+1):=by simp
 rw [List.eraseIdx_eq_take_drop_succ]
 exact List.perm_middle.symm.trans (.of_eq e.symm)
theorem zul{α : Type}(next:Nat->Nat):∀(fuel k:Nat) (left:List α) (out:Array α),left.length<=fuel->(pickOrder.go next fuel k left out).toList.Perm (out.toList++left)
 | 0,k,left,out,h=>by
  obtain rfl:left=[]:=List.length_eq_zero_iff.mp (by omega)
  simp[pickOrder.go]
 | fuel+1,k,left,out,h=>by
  unfold pickOrder.go
  cases e:left[next k % left.length]? with
  | none=>
   cases left with
   | nil=>simp
   | cons a l=>
    rw [List.getElem?_eq_none_iff] at e
    exact absurd (Nat.mod_lt (next k) (show 0 < (a::l).length by simp)) (by omega)
  | some x=>
   have p:=zjj e
   refine(zul next fuel (k+1) _ (out.push x) ?_).trans ?_
   ·have:=p.length_eq
    simp at this
    omega
   ·rw [Array.toList_push,List.append_assoc]
    exact p.append_left _
theorem zuk{α : Type}(next:Nat->Nat)(xs:Array α):(pickOrder next xs).toList.Perm xs.toList:=by
 have:=zul next xs.size 0 xs.toList #[] (by simp)
 simpa [pickOrder] using this
theorem ztb{α : Type}:∀(n:Nat) (xs:List α) (s:Shared) (Q:List α->Shared->Prop),xs.length<=n->(∀ys d',ys.Perm xs->Q ys {s with drawn:=d'})->wpAny (model prog w) A (drawOrder n xs) Q E s
 | 0,xs,s,Q,h,q=>by
  obtain rfl:xs=[]:=List.length_eq_zero_iff.mp (by omega)
  unfold drawOrder
  exact wpAny_pure (q [] s.drawn .nil)
 | n+1,[],s,Q,h,q=>by
  unfold drawOrder
  exact wpAny_pure (q [] s.drawn .nil)
 | n+1,a::l,s,Q,h,q=>by
  unfold drawOrder
  refine wpAny_bind fun Γ p hΓ=>?_
  unfold choose
  rw [Sem.wp_choose]
  refine⟨by simp,?_⟩
  have hlt:=Nat.mod_lt ((model prog w).w.draws .order (s.drawn.get .order)) (show 0 < (a::l).length by simp)
  generalize (model prog w).w.draws .order (s.drawn.get .order) % (a::l).length=i at hlt |-
  obtain⟨x,hx⟩:∃x,(a::l)[i]?=some x:=⟨_,List.getElem?_eq_getElem hlt⟩
  have pm:=zjj hx
  show wpAny (model prog w) A (match (a::l)[i]? with
      | some x=>do
       let r <- drawOrder n ((a::l).eraseIdx i)
       pure (x::r)
      | none=>unsupported "internal:drawOrder") Q E {s with drawn:=s.drawn.bump .order}
  rw [hx]
  refine wpAny_bind (ztb n _ _ _ (by have:=pm.length_eq; simp only[List.length_cons] at this h; omega) fun ys d' py=>?_)
  exact wpAny_pure (q (x::ys) d' ((py.cons x).trans pm))
def drw(es:Array (Int×Value))(t:SetTable):Bool:=!t.plain && decide (es.size > 1)
def Goes(w:World)(S:Addr)(es:Array (Int×Value))(ep:Nat)(t:SetTable)(vs:List Value)(f:Value)(i:Nat)(h:Heap):Prop:=
 (z5o w=true/\vs=(pickOrder (w.params.setOrder S ep) es).toList.map (·.2)/\∃z:Nat,f=rawInt z)\/
 (z5o w=false/\drw es t=false/\vs=es.toList.map (·.2)/\∃z:Nat,f=rawInt z/\SetTable.below t.place z=i)\/
 (∃(T:Addr) (ds:List Nat),f=.ref T/\h.get? T=some {cls:=.type "tuple",data:=.seq (ds.map fun(k:Nat)=>rawInt k).toArray}/\vs.length=ds.length/\∀(j:Nat) v,vs[j]?=some v->∃k e,ds[j]?=some k/\es[k]?=some e/\e.2=v)
theorem Goes.moved{S:Addr}{es:Array (Int×Value)}{ep:Nat}{t:SetTable}{vs:List Value}{f:Value}{i:Nat}{h h':Heap}(g:Goes w S es ep t vs f i h)(k:∀T,f=.ref T->∀u,h.get? T=some u->h'.get? T=some u):Goes w S es ep t vs f i h':=by
 rcases g with g | g | ⟨T,ds,rfl,e,r⟩
 ·exact .inl g
 ·exact .inr (.inl g)
 ·exact .inr (.inr ⟨T,ds,rfl,k T rfl _ e,r⟩)
theorem zu2{α : Type}{xs:Array α}{ds:List Nat}(h:ds.Perm (List.range xs.size)):∃ys:List α,ys.Perm xs.toList/\ys.length=ds.length/\∀(j:Nat) y,ys[j]?=some y->∃k,ds[j]?=some k/\xs[k]?=some y:=by
 have all:∀k∈ds,k < xs.size:=fun k hk=>List.mem_range.mp (h.mem_iff.mp hk)
 have p:=h.filterMap fun i=>xs[i]?
 rw [filterMap_getElem?_range] at p
 have len:∀ds:List Nat,(∀k∈ds,k < xs.size)->(ds.filterMap fun i=>xs[i]?).length=ds.length/\∀(j:Nat) y,(ds.filterMap fun i=>xs[i]?)[j]?=some y->∃k,ds[j]?=some k/\xs[k]?=some y:=by
  intro ds
  induction ds with
  | nil=>intro _; exact⟨rfl,fun j y e=>by simp at e⟩
  | cons k l ih=>
   intro hk
   obtain⟨i1,i2⟩:=ih fun x hx=>hk x (.tail _ hx)
   have hlt:=hk k (.head _)
   rw [List.filterMap_cons_some (b:=xs[k]) (by simp[hlt])]
   refine⟨by simp[i1],fun j y e=>?_⟩
   cases j with
   | zero=>exact⟨k,rfl,by simpa [hlt] using e⟩
   | succ j=>exact i2 j y (by simpa using e)
 exact⟨_,p,(len ds all).1,(len ds all).2⟩
theorem zyq{Q:Value->Shared->Prop}(e:s.heap.get? S=some o)(x:o.ExactSet)(d:o.data=.set es ep t)(hf:t.fits es.size=true)(hr:Ris t.place)(hb:es.size < scanBound)
  (q:∀h' d' I f vs,vs.Perm (es.toList.map (·.2))->Goes w S es ep t vs f 0 h'->(∀b u,s.heap.get? b=some u->h'.get? b=some u)->s.heap.objs.size<=I->h'.get? I=some (zrq f 0 S es.size ep)->(∀T,f=.ref T->T≠I)->Q (.ref I) {s with heap:=h',drawn:=d'}):wpAny (model prog w) A (pyIter (.ref S)) Q E s:=by
 have hT:s.TypeIs (.ref S) "set":=⟨_,e,x.1⟩
 refine wpAny_pyIter_slot hT PySem.F.slot_set_iter (wpAny_call_entry PySem.F.slot_set_iter hT ziz ?_ (PySem.F.args_set_iter_1 _))
 unfold Builtin.«frozenset.__iter__» setDrawn setsByText
 wp_walk using wpAny_setState_of e d hf,wpAny_setEntries_of e d hf,wpAny_setEpoch_of e d hf
 refine wpAny_askSetting (wpAny_pure (wpAny_pure ?_))
 refine wpAny_ite_split (fun c=>?_) (fun c=>?_)
 ·refine wpAny_bind (ztb _ _ _ _ (by simp) fun ds d' pd=>wpAny_bind (wpAny_newTuple ?_ (by rw [List.length_map,pd.length_eq,List.length_range]; exact fits_of_scanBound hb)))
  have e1:=Heap.get?_push_of_some {cls:=.type "tuple",data:=.seq (ds.map fun(k:Nat)=>rawInt k).toArray} e
  refine wpAny_bind (wpAny_setEpoch_of e1 d hf ?_)
  refine wpAny_bind (wpAny_newObj_type (wpAny_pure ⟨_,rfl,"set_iterator",_,⟨_,Heap.get?_push_size _ rfl,rfl⟩,slot_si_next.lookup,?_⟩))
  obtain⟨ys,p1,p2,p3⟩:=zu2 pd
  refine q _ d' _ _ (ys.map (·.2)) (p1.map _) (.inr (.inr ⟨s.heap.objs.size,ds,rfl,Heap.get?_push_of_some _ (Heap.get?_push_size _ rfl),by simpa using p2,fun j v hv=>?_⟩)) (fun b u z=>Heap.get?_push_of_some _ (Heap.get?_push_of_some _ z)) ?_ (Heap.get?_push_size _ rfl) ?_
  ·rw [List.getElem?_map] at hv
   cases ej:ys[j]? with
   | none=>rw [ej] at hv; cases hv
   | some y=>
    rw [ej] at hv
    cases hv
    obtain⟨k,k1,k2⟩:=p3 j y ej
    exact⟨k,y,k1,k2,rfl⟩
  ·show s.heap.objs.size<=(s.heap.push _).objs.size
   rw [size_push']
   exact Nat.le_succ _
  ·rintro T ⟨⟩
   show s.heap.objs.size≠(s.heap.push _).objs.size
   rw [size_push']
   exact Nat.ne_of_lt (Nat.lt_succ_self _)
 ·refine wpAny_bind (wpAny_pure (wpAny_bind (wpAny_setEpoch_of e d hf ?_)))
  refine wpAny_bind (wpAny_newObj_type (wpAny_pure ⟨_,rfl,"set_iterator",_,⟨_,Heap.get?_push_size _ rfl,rfl⟩,slot_si_next.lookup,?_⟩))
  have fin:∀vs,vs.Perm (es.toList.map (·.2))->Goes w S es ep t vs (rawInt 0) 0 (s.heap.push (zrq (rawInt 0) 0 S es.size ep))->Q (.ref s.heap.objs.size) {s with heap:=s.heap.push (zrq (rawInt 0) 0 S es.size ep)}:=
   fun vs p g=>q _ s.drawn _ _ vs p g (fun b u z=>Heap.get?_push_of_some _ z) (Nat.le_refl _) (Heap.get?_push_size _ rfl) (fun T z=>by cases z)
  cases hb:z5o w with
  | true=>exact fin _ ((zuk (w.params.setOrder S ep) es).map _) (.inl ⟨hb,rfl,0,rfl⟩)
  | false=>
   have c':drw es t=false:=by
    have z:¬ ((!z5o w && drw es t)=true):=c
    rw [hb] at z
    simpa using z
   exact fin _ (.refl _) (.inr (.inl ⟨hb,c',rfl,0,rfl,zt3 hr⟩))
theorem q3z{Q:Unit->Shared->Prop}(h:t.led=true)(q:Q () s):wpAny (model prog w) A (if(!t.led && !es.isEmpty)=true then unsupported "set:maker-not-led" else pure ()) Q E s:=by
 rw [h]
 exact wpAny_pure q
theorem zrk{Q:Option (Value×Nat)->Shared->Prop}{vs:List Value}{z i:Nat}(e:s.heap.get? S=some o)(d:o.data=.set es ep t)(hf:t.fits es.size=true)(hr:Ris t.place)(hl:t.led = !z5o w)
  (g:Goes w S es ep t vs (rawInt z) i s.heap)
  (q1:∀v (z':Nat),vs[i]?=some v->Goes w S es ep t vs (rawInt z') (i+1) s.heap->Q (some (v,z')) s) (q2:vs[i]?=none->Q none s):wpAny (model prog w) A (setNext S z i ep) Q E s:=by
 unfold setNext setsByText
 refine wpAny_bind (wpAny_setState_of e d hf ?_)
 refine wpAny_bind (wpAny_bind (wpAny_askSetting (wpAny_pure ?_)))
 rcases g with⟨hb,rfl,z0,_⟩ | ⟨hb,hd,rfl,z0,ez,hz⟩ | ⟨T,ds,ef,_⟩
 ·refine wpAny_ite_split (fun _=>?_) (fun c=>absurd hb c)
  refine wpAny_ite_split (fun c=>absurd c (by simp)) (fun _=>?_)
  refine wpAny_bind ?_
  unfold setWalk setsByText
  refine wpAny_bind (wpAny_setState_of e d hf ?_)
  refine wpAny_bind (wpAny_bind (wpAny_askSetting (wpAny_pure ?_)))
  refine wpAny_ite_split (fun _=>?_) (fun c=>absurd hb c)
  refine wpAny_bind (wpAny_askSetting (wpAny_pure (wpAny_pure ?_)))
  show Q (((pickOrder (w.params.setOrder S ep) es)[i]?).map fun e=>(e.2,z)) s
  cases ei:(pickOrder (w.params.setOrder S ep) es)[i]? with
  | none=>exact q2 (by simp[ei])
  | some p=>exact q1 p.2 z (by simp[ei]) (.inl ⟨hb,rfl,z,rfl⟩)
 ·obtain rfl:z=z0:=by
   simp only[rawInt,Value.int.injEq] at ez
   exact Int.ofNat.inj ez.1
  refine wpAny_ite_split (fun c=>absurd (show z5o w=true from c) (by rw [hb]; decide)) (fun _=>?_)
  refine wpAny_ite_split (fun c=>absurd c (show ¬ (drw es t=true) by rw [hd]; decide)) (fun _=>?_)
  refine wpAny_bind (q3z (by rw [hl,hb]; rfl) (wpAny_pure ?_))
  have hsz:t.place.size=es.size:=by
   simp only[SetTable.fits,Bool.and_eq_true,beq_iff_eq] at hf
   exact hf.1
  rw [hz]
  cases ei:es[i]? with
  | none=>exact q2 (by simp[ei])
  | some p=>
   have hi:i < es.size:=by
    rcases Nat.lt_or_ge i es.size with c | c
    ·exact c
    ·rw [Array.getElem?_eq_none c] at ei; cases ei
   have hp:t.place[i]?=some (t.place.getD i 0):=by simp[Array.getD,hsz,hi]
   rw [hp]
   exact q1 p.2 _ (by simp[ei]) (.inr (.inl ⟨hb,hd,rfl,_,rfl,zsk hr (by omega)⟩))
 ·simp[rawInt] at ef
set_option maxHeartbeats 4000000 in
theorem zqa{Q:Option Value->Shared->Prop}{f:Value}{i:Nat}{vs:List Value}(hh:A.handled=none)(eI:s.heap.get? I=some (zrq f i S es.size ep))(e:s.heap.get? S=some o)(x:o.ExactSet)(d:o.data=.set es ep t)(hf:t.fits es.size=true)(hr:Ris t.place)(hl:t.led = !z5o w)
  (g:Goes w S es ep t vs f i s.heap) (hSI:S≠I) (hTI:∀T,f=.ref T->T≠I)
  (q1:∀h' f' v,vs[i]?=some v->Heap.SameBut I s.heap h'->h'.get? I=some (zrq f' (i+1) S es.size ep)->Goes w S es ep t vs f' (i+1) h'->(∀T,f'=.ref T->f=.ref T)->Q (some v) {s with heap:=h'})
  (q2:∀h',vs[i]?=none->Heap.ExtBut I s.heap h'->Q none {s with heap:=h'}):wpAny (model prog w) A (pyNext (.ref I)) Q E s:=by
 have hT:s.TypeIs (.ref I) "set_iterator":=⟨_,eI,rfl⟩
 unfold pyNext
 refine wpAny_bind (wpAny_attempt (wpAny_callSpecial?_slot (name:="__next__") hT slot_si_next (wpAny_call_entry slot_si_next hT zko ?_ (znk _))))
 unfold Builtin.«set_iterator.__next__»
 wp_walk using wpAny_setEntries_of e d hf
 have hh':A.in1.handled=none:=hh
 have kinds:(∃z:Nat,f=rawInt z)\/∃(T:Addr) (ds:List Nat),f=.ref T/\s.heap.get? T=some {cls:=.type "tuple",data:=.seq (ds.map fun(k:Nat)=>rawInt k).toArray}/\vs.length=ds.length/\∀(j:Nat) v,vs[j]?=some v->∃k e,ds[j]?=some k/\es[k]?=some e/\e.2=v:=by
  rcases g with⟨_,_,z⟩ | ⟨_,_,_,z,ez,_⟩ | z
  ·exact .inl z
  ·exact .inl ⟨z,ez⟩
  ·exact .inr z
 rcases kinds with⟨z,rfl⟩ | ⟨T,ds,rfl,eT,hlen,hds⟩
 ·refine wpAny_bind (zrk (i:=i) (z:=z) e d hf hr hl g (fun v z' hv g'=>?_) (fun hn=>?_))
  ·wp_walk
   exact⟨_,rfl,wpAny_pure (q1 _ (rawInt z') v hv ((Heap.SameBut.update ..).trans (Heap.SameBut.update ..)) (Heap.get?_update_self _ (Heap.get?_update_self _ eI rfl) rfl) (g'.moved fun T z=>by cases z) fun T z=>by cases z)⟩
  ·wp_walk
   rw [raiseNew]
   wp_walk
   refine wpAny_of_eq isSubtype_stop (wpAny_pure ?_)
   exact q2 _ hn (((Heap.SameBut.update ..).extBut.push _).push _)
 ·wp_walk
  rw [show((i:Int)).toNat=i from rfl,List.getElem?_toArray,List.getElem?_map]
  cases ej:ds[i]? with
  | none=>
   have hn:vs[i]?=none:=by
    rw [List.getElem?_eq_none_iff] at ej |-
    omega
   dsimp only[Option.map]
   wp_walk
   rw [raiseNew]
   wp_walk
   refine wpAny_of_eq isSubtype_stop (wpAny_pure ?_)
   exact(q2 _ hn (((((Heap.SameBut.update ..).trans (Heap.SameBut.update ..)).extBut.push _).push _)))
  | some k=>
   obtain⟨v,hv⟩:∃v,vs[i]?=some v:=by
    have:=(List.getElem?_eq_some_iff.mp ej).1
    exact⟨_,List.getElem?_eq_getElem (by omega)⟩
   obtain⟨k',y,k1,k2,k3⟩:=hds i v hv
   obtain rfl:k=k':=by rw [ej] at k1; exact Option.some.inj k1
   subst k3
   dsimp only[Option.map,rawInt]
   unfold setNextDrawn
   refine wpAny_bind (wpAny_bind (wpAny_setState_of e d hf ?_))
   refine wpAny_ite_split (fun c=>absurd c (by simp)) (fun _=>?_)
   rw [show((k:Int)).toNat=k from rfl,k2]
   wp_walk
   have hTn:=hTI T rfl
   exact⟨_,rfl,wpAny_pure (q1 _ (.ref T) _ hv (Heap.SameBut.update ..) (Heap.get?_update_self _ eI rfl) (.inr (.inr ⟨T,ds,rfl,(Heap.get?_update_other _ _ (Ne.symm hTn)).trans eT,hlen,hds⟩)) fun T' z=>z)⟩
end
end L2
set_option Elab.async false
set_option linter.all false
set_option maxRecDepth 100000
namespace L2
open PySem PySem.Spec PyProof.Rows
theorem zkp:entryFor table "set_iterator.__iter__" = some Builtin.«dict_keyiterator.__iter__»:=entryFor_alias (id':="dict_keyiterator.__iter__") (by kernel_rfl) rfl (by decide+kernel) (by kernel_rfl)
theorem znl(a:Value):argsOk "set_iterator.__iter__" ⟨[a],[]⟩:=by unfold argsOk; kernel_rfl
section
variable{prog:Program}{w:World}{A:Around}{E:Value->Shared->Prop}{s:Shared}{S I:Addr}{es:Array (Int×Value)}{ep:Nat}{t:SetTable}{o:Obj}
def q74:Value->Int
 | .int k _=>k
 | _=>0
def q61(w:World)(I S:Addr)(o:Obj)(es:Array (Int×Value))(ep:Nat)(t:SetTable)(vs:List Value)(Ts:List Addr)(i:Nat)(h:Heap):Prop:=
 ∃f,h.get? I=some (zrq f i S es.size ep)/\h.get? S=some o/\Goes w S es ep t vs f i h/\∀T,f=.ref T->T≠I/\T∈Ts
theorem ztd(hh:A.handled=none)(x:o.ExactSet)(d:o.data=.set es ep t)(hf:t.fits es.size=true)(hr:Ris t.place)(hl:t.led = !z5o w)(hSI:S≠I)(vs:List Value)(Ts:List Addr) :
  Walks prog w A I (I::S::Ts) [I] vs.length (fun i v=>vs[i]?=some v) (q61 w I S o es ep t vs Ts) where
 sub:=fun b hb=>by simp at hb; simp[hb]
 frame:=fun i h h' st hk=>by
  obtain⟨f,e1,e2,g,hT⟩:=st
  exact⟨f,hk I (by simp) _ e1,hk S (by simp) _ e2,g.moved fun T z u hu=>hk T (by simp[(hT T z).2]) u hu,hT⟩
 item:=fun i s Q E hi st q=>by
  obtain⟨f,e1,e2,g,hT⟩:=st
  refine zqa hh e1 e2 x d hf hr hl g hSI (fun T z=>(hT T z).1) (fun h' f' v hv sb e3 g' hT'=>?_) fun h' hn _=>?_
  ·refine q v h' s.toks hv ⟨f',e3,(sb.2 S hSI).trans e2,g',fun T z=>hT T (hT' T z)⟩ fun b u hb z=>(sb.2 b (by simpa using hb)).trans z
  ·rw [List.getElem?_eq_none_iff] at hn
   omega
 done:=fun s Q E st q=>by
  obtain⟨f,e1,e2,g,hT⟩:=st
  refine zqa hh e1 e2 x d hf hr hl g hSI (fun T z=>(hT T z).1) (fun h' f' v hv _ _ _ _=>?_) fun h' _ sb=>q h' s.toks fun b u hb z=>sb b u (by simpa using hb) z
  simp at hv
 self:=fun i s Q E st q=>by
  obtain⟨f,e1,_⟩:=st
  have hT:s.TypeIs (.ref I) "set_iterator":=⟨_,e1,rfl⟩
  refine wpAny_pyIter_slot hT zfv (wpAny_call_entry zfv hT zkp ?_ (znl _))
  exact wpAny_pure ⟨_,rfl,"set_iterator",_,hT,slot_si_next.lookup,q⟩
theorem zyt{Q:Bool->Shared->Prop} (hT:s.TypeIs (.ref S) "set") (q:Q false s):wpAny (model prog w) A (Builtin.List.listLengthHint (.ref S)) Q E s:=by
 unfold Builtin.List.listLengthHint
 refine wpAny_bind (wpAny_specialOf hT slot_set_len'.lookup ?_)
 generalize hid:("set.__len__" : String)=id0
 wp_delta
 rw [show splitId id0=some ("set","__len__") from by subst hid; decide+kernel]
 subst hid
 refine wpAny_bind (wpAny_isInstance (T:="set") (b:=true) hT (by rw [isSubtype_type]; kernel_rfl) ?_)
 refine wpAny_ite_split (fun hab=>absurd hab (by decide)) (fun _=>?_)
 refine wpAny_ite_split (fun _=>?_) (fun hab=>absurd (by decide+kernel) hab)
 refine wpAny_bind (wpAny_typeOf hT ?_)
 exact wpAny_pure q
theorem zp9{Q:List Value->Shared->Prop}(hh:A.handled=none)(e:s.heap.get? S=some o)(x:o.ExactSet)(d:o.data=.set es ep t)(hf:t.fits es.size=true)(hr:Ris t.place)(hb:es.size < scanBound)(hl:t.led = !z5o w)
  (q:∀(vs:List Value) (h':Heap) (d':Drawn) (tk:Nat),vs.Perm (es.toList.map (·.2))->s.heap.objs.size<=h'.objs.size->(∀b u,s.heap.get? b=some u->h'.get? b=some u)->Q vs {s with heap:=h',drawn:=d',toks:=tk}) :
  wpAny (model prog w) A (collect (.ref S)) Q E s:=by
 unfold collect
 refine wpAny_bind (wpAny_runValue (codeAny_builtin PySem.F.entry_proto_collect ?_))
 rw [Around.under_plainId PySem.F.plain_proto_collect]
 refine wpAny_bind (wpAny_newList (wpAny_pure ⟨plainId_quiet PySem.F.plain_list_iadd _,codeAny_builtin PySem.F.entry_list_iadd ?_⟩))
 rw [Around.under_plainId PySem.F.plain_list_iadd]
 have lS:S < s.heap.objs.size:=Heap.lt_size e
 have e1:(s.heap.push (seqObj "list" #[] 0)).get? S=some o:=Heap.get?_push_of_some _ e
 have hT:Shared.TypeIs {s with heap:=s.heap.push (seqObj "list" #[] 0)} (.ref S) "set":=⟨_,e1,x.1⟩
 show wpAny _ _ (Builtin.List.listExtendWith (.ref s.heap.objs.size) (.ref S) (.ref s.heap.objs.size)) _ _ {s with heap:=s.heap.push (seqObj "list" #[] 0)}
 unfold Builtin.List.listExtendWith
 refine wpAny_bind (wpAny_typeOf hT ?_)
 refine wpAny_ite_split (fun c=>absurd c ?_) (fun _=>?_)
 ·have:Builtin.List.listSameRef (.ref s.heap.objs.size) (.ref S)=false:=by
   simp only[Builtin.List.listSameRef,beq_eq_false_iff_ne]
   exact Nat.ne_of_gt lS
  rw [this]
  decide
 refine wpAny_bind (zyq e1 x d hf hr hb fun h' d' I f vs pv g k hI eI hTI=>?_)
 refine wpAny_bind (wpAny_holding (zyt ⟨_,k _ _ e1,x.1⟩ ?_))
 refine wpAny_ite_split (fun _=>?_) (fun c=>absurd (by decide+kernel) c)
 have eL:h'.get? s.heap.objs.size=some (seqObj "list" #[] 0):=k _ _ (Heap.get?_push_size _ rfl)
 have nI:s.heap.objs.size < I:=by
  have z:(s.heap.push (seqObj "list" #[] 0)).objs.size<=I:=hI
  rw [size_push'] at z
  exact z
 have nIL:s.heap.objs.size≠I:=Nat.ne_of_lt nI
 have nSI:S≠I:=Nat.ne_of_lt (Nat.lt_trans lS nI)
 have nSL:S≠s.heap.objs.size:=Nat.ne_of_lt lS
 refine wpAny_bind (wpAny_rule (wpAny_bind ?_))
 unfold Builtin.List.listTouch
 refine wpAny_bind (listUpdate_at eL rfl ?_)
 have eL1:=get?_update_seq eL (·.push Value.none)
 refine listUpdate_at eL1 rfl (wpAny_pure ⟨plainId_quiet PySem.F.plain_extend_loop _,?_⟩)
 obtain⟨c2,eL2⟩:∃c,((h'.update s.heap.objs.size (Obj.mapSeq (·.push Value.none))).update s.heap.objs.size (Obj.mapSeq (·.pop))).get? s.heap.objs.size=some (seqObj "list" #[] c):=⟨_,get?_update_seq eL1 (·.pop)⟩
 have old:∀b u,b≠s.heap.objs.size->h'.get? b=some u->((h'.update s.heap.objs.size (Obj.mapSeq (·.push Value.none))).update s.heap.objs.size (Obj.mapSeq (·.pop))).get? b=some u:=
  fun b u nb z=>(Heap.get?_update_other _ _ (Ne.symm nb)).trans ((Heap.get?_update_other _ _ (Ne.symm nb)).trans z)
 generalize (h'.update s.heap.objs.size (Obj.mapSeq (·.push Value.none))).update s.heap.objs.size (Obj.mapSeq (·.pop))=h2 at eL2 old |-
 obtain⟨Ts,hTs,hL⟩:∃Ts:List Addr,(∀T,f=.ref T->T∈Ts)/\s.heap.objs.size∉Ts:=by
  rcases g with⟨_,_,z,rfl⟩ | ⟨_,_,_,z,rfl,_⟩ | ⟨T,ds,rfl,eT,_⟩
  ·exact⟨[],fun T z=>(by cases z),by simp⟩
  ·exact⟨[],fun T z=>(by cases z),by simp⟩
  ·refine⟨[T],fun T' z=>by cases z; simp,fun z=>?_⟩
   obtain rfl:=List.mem_singleton.mp z
   rw [eL] at eT
   simp[seqObj] at eT
 have W:=(ztd (prog:=prog) (A:=A.in1) (w:=w) (S:=S) (I:=I) (by simp[hh]) x d hf hr hl nSI vs Ts).toS
 have hn:vs.length<=sizeLine:=by
  rw [pv.length_eq,List.length_map,Array.length_toList]
  exact fits_of_scanBound hb
 refine codeAny_extend_loopS W hn s.heap.objs.size ?_ _ vs.length 0 _ #[] c2 (by omega) (Nat.zero_le _) ?st ?el (ItemsOf.nil _) ?_
 case st=>exact⟨f,old _ _ (Ne.symm nIL) eI,old _ _ nSL (k _ _ e1),g.moved fun T z u hu=>old T u (fun c=>hL (c ▸ hTs T z)) hu,fun T z=>⟨hTI T z,hTs T z⟩⟩
 case el=>exact eL2
 ·simp only[List.mem_cons,not_or]
  exact⟨nIL,Ne.symm nSL,hL⟩
 intro s3 acc c mv eL3 hacc
 refine wpAny_bind (wpAny_load eL3 (wpAny_pure ?_))
 have ev:acc.toList=vs:=by
  refine List.ext_getElem? fun j=>?_
  rcases Nat.lt_or_ge j acc.size with c | c
  ·rw [Array.getElem?_toList,Array.getElem?_eq_getElem c]
   exact(hacc.2 j _ (Array.getElem?_eq_getElem c)).symm
  ·rw [Array.getElem?_toList,Array.getElem?_eq_none c,List.getElem?_eq_none (by rw [<- hacc.1]; exact c)]
 rw [ev]
 obtain⟨h3,g3,d3,tk3,os3⟩:=s3
 have z1:g3=s.gens:=mv.gens
 have z3:os3=s.os:=mv.os
 subst z1 z3
 refine q vs h3 d3 tk3 pv (Nat.le_of_lt (Heap.lt_size eL3)) fun b u hu=>?_
 have lb:b < s.heap.objs.size:=Heap.lt_size hu
 refine mv.heap b u ?_ (old b u (Nat.ne_of_lt lb) (k b u (Heap.get?_push_of_some _ hu)))
 simp only[List.mem_cons,List.not_mem_nil,or_false,not_or]
 exact⟨Nat.ne_of_lt lb,Nat.ne_of_lt (Nat.lt_trans lb nI)⟩
end
end L2
set_option Elab.async false
set_option linter.all false
set_option maxRecDepth 100000
namespace L2
open PySem PySem.Spec PyProof.Rows
def q6c(P:Program)(w:World)(p:Addr)(ks:List Int):HO:=.ext (SetX (intKind P w) q74 p (!z5o w) ks)
def q5q(P:Program)(w:World)(K:PySem.W.Frag):List V->Hp->VK->Prop:=fun xs H Q=>∃(a:Addr) (ns:List Int),xs=[.ref a]/\SqL K H a (ns.map V.int)/\ns.length<=1000/\
 ∀(p:Addr) (ks:List Int),H p=none->ks.Nodup->(∀x,x∈ks↔x∈ns)->ks.length<=ns.length->Q (.ref p) (upd H p (q6c P w p ks))
def zxx(P:Program)(w:World):List V->Hp->VK->Prop:=fun xs H Q=>∃(a:Addr) (ks:List Int),xs=[.ref a]/\H a=some (q6c P w a ks)/\ks.length < 64/\
 ∀(l:Addr) (ms:List Int),H l=none->ms.Perm ks->ms.Pairwise (· <= ·)->Q (.ref l) (upd H l (.lst (ms.map V.int)))
section
variable{X:Cx}
theorem Inv.drew{pins:List (Addr×Obj)}{σ : List (Option V)}{H:Hp}{s:Shared}(d:Drawn)(I:Inv X pins σ H s):Inv X pins σ H {s with drawn:=d}:=
 ⟨I.ok,I.os,I.bare,I.base,I.loc,I.cell,I.free,I.freeC,I.pin,I.hok,I.len⟩
end
end L2
set_option Elab.async false
set_option linter.all false
set_option maxRecDepth 100000
namespace L2
open PySem PyProof.Rows
def zlc(L:Addr->Sp->Prop)(i:Nat)(t:TA):TE:=fun σ H Q=>∃f,σ[i]?=some (some (.ref f))/\∃sp,L f sp/\t σ H fun vs H1=>sp vs H1 Q E0
end L2
set_option Elab.async false
set_option linter.all false
set_option maxRecDepth 100000
namespace L2
open PySem PyProof.Rows
section
variable{P:Program}{w:World}{A:Around}{E:Value->Shared->Prop}{s:Shared}
theorem zq7{it t:Addr}{i:Nat}{its:Array Value}{x:Value}{Q:Value->Shared->Prop}(a:s.heap.IsTupleIter it t i)(b:s.heap.IsTuple t its)(c:its[i]?=some x)
  (q:∀h',h'.IsTupleIter it t (i+1)->Heap.SameBut it s.heap h'->Q x {s with heap:=h'}):wpAny (model P w) A (Builtin.SmallTypes.nextOf (.ref it)) Q E s:=by
 have ty:=a.typeIs
 obtain⟨⟨_,dc,_,sl⟩,eo,rfl,rfl⟩:=a
 obtain⟨⟨_,dl,_,ll⟩,el,rfl,nl,rfl⟩:=b
 rw [Builtin.SmallTypes.nextOf]
 refine wpAny_bind (wpAny_callSpecial?_slot (name:="__next__") ty F.slot_tuple_iterator_next (wpAny_call_entry F.slot_tuple_iterator_next ty F.entry_tuple_iterator_next ?_ (F.args_tuple_iterator_next_1 _)))
 wp_walk
 simp only[Int.toNat_natCast,c]
 wp_walk
 exact⟨_,rfl,wpAny_pure (q _ ⟨_,Heap.get?_update_self _ eo rfl,rfl,by simp[Obj.mapFields,rawInt]⟩ (Heap.SameBut.update ..))⟩
theorem zbs{it t:Addr}{i:Nat}{its:Array Value}{Q:Value->Shared->Prop}(hh:A.handled=none)(a:s.heap.IsTupleIter it t i)(b:s.heap.IsTuple t its)(c:its[i]?=none)
  (q:∀h' e,Heap.ExtBut it s.heap h'->(∃o,h'.get? e=some o/\o.cls=.type "StopIteration")->E (.ref e) {s with heap:=h'}):wpAny (model P w) A (Builtin.SmallTypes.nextOf (.ref it)) Q E s:=by
 have ty:=a.typeIs
 obtain⟨⟨_,dc,_,sl⟩,eo,rfl,rfl⟩:=a
 obtain⟨⟨_,dl,_,ll⟩,el,rfl,nl,rfl⟩:=b
 rw [Builtin.SmallTypes.nextOf]
 refine wpAny_bind (wpAny_callSpecial?_slot (name:="__next__") ty F.slot_tuple_iterator_next (wpAny_call_entry F.slot_tuple_iterator_next ty F.entry_tuple_iterator_next ?_ (F.args_tuple_iterator_next_1 _)))
 wp_walk
 simp only[Int.toNat_natCast,c]
 have hh':A.in1.handled=none:=hh
 wp_walk
 rw [raiseNew]
 wp_walk
 exact q _ _ (((Heap.SameBut.update ..).extBut.push _).push _) ⟨_,Heap.get?_push_size _ rfl,rfl⟩
theorem znp(t u:Addr)(xs ys:Array Value):Meets (Builtin.«zip.__new__» ⟨[.type "zip",.ref t,.ref u],[]⟩) (fun _ R s=>s.heap.IsTuple t xs/\s.heap.IsTuple u ys/\
  ∀h',IsZip h' (s.heap.objs.size+4) (s.heap.objs.size+2) (s.heap.objs.size+3) .none->IsPair h' (s.heap.objs.size+2) (.ref s.heap.objs.size) (.ref (s.heap.objs.size+1))->IsPair h' (s.heap.objs.size+3) .none .none->
   h'.IsTupleIter s.heap.objs.size t 0->h'.IsTupleIter (s.heap.objs.size+1) u 0->h'.objs.size=s.heap.objs.size+5->(∀c o,s.heap.get? c=some o->h'.get? c=some o)->R (.ok (.ret (.ref (s.heap.objs.size+4)))) {s with heap:=h'}):=by
 refine .of_wp fun prog w A R s h=>?_
 obtain⟨hp,g,d,tk,os⟩:=s
 obtain⟨h1,h2,h⟩:=h
 have zz:=sub_zip
 have e1:Heap.IsTuple (Shared.heap ⟨hp,g,d,tk,os⟩) t xs:=h1
 have e2:Heap.IsTuple (Shared.heap ⟨hp.push {cls:=.type "tuple_iterator",data:=.fields #[.ref t,.int 0 0]},g,d,tk,os⟩) u ys:=Heap.IsTuple.push h2 _
 wp_walk using wpAny_pyIter_tuple e1,wpAny_pyIter_tuple e2
 refine⟨_,rfl,?_⟩
 have put:∀{k:Heap} {o:Obj} {n:Nat},n=k.objs.size->o.isFreed=false->(k.push o).get? n=some o:=fun e f=>by subst e; exact Heap.get?_push_size _ f
 have up:∀{k:Heap} {o o':Obj} {n:Nat},k.get? n=some o->(k.push o').get? n=some o:=fun e=>Heap.get?_push_of_some _ e
 simp only[Heap.size_push,Nat.add_assoc,Nat.reduceAdd]
 refine h _ ?_ ?_ ?_ ⟨_,up (up (up (up (put rfl rfl)))),rfl,rfl⟩ ⟨_,up (up (up (put (by simp[Heap.size_push]) rfl))),rfl,rfl⟩ (by simp[Heap.size_push]) fun c o x=>up (up (up (up (up x))))
 ·exact put (by simp[Heap.size_push]) rfl
 ·exact up (up (put (by simp[Heap.size_push]) rfl))
 ·exact up (put (by simp[Heap.size_push]) rfl)
def Nx(P:Program)(w:World)(A:Around)(it:Addr)(Q:Value->Shared->Prop)(E:Value->Shared->Prop)(s:Shared):Prop:=wpAny (model P w) A (Builtin.SmallTypes.nextOf (.ref it)) Q E s
theorem zhj{it:Addr}{Q:Value->Shared->Prop}(h:Nx P w A it Q E s):wpAny (model P w) A (Builtin.SmallTypes.nextOf (.ref it)) Q E s:=h
end
end L2
set_option Elab.async false
set_option linter.all false
set_option maxRecDepth 100000
namespace L2
open PySem PyProof.Rows
section
variable{P:Program}{w:World}{A:Around}{E:Value->Shared->Prop}{s:Shared}
set_option maxHeartbeats 8000000 in
theorem zr2{z I O i1 i2 t u:Addr}{k:Nat}{xs ys:Array Value}{x y a b:Value}{Q:Value->Shared->Prop}(D:ZipApart z I O i1 i2 t u)(hz:IsZip s.heap z I O .none)(hI:IsPair s.heap I (.ref i1) (.ref i2))(hO:IsPair s.heap O a b)
  (h1:s.heap.IsTupleIter i1 t k) (h2:s.heap.IsTupleIter i2 u k) (ht:s.heap.IsTuple t xs) (hu:s.heap.IsTuple u ys) (hx:xs[k]?=some x) (hy:ys[k]?=some y)
  (q:∀h',IsZip h' z I O (rawInt s.heap.objs.size)->IsPair h' O x y->h'.IsTupleIter i1 t (k+1)->h'.IsTupleIter i2 u (k+1)->IsPair h' s.heap.objs.size x y->h'.objs.size=s.heap.objs.size+1->
   (∀c o,c≠z->c≠O->c≠i1->c≠i2->s.heap.get? c=some o->h'.get? c=some o)->Q (.ref s.heap.objs.size) {s with heap:=h'}) :
  wpAny (model P w) A (Builtin.«zip.__next__» ⟨[.ref z],[]⟩) (fun fin s'=>∃v,fin=.done (.ret v)/\Q v s') E s:=by
 wp_walk using wpAny_onRaise,zhj
 have m0:Heap.SameBut z s.heap (s.heap.update z (Obj.mapFields fun x=>x.setIfInBounds 0 Value.ellipsis)):=Heap.SameBut.update ..
 have z0:IsZip (s.heap.update z (Obj.mapFields fun x=>x.setIfInBounds 0 Value.ellipsis)) z I O .ellipsis:=Heap.get?_update_self _ hz rfl
 generalize s.heap.update z (Obj.mapFields fun x=>x.setIfInBounds 0 Value.ellipsis)=g0 at m0 z0 |-
 refine zq7 (h1.extBut m0.extBut D.i1z) (ht.extBut m0.extBut D.l1z) hx fun g1 j1 m1=>?_
 have o1:IsPair g1 O a b:=m1.extBut _ _ D.TOi1 (m0.extBut _ _ D.TOz hO)
 wp_walk using wpAny_onRaise,zhj
 have m2:Heap.SameBut O g1 (g1.update O (Obj.mapSeq fun v=>v.setIfInBounds 0 x)):=Heap.SameBut.update ..
 have o2:IsPair (g1.update O (Obj.mapSeq fun v=>v.setIfInBounds 0 x)) O x b:=Heap.get?_update_self _ o1 rfl
 generalize g1.update O (Obj.mapSeq fun v=>v.setIfInBounds 0 x)=g2 at m2 o2 |-
 refine zq7 (((h2.extBut m0.extBut D.i2z).extBut m1.extBut D.i12.symm).extBut m2.extBut D.TOi2.symm) (((hu.extBut m0.extBut D.l2z).extBut m1.extBut D.l2i1).extBut m2.extBut D.l2TO) hy fun g3 j3 m3=>?_
 have o3:IsPair g3 O x b:=m3.extBut _ _ D.TOi2 o2
 have z3:IsZip g3 z I O .ellipsis:=m3.extBut _ _ D.i2z.symm (m2.extBut _ _ D.TOz.symm (m1.extBut _ _ D.i1z.symm z0))
 wp_walk using wpAny_onRaise,zhj
 have m4:Heap.SameBut O g3 (g3.update O (Obj.mapSeq fun v=>v.setIfInBounds (0+1) y)):=Heap.SameBut.update ..
 have o4:IsPair (g3.update O (Obj.mapSeq fun v=>v.setIfInBounds (0+1) y)) O x y:=Heap.get?_update_self _ o3 rfl
 generalize g3.update O (Obj.mapSeq fun v=>v.setIfInBounds (0+1) y)=g4 at m4 o4 |-
 have n4:g4.objs.size=s.heap.objs.size:=m4.1.trans (m3.1.trans (m2.1.trans (m1.1.trans m0.1)))
 rw [show((fun v:Array Value=>v.setIfInBounds (0+1) y) #[x,b]).toList.toArray = #[x,y] from rfl]
 have e5:IsPair (g4.push {cls:=.type "tuple",data:=.seq #[x,y]}) g4.objs.size x y:=Heap.get?_push_size _ rfl
 have z4:IsZip (g4.push {cls:=.type "tuple",data:=.seq #[x,y]}) z I O .ellipsis:=Heap.get?_push_of_some _ (m4.extBut _ _ D.TOz.symm z3)
 have k5:∀c o,c≠z->c≠O->c≠i1->c≠i2->s.heap.get? c=some o->(g4.push {cls:=.type "tuple",data:=.seq #[x,y]}).get? c=some o:=fun c o c1 c2 c3 c4 h=>Heap.get?_push_of_some _ (m4.extBut _ _ c2 (m3.extBut _ _ c4 (m2.extBut _ _ c2 (m1.extBut _ _ c3 (m0.extBut _ _ c1 h)))))
 have o5:IsPair (g4.push {cls:=.type "tuple",data:=.seq #[x,y]}) O x y:=Heap.get?_push_of_some _ o4
 have y1:(g4.push {cls:=.type "tuple",data:=.seq #[x,y]}).IsTupleIter i1 t (k+1):=(((j1.extBut m2.extBut D.TOi1.symm).extBut m3.extBut D.i12).extBut m4.extBut D.TOi1.symm).at fun o h=>Heap.get?_push_of_some _ h
 have y2:(g4.push {cls:=.type "tuple",data:=.seq #[x,y]}).IsTupleIter i2 u (k+1):=(j3.extBut m4.extBut D.TOi2.symm).at fun o h=>Heap.get?_push_of_some _ h
 have s5:(g4.push {cls:=.type "tuple",data:=.seq #[x,y]}).objs.size=s.heap.objs.size+1:=by rw [size_push',n4]
 rw [n4] at e5
 rw [n4]
 generalize g4.push {cls:=.type "tuple",data:=.seq #[x,y]}=g5 at e5 z4 k5 o5 y1 y2 s5 |-
 wp_walk
 have m6:Heap.SameBut z g5 ((g5.update z (Obj.mapFields fun v=>v.setIfInBounds 0 (rawInt s.heap.objs.size))).update z (Obj.mapFields fun v=>v.setIfInBounds 1 (Value.bool false))):=(Heap.SameBut.update ..).trans (Heap.SameBut.update ..)
 refine⟨_,rfl,q _ (Heap.get?_update_self _ (Heap.get?_update_self _ z4 rfl) rfl) (m6.extBut _ _ D.TOz o5) (y1.extBut m6.extBut D.i1z) (y2.extBut m6.extBut D.i2z) (m6.extBut _ _ (Nat.ne_of_gt (Heap.lt_size hz)) e5) (m6.1.trans s5) fun c o c1 c2 c3 c4 h=>m6.extBut _ _ c1 (k5 c o c1 c2 c3 c4 h)⟩
set_option maxHeartbeats 8000000 in
theorem znq{z I O i1 i2 t u:Addr}{k:Nat}{xs ys:Array Value}{a b:Value}{Q:Fin->Shared->Prop}(hh:A.handled=none)(D:ZipApart z I O i1 i2 t u)(hz:IsZip s.heap z I O .none)(hI:IsPair s.heap I (.ref i1) (.ref i2))(hO:IsPair s.heap O a b)
  (h1:s.heap.IsTupleIter i1 t k) (h2:s.heap.IsTupleIter i2 u k) (ht:s.heap.IsTuple t xs) (hu:s.heap.IsTuple u ys) (hend:xs[k]?=none\/ys[k]?=none)
  (q:∀h' e,(∀c o,c≠z->c≠O->c≠i1->c≠i2->s.heap.get? c=some o->h'.get? c=some o)->(∃o,h'.get? e=some o/\o.cls=.type "StopIteration")->E (.ref e) {s with heap:=h'}) :
  wpAny (model P w) A (Builtin.«zip.__next__» ⟨[.ref z],[]⟩) Q E s:=by
 wp_walk using wpAny_onRaise,zhj
 have m0:Heap.SameBut z s.heap (s.heap.update z (Obj.mapFields fun x=>x.setIfInBounds 0 Value.ellipsis)):=Heap.SameBut.update ..
 have z0:IsZip (s.heap.update z (Obj.mapFields fun x=>x.setIfInBounds 0 Value.ellipsis)) z I O .ellipsis:=Heap.get?_update_self _ hz rfl
 generalize s.heap.update z (Obj.mapFields fun x=>x.setIfInBounds 0 Value.ellipsis)=g0 at m0 z0 |-
 cases hx:xs[k]? with
 | none=>
  refine zbs hh (h1.extBut m0.extBut D.i1z) (ht.extBut m0.extBut D.l1z) hx fun g1 e1 m1 he=>?_
  have z1:IsZip g1 z I O .ellipsis:=m1 _ _ D.i1z.symm z0
  obtain⟨oe,ho,hc⟩:=he
  have ne:e1≠z:=fun x=>by subst x; rw [z1] at ho; cases ho; simp at hc
  exact wpAny_setField_rec z1 (by simp) fun h5 _ m5=>q h5 e1 (fun c o c1 c2 c3 c4 h=>m5.extBut _ _ c1 (m1 _ _ c3 (m0.extBut _ _ c1 h))) ⟨oe,m5.extBut _ _ ne ho,hc⟩
 | some x=>
  have hy:ys[k]?=none:=hend.resolve_left (by rw [hx]; simp)
  refine zq7 (h1.extBut m0.extBut D.i1z) (ht.extBut m0.extBut D.l1z) hx fun g1 j1 m1=>?_
  have o1:IsPair g1 O a b:=m1.extBut _ _ D.TOi1 (m0.extBut _ _ D.TOz hO)
  wp_walk using wpAny_onRaise,zhj
  have m2:Heap.SameBut O g1 (g1.update O (Obj.mapSeq fun v=>v.setIfInBounds 0 x)):=Heap.SameBut.update ..
  generalize g1.update O (Obj.mapSeq fun v=>v.setIfInBounds 0 x)=g2 at m2 |-
  refine zbs hh (((h2.extBut m0.extBut D.i2z).extBut m1.extBut D.i12.symm).extBut m2.extBut D.TOi2.symm) (((hu.extBut m0.extBut D.l2z).extBut m1.extBut D.l2i1).extBut m2.extBut D.l2TO) hy fun g3 e3 m3 he=>?_
  have z3:IsZip g3 z I O .ellipsis:=m3 _ _ D.i2z.symm (m2.extBut _ _ D.TOz.symm (m1.extBut _ _ D.i1z.symm z0))
  obtain⟨oe,ho,hc⟩:=he
  have ne:e3≠z:=fun x=>by subst x; rw [z3] at ho; cases ho; simp at hc
  exact wpAny_setField_rec z3 (by simp) fun h5 _ m5=>q h5 e3 (fun c o c1 c2 c3 c4 h=>m5.extBut _ _ c1 (m3 _ _ c4 (m2.extBut _ _ c2 (m1.extBut _ _ c3 (m0.extBut _ _ c1 h))))) ⟨oe,m5.extBut _ _ ne ho,hc⟩
end
end L2
set_option Elab.async false
set_option linter.all false
set_option maxRecDepth 100000
namespace L2
open PySem PySem.Spec PyProof.Rows
section
variable{P:Program}{w:World}{A:Around}{E:Value->Shared->Prop}{s:Shared}
theorem zta{z I O i1 i2 t u:Addr}{k:Nat}{xs ys:Array Value}{x y a b:Value}{Q:Option Value->Shared->Prop}(D:ZipApart z I O i1 i2 t u)(hz:IsZip s.heap z I O .none)(hI:IsPair s.heap I (.ref i1) (.ref i2))(hO:IsPair s.heap O a b)
  (h1:s.heap.IsTupleIter i1 t k) (h2:s.heap.IsTupleIter i2 u k) (ht:s.heap.IsTuple t xs) (hu:s.heap.IsTuple u ys) (hx:xs[k]?=some x) (hy:ys[k]?=some y)
  (q:∀h',IsZip h' z I O (rawInt s.heap.objs.size)->IsPair h' O x y->h'.IsTupleIter i1 t (k+1)->h'.IsTupleIter i2 u (k+1)->IsPair h' s.heap.objs.size x y->h'.objs.size=s.heap.objs.size+1->
   (∀c o,c≠z->c≠O->c≠i1->c≠i2->s.heap.get? c=some o->h'.get? c=some o)->Q (some (.ref s.heap.objs.size)) {s with heap:=h'}):wpAny (model P w) A (pyNext (.ref z)) Q E s:=by
 have ty:s.TypeIs (.ref z) "zip":=⟨_,hz,rfl⟩
 rw [pyNext]
 refine wpAny_bind (wpAny_attempt (wpAny_callSpecial?_slot (name:="__next__") ty PySem.F.slot_zip_next (wpAny_call_entry PySem.F.slot_zip_next ty PySem.F.entry_zip_next ?_ (PySem.F.args_zip_next_1 _))))
 exact zr2 D hz hI hO h1 h2 ht hu hx hy fun h' b1 b2 b3 b4 b5 b6 b7=>wpAny_pure (q h' b1 b2 b3 b4 b5 b6 b7)
theorem zxb{z I O i1 i2 t u:Addr}{k:Nat}{xs ys:Array Value}{a b:Value}{Q:Option Value->Shared->Prop}(hh:A.handled=none)(D:ZipApart z I O i1 i2 t u)(hz:IsZip s.heap z I O .none)(hI:IsPair s.heap I (.ref i1) (.ref i2))(hO:IsPair s.heap O a b)
  (h1:s.heap.IsTupleIter i1 t k) (h2:s.heap.IsTupleIter i2 u k) (ht:s.heap.IsTuple t xs) (hu:s.heap.IsTuple u ys) (hend:xs[k]?=none\/ys[k]?=none)
  (q:∀h',(∀c o,c≠z->c≠O->c≠i1->c≠i2->s.heap.get? c=some o->h'.get? c=some o)->Q none {s with heap:=h'}):wpAny (model P w) A (pyNext (.ref z)) Q E s:=by
 have ty:s.TypeIs (.ref z) "zip":=⟨_,hz,rfl⟩
 rw [pyNext]
 refine wpAny_bind (wpAny_attempt (wpAny_callSpecial?_slot (name:="__next__") ty PySem.F.slot_zip_next (wpAny_call_entry PySem.F.slot_zip_next ty PySem.F.entry_zip_next (znq (by simpa using hh) D hz hI hO h1 h2 ht hu hend fun h' e hk he=>?_) (PySem.F.args_zip_next_1 _))))
 obtain⟨o,ho,hc⟩:=he
 exact wpAny_bind (wpAny_isInstance (b:=true) ⟨o,ho,hc⟩ isSubtype_stop (wpAny_pure (q _ hk)))
theorem zwv{t u:Addr}{xs ys:Array Value}{Q:Value->Shared->Prop}(ht:s.heap.IsTuple t xs)(hu:s.heap.IsTuple u ys)
  (h:∀h',IsZip h' (s.heap.objs.size+4) (s.heap.objs.size+2) (s.heap.objs.size+3) .none->IsPair h' (s.heap.objs.size+2) (.ref s.heap.objs.size) (.ref (s.heap.objs.size+1))->IsPair h' (s.heap.objs.size+3) .none .none->
   h'.IsTupleIter s.heap.objs.size t 0->h'.IsTupleIter (s.heap.objs.size+1) u 0->h'.objs.size=s.heap.objs.size+5->(∀c o,s.heap.get? c=some o->h'.get? c=some o)->Q (.ref (s.heap.objs.size+4)) {s with heap:=h'}) :
  wpAny (model P w) A (call (.type "zip") [.ref t,.ref u]) Q E s:=by
 refine callType_new PySem.F.called_zip (by decide) (PySem.F.typeCall_zip_2 _ _) (PySem.F.newCall_zip_2 _ _) (fun obj=>PySem.F.args_object_init_3 obj _ _) PySem.F.entry_zip_new (znp t u xs ys) ⟨ht,hu,fun h' b1 b2 b3 b4 b5 b6 b7=>?_⟩
 exact⟨⟨_,b1,rfl⟩,h h' b1 b2 b3 b4 b5 b6 b7⟩
end
def q27(K:PySem.W.Frag)(a b:Addr):It:=
 ⟨fun i H=>∃xs ys x y,SqT K H a xs/\SqT K H b ys/\xs[i]?=some x/\ys[i]?=some y,fun i H x H'=>∃T u v,x=.ref T/\H T=none/\H'=upd H T (.tup [u,v])/\(∀xs,SqT K H a xs->xs[i]?=some u)/\∀ys,SqT K H b ys->ys[i]?=some v,
  fun i H=>∃xs ys,SqT K H a xs/\SqT K H b ys/\(xs.length<=i\/ys.length<=i)⟩
theorem ztf{P:Program}{w:World}{K:PySem.W.Frag}{elts:List Expr}{kt:Nat}{pt:Pos}(a b z TI TO i1 i2:Addr)(D:ZipApart z TI TO i1 i2 a b) :
  Turn P w K (.Tuple elts kt pt) (q27 K a b) [z,TI,TO,i1,i2] z (fun i h=>IsZip h z TI TO .none/\IsPair h TI (.ref i1) (.ref i2)/\(∃u v,IsPair h TO u v)/\h.IsTupleIter i1 a i/\h.IsTupleIter i2 b i) where
 mem:=by simp
 obj:=fun i h st c hc=>by
  obtain⟨hz,hTI,⟨u,v,hTO⟩,h1,h2⟩:=st
  simp only[List.mem_cons,List.not_mem_nil,or_false] at hc
  rcases hc with rfl | rfl | rfl | rfl | rfl
  ·exact⟨_,hz,fun v z=>by cases z⟩
  ·exact⟨_,hTI,fun v z=>by cases z⟩
  ·exact⟨_,hTO,fun v z=>by cases z⟩
  ·obtain⟨o,e',c,d⟩:=h1
   exact⟨o,e',fun v z=>by rw [d] at z; cases z⟩
  ·obtain⟨o,e',c,d⟩:=h2
   exact⟨o,e',fun v z=>by rw [d] at z; cases z⟩
 keep:=fun i h h' st k=>by
  obtain⟨hz,hTI,⟨u,v,hTO⟩,h1,h2⟩:=st
  exact⟨k z (by simp) _ hz,k TI (by simp) _ hTI,⟨u,v,k TO (by simp) _ hTO⟩,h1.at fun o q=>k i1 (by simp) o q,h2.at fun o q=>k i2 (by simp) o q⟩
 item:=by
  intro X hP hw hK hc i pins s σ H E I hf st hg
  subst hP hw hK
  obtain⟨hz,hTI,⟨u0,v0,hTO⟩,h1,h2⟩:=st
  obtain⟨xs,ys,x,y,hq,hq2,hx,hy⟩:=hg
  obtain⟨its,rv,p,_⟩:=I.tuple hq
  obtain⟨its2,rv2,p2,_⟩:=I.tuple hq2
  obtain⟨u,hu,ru⟩:=rv.get hx
  obtain⟨u2,hu2,ru2⟩:=rv2.get hy
  refine zta D hz hTI hTO h1 h2 p p2 (x:=u) (y:=u2) (by simpa using hu) (by simpa using hu2) fun h3 a1 a2 a3 a4 a5 a6 hk=>?_
  refine⟨_,rfl,wpAny_letOwnedTupleGo_zip a1 fun h4 hz4 hs4=>?_⟩
  have hs4':Heap.SameBut z h3 h4:=hs4
  have hzl:z < s.heap.objs.size:=Heap.lt_size hz
  have kk:∀c o,c∉[z,TI,TO,i1,i2]->s.heap.get? c=some o->h4.get? c=some o:=fun c o hc' q=>
   hs4'.extBut c o (fun e=>hc' (by simp[e])) (hk c o (fun e=>hc' (by simp[e])) (fun e=>hc' (by simp[e])) (fun e=>hc' (by simp[e])) (fun e=>hc' (by simp[e])) q)
  have I1:Inv X pins σ H {s with heap:=h4,toks:=s.toks}:=I.turnedL kk hf
  have hTn:H s.heap.objs.size=none:=I.hok.fresh (Nat.le_refl _)
  have hT2:h4.get? s.heap.objs.size=some {cls:=.type "tuple",data:=.seq #[u,u2]}:=hs4'.extBut _ _ (Nat.ne_of_gt hzl) a5
  have I2:Inv X pins σ (upd H s.heap.objs.size (.tup [x,y])) {s with heap:=h4,toks:=s.toks}:=
   I1.track hTn (I.fpOk (Nat.le_refl _) hTn) (show ObjOk X.prog X.w _ h4 _ (.tup [x,y]) from⟨zpg,[u,u2],.cons ru (.cons ru2 .nil),⟨_,hT2,rfl,_,rfl⟩⟩)
  refine⟨.ref s.heap.objs.size,_,I2,rfl,⟨s.heap.objs.size,x,y,rfl,hTn,rfl,fun zs hz'=>by rw [I.tuple_inj hz' hq]; exact hx,fun zs hz'=>by rw [I.tuple_inj hz' hq2]; exact hy⟩,
   ⟨hz4,hs4'.extBut _ _ D.TIz (hk _ _ D.TIz D.TITO D.TIi1 D.TIi2 hTI),⟨_,_,hs4'.extBut _ _ D.TOz a2⟩,a3.at fun o q=>(hs4'.2 i1 D.i1z).trans q,a4.at fun o q=>(hs4'.2 i2 D.i2z).trans q⟩,fun c hc'=>?_⟩
  have hcl:c < s.heap.objs.size:=by
   simp only[List.mem_cons,List.not_mem_nil,or_false] at hc'
   rcases hc' with rfl | rfl | rfl | rfl | rfl
   ·exact hzl
   ·exact Heap.lt_size hTI
   ·exact Heap.lt_size hTO
   ·obtain⟨o,e',_⟩:=h1; exact Heap.lt_size e'
   ·obtain⟨o,e',_⟩:=h2; exact Heap.lt_size e'
  rw [z0b (Nat.ne_of_lt hcl)]
  exact(hf c hc').1
 done:=by
  intro X hP hw hK hc i pins s σ H E I hf st hg
  subst hP hw hK
  obtain⟨hz,hTI,⟨u0,v0,hTO⟩,h1,h2⟩:=st
  obtain⟨xs,ys,hq,hq2,hend⟩:=hg
  obtain⟨its,rv,p,_⟩:=I.tuple hq
  obtain⟨its2,rv2,p2,_⟩:=I.tuple hq2
  have e1:=rv.length
  have e2:=rv2.length
  refine zxb (I.ok.hd hc) D hz hTI hTO h1 h2 p p2 ?_ fun h' hk=>⟨rfl,I.turnedL (t':=s.toks) (fun c o hc' q=>hk c o (fun e=>hc' (by simp[e])) (fun e=>hc' (by simp[e])) (fun e=>hc' (by simp[e])) (fun e=>hc' (by simp[e])) q) hf⟩
  rcases hend with z | z
  ·exact .inl (by simp; omega)
  ·exact .inr (by simp; omega)
 self:=fun _ _ _ _ _ st h=>wpAny_pyIter_zip st.1 h
section
variable{X:Cx}
def q1i(K:PySem.W.Frag)(ta:TA):TI:=fun σ H R=>ta σ H fun vs H1=>∃a b,vs=[.ref a,.ref b]/\(∃xs,SqT K H1 a xs)/\(∃ys,SqT K H1 b ys)/\R (q27 K a b) H1
theorem q0q{elts:List Expr}{kt:Nat}{pt p pos:Pos}{l l2:Expr}{ta:TA} (hg:Gl X "zip") (hm:X.mg "zip" = none) (ha:PA X [l,l2] ta) (hst:zjh l=false:=by rfl) (hst2:zjh l2=false:=by rfl):PI X (.Tuple elts kt pt) (.Call (.Name "zip" p) [l,l2] [] pos) (q1i X.K ta):=by
 refine⟨?_⟩
 intro pins s σ H R I h
 have hpl:=z3e (pos:=pos) (env:=X.env) (es:=[l2]) (by simp[z3l,hst2])
 refine Call_ (zje I hg hm boot_zip (PyProof.Rows.callWith_type1 (thn (ha pos pins s σ H _ I h) fun us s1 ⟨vs,H1,I1,r1,q1⟩=>?_) (z1f hst) hpl))
 obtain⟨a,b,e,⟨xs,hq⟩,⟨ys,hq2⟩,q⟩:=q1
 subst e
 cases r1 with
 | cons r rr=>
  cases rr with
  | cons r2 rr=>
   cases rr
   cases r
   cases r2
   obtain⟨its,rv,pl,_⟩:=I1.tuple hq
   obtain⟨its2,rv2,pl2,_⟩:=I1.tuple hq2
   have hla:a < s1.heap.objs.size:=by obtain⟨_,e,_⟩:=pl; exact Heap.lt_size e
   have hlb:b < s1.heap.objs.size:=by obtain⟨_,e,_⟩:=pl2; exact Heap.lt_size e
   refine zwv pl pl2 fun h' hz hTI hTO h1 h2 hsz hk=>?_
   have I2:Inv X pins σ H1 {s1 with heap:=h'}:=I1.kept (t':=s1.toks) hk
   refine wpAny_pyIter_zip hz ?_
   refine⟨s1.heap.objs.size+4,[s1.heap.objs.size+4,s1.heap.objs.size+2,s1.heap.objs.size+3,s1.heap.objs.size,s1.heap.objs.size+1],_,_,H1,rfl,I2,ztf a b _ _ _ _ _ (zipApart_new hla hlb),⟨hz,hTI,⟨_,_,hTO⟩,h1,h2⟩,fun c hc=>?_,q⟩
   have hle:s1.heap.objs.size<=c:=by
    simp only[List.mem_cons,List.not_mem_nil,or_false] at hc
    rcases hc with rfl | rfl | rfl | rfl | rfl<;>first | exact Nat.le_refl _ | exact Nat.le_add_right _ _
   exact I1.fpOk hle (I1.hok.fresh hle)
end
section
variable{prog:Program}{w:World}{A:Around}{E:Value->Shared->Prop}{s:Shared}
end
section
variable{X:Cx}
def q6e(K:PySem.W.Frag):V->Option Int->Option Int->Hp->VK->Prop:=fun x lo hi H Q=>∃a xs,x=.ref a/\SqT K H a xs/\
 (((HT.sIx xs.length 0 lo=0/\HT.sIx xs.length xs.length hi=xs.length)/\Q (.ref a) H)\/(¬ (HT.sIx xs.length 0 lo=0/\HT.sIx xs.length xs.length hi=xs.length)/\∀p,H p=none->Q (.ref p) (upd H p (.tup (zwn xs lo hi)))))
end
end L2
set_option Elab.async false
set_option linter.all false
set_option maxRecDepth 100000
namespace L2
open PySem PySem.Spec PyProof.Rows
inductive DX where
 | c (d:Dm) | var (i:Nat) | tup (l:List DX) | lst (l:List DX) | cat (a b:DX) | lof (a:DX)
def q6m:Dm->Dm->Dm
 | .tup x,.tup y=>.tup (x++y)
 | _,_=>.non
mutual
def DX.val(ρ : Nat->Dm):DX->Dm
 | .c d=>d
 | .var i=>ρ i
 | .tup l=>.tup (q29 ρ l)
 | .lst _=>.lst
 | .cat a b=>q6m (a.val ρ) (b.val ρ)
 | .lof _=>.lst
def q29(ρ : Nat->Dm):List DX->List Dm
 | []=>[]
 | x::r=>x.val ρ::q29 ρ r
end
mutual
def DX.Fit(ρ : Nat->Dm)(σ : St)(H:Hp):DX->Prop
 | .c _=>True
 | .var i=>∃v,σ[i]?=some (some v)/\Dt H v (ρ i)
 | .tup l=>l.length<=1000/\q28 ρ σ H l
 | .lst l=>l.length<=1000/\q28 ρ σ H l
 | .cat a b=>a.Fit ρ σ H/\b.Fit ρ σ H/\∃x y,a.val ρ = .tup x/\b.val ρ = .tup y/\x.length+y.length<=1000
 | .lof a=>a.Fit ρ σ H/\∃x,a.val ρ = .tup x
def q28(ρ : Nat->Dm)(σ : St)(H:Hp):List DX->Prop
 | []=>True
 | x::r=>x.Fit ρ σ H/\q28 ρ σ H r
end
def q4w(vt:List Nat):DX->DX->Bool
 | .var i,.tup l=>vt.contains i && decide (l.length<=100)
 | _,_=>false
def q3w(vt:List Nat):DX->Bool
 | .var i=>vt.contains i
 | _=>false
mutual
def DX.chk(vo vt:List Nat):DX->Bool
 | .c _=>true
 | .var i=>vo.contains i
 | .tup l=>decide (l.length<=100) && q4t vo vt l
 | .lst l=>decide (l.length<=100) && q4t vo vt l
 | .cat a b=>q4w vt a b && a.chk vo vt && b.chk vo vt
 | .lof a=>q3w vt a && a.chk vo vt
def q4t(vo vt:List Nat):List DX->Bool
 | []=>true
 | x::r=>x.chk vo vt && q4t vo vt r
end
structure Env(ρ : Nat->Dm)(σ : St)(H:Hp)(vo vt:List Nat):Prop where
 o:∀i∈vo,∃v,σ[i]?=some (some v)/\Dt H v (ρ i)
 t:∀i∈vt,∃ds,ρ i=.tup ds/\ds.length<=100
theorem zl4(ρ : Nat->Dm):∀l:List DX,(q29 ρ l).length=l.length
 | []=>rfl
 | _::r=>by rw [q29,List.length_cons,List.length_cons,zl4 ρ r]
mutual
theorem Env.fit{ρ : Nat->Dm}{σ : St}{H:Hp}{vo vt:List Nat}(e:Env ρ σ H vo vt):∀{x:DX},x.chk vo vt=true->x.Fit ρ σ H
 | .c _,_=>by rw [DX.Fit]; trivial
 | .var i,h=>by
  rw [DX.chk] at h
  rw [DX.Fit]
  exact e.o i (List.contains_iff_mem.mp h)
 | .tup l,h=>by
  rw [DX.chk,Bool.and_eq_true,decide_eq_true_eq] at h
  rw [DX.Fit]
  exact⟨by omega,e.fitA h.2⟩
 | .lst l,h=>by
  rw [DX.chk,Bool.and_eq_true,decide_eq_true_eq] at h
  rw [DX.Fit]
  exact⟨by omega,e.fitA h.2⟩
 | .cat a b,h=>by
  rw [DX.chk,Bool.and_eq_true,Bool.and_eq_true] at h
  obtain⟨⟨h0,h1⟩,h2⟩:=h
  rw [DX.Fit]
  refine⟨e.fit h1,e.fit h2,?_⟩
  unfold q4w at h0
  split at h0
  ·rename_i i l
   rw [Bool.and_eq_true,decide_eq_true_eq] at h0
   obtain⟨ds,ed,hl⟩:=e.t i (List.contains_iff_mem.mp h0.1)
   exact⟨ds,q29 ρ l,by rw [DX.val]; exact ed,by rw [DX.val],by rw [zl4]; omega⟩
  ·cases h0
 | .lof a,h=>by
  rw [DX.chk,Bool.and_eq_true] at h
  rw [DX.Fit]
  refine⟨e.fit h.2,?_⟩
  have h0:=h.1
  unfold q3w at h0
  split at h0
  ·rename_i i
   obtain⟨ds,ed,hl⟩:=e.t i (List.contains_iff_mem.mp h0)
   exact⟨ds,by rw [DX.val]; exact ed⟩
  ·cases h0
theorem Env.fitA{ρ : Nat->Dm}{σ : St}{H:Hp}{vo vt:List Nat}(e:Env ρ σ H vo vt):∀{l:List DX},q4t vo vt l=true->q28 ρ σ H l
 | [],_=>by rw [q28]; trivial
 | x::r,h=>by
  rw [q4t,Bool.and_eq_true] at h
  rw [q28]
  exact⟨e.fit h.1,e.fitA h.2⟩
end
def tDX(x:DX):TE:=fun σ H Q=>∃ ρ,x.Fit ρ σ H/\∀v H',Same H H'->Dt H' v (x.val ρ)->Q v H'
def q2x(l:List DX):TA:=fun σ H Q=>∃ ρ,q28 ρ σ H l/\∀vs H',Same H H'->DtA H' vs (q29 ρ l)->Q vs H'
section
variable{X:Cx}
theorem PE.weak{e:Expr}{t t':TE}(h:PE X e t)(k:∀ σ H Q,t' σ H Q->t σ H Q):PE X e t':=⟨fun pins s σ H Q I q=>h pins s σ H Q I (k σ H Q q)⟩
end
end L2
set_option Elab.async false
set_option linter.all false
set_option maxRecDepth 100000
namespace L2
open PySem PySem.Spec PyProof.Rows PySem.W
section
variable{prog:Program}{w:World}{A:Around}{E:Value->Shared->Prop}{s:Shared}
variable{k:SortKind}{vs:List Value}{st:SortSt}
end
end L2
set_option Elab.async false
set_option linter.all false
set_option maxRecDepth 100000
namespace L2
open PySem PySem.Spec PyProof.Rows PySem.W
section
variable{prog:Program}{w:World}{A:Around}{E:Value->Shared->Prop}{s:Shared}
end
def z25(p:List Int):Dm:=.tup (p.map Dm.int)
abbrev Rw2:=List Int×Dm
def q2f(r:Rw2):Dm:=.tup [z25 r.1,r.2]
theorem zbv{H:Hp}:∀{xs:List V} {p:List Int},DtA H xs (p.map Dm.int)->xs=p.map V.int
 | _,[],.nil=>rfl
 | _,_::_,.cons (.int _) r=>by rw [List.map_cons,<- zbv r]
section
variable{X:Cx}{pins:List (Addr×Obj)}{σ : St}{H:Hp}{s:Shared}
end
end L2
set_option Elab.async false
set_option linter.all false
set_option maxRecDepth 100000
namespace L2
open PySem PyProof.Rows
open AutoSeq1 (wpAny_loadPart')
theorem zmr(l:Addr)(items:Array Value)(n:Nat)(dct:Option Addr)(sl:Array (Option Value)) :
  Meets (Builtin.«enumerate.__new__» ⟨[.type "enumerate",.ref l],[]⟩) (fun _ R s=>s.heap.get? l=some {cls:=.type "tuple",dict:=dct,data:=.seq items n,slots:=sl}/\
   R (.ok (.ret (.ref (s.heap.push {cls:=.type "tuple_iterator",data:=.fields #[.ref l,.int 0 0]}).objs.size)))
    {s with heap:=(s.heap.push {cls:=.type "tuple_iterator",data:=.fields #[.ref l,.int 0 0]}).push {cls:=.type "enumerate",data:=.fields #[.none,.bool false,.ref s.heap.objs.size,rawInt 0,.none,.none]}}):=
 .of_wp fun prog w A R s h=>by
  obtain⟨hp,g,d,tk,os⟩:=s; obtain⟨hl,h⟩:=h
  have hsub:=sub_enumerate
  have hL:Heap.IsTuple (Shared.heap ⟨hp,g,d,tk,os⟩) l items:=⟨_,hl,rfl,n,rfl⟩
  wp_walk using wpAny_loadPart' hl
  refine wpAny_stack_any fun st=>wpAny_pure ?_
  split
  ·rename_i c _ _ _ _ _
   cases (c == Value.type "enumerate")
   ·wp_walk using wpAny_loadPart' hl,wpAny_pyIter_tuple hL
    exact⟨_,rfl,h⟩
   ·wp_walk using wpAny_loadPart' hl,wpAny_pyIter_tuple hL
    exact⟨_,rfl,h⟩
  ·wp_walk using wpAny_loadPart' hl,wpAny_pyIter_tuple hL
   exact⟨_,rfl,h⟩
section
variable{prog:Program}{w:World}{A:Around}{E:Value->Shared->Prop}{s:Shared}
theorem zsz{l:Addr}{items:Array Value}{Q:Value->Shared->Prop}(hL:s.heap.IsTuple l items)
  (h:∀h',IsEnum h' (s.heap.objs.size+1) s.heap.objs.size 0 .none->h'.IsTupleIter s.heap.objs.size l 0->h'.objs.size=s.heap.objs.size+2->
   (∀b o,s.heap.get? b=some o->h'.get? b=some o)->Q (.ref (s.heap.objs.size+1)) {s with heap:=h'}) :
  wpAny (model prog w) A (call (.type "enumerate") [.ref l]) Q E s:=by
 obtain⟨⟨c,dct,dt,sl⟩,hl,hc,n,hd⟩:=hL
 replace hc:c=.type "tuple":=hc
 replace hd:dt=.seq items n:=hd
 subst hc hd
 refine callType_new F.called_enumerate (by decide) (F.typeCall_enumerate_1 _) (F.newCall_enumerate_1 _) (fun obj=>F.args_object_init_2 obj _) F.entry_enumerate_new
  (zmr l items n dct sl) ⟨hl,?_⟩
 have hz:(s.heap.push {cls:=.type "tuple_iterator",data:=.fields #[.ref l,.int 0 0]}).objs.size=s.heap.objs.size+1:=Heap.size_push ..
 show _/\_
 rw [hz]
 have he:IsEnum ((s.heap.push {cls:=.type "tuple_iterator",data:=.fields #[.ref l,.int 0 0]}).push
   {cls:=.type "enumerate",data:=.fields #[.none,.bool false,.ref s.heap.objs.size,rawInt 0,.none,.none]}) (s.heap.objs.size+1) s.heap.objs.size 0 .none:=by
  have:=Heap.get?_push_size (s.heap.push {cls:=.type "tuple_iterator",data:=.fields #[.ref l,.int 0 0]})
   (o:={cls:=.type "enumerate",data:=.fields #[.none,.bool false,.ref s.heap.objs.size,rawInt 0,.none,.none]}) rfl
  rw [hz] at this; exact this
 refine⟨⟨_,he,rfl⟩,h _ he ⟨_,Heap.get?_push_of_some _ (Heap.get?_push_size _ rfl),rfl,rfl⟩ (by rw [Heap.size_push,hz]) fun b o x=>Heap.get?_push_of_some _ (Heap.get?_push_of_some _ x)⟩
theorem zw1{e it l:Addr}{i:Nat}{items:Array Value}{old:Value}{Q:Option Value->Shared->Prop}(hh:A.handled=none)(he:IsEnum s.heap e it i old)(hit:s.heap.IsTupleIter it l i)(hl:s.heap.IsTuple l items)(hx:items[i]?=none)
  (hQ:∀h',Heap.ExtBut it s.heap h'->Q none {s with heap:=h'}):wpAny (model prog w) A (pyNext (.ref e)) Q E s:=by
 have hT:s.TypeIs (.ref e) "enumerate":=⟨_,he,rfl⟩
 unfold pyNext
 refine wpAny_bind (wpAny_attempt (wpAny_callSpecial?_slot (name:=Str.ofString "__next__") hT F.slot_enumerate_next
  (wpAny_call_entry F.slot_enumerate_next hT F.entry_enumerate_next ?_ (F.args_enumerate_next_1 _))))
 show wpAny _ _ (field (.ref e) 2 >>= _) _ _ _
 refine wpAny_bind (wpAny_field he rfl (x:=.ref it) rfl ?_)
 refine wpAny_bind (zbs hh hit hl hx fun h' x he' hx'=>?_)
 obtain⟨o,ho,hc⟩:=hx'
 refine wpAny_bind (wpAny_isInstance (T:="StopIteration") (b:=true) ⟨o,ho,hc⟩ isSubtype_stop ?_)
 exact wpAny_pure (hQ _ he')
end
theorem q4i{prog:Program}{w:World}{A:Around}(hh:A.handled=none)(it l:Addr)(hne:l≠it)(items:Array Value) :
  Draws prog w A it [it,l] items.size (fun i v=>items[i]?=some v) (fun i h=>h.IsTupleIter it l i/\h.IsTuple l items) where
 live:=fun _ _ st=>let ⟨o,ho,_⟩:=st.1; ⟨o,ho⟩
 frame:=fun _ _ _ st hk=>⟨st.1.at fun o e=>hk it (by simp) o e,let ⟨o,ho,r⟩:=st.2; ⟨o,hk l (by simp) o ho,r⟩⟩
 item:=fun i s Q E hi st hQ=>by
  refine zq7 st.1 st.2 (x:=items[i]) (by simp[hi]) fun h' hit' hs'=>?_
  exact hQ _ h' s.toks (by simp[hi]) ⟨hit',st.2.extBut hs'.extBut hne⟩ hs'
 done:=fun s Q E st hE=>zbs hh st.1 st.2 (by simp) hE
def q03(K:PySem.W.Frag)(a:Addr):It:=
 ⟨fun i H=>∃xs x,SqT K H a xs/\xs[i]?=some x,fun i H x H'=>∃T v,x=.ref T/\H T=none/\H'=upd H T (.tup [.int i,v])/\∀xs,SqT K H a xs->xs[i]?=some v,fun i H=>∃xs,SqT K H a xs/\xs.length<=i⟩
theorem zr5{P:Program}{w:World}{K:PySem.W.Frag}{elts:List Expr}{kt:Nat}{pt:Pos}(a e it:Addr)(hne:e≠it)(hea:e≠a)(hai:a≠it):Turn P w K (.Tuple elts kt pt) (q03 K a) [e,it] e (fun i h=>(∃old,IsEnum h e it i old)/\h.IsTupleIter it a i) where
 mem:=by simp
 obj:=fun i h st b hb=>by
  obtain⟨⟨old,he⟩,hi⟩:=st
  rcases List.mem_cons.mp hb with rfl | hb
  ·exact⟨_,he,fun v z=>by cases z⟩
  ·obtain rfl:=List.mem_singleton.mp hb
   obtain⟨o,e',c,d⟩:=hi
   exact⟨o,e',fun v z=>by rw [d] at z; cases z⟩
 keep:=fun i h h' st k=>by
  obtain⟨⟨old,he⟩,hi⟩:=st
  exact⟨⟨old,k e (by simp) _ he⟩,hi.at fun o q=>k it (by simp) o q⟩
 item:=by
  intro X hP hw hK hc i pins s σ H E I hf st hg
  subst hP hw hK
  obtain⟨⟨old,he⟩,hit⟩:=st
  obtain⟨xs,x,hq,hx⟩:=hg
  obtain⟨its,rv,p,hz⟩:=I.tuple hq
  obtain⟨u,hu,ru⟩:=rv.get hx
  have hui:its.toArray[i]?=some u:=by simpa using hu
  have hlt:i < its.toArray.size:=by
   rcases Nat.lt_or_ge i its.toArray.size with c | c
   ·exact c
   ·rw [Array.getElem?_eq_none c] at hui; cases hui
  refine wpAny_pyNext_enum_itemD (q4i (A:=X.A.in1) (show X.A.in1.handled=none from I.ok.hd hc) it a hai its.toArray) he ⟨hit,p⟩ hlt hne (by simp[hne,hea]) fun y h1 tk hy ho hst1 hT hsz hk=>?_
  have hy':its.toArray[i]?=some y:=hy
  obtain rfl:u=y:=by rw [hui] at hy'; exact Option.some.inj hy'
  have hit1:=hst1.1
  refine⟨_,rfl,wpAny_letOwnedTupleGo_enum ho fun h2 he2 hs2=>?_⟩
  have helt:e < s.heap.objs.size:=Heap.lt_size he
  have hs2':Heap.SameBut e h1 h2:=hs2
  have kk:∀b o,b∉[e,it]->s.heap.get? b=some o->h2.get? b=some o:=fun b o hb q=>hs2'.extBut b o (fun z=>hb (by simp[z])) (hk b o (fun z=>hb (by simp[z])) (fun z=>hb (by simp[z])) q)
  have I1:Inv X pins σ H {s with heap:=h2,toks:=tk+1}:=I.turnedL kk hf
  have hTn:H s.heap.objs.size=none:=I.hok.fresh (Nat.le_refl _)
  have hT2:h2.get? s.heap.objs.size=some {cls:=.type "tuple",data:=.seq #[.int i tk,u]}:=hs2'.extBut _ _ (Nat.ne_of_gt helt) hT
  have I2:Inv X pins σ (upd H s.heap.objs.size (.tup [.int i,x])) {s with heap:=h2,toks:=tk+1}:=
   I1.track hTn (I.fpOk (Nat.le_refl _) hTn) (show ObjOk X.prog X.w _ h2 _ (.tup [.int i,x]) from⟨zpg,[.int i tk,u],.cons ⟨_,rfl⟩ (.cons ru .nil),⟨_,hT2,rfl,_,rfl⟩⟩)
  refine⟨.ref s.heap.objs.size,_,I2,rfl,⟨s.heap.objs.size,x,rfl,hTn,rfl,fun ys hy=>by rw [I.tuple_inj hy hq]; exact hx⟩,⟨⟨u,by simpa using he2⟩,hit1.at fun o q=>(hs2'.2 it hne.symm).trans q⟩,fun b hb=>?_⟩
  have hbl:b < s.heap.objs.size:=by
   rcases List.mem_cons.mp hb with rfl | hb
   ·exact helt
   ·obtain rfl:=List.mem_singleton.mp hb
    obtain⟨o,e',_⟩:=hit
    exact Heap.lt_size e'
  rw [z0b (Nat.ne_of_lt hbl)]
  exact(hf b hb).1
 done:=by
  intro X hP hw hK hc i pins s σ H E I hf st hg
  subst hP hw hK
  obtain⟨⟨old,he⟩,hit⟩:=st
  obtain⟨xs,hq,hx⟩:=hg
  obtain⟨its,rv,p,hz⟩:=I.tuple hq
  have hl:=rv.length
  exact zw1 (I.ok.hd hc) he hit p (by simp; omega) fun h' eb=>⟨rfl,I.turnedL (t':=s.toks) (fun b o hb q=>eb b o (fun z=>hb (by simp[z])) q) hf⟩
 self:=fun _ _ _ _ _ st h=>by
  obtain⟨⟨old,he⟩,_⟩:=st
  exact wpAny_pyIter_enum he h
section
variable{X:Cx}
def zvo(K:PySem.W.Frag)(ta:TA):TI:=fun σ H R=>ta σ H fun vs H1=>∃a,vs=[.ref a]/\(∃xs,SqT K H1 a xs)/\R (q03 K a) H1
theorem zk4{elts:List Expr}{kt:Nat}{pt p pos:Pos}{l:Expr}{ta:TA} (hg:Gl X "enumerate") (hm:X.mg "enumerate" = none) (ha:PA X [l] ta) (hst:zjh l=false:=by rfl):PI X (.Tuple elts kt pt) (.Call (.Name "enumerate" p) [l] [] pos) (zvo X.K ta):=by
 refine⟨?_⟩
 intro pins s σ H R I h
 refine Call_ (zje I hg hm boot_enumerate (PyProof.Rows.callWith_type1 (thn (ha pos pins s σ H _ I h) fun us s1 ⟨vs,H1,I1,r1,q1⟩=>?_) (z1f hst) rfl))
 obtain⟨a,e,⟨xs,hq⟩,q⟩:=q1
 subst e
 cases r1 with
 | cons r rr=>
  cases rr
  cases r
  obtain⟨its,rv,pl,hz⟩:=I1.tuple hq
  have hal:a < s1.heap.objs.size:=by
   obtain⟨o,e,_⟩:=pl
   exact Heap.lt_size e
  refine zsz pl fun h' he hi hsz hk=>?_
  have I2:Inv X pins σ H1 {s1 with heap:=h'}:=I1.kept (t':=s1.toks) hk
  refine wpAny_pyIter_enum he ?_
  refine⟨s1.heap.objs.size+1,[s1.heap.objs.size+1,s1.heap.objs.size],_,_,H1,rfl,I2,zr5 a _ _ (Nat.succ_ne_self _) (Nat.ne_of_gt (Nat.lt_succ_of_lt hal)) (Nat.ne_of_lt hal),⟨⟨_,he⟩,hi⟩,fun b hb=>?_,q⟩
  have hle:s1.heap.objs.size<=b:=by
   rcases List.mem_cons.mp hb with rfl | hb
   ·exact Nat.le_succ _
   ·obtain rfl:=List.mem_singleton.mp hb
    exact Nat.le_refl _
  exact I1.fpOk hle (I1.hok.fresh hle)
end
theorem zmo{K:PySem.W.Frag}{a:Addr}{xs:List V}{g:TG}{tb:TS}{D:Ends}{σ : St}{H:Hp}(Pv:Nat->St->Hp->Prop)(h0:Pv 0 σ H)(hl:∀i σ H,i<=xs.length->Pv i σ H->SqT K H a xs)
  (hs:∀i x σ H T,xs[i]?=some x->Pv i σ H->H T=none->g (.ref T) σ (upd H T (.tup [.int i,x])) fun σ2 H2=>tb {D with nx:=Pv (i+1),ct:=Pv (i+1),bk:=D.nx} σ2 H2) (hd:∀ σ H,Pv xs.length σ H->D.nx σ H) :
  ∃W:Nat->Nat->St->Hp->Prop,(∃m,W 0 m σ H)/\∀i m σ H,W i m σ H->
   ((q03 K a).stop i H/\D.nx σ H)\/((q03 K a).go i H/\∃N:St->Hp->Prop,(∀ σ' H',N σ' H'->∃m',m' < m/\W (i+1) m' σ' H')/\∀x H',(q03 K a).yld i H x H'->g x σ H' fun σ2 H2=>tb {D with nx:=N,ct:=N,bk:=D.nx} σ2 H2):=by
 refine⟨fun i m σ H=>m=xs.length - i/\i<=xs.length/\Pv i σ H,⟨xs.length,by simp,Nat.zero_le _,h0⟩,?_⟩
 rintro i m σ H ⟨rfl,hi,p⟩
 have q:=hl i σ H hi p
 by_cases hlt:i < xs.length
 ·refine .inr ⟨⟨xs,xs[i],q,by simp[hlt]⟩,Pv (i+1),fun σ' H' p'=>⟨xs.length - (i+1),by omega,rfl,hlt,p'⟩,fun x H' y=>?_⟩
  obtain⟨T,v,rfl,hT,rfl,y⟩:=y
  exact hs i v σ H T (y xs q) p hT
 ·have e:i=xs.length:=by omega
  subst e
  exact .inl ⟨⟨xs,q,Nat.le_refl _⟩,hd σ H p⟩
end L2
set_option Elab.async false
set_option linter.all false
set_option maxRecDepth 100000
namespace L2
open PySem PySem.Spec PyProof.Rows
section
variable{prog:Program}{w:World}{A:Around}{E:Value->Shared->Prop}{s:Shared}{S:Addr}
theorem zqg{k:Str}{v:Value}(h:(PySem.strKind prog w).is k v=true):∃t,v=.str k t:=Value.isStrOf_shape h
theorem q1d(k:Str)(v:Value)(h:(PySem.strKind prog w).is k v=true):strOf v=k:=by
 obtain⟨t,rfl⟩:=zqg h
 rfl
theorem zo1{ks:List Str}{Q:Value->Shared->Prop}(hh:A.handled=none)(X:SetX (PySem.strKind prog w) strOf S (!z5o w) ks s.heap)(h64:ks.length < 64)
  (q:∀(h':Heap) (d':Drawn) (tk:Nat) (l:Addr) (out:Array Value) (n:Nat) (ms:List Str),s.heap.objs.size<=l->(∀b u,s.heap.get? b=some u->h'.get? b=some u)->h'.get? l=some (seqObj "list" out n)->StrsAre out.toList ms->ms.Perm ks->sortedS ms=true->
   Q (.ref l) {s with heap:=h',drawn:=d',toks:=tk}):wpAny (model prog w) A (call (.builtin "sorted") [.ref S]) Q E s:=by
 obtain⟨o,es,ep,t,e,x,d,hel,rfl,hnd,hb,hf,hr,hl⟩:=X
 refine Calls.call_function_entry kind_sorted plain_sorted entry_sorted (args_sorted1 _) ?_
 unfold Builtin.«sorted»
 refine wpAny_bind (m:=checkCount "sorted" 1 1 _) (wpAny_pure (wpAny_bind (zp9 (by simpa using hh) e x d hf hr hb hl fun vs h1 d1 tk1 pv z1 k1=>?_)))
 have hn:vs.length=es.size:=by rw [pv.length_eq,List.length_map,Array.length_toList]
 have hI:StrsAre vs (vs.map strOf):=strsAre_map vs fun v hv=>by
  obtain⟨q,hq,rfl⟩:=List.mem_map.mp (pv.mem_iff.mp hv)
  obtain⟨⟨k,hk,_⟩,_⟩:=hel q hq
  obtain⟨t,ht⟩:=zqg hk
  exact⟨k,t,ht⟩
 have pk:(vs.map strOf).Perm (es.toList.map fun e=>strOf e.2):=by
  have z:=pv.map strOf
  rwa [List.map_map] at z
 refine wpAny_bind (wpAny_newList ?_ (by rw [hn]; exact fits_of_scanBound hb))
 have eL:(h1.push (seqObj "list" vs.toArray 0)).get? h1.objs.size=some (seqObj "list" vs.toArray 0):=Heap.get?_push_size _ rfl
 refine wpAny_bind (wpAny_holding (wpAny_call_entry slot_list_sort ⟨_,eL,rfl⟩ entry_list_sort (list_sort_treeK PyProof.Rows.strKind_oneLt eL hI.keysOf (fun v₁ v₂ zo8 e=>keyKind_strs (by rw [<- e]; exact hI)) (by rw [pk.length_eq.symm.trans (List.length_map ..)] at h64; exact h64) fun st' hp hs=>⟨_,rfl,?_⟩) (args_list_sort _)))
 obtain⟨ms,a1,a2,a3⟩:=sorted_out_str hI hp hs
 refine wpAny_pure ⟨_,rfl,?_⟩
 obtain⟨n,en⟩:=sortedHeap_at (out:=(arrOf st').map (·.2)) eL
 refine q _ d1 tk1 h1.objs.size _ n ms ?_ (fun b u hu=>?_) en a1 (a2.trans pk) a3
 ·exact z1
 ·have lb:=Heap.lt_size (k1 b u hu)
  rw [sortedHeap_old (Nat.ne_of_lt lb) (by rw [size_push']; exact Nat.lt_succ_of_lt lb)]
  exact Heap.get?_push_of_some _ (k1 b u hu)
end
def zkz(P:Program)(w:World)(p:Addr)(ks:List Str):HO:=.ext (SetX (PySem.strKind P w) strOf p (!z5o w) ks)
def q5p(P:Program)(w:World)(K:PySem.W.Frag):List V->Hp->VK->Prop:=fun xs H Q=>∃(a:Addr) (ns:List Str),xs=[.ref a]/\SqL K H a (ns.map V.str)/\ns.length<=1000/\
 ∀(p:Addr) (ks:List Str),H p=none->ks.Nodup->(∀x,x∈ks↔x∈ns)->ks.length<=ns.length->Q (.ref p) (upd H p (zkz P w p ks))
def zu7(P:Program)(w:World):List V->Hp->VK->Prop:=fun xs H Q=>∃(a:Addr) (ks:List Str),xs=[.ref a]/\H a=some (zkz P w a ks)/\ks.length < 64/\
 ∀(l:Addr) (ms:List Str),H l=none->ms.Perm ks->sortedS ms=true->Q (.ref l) (upd H l (.lst (ms.map V.str)))
section
variable{X:Cx}
theorem zj8:∀{vs:List Value} {ss:List Str},StrsAre vs ss->∀(i:Nat) (v:Value),vs[i]?=some v->∃t,v=.str (ss.getD i ⟨#[]⟩) t
 | _,_,.cons x t r,0,v,h=>by
  have:Value.str x t=v:=by simpa using h
  exact⟨t,this.symm⟩
 | _,_,.cons x t r,i+1,v,h=>zj8 r i v (by simpa using h)
theorem zwx(hc:X.calm=true):CallR X (.type "set") (q5p X.prog X.w X.K):=by
 intro pins s σ H xs us Q I r h
 obtain⟨a,ns,rfl,hq,hz,q⟩:=h
 obtain⟨u,rfl,r1⟩:=r.one
 cases r1
 obtain⟨its,rv,pl,_⟩:=I.list hq
 have hi:=zj7 rv
 have hlen:its.length=ns.length:=by have:=rv.length; rw [List.length_map] at this; exact this.symm
 refine zww (knd:=PySem.strKind X.prog X.w) (key:=strOf) (val:=fun i=>ns.getD i ⟨#[]⟩) (I.ok.hd hc) pl.isList q1d (fun i v hv=>?_) (by rw [List.size_toArray]; unfold scanBound; omega) fun h' tk ks x hl hm k=>?_
 ·obtain⟨t,rfl⟩:=zj8 hi i v (by simpa using hv)
  exact⟨by simp[PySem.strKind,Value.isStrOf],rfl⟩
 ·have hnd:ks.Nodup:=by
   obtain⟨_,_,_,_,_,_,_,_,_,z,_⟩:=x
   exact z
  rw [List.size_toArray] at hl
  refine⟨.ref s.heap.objs.size,_,I.laid (t':=tk) k (Nat.le_refl _) (show ObjOk X.prog X.w _ _ _ (zkz X.prog X.w s.heap.objs.size ks) from⟨x,?_,fun h1 h2 z y=>z.moved y⟩),rfl,q _ ks (I.hok.fresh (Nat.le_refl _)) hnd (fun y=>?_) (by omega)⟩
  ·obtain⟨o,_,_,_,e,_⟩:=x
   exact⟨o,e⟩
  ·rw [hm y,List.size_toArray,hlen]
   constructor
   ·rintro⟨j,hj,rfl⟩
    show ns.getD j ⟨#[]⟩∈ns
    rw [List.getD_eq_getElem?_getD,List.getElem?_eq_getElem hj]
    exact List.getElem_mem hj
   ·intro z
    obtain⟨j,hj,e⟩:=List.getElem_of_mem z
    refine⟨j,hj,?_⟩
    show ns.getD j ⟨#[]⟩=y
    rw [List.getD_eq_getElem?_getD,List.getElem?_eq_getElem hj]
    exact e
theorem zie(hc:X.calm=true):CallR X (.builtin "sorted") (zu7 X.prog X.w):=by
 intro pins s σ H xs us Q I r h
 obtain⟨a,ks,rfl,e,h64,q⟩:=h
 obtain⟨u,rfl,r1⟩:=r.one
 cases r1
 have x:SetX (PySem.strKind X.prog X.w) strOf a (!z5o X.w) ks s.heap:=(show ObjOk X.prog X.w H s.heap a (zkz X.prog X.w a ks) from I.hok a _ e).1
 refine zo1 (I.ok.hd hc) x h64 fun h' d' tk l out n ms hl k en a1 a2 a3=>?_
 refine⟨.ref l,_,Inv.drew d' (I.laid (t':=tk) k hl (show ObjOk X.prog X.w _ _ _ (.lst (ms.map V.str)) from⟨?_,out.toList,n,zfu a1,?_⟩)),rfl,q l ms (I.hok.fresh hl) a2 a3⟩
 ·rw [List.length_map,a2.length_eq]
  exact Nat.le_of_lt (z20 (by omega))
 ·simpa [seqObj] using en
end
end L2
set_option Elab.async false
set_option linter.all false
set_option maxRecDepth 100000
namespace L2
open PySem PySem.Spec PyProof.Rows PySem.W
def zt7(r:Nat->Nat)(n:Nat):Nat->Nat->(Bool->Shared->Prop)->Shared->Prop:=fun i j C s=>i < n/\j < n/\C (decide (r i < r j)) s
theorem zx6{α : Type}{r:Nat->Nat}{n:Nat}{cmp:Nat->Nat->(Bool->Shared->Prop)->Shared->Prop}{s:Shared}{Q : α->Shared->Prop}(hc:∀i j C,i < n->j < n->C (decide (r i < r j)) s->cmp i j C s) :
  ∀(t:KasT α),t.kasWp (zt7 r n) (fun a s'=>Q a s) s->t.kasWp cmp Q s
 | .ret a,h=>h
 | .ask i j k,⟨h1,h2,h⟩=>hc i j _ h1 h2 (zx6 hc (k _) h)
section
variable{r:Nat->Nat}{n:Nat}{s:Shared}
theorem zii{α : Type}{i j:Nat}{T1 T2:KasT α}{Q : α->Shared->Prop}(hi:i < n)(hj:j < n)(h1:r i < r j->T1.kasWp (zt7 r n) Q s)(h2:¬ r i < r j->T2.kasWp (zt7 r n) Q s):(KasT.ask i j fun c=>if c=true then T1 else T2).kasWp (zt7 r n) Q s:=by
 refine⟨hi,hj,?_⟩
 by_cases c:r i < r j
 ·have:=h1 c
  simpa [c] using this
 ·have:=h2 c
  simpa [c] using this
def rk(r:Nat->Nat)(p:Array Nat)(i:Nat):Nat:=r (p.getD i 0)
def Asc(r:Nat->Nat)(p:Array Nat)(m:Nat):Prop:=∀i j,i < j->j < m->rk r p i < rk r p j
def Dsc(r:Nat->Nat)(p:Array Nat)(m:Nat):Prop:=∀i j,i < j->j < m->rk r p j < rk r p i
structure PermN(r:Nat->Nat)(n:Nat)(p:Array Nat):Prop where
 sz:p.size=n
 lt:∀i,i < n->p.getD i 0 < n
 inj:∀i j,i < n->j < n->rk r p i=rk r p j->i=j
 pm:p.toList.Perm (List.range n)
theorem PermN.of(hr:∀i j,i < n->j < n->r i=r j->i=j){p:Array Nat}(h:p.toList.Perm (List.range n)):PermN r n p:=by
 have sz:p.size=n:=by simpa using h.length_eq
 have lt:∀i,i < n->p.getD i 0 < n:=fun i hi=>by
  have hi':i < p.size:=by omega
  have:p.getD i 0∈p.toList:=by simp[Array.getD,hi']
  simpa using h.mem_iff.mp this
 refine⟨sz,lt,fun i j hi hj e=>?_,h⟩
 have e':=hr _ _ (lt i hi) (lt j hj) e
 have nd:p.toList.Nodup:=h.nodup_iff.mpr List.nodup_range
 have hi':i < p.size:=by omega
 have hj':j < p.size:=by omega
 have:p.toList[i]'(by simpa using hi')=p.toList[j]'(by simpa using hj'):=by simpa [Array.getD,hi',hj'] using e'
 exact(List.getElem_inj nd).mp this
theorem zki{p q:Array Nat}{i j:Nat}(h:p[i]?=q[j]?):p.getD i 0=q.getD j 0:=by
 have e1:p.getD i 0=(p[i]?).getD 0:=by simp
 have e2:q.getD j 0=(q[j]?).getD 0:=by simp
 rw [e1,e2,h]
theorem q60{p:Array Nat}(P:PermN r n p){Q:Nat->Shared->Prop}:∀(f m:Nat),1<=m->m+f<=n->Asc r p m->(∀k,m<=k->k<=m+f->Asc r p k->(k < m+f->rk r p k < rk r p (k - 1))->Q k s)->(kas_asc p f m).kasWp (zt7 r n) Q s
 | 0,m,h1,h2,h,q=>q m (Nat.le_refl _) (Nat.le_refl _) h (fun z=>absurd z (by omega))
 | f+1,m,h1,h2,h,q=>by
  refine zii (P.lt _ (by omega)) (P.lt _ (by omega)) (fun c=>?_) (fun(c:¬ rk r p m < rk r p (m - 1))=>?_)
  ·exact q m (Nat.le_refl _) (by omega) h (fun _=>c)
  ·refine q60 P f (m+1) (by omega) (by omega) (fun i j hij hj=>?_) fun k k1 k2 k3 k4=>q k (by omega) (by omega) k3 (fun z=>k4 (by omega))
   have last:rk r p (m - 1) < rk r p m:=by
    have:rk r p (m - 1)≠rk r p m:=fun e=>by have:=P.inj _ _ (by omega) (by omega) e; omega
    omega
   by_cases e:j=m
   ·subst e
    by_cases e2:i=j - 1
    ·rw [e2]; exact last
    ·exact Nat.lt_trans (h i (j - 1) (by omega) (by omega)) last
   ·exact h i j hij (by omega)
theorem q4k{p:Array Nat}(P:PermN r n p){Q:Array Nat×Nat×Nat->Shared->Prop}:∀(f m:Nat),1<=m->m+f<=n->Dsc r p m->(∀k,m<=k->k<=m+f->Dsc r p k->Q (p,k,0) s)->(kas_desc f p m 0).kasWp (zt7 r n) Q s
 | 0,m,h1,h2,h,q=>q m (Nat.le_refl _) (Nat.le_refl _) h
 | f+1,m,h1,h2,h,q=>by
  refine zii (P.lt _ (by omega)) (P.lt _ (by omega)) (fun c=>?_) (fun(c:¬ rk r p m < rk r p (m - 1))=>?_)
  ·rw [if_neg (by omega)]
   refine q4k P f (m+1) (by omega) (by omega) (fun i j hij hj=>?_) fun k k1 k2 k3=>q k (by omega) (by omega) k3
   by_cases e:j=m
   ·subst e
    by_cases e2:i=j - 1
    ·rw [e2]; exact c
    ·exact Nat.lt_trans c (h i (j - 1) (by omega) (by omega))
   ·exact h i j hij (by omega)
  ·have last:rk r p (m - 1) < rk r p m:=by
    have:rk r p (m - 1)≠rk r p m:=fun e=>by have:=P.inj _ _ (by omega) (by omega) e; omega
    omega
   refine zii (P.lt _ (by omega)) (P.lt _ (by omega)) (fun c=>?_) (fun c=>absurd last c)
   exact q m (Nat.le_refl _) (by omega) h
theorem zxt(hr:∀i j,i < n->j < n->r i=r j->i=j){p:Array Nat}(P:PermN r n p)(i j:Nat):PermN r n (kas_rev p i j):=
 .of hr ((Array.perm_iff_toList_perm.mp (mirror_perm _ _ _ _)).trans P.pm)
theorem zzl{p:Array Nat}{m:Nat}(hm:m<=p.size)(k:Nat)(hk:k < m):rk r (kas_rev p 0 m) k=rk r p (m - 1 - k):=by
 have e:=getElem?_mirror_all (xs:=p) (i:=0) hm k
 rw [if_pos (by omega)] at e
 show r _=r _
 rw [show kas_rev p 0 m=mirror p 0 m ((m - 0) / 2) from rfl,zki e]
 congr 2
 omega
theorem q2s(hr:∀i j,i < n->j < n->r i=r j->i=j){p:Array Nat}(P:PermN r n p){m:Nat}{Q:Nat×Array Nat->Shared->Prop}(h1:1<=m)(h2:m<=n)(h:Dsc r p m)
  (q:∀k p',PermN r n p'->1<=k->k<=n->Asc r p' k->Q (k,p') s):(kas_tail3 m n p).kasWp (zt7 r n) Q s:=by
 unfold kas_tail3
 rw [KasT.kasWp_bind]
 have P':=zxt hr P 0 m
 refine q60 P' (n - m) m h1 (by omega) (fun i j hij hj=>?_) fun k k1 k2 k3 _=>q k _ P' (by omega) (by omega) k3
 rw [zzl (by rw [P.sz]; exact h2) _ (by omega),zzl (by rw [P.sz]; exact h2) _ hj]
 exact h _ _ (by omega) (by omega)
theorem zw4(hr:∀i j,i < n->j < n->r i=r j->i=j){p:Array Nat}(P:PermN r n p){m:Nat}{Q:Nat×Array Nat->Shared->Prop}(h2:m+1<=n)(h:Dsc r p (m+1))
  (q:∀k p',PermN r n p'->1<=k->k<=n->Asc r p' k->Q (k,p') s):(kas_descPart m n p).kasWp (zt7 r n) Q s:=by
 unfold kas_descPart
 rw [KasT.kasWp_bind]
 refine q4k P (n - (m+1)) (m+1) (by omega) (by omega) h fun k k1 k2 k3=>?_
 rw [if_neg (show ¬ (p,k,0).2.2 > 0 from Nat.lt_irrefl 0)]
 have a1:1<=k:=by omega
 have a2:k<=n:=by omega
 exact q2s hr P a1 a2 k3 q
theorem q4s(hr:∀i j,i < n->j < n->r i=r j->i=j){p:Array Nat}(P:PermN r n p){Q:Nat×Array Nat->Shared->Prop}(h1:1<=n)
  (q:∀k p',PermN r n p'->1<=k->k<=n->Asc r p' k->Q (k,p') s):(kas_count n p).kasWp (zt7 r n) Q s:=by
 unfold kas_count
 rw [KasT.kasWp_bind]
 refine q60 P (n - 1) 1 (Nat.le_refl _) (by omega) (fun i j hij hj=>by omega) fun m m1 m2 m3 m4=>?_
 by_cases e:m=n
 ·rw [if_pos (by simpa using e)]
  exact q m p P m1 (by omega) m3
 ·rw [if_neg (by simpa using e)]
  by_cases e2:m > 1
  ·rw [if_pos e2]
   refine zii (P.lt _ (by omega)) (P.lt _ (by omega)) (fun c=>?_) (fun c=>absurd (m3 0 (m - 1) (by omega) (by omega)) c)
   exact q m p P m1 (by omega) m3
  ·rw [if_neg e2]
   obtain rfl:m=1:=by omega
   refine zw4 hr P (by omega) (fun i j hij hj=>?_) q
   obtain rfl:i=0:=by omega
   obtain rfl:j=1:=by omega
   exact m4 (by omega)
theorem zuj{p:Array Nat}(P:PermN r n p){k:Nat}(hk:k < n)(hs:Asc r p k){Q:Nat->Shared->Prop}:∀(f l u:Nat),l<=u->u<=k->u - l<=f->(∀i,i < l->rk r p i < rk r p k)->(∀i,u<=i->i < k->rk r p k < rk r p i)->
  (∀m,m<=k->(∀i,i < m->rk r p i < rk r p k)->(∀i,m<=i->i < k->rk r p k < rk r p i)->Q m s)->(kas_place p k f l u).kasWp (zt7 r n) Q s
 | 0,l,u,h1,h2,h3,lo,hi,q=>by
  obtain rfl:l=u:=by omega
  exact q l h2 lo hi
 | f+1,l,u,h1,h2,h3,lo,hi,q=>by
  unfold kas_place
  by_cases e:l ≥ u
  ·rw [if_pos e]
   obtain rfl:l=u:=by omega
   exact q l h2 lo hi
  ·rw [if_neg e]
   refine zii (P.lt _ hk) (P.lt _ (by omega)) (fun c=>?_) (fun(c:¬ rk r p k < rk r p ((l+u) / 2))=>?_)
   ·refine zuj P hk hs f l ((l+u) / 2) (by omega) (by omega) (by omega) lo (fun i h1 h2=>?_) q
    by_cases e2:i=(l+u) / 2
    ·rw [e2]; exact c
    ·exact Nat.lt_trans c (hs _ _ (by omega) h2)
   ·have c':rk r p ((l+u) / 2) < rk r p k:=by
     have:rk r p ((l+u) / 2)≠rk r p k:=fun e=>by have:=P.inj _ _ (by omega) hk e; omega
     omega
    refine zuj P hk hs f ((l+u) / 2+1) u (by omega) h2 (by omega) (fun i h1=>?_) hi q
    by_cases e2:i=(l+u) / 2
    ·rw [e2]; exact c'
    ·exact Nat.lt_trans (hs _ _ (show i < (l+u) / 2 by omega) (by omega)) c'
theorem q6n(hr:∀i j,i < n->j < n->r i=r j->i=j){Q:Array Nat->Shared->Prop}:∀(f:Nat) (p:Array Nat) (k:Nat),PermN r n p->k+f=n->Asc r p k->(∀p',PermN r n p'->Asc r p' n->Q p' s)->(kas_bin f p k).kasWp (zt7 r n) Q s
 | 0,p,k,P,e,h,q=>by
  obtain rfl:k=n:=e
  exact q p P h
 | f+1,p,k,P,e,h,q=>by
  rw [show kas_bin (f+1) p k=(kas_place p k k 0 k).bind fun l=>kas_bin f (bubble p k (k - l)) (k+1) from rfl,KasT.kasWp_bind]
  have hk:k < n:=by omega
  refine zuj P hk h k 0 k (Nat.zero_le _) (Nat.le_refl _) (by omega) (fun i z=>absurd z (by omega)) (fun i z z'=>absurd z' (by omega)) fun m m1 m2 m3=>?_
  refine q6n hr f _ (k+1) (.of hr ((Array.perm_iff_toList_perm.mp (bubble_perm _ _ _)).trans P.pm)) (by omega) (fun i j hij hj=>?_) q
  have at_:∀x,rk r (bubble p k (k - m)) x=if x=m then rk r p k else if m < x/\x<=k then rk r p (x - 1) else rk r p x:=fun x=>by
   have z:=getElem?_bubble (xs:=p) (src:=k) (by rw [P.sz]; exact hk) (k - m) (by omega) x
   rw [show k - (k - m)=m by omega] at z
   show r _=_
   by_cases e1:x=m
   ·rw [if_pos e1] at z |-
    rw [zki z,rk]
   ·rw [if_neg e1] at z |-
    by_cases e2:m < x/\x<=k
    ·rw [if_pos e2] at z |-
     rw [zki z,rk]
    ·rw [if_neg e2] at z |-
     rw [zki z,rk]
  rw [at_,at_]
  repeat' split
  all_goals first
   | (exfalso; omega)
   | exact m2 _ (by omega)
   | exact m3 _ (by omega) (by omega)
   | exact h _ _ (by omega) (by omega)
theorem q5n(hr:∀i j,i < n->j < n->r i=r j->i=j)(h1:1<=n){Q:Array Nat->Shared->Prop}(q:∀p,PermN r n p->Asc r p n->Q p s):(kas_sort n).kasWp (zt7 r n) Q s:=by
 unfold kas_sort
 rw [KasT.kasWp_bind]
 refine q4s hr (.of hr (by simp)) h1 fun k p P k1 k2 k3=>?_
 dsimp only
 by_cases e:k < n
 ·rw [if_pos e,show max k 1=k by omega]
  exact q6n hr _ p k P (by omega) k3 q
 ·rw [if_neg e]
  obtain rfl:k=n:=by omega
  exact q p P k3
end
end L2
set_option Elab.async false
set_option linter.all false
set_option maxRecDepth 100000
namespace L2
open PySem PySem.Spec PyProof.Rows PySem.W
theorem hole:∀(n:Nat) (l:List Nat),l.length=n->∃j,j<=n/\j∉l
 | 0,l,h=>⟨0,Nat.le_refl _,by rw [List.length_eq_zero_iff.mp h]; simp⟩
 | n+1,l,h=>by
  by_cases c:n+1∈l
  ·obtain⟨j,hj,hn⟩:=hole n (l.erase (n+1)) (by rw [List.length_erase_of_mem c,h]; rfl)
   exact⟨j,by omega,fun z=>hn ((List.mem_erase_of_ne (show j≠n+1 by omega)).mpr z)⟩
  ·exact⟨n+1,Nat.le_refl _,c⟩
def lps(mask:Nat):Nat->Nat×Nat->Nat×Nat
 | 0,x=>x
 | k+1,x=>lps mask k (SetTable.leap mask x.1 x.2)
theorem zkb(mask:Nat):∀(a b:Nat) (x:Nat×Nat),lps mask (a+b) x=lps mask b (lps mask a x)
 | 0,b,x=>by rw [Nat.zero_add]; rfl
 | a+1,b,x=>by rw [Nat.succ_add]; exact zkb mask a b _
theorem zos(mask:Nat):∀(k:Nat) (x:Nat×Nat),(lps mask k x).2=x.2 / 32 ^ k
 | 0,x=>by simp[lps]
 | k+1,x=>by
  rw [lps,zos mask k,SetTable.leap,Nat.div_div_eq_div_mul,Nat.pow_succ,Nat.mul_comm]
theorem zzs(mask:Nat):∀(k:Nat) (x:Nat×Nat),x.1<=mask->(lps mask k x).1<=mask
 | 0,x,h=>h
 | k+1,x,h=>zzs mask k _ (Nat.le_of_lt_succ (Nat.mod_lt _ (Nat.succ_pos _)))
def orb(mask:Nat):Nat->Nat->List Nat
 | 0,i=>[i]
 | k+1,i=>i::orb mask k ((i * 5+1) % (mask+1))
theorem zod(mask:Nat):∀(k i j:Nat),j∈orb mask k i->∃m,m<=k/\(lps mask m (i,0)).1=j
 | 0,i,j,h=>by
  rw [orb,List.mem_singleton] at h
  exact⟨0,Nat.le_refl _,h.symm⟩
 | k+1,i,j,h=>by
  rw [orb] at h
  rcases List.mem_cons.mp h with h | h
  ·exact⟨0,Nat.zero_le _,h.symm⟩
  ·obtain⟨m,hm,e⟩:=zod mask k _ j h
   refine⟨m+1,by omega,?_⟩
   rw [lps,SetTable.leap]
   simpa using e
def zr1(mask:Nat):Prop:=mask=7\/mask=31\/mask=127
theorem q0w{mask:Nat}(hm:zr1 mask):(∀j,j<=mask->j∈orb mask mask 0)/\(lps mask (mask+1) (0,0)).1=0:=by
 have go:∀n:Nat,((List.range (n+1)).all fun j=>(orb n n 0).contains j)=true->∀j,j<=n->j∈orb n n 0:=fun n h j hj=>by
  rw [List.all_eq_true] at h
  have x:=h j (by simp; omega)
  simpa using x
 rcases hm with rfl | rfl | rfl
 ·exact⟨go 7 (by decide+kernel),by decide+kernel⟩
 ·exact⟨go 31 (by decide+kernel),by decide+kernel⟩
 ·exact⟨go 127 (by decide+kernel),by decide+kernel⟩
theorem zqb(mask k i:Nat):lps mask k (i,0)=((lps mask k (i,0)).1,0):=by
 have:(lps mask k (i,0)).2=0:=by rw [zos]; exact Nat.zero_div _
 exact Prod.ext rfl this
theorem zy6{mask:Nat}(hm:zr1 mask){i j:Nat}(hi:i<=mask)(hj:j<=mask):∃m,m<=mask/\(lps mask m (i,0)).1=j:=by
 obtain⟨all,turn⟩:=q0w hm
 obtain⟨a,ha,ea⟩:=zod mask mask 0 i (all i hi)
 obtain⟨b,hb,eb⟩:=zod mask mask 0 j (all j hj)
 have from_:∀m,lps mask m (i,0)=lps mask (a+m) (0,0):=fun m=>by rw [zkb,zqb mask a 0,ea]
 by_cases c:a<=b
 ·refine⟨b - a,by omega,?_⟩
  rw [from_,show a+(b - a)=b by omega]
  exact eb
 ·refine⟨b+(mask+1) - a,by omega,?_⟩
  rw [from_,show a+(b+(mask+1) - a)=(mask+1)+b by omega,zkb,zqb mask (mask+1) 0,turn]
  exact eb
theorem q5v{mask:Nat}(hm:zr1 mask){x:Nat×Nat}(h1:x.1<=mask)(h2:x.2 < 2 ^ 64){j:Nat}(hj:j<=mask):∃n,1<=n/\n<=mask+13/\(lps mask n x).1=j:=by
 have e0:(lps mask 13 x).2=0:=by
  rw [zos]
  exact Nat.div_eq_of_lt (Nat.lt_trans h2 (by decide))
 have e1:lps mask 13 x=((lps mask 13 x).1,0):=by rw [<- e0]
 obtain⟨m,hm',e⟩:=zy6 hm (zzs mask 13 x h1) hj
 refine⟨13+m,by omega,by omega,?_⟩
 rw [zkb,e1]
 exact e
def zt8(t:SetTable):Nat->SetTable.Probe->SetTable.Probe
 | 0,p=>p
 | k+1,p=>zt8 t k (t.advance p)
theorem zqz(t:SetTable):∀(a b:Nat) (p:SetTable.Probe),zt8 t (a+b) p=zt8 t b (zt8 t a p)
 | 0,b,p=>by rw [Nat.zero_add]; rfl
 | a+1,b,p=>by rw [Nat.succ_add]; exact zqz t a b _
theorem zlq(mask i:Nat):SetTable.runEnd mask i - i<=9:=by
 unfold SetTable.runEnd
 split<;>omega
theorem zky(t:SetTable):∀(m:Nat) (p:SetTable.Probe),p.more=m->(zt8 t (m+1) p).j=(SetTable.leap t.mask p.i p.perturb).1/\(zt8 t (m+1) p).i=(SetTable.leap t.mask p.i p.perturb).1/\(zt8 t (m+1) p).perturb=(SetTable.leap t.mask p.i p.perturb).2/\(zt8 t (m+1) p).more<=9
 | 0,p,h=>by
  have e:t.advance p = {p with j:=(SetTable.leap t.mask p.i p.perturb).1,more:=SetTable.runEnd t.mask (SetTable.leap t.mask p.i p.perturb).1 - (SetTable.leap t.mask p.i p.perturb).1,i:=(SetTable.leap t.mask p.i p.perturb).1,perturb:=(SetTable.leap t.mask p.i p.perturb).2}:=by
   unfold SetTable.advance
   rw [if_neg (by omega)]
  show(t.advance p).j=_/\(t.advance p).i=_/\(t.advance p).perturb=_/\(t.advance p).more<=9
  rw [e]
  exact⟨rfl,rfl,rfl,zlq _ _⟩
 | m+1,p,h=>by
  have e:t.advance p = {p with j:=p.j+1,more:=p.more - 1}:=by
   unfold SetTable.advance
   rw [if_pos (by omega)]
  show(zt8 t (m+1) (t.advance p)).j=_/\_
  obtain⟨a,b,c,d⟩:=zky t m (t.advance p) (by rw [e]; show p.more - 1=m; omega)
  have e1:(t.advance p).i=p.i:=by rw [e]
  have e2:(t.advance p).perturb=p.perturb:=by rw [e]
  rw [e1,e2] at a b c
  exact⟨a,b,c,d⟩
theorem zjm(t:SetTable):∀(n:Nat) (p:SetTable.Probe),p.more<=9->∃k,k<=10 * (n+1)/\(zt8 t k p).j=(lps t.mask (n+1) (p.i,p.perturb)).1
 | 0,p,h=>by
  obtain⟨a,_⟩:=zky t p.more p rfl
  exact⟨p.more+1,by omega,a⟩
 | n+1,p,h=>by
  obtain⟨a,b,c,d⟩:=zky t p.more p rfl
  obtain⟨k,hk,e⟩:=zjm t n (zt8 t (p.more+1) p) d
  refine⟨p.more+1+k,by omega,?_⟩
  rw [zqz,e,b,c]
  rfl
structure TabOk(t:SetTable):Prop where
 dm:t.dummies = #[]
 mz:t.mask=7/\t.place.size<=4\/t.mask=31/\t.place.size<=18\/t.mask=127/\t.place.size<=60
 rs:Ris t.place
theorem TabOk.mask{t:SetTable}(T:TabOk t):zr1 t.mask:=T.mz.elim (fun z=>.inl z.1) fun z=>z.elim (fun z=>.inr (.inl z.1)) fun z=>.inr (.inr z.1)
theorem TabOk.slot{t:SetTable}(T:TabOk t)(j:Nat):t.slot j=if t.place[SetTable.below t.place j]?=some j then .live (SetTable.below t.place j) else .empty:=by
 unfold SetTable.slot
 have:SetTable.has t.dummies j=false:=by rw [T.dm]; rfl
 rw [this]
 simp
theorem TabOk.hole{t:SetTable}(T:TabOk t):∃j,j<=t.mask/\t.slot j=.empty:=by
 obtain⟨j,hj,hn⟩:=L2.hole t.place.size t.place.toList (by simp)
 refine⟨j,?_,?_⟩
 ·rcases T.mz with⟨a,b⟩ | ⟨a,b⟩ | ⟨a,b⟩<;>omega
 ·rw [T.slot,if_neg]
  intro e
  exact hn (List.mem_of_getElem? (i:=SetTable.below t.place j) (by simpa using e))
def q62(t:SetTable)(p:SetTable.Probe):Prop:=p.more<=9/\p.i<=t.mask/\p.perturb < 2 ^ 64
def Far(t:SetTable)(p:SetTable.Probe)(k:Nat):Prop:=p.dummy=none/\t.slot (zt8 t k p).j=.empty
theorem TabOk.far{t:SetTable}(T:TabOk t){p:SetTable.Probe}(h:q62 t p)(hd:p.dummy=none):∃k,k < 10 * SetTable.turns t.mask/\Far t p k:=by
 obtain⟨j,hj,he⟩:=T.hole
 obtain⟨n,h1,h2,e⟩:=q5v T.mask (x:=(p.i,p.perturb)) h.2.1 h.2.2 hj
 obtain⟨m,rfl⟩:∃m,n=m+1:=⟨n - 1,by omega⟩
 obtain⟨k,hk,ek⟩:=zjm t m p h.1
 refine⟨k,by unfold SetTable.turns; omega,hd,?_⟩
 rw [ek,e]
 exact he
theorem q1z(h:Int):SetTable.bits h < 2 ^ 64:=by
 unfold SetTable.bits
 have a:=Int.emod_lt_of_pos h (show(0:Int) < 2 ^ 64 by decide)
 have b:=Int.emod_nonneg h (show(2 ^ 64:Int)≠0 by decide)
 omega
theorem TabOk.start{t:SetTable}(T:TabOk t)(h:Int):∃k,k < 10 * SetTable.turns t.mask/\Far t (t.probeStart h) k:=
 T.far ⟨zlq _ _,Nat.le_of_lt_succ (Nat.mod_lt _ (Nat.succ_pos _)),q1z h⟩ rfl
def Own(mask:Nat)(owner:Array (Option Nat))(k:Nat):Prop:=owner.size=mask+1/\((List.range (mask+1)).filterMap fun j=>owner.getD j none).Perm (List.range k)
theorem Own.hole{mask k:Nat}{owner:Array (Option Nat)}(O:Own mask owner k)(hk:k<=mask):∃j,j<=mask/\owner.getD j none=none:=by
 refine Classical.byContradiction fun c=>?_
 have all:∀j,j<=mask->∃v,owner.getD j none=some v:=fun j hj=>by
  cases e:owner.getD j none with
  | none=>exact absurd ⟨j,hj,e⟩ c
  | some v=>exact⟨v,rfl⟩
 have len:∀l:List Nat,(∀j∈l,j<=mask)->(l.filterMap fun j=>owner.getD j none).length=l.length:=by
  intro l
  induction l with
  | nil=>intro _; rfl
  | cons a l ih=>
   intro h
   obtain⟨v,hv⟩:=all a (h a (.head _))
   rw [List.filterMap_cons_some (f:=fun j=>owner.getD j none) (b:=v) hv,List.length_cons,List.length_cons,ih fun j hj=>h j (.tail _ hj)]
 have z:=O.2.length_eq
 rw [len _ fun j hj=>by have:=List.mem_range.mp hj; omega,List.length_range,List.length_range] at z
 omega
end L2
set_option Elab.async false
set_option linter.all false
set_option maxRecDepth 100000
namespace L2
open PySem PySem.Spec PyProof.Rows PySem.W
section
variable{prog:Program}{w:World}{A:Around}{E:Value->Shared->Prop}{s:Shared}{a:Addr}{L:Bool}
theorem zjr{n:Nat}(h:n<=1000):n<=sizeLine:=by rw [sizeLine_eq]; omega
theorem zaz{vs:List Value}{a:Addr}{n:Nat}{r:Nat->Nat}{P:PySem.Fin->Shared->Prop} (ho:s.heap.get? a=some (seqObj "list" vs.toArray n)) (h64:vs.length < 64) (hr:∀i j,i < vs.length->j < vs.length->r i=r j->i=j)
  (hR:2<=vs.length->∀h':Heap,(∀b o,b≠a->s.heap.get? b=some o->h'.get? b=some o)->∃k,(∀(E:Value->Shared->Prop) (Q:SortKind->Shared->Prop),Q k {s with heap:=h'}->wpAny (model prog w) A (keyKind' vs.toArray) Q E {s with heap:=h'})/\
   ∀i j,i < vs.length->j < vs.length->∀(E:Value->Shared->Prop) (Q:Bool->Shared->Prop),Q (decide (r i < r j)) {s with heap:=h'}->wpAny (model prog w) A (keyLt' k (vs.getD i .none) (vs.getD j .none)) Q E {s with heap:=h'})
  (h:∀p,PermN r vs.length p->Asc r p vs.length->P (.done (.ret .none)) {s with heap:=sortedHeap s.heap a vs (p.toList.map fun i=>vs.getD i .none).toArray}) :
  wpAny (model prog w) A (Builtin.«list.sort» ⟨[.ref a],[]⟩) P E s:=by
 rw [list_sort_plain]
 have hz:vs.length<=sizeLine:=zjr (by omega)
 have ha:a < s.heap.objs.size:=Heap.lt_size ho
 refine wpAny_bind (listItems_at ho rfl ?_)
 refine wpAny_bind (listUpdate_at ho rfl ?_ (by simpa using hz) (Nat.zero_le _))
 obtain⟨e1,ho1⟩:∃e1,(s.heap.update a (Obj.mapSeq fun _=>#[])).get? a=some (seqObj "list" #[] e1):=⟨_,get?_update_seq ho (fun _=>#[])⟩
 refine wpAny_bind (seqEpoch_at ho1 rfl ?_)
 refine wpAny_bind (wpAny_newTuple ?_ (by simpa using hz))
 refine wpAny_bind (wpAny_newList ?_ (Nat.zero_le _))
 refine wpAny_holding ?_
 have ho6:(((s.heap.update a (Obj.mapSeq fun _=>#[])).push (seqObj "tuple" vs.toArray 0)).push (seqObj "list" #[] 0)).get? a=some (seqObj "list" #[] e1):=by
  rw [Heap.get?_push_ne _ _ _ (by rw [size_push',Heap.size_update]; exact Nat.ne_of_lt (Nat.lt_succ_of_lt ha)),Heap.get?_push_ne _ _ _ (by rw [Heap.size_update]; exact Nat.ne_of_lt ha)]
  exact ho1
 have hkeep:∀b o,b≠a->s.heap.get? b=some o->(((s.heap.update a (Obj.mapSeq fun _=>#[])).push (seqObj "tuple" vs.toArray 0)).push (seqObj "list" #[] 0)).get? b=some o:=fun b o hb e=>by
  refine Heap.get?_push_of_some _ (Heap.get?_push_of_some _ ?_)
  rw [Heap.get?_update_ne _ _ _ _ hb]
  exact e
 show wpAny (model prog w) A _ P E {s with heap:=((s.heap.update a (Obj.mapSeq fun _=>#[])).push (seqObj "tuple" vs.toArray 0)).push (seqObj "list" #[] 0)}
 dsimp only
 have hsz:vs.toArray.size=vs.length:=by simp
 by_cases h2:vs.toArray.size < 2
 ·rw [if_pos h2,if_pos h2]
  refine wpAny_bind (wpAny_pure ?_)
  rw [StateT.run_pure]
  refine wpAny_bind (wpAny_pure ?_)
  dsimp only
  refine wpAny_bind (seqEpoch_at ho6 rfl ?_)
  refine wpAny_bind (listUpdate_at ho6 rfl ?_ (Nat.zero_le _) (by rw [Array.size_map]; show(pairsOf vs).size<=_; rw [pairsOf_size]; exact Nat.le_succ_of_le hz))
  simp only[bne_self_eq_false,Bool.false_eq_true,if_false]
  have e:(arrOf (SortSt.mk' general' (vs.toArray.zip vs.toArray) #[] 7 none)).map (·.2)=vs.toArray:=by
   show(vs.toArray.zip vs.toArray).map (·.2)=_
   apply Array.toList_inj.mp
   simp[List.map_snd_zip]
  rw [e]
  have z:=h (List.toArray (List.range vs.length)) (.of hr (by simp)) (fun i j hij hj=>by rw [hsz] at h2; omega)
  have ev:((List.toArray (List.range vs.length)).toList.map fun i=>vs.getD i Value.none)=vs:=by
   refine List.ext_getElem (by simp) fun i h1 h2=>?_
   simp[h2]
  rw [ev] at z
  exact wpAny_pure z
 ·rw [if_neg h2,if_neg h2]
  rw [hsz] at h2
  obtain⟨kk,hK,hRi⟩:=hR (by omega) _ hkeep
  refine wpAny_bind (hK _ _ ?_)
  refine wpAny_bind (wpAny_mono (kat_run (κ:=kk) (Q:=fun st' s'=>∃p:Array Nat,PermN r vs.length p/\Asc r p vs.length/\arrOf st'=p.map (kas_item (vs.toArray.zip vs.toArray))/\failedOf st'=none/\s' = {s with heap:=((s.heap.update a (Obj.mapSeq fun _=>#[])).push (seqObj "tuple" vs.toArray 0)).push (seqObj "list" #[] 0)})
   (G:=fun p s'=>PermN r vs.length p/\Asc r p vs.length/\s' = {s with heap:=((s.heap.update a (Obj.mapSeq fun _=>#[])).push (seqObj "tuple" vs.toArray 0)).push (seqObj "list" #[] 0)})
   rfl (by omega) h64 (fun p' st' s' a1 a2 a3 ⟨a4,a5,a6⟩=>⟨p',a4,a5,a2,a3,a6⟩) (zx6 (r:=r) (fun i j C hi hj hc=>hRi i j hi hj _ _ hc) _ (q5n hr (by omega) fun p P1 P2=>⟨P1,P2,rfl⟩))) ?_ fun _ _ e=>e)
  rintro⟨⟨⟩,st'⟩ s' ⟨p,P1,P2,har,hf,rfl⟩
  dsimp only at har hf |-
  have e:=kat_snds (ks:=vs) (vs:=vs) rfl har
  refine wpAny_bind (seqEpoch_at ho6 rfl ?_)
  refine wpAny_bind (listUpdate_at ho6 rfl ?_ (Nat.zero_le _) (by rw [e,List.size_toArray,List.length_map,Array.length_toList,P1.sz]; exact Nat.le_succ_of_le hz))
  rw [hf]
  simp only[bne_self_eq_false,Bool.false_eq_true,if_false,e]
  exact wpAny_pure (h p P1 P2)
end
section
variable{prog:Program}{w:World}{A:Around}{E:Value->Shared->Prop}{s:Shared}{S:Addr}
end
section
variable{X:Cx}{pins:List (Addr×Obj)}{σ : St}{H:Hp}{s:Shared}
end
end L2
set_option Elab.async false
set_option linter.all false
set_option maxRecDepth 100000
namespace L2
open PySem PySem.Spec PyProof.Rows PySem.W
section
variable{prog:Program}{w:World}{A:Around}{E:Value->Shared->Prop}{s:Shared}
end
def zxk(K:PySem.W.Frag)(ta:TA)(tc:TE):TE:=fun σ H Q=>ta σ H fun vs H1=>tc σ H1 fun y H2=>∃(a:Addr) (ns:List Int) (d:Int),vs=[.ref a]/\y=.int d/\SqL K H2 a (ns.map V.int)/\∀M,((ns=[]/\M=d)\/(M∈ns/\∀a∈ns,a<=M))->Q (.int M) H2
def q5f(K:PySem.W.Frag):List V->Hp->VK->Prop:=fun xs H Q=>∃(a:Addr) (ns:List Int),xs=[.ref a]/\SqL K H a (ns.map V.int)/\Q (.int ns.sum) H
section
variable{X:Cx}
end
theorem zsu{K:PySem.W.Frag}{a:Addr}{xs:List V}{g:TG}{tt:TT}{te:TE}{Q:VK}{σ : St}{H:Hp}(Pv:Nat->List V->St->Hp->Prop)(h0:Pv 0 [] σ H)(hz:xs.length < sizeLine)(hy:∀i ys σ H,Pv i ys σ H->ys.length<=i)(hl:∀i ys σ H,i<=xs.length->Pv i ys σ H->SqT K H a xs)
  (hs:∀i ys x σ H T,xs[i]?=some x->Pv i ys σ H->H T=none->g (.ref T) σ (upd H T (.tup [.int i,x])) fun σ2 H2=>tt σ2 H2 fun b H3=>if b=true then te σ2 H3 (fun v H4=>Pv (i+1) (ys++[v]) σ2 H4) else Pv (i+1) ys σ2 H3)
  (hd:∀ys σ H,Pv xs.length ys σ H->∀p,H p=none->Q (.ref p) (upd H p (.lst ys))):zd4 (q03 K a) g tt te Q σ H:=by
 refine⟨fun i m ys σ H=>m=xs.length - i/\i<=xs.length/\Pv i ys σ H,⟨xs.length,by simp,Nat.zero_le _,h0⟩,?_⟩
 rintro i m ys σ H ⟨rfl,hi,p⟩
 have q:=hl i ys σ H hi p
 have hyl:=hy i ys σ H p
 by_cases hlt:i < xs.length
 ·refine .inr ⟨⟨xs,xs[i],q,by simp[hlt]⟩,by omega,Pv (i+1),fun ys' σ' H' p'=>⟨xs.length - (i+1),by omega,rfl,hlt,p'⟩,fun x H' y=>?_⟩
  obtain⟨T,v,rfl,hT,rfl,y⟩:=y
  exact hs i ys v σ H T (y xs q) p hT
 ·have e:i=xs.length:=by omega
  subst e
  exact .inl ⟨⟨xs,q,Nat.le_refl _⟩,by omega,hd ys σ H p⟩
theorem z92{K:PySem.W.Frag}{ta:TA}{g:TG}{tt:TT}{te:TE}{mp:List (Option Nat)}{σ : St}{H:Hp}{Q:VK}:zjo (zvo K ta) g tt te mp σ H Q=ta σ H fun vs H1=>∃a,vs=[.ref a]/\(∃xs,SqT K H1 a xs)/\zd4 (q03 K a) g tt te Q (subσ mp σ) H1:=rfl
end L2
set_option Elab.async false
set_option linter.all false
set_option maxRecDepth 100000
namespace L2
open PySem PySem.Spec PyProof.Rows PySem.W
def zjy:V->List V->Hp->VK->Prop:=fun x vs H Q=>∃(l:Addr) (ss:List Str) (y:Str),x=.ref l/\vs=[.str y]/\H l=some (.lst (ss.map V.str))/\Q (.int (ss.count y:Nat)) H
section
variable{X:Cx}
theorem Inv.grow{pins:List (Addr×Obj)}{σ : St}{H H':Hp}{s:Shared}{h':Heap}{t':Nat}(I:Inv X pins σ H s)(k:∀b u,s.heap.get? b=some u->h'.get? b=some u)(sm:Same H H')(old:∀b,b < s.heap.objs.size->H b=none->H' b=none)
  (new:∀b u,H b=none->H' b=some u->ObjOk X.prog X.w H' h' b u):Inv X pins σ H' {s with heap:=h',toks:=t'}:=by
 refine I.un ⟨fun b u q _ _ _=>k b u q,fun b u q _ _ _=>⟨u.slots,k b u q⟩,fun b u q n _=>old b (Heap.lt_size q) n,fun b u q _=>⟨u,k b u q⟩,fun b xs q=>sm _ _ q,fun b u xs q=>sm _ _ q,fun b ps q=>⟨#[],by rw [sm _ _ q]; simp⟩⟩ fun b u e=>?_
 cases hb:H b with
 | none=>exact new b u hb e
 | some u'=>
  have:=sm _ _ hb
  rw [e] at this
  cases this
  exact(I.hok b u hb).stay (fun c v _ q=>k c v q) (fun c q=>sm _ _ q) fun c xs q=>sm _ _ q
end
def z9z(v d:Addr):HO:=.ext fun h=>h.IsItemsView v d
def zjc:V->List V->Hp->VK->Prop:=fun x vs H Q=>∃(d:Addr) (kvs:List (Key×V)),x=.ref d/\vs=[]/\H d=some (.dK kvs)/\∀p,H p=none->Q (.ref p) (upd H p (z9z p d))
def ziq(p:Str×Int):Dm:=.tup [.str p.1,.int p.2]
def zru:List V->Hp->VK->Prop:=fun xs H Q=>∃(v d:Addr) (kvs:List (Str×Int)) (ρ : Str->Nat),xs=[.ref v]/\H v=some (z9z v d)/\H d=some (.dK (kvs.map fun p=>(Sum.inr p.1,V.int p.2)))/\kvs.length < 64/\
 (∀p∈kvs,∀q∈kvs,decide (p.1.cps.toList < q.1.cps.toList)=decide (ρ p.1 < ρ q.1)/\(ρ p.1 = ρ q.1->p.1=q.1))/\
 ∀(l:Addr) (H':Hp) (ws:List V) (ms:List (Str×Int)),Same H H'->H l=none->H' l=some (.lst ws)->DtA H' ws (ms.map ziq)->ms.Perm kvs->ms.Pairwise (fun p q=>ρ p.1 < ρ q.1)->Q (.ref l) H'
section
variable{prog:Program}{w:World}{A:Around}{E:Value->Shared->Prop}{s:Shared}
theorem q19{x y:Str}{a c:Addr}{ox oy:Obj}{xs ys:Array Value}{n m:Nat}{t u:Tok}{d e:Value}{Q:Bool->Shared->Prop}(ha:s.heap.get? a=some ox)(da:ox.data=.seq xs n)(hc:s.heap.get? c=some oy)(dc:oy.data=.seq ys m)
  (ex:xs.toList=[.str x t,d]) (ey:ys.toList=[.str y u,e]) (hne:x≠y) (h:Q (decide (x.cps.toList < y.cps.toList)) s):wpAny (model prog w) A (keyLt' (tuples' true) (.ref a) (.ref c)) Q E s:=by
 refine kat_lt ha da hc dc ?_
 rw [ex,ey,List.zip_cons_cons]
 refine kat_cons (wpAny_eqBool_str ?_)
 rw [decide_eq_false hne]
 exact kat_no (oneLt_str h)
end
section
variable{prog:Program}{w:World}{A:Around}{E:Value->Shared->Prop}{s:Shared}{K:Type} [DecidableEq K] {knd:PySem.KeyKind prog w K}
theorem zke{r d:Addr}{kvs:List (K×Value)}{ep:Nat}{Q:List Value->Shared->Prop}(hh:A.handled=none)(hv:s.heap.IsItemsView r d)(hm:s.heap.DictAt knd d kvs ep)(hn:kvs.length<=sizeLine)
  (q:∀(h':Heap) (tk:Nat) (as:List Addr),s.heap.objs.size<=h'.objs.size->(∀b o,s.heap.get? b=some o->h'.get? b=some o)->as.length=kvs.length->KdxG knd kvs s.heap.objs.size h' as->Q (as.map Value.ref) {s with heap:=h',toks:=tk}) :
  wpAny (model prog w) A (collect (.ref r)) Q E s:=by
 have hr:r < s.heap.objs.size:=let ⟨_,ho,_⟩:=hv; Heap.lt_size ho
 have hd:d < s.heap.objs.size:=hm.lt_size
 unfold collect
 refine wpAny_bind (wpAny_runValue (codeAny_builtin PySem.F.entry_proto_collect ?_))
 rw [Around.under_plainId PySem.F.plain_proto_collect]
 refine wpAny_bind (wpAny_newList (wpAny_pure ⟨plainId_quiet PySem.F.plain_list_iadd _,codeAny_builtin PySem.F.entry_list_iadd ?_⟩))
 rw [Around.under_plainId PySem.F.plain_list_iadd]
 have e0:(s.heap.push (seqObj "list" #[] 0)).get? s.heap.objs.size=some (seqObj "list" #[] 0):=Heap.get?_push_size _ rfl
 show wpAny _ _ (Builtin.List.listExtendWith (.ref s.heap.objs.size) (.ref r) (.ref s.heap.objs.size)) _ _ {s with heap:=s.heap.push (seqObj "list" #[] 0)}
 have fin:∀(v:Result) (s':Shared),(∃(h':Heap) (tk:Nat) (acc:Array Value) (c:Nat) (as:List Addr),v=.ok (.ret (.ref s.heap.objs.size))/\s' = {s with heap:=h',toks:=tk}/\h'.get? s.heap.objs.size=some {cls:=.type "list",dict:=none,data:=.seq acc c,slots:=#[]}/\acc.toList=as.map Value.ref/\Q (as.map Value.ref) {s with heap:=h',toks:=tk})->
   (match v with | .ok (.ret v)=>wpAny (model prog w) A (match v with | .ref a=>(do match (<- load a).data with | .seq xs _=>pure xs.toList | _=>unsupported "internal:collect") | _=>unsupported "internal:collect") Q E s' | .ok _=>False | .error e=>E e s'):=by
  rintro v s' ⟨h',tk,acc,c,as,rfl,rfl,hS,hacc,hq⟩
  refine wpAny_bind (wpAny_load hS (wpAny_pure ?_))
  rw [hacc]
  exact hq
 refine wpAny_mono (kdx_extend (A:=A) (s:={s with heap:=s.heap.push (seqObj "list" #[] 0)}) (knd:=knd) (kvs:=kvs) (ep:=ep)
  (R:=fun v s'=>∃(h':Heap) (tk:Nat) (acc:Array Value) (c:Nat) (as:List Addr),v=.ok (.ret (.ref s.heap.objs.size))/\s' = {s with heap:=h',toks:=tk}/\h'.get? s.heap.objs.size=some {cls:=.type "list",dict:=none,data:=.seq acc c,slots:=#[]}/\acc.toList=as.map Value.ref/\Q (as.map Value.ref) {s with heap:=h',toks:=tk})
  hh (let ⟨o,ho,x⟩:=hv; ⟨o,Heap.get?_push_of_some _ ho,x⟩) (hm.push _) s.heap.objs.size (Nat.ne_of_gt hr) (Nat.ne_of_lt hd) (.ref s.heap.objs.size) 0 e0 (fun h' tk acc c as hk hS hl g hacc=>⟨h',tk,acc,c,as,rfl,rfl,hS,hacc,?_⟩) hn) (fun f s' z=>?_) (fun e s' z=>fin _ _ z)
 ·refine q h' tk as (Nat.le_of_lt (Heap.lt_size hS)) (fun b o e=>hk b o (Nat.ne_of_lt (Heap.lt_size e)) (Heap.get?_push_of_some _ e)) hl (g.low ?_)
  show s.heap.objs.size<=(s.heap.push _).objs.size
  rw [Heap.size_push]
  exact Nat.le_succ _
 ·cases f with
  | done f=>exact fin _ _ z
  | again c=>exact⟨z.1,codeAny_mono z.2 fun r s2 y=>fin r s2 y⟩
end
def zxi:List Addr->List (List V)->Hp->Hp
 | a::as,x::xs,H=>upd (zxi as xs H) a (.tup x)
 | _,_,H=>H
theorem zez:∀{as:List Addr} {xs:List (List V)} {H:Hp} {b:Addr},b∉as->zxi as xs H b=H b
 | [],_,_,_,_=>rfl
 | a::as,[],_,_,_=>rfl
 | a::as,x::xs,H,b,h=>by
  rw [zxi,z0b (show b≠a from fun z=>h (by rw [z]; exact List.mem_cons_self))]
  exact zez fun z=>h (.tail _ z)
theorem znr:∀{as:List Addr} {xs:List (List V)} {H:Hp} {j:Nat} {a:Addr} {x:List V},as.Pairwise (· < ·)->as[j]?=some a->xs[j]?=some x->zxi as xs H a=some (.tup x)
 | [],_,_,_,_,_,_,h,_=>by simp at h
 | a::as,[],_,_,_,_,_,_,h=>by simp at h
 | a::as,x::xs,H,0,b,y,_,h1,h2=>by
  have e1:a=b:=by simpa using h1
  have e2:x=y:=by simpa using h2
  subst e1 e2
  exact z01
 | a::as,x::xs,H,j+1,b,y,hp,h1,h2=>by
  obtain⟨p1,p2⟩:=List.pairwise_cons.mp hp
  have h1':as[j]?=some b:=by simpa using h1
  have hlt:=p1 b (List.mem_of_getElem? h1')
  rw [zxi,z0b (Nat.ne_of_gt hlt)]
  exact znr p2 h1' (by simpa using h2)
theorem q06:∀{as:List Addr} {xs:List (List V)} {H:Hp} {b:Addr} {u:HO},as.length=xs.length->as.Pairwise (· < ·)->b∈as->zxi as xs H b=some u->∃(j:Nat) (x:List V),as[j]?=some b/\xs[j]?=some x/\u=.tup x:=by
 intro as xs H b u hl hp hb e
 obtain⟨j,hj,ej⟩:=List.getElem_of_mem hb
 have h1:as[j]?=some b:=by rw [List.getElem?_eq_getElem hj,ej]
 have h2:xs[j]?=some xs[j]:=List.getElem?_eq_getElem (by omega)
 have z:=znr (H:=H) hp h1 h2
 rw [e] at z
 cases z
 exact⟨j,_,h1,h2,rfl⟩
section
variable{X:Cx}
theorem zyh:MtM X "dict.items" zjc:=by
 intro pins s σ H x vs v us Q I rx rv h
 obtain⟨d,kvs,rfl,rfl,hH,q⟩:=h
 cases rx
 cases rv
 obtain⟨z,hd,xs,rel,dd⟩:=q1o I.hok hH
 have hT:s.TypeIs (.ref d) "dict":=dd.typeIs
 refine call_meetsIn F.slot_dict_items hT F.entry_dict_items (F.args_dict_items_1 _) (meets_dict_items (z1k X.prog X.w) d hd) ⟨⟨_,dd⟩,?_⟩
 have e:=Heap.get?_push_size s.heap (o:={cls:=.type "dict_items",data:=.fields #[.ref d]}) rfl
 refine⟨.ref s.heap.objs.size,_,I.laid (t':=s.toks) (fun b u q=>Heap.get?_push_of_some _ q) (Nat.le_refl _) (show ObjOk X.prog X.w _ _ _ (z9z s.heap.objs.size d) from⟨⟨_,e,rfl,rfl⟩,⟨_,e⟩,fun h1 h2 ⟨o,e1,r⟩ y=>⟨o,y _ e1,r⟩⟩),rfl,q _ (I.hok.fresh (Nat.le_refl _))⟩
theorem zzt{kvs:List (Str×Int)}:∀{vs:List (Key×Value)},KV (kvs.map fun p=>((Sum.inr p.1:Key),V.int p.2)) vs->∀(j:Nat) (k:Key) (x:Value),vs[j]?=some (k,x)->∃p t,kvs[j]?=some p/\k=Sum.inr p.1/\x=.int p.2 t:=by
 induction kvs with
 | nil=>
  intro vs rel j k x e
  cases rel
  simp at e
 | cons p kvs ih=>
  intro vs rel j k x e
  cases rel with
  | cons rr rt=>
   cases j with
   | zero=>
    obtain⟨h1,t,h2⟩:=rr
    simp only[List.getElem?_cons_zero,Option.some.injEq] at e
    subst e
    exact⟨p,t,rfl,h1.symm,h2⟩
   | succ j=>exact ih rt j k x (by simpa using e)
theorem zh3{α : Type}{H:Hp}{f : α->V}{g : α->Dm}:∀{l:List α},(∀i∈l,Dt H (f i) (g i))->DtA H (l.map f) (l.map g)
 | [],_=>.nil
 | i::l,h=>.cons (h i (.head _)) (zh3 fun j hj=>h j (.tail _ hj))
theorem zl2{α : Type}{f : α->V}{g : α->Value}:∀{l:List α},(∀i∈l,RelV (f i) (g i))->Vals (l.map f) (l.map g)
 | [],_=>.nil
 | i::l,h=>.cons (h i (.head _)) (zl2 fun j hj=>h j (.tail _ hj))
theorem za1(hc:X.calm=true):CallR X (.builtin "sorted") zru:=by
 intro pins s σ H xs us Q I r h
 obtain⟨v,d,kvs,ρ,rfl,hv,hd,h64,hρ,q⟩:=h
 obtain⟨u,rfl,r1⟩:=r.one
 cases r1
 have view:s.heap.IsItemsView v d:=(show ObjOk X.prog X.w H s.heap v (z9z v d) from I.hok v _ hv).1
 obtain⟨zl,hsm,xs,rel,dd⟩:=q1o I.hok hd
 obtain⟨ep,da⟩:=dd.dictAt
 have hxl:xs.length=kvs.length:=by have:=rel.length; rw [List.length_map] at this; exact this.symm
 refine Calls.call_function_entry kind_sorted plain_sorted entry_sorted (args_sorted1 _) ?_
 unfold Builtin.«sorted»
 refine wpAny_bind (m:=checkCount "sorted" 1 1 _) (wpAny_pure (wpAny_bind (zke (A:=X.A.in1) (by simpa using I.ok.hd hc) view da (zjr (by omega)) fun h1 tk as hsz k1 hal g=>?_)))
 have hal':as.length=kvs.length:=by omega
 have hpair:∀j a,as[j]?=some a->∃(p:Str×Int) (t u:Tok),kvs[j]?=some p/\h1.get? a=some {cls:=.type "tuple",data:=.seq #[.str p.1 t,.int p.2 u]}:=fun j a ha=>by
  obtain⟨key,k,x,e1,e2,e3⟩:=g.pairs j a ha
  obtain⟨p,t,e4,rfl,rfl⟩:=zzt rel j k x e1
  rcases z2w (show zou (Sum.inr p.1) key=true from e2) with⟨i,t',e5,rfl⟩ | ⟨y,t',e5,rfl⟩
  ·cases e5
  ·cases e5
   exact⟨p,t',t,e4,e3⟩
 have hnd:(kvs.map (·.1)).Nodup:=by
  have z:=da.nodup
  have e:xs.map (·.1)=kvs.map fun p=>(Sum.inr p.1:Key):=by
   refine List.ext_getElem? fun j=>?_
   rw [List.getElem?_map,List.getElem?_map]
   cases ej:xs[j]? with
   | none=>
    have:kvs[j]?=none:=by rw [List.getElem?_eq_none_iff] at ej |-; omega
    rw [this]; rfl
   | some kx=>
    obtain⟨k,x⟩:=kx
    obtain⟨p,t,e4,e5,_⟩:=zzt rel j k x ej
    rw [e4,e5]; rfl
  rw [e] at z
  exact List.pairwise_map.mpr ((List.pairwise_map.mp z).imp fun h e=>h (by rw [e]))
 have hD:∀i,i < kvs.length->kvs[i]?=some (kvs.getD i (⟨#[]⟩,0)):=fun i hi=>by
  rw [List.getD_eq_getElem?_getD,List.getElem?_eq_getElem hi]; rfl
 have hA:∀i,i < kvs.length->as[i]?=some (as.getD i 0):=fun i hi=>by
  rw [List.getD_eq_getElem?_getD,List.getElem?_eq_getElem (by omega)]; rfl
 have hmem:∀i,i < kvs.length->kvs.getD i (⟨#[]⟩,0)∈kvs:=fun i hi=>List.mem_of_getElem? (hD i hi)
 have hat:∀i,i < kvs.length->∃t u,h1.get? (as.getD i 0)=some {cls:=.type "tuple",data:=.seq #[.str (kvs.getD i (⟨#[]⟩,0)).1 t,.int (kvs.getD i (⟨#[]⟩,0)).2 u]}:=fun i hi=>by
  obtain⟨p,t,u,e1,e2⟩:=hpair i _ (hA i hi)
  rw [hD i hi] at e1
  cases e1
  exact⟨t,u,e2⟩
 have hvl:(as.map Value.ref).length=kvs.length:=by rw [List.length_map,hal']
 have hvd:∀i,i < kvs.length->(as.map Value.ref).getD i .none=.ref (as.getD i 0):=fun i hi=>by
  rw [List.getD_eq_getElem?_getD,List.getElem?_map,hA i hi]; rfl
 have hne:∀i j,i < kvs.length->j < kvs.length->(kvs.getD i (⟨#[]⟩,0)).1=(kvs.getD j (⟨#[]⟩,0)).1->i=j:=fun i j hi hj e=>by
  have hi':i < (kvs.map (·.1)).length:=by rw [List.length_map]; exact hi
  have hj':j < (kvs.map (·.1)).length:=by rw [List.length_map]; exact hj
  refine(List.getElem_inj (h₀:=hi') (h₁:=hj') hnd).mp ?_
  rw [List.getElem_map,List.getElem_map]
  have a1:=hD i hi
  have a2:=hD j hj
  rw [List.getElem?_eq_getElem hi] at a1
  rw [List.getElem?_eq_getElem hj] at a2
  rw [Option.some.inj a1,Option.some.inj a2]
  exact e
 refine wpAny_bind (wpAny_newList ?_ (zjr (by omega)))
 have eL:(h1.push (seqObj "list" (as.map Value.ref).toArray 0)).get? h1.objs.size=some (seqObj "list" (as.map Value.ref).toArray 0):=Heap.get?_push_size _ rfl
 refine wpAny_bind (wpAny_holding (wpAny_call_entry slot_list_sort ⟨_,eL,rfl⟩ entry_list_sort (zaz (r:=fun i=>ρ (kvs.getD i (⟨#[]⟩,0)).1) eL (by omega) (fun i j hi hj e=>hne i j (by omega) (by omega) ((hρ _ (hmem i (by omega)) _ (hmem j (by omega))).2 e)) (fun h2 h' kp=>?_) fun p P1 P2=>⟨_,rfl,?_⟩) (args_list_sort _)))
 ·have keep:∀i,i < kvs.length->∃t u,h'.get? (as.getD i 0)=some {cls:=.type "tuple",data:=.seq #[.str (kvs.getD i (⟨#[]⟩,0)).1 t,.int (kvs.getD i (⟨#[]⟩,0)).2 u]}:=fun i hi=>by
   obtain⟨t,u,e⟩:=hat i hi
   exact⟨t,u,kp _ _ (Nat.ne_of_lt (Heap.lt_size e)) (Heap.get?_push_of_some _ e)⟩
  have tups:∀(l:List Nat),(∀i∈l,i < kvs.length)->∃fs,KatTups h' (l.map fun i=>(as.map Value.ref).getD i .none) fs/\fs.length=l.length/\∀f∈fs,∃x t,f=.str x t:=by
   intro l
   induction l with
   | nil=>intro _; exact⟨[],.nil,rfl,fun f hf=>absurd hf (by simp)⟩
   | cons i l ih=>
    intro hl
    obtain⟨fs,k,lf,ff⟩:=ih fun j hj=>hl j (.tail _ hj)
    obtain⟨t,u,e⟩:=keep i (hl i (.head _))
    refine⟨.str (kvs.getD i (⟨#[]⟩,0)).1 t::fs,?_,by simp[lf],fun f hf=>?_⟩
    ·rw [List.map_cons,hvd i (hl i (.head _))]
     exact .cons e rfl rfl rfl k
    ·rcases List.mem_cons.mp hf with rfl | hf
     ·exact⟨_,_,rfl⟩
     ·exact ff f hf
  obtain⟨fs,kt,fl,ff⟩:=tups (List.range kvs.length) fun i hi=>List.mem_range.mp hi
  have ev:((List.range kvs.length).map fun i=>(as.map Value.ref).getD i .none)=as.map Value.ref:=by
   refine List.ext_getElem (by simp[hal']) fun i h1 h2=>?_
   simp at h2
   simp[h2]
  rw [ev] at kt
  rw [List.length_range] at fl
  refine⟨tuples' true,fun E Q hQ=>kat_kind (T:=.type "str") kt (by omega) (fun v hv=>?_) rfl hQ,fun i j hi hj E Q hQ=>?_⟩
  ·obtain⟨x,t,rfl⟩:=ff v hv
   exact Looks.of_pure rfl
  ·rw [hvl] at hi hj
   rw [hvd i hi,hvd j hj]
   obtain⟨t1,u1,e1⟩:=keep i hi
   obtain⟨t2,u2,e2⟩:=keep j hj
   by_cases eij:i=j
   ·subst eij
    rw [decide_eq_false (Nat.lt_irrefl _)] at hQ
    rw [e1] at e2
    refine kat_lt e1 rfl e1 rfl ?_
    refine kat_cons (wpAny_eqBool_str ?_)
    rw [decide_eq_true rfl]
    refine kat_yes (kat_cons (wpAny_eqBool_int ?_))
    rw [show((kvs.getD i (⟨#[]⟩,0)).2 == (kvs.getD i (⟨#[]⟩,0)).2)=true from beq_self_eq_true _]
    refine kat_yes (kat_nil ?_)
    simpa using hQ
   ·refine q19 e1 rfl e2 rfl rfl rfl (fun z=>eij (hne i j hi hj z)) ?_
    rw [(hρ _ (hmem i hi) _ (hmem j hj)).1]
    exact hQ
 ·refine wpAny_pure ⟨_,rfl,?_⟩
  rw [hvl] at P1 P2
  obtain⟨n,en⟩:=sortedHeap_at (out:=(p.toList.map fun i=>(as.map Value.ref).getD i Value.none).toArray) eL
  have hin:∀i∈p.toList,i < kvs.length:=fun i hi=>List.mem_range.mp (P1.pm.mem_iff.mp hi)
  have oldF:∀b u,h1.get? b=some u->(sortedHeap (h1.push (seqObj "list" (as.map Value.ref).toArray 0)) h1.objs.size (as.map Value.ref) (p.toList.map fun i=>(as.map Value.ref).getD i Value.none).toArray).get? b=some u:=fun b u hu=>by
   have lb:=Heap.lt_size hu
   rw [sortedHeap_old (Nat.ne_of_lt lb) (by rw [size_push']; exact Nat.lt_succ_of_lt lb)]
   exact Heap.get?_push_of_some _ hu
  have hup:∀a∈as,s.heap.objs.size<=a/\a < h1.objs.size:=fun a ha=>⟨Nat.le_of_lt (g.above a ha),g.there ha⟩
  have nL:h1.objs.size∉as:=fun z=>absurd (hup _ z).2 (Nat.lt_irrefl _)
  have low:∀b,b < s.heap.objs.size->upd (zxi as (kvs.map fun p=>[V.str p.1,V.int p.2]) H) h1.objs.size (.lst (p.toList.map fun i=>V.ref (as.getD i 0))) b=H b:=fun b hb=>by
   rw [z0b (Nat.ne_of_lt (Nat.lt_of_lt_of_le hb hsz)),zez fun z=>absurd (hup b z).1 (by omega)]
  have sm:Same H (upd (zxi as (kvs.map fun p=>[V.str p.1,V.int p.2]) H) h1.objs.size (.lst (p.toList.map fun i=>V.ref (as.getD i 0)))):=fun b u e=>by
   rw [low b (I.hok b u e).lt]; exact e
  have atT:∀i,i < kvs.length->upd (zxi as (kvs.map fun p=>[V.str p.1,V.int p.2]) H) h1.objs.size (.lst (p.toList.map fun i=>V.ref (as.getD i 0))) (as.getD i 0)=some (.tup [V.str (kvs.getD i (⟨#[]⟩,0)).1,V.int (kvs.getD i (⟨#[]⟩,0)).2]):=fun i hi=>by
   have ha:=hA i hi
   rw [z0b fun z=>nL (by rw [<- z]; exact List.mem_of_getElem? ha)]
   exact znr g.rise ha (by rw [List.getElem?_map,hD i hi]; rfl)
  refine⟨.ref h1.objs.size,_,I.grow (t':=tk) (fun b u e=>oldF b u (k1 b u e)) sm (fun b hb e=>(low b hb).trans e) (fun b u e1 e2=>?_),rfl,q h1.objs.size _ _ (p.toList.map fun i=>kvs.getD i (⟨#[]⟩,0)) sm (I.hok.fresh hsz) z01 ?_ ?_ ?_⟩
  ·by_cases hb:b=h1.objs.size
   ·subst hb
    rw [z01] at e2
    cases e2
    refine⟨?_,(p.toList.map fun i=>(as.map Value.ref).getD i Value.none),n,zl2 fun i hi=>?_,by simpa [seqObj] using en⟩
    ·rw [List.length_map,Array.length_toList,P1.sz]
     exact zjr (by omega)
    ·rw [hvd i (hin i hi)]; rfl
   ·rw [z0b hb] at e2
    by_cases hba:b∈as
    ·obtain⟨j,x,ej,ex,rfl⟩:=q06 (by rw [List.length_map]; exact hal') g.rise hba e2
     obtain⟨p',t,u,e4,e5⟩:=hpair j b ej
     rw [List.getElem?_map,e4] at ex
     cases ex
     exact⟨zpg,[.str p'.1 t,.int p'.2 u],.cons ⟨t,rfl⟩ (.cons ⟨u,rfl⟩ .nil),⟨_,oldF b _ e5,rfl,0,rfl⟩⟩
    ·rw [zez hba,e1] at e2
     cases e2
  ·rw [List.map_map]
   refine zh3 fun i hi=>?_
   exact .tup (atT i (hin i hi)) (.cons (.str _) (.cons (.int _) .nil))
  ·have z:=P1.pm.map fun i=>kvs.getD i ((⟨#[]⟩:Str),(0:Int))
   refine z.trans (.of_eq ?_)
   refine List.ext_getElem (by simp) fun i h1 h2=>?_
   simp[h2]
  ·rw [List.pairwise_map,List.pairwise_iff_getElem]
   intro i j hi hj hij
   have hj':j < p.size:=by simpa using hj
   have z:=P2 i j hij (by rw [<- P1.sz]; exact hj')
   simpa [rk,Array.getD,hj',Nat.lt_trans hij hj'] using z
end
end L2
set_option Elab.async false
set_option linter.all false
set_option maxRecDepth 100000
namespace L2
open PySem PySem.Spec PyProof.Rows PySem.W
theorem zms:entryFor table "dict.update.loop" = some Builtin.«dict.update.loop»:=entryFor_of_tree (by kernel_rfl)
theorem zdp:plainId "dict.update.loop" = true:=by decide+kernel
theorem q68{n:Nat}(h:n<=200000):n<=sizeLine:=Nat.le_trans h (by decide)
theorem zmc:typeLookup (.type "list") "keys" = pure none:=by rw [typeLookup_type,builtinLookup_eq_fast]; kernel_rfl
section
variable{prog:Program}{w:World}{A:Around}{E:Value->Shared->Prop}{s:Shared}{a:Addr}
theorem q1c{its:Array Value}{n:Nat}{Q:Option Value->Shared->Prop}(hh:A.handled=none) (hx:s.heap.get? a=some {cls:=.type "list",data:=.seq its n}) (q:∀h' tk,(∀b o,s.heap.get? b=some o->h'.get? b=some o)->Q none {s with heap:=h',toks:=tk}) :
  wpAny (model prog w) A (getAttr? (.ref a) "keys") Q E s:=by
 obtain⟨hp,g,d,tk,os⟩:=s
 have hT:Shared.TypeIs ⟨hp,g,d,tk,os⟩ (.ref a) "list":=⟨_,hx,rfl⟩
 have hT1:Shared.TypeIs ⟨hp,g,d,tk+1,os⟩ (.ref a) "list":=⟨_,hx,rfl⟩
 have f1:=sub_AttributeError
 have f3:=F.slot_list_getattribute.lookup
 have f4:=F.slot_list_getattribute.bind (.ref a)
 have f5:=am_list_getattr_none
 unfold getAttr? getAttrBy? getAttrBy
 repeat (any_goals (first | assumption | ((with_reducible show wpAny _ _ (call (Value.builtin "list.__getattribute__") _ _) _ _ _); refine call_meets F.slot_list_getattribute hT1 am_entry_list_getattribute (F.args_list_getattribute_2 _ _) (meets_getattribute_miss_list a its n #[] "keys" _ zmc (by decide+kernel)) ⟨hx,hh,fun h' tk' e hx'=>?_⟩) | wp_step))
 obtain⟨t',u',he⟩:=hx'.there
 show wpAny _ _ (getattributeRaised _ _ _ _ _ _ _) _ _ _
 unfold getattributeRaised
 repeat (any_goals (first | assumption | wp_step))
 exact q _ _ fun b ob e=>hx'.keeps b ob e
theorem zcv{h h':Heap}{D:Addr}{xs:List (List Key×Addr×Value)}(x:h.DictOfH (tupleKind (z1k prog w)) D xs)(kD:∀o,h.get? D=some o->h'.get? D=some o)(kk:∀y∈xs,(tupleKind (z1k prog w)).is h' y.1 y.2.1):h'.DictOfH (tupleKind (z1k prog w)) D xs:=by
 obtain⟨o,es,ep,e1,e2,e3,e4,_,e6⟩:=x
 exact⟨o,es,ep,kD o e1,e2,e3,e4,kk,e6⟩
theorem ze3{h h':Heap}{p:List Key}{a:Addr}(x:(tupleKind (z1k prog w)).is h p a)(k:∀o,h.get? a=some o->h'.get? a=some o):(tupleKind (z1k prog w)).is h' p a:=by
 obtain⟨o,i,n,e,r⟩:=x
 exact⟨o,i,n,k _ e,r⟩
theorem zs1{a b:Addr}{v:Value}{o:Obj}{its:Array Value}{k:Nat}{Q:List Value->Shared->Prop}(e:s.heap.get? a=some o) (c:o.cls=.type "tuple") (d:o.data=.seq its k) (hi:its.toList=[.ref b,v]) (q:Q [.ref b,v] s):wpAny (model prog w) A (Builtin.Dict.pairItems (.ref a)) Q E s:=by
 unfold Builtin.Dict.pairItems
 refine wpAny_bind (wpAny_typeOf (T:="tuple") ⟨_,e,c⟩ ?_)
 rw [if_pos (by decide)]
 refine wpAny_bind (wpAny_seqItems e d (wpAny_pure ?_))
 show Q its.toList s
 rw [hi]
 exact q
theorem zs0{R:Result->Shared->Prop}{I D:Addr}{fp wr:List Addr}{G:Array GenState->Array GenState->Prop}{n:Nat}{P:Nat->Value->Prop}{St:Nat->Shared->Prop}{rw_ ka:Nat->Addr}{va:Nat->Value}{ks:Nat->List Key}(W:WalksS prog w A.in1 I fp wr G n P St)(hDf:D∉fp)
  (hval:∀i v,P i v->v=.ref (rw_ i)) (hinj:∀i j,i < n->j < n->ks i=ks j->i=j) (hn:n<=100000) (hnw:∀i,i < n->rw_ i∉D::wr/\ka i∉D::wr) (hu:A.units+8 < cLine) :
  ∀(m i:Nat) (s:Shared),i+m=n->St i s->s.heap.DictOfH (tupleKind (z1k prog w)) D ((List.range i).map fun j=>(ks j,ka j,va j))->
   (∀j,j < n->(∃o its k,s.heap.get? (rw_ j)=some o/\o.cls=.type "tuple"/\o.data=.seq its k/\its.toList=[.ref (ka j),va j])/\(tupleKind (z1k prog w)).is s.heap (ks j) (ka j))->
   (∀s',Moved (D::wr) G s s'->s'.heap.DictOfH (tupleKind (z1k prog w)) D ((List.range n).map fun j=>(ks j,ka j,va j))->R (.ok (.ret .none)) s')->
   codeAny (model prog w) A (.builtin "dict.update.loop" ⟨[.ref D,.ref I,rawInt i,.none],[]⟩) R s:=by
 have hw:D∉wr:=fun z=>hDf (W.sub _ z)
 have hm:∀b∈wr,b∈D::wr:=fun b z=>.tail _ z
 intro m
 induction m with
 | zero=>
  intro i s e st x hk q
  obtain rfl:i=n:=e
  refine codeAny_builtin zms ?_
  rw [Around.under_plainId zdp]
  refine wpAny_bind (W.done s _ _ st fun s' mv=>?_)
  show wpAny _ _ (Builtin.Dict.addKeywords D [] >>= _) _ _ _
  refine wpAny_bind (wpAny_pure (wpAny_pure (q s' (mv.mono hm) (zcv x (fun o z=>mv.heap D o hw z) fun y hy=>?_))))
  obtain⟨j,hj,rfl⟩:=List.mem_map.mp hy
  have hj:=List.mem_range.mp hj
  exact ze3 (hk j hj).2 fun o z=>mv.heap _ o (fun z=>(hnw j hj).2 (hm _ z)) z
 | succ m ih=>
  intro i s e st x hk q
  refine codeAny_builtin zms ?_
  rw [Around.under_plainId zdp]
  refine wpAny_bind (W.item i s _ _ (by omega) st fun v s1 hP st1 mv=>?_)
  obtain rfl:=hval i v hP
  have hi:i < n:=by omega
  have hk1:∀j,j < n->(∃o its k,s1.heap.get? (rw_ j)=some o/\o.cls=.type "tuple"/\o.data=.seq its k/\its.toList=[.ref (ka j),va j])/\(tupleKind (z1k prog w)).is s1.heap (ks j) (ka j):=fun j hj=>by
   obtain⟨⟨o,its,k,e1,r⟩,x2⟩:=hk j hj
   exact⟨⟨o,its,k,mv.heap _ o (fun z=>(hnw j hj).1 (hm _ z)) e1,r⟩,ze3 x2 fun o z=>mv.heap _ o (fun z=>(hnw j hj).2 (hm _ z)) z⟩
  have x1:s1.heap.DictOfH (tupleKind (z1k prog w)) D ((List.range i).map fun j=>(ks j,ka j,va j)):=zcv x (fun o z=>mv.heap D o hw z) fun y hy=>by
   obtain⟨j,hj,rfl⟩:=List.mem_map.mp hy
   exact(hk1 j (by have:=List.mem_range.mp hj; omega)).2
  obtain⟨⟨o,its,k,e1,e2,e3,e4⟩,x2⟩:=hk1 i hi
  refine wpAny_bind (wpAny_holding (wpAny_bind (wpAny_tryCatch (zs1 e1 e2 e3 e4 (wpAny_holding (wpAny_dictSet_heap (by show A.units+1 < cLine; omega) x2 x1 (fun h' x' sb=>?_) ?_))))))
  ·have hnew:atKey ((List.range i).map fun j=>(ks j,ka j,va j)) (ks i)=none:=atKey_none_of_get fun j p z=>by
    rw [List.getElem?_map] at z
    cases ej:(List.range i)[j]? with
    | none=>rw [ej] at z; cases z
    | some j'=>
     rw [ej] at z
     have hj':=List.mem_range.mp (List.mem_of_getElem? ej)
     have:ks j'=ks i:=by simpa using congrArg Prod.fst (Option.some.inj z)
     have:=hinj j' i (by omega) hi this
     omega
   rw [storedH_new hnew] at x'
   have er:((List.range i).map fun j=>(ks j,ka j,va j))++[(ks i,ka i,va i)]=(List.range (i+1)).map fun j=>(ks j,ka j,va j):=by
    rw [List.range_succ,List.map_append]; rfl
   rw [er] at x'
   have hk2:∀j,j < n->(∃o its k,h'.get? (rw_ j)=some o/\o.cls=.type "tuple"/\o.data=.seq its k/\its.toList=[.ref (ka j),va j])/\(tupleKind (z1k prog w)).is h' (ks j) (ka j):=fun j hj=>by
    obtain⟨⟨o,its,k,e1,r⟩,x2⟩:=hk1 j hj
    exact⟨⟨o,its,k,(sb.2 _ fun z=>(hnw j hj).1 (by rw [z]; exact List.mem_cons_self)).trans e1,r⟩,ze3 x2 fun o z=>(sb.2 _ fun z=>(hnw j hj).2 (by rw [z]; exact List.mem_cons_self)).trans z⟩
   refine wpAny_pure ⟨plainId_quiet zdp _,ih (i+1) _ (by omega) (W.frame _ s1 _ _ st1 (Nat.le_add_right _ _) fun b hb' o z=>?_) x' hk2 fun s2 mv2 x2=>q s2 (Moved.trans W.gtrans ((mv.mono hm).then_heap (Nat.le_add_right _ _) fun b o hb' z=>?_) mv2) x2⟩
   ·rw [sb.2 b fun z:b=D=>hDf (z ▸ hb')]; exact z
   ·rw [sb.2 b fun z:b=D=>hb' (z ▸ List.mem_cons_self)]; exact z
  ·rw [List.length_map,List.length_range]
   exact q68 (by omega)
end
def zzn:List V->Hp->VK->Prop:=fun xs H Q=>∃(a:Addr) (vs:List V) (l:List Rw2),xs=[.ref a]/\H a=some (.lst vs)/\DtA H vs (l.map q2f)/\(l.map (·.1)).Nodup/\l.length<=100000/\
 ∀(p:Addr) (kvs:List (List Key×V)),H p=none->Paired (fun(kv:List Key×V) (r:Rw2)=>kv.1=r.1.map Sum.inl/\Dt H kv.2 r.2) kvs l->Q (.ref p) (upd H p (.dT kvs))
structure Prw where
 r:Addr
 k:Addr
 x:V
 u:Value
instance:Inhabited Prw:=⟨⟨0,0,.non,.none⟩⟩
section
variable{X:Cx}{pins:List (Addr×Obj)}{σ : St}{H:Hp}{s:Shared}
def q23(X:Cx)(H:Hp)(h:Heap)(l:Rw2)(q:Prw):Prop:=H q.r=some (.tup [.ref q.k,q.x])/\H q.k=some (.tup (l.1.map V.int))/\Dt H q.x l.2/\RelV q.x q.u/\(∃o its k,h.get? q.r=some o/\o.cls=.type "tuple"/\o.data=.seq its k/\its.toList=[.ref q.k,q.u])/\(tupleKind (z1k X.prog X.w)).is h (l.1.map Sum.inl) q.k
theorem q6h(I:Inv X pins σ H s):∀{l:List Rw2} {vs:List V} {us:List Value},DtA H vs (l.map q2f)->Vals vs us->∃qs:List Prw,us=qs.map (fun q=>Value.ref q.r)/\Paired (q23 X H s.heap) l qs
 | [],_,_,.nil,.nil=>⟨[],rfl,.nil⟩
 | r::l,_,_,.cons d t,.cons rr rt=>by
  obtain⟨qs,e,pq⟩:=q6h I t rt
  cases d with
  | tup e1 ra=>
   cases rr
   obtain⟨its,rv,⟨o,ho,hc,n,hd⟩,_⟩:=I.tuple (SqT.of e1)
   cases ra with
   | cons d1 ra=>
    cases ra with
    | cons d2 ra=>
     cases ra
     cases rv with
     | cons q1 rv=>
      cases rv with
      | cons q2 rv=>
       cases rv
       cases d1 with
       | tup e2 rb=>
        have eb:=zbv rb
        subst eb
        cases q1
        refine⟨⟨_,_,_,_⟩::qs,by rw [e]; rfl,.cons ⟨e1,e2,d2,q2,⟨o,_,n,ho,hc,hd,rfl⟩,?_⟩ pq⟩
        refine zjf I.hok ?_
        rw [e2,List.map_map]
        rfl
theorem zm3{α β : Type}{R : α->β->Prop}:∀{l:List α} {m:List β},Paired R l m->l.length=m.length/\∀(j:Nat) (a : α) (b : β),l[j]?=some a->m[j]?=some b->R a b
 | [],_,.nil=>⟨rfl,fun j a b h=>by simp at h⟩
 | x::l,_,.cons r t=>by
  obtain⟨h1,h2⟩:=zm3 t
  refine⟨by simp[h1],fun j a b ha hb=>?_⟩
  cases j with
  | zero=>
   have e1:=Option.some.inj ha
   have e2:=Option.some.inj hb
   subst e1 e2
   exact r
  | succ j=>exact h2 j a b (by simpa using ha) (by simpa using hb)
theorem zm1{α β γ δ : Type}{R : α->β->Prop}{S : γ->δ->Prop}{f : α->β->γ}{g : α->β->δ}:∀{l:List α} {m:List β},Paired R l m->(∀a b,R a b->S (f a b) (g a b))->Paired S (List.zipWith f l m) (List.zipWith g l m)
 | [],_,.nil,_=>.nil
 | _::_,_,.cons r t,h=>.cons (h _ _ r) (zm1 t h)
theorem zt0(hc:X.calm=true)(hu:X.A.units+64 < cLine):CallR X (.type "dict") zzn:=by
 intro pins s σ H xs us Q I r h
 obtain⟨a,vs,l,rfl,hH,hd,hnd,hz,q⟩:=h
 obtain⟨u,rfl,r1⟩:=r.one
 cases r1
 obtain⟨z,its,n,rv,hl,e⟩:=I.lstM hH
 obtain⟨qs,eq,pq⟩:=q6h I hd rv
 subst eq
 obtain⟨hlen,hat⟩:=zm3 pq
 refine callType_codes (Q₁:=fun obj s₁=>obj=.ref s.heap.objs.size/\s₁ = {s with heap:=s.heap.push {cls:=.type "dict",data:=.dict #[]}}) F.kt_called_dict (F.kt_typeCall_dict_1 _) F.entry_dict_init (kt_code_dict_new _ ⟨rfl,rfl⟩) ?_
 rintro obj s₁ ⟨rfl,rfl⟩
 have hnew:(s.heap.push {cls:=.type "dict",data:=.dict #[]}).DictOfH (tupleKind (z1k X.prog X.w)) s.heap.objs.size []:=Heap.DictOfH.new s.heap
 refine⟨hnew.typeIs,F.args_dict_init_2 _ _,?_⟩
 unfold Builtin.«dict.__init__»
 refine wpAny_bind ?_
 unfold Builtin.Dict.selfAndRest
 refine wpAny_bind (wpAny_notOrdered_dict hnew.typeIs ?_)
 show wpAny _ _ (pure (s.heap.objs.size,[Value.ref a])) _ _ _
 refine wpAny_pure ?_
 show wpAny _ _ (Builtin.Dict.updateFrom "dict.__init__" s.heap.objs.size (.ref a) [] .none) _ _ _
 unfold Builtin.Dict.updateFrom
 have e1:(s.heap.push {cls:=.type "dict",data:=.dict #[]}).get? a=some {cls:=.type "list",data:=.seq (qs.map fun q=>Value.ref q.r).toArray n}:=Heap.get?_push_of_some _ e
 refine wpAny_bind (wpAny_typeOf (T:="list") ⟨_,e1,rfl⟩ ?_)
 rw [if_pos (by decide)]
 refine wpAny_bind (q1c (by simpa using I.ok.hd hc) e1 fun h2 tk2 k2=>?_)
 refine wpAny_ite_split (fun _=>?_) (fun c=>absurd rfl c)
 have e2:=k2 a _ e1
 have eD:=k2 _ _ (Heap.get?_push_size s.heap (o:={cls:=.type "dict",data:=.dict #[]}) rfl)
 have lD:s.heap.objs.size < h2.objs.size:=Heap.lt_size eD
 have la:a < s.heap.objs.size:=Heap.lt_size e
 have hl2:h2.IsList a (qs.map fun q=>Value.ref q.r).toArray:=⟨_,e2,rfl,n,rfl⟩
 refine wpAny_bind (wpAny_rule (wpAny_bind (wpAny_pyIter_list (s:={s with heap:=h2,toks:=tk2}) hl2 (wpAny_pure ⟨plainId_quiet zdp _,?_⟩))))
 have W:=(Walks.list (prog:=X.prog) (w:=X.w) (A:=X.A.in1.in1) (by simpa using I.ok.hd hc) h2.objs.size a (Nat.ne_of_lt (Nat.lt_trans la lD)) (qs.map fun q=>Value.ref q.r).toArray).toS
 have hsz:(qs.map fun q=>Value.ref q.r).toArray.size=qs.length:=by simp
 rw [hsz] at W
 have hgq:∀j,j < qs.length->qs[j]?=some (qs.getD j default):=fun j hj=>by
  rw [List.getD_eq_getElem?_getD,List.getElem?_eq_getElem hj]; rfl
 have hgl:∀j,j < qs.length->l[j]?=some (l.getD j ([],.non)):=fun j hj=>by
  rw [List.getD_eq_getElem?_getD,List.getElem?_eq_getElem (by omega)]; rfl
 have ok:∀j,j < qs.length->q23 X H s.heap (l.getD j ([],.non)) (qs.getD j default):=fun j hj=>hat j _ _ (hgl j hj) (hgq j hj)
 have kp:∀b o,s.heap.get? b=some o->(h2.push {cls:=.type "list_iterator",data:=.fields #[.ref a,.int 0 0]}).get? b=some o:=fun b o q=>Heap.get?_push_of_some _ (k2 b o (Heap.get?_push_of_some _ q))
 refine zs0 (A:=X.A.in1) (D:=s.heap.objs.size) (rw_:=fun j=>(qs.getD j default).r) (ka:=fun j=>(qs.getD j default).k) (va:=fun j=>(qs.getD j default).u) (ks:=fun j=>(l.getD j ([],.non)).1.map Sum.inl) W ?_ (fun i v hv=>?_) (fun i j hi hj z=>?_) (by omega) (fun j hj=>?_) (by show X.A.units+1+8 < cLine; omega) qs.length 0 _ (Nat.zero_add _) ⟨⟨_,Heap.get?_push_size _ rfl,rfl,rfl⟩,hl2.push _⟩ ?_ (fun j hj=>?_) fun s' mv x=>?_
 ·simp only[List.mem_cons,List.not_mem_nil,or_false,not_or]
  exact⟨Nat.ne_of_lt lD,Nat.ne_of_gt la⟩
 ·have hi:i < qs.length:=by
   refine Classical.byContradiction fun z=>?_
   rw [Array.getElem?_eq_none (by rw [hsz]; omega)] at hv
   cases hv
  have z:(qs.map fun q=>Value.ref q.r)[i]?=some v:=by simpa using hv
  rw [List.getElem?_map,hgq i hi] at z
  exact(Option.some.inj z).symm
 ·have e':(l.getD i ([],Dm.non)).1=(l.getD j ([],Dm.non)).1:=by
   have inj:∀(x y:List Int),x.map (Sum.inl:Int->Key)=y.map Sum.inl->x=y:=by
    intro x
    induction x with
    | nil=>intro y h; cases y with | nil=>rfl | cons _ _=>cases h
    | cons a x ih=>
     intro y h
     cases y with
     | nil=>cases h
     | cons b y=>
      rw [List.map_cons,List.map_cons] at h
      injection h with h1 h2
      injection h1 with h1
      rw [h1,ih y h2]
   exact inj _ _ z
  have hi':i < (l.map (·.1)).length:=by rw [List.length_map]; omega
  have hj':j < (l.map (·.1)).length:=by rw [List.length_map]; omega
  refine(List.getElem_inj (h₀:=hi') (h₁:=hj') hnd).mp ?_
  rw [List.getElem_map,List.getElem_map]
  have a1:=hgl i hi
  have a2:=hgl j hj
  rw [List.getElem?_eq_getElem (by omega)] at a1
  rw [List.getElem?_eq_getElem (by omega)] at a2
  rw [Option.some.inj a1,Option.some.inj a2]
  exact e'
 ·obtain⟨_,_,_,_,⟨o,its,k,g1,_⟩,o2,its2,k2',g2,_⟩:=ok j hj
  have b1:=Heap.lt_size g1
  have b2:=Heap.lt_size g2
  simp only[List.mem_cons,List.not_mem_nil,or_false,not_or]
  exact⟨⟨Nat.ne_of_lt b1,Nat.ne_of_lt (Nat.lt_trans b1 lD)⟩,Nat.ne_of_lt b2,Nat.ne_of_lt (Nat.lt_trans b2 lD)⟩
 ·exact zcv hnew (fun o z=>Heap.get?_push_of_some _ (k2 _ o z)) fun y hy=>absurd hy (by simp)
 ·obtain⟨_,_,_,_,⟨o,its,k,g1,r1⟩,x2⟩:=ok j hj
  exact⟨⟨o,its,k,kp _ _ g1,r1⟩,ze3 x2 fun o z=>kp _ o z⟩
 ·obtain⟨h',g',d',tk',os'⟩:=s'
  have z1:g'=s.gens:=mv.gens
  have z2:d'=s.drawn:=mv.drawn
  have z3:os'=s.os:=mv.os
  subst z1 z2 z3
  refine⟨rfl,?_⟩
  have kf:∀b o,s.heap.get? b=some o->h'.get? b=some o:=fun b o q=>by
   have lb:=Heap.lt_size q
   refine mv.heap b o ?_ (kp b o q)
   simp only[List.mem_cons,List.not_mem_nil,or_false,not_or]
   exact⟨Nat.ne_of_lt lb,Nat.ne_of_lt (Nat.lt_trans lb lD)⟩
  obtain⟨oD,es,ep,f1,f2,f3,f4,f5,f6⟩:=x
  have ez:((List.range qs.length).map fun j=>((l.getD j ([],Dm.non)).1.map (Sum.inl:Int->Key),(qs.getD j default).k,(qs.getD j default).u))=List.zipWith (fun(r:Rw2) (q:Prw)=>(r.1.map Sum.inl,q.k,q.u)) l qs:=by
   refine List.ext_getElem (by simp; omega) fun j h1 h2=>?_
   have hj:j < qs.length:=by simpa using h1
   have a1:=hgl j hj
   have a2:=hgq j hj
   rw [List.getElem?_eq_getElem (by omega)] at a1
   rw [List.getElem?_eq_getElem hj] at a2
   rw [List.getElem_map,List.getElem_range,List.getElem_zipWith,Option.some.inj a1,Option.some.inj a2]
  rw [ez] at f4 f6
  refine⟨.ref s.heap.objs.size,_,I.laid (t':=tk') kf (Nat.le_refl _) (show ObjOk X.prog X.w _ _ _ (.dT (List.zipWith (fun(r:Rw2) (q:Prw)=>(r.1.map Sum.inl,q.x)) l qs)) from⟨?_,?_,_,?_,oD,es,ep,f1,f2,f3,f4,f6⟩),rfl,q _ _ (I.hok.fresh (Nat.le_refl _)) ?_⟩
  ·rw [List.length_zipWith]
   exact q68 (by omega)
  ·have:=I.big
   exact beq_eq_false_iff_ne.mpr (Nat.ne_of_gt this)
  ·refine zm1 pq fun r q ok=>⟨rfl,?_,ok.2.2.2.1⟩
   rw [z0b (Nat.ne_of_lt (I.hok _ _ ok.2.1).lt),ok.2.1,List.map_map]
   rfl
  ·have key:∀{l:List Rw2} {qs:List Prw},Paired (q23 X H s.heap) l qs->Paired (fun(kv:List Key×V) (r:Rw2)=>kv.1=r.1.map Sum.inl/\Dt H kv.2 r.2) (List.zipWith (fun(r:Rw2) (q:Prw)=>(r.1.map Sum.inl,q.x)) l qs) l:=by
    intro l qs pq
    induction pq with
    | nil=>exact .nil
    | cons r t ih=>exact .cons ⟨rfl,r.2.2.1⟩ ih
   exact key pq
end
def zl7(td:TE):TE:=fun σ H Q=>td σ H fun x H1=>zjc x [] H1 Q
theorem zpy{X:Cx}{o:Expr}{apos cpos:Pos}{td:TE}(ho:PE X o td) (hbase:attributeBase o "items" X.env (eval o X.env)=eval o X.env:=by rfl)
  (hfew:((backTo cpos (starEach [] X.env)).all (fun x=>!x.1) && (backToKw cpos (keywordEach [] X.env)).all (fun x=>x.1.isSome)
   && decide (([]:List Expr).length+([]:List Keyword).length+(if([]:List Keyword).isEmpty then 0 else 1) < 30))=true:=by rfl)
  (hline:(apos.endLine == cpos.line)=true:=by rfl):PE X (.Call (.Attribute o "items" apos) [] [] cpos) (zl7 td):=by
 refine⟨?_⟩
 intro pins s σ H Q I h
 refine wpAny_Call_method hbase hfew hline PySem.F.plainAttrs_dict PySem.F.slot_dict_items PySem.F.type_dict_items (thn (ho pins s σ H _ I h) fun u s1 ⟨x,H1,I1,rx,q1⟩=>?_)
 obtain⟨d,kvs,rfl,_,hH,q⟩:=q1
 obtain rfl:u=Value.ref d:=rx
 obtain⟨t1,t2,_⟩:=zvl I1 (.inl ⟨kvs,.inl hH⟩)
 refine⟨t1,t2,?_⟩
 refine Calls.callWith_builtin rfl (PyProof.Rows.evalArgs_nil3 ?_)
 exact zyh pins s1 σ H1 (.ref d) [] (.ref d) [] Q I1 rfl .nil ⟨d,kvs,rfl,rfl,hH,q⟩
def zxj(i j k:Nat)(ta:TA):TS:=fun D σ H=>ta σ H fun vs H1=>∃u v w,vs=[u,v,w]/\D.nx (((σ.set i (some u)).set j (some v)).set k (some w)) H1
end L2
set_option Elab.async false
set_option linter.all false
set_option maxRecDepth 100000
namespace L2
open PySem PySem.Spec PyProof.Rows
def zch(c:Addr)(q:Str):HO:=.ext fun h=>h.CodeRec (.ref c) q
structure LamD where
 qual:Str
 params:Arguments
 body:Expr
 scope:Scope
def zqf(D:LamD)(cl:List (Str×Addr))(f c':Addr):HO:=.ext fun h=>∃pm ctv,h.get? f=some (PySem.W.kla_obj "<lambda>" D.qual D.params D.body D.scope cl pm c' ctv)
def q5b(P:Addr)(pos:Pos)(D:LamD)(cl:List (Str×Addr)):TE:=fun σ H Q=>∃ps,H P=some (.tbl ps)/\TriplesOk ps.toList/\
  ((codeAmong pos ps.toList=none/\∀c' f,H c'=none->H f=none->c'≠f->Q (.ref f) (upd (upd (upd H P (.tbl (ps ++ #[rawInt pos.line,rawInt pos.col,.ref c']))) c' (zch c' D.qual)) f (zqf D cl f c')))\/
   (∃c',codeAmong pos ps.toList=some (.ref c')/\H c'=some (zch c' D.qual)/\∀f,H f=none->Q (.ref f) (upd H f (zqf D cl f c'))))
section
variable{X:Cx}
theorem zzq{params:Arguments}{body:Expr}{scope:Scope}{pos:Pos}{c P:Addr}{cl:List (Str×Addr)}(hdef:defaultsOf params X.env=([],[]))(hcl:closureFor scope X.env=pure cl)(hcode:X.env.code=.ref c)(C:PySem.W.CodeHd X.base c P)(hB:X.base.BuiltinsAt X.mg P)(hgP:mainGlobals≠P) :
  PE X (.Lambda params body scope pos) (q5b P pos ⟨X.env.qual ++ "<lambda>",params,body,scope⟩ cl):=by
 refine⟨?_⟩
 intro pins s σ H Q I h
 obtain⟨ps,hP,ht,h⟩:=h
 have C':PySem.W.CodeHd s.heap c P:=C.keeps I.bk
 have hb:s.heap.BuiltinsAt X.mg P:=by
  obtain⟨bm,ob,a1,a2,a3,a4,a5,a6⟩:=hB
  exact⟨bm,ob,a1,a2,a3,a4,I.bk _ _ a5,a6⟩
 have hg:s.heap.Ns mainGlobals X.mg:=I.mod.glob.keeps I.bk
 have hPo:s.heap.get? P=some (PySem.W.tabObj ps):=I.hok P _ hP
 refine PySem.W.kla_eval hdef ?_
 rcases h with⟨hnf,h⟩ | ⟨c',hf,hc',h⟩
 ·refine PySem.W.kla_makeFunction hcl I.ok.glob hg hcode C' hPo ht hnf hgP hb fun c' ctv h' tk hx hge hlt hrec htb=>?_
  have hcn:H c'=none:=I.hok.fresh hge
  have hsz:s.heap.objs.size<=h'.objs.size:=Nat.le_of_lt (Nat.lt_of_le_of_lt hge hlt)
  have hfn:H h'.objs.size=none:=I.hok.fresh hsz
  have hne:c'≠h'.objs.size:=Nat.ne_of_lt hlt
  have hPc:P≠c':=z0e hP hcn
  have hPf:P≠h'.objs.size:=z0e hP hfn
  have q:=h c' h'.objs.size hcn hfn hne
  generalize hH:upd (upd (upd H P (.tbl (ps ++ #[rawInt pos.line,rawInt pos.col,.ref c']))) c' (zch c' (X.env.qual ++ "<lambda>"))) h'.objs.size (zqf ⟨X.env.qual ++ "<lambda>",params,body,scope⟩ cl h'.objs.size c')=H' at q
  have far:∀b,b≠P->b≠c'->b≠h'.objs.size->H' b=H b:=fun b h1 h2 h3=>by
   rw [<- hH,z0b h3,z0b h2,z0b h1]
  have atP:H' P=some (.tbl (ps ++ #[rawInt pos.line,rawInt pos.col,.ref c'])):=by rw [<- hH,z0b hPf,z0b hPc,z01]
  have old:∀b u,H b=some u->b≠P->H' b=some u:=fun b u e n=>(far b n (z0e e hcn) (z0e e hfn)).trans e
  have kp:∀b o,b≠P->s.heap.get? b=some o->(h'.push (PySem.W.kla_obj "<lambda>" (X.env.qual ++ "<lambda>") params body scope cl ((X.mg "__name__").getD .none) c' ctv)).get? b=some o:=fun b o n e=>Heap.get?_push_of_some _ (hx b o n e)
  have nP:∀b,H b=none->b≠P:=fun b e z=>by rw [z,hP] at e; cases e
  refine⟨.ref h'.objs.size,H',I.un (t':=tk) ⟨fun b o e n _ _=>kp b o (nP b n) e,fun b o e n _ _=>⟨o.slots,kp b o (nP b n) e⟩,fun b o e n _=>?_,fun b o e _=>?_,fun b xs e=>old b _ e fun z=>(by rw [z,hP] at e; cases e),fun b o u e=>old b _ e fun z=>(by rw [z,hP] at e; cases e),fun b qs e=>?_⟩ fun b u e=>?_,rfl,q⟩
  ·have hlt':=Heap.lt_size e
   rw [far b (nP b n) (Nat.ne_of_lt (Nat.lt_of_lt_of_le hlt' hge)) (Nat.ne_of_lt (Nat.lt_of_lt_of_le hlt' hsz))]
   exact n
  ·by_cases hb':b=P
   ·exact⟨_,by rw [hb']; exact Heap.get?_push_of_some _ htb⟩
   ·exact⟨o,kp b o hb' e⟩
  ·by_cases hb':b=P
   ·rw [hb',hP] at e
    cases e
    exact⟨_,by rw [hb']; exact atP⟩
   ·exact⟨#[],by rw [old b _ e hb']; simp⟩
  ·by_cases h3:b=h'.objs.size
   ·have e':=e
    rw [<- hH,h3,z01] at e'
    cases e'
    rw [h3]
    exact⟨⟨_,_,Heap.get?_push_size _ rfl⟩,⟨_,Heap.get?_push_size _ rfl⟩,fun h1 h2 ⟨pm,ct,z⟩ k=>⟨pm,ct,k _ z⟩⟩
   ·by_cases h2:b=c'
    ·have e':=e
     rw [<- hH,h2,z0b hne,z01] at e'
     cases e'
     rw [h2]
     obtain⟨c₂,oc,vs,t,e2,hoc,hd,hv⟩:=hrec
     cases e2
     exact⟨⟨_,oc,vs,t,rfl,Heap.get?_push_of_some _ hoc,hd,hv⟩,⟨oc,Heap.get?_push_of_some _ hoc⟩,fun h1 h2 ⟨c3,oc,vs,t,e3,z,zd,zv⟩ k=>by cases e3; exact⟨_,oc,vs,t,rfl,k _ z,zd,zv⟩⟩
    ·by_cases h1:b=P
     ·rw [h1,atP] at e
      cases e
      rw [h1]
      exact Heap.get?_push_of_some _ htb
     ·rw [far b h1 h2 h3] at e
      refine(I.hok b u e).stay (fun d v hd e'=>kp d v ?_ e') (fun d e'=>old d _ e' fun z=>(by rw [z,hP] at e'; cases e')) fun d xs e'=>old d _ e' fun z=>(by rw [z,hP] at e'; cases e')
      rcases hd with hd | hd
      ·rw [hd]; exact h1
      ·exact fun z=>by rw [z,hP] at hd; cases hd
 ·refine PySem.W.kla_makeFunctionHit hcl I.ok.glob hg hcode C' hPo ht hf hb fun ctv h' tk hk hsz=>?_
  have hfn:H h'.objs.size=none:=I.hok.fresh hsz
  refine⟨.ref h'.objs.size,upd H h'.objs.size _,I.laid (t':=tk) (fun b u e=>Heap.get?_push_of_some _ (hk b u e)) hsz ?_,rfl,h _ hfn⟩
  exact⟨⟨_,_,Heap.get?_push_size _ rfl⟩,⟨_,Heap.get?_push_size _ rfl⟩,fun h1 h2 ⟨pm,ct,z⟩ k=>⟨pm,ct,k _ z⟩⟩
end
def z4g(c:Addr)(o:Obj):HO:=.ext fun h=>h.get? c=some o
def zh0(cs:List Addr)(H:Hp):Hp:=fun b=>if b∈cs then none else H b
def zgs(cs:List Addr)(H H':Hp):Hp:=fun b=>if b∈cs then H b else H' b
theorem z9k{cs:List Addr}{H:Hp}{b:Addr}(h:b∈cs):zh0 cs H b=none:=by unfold zh0; rw [if_pos h]
theorem z1t{cs:List Addr}{H:Hp}{b:Addr}(h:b∉cs):zh0 cs H b=H b:=by unfold zh0; rw [if_neg h]
theorem zft{cs:List Addr}{H H':Hp}{b:Addr}(h:b∈cs):zgs cs H H' b=H b:=by unfold zgs; rw [if_pos h]
theorem z50{cs:List Addr}{H H':Hp}{b:Addr}(h:b∉cs):zgs cs H H' b=H' b:=by unfold zgs; rw [if_neg h]
theorem z5k{cs:List Addr}{H:Hp}{b:Addr}(h:H b=none):zh0 cs H b=none:=by
 by_cases hb:b∈cs
 ·exact z9k hb
 ·rw [z1t hb]; exact h
theorem zvp{cs:List Addr}{H:Hp}{b:Addr}{u:HO}(h:zh0 cs H b=some u):b∉cs/\H b=some u:=by
 by_cases hb:b∈cs
 ·rw [z9k hb] at h; cases h
 ·exact⟨hb,by rw [z1t hb] at h; exact h⟩
def AreCells(cs:List Addr)(H:Hp):Prop:=∀c∈cs,∃o,H c=some (z4g c o)
theorem AreCells.not{cs:List Addr}{H:Hp}(h:AreCells cs H){b:Addr}{u:HO}(e:H b=some u)(n:∀o,u≠z4g b o):b∉cs:=fun hb=>by
 obtain⟨o,q⟩:=h b hb
 rw [e] at q
 cases q
 exact n o rfl
theorem HOk.hid{P:Program}{w:World}{H:Hp}{h:Heap}{cs:List Addr}(x:HOk P w H h)(k:AreCells cs H):HOk P w (zh0 cs H) h:=fun a o e=>by
 obtain⟨_,e'⟩:=zvp e
 refine(x a o e').stay (fun _ _ _ q=>q) (fun b q=>?_) fun b xs q=>?_
 ·rw [z1t (k.not q fun o=>by unfold z4g; intro z; cases z)]; exact q
 ·rw [z1t (k.not q fun o=>by unfold z4g; intro z; cases z)]; exact q
theorem HOk.ret{P:Program}{w:World}{H H':Hp}{h h':Heap}{cs:List Addr}(x:HOk P w H h)(x':HOk P w H' h')(k:AreCells cs H)(hn:∀c∈cs,H' c=none)(kp:∀c∈cs,∀o,h.get? c=some o->h'.get? c=some o):HOk P w (zgs cs H H') h':=fun a o e=>by
 have out:∀{b:Addr} {u:HO},H' b=some u->zgs cs H H' b=some u:=fun {b u} e=>by rw [z50 fun hb=>by rw [hn b hb] at e; cases e]; exact e
 by_cases ha:a∈cs
 ·rw [zft ha] at e
  obtain⟨ob,q⟩:=k a ha
  rw [q] at e
  cases e
  obtain⟨z,_,st⟩:=x a _ q
  exact⟨kp a ha _ z,⟨_,kp a ha _ z⟩,st⟩
 ·rw [z50 ha] at e
  exact(x' a o e).stay (fun _ _ _ q=>q) (fun b q=>out q) fun b xs q=>out q
theorem Un.ret{fs:List Addr}{H H':Hp}{h h':Heap}{cs:List Addr}(u:Un fs [] (zh0 cs H) H' h h')(k:AreCells cs H):Un fs [] H (zgs cs H H') h h':=by
 have nc:∀{b:Addr},H b=none->b∉cs:=fun {b} n hb=>by
  obtain⟨o,q⟩:=k b hb
  rw [n] at q; cases q
 refine⟨fun b o e n hb hx=>u.keep b o e (z5k n) hb hx,fun b o e n hb hx=>u.slot b o e (z5k n) hb hx,fun b o e n hx=>?_,u.there,fun b xs e=>?_,fun b o v e=>?_,fun b ps e=>?_⟩
 ·rw [z50 (nc n)]
  exact u.free b o e (z5k n) hx
 ·have nb:=k.not e fun o=>by unfold z4g; intro z; cases z
  rw [z50 nb]
  exact u.tups b xs (by rw [z1t nb]; exact e)
 ·have nb:=k.not e fun o=>by unfold z4g; intro z; cases z
  rw [z50 nb]
  exact u.frzs b o v (by rw [z1t nb]; exact e)
 ·have nb:=k.not e fun o=>by unfold z4g; intro z; cases z
  rw [z50 nb]
  exact u.tbls b ps (by rw [z1t nb]; exact e)
structure LamScope(ps fr:List Str)(cl:List (Str×Addr))(sc:Scope):Prop where
 kind:sc.kind=.function
 co:sc.isCoroutine=false
 gen:sc.isGenerator=false
 nd:(ps++fr).Nodup
 par:∀x∈ps,sc.names.lookup x=some .local
 free:∀x∈fr,sc.names.lookup x=some .free
 nocell:∀y∈sc.names,y.2≠.cell
 has:∀y∈sc.names,y.2=.free->∃c,cl.lookup y.1=some c
 inj:∀x y c,cl.lookup x=some c->cl.lookup y=some c->x=y
 look:∀x c,(x,c)∈cl->cl.lookup x=some c
def cxL(P:Program)(w:World)(K:PySem.W.Frag)(mg:Str->Option Value)(base:Heap)(N:List Str)(D:LamD)(cl:List (Str×Addr))(f c':Addr)(A:Around)(outer:List PySem.Env)(s:Shared)(H:Hp)(E:XK):Cx where
 prog:=P
 w:=w
 K:=K
 mg:=mg
 base:=base
 A:=A.deeper (PySem.W.envX D.qual D.scope s.heap.objs.size f (.ref c') cl)
 N:=N
 s₀:=s
 H₀:=zh0 (cl.map (·.2)) H
 env:=PySem.W.envX D.qual D.scope s.heap.objs.size f (.ref c') cl
 outer:=outer
 stack:=PySem.W.envX D.qual D.scope s.heap.objs.size f (.ref c') cl::outer
 ex:=[]
 calm:=true
 fn:=fun _=>false
 pn:=[]
 xe:=fun e s'=>wpAny (model P w) (A.deeper (PySem.W.envX D.qual D.scope s.heap.objs.size f (.ref c') cl)) (leaving (PySem.W.envX D.qual D.scope s.heap.objs.size f (.ref c') cl) e) (fun _ s''=>CX0 outer H s E e s'') (fun e' s''=>CX0 outer H s E e' s'') s'
theorem zjd{x:Str}{v:Value}:∀{ps:List Str} {us:List Value} {i:Nat},ps.Nodup->ps[i]?=some x->us[i]?=some v->(ps.zip us).lookup x=some v
 | [],_,_,_,h,_=>by simp at h
 | _::_,[],_,_,_,h=>by simp at h
 | p::ps,u::us,0,nd,h1,h2=>by
  simp at h1 h2; subst h1; subst h2
  simp[List.zip_cons_cons,List.lookup]
 | p::ps,u::us,i+1,nd,h1,h2=>by
  have hn:=List.nodup_cons.mp nd
  have h1':ps[i]?=some x:=by simpa using h1
  have hne:(x == p)=false:=by
   rw [beq_eq_false_iff_ne]
   rintro rfl
   exact hn.1 (List.mem_of_getElem? h1')
  rw [List.zip_cons_cons,List.lookup,hne]
  exact zjd hn.2 h1' (by simpa using h2)
theorem zse{x:Str}{v:Value}{ps:List Str}{us:List Value}{i:Nat}(nd:ps.Nodup)(hl:ps.length=us.length)(h1:ps[i]?=some x)(h2:us[i]?=some v):(ps.zip us).reverse.lookup x=some v:=by
 have e:(ps.zip us).reverse=ps.reverse.zip us.reverse:=by
  apply List.ext_getElem?
  intro j
  simp[List.zip,List.reverse_zipWith hl]
 have hi:i < ps.length:=(List.getElem?_eq_some_iff.mp h1).1
 rw [e]
 refine zjd (i:=ps.length - 1 - i) (by unfold List.Nodup; rw [List.pairwise_reverse]; exact nd.imp Ne.symm) ?_ ?_
 ·rw [List.getElem?_reverse (by omega)]
  rw [show ps.length - 1 - (ps.length - 1 - i)=i by omega]
  exact h1
 ·rw [List.getElem?_reverse (by omega)]
  rw [show us.length - 1 - (ps.length - 1 - i)=i by omega]
  exact h2
theorem q1h{P:Program}{w:World}{K:PySem.W.Frag}{mg:Str->Option Value}{base:Heap}{ps fr:List Str}{D:LamD}{cl:List (Str×Addr)}{f c':Addr}{A:Around}{outer:List PySem.Env}{s:Shared}{h1:Heap}{tk:Nat}{H:Hp}{E:XK}{us:List Value}{vs ws:List V}
  (S:LamScope ps fr cl D.scope) (hd:A.handled=none) (e0:Env0 P w K mg base A outer s H) (hl:vs.length=ps.length) (r:Vals vs us) (hlw:ws.length=fr.length)
  (cells:∀c∈cl.map (·.2),∃o x,H c=some (z4g c o)/\o.data=.cell x)
  (hw:∀(i:Nat) (x:Str) (v:V),fr[i]?=some x->ws[i]?=some v->∃c o u,cl.lookup x=some c/\H c=some (z4g c o)/\o.data=.cell (some u)/\RelV v u)
  (hns:h1.Ns s.heap.objs.size fun x=>(ps.zip us).reverse.lookup x) (hk:∀b o,s.heap.get? b=some o->h1.get? b=some o) :
  Inv (cxL P w K mg base (ps++fr) D cl f c' A outer s H E) [] ((vs++ws).map some) (zh0 (cl.map (·.2)) H) {s with heap:=h1,toks:=tk}:=by
 have ac:AreCells (cl.map (·.2)) H:=fun c hc=>by
  obtain⟨o,_,q,_⟩:=cells c hc
  exact⟨o,q⟩
 have inC:∀{x:Str} {c:Addr},cl.lookup x=some c->c∈cl.map (·.2):=fun {x c} h=>List.mem_map.mpr ⟨(x,c),PySem.mem_of_lookup h,rfl⟩
 have noA:∀b:Addr,b∉(cxL P w K mg base (ps++fr) D cl f c' A outer s H E).ex:=fun b z=>absurd (show b∈([]:List Addr) from z) (by simp)
 have isC:∀{c:Addr} {o:Obj},H c=some (z4g c o)->s.heap.get? c=some o:=fun q=>(e0.hok _ _ q).1
 refine⟨⟨e0.mod,S.kind,rfl,rfl,Nat.le_refl _,fun y z c h1 h2=>S.inj y z c h1 h2,fun y hy=>?_,fun y c h=>Bool.noConfusion (show false=true from h),fun _=>hd,Around.frames_deeper e0.frames,.inr ⟨rfl,rfl⟩,fun b z=>absurd z (noA b),fun b o e=>⟨(e0.bs b o e).1,z5k (e0.bs b o e).2⟩,e0.bsz,fun b _ _=>noA b,fun b z=>absurd z (noA b),e0.funs,fun b hb=>z5k (e0.frf b hb)⟩,
  rfl,e0.bare,Un.kept hk,⟨_,hns,fun i y v h1 h2 h3=>?_⟩,fun y c h=>?_,z5k (e0.hok.fresh (Nat.le_refl _)),fun y c h=>z9k (inC h),fun p hp=>absurd (show p∈([]:List (Addr×Obj)) from hp) (by simp),(e0.hok.hid ac).kept hk,?_⟩
 ·have hy:D.scope.names.lookup y=some .cell\/D.scope.names.lookup y=some .free:=hy
  rcases hy with hy | hy
  ·exact absurd rfl (S.nocell _ (PySem.mem_of_lookup hy))
  ·exact S.has _ (PySem.mem_of_lookup hy) rfl
 ·have h1':(ps++fr)[i]?=some y:=h1
  rw [List.getElem?_map] at h2
  by_cases hi:i < ps.length
  ·rw [List.getElem?_append_left hi] at h1'
   rw [List.getElem?_append_left (by omega)] at h2
   cases ev:vs[i]? with
   | none=>rw [ev] at h2; cases h2
   | some a=>
    rw [ev] at h2
    cases h2
    obtain⟨u,hu,rv⟩:=r.get ev
    exact⟨u,rv,.inl ⟨S.par y (List.mem_of_getElem? h1'),zse (List.nodup_append.mp S.nd).1 (by rw [<- hl,r.length]) h1' hu⟩⟩
  ·rw [List.getElem?_append_right (by omega)] at h1'
   rw [List.getElem?_append_right (by omega),hl] at h2
   cases ev:ws[i - ps.length]? with
   | none=>rw [ev] at h2; cases h2
   | some a=>
    rw [ev] at h2
    cases h2
    obtain⟨c,o,u,hc,q,hd',rv⟩:=hw _ _ _ h1' ev
    exact⟨u,rv,.inr ⟨.inr (S.free y (List.mem_of_getElem? h1')),c,hc,o,hk _ _ (isC q),hd'⟩⟩
 ·obtain⟨o,x,q,hd'⟩:=cells c (inC h)
  exact⟨x,o,hk _ _ (isC q),hd'⟩
 ·show _=(ps++fr).length
  rw [List.length_map,List.length_append,List.length_append,hl,hlw]
theorem zva{P:Program}{w:World}{K:PySem.W.Frag}{mg:Str->Option Value}{base:Heap}{k:Nat}{ps fr:List Str}{D:LamD}{cl:List (Str×Addr)}{f c':Addr}{A:Around}{outer:List PySem.Env}{s:Shared}{H:Hp}{us:List Value}{vs ws:List V}{Q:VK}
  (S:LamScope ps fr cl D.scope) (hr:Room (k+1) A) (e0:Env0 P w K mg base A outer s H) (hf:H f=some (zqf D cl f c')) (hc:H c'=some (zch c' D.qual)) (hl:vs.length=ps.length) (r:Vals vs us) (hlw:ws.length=fr.length)
  (cells:∀c∈cl.map (·.2),∃o x,H c=some (z4g c o)/\o.data=.cell x)
  (hw:∀(i:Nat) (x:Str) (v:V),fr[i]?=some x->ws[i]?=some v->∃c o u,cl.lookup x=some c/\H c=some (z4g c o)/\o.data=.cell (some u)/\RelV v u)
  (hbind:∀fd:FuncData,fd.params=D.params->fd.defaults=.none->fd.kwdefaults=.none->fd.scope=D.scope->bindArgs fd ⟨us,[]⟩=pure (ps.zip us))
  (hbody:Room k (A.deeper (PySem.W.envX D.qual D.scope s.heap.objs.size f (.ref c') cl))->∃t,PE (cxL P w K mg base (ps++fr) D cl f c' A outer s H E0) D.body t/\t ((vs++ws).map some) (zh0 (cl.map (·.2)) H) fun v H'=>(∀c∈cl.map (·.2),H' c=none)->Q v (zgs (cl.map (·.2)) H H')) :
  codeAny (model P w) A (.call (.ref f) ⟨us,[]⟩) (CR CX0 outer P w H s Q E0) s:=by
 obtain⟨⟨pm,ctv,hfo⟩,_⟩:=e0.hok f _ hf
 obtain⟨hcr,_⟩:=e0.hok c' _ hc
 have ac:AreCells (cl.map (·.2)) H:=fun c hc=>by
  obtain⟨o,_,q,_⟩:=cells c hc
  exact⟨o,q⟩
 have lim:s.heap.NoLimit:=e0.mod.nolimit.keeps fun b o e=>(e0.bs b o e).1
 refine PySem.W.kla_callFunE hr.depth hfo rfl S.co S.gen rfl hcr ?_
 rw [hbind _ rfl rfl rfl rfl]
 refine wpAny_pure (wpAny_newFunctionEnv S.nocell (fun y hy=>S.par _ (List.of_mem_zip hy).1) (fun h₁ hns hsb=>⟨lim.fresh _ hsb,?_⟩) S.kind)
 show codeAny _ _ (.expr D.body (PySem.W.envX D.qual D.scope s.heap.objs.size f (.ref c') cl)) _ _
 have hk₁:∀b o,s.heap.get? b=some o->h₁.get? b=some o:=fun b o e=>hsb.extBut b o (Nat.ne_of_lt (Heap.lt_size e)) (Heap.get?_push_of_some _ e)
 obtain⟨t,ht,q⟩:=hbody (hr.deeper _)
 have I:=q1h (K:=K) (f:=f) (c':=c') (E:=E0) (tk:=s.toks+(ps.zip us).length) S hr.hd e0 hl r hlw cells hw hns hk₁
 refine PySem.W.kla_codeExpr (wpAny_mono (ht [] _ _ _ _ I q) (fun u s' hs=>?_) fun e s' hs=>hs)
 obtain⟨v,H',J,rv,qv⟩:=hs
 have nC:∀c∈cl.map (·.2),H' c=none:=fun c hc=>by
  obtain⟨⟨x,c2⟩,hm,rfl⟩:=List.mem_map.mp hc
  exact J.freeC x c2 (S.look x c2 hm)
 replace qv:=qv nC
 refine⟨v,zgs (cl.map (·.2)) H H',J.os,J.bare,Un.ret (cs:=cl.map fun x=>x.2) (H:=H) J.base ac,HOk.ret e0.hok J.hok ac nC fun c hc o e=>?_,rv,qv⟩
 refine J.base.keep c o e (z9k hc) (fun z=>?_) (by show c∉([]:List Addr); simp)
 obtain⟨o',q'⟩:=ac c hc
 have:=e0.frf c z
 rw [q'] at this
 cases this
def zt9(P:Program)(w:World)(K:PySem.W.Frag)(mg:Str->Option Value)(base:Heap)(k:Nat)(f:Addr)(H:Hp)(vs:List V)(Q:VK):Prop:=
 ∀(A:Around) (outer:List PySem.Env) (s:Shared) (us:List Value),Room k A->Env0 P w K mg base A outer s H->Vals vs us->codeAny (model P w) A (.call (.ref f) ⟨us,[]⟩) (CR CX0 outer P w H s Q E0) s
def IsLam(H:Hp)(f:Addr):Prop:=∃D cl c',H f=some (zqf D cl f c')
theorem IsLam.at{X:Cx}{pins:List (Addr×Obj)}{σ : St}{H:Hp}{s:Shared}{f:Addr}(h:IsLam H f)(I:Inv X pins σ H s):PySem.W.FnAt f s.heap:=by
 obtain⟨D,cl,c',e⟩:=h
 obtain⟨⟨pm,ctv,q⟩,_⟩:=I.hok f _ e
 exact⟨_,_,_,_,q⟩
def zlb(R:Addr->Hp->List V->VK->Prop)(i:Nat)(t:TA):TE:=fun σ H Q=>∃f,σ[i]?=some (some (.ref f))/\IsLam H f/\t σ H fun vs H1=>IsLam H1 f/\R f H1 vs Q
theorem zgz{X:Cx}{x:Str}{i k j:Nat}{e:Expr}{es:List Expr}{t:TA}{p pos:Pos}(hN:X.N[i]?=some x)(hv:Vis X.env.scope x)(hr:Room j X.A)(hk:k<=j)(ha:PA X (e::es) t)
  (hd:(x == ("__debug__" : Str))=false:=by decide) (hcd:(x == ("__classdict__" : Str))=false:=by decide) (hst:z3l (e::es)=true:=by rfl) :
  PE X (.Call (.Name x p) (e::es) [] pos) (zlb (zt9 X.prog X.w X.K X.mg X.base k) i t):=by
 have hst':=hst
 rw [z3l,Bool.and_eq_true,Bool.not_eq_true'] at hst'
 have he:=z1f (es:=es) (env:=X.env) hst'.1
 have hpl:=z3e (pos:=pos) (env:=X.env) hst'.2
 refine⟨?_⟩
 intro pins s σ H Q I h
 obtain⟨f,ei,hl,h⟩:=h
 refine wpAny_Call_Name_kw (thn (z00 (pos:=p) hN hv hd hcd pins s σ H (fun x' H'=>x'=.ref f/\IsLam H' f/\t σ H' fun vs H1=>IsLam H1 f/\zt9 X.prog X.w X.K X.mg X.base k f H1 vs Q) I (isV.i ei ⟨rfl,hl,h⟩)) fun u s0 ⟨x',H',I',r',ex,hl',h'⟩=>?_)
 subst ex
 cases r'
 refine PySem.W.callWith_F (first:=[]) (hl'.at I') (thn (ha pos pins s0 σ H' _ I' h') fun us s1 ⟨vs,H1,I1,r,hl1,q⟩=>⟨hl1.at I1,?_⟩) he hpl
 refine wpAny_call (codeAny_mono (q X.A X.stack s1 us (hr.mono hk) I1.env0 r) fun r s' hq=>?_)
 cases r with
 | error e=>exact False.elim hq
 | ok fl=>
  cases fl with
  | ret u=>exact I1.after hq
  | next=>exact False.elim hq
  | brk=>exact False.elim hq
  | cont=>exact False.elim hq
def zha(sp:Sp)(c:Addr)(i:Nat)(t:TA):TE:=fun σ H Q=>t σ H fun vs H1=>∃v,σ[i]?=some (some v)/\∀o u,o.data=.cell (some u)->RelV v u->H1 c=none->sp vs (upd H1 c (z4g c o)) (fun y H2=>H2 c=some (z4g c o)/\Q y (zh0 [c] H2)) E0
theorem zuo{X:Cx}{x y:Str}{c:Addr}{ps:List Str}{i k j:Nat}{sp:Sp}{e:Expr}{es:List Expr}{t:TA}{p pos:Pos}(C:Callee X.prog X.w X.K X.mg X.base x ps k sp)(hr:Room j X.A)(hk:k<=j)(ha:PA X (e::es) t)
  (hN:X.N[i]?=some y) (hc:X.env.cells.lookup y=some c) (hy:X.env.kindOf y=some .cell) (hfn:X.fn y=true) (hg:Gl X x:=by rfl)
  (hdb:(x == ("__debug__" : Str))=false:=by decide) (hst:z3l (e::es)=true:=by rfl) :
  PE X (.Call (.Name x p) (e::es) [] pos) (zha sp c i t):=by
 have hst':=hst
 rw [z3l,Bool.and_eq_true,Bool.not_eq_true'] at hst'
 have he:=z1f (es:=es) (env:=X.env) hst'.1
 have hpl:=z3e (pos:=pos) (env:=X.env) hst'.2
 obtain⟨f,fd,F,hm,hkp,hb⟩:=C
 refine⟨?_⟩
 intro pins s σ H Q I h
 refine wpAny_Call_Name_kw (zhq I hg hm ?_ hdb)
 refine PySem.W.callWith_K (h₀:=X.base) I.ok.mod.kin hkp (thn (ha pos pins s σ H _ I h) fun us s1 ⟨vs,H1,I1,r,v,ei,q⟩=>⟨I1.kIn,?_⟩) he hpl
 obtain⟨m,hn,hl⟩:=id I1.loc
 obtain⟨u,ru,l⟩:=hl i y v hN ei (.inr (.inl hy))
 have hcell:s1.heap.IsCell c (some u):=by
  rcases l with⟨hk',_⟩ | ⟨_,c2,e2,z⟩
  ·rw [hy] at hk'; cases hk'
  ·rw [hc] at e2; cases e2; exact z
 obtain⟨o,ho,hd⟩:=hcell
 have hcn:H1 c=none:=I1.freeC y c hc
 have q':=q o u hd ru hcn
 have hH:HOk X.prog X.w (upd H1 c (z4g c o)) s1.heap:=fun b w e=>by
  by_cases hb:b=c
  ·subst hb
   rw [z01] at e
   cases e
   exact⟨ho,⟨o,ho⟩,fun h1 h2 z k=>k _ z⟩
  ·rw [z0b hb] at e
   exact(I1.hok b w e).stay (fun _ _ _ q=>q) (fun d z=>by rw [z0b (z0e z hcn)]; exact z) fun d xs z=>by rw [z0b (z0e z hcn)]; exact z
 have cfs:c∉frs X.stack:=fun z=>by
  rcases List.mem_cons.mp (I1.stkSub c z) with z | z
  ·exact I1.cne y c hc z
  ·obtain⟨_,ob,hob,_⟩:=I1.ok.funs.mem z
   exact absurd (Nat.lt_of_lt_of_le (Heap.lt_size hob) (I1.ok.cab y c hfn hc)) (Nat.lt_irrefl _)
 have e0:Env0 X.prog X.w X.K X.mg X.base X.A X.stack s1 (upd H1 c (z4g c o)):=by
  have z:=I1.env0
  refine⟨z.frames,z.mod,fun b ob e=>⟨(z.bs b ob e).1,?_⟩,z.bsz,z.funs,fun b hb=>?_,hH,z.bare⟩
  ·rw [z0b fun w=>?_]
   ·exact(z.bs b ob e).2
   ·subst w
    have:=Heap.lt_size (I1.ok.bs b ob e).1
    exact absurd (Nat.lt_of_lt_of_le this (I1.ok.cab y b hfn hc)) (Nat.lt_irrefl _)
  ·rw [z0b fun w=>cfs (by rw [<- w]; exact hb)]
   exact z.frf b hb
 have hln:us.length=ps.length:=by rw [<- r.length]; exact F.len _ _ _ _ q'
 have hbd:=hb s1 us I1.kIn (by rw [List.append_nil]; exact hln)
 rw [List.append_nil] at hbd
 refine wpAny_call (codeAny_mono (F.run X.A X.stack s1 _ ⟨us,[]⟩ us vs _ E0 (hr.mono hk) e0 hbd r q') fun r s' hq=>?_)
 cases r with
 | error e=>exact False.elim hq
 | ok fl=>
  cases fl with
  | next=>exact False.elim hq
  | brk=>exact False.elim hq
  | cont=>exact False.elim hq
  | ret u2=>
   obtain⟨v2,H2,os,bare,un,hok,rv,hc2,q2⟩:=hq
   have ac:AreCells [c] H2:=fun b hb=>by
    rw [List.mem_singleton] at hb
    subst hb
    exact⟨o,hc2⟩
   obtain⟨hh,g,d,tk,os'⟩:=s'
   obtain rfl:os'=s1.os:=os
   have hco:hh.get? c=some o:=(hok c _ hc2).1
   refine⟨v2,zh0 [c] H2,I1.call (h':=hh) (g':=g) (d':=d) (t':=tk) (ch:=[]) ⟨fun b ob e n hb hx=>?_,fun b ob e n hb hx=>?_,fun b ob e n hx=>?_,fun b ob e hx=>un.there b ob e hx,fun b xs e=>?_,fun b ob w e=>?_,fun b qs e=>?_⟩ (hok.hid ac) bare (fun b z=>absurd z (by simp)),rv,q2⟩
   ·by_cases hbc:b=c
    ·subst hbc; rw [ho] at e; cases e; exact hco
    ·exact un.keep b ob e (by rw [z0b hbc]; exact n) hb hx
   ·by_cases hbc:b=c
    ·subst hbc; exact absurd hb cfs
    ·exact un.slot b ob e (by rw [z0b hbc]; exact n) hb hx
   ·by_cases hbc:b=c
    ·subst hbc; exact z9k (List.mem_singleton.mpr rfl)
    ·exact z5k (un.free b ob e (by rw [z0b hbc]; exact n) hx)
   ·have nb:b≠c:=z0e e hcn
    rw [z1t (by simpa using nb)]
    exact un.tups b xs (by rw [z0b nb]; exact e)
   ·have nb:b≠c:=z0e e hcn
    rw [z1t (by simpa using nb)]
    exact un.frzs b ob w (by rw [z0b nb]; exact e)
   ·have nb:b≠c:=z0e e hcn
    rw [z1t (by simpa using nb)]
    exact un.tbls b qs (by rw [z0b nb]; exact e)
end L2
set_option Elab.async false
set_option linter.all false
set_option maxRecDepth 100000
namespace L2
open PySem PySem.Spec PyProof.Rows
def q58(mg:Str->Option Value)(base:Heap)(tabs:List (Addr×Addr)):Prop:=∀q∈tabs,PySem.W.CodeHd base q.1 q.2/\base.BuiltinsAt mg q.2/\mainGlobals≠q.2
theorem zv9{P:Program}{w:World}{K:PySem.W.Frag}{mg mb:Str->Option Value}{k:Nat}{fa a:Addr}{fd:FuncData}{x:Str}{sp:Sp}{s₁:Shared}{vs:List Value}{ns:List Int}{tabs:List (Addr×Addr)}
  (KX:K.In s₁.heap) (hns:s₁.heap.Ns mainGlobals mg) (hb:s₁.heap.Ns builtinsNs mb) (hbb:∀x:Str,x≠"__name__"->mb x=bootBuiltins x) (hlim:s₁.heap.NoLimit) (hg:s₁.gens = #[])
  (ha:s₁.heap.get? a=some {cls:=.type "list",data:=.seq vs.toArray}) (hi:IntsAre vs ns) (hl:ns.length<=sizeLine) (hr:Room k callerA)
  (hT:PySem.W.TabsAt tabs s₁.heap) (hB:∀q∈tabs,s₁.heap.BuiltinsAt mg q.2) (hK:PySem.W.noTabs K=true)
  (F:∀base:Heap,K.In base->base.Ns mainGlobals mg->q58 mg base tabs->FnOk P w K mg base CX0 k fa fd [x] sp) (hbind:∀(s:Shared) (u:Value),BindsTo s fd ⟨[u],[]⟩ [(x,u)])
  (hsp:∀H:Hp,(∀q∈tabs,H q.2=some (.tbl #[]))->SqL K H a (ns.map V.int)->sp [.ref a] H (fun v _=>v=.bl true) fun _ _ _=>False) :
  codeAny (model P w) callerA (.call (.ref fa) ⟨[.ref a],[]⟩) (fun r s'=>r=.ok (.ret (.bool true))/\OldK s₁.heap s'.heap/\s'.os=s₁.os/\AllBare s'.gens) s₁:=by
 have rv:=zh7 hi
 have lenV:=hi.length
 have tabK:∀q∈tabs,K.lookup q.2=none:=fun q hq=>by
  cases e:K.lookup q.2 with
  | none=>rfl
  | some o=>
   have h1:=KX _ _ e
   rw [(hT q hq).2] at h1
   cases h1
   have h2:=List.all_eq_true.mp hK (q.2,_) (PySem.W.mem_of_lookupK e)
   exact absurd (show false=true from h2) Bool.false_ne_true
 have aT:a∉tabs.map (·.2):=fun z=>by
  obtain⟨q,hq,e⟩:=List.mem_map.mp z
  have h1:=(hT q hq).2
  rw [e,ha] at h1
  cases h1
 have core:∀H:Hp,(∀b,H b=none\/(∃o xs,b=a/\H b=some (.frz o (.lst xs)))\/(b∈tabs.map (·.2)/\H b=some (.tbl #[])))->(∀q∈tabs,H q.2=some (.tbl #[]))->SqL K H a (ns.map V.int)->HOk P w H s₁.heap->(H a≠none->K.lookup a=none)->
   codeAny (model P w) callerA (.call (.ref fa) ⟨[.ref a],[]⟩) (fun r s'=>r=.ok (.ret (.bool true))/\OldK s₁.heap s'.heap/\s'.os=s₁.os/\AllBare s'.gens) s₁:=by
  intro H hO hTb hS hok hKa
  have base_of:∀{b:Addr} {o:Obj},s₁.heap.get? b=some o->H b=none->(zow s₁.heap H).get? b=some o:=fun e n=>zqi e n
  have tabO:∀{b:Addr},b∈tabs.map (·.2)->s₁.heap.get? b=some (PySem.W.tabObj #[]):=fun {b} hb=>by
   obtain⟨q,hq,rfl⟩:=List.mem_map.mp hb
   exact(hT q hq).2
  have noA:∀{b:Addr} {o:Obj},s₁.heap.get? b=some o->b≠a->b∉tabs.map (·.2)->H b=none:=fun {b o} e n1 n2=>by
   rcases hO b with z | ⟨_,_,z,_⟩ | ⟨z,_⟩
   ·exact z
   ·exact absurd z n1
   ·exact absurd z n2
  have nsK:∀{b:Addr} {m:Str->Option Value},s₁.heap.Ns b m->(zow s₁.heap H).Ns b m:=fun {b m} ⟨o,es,ep,e,d,r⟩=>by
   refine⟨o,es,ep,base_of e (noA e (fun z=>?_) fun z=>?_),d,r⟩
   ·rw [z,ha] at e; cases e; cases d
   ·rw [tabO z] at e; cases e; cases d
  have hKb:K.In (zow s₁.heap H):=fun b o e=>base_of (KX b o e) (by
   rcases hO b with z | ⟨_,_,z,z2⟩ | ⟨z,_⟩
   ·exact z
   ·have:=hKa (by rw [<- z,z2]; simp)
    rw [z,this] at e
    cases e
   ·obtain⟨q,hq,rfl⟩:=List.mem_map.mp z
    rw [tabK q hq] at e
    cases e)
  have hM:Mod K mg (zow s₁.heap H):=⟨hKb,nsK hns,⟨mb,nsK hb,hbb⟩,let ⟨mc,h1,h2⟩:=hlim; ⟨mc,nsK h1,h2⟩⟩
  have hTB:q58 mg (zow s₁.heap H) tabs:=fun q hq=>by
   obtain⟨o,vs',file,tf,flags,tg,inF,text,tt,e1,r1,r2,r⟩:=(hT q hq).1
   obtain⟨bm,ob,b1,b2,b3,b4,b5,b6,b7,b8⟩:=hB q hq
   refine⟨⟨o,vs',file,tf,flags,tg,inF,text,tt,base_of e1 (noA e1 (fun z=>?_) fun z=>?_),r1,r2,r⟩,⟨bm,ob,b1,b2,b3,b4,base_of b5 (noA b5 (fun z=>?_) fun z=>?_),b6,b7,b8⟩,fun z=>?_⟩
   ·rw [z,ha] at e1; cases e1; exact absurd (show Value.type "list" = Value.type "code" from r1) (by simp)
   ·rw [tabO z] at e1; cases e1; cases r1
   ·rw [z,ha] at b5; cases b5; exact absurd (show Value.type "list" = Value.type "module" from b6) (by simp)
   ·rw [tabO z] at b5; cases b5; cases b6
   ·obtain⟨o',es,ep,e',d,_⟩:=hns
    rw [z,(hT q hq).2] at e'
    cases e'
    cases d
  have e0:Env0 P w K mg (zow s₁.heap H) callerA [] s₁ H:=⟨rfl,hM,fun b o e=>zv1 e,Nat.le_of_eq (zml _ _),trivial,fun b hb=>absurd (show b∈([]:List Addr) from hb) (by simp),hok,.of_eq hg⟩
  refine codeAny_mono ((F _ hKb (nsK hns) hTB).run callerA [] s₁ H ⟨[.ref a],[]⟩ [.ref a] [.ref a] _ _ hr e0 (hbind s₁ (.ref a)) (.cons rfl .nil) (hsp H hTb hS)) fun r s' h=>?_
  cases r with
  | error e=>exact False.elim h
  | ok fl=>
   cases fl with
   | next=>exact False.elim h
   | brk=>exact False.elim h
   | cont=>exact False.elim h
   | ret u=>
    obtain⟨v,H',os,bare,un,hok',r',q⟩:=h
    have q':v=.bl true:=q
    subst q'
    obtain rfl:u=Value.bool true:=r'
    refine⟨rfl,⟨fun b o e=>?_,fun b o e=>un.there b o e (by simp)⟩,os,bare⟩
    rcases hO b with z | ⟨ob,xs,_,z⟩ | ⟨hb,z⟩
    ·exact .inl (un.keep b o e z (by intro z; exact absurd (show b∈([]:List Addr) from z) (by simp)) (by simp))
    ·have z2:=un.frzs b ob _ z
     obtain⟨e1,_⟩:=hok b _ z
     obtain⟨e2,_⟩:=hok' b _ z2
     rw [e] at e1; cases e1
     exact .inl e2
    ·obtain⟨more,z2⟩:=un.tbls b _ z
     have e2:s'.heap.get? b=some {cls:=.none,data:=.fields (#[]++more)}:=hok' b _ z2
     rw [tabO hb] at e
     cases e
     obtain⟨q,hq,rfl⟩:=List.mem_map.mp hb
     exact .inr (.inl ⟨((hT q hq).1.tab (hT q hq).2).isCodeTable,rfl,#[],more,rfl,e2⟩)
 have tin:∀q∈tabs,q.2∈tabs.map (·.2):=fun q hq=>List.mem_map.mpr ⟨q,hq,rfl⟩
 cases hk:K.lookup a with
 | some o=>
  have e:=KX a o hk
  rw [ha] at e
  cases e
  refine core (fun b=>if b∈tabs.map (·.2) then some (.tbl #[]) else none) (fun b=>?_) (fun q hq=>if_pos (tin q hq)) (.inr ⟨_,vs.toArray,_,hk,rfl,rfl,rfl,by rw [List.size_toArray,lenV]; exact hl,by simpa using rv⟩) (fun b u z=>?_) fun z=>absurd (if_neg aT) z
  ·by_cases hb:b∈tabs.map (·.2)
   ·exact .inr (.inr ⟨hb,if_pos hb⟩)
   ·exact .inl (if_neg hb)
  ·by_cases hb:b∈tabs.map (·.2)
   ·have z':=(if_pos hb).symm.trans z
    cases z'
    obtain⟨q,hq,rfl⟩:=List.mem_map.mp hb
    exact(hT q hq).2
   ·have z':=(if_neg hb).symm.trans z
    cases z'
 | none=>
  refine core (fun b=>if b∈tabs.map (·.2) then some (.tbl #[]) else if b=a then some (.frz {cls:=.type "list",data:=.seq vs.toArray} (.lst (ns.map V.int))) else none) (fun b=>?_) (fun q hq=>if_pos (tin q hq)) (.inl (.inr ⟨{cls:=.type "list",data:=.seq vs.toArray},(if_neg aT).trans (if_pos rfl)⟩)) (fun b u z=>?_) fun _=>hk
  ·by_cases hb:b∈tabs.map (·.2)
   ·exact .inr (.inr ⟨hb,if_pos hb⟩)
   ·by_cases hba:b=a
    ·exact .inr (.inl ⟨_,_,hba,(if_neg hb).trans (if_pos hba)⟩)
    ·exact .inl ((if_neg hb).trans (if_neg hba))
  ·by_cases hb:b∈tabs.map (·.2)
   ·have z':=(if_pos hb).symm.trans z
    cases z'
    obtain⟨q,hq,rfl⟩:=List.mem_map.mp hb
    exact(hT q hq).2
   ·have z1:=(if_neg hb).symm.trans z
    by_cases hba:b=a
    ·have z':=(if_pos hba).symm.trans z1
     cases z'
     subst hba
     exact⟨ha,by rw [List.length_map]; exact hl,vs,_,rv,ha⟩
    ·have z':=(if_neg hba).symm.trans z1
     cases z'
theorem zxe{l:PySem.W.OpenLaw}{n k:Nat}{q:Program}{loose:List Str}{XP:(Str->Option Value)->Heap->Prop}{YP:World->Heap->Prop}{d:DefRec}{K:Params->PySem.W.Frag}{sp:World->Sp}{x:Str}{tabs:List (Str×Addr×Addr)}
  (hn:l.most=some n) (hn2:n<=sizeLine) (hdf:d.params.defaults=[]) (hr:Room k callerA)
  (hY:∀(w:World) (h:Heap),YP w h->(K w.params).In h)
  (hK:∀w:World,PySem.W.noTabs (K w.params)=true) (hrec:∀t∈tabs,∃e,(recsOf q).find? (fun e=>e.name == t.1)=some e) (htab:∀(w:World),∀t∈tabs,PySem.W.tabIn (K w.params) t.1=some (t.2.1,t.2.2))
  (F:∀(w:World) (mg:Str->Option Value) (fa:Addr) (h:Heap),(K w.params).In h->h.Ns mainGlobals mg->mg d.name=some (.ref fa)->
   ∃fd:FuncData,(∀(s:Shared) (u:Value),BindsTo s fd ⟨[u],[]⟩ [(x,u)])/\
    ∀base:Heap,(K w.params).In base->base.Ns mainGlobals mg->q58 mg base (tabs.map (·.2))->FnOk l.prog w (K w.params) mg base CX0 k fa fd [x] (sp w))
  (hsp:∀(w:World) (H:Hp) (a:Addr) (ns:List Int),ns.length<=n->(∀q∈tabs.map (·.2),H q.2=some (.tbl #[]))->SqL (K w.params) H a (ns.map V.int)->sp w [.ref a] H (fun v _=>v=.bl true) fun _ _ _=>False) :
  PySem.W.WalkO q loose XP YP l.row.toRowW d [] (fun f vs=>PySem.call f vs):=by
 refine Att.zif hn hdf fun w s₀ s₁ mg mb fa o pm cd doc a vs ns G Y ho hd hcd hmg hobj hints hlen hg=>?_
 have KX:=hY w _ Y
 obtain⟨fd,hb,hF⟩:=F w mg fa _ KX G.T.g hmg
 have hT:PySem.W.TabsAt (tabs.map (·.2)) s₁.heap:=fun t ht=>by
  obtain⟨t',ht',rfl⟩:=List.mem_map.mp ht
  obtain⟨e,he⟩:=hrec t' ht'
  exact PySem.W.tab_of G.T KX he (htab w t' ht')
 refine zv9 KX G.T.g G.T.b G.T.builtins G.T.nolimit hg hobj hints (Nat.le_trans hlen hn2) hr hT (fun t ht=>?_) (hK w) hF hb fun H hO hS=>hsp w H a ns hlen hO hS
 obtain⟨bm,ob,b1,b2,b3,b4,b5,b6⟩:=G.T.bmain
 refine⟨bm,ob,b1,b2,fun z=>?_,fun z=>?_,b3,b4,b5,b6⟩
 ·obtain⟨o',es,ep,e',hd',_⟩:=G.T.g
  rw [z,e'] at b3
  cases b3
  rw [hd'] at b6
  cases b6
 ·rw [z,(hT t ht).2] at b3
  cases b3
  cases b4
theorem zyz{K:PySem.W.Frag}{a b:Addr}{xs ys:List V}{g:TG}{tb:TS}{D:Ends}{σ : St}{H:Hp}(hxy:xs.length=ys.length)(Pv:Nat->St->Hp->Prop)(h0:Pv 0 σ H)(hl:∀i σ H,i<=xs.length->Pv i σ H->SqT K H a xs/\SqT K H b ys)
  (hs:∀i x y σ H T,xs[i]?=some x->ys[i]?=some y->Pv i σ H->H T=none->g (.ref T) σ (upd H T (.tup [x,y])) fun σ2 H2=>tb {D with nx:=Pv (i+1),ct:=Pv (i+1),bk:=D.nx} σ2 H2) (hd:∀ σ H,Pv xs.length σ H->D.nx σ H) :
  ∃W:Nat->Nat->St->Hp->Prop,(∃m,W 0 m σ H)/\∀i m σ H,W i m σ H->
   ((q27 K a b).stop i H/\D.nx σ H)\/((q27 K a b).go i H/\∃N:St->Hp->Prop,(∀ σ' H',N σ' H'->∃m',m' < m/\W (i+1) m' σ' H')/\∀x H',(q27 K a b).yld i H x H'->g x σ H' fun σ2 H2=>tb {D with nx:=N,ct:=N,bk:=D.nx} σ2 H2):=by
 refine⟨fun i m σ H=>m=xs.length - i/\i<=xs.length/\Pv i σ H,⟨xs.length,by simp,Nat.zero_le _,h0⟩,?_⟩
 rintro i m σ H ⟨rfl,hi,p⟩
 have q:=hl i σ H hi p
 by_cases hlt:i < xs.length
 ·refine .inr ⟨⟨xs,ys,xs[i],ys[i]'(by omega),q.1,q.2,by simp[hlt],by simp⟩,Pv (i+1),fun σ' H' p'=>⟨xs.length - (i+1),by omega,rfl,hlt,p'⟩,fun x H' y=>?_⟩
  obtain⟨T,u,v,rfl,hT,rfl,y1,y2⟩:=y
  exact hs i u v σ H T (y1 xs q.1) (y2 ys q.2) p hT
 ·have e:i=xs.length:=by omega
  subst e
  exact .inl ⟨⟨xs,ys,q.1,q.2,.inl (Nat.le_refl _)⟩,hd σ H p⟩
end L2
set_option Elab.async false
set_option linter.all false
set_option maxRecDepth 100000
namespace L2
open PySem PySem.Spec PyProof.Rows PySem.W
section
variable{prog:Program}{w:World}{A:Around}{E:Value->Shared->Prop}{s:Shared}{a:Addr}
end
section
variable{X:Cx}{pins:List (Addr×Obj)}{σ : St}{H:Hp}{s:Shared}
structure Pkw where
 r:Addr
 k:Value
 u:Value
instance:Inhabited Pkw:=⟨⟨0,.none,.none⟩⟩
end
end L2
set_option Elab.async false
set_option linter.all false
set_option maxRecDepth 100000
namespace L2
open PySem PySem.Spec PyProof.Rows PySem.W
def FlyAt(h:Heap)(l:List PySem.Env)(x T:Addr)(C:Value):Prop:=(∃B:Heap,h.FunFrames B l)/\x∉frs l/\T∉frs l/\T≠x/\∃(oe:Obj) (vs:Array Value) (oT:Obj) (ts:Array Value) (a0:Value),h.get? x=some oe/\oe.cls=C/\vs[0]?=some a0/\oe.data=.fields vs/\vs[1]?=some (.ref T)/\h.get? T=some oT/\oT.data=.fields ts/\ts[3]?=some .none
theorem FlyAt.of{B h:Heap}{l:List PySem.Env}{x:Addr}{C a0:Value}(f:Heap.FlyingW B l x C a0 h):∃T,B.get? T=none/\FlyAt h l x T C:=by
 obtain⟨f1,f2,f3,oe,vs,T,oT,ts,he,⟨hc,h0⟩,hd,h1,hn,ne,hT,hdT,h3⟩:=f
 refine⟨T,hn,⟨B,f3⟩,fun z=>?_,fun z=>?_,ne,oe,vs,oT,ts,a0,he,hc,h0,hd,h1,hT,hdT,h3⟩
 ·obtain⟨_,o,ho,hnf⟩:=f3.mem z
  rw [he] at ho; cases ho
  exact hnf vs hd
 ·obtain⟨_,o,ho,hnf⟩:=f3.mem z
  rw [hT] at ho; cases ho
  exact hnf ts hdT
section
variable{P:Program}{w:World}{h h':Heap}{l:List PySem.Env}{x T:Addr}{H:Hp}
end
def CX1(P:Program)(w:World):CXT:=fun outer H s E e s'=>∃(x T C:Addr) (H':Hp),e=.ref x/\s'.os=s.os/\AllBare s'.gens/\Un (frs outer) [] H H' s.heap s'.heap/\HOk P w H' s'.heap/\FlyAt s'.heap outer x T (.ref C)/\s.heap.get? x=none/\s.heap.get? T=none/\H' x=none/\H' T=none/\E (.ref C) none H'
section
variable{P:Program}{w:World}{K:PySem.W.Frag}{mg:Str->Option Value}{base:Heap}{N:List Str}{qual:Str}{scope:Scope}{f:Addr}{cd:Value}{A:Around}{outer:List PySem.Env}{s₀:Shared}{H₀:Hp}{E:XK}
end
end L2
set_option Elab.async false
set_option linter.all false
set_option maxRecDepth 100000
namespace L2
open PySem PySem.Spec PyProof.Rows PySem.W
structure CalleeX(P:Program)(w:World)(K:PySem.W.Frag)(mg:Str->Option Value)(base:Heap)(x:Str)(ps:List Str)(k:Nat)(sp:Sp):Prop where
 ex:∃f fd,FnOk P w K mg base (CX1 P w) k f fd ps sp/\mg x=some (.ref f)/\PySem.W.keepIn K (.ref f)=true/\Binds K fd ps []
section
variable{P:Program}{w:World}{K:PySem.W.Frag}{mg:Str->Option Value}{base:Heap}
theorem Callee.x{x:Str}{ps:List Str}{k:Nat}{sp:Sp}(C:Callee P w K mg base x ps k sp):CalleeX P w K mg base x ps k sp:=by
 obtain⟨f,fd,F,a,b,c⟩:=C
 refine⟨f,fd,⟨F.len,fun A outer s H args us vs Q E hr e0 hb hv hs=>codeAny_mono (F.run A outer s H args us vs Q E hr e0 hb hv hs) fun r s' hq=>?_⟩,a,b,c⟩
 cases r with
 | error e=>exact False.elim hq
 | ok fl=>cases fl<;>exact hq
end
section
variable{X:Cx}{pins:List (Addr×Obj)}{σ : St}{H:Hp}{s:Shared}{h':Heap}{x T:Addr}
structure Strange(X:Cx)(pins:List (Addr×Obj))(x:Addr):Prop where
 new:X.s₀.heap.get? x=none
 loc:x≠X.env.locals
 cell:∀y c,X.env.cells.lookup y=some c->c≠x
 pin:∀p∈X.pn++pins,p.1≠x
def HO.exc(x C:Addr):HO:=.ext fun h=>∃o,h.get? x=some o/\o.cls=.ref C
end
end L2
set_option Elab.async false
set_option linter.all false
set_option maxRecDepth 100000
namespace L2
open PySem PySem.Spec PyProof.Rows PySem.W
section
variable{X:Cx}{pins:List (Addr×Obj)}{σ : St}{H:Hp}{s:Shared}{e:Value}
end
end L2
set_option Elab.async false
set_option linter.all false
set_option maxRecDepth 100000
namespace L2
open PySem PySem.Spec PyProof.Rows PySem.W PySem.Builtin PySem.Builtin.ObjectAttr PySem.Builtin.Getset_descriptor PySem.Calls
section
variable{prog:Program}{w:World}{A:Around}{E:Value->Shared->Prop}{s:Shared}{K:PySem.W.Frag}{x C:Addr}
structure ExcC(K:PySem.W.Frag)(C:Addr):Prop where
 cl:(clsIn K C).isSome=true
 hb:subIn K (.ref C) (.type "BaseException")=some true
 hga:findIn K (.ref C) "__getattribute__" = some (some (.builtin "BaseException.__getattribute__"))
 hgh:findIn K (.ref C) "__getattr__" = some none
 ha:findIn K (.ref C) "__class__" = some (some (.builtin "object.__class__"))
 hn:specialIn K (.builtin "object.__class__") "__get__" = some (some (.builtin "getset_descriptor.__get__"))
 htk:takesIn K (.builtin "object.__class__")=some true
 hm:mroIn K C (.type "object")=some true
end
section
variable{X:Cx}
def q6g(K:PySem.W.Frag):List V->Hp->VK->Prop:=fun xs H Q=>∃(x C:Addr) (y:V) (d:Value) (b:Bool),xs=[.ref x,y]/\H x=some (HO.exc x C)/\RelV y d/\(∀u,RelV y u->u=d)/\ExcC K C/\kitOne K (.ref C) d=some b/\Q (.bl b) H
def zu6:V->List V->Hp->VK->Prop:=fun x vs H Q=>∃(l:Addr) (bs:List Bool) (y:Bool),x=.ref l/\vs=[.bl y]/\H l=some (.lst (bs.map V.bl))/\Q (.int (bs.count y:Nat)) H
end
section
variable{P:Program}{w:World}{K:PySem.W.Frag}{mg:Str->Option Value}{base:Heap}{N:List Str}{qual:Str}{scope:Scope}{f:Addr}{cd:Value}{A:Around}{outer:List PySem.Env}{s₀:Shared}{H₀:Hp}{E:XK}
end
end L2
set_option Elab.async false
set_option linter.all false
set_option maxRecDepth 100000
namespace L2
open PySem PySem.Spec PyProof.Rows PySem.W
def zid(s:Stmt)(j:Nat):Stmt:=match s with
 | .ClassDef _ _ _ b _ _ _ _ _ _ _=>(b[j]?).getD s
 | _=>s
structure CalleeM(P:Program)(w:World)(K:PySem.W.Frag)(mg:Str->Option Value)(base:Heap)(C:Addr)(m:Str)(ps:List Str)(k:Nat)(sp:Sp):Prop where
 ex:∃f fd,FnOk P w K mg base CX0 k f fd ps sp/\Meth K C m f/\Binds K fd ps []
structure CalleeI(P:Program)(w:World)(K:PySem.W.Frag)(mg:Str->Option Value)(base:Heap)(C:Addr)(ps:List Str)(k:Nat)(sp:Sp):Prop where
 ex:∃f fd,FnOk P w K mg base CX0 k f fd ps sp/\Mk K C f/\Binds K fd ps []
section
variable{X:Cx}{C:Addr}{m x:Str}{ps:List Str}{k j:Nat}{sp:Sp}{o e:Expr}{es:List Expr}{ta:TE}{t:TA}{p apos pos:Pos}{pl:Sem Bool}
theorem zpx(he:PE X o ta)(c:Cls X.K C)(M:CalleeM X.prog X.w X.K X.mg X.base C m ps k sp)(hr:Room j X.A)(hk:k<=j)
  (ht:eval (.Call (.Attribute o m apos) [] [] pos) X.env=(do
   let ov <- eval o X.env
   standAt apos.atName
   let (f,first) <- holding [ov] (getMethod ov m pl)
   callWith pos f first (backTo pos (starEach [] X.env)) (backToKw pos (keywordEach [] X.env))):=by rfl):PE X (.Call (.Attribute o m apos) [] [] pos) (zns C m sp [] E0 ta zra):=by
 obtain⟨f,fd,F,hm,hb⟩:=M
 exact zy1 he c hm F (hr.mono hk) hb .nil (fun _ _ _ _ _ _ _ z=>z.elim) ht
theorem q5r(M:CalleeI X.prog X.w X.K X.mg X.base C ps k sp)(hr:Room j X.A)(hk:k+1<=j)(hg:Gl X x)(hm:X.mg x=some (.ref C))(ha:PA X (e::es) t) (hdb:(x == ("__debug__" : Str))=false:=by decide) (hst:z3l (e::es)=true:=by rfl) :
  PE X (.Call (.Name x p) (e::es) [] pos) (ztj C sp [] E0 t):=by
 obtain⟨f,fd,F,hM,hb⟩:=M
 have hst':=hst
 rw [z3l,Bool.and_eq_true,Bool.not_eq_true'] at hst'
 exact q0r hM F (hr.mono hk) hg hm hb .nil (fun _ _ _ _ _ _ _ z=>z.elim) ha hdb (z1f hst'.1) (z3e hst'.2)
end
end L2
set_option Elab.async false
set_option linter.all false
set_option maxRecDepth 100000
namespace L2
open PySem PySem.Spec PyProof.Rows PySem.W
section
variable{P:Program}{w:World}{K:PySem.W.Frag}{mg:Str->Option Value}{base:Heap}{k:Nat}{ps fr N:List Str}{D:LamD}{cl:List (Str×Addr)}{f c':Addr}{A:Around}{outer:List PySem.Env}{s:Shared}{H:Hp}{us:List Value}{vs ws:List V}{Q:VK}{E:XK}
end
end L2
set_option Elab.async false
set_option linter.all false
set_option maxRecDepth 100000
namespace L2
open PySem PySem.Spec PyProof.Rows PySem.W
structure RoomH(k:Nat)(A:Around):Prop where
 dp:A.depth+3 * k+5 < recursionLimit
 un:A.units+16 * k+200 < cLine
theorem Room.h{k:Nat}{A:Around}(r:Room k A):RoomH k A:=⟨r.dp,r.un⟩
structure FnOkH(P:Program)(w:World)(K:PySem.W.Frag)(mg:Str->Option Value)(base:Heap)(k:Nat)(f:Addr)(fd:FuncData)(ps:List Str)(sp:Sp):Prop where
 len:∀vs H Q E,sp vs H Q E->vs.length=ps.length
 run:∀(A:Around) (outer:List PySem.Env) (s:Shared) (H:Hp) (args:Args) (us:List Value) (vs:List V) (Q:VK) (E:XK),RoomH k A->Env0 P w K mg base A outer s H->BindsTo s fd args (ps.zip us)->Vals vs us->sp vs H Q E->
  codeAny (model P w) A (.call (.ref f) args) (CR CX0 outer P w H s Q E) s
end L2
set_option Elab.async false
set_option linter.all false
set_option maxRecDepth 100000
namespace L2
open PySem PySem.Spec PyProof.Rows PySem.W
structure CalleeH(P:Program)(w:World)(K:PySem.W.Frag)(mg:Str->Option Value)(base:Heap)(x:Str)(ps:List Str)(k:Nat)(sp:Sp):Prop where
 ex:∃f fd,FnOkH P w K mg base k f fd ps sp/\mg x=some (.ref f)/\PySem.W.keepIn K (.ref f)=true/\Binds K fd ps []
def q2u(K:PySem.W.Frag)(R:Addr->Hp->VK->XK->Prop)(Rc:Addr)(sp:Sp)(j:Nat):TS:=fun D σ H=>∃f,σ[j]?=some (some (.ref f))/\IsLam H f/\R f H D.rt
 (fun cls _ H2=>∃C,cls=.ref C/\exmOne K (.ref C) (.ref Rc)=some true/\∀x,H2 x=none->sp [.ref x] (upd H2 x (HO.exc x C)) D.rt E0)
end L2
set_option Elab.async false
set_option linter.all false
set_option maxRecDepth 100000
namespace L2
open PySem PySem.Spec PyProof.Rows PySem.W
def zu5:V->List V->Hp->VK->Prop:=fun x vs H Q=>∃(l:Addr) (bs:List Bool) (y:Bool) (j:Nat),x=.ref l/\vs=[.bl y]/\H l=some (.lst (bs.map V.bl))/\bs[j]?=some y/\(∀m,m < j->bs[m]?≠some y)/\j < 1000/\Q (.int j) H
end L2
set_option Elab.async false
set_option linter.all false
set_option maxRecDepth 100000
namespace L2
open PySem PySem.Spec PyProof.Rows PySem.W
end L2
set_option Elab.async false
set_option linter.all false
set_option maxRecDepth 100000
namespace L2
open PySem PySem.Spec PyProof.Rows PySem.W
structure CalleeMX(P:Program)(w:World)(K:PySem.W.Frag)(mg:Str->Option Value)(base:Heap)(C:Addr)(m:Str)(ps:List Str)(k:Nat)(sp:Sp):Prop where
 ex:∃f fd,FnOk P w K mg base (CX1 P w) k f fd ps sp/\Meth K C m f/\Binds K fd ps []
structure CalleeIX(P:Program)(w:World)(K:PySem.W.Frag)(mg:Str->Option Value)(base:Heap)(C:Addr)(ps:List Str)(k:Nat)(sp:Sp):Prop where
 ex:∃f fd,FnOk P w K mg base (CX1 P w) k f fd ps sp/\Mk K C f/\Binds K fd ps []
section
variable{X:Cx}{C:Addr}{m x:Str}{ps:List Str}{k j:Nat}{sp:Sp}{o e:Expr}{es:List Expr}{ta:TE}{t:TA}{p apos pos:Pos}{pl:Sem Bool}{E:XK}
end
end L2
set_option Elab.async false
set_option linter.all false
set_option maxRecDepth 100000
namespace L2
open PySem PySem.Spec PyProof.Rows PySem.W
def shw(os:List (Addr×Obj))(H:Hp):Hp:=fun b=>match os.lookup b with
 | some o=>some (z4g b o)
 | none=>H b
theorem zpo{os:List (Addr×Obj)}{H:Hp}{b:Addr}{o:Obj}(h:os.lookup b=some o):shw os H b=some (z4g b o):=by unfold shw; rw [h]
theorem zan{os:List (Addr×Obj)}{H:Hp}{b:Addr}(h:os.lookup b=none):shw os H b=H b:=by unfold shw; rw [h]
theorem z9a{os:List (Addr×Obj)}{b:Addr}(h:b∉os.map (·.1)):os.lookup b=none:=by
 cases e:os.lookup b with
 | none=>rfl
 | some o=>exact absurd (List.mem_map.mpr ⟨_,mem_of_lookupK e,rfl⟩) h
theorem zbu:∀{os:List (Addr×Obj)} {b:Addr},b∈os.map (·.1)->∃o,os.lookup b=some o
 | [],_,h=>absurd h (by simp)
 | (c,o)::os,b,h=>by
  by_cases e:b=c
  ·exact⟨o,by rw [List.lookup,e,beq_self_eq_true]⟩
  ·have:(b == c)=false:=by simpa using e
   rw [List.lookup,this]
   rw [List.map_cons,List.mem_cons] at h
   exact zbu (h.resolve_left e)
theorem z7d{os:List (Addr×Obj)}{H:Hp}(hn:∀c∈os.map (·.1),H c=none){b:Addr}{u:HO}(e:H b=some u):shw os H b=some u:=by
 rw [zan (z9a fun z=>by rw [hn b z] at e; cases e)]
 exact e
theorem zyu{os:List (Addr×Obj)}{H:Hp}(hn:∀c∈os.map (·.1),H c=none):zh0 (os.map (·.1)) (shw os H)=H:=by
 funext b
 by_cases hb:b∈os.map (·.1)
 ·rw [z9k hb,hn b hb]
 ·rw [z1t hb,zan (z9a hb)]
theorem zvr{cs:List Addr}{H H':Hp}(hn:∀c∈cs,H' c=none):zh0 cs (zgs cs H H')=H':=by
 funext b
 by_cases hb:b∈cs
 ·rw [z9k hb,hn b hb]
 ·rw [z1t hb,z50 hb]
def q22(X:Cx)(cs:List (Nat×Addr)):Prop:=∀q∈cs,∃y,X.N[q.1]?=some y/\X.env.cells.lookup y=some q.2/\X.env.kindOf y=some .cell/\X.fn y=true
def zeq(os:List (Addr×Obj))(ws:List V):Prop:=Paired (fun(q:Addr×Obj) (v:V)=>∃u,q.2.data=.cell (some u)/\RelV v u) os ws
def q67(σ : St)(cs:List (Nat×Addr))(ws:List V):Prop:=Paired (fun(q:Nat×Addr) (v:V)=>σ[q.1]?=some (some v)) cs ws
theorem zqr{X:Cx}{pins:List (Addr×Obj)}{σ : St}{H:Hp}{s:Shared}(I:Inv X pins σ H s):∀{cs:List (Nat×Addr)} {ws:List V},q22 X cs->q67 σ cs ws->
  ∃os:List (Addr×Obj),os.map (·.1)=cs.map (·.2)/\zeq os ws/\∀q∈os,s.heap.get? q.1=some q.2
 | [],_,_,.nil=>⟨[],rfl,.nil,by simp⟩
 | (i,c)::cs,v::ws,hs,.cons e r=>by
  obtain⟨os,e1,e2,e3⟩:=zqr I (fun q hq=>hs q (.tail _ hq)) r
  obtain⟨y,hN,hc,hy,_⟩:=hs _ List.mem_cons_self
  obtain⟨m,hn,hl⟩:=id I.loc
  obtain⟨u,ru,l⟩:=hl i y v hN e (.inr (.inl hy))
  have hcell:s.heap.IsCell c (some u):=by
   rcases l with⟨hk',_⟩ | ⟨_,c2,e2,z⟩
   ·rw [hy] at hk'; cases hk'
   ·rw [hc] at e2; cases e2; exact z
  obtain⟨o,ho,hd⟩:=hcell
  refine⟨(c,o)::os,by rw [List.map_cons,List.map_cons,e1],.cons ⟨u,hd,ru⟩ e2,fun q hq=>?_⟩
  rcases List.mem_cons.mp hq with rfl | hq
  ·exact ho
  ·exact e3 q hq
def zj6(sp:Sp)(cs:List (Nat×Addr))(t:TA):TE:=fun σ H Q=>t σ H fun vs H1=>∃ws,q67 σ cs ws/\
 ∀os:List (Addr×Obj),os.map (·.1)=cs.map (·.2)->zeq os ws->(∀c∈os.map (·.1),H1 c=none)->
  sp vs (shw os H1) (fun y H2=>(∀c o,os.lookup c=some o->H2 c=some (z4g c o))/\Q y (zh0 (os.map (·.1)) H2)) E0
theorem zrz{X:Cx}{x:Str}{cs:List (Nat×Addr)}{ps:List Str}{k j:Nat}{sp:Sp}{e:Expr}{es:List Expr}{t:TA}{p pos:Pos}(C:Callee X.prog X.w X.K X.mg X.base x ps k sp)(hr:Room j X.A)(hk:k<=j)(ha:PA X (e::es) t)
  (hcs:q22 X cs) (hg:Gl X x:=by rfl) (hdb:(x == ("__debug__" : Str))=false:=by decide) (hst:z3l (e::es)=true:=by rfl) :
  PE X (.Call (.Name x p) (e::es) [] pos) (zj6 sp cs t):=by
 have hst':=hst
 rw [z3l,Bool.and_eq_true,Bool.not_eq_true'] at hst'
 have he:=z1f (es:=es) (env:=X.env) hst'.1
 have hpl:=z3e (pos:=pos) (env:=X.env) hst'.2
 obtain⟨f,fd,F,hm,hkp,hb⟩:=C
 refine⟨?_⟩
 intro pins s σ H Q I h
 refine wpAny_Call_Name_kw (zhq I hg hm ?_ hdb)
 refine PySem.W.callWith_K (h₀:=X.base) I.ok.mod.kin hkp (thn (ha pos pins s σ H _ I h) fun us s1 ⟨vs,H1,I1,r,ws,hw,q⟩=>⟨I1.kIn,?_⟩) he hpl
 obtain⟨os,em,hca,ho⟩:=zqr I1 hcs hw
 have inC:∀c∈os.map (·.1),∃y,X.env.cells.lookup y=some c/\X.fn y=true:=fun c hc=>by
  rw [em] at hc
  obtain⟨q,hq,rfl⟩:=List.mem_map.mp hc
  obtain⟨y,_,h1,_,h2⟩:=hcs q hq
  exact⟨y,h1,h2⟩
 have hcn:∀c∈os.map (·.1),H1 c=none:=fun c hc=>by
  obtain⟨y,h1,_⟩:=inC c hc
  exact I1.freeC y c h1
 have q':=q os em hca hcn
 have hoo:∀{c:Addr} {o:Obj},os.lookup c=some o->s1.heap.get? c=some o:=fun z=>ho _ (mem_of_lookupK z)
 have hH:HOk X.prog X.w (shw os H1) s1.heap:=fun b w e=>by
  cases hb:os.lookup b with
  | some o=>
   rw [zpo hb] at e
   cases e
   exact⟨hoo hb,⟨o,hoo hb⟩,fun h1 h2 z k=>k _ z⟩
  | none=>
   rw [zan hb] at e
   exact(I1.hok b w e).stay (fun _ _ _ q=>q) (fun d z=>z7d hcn z) fun d xs z=>z7d hcn z
 have cfs:∀c∈os.map (·.1),c∉frs X.stack:=fun c hc z=>by
  obtain⟨y,h1,h2⟩:=inC c hc
  rcases List.mem_cons.mp (I1.stkSub c z) with z | z
  ·exact I1.cne y c h1 z
  ·obtain⟨_,ob,hob,_⟩:=I1.ok.funs.mem z
   exact absurd (Nat.lt_of_lt_of_le (Heap.lt_size hob) (I1.ok.cab y c h2 h1)) (Nat.lt_irrefl _)
 have e0:Env0 X.prog X.w X.K X.mg X.base X.A X.stack s1 (shw os H1):=by
  have z:=I1.env0
  refine⟨z.frames,z.mod,fun b ob e=>⟨(z.bs b ob e).1,?_⟩,z.bsz,z.funs,fun b hb=>?_,hH,z.bare⟩
  ·rw [zan (z9a fun w=>?_)]
   ·exact(z.bs b ob e).2
   ·obtain⟨y,h1,h2⟩:=inC b w
    have:=Heap.lt_size (I1.ok.bs b ob e).1
    exact absurd (Nat.lt_of_lt_of_le this (I1.ok.cab y b h2 h1)) (Nat.lt_irrefl _)
  ·rw [zan (z9a fun w=>cfs b w hb)]
   exact z.frf b hb
 have hln:us.length=ps.length:=by rw [<- r.length]; exact F.len _ _ _ _ q'
 have hbd:=hb s1 us I1.kIn (by rw [List.append_nil]; exact hln)
 rw [List.append_nil] at hbd
 refine wpAny_call (codeAny_mono (F.run X.A X.stack s1 _ ⟨us,[]⟩ us vs _ E0 (hr.mono hk) e0 hbd r q') fun r s' hq=>?_)
 cases r with
 | error e=>exact False.elim hq
 | ok fl=>
  cases fl with
  | next=>exact False.elim hq
  | brk=>exact False.elim hq
  | cont=>exact False.elim hq
  | ret u2=>
   obtain⟨v2,H2,os',bare,un,hok,rv,hc2,q2⟩:=hq
   have ac:AreCells (os.map (·.1)) H2:=fun b hb=>by
    obtain⟨o,e⟩:=zbu hb
    exact⟨o,hc2 _ _ e⟩
   have out:∀{b:Addr} {u:HO},H1 b=some u->b∉os.map (·.1):=fun e z=>by rw [hcn _ z] at e; cases e
   refine⟨v2,zh0 (os.map (·.1)) H2,I1.call' os' (ch:=[]) ⟨fun b ob e n hb hx=>?_,fun b ob e n hb hx=>?_,fun b ob e n hx=>?_,fun b ob e hx=>un.there b ob e hx,fun b xs e=>?_,fun b ob w e=>?_,fun b qs e=>?_⟩ (hok.hid ac) bare (fun b z=>absurd z (by simp)),rv,q2⟩
   ·cases hbc:os.lookup b with
    | some o=>rw [hoo hbc] at e; cases e; exact(hok b _ (hc2 _ _ hbc)).1
    | none=>exact un.keep b ob e (by rw [zan hbc]; exact n) hb hx
   ·cases hbc:os.lookup b with
    | some o=>exact absurd hb (cfs b (List.mem_map.mpr ⟨_,mem_of_lookupK hbc,rfl⟩))
    | none=>exact un.slot b ob e (by rw [zan hbc]; exact n) hb hx
   ·cases hbc:os.lookup b with
    | some o=>exact z9k (List.mem_map.mpr ⟨_,mem_of_lookupK hbc,rfl⟩)
    | none=>exact z5k (un.free b ob e (by rw [zan hbc]; exact n) hx)
   ·rw [z1t (out e)]
    exact un.tups b xs (z7d hcn e)
   ·rw [z1t (out e)]
    exact un.frzs b ob w (z7d hcn e)
   ·rw [z1t (out e)]
    exact un.tbls b qs (z7d hcn e)
end L2
set_option Elab.async false
set_option linter.all false
set_option maxRecDepth 100000
namespace L2
open PySem PySem.Spec PyProof.Rows PySem.W
abbrev zgh(x0:Value)(d:Addr)(i n ep:Nat)(ok ov:Value):Obj:={cls:=.type "dict_itemiterator",data:=.fields #[x0,.bool false,.ref d,.int i 0,.int n 0,.int ep 0,ok,ov]}
section
variable{prog:Program}{w:World}{A:Around}{E:Value->Shared->Prop}{s:Shared}{d I:Addr}{en:DictEntry}{ep:Nat}{o:Obj}
set_option maxHeartbeats 4000000 in
theorem zyg{Q:Option Value->Shared->Prop}(hh:A.handled=none)(eI:s.heap.get? I=some (zgh .none d 0 1 ep .none .none))(e:s.heap.get? d=some o)(dd:o.data=.dict #[en] ep)
  (q1:∀h' x0 k v,Heap.ExtBut I s.heap h'->h'.get? s.heap.objs.size=some {cls:=.type "tuple",data:=.seq #[en.key,en.val]}->h'.get? I=some (zgh x0 d 1 1 ep k v)->Q (some (.ref s.heap.objs.size)) {s with heap:=h'}):wpAny (model prog w) A (pyNext (.ref I)) Q E s:=by
 have hT:s.TypeIs (.ref I) "dict_itemiterator":=⟨_,eI,rfl⟩
 unfold pyNext
 refine wpAny_bind (wpAny_attempt (wpAny_callSpecial?_slot (name:="__next__") hT F.slot_dict_itemiterator_next (wpAny_call_entry F.slot_dict_itemiterator_next hT F.entry_dict_itemiterator_next ?_ (F.args_dict_itemiterator_next_1 _))))
 unfold Builtin.«dict_itemiterator.__next__»
 wp_walk using wpAny_dictEntries e dd,wpAny_dictEpoch e dd
 rw [if_pos (show Builtin.Dict_items.ownsTuple ((Manifest.find? "dict_itemiterator").elim "dict_itemiterator" fun x=>x.tpName)=true by decide+kernel),if_neg]
 ·have e1:(s.heap.update I (Obj.mapFields fun x=>x.setIfInBounds (2+1) (rawInt (((0:Nat):Int)+1)))).get? I=some (zgh .none d 1 1 ep .none .none):=Heap.get?_update_self _ eI rfl
  have s1:Heap.SameBut I s.heap (s.heap.update I (Obj.mapFields fun x=>x.setIfInBounds (2+1) (rawInt (((0:Nat):Int)+1)))):=Heap.SameBut.update ..
  generalize s.heap.update I (Obj.mapFields fun x=>x.setIfInBounds (2+1) (rawInt (((0:Nat):Int)+1)))=h1 at e1 s1 |-
  have hl:I < s.heap.objs.size:=Heap.lt_size eI
  rw [s1.1]
  have e2:(h1.push {cls:=.type "tuple",data:=.seq #[en.key,en.val]}).get? I=some (zgh .none d 1 1 ep .none .none):=Heap.get?_push_of_some _ e1
  have t2:(h1.push {cls:=.type "tuple",data:=.seq #[en.key,en.val]}).get? s.heap.objs.size=some {cls:=.type "tuple",data:=.seq #[en.key,en.val]}:=by rw [<- s1.1]; exact Heap.get?_push_size _ rfl
  have x2:Heap.ExtBut I s.heap (h1.push {cls:=.type "tuple",data:=.seq #[en.key,en.val]}):=s1.extBut.push _
  refine⟨_,rfl,wpAny_pure (q1 _ _ _ _ (fun b u hb hu=>?_) ?_ (Heap.get?_update_self _ (Heap.get?_update_self _ (Heap.get?_update_self _ (Heap.get?_update_self _ e2 rfl) rfl) rfl) rfl))⟩
  ·exact(Heap.SameBut.update ..).extBut b u hb ((Heap.SameBut.update ..).extBut b u hb ((Heap.SameBut.update ..).extBut b u hb ((Heap.SameBut.update ..).extBut b u hb (x2 b u hb hu))))
  ·have hb:s.heap.objs.size≠I:=Nat.ne_of_gt hl
   exact(Heap.SameBut.update ..).extBut _ _ hb ((Heap.SameBut.update ..).extBut _ _ hb ((Heap.SameBut.update ..).extBut _ _ hb ((Heap.SameBut.update ..).extBut _ _ hb t2)))
 ·decide+kernel
end
end L2
set_option Elab.async false
set_option linter.all false
set_option maxRecDepth 100000
namespace L2
open PySem PySem.Spec PyProof.Rows PySem.W
section
variable{prog:Program}{w:World}{A:Around}{E:Value->Shared->Prop}{s:Shared}{d I:Addr}{en:DictEntry}{ep:Nat}{o:Obj}
set_option maxHeartbeats 4000000 in
theorem zyf{Q:Option Value->Shared->Prop}{x0 k v:Value}(hh:A.handled=none)(eI:s.heap.get? I=some (zgh x0 d 1 1 ep k v))(e:s.heap.get? d=some o)(dd:o.data=.dict #[en] ep)
  (q2:∀h',Heap.ExtBut I s.heap h'->Q none {s with heap:=h'}):wpAny (model prog w) A (pyNext (.ref I)) Q E s:=by
 have hT:s.TypeIs (.ref I) "dict_itemiterator":=⟨_,eI,rfl⟩
 unfold pyNext
 refine wpAny_bind (wpAny_attempt (wpAny_callSpecial?_slot (name:="__next__") hT F.slot_dict_itemiterator_next (wpAny_call_entry F.slot_dict_itemiterator_next hT F.entry_dict_itemiterator_next ?_ (F.args_dict_itemiterator_next_1 _))))
 unfold Builtin.«dict_itemiterator.__next__»
 wp_walk using wpAny_dictEntries e dd,wpAny_dictEpoch e dd
 rw [raiseNew]
 wp_walk
 refine wpAny_of_eq isSubtype_stop (wpAny_pure ?_)
 exact q2 _ (((Heap.SameBut.update ..).extBut.push _).push _)
set_option maxHeartbeats 4000000 in
theorem zyr{Q:Value->Shared->Prop}{r:Addr}(hv:s.heap.IsItemsView r d)(e:s.heap.get? d=some o)(x:o.ExactDict)(dd:o.data=.dict #[en] ep)(q:Q (.ref s.heap.objs.size) {s with heap:=s.heap.push (zgh .none d 0 1 ep .none .none)}):wpAny (model prog w) A (pyIter (.ref r)) Q E s:=by
 obtain⟨⟨cv,xv,dv,sv⟩,ev,c1,d1⟩:=hv
 have c1:cv=.type "dict_items":=c1
 have d1:dv=.fields #[.ref d]:=d1
 subst c1 d1
 have hT:s.TypeIs (.ref r) "dict_items":=⟨_,ev,rfl⟩
 refine wpAny_pyIter_slot hT F.slot_dict_items_iter (wpAny_call_entry F.slot_dict_items_iter hT F.entry_dict_items_iter ?_ (F.args_dict_items_iter_1 _))
 unfold Builtin.«dict_items.__iter__»
 wp_walk using wpAny_dictEntries e dd,wpAny_dictEpoch e dd
 rw [if_pos (show Builtin.Dict_items.ownsTuple "dict_itemiterator" = true by decide+kernel)]
 exact⟨_,rfl,"dict_itemiterator",_,⟨_,Heap.get?_push_size _ rfl,rfl⟩,F.slot_dict_itemiterator_next.lookup,q⟩
end
end L2
set_option Elab.async false
set_option linter.all false
set_option maxRecDepth 100000
namespace L2
open PySem PySem.Spec PyProof.Rows PySem.W
section
variable{prog:Program}{w:World}{A:Around}{E:Value->Shared->Prop}{s:Shared}{d I S:Addr}{en:DictEntry}{ep:Nat}{o:Obj}{R:Result->Shared->Prop}
abbrev zy5(en:DictEntry):Obj:={cls:=.type "tuple",data:=.seq #[en.key,en.val]}
theorem zyj{h:Heap}{tk c:Nat}{acc:Array Value}{x0 k v res:Value}(hh:A.handled=none)(hne:S≠I)(eI:h.get? I=some (zgh x0 d 1 1 ep k v))(e:h.get? d=some o)(dd:o.data=.dict #[en] ep) (eS:h.get? S=some (seqObj "list" acc c))
  (q:∀h',Heap.ExtBut I h h'->R (.ok (.ret res)) {s with heap:=h',toks:=tk}):codeAny (model prog w) A (.builtin "list.extend.loop" ⟨[.ref S,.ref I,res],[]⟩) R {s with heap:=h,toks:=tk}:=by
 refine codeAny_builtin F.entry_extend_loop ?_; rw [Around.under_plainId F.plain_extend_loop _]
 show wpAny _ A.in1 (pyNext (.ref I) >>= _) _ _ _
 exact wpAny_bind (zyf (s:={s with heap:=h,toks:=tk}) (A:=A.in1) hh eI e dd fun h' x=>wpAny_pure (q h' x))
theorem zyk{h:Heap}{tk c:Nat}{res:Value}(hh:A.handled=none)(hSI:S < I)(hSd:d≠S)(hId:d≠I)(eI:h.get? I=some (zgh .none d 0 1 ep .none .none))(e:h.get? d=some o)(dd:o.data=.dict #[en] ep) (eS:h.get? S=some (seqObj "list" #[] c))
  (q:∀h' a c',(∀b u,b≠S->b≠I->h.get? b=some u->h'.get? b=some u)->h.objs.size<=a->h'.get? a=some (zy5 en)->h'.get? S=some (seqObj "list" #[.ref a] c')->R (.ok (.ret res)) {s with heap:=h',toks:=tk}) :
  codeAny (model prog w) A (.builtin "list.extend.loop" ⟨[.ref S,.ref I,res],[]⟩) R {s with heap:=h,toks:=tk}:=by
 refine codeAny_builtin F.entry_extend_loop ?_; rw [Around.under_plainId F.plain_extend_loop _]
 show wpAny _ A.in1 (pyNext (.ref I) >>= _) _ _ _
 refine wpAny_bind (zyg (s:={s with heap:=h,toks:=tk}) (A:=A.in1) hh eI e dd fun h1 x0 k v x1 t1 i1=>?_)
 have nSI:S≠I:=Nat.ne_of_lt hSI
 have eS1:=x1 S _ nSI eS
 have lS:S < h.objs.size:=Heap.lt_size eS
 have up:∀b u,b≠S->h1.get? b=some u->(h1.update S (Obj.mapSeq (·.push (Value.ref h.objs.size)))).get? b=some u:=fun b u hb y=>(Heap.get?_update_other _ _ (Ne.symm hb)).trans y
 show wpAny _ A.in1 (updateSeq S (·.push (Value.ref h.objs.size)) >>= _) _ _ _
 refine wpAny_bind (wpAny_updateSeq eS1 rfl (wpAny_pure ⟨plainId_quiet F.plain_extend_loop _,zyj (en:=en) (o:=o) hh nSI (up I _ (Ne.symm nSI) i1) (up d _ hSd (x1 d _ hId e)) dd (Heap.get?_update_self _ eS1 rfl) fun h' x2=>?_⟩) (by decide) (show 1<=sizeLine+1 by omega))
 refine q h' h.objs.size _ (fun b u n1 n2 y=>x2 b u n2 (up b u n1 (x1 b u n2 y))) (Nat.le_refl _) (x2 _ _ ?_ (up _ _ (Nat.ne_of_gt lS) t1)) (x2 S _ nSI (Heap.get?_update_self _ eS1 rfl))
 exact Nat.ne_of_gt (Heap.lt_size eI)
theorem zsl{r:Addr}{res:Value}{c0:Nat}(hh:A.handled=none)(hv:s.heap.IsItemsView r d)(e:s.heap.get? d=some o)(x:o.ExactDict)(dd:o.data=.dict #[en] ep)(hSr:S≠r)(hSd:d≠S) (eS:s.heap.get? S=some (seqObj "list" #[] c0))
  (q:∀h' tk a c',(∀b u,b≠S->s.heap.get? b=some u->h'.get? b=some u)->s.heap.objs.size<=a->h'.get? a=some (zy5 en)->h'.get? S=some (seqObj "list" #[.ref a] c')->R (.ok (.ret res)) {s with heap:=h',toks:=tk}) :
  wpAny (model prog w) A.in1 (Builtin.List.listExtendWith (.ref S) (.ref r) res)
   (fun fin s'=>match fin with | .done f=>R (.ok f) s' | .again c'=>c'.quiet=true/\codeAny (model prog w) A c' R s') (fun e s'=>R (.error e) s') s:=by
 have lS:S < s.heap.objs.size:=Heap.lt_size eS
 have ld:d < s.heap.objs.size:=Heap.lt_size e
 have go:∀(h:Heap) (c1 tk:Nat),(∀b u,b≠S->(s.heap.push (zgh .none d 0 1 ep .none .none)).get? b=some u->h.get? b=some u)->s.heap.objs.size < h.objs.size->h.get? S=some (seqObj "list" #[] c1)->
   codeAny (model prog w) A (.builtin "list.extend.loop" ⟨[.ref S,.ref s.heap.objs.size,res],[]⟩) R {s with heap:=h,toks:=tk}:=fun h c1 tk hk hz hS1=>by
  refine zyk (en:=en) (o:=o) (ep:=ep) (s:=s) hh lS hSd (Nat.ne_of_lt ld) (hk _ _ (Nat.ne_of_gt lS) (Heap.get?_push_size _ rfl)) (hk d o hSd (Heap.get?_push_of_some _ e)) dd hS1 fun h' a c' k1 za ta eS'=>?_
  exact q h' tk a c' (fun b u n y=>k1 b u n (Nat.ne_of_lt (Heap.lt_size y)) (hk b u n (Heap.get?_push_of_some _ y))) (by omega) ta eS'
 unfold Builtin.List.listExtendWith
 refine wpAny_bind (wpAny_typeOf (T:="dict_items") hv.typeIs ?_)
 simp only[show Builtin.List.listSameRef (.ref S) (.ref r)=false by simp[Builtin.List.listSameRef,hSr],show(Value.type "dict_items" == Value.type "list")=false by decide,show(Value.type "dict_items" == Value.type "tuple")=false by decide,Bool.or_false,Bool.false_eq_true,if_false]
 refine wpAny_bind (zyr hv e x dd ?_)
 have eS1:=Heap.get?_push_of_some (zgh .none d 0 1 ep .none .none) eS
 have z1:s.heap.objs.size < (s.heap.push (zgh .none d 0 1 ep .none .none)).objs.size:=by rw [Heap.size_push]; exact Nat.lt_succ_self _
 refine wpAny_bind (wpAny_holding (kdx_hint (let ⟨o,ho,hc,_⟩:=hv; ⟨o,Heap.get?_push_of_some _ ho,hc⟩) ?_))
 refine wpAny_ite_split (fun _=>?_) (fun _=>wpAny_pure ⟨plainId_quiet F.plain_extend_loop _,go _ c0 _ (fun b u _ y=>y) z1 eS1⟩)
 refine wpAny_bind (wpAny_rule (wpAny_bind ?_))
 show wpAny _ _ (updateSeq S (·.push .none) >>= fun _=>updateSeq S (·.pop)) _ _ _
 refine wpAny_bind (wpAny_updateSeq eS1 rfl ?_)
 have eS2:=Heap.get?_update_self (Obj.mapSeq (·.push Value.none)) eS1 rfl
 refine wpAny_updateSeq (hz:=by seq_fits) eS2 rfl ?_
 have eS3:=Heap.get?_update_self (Obj.mapSeq (·.pop)) eS2 rfl
 refine wpAny_pure ⟨plainId_quiet F.plain_extend_loop _,go _ _ _ (fun b u n y=>(Heap.get?_update_other _ _ (Ne.symm n)).trans ((Heap.get?_update_other _ _ (Ne.symm n)).trans y)) ?_ eS3⟩
 have y:=Heap.get?_push_size (o:=zgh .none d 0 1 ep .none .none) s.heap rfl
 exact Heap.lt_size ((Heap.get?_update_other _ _ (Nat.ne_of_lt lS)).trans ((Heap.get?_update_other _ _ (Nat.ne_of_lt lS)).trans y))
theorem zpa{r:Addr}{Q:List Value->Shared->Prop}(hh:A.handled=none)(hv:s.heap.IsItemsView r d)(e:s.heap.get? d=some o)(x:o.ExactDict)(dd:o.data=.dict #[en] ep)
  (q:∀(h':Heap) (tk:Nat) (a:Addr),s.heap.objs.size<=a->(∀b u,s.heap.get? b=some u->h'.get? b=some u)->h'.get? a=some (zy5 en)->Q [.ref a] {s with heap:=h',toks:=tk}):wpAny (model prog w) A (collect (.ref r)) Q E s:=by
 have lr:r < s.heap.objs.size:=let ⟨_,ho,_⟩:=hv; Heap.lt_size ho
 have ld:d < s.heap.objs.size:=Heap.lt_size e
 unfold collect
 refine wpAny_bind (wpAny_runValue (codeAny_builtin F.entry_proto_collect ?_)); rw [Around.under_plainId F.plain_proto_collect]
 refine wpAny_bind (wpAny_newList (wpAny_pure ⟨plainId_quiet F.plain_list_iadd _,codeAny_builtin F.entry_list_iadd ?_⟩)); rw [Around.under_plainId F.plain_list_iadd]
 have e0:(s.heap.push (seqObj "list" #[] 0)).get? s.heap.objs.size=some (seqObj "list" #[] 0):=Heap.get?_push_size _ rfl
 show wpAny _ _ (Builtin.List.listExtendWith (.ref s.heap.objs.size) (.ref r) (.ref s.heap.objs.size)) _ _ {s with heap:=s.heap.push (seqObj "list" #[] 0)}
 have fin:∀(v:Result) (s':Shared),(∃(h':Heap) (tk:Nat) (a c:Nat),v=.ok (.ret (.ref s.heap.objs.size))/\s' = {s with heap:=h',toks:=tk}/\h'.get? s.heap.objs.size=some (seqObj "list" #[.ref a] c)/\Q [.ref a] {s with heap:=h',toks:=tk})->
   (match v with | .ok (.ret v)=>wpAny (model prog w) A (match v with | .ref a=>(do match (<- load a).data with | .seq xs _=>pure xs.toList | _=>unsupported "internal:collect") | _=>unsupported "internal:collect") Q E s' | .ok _=>False | .error e=>E e s'):=by
  rintro v s' ⟨h',tk,a,c,rfl,rfl,hS,hq⟩
  exact wpAny_bind (wpAny_load hS (wpAny_pure hq))
 refine wpAny_mono (zsl (A:=A) (s:={s with heap:=s.heap.push (seqObj "list" #[] 0)}) (en:=en) (o:=o) (ep:=ep)
  (R:=fun v s'=>∃(h':Heap) (tk:Nat) (a c:Nat),v=.ok (.ret (.ref s.heap.objs.size))/\s' = {s with heap:=h',toks:=tk}/\h'.get? s.heap.objs.size=some (seqObj "list" #[.ref a] c)/\Q [.ref a] {s with heap:=h',toks:=tk})
  hh (let ⟨o,ho,x⟩:=hv; ⟨o,Heap.get?_push_of_some _ ho,x⟩) (Heap.get?_push_of_some _ e) x dd (Nat.ne_of_gt lr) (Nat.ne_of_lt ld) e0 (fun h' tk a c hk za ta hS=>⟨h',tk,a,c,rfl,rfl,hS,?_⟩)) (fun f s' z=>?_) (fun e s' z=>fin _ _ z)
 ·refine q h' tk a ?_ (fun b u y=>hk b u (Nat.ne_of_lt (Heap.lt_size y)) (Heap.get?_push_of_some _ y)) ta
  refine Nat.le_trans ?_ za
  show s.heap.objs.size<=(s.heap.push _).objs.size
  rw [Heap.size_push]
  exact Nat.le_succ _
 ·cases f with
  | done f=>exact fin _ _ z
  | again c=>exact⟨z.1,codeAny_mono z.2 fun r s2 y=>fin r s2 y⟩
theorem zf6{r:Addr}{Q:Value->Shared->Prop}(hh:A.handled=none)(hv:s.heap.IsItemsView r d)(e:s.heap.get? d=some o)(x:o.ExactDict)(dd:o.data=.dict #[en] ep)
  (q:∀(h':Heap) (tk:Nat) (a l:Addr) (n:Nat),s.heap.objs.size<=a->a < l->(∀b u,s.heap.get? b=some u->h'.get? b=some u)->h'.get? a=some (zy5 en)->h'.get? l=some (seqObj "list" #[.ref a] n)->Q (.ref l) {s with heap:=h',toks:=tk}):wpAny (model prog w) A (call (.builtin "sorted") [.ref r]) Q E s:=by
 refine Calls.call_function_entry kind_sorted plain_sorted entry_sorted (args_sorted1 _) ?_
 unfold Builtin.«sorted»
 refine wpAny_bind (m:=checkCount "sorted" 1 1 _) (wpAny_pure (wpAny_bind (zpa (by simpa using hh) hv e x dd fun h1 tk1 a z1 k1 t1=>?_)))
 refine wpAny_bind (wpAny_newList ?_ (show 1<=sizeLine by decide))
 have eL:(h1.push (seqObj "list" #[.ref a] 0)).get? h1.objs.size=some (seqObj "list" #[.ref a] 0):=Heap.get?_push_size _ rfl
 refine wpAny_bind (wpAny_holding (wpAny_call_entry slot_list_sort ⟨_,eL,rfl⟩ entry_list_sort (zaz (vs:=[.ref a]) (r:=fun i=>i) eL (show 1 < 64 by decide) (fun i j _ _ h=>h) (fun h2 h' kp=>?_) fun p P1 P2=>⟨_,rfl,?_⟩) (args_list_sort _)))
 ·exact absurd h2 (show ¬ 2<=1 by decide)
 ·refine wpAny_pure ⟨_,rfl,?_⟩
  have ep:p.toList=[0]:=List.perm_singleton.mp P1.pm
  rw [ep]
  obtain⟨n,en'⟩:=sortedHeap_at (vs:=[.ref a]) (out:=#[.ref a]) eL
  have old:∀b u,h1.get? b=some u->(sortedHeap (h1.push (seqObj "list" #[.ref a] 0)) h1.objs.size [.ref a] #[.ref a]).get? b=some u:=fun b u hu=>by
   have lb:=Heap.lt_size hu
   rw [sortedHeap_old (Nat.ne_of_lt lb) (by rw [size_push']; exact Nat.lt_succ_of_lt lb)]
   exact Heap.get?_push_of_some _ hu
  exact q _ tk1 a h1.objs.size n z1 (Heap.lt_size t1) (fun b u hu=>old b u (k1 b u hu)) (old _ _ t1) en'
end
end L2
set_option Elab.async false
set_option linter.all false
set_option maxRecDepth 100000
namespace L2
open PySem PySem.Spec PyProof.Rows PySem.W
def zu4:V->Hp->VK->Prop:=fun x H Q=>∃(d:Addr) (kvs:List (List Key×V)),x=.ref d/\H d=some (.dT kvs)/\∀p,H p=none->Q (.ref p) (upd H p (z9z p d))
def ztl(td:TE):TE:=fun σ H Q=>td σ H fun x H1=>zu4 x H1 Q
def q0k:List V->Hp->VK->Prop:=fun xs H Q=>∃(v d:Addr) (k:List Int) (y:Int),xs=[.ref v]/\H v=some (z9z v d)/\H d=some (.dT [(k.map Sum.inl,V.int y)])/\
 ∀(l:Addr) (H':Hp) (ws:List V),Same H H'->H l=none->H' l=some (.lst ws)->DtA H' ws [.tup [.tup (k.map Dm.int),.int y]]->Q (.ref l) H'
section
variable{X:Cx}
set_option maxHeartbeats 4000000 in
theorem zun{o:Expr}{apos cpos:Pos}{td:TE}(ho:PE X o td) (hbase:attributeBase o "items" X.env (eval o X.env)=eval o X.env:=by rfl)
  (hfew:((backTo cpos (starEach [] X.env)).all (fun x=>!x.1) && (backToKw cpos (keywordEach [] X.env)).all (fun x=>x.1.isSome)
   && decide (([]:List Expr).length+([]:List Keyword).length+(if([]:List Keyword).isEmpty then 0 else 1) < 30))=true:=by rfl)
  (hline:(apos.endLine == cpos.line)=true:=by rfl):PE X (.Call (.Attribute o "items" apos) [] [] cpos) (ztl td):=by
 refine⟨?_⟩
 intro pins s σ H Q I h
 refine wpAny_Call_method hbase hfew hline PySem.F.plainAttrs_dict PySem.F.slot_dict_items PySem.F.type_dict_items (thn (ho pins s σ H _ I h) fun u s1 ⟨x,H1,I1,rx,q1⟩=>?_)
 obtain⟨d,kvs,rfl,hH,q⟩:=q1
 obtain rfl:u=Value.ref d:=rx
 obtain⟨t1,t2,_⟩:=zvl I1 (.inr ⟨kvs,.inl hH⟩)
 refine⟨t1,t2,?_⟩
 refine Calls.callWith_builtin rfl (PyProof.Rows.evalArgs_nil3 ?_)
 obtain⟨z,lo,ys,rel,ob,es,ep,hob,hx,hd,hes,hn⟩:=(show ObjOk X.prog X.w H1 s1.heap d (.dT kvs) from I1.hok d _ hH)
 have hT:s1.TypeIs (.ref d) "dict":=⟨_,hob,hx.1⟩
 refine wpAny_call_entry F.slot_dict_items hT F.entry_dict_items ?_ (F.args_dict_items_1 _)
 unfold Builtin.«dict.items»
 wp_walk
 rw [hx.1,if_neg (by decide)]
 wp_walk
 have e:=Heap.get?_push_size s1.heap (o:={cls:=.type "dict_items",data:=.fields #[.ref d]}) rfl
 exact⟨_,rfl,.ref s1.heap.objs.size,_,I1.laid (t':=s1.toks) (fun b u q=>Heap.get?_push_of_some _ q) (Nat.le_refl _) (show ObjOk X.prog X.w _ _ _ (z9z s1.heap.objs.size d) from⟨⟨_,e,rfl,rfl⟩,⟨_,e⟩,fun h1 h2 ⟨o,e1,r⟩ y=>⟨o,y _ e1,r⟩⟩),rfl,q _ (I1.hok.fresh (Nat.le_refl _))⟩
theorem znb(hc:X.calm=true):CallR X (.builtin "sorted") q0k:=by
 intro pins s σ H xs us Q I r h
 obtain⟨v,d,k,y,rfl,hv,hd,q⟩:=h
 obtain⟨u,rfl,r1⟩:=r.one
 cases r1
 have view:s.heap.IsItemsView v d:=(show ObjOk X.prog X.w H s.heap v (z9z v d) from I.hok v _ hv).1
 obtain⟨z,lo,ys,rel,o,es,ep,ho,hx,hdd,hes,hn⟩:=(show ObjOk X.prog X.w H s.heap d (.dT _) from I.hok d _ hd)
 rcases rel with _ | ⟨⟨e1,e2,e3⟩,t⟩
 cases t
 rename_i qd
 obtain⟨kk,b,u⟩:=qd
 obtain rfl:k.map Sum.inl=kk:=e1
 obtain⟨t,rfl⟩:=(show ∃t,u=Value.int y t from e3)
 have e2:H b=some (.tup ((k.map Sum.inl).map kV)):=e2
 have hes':es = #[entryOfKey (tupleKind (z1k X.prog X.w)) (k.map Sum.inl,b,.int y t)]:=by
  apply Array.ext'
  rw [hes]
  rfl
 subst hes'
 refine zf6 (I.ok.hd hc) view ho hx hdd fun h' tk a l n za al k1 ta tl=>?_
 have nb:a≠l:=Nat.ne_of_lt al
 have ltA:∀c u,H c=some u->c < a:=fun c u e=>Nat.lt_of_lt_of_le (I.hok c u e).lt za
 have low:∀c,c < s.heap.objs.size->upd (upd H a (.tup [.ref b,.int y])) l (.lst [.ref a]) c=H c:=fun c hc=>by
  rw [z0b (Nat.ne_of_lt (Nat.lt_trans (Nat.lt_of_lt_of_le hc za) al)),z0b (Nat.ne_of_lt (Nat.lt_of_lt_of_le hc za))]
 have sm:Same H (upd (upd H a (.tup [.ref b,.int y])) l (.lst [.ref a])):=fun c u e=>by rw [low c (I.hok c u e).lt]; exact e
 have ea:upd (upd H a (.tup [.ref b,.int y])) l (.lst [.ref a]) a=some (.tup [.ref b,.int y]):=by rw [z0b nb,z01]
 refine⟨.ref l,_,I.grow (t':=tk) k1 sm (fun c hc e=>(low c hc).trans e) (fun c u e1 e2=>?_),rfl,q l _ _ sm (I.hok.fresh (Nat.le_of_lt (Nat.lt_of_le_of_lt za al))) z01 ?_⟩
 ·by_cases hc:c=l
  ·subst hc
   rw [z01] at e2
   cases e2
   exact⟨show 1<=sizeLine by decide,[.ref a],n,.cons rfl .nil,by simpa [seqObj] using tl⟩
  ·rw [z0b hc] at e2
   by_cases hc2:c=a
   ·subst hc2
    rw [z01] at e2
    cases e2
    exact⟨zpg,[.ref b,.int y t],.cons rfl (.cons ⟨t,rfl⟩ .nil),⟨_,ta,rfl,0,rfl⟩⟩
   ·rw [z0b hc2,e1] at e2
    cases e2
 ·refine .cons (.tup ea (.cons (.tup (sm _ _ e2) ?_) (.cons (.int _) .nil))) .nil
  rw [List.map_map]
  exact zh3 (g:=Dm.int) fun i _=>.int i
end
end L2
set_option maxHeartbeats 0
namespace SR
open PySem L2
abbrev CDF(x:Str):Prop:=(x == ("__classdict__" : Str))=false
abbrev DBF(x:Str):Prop:=(x == ("__debug__" : Str))=false
abbrev GLF(s:Stmt)(x:Str):Prop:=(defScope s).names.lookup x=some NameKind.globalImplicit
def top(i:Nat):Stmt:=PySem.Challenge.pw_smallrooms_k82_whole_told_lists.main.body.getD i (.Pass ⟨0,0,0,0⟩)
theorem q1y:bootBuiltins "bool" = some (.type "bool"):=by decide+kernel
theorem q1x:bootBuiltins "dict" = some (.type "dict"):=by decide+kernel
theorem q50:bootBuiltins "int" = some (.type "int"):=by decide+kernel
theorem z6g:bootBuiltins "isinstance" = some (.builtin "isinstance"):=by decide+kernel
theorem zg7:bootBuiltins "len" = some (.builtin "len"):=by decide+kernel
theorem zx0:bootBuiltins "list" = some (.type "list"):=by decide+kernel
theorem q4z:bootBuiltins "max" = some (.builtin "max"):=by decide+kernel
theorem q4y:bootBuiltins "min" = some (.builtin "min"):=by decide+kernel
theorem q4x:bootBuiltins "set" = some (.type "set"):=by decide+kernel
theorem zeo:bootBuiltins "sorted" = some (.builtin "sorted"):=by decide+kernel
theorem zen:bootBuiltins "tuple" = some (.type "tuple"):=by decide+kernel
theorem z12:CDF "_law_at":=by decide+kernel
theorem z36:CDF "_law_base":=by decide+kernel
theorem zbn:CDF "_law_body":=by decide+kernel
theorem zg6:CDF "_law_deed":=by decide+kernel
theorem z6e:CDF "_law_deeds":=by decide+kernel
theorem z2d:CDF "_law_deep":=by decide+kernel
theorem z9v:CDF "_law_drawn":=by decide+kernel
theorem zkw:CDF "_law_first":=by decide+kernel
theorem zna:CDF "_law_goal":=by decide+kernel
theorem z4q:CDF "_law_good":=by decide+kernel
theorem zn9:CDF "_law_high":=by decide+kernel
theorem zd3:CDF "_law_ins":=by decide+kernel
theorem z40:CDF "_law_k":=by decide+kernel
theorem zn8:CDF "_law_kept":=by decide+kernel
theorem z0p:CDF "_law_known":=by decide+kernel
theorem z9u:CDF "_law_low":=by decide+kernel
theorem zn7:CDF "_law_many":=by decide+kernel
theorem zn6:CDF "_law_mine":=by decide+kernel
theorem zn5:CDF "_law_more":=by decide+kernel
theorem zbm:CDF "_law_most":=by decide+kernel
theorem z5n:CDF "_law_name":=by decide+kernel
theorem z77:CDF "_law_one":=by decide+kernel
theorem z1c:CDF "_law_program_here":=by decide+kernel
theorem zpc:CDF "_law_row":=by decide+kernel
theorem z08:CDF "_law_script":=by decide+kernel
theorem zj3:CDF "_law_second":=by decide+kernel
theorem zbl:CDF "_law_told":=by decide+kernel
theorem z6d:CDF "_law_trace":=by decide+kernel
theorem zd2:CDF "_law_way":=by decide+kernel
theorem zkv:CDF "_law_words":=by decide+kernel
theorem zku:CDF "_law_yours":=by decide+kernel
theorem q4v:CDF "at":=by decide+kernel
theorem zqw:CDF "block":=by decide+kernel
theorem zsy:CDF "come_in":=by decide+kernel
theorem z1p:CDF "deed":=by decide+kernel
theorem zg5:CDF "deed_path":=by decide+kernel
theorem zwu:CDF "done":=by decide+kernel
theorem zem:CDF "had":=by decide+kernel
theorem q1v:CDF "high":=by decide+kernel
theorem zza:CDF "inner":=by decide+kernel
theorem q02:CDF "ins":=by decide+kernel
theorem q4u:CDF "low":=by decide+kernel
theorem zd1:CDF "many":=by decide+kernel
theorem zwt:CDF "name":=by decide+kernel
theorem z2m:CDF "names":=by decide+kernel
theorem zws:CDF "number":=by decide+kernel
theorem zbk:CDF "one":=by decide+kernel
theorem z4e:CDF "other":=by decide+kernel
theorem z1b:CDF "path":=by decide+kernel
theorem z2p:CDF "program":=by decide+kernel
theorem z6j:CDF "refusal":=by decide+kernel
theorem zqv:CDF "row":=by decide+kernel
theorem zbj:CDF "rows":=by decide+kernel
theorem q1u:CDF "seen":=by decide+kernel
theorem z3o:CDF "self":=by decide+kernel
theorem z23:CDF "settle":=by decide+kernel
theorem z3z:CDF "term":=by decide+kernel
theorem z9t:CDF "thing":=by decide+kernel
theorem zd0:CDF "word":=by decide+kernel
theorem z7g:CDF "worth":=by decide+kernel
theorem z8v:CDF "worths":=by decide+kernel
theorem zz6:DBF "Trace":=by decide+kernel
theorem zwi:DBF "WIDE":=by decide+kernel
theorem z11:DBF "_law_at":=by decide+kernel
theorem z35:DBF "_law_base":=by decide+kernel
theorem z6c:DBF "_law_block":=by decide+kernel
theorem zbf:DBF "_law_body":=by decide+kernel
theorem zn1:DBF "_law_cell":=by decide+kernel
theorem zi9:DBF "_law_counted":=by decide+kernel
theorem zg4:DBF "_law_deed":=by decide+kernel
theorem z6b:DBF "_law_deeds":=by decide+kernel
theorem z2c:DBF "_law_deep":=by decide+kernel
theorem z9s:DBF "_law_drawn":=by decide+kernel
theorem zkt:DBF "_law_first":=by decide+kernel
theorem zn0:DBF "_law_goal":=by decide+kernel
theorem z4o:DBF "_law_good":=by decide+kernel
theorem zmz:DBF "_law_high":=by decide+kernel
theorem zcz:DBF "_law_ins":=by decide+kernel
theorem z3y:DBF "_law_k":=by decide+kernel
theorem zmy:DBF "_law_kept":=by decide+kernel
theorem z0o:DBF "_law_known":=by decide+kernel
theorem z9r:DBF "_law_low":=by decide+kernel
theorem zmx:DBF "_law_many":=by decide+kernel
theorem zmw:DBF "_law_mine":=by decide+kernel
theorem zmv:DBF "_law_more":=by decide+kernel
theorem zbe:DBF "_law_most":=by decide+kernel
theorem z5m:DBF "_law_name":=by decide+kernel
theorem z71:DBF "_law_one":=by decide+kernel
theorem z0u:DBF "_law_pick":=by decide+kernel
theorem zi8:DBF "_law_program":=by decide+kernel
theorem z1a:DBF "_law_program_here":=by decide+kernel
theorem zp7:DBF "_law_row":=by decide+kernel
theorem z07:DBF "_law_script":=by decide+kernel
theorem zj2:DBF "_law_second":=by decide+kernel
theorem z43:DBF "_law_stays":=by decide+kernel
theorem z70:DBF "_law_sum":=by decide+kernel
theorem zbd:DBF "_law_told":=by decide+kernel
theorem z6a:DBF "_law_trace":=by decide+kernel
theorem zcy:DBF "_law_way":=by decide+kernel
theorem zks:DBF "_law_words":=by decide+kernel
theorem zj1:DBF "_law_worths":=by decide+kernel
theorem zkr:DBF "_law_yours":=by decide+kernel
theorem zbc:DBF "all_deeds":=by decide+kernel
theorem q4q:DBF "at":=by decide+kernel
theorem zqp:DBF "block":=by decide+kernel
theorem zmu:DBF "blocks_of":=by decide+kernel
theorem q1s:DBF "bool":=by decide+kernel
theorem zss:DBF "come_in":=by decide+kernel
theorem z1o:DBF "deed":=by decide+kernel
theorem zg3:DBF "deed_path":=by decide+kernel
theorem z8s:DBF "deeds_of_block":=by decide+kernel
theorem q1r:DBF "dict":=by decide+kernel
theorem z9q:DBF "do_block":=by decide+kernel
theorem zsr:DBF "do_deed":=by decide+kernel
theorem zz4:DBF "do_if":=by decide+kernel
theorem zwh:DBF "do_set":=by decide+kernel
theorem zp6:DBF "do_while":=by decide+kernel
theorem zwg:DBF "done":=by decide+kernel
theorem zei:DBF "had":=by decide+kernel
theorem q1q:DBF "high":=by decide+kernel
theorem zz3:DBF "inner":=by decide+kernel
theorem q01:DBF "ins":=by decide+kernel
theorem q4p:DBF "int":=by decide+kernel
theorem zj0:DBF "is_tuple_of":=by decide+kernel
theorem zp5:DBF "is_whole":=by decide+kernel
theorem zgq:DBF "is_whole_from":=by decide+kernel
theorem z69:DBF "isinstance":=by decide+kernel
theorem zg2:DBF "len":=by decide+kernel
theorem zwf:DBF "list":=by decide+kernel
theorem q4o:DBF "low":=by decide+kernel
theorem zcx:DBF "many":=by decide+kernel
theorem q4n:DBF "max":=by decide+kernel
theorem q4m:DBF "min":=by decide+kernel
theorem zwe:DBF "name":=by decide+kernel
theorem z2l:DBF "names":=by decide+kernel
theorem zfs:DBF "names_at_first":=by decide+kernel
theorem zp4:DBF "names_in":=by decide+kernel
theorem zwd:DBF "number":=by decide+kernel
theorem zbb:DBF "one":=by decide+kernel
theorem z4d:DBF "other":=by decide+kernel
theorem z19:DBF "path":=by decide+kernel
theorem z2o:DBF "program":=by decide+kernel
theorem zba:DBF "reckon":=by decide+kernel
theorem z6i:DBF "refusal":=by decide+kernel
theorem zqo:DBF "row":=by decide+kernel
theorem zb9:DBF "rows":=by decide+kernel
theorem zwc:DBF "run_by":=by decide+kernel
theorem q1p:DBF "seen":=by decide+kernel
theorem z3n:DBF "self":=by decide+kernel
theorem q4l:DBF "set":=by decide+kernel
theorem zwb:DBF "set_at":=by decide+kernel
theorem z22:DBF "settle":=by decide+kernel
theorem zeh:DBF "sorted":=by decide+kernel
theorem zkq:DBF "spots":=by decide+kernel
theorem z5y:DBF "spots_of_term":=by decide+kernel
theorem z3x:DBF "term":=by decide+kernel
theorem zsp:DBF "term_of":=by decide+kernel
theorem z9p:DBF "thing":=by decide+kernel
theorem zwa:DBF "traced":=by decide+kernel
theorem zeg:DBF "tuple":=by decide+kernel
theorem zso:DBF "used_at":=by decide+kernel
theorem zcw:DBF "word":=by decide+kernel
theorem zp3:DBF "words_in":=by decide+kernel
theorem z7f:DBF "worth":=by decide+kernel
theorem zp2:DBF "worth_of":=by decide+kernel
theorem z8r:DBF "worths":=by decide+kernel
theorem q17:("bool" : Str)≠"__name__":=by decide+kernel
theorem q16:("dict" : Str)≠"__name__":=by decide+kernel
theorem q3s:("int" : Str)≠"__name__":=by decide+kernel
theorem z66:("isinstance" : Str)≠"__name__":=by decide+kernel
theorem zfy:("len" : Str)≠"__name__":=by decide+kernel
theorem zv2:("list" : Str)≠"__name__":=by decide+kernel
theorem q3r:("max" : Str)≠"__name__":=by decide+kernel
theorem q3q:("min" : Str)≠"__name__":=by decide+kernel
theorem q3p:("set" : Str)≠"__name__":=by decide+kernel
theorem zdw:("sorted" : Str)≠"__name__":=by decide+kernel
theorem zdv:("tuple" : Str)≠"__name__":=by decide+kernel
abbrev q6d:Stmt:=top 0
abbrev z5c:Stmt:=top 3
theorem sc_spots:FnScope ["program","rows","path","deed"] ["program"] (defScope z5c):=⟨rfl,rfl,rfl,by decide+kernel,rfl,by decide+kernel,by decide+kernel⟩
theorem ze5:GLF z5c "all_deeds":=by decide+kernel
theorem zaa:GLF z5c "spots_of_term":=by decide+kernel
theorem zgk:GLF z5c "term_of":=by decide+kernel
theorem ziv:Loc (defScope z5c) "deed":=Or.inl (by decide+kernel)
theorem ziu:Loc (defScope z5c) "path":=Or.inl (by decide+kernel)
theorem zit:Loc (defScope z5c) "rows":=Or.inl (by decide+kernel)
theorem zil:Vis (defScope z5c) "deed":=Or.inl (by decide+kernel)
theorem zik:Vis (defScope z5c) "path":=Or.inl (by decide+kernel)
theorem zet:Vis (defScope z5c) "program":=Or.inl (by decide+kernel)
theorem zci:Vis (defScope z5c) "rows":=Or.inl (by decide+kernel)
abbrev z5d:Stmt:=top 4
theorem zo6:FnScope ["thing"] ["thing"] (defScope z5d):=⟨rfl,rfl,rfl,by decide+kernel,rfl,by decide+kernel,by decide+kernel⟩
theorem zgm:GLF z5d "bool":=by decide+kernel
theorem zi0:GLF z5d "int":=by decide+kernel
theorem z57:GLF z5d "isinstance":=by decide+kernel
theorem z7b:Vis (defScope z5d) "thing":=Or.inl (by decide+kernel)
abbrev z2j:Stmt:=top 5
theorem zgb:FnScope ["thing","low","high"] ["thing","low","high"] (defScope z2j):=⟨rfl,rfl,rfl,by decide+kernel,rfl,by decide+kernel,by decide+kernel⟩
theorem z7z:GLF z2j "is_whole":=by decide+kernel
theorem za4:Vis (defScope z2j) "high":=Or.inl (by decide+kernel)
theorem zac:Vis (defScope z2j) "low":=Or.inl (by decide+kernel)
theorem z3a:Vis (defScope z2j) "thing":=Or.inl (by decide+kernel)
abbrev z2s:Stmt:=top 6
theorem zio:FnScope ["thing","many"] ["thing","many"] (defScope z2s):=⟨rfl,rfl,rfl,by decide+kernel,rfl,by decide+kernel,by decide+kernel⟩
theorem z80:GLF z2s "isinstance":=by decide+kernel
theorem zed:GLF z2s "len":=by decide+kernel
theorem zcd:GLF z2s "tuple":=by decide+kernel
theorem zc2:Vis (defScope z2s) "many":=Or.inl (by decide+kernel)
theorem z5i:Vis (defScope z2s) "thing":=Or.inl (by decide+kernel)
abbrev zdk:Stmt:=top 7
theorem zrn:FnScope ["deed"] ["deed"] (defScope zdk):=⟨rfl,rfl,rfl,by decide+kernel,rfl,by decide+kernel,by decide+kernel⟩
theorem z5p:Vis (defScope zdk) "deed":=Or.inl (by decide+kernel)
abbrev z95:Stmt:=top 8
theorem zln:FnScope ["deed"] ["deed"] (defScope z95):=⟨rfl,rfl,rfl,by decide+kernel,rfl,by decide+kernel,by decide+kernel⟩
theorem z2q:Vis (defScope z95) "deed":=Or.inl (by decide+kernel)
abbrev z6r:Stmt:=top 9
theorem zlo:FnScope ["program"] ["program"] (defScope z6r):=⟨rfl,rfl,rfl,by decide+kernel,rfl,by decide+kernel,by decide+kernel⟩
theorem z6x:GLF z6r "deeds_of_block":=by decide+kernel
theorem zaf:Vis (defScope z6r) "program":=Or.inl (by decide+kernel)
abbrev z0d:Stmt:=top 10
theorem sc_deeds_of_block:FnScope ["block","path","rows","at","deed","deed_path","number","inner"] ["block","path"] (defScope z0d):=⟨rfl,rfl,rfl,by decide+kernel,rfl,by decide+kernel,by decide+kernel⟩
theorem z6w:GLF z0d "blocks_of":=by decide+kernel
theorem z52:GLF z0d "deeds_of_block":=by decide+kernel
theorem z6v:GLF z0d "enumerate":=by decide+kernel
theorem zaw:Loc (defScope z0d) "at":=Or.inl (by decide+kernel)
theorem z9j:Loc (defScope z0d) "deed":=Or.inl (by decide+kernel)
theorem z67:Loc (defScope z0d) "deed_path":=Or.inl (by decide+kernel)
theorem z8k:Loc (defScope z0d) "inner":=Or.inl (by decide+kernel)
theorem z7w:Loc (defScope z0d) "number":=Or.inl (by decide+kernel)
theorem z9i:Loc (defScope z0d) "rows":=Or.inl (by decide+kernel)
theorem zae:Vis (defScope z0d) "at":=Or.inl (by decide+kernel)
theorem z87:Vis (defScope z0d) "block":=Or.inl (by decide+kernel)
theorem z4u:Vis (defScope z0d) "deed":=Or.inl (by decide+kernel)
theorem z3p:Vis (defScope z0d) "deed_path":=Or.inl (by decide+kernel)
theorem z86:Vis (defScope z0d) "inner":=Or.inl (by decide+kernel)
theorem z7p:Vis (defScope z0d) "number":=Or.inl (by decide+kernel)
theorem z91:Vis (defScope z0d) "path":=Or.inl (by decide+kernel)
theorem z3b:Vis (defScope z0d) "rows":=Or.inl (by decide+kernel)
abbrev z2i:Stmt:=top 11
theorem zga:FnScope ["term","path"] ["term","path"] (defScope z2i):=⟨rfl,rfl,rfl,by decide+kernel,rfl,by decide+kernel,by decide+kernel⟩
theorem z34:GLF z2i "spots_of_term":=by decide+kernel
theorem z2k:Vis (defScope z2i) "path":=Or.inl (by decide+kernel)
theorem z1e:Vis (defScope z2i) "term":=Or.inl (by decide+kernel)
abbrev z41:Stmt:=top 13
theorem sc_names_in:FnScope ["program","come_in"] ["program"] (defScope z41):=⟨rfl,rfl,rfl,by decide+kernel,rfl,by decide+kernel,by decide+kernel⟩
theorem zb1:GLF z41 "all_deeds":=by decide+kernel
theorem zhz:GLF z41 "set":=by decide+kernel
theorem ze8:GLF z41 "sorted":=by decide+kernel
theorem zc3:Loc (defScope z41) "come_in":=Or.inl (by decide+kernel)
theorem zby:Vis (defScope z41) "come_in":=Or.inl (by decide+kernel)
theorem z5z:Vis (defScope z41) "program":=Or.inl (by decide+kernel)
abbrev zdl:Stmt:=top 14
theorem ztz:FnScope ["program","name"] ["program","name"] (defScope zdl):=⟨rfl,rfl,rfl,by decide+kernel,rfl,by decide+kernel,by decide+kernel⟩
theorem zcp:GLF zdl "all_deeds":=by decide+kernel
theorem zd6:Vis (defScope zdl) "program":=Or.inl (by decide+kernel)
abbrev zao:Stmt:=top 15
theorem zrm:FnScope ["program","name"] ["program","name"] (defScope zao):=⟨rfl,rfl,rfl,by decide+kernel,rfl,by decide+kernel,by decide+kernel⟩
theorem zgi:GLF zao "spots":=by decide+kernel
theorem zcl:Vis (defScope zao) "program":=Or.inl (by decide+kernel)
abbrev z31:Stmt:=top 17
theorem sc_words_in:FnScope ["program","many","path","term"] ["program"] (defScope z31):=⟨rfl,rfl,rfl,by decide+kernel,rfl,by decide+kernel,by decide+kernel⟩
theorem ze4:GLF z31 "sorted":=by decide+kernel
theorem zfm:GLF z31 "spots":=by decide+kernel
theorem zfj:Loc (defScope z31) "many":=Or.inl (by decide+kernel)
theorem zfi:Loc (defScope z31) "path":=Or.inl (by decide+kernel)
theorem zfh:Loc (defScope z31) "term":=Or.inl (by decide+kernel)
theorem z58:Vis (defScope z31) "many":=Or.inl (by decide+kernel)
theorem zbx:Vis (defScope z31) "program":=Or.inl (by decide+kernel)
theorem z82:Vis (defScope z31) "term":=Or.inl (by decide+kernel)
abbrev z2r:Stmt:=top 23
theorem sc_traced:FnScope ["program","worths","rows"] ["program","worths"] (defScope z2r):=⟨rfl,rfl,rfl,by decide+kernel,rfl,by decide+kernel,by decide+kernel⟩
theorem zgr:(defScope z2r).names.lookup ("rows" : Str)=some NameKind.cell:=by decide+kernel
theorem zgj:GLF z2r "run_by":=by decide+kernel
theorem zhl:Loc (defScope z2r) "rows":=Or.inr (by decide+kernel)
theorem zd5:Vis (defScope z2r) "program":=Or.inl (by decide+kernel)
theorem zh4:Vis (defScope z2r) "rows":=Or.inr <| Or.inl (by decide+kernel)
theorem zes:Vis (defScope z2r) "worths":=Or.inl (by decide+kernel)
abbrev z3q:Stmt:=top 24
theorem sc_run_by:FnScope ["program","worths","settle","names","refusal"] ["program","worths","settle"] (defScope z3q):=⟨rfl,rfl,rfl,by decide+kernel,rfl,by decide+kernel,by decide+kernel⟩
theorem ze6:GLF z3q "do_block":=by decide+kernel
theorem z8l:GLF z3q "names_at_first":=by decide+kernel
theorem zgl:GLF z3q "sorted":=by decide+kernel
theorem zhy:GLF z3q "tuple":=by decide+kernel
theorem zge:Loc (defScope z3q) "names":=Or.inl (by decide+kernel)
theorem ze1:Loc (defScope z3q) "refusal":=Or.inl (by decide+kernel)
theorem z9x:Vis (defScope z3q) "names":=Or.inl (by decide+kernel)
theorem z79:Vis (defScope z3q) "program":=Or.inl (by decide+kernel)
theorem z78:Vis (defScope z3q) "refusal":=Or.inl (by decide+kernel)
theorem zev:Vis (defScope z3q) "settle":=Or.inl (by decide+kernel)
theorem zeu:Vis (defScope z3q) "worths":=Or.inl (by decide+kernel)
abbrev z6p:Stmt:=top 25
theorem zro:FnScope ["worth","path","rows"] ["worth","path","rows"] (defScope z6p):=⟨rfl,rfl,rfl,by decide+kernel,rfl,by decide+kernel,by decide+kernel⟩
theorem zb0:GLF z6p "WIDE":=by decide+kernel
theorem z5q:Vis (defScope z6p) "path":=Or.inl (by decide+kernel)
theorem zg9:Vis (defScope z6p) "rows":=Or.inl (by decide+kernel)
theorem z2y:Vis (defScope z6p) "worth":=Or.inl (by decide+kernel)
abbrev z0k:Stmt:=top 26
theorem sc_names_at_first:FnScope ["ins","worths","names","row","worth"] ["ins","worths"] (defScope z0k):=⟨rfl,rfl,rfl,by decide+kernel,rfl,by decide+kernel,by decide+kernel⟩
theorem z5x:GLF z0k "is_tuple_of":=by decide+kernel
theorem z5f:GLF z0k "is_whole_from":=by decide+kernel
theorem zb3:GLF z0k "len":=by decide+kernel
theorem zb2:GLF z0k "zip":=by decide+kernel
theorem z8d:Loc (defScope z0k) "names":=Or.inl (by decide+kernel)
theorem za6:Loc (defScope z0k) "row":=Or.inl (by decide+kernel)
theorem z8c:Loc (defScope z0k) "worth":=Or.inl (by decide+kernel)
theorem z53:Vis (defScope z0k) "ins":=Or.inl (by decide+kernel)
theorem z4i:Vis (defScope z0k) "names":=Or.inl (by decide+kernel)
theorem z3j:Vis (defScope z0k) "row":=Or.inl (by decide+kernel)
theorem z4h:Vis (defScope z0k) "worth":=Or.inl (by decide+kernel)
theorem z47:Vis (defScope z0k) "worths":=Or.inl (by decide+kernel)
abbrev z1r:Stmt:=top 27
theorem sc_do_block:FnScope ["block","path","names","settle","at","deed","refusal"] ["block","path","names","settle"] (defScope z1r):=⟨rfl,rfl,rfl,by decide+kernel,rfl,by decide+kernel,by decide+kernel⟩
theorem zct:GLF z1r "do_deed":=by decide+kernel
theorem zb6:GLF z1r "enumerate":=by decide+kernel
theorem zhm:Loc (defScope z1r) "at":=Or.inl (by decide+kernel)
theorem zfl:Loc (defScope z1r) "deed":=Or.inl (by decide+kernel)
theorem zc8:Loc (defScope z1r) "refusal":=Or.inl (by decide+kernel)
theorem zh6:Vis (defScope z1r) "at":=Or.inl (by decide+kernel)
theorem zd8:Vis (defScope z1r) "block":=Or.inl (by decide+kernel)
theorem zey:Vis (defScope z1r) "deed":=Or.inl (by decide+kernel)
theorem zd7:Vis (defScope z1r) "names":=Or.inl (by decide+kernel)
theorem zex:Vis (defScope z1r) "path":=Or.inl (by decide+kernel)
theorem z61:Vis (defScope z1r) "refusal":=Or.inl (by decide+kernel)
theorem zcm:Vis (defScope z1r) "settle":=Or.inl (by decide+kernel)
abbrev z3v:Stmt:=top 28
theorem zrp:FnScope ["deed","path","names","settle"] ["deed","path","names","settle"] (defScope z3v):=⟨rfl,rfl,rfl,by decide+kernel,rfl,by decide+kernel,by decide+kernel⟩
theorem zgo:GLF z3v "do_if":=by decide+kernel
theorem zfn:GLF z3v "do_set":=by decide+kernel
theorem zcs:GLF z3v "do_while":=by decide+kernel
theorem z3g:Vis (defScope z3v) "deed":=Or.inl (by decide+kernel)
theorem z5b:Vis (defScope z3v) "names":=Or.inl (by decide+kernel)
theorem z5u:Vis (defScope z3v) "path":=Or.inl (by decide+kernel)
theorem z4t:Vis (defScope z3v) "settle":=Or.inl (by decide+kernel)
abbrev z4v:Stmt:=top 29
theorem sc_do_set:FnScope ["deed","path","names","settle","had"] ["deed","path","names","settle"] (defScope z4v):=⟨rfl,rfl,rfl,by decide+kernel,rfl,by decide+kernel,by decide+kernel⟩
theorem zgn:GLF z4v "reckon":=by decide+kernel
theorem zix:Loc (defScope z4v) "had":=Or.inl (by decide+kernel)
theorem zad:Vis (defScope z4v) "deed":=Or.inl (by decide+kernel)
theorem z7m:Vis (defScope z4v) "had":=Or.inl (by decide+kernel)
theorem z9y:Vis (defScope z4v) "names":=Or.inl (by decide+kernel)
theorem zh5:Vis (defScope z4v) "path":=Or.inl (by decide+kernel)
theorem zew:Vis (defScope z4v) "settle":=Or.inl (by decide+kernel)
abbrev z5v:Stmt:=top 30
theorem sc_do_if:FnScope ["deed","path","names","settle","had"] ["deed","path","names","settle"] (defScope z5v):=⟨rfl,rfl,rfl,by decide+kernel,rfl,by decide+kernel,by decide+kernel⟩
theorem z8n:GLF z5v "do_block":=by decide+kernel
theorem zi1:GLF z5v "reckon":=by decide+kernel
theorem zkc:Loc (defScope z5v) "had":=Or.inl (by decide+kernel)
theorem z7o:Vis (defScope z5v) "deed":=Or.inl (by decide+kernel)
theorem z90:Vis (defScope z5v) "had":=Or.inl (by decide+kernel)
theorem z6n:Vis (defScope z5v) "names":=Or.inl (by decide+kernel)
theorem z7n:Vis (defScope z5v) "path":=Or.inl (by decide+kernel)
theorem z5t:Vis (defScope z5v) "settle":=Or.inl (by decide+kernel)
abbrev z1q:Stmt:=top 31
theorem sc_do_while:FnScope ["deed","path","names","settle","done","had","refusal"] ["deed","path","names","settle"] (defScope z1q):=⟨rfl,rfl,rfl,by decide+kernel,rfl,by decide+kernel,by decide+kernel⟩
theorem zce:GLF z1q "do_block":=by decide+kernel
theorem zee:GLF z1q "reckon":=by decide+kernel
theorem z8j:Loc (defScope z1q) "done":=Or.inl (by decide+kernel)
theorem zgg:Loc (defScope z1q) "had":=Or.inl (by decide+kernel)
theorem zc7:Loc (defScope z1q) "refusal":=Or.inl (by decide+kernel)
theorem z5a:Vis (defScope z1q) "deed":=Or.inl (by decide+kernel)
theorem z85:Vis (defScope z1q) "done":=Or.inl (by decide+kernel)
theorem z5s:Vis (defScope z1q) "had":=Or.inl (by decide+kernel)
theorem z7c:Vis (defScope z1q) "names":=Or.inl (by decide+kernel)
theorem z59:Vis (defScope z1q) "path":=Or.inl (by decide+kernel)
theorem z60:Vis (defScope z1q) "refusal":=Or.inl (by decide+kernel)
theorem z6m:Vis (defScope z1q) "settle":=Or.inl (by decide+kernel)
abbrev z3r:Stmt:=top 32
theorem sc_reckon:FnScope ["term","path","names","settle","one","other"] ["term","path","names","settle"] (defScope z3r):=⟨rfl,rfl,rfl,by decide+kernel,rfl,by decide+kernel,by decide+kernel⟩
theorem za0:GLF z3r "reckon":=by decide+kernel
theorem ze7:GLF z3r "worth_of":=by decide+kernel
theorem ziw:Loc (defScope z3r) "one":=Or.inl (by decide+kernel)
theorem zgf:Loc (defScope z3r) "other":=Or.inl (by decide+kernel)
theorem z5r:Vis (defScope z3r) "names":=Or.inl (by decide+kernel)
theorem z7h:Vis (defScope z3r) "one":=Or.inl (by decide+kernel)
theorem z4c:Vis (defScope z3r) "other":=Or.inl (by decide+kernel)
theorem z2z:Vis (defScope z3r) "path":=Or.inl (by decide+kernel)
theorem z2e:Vis (defScope z3r) "settle":=Or.inl (by decide+kernel)
theorem z1z:Vis (defScope z3r) "term":=Or.inl (by decide+kernel)
abbrev z4k:Stmt:=top 33
theorem zo4:FnScope ["word","one","other"] ["word","one","other"] (defScope z4k):=⟨rfl,rfl,rfl,by decide+kernel,rfl,by decide+kernel,by decide+kernel⟩
theorem zhx:GLF z4k "max":=by decide+kernel
theorem zhw:GLF z4k "min":=by decide+kernel
theorem z1s:Vis (defScope z4k) "one":=Or.inl (by decide+kernel)
theorem z1d:Vis (defScope z4k) "other":=Or.inl (by decide+kernel)
theorem z1y:Vis (defScope z4k) "word":=Or.inl (by decide+kernel)
abbrev z2b:Stmt:=zid (top 35) 0
theorem zjx:FnScope ["self","program","worths"] ["self","program","worths"] (defScope z2b):=⟨rfl,rfl,rfl,by decide+kernel,rfl,by decide+kernel,by decide+kernel⟩
theorem zcg:GLF z2b "traced":=by decide+kernel
theorem z55:Vis (defScope z2b) "program":=Or.inl (by decide+kernel)
theorem z3c:Vis (defScope z2b) "self":=Or.inl (by decide+kernel)
theorem z5j:Vis (defScope z2b) "worths":=Or.inl (by decide+kernel)
abbrev z4m:Stmt:=zid (top 35) 1
theorem zo7:FnScope ["self"] ["self"] (defScope z4m):=⟨rfl,rfl,rfl,by decide+kernel,rfl,by decide+kernel,by decide+kernel⟩
theorem zi2:GLF z4m "len":=by decide+kernel
theorem z2g:Vis (defScope z4m) "self":=Or.inl (by decide+kernel)
abbrev zzj:Stmt:=zid (top 35) 2
abbrev q2e:Stmt:=zid (top 35) 3
abbrev z2a:Stmt:=zid (top 35) 4
theorem zhd:FnScope ["self"] ["self"] (defScope z2a):=⟨rfl,rfl,rfl,by decide+kernel,rfl,by decide+kernel,by decide+kernel⟩
theorem zcu:GLF z2a "len":=by decide+kernel
theorem z3u:Vis (defScope z2a) "self":=Or.inl (by decide+kernel)
abbrev zzi:Stmt:=zid (top 35) 5
abbrev z16:Stmt:=zid (top 35) 6
theorem sc_Trace_tally:FnScope ["self","many","path","worth"] ["self"] (defScope z16):=⟨rfl,rfl,rfl,by decide+kernel,rfl,by decide+kernel,by decide+kernel⟩
theorem zb8:GLF z16 "sorted":=by decide+kernel
theorem zca:Loc (defScope z16) "many":=Or.inl (by decide+kernel)
theorem zc9:Loc (defScope z16) "path":=Or.inl (by decide+kernel)
theorem zay:Loc (defScope z16) "worth":=Or.inl (by decide+kernel)
theorem z45:Vis (defScope z16) "many":=Or.inl (by decide+kernel)
theorem z63:Vis (defScope z16) "path":=Or.inl (by decide+kernel)
theorem z62:Vis (defScope z16) "self":=Or.inl (by decide+kernel)
abbrev z1m:Stmt:=zid (top 35) 7
theorem sc_Trace_unseen:FnScope ["self","seen"] ["self"] (defScope z1m):=⟨rfl,rfl,rfl,by decide+kernel,rfl,by decide+kernel,by decide+kernel⟩
theorem zcf:GLF z1m "dict":=by decide+kernel
theorem zb7:GLF z1m "spots":=by decide+kernel
theorem zax:Loc (defScope z1m) "seen":=Or.inr (by decide+kernel)
theorem z3t:Vis (defScope z1m) "self":=Or.inl (by decide+kernel)
abbrev zu0:Stmt:=zid (top 35) 8
abbrev zx9:Stmt:=zid (top 35) 9
abbrev zzh:Stmt:=zid (top 35) 10
abbrev z6h:Stmt:=top 37
theorem zo5:FnScope ["_law_script","_law_k"] ["_law_script","_law_k"] (defScope z6h):=⟨rfl,rfl,rfl,by decide+kernel,rfl,by decide+kernel,by decide+kernel⟩
theorem zb5:GLF z6h "len":=by decide+kernel
theorem z39:Vis (defScope z6h) "_law_k":=Or.inl (by decide+kernel)
theorem z1i:Vis (defScope z6h) "_law_script":=Or.inl (by decide+kernel)
abbrev z42:Stmt:=top 38
theorem sc_law_pick:FnScope ["_law_script","_law_k","_law_many","_law_drawn"] ["_law_script","_law_k","_law_many"] (defScope z42):=⟨rfl,rfl,rfl,by decide+kernel,rfl,by decide+kernel,by decide+kernel⟩
theorem zb4:GLF z42 "_law_cell":=by decide+kernel
theorem z9d:Loc (defScope z42) "_law_drawn":=Or.inl (by decide+kernel)
theorem z38:Vis (defScope z42) "_law_drawn":=Or.inl (by decide+kernel)
theorem z6k:Vis (defScope z42) "_law_k":=Or.inl (by decide+kernel)
theorem za3:Vis (defScope z42) "_law_many":=Or.inl (by decide+kernel)
theorem z83:Vis (defScope z42) "_law_script":=Or.inl (by decide+kernel)
abbrev z21:Stmt:=top 39
theorem sc_law_sum:FnScope ["_law_script","_law_at","_law_known","_law_deep","_law_way","_law_words","_law_one"] ["_law_script","_law_at","_law_known","_law_deep"] (defScope z21):=⟨rfl,rfl,rfl,by decide+kernel,rfl,by decide+kernel,by decide+kernel⟩
theorem z27:GLF z21 "_law_pick":=by decide+kernel
theorem z6u:GLF z21 "_law_sum":=by decide+kernel
theorem ziy:GLF z21 "len":=by decide+kernel
theorem zc5:Loc (defScope z21) "_law_one":=Or.inl (by decide+kernel)
theorem zc4:Loc (defScope z21) "_law_way":=Or.inl (by decide+kernel)
theorem za7:Loc (defScope z21) "_law_words":=Or.inl (by decide+kernel)
theorem z1h:Vis (defScope z21) "_law_at":=Or.inl (by decide+kernel)
theorem z3s:Vis (defScope z21) "_law_deep":=Or.inl (by decide+kernel)
theorem z1w:Vis (defScope z21) "_law_known":=Or.inl (by decide+kernel)
theorem zc0:Vis (defScope z21) "_law_one":=Or.inl (by decide+kernel)
theorem z0v:Vis (defScope z21) "_law_script":=Or.inl (by decide+kernel)
theorem zbz:Vis (defScope z21) "_law_way":=Or.inl (by decide+kernel)
theorem za2:Vis (defScope z21) "_law_words":=Or.inl (by decide+kernel)
abbrev z0l:Stmt:=top 40
theorem sc_law_counted:FnScope ["_law_script","_law_at","_law_known","_law_body","_law_deep","_law_most","_law_name","_law_goal","_law_more"] ["_law_script","_law_at","_law_known","_law_body","_law_deep"] (defScope z0l):=⟨rfl,rfl,rfl,by decide+kernel,rfl,by decide+kernel,by decide+kernel⟩
theorem z1j:GLF z0l "_law_pick":=by decide+kernel
theorem z9n:GLF z0l "_law_sum":=by decide+kernel
theorem ze9:GLF z0l "len":=by decide+kernel
theorem z7t:Loc (defScope z0l) "_law_goal":=Or.inl (by decide+kernel)
theorem z7s:Loc (defScope z0l) "_law_more":=Or.inl (by decide+kernel)
theorem z4b:Loc (defScope z0l) "_law_most":=Or.inl (by decide+kernel)
theorem z7r:Loc (defScope z0l) "_law_name":=Or.inl (by decide+kernel)
theorem z14:Vis (defScope z0l) "_law_at":=Or.inl (by decide+kernel)
theorem z48:Vis (defScope z0l) "_law_body":=Or.inl (by decide+kernel)
theorem z7k:Vis (defScope z0l) "_law_deep":=Or.inl (by decide+kernel)
theorem z7j:Vis (defScope z0l) "_law_goal":=Or.inl (by decide+kernel)
theorem z2n:Vis (defScope z0l) "_law_known":=Or.inl (by decide+kernel)
theorem z7i:Vis (defScope z0l) "_law_more":=Or.inl (by decide+kernel)
theorem z2u:Vis (defScope z0l) "_law_most":=Or.inl (by decide+kernel)
theorem z2t:Vis (defScope z0l) "_law_name":=Or.inl (by decide+kernel)
theorem z0t:Vis (defScope z0l) "_law_script":=Or.inl (by decide+kernel)
abbrev z0c:Stmt:=top 41
theorem sc_law_block:FnScope ["_law_script","_law_at","_law_known","_law_deep","_law_deeds","_law_k","_law_base","_law_way","_law_name","_law_first","_law_mine","_law_second","_law_yours","_law_body"] ["_law_script","_law_at","_law_known","_law_deep"] (defScope z0c):=⟨rfl,rfl,rfl,by decide+kernel,rfl,by decide+kernel,by decide+kernel⟩
theorem z81:(defScope z0c).names.lookup ("_law_known" : Str)=some NameKind.cell:=by decide+kernel
theorem z3f:GLF z0c "_law_block":=by decide+kernel
theorem z7y:GLF z0c "_law_counted":=by decide+kernel
theorem z3m:GLF z0c "_law_pick":=by decide+kernel
theorem z5l:GLF z0c "_law_sum":=by decide+kernel
theorem zeb:GLF z0c "range":=by decide+kernel
theorem zea:GLF z0c "tuple":=by decide+kernel
theorem z9h:Loc (defScope z0c) "_law_base":=Or.inl (by decide+kernel)
theorem z9g:Loc (defScope z0c) "_law_body":=Or.inl (by decide+kernel)
theorem z8i:Loc (defScope z0c) "_law_deeds":=Or.inl (by decide+kernel)
theorem z8h:Loc (defScope z0c) "_law_first":=Or.inl (by decide+kernel)
theorem zc6:Loc (defScope z0c) "_law_k":=Or.inl (by decide+kernel)
theorem z4n:Loc (defScope z0c) "_law_known":=Or.inr (by decide+kernel)
theorem z9f:Loc (defScope z0c) "_law_mine":=Or.inl (by decide+kernel)
theorem z9e:Loc (defScope z0c) "_law_name":=Or.inl (by decide+kernel)
theorem z7u:Loc (defScope z0c) "_law_second":=Or.inl (by decide+kernel)
theorem za9:Loc (defScope z0c) "_law_way":=Or.inl (by decide+kernel)
theorem z8g:Loc (defScope z0c) "_law_yours":=Or.inr (by decide+kernel)
theorem z5h:Vis (defScope z0c) "_law_at":=Or.inl (by decide+kernel)
theorem z0q:Vis (defScope z0c) "_law_base":=Or.inl (by decide+kernel)
theorem z8z:Vis (defScope z0c) "_law_body":=Or.inl (by decide+kernel)
theorem z26:Vis (defScope z0c) "_law_deeds":=Or.inl (by decide+kernel)
theorem z15:Vis (defScope z0c) "_law_deep":=Or.inl (by decide+kernel)
theorem z84:Vis (defScope z0c) "_law_first":=Or.inl (by decide+kernel)
theorem zc1:Vis (defScope z0c) "_law_k":=Or.inl (by decide+kernel)
theorem z0i:Vis (defScope z0c) "_law_known":=Or.inr <| Or.inl (by decide+kernel)
theorem z8y:Vis (defScope z0c) "_law_mine":=Or.inl (by decide+kernel)
theorem z4s:Vis (defScope z0c) "_law_name":=Or.inl (by decide+kernel)
theorem z0f:Vis (defScope z0c) "_law_script":=Or.inl (by decide+kernel)
theorem z7l:Vis (defScope z0c) "_law_second":=Or.inl (by decide+kernel)
theorem z54:Vis (defScope z0c) "_law_way":=Or.inl (by decide+kernel)
abbrev z0w:Stmt:=top 42
theorem sc_law_program:FnScope ["_law_script","_law_at","_law_ins","_law_k","_law_low"] ["_law_script","_law_at"] (defScope z0w):=⟨rfl,rfl,rfl,by decide+kernel,rfl,by decide+kernel,by decide+kernel⟩
theorem z7x:GLF z0w "_law_block":=by decide+kernel
theorem z33:GLF z0w "_law_pick":=by decide+kernel
theorem zcc:GLF z0w "range":=by decide+kernel
theorem zcb:GLF z0w "tuple":=by decide+kernel
theorem z8f:Loc (defScope z0w) "_law_ins":=Or.inl (by decide+kernel)
theorem za8:Loc (defScope z0w) "_law_k":=Or.inl (by decide+kernel)
theorem z8e:Loc (defScope z0w) "_law_low":=Or.inl (by decide+kernel)
theorem z29:Vis (defScope z0w) "_law_at":=Or.inl (by decide+kernel)
theorem z30:Vis (defScope z0w) "_law_ins":=Or.inl (by decide+kernel)
theorem z3k:Vis (defScope z0w) "_law_k":=Or.inl (by decide+kernel)
theorem z4j:Vis (defScope z0w) "_law_low":=Or.inl (by decide+kernel)
theorem z1n:Vis (defScope z0w) "_law_script":=Or.inl (by decide+kernel)
abbrev z4l:Stmt:=top 43
theorem zjw:FnScope ["_law_script","_law_at","_law_program_here"] ["_law_script","_law_at","_law_program_here"] (defScope z4l):=⟨rfl,rfl,rfl,by decide+kernel,rfl,by decide+kernel,by decide+kernel⟩
theorem z9l:GLF z4l "enumerate":=by decide+kernel
theorem zcq:GLF z4l "tuple":=by decide+kernel
theorem z51:Vis (defScope z4l) "_law_program_here":=Or.inl (by decide+kernel)
abbrev z2v:Stmt:=top 44
theorem sc_law_stays:FnScope ["_law_deed","_law_told","_law_kept"] ["_law_deed"] (defScope z2v):=⟨rfl,rfl,rfl,by decide+kernel,rfl,by decide+kernel,by decide+kernel⟩
theorem z9m:GLF z2v "isinstance":=by decide+kernel
theorem z8m:GLF z2v "list":=by decide+kernel
theorem z9c:Loc (defScope z2v) "_law_kept":=Or.inl (by decide+kernel)
theorem z9b:Loc (defScope z2v) "_law_told":=Or.inl (by decide+kernel)
theorem z4r:Vis (defScope z2v) "_law_deed":=Or.inl (by decide+kernel)
theorem z8x:Vis (defScope z2v) "_law_kept":=Or.inl (by decide+kernel)
theorem z37:Vis (defScope z2v) "_law_told":=Or.inl (by decide+kernel)
abbrev z6q:Stmt:=top 45
theorem sc_law:FnScope ["_law_script","_law_program_here","_law_trace","_law_good"] ["_law_script"] (defScope z6q):=⟨rfl,rfl,rfl,by decide+kernel,rfl,by decide+kernel,by decide+kernel⟩
theorem z1u:(defScope z6q).names.lookup ("_law_program_here" : Str)=some NameKind.cell:=by decide+kernel
theorem z76:(defScope z6q).names.lookup ("_law_trace" : Str)=some NameKind.cell:=by decide+kernel
theorem zmm:GLF z6q "Trace":=by decide+kernel
theorem zcr:GLF z6q "_law_program":=by decide+kernel
theorem z2h:GLF z6q "_law_stays":=by decide+kernel
theorem zec:GLF z6q "_law_worths":=by decide+kernel
theorem zfk:Loc (defScope z6q) "_law_good":=Or.inl (by decide+kernel)
theorem z7v:Loc (defScope z6q) "_law_program_here":=Or.inr (by decide+kernel)
theorem ze2:Loc (defScope z6q) "_law_trace":=Or.inr (by decide+kernel)
theorem z2f:Vis (defScope z6q) "_law_good":=Or.inl (by decide+kernel)
theorem z49:Vis (defScope z6q) "_law_program_here":=Or.inr <| Or.inl (by decide+kernel)
theorem z6l:Vis (defScope z6q) "_law_script":=Or.inl (by decide+kernel)
theorem z7a:Vis (defScope z6q) "_law_trace":=Or.inr <| Or.inl (by decide+kernel)
abbrev q04(J:It)(g:TG)(tb:TS)(D:Ends)(σ : St)(H:Hp):Prop:=∃W:Nat->Nat->St->Hp->Prop,(∃m,W 0 m σ H)/\∀i m σ H,W i m σ H->
 (J.stop i H/\D.nx σ H)\/(J.go i H/\∃N:St->Hp->Prop,(∀ σ' H',N σ' H'->∃m',m' < m/\W (i+1) m' σ' H')/\∀x H',J.yld i H x H'->g x σ H' fun σ2 H2=>tb {D with nx:=N,ct:=N,bk:=D.nx} σ2 H2)
theorem zdb{K:PySem.W.Frag}{tl:TE}{g:TG}{tb:TS}{D:Ends}{σ : St}{H:Hp}:zxl (q5w K tl) g tb D σ H=tl σ H fun x H1=>isRf x fun a=>(∃xs,SqT K H1 a xs)/\q04 (Itt K a) g tb D σ H1:=rfl
theorem zai{K:PySem.W.Frag}{tl:TE}{g:TG}{tb:TS}{D:Ends}{σ : St}{H:Hp}:zxl (q1j K tl) g tb D σ H=tl σ H fun x H1=>isRf x fun a=>(∃xs,SqL K H1 a xs)/\q04 (Itl K a) g tb D σ H1:=rfl
theorem zah{ta:TA}{g:TG}{tb:TS}{D:Ends}{σ : St}{H:Hp}:zxl (q4a ta) g tb D σ H=ta σ H fun vs H1=>∃j:Int,vs=[.int j]/\-(2 ^ 62)<=j/\j < 2 ^ 62/\q04 (Itr 0 j.toNat) g tb D σ H1:=rfl
theorem zak{K:PySem.W.Frag}{tl:TE}{g:TG}{tt:TT}{te:TE}{mp:List (Option Nat)}{σ : St}{H:Hp}{Q:VK}:zjo (q5w K tl) g tt te mp σ H Q=tl σ H fun x H1=>isRf x fun a=>(∃xs,SqT K H1 a xs)/\zd4 (Itt K a) g tt te Q (subσ mp σ) H1:=rfl
theorem z89{K:PySem.W.Frag}{tl:TE}{g:TG}{tt:TT}{te:TE}{mp:List (Option Nat)}{σ : St}{H:Hp}{Q:VK}:zjo (q1j K tl) g tt te mp σ H Q=tl σ H fun x H1=>isRf x fun a=>(∃xs,SqL K H1 a xs)/\zd4 (Itl K a) g tt te Q (subσ mp σ) H1:=rfl
theorem zal{tl:TE}{g:TG}{tt:TT}{te:TE}{mp:List (Option Nat)}{σ : St}{H:Hp}{Q:VK}:zjo (q77 tl) g tt te mp σ H Q=tl σ H fun x H1=>∃z,x=.str z/\zd4 (Its z) g tt te Q (subσ mp σ) H1:=rfl
inductive Wd where
 | add | sub | mul | quo | less | same | min | max
 deriving DecidableEq
def Wd.str:Wd->Str
 | .add=>"add" | .sub=>"sub" | .mul=>"mul" | .quo=>"quo" | .less=>"less" | .same=>"same" | .min=>"min" | .max=>"max"
inductive T where
 | num (i:Int) | nm (x:Str) | op (w:Wd) (a b:T)
def T.enc:T->Dm
 | .num i=>.tup [.str "num",.int i]
 | .nm x=>.tup [.str "name",.str x]
 | .op w a b=>.tup [.str w.str,a.enc,b.enc]
def T.ok(g:List Str):Nat->T->Prop
 | 0,_=>False
 | _+1,.num i=>-32768<=i/\i<=32767
 | _+1,.nm x=>x∈g
 | n+1,.op _ a b=>T.ok g n a/\T.ok g n b
theorem T.ok.mono{g g':List Str}(hg:∀x∈g,x∈g'):∀{n m:Nat} {t:T},T.ok g n t->n<=m->T.ok g' m t
 | 0,_,_,h,_=>h.elim
 | n+1,0,_,_,h=>absurd h (by omega)
 | n+1,m+1,.num i,h,_=>h
 | n+1,m+1,.nm x,h,_=>hg x h
 | n+1,m+1,.op w a b,h,hm=>⟨T.ok.mono hg h.1 (by omega),T.ok.mono hg h.2 (by omega)⟩
inductive D where
 | set (x:Str) (t:T) | ite (t:T) (b c:List D) | whl (t:T) (m:Int) (b:List D)
mutual
def D.enc:D->Dm
 | .set x t=>.tup [.str "set",.str x,t.enc]
 | .ite t b c=>.tup [.str "if",t.enc,.tup (encB b),.tup (encB c)]
 | .whl t m b=>.tup [.str "while",t.enc,.int m,.tup (encB b)]
def encB:List D->List Dm
 | []=>[]
 | d::r=>d.enc::encB r
end
theorem z6z:∀(b c:List D),encB (b++c)=encB b++encB c
 | [],c=>by simp[encB]
 | d::b,c=>by rw [List.cons_append,encB,encB,z6z b c,List.cons_append]
theorem z6y:∀b:List D,(encB b).length=b.length
 | []=>by simp[encB]
 | d::b=>by rw [encB,List.length_cons,List.length_cons,z6y b]
def pool:List Str:=["a","b","c","dd"]
def okB:Nat->List D->Prop
 | 0,_=>False
 | n+1,b=>b.length<=6/\∀d∈b,match d with
  | .set x t=>x∈pool/\t.ok pool 5
  | .ite t b c=>t.ok pool 5/\okB n b/\okB n c
  | .whl t m b=>t.ok pool 5/\0<=m/\m<=20/\okB n b
abbrev okD(n:Nat)(d:D):Prop:=match d with
 | .set x t=>x∈pool/\t.ok pool 5
 | .ite t b c=>t.ok pool 5/\okB n b/\okB n c
 | .whl t m b=>t.ok pool 5/\0<=m/\m<=20/\okB n b
def T.knows(p:List Str):T->Bool
 | .num _=>true
 | .nm x=>p.contains x
 | .op _ a b=>a.knows p && b.knows p
mutual
def kbD(p:List Str):D->Option (List Str)
 | .set x t=>if t.knows p then some (p++[x]) else none
 | .ite t b c=>if t.knows p then(match kbB p b,kbB p c with | some q,some r=>some (q.filter fun x=>r.contains x) | _,_=>none) else none
 | .whl t _ b=>if t.knows p then(match kbB p b with | some _=>some p | none=>none) else none
def kbB(p:List Str):List D->Option (List Str)
 | []=>some p
 | d::r=>match kbD p d with
  | some q=>kbB q r
  | none=>none
end
theorem zjg(p:List Str):∀(b c:List D),kbB p (b++c)=match kbB p b with | some q=>kbB q c | none=>none
 | [],c=>by simp[kbB]
 | d::b,c=>by
  rw [List.cons_append,kbB,kbB]
  cases kbD p d with
  | none=>rfl
  | some q=>exact zjg q b c
def Sub(g p:List Str):Prop:=∀x∈g,x∈p
theorem Sub.refl(g:List Str):Sub g g:=fun _ h=>h
theorem Sub.trans{a b c:List Str}(h:Sub a b)(k:Sub b c):Sub a c:=fun x hx=>k x (h x hx)
theorem T.ok.knows{g p:List Str}(hg:Sub g p):∀{n:Nat} {t:T},T.ok g n t->t.knows p=true
 | 0,_,h=>h.elim
 | n+1,.num i,_=>rfl
 | n+1,.nm x,h=>by simpa [T.knows] using hg x h
 | n+1,.op w a b,h=>by simp[T.knows,T.ok.knows hg h.1,T.ok.knows hg h.2]
def Knows(g:List Str)(b:List D)(g':List Str):Prop:=∀p,Sub g p->∃q,kbB p b=some q/\Sub g' q/\Sub p q
def KnowsD(g:List Str)(d:D)(g':List Str):Prop:=∀p,Sub g p->∃q,kbD p d=some q/\Sub g' q/\Sub p q
theorem Knows.nil(g:List Str):Knows g [] g:=fun p h=>⟨p,by simp[kbB],h,Sub.refl p⟩
theorem Knows.snoc{g g1 g2:List Str}{b:List D}{d:D}(h:Knows g b g1)(k:KnowsD g1 d g2):Knows g (b++[d]) g2:=fun p hp=>by
 obtain⟨q,e,s1,s2⟩:=h p hp
 obtain⟨r,e2,s3,s4⟩:=k q s1
 refine⟨r,?_,s3,s2.trans s4⟩
 rw [zjg,e]
 simp[kbB,e2]
theorem KnowsD.set{g g':List Str}{x:Str}{t:T}{n:Nat}(ht:t.ok g n)(hs:∀y∈g',y∈g\/y=x):KnowsD g (.set x t) g':=fun p hp=>by
 refine⟨p++[x],by simp[kbD,ht.knows hp],fun y hy=>?_,fun y hy=>List.mem_append_left _ hy⟩
 rcases hs y hy with z | z
 ·exact List.mem_append_left _ (hp y z)
 ·exact List.mem_append_right _ (by simp[z])
theorem KnowsD.ite{g m y g':List Str}{t:T}{b c:List D}{n:Nat}(ht:t.ok g n)(hb:Knows g b m)(hc:Knows g c y)(hs:∀x∈g',x∈m/\x∈y):KnowsD g (.ite t b c) g':=fun p hp=>by
 obtain⟨q,e,s1,s2⟩:=hb p hp
 obtain⟨r,e2,s3,s4⟩:=hc p hp
 refine⟨q.filter fun x=>r.contains x,by simp[kbD,ht.knows hp,e,e2],fun x hx=>?_,fun x hx=>?_⟩
 ·exact List.mem_filter.mpr ⟨s1 x (hs x hx).1,by simpa using s3 x (hs x hx).2⟩
 ·exact List.mem_filter.mpr ⟨s2 x hx,by simpa using s4 x hx⟩
theorem KnowsD.whl{g g1:List Str}{t:T}{m:Int}{b:List D}{n:Nat}(ht:t.ok g n)(hb:Knows g b g1):KnowsD g (.whl t m b) g:=fun p hp=>by
 obtain⟨q,e,s1,s2⟩:=hb p hp
 exact⟨p,by simp[kbD,ht.knows hp,e],hp,Sub.refl p⟩
theorem Knows.sub{g g1:List Str}{b:List D}(h:Knows g b g1):Knows g b g:=fun p hp=>by
 obtain⟨q,e,s1,s2⟩:=h p hp
 exact⟨q,e,hp.trans s2,s2⟩
theorem q53{xs:List V}{k:Int}(h0:0<=k)(h:k < (xs.length:Int)):∃v,xs[k.toNat]?=some v/\atI xs k=some v:=by
 have hk:k.toNat < xs.length:=by omega
 have ek:k=((k.toNat:Nat):Int):=by omega
 refine⟨xs[k.toNat],List.getElem?_eq_getElem hk,?_⟩
 have q:atI xs ((k.toNat:Nat):Int)=some xs[k.toNat]:=z24 (List.getElem?_eq_getElem hk)
 rw [<- ek] at q
 exact q
theorem z9w{α : Type}{c : α->V}{ns:List α}{k:Int}(h0:0<=k)(h:k < (ns.length:Int)):∃v∈ns,atI (ns.map c) k=some (c v):=by
 obtain⟨v,e1,e2⟩:=q53 (xs:=ns.map c) h0 (by rw [List.length_map]; exact h)
 rw [List.getElem?_map] at e1
 cases e:ns[k.toNat]? with
 | none=>rw [e] at e1; cases e1
 | some i=>rw [e] at e1; cases e1; exact⟨i,List.mem_of_getElem? e,e2⟩
theorem q3o(ns:List Int):(ns.map V.int).all okV=true:=by simp[okV]
theorem zzr{g:List Str}(h:Sub g pool):(g.map V.str).all okV=true:=by
 simp only[List.all_map,List.all_eq_true]
 intro x hx
 have:=h x hx
 simp only[pool,List.mem_cons,List.not_mem_nil,or_false] at this
 rcases this with rfl | rfl | rfl | rfl<;>decide+kernel
theorem zl(n:Nat)(h:n<=1000):n<=sizeLine:=Nat.le_of_lt (z20 h)
theorem q2m{K:PySem.W.Frag}{H:Hp}{a:Addr}{xs:List V}(h:SqL K H a xs):q26 K (.ref a) H xs.length:=.inl ⟨a,xs,rfl,.inl h,rfl⟩
theorem q72{K:PySem.W.Frag}{H:Hp}{a:Addr}{xs:List V}(h:SqT K H a xs):q26 K (.ref a) H xs.length:=.inl ⟨a,xs,rfl,.inr h,rfl⟩
theorem q4g{K:PySem.W.Frag}{H:Hp}{a p:Addr}{xs:List V}(h:SqL K H a xs)(ho:xs.all okV=true)(hp:SqL K H p []):q59 K (.ref a) (.ref p) H xs.isEmpty:=.inr (.inl ⟨a,p,xs,[],rfl,rfl,h,hp,ho,rfl,(zw0 xs).symm⟩)
theorem zn3(CX:CXT)(P:Program)(w:World)(K:PySem.W.Frag)(mg:Str->Option Value)(base:Heap)(N:List Str)(qual:Str)(scope:Scope)(f:Addr)(cd:Value)(A:Around)(outer:List Env)(s:Shared)(H:Hp)(E:XK):(zl1 CX P w K mg base N qual scope f cd A outer s H E).K=K:=rfl
theorem z8u(CX:CXT)(P:Program)(w:World)(K:PySem.W.Frag)(mg:Str->Option Value)(base:Heap)(N:List Str)(qual:Str)(scope:Scope)(f:Addr)(cd:Value)(A:Around)(outer:List Env)(s:Shared)(H:Hp)(E:XK):(zl1 CX P w K mg base N qual scope f cd A outer s H E).nox.K=K:=rfl
theorem zel(X:Cx)(N':List Str)(scope:Scope)(cl:List (Str×Addr))(C:Addr)(s₀:Shared)(H₀:Hp)(ex:List Addr):(z4p X N' scope cl C s₀ H₀ ex).K=X.K:=rfl
theorem zaj{K:PySem.W.Frag}{ta:TA}{g:TG}{tb:TS}{D:Ends}{σ : St}{H:Hp}:zxl (q5x K ta) g tb D σ H=ta σ H fun vs H1=>∃a,vs=[.ref a]/\(∃xs,SqL K H1 a xs)/\q04 (Ite K a) g tb D σ H1:=rfl
theorem zda{K:PySem.W.Frag}{ta:TA}{g:TG}{tb:TS}{D:Ends}{σ : St}{H:Hp}:zxl (q76 K ta) g tb D σ H=ta σ H fun vs H1=>∃a b,vs=[.ref a,.ref b]/\(∃xs,SqL K H1 a xs)/\(∃ys,SqL K H1 b ys)/\q04 (Itz K a b) g tb D σ H1:=rfl
theorem zag{ta:TA}{g:TG}{tb:TS}{D:Ends}{σ : St}{H:Hp}:zxl (q49 ta) g tb D σ H=ta σ H fun vs H1=>∃i j:Int,vs=[.int i,.int j]/\(-(2 ^ 62)<=i/\i < 2 ^ 62/\-(2 ^ 62)<=j/\j < 2 ^ 62)/\q04 (Itr i (j - i).toNat) g tb D σ H1:=rfl
theorem zam{K:PySem.W.Frag}{tl:TE}{g:TG}{tt:TT}{te:TE}{mp:List (Option Nat)}{σ : St}{H:Hp}{Q:VK}:zjo (q78 K tl) g tt te mp σ H Q=tl σ H fun x H1=>∃a,x=.ref a/\(((∃xs,SqL K H1 a xs)/\zd4 (Itl K a) g tt te Q (subσ mp σ) H1)\/((∃xs,SqT K H1 a xs)/\zd4 (Itt K a) g tt te Q (subσ mp σ) H1)):=rfl
theorem zbg(CX:CXT)(P:Program)(w:World)(K:PySem.W.Frag)(mg:Str->Option Value)(base:Heap)(N:List Str)(qual:Str)(scope:Scope)(f:Addr)(cd:Value)(A:Around)(outer:List Env)(s:Shared)(H:Hp)(E:XK):(zl1 CX P w K mg base N qual scope f cd A outer s H E).prog=P:=rfl
theorem zn2(CX:CXT)(P:Program)(w:World)(K:PySem.W.Frag)(mg:Str->Option Value)(base:Heap)(N:List Str)(qual:Str)(scope:Scope)(f:Addr)(cd:Value)(A:Around)(outer:List Env)(s:Shared)(H:Hp)(E:XK):(zl1 CX P w K mg base N qual scope f cd A outer s H E).w=w:=rfl
theorem z4y(CX:CXT)(P:Program)(w:World)(K:PySem.W.Frag)(mg:Str->Option Value)(base:Heap)(N:List Str)(qual:Str)(scope:Scope)(f:Addr)(cd:Value)(A:Around)(outer:List Env)(s:Shared)(H:Hp)(E:XK):(zl1 CX P w K mg base N qual scope f cd A outer s H E).nox.prog=P:=rfl
theorem z8t(CX:CXT)(P:Program)(w:World)(K:PySem.W.Frag)(mg:Str->Option Value)(base:Heap)(N:List Str)(qual:Str)(scope:Scope)(f:Addr)(cd:Value)(A:Around)(outer:List Env)(s:Shared)(H:Hp)(E:XK):(zl1 CX P w K mg base N qual scope f cd A outer s H E).nox.w=w:=rfl
theorem zia(CX:CXT)(P:Program)(w:World)(K:PySem.W.Frag)(mg:Str->Option Value)(base:Heap)(N:List Str)(qual:Str)(scope:Scope)(f:Addr)(cd:Value)(A:Around)(outer:List Env)(s:Shared)(H:Hp)(E:XK):(zl1 CX P w K mg base N qual scope f cd A outer s H E).mg=mg:=rfl
theorem z72(CX:CXT)(P:Program)(w:World)(K:PySem.W.Frag)(mg:Str->Option Value)(base:Heap)(N:List Str)(qual:Str)(scope:Scope)(f:Addr)(cd:Value)(A:Around)(outer:List Env)(s:Shared)(H:Hp)(E:XK):(zl1 CX P w K mg base N qual scope f cd A outer s H E).nox.mg=mg:=rfl
theorem zbh(CX:CXT)(P:Program)(w:World)(K:PySem.W.Frag)(mg:Str->Option Value)(base:Heap)(N:List Str)(qual:Str)(scope:Scope)(f:Addr)(cd:Value)(A:Around)(outer:List Env)(s:Shared)(H:Hp)(E:XK):(zl1 CX P w K mg base N qual scope f cd A outer s H E).base=base:=rfl
theorem z4z(CX:CXT)(P:Program)(w:World)(K:PySem.W.Frag)(mg:Str->Option Value)(base:Heap)(N:List Str)(qual:Str)(scope:Scope)(f:Addr)(cd:Value)(A:Around)(outer:List Env)(s:Shared)(H:Hp)(E:XK):(zl1 CX P w K mg base N qual scope f cd A outer s H E).nox.base=base:=rfl
theorem z73(X:Cx)(N':List Str)(scope:Scope)(cl:List (Str×Addr))(C:Addr)(s₀:Shared)(H₀:Hp)(ex:List Addr):(z4p X N' scope cl C s₀ H₀ ex).prog=X.prog:=rfl
theorem zek(X:Cx)(N':List Str)(scope:Scope)(cl:List (Str×Addr))(C:Addr)(s₀:Shared)(H₀:Hp)(ex:List Addr):(z4p X N' scope cl C s₀ H₀ ex).w=X.w:=rfl
theorem zbi(X:Cx)(N':List Str)(scope:Scope)(cl:List (Str×Addr))(C:Addr)(s₀:Shared)(H₀:Hp)(ex:List Addr):(z4p X N' scope cl C s₀ H₀ ex).mg=X.mg:=rfl
theorem z74(X:Cx)(N':List Str)(scope:Scope)(cl:List (Str×Addr))(C:Addr)(s₀:Shared)(H₀:Hp)(ex:List Addr):(z4p X N' scope cl C s₀ H₀ ex).base=X.base:=rfl
theorem z88{K:PySem.W.Frag}{ta:TA}{g:TG}{tt:TT}{te:TE}{mp:List (Option Nat)}{σ : St}{H:Hp}{Q:VK}:zjo (q1i K ta) g tt te mp σ H Q=ta σ H fun vs H1=>∃a b,vs=[.ref a,.ref b]/\(∃xs,SqT K H1 a xs)/\(∃ys,SqT K H1 b ys)/\zd4 (q27 K a b) g tt te Q (subσ mp σ) H1:=rfl
local macro_rules | `(tactic| walk_at "rd")=>`(tactic| simp only[↓zx4,↓zx3,↓zih,↓zig,↓zlm,↓zll,↓zdh,↓zdg,↓zdj,↓zdi,↓zvk,↓zji,↓zmi,zvj,zmj,zmh,zx2,zdf,q30,q2z,ztr,q3u,q3t,q3y,q3x,q55,q54,zr7,ztm,zin,tOp,zim,tC,zzd,z8o,zxa,zgp,zyw,q2b,zti,zrc,zrb,tCB,zf1,zra,zrf,tUn,rU,rI0,rI,q0a,tOr,q2c,tB,zrg,q2v,zr9,tIf,q2w,ztk,zla,zrd,zl9,zrr,zj5,ztn,zh8,ztp,tSl,zf0,zr8,q32,zh9,zlu,zrx,zu9,zaj,zda,zag,zam,q5q,zxx,zbg,zn2,z4y,z8t,zia,zbh,z72,z4z,z73,zek,zbi,z74,z88,zlc,q6e,q2g,tDX,q2x,q09,q2d,tBM,
 qEq,qNe,qIn,zhf,q2l,zrv,q36,zu8,q2k,zrw,zzm,q35,zua,zub,zlv,rIx,q0j,zl0,q2i,q2j,zpr,q2h,zu3,q34,q33,zfa,zf9,zj4,zld,q08,
 zdb,zai,zah,zak,z89,zal,zn3,z8u,zel,Nat.reduceAdd,Nat.reduceSub,Nat.add_zero,Nat.sub_zero,Nat.add_sub_cancel,
 List.getElem?_cons_zero,List.getElem?_cons_succ,List.set_cons_zero,List.set_cons_succ,List.cons.injEq,Option.some.injEq,V.int.injEq,V.ref.injEq,V.str.injEq,V.bl.injEq,V.ty.injEq,
 reduceCtorEq,false_and,and_false,and_true,true_and,exists_false,exists_const,false_or,or_false,exists_eq_left,exists_eq_left',exists_eq_right,exists_eq_right',exists_and_left,decide_eq_true_eq,Bool.not_eq_true',Bool.decide_eq_true,exists_eq,true_or,or_true,Bool.false_eq_true,if_true,if_false,Bool.true_eq_false,Bool.not_true,Bool.not_false,decide_true,decide_false,List.isEmpty_cons,List.isEmpty_nil,Bool.true_and,Bool.false_and,bne_self_eq_false,beq_self_eq_true])
section
variable{P:Program}{w:World}{K:PySem.W.Frag}{mg:Str->Option Value}{base:Heap}{f:Addr}{fd:FuncData}
def zzg(K:PySem.W.Frag):Sp:=fun vs H Q _=>∃(a:Addr) (ns:List Int) (k:Int),vs=[.ref a,.int k]/\SqL K H a (ns.map V.int)/\0<=k/\∀(i:Int) (H':Hp),Same H H'->Q (.int i) H'
theorem q14(F:Fun K "_law_cell" "_law_cell" z6h f fd) (b_len:mg "len" = none):FnOk P w K mg base CX0 1 f fd ["_law_script","_law_k"] (zzg K):=by
 refine F.ok zo5 (fun vs H Q E h=>?_) (fun cdv A outer s H vs Q E hr h=>?_)
 ·obtain⟨a,ns,k,rfl,_⟩:=h
  rfl
 obtain⟨a,ns,k,rfl,hS,h0,q⟩:=h
 refine⟨_,(z06 (z32 (z0g zof (z00 (i:=1) rfl z39 z3y z40) (za5 zzx zb5 b_len zg7 (z09 (z00 (i:=0) rfl z1i z07 z08) z04) zfy zg2) (z0s _)) (z0a (z0h (z0z z6t (z00 (i:=0) rfl z1i z07 z08) (z00 (i:=1) rfl z39 z3y z40) (fun _ _=>rfl)))) z0x)
 (z06 (z32 (z0g (gEq hr.units) (z00 (i:=0) rfl z1i z07 z08) (z44 z04) (z0s _)) (z0a (z0h z03)) z0x)
 (z0a (z0h (z0r z1l (z0r zar (z0z z6t (z00 (i:=0) rfl z1i z07 z08) (z0r zm6 (z00 (i:=1) rfl z39 z3y z40) (za5 zzx zb5 b_len zg7 (z09 (z00 (i:=0) rfl z1i z07 z08) z04) zfy zg2)) (fun _ _=>rfl)) z03) (z00 (i:=1) rfl z39 z3y z40)))))),?_⟩
 walk_at "rd"
 refine⟨_,q2m hS,?_⟩
 rw [List.length_map]
 split
 ·rename_i hk
  obtain⟨i,_,e⟩:=z9w (c:=V.int) h0 hk
  exact⟨_,hS,_,e,q i H (Same.refl _)⟩
 ·refine⟨Nat.zero_le _,fun p hp=>?_⟩
  have s1:=z02 hp (.lst [])
  refine⟨_,q4g (s1.seq hS) (q3o ns) (SqL.of z01),?_⟩
  split
  ·exact q 0 _ s1
  ·rename_i hne
   have hl:0 < (ns.length:Int):=by
    cases ns with
    | nil=>exact absurd rfl hne
    | cons a r=>simp only[List.length_cons]; omega
   obtain⟨i,_,e⟩:=z9w (c:=V.int) (ns:=ns) (k:=k % (ns.length:Int)) (Int.emod_nonneg _ (by omega)) (Int.emod_lt_of_pos _ hl)
   exact⟨_,q2m (s1.seq hS),by rw [List.length_map]; exact hl,_,s1.seq hS,_,by rw [List.length_map]; exact e,i,rfl,.inr ⟨by decide,by decide⟩,q _ _ s1⟩
def zde(K:PySem.W.Frag):Sp:=fun vs H Q _=>∃(a:Addr) (ns:List Int) (k m:Int),vs=[.ref a,.int k,.int m]/\SqL K H a (ns.map V.int)/\0<=k/\0 < m/\∀(i:Int) (H':Hp),0<=i->i < m->Same H H'->Q (.int i) H'
theorem q13(F:Fun K "_law_pick" "_law_pick" z42 f fd) (c_law_cell:Callee P w K mg base "_law_cell" ["_law_script","_law_k"] 1 (zzg K)):FnOk P w K mg base CX0 2 f fd ["_law_script","_law_k","_law_many"] (zde K):=by
 refine F.ok sc_law_pick (fun vs H Q E h=>?_) (fun cdv A outer s H vs Q E hr h=>?_)
 ·obtain⟨a,ns,k,m,rfl,_⟩:=h
  rfl
 obtain⟨a,ns,k,m,rfl,hS,h0,hm,q⟩:=h
 refine⟨_,(z06 (z1g (i:=3) sc_law_pick.nd rfl z9d (z0r zm6 (z0r zar (z0r z1l (z18 c_law_cell hr (by omega) (z09 (z00 (i:=0) rfl z83 z07 z08) (z09 (z00 (i:=1) rfl z6k z3y z40) z04)) zb4 zn1) (z0r zar z03 (z0r z1l (z00 (i:=1) rfl z6k z3y z40) z03))) z03) z03) (z05 rfl))
 (z0a (z0h (z0r zm6 (z0r zm6 (z0r z1l (z0r zar (z00 (i:=3) rfl z38 z9s z9v) (z00 (i:=3) rfl z38 z9s z9v)) (z0r q11 (z00 (i:=3) rfl z38 z9s z9v) z03)) z03) (z00 (i:=2) rfl za3 zmx zn7))))),?_⟩
 walk_at "rd"
 refine⟨a,ns,k,rfl,hS,h0,fun i H' s1=>?_⟩
 walk_at "rd"
 refine⟨.inl ⟨by decide,by decide⟩,.inr ⟨by decide,by decide⟩,by decide,?_⟩
 have e1:0<=(i+6151 * (k+1)) * 40692 % 2147483399:=Int.emod_nonneg _ (by decide)
 have e2:(i+6151 * (k+1)) * 40692 % 2147483399 < 2147483399:=Int.emod_lt_of_pos _ (by decide)
 refine⟨.inl ⟨by omega,by omega⟩,⟨by decide,by decide⟩,by decide,hm,q _ _ (Int.emod_nonneg _ (by omega)) (Int.emod_lt_of_pos _ hm) s1⟩
structure Df(K:PySem.W.Frag)(mg:Str->Option Value)(x:Str)(st:Stmt)(ps:List Str)(f:Addr)(fd:FuncData):Prop where
 F:Fun K x x st f fd
 m:mg x=some (.ref f)
 b:Binds K fd ps []
theorem Df.callee{x:Str}{st:Stmt}{ps:List Str}{k:Nat}{sp:Sp}(d:Df K mg x st ps f fd)(h:FnOk P w K mg base CX0 k f fd ps sp):Callee P w K mg base x ps k sp:=⟨f,fd,h,d.m,d.F.kp,d.b⟩
theorem zkg(x:Str):∀g:List Str,inV (.str x) (g.map V.str)=g.contains x
 | []=>rfl
 | y::g=>by
  have ih:=zkg x g
  unfold inV at ih |-
  rw [List.map_cons,List.any_cons,ih,List.contains_cons]
  have e:eqV (.str y) (.str x)=(x == y):=by
   show(y == x)=(x == y)
   rw [Bool.eq_iff_iff,beq_iff_eq,beq_iff_eq]
   exact eq_comm
  rw [e]
theorem zmp(g:List Str):(g.map V.str).all zab=true:=by simp[zab]
theorem z65{H H':Hp}{p:Addr}{o:HO}(s:Same H H')(h:H p=none):Same H (upd H' p o):=fun b u q=>by rw [z0b (z0e q h)]; exact s b u q
end
theorem zbo{K:PySem.W.Frag}{ta:TA}{g:TG}{tb:TS}{D:Ends}{σ : St}{H:Hp}:zxl (zvo K ta) g tb D σ H=ta σ H fun vs H1=>∃a,vs=[.ref a]/\(∃xs,SqT K H1 a xs)/\q04 (q03 K a) g tb D σ H1:=rfl
theorem zd9{K:PySem.W.Frag}{ta:TA}{g:TG}{tb:TS}{D:Ends}{σ : St}{H:Hp}:zxl (q1i K ta) g tb D σ H=ta σ H fun vs H1=>∃a b,vs=[.ref a,.ref b]/\(∃xs,SqT K H1 a xs)/\(∃ys,SqT K H1 b ys)/\q04 (q27 K a b) g tb D σ H1:=rfl
theorem zre{ta:TA}{g:TG}{tt:TT}{te:TE}{mp:List (Option Nat)}{σ : St}{H:Hp}{Q:VK}:zjo (q49 ta) g tt te mp σ H Q=ta σ H fun vs H1=>∃i j:Int,vs=[.int i,.int j]/\(-(2 ^ 62)<=i/\i < 2 ^ 62/\-(2 ^ 62)<=j/\j < 2 ^ 62)/\zd4 (Itr i (j - i).toNat) g tt te Q (subσ mp σ) H1:=rfl
local macro_rules | `(tactic| walk_at "rd7")=>`(tactic| simp only[↓zx4,↓zx3,↓zih,↓zig,↓zlm,↓zll,↓zdh,↓zdg,↓zdj,↓zdi,↓zvk,↓zji,↓zmi,zvj,zmj,zmh,zx2,zdf,q30,q2z,ztr,q3u,q3t,q3y,q3x,q55,q54,zre,zlb,zd9,zxj,zxk,zl7,zjc,q5f,zjy,zl8,z92,zr7,ztm,zin,tOp,zim,tC,zzd,z8o,zxa,zgp,zyw,q2b,zti,zrc,zrb,tCB,zf1,zra,zrf,tUn,rU,rI0,rI,q0a,tOr,q2c,tB,zrg,q2v,zr9,tIf,q2w,ztk,zla,zrd,zl9,zrr,zj5,ztn,zh8,ztp,tSl,zf0,zr8,q32,zh9,zlu,zrx,zu9,zaj,zbo,zda,zag,zam,zbg,zn2,z4y,z8t,zia,zbh,z72,z4z,z73,zek,zbi,z74,z88,zlc,q6e,q2g,tDX,q2x,q09,q2d,tBM,
 qEq,qNe,qIn,zhf,q2l,zrv,q36,zu8,q2k,zrw,zzm,q35,zua,zub,zlv,rIx,q0j,zl0,q2i,q2j,q2h,zu3,q34,q33,zfa,zf9,zj4,zld,q08,
 zdb,zai,zah,zak,z89,zal,zn3,z8u,zel,Nat.reduceAdd,Nat.reduceSub,Nat.add_zero,Nat.sub_zero,Nat.add_sub_cancel,
 List.getElem?_cons_zero,List.getElem?_cons_succ,List.set_cons_zero,List.set_cons_succ,List.cons.injEq,Option.some.injEq,V.int.injEq,V.ref.injEq,V.str.injEq,V.bl.injEq,V.ty.injEq,
 reduceCtorEq,false_and,and_false,and_true,true_and,exists_false,exists_const,false_or,or_false,exists_eq_left,exists_eq_left',exists_eq_right,exists_eq_right',exists_and_left,decide_eq_true_eq,Bool.not_eq_true',Bool.decide_eq_true,exists_eq,true_or,or_true,Bool.false_eq_true,if_true,if_false,Bool.true_eq_false,Bool.not_true,Bool.not_false,decide_true,decide_false,List.isEmpty_cons,List.isEmpty_nil,Bool.true_and,Bool.false_and,bne_self_eq_false,beq_self_eq_true])
section
variable{P:Program}{w:World}{K:PySem.W.Frag}{mg:Str->Option Value}{base:Heap}{f:Addr}{fd:FuncData}
theorem q79{g:TG}{x:V}{σ : St}{H:Hp}{b:St->Hp->Prop}(h:∀N:St->Hp->Prop,N=b->g x σ H N):g x σ H b:=h _ rfl
theorem z0j{a b:TS}{D:Ends}{σ : St}{H:Hp}(h:∀N:St->Hp->Prop,N=b D->a {D with nx:=N} σ H):zr7 a b D σ H:=h _ rfl
theorem zth{c:TT}{a b:TS}{D:Ends}{σ : St}{H:Hp}(h:∀Y Z:St->Hp->Prop,Y=a D->Z=b D->ztm c (fun _=>Y) (fun _=>Z) D σ H):ztm c a b D σ H:=h _ _ rfl rfl
theorem q2r{t1 t2:TS}{c:TT}{a b:TS}{D:Ends}{σ : St}{H:Hp}(h:∀Y Z:St->Hp->Prop,Y=a D->Z=b D->zr7 t1 (zr7 t2 (ztm c (fun _=>Y) (fun _=>Z))) D σ H):zr7 t1 (zr7 t2 (ztm c a b)) D σ H:=h _ _ rfl rfl
def zlh(K:PySem.W.Frag)(n:Nat):Sp:=fun vs H Q _=>∃(a:Addr) (ns:List Int) (k:Int) (kn:Addr) (g:List Str) (d:Nat),vs=[.ref a,.int k,.ref kn,.int d]/\SqL K H a (ns.map V.int)/\0<=k/\H kn=some (.lst (g.map V.str))/\Sub g pool/\1<=d/\d<=n/\
 ∀(r:V) (H':Hp) (t:T),Same H H'->Dt H' r t.enc->t.ok g d->Q r H'
theorem q3l{n:Nat} (F:Fun K "_law_sum" "_law_sum" z21 f fd) (b_len:mg "len" = none) (c_law_pick:Callee P w K mg base "_law_pick" ["_law_script","_law_k","_law_many"] 2 (zde K))
  (c_law_sum:Callee P w K mg base "_law_sum" ["_law_script","_law_at","_law_known","_law_deep"] (n+3) (zlh K n)):FnOk P w K mg base CX0 (n+4) f fd ["_law_script","_law_at","_law_known","_law_deep"] (zlh K (n+1)):=by
 refine F.ok sc_law_sum (fun vs H Q E h=>?_) (fun cdv A outer s H vs Q E hr h=>?_)
 ·obtain⟨a,ns,k,kn,g,d,rfl,_⟩:=h
  rfl
 obtain⟨a,ns,k,kn,g,d,rfl,hS,h0,hk,hg,hd1,hd2,q⟩:=h
 refine⟨_,(z06 (z1g (i:=4) sc_law_sum.nd rfl zc4 (z18 c_law_pick hr (by omega) (z09 (z00 (i:=0) rfl z0v z07 z08) (z09 (z00 (i:=1) rfl z1h z11 z12) (z09 z03 z04))) z27 z0u) (z05 rfl))
 (z06 (z32 (PW.pt (zuc (z0g zds (z00 (i:=3) rfl z3s z2c z2d) z03 (z0s _)) (zps (z0g zof (z00 (i:=4) rfl zbz zcy zd2) z03 (z0s _))))) (z06 (z32 (PW.pt (zud (z0g (gNe hr.units) (z00 (i:=2) rfl z1w z0o z0p) (z44 z04) (z0s _)) (zo9 (z0g q3i (z18 c_law_pick hr (by omega) (z09 (z00 (i:=0) rfl z0v z07 z08) (z09 (z0r z1l (z00 (i:=1) rfl z1h z11 z12) z03) (z09 z03 z04))) z27 z0u) z03 (z0s _))))) (z0a (z0h (z13 (z09 z0m (z09 (z0z z6t (z00 (i:=2) rfl z1w z0o z0p) (z18 c_law_pick hr (by omega) (z09 (z00 (i:=0) rfl z0v z07 z08) (z09 (z0r z1l (z00 (i:=1) rfl z1h z11 z12) z03) (z09 (za5 zzx ziy b_len zg7 (z09 (z00 (i:=2) rfl z1w z0o z0p) z04) zfy zg2) z04))) z27 z0u) (fun _ _=>rfl)) z04))))) z0x)
 (z0a (z0h (z13 (z09 z0m (z09 (z0z z6t (z44 (z09 z03 (z09 z03 (z09 (zum zl5 z03) (z09 z03 (z09 z03 (z09 z03 (z09 (zum zl5 z03) (z09 z03 (z09 (zum zl5 z03) (z09 z03 (z09 z03 (z09 (zum zl5 z03) z04))))))))))))) (z18 c_law_pick hr (by omega) (z09 (z00 (i:=0) rfl z0v z07 z08) (z09 (z0r z1l (z00 (i:=1) rfl z1h z11 z12) z03) (z09 z03 z04))) z27 z0u) (fun _ _=>rfl)) z04)))))) z0x)
 (z06 (z1g (i:=5) sc_law_sum.nd rfl za7 (z44 (z09 z0m (z09 z0m (z09 z0m (z09 z0m (z09 z0m (z09 z0m (z09 z0m (z09 z0m (z09 z0m (z09 z0m z04))))))))))) (z05 rfl))
 (z06 (z1g (i:=6) sc_law_sum.nd rfl zc5 (z18 c_law_sum hr (by omega) (z09 (z00 (i:=0) rfl z0v z07 z08) (z09 (z0r z1l (z0r zar z03 (z00 (i:=1) rfl z1h z11 z12)) z03) (z09 (z00 (i:=2) rfl z1w z0o z0p) (z09 (z0r zck (z00 (i:=3) rfl z3s z2c z2d) z03) z04)))) z6u z70) (z05 rfl))
 (z0a (z0h (z13 (z09 (z0z z6t (z00 (i:=5) rfl za2 zks zkv) (z18 c_law_pick hr (by omega) (z09 (z00 (i:=0) rfl z0v z07 z08) (z09 (z0r z1l (z00 (i:=1) rfl z1h z11 z12) z03) (z09 z03 z04))) z27 z0u) (fun _ _=>rfl)) (z09 (z00 (i:=6) rfl zc0 z71 z77) (z09 (z18 c_law_sum hr (by omega) (z09 (z00 (i:=0) rfl z0v z07 z08) (z09 (z0r z1l (z0r zar z03 (z00 (i:=1) rfl z1h z11 z12)) z03) (z09 (z00 (i:=2) rfl z1w z0o z0p) (z09 (z0r zck (z00 (i:=3) rfl z3s z2c z2d) z03) z04)))) z6u z70) z04)))))))))),z0j fun N1 e1=>?_⟩
 walk_at "rd"
 refine⟨a,ns,k,10,rfl,hS,h0,by decide,fun i H1 i0 i1 s1=>?_⟩
 rw [e1]
 refine z0j fun N2 e2=>zth fun Y Z eY eZ=>?_
 walk_at "rd"
 have leaf:∀(H1:Hp),Same H H1->Y [some (.ref a),some (.int k),some (.ref kn),some (.int d),some (.int i),none,none] H1:=by
  intro H1 s1
  rw [eY]
  walk_at "rd"
  have num:∀(H2:Hp) (p:Addr),Same H H2->H2 p=none->zde K [V.ref a,V.int (k+3),V.int 12] (upd H2 p (HO.lst [V.int 0,V.int 1,V.int (-1),V.int 2,V.int 3,V.int 7,V.int (-8),V.int 100,V.int (-129),V.int 300,V.int 32767,V.int (-32768)])) (fun y H2=>∃x x_1,y=V.int x_1/\SqL K H2 p x/\∃x_2,atI x x_1=some x_2/\2<=sizeLine/\∀(p:Addr),H2 p=none->Q (V.ref p) (upd H2 p (HO.tup [V.str (Str.ofString "num"),x_2]))) E0:=by
   intro H2 p s2 hp
   have s3:=z02 hp (HO.lst [V.int 0,V.int 1,V.int (-1),V.int 2,V.int 3,V.int 7,V.int (-8),V.int 100,V.int (-129),V.int 300,V.int 32767,V.int (-32768)])
   refine⟨a,ns,k+3,12,rfl,(s2.trans s3).seq hS,by omega,by decide,fun j H3 j0 j1 s4=>?_⟩
   obtain⟨v,hv,e⟩:=z9w (c:=V.int) (ns:=[0,1,-1,2,3,7,-8,100,-129,300,32767,-32768]) (k:=j) j0 j1
   refine⟨_,_,rfl,SqL.of (s4 _ _ z01),_,e,zl 2 (by decide),fun r hr'=>?_⟩
   refine q _ _ (.num v) ((s2.trans s3).trans (s4.trans (z02 hr' _))) (.tup z01 (.cons (.str _) (.cons (.int _) .nil))) ?_
   obtain⟨d',rfl⟩:∃d',d=d'+1:=⟨d - 1,by omega⟩
   show -32768<=v/\v<=32767
   simp only[List.mem_cons,List.not_mem_nil,or_false] at hv
   omega
  refine⟨Nat.zero_le _,fun p hp=>?_⟩
  have s2:=z02 hp (HO.lst [])
  have hk2:(upd H1 p (HO.lst [])) kn=some (.lst (g.map V.str)):=s2 _ _ (s1 _ _ hk)
  refine⟨_,.inr ⟨_,SqL.of hk2,_,SqL.of z01,zzr hg,rfl,(zw0 _).symm⟩,?_⟩
  split
  ·rename_i hne
   refine⟨a,ns,k+1,3,rfl,(s1.trans s2).seq hS,by omega,by decide,fun j H3 j0 j1 s3=>?_⟩
   refine⟨_,rfl,?_⟩
   have s03:=(s1.trans s2).trans s3
   split
   ·have hk3:=s3 _ _ hk2
    refine⟨_,q2m (SqL.of hk3),?_⟩
    have hl:0 < ((g.map V.str).length:Int):=by
     cases g with
     | nil=>exact absurd rfl (Bool.eq_false_iff.mp hne)
     | cons x r=>simp only[List.map_cons,List.length_cons]; omega
    refine⟨a,ns,k+2,_,rfl,s03.seq hS,by omega,hl,fun m H4 m0 m1 s4=>?_⟩
    obtain⟨v,hv,e⟩:=z9w (c:=V.str) (ns:=g) (k:=m) m0 (by rw [List.length_map] at m1; exact m1)
    refine⟨_,_,rfl,SqL.of (s4 _ _ hk3),_,e,zl 2 (by decide),fun r hr'=>?_⟩
    refine q _ _ (.nm v) (s03.trans (s4.trans (z02 hr' _))) (.tup z01 (.cons (.str _) (.cons (.str _) .nil))) ?_
    obtain⟨d',rfl⟩:∃d',d=d'+1:=⟨d - 1,by omega⟩
    exact hv
   ·exact⟨zl 12 (by decide),fun p2 hp2=>num _ p2 s03 hp2⟩
  ·exact⟨zl 12 (by decide),fun p2 hp2=>num _ p2 (s1.trans s2) hp2⟩
 split
 ·exact leaf H1 s1
 ·split
  ·exact leaf H1 s1
  ·rename_i hd _
   rw [eZ]
   show N2 _ _
   rw [e2]
   refine z0j fun N3 e3=>?_
   walk_at "rd"
   refine⟨zl 10 (by decide),fun p hp=>?_⟩
   rw [e3]
   refine z0j fun N4 e4=>?_
   walk_at "rd"
   refine⟨.inl ⟨by decide,by decide⟩,?_⟩
   have s2:=z02 hp (HO.lst [V.str "add",V.str "sub",V.str "mul",V.str "quo",V.str "less",V.str "same",V.str "min",V.str "max",V.str "add",V.str "less"])
   have s02:=s1.trans s2
   have ed:((d:Int) - 1)=((d - 1:Nat):Int):=by omega
   have hd3:2<=d:=by omega
   rw [ed]
   refine⟨a,ns,_,kn,g,d - 1,rfl,s02.seq hS,by omega,s02 _ _ hk,hg,by omega,by omega,fun r1 H2 t1 s3 d1 k1=>?_⟩
   have s03:=s02.trans s3
   rw [e4]
   walk_at "rd"
   refine⟨a,ns,k+4,10,rfl,s03.seq hS,by omega,by decide,fun j H3 j0 j1 s4=>?_⟩
   have s04:=s03.trans s4
   obtain⟨v,hv,e⟩:=z9w (c:=fun w:Wd=>V.str w.str) (ns:=[.add,.sub,.mul,.quo,.less,.same,.min,.max,.add,.less]) (k:=j) j0 j1
   refine⟨_,_,rfl,SqL.of (s4 _ _ (s3 _ _ z01)),_,e,.inl ⟨by decide,by decide⟩,?_⟩
   rw [ed]
   refine⟨a,ns,_,kn,g,d - 1,rfl,s04.seq hS,by omega,s04 _ _ hk,hg,by omega,by omega,fun r2 H4 t2 s5 d2 k2=>?_⟩
   refine⟨zl 3 (by decide),fun p3 hp3=>?_⟩
   have s6:=z02 hp3 (HO.tup [V.str v.str,r1,r2])
   refine q _ _ (.op v t1 t2) (s04.trans (s5.trans s6)) (.tup z01 (.cons (.str _) (.cons (d1.kp (s4.trans (s5.trans s6)).kp) (.cons (d2.kp s6.kp) .nil)))) ?_
   obtain⟨d',rfl⟩:∃d',d=d'+1:=⟨d - 1,by omega⟩
   exact⟨k1,k2⟩
theorem zyd{k:Nat}:FnOk P w K mg base CX0 k f fd ["_law_script","_law_at","_law_known","_law_deep"] (zlh K 0):=by
 have no:∀vs H Q E,¬ zlh K 0 vs H Q E:=fun vs H Q E h=>by
  obtain⟨a,ns,k,kn,g,d,_,_,_,_,_,h1,h2,_⟩:=h
  omega
 exact⟨fun vs H Q E h=>absurd h (no vs H Q E),fun A outer s H args us vs Q E _ _ _ _ h=>absurd h (no vs H Q E)⟩
theorem zx7(d:Df K mg "_law_sum" z21 ["_law_script","_law_at","_law_known","_law_deep"] f fd) (b_len:mg "len" = none) (c_law_pick:Callee P w K mg base "_law_pick" ["_law_script","_law_k","_law_many"] 2 (zde K)) :
  ∀n:Nat,Callee P w K mg base "_law_sum" ["_law_script","_law_at","_law_known","_law_deep"] (n+3) (zlh K n)
 | 0=>d.callee zyd
 | n+1=>d.callee (q3l d.F b_len c_law_pick (zx7 d b_len c_law_pick n))
def zhc(K:PySem.W.Frag):Sp:=fun vs H Q _=>∃(a:Addr) (ns:List Int) (k:Int) (kn:Addr) (g g1:List Str) (rb:V) (b:List D) (d:Nat) (di:Int),vs=[.ref a,.int k,.ref kn,rb,.int di]/\SqL K H a (ns.map V.int)/\0<=k/\H kn=some (.lst (g.map V.str))/\Sub g pool/\g≠[]/\
 Dt H rb (.tup (encB b))/\okB d b/\b.length<=4/\b≠[]/\Knows g b g1/\1<=d/\∀(r:V) (H':Hp) (e:D),Same H H'->Dt H' r e.enc->okD d e->KnowsD g e g->Q r H'
theorem zs8(F:Fun K "_law_counted" "_law_counted" z0l f fd) (b_len:mg "len" = none) (c_law_pick:Callee P w K mg base "_law_pick" ["_law_script","_law_k","_law_many"] 2 (zde K))
  (c_law_sum:Callee P w K mg base "_law_sum" ["_law_script","_law_at","_law_known","_law_deep"] 6 (zlh K 3)):FnOk P w K mg base CX0 7 f fd ["_law_script","_law_at","_law_known","_law_body","_law_deep"] (zhc K):=by
 refine F.ok sc_law_counted (fun vs H Q E h=>?_) (fun cdv A outer s H vs Q E hr h=>?_)
 ·obtain⟨a,ns,k,kn,g,g1,rb,b,d,di,rfl,_⟩:=h
  rfl
 obtain⟨a,ns,k,kn,g,g1,rb,b,d,di,rfl,hS,h0,hk,hg,hne,hb,hob,hbl,hbn,hkn,hd1,q⟩:=h
 refine⟨_,(z06 (z1g (i:=5) sc_law_counted.nd rfl z4b (z0z z6t (z44 (z09 z03 (z09 z03 (z09 z03 (z09 z03 (z09 z03 z04)))))) (z18 c_law_pick hr (by omega) (z09 (z00 (i:=0) rfl z0t z07 z08) (z09 (z00 (i:=1) rfl z14 z11 z12) (z09 z03 z04))) z1j z0u) (fun _ _=>rfl)) (z05 rfl))
 (z06 (z32 (z0g zof (z00 (i:=4) rfl z7k z2c z2d) z03 (z0s _)) (z0a (z1g (i:=5) sc_law_counted.nd rfl z4b (z0r zm6 (z00 (i:=5) rfl z2u zbe zbm) z03) (z05 rfl))) z0x)
 (z06 (z32 (z0g zds (z18 c_law_pick hr (by omega) (z09 (z00 (i:=0) rfl z0t z07 z08) (z09 (z0r z1l (z00 (i:=1) rfl z14 z11 z12) z03) (z09 z03 z04))) z1j z0u) z03 (z0s _)) (z0a (z0h (z13 (z09 z0m (z09 (z18 c_law_sum hr (by omega) (z09 (z00 (i:=0) rfl z0t z07 z08) (z09 (z0r z1l (z00 (i:=1) rfl z14 z11 z12) z03) (z09 (z00 (i:=2) rfl z2n z0o z0p) (z09 z03 z04)))) z9n z70) (z09 (z00 (i:=5) rfl z2u zbe zbm) (z09 (z00 (i:=3) rfl z48 zbf zbn) z04))))))) z0x)
 (z06 (z1g (i:=6) sc_law_counted.nd rfl z7r (z13 (z09 z0m (z09 (z0z z6t (z00 (i:=2) rfl z2n z0o z0p) (z18 c_law_pick hr (by omega) (z09 (z00 (i:=0) rfl z0t z07 z08) (z09 (z0r z1l (z00 (i:=1) rfl z14 z11 z12) z03) (z09 (za5 zzx ze9 b_len zg7 (z09 (z00 (i:=2) rfl z2n z0o z0p) z04) zfy zg2) z04))) z1j z0u) (fun _ _=>rfl)) z04))) (z05 rfl))
 (z06 (z1g (i:=7) sc_law_counted.nd rfl z7t (z13 (z09 z0m (z09 (z0z z6t (z44 (z09 (zum zl5 z03) (z09 z03 (z09 z03 (z09 z03 z04))))) (z18 c_law_pick hr (by omega) (z09 (z00 (i:=0) rfl z0t z07 z08) (z09 (z0r z1l (z00 (i:=1) rfl z14 z11 z12) z03) (z09 z03 z04))) z1j z0u) (fun _ _=>rfl)) z04))) (z05 rfl))
 (z06 (z1g (i:=8) sc_law_counted.nd rfl z7s (z13 (z09 z0m (z09 (z0z z0n (z00 (i:=6) rfl z2t z5m z5n) z03 (fun _ _=>rfl)) (z09 (z13 (z09 z0m (z09 (z00 (i:=6) rfl z2t z5m z5n) (z09 (z13 (z09 z0m (z09 (z0r z1l z03 (z18 c_law_pick hr (by omega) (z09 (z00 (i:=0) rfl z0t z07 z08) (z09 (z0r z1l (z00 (i:=1) rfl z14 z11 z12) z03) (z09 z03 z04))) z1j z0u)) z04))) z04)))) z04)))) (z05 rfl))
 (z0a (z0h (z13 (z09 z0m (z09 (z13 (z09 z0m (z09 (z00 (i:=6) rfl z2t z5m z5n) (z09 (z00 (i:=7) rfl z7j zn0 zna) z04)))) (z09 (z00 (i:=5) rfl z2u zbe zbm) (z09 (z0r z3d (z00 (i:=3) rfl z48 zbf zbn) (z13 (z09 (z00 (i:=8) rfl z7i zmv zn5) z04))) z04))))))))))))),z0j fun N1 e1=>?_⟩
 walk_at "rd"
 have hl:0 < ((g.map V.str).length:Int):=by
  cases g with
  | nil=>exact absurd rfl hne
  | cons x r=>simp only[List.map_cons,List.length_cons]; omega
 refine⟨zl 5 (by decide),fun p hp=>?_⟩
 have s1:=z02 hp (HO.lst [V.int 0,V.int 1,V.int 3,V.int 6,V.int 20])
 refine⟨a,ns,k,5,rfl,s1.seq hS,h0,by decide,fun i H2 i0 i1 s2=>?_⟩
 have s02:=s1.trans s2
 obtain⟨v,hv,e⟩:=z9w (c:=V.int) (ns:=[0,1,3,6,20]) (k:=i) i0 i1
 have hv2:0<=v/\v<=20:=by
  simp only[List.mem_cons,List.not_mem_nil,or_false] at hv
  omega
 refine⟨_,_,rfl,SqL.of (s2 _ _ z01),_,e,?_⟩
 obtain⟨ab,xs,rfl,hab,hda⟩:=hb.tupI
 have hxl:xs.length=b.length:=by rw [hda.length,z6y]
 have hxs:xs≠[]:=fun z=>hbn (List.length_eq_zero_iff.mp (by rw [<- hxl,z]; rfl))
 rw [e1]
 refine z0j fun N2 e2=>?_
 walk_at "rd"
 suffices key:∀mv:Int,0<=mv/\mv<=20->N2 [some (.ref a),some (.int k),some (.ref kn),some (.ref ab),some (.int di),some (.int mv),none,none,none] H2 by
  split
  ·exact⟨by decide,key (v % 4) (by omega)⟩
  ·exact key v hv2
 intro mv hv3
 rw [e2]
 refine z0j fun N3 e3=>?_
 walk_at "rd"
 refine⟨a,ns,k+1,4,rfl,s02.seq hS,by omega,by decide,fun j H3 j0 j1 s3=>?_⟩
 refine⟨_,rfl,?_⟩
 have s03:=s02.trans s3
 split
 ·refine⟨a,ns,k+2,kn,g,2,rfl,s03.seq hS,by omega,s03 _ _ hk,hg,by decide,by decide,fun r1 H4 t1 s4 d1 k1=>?_⟩
  refine⟨zl 4 (by decide),fun p2 hp2=>?_⟩
  exact q _ _ (.whl t1 _ b) (s03.trans (s4.trans (z02 hp2 _))) (.tup z01 (.cons (.str _) (.cons (d1.kp (z02 hp2 _).kp) (.cons (.int _) (.cons (hb.kp (s03.trans (s4.trans (z02 hp2 _))).kp) .nil))))) ⟨k1.mono hg (by decide),by omega,by omega,hob⟩ (KnowsD.whl k1 hkn)
 ·have hk3:=s03 _ _ hk
  rw [e3]
  refine z0j fun N4 e4=>?_
  walk_at "rd"
  refine⟨_,q2m (SqL.of hk3),?_⟩
  refine⟨a,ns,k+3,_,rfl,s03.seq hS,by omega,hl,fun m H4 m0 m1 s4=>?_⟩
  obtain⟨x,hx,e⟩:=z9w (c:=V.str) (ns:=g) (k:=m) m0 (by rw [List.length_map] at m1; exact m1)
  refine⟨_,_,rfl,SqL.of (s4 _ _ hk3),_,e,zl 2 (by decide),fun pn hpn=>?_⟩
  have s5:=z02 hpn (HO.tup [V.str "name",V.str x])
  rw [e4]
  refine z0j fun N5 e5=>?_
  walk_at "rd"
  refine⟨zl 4 (by decide),fun pg hpg=>?_⟩
  have s6:=z02 hpg (HO.lst [V.int (-2),V.int 1,V.int 3,V.int 5])
  have s06:=s03.trans (s4.trans (s5.trans s6))
  refine⟨a,ns,k+4,4,rfl,s06.seq hS,by omega,by decide,fun l H5 l0 l1 s7=>?_⟩
  obtain⟨gv,hgv,e2⟩:=z9w (c:=V.int) (ns:=[-2,1,3,5]) (k:=l) l0 l1
  have hgv2 : -32768<=gv/\gv<=32767:=by
   simp only[List.mem_cons,List.not_mem_nil,or_false] at hgv
   omega
  refine⟨_,_,rfl,SqL.of (s7 _ _ z01),_,e2,zl 2 (by decide),fun pl hpl=>?_⟩
  have s8:=z02 hpl (HO.tup [V.str "num",V.int gv])
  have s68:=s6.trans (s7.trans s8)
  have s08:=s03.trans (s4.trans (s5.trans s68))
  rw [e5]
  refine z0j fun N6 e6=>?_
  walk_at "rd"
  refine⟨_,SqT.of (s68 _ _ z01),V.str x,rfl,?_⟩
  refine⟨a,ns,k+5,3,rfl,s08.seq hS,by omega,by decide,fun z H6 z0 z1 s9=>?_⟩
  refine⟨_,rfl,zl 2 (by decide),fun p1 h1=>⟨zl 3 (by decide),fun p2 h2=>⟨zl 3 (by decide),fun p3 h3=>?_⟩⟩⟩
  rw [e6]
  walk_at "rd"
  refine⟨zl 3 (by decide),fun p4 h4=>⟨zl 1 (by decide),fun p5 h5=>?_⟩⟩
  have u1:=z02 h1 (HO.tup [V.str "num",V.int (1+z)])
  have u2:=z02 h2 (HO.tup [V.str "add",V.ref pn,V.ref p1])
  have u3:=z02 h3 (HO.tup [V.str "set",V.str x,V.ref p2])
  have u4:=z02 h4 (HO.tup [V.str "less",V.ref pn,V.ref pl])
  have u5:=z02 h5 (HO.tup [V.ref p3])
  have u05:=s08.trans (s9.trans (u1.trans (u2.trans (u3.trans (u4.trans u5)))))
  refine⟨xs,SqT.of (u05 _ _ hab),[V.ref p3],SqT.of z01,by rw [List.length_singleton]; exact zl _ (by omega),fun h=>absurd h hxs,fun _ h=>absurd h (by simp),fun _ _ p6 h6=>⟨zl 4 (by decide),fun p7 h7=>?_⟩⟩
  have u6:=z02 h6 (HO.tup (xs++[V.ref p3]))
  have u67:=u6.trans (z02 h7 (HO.tup [V.str "while",V.ref p4,V.int mv,V.ref p6]))
  have u57:=u5.trans u67
  have dn:Dt (upd H4 pn (HO.tup [V.str "name",V.str x])) (.ref pn) (T.nm x).enc:=.tup z01 (.cons (.str _) (.cons (.str _) .nil))
  have dl:Dt (upd H5 pl (HO.tup [V.str "num",V.int gv])) (.ref pl) (T.num gv).enc:=.tup z01 (.cons (.str _) (.cons (.int _) .nil))
  have dz:Dt (upd H6 p1 (HO.tup [V.str "num",V.int (1+z)])) (.ref p1) (T.num (1+z)).enc:=.tup z01 (.cons (.str _) (.cons (.int _) .nil))
  have s9u:=s9.trans u1
  have da:Dt _ (.ref p2) (T.op .add (.nm x) (.num (1+z))).enc:=.tup (z01 (H:=upd H6 p1 (HO.tup [V.str "num",V.int (1+z)]))) (.cons (.str _) (.cons (dn.kp (s68.trans (s9u.trans u2)).kp) (.cons (dz.kp u2.kp) .nil)))
  have ds:Dt _ (.ref p3) (D.set x (T.op .add (.nm x) (.num (1+z)))).enc:=.tup z01 (.cons (.str _) (.cons (.str _) (.cons (da.kp u3.kp) .nil)))
  have de:Dt _ (.ref p4) (T.op .less (.nm x) (.num gv)).enc:=.tup z01 (.cons (.str _) (.cons (dn.kp (s68.trans (s9u.trans (u2.trans (u3.trans u4)))).kp) (.cons (dl.kp (s9u.trans (u2.trans (u3.trans u4))).kp) .nil)))
  have dB:Dt _ (.ref p6) (.tup (encB b++[(D.set x (T.op .add (.nm x) (.num (1+z)))).enc])):=.tup z01 ((hda.kp (u05.trans u6).kp).append (.cons (ds.kp (u4.trans (u5.trans u6)).kp) .nil))
  rw [show encB b++[(D.set x (T.op .add (.nm x) (.num (1+z)))).enc]=encB (b++[D.set x (T.op .add (.nm x) (.num (1+z)))]) by rw [z6z,encB,encB]] at dB
  have hz : -32768<=1+z/\1+z<=32767:=by omega
  refine q _ _ (.whl (.op .less (.nm x) (.num gv)) _ (b++[D.set x (T.op .add (.nm x) (.num (1+z)))])) (u05.trans u67) (.tup z01 (.cons (.str _) (.cons (de.kp u57.kp) (.cons (.int _) (.cons (dB.kp (z02 h7 _).kp) .nil))))) ⟨⟨hg x hx,hgv2⟩,by omega,by omega,?_⟩ (KnowsD.whl (n:=2) ⟨hx,hgv2⟩ (hkn.sub.snoc (KnowsD.set (n:=2) (g':=g) ⟨hx,hz⟩ fun y hy=>.inl hy)))
  obtain⟨d',rfl⟩:∃d',d=d'+1:=⟨d - 1,by omega⟩
  refine⟨by rw [List.length_append,List.length_singleton]; omega,fun c hc=>?_⟩
  rcases List.mem_append.mp hc with hc | hc
  ·exact hob.2 c hc
  ·have ec:c=D.set x (T.op .add (.nm x) (.num (1+z))):=by simpa using hc
   subst ec
   exact⟨hg x hx,⟨hg x hx,hz⟩⟩
def zsx:Nat->Nat
 | 1=>1 | 2=>2 | 3=>6 | _=>0
def zry:Nat->Nat
 | 3=>2 | _=>1
theorem pg1(d:Nat):1<=zry d:=by unfold zry; split<;>decide
theorem pgc{d j:Nat}(h1:1<=d)(h3:d<=3)(hj:j<=d):j * zry d<=zsx d:=by
 have:d=1\/d=2\/d=3:=by omega
 rcases this with rfl | rfl | rfl<;>simp only[zry,zsx]<;>omega
theorem cgp{d:Nat}(h1:2<=d)(h3:d<=3):zsx (d - 1)<=zry d:=by
 have:d=2\/d=3:=by omega
 rcases this with rfl | rfl<;>decide
theorem cg6(d:Nat):zsx d<=6:=by unfold zsx; split<;>decide
theorem q2o{Hy C:Hp->Prop}{G:Prop}(h1:(∀Hx,Hy Hx->C Hx)->G)(h2:∀Hx,Hy Hx->C Hx):G:=h1 h2
def zf5(K:PySem.W.Frag)(n:Nat):Sp:=fun vs H Q _=>∃(a:Addr) (ns:List Int) (k:Int) (kn:Addr) (g:List Str) (d:Nat),vs=[.ref a,.int k,.ref kn,.int d]/\SqL K H a (ns.map V.int)/\0<=k/\H kn=some (.lst (g.map V.str))/\Sub g pool/\1<=d/\d<=n/\d<=3/\g.length+100 * d<=900/\
 ∀(r rb rk:Addr) (H':Hp) (b:List D) (g':List Str),Same H H'->H' r=some (.tup [.ref rb,.ref rk])->Dt H' (.ref rb) (.tup (encB b))->H' rk=some (.lst (g'.map V.str))->okB d b->b.length<=d->b≠[]->Knows g b g'->Sub g' pool->g'.length<=g.length+zsx d->(rk=kn\/H rk=none)->Q (.ref r) H'
def q7l(U3:Hp)(kc:Addr)(g':List Str)(x:Str)(i:Nat)(ys:List V)(σ':St)(H':Hp):Prop:=H'=U3/\(∃t,σ'=[t,some (.ref kc)])/\((i=0/\ys=[])\/(i=1/\ys=(if g'.contains x then [] else [x]).map V.str))
def q7j(U2:Hp)(rk2:Addr)(g1 g2:List Str)(i:Nat)(ys:List V)(σ':St)(H':Hp):Prop:=H'=U2/\(∃t,σ'=[t,some (.ref rk2)])/\ys=((g1.take i).filter fun x=>g2.contains x).map V.str
def q7n(H:Hp)(kn a:Addr)(k:Int)(d:Nat)(pd:Addr)(g:List Str)(j:Nat)(σ : St)(Hc:Hp):Prop:=
 ∃(kc:Addr) (vs:List V) (b:List D) (g':List Str) (x5 x6 x7 x8 x9 x10 x11 x12 x13:Option V),σ = [some (.ref a),some (.int k),some (.ref kc),some (.int d),some (.ref pd),x5,x6,x7,x8,x9,x10,x11,x12,x13]/\
  Same H Hc/\Hc pd=some (.lst vs)/\DtA Hc vs (encB b)/\Hc kc=some (.lst (g'.map V.str))/\kc≠pd/\Knows g b g'/\Sub g' pool/\b.length=j/\(∀e∈b,okD (d - 1) e)/\g'.length<=g.length+j * zry d/\(kc=kn\/H kc=none)
theorem zyb{n:Nat} (F:Fun K "_law_block" "_law_block" z0c f fd) (b_range:mg "range" = none) (b_tuple:mg "tuple" = none) (c_law_pick:Callee P w K mg base "_law_pick" ["_law_script","_law_k","_law_many"] 2 (zde K))
  (c_law_sum:Callee P w K mg base "_law_sum" ["_law_script","_law_at","_law_known","_law_deep"] 6 (zlh K 3)) (c_law_counted:Callee P w K mg base "_law_counted" ["_law_script","_law_at","_law_known","_law_body","_law_deep"] 7 (zhc K))
  (c_law_block:Callee P w K mg base "_law_block" ["_law_script","_law_at","_law_known","_law_deep"] (n+7) (zf5 K n)):FnOk P w K mg base CX0 (n+8) f fd ["_law_script","_law_at","_law_known","_law_deep"] (zf5 K (n+1)):=by
 refine F.ok sc_law_block (fun vs H Q E h=>?_) (fun cdv A outer s H vs Q E hr h=>?_)
 ·obtain⟨a,ns,k,kn,g,d,rfl,_⟩:=h
  rfl
 obtain⟨a,ns,k,kn,g,d,rfl,hS,h0,hk,hg,hd1,hd2,hd3,hgb,q⟩:=h
 refine⟨_,(z06 (z1g (i:=4) sc_law_block.nd rfl z8i (z44 z04) (z05 rfl))
 (z06 (zdo PassesOwn.never rfl (zly zeb b_range (z09 (z0r z1l z03 (z18 c_law_pick hr (by omega) (z09 (z00 (i:=0) rfl z0f z07 z08) (z09 (z00 (i:=1) rfl z5h z11 z12) (z09 (z00 (i:=3) rfl z15 z2c z2d) z04))) z3m z0u)) z04)) (z10 (i:=5) sc_law_block.nd rfl zc6)
 (z06 (z1g (i:=6) sc_law_block.nd rfl z9h (z0r z1l (z0r zar z03 (z00 (i:=1) rfl z5h z11 z12)) (z0r zar z03 (z0r z1l (z00 (i:=5) rfl zc1 z3y z40) z03))) (z05 rfl))
 (z06 (z1g (i:=7) sc_law_block.nd rfl za9 (z18 c_law_pick hr (by omega) (z09 (z00 (i:=0) rfl z0f z07 z08) (z09 (z00 (i:=6) rfl z0q z35 z36) (z09 z03 z04))) z3m z0u) (z05 rfl))
 (z0a (z32 (PW.pt (zuc (z0g zof (z00 (i:=7) rfl z54 zcy zd2) z03 (z0s _)) (zuc (z0g zds (z00 (i:=3) rfl z15 z2c z2d) z03 (z0s _)) (zps (z0g (gEq hr.units) (z00 (i:=2) rfl z0i z0o z0p) (z44 z04) (z0s _)))))) (z06 (z1g (i:=8) sc_law_block.nd rfl z9e (z0z z6t (z44 (z09 z0m (z09 z0m (z09 z0m (z09 z0m z04))))) (z18 c_law_pick hr (by omega) (z09 (z00 (i:=0) rfl z0f z07 z08) (z09 (z0r z1l (z00 (i:=6) rfl z0q z35 z36) z03) (z09 z03 z04))) z3m z0u) (fun _ _=>rfl)) (z05 rfl))
 (z06 (z46 (zdq PySem.F.plainAttrs_list PySem.F.slot_list_append PySem.F.type_list_append z3i (z00 (i:=4) rfl z26 z6b z6e) (z09 (z13 (z09 z0m (z09 (z00 (i:=8) rfl z4s z5m z5n) (z09 (z18 c_law_sum hr (by omega) (z09 (z00 (i:=0) rfl z0f z07 z08) (z09 (z0r z1l (z00 (i:=6) rfl z0q z35 z36) z03) (z09 (z00 (i:=2) rfl z0i z0o z0p) (z09 z03 z04)))) z5l z70) z04)))) z04)) (z05 rfl))
 (z0a (z1g (i:=2) sc_law_block.nd rfl z4n (z0r zq3 (z00 (i:=2) rfl z0i z0o z0p) (zaq ["_law_one","_law_known"] [none,some 2] rfl (CompS.of (by rfl)) (z6s (z44 (z09 (z00 (i:=8) rfl z4s z5m z5n) z04))) (fun _ _ _ _ _=>(z10 (i:=0) (show List.Nodup (["_law_one","_law_known"]:List Str) from by decide+kernel) rfl (Or.inl rfl))) (fun _ _ _ _ _=>(zfb (z0g (opK (r:=zhf) (K:=K) (q4b hr.units) rfl) (z00 (i:=0) rfl (by first | exact Or.inl rfl | exact Or.inr (Or.inl rfl) | exact Or.inr (Or.inr rfl)) z71 z77) (z00 (i:=1) rfl (by first | exact Or.inl rfl | exact Or.inr (Or.inl rfl) | exact Or.inr (Or.inr rfl)) z0o z0p) (by with_unfolding_all rfl)))) (fun _ _ _ _ _=>(z00 (i:=0) rfl (by first | exact Or.inl rfl | exact Or.inr (Or.inl rfl) | exact Or.inr (Or.inr rfl)) z71 z77)))) (z05 rfl))))) (z0a (z32 (z0g zof (z00 (i:=7) rfl z54 zcy zd2) z03 (z0s _)) (z06 (zzo (z18 c_law_block hr (by omega) (z09 (z00 (i:=0) rfl z0f z07 z08) (z09 (z0r z1l (z00 (i:=6) rfl z0q z35 z36) z03) (z09 (z00 (i:=2) rfl z0i z0o z0p) (z09 (z0r zck (z00 (i:=3) rfl z15 z2c z2d) z03) z04)))) z3f z6c) (zcj (n:=2) rfl (z0y (z10 (i:=9) sc_law_block.nd rfl z8h) (z0y (z10 (i:=10) sc_law_block.nd rfl z9f) z4f))))
 (z06 (zzo (z18 c_law_block hr (by omega) (z09 (z00 (i:=0) rfl z0f z07 z08) (z09 (z0r z1l (z00 (i:=6) rfl z0q z35 z36) z03) (z09 (z00 (i:=2) rfl z0i z0o z0p) (z09 (z0r zck (z00 (i:=3) rfl z15 z2c z2d) z03) z04)))) z3f z6c) (zcj (n:=2) rfl (z0y (z10 (i:=11) sc_law_block.nd rfl z7u) (z0y (z10 (i:=12) sc_law_block.nd rfl z8g) z4f))))
 (z06 (z46 (zdq PySem.F.plainAttrs_list PySem.F.slot_list_append PySem.F.type_list_append z3i (z00 (i:=4) rfl z26 z6b z6e) (z09 (z13 (z09 z0m (z09 (z18 c_law_sum hr (by omega) (z09 (z00 (i:=0) rfl z0f z07 z08) (z09 (z0r z1l (z00 (i:=6) rfl z0q z35 z36) z03) (z09 (z00 (i:=2) rfl z0i z0o z0p) (z09 z03 z04)))) z5l z70) (z09 (z00 (i:=9) rfl z84 zkt zkw) (z09 (z00 (i:=11) rfl z7l zj2 zj3) z04))))) z04)) (z05 rfl))
 (z0a (z1g (i:=2) sc_law_block.nd rfl z4n (zaq ["_law_one","_law_yours"] [none,some 12] rfl (CompS.of (by rfl)) (z6s (z00 (i:=10) rfl z8y zmw zn6)) (fun _ _ _ _ _=>(z10 (i:=0) (show List.Nodup (["_law_one","_law_yours"]:List Str) from by decide+kernel) rfl (Or.inl rfl))) (fun _ _ _ _ _=>(zfb (z0g (opK (r:=qIn) (K:=K) (gIn hr.units) rfl) (z00 (i:=0) rfl (by first | exact Or.inl rfl | exact Or.inr (Or.inl rfl) | exact Or.inr (Or.inr rfl)) z71 z77) (z00 (i:=1) rfl (by first | exact Or.inl rfl | exact Or.inr (Or.inl rfl) | exact Or.inr (Or.inr rfl)) zkr zku) (by with_unfolding_all rfl)))) (fun _ _ _ _ _=>(z00 (i:=0) rfl (by first | exact Or.inl rfl | exact Or.inr (Or.inl rfl) | exact Or.inr (Or.inr rfl)) z71 z77))) (zrh z81)))))) (z06 (z1g (i:=13) sc_law_block.nd rfl z9g (z0z z0n (z18 c_law_block hr (by omega) (z09 (z00 (i:=0) rfl z0f z07 z08) (z09 (z0r z1l (z00 (i:=6) rfl z0q z35 z36) z03) (z09 (z00 (i:=2) rfl z0i z0o z0p) (z09 (z0r zck (z00 (i:=3) rfl z15 z2c z2d) z03) z04)))) z3f z6c) z03 (fun _ _=>rfl)) (z05 rfl))
 (z0a (z46 (zdq PySem.F.plainAttrs_list PySem.F.slot_list_append PySem.F.type_list_append z3i (z00 (i:=4) rfl z26 z6b z6e) (z09 (z18 c_law_counted hr (by omega) (z09 (z00 (i:=0) rfl z0f z07 z08) (z09 (z0r z1l (z00 (i:=6) rfl z0q z35 z36) z03) (z09 (z00 (i:=2) rfl z0i z0o z0p) (z09 (z00 (i:=13) rfl z8z zbf zbn) (z09 (z00 (i:=3) rfl z15 z2c z2d) z04))))) z7y zi9) z04)) (z05 rfl)))))))))))
 (z0a (z0h (z13 (z09 (zoc z6f zea b_tuple zen (z09 (z00 (i:=4) rfl z26 z6b z6e) z04) zdv zeg) (z09 (z00 (i:=2) rfl z0i z0o z0p) z04))))))),?_⟩
 walk_at "rd"
 refine⟨Nat.zero_le _,fun pd hpd=>?_⟩
 have s1:=z02 hpd (HO.lst [])
 refine⟨a,ns,k,d,rfl,s1.seq hS,h0,by omega,fun i H2 i0 i1 s2=>?_⟩
 have hnk:kn≠pd:=z0e hk hpd
 refine⟨_,rfl,by omega,by omega,?_⟩
 refine zmn (lo:=0) (n:=(1+i).toNat) (q7n H kn a k d pd g) ?start ?step ?done
 case start=>exact⟨kn,[],[],g,none,none,none,none,none,none,none,none,none,rfl,s1.trans s2,s2 _ _ z01,.nil,(s1.trans s2) _ _ hk,hnk,Knows.nil g,hg,rfl,fun e he=>absurd he (by simp),by omega,.inl rfl⟩
 case done=>
  rintro σ Hc ⟨kc,vs,b,g',x5,x6,x7,x8,x9,x10,x11,x12,x13,rfl,sc,hv,dv,hkc,hne,hkn,hg',hbl,hok,hgl,hkf⟩
  walk_at "rd"
  refine⟨vs,.inl ⟨SqL.of hv,fun pb hpb=>⟨zl 2 (by decide),fun pr hpr=>?_⟩⟩⟩
  have sa:=z02 hpb (HO.tup vs)
  have sb:=z02 hpr (HO.tup [V.ref pb,V.ref kc])
  refine q pr pb kc _ b g' (sc.trans (sa.trans sb)) z01 (.tup (sb _ _ z01) (dv.kp (sa.trans sb).kp)) (sb _ _ (sa _ _ hkc)) ?_ (by omega) (fun z=>by rw [z] at hbl; simp at hbl; omega) hkn hg' (Nat.le_trans hgl (Nat.add_le_add_left (pgc hd1 hd3 (by omega)) _)) hkf
  obtain⟨d',rfl⟩:∃d',d=d'+1:=⟨d - 1,by omega⟩
  exact⟨by omega,fun e he=>hok e he⟩
 case step=>
  rintro j σ Hc hj ⟨kc,vs,b,g',x5,x6,x7,x8,x9,x10,x11,x12,x13,rfl,sc,hv,dv,hkc,hne,hkn,hg',hbl,hok,hgl,hkf⟩
  have hjd:j < d:=by omega
  have hg7:g'.length<=g.length+6:=Nat.le_trans hgl (Nat.add_le_add_left (Nat.le_trans (pgc hd1 hd3 (Nat.le_of_lt hjd)) (cg6 d)) _)
  have hvl:vs.length=j:=by rw [dv.length,z6y,hbl]
  refine q79 fun M0 f0=>?_
  walk_at "rd"
  rw [f0]
  show zr7 _ (zr7 _ (ztm _ _ _)) _ _ _
  refine q2r fun Y Z eY eZ=>?_
  walk_at "rd"
  refine⟨.inl ⟨by decide,by decide⟩,.inl ⟨by decide,by decide⟩,?_⟩
  refine⟨a,ns,_,7,rfl,sc.seq hS,by omega,by decide,fun wy H3 w0 w1 s3=>?_⟩
  walk_at "rd"
  refine q2o (Hy:=fun Hx=>Same H3 Hx) (C:=?cc) ?kk ?_
  case kk=>
   intro key
   split
   ·generalize hH:H3=H3n
    exact key H3n (hH ▸ Same.refl _)
   ·split
    ·exact key H3 (Same.refl _)
    ·rename_i hd0
     refine⟨Nat.zero_le _,fun pe hpe=>?_⟩
     have se:=z02 hpe (HO.lst [])
     refine⟨_,q4g (SqL.of (se _ _ (s3 _ _ hkc))) (zzr hg') (SqL.of z01),?_⟩
     replace s3:=s3.trans se
     generalize upd H3 pe (HO.lst [])=H3e at s3 se |-
     split
     ·exact key H3e se
     ·rename_i hne2
      rw [eZ]
      refine zth fun Y2 Z2 eY2 eZ2=>?_
      walk_at "rd"
      split
      ·rw [eY2]
       refine z0j fun N1 e1=>?_
       walk_at "rd"
       have hd4:2<=d:=by
        have:¬ (d:Int)=1:=hd0
        omega
       have ed:((d:Int) - 1)=((d - 1:Nat):Int):=by omega
       rw [ed]
       refine⟨a,ns,_,kc,g',d - 1,rfl,(sc.trans s3).seq hS,by omega,s3 _ _ hkc,hg',by omega,by omega,by omega,by omega,fun r1 rb1 rk1 H4 b1 g1 s4 hr1 db1 hk1 ob1 lb1 nb1 kn1 sp1 gl1 kf1=>?_⟩
       refine⟨_,rfl,_,SqT.of hr1,rfl,_,_,rfl,_,_,rfl,rfl,?_⟩
       have s34:=s3.trans s4
       rw [e1]
       refine z0j fun N2 e2=>?_
       walk_at "rd"
       rw [ed]
       refine⟨a,ns,_,kc,g',d - 1,rfl,(sc.trans s34).seq hS,by omega,s34 _ _ hkc,hg',by omega,by omega,by omega,by omega,fun r2 rb2 rk2 H5 b2 g2 s5 hr2 db2 hk2 ob2 lb2 nb2 kn2 sp2 gl2 kf2=>?_⟩
       have s35:=s34.trans s5
       refine⟨_,rfl,_,SqT.of hr2,rfl,_,_,rfl,_,_,rfl,rfl,?_⟩
       rw [e2]
       refine z0j fun N3 e3=>?_
       walk_at "rd"
       refine⟨.inl ⟨rfl,_,SqL.of (s35 _ _ hv)⟩,?_⟩
       refine⟨a,ns,_,kc,g',2,rfl,(sc.trans s35).seq hS,by omega,s35 _ _ hkc,hg',by decide,by decide,fun r3 H6 t3 s6 d3 k3=>?_⟩
       refine⟨zl 4 (by decide),fun pt hpt=>?_⟩
       have s7:=z02 hpt (HO.tup [V.str "if",r3,V.ref rb1,V.ref rb2])
       have s57:=s5.trans (s6.trans s7)
       have s67:=s6.trans s7
       have dt:Dt _ (.ref pt) (D.ite t3 b1 b2).enc:=.tup z01 (.cons (.str _) (.cons (d3.kp s7.kp) (.cons (db1.kp s57.kp) (.cons (db2.kp s67.kp) .nil))))
       have s37:=s34.trans s57
       have n1:rk1≠pd:=by
        rcases kf1 with z | z
        ·rw [z]; exact hne
        ·intro y; rw [y,s3 _ _ hv] at z; cases z
       have n2:rk2≠pd:=by
        rcases kf2 with z | z
        ·rw [z]; exact hne
        ·intro y; rw [y,s34 _ _ hv] at z; cases z
       have m1:=s57 _ _ hk1
       have m2:=s67 _ _ hk2
       generalize upd H6 pt (HO.tup [V.str "if",r3,V.ref rb1,V.ref rb2])=U at s7 s57 s67 dt s37 m1 m2 |-
       have hv7:=s37 _ _ hv
       refine⟨vs,hv7,by rw [hvl]; exact z20 (by omega),?_⟩
       have k8:Kp U (upd U pd (HO.lst (vs++[V.ref pt]))):=Kp.set hv7
       have w1:(upd U pd (HO.lst (vs++[V.ref pt]))) rk1=some (.lst (g1.map V.str)):=by rw [z0b n1]; exact m1
       have w2:(upd U pd (HO.lst (vs++[V.ref pt]))) rk2=some (.lst (g2.map V.str)):=by rw [z0b n2]; exact m2
       have vU2:(upd U pd (HO.lst (vs++[V.ref pt]))) pd=some (.lst (vs++[V.ref pt])):=z01
       have sU2:Same H (upd U pd (HO.lst (vs++[V.ref pt]))):=z65 (sc.trans s37) hpd
       generalize upd U pd (HO.lst (vs++[V.ref pt]))=U2 at k8 w1 w2 vU2 sU2 |-
       rw [e3]
       walk_at "rd"
       refine⟨⟨_,SqL.of w1⟩,?_⟩
       have hg1:g1.length<=900:=by
        have:=cg6 (d - 1)
        omega
       refine z75 (K:=K) (a:=rk1) (xs:=g1.map V.str) (q7j U2 rk2 g1 g2) ⟨rfl,⟨none,rfl⟩,by simp⟩ (by rw [List.length_map]; exact z20 (by omega)) ?_ ?_ ?_ ?_
       ·rintro i ys σ' H' ⟨_,_,rfl⟩
        rw [List.length_map]
        exact Nat.le_trans (List.length_filter_le _ _) (by rw [List.length_take]; omega)
       ·rintro i ys σ' H' _ ⟨rfl,_,_⟩
        exact SqL.of w1
       ·rintro i ys v σ' H' hxi ⟨rfl,⟨t,rfl⟩,rfl⟩
        rw [List.getElem?_map] at hxi
        cases hx:g1[i]? with
        | none=>rw [hx] at hxi; cases hxi
        | some x=>
         rw [hx] at hxi
         have ev:V.str x=v:=by simpa using hxi
         subst ev
         walk_at "rd"
         refine⟨inV (.str x) (g2.map V.str),.inl ⟨rk2,_,rfl,.inl (SqL.of w2),rfl,zmp g2,rfl⟩,?_⟩
         rw [zkg]
         have et:g1.take (i+1)=g1.take i++[x]:=by rw [List.take_add_one,hx]; rfl
         cases hc:g2.contains x with
         | true=>exact⟨rfl,⟨_,rfl⟩,by rw [et,List.filter_append,List.map_append,List.filter_cons,hc]; rfl⟩
         | false=>exact⟨rfl,⟨_,rfl⟩,by rw [et,List.filter_append,List.map_append,List.filter_cons,hc]; simp⟩
       ·rintro ys σ' H' ⟨rfl,_,rfl⟩ pc hpc
        rw [List.length_map,List.take_length]
        have sa:=z02 hpc (HO.lst ((g1.filter fun x=>g2.contains x).map V.str))
        have hnp:pc≠pd:=fun z=>by rw [z,vU2] at hpc; cases hpc
        have hlf:(g1.filter fun x=>g2.contains x).length<=g1.length:=List.length_filter_le _ _
        refine⟨pc,vs++[V.ref pt],b++[D.ite t3 b1 b2],g1.filter fun x=>g2.contains x,_,_,_,_,_,_,_,_,_,rfl,sU2.trans sa,sa _ _ vU2,?_,z01,hnp,hkn.snoc (KnowsD.ite k3 kn1 kn2 ?_),?_,by rw [List.length_append,List.length_singleton,hbl],?_,?_,.inr (sU2.free hpc)⟩
        ·rw [z6z]
         exact(dv.kp (s37.kp.trans (k8.trans sa.kp))).append (.cons (dt.kp (k8.trans sa.kp)) .nil)
        ·intro y hy
         have:=List.mem_filter.mp hy
         exact⟨this.1,by simpa using this.2⟩
        ·exact fun y hy=>sp1 y (List.mem_filter.mp hy).1
        ·intro c hc
         rcases List.mem_append.mp hc with hc | hc
         ·exact hok c hc
         ·have ec:c=D.ite t3 b1 b2:=by simpa using hc
          subst ec
          exact⟨k3.mono hg' (by decide),ob1,ob2⟩
        ·rw [Nat.succ_mul]
         have:=cgp hd4 hd3
         omega
      ·rw [eZ2]
       refine z0j fun N1 e1=>?_
       walk_at "rd"
       have hd4:2<=d:=by
        have:¬ (d:Int)=1:=hd0
        omega
       have ed:((d:Int) - 1)=((d - 1:Nat):Int):=by omega
       rw [ed]
       have hgn:g'≠[]:=fun z=>hne2 (by rw [z]; rfl)
       refine⟨a,ns,_,kc,g',d - 1,rfl,(sc.trans s3).seq hS,by omega,s3 _ _ hkc,hg',by omega,by omega,by omega,by omega,fun r1 rb1 rk1 H4 b1 g1 s4 hr1 db1 hk1 ob1 lb1 nb1 kn1 sp1 gl1 kf1=>?_⟩
       have s34:=s3.trans s4
       refine⟨_,rfl,_,SqT.of hr1,_,rfl,?_⟩
       rw [e1]
       walk_at "rd"
       refine⟨.inl ⟨rfl,_,SqL.of (s34 _ _ hv)⟩,?_⟩
       refine⟨a,ns,_,kc,g',g1,_,b1,d - 1,d,rfl,(sc.trans s34).seq hS,by omega,s34 _ _ hkc,hg',hgn,db1,ob1,by omega,nb1,kn1,by omega,fun r2 H5 e2 s5 de2 oe2 ke2=>?_⟩
       have s35:=s34.trans s5
       refine⟨vs,s35 _ _ hv,by rw [hvl]; exact z20 (by omega),?_⟩
       have k8:Kp H5 (upd H5 pd (HO.lst (vs++[r2]))):=Kp.set (s35 _ _ hv)
       refine⟨kc,vs++[r2],b++[e2],g',_,_,_,_,_,_,_,_,_,rfl,z65 (sc.trans s35) hpd,z01,?_,by rw [z0b hne]; exact s35 _ _ hkc,hne,hkn.snoc ke2,hg',by rw [List.length_append,List.length_singleton,hbl],?_,?_,hkf⟩
       ·rw [z6z]
        exact(dv.kp (s35.kp.trans k8)).append (.cons (de2.kp k8) .nil)
       ·intro c hc
        rcases List.mem_append.mp hc with hc | hc
        ·exact hok c hc
        ·have ec:c=e2:=by simpa using hc
         subst ec
         exact oe2
       ·rw [Nat.succ_mul]
        omega
  intro Hx sx
  replace s3:=s3.trans sx
  rw [eY]
  refine z0j fun N1 e1=>?_
  walk_at "rd"
  refine⟨zl 4 (by decide),fun pm hpm=>?_⟩
  have s4:=z02 hpm (HO.lst [V.str "a",V.str "b",V.str "c",V.str "dd"])
  refine⟨a,ns,_,4,rfl,((sc.trans s3).trans s4).seq hS,by omega,by decide,fun m H4 m0 m1 s5=>?_⟩
  obtain⟨x,hx,e⟩:=z9w (c:=V.str) (ns:=pool) (k:=m) m0 m1
  have s35:=s3.trans (s4.trans s5)
  refine⟨_,_,rfl,SqL.of (s5 _ _ z01),_,e,?_⟩
  rw [e1]
  refine z0j fun N2 e2=>?_
  walk_at "rd"
  refine⟨.inl ⟨rfl,_,SqL.of (s35 _ _ hv)⟩,?_⟩
  refine⟨a,ns,_,kc,g',3,rfl,(sc.trans s35).seq hS,by omega,s35 _ _ hkc,hg',by decide,by decide,fun r1 H5 t1 s6 d1 k1=>?_⟩
  refine⟨zl 3 (by decide),fun pt hpt=>?_⟩
  have s7:=z02 hpt (HO.tup [V.str "set",V.str x,r1])
  have dt:Dt _ (.ref pt) (D.set x t1).enc:=.tup z01 (.cons (.str _) (.cons (.str _) (.cons (d1.kp s7.kp) .nil)))
  have s37:=s35.trans (s6.trans s7)
  generalize upd H5 pt (HO.tup [V.str "set",V.str x,r1])=U at s7 dt s37 |-
  have hv7:=s37 _ _ hv
  refine⟨vs,hv7,by rw [hvl]; exact z20 (by omega),?_⟩
  rw [e2]
  walk_at "rd"
  refine⟨zl 1 (by decide),fun pl hpl=>?_⟩
  have k8:Kp U (upd U pd (HO.lst (vs++[V.ref pt]))):=Kp.set hv7
  have kU2:(upd U pd (HO.lst (vs++[V.ref pt]))) kc=some (.lst (g'.map V.str)):=by rw [z0b hne]; exact s37 _ _ hkc
  have vU2:(upd U pd (HO.lst (vs++[V.ref pt]))) pd=some (.lst (vs++[V.ref pt])):=z01
  have sU2:Same H (upd U pd (HO.lst (vs++[V.ref pt]))):=z65 (sc.trans s37) hpd
  generalize upd U pd (HO.lst (vs++[V.ref pt]))=U2 at k8 kU2 vU2 sU2 hpl |-
  have s9:=z02 hpl (HO.lst [V.str x])
  have hU3:(upd U2 pl (HO.lst [V.str x])) pl=some (.lst [V.str x]):=z01
  generalize upd U2 pl (HO.lst [V.str x])=U3 at s9 hU3 |-
  refine⟨⟨_,SqL.of hU3⟩,?_⟩
  refine z75 (K:=K) (a:=pl) (xs:=[V.str x]) (q7l U3 kc g' x) ⟨rfl,⟨none,rfl⟩,.inl ⟨rfl,rfl⟩⟩ (z20 (by show 1<=1000; decide)) ?_ ?_ ?_ ?_
  ·rintro i ys σ' H' ⟨_,_,h⟩
   rcases h with⟨rfl,rfl⟩ | ⟨rfl,rfl⟩
   ·exact Nat.le_refl _
   ·split<;>simp
  ·rintro i ys σ' H' _ ⟨rfl,_,_⟩
   exact SqL.of hU3
  ·rintro i ys v σ' H' hxi ⟨rfl,⟨t,rfl⟩,h⟩
   rcases h with⟨rfl,rfl⟩ | ⟨rfl,rfl⟩
   ·have ev:V.str x=v:=by simpa using hxi
    subst ev
    walk_at "rd"
    refine⟨!inV (.str x) (g'.map V.str),.inl ⟨kc,_,rfl,.inl (SqL.of (s9 _ _ kU2)),rfl,zmp g',rfl⟩,?_⟩
    rw [zkg]
    cases hc:g'.contains x with
    | true=>exact⟨rfl,⟨_,rfl⟩,.inr ⟨rfl,by rw [hc]; rfl⟩⟩
    | false=>exact⟨rfl,⟨_,rfl⟩,.inr ⟨rfl,by rw [hc]; rfl⟩⟩
   ·simp at hxi
  ·rintro ys σ' H' ⟨rfl,_,h⟩ pc hpc
   rcases h with⟨h,_⟩ | ⟨_,rfl⟩
   ·exact absurd h (by simp)
   have sa:=z02 hpc (HO.lst ((if g'.contains x then [] else [x]).map V.str))
   refine⟨_,rfl,_,sa _ _ (s9 _ _ kU2),_,z01,?_,fun pk hpk=>?_⟩
   ·have e1:((if g'.contains x then [] else [x]).map V.str).length<=1:=by split<;>simp
    rw [List.length_map]
    exact zl _ (by omega)
   ·have sb:=z02 hpk (HO.lst (g'.map V.str++(if g'.contains x then [] else [x]).map V.str))
    have s9b:=s9.trans (sa.trans sb)
    have hnp:pk≠pd:=fun z=>by
     have:=(s9.trans sa) _ _ vU2
     rw [<- z,hpk] at this
     cases this
    refine⟨pk,vs++[V.ref pt],b++[D.set x t1],g'++(if g'.contains x then [] else [x]),_,_,_,_,_,_,_,_,_,rfl,sU2.trans s9b,s9b _ _ vU2,?_,?_,hnp,hkn.snoc (KnowsD.set k1 ?_),?_,by rw [List.length_append,List.length_singleton,hbl],?_,?_,.inr ((sU2.trans (s9.trans sa)).free hpk)⟩
    ·rw [z6z]
     exact(dv.kp (s37.kp.trans (k8.trans s9b.kp))).append (.cons (dt.kp (k8.trans s9b.kp)) .nil)
    ·rw [z01,List.map_append]
    ·intro y hy
     rcases List.mem_append.mp hy with hy | hy
     ·exact .inl hy
     ·cases hc:g'.contains x with
      | true=>rw [hc] at hy; simp at hy
      | false=>rw [hc] at hy; simp at hy; exact .inr hy
    ·intro y hy
     rcases List.mem_append.mp hy with hy | hy
     ·exact hg' y hy
     ·cases hc:g'.contains x with
      | true=>rw [hc] at hy; simp at hy
      | false=>rw [hc] at hy; simp at hy; rw [hy]; exact hx
    ·intro c hc
     rcases List.mem_append.mp hc with hc | hc
     ·exact hok c hc
     ·have ec:c=D.set x t1:=by simpa using hc
      subst ec
      exact⟨hx,k1.mono hg' (by decide)⟩
    ·have e1:(if g'.contains x then [] else [x]).length<=1:=by split<;>simp
     rw [List.length_append,Nat.succ_mul]
     have:=pg1 d
     omega
theorem zsb{k:Nat}:FnOk P w K mg base CX0 k f fd ["_law_script","_law_at","_law_known","_law_deep"] (zf5 K 0):=by
 have no:∀vs H Q E,¬ zf5 K 0 vs H Q E:=fun vs H Q E h=>by
  obtain⟨a,ns,k,kn,g,d,_,_,_,_,_,h1,h2,_⟩:=h
  omega
 exact⟨fun vs H Q E h=>absurd h (no vs H Q E),fun A outer s H args us vs Q E _ _ _ _ h=>absurd h (no vs H Q E)⟩
theorem znn(dd:Df K mg "_law_block" z0c ["_law_script","_law_at","_law_known","_law_deep"] f fd) (b_range:mg "range" = none) (b_tuple:mg "tuple" = none) (c_law_pick:Callee P w K mg base "_law_pick" ["_law_script","_law_k","_law_many"] 2 (zde K))
  (c_law_sum:Callee P w K mg base "_law_sum" ["_law_script","_law_at","_law_known","_law_deep"] 6 (zlh K 3)) (c_law_counted:Callee P w K mg base "_law_counted" ["_law_script","_law_at","_law_known","_law_body","_law_deep"] 7 (zhc K)) :
  ∀n:Nat,Callee P w K mg base "_law_block" ["_law_script","_law_at","_law_known","_law_deep"] (n+7) (zf5 K n)
 | 0=>dd.callee zsb
 | n+1=>dd.callee (zyb dd.F b_range b_tuple c_law_pick c_law_sum c_law_counted (znn dd b_range b_tuple c_law_pick c_law_sum c_law_counted n))
abbrev Rw:=Str×Int×Int
def rowEnc(r:Rw):Dm:=.tup [.str r.1,.int r.2.1,.int r.2.2]
def pair:List Str:=["a","b"]
def q7g(H:Hp)(a:Addr)(k:Int)(pi:Addr)(j:Nat)(σ : St)(Hc:Hp):Prop:=∃(vs:List V) (rows:List Rw) (x3 x4:Option V),σ = [some (.ref a),some (.int k),some (.ref pi),x3,x4]/\Same H Hc/\Hc pi=some (.lst vs)/\DtA Hc vs (rows.map rowEnc)/\rows.length=j/\rows.map (·.1)=pair.take j/\∀r∈rows,-6<=r.2.1/\r.2.1<=r.2.2/\r.2.2<=8
def q6o(U:Hp)(rows:List Rw)(i:Nat)(ys:List V)(σ':St)(H':Hp):Prop:=H'=U/\(∃t,σ'=[t])/\ys=(rows.take i).map fun r=>V.str r.1
structure okRows(rows:List Rw):Prop where
 len:rows.length<=2
 nm:rows.map (·.1)=pair.take rows.length
 lo:∀r∈rows,-6<=r.2.1/\r.2.1<=r.2.2/\r.2.2<=8
def zli(K:PySem.W.Frag):Sp:=fun vs H Q _=>∃(a:Addr) (ns:List Int) (k:Int),vs=[.ref a,.int k]/\SqL K H a (ns.map V.int)/\0<=k/\
 ∀(r ri rb:Addr) (H':Hp) (rows:List Rw) (b:List D) (g':List Str),Same H H'->H' r=some (.tup [.ref ri,.ref rb])->Dt H' (.ref ri) (.tup (rows.map rowEnc))->Dt H' (.ref rb) (.tup (encB b))->okRows rows->okB 3 b->b.length<=3->b≠[]->Knows (rows.map (·.1)) b g'->Q (.ref r) H'
theorem zs6(F:Fun K "_law_program" "_law_program" z0w f fd) (b_range:mg "range" = none) (b_tuple:mg "tuple" = none) (c_law_pick:Callee P w K mg base "_law_pick" ["_law_script","_law_k","_law_many"] 2 (zde K))
  (c_law_block:Callee P w K mg base "_law_block" ["_law_script","_law_at","_law_known","_law_deep"] 10 (zf5 K 3)):FnOk P w K mg base CX0 11 f fd ["_law_script","_law_at"] (zli K):=by
 refine F.ok sc_law_program (fun vs H Q E h=>?_) (fun cdv A outer s H vs Q E hr h=>?_)
 ·obtain⟨a,ns,k,rfl,_⟩:=h
  rfl
 obtain⟨a,ns,k,rfl,hS,h0,q⟩:=h
 refine⟨_,(z06 (z1g (i:=2) sc_law_program.nd rfl z8f (z44 z04) (z05 rfl))
 (z06 (zdo PassesOwn.never rfl (zly zcc b_range (z09 (z18 c_law_pick hr (by omega) (z09 (z00 (i:=0) rfl z1n z07 z08) (z09 (z00 (i:=1) rfl z29 z11 z12) (z09 z03 z04))) z33 z0u) z04)) (z10 (i:=3) sc_law_program.nd rfl za8)
 (z06 (z1g (i:=4) sc_law_program.nd rfl z8e (z0r zck (z18 c_law_pick hr (by omega) (z09 (z00 (i:=0) rfl z1n z07 z08) (z09 (z0r z1l (z0r z1l (z00 (i:=1) rfl z29 z11 z12) z03) (z0r zar z03 (z00 (i:=3) rfl z3k z3y z40))) (z09 z03 z04))) z33 z0u) z03) (z05 rfl))
 (z0a (z46 (zdq PySem.F.plainAttrs_list PySem.F.slot_list_append PySem.F.type_list_append z3i (z00 (i:=2) rfl z30 zcz zd3) (z09 (z13 (z09 (z0z z6t (z44 (z09 z0m (z09 z0m z04))) (z00 (i:=3) rfl z3k z3y z40) (fun _ _=>rfl)) (z09 (z00 (i:=4) rfl z4j z9r z9u) (z09 (z0r z1l (z00 (i:=4) rfl z4j z9r z9u) (z18 c_law_pick hr (by omega) (z09 (z00 (i:=0) rfl z1n z07 z08) (z09 (z0r z1l (z0r z1l (z00 (i:=1) rfl z29 z11 z12) z03) (z0r zar z03 (z00 (i:=3) rfl z3k z3y z40))) (z09 z03 z04))) z33 z0u)) z04)))) z04)) (z05 rfl)))))
 (z0a (z0h (z13 (z09 (zoc z6f zcb b_tuple zen (z09 (z00 (i:=2) rfl z30 zcz zd3) z04) zdv zeg) (z09 (z0z z0n (z18 c_law_block hr (by omega) (z09 (z00 (i:=0) rfl z1n z07 z08) (z09 (z0r z1l (z00 (i:=1) rfl z29 z11 z12) z03) (z09 (zaq ["_law_row"] [none] rfl (CompS.of (by rfl)) (z6s (z00 (i:=2) rfl z30 zcz zd3)) (fun _ _ _ _ _=>(z10 (i:=0) (show List.Nodup (["_law_row"]:List Str) from by decide+kernel) rfl (Or.inl rfl))) (fun _ _ _ _ _=>zob) (fun _ _ _ _ _=>(z0z (ixK (r:=zl0) (K:=K) z0n rfl) (z00 (i:=0) rfl (by first | exact Or.inl rfl | exact Or.inr (Or.inl rfl) | exact Or.inr (Or.inr rfl)) zp7 zpc) z03 (fun _ _=>rfl)))) (z09 z03 z04)))) z7x z6c) z03 (fun _ _=>rfl)) z04))))))),?_⟩
 walk_at "rd"
 refine⟨Nat.zero_le _,fun pi hpi=>?_⟩
 have s1:=z02 hpi (HO.lst [])
 refine⟨a,ns,k,3,rfl,s1.seq hS,h0,by decide,fun i H2 i0 i1 s2=>?_⟩
 refine⟨_,rfl,by omega,by omega,?_⟩
 refine zmn (lo:=0) (n:=i.toNat) (q7g H a k pi) ?start ?step ?done
 case start=>exact⟨[],[],none,none,rfl,s1.trans s2,s2 _ _ z01,.nil,rfl,rfl,fun r hr=>absurd hr (by simp)⟩
 case step=>
  rintro j σ Hc hj ⟨vs,rows,x3,x4,rfl,sc,hv,dv,hl,hnm,hlo⟩
  have hvl:vs.length=j:=by rw [dv.length,List.length_map,hl]
  walk_at "rd"
  refine⟨.inl ⟨by decide,by decide⟩,?_⟩
  refine⟨a,ns,_,13,rfl,sc.seq hS,by omega,by decide,fun lo H3 l0 l1 s3=>?_⟩
  walk_at "rd"
  refine⟨.inl ⟨rfl,_,SqL.of (s3 _ _ hv)⟩,zl 2 (by decide),fun pm hpm=>?_⟩
  have s4:=z02 hpm (HO.lst [V.str "a",V.str "b"])
  have hj2:j=0\/j=1:=by omega
  obtain⟨x,ex,et⟩:∃x:Str,atI (pair.map V.str) (0+(j:Int))=some (V.str x)/\pair.take (j+1)=pair.take j++[x]:=by
   rcases hj2 with rfl | rfl
   ·exact⟨"a",rfl,rfl⟩
   ·exact⟨"b",rfl,rfl⟩
  refine⟨_,SqL.of z01,_,ex,.inl ⟨by decide,by decide⟩,?_⟩
  refine⟨a,ns,_,3,rfl,((sc.trans s3).trans s4).seq hS,by omega,by decide,fun z H4 z0 z1 s5=>?_⟩
  refine⟨_,rfl,zl 3 (by decide),fun pt hpt=>?_⟩
  have s6:=z02 hpt (HO.tup [V.str x,V.int (lo - 6),V.int (lo - 6+z)])
  have dt:Dt (upd H4 pt (HO.tup [V.str x,V.int (lo - 6),V.int (lo - 6+z)])) (.ref pt) (rowEnc (x,lo - 6,lo - 6+z)):=.tup z01 (.cons (.str _) (.cons (.int _) (.cons (.int _) .nil)))
  have s36:=s3.trans (s4.trans (s5.trans s6))
  generalize upd H4 pt (HO.tup [V.str x,V.int (lo - 6),V.int (lo - 6+z)])=U at s6 dt s36 |-
  refine⟨vs,s36 _ _ hv,by rw [hvl]; exact z20 (by omega),?_⟩
  have k8:Kp U (upd U pi (HO.lst (vs++[V.ref pt]))):=Kp.set (s36 _ _ hv)
  refine⟨vs++[V.ref pt],rows++[(x,lo - 6,lo - 6+z)],_,_,rfl,z65 (sc.trans s36) hpi,z01,?_,by rw [List.length_append,List.length_singleton,hl],?_,?_⟩
  ·rw [List.map_append]
   exact(dv.kp (s36.kp.trans k8)).append (.cons (dt.kp k8) .nil)
  ·rw [List.map_append,hnm,et]; rfl
  ·intro r hr'
   rcases List.mem_append.mp hr' with hr' | hr'
   ·exact hlo r hr'
   ·have er:r=(x,lo - 6,lo - 6+z):=by simpa using hr'
    subst er
    show -6<=lo - 6/\lo - 6<=lo - 6+z/\lo - 6+z<=8
    omega
 case done=>
  rintro σ Hc ⟨vs,rows,x3,x4,rfl,sc,hv,dv,hl,hnm,hlo⟩
  walk_at "rd"
  have hvl:vs.length=i.toNat:=by rw [dv.length,List.length_map,hl]
  refine⟨vs,.inl ⟨SqL.of hv,fun pb hpb=>?_⟩⟩
  have sa:=z02 hpb (HO.tup vs)
  have dti:Dt _ (.ref pb) (.tup (rows.map rowEnc)):=.tup z01 (dv.kp sa.kp)
  have hv2:=sa _ _ hv
  have dvU:=dv.kp sa.kp
  generalize upd Hc pb (HO.tup vs)=U at sa dti hv2 dvU |-
  refine⟨⟨_,SqL.of hv2⟩,?_⟩
  refine z75 (K:=K) (a:=pi) (xs:=vs) (q6o U rows) ⟨rfl,⟨none,rfl⟩,rfl⟩ (by rw [hvl]; exact z20 (by omega)) ?_ ?_ ?_ ?_
  ·rintro i ys σ' H' ⟨_,_,rfl⟩
   rw [List.length_map,List.length_take]
   omega
  ·rintro i ys σ' H' _ ⟨rfl,_,_⟩
   exact SqL.of hv2
  ·rintro i' ys v σ' H' hxi ⟨rfl,⟨t,rfl⟩,rfl⟩
   obtain⟨d,hd,dd⟩:=dvU.get hxi
   rw [List.getElem?_map] at hd
   cases hr':rows[i']? with
   | none=>rw [hr'] at hd; cases hd
   | some r=>
    rw [hr'] at hd
    have ed:rowEnc r=d:=by simpa using hd
    subst ed
    obtain⟨pa,xs,rfl,hpa,da⟩:=dd.tupI
    rcases da with _ | ⟨d1,_ | ⟨d3,_ | ⟨d5,_ | _⟩⟩⟩
    ·cases d1
     walk_at "rd"
     refine⟨_,SqT.of hpa,_,rfl,rfl,⟨_,rfl⟩,?_⟩
     rw [List.take_add_one,hr',List.map_append]
     rfl
  ·rintro ys σ' H' ⟨rfl,_,rfl⟩ pc hpc
   rw [show vs.length=rows.length by rw [hvl,hl],List.take_length]
   have sb:=z02 hpc (HO.lst (rows.map fun r=>V.str r.1))
   have hsub:Sub (rows.map (·.1)) pool:=by
    rw [hnm]
    intro y hy
    have:=List.mem_of_mem_take hy
    simp only[pair,List.mem_cons,List.not_mem_nil,or_false] at this
    rcases this with rfl | rfl<;>decide+kernel
   refine⟨a,ns,k+9,pc,rows.map (·.1),3,rfl,(sc.trans (sa.trans sb)).seq hS,by omega,?_,hsub,by decide,by decide,by decide,by rw [List.length_map]; omega,fun r rb rk H5 b g' s5 hr' db hkk ob lb nb kn sp gl kf=>?_⟩
   ·rw [z01,List.map_map]; rfl
   ·refine⟨_,rfl,_,SqT.of hr',_,rfl,zl 2 (by decide),fun pr hpr=>?_⟩
    have sc2:=z02 hpr (HO.tup [V.ref pb,V.ref rb])
    exact q pr pb rb _ rows b g' (sc.trans (sa.trans (sb.trans (s5.trans sc2)))) z01 (dti.kp (sb.trans (s5.trans sc2)).kp) (db.kp sc2.kp) ⟨by omega,by rw [hnm,hl],hlo⟩ ob lb nb kn
end
section
variable{P:Program}{w:World}{K:PySem.W.Frag}{mg:Str->Option Value}{base:Heap}{f:Addr}{fd:FuncData}
def tyD:Dm->String
 | .non=>"NoneType" | .bl _=>"bool" | .int _=>"int" | .str _=>"str" | .tup _=>"tuple" | .lst=>"list"
theorem q5l{H:Hp}{v:V}{d:Dm}(h:Dt H v d):TyOf K H v (.type (tyD d)):=by
 cases h with
 | non=>exact .non
 | bl b=>exact .bl b
 | int i=>exact .int i
 | str x=>exact .str x
 | tup e _=>exact .tup e
 | lst e=>exact .lst e
def isT:Dm->Bool
 | .tup _=>true
 | _=>false
def isI:Dm->Bool
 | .int _=>true
 | .bl _=>true
 | _=>false
def isB:Dm->Bool
 | .bl _=>true
 | _=>false
theorem zsh{H:Hp}{v:V}{d:Dm}(h:Dt H v d):∃t,TyOf K H v t/\PySem.W.kitOne K t (.type "tuple")=some (isT d):=⟨_,q5l h,by cases d<;>rfl⟩
theorem zjn{H:Hp}{v:V}{a b:Dm}(h:Dt H v (.tup [a,b])):∃p x y,v=.ref p/\H p=some (.tup [x,y])/\Dt H x a/\Dt H y b:=by
 obtain⟨p,xs,rfl,e,r⟩:=h.tupI
 rcases r with _ | ⟨r1,_ | ⟨r2,_ | _⟩⟩
 exact⟨p,_,_,rfl,e,r1,r2⟩
theorem zr6{H:Hp}{v:V}{a b c:Dm}(h:Dt H v (.tup [a,b,c])):∃p x y z,v=.ref p/\H p=some (.tup [x,y,z])/\Dt H x a/\Dt H y b/\Dt H z c:=by
 obtain⟨p,xs,rfl,e,r⟩:=h.tupI
 rcases r with _ | ⟨r1,_ | ⟨r2,_ | ⟨r3,_ | _⟩⟩⟩
 exact⟨p,_,_,_,rfl,e,r1,r2,r3⟩
theorem zt6{H:Hp}{v:V}{a b c d:Dm}(h:Dt H v (.tup [a,b,c,d])):∃p x y z u,v=.ref p/\H p=some (.tup [x,y,z,u])/\Dt H x a/\Dt H y b/\Dt H z c/\Dt H u d:=by
 obtain⟨p,xs,rfl,e,r⟩:=h.tupI
 rcases r with _ | ⟨r1,_ | ⟨r2,_ | ⟨r3,_ | ⟨r4,_ | _⟩⟩⟩⟩
 exact⟨p,_,_,_,_,rfl,e,r1,r2,r3,r4⟩
def eqS(d:Dm)(z:Str):Bool:=match d with
 | .str x=>decide (x=z)
 | _=>false
theorem z8p{H:Hp}{x:V}{d:Dm}{z:Str}(h:Dt H x d):q59 K x (.str z) H (eqS d z):=by
 cases h with
 | str y=>exact .inl ⟨rfl,by show decide (y=z)=decide (V.str y=V.str z); simp⟩
 | tup e _=>exact .inr (.inr ⟨_,_,rfl,rfl,.inr ⟨_,SqT.of e⟩,rfl⟩)
 | lst e=>exact .inr (.inr ⟨_,_,rfl,rfl,.inl ⟨_,SqL.of e⟩,rfl⟩)
 | non=>exact .inl ⟨rfl,by simp[eqS]⟩
 | bl b=>exact .inl ⟨rfl,by simp[eqS]⟩
 | int i=>exact .inl ⟨rfl,by simp[eqS]⟩
def D.term:D->T
 | .set _ t=>t
 | .ite t _ _=>t
 | .whl t _ _=>t
def zpm:Sp:=fun vs H Q _=>∃v e,vs=[v]/\Dt H v (D.enc e)/\∀x,Dt H x e.term.enc->Q x H
theorem zs4(F:Fun K "term_of" "term_of" zdk f fd):FnOk P w K mg base CX0 1 f fd ["deed"] zpm:=by
 refine F.ok zrn (fun vs H Q E h=>?_) (fun cdv A outer s H vs Q E hr h=>?_)
 ·obtain⟨v,d,rfl,_⟩:=h
  rfl
 obtain⟨v,e,rfl,hd,q⟩:=h
 refine⟨_,(z06 (z32 (z0g (gEq hr.units) (z0z z0n (z00 (i:=0) rfl z5p z1o z1p) z03 (fun _ _=>rfl)) z0m (z0s _)) (z0a (z0h (z0z z0n (z00 (i:=0) rfl z5p z1o z1p) z03 (fun _ _=>rfl)))) z0x)
 (z0a (z0h (z0z z0n (z00 (i:=0) rfl z5p z1o z1p) z03 (fun _ _=>rfl))))),?_⟩
 walk_at "rd"
 cases e with
 | set x t=>
  rw [D.enc] at hd
  obtain⟨p,x0,x1,x2,rfl,hp,t0,t1,t2⟩:=zr6 hd
  refine⟨_,rfl,_,SqT.of hp,_,rfl,_,z8p t0,?_⟩
  rw [if_pos (show eqS (.str "set") "set" = true from by decide+kernel)]
  exact⟨_,rfl,_,SqT.of hp,_,rfl,q _ t2⟩
 | ite t b c=>
  rw [D.enc] at hd
  obtain⟨p,x0,x1,x2,x3,rfl,hp,t0,t1,t2,t3⟩:=zt6 hd
  refine⟨_,rfl,_,SqT.of hp,_,rfl,_,z8p t0,?_⟩
  rw [if_neg (show ¬ eqS (.str "if") "set" = true from by decide+kernel)]
  exact⟨_,rfl,_,SqT.of hp,_,rfl,q _ t1⟩
 | whl t m b=>
  rw [D.enc] at hd
  obtain⟨p,x0,x1,x2,x3,rfl,hp,t0,t1,t2,t3⟩:=zt6 hd
  refine⟨_,rfl,_,SqT.of hp,_,rfl,_,z8p t0,?_⟩
  rw [if_neg (show ¬ eqS (.str "while") "set" = true from by decide+kernel)]
  exact⟨_,rfl,_,SqT.of hp,_,rfl,q _ t1⟩
def D.blocks:D->List (Int×List D)
 | .set _ _=>[]
 | .ite _ b c=>[(1,b),(2,c)]
 | .whl _ _ b=>[(1,b)]
def q51(p:Int×List D):Dm:=.tup [.int p.1,.tup (encB p.2)]
def zf4:Sp:=fun vs H Q _=>∃v e,vs=[v]/\Dt H v (D.enc e)/\∀(r:Addr) (H':Hp) (xs:List V),Same H H'->H r=none->H' r=some (.lst xs)->DtA H' xs (e.blocks.map q51)->Q (.ref r) H'
theorem zm8(F:Fun K "blocks_of" "blocks_of" z95 f fd):FnOk P w K mg base CX0 1 f fd ["deed"] zf4:=by
 refine F.ok zln (fun vs H Q E h=>?_) (fun cdv A outer s H vs Q E hr h=>?_)
 ·obtain⟨v,d,rfl,_⟩:=h
  rfl
 obtain⟨v,e,rfl,hd,q⟩:=h
 refine⟨_,(z06 (z32 (z0g (gEq hr.units) (z0z z0n (z00 (i:=0) rfl z2q z1o z1p) z03 (fun _ _=>rfl)) z0m (z0s _)) (z0a (z0h (z44 (z09 (z13 (z09 z03 (z09 (z0z z0n (z00 (i:=0) rfl z2q z1o z1p) z03 (fun _ _=>rfl)) z04))) (z09 (z13 (z09 z03 (z09 (z0z z0n (z00 (i:=0) rfl z2q z1o z1p) z03 (fun _ _=>rfl)) z04))) z04))))) z0x)
 (z06 (z32 (z0g (gEq hr.units) (z0z z0n (z00 (i:=0) rfl z2q z1o z1p) z03 (fun _ _=>rfl)) z0m (z0s _)) (z0a (z0h (z44 (z09 (z13 (z09 z03 (z09 (z0z z0n (z00 (i:=0) rfl z2q z1o z1p) z03 (fun _ _=>rfl)) z04))) z04)))) z0x)
 (z0a (z0h (z44 z04))))),?_⟩
 walk_at "rd"
 cases e with
 | set x t=>
  rw [D.enc] at hd
  obtain⟨p,x0,x1,x2,rfl,hp,t0,t1,t2⟩:=zr6 hd
  refine⟨_,rfl,_,SqT.of hp,_,rfl,_,z8p t0,?_⟩
  rw [if_neg (show ¬ eqS (.str "set") "if" = true from by decide+kernel)]
  refine⟨_,rfl,_,SqT.of hp,_,rfl,_,z8p t0,?_⟩
  rw [if_neg (show ¬ eqS (.str "set") "while" = true from by decide+kernel)]
  exact⟨Nat.zero_le _,fun r hr'=>q r _ [] (z02 hr' _) hr' z01 .nil⟩
 | ite t b c=>
  rw [D.enc] at hd
  obtain⟨p,x0,x1,x2,x3,rfl,hp,t0,t1,t2,t3⟩:=zt6 hd
  refine⟨_,rfl,_,SqT.of hp,_,rfl,_,z8p t0,?_⟩
  rw [if_pos (show eqS (.str "if") "if" = true from by decide+kernel)]
  refine⟨_,rfl,_,SqT.of hp,_,rfl,zl 2 (by decide),fun p1 h1=>?_⟩
  have s1:=z02 h1 (HO.tup [V.int 1,x2])
  refine⟨_,rfl,_,SqT.of (s1 _ _ hp),_,rfl,zl 2 (by decide),fun p2 h2=>⟨zl 2 (by decide),fun r hr'=>?_⟩⟩
  have s2:=z02 h2 (HO.tup [V.int 2,x3])
  have s3:=z02 hr' (HO.lst [V.ref p1,V.ref p2])
  refine q r _ _ (s1.trans (s2.trans s3)) ((s1.trans s2).free hr') z01 (.cons (.tup (s3 _ _ (s2 _ _ z01)) (.cons (.int 1) (.cons (t2.kp (s1.trans (s2.trans s3)).kp) .nil))) (.cons (.tup (s3 _ _ z01) (.cons (.int 2) (.cons (t3.kp (s1.trans (s2.trans s3)).kp) .nil))) .nil))
 | whl t m b=>
  rw [D.enc] at hd
  obtain⟨p,x0,x1,x2,x3,rfl,hp,t0,t1,t2,t3⟩:=zt6 hd
  refine⟨_,rfl,_,SqT.of hp,_,rfl,_,z8p t0,?_⟩
  rw [if_neg (show ¬ eqS (.str "while") "if" = true from by decide+kernel)]
  refine⟨_,rfl,_,SqT.of hp,_,rfl,_,z8p t0,?_⟩
  rw [if_pos (show eqS (.str "while") "while" = true from by decide+kernel)]
  refine⟨_,rfl,_,SqT.of hp,_,rfl,zl 2 (by decide),fun p1 h1=>⟨zl 1 (by decide),fun r hr'=>?_⟩⟩
  have s1:=z02 h1 (HO.tup [V.int 1,x3])
  have s3:=z02 hr' (HO.lst [V.ref p1])
  exact q r _ _ (s1.trans s3) (s1.free hr') z01 (.cons (.tup (s3 _ _ z01) (.cons (.int 1) (.cons (t3.kp (s1.trans s3).kp) .nil))) .nil)
def T.deep:T->Nat
 | .op _ a b=>max a.deep b.deep+1
 | _=>1
theorem Wd.ne(w:Wd):eqS (.str w.str) "num" = false/\eqS (.str w.str) "name" = false:=by cases w<;>decide+kernel
abbrev RT:=List Int×T
abbrev RD:=List Int×D
def q0h(r:RT):Dm:=q2f (r.1,r.2.enc)
def zxs(r:RD):Dm:=q2f (r.1,r.2.enc)
def z56(p:List Int):T->List RT
 | .num i=>[(p,.num i)]
 | .nm x=>[(p,.nm x)]
 | .op w a b=>(p,.op w a b)::(z56 (p++[0]) a++z56 (p++[1]) b)
mutual
def zg1(p:List Int):D->List RD
 | .set x t=>[(p,.set x t)]
 | .ite t b c=>(p,.ite t b c)::(z17 (p++[1]) 0 b++z17 (p++[2]) 0 c)
 | .whl t m b=>(p,.whl t m b)::z17 (p++[1]) 0 b
def z17(p:List Int)(k:Int):List D->List RD
 | []=>[]
 | d::r=>zg1 (p++[k]) d++z17 p (k+1) r
end
def z68(p:List Int):List (Int×List D)->List RD
 | []=>[]
 | q::r=>z17 (p++[q.1]) 0 q.2++z68 p r
theorem zi6(p:List Int)(d:D):zg1 p d=(p,d)::z68 p d.blocks:=by
 cases d<;>simp[zg1,z68,D.blocks]
theorem zg0(p:List Int):∀(a b:List (Int×List D)),z68 p (a++b)=z68 p a++z68 p b
 | [],b=>by simp[z68]
 | q::a,b=>by rw [List.cons_append,z68,z68,zg0 p a b,List.append_assoc]
theorem zef(p:List Int):∀(k:Int) (a b:List D),z17 p k (a++b)=z17 p k a++z17 p (k+a.length) b
 | k,[],b=>by simp[z17]
 | k,d::a,b=>by
  rw [List.cons_append,z17,z17,zef p (k+1) a b,List.append_assoc,List.length_cons]
  congr 3
  omega
theorem zp1(p:List Int)(a:List D)(d:D):z17 p 0 (a++[d])=z17 p 0 a++zg1 (p++[(a.length:Int)]) d:=by
 rw [zef,z17,z17,List.append_nil,Int.zero_add]
theorem z3h{α : Type}{l:List α}{i:Nat}{x : α}(h:l[i]?=some x):l.take (i+1)=l.take i++[x]:=by
 rw [List.take_add_one,h]; rfl
def bnd:Nat->Nat
 | 0=>0
 | n+1=>6 * (1+2 * bnd n)
theorem zjk{n:Nat}(ih:∀(b:List D) (p:List Int) (k:Int),okB n b->(z17 p k b).length<=bnd n):∀(b:List D) (p:List Int) (k:Int),(∀d∈b,okD n d)->(z17 p k b).length<=b.length * (1+2 * bnd n)
 | [],p,k,_=>by simp[z17]
 | d::b,p,k,h=>by
  have h2:=zjk ih b p (k+1) fun e he=>h e (.tail _ he)
  have h1:(zg1 (p++[k]) d).length<=1+2 * bnd n:=by
   have hd:=h d (.head _)
   cases d with
   | set x t=>simp[zg1]
   | ite t b c=>
    have a1:=ih b (p++[k]++[1]) 0 hd.2.1
    have a2:=ih c (p++[k]++[2]) 0 hd.2.2
    rw [zg1,List.length_cons,List.length_append]
    omega
   | whl t m b=>
    have a1:=ih b (p++[k]++[1]) 0 hd.2.2.2
    rw [zg1,List.length_cons]
    omega
  rw [z17,List.length_append,List.length_cons,Nat.succ_mul]
  omega
theorem z3w:∀(n:Nat) (b:List D) (p:List Int) (k:Int),okB n b->(z17 p k b).length<=bnd n
 | 0,_,_,_,h=>h.elim
 | n+1,b,p,k,h=>by
  refine Nat.le_trans (zjk (z3w n) b p k fun d hd=>h.2 d hd) ?_
  exact Nat.mul_le_mul_right _ h.1
theorem zqy{n:Nat}(h:n<=3):bnd n<=942:=by
 match n,h with
 | 0,_=>decide
 | 1,_=>decide
 | 2,_=>decide
 | 3,_=>decide
theorem zzz{H:Hp}:∀p:List Int,DtA H (p.map V.int) (p.map Dm.int)
 | []=>.nil
 | i::p=>.cons (.int i) (zzz p)
theorem zqx{K:PySem.W.Frag}{H:Hp}{Q:VK}{x y:V}{p q:List Int}(dx:Dt H x (z25 p))(dy:Dt H y (z25 q))(hz:p.length+q.length<=1000)(h:∀z H',Same H H'->Dt H' z (z25 (p++q))->Q z H'):zpr K x y H Q:=by
 obtain⟨a,xs,rfl,ha,da⟩:=dx.tupI
 obtain⟨b,ys,rfl,hb,db⟩:=dy.tupI
 have ea:=zbv da
 have eb:=zbv db
 subst ea eb
 refine⟨a,b,_,_,rfl,rfl,SqT.of ha,SqT.of hb,?_,fun e=>?_,fun _ e=>?_,fun _ _ r hr=>?_⟩
 ·rw [List.length_map,List.length_map]
  exact Nat.le_of_lt (z20 hz)
 ·have:p=[]:=by simpa using e
  subst this
  exact h _ _ (Same.refl _) dy
 ·have:q=[]:=by simpa using e
  subst this
  rw [List.append_nil] at h
  exact h _ _ (Same.refl _) dx
 ·refine h _ _ (z02 hr _) (.tup z01 ?_)
  rw [<- List.map_append]
  exact zzz _
theorem zdr{H:Hp}{r:Addr}{i:Int}:Dt (upd H r (.tup [.int i])) (.ref r) (z25 [i]):=.tup z01 (.cons (.int i) .nil)
theorem zqm:∀(b:List D) (i:Nat),(encB b)[i]?=(b[i]?).map D.enc
 | [],i=>by simp[encB]
 | d::b,0=>by simp[encB]
 | d::b,i+1=>by simp[encB,zqm b i]
theorem zw6{H:Hp}{xs:List V}{b:List D}{i:Nat}{x:V}(h:DtA H xs (encB b))(hx:xs[i]?=some x):∃d,b[i]?=some d/\Dt H x d.enc:=by
 obtain⟨e,he,de⟩:=h.get hx
 rw [zqm] at he
 cases hb:b[i]? with
 | none=>rw [hb] at he; cases he
 | some d=>
  rw [hb] at he
  have:d.enc=e:=by simpa using he
  subst this
  exact⟨d,rfl,de⟩
theorem zas{α : Type}{f : α->Dm}{H:Hp}{xs:List V}{b:List α}{i:Nat}{x:V}(h:DtA H xs (b.map f))(hx:xs[i]?=some x):∃d,b[i]?=some d/\Dt H x (f d):=by
 obtain⟨e,he,de⟩:=h.get hx
 rw [List.getElem?_map] at he
 cases hb:b[i]? with
 | none=>rw [hb] at he; cases he
 | some d=>
  rw [hb] at he
  have:f d=e:=by simpa using he
  subst this
  exact⟨d,rfl,de⟩
def q7k(H:Hp)(ab:Addr)(pv:V)(p:List Int)(b:List D)(pr:Addr)(i:Nat)(σ : St)(Hc:Hp):Prop:=∃(vs:List V) (x3 x4 x5 x6 x7:Option V),σ = [some (.ref ab),some pv,some (.ref pr),x3,x4,x5,x6,x7]/\Same H Hc/\Hc pr=some (.lst vs)/\DtA Hc vs ((z17 p 0 (b.take i)).map zxs)
def q65(H H1:Hp)(rb:Addr)(bs:List V)(ab:Addr)(pv:V)(p:List Int)(b:List D)(pr:Addr)(i:Nat)(d:D)(dv qv:V)(j:Nat)(σ : St)(Hc:Hp):Prop:=∃(vs:List V) (x3 x6 x7:Option V),σ = [some (.ref ab),some pv,some (.ref pr),x3,some dv,some qv,x6,x7]/\Same H Hc/\Hc pr=some (.lst vs)/\DtA Hc vs ((z17 p 0 (b.take i)++(p++[(i:Int)],d)::z68 (p++[(i:Int)]) (d.blocks.take j)).map zxs)/\Kp H1 Hc/\Hc rb=some (.lst bs)
theorem zhb:∀(t:T) (p:List Int),(z56 p t).length < 2 ^ t.deep
 | .num i,p=>by simp[z56,T.deep]
 | .nm x,p=>by simp[z56,T.deep]
 | .op w a b,p=>by
  have h1:=zhb a (p++[0])
  have h2:=zhb b (p++[1])
  have g1:2 ^ a.deep<=2 ^ max a.deep b.deep:=Nat.pow_le_pow_right (by decide) (by omega)
  have g2:2 ^ b.deep<=2 ^ max a.deep b.deep:=Nat.pow_le_pow_right (by decide) (by omega)
  rw [z56,T.deep,List.length_cons,List.length_append,Nat.pow_succ]
  omega
theorem z93{t:T}{p:List Int}{n:Nat}(h:t.deep<=n)(hn:n<=6):(z56 p t).length<=64:=by
 have h1:=zhb t p
 have h2:2 ^ t.deep<=2 ^ 6:=Nat.pow_le_pow_right (by decide) (by omega)
 omega
theorem zz2{p:List Int}{b:List D}{i:Nat}{d:D}(h:b[i]?=some d):z17 p 0 (b.take (i+1))=z17 p 0 (b.take i)++(p++[(i:Int)],d)::z68 (p++[(i:Int)]) d.blocks:=by
 have hl:i < b.length:=(List.getElem?_eq_some_iff.mp h).1
 have e:(b.take i).length=i:=by rw [List.length_take]; omega
 rw [z3h h,zp1,zi6,e]
theorem zi7{n:Nat}{b:List D}(h:okB (n+1) b){i:Nat}(p:List Int):(z17 p 0 (b.take i)).length<=bnd (n+1):=by
 refine z3w (n+1) _ p 0 ⟨?_,fun d hd=>h.2 d (List.mem_of_mem_take hd)⟩
 rw [List.length_take]
 have:=h.1
 omega
theorem zep{n:Nat}{d:D}{nb:Int×List D}(h:okD n d)(hm:nb∈d.blocks):okB n nb.2:=by
 cases d with
 | set x t=>simp[D.blocks] at hm
 | ite t b c=>
  simp only[D.blocks,List.mem_cons,List.not_mem_nil,or_false] at hm
  rcases hm with rfl | rfl
  ·exact h.2.1
  ·exact h.2.2
 | whl t m b=>
  simp only[D.blocks,List.mem_cons,List.not_mem_nil,or_false] at hm
  subst hm
  exact h.2.2.2
theorem zqk{n:Nat}(p:List Int):∀(l:List (Int×List D)),(∀q∈l,okB n q.2)->(z68 p l).length<=l.length * bnd n
 | [],_=>by simp[z68]
 | q::l,h=>by
  have h1:=z3w n q.2 (p++[q.1]) 0 (h q (.head _))
  have h2:=zqk p l fun r hr=>h r (.tail _ hr)
  rw [z68,List.length_append,List.length_cons,Nat.succ_mul]
  omega
theorem zt1(d:D):d.blocks.length<=2:=by cases d<;>simp[D.blocks]
theorem zz{n:Nat}(h:n<=10000):n<=sizeLine:=Nat.le_trans h (by decide)
theorem zy4{n:Nat}{d:D}(h:okD n d)(hn:n+1<=3)(p:List Int)(l:List (Int×List D))(hl:∀q∈l,q∈d.blocks)(h2:l.length<=2):(z68 p l).length<=1884:=by
 have h1:=zqk (n:=n) p l fun q hq=>zep h (hl q hq)
 have h3:=zqy (n:=n) (by omega)
 have:l.length * bnd n<=2 * 942:=Nat.mul_le_mul h2 h3
 omega
theorem zhg{g:List Str}:∀{n:Nat} {t:T},T.ok g n t->t.deep<=n
 | 0,_,h=>h.elim
 | n+1,.num i,_=>by simp[T.deep]
 | n+1,.nm x,_=>by simp[T.deep]
 | n+1,.op w a b,h=>by
  have h1:=zhg h.1
  have h2:=zhg h.2
  simp only[T.deep]
  omega
theorem zyc{n:Nat}{d:D}(h:okD n d):T.ok pool 5 d.term:=by
 cases d with
 | set x t=>exact h.2
 | ite t b c=>exact h.1
 | whl t m b=>exact h.1
theorem zlr{n:Nat}(ih:∀(b:List D) (p:List Int) (k:Int),okB n b->∀r∈z17 p k b,r.1.length<=p.length+2 * n/\T.ok pool 5 r.2.term):∀(b:List D) (p:List Int) (k:Int),(∀d∈b,okD n d)->∀r∈z17 p k b,r.1.length<=p.length+2 * (n+1)/\T.ok pool 5 r.2.term
 | [],p,k,_,r,hr=>by simp[z17] at hr
 | d::b,p,k,h,r,hr=>by
  rw [z17,List.mem_append] at hr
  rcases hr with hr | hr
  ·have hd:=h d (.head _)
   rw [zi6,List.mem_cons] at hr
   rcases hr with rfl | hr
   ·exact⟨by simp; omega,zyc hd⟩
   ·have key:∀l:List (Int×List D),(∀q∈l,q∈d.blocks)->r∈z68 (p++[k]) l->r.1.length<=p.length+2 * (n+1)/\T.ok pool 5 r.2.term:=by
     intro l
     induction l with
     | nil=>intro _ hr; simp[z68] at hr
     | cons q l ihl=>
      intro hl hr
      rw [z68,List.mem_append] at hr
      rcases hr with hr | hr
      ·have:=ih q.2 (p++[k]++[q.1]) 0 (zep hd (hl q (.head _))) r hr
       exact⟨by have:=this.1; simp at this; omega,this.2⟩
      ·exact ihl (fun z hz=>hl z (.tail _ hz)) hr
    exact key d.blocks (fun _ z=>z) hr
  ·exact zlr ih b p (k+1) (fun e he=>h e (.tail _ he)) r hr
theorem z8q:∀(n:Nat) (b:List D) (p:List Int) (k:Int),okB n b->∀r∈z17 p k b,r.1.length<=p.length+2 * n/\T.ok pool 5 r.2.term
 | 0,_,_,_,h=>h.elim
 | n+1,b,p,k,h=>zlr (z8q n) b p k h.2
def z4a:List RD->List RT
 | []=>[]
 | r::l=>z56 (r.1++[0]) r.2.term++z4a l
theorem zdd:∀(a b:List RD),z4a (a++b)=z4a a++z4a b
 | [],b=>by simp[z4a]
 | r::a,b=>by rw [List.cons_append,z4a,z4a,zdd a b,List.append_assoc]
theorem zbp:∀(l:List RD),(∀r∈l,T.ok pool 5 r.2.term)->(z4a l).length<=l.length * 64
 | [],_=>by simp[z4a]
 | r::l,h=>by
  have h1:=z93 (p:=r.1++[0]) (zhg (h r (.head _))) (by decide:5<=6)
  have h2:=zbp l fun z hz=>h z (.tail _ hz)
  rw [z4a,List.length_append,List.length_cons,Nat.succ_mul]
  omega
theorem zz5{n:Nat}(h:n<=200000):n<=sizeLine:=Nat.le_trans h (by decide)
def z1x(b:List D):List RD:=z17 [] 0 b
def z2x(b:List D):List RT:=z4a (z1x b)
def q7f(H:Hp)(v:V)(ds:List RD)(ra:Addr)(us:List V)(pr:Addr)(i:Nat)(σ : St)(Hc:Hp):Prop:=∃(vs:List V) (x2 x3:Option V),σ = [some v,some (.ref pr),x2,x3]/\Same H Hc/\Hc pr=some (.lst vs)/\DtA Hc vs ((z4a (ds.take i)).map q0h)/\Hc ra=some (.lst us)/\DtA Hc us (ds.map zxs)
end
section
variable{P:Program}{w:World}{K:PySem.W.Frag}{mg:Str->Option Value}{base:Heap}{f:Addr}{fd:FuncData}
def okW:Nat->List D->Prop
 | 0,_=>False
 | n+1,b=>b.length<=7/\∀d∈b,match d with
  | .set x t=>x∈pool/\t.ok pool 5
  | .ite t b c=>t.ok pool 5/\okW n b/\okW n c
  | .whl t m b=>t.ok pool 5/\okW n b
abbrev q6j(n:Nat)(d:D):Prop:=match d with
 | .set x t=>x∈pool/\t.ok pool 5
 | .ite t b c=>t.ok pool 5/\okW n b/\okW n c
 | .whl t m b=>t.ok pool 5/\okW n b
theorem zq5:∀{n:Nat} {b:List D},okB n b->okW n b
 | 0,_,h=>h.elim
 | n+1,b,h=>⟨Nat.le_trans h.1 (by decide),fun d hd=>by
  have:=h.2 d hd
  cases d with
  | set x t=>exact this
  | ite t b c=>exact⟨this.1,zq5 this.2.1,zq5 this.2.2⟩
  | whl t m b=>exact⟨this.1,zq5 this.2.2.2⟩⟩
theorem zq4:∀{n:Nat} {b:List D},okW n b->okW (n+1) b
 | 0,_,h=>h.elim
 | n+1,b,h=>⟨h.1,fun d hd=>by
  have:=h.2 d hd
  cases d with
  | set x t=>exact this
  | ite t b c=>exact⟨this.1,zq4 this.2.1,zq4 this.2.2⟩
  | whl t m b=>exact⟨this.1,zq4 this.2⟩⟩
def D.kind:D->Str
 | .set _ _=>"set"
 | .ite _ _ _=>"if"
 | .whl _ _ _=>"while"
end
section
variable{P:Program}{w:World}{K:PySem.W.Frag}{mg:Str->Option Value}{base:Heap}{f:Addr}{fd:FuncData}
def zgx(r:RD):Option Str:=match r.2 with
 | .set x _=>some x
 | _=>none
def zzv(x:Str)(t:T):Bool:=match t with
 | .nm y=>y == x
 | _=>false
def Fine(n:Nat)(d:Dm):Prop:=d.shut=true/\d.dat.canLay0=true/\d.dat.depth<=n
theorem Fine.mono{n m:Nat}{d:Dm}(h:Fine n d)(k:n<=m):Fine m d:=⟨h.1,h.2.1,Nat.le_trans h.2.2 k⟩
theorem zvw{n:Nat}:∀{ds:List Dm},(∀d∈ds,Fine n d)->zf7 ds=true/\PyData.canLayAll0 (zej ds)=true/\PyData.depthAll (zej ds)<=n
 | [],_=>⟨by simp[zf7],by simp[zej,PyData.canLayAll0],by simp[zej,PyData.depthAll]⟩
 | d::ds,h=>by
  obtain⟨a,b,c⟩:=zvw (ds:=ds) fun e he=>h e (.tail _ he)
  obtain⟨x,y,z⟩:=h d (.head _)
  refine⟨by simp[zf7,x,a],by simp[zej,PyData.canLayAll0,y,b],?_⟩
  simp only[zej,PyData.depthAll]
  omega
theorem z9o{n:Nat}{ds:List Dm}(h:∀d∈ds,Fine n d):Fine (n+1) (.tup ds):=by
 obtain⟨a,b,c⟩:=zvw h
 exact⟨by simpa [Dm.shut] using a,by simpa [Dm.dat,PyData.canLay0] using b,by simp only[Dm.dat,PyData.depth]; omega⟩
theorem zh2(n:Nat)(i:Int):Fine n (.int i):=⟨by simp[Dm.shut],by simp[Dm.dat,PyData.canLay0],by simp[Dm.dat,PyData.depth]⟩
theorem z7e(n:Nat){x:Str}(h:PyData.strOk x=true):Fine n (.str x):=⟨by simpa [Dm.shut] using h,by simpa [Dm.dat,PyData.canLay0] using h,by simp[Dm.dat,PyData.depth]⟩
theorem Fine.eq{n:Nat}{d:Dm}(h:Fine n d)(k:n<=64):d.shut=true/\SeqAt.shaped d.dat=true:=⟨h.1,by
 unfold SeqAt.shaped
 rw [h.2.1,Bool.true_and,decide_eq_true_eq]
 exact Nat.le_trans h.2.2 k⟩
theorem q0p:∀x∈pool,PyData.strOk x=true:=by
 intro x hx
 simp only[pool,List.mem_cons,List.not_mem_nil,or_false] at hx
 rcases hx with rfl | rfl | rfl | rfl<;>decide+kernel
theorem q5j(w:Wd):PyData.strOk w.str=true:=by cases w<;>decide+kernel
theorem zvv:∀{n:Nat} {t:T},T.ok pool n t->Fine n t.enc
 | 0,_,h=>h.elim
 | n+1,.num i,_=>by
  rw [T.enc]
  refine z9o fun d hd=>?_
  simp only[List.mem_cons,List.not_mem_nil,or_false] at hd
  rcases hd with rfl | rfl
  ·exact z7e _ (by decide+kernel)
  ·exact zh2 _ _
 | n+1,.nm x,h=>by
  rw [T.enc]
  refine z9o fun d hd=>?_
  simp only[List.mem_cons,List.not_mem_nil,or_false] at hd
  rcases hd with rfl | rfl
  ·exact z7e _ (by decide+kernel)
  ·exact z7e _ (q0p x h)
 | n+1,.op w a b,h=>by
  rw [T.enc]
  refine z9o fun d hd=>?_
  simp only[List.mem_cons,List.not_mem_nil,or_false] at hd
  rcases hd with rfl | rfl | rfl
  ·exact z7e _ (q5j w)
  ·exact zvv h.1
  ·exact zvv h.2
theorem zmq(p:List Int):Fine 1 (z25 p):=z9o fun d hd=>by
 obtain⟨i,_,rfl⟩:=List.mem_map.mp hd
 exact zh2 _ _
theorem zvu{x:Str}(h:PyData.strOk x=true):Fine 1 (T.nm x).enc:=by
 rw [T.enc]
 refine z9o fun d hd=>?_
 simp only[List.mem_cons,List.not_mem_nil,or_false] at hd
 rcases hd with rfl | rfl
 ·exact z7e _ (by decide+kernel)
 ·exact z7e _ h
theorem q4f(t:T)(x:Str):PyData.eqv t.enc.dat (T.nm x).enc.dat=zzv x t:=by
 cases t with
 | num i=>
  simp only[T.enc,Dm.dat,zej,PyData.eqv,PyData.eqvAll,zzv]
  rw [show(("num" : Str) == ("name" : Str))=false by decide+kernel]
  rfl
 | nm y=>
  simp only[T.enc,Dm.dat,zej,PyData.eqv,PyData.eqvAll,zzv]
  rw [show(("name" : Str) == ("name" : Str))=true by decide+kernel]
  simp
 | op w a b=>
  simp only[T.enc,Dm.dat,zej,PyData.eqv,PyData.eqvAll,zzv]
  rw [show(w.str == ("name" : Str))=false by cases w<;>decide+kernel]
  rfl
theorem zkn{d:PyData}(h:d.canLay0=true):PyData.eqv d d=true:=SeqAt.eqv_refl d h
def z99(x:Str)(l:List RD):List (List Int):=(l.filter fun r=>zgx r == some x).map (·.1)
def z98(x:Str)(l:List RT):List (List Int):=(l.filter fun r=>zzv x r.2).map (·.1)
def zdx(rows:List Rw)(b:List D):List Str:=rows.map (·.1)++(z1x b).filterMap zgx
def q5i{α : Type}(U:Hp)(f:List Int×α->Bool)(l:List (List Int×α))(σ0:List (Option V))(i:Nat)(ys:List V)(σ':St)(H':Hp):Prop:=Same U H'/\(∃t u,σ'=t::u::σ0)/\DtA H' ys (((l.take i).filter f).map fun r=>z25 r.1)/\ys.length<=i
theorem zqj{α : Type}{U H' H2:Hp}{f:List Int×α->Bool}{l:List (List Int×α)}{σ0:List (Option V)}{i:Nat}{ys:List V}{r:List Int×α}{y:V}{a b:Option V}(s1:Same U H')(dy:DtA H' ys (((l.take i).filter f).map fun r=>z25 r.1))(hy:ys.length<=i)(hr:l[i]?=some r)(hf:f r=true)(s2:Same H' H2)(dr:Dt H' y (z25 r.1)) :
  q5i U f l σ0 (i+1) (ys++[y]) (a::b::σ0) H2:=by
 refine⟨s1.trans s2,⟨_,_,rfl⟩,?_,by rw [List.length_append,List.length_singleton]; omega⟩
 rw [z3h hr,List.filter_append,List.filter_cons,hf,List.map_append]
 exact(dy.kp s2.kp).append (.cons (dr.kp s2.kp) .nil)
theorem zkh{α : Type}{U H' H2:Hp}{f:List Int×α->Bool}{l:List (List Int×α)}{σ0:List (Option V)}{i:Nat}{ys:List V}{r:List Int×α}{a b:Option V}(s1:Same U H')(dy:DtA H' ys (((l.take i).filter f).map fun r=>z25 r.1))(hy:ys.length<=i)(hr:l[i]?=some r)(hf:f r=false)(s2:Same H' H2) :
  q5i U f l σ0 (i+1) ys (a::b::σ0) H2:=by
 refine⟨s1.trans s2,⟨_,_,rfl⟩,?_,by omega⟩
 rw [z3h hr,List.filter_append,List.filter_cons,hf]
 simpa using dy.kp s2.kp
def q64(U:Hp)(l:List RD)(i:Nat)(ys:List V)(σ':St)(H':Hp):Prop:=H'=U/\(∃t u,σ'=[t,u])/\ys=((l.take i).filterMap zgx).map V.str/\ys.length<=i
theorem zq6{n:Nat}(ih:∀(b:List D) (p:List Int) (k:Int),okB n b->∀r∈z17 p k b,∃m,okD m r.2):∀(b:List D) (p:List Int) (k:Int),(∀d∈b,okD n d)->∀r∈z17 p k b,∃m,okD m r.2
 | [],p,k,_,r,hr=>by simp[z17] at hr
 | d::b,p,k,h,r,hr=>by
  rw [z17,List.mem_append] at hr
  rcases hr with hr | hr
  ·have hd:=h d (.head _)
   rw [zi6,List.mem_cons] at hr
   rcases hr with rfl | hr
   ·exact⟨n,hd⟩
   ·have key:∀l:List (Int×List D),(∀q∈l,q∈d.blocks)->r∈z68 (p++[k]) l->∃m,okD m r.2:=by
     intro l
     induction l with
     | nil=>intro _ hr; simp[z68] at hr
     | cons q l ihl=>
      intro hl hr
      rw [z68,List.mem_append] at hr
      rcases hr with hr | hr
      ·exact ih q.2 (p++[k]++[q.1]) 0 (zep hd (hl q (.head _))) r hr
      ·exact ihl (fun z hz=>hl z (.tail _ hz)) hr
    exact key d.blocks (fun _ z=>z) hr
  ·exact zq6 ih b p (k+1) (fun e he=>h e (.tail _ he)) r hr
theorem zmt:∀(n:Nat) (b:List D) (p:List Int) (k:Int),okB n b->∀r∈z17 p k b,∃m,okD m r.2
 | 0,_,_,_,h=>h.elim
 | n+1,b,p,k,h=>zq6 (zmt n) b p k h.2
theorem zxo{n:Nat}{b:List D}{p:List Int}{k:Int}(h:okB n b){r:RD}(hr:r∈z17 p k b){x:Str}(hx:zgx r=some x):x∈pool:=by
 obtain⟨m,hm⟩:=zmt n b p k h r hr
 obtain⟨q,d⟩:=r
 cases d with
 | set z t=>
  have:z=x:=by simpa [zgx] using hx
  subst this
  exact hm.1
 | ite t b c=>simp[zgx] at hx
 | whl t m b=>simp[zgx] at hx
theorem zdu:∀(l m:List Str),l.Nodup->(∀x∈l,x∈m)->l.length<=m.length
 | [],m,_,_=>by simp
 | x::l,m,h,hs=>by
  rw [List.nodup_cons] at h
  have hx:=hs x (.head _)
  have ih:=zdu l (m.erase x) h.2 fun y hy=>by
   have hne:y≠x:=fun e=>h.1 (e ▸ hy)
   exact(List.mem_erase_of_ne hne).mpr (hs y (.tail _ hy))
  have e:=List.length_erase_of_mem hx
  have hp:=List.length_pos_of_mem hx
  rw [List.length_cons]
  omega
theorem zfg{rows:List Rw}{b:List D}(hr:∀r∈rows,r.1∈pool)(hok:okB 3 b):∀x∈zdx rows b,x∈pool:=by
 intro x hx
 rcases List.mem_append.mp hx with h | h
 ·obtain⟨r,hm,rfl⟩:=List.mem_map.mp h
  exact hr r hm
 ·obtain⟨r,hm,e⟩:=List.mem_filterMap.mp h
  exact zxo hok hm e
theorem zv3{rows:List Rw}{b:List D}(hr:rows.length<=2)(hok:okB 3 b):(zdx rows b).length<=1000:=by
 have h1:=z3w 3 b [] 0 hok
 have h2:bnd 3=942:=by decide
 have h3:((z1x b).filterMap zgx).length<=(z1x b).length:=List.length_filterMap_le _ _
 have h4:(z1x b).length<=bnd 3:=h1
 unfold zdx
 rw [List.length_append,List.length_map]
 omega
theorem q3m{n:Nat}:∀{t:T} {p:List Int},T.ok pool n t->∀r∈z56 p t,T.ok pool n r.2:=by
 induction n with
 | zero=>intro t p h; exact h.elim
 | succ n ih=>
  intro t p h r hr
  cases t with
  | num i=>simp only[z56,List.mem_cons,List.not_mem_nil,or_false] at hr; subst hr; exact h
  | nm x=>simp only[z56,List.mem_cons,List.not_mem_nil,or_false] at hr; subst hr; exact h
  | op w a b=>
   rw [z56,List.mem_cons,List.mem_append] at hr
   rcases hr with rfl | hr | hr
   ·exact h
   ·exact(ih h.1 r hr).mono (fun _ z=>z) (Nat.le_succ _)
   ·exact(ih h.2 r hr).mono (fun _ z=>z) (Nat.le_succ _)
theorem zlg:∀{l:List RD},(∀r∈l,T.ok pool 5 r.2.term)->∀r∈z4a l,T.ok pool 5 r.2
 | [],_,r,hr=>by simp[z4a] at hr
 | x::l,h,r,hr=>by
  rw [z4a,List.mem_append] at hr
  rcases hr with hr | hr
  ·exact q3m (h x (.head _)) r hr
  ·exact zlg (fun z hz=>h z (.tail _ hz)) r hr
theorem ztt{b:List D}(h:okB 3 b):∀r∈z2x b,T.ok pool 5 r.2:=zlg fun r hr=>(z8q 3 b [] 0 h r hr).2
theorem zri{b:List D}(h:okB 3 b):(z2x b).length<=100000:=by
 have h1:=zbp (z1x b) fun r hr=>(z8q 3 b [] 0 h r hr).2
 have h2:(z1x b).length<=bnd 3:=z3w 3 b [] 0 h
 have h3:bnd 3=942:=by decide
 have h4:(z1x b).length * 64<=942 * 64:=Nat.mul_le_mul_right _ (by omega)
 have h5:(z2x b).length=(z4a (z1x b)).length:=rfl
 omega
end
section
variable{P:Program}{w:World}{K:PySem.W.Frag}{mg:Str->Option Value}{base:Heap}{f:Addr}{fd:FuncData}
def q0o(x:Str):Int:=if x = "a" then 0 else if x = "b" then 1 else if x = "c" then 2 else 3
def nam(i:Int):Str:=if i=0 then "a" else if i=1 then "b" else if i=2 then "c" else "dd"
theorem q18:∀x∈pool,nam (q0o x)=x:=by
 intro x hx
 simp only[pool,List.mem_cons,List.not_mem_nil,or_false] at hx
 rcases hx with rfl | rfl | rfl | rfl<;>decide+kernel
theorem q38:∀x∈pool,∀y∈pool,PySem.Spec.ltCps y.cps.toList x.cps.toList=false->q0o x<=q0o y:=by
 intro x hx y hy
 simp only[pool,List.mem_cons,List.not_mem_nil,or_false] at hx hy
 rcases hx with rfl | rfl | rfl | rfl<;>rcases hy with rfl | rfl | rfl | rfl<;>decide+kernel
theorem zjb:∀(l:List Str) (p:Str),p∈pool->(∀x∈l,x∈pool)->PyProof.Rows.risingS p l=true->((p::l).map q0o).Pairwise (· <= ·)
 | [],p,_,_,_=>by simp
 | x::l,p,hp,hl,h=>by
  rw [PyProof.Rows.risingS,Bool.and_eq_true] at h
  have ih:=zjb l x (hl x (.head _)) (fun y hy=>hl y (.tail _ hy)) h.2
  have h1:=q38 p hp x (hl x (.head _)) (by simpa using h.1)
  rw [List.map_cons,List.pairwise_cons]
  refine⟨fun i hi=>?_,ih⟩
  rw [List.map_cons,List.pairwise_cons] at ih
  rw [List.map_cons] at hi
  rcases List.mem_cons.mp hi with rfl | hi
  ·exact h1
  ·exact Int.le_trans h1 (ih.1 i hi)
theorem zja{l:List Str}(hl:∀x∈l,x∈pool)(h:PyProof.Rows.sortedS l=true):(l.map q0o).Pairwise (· <= ·):=by
 cases l with
 | nil=>simp
 | cons x l=>exact zjb l x (hl x (.head _)) (fun y hy=>hl y (.tail _ hy)) h
theorem zf6{l m:List Str}(hl:∀x∈l,x∈pool)(h1:PyProof.Rows.sortedS l=true)(h2:PyProof.Rows.sortedS m=true)(hp:l.Perm m):l=m:=by
 have hm:∀x∈m,x∈pool:=fun x hx=>hl x (hp.mem_iff.mpr hx)
 have e:=PySem.W.lks_uniq (hp.map q0o) (zja hl h1) (zja hm h2)
 have el:∀l:List Str,(∀x∈l,x∈pool)->(l.map q0o).map nam=l:=by
  intro l h
  rw [List.map_map]
  exact(List.map_congr_left fun x hx=>q18 x (h x hx)).trans (List.map_id _)
 rw [<- el l hl,<- el m hm,e]
theorem zoo{rows:List Rw}(h:okRows rows):∀r∈rows,r.1∈pool:=by
 intro r hr
 have h1:r.1∈rows.map (·.1):=List.mem_map.mpr ⟨r,hr,rfl⟩
 rw [h.nm] at h1
 have h2:=List.mem_of_mem_take h1
 simp only[pair,List.mem_cons,List.not_mem_nil,or_false] at h2
 rcases h2 with e | e<;>(rw [e]; decide+kernel)
theorem zfo(l:List (List Int)):zf7 (l.map z25)=true/\SeqAt.shaped (.list (zej (l.map z25)))=true/\PyData.canLay0 (.list (zej (l.map z25)))=true:=by
 obtain⟨a,b,c⟩:=zvw (ds:=l.map z25) (n:=1) fun d hd=>by
  obtain⟨p,_,rfl⟩:=List.mem_map.mp hd
  exact zmq p
 have h:PyData.canLay0 (.list (zej (l.map z25)))=true:=by simpa [PyData.canLay0] using b
 refine⟨a,?_,h⟩
 unfold SeqAt.shaped
 rw [h,Bool.true_and,decide_eq_true_eq]
 simp only[PyData.depth]
 omega
end
section
variable{P:Program}{w:World}{K:PySem.W.Frag}{mg:Str->Option Value}{base:Heap}{f:Addr}{fd:FuncData}
theorem zlf{n:Nat}{b:List D}{p:List Int}{k:Int}(h:okB n b)(hn:n<=3):(z4a (z17 p k b)).length<=942 * 64:=by
 have h1:=zbp (z17 p k b) fun r hr=>(z8q n b p k h r hr).2
 have h2:=z3w n b p k h
 have h3:=zqy hn
 have h4:(z17 p k b).length * 64<=942 * 64:=Nat.mul_le_mul_right _ (by omega)
 omega
end
section
variable{P:Program}{w:World}{K:PySem.W.Frag}{mg:Str->Option Value}{base:Heap}{f:Addr}{fd:FuncData}
def T.word:T->Str
 | .num _=>"num"
 | .nm _=>"name"
 | .op w _ _=>w.str
def ten:List Str:=["num","name","add","sub","mul","quo","less","same","min","max"]
theorem zxc(t:T):t.word∈ten:=by
 cases t with
 | num i=>show("num" : Str)∈ten; decide+kernel
 | nm x=>show("name" : Str)∈ten; decide+kernel
 | op w a b=>show w.str∈ten; cases w<;>decide+kernel
abbrev Cnt:=List (Str×Int)
def kvC(c:Cnt):List (Key×V):=c.map fun p=>((Sum.inr p.1:Key),V.int p.2)
def zer(c:Cnt)(x:Str):Option Int:=(c.find? fun p=>decide (p.1=x)).map (·.2)
def zk0(c:Cnt)(x:Str)(i:Int):Cnt:=if(c.any fun p=>decide (p.1=x))=true then c.map (fun p=>if p.1=x then(p.1,i) else p) else c++[(x,i)]
def q2n(c:Cnt)(x:Str):Cnt:=zk0 c x ((zer c x).getD 0+1)
theorem inr_eq{x y:Str}:((Sum.inr x:Key)=Sum.inr y)↔x=y:=⟨fun h=>by injection h,fun h=>by rw [h]⟩
theorem zte(x:Str):∀c:Cnt,zl3 (kvC c) (Sum.inr x)=(zer c x).map V.int
 | []=>rfl
 | p::c=>by
  have ih:=zte x c
  unfold zl3 kvC zer at ih |-
  rw [List.map_cons,List.find?_cons,List.find?_cons]
  by_cases e:p.1=x
  ·simp[e]
  ·have e':¬ (Sum.inr p.1:Key)=Sum.inr x:=fun z=>e (inr_eq.mp z)
   simp only[e,e',decide_false]
   exact ih
theorem q56(x:Str)(c:Cnt):((kvC c).any fun kv=>decide (kv.1=Sum.inr x))=c.any fun p=>decide (p.1=x):=by
 unfold kvC
 rw [List.any_map]
 congr 1
 funext p
 show decide ((Sum.inr p.1:Key)=Sum.inr x)=decide (p.1=x)
 by_cases e:p.1=x
 ·rw [decide_eq_true e,decide_eq_true (inr_eq.mpr e)]
 ·rw [decide_eq_false e,decide_eq_false fun z=>e (inr_eq.mp z)]
theorem zue(x:Str)(i:Int)(c:Cnt):zoa (kvC c) (Sum.inr x) (V.int i)=kvC (zk0 c x i):=by
 unfold zoa zk0
 rw [q56]
 split
 ·unfold kvC
  rw [List.map_map,List.map_map]
  refine List.map_congr_left fun p _=>?_
  show(if(Sum.inr p.1:Key)=Sum.inr x then _ else _)=_
  by_cases e:p.1=x
  ·simp[e]
  ·simp[e]
 ·simp[kvC]
def sumC(c:Cnt):Int:=(c.map (·.2)).sum
theorem zgy(c:Cnt)(x:Str)(i:Int):(zk0 c x i).map (·.1)=if x∈c.map (·.1) then c.map (·.1) else c.map (·.1)++[x]:=by
 unfold zk0
 have hany:(c.any fun p=>decide (p.1=x))=true↔x∈c.map (·.1):=by
  rw [List.any_eq_true,List.mem_map]
  constructor
  ·rintro⟨p,hp,e⟩; exact⟨p,hp,of_decide_eq_true e⟩
  ·rintro⟨p,hp,e⟩; exact⟨p,hp,decide_eq_true e⟩
 by_cases h:x∈c.map (·.1)
 ·rw [if_pos (hany.mpr h),if_pos h,List.map_map]
  refine List.map_congr_left fun p _=>?_
  show(if p.1=x then(p.1,i) else p).1=p.1
  split<;>rfl
 ·rw [if_neg fun z=>h (hany.mp z),if_neg h,List.map_append]
  rfl
theorem q0l(i:Int)(x:Str):∀c:Cnt,(c.map (·.1)).Nodup->sumC (zk0 c x i)=sumC c - (zer c x).getD 0+i:=by
 have upd_:∀c:Cnt,(c.map (·.1)).Nodup->(∀v,zer c x=some v->sumC (c.map fun p=>if p.1=x then(p.1,i) else p)=sumC c - v+i)/\(zer c x=none->(c.map fun p=>if p.1=x then(p.1,i) else p)=c/\(c.any fun p=>decide (p.1=x))=false)/\(∀v,zer c x=some v->(c.any fun p=>decide (p.1=x))=true):=by
  intro c
  induction c with
  | nil=>intro _; exact⟨fun v h=>(by cases h),fun _=>⟨rfl,rfl⟩,fun v h=>(by cases h)⟩
  | cons p c ih=>
   intro hn
   rw [List.map_cons,List.nodup_cons] at hn
   obtain⟨i1,i2,i3⟩:=ih hn.2
   by_cases e:p.1=x
   ·have hno:zer c x=none:=by
     unfold zer
     cases hf:c.find? fun p=>decide (p.1=x) with
     | none=>rfl
     | some q=>
      have h1:=List.mem_of_find?_eq_some hf
      have h2:=of_decide_eq_true (List.find?_some (p:=fun p:Str×Int=>decide (p.1=x)) hf)
      exact absurd (List.mem_map.mpr ⟨q,h1,h2.trans e.symm⟩) hn.1
    have hg:zer (p::c) x=some p.2:=by unfold zer; rw [List.find?_cons]; simp[e]
    refine⟨fun v h=>?_,fun h=>(by rw [hg] at h; cases h),fun v h=>(by simp[e])⟩
    rw [hg] at h
    have:p.2=v:=Option.some.inj h
    subst this
    rw [List.map_cons,if_pos e,(i2 hno).1]
    simp[sumC]
    omega
   ·have hg:zer (p::c) x=zer c x:=by unfold zer; rw [List.find?_cons]; simp[e]
    rw [hg]
    refine⟨fun v h=>?_,fun h=>?_,fun v h=>?_⟩
    ·have:=i1 v h
     rw [List.map_cons,if_neg e]
     simp only[sumC,List.map_cons,List.sum_cons] at this |-
     omega
    ·obtain⟨j1,j2⟩:=i2 h
     exact⟨by rw [List.map_cons,if_neg e,j1],by rw [List.any_cons,j2]; simp[e]⟩
    ·rw [List.any_cons,i3 v h]; simp
 intro c hn
 obtain⟨h1,h2,h3⟩:=upd_ c hn
 unfold zk0
 cases hg:zer c x with
 | none=>
  rw [if_neg (by rw [(h2 hg).2]; decide)]
  simp[sumC]
 | some v=>
  rw [if_pos (h3 v hg),h1 v hg]
  rfl
structure CntOk(c:Cnt)(n:Nat):Prop where
 nd:(c.map (·.1)).Nodup
 sub:∀p∈c,p.1∈ten
 tot:sumC c=n
theorem CntOk.nil:CntOk [] 0:=⟨.nil,fun p h=>by simp at h,rfl⟩
theorem CntOk.add{c:Cnt}{n:Nat}(h:CntOk c n){x:Str}(hx:x∈ten):CntOk (q2n c x) (n+1):=by
 refine⟨?_,fun p hp=>?_,?_⟩
 ·unfold q2n
  rw [zgy]
  split
  ·exact h.nd
  ·rename_i hn
   exact List.nodup_append.mpr ⟨h.nd,by simp,fun a ha b hb e=>hn (by rw [List.mem_singleton] at hb; rw [<- hb,<- e]; exact ha)⟩
 ·have hm:p.1∈(q2n c x).map (·.1):=List.mem_map.mpr ⟨p,hp,rfl⟩
  unfold q2n at hm
  rw [zgy] at hm
  split at hm
  ·obtain⟨q,hq,e⟩:=List.mem_map.mp hm
   rw [<- e]; exact h.sub q hq
  ·rcases List.mem_append.mp hm with hm | hm
   ·obtain⟨q,hq,e⟩:=List.mem_map.mp hm
    rw [<- e]; exact h.sub q hq
   ·rw [List.mem_singleton] at hm
    rw [hm]; exact hx
 ·unfold q2n
  rw [q0l _ _ _ h.nd,h.tot]
  omega
theorem CntOk.len{c:Cnt}{n:Nat}(h:CntOk c n):c.length<=10:=by
 have:=zdu (c.map (·.1)) ten h.nd fun x hx=>by
  obtain⟨q,hq,e⟩:=List.mem_map.mp hx
  rw [<- e]; exact h.sub q hq
 rw [List.length_map] at this
 exact this
def zsw:Cnt->List RT->Cnt
 | c,[]=>c
 | c,r::l=>zsw (q2n c r.2.word) l
theorem zic:∀(c:Cnt) (a b:List RT),zsw c (a++b)=zsw (zsw c a) b
 | c,[],b=>rfl
 | c,r::a,b=>by rw [List.cons_append,zsw,zsw,zic]
theorem zib:∀{c:Cnt} {n:Nat} (l:List RT),CntOk c n->CntOk (zsw c l) (n+l.length)
 | c,n,[],h=>h
 | c,n,r::l,h=>by
  have:=zib l (h.add (zxc r.2))
  rw [zsw,List.length_cons,show n+(l.length+1)=n+1+l.length by omega]
  exact this
def z96(x:Str):Nat:=if x = "add" then 0 else if x = "less" then 1 else if x = "max" then 2 else if x = "min" then 3 else if x = "mul" then 4 else if x = "name" then 5 else if x = "num" then 6 else if x = "quo" then 7 else if x = "same" then 8 else 9
theorem zxu:(ten.all fun x=>ten.all fun y=>(decide (x.cps.toList < y.cps.toList) == decide (z96 x < z96 y)) && (!(decide (z96 x=z96 y)) || decide (x=y)))=true:=by decide+kernel
theorem q0i{x y:Str}(hx:x∈ten)(hy:y∈ten):decide (x.cps.toList < y.cps.toList)=decide (z96 x < z96 y)/\(z96 x=z96 y->x=y):=by
 have h:=zxu
 rw [List.all_eq_true] at h
 have h1:=h x hx
 rw [List.all_eq_true] at h1
 have h2:=h1 y hy
 rw [Bool.and_eq_true,Bool.or_eq_true] at h2
 refine⟨beq_iff_eq.mp h2.1,fun e=>?_⟩
 rcases h2.2 with z | z
 ·rw [decide_eq_true e] at z; cases z
 ·exact of_decide_eq_true z
theorem zo2{a b c:Cnt}(h1:a.Perm c)(h2:b.Perm c)(p1:a.Pairwise fun p q=>z96 p.1 < z96 q.1)(p2:b.Pairwise fun p q=>z96 p.1 < z96 q.1):a=b:=
 List.Perm.eq_of_pairwise (le:=fun p q:Str×Int=>z96 p.1 < z96 q.1) (fun x y _ _ u v=>by omega) p1 p2 (h1.trans h2.symm)
def q7e(H:Hp)(v:V)(S:List RT)(ra:Addr)(us:List V)(d:Addr)(i:Nat)(σ : St)(Hc:Hp):Prop:=∃(x2 x3:Option V),σ = [some v,some (.ref d),x2,x3]/\Same H Hc/\Hc d=some (.dK (kvC (zsw [] (S.take i))))/\Hc ra=some (.lst us)/\DtA Hc us (S.map q0h)
theorem zph{H:Hp}{v:V}{t:T}(h:Dt H v t.enc):∃a y xs,v=.ref a/\H a=some (.tup (.str t.word::y::xs)):=by
 cases t with
 | num i=>
  rw [T.enc] at h
  obtain⟨a,x0,x1,rfl,ha,t0,t1⟩:=zjn h
  cases t0
  exact⟨_,_,_,rfl,ha⟩
 | nm x=>
  rw [T.enc] at h
  obtain⟨a,x0,x1,rfl,ha,t0,t1⟩:=zjn h
  cases t0
  exact⟨_,_,_,rfl,ha⟩
 | op w a b=>
  rw [T.enc] at h
  obtain⟨a,x0,x1,x2,rfl,ha,t0,t1,t2⟩:=zr6 h
  cases t0
  exact⟨_,_,_,rfl,ha⟩
theorem zw5{H:Hp}{v:V}{d:D}(h:Dt H v d.enc):∃a xs,v=.ref a/\H a=some (.tup (.str d.kind::xs)):=by
 cases d with
 | set x t=>
  rw [D.enc] at h
  obtain⟨a,x0,x1,x2,rfl,ha,t0,t1,t2⟩:=zr6 h
  cases t0
  exact⟨_,_,rfl,ha⟩
 | ite t b c=>
  rw [D.enc] at h
  obtain⟨a,x0,x1,x2,x3,rfl,ha,t0,t1,t2,t3⟩:=zt6 h
  cases t0
  exact⟨_,_,rfl,ha⟩
 | whl t m b=>
  rw [D.enc] at h
  obtain⟨a,x0,x1,x2,x3,rfl,ha,t0,t1,t2,t3⟩:=zt6 h
  cases t0
  exact⟨_,_,rfl,ha⟩
theorem z1v{x:V}{xs:List V}:atI (x::xs) 0=some x:=z24 (j:=0) rfl
theorem zvd{H:Hp}{p:Addr}{c e:List (Key×V)}(h:H p=some (.dK c)):Kp H (upd H p (.dK e)):=
 ⟨fun b zs q=>by rw [z0b (z5w q h (by intro z; cases z))]; exact q,fun b zs q=>⟨zs,by rw [z0b (z5w q h (by intro z; cases z))]; exact q⟩⟩
theorem zxg(c:Cnt)(x:Str):(zl3 (kvC c) (Sum.inr x)).getD (V.int 0)=V.int ((zer c x).getD 0):=by
 rw [zte]
 cases zer c x<;>rfl
end
section
variable{P:Program}{w:World}{K:PySem.W.Frag}{mg:Str->Option Value}{base:Heap}{f:Addr}{fd:FuncData}
end
section
variable{P:Program}{w:World}{K:PySem.W.Frag}{mg:Str->Option Value}{base:Heap}{f:Addr}{fd:FuncData}
theorem q6m{K:PySem.W.Frag}{H:Hp}{Q:VK}{x y:V}{ds es:List Dm}(dx:Dt H x (.tup ds))(dy:Dt H y (.tup es))(hz:ds.length+es.length<=1000)(h:∀z H',Same H H'->Dt H' z (.tup (ds++es))->Q z H'):zpr K x y H Q:=by
 obtain⟨a,xs,rfl,ha,da⟩:=dx.tupI
 obtain⟨b,ys,rfl,hb,db⟩:=dy.tupI
 have la:=da.length
 have lb:=db.length
 refine⟨a,b,_,_,rfl,rfl,SqT.of ha,SqT.of hb,?_,fun e=>?_,fun _ e=>?_,fun _ _ r hr=>?_⟩
 ·exact Nat.le_of_lt (z20 (by omega))
 ·subst e
  have:ds=[]:=List.length_eq_zero_iff.mp la.symm
  subst this
  exact h _ _ (Same.refl _) dy
 ·subst e
  have:es=[]:=List.length_eq_zero_iff.mp lb.symm
  subst this
  rw [List.append_nil] at h
  exact h _ _ (Same.refl _) dx
 ·have s:=z02 hr (HO.tup (xs++ys))
  exact h _ _ s (.tup z01 ((da.kp s.kp).append (db.kp s.kp)))
theorem zvn:∀(x y:List Int),x.map (Sum.inl:Int->Key)=y.map Sum.inl->x=y
 | [],[],_=>rfl
 | [],_::_,h=>by cases h
 | _::_,[],h=>by cases h
 | a::x,b::y,h=>by
  rw [List.map_cons,List.map_cons] at h
  injection h with h1 h2
  injection h1 with h1
  rw [h1,zvn x y h2]
end
section
variable{P:Program}{w:World}{K:PySem.W.Frag}{mg:Str->Option Value}{base:Heap}{f:Addr}{fd:FuncData}
theorem q07:∀x∈ten,PyData.strOk x=true:=by
 intro x hx
 simp only[ten,List.mem_cons,List.not_mem_nil,or_false] at hx
 rcases hx with rfl | rfl | rfl | rfl | rfl | rfl | rfl | rfl | rfl | rfl<;>decide+kernel
theorem zvt{p:Str×Int}(h:p.1∈ten):Fine 1 (ziq p):=by
 refine z9o fun d hd=>?_
 simp only[List.mem_cons,List.not_mem_nil,or_false] at hd
 rcases hd with rfl | rfl
 ·exact z7e _ (q07 _ h)
 ·exact zh2 _ _
theorem zfp{c:Cnt}(h:∀p∈c,p.1∈ten):zf7 (c.map ziq)=true/\SeqAt.shaped (.list (zej (c.map ziq)))=true/\PyData.canLay0 (.list (zej (c.map ziq)))=true:=by
 obtain⟨fa1,fa2,fa3⟩:=zvw (ds:=c.map ziq) (n:=1) fun d hd=>by
  obtain⟨r,hr,rfl⟩:=List.mem_map.mp hd
  exact zvt (h r hr)
 have h0:PyData.canLay0 (.list (zej (c.map ziq)))=true:=by simpa [PyData.canLay0] using fa2
 refine⟨fa1,?_,h0⟩
 unfold SeqAt.shaped
 rw [h0,Bool.true_and,decide_eq_true_eq]
 simp only[PyData.depth]
 omega
theorem zk5{ms:Cnt}{l:List RT}(h:ms.Perm (zsw [] l)):∀p∈ms,p.1∈ten:=fun p hp=>(zib l CntOk.nil).sub p (h.mem_iff.mp hp)
end
section
variable{P:Program}{w:World}{K:PySem.W.Frag}{mg:Str->Option Value}{base:Heap}{f:Addr}{fd:FuncData}
abbrev RI:=List Int×Int
inductive Rs where
 | had (i:Int)
 | ref (w:Str) (p:List Int)
def Rs.enc:Rs->Dm
 | .had i=>.tup [.str "had",.int i]
 | .ref w p=>.tup [.str "refused",.str w,z25 p]
def rowI(r:RI):Dm:=.tup [z25 r.1,.int r.2]
def zkz(i:Int)(p:List Int):Rs:=if i < -32768 then .ref "over" p else if i > 32767 then .ref "over" p else .had i
def SameB(l:Addr)(H H':Hp):Prop:=∀a o,a≠l->H a=some o->H' a=some o
theorem SameB.of{l:Addr}{H H':Hp}(h:Same H H'):SameB l H H':=fun a o _ e=>h a o e
theorem SameB.trans{l:Addr}{H H1 H2:Hp}(a:SameB l H H1)(b:SameB l H1 H2):SameB l H H2:=fun x o n e=>b x o n (a x o n e)
theorem SameB.kp{l:Addr}{H H':Hp}{xs ys:List V}(h:SameB l H H')(hl:H l=some (.lst xs))(hl':H' l=some (.lst ys)):Kp H H':=
 ⟨fun b zs q=>h b _ (fun z=>by rw [z,hl] at q; cases q) q,fun b zs q=>by
  by_cases hb:b=l
  ·subst hb; exact⟨ys,hl'⟩
  ·exact⟨zs,h b _ hb q⟩⟩
def z6o:Sp:=fun vs H Q _=>∃(wv pv:V) (p:List Int) (l:Addr) (xs:List V),vs=[wv,pv,.ref l]/\Dt H pv (z25 p)/\H l=some (.lst xs)/\xs.length < sizeLine/\
 ((wv=.non/\∀r H',Same H H'->Dt H' r (Rs.ref "zero" p).enc->Q r H')\/∃i,wv=.int i/\∀(r y:V) (H':Hp),SameB l H H'->H' l=some (.lst (xs++[y]))->Dt H' y (rowI (p,i))->Dt H' r (zkz i p).enc->Q r H')
end
section
variable{P:Program}{w:World}{K:PySem.W.Frag}{mg:Str->Option Value}{base:Heap}{f:Addr}{fd:FuncData}
theorem zs5(F:Fun K "settled" "settled" z6p f fd) {ai:Addr} (g_WIDE:GC mg "WIDE" (.ref ai)) (hI:∀H,SqT K H ai [.int (-32768),.int 32767]):FnOk P w K mg base CX0 1 f fd ["worth","path","rows"] z6o:=by
 refine F.ok zro (fun vs H Q E h=>?_) (fun cdv A outer s H vs Q E hr h=>?_)
 ·obtain⟨wv,pv,p,l,xs,rfl,_⟩:=h
  rfl
 obtain⟨wv,pv,p,l,xs,rfl,hp,hl,hx,h⟩:=h
 refine⟨_,(z06 (z32 (z0g q7b (z00 (i:=0) rfl z2y z7f z7g) zfx (z0s _)) (z0a (z0h (z13 (z09 z0m (z09 z0m (z09 (z00 (i:=1) rfl z5q z19 z1b) z04)))))) z0x)
 (z06 (z46 (zdq PySem.F.plainAttrs_list PySem.F.slot_list_append PySem.F.type_list_append z3i (z00 (i:=2) rfl zg9 zb9 zbj) (z09 (z13 (z09 (z00 (i:=1) rfl z5q z19 z1b) (z09 (z00 (i:=0) rfl z2y z7f z7g) z04))) z04)) (z05 rfl))
 (z06 (z32 (PW.pt (zuc (z0g zof (z00 (i:=0) rfl z2y z7f z7g) (z0z z0n (q3b g_WIDE zb0 zwi) z03 (fun _ _=>rfl)) (z0s _)) (zps (z0g q3i (z00 (i:=0) rfl z2y z7f z7g) (z0z z0n (q3b g_WIDE zb0 zwi) z03 (fun _ _=>rfl)) (z0s _))))) (z0a (z0h (z13 (z09 z0m (z09 z0m (z09 (z00 (i:=1) rfl z5q z19 z1b) z04)))))) z0x)
 (z0a (z0h (z13 (z09 z0m (z09 (z00 (i:=0) rfl z2y z7f z7g) z04)))))))),z0j fun N1 e1=>?_⟩
 walk_at "rd7"
 rcases h with⟨rfl,q⟩ | ⟨i,rfl,q⟩
 ·rw [if_pos rfl]
  refine⟨by decide,fun r hr'=>?_⟩
  have s1:=z02 hr' (HO.tup [V.str "refused",V.str "zero",pv])
  exact q _ _ s1 (.tup z01 (.cons (.str _) (.cons (.str _) (.cons (hp.kp s1.kp) .nil))))
 ·rw [if_neg (by intro z; cases z),e1]
  refine z0j fun N2 e2=>?_
  walk_at "rd7"
  refine⟨.inl ⟨rfl,_,SqL.of hl⟩,by decide,fun y hy=>?_⟩
  have s1:=z02 hy (HO.tup [pv,V.int i])
  have hly:=s1 _ _ hl
  refine⟨xs,hly,hx,?_⟩
  have nyl:y≠l:=fun z=>by rw [z,hl] at hy; cases hy
  have k2:Kp (upd H y (HO.tup [pv,V.int i])) (upd (upd H y (HO.tup [pv,V.int i])) l (HO.lst (xs++[V.ref y]))):=Kp.set hly
  have sB:SameB l H (upd (upd H y (HO.tup [pv,V.int i])) l (HO.lst (xs++[V.ref y]))):=fun a o n e=>by rw [z0b n]; exact s1 _ _ e
  have hU:(upd (upd H y (HO.tup [pv,V.int i])) l (HO.lst (xs++[V.ref y]))) l=some (.lst (xs++[V.ref y])):=z01
  have dy:Dt (upd (upd H y (HO.tup [pv,V.int i])) l (HO.lst (xs++[V.ref y]))) (.ref y) (rowI (p,i)):=.tup (by rw [z0b nyl]; exact z01) (.cons (hp.kp (s1.kp.trans k2)) (.cons (.int _) .nil))
  have dp:=hp.kp (s1.kp.trans k2)
  generalize upd (upd H y (HO.tup [pv,V.int i])) l (HO.lst (xs++[V.ref y]))=U at k2 sB hU dy dp |-
  rw [e2]
  walk_at "rd7"
  have fin:∀(r:Addr) (o:List V),U r=none->Dt (upd U r (HO.tup o)) (.ref r) (zkz i p).enc->Q (.ref r) (upd U r (HO.tup o)):=fun r o h1 h2=>by
   have s3:=z02 h1 (HO.tup o)
   exact q _ _ _ (sB.trans (SameB.of s3)) (s3 _ _ hU) (dy.kp s3.kp) h2
  refine⟨_,hI U,_,z24 (j:=0) rfl,_,rfl,?_⟩
  split
  ·rename_i hlt
   refine⟨by decide,fun r hr'=>fin r _ hr' ?_⟩
   rw [zkz,if_pos hlt]
   exact .tup z01 (.cons (.str _) (.cons (.str _) (.cons (dp.kp (z02 hr' _).kp) .nil)))
  ·rename_i hlt
   refine⟨_,hI U,_,z24 (j:=1) rfl,_,rfl,?_⟩
   split
   ·rename_i hgt
    refine⟨by decide,fun r hr'=>fin r _ hr' ?_⟩
    rw [zkz,if_neg hlt,if_pos hgt]
    exact .tup z01 (.cons (.str _) (.cons (.str _) (.cons (dp.kp (z02 hr' _).kp) .nil)))
   ·rename_i hgt
    refine⟨by decide,fun r hr'=>fin r _ hr' ?_⟩
    rw [zkz,if_neg hlt,if_neg hgt]
    exact .tup z01 (.cons (.str _) (.cons (.int _) .nil))
end
section
variable{P:Program}{w:World}{K:PySem.W.Frag}{mg:Str->Option Value}{base:Heap}{f:Addr}{fd:FuncData}
def q6l(st:Stmt):Expr:=match defBody st with
 | [.Return (some (.Call _ [_,_,e] _ _)) _]=>e
 | [_,.Expr (.Call _ [_,_,e] _ _) _,_]=>e
 | _=>.Name "" ⟨0,0,0,0⟩
def q73(q:Str)(e:Expr):LamD:=match e with
 | .Lambda ps b sc _=>⟨q,ps,b,sc⟩
 | _=>⟨q,{posonlyargs:=[],args:=[],vararg:=none,kwonlyargs:=[],kw_defaults:=[],kwarg:=none,defaults:=[]},.Name "" ⟨0,0,0,0⟩,{kind:=.function,names:=[],isGenerator:=false,isCoroutine:=false}⟩
def q41(e:Expr):Pos:=match e with
 | .Lambda _ _ _ p=>p
 | _=>⟨0,0,0,0⟩
abbrev dT:LamD:=q73 ("traced" ++ ".<locals>." ++ "<lambda>") (q6l z2r)
theorem q70:∀y∈dT.scope.names,y.2=.free->y.1 = "rows":=by decide+kernel
theorem q71(c:Addr):LamScope ["worth","path"] ["rows"] [("rows",c)] dT.scope:=by
 refine⟨rfl,rfl,rfl,by decide+kernel,by decide+kernel,by decide+kernel,by decide+kernel,fun y hy e=>⟨c,?_⟩,fun x y c' h1 h2=>?_,fun x c' h=>?_⟩
 ·rw [q70 y hy e]
  rfl
 ·have key:∀z:Str,([("rows",c)]:List (Str×Addr)).lookup z=some c'->z = "rows":=fun z h=>by
   by_cases e:z = "rows"
   ·exact e
   ·have:(z == ("rows" : Str))=false:=by simpa using e
    rw [List.lookup,this] at h
    cases h
  rw [key x h1,key y h2]
 ·rw [List.mem_singleton] at h
  cases h
  rfl
def SetOk(f:Addr)(lo:Option Addr)(H:Hp):Prop:=match lo with
 | none=>False
 | some l=>∃c' c o,H f=some (zqf dT [("rows",c)] f c')/\H c'=some (zch c' dT.qual)/\H c=some (z4g c o)/\o.data=.cell (some (.ref l))
theorem SetOk.lam{f:Addr}{lo:Option Addr}{H:Hp}(h:SetOk f lo H):IsLam H f:=by
 cases lo with
 | none=>exact h.elim
 | some l=>obtain⟨c',c,o,e,_⟩:=h; exact⟨_,_,_,e⟩
def KpE(H H':Hp):Prop:=∀a φ,H a=some (.ext φ)->H' a=some (.ext φ)
theorem KpE.refl(H:Hp):KpE H H:=fun _ _ h=>h
theorem KpE.trans{H H1 H2:Hp}(a:KpE H H1)(b:KpE H1 H2):KpE H H2:=fun x φ h=>b x φ (a x φ h)
theorem Same.kpE{H H':Hp}(s:Same H H'):KpE H H':=fun a φ h=>s _ _ h
theorem KpE.set{H:Hp}{p:Addr}{o u:HO}(h:H p=some o)(n:∀ φ,o≠.ext φ):KpE H (upd H p u):=fun a φ e=>by
 rw [z0b (z5w e h fun z=>n φ z.symm)]
 exact e
theorem SetOk.kp{f:Addr}{lo:Option Addr}{H H':Hp}(h:SetOk f lo H)(k:KpE H H'):SetOk f lo H':=by
 cases lo with
 | none=>exact h.elim
 | some l=>obtain⟨c',c,o,e,e2,e3,e4⟩:=h; exact⟨c',c,o,k _ _ e,k _ _ e2,k _ _ e3,e4⟩
end
section
variable{P:Program}{w:World}{K:PySem.W.Frag}{mg:Str->Option Value}{base:Heap}{f:Addr}{fd:FuncData}
def Gr(lo:Option Addr)(H H':Hp)(rs:List RI):Prop:=(∀a o,some a≠lo->H a=some o->H' a=some o)/\∀l,lo=some l->∃xs ys,H l=some (.lst xs)/\H' l=some (.lst (xs++ys))/\DtA H' ys (rs.map rowI)
def HasL(lo:Option Addr)(H:Hp)(n:Nat):Prop:=∀l,lo=some l->∃xs,H l=some (.lst xs)/\xs.length+n < sizeLine
theorem Gr.kp{lo:Option Addr}{H H':Hp}{rs:List RI}(h:Gr lo H H' rs):Kp H H':=by
 cases lo with
 | none=>exact⟨fun b xs e=>h.1 b _ (by simp) e,fun b xs e=>⟨xs,h.1 b _ (by simp) e⟩⟩
 | some l=>
  obtain⟨xs,ys,e1,e2,_⟩:=h.2 l rfl
  exact SameB.kp (fun a o n e=>h.1 a o (by simpa using n) e) e1 e2
theorem Gr.kpE{lo:Option Addr}{H H':Hp}{rs:List RI}(h:Gr lo H H' rs):KpE H H':=fun a φ e=>by
 refine h.1 a _ (fun z=>?_) e
 obtain⟨xs,ys,e1,_⟩:=h.2 a z.symm
 rw [e1] at e
 cases e
theorem Gr.keep{lo:Option Addr}{H H':Hp}{rs:List RI}(h:Gr lo H H' rs){a:Addr}{o:HO}(e:H a=some o)(n:∀xs,o≠.lst xs):H' a=some o:=h.1 a o (fun z=>by
 obtain⟨xs,ys,e1,_⟩:=h.2 a z.symm
 rw [e1] at e
 cases e
 exact n _ rfl) e
theorem Gr.trans{lo:Option Addr}{H H1 H2:Hp}{r1 r2:List RI}(a:Gr lo H H1 r1)(b:Gr lo H1 H2 r2):Gr lo H H2 (r1++r2):=by
 refine⟨fun x o n e=>b.1 x o n (a.1 x o n e),fun l hl=>?_⟩
 obtain⟨xs,ys,e1,e2,d1⟩:=a.2 l hl
 obtain⟨xs',zs,f1,f2,d2⟩:=b.2 l hl
 rw [e2] at f1
 cases f1
 exact⟨xs,ys++zs,e1,by rw [f2,List.append_assoc],by rw [List.map_append]; exact(d1.kp b.kp).append d2⟩
theorem Gr.same{lo:Option Addr}{H H':Hp}{n:Nat}(s:Same H H')(h:HasL lo H n):Gr lo H H' []:=by
 refine⟨fun a o _ e=>s a o e,fun l hl=>?_⟩
 obtain⟨xs,e,_⟩:=h l hl
 exact⟨xs,[],e,by rw [List.append_nil]; exact s _ _ e,.nil⟩
theorem HasL.on{lo:Option Addr}{H H':Hp}{rs:List RI}{n m:Nat}(h:HasL lo H n)(g:Gr lo H H' rs)(k:rs.length+m<=n):HasL lo H' m:=fun l hl=>by
 obtain⟨xs,e,z⟩:=h l hl
 obtain⟨xs',ys,e1,e2,d⟩:=g.2 l hl
 rw [e] at e1
 cases e1
 have:=d.length
 rw [List.length_map] at this
 exact⟨_,e2,by rw [List.length_append]; omega⟩
theorem HasL.same{lo:Option Addr}{H H':Hp}{n:Nat}(h:HasL lo H n)(s:Same H H'):HasL lo H' n:=fun l hl=>by
 obtain⟨xs,e,z⟩:=h l hl
 exact⟨xs,s _ _ e,z⟩
theorem HasL.mono{lo:Option Addr}{H:Hp}{n m:Nat}(h:HasL lo H n)(k:m<=n):HasL lo H m:=fun l hl=>by
 obtain⟨xs,e,z⟩:=h l hl
 exact⟨xs,e,by omega⟩
theorem q7a:dT.scope.names.lookup ("settled" : Str)=some NameKind.globalImplicit:=by decide+kernel
theorem q6s:Vis dT.scope "worth":=Or.inl (by decide+kernel)
theorem q6u:Vis dT.scope "path":=Or.inl (by decide+kernel)
theorem q6t:Vis dT.scope "rows":=Or.inr (Or.inr (by decide+kernel))
theorem q52{us:List Value}(hl:us.length=2):∀fd:FuncData,fd.params=dT.params->fd.defaults=.none->fd.kwdefaults=.none->fd.scope=dT.scope->bindArgs fd ⟨us,[]⟩=pure ((["worth","path"]:List Str).zip us):=by
 intro fd h1 h2 h3 h4
 obtain⟨name,qual,params,body,scope,globals,closure,defaults,kwdefaults,doc,pm,an,code,ct,bu⟩:=fd
 cases h1
 cases h2
 cases h3
 cases h4
 match us,hl with
 | [_,_],_=>rfl
theorem zsq:DBF "settled":=by decide+kernel
end
section
variable{P:Program}{w:World}{K:PySem.W.Frag}{mg:Str->Option Value}{base:Heap}{f:Addr}{fd:FuncData}
theorem q40(c_settled:Callee P w K mg base "settled" ["worth","path","rows"] 1 z6o) {H:Hp} {x pv:V} {p:List Int} {Q:VK} {c' c l:Addr} {o:Obj} (hf:H f=some (zqf dT [("rows",c)] f c')) (hc:H c'=some (zch c' dT.qual)) (hcl:H c=some (z4g c o)) (ho:o.data=.cell (some (.ref l))) (hp:Dt H pv (z25 p))
  (q:z6o [x,pv,.ref l] (zh0 [c] H) (fun v H'=>H' c=none->Q v (zgs [c] H H')) E0):zt9 P w K mg base 2 f H [x,pv] Q:=by
 intro A outer s us hr e0 r
 have hl:us.length=2:=r.length.symm
 refine zva (k:=1) (ps:=["worth","path"]) (fr:=["rows"]) (ws:=[.ref l]) (q71 c) hr e0 hf hc rfl r rfl (fun c2 hc2=>?_) (fun i x v h1 h2=>?_) (q52 hl) fun hr'=>?_
 ·rw [List.map_cons,List.map_nil,List.mem_singleton] at hc2
  subst hc2
  exact⟨o,_,hcl,ho⟩
 ·match i,h1,h2 with
  | 0,h1,h2=>
   cases h1
   cases h2
   exact⟨c,o,_,rfl,hcl,ho,rfl⟩
  | i+1,h1,_=>simp at h1
 refine⟨_,z18 c_settled hr' (by omega) (z09 (z00 (i:=0) rfl q6s z7f z7g) (z09 (z00 (i:=1) rfl q6u z19 z1b) (z09 (z00 (i:=2) rfl q6t zb9 zbj) z04))) q7a zsq,?_⟩
 rw [List.map_cons,List.map_nil]
 simp only[List.mem_singleton,forall_eq]
 walk_at "rd7"
 exact q
theorem zvc{H:Hp}{c:Addr}{o:Obj}(hc:H c=some (z4g c o)):Kp H (zh0 [c] H):=by
 have out:∀{b:Addr} {u:HO},H b=some u->(∀ φ,u≠.ext φ)->zh0 [c] H b=some u:=fun {b u} e n=>by
  rw [z1t fun z=>by
   rw [List.mem_singleton.mp z,hc] at e
   cases e
   exact n _ rfl]
  exact e
 exact⟨fun b xs e=>out e fun φ z=>(by cases z),fun b xs e=>⟨xs,out e fun φ z=>(by cases z)⟩⟩
theorem z8w{H H':Hp}{c:Addr}(hn:H' c=none){b:Addr}{u:HO}(e:H' b=some u):zgs [c] H H' b=some u:=by
 rw [z50 fun z=>by
  rw [List.mem_singleton.mp z,hn] at e
  cases e]
 exact e
theorem zot{H H':Hp}{c:Addr}(hn:H' c=none):Kp H' (zgs [c] H H'):=⟨fun b xs e=>z8w hn e,fun b xs e=>⟨xs,z8w hn e⟩⟩
theorem zf8(c_settled:Callee P w K mg base "settled" ["worth","path","rows"] 1 z6o) {H:Hp} {pv:V} {p:List Int} {i:Int} {lo:Option Addr} {Q:VK} (hS:SetOk f lo H) (hL:HasL lo H 1) (hp:Dt H pv (z25 p))
  (q:∀r H',Gr lo H H' [(p,i)]->Dt H' r (zkz i p).enc->Q r H'):zt9 P w K mg base 2 f H [.int i,pv] Q:=by
 cases lo with
 | none=>exact hS.elim
 | some l=>
  obtain⟨c',c,o,hf,hc,hcl,ho⟩:=hS
  obtain⟨xs,hl,hz⟩:=hL l rfl
  have nlc:l≠c:=fun z=>by rw [z,hcl] at hl; unfold z4g at hl; cases hl
  refine q40 c_settled hf hc hcl ho hp ⟨_,pv,p,l,xs,rfl,hp.kp (zvc hcl),by rw [z1t (by simpa using nlc)]; exact hl,by omega,.inr ⟨i,rfl,fun r y H' sB hl' dy dr hn=>?_⟩⟩
  refine q r _ ⟨fun a u na e=>?_,fun l2 e2=>?_⟩ (dr.kp (zot hn))
  ·by_cases hac:a=c
   ·subst hac
    rw [zft (by simp)]
    exact e
   ·exact z8w hn (sB a u (fun z=>na (by rw [z])) (by rw [z1t (by simpa using hac)]; exact e))
  ·cases e2
   exact⟨xs,[y],hl,z8w hn hl',.cons (dy.kp (zot hn)) .nil⟩
theorem zo3(c_settled:Callee P w K mg base "settled" ["worth","path","rows"] 1 z6o) {H:Hp} {pv:V} {p:List Int} {lo:Option Addr} {Q:VK} (hS:SetOk f lo H) (hL:HasL lo H 1) (hp:Dt H pv (z25 p))
  (q:∀r H',Gr lo H H' []->Dt H' r (Rs.ref "zero" p).enc->Q r H'):zt9 P w K mg base 2 f H [.non,pv] Q:=by
 cases lo with
 | none=>exact hS.elim
 | some l=>
  obtain⟨c',c,o,hf,hc,hcl,ho⟩:=hS
  obtain⟨xs,hl,hz⟩:=hL l rfl
  have nlc:l≠c:=fun z=>by rw [z,hcl] at hl; unfold z4g at hl; cases hl
  have hlh:zh0 [c] H l=some (.lst xs):=by rw [z1t (by simpa using nlc)]; exact hl
  refine q40 c_settled hf hc hcl ho hp ⟨_,pv,p,l,xs,rfl,hp.kp (zvc hcl),hlh,by omega,.inl ⟨rfl,fun r H' s2 dr hn=>?_⟩⟩
  refine q r _ ⟨fun a u na e=>?_,fun l2 e2=>?_⟩ (dr.kp (zot hn))
  ·by_cases hac:a=c
   ·subst hac
    rw [zft (by simp)]
    exact e
   ·exact z8w hn (s2 a u (by rw [z1t (by simpa using hac)]; exact e))
  ·cases e2
   exact⟨xs,[],hl,by rw [List.append_nil]; exact z8w hn (s2 _ _ hlh),.nil⟩
end
section
variable{P:Program}{w:World}{K:PySem.W.Frag}{mg:Str->Option Value}{base:Heap}{f:Addr}{fd:FuncData}
def Wd.worth:Wd->Int->Int->Int
 | .add,a,b=>a+b
 | .sub,a,b=>a - b
 | .mul,a,b=>a * b
 | .quo,a,b=>a.fdiv b
 | .less,a,b=>if a < b then 1 else 0
 | .same,a,b=>if a=b then 1 else 0
 | .min,a,b=>if b < a then b else a
 | .max,a,b=>if b > a then b else a
def evT(c:Cnt):T->List Int->Rs×List RI
 | .num i,p=>(zkz i p,[(p,i)])
 | .nm x,p=>(zkz ((zer c x).getD 0) p,[(p,(zer c x).getD 0)])
 | .op w a b,p=>match evT c a (p++[0]) with
  | (.ref u q,r1)=>(.ref u q,r1)
  | (.had x,r1)=>match evT c b (p++[1]) with
   | (.ref u q,r2)=>(.ref u q,r1++r2)
   | (.had y,r2)=>if w=.quo/\y=0 then(.ref "zero" p,r1++r2) else(zkz (w.worth x y) p,r1++r2++[(p,w.worth x y)])
abbrev Ref:=Str×List Int
abbrev Out:=Option Ref×Cnt×List RI
def z4w(cond:Cnt->Rs×List RI)(body:Cnt->Out)(p:List Int):Nat->Cnt->Out
 | k,c=>match cond c with
  | (.ref u q,r)=>(some (u,q),c,r)
  | (.had v,r)=>if v=0 then(none,c,r) else match k with
   | 0=>(some ("long",p),c,r)
   | k+1=>match body c with
    | (some e,c1,r1)=>(some e,c1,r++r1)
    | (none,c1,r1)=>match z4w cond body p k c1 with
     | (e,c2,r2)=>(e,c2,r++r1++r2)
mutual
def evD(p:List Int):D->Cnt->Out
 | .set x t,c=>match evT c t (p++[0]) with
  | (.ref u q,r)=>(some (u,q),c,r)
  | (.had v,r)=>(none,zk0 c x v,r)
 | .ite t b b2,c=>match evT c t (p++[0]) with
  | (.ref u q,r)=>(some (u,q),c,r)
  | (.had v,r)=>if v≠0 then(match evB (p++[1]) 0 b c with | (e,c1,r1)=>(e,c1,r++r1)) else(match evB (p++[2]) 0 b2 c with | (e,c1,r1)=>(e,c1,r++r1))
 | .whl t m b,c=>z4w (fun c=>evT c t (p++[0])) (fun c=>evB (p++[1]) 0 b c) p m.toNat c
def evB(p:List Int)(k:Int):List D->Cnt->Out
 | [],c=>(none,c,[])
 | d::r,c=>match evD (p++[k]) d c with
  | (some e,c1,w)=>(some e,c1,w)
  | (none,c1,w)=>match evB p (k+1) r c1 with
   | (e,c2,w2)=>(e,c2,w++w2)
end
def T.in(g:List Str):T->Prop
 | .num _=>True
 | .nm x=>x∈g
 | .op _ a b=>a.in g/\b.in g
def Has(c:Cnt)(g:List Str):Prop:=∀x∈g,∃v,zer c x=some v/\-32768<=v/\v<=32767
theorem zjv{i v:Int}{p:List Int}(h:zkz i p=.had v):v=i/\-32768<=i/\i<=32767:=by
 unfold zkz at h
 split at h
 ·cases h
 ·split at h
  ·cases h
  ·cases h
   omega
theorem zvx{c:Cnt}:∀(t:T) (p:List Int) {v:Int} {r:List RI},evT c t p=(.had v,r)->-32768<=v/\v<=32767
 | .num i,p,v,r,h=>by
  rw [evT] at h
  obtain⟨rfl,h1,h2⟩:=zjv (congrArg Prod.fst h)
  exact⟨h1,h2⟩
 | .nm x,p,v,r,h=>by
  rw [evT] at h
  obtain⟨rfl,h1,h2⟩:=zjv (congrArg Prod.fst h)
  exact⟨h1,h2⟩
 | .op w a b,p,v,r,h=>by
  rw [evT] at h
  split at h
  ·cases h
  ·split at h
   ·cases h
   ·split at h
    ·cases h
    ·obtain⟨rfl,h1,h2⟩:=zjv (congrArg Prod.fst h)
     exact⟨h1,h2⟩
theorem zur{c:Cnt}{w:Wd}{a b:T}{p:List Int}{u:Str}{q:List Int}{r:List RI}(h:evT c a (p++[0])=(.ref u q,r)):evT c (.op w a b) p=(.ref u q,r):=by rw [evT,h]
theorem zk8{c:Cnt}{w:Wd}{a b:T}{p:List Int}{u:Str}{q:List Int}{x:Int}{r s:List RI}(h:evT c a (p++[0])=(.had x,r))(h2:evT c b (p++[1])=(.ref u q,s)):evT c (.op w a b) p=(.ref u q,r++s):=by rw [evT,h]; simp only[h2]
theorem zk7{c:Cnt}{a b:T}{p:List Int}{x:Int}{r s:List RI}(h:evT c a (p++[0])=(.had x,r))(h2:evT c b (p++[1])=(.had 0,s)):evT c (.op .quo a b) p=(.ref "zero" p,r++s):=by rw [evT,h]; simp[h2]
theorem zq2{c:Cnt}{w:Wd}{a b:T}{p:List Int}{x y:Int}{r s:List RI}(h:evT c a (p++[0])=(.had x,r))(h2:evT c b (p++[1])=(.had y,s))(h3:¬ (w=.quo/\y=0)):evT c (.op w a b) p=(zkz (w.worth x y) p,r++s++[(p,w.worth x y)]):=by rw [evT,h]; simp only[h2]; rw [if_neg h3]
theorem q0z(c:Cnt)(w:Wd)(a b:T)(p:List Int):(evT c a (p++[0])).2.length<=(evT c (.op w a b) p).2.length:=by
 cases h:evT c a (p++[0]) with
 | mk r1 s1=>
  cases r1 with
  | ref u q=>rw [zur h]; exact Nat.le_refl _
  | had x=>
   cases h2:evT c b (p++[1]) with
   | mk r2 s2=>
    cases r2 with
    | ref u q=>rw [zk8 h h2]; simp
    | had y=>
     by_cases h3:w=.quo/\y=0
     ·obtain⟨rfl,rfl⟩:=h3
      rw [zk7 h h2]; simp
     ·rw [zq2 h h2 h3]; simp only[List.length_append,List.length_cons,List.length_nil]; omega
theorem q0y{c:Cnt}{w:Wd}{a b:T}{p:List Int}{x:Int}{r:List RI}(h:evT c a (p++[0])=(.had x,r)):r.length+(evT c b (p++[1])).2.length<=(evT c (.op w a b) p).2.length:=by
 cases h2:evT c b (p++[1]) with
 | mk r2 s2=>
  cases r2 with
  | ref u q=>rw [zk8 h h2]; simp
  | had y=>
   by_cases h3:w=.quo/\y=0
   ·obtain⟨rfl,rfl⟩:=h3
    rw [zk7 h h2]; simp
   ·rw [zq2 h h2 h3]; simp only[List.length_append,List.length_cons,List.length_nil]; omega
def z64(n:Nat):Sp:=fun vs H Q _=>∃(v:V) (t:T) (pv:V) (p:List Int) (d f:Addr) (c:Cnt) (g:List Str) (lo:Option Addr),vs=[v,pv,.ref d,.ref f]/\Dt H v t.enc/\Dt H pv (z25 p)/\t.ok g n/\n<=5/\p.length+n<=100/\H d=some (.dK (kvC c))/\Has c g/\SetOk f lo H/\HasL lo H ((evT c t p).2.length+1)/\
 ∀(r:V) (H':Hp),Gr lo H H' (evT c t p).2->Dt H' r (evT c t p).1.enc->Q r H'
end
section
variable{P:Program}{w:World}{K:PySem.W.Frag}{mg:Str->Option Value}{base:Heap}{f:Addr}{fd:FuncData}
theorem eqW{H:Hp}(w v:Wd):q59 K (.str w.str) (.str v.str) H (decide (w=v)):=.inl ⟨rfl,by cases w<;>cases v<;>decide+kernel⟩
def znu:Sp:=fun vs H Q _=>∃(w:Wd) (a b:Int),vs=[.str w.str,.int a,.int b]/\(w=.quo->b≠0)/\b.natAbs < 1073741824/\Q (.int (w.worth a b)) H
theorem zoh(F:Fun K "worth_of" "worth_of" z4k f fd) (b_min:mg "min" = none) (b_max:mg "max" = none):FnOk P w K mg base CX0 1 f fd ["word","one","other"] znu:=by
 refine F.ok zo4 (fun vs H Q E h=>?_) (fun cdv A outer s H vs Q E hr h=>?_)
 ·obtain⟨w,a,b,rfl,_⟩:=h
  rfl
 obtain⟨w,a,b,rfl,hq,hb,q⟩:=h
 refine⟨_,(z06 (z32 (z0g (gEq hr.units) (z00 (i:=0) rfl z1y zcw zd0) z0m (z0s _)) (z0a (z0h (z0r z1l (z00 (i:=1) rfl z1s zbb zbk) (z00 (i:=2) rfl z1d z4d z4e)))) z0x)
 (z06 (z32 (z0g (gEq hr.units) (z00 (i:=0) rfl z1y zcw zd0) z0m (z0s _)) (z0a (z0h (z0r zck (z00 (i:=1) rfl z1s zbb zbk) (z00 (i:=2) rfl z1d z4d z4e)))) z0x)
 (z06 (z32 (z0g (gEq hr.units) (z00 (i:=0) rfl z1y zcw zd0) z0m (z0s _)) (z0a (z0h (z0r zar (z00 (i:=1) rfl z1s zbb zbk) (z00 (i:=2) rfl z1d z4d z4e)))) z0x)
 (z06 (z32 (z0g (gEq hr.units) (z00 (i:=0) rfl z1y zcw zd0) z0m (z0s _)) (z0a (z0h (z0r zy7 (z00 (i:=1) rfl z1s zbb zbk) (z00 (i:=2) rfl z1d z4d z4e)))) z0x)
 (z06 (z32 (z0g (gEq hr.units) (z00 (i:=0) rfl z1y zcw zd0) z0m (z0s _)) (z0a (z0h (zpz (z0g zof (z00 (i:=1) rfl z1s zbb zbk) (z00 (i:=2) rfl z1d z4d z4e) (z0s _)) z03 z03))) z0x)
 (z06 (z32 (z0g (gEq hr.units) (z00 (i:=0) rfl z1y zcw zd0) z0m (z0s _)) (z0a (z0h (zpz (z0g zds (z00 (i:=1) rfl z1s zbb zbk) (z00 (i:=2) rfl z1d z4d z4e) (z0s _)) z03 z03))) z0x)
 (z06 (z32 (z0g (gEq hr.units) (z00 (i:=0) rfl z1y zcw zd0) z0m (z0s _)) (z0a (z0h (za5 (zwy rfl) zhw b_min q4y (z09 (z00 (i:=1) rfl z1s zbb zbk) (z09 (z00 (i:=2) rfl z1d z4d z4e) z04)) q3q q4m))) z0x)
 (z0a (z0h (za5 (zwz rfl) zhx b_max q4z (z09 (z00 (i:=1) rfl z1s zbb zbk) (z09 (z00 (i:=2) rfl z1d z4d z4e) z04)) q3r q4n)))))))))),?_⟩
 walk_at "rd"
 have hm:CMul a b:=.inr ⟨by omega,by omega⟩
 refine⟨_,eqW w .add,?_⟩
 split
 ·rename_i e; cases of_decide_eq_true e; exact q
 rename_i n1
 refine⟨_,eqW w .sub,?_⟩
 split
 ·rename_i e; cases of_decide_eq_true e; exact q
 rename_i n2
 refine⟨_,eqW w .mul,?_⟩
 split
 ·rename_i e; cases of_decide_eq_true e; exact⟨hm,q⟩
 rename_i n3
 refine⟨_,eqW w .quo,?_⟩
 split
 ·rename_i e; cases of_decide_eq_true e; exact⟨⟨hq rfl,hb⟩,q⟩
 rename_i n4
 refine⟨_,eqW w .less,?_⟩
 split
 ·rename_i e; cases of_decide_eq_true e
  have q:Q (.int (if a < b then 1 else 0)) H:=q
  split
  ·rename_i c; rw [if_pos c] at q; exact q
  ·rename_i c; rw [if_neg c] at q; exact q
 rename_i n5
 refine⟨_,eqW w .same,?_⟩
 split
 ·rename_i e; cases of_decide_eq_true e
  have q:Q (.int (if a=b then 1 else 0)) H:=q
  split
  ·rename_i c; rw [if_pos c] at q; exact q
  ·rename_i c; rw [if_neg c] at q; exact q
 rename_i n6
 refine⟨_,eqW w .min,?_⟩
 split
 ·rename_i e; cases of_decide_eq_true e; exact⟨_,_,⟨rfl,rfl⟩,q⟩
 rename_i n7
 have e:w=.max:=by
  cases w<;>first | rfl | exact absurd rfl (by assumption)
 cases e
 exact⟨_,_,⟨rfl,rfl⟩,q⟩
theorem zop{k:Nat}{n1 n2 n3 n4:Str}:FnOk P w K mg base CX0 k f fd [n1,n2,n3,n4] (z64 0):=by
 have no:∀vs H Q E,¬ z64 0 vs H Q E:=fun vs H Q E h=>by
  obtain⟨v,t,pv,p,d,f,c,g,lo,_,_,_,h,_⟩:=h
  exact h.elim
 exact⟨fun vs H Q E h=>absurd h (no vs H Q E),fun A outer s H args us vs Q E _ _ _ _ h=>absurd h (no vs H Q E)⟩
theorem zoz{H:Hp}{x z:Str}:q59 K (.str x) (.str z) H (decide (x=z)):=.inl ⟨rfl,by simp⟩
theorem zxd{t:T} (h:t.word = "num"):∃i,t=.num i:=by
 cases t with
 | num i=>exact⟨i,rfl⟩
 | nm x=>exact absurd h (show ¬ ("name" : Str) = "num" by decide+kernel)
 | op w a b=>exact absurd h (show ¬ w.str = "num" by cases w<;>decide+kernel)
theorem ztc{t:T} (h:t.word = "name"):∃x,t=.nm x:=by
 cases t with
 | num i=>exact absurd h (show ¬ ("num" : Str) = "name" by decide+kernel)
 | nm x=>exact⟨x,rfl⟩
 | op w a b=>exact absurd h (show ¬ w.str = "name" by cases w<;>decide+kernel)
theorem q05{t:T} (h1:¬ t.word = "num") (h2:¬ t.word = "name"):∃w a b,t=.op w a b:=by
 cases t with
 | num i=>exact absurd rfl h1
 | nm x=>exact absurd rfl h2
 | op w a b=>exact⟨w,a,b,rfl⟩
theorem zfw{H:Hp}{v:V}{r:Rs}(h:Dt H v r.enc):∃a,v=.ref a/\((∃i,r=.had i/\H a=some (.tup [.str "had",.int i]))\/∃u q y,r=.ref u q/\H a=some (.tup [.str "refused",.str u,y])):=by
 cases r with
 | had i=>
  rw [Rs.enc] at h
  obtain⟨a,x0,x1,rfl,ha,t0,t1⟩:=zjn h
  cases t0; cases t1
  exact⟨a,rfl,.inl ⟨i,rfl,ha⟩⟩
 | ref u q=>
  rw [Rs.enc] at h
  obtain⟨a,x0,x1,x2,rfl,ha,t0,t1,t2⟩:=zr6 h
  cases t0; cases t1
  exact⟨a,rfl,.inr ⟨u,q,x2,rfl,ha⟩⟩
theorem z8b:¬ ("had" : Str) = "refused":=by decide+kernel
theorem zuy{n:Nat} (F:Fun K "reckon" "reckon" z3r f fd) (c_worth_of:Callee P w K mg base "worth_of" ["word","one","other"] 1 znu) (c_settled:Callee P w K mg base "settled" ["worth","path","rows"] 1 z6o) (c_reckon:Callee P w K mg base "reckon" ["term","path","names","settle"] (n+2) (z64 n)):FnOk P w K mg base CX0 (n+3) f fd ["term","path","names","settle"] (z64 (n+1)):=by
 refine F.ok sc_reckon (fun vs H Q E h=>?_) (fun cdv A outer s H vs Q E hr h=>?_)
 ·obtain⟨v,t,pv,p,d,f,c,g,lo,rfl,_⟩:=h
  rfl
 obtain⟨v,t,pv,p,d,fs,c,g,lo,rfl,hv,hp,hok,hn,hpl,hd,hh,hS,hL,q⟩:=h
 obtain⟨va,y,tx,rfl,hva⟩:=zph hv
 refine⟨_,(z06 (z32 (z0g (gEq hr.units) (z0z z0n (z00 (i:=0) rfl z1z z3x z3z) z03 (fun _ _=>rfl)) z0m (z0s _)) (z0a (z0h (zgz (i:=3) (k:=2) rfl z2e hr (by omega) (z09 (z0z z0n (z00 (i:=0) rfl z1z z3x z3z) z03 (fun _ _=>rfl)) (z09 (z00 (i:=1) rfl z2z z19 z1b) z04)) z22 z23))) z0x)
 (z06 (z32 (z0g (gEq hr.units) (z0z z0n (z00 (i:=0) rfl z1z z3x z3z) z03 (fun _ _=>rfl)) z0m (z0s _)) (z0a (z0h (zgz (i:=3) (k:=2) rfl z2e hr (by omega) (z09 (q0t hr.units1 (z00 (i:=2) rfl z5r z2l z2m) (z0z z0n (z00 (i:=0) rfl z1z z3x z3z) z03 (fun _ _=>rfl)) (fun _ _=>rfl)) (z09 (z00 (i:=1) rfl z2z z19 z1b) z04)) z22 z23))) z0x)
 (z06 (z1g (i:=4) sc_reckon.nd rfl ziw (z18 c_reckon hr (by omega) (z09 (z0z z0n (z00 (i:=0) rfl z1z z3x z3z) z03 (fun _ _=>rfl)) (z09 (z0r z3d (z00 (i:=1) rfl z2z z19 z1b) (z13 (z09 z03 z04))) (z09 (z00 (i:=2) rfl z5r z2l z2m) (z09 (z00 (i:=3) rfl z2e z22 z23) z04)))) za0 zba) (z05 rfl))
 (z06 (z32 (z0g (gEq hr.units) (z0z z0n (z00 (i:=4) rfl z7h zbb zbk) z03 (fun _ _=>rfl)) z0m (z0s _)) (z0a (z0h (z00 (i:=4) rfl z7h zbb zbk))) z0x)
 (z06 (z1g (i:=5) sc_reckon.nd rfl zgf (z18 c_reckon hr (by omega) (z09 (z0z z0n (z00 (i:=0) rfl z1z z3x z3z) z03 (fun _ _=>rfl)) (z09 (z0r z3d (z00 (i:=1) rfl z2z z19 z1b) (z13 (z09 z03 z04))) (z09 (z00 (i:=2) rfl z5r z2l z2m) (z09 (z00 (i:=3) rfl z2e z22 z23) z04)))) za0 zba) (z05 rfl))
 (z06 (z32 (z0g (gEq hr.units) (z0z z0n (z00 (i:=5) rfl z4c z4d z4e) z03 (fun _ _=>rfl)) z0m (z0s _)) (z0a (z0h (z00 (i:=5) rfl z4c z4d z4e))) z0x)
 (z06 (z32 (PW.pt (zud (z0g (gEq hr.units) (z0z z0n (z00 (i:=0) rfl z1z z3x z3z) z03 (fun _ _=>rfl)) z0m (z0s _)) (zo9 (z0g zds (z0z z0n (z00 (i:=5) rfl z4c z4d z4e) z03 (fun _ _=>rfl)) z03 (z0s _))))) (z0a (z0h (zgz (i:=3) (k:=2) rfl z2e hr (by omega) (z09 zfx (z09 (z00 (i:=1) rfl z2z z19 z1b) z04)) z22 z23))) z0x)
 (z0a (z0h (zgz (i:=3) (k:=2) rfl z2e hr (by omega) (z09 (z18 c_worth_of hr (by omega) (z09 (z0z z0n (z00 (i:=0) rfl z1z z3x z3z) z03 (fun _ _=>rfl)) (z09 (z0z z0n (z00 (i:=4) rfl z7h zbb zbk) z03 (fun _ _=>rfl)) (z09 (z0z z0n (z00 (i:=5) rfl z4c z4d z4e) z03 (fun _ _=>rfl)) z04))) ze7 zp2) (z09 (z00 (i:=1) rfl z2z z19 z1b) z04)) z22 z23)))))))))),z0j fun N1 e1=>?_⟩
 walk_at "rd7"
 refine⟨_,SqT.of hva,_,z1v,_,zoz,?_⟩
 split
 ·rename_i hw
  obtain⟨i,rfl⟩:=zxd (of_decide_eq_true hw)
  rw [T.enc] at hv
  obtain⟨a2,x0,x1,ea,ha2,t0,t1⟩:=zjn hv
  cases ea
  cases t1
  rw [ha2] at hva
  cases hva
  rw [evT] at hL q
  refine⟨hS.lam,_,SqT.of ha2,_,z24 (j:=1) rfl,hS.lam,?_⟩
  exact zf8 c_settled hS (hL.mono (by simp)) hp q
 rename_i hw1
 rw [e1]
 refine z0j fun N2 e2=>?_
 walk_at "rd7"
 refine⟨_,SqT.of hva,_,z1v,_,zoz,?_⟩
 split
 ·rename_i hw
  obtain⟨x,rfl⟩:=ztc (of_decide_eq_true hw)
  rw [T.enc] at hv
  obtain⟨a2,x0,x1,ea,ha2,t0,t1⟩:=zjn hv
  cases ea
  cases t1
  rw [ha2] at hva
  cases hva
  rw [evT] at hL q
  obtain⟨w,hw2,_⟩:=hh x hok
  rw [hw2] at hL q
  have hg:DGet H d (.str x) (some (.int w)):=by
   have:=DGet.k (k:=Sum.inr x) hd
   rw [zte,hw2] at this
   exact this
  refine⟨hS.lam,_,SqT.of ha2,_,z24 (j:=1) rfl,_,hg,hS.lam,?_⟩
  exact zf8 c_settled hS (hL.mono (by simp)) hp q
 rename_i hw2
 obtain⟨wd,ta,tb,rfl⟩:=q05 (fun z=>hw1 (decide_eq_true z)) fun z=>hw2 (decide_eq_true z)
 rw [e2]
 refine z0j fun N3 e3=>?_
 walk_at "rd7"
 have hv0:=hv
 rw [T.enc] at hv
 obtain⟨a2,x0,xa,xb,ea,ha2,t0,da,db⟩:=zr6 hv
 cases ea
 cases t0
 clear hva
 refine⟨_,SqT.of ha2,_,z24 (j:=1) rfl,by decide,fun p1 h1=>?_⟩
 have s1:=z02 h1 (HO.tup [V.int 0])
 refine zqx (hp.kp s1.kp) zdr (by simp; omega) fun z H1 s2 dz=>?_
 have s12:=s1.trans s2
 have l1:=q0z c wd ta tb p
 refine⟨xa,ta,z,_,d,fs,c,g,lo,rfl,da.kp s12.kp,dz,hok.1,by omega,by simp; omega,s12 _ _ hd,hh,hS.kp (Same.kpE s12),(hL.same s12).mono (by omega),fun r1 H2 g1 dr1=>?_⟩
 have G1:Gr lo H H2 (evT c ta (p++[0])).2:=(Gr.same s12 hL).trans g1
 clear g1 s1 s2 s12
 obtain⟨b1,rfl,hb1⟩:=zfw dr1
 rcases he1:evT c ta (p++[0]) with⟨r1,w1⟩
 rw [he1] at G1 dr1 hb1
 rw [e3]
 refine z0j fun N4 e4=>?_
 walk_at "rd7"
 rcases hb1 with⟨i1,rfl,hb1⟩ | ⟨u,qq,y1,rfl,hb1⟩
 rotate_left
 ·refine⟨_,SqT.of hb1,_,z1v,_,zoz,?_⟩
  rw [if_pos (decide_eq_true rfl)]
  rw [zur he1] at q
  exact q _ _ G1 dr1
 refine⟨_,SqT.of hb1,_,z1v,_,zoz,?_⟩
 rw [if_neg (by rw [decide_eq_true_eq]; exact z8b)]
 have ha3:=G1.keep ha2 (by intro xs z; cases z)
 have hd3:=G1.keep hd (by intro xs z; cases z)
 have hp3:=hp.kp G1.kp
 have db3:=db.kp G1.kp
 have hS3:=hS.kp G1.kpE
 have l2:=q0y (w:=wd) (b:=tb) he1
 have hL3:HasL lo H2 ((evT c tb (p++[1])).2.length+1):=hL.on G1 (by show w1.length+_<=_; omega)
 rw [e4]
 refine z0j fun N5 e5=>?_
 walk_at "rd7"
 refine⟨_,SqT.of ha3,_,z24 (j:=2) rfl,by decide,fun p2 h2=>?_⟩
 have s3:=z02 h2 (HO.tup [V.int 1])
 refine zqx (hp3.kp s3.kp) zdr (by simp; omega) fun z2 H3 s4 dz2=>?_
 have s34:=s3.trans s4
 refine⟨xb,tb,z2,_,d,fs,c,g,lo,rfl,db3.kp s34.kp,dz2,hok.2,by omega,by simp; omega,s34 _ _ hd3,hh,hS3.kp (Same.kpE s34),hL3.same s34,fun r2 H4 g2 dr2=>?_⟩
 have G2:Gr lo H2 H4 (evT c tb (p++[1])).2:=(Gr.same s34 hL3).trans g2
 clear g2 s3 s4 s34
 obtain⟨b2,rfl,hb2⟩:=zfw dr2
 rcases he2:evT c tb (p++[1]) with⟨r2,w2⟩
 rw [he2] at G2 dr2 hb2 hL3
 have hb14:=G2.keep hb1 (by intro xs z; cases z)
 have ha4:=G2.keep ha3 (by intro xs z; cases z)
 have hp4:=hp3.kp G2.kp
 have hS4:=hS3.kp G2.kpE
 have G12:=G1.trans G2
 rw [e5]
 refine z0j fun N6 e6=>?_
 walk_at "rd7"
 rcases hb2 with⟨i2,rfl,hb2⟩ | ⟨u,qq,y1,rfl,hb2⟩
 rotate_left
 ·refine⟨_,SqT.of hb2,_,z1v,_,zoz,?_⟩
  rw [if_pos (decide_eq_true rfl)]
  rw [zk8 he1 he2] at q
  exact q _ _ G12 dr2
 refine⟨_,SqT.of hb2,_,z1v,_,zoz,?_⟩
 rw [if_neg (by rw [decide_eq_true_eq]; exact z8b)]
 have hL4:HasL lo H4 1:=hL3.on G2 (Nat.le_refl _)
 have hw2:=zvx tb (p++[1]) he2
 rw [e6]
 refine z0j fun N7 e7=>?_
 walk_at "rd7"
 refine⟨_,SqT.of ha4,_,z1v,_,zoz,?_⟩
 have last:(wd=.quo->i2≠0)->N7 [some (V.ref va),some pv,some (V.ref d),some (V.ref fs),some (V.ref b1),some (V.ref b2)] H4:=fun hq=>by
  rw [e7]
  walk_at "rd7"
  rw [zq2 he1 he2 (fun z=>hq z.1 z.2)] at q
  refine⟨hS4.lam,_,SqT.of ha4,_,z1v,_,SqT.of hb14,_,z24 (j:=1) rfl,_,SqT.of hb2,_,z24 (j:=1) rfl,wd,i1,i2,rfl,hq,by omega,?_⟩
  refine⟨hS4.lam,zf8 c_settled hS4 hL4 hp4 fun r H' g dr=>q r H' (G12.trans g) dr⟩
 split
 ·rename_i hq
  have hq':wd=.quo:=by
   have:=of_decide_eq_true hq
   cases wd<;>first | rfl | exact absurd this (by decide+kernel)
  subst hq'
  refine⟨_,SqT.of hb2,_,z24 (j:=1) rfl,_,rfl,?_⟩
  split
  ·rename_i hz
   subst hz
   rw [zk7 he1 he2] at q
   refine⟨hS4.lam,hS4.lam,zo3 c_settled hS4 hL4 hp4 fun r H' g dr=>q r H' ?_ dr⟩
   have:=G12.trans g
   rw [List.append_nil] at this
   exact this
  ·rename_i hz
   exact last fun _=>hz
 ·rename_i hq
  exact last fun z=>absurd (decide_eq_true (by rw [z]; rfl)) hq
theorem zjl(d:Df K mg "reckon" z3r ["term","path","names","settle"] f fd) (c_worth_of:Callee P w K mg base "worth_of" ["word","one","other"] 1 znu) (c_settled:Callee P w K mg base "settled" ["worth","path","rows"] 1 z6o):∀n:Nat,Callee P w K mg base "reckon" ["term","path","names","settle"] (n+2) (z64 n)
 | 0=>d.callee zop
 | n+1=>d.callee (zuy d.F c_worth_of c_settled (zjl d c_worth_of c_settled n))
end
section
variable{P:Program}{w:World}{K:PySem.W.Frag}{mg:Str->Option Value}{base:Heap}{f:Addr}{fd:FuncData}
def Gd(d:Addr)(lo:Option Addr)(H H':Hp)(rs:List RI):Prop:=(∀a o,a≠d->some a≠lo->H a=some o->H' a=some o)/\∀l,lo=some l->∃xs ys,H l=some (.lst xs)/\H' l=some (.lst (xs++ys))/\DtA H' ys (rs.map rowI)
theorem Gr.gd{d:Addr}{lo:Option Addr}{H H':Hp}{rs:List RI}(h:Gr lo H H' rs):Gd d lo H H' rs:=⟨fun a o _ n e=>h.1 a o n e,h.2⟩
theorem Gd.keep{d:Addr}{lo:Option Addr}{H H':Hp}{rs:List RI}{k:List (Key×V)}(h:Gd d lo H H' rs)(hd:H d=some (.dK k)){a:Addr}{o:HO}(e:H a=some o)(n1:∀xs,o≠.lst xs)(n2:∀k,o≠.dK k):H' a=some o:=h.1 a o (fun z=>by
 rw [z,hd] at e
 cases e
 exact n2 _ rfl) (fun z=>by
 obtain⟨xs,ys,e1,_⟩:=h.2 a z.symm
 rw [e1] at e
 cases e
 exact n1 _ rfl) e
theorem Gd.kp{d:Addr}{lo:Option Addr}{H H':Hp}{rs:List RI}{k:List (Key×V)}(h:Gd d lo H H' rs)(hd:H d=some (.dK k)):Kp H H':=by
 refine⟨fun b xs e=>h.keep hd e (fun _ z=>by cases z) (fun _ z=>by cases z),fun b xs e=>?_⟩
 by_cases hb:some b=lo
 ·obtain⟨xs',ys,e1,e2,_⟩:=h.2 b hb.symm
  exact⟨_,e2⟩
 ·exact⟨xs,h.1 b _ (fun z=>by rw [z,hd] at e; cases e) hb e⟩
theorem Gd.kpE{d:Addr}{lo:Option Addr}{H H':Hp}{rs:List RI}{k:List (Key×V)}(h:Gd d lo H H' rs)(hd:H d=some (.dK k)):KpE H H':=fun a φ e=>h.keep hd e (fun _ z=>by cases z) fun _ z=>by cases z
theorem Gd.trans{d:Addr}{lo:Option Addr}{H H1 H2:Hp}{r1 r2:List RI}{k:List (Key×V)}(a:Gd d lo H H1 r1)(b:Gd d lo H1 H2 r2)(hd:H1 d=some (.dK k)):Gd d lo H H2 (r1++r2):=by
 refine⟨fun x o n1 n2 e=>b.1 x o n1 n2 (a.1 x o n1 n2 e),fun l hl=>?_⟩
 obtain⟨xs,ys,e1,e2,d1⟩:=a.2 l hl
 obtain⟨xs',zs,f1,f2,d2⟩:=b.2 l hl
 rw [e2] at f1
 cases f1
 exact⟨xs,ys++zs,e1,by rw [f2,List.append_assoc],by rw [List.map_append]; exact(d1.kp (b.kp hd)).append d2⟩
theorem Gd.put{d:Addr}{lo:Option Addr}{H H':Hp}{rs:List RI}{k:List (Key×V)}{e:List (Key×V)}(h:Gr lo H H' rs)(hd:H' d=some (.dK k)):Gd d lo H (upd H' d (.dK e)) rs:=by
 refine⟨fun a o n1 n2 z=>by rw [z0b n1]; exact h.1 a o n2 z,fun l hl=>?_⟩
 obtain⟨xs,ys,e1,e2,d1⟩:=h.2 l hl
 exact⟨xs,ys,e1,by rw [z0b fun z=>by rw [z,hd] at e2; cases e2]; exact e2,d1.kp (zvd hd)⟩
theorem HasL.onD{d:Addr}{lo:Option Addr}{H H':Hp}{rs:List RI}{n m:Nat}(h:HasL lo H n)(g:Gd d lo H H' rs)(k:rs.length+m<=n):HasL lo H' m:=fun l hl=>by
 obtain⟨xs,e,z⟩:=h l hl
 obtain⟨xs',ys,e1,e2,d⟩:=g.2 l hl
 rw [e] at e1
 cases e1
 have:=d.length
 rw [List.length_map] at this
 exact⟨_,e2,by rw [List.length_append]; omega⟩
def KeyOk(c:Cnt):Prop:=(c.map (·.1)).Nodup/\∀p∈c,p.1∈pool
theorem KeyOk.put{c:Cnt}(h:KeyOk c){x:Str}(hx:x∈pool)(v:Int):KeyOk (zk0 c x v):=by
 refine⟨?_,fun p hp=>?_⟩
 ·rw [zgy]
  split
  ·exact h.1
  ·rename_i hn
   exact List.nodup_append.mpr ⟨h.1,by simp,fun a ha b hb e=>hn (by rw [List.mem_singleton] at hb; rw [<- hb,<- e]; exact ha)⟩
 ·have hm:p.1∈(zk0 c x v).map (·.1):=List.mem_map.mpr ⟨p,hp,rfl⟩
  rw [zgy] at hm
  split at hm
  ·obtain⟨q,hq,e⟩:=List.mem_map.mp hm
   rw [<- e]; exact h.2 q hq
  ·rcases List.mem_append.mp hm with hm | hm
   ·obtain⟨q,hq,e⟩:=List.mem_map.mp hm
    rw [<- e]; exact h.2 q hq
   ·rw [List.mem_singleton] at hm
    rw [hm]; exact hx
theorem KeyOk.len{c:Cnt}(h:KeyOk c):c.length<=4:=by
 have:=zdu (c.map (·.1)) pool h.1 fun x hx=>by
  obtain⟨q,hq,e⟩:=List.mem_map.mp hx
  rw [<- e]; exact h.2 q hq
 rw [List.length_map] at this
 exact this
theorem zkj:∀(c:Cnt) (x:Str) (v:Int),zer (zk0 c x v) x=some v:=by
 intro c x v
 unfold zk0
 split
 ·rename_i h
  induction c with
  | nil=>simp at h
  | cons p c ih=>
   by_cases e:p.1=x
   ·simp[zer,e]
   ·have h':(c.any fun p=>decide (p.1=x))=true:=by simpa [e] using h
    have:=ih h'
    unfold zer at this |-
    rw [List.map_cons,if_neg e,List.find?_cons]
    simpa [e] using this
 ·rename_i h
  have hn:∀p∈c,p.1≠x:=fun p hp e=>h (List.any_eq_true.mpr ⟨p,hp,decide_eq_true e⟩)
  unfold zer
  rw [List.find?_append,List.find?_eq_none.mpr (fun p hp=>by simpa using hn p hp)]
  simp
theorem zox:∀(c:Cnt) {x y:Str} (v:Int),y≠x->zer (zk0 c x v) y=zer c y:=by
 intro c x y v hne
 unfold zk0
 split
 ·rename_i hany
  clear hany
  induction c with
  | nil=>rfl
  | cons p c ih=>
   unfold zer at ih |-
   rw [List.map_cons,List.find?_cons,List.find?_cons]
   by_cases e:p.1=x
   ·rw [if_pos e]
    have:¬ p.1=y:=fun z=>hne (z.symm.trans e)
    simpa [this] using ih
   ·rw [if_neg e]
    by_cases e2:p.1=y
    ·simp[e2]
    ·simpa [e2] using ih
 ·unfold zer
  rw [List.find?_append]
  cases hf:c.find? fun p=>decide (p.1=y) with
  | none=>simp[Ne.symm hne]
  | some q=>simp
theorem Has.put{c:Cnt}{g:List Str}(h:Has c g){x:Str}{v:Int}(h1 : -32768<=v)(h2:v<=32767):Has (zk0 c x v) (g++[x]):=fun y hy=>by
 by_cases e:y=x
 ·rw [e,zkj]
  exact⟨v,rfl,h1,h2⟩
 ·rw [zox c v e]
  rcases List.mem_append.mp hy with hy | hy
  ·exact h y hy
  ·exact absurd (List.mem_singleton.mp hy) e
theorem Has.sub{c:Cnt}{g g':List Str}(h:Has c g)(s:Sub g' g):Has c g':=fun x hx=>h x (s x hx)
theorem zdt{g:List Str}:∀{n:Nat} {t:T},T.ok pool n t->t.knows g=true->T.ok g n t
 | 0,_,h,_=>h.elim
 | n+1,.num i,h,_=>h
 | n+1,.nm x,h,k=>show x∈g by simpa [T.knows] using k
 | n+1,.op w a b,h,k=>by
  rw [T.knows,Bool.and_eq_true] at k
  exact⟨zdt h.1 k.1,zdt h.2 k.2⟩
mutual
theorem q1e:∀(d:D) (p q:List Str),kbD p d=some q->Sub p q
 | .set x t,p,q,h=>by
  rw [kbD] at h
  split at h
  ·cases h
   exact fun y hy=>List.mem_append_left _ hy
  ·cases h
 | .ite t b c,p,q,h=>by
  rw [kbD] at h
  split at h
  ·cases hb:kbB p b with
   | none=>rw [hb] at h; cases h
   | some q1=>
    cases hc:kbB p c with
    | none=>rw [hb,hc] at h; cases h
    | some q2=>
     rw [hb,hc] at h
     cases h
     exact fun y hy=>List.mem_filter.mpr ⟨zhs b p q1 hb y hy,by simpa using zhs c p q2 hc y hy⟩
  ·cases h
 | .whl t m b,p,q,h=>by
  rw [kbD] at h
  split at h
  ·cases hb:kbB p b with
   | none=>rw [hb] at h; cases h
   | some q1=>
    rw [hb] at h
    cases h
    exact Sub.refl p
  ·cases h
theorem zhs:∀(b:List D) (p q:List Str),kbB p b=some q->Sub p q
 | [],p,q,h=>by
  rw [kbB] at h
  cases h
  exact Sub.refl p
 | d::r,p,q,h=>by
  rw [kbB] at h
  cases hd:kbD p d with
  | none=>rw [hd] at h; cases h
  | some q1=>
   rw [hd] at h
   exact(q1e d p q1 hd).trans (zhs r q1 q h)
end
end
section
variable{P:Program}{w:World}{K:PySem.W.Frag}{mg:Str->Option Value}{base:Heap}{f:Addr}{fd:FuncData}
def q5s(o:Option Ref)(H':Hp)(r:V):Prop:=match o with
 | none=>r=.non
 | some e=>Dt H' r (Rs.ref e.1 e.2).enc
def zo0(n:Nat):Sp:=fun vs H Q _=>∃(v:V) (b:List D) (pv:V) (p:List Int) (d f:Addr) (c:Cnt) (g g':List Str) (lo:Option Addr),vs=[v,pv,.ref d,.ref f]/\Dt H v (.tup (encB b))/\Dt H pv (z25 p)/\okW n b/\n<=4/\p.length+2 * n<=90/\kbB g b=some g'/\H d=some (.dK (kvC c))/\KeyOk c/\Has c g/\SetOk f lo H/\HasL lo H ((evB p 0 b c).2.2.length+1)/\
 ∀(r:V) (H':Hp),Gd d lo H H' (evB p 0 b c).2.2->H' d=some (.dK (kvC (evB p 0 b c).2.1))->q5s (evB p 0 b c).1 H' r->Q r H'
def zlj(ks:List Str)(n:Nat):Sp:=fun vs H Q _=>∃(v:V) (e:D) (pv:V) (p:List Int) (d f:Addr) (c:Cnt) (g g':List Str) (lo:Option Addr),vs=[v,pv,.ref d,.ref f]/\e.kind∈ks/\Dt H v e.enc/\Dt H pv (z25 p)/\q6j n e/\n<=3/\p.length+2 * n<=89/\kbD g e=some g'/\H d=some (.dK (kvC c))/\KeyOk c/\Has c g/\SetOk f lo H/\HasL lo H ((evD p e c).2.2.length+1)/\
 ∀(r:V) (H':Hp),Gd d lo H H' (evD p e c).2.2->H' d=some (.dK (kvC (evD p e c).2.1))->q5s (evD p e c).1 H' r->Q r H'
theorem zjt{c:Cnt}{x:Str}{t:T}{p:List Int}{u:Str}{q:List Int}{r:List RI}(h:evT c t (p++[0])=(.ref u q,r)):evD p (.set x t) c=(some (u,q),c,r):=by rw [evD,h]
theorem zju{c:Cnt}{x:Str}{t:T}{p:List Int}{v:Int}{r:List RI}(h:evT c t (p++[0])=(.had v,r)):evD p (.set x t) c=(none,zk0 c x v,r):=by rw [evD,h]
theorem ztx(c:Cnt)(x:Str)(t:T)(p:List Int):(evD p (.set x t) c).2.2=(evT c t (p++[0])).2:=by
 rcases h:evT c t (p++[0]) with⟨r,w⟩
 cases r with
 | had v=>rw [zju h]
 | ref u q=>rw [zjt h]
theorem zhu{c:Cnt}{t:T}{b b2:List D}{p:List Int}{u:Str}{q:List Int}{r:List RI}(h:evT c t (p++[0])=(.ref u q,r)):evD p (.ite t b b2) c=(some (u,q),c,r):=by rw [evD,h]
theorem zht{c:Cnt}{t:T}{b b2:List D}{p:List Int}{v:Int}{r:List RI}(h:evT c t (p++[0])=(.had v,r))(hv:v≠0):evD p (.ite t b b2) c=((evB (p++[1]) 0 b c).1,(evB (p++[1]) 0 b c).2.1,r++(evB (p++[1]) 0 b c).2.2):=by rw [evD,h]; simp[hv]
theorem zmg{c:Cnt}{t:T}{b b2:List D}{p:List Int}{r:List RI}(h:evT c t (p++[0])=(.had 0,r)):evD p (.ite t b b2) c=((evB (p++[2]) 0 b2 c).1,(evB (p++[2]) 0 b2 c).2.1,r++(evB (p++[2]) 0 b2 c).2.2):=by rw [evD,h]; simp
theorem q1g(c:Cnt)(t:T)(b b2:List D)(p:List Int):(evT c t (p++[0])).2.length<=(evD p (.ite t b b2) c).2.2.length:=by
 rcases h:evT c t (p++[0]) with⟨r,w⟩
 cases r with
 | ref u q=>rw [zhu h]; exact Nat.le_refl _
 | had v=>
  by_cases hv:v=0
  ·subst hv
   rw [zmg h]
   simp
  ·rw [zht h hv]
   simp
theorem zvg{g g':List Str}{t:T}{b b2:List D}(h:kbD g (.ite t b b2)=some g'):t.knows g=true/\(∃q,kbB g b=some q)/\∃q,kbB g b2=some q:=by
 rw [kbD] at h
 split at h
 ·rename_i hk
  cases hb:kbB g b with
  | none=>rw [hb] at h; cases h
  | some q1=>
   cases hc:kbB g b2 with
   | none=>rw [hb,hc] at h; cases h
   | some q2=>exact⟨hk,⟨q1,rfl⟩,q2,rfl⟩
 ·cases h
theorem zzu{g g':List Str}{t:T}{m:Int}{b:List D}(h:kbD g (.whl t m b)=some g'):t.knows g=true/\g'=g/\∃q,kbB g b=some q:=by
 rw [kbD] at h
 split at h
 ·rename_i hk
  cases hb:kbB g b with
  | none=>rw [hb] at h; cases h
  | some q1=>
   rw [hb] at h
   cases h
   exact⟨hk,rfl,q1,rfl⟩
 ·cases h
theorem zyl{cond:Cnt->Rs×List RI}{body:Cnt->Out}{p:List Int}(Pv:Cnt->Prop)(hb:∀c,Pv c->Pv (body c).2.1):∀(k:Nat) (c:Cnt),Pv c->Pv (z4w cond body p k c).2.1:=by
 intro k
 induction k with
 | zero=>
  intro c h
  rw [z4w]
  rcases cond c with⟨r,w⟩
  cases r with
  | ref u q=>exact h
  | had v=>by_cases hv:v=0<;>simp[hv,h]
 | succ k ih=>
  intro c h
  rw [z4w]
  rcases cond c with⟨r,w⟩
  cases r with
  | ref u q=>exact h
  | had v=>
   by_cases hv:v=0
   ·simp[hv,h]
   ·have h1:=hb c h
    rcases hbc:body c with⟨e,c1,r1⟩
    rw [hbc] at h1
    cases e with
    | some e=>simp[hv,hbc,h1]
    | none=>
     have h2:=ih c1 h1
     simp only[hv,if_false,hbc]
     exact h2
theorem zv4{cond:Cnt->Rs×List RI}{body:Cnt->Out}{p:List Int}(Pv:Cnt->Prop)(hb:∀c,Pv c->(body c).1=none->Pv (body c).2.1):∀(k:Nat) (c:Cnt),Pv c->(z4w cond body p k c).1=none->Pv (z4w cond body p k c).2.1:=by
 intro k
 induction k with
 | zero=>
  intro c h
  rw [z4w]
  rcases cond c with⟨r,w⟩
  cases r with
  | ref u q=>exact fun _=>h
  | had v=>by_cases hv:v=0<;>simp[hv,h]
 | succ k ih=>
  intro c h
  rw [z4w]
  rcases cond c with⟨r,w⟩
  cases r with
  | ref u q=>exact fun _=>h
  | had v=>
   by_cases hv:v=0
   ·simp[hv,h]
   ·have h1:=hb c h
    rcases hbc:body c with⟨e,c1,r1⟩
    rw [hbc] at h1
    cases e with
    | some e=>simp[hv,hbc]
    | none=>
     have h2:=ih c1 (h1 rfl)
     simp only[hv,if_false,hbc]
     exact h2
mutual
theorem zvy:∀(e:D) (n:Nat) (p:List Int) (c:Cnt),q6j n e->KeyOk c->KeyOk (evD p e c).2.1
 | .set x t,n,p,c,h,k=>by
  rcases he:evT c t (p++[0]) with⟨r,w⟩
  cases r with
  | ref u q=>rw [zjt he]; exact k
  | had v=>rw [zju he]; exact k.put h.1 v
 | .ite t b b2,n,p,c,h,k=>by
  rcases he:evT c t (p++[0]) with⟨r,w⟩
  cases r with
  | ref u q=>rw [zhu he]; exact k
  | had v=>
   by_cases hv:v=0
   ·subst hv
    rw [zmg he]
    exact zfq b2 n (p++[2]) 0 c h.2.2 k
   ·rw [zht he hv]
    exact zfq b n (p++[1]) 0 c h.2.1 k
 | .whl t m b,n,p,c,h,k=>by
  rw [evD]
  exact zyl KeyOk (fun c1 k1=>zfq b n (p++[1]) 0 c1 h.2 k1) _ c k
theorem zfq:∀(b:List D) (n:Nat) (p:List Int) (i:Int) (c:Cnt),okW n b->KeyOk c->KeyOk (evB p i b c).2.1
 | [],n,p,i,c,h,k=>by rw [evB]; exact k
 | e::r,0,p,i,c,h,k=>h.elim
 | e::r,n+1,p,i,c,h,k=>by
  have h1:=zvy e n (p++[i]) c (h.2 e (.head _)) k
  rw [evB]
  rcases he:evD (p++[i]) e c with⟨o,c1,w⟩
  rw [he] at h1
  cases o with
  | some u=>exact h1
  | none=>exact zfq r (n+1) p (i+1) c1 ⟨by have:=h.1; rw [List.length_cons] at this; omega,fun d hd=>h.2 d (.tail _ hd)⟩ h1
end
mutual
theorem zvz:∀(e:D) (p:List Int) (c:Cnt) (g g':List Str),kbD g e=some g'->Has c g->(evD p e c).1=none->Has (evD p e c).2.1 g'
 | .set x t,p,c,g,g',hk,h=>by
  rcases he:evT c t (p++[0]) with⟨r,w⟩
  cases r with
  | ref u q=>rw [zjt he]; exact fun z=>by cases z
  | had v=>
   rw [zju he]
   intro _
   rw [kbD] at hk
   split at hk
   ·cases hk
    have:=zvx t (p++[0]) he
    exact h.put this.1 this.2
   ·cases hk
 | .ite t b b2,p,c,g,g',hk,h=>by
  rcases he:evT c t (p++[0]) with⟨r,w⟩
  cases r with
  | ref u q=>rw [zhu he]; exact fun z=>by cases z
  | had v=>
   obtain⟨_,⟨q1,h1⟩,q2,h2⟩:=zvg hk
   have sub:Sub g' q1/\Sub g' q2:=by
    have hkt:=(zvg hk).1
    rw [kbD,if_pos hkt,h1,h2] at hk
    cases hk
    exact⟨fun x hx=>(List.mem_filter.mp hx).1,fun x hx=>by simpa using(List.mem_filter.mp hx).2⟩
   by_cases hv:v=0
   ·subst hv
    rw [zmg he]
    exact fun z=>(zi4 b2 (p++[2]) 0 c g q2 h2 h z).sub sub.2
   ·rw [zht he hv]
    exact fun z=>(zi4 b (p++[1]) 0 c g q1 h1 h z).sub sub.1
 | .whl t m b,p,c,g,g',hk,h=>by
  obtain⟨_,rfl,q1,h1⟩:=zzu hk
  rw [evD]
  exact zv4 (fun c=>Has c g') (fun c1 k1 z=>(zi4 b (p++[1]) 0 c1 g' q1 h1 k1 z).sub (zhs b g' q1 h1)) _ c h
theorem zi4:∀(b:List D) (p:List Int) (i:Int) (c:Cnt) (g g':List Str),kbB g b=some g'->Has c g->(evB p i b c).1=none->Has (evB p i b c).2.1 g'
 | [],p,i,c,g,g',hk,h=>by
  rw [kbB] at hk
  cases hk
  rw [evB]
  exact fun _=>h
 | e::r,p,i,c,g,g',hk,h=>by
  rw [kbB] at hk
  cases hd:kbD g e with
  | none=>rw [hd] at hk; cases hk
  | some q1=>
   rw [hd] at hk
   have h1:=zvz e (p++[i]) c g q1 hd h
   rw [evB]
   rcases he:evD (p++[i]) e c with⟨o,c1,w⟩
   rw [he] at h1
   cases o with
   | some u=>exact fun z=>by cases z
   | none=>exact zi4 r p (i+1) c1 q1 g' hk (h1 rfl)
end
def zno(rs:List RI)(o:Out):Out:=(o.1,o.2.1,rs++o.2.2)
theorem zdz{cond:Cnt->Rs×List RI}{body:Cnt->Out}{p:List Int}{k:Nat}{c:Cnt}{u:Str}{q:List Int}{r:List RI}(h:cond c=(.ref u q,r)):z4w cond body p k c=(some (u,q),c,r):=by
 cases k<;>rw [z4w,h]
theorem zat{cond:Cnt->Rs×List RI}{body:Cnt->Out}{p:List Int}{k:Nat}{c:Cnt}{r:List RI}(h:cond c=(.had 0,r)):z4w cond body p k c=(none,c,r):=by
 cases k<;>rw [z4w,h]<;>simp
theorem ze0{cond:Cnt->Rs×List RI}{body:Cnt->Out}{p:List Int}{c:Cnt}{v:Int}{r:List RI}(h:cond c=(.had v,r))(hv:v≠0):z4w cond body p 0 c=((some (("long" : Str),p),c,r):Out):=by
 rw [z4w,h]
 simp[hv]
theorem zau{cond:Cnt->Rs×List RI}{body:Cnt->Out}{p:List Int}{k:Nat}{c c1:Cnt}{v:Int}{r r1:List RI}{e:Ref}(h:cond c=(.had v,r))(hv:v≠0)(hb:body c=(some e,c1,r1)):z4w cond body p (k+1) c=(some e,c1,r++r1):=by
 rw [z4w,h]
 simp[hv,hb]
theorem zav{cond:Cnt->Rs×List RI}{body:Cnt->Out}{p:List Int}{k:Nat}{c c1:Cnt}{v:Int}{r r1:List RI}(h:cond c=(.had v,r))(hv:v≠0)(hb:body c=(none,c1,r1)):z4w cond body p (k+1) c=zno (r++r1) (z4w cond body p k c1):=by
 rw [z4w,h]
 simp[hv,hb,zno]
def WhI(H:Hp)(va:Addr)(pv:V)(d fs:Addr)(lo:Option Addr)(g:List Str)(t:T)(b:List D)(p:List Int)(M:Nat)(out:Out)(k:Nat)(σ : St)(Hc:Hp):Prop:=∃(j:Nat) (cj:Cnt) (rs:List RI) (x5 x6:Option V),σ = [some (.ref va),some pv,some (.ref d),some (.ref fs),some (.int j),x5,x6]/\j+k=M/\Gd d lo H Hc rs/\Hc d=some (.dK (kvC cj))/\KeyOk cj/\Has cj g/\out=zno rs (z4w (fun c=>evT c t (p++[0])) (fun c=>evB (p++[1]) 0 b c) p k cj)
theorem zv6(cond:Cnt->Rs×List RI)(body:Cnt->Out)(p:List Int)(k:Nat)(c:Cnt):(cond c).2.length<=(z4w cond body p k c).2.2.length:=by
 rcases h:cond c with⟨r,w⟩
 cases r with
 | ref u q=>rw [zdz h]; exact Nat.le_refl _
 | had v=>
  by_cases hv:v=0
  ·subst hv
   rw [zat h]; exact Nat.le_refl _
  ·cases k with
   | zero=>rw [ze0 h hv]; exact Nat.le_refl _
   | succ k=>
    rcases hb:body c with⟨e,c1,r1⟩
    cases e with
    | some e=>rw [zau h hv hb]; simp
    | none=>rw [zav h hv hb]; simp only[zno,List.length_append]; omega
theorem zv5{cond:Cnt->Rs×List RI}{body:Cnt->Out}{p:List Int}{k:Nat}{c:Cnt}{v:Int}{r:List RI}(h:cond c=(.had v,r))(hv:v≠0):r.length+(body c).2.2.length<=(z4w cond body p (k+1) c).2.2.length:=by
 rcases hb:body c with⟨e,c1,r1⟩
 cases e with
 | some e=>rw [zau h hv hb]; simp
 | none=>rw [zav h hv hb]; simp only[zno,List.length_append]; omega
theorem zkl{p:List Int}{k:Int}{e:D}{r:List D}{c c1:Cnt}{u:Ref}{w:List RI}(h:evD (p++[k]) e c=(some u,c1,w)):evB p k (e::r) c=(some u,c1,w):=by rw [evB,h]
theorem zkm{p:List Int}{k:Int}{e:D}{r:List D}{c c1:Cnt}{w:List RI}(h:evD (p++[k]) e c=(none,c1,w)):evB p k (e::r) c=zno w (evB p (k+1) r c1):=by rw [evB,h]; rfl
theorem q1n(p:List Int)(k:Int)(e:D)(r:List D)(c:Cnt):(evD (p++[k]) e c).2.2.length<=(evB p k (e::r) c).2.2.length:=by
 rcases h:evD (p++[k]) e c with⟨o,c1,w⟩
 cases o with
 | some u=>rw [zkl h]; exact Nat.le_refl _
 | none=>rw [zkm h]; simp[zno]
theorem zyp{g g':List Str}{e:D}{r:List D}(h:kbB g (e::r)=some g'):∃q,kbD g e=some q/\kbB q r=some g':=by
 rw [kbB] at h
 cases hd:kbD g e with
 | none=>rw [hd] at h; cases h
 | some q=>rw [hd] at h; exact⟨q,rfl,h⟩
theorem zw3{α : Type}:∀{l:List α} {i:Nat} {x : α},l[i]?=some x->l.drop i=x::l.drop (i+1)
 | [],_,_,h=>by simp at h
 | a::l,0,x,h=>by simp at h; simp[h]
 | a::l,i+1,x,h=>by
  have:l[i]?=some x:=by simpa using h
  simpa using zw3 this
def BkI(H:Hp)(ab:Addr)(pv:V)(d fs:Addr)(lo:Option Addr)(g':List Str)(b:List D)(p:List Int)(out:Out)(i:Nat)(σ : St)(Hc:Hp):Prop:=∃(ci:Cnt) (gi:List Str) (rs:List RI) (x4 x5 x6:Option V),σ = [some (.ref ab),some pv,some (.ref d),some (.ref fs),x4,x5,x6]/\Gd d lo H Hc rs/\Hc d=some (.dK (kvC ci))/\KeyOk ci/\Has ci gi/\kbB gi (b.drop i)=some g'/\out=zno rs (evB p i (b.drop i) ci)
end
section
variable{P:Program}{w:World}{K:PySem.W.Frag}{mg:Str->Option Value}{base:Heap}{f:Addr}{fd:FuncData}
theorem zuz{n:Nat} (F:Fun K "do_set" "do_set" z4v f fd) (c_reckon:Callee P w K mg base "reckon" ["term","path","names","settle"] 7 (z64 5)):FnOk P w K mg base CX0 8 f fd ["deed","path","names","settle"] (zlj ["set"] n):=by
 refine F.ok sc_do_set (fun vs H Q E h=>?_) (fun cdv A outer s H vs Q E hr h=>?_)
 ·obtain⟨v,e,pv,p,d,f,c,g,g',lo,rfl,_⟩:=h
  rfl
 obtain⟨v,e,pv,p,d,fs,c,g,g',lo,rfl,hk,hv,hp,hok,hn,hpl,hkb,hd,hky,hh,hS,hL,q⟩:=h
 obtain⟨x,t,rfl⟩:∃x t,e=.set x t:=by
  cases e with
  | set x t=>exact⟨x,t,rfl⟩
  | ite t b c=>exact absurd (List.mem_singleton.mp hk) (show ¬ ("if" : Str) = "set" by decide+kernel)
  | whl t m b=>exact absurd (List.mem_singleton.mp hk) (show ¬ ("while" : Str) = "set" by decide+kernel)
 rw [D.enc] at hv
 obtain⟨va,x0,x1,xt,rfl,hva,t0,t1,dt⟩:=zr6 hv
 cases t0
 cases t1
 rw [kbD] at hkb
 have hkt:t.knows g=true:=by
  cases hz:t.knows g with
  | true=>rfl
  | false=>rw [hz] at hkb; cases hkb
 have hlen:=ztx c x t p
 refine⟨_,(z06 (z1g (i:=4) sc_do_set.nd rfl zix (z18 c_reckon hr (by omega) (z09 (z0z z0n (z00 (i:=0) rfl zad z1o z1p) z03 (fun _ _=>rfl)) (z09 (z0r z3d (z00 (i:=1) rfl zh5 z19 z1b) (z13 (z09 z03 z04))) (z09 (z00 (i:=2) rfl z9y z2l z2m) (z09 (z00 (i:=3) rfl zew z22 z23) z04)))) zgn zba) (z05 rfl))
 (z06 (z32 (z0g (gEq hr.units) (z0z z0n (z00 (i:=4) rfl z7m zei zem) z03 (fun _ _=>rfl)) z0m (z0s _)) (z0a (z0h (z00 (i:=4) rfl z7m zei zem))) z0x)
 (z06 (zk2 hr.units1 (z00 (i:=2) rfl z9y z2l z2m) (z0z z0n (z00 (i:=0) rfl zad z1o z1p) z03 (fun _ _=>rfl)) (z0z z0n (z00 (i:=4) rfl z7m zei zem) z03 (fun _ _=>rfl)) (z05 rfl))
 (z0a (z0h zfx))))),z0j fun N1 e1=>?_⟩
 walk_at "rd7"
 refine⟨_,SqT.of hva,_,z24 (j:=2) rfl,by decide,fun p1 h1=>?_⟩
 have s1:=z02 h1 (HO.tup [V.int 0])
 refine zqx (hp.kp s1.kp) zdr (by simp; omega) fun z H1 s2 dz=>?_
 have s12:=s1.trans s2
 refine⟨xt,t,z,_,d,fs,c,g,lo,rfl,dt.kp s12.kp,dz,zdt hok.2 hkt,by decide,by simp; omega,s12 _ _ hd,hh,hS.kp (Same.kpE s12),by rw [<- hlen]; exact hL.same s12,fun r1 H2 g1 dr1=>?_⟩
 have G1:Gr lo H H2 (evT c t (p++[0])).2:=(Gr.same s12 hL).trans g1
 clear g1 s1 s2 s12
 have hd2:=G1.keep hd (by intro xs z; cases z)
 have hva2:=G1.keep hva (by intro xs z; cases z)
 obtain⟨b1,rfl,hb1⟩:=zfw dr1
 rcases he1:evT c t (p++[0]) with⟨r1,w1⟩
 rw [he1] at G1 dr1 hb1
 rw [e1]
 refine z0j fun N2 e2=>?_
 walk_at "rd7"
 rcases hb1 with⟨i1,rfl,hb1⟩ | ⟨u,qq,y1,rfl,hb1⟩
 rotate_left
 ·refine⟨_,SqT.of hb1,_,z1v,_,zoz,?_⟩
  rw [if_pos (decide_eq_true rfl)]
  rw [zjt he1] at q
  exact q _ _ G1.gd hd2 dr1
 refine⟨_,SqT.of hb1,_,z1v,_,zoz,?_⟩
 rw [if_neg (by rw [decide_eq_true_eq]; exact z8b)]
 rw [e2]
 walk_at "rd7"
 rw [zju he1] at q
 refine⟨_,SqT.of hb1,_,z24 (j:=1) rfl,_,SqT.of hva2,_,z24 (j:=1) rfl,_,DPut.k (k:=Sum.inr x) hd2 ?_,?_⟩
 ·unfold kvC
  rw [List.length_map]
  exact Nat.lt_of_le_of_lt hky.len (by decide)
 ·exact q _ _ (Gd.put G1 hd2) (by rw [z01,zue]) rfl
theorem zya{n:Nat} (F:Fun K "do_if" "do_if" z5v f fd) (c_reckon:Callee P w K mg base "reckon" ["term","path","names","settle"] 7 (z64 5)) (c_do_block:Callee P w K mg base "do_block" ["block","path","names","settle"] (3 * n+8) (zo0 n)):FnOk P w K mg base CX0 (3 * n+9) f fd ["deed","path","names","settle"] (zlj ["if"] n):=by
 refine F.ok sc_do_if (fun vs H Q E h=>?_) (fun cdv A outer s H vs Q E hr h=>?_)
 ·obtain⟨v,e,pv,p,d,f,c,g,g',lo,rfl,_⟩:=h
  rfl
 obtain⟨v,e,pv,p,d,fs,c,g,g',lo,rfl,hk,hv,hp,hok,hn,hpl,hkb,hd,hky,hh,hS,hL,q⟩:=h
 obtain⟨t,b,b2,rfl⟩:∃t b b2,e=.ite t b b2:=by
  cases e with
  | set x t=>exact absurd (List.mem_singleton.mp hk) (show ¬ ("set" : Str) = "if" by decide+kernel)
  | ite t b c=>exact⟨t,b,c,rfl⟩
  | whl t m b=>exact absurd (List.mem_singleton.mp hk) (show ¬ ("while" : Str) = "if" by decide+kernel)
 rw [D.enc] at hv
 obtain⟨va,x0,xt,xb,xc,rfl,hva,t0,dt,db,dc⟩:=zt6 hv
 cases t0
 obtain⟨hkt,⟨q1,hq1⟩,q2,hq2⟩:=zvg hkb
 have hlen:=q1g c t b b2 p
 refine⟨_,(z06 (z1g (i:=4) sc_do_if.nd rfl zkc (z18 c_reckon hr (by omega) (z09 (z0z z0n (z00 (i:=0) rfl z7o z1o z1p) z03 (fun _ _=>rfl)) (z09 (z0r z3d (z00 (i:=1) rfl z7n z19 z1b) (z13 (z09 z03 z04))) (z09 (z00 (i:=2) rfl z6n z2l z2m) (z09 (z00 (i:=3) rfl z5t z22 z23) z04)))) zi1 zba) (z05 rfl))
 (z06 (z32 (z0g (gEq hr.units) (z0z z0n (z00 (i:=4) rfl z90 zei zem) z03 (fun _ _=>rfl)) z0m (z0s _)) (z0a (z0h (z00 (i:=4) rfl z90 zei zem))) z0x)
 (z06 (z32 (z0g q3e (z0z z0n (z00 (i:=4) rfl z90 zei zem) z03 (fun _ _=>rfl)) z03 (z0s _)) (z0a (z0h (z18 c_do_block hr (by omega) (z09 (z0z z0n (z00 (i:=0) rfl z7o z1o z1p) z03 (fun _ _=>rfl)) (z09 (z0r z3d (z00 (i:=1) rfl z7n z19 z1b) (z13 (z09 z03 z04))) (z09 (z00 (i:=2) rfl z6n z2l z2m) (z09 (z00 (i:=3) rfl z5t z22 z23) z04)))) z8n z9q))) z0x)
 (z0a (z0h (z18 c_do_block hr (by omega) (z09 (z0z z0n (z00 (i:=0) rfl z7o z1o z1p) z03 (fun _ _=>rfl)) (z09 (z0r z3d (z00 (i:=1) rfl z7n z19 z1b) (z13 (z09 z03 z04))) (z09 (z00 (i:=2) rfl z6n z2l z2m) (z09 (z00 (i:=3) rfl z5t z22 z23) z04)))) z8n z9q)))))),z0j fun N1 e1=>?_⟩
 walk_at "rd7"
 refine⟨_,SqT.of hva,_,z24 (j:=1) rfl,by decide,fun p1 h1=>?_⟩
 have s1:=z02 h1 (HO.tup [V.int 0])
 refine zqx (hp.kp s1.kp) zdr (by simp; omega) fun z H1 s2 dz=>?_
 have s12:=s1.trans s2
 refine⟨xt,t,z,_,d,fs,c,g,lo,rfl,dt.kp s12.kp,dz,zdt hok.1 hkt,by decide,by simp; omega,s12 _ _ hd,hh,hS.kp (Same.kpE s12),(hL.same s12).mono (by omega),fun r1 H2 g1 dr1=>?_⟩
 have G1:Gr lo H H2 (evT c t (p++[0])).2:=(Gr.same s12 hL).trans g1
 clear g1 s1 s2 s12
 have hd2:=G1.keep hd (by intro xs z; cases z)
 have hva2:=G1.keep hva (by intro xs z; cases z)
 have hp2:=hp.kp G1.kp
 have db2:=db.kp G1.kp
 have dc2:=dc.kp G1.kp
 have hS2:=hS.kp G1.kpE
 obtain⟨b1,rfl,hb1⟩:=zfw dr1
 rcases he1:evT c t (p++[0]) with⟨r1,w1⟩
 rw [he1] at G1 dr1 hb1
 rw [e1]
 refine z0j fun N2 e2=>?_
 walk_at "rd7"
 rcases hb1 with⟨i1,rfl,hb1⟩ | ⟨u,qq,y1,rfl,hb1⟩
 rotate_left
 ·refine⟨_,SqT.of hb1,_,z1v,_,zoz,?_⟩
  rw [if_pos (decide_eq_true rfl)]
  rw [zhu he1] at q
  exact q _ _ G1.gd hd2 dr1
 refine⟨_,SqT.of hb1,_,z1v,_,zoz,?_⟩
 rw [if_neg (by rw [decide_eq_true_eq]; exact z8b)]
 rw [e2]
 refine z0j fun N3 e3=>?_
 walk_at "rd7"
 refine⟨_,SqT.of hb1,_,z24 (j:=1) rfl,_,rfl,?_⟩
 by_cases hz:i1=0
 ·subst hz
  rw [zmg he1] at q hL
  simp only[if_true,if_false,not_true,ne_eq,not_false_eq_true]
  rw [e3]
  walk_at "rd7"
  refine⟨_,SqT.of hva2,_,z24 (j:=3) rfl,by decide,fun p2 h2=>?_⟩
  have s3:=z02 h2 (HO.tup [V.int 2])
  refine zqx (hp2.kp s3.kp) zdr (by simp; omega) fun z2 H3 s4 dz2=>?_
  have s34:=s3.trans s4
  have hL2:HasL lo H2 ((evB (p++[2]) 0 b2 c).2.2.length+1):=hL.on G1 (by show w1.length+_<=_; rw [List.length_append]; omega)
  refine⟨xc,b2,z2,_,d,fs,c,g,q2,lo,rfl,dc2.kp s34.kp,dz2,hok.2.2,by omega,by simp; omega,hq2,s34 _ _ hd2,hky,hh,hS2.kp (Same.kpE s34),hL2.same s34,fun r2 H4 g2 hd4 ho=>?_⟩
  exact q _ _ (G1.gd.trans (((Gr.same s34 hL2).gd).trans g2 (s34 _ _ hd2)) hd2) hd4 ho
 ·rw [zht he1 hz] at q hL
  rw [if_pos (decide_eq_false hz)]
  refine⟨_,SqT.of hva2,_,z24 (j:=2) rfl,by decide,fun p2 h2=>?_⟩
  have s3:=z02 h2 (HO.tup [V.int 1])
  refine zqx (hp2.kp s3.kp) zdr (by simp; omega) fun z2 H3 s4 dz2=>?_
  have s34:=s3.trans s4
  have hL2:HasL lo H2 ((evB (p++[1]) 0 b c).2.2.length+1):=hL.on G1 (by show w1.length+_<=_; rw [List.length_append]; omega)
  refine⟨xb,b,z2,_,d,fs,c,g,q1,lo,rfl,db2.kp s34.kp,dz2,hok.2.1,by omega,by simp; omega,hq1,s34 _ _ hd2,hky,hh,hS2.kp (Same.kpE s34),hL2.same s34,fun r2 H4 g2 hd4 ho=>?_⟩
  exact q _ _ (G1.gd.trans (((Gr.same s34 hL2).gd).trans g2 (s34 _ _ hd2)) hd2) hd4 ho
theorem zol{n:Nat} (F:Fun K "do_while" "do_while" z1q f fd) (c_reckon:Callee P w K mg base "reckon" ["term","path","names","settle"] 7 (z64 5)) (c_do_block:Callee P w K mg base "do_block" ["block","path","names","settle"] (3 * n+8) (zo0 n)):FnOk P w K mg base CX0 (3 * n+9) f fd ["deed","path","names","settle"] (zlj ["while"] n):=by
 refine F.ok sc_do_while (fun vs H Q E h=>?_) (fun cdv A outer s H vs Q E hr h=>?_)
 ·obtain⟨v,e,pv,p,d,f,c,g,g',lo,rfl,_⟩:=h
  rfl
 obtain⟨v,e,pv,p,d,fs,c,g,g',lo,rfl,hk,hv,hp,hok,hn,hpl,hkb,hd,hky,hh,hS,hL,q⟩:=h
 obtain⟨t,m,b,rfl⟩:∃t m b,e=.whl t m b:=by
  cases e with
  | set x t=>exact absurd (List.mem_singleton.mp hk) (show ¬ ("set" : Str) = "while" by decide+kernel)
  | ite t b c=>exact absurd (List.mem_singleton.mp hk) (show ¬ ("if" : Str) = "while" by decide+kernel)
  | whl t m b=>exact⟨t,m,b,rfl⟩
 rw [D.enc] at hv
 obtain⟨va,x0,xt,xm,xb,rfl,hva,t0,dt,dm,db⟩:=zt6 hv
 cases t0
 cases dm
 obtain⟨hkt,rfl,q1,hq1⟩:=zzu hkb
 refine⟨_,(z06 (z1g (i:=4) sc_do_while.nd rfl z8j z03 (z05 rfl))
 (z0a (zxz PassesOwn.never (zpt q0u)
 (z06 (z1g (i:=5) sc_do_while.nd rfl zgg (z18 c_reckon hr (by omega) (z09 (z0z z0n (z00 (i:=0) rfl z5a z1o z1p) z03 (fun _ _=>rfl)) (z09 (z0r z3d (z00 (i:=1) rfl z59 z19 z1b) (z13 (z09 z03 z04))) (z09 (z00 (i:=2) rfl z7c z2l z2m) (z09 (z00 (i:=3) rfl z6m z22 z23) z04)))) zee zba) (z05 rfl))
 (z06 (z32 (z0g (gEq hr.units) (z0z z0n (z00 (i:=5) rfl z5s zei zem) z03 (fun _ _=>rfl)) z0m (z0s _)) (z0a (z0h (z00 (i:=5) rfl z5s zei zem))) z0x)
 (z06 (z32 (z0g zds (z0z z0n (z00 (i:=5) rfl z5s zei zem) z03 (fun _ _=>rfl)) z03 (z0s _)) (z0a (z0h zfx)) z0x)
 (z06 (z32 (z0g q5t (z00 (i:=4) rfl z85 zwg zwu) (z0z z0n (z00 (i:=0) rfl z5a z1o z1p) z03 (fun _ _=>rfl)) (z0s _)) (z0a (z0h (z13 (z09 z0m (z09 z0m (z09 (z00 (i:=1) rfl z59 z19 z1b) z04)))))) z0x)
 (z06 (z1g (i:=6) sc_do_while.nd rfl zc7 (z18 c_do_block hr (by omega) (z09 (z0z z0n (z00 (i:=0) rfl z5a z1o z1p) z03 (fun _ _=>rfl)) (z09 (z0r z3d (z00 (i:=1) rfl z59 z19 z1b) (z13 (z09 z03 z04))) (z09 (z00 (i:=2) rfl z7c z2l z2m) (z09 (z00 (i:=3) rfl z6m z22 z23) z04)))) zce z9q) (z05 rfl))
 (z06 (z32 (z0g q1m (z00 (i:=6) rfl z60 z6i z6j) zfx (z0s _)) (z0a (z0h (z00 (i:=6) rfl z60 z6i z6j))) z0x)
 (z0a (z1g (i:=4) sc_do_while.nd rfl z8j (z0r z1l (z00 (i:=4) rfl z85 zwg zwu) z03) (z05 rfl)))))))))))),z0j fun N1 e1=>?_⟩
 walk_at "rd7"
 rw [e1]
 have hout:evD p (.whl t m b) c=zno [] (z4w (fun c=>evT c t (p++[0])) (fun c=>evB (p++[1]) 0 b c) p m.toNat c):=by rw [evD]; rfl
 generalize evD p (.whl t m b) c=out at hL q hout
 refine⟨WhI H va pv d fs lo g' t b p m.toNat out,⟨m.toNat,0,c,[],none,none,rfl,by omega,(Gr.same (Same.refl H) hL).gd,hd,hky,hh,hout⟩,?_⟩
 rintro k σ Hc ⟨j,cj,rs,x5,x6,rfl,hjk,gd,hdc,hkc,hhc,ho⟩
 simp only[tB,tC,↓zji,if_true]
 refine⟨fun σ' H'=>∃k',k' < k/\WhI H va pv d fs lo g' t b p m.toNat out k' σ' H',fun _ _ h=>h,z0j fun N2 e2=>?_⟩
 walk_at "rd7"
 have hvac:=gd.keep hd hva (by intro xs z; cases z) (by intro xs z; cases z)
 have kpc:=gd.kp hd
 have hSc:=hS.kp (gd.kpE hd)
 have hpc:=hp.kp kpc
 have dtc:=dt.kp kpc
 have dbc:=db.kp kpc
 have l1:=zv6 (fun c=>evT c t (p++[0])) (fun c=>evB (p++[1]) 0 b c) p k cj
 have lo1:out.2.2.length=rs.length+(z4w (fun c=>evT c t (p++[0])) (fun c=>evB (p++[1]) 0 b c) p k cj).2.2.length:=by rw [ho,zno,List.length_append]
 have hLc:HasL lo Hc ((z4w (fun c=>evT c t (p++[0])) (fun c=>evB (p++[1]) 0 b c) p k cj).2.2.length+1):=hL.onD gd (by omega)
 refine⟨_,SqT.of hvac,_,z24 (j:=1) rfl,by decide,fun p1 h1=>?_⟩
 have s1:=z02 h1 (HO.tup [V.int 0])
 refine zqx (hpc.kp s1.kp) zdr (by simp; omega) fun z H1 s2 dz=>?_
 have s12:=s1.trans s2
 refine⟨xt,t,z,_,d,fs,cj,g',lo,rfl,dtc.kp s12.kp,dz,zdt hok.1 hkt,by decide,by simp; omega,s12 _ _ hdc,hhc,hSc.kp (Same.kpE s12),(hLc.same s12).mono (by omega),fun r1 H2 g1 dr1=>?_⟩
 have G1:Gr lo Hc H2 (evT cj t (p++[0])).2:=(Gr.same s12 hLc).trans g1
 clear g1 s1 s2 s12
 have hd2:=G1.keep hdc (by intro xs z; cases z)
 have hva2:=G1.keep hvac (by intro xs z; cases z)
 have hp2:=hpc.kp G1.kp
 have db2:=dbc.kp G1.kp
 have hS2:=hSc.kp G1.kpE
 obtain⟨b1,rfl,hb1⟩:=zfw dr1
 rcases he1:evT cj t (p++[0]) with⟨r1,w1⟩
 rw [he1] at G1 dr1 hb1
 have GD:=gd.trans G1.gd hdc
 have l1w:w1.length<=(z4w (fun c=>evT c t (p++[0])) (fun c=>evB (p++[1]) 0 b c) p k cj).2.2.length:=by
  have z:=l1
  simp only[he1] at z
  exact z
 rw [e2]
 refine z0j fun N3 e3=>?_
 walk_at "rd7"
 rcases hb1 with⟨i1,rfl,hb1⟩ | ⟨u,qq,y1,rfl,hb1⟩
 rotate_left
 ·refine⟨_,SqT.of hb1,_,z1v,_,zoz,?_⟩
  rw [if_pos (decide_eq_true rfl)]
  rw [zdz (cond:=fun c=>evT c t (p++[0])) he1] at ho
  subst ho
  exact q _ _ GD hd2 dr1
 refine⟨_,SqT.of hb1,_,z1v,_,zoz,?_⟩
 rw [if_neg (by rw [decide_eq_true_eq]; exact z8b)]
 rw [e3]
 refine z0j fun N4 e4=>?_
 walk_at "rd7"
 refine⟨_,SqT.of hb1,_,z24 (j:=1) rfl,_,rfl,?_⟩
 by_cases hz:i1=0
 ·subst hz
  rw [zat (cond:=fun c=>evT c t (p++[0])) he1] at ho
  subst ho
  rw [if_pos (by decide)]
  exact q _ _ GD hd2 rfl
 rw [if_neg (by simpa using hz)]
 rw [e4]
 refine z0j fun N5 e5=>?_
 walk_at "rd7"
 refine⟨_,SqT.of hva2,_,z24 (j:=2) rfl,_,rfl,?_⟩
 cases k with
 | zero=>
  rw [ze0 (cond:=fun c=>evT c t (p++[0])) he1 hz] at ho
  subst ho
  rw [if_pos (by omega)]
  refine⟨by decide,fun r hr'=>?_⟩
  have s3:=z02 hr' (HO.tup [V.str "refused",V.str "long",pv])
  refine q _ _ ?_ (s3 _ _ hd2) (.tup z01 (.cons (.str _) (.cons (.str _) (.cons (hp2.kp s3.kp) .nil))))
  have hL2:HasL lo H2 0:=hLc.on G1 (by show w1.length+_<=_; omega)
  have:=GD.trans (Gr.same s3 hL2).gd hd2
  rw [List.append_nil] at this
  exact this
 | succ k=>
  rw [if_neg (by omega)]
  have l2:=zv5 (cond:=fun c=>evT c t (p++[0])) (body:=fun c=>evB (p++[1]) 0 b c) (p:=p) (k:=k) he1 hz
  have hL2:HasL lo H2 ((evB (p++[1]) 0 b cj).2.2.length+1):=hLc.on G1 (by show w1.length+_<=_; omega)
  rw [e5]
  refine z0j fun N6 e6=>?_
  walk_at "rd7"
  refine⟨_,SqT.of hva2,_,z24 (j:=3) rfl,by decide,fun p2 h2=>?_⟩
  have s3:=z02 h2 (HO.tup [V.int 1])
  refine zqx (hp2.kp s3.kp) zdr (by simp; omega) fun z2 H3 s4 dz2=>?_
  have s34:=s3.trans s4
  refine⟨xb,b,z2,_,d,fs,cj,g',q1,lo,rfl,db2.kp s34.kp,dz2,hok.2,by omega,by simp; omega,hq1,s34 _ _ hd2,hkc,hhc,hS2.kp (Same.kpE s34),hL2.same s34,fun r2 H4 g2 hd4 ho4=>?_⟩
  have GB:=GD.trans (((Gr.same s34 hL2).gd).trans g2 (s34 _ _ hd2)) hd2
  have hk4:=zfq b n (p++[1]) 0 cj hok.2 hkc
  have hh4:=zi4 b (p++[1]) 0 cj g' q1 hq1 hhc
  rcases hb:evB (p++[1]) 0 b cj with⟨ee,c4,w4⟩
  rw [hb] at hd4 ho4 GB hk4 hh4
  rw [e6]
  refine z0j fun N7 e7=>?_
  walk_at "rd7"
  cases ee with
  | some er=>
   rw [zau (cond:=fun c=>evT c t (p++[0])) (body:=fun c=>evB (p++[1]) 0 b c) he1 hz hb] at ho
   subst ho
   have hne:r2≠.non:=by
    obtain⟨a4,rfl,_⟩:=zfw (r:=Rs.ref er.1 er.2) ho4
    intro z
    cases z
   rw [if_pos (decide_eq_false hne)]
   refine q _ _ ?_ hd4 ho4
   show Gd d lo H H4 (rs++(w1++w4))
   rw [<- List.append_assoc]
   exact GB
  | none=>
   rw [zav (cond:=fun c=>evT c t (p++[0])) (body:=fun c=>evB (p++[1]) 0 b c) he1 hz hb] at ho
   cases ho4
   rw [if_neg (by simp),e7]
   walk_at "rd7"
   refine⟨k,by omega,j+1,c4,rs++(w1++w4),_,_,rfl,by omega,?_,hd4,hk4,(hh4 rfl).sub (zhs b g' q1 hq1),?_⟩
   ·rw [<- List.append_assoc]
    exact GB
   ·rw [ho]
    simp only[zno,List.append_assoc]
end
section
variable{P:Program}{w:World}{K:PySem.W.Frag}{mg:Str->Option Value}{base:Heap}{f:Addr}{fd:FuncData}
theorem zs7{n:Nat} (F:Fun K "do_deed" "do_deed" z3v f fd) (c_do_set:Callee P w K mg base "do_set" ["deed","path","names","settle"] 8 (zlj ["set"] n)) (c_do_if:Callee P w K mg base "do_if" ["deed","path","names","settle"] (3 * n+9) (zlj ["if"] n)) (c_do_while:Callee P w K mg base "do_while" ["deed","path","names","settle"] (3 * n+9) (zlj ["while"] n)):FnOk P w K mg base CX0 (3 * n+10) f fd ["deed","path","names","settle"] (zlj ["set","if","while"] n):=by
 refine F.ok zrp (fun vs H Q E h=>?_) (fun cdv A outer s H vs Q E hr h=>?_)
 ·obtain⟨v,e,pv,p,d,f,c,g,g',lo,rfl,_⟩:=h
  rfl
 obtain⟨v,e,pv,p,d,fs,c,g,g',lo,rfl,hk,hv,h⟩:=h
 obtain⟨va,xs,rfl,hva⟩:=zw5 hv
 refine⟨_,(z06 (z32 (z0g (gEq hr.units) (z0z z0n (z00 (i:=0) rfl z3g z1o z1p) z03 (fun _ _=>rfl)) z0m (z0s _)) (z0a (z0h (z18 c_do_set hr (by omega) (z09 (z00 (i:=0) rfl z3g z1o z1p) (z09 (z00 (i:=1) rfl z5u z19 z1b) (z09 (z00 (i:=2) rfl z5b z2l z2m) (z09 (z00 (i:=3) rfl z4t z22 z23) z04)))) zfn zwh))) z0x)
 (z06 (z32 (z0g (gEq hr.units) (z0z z0n (z00 (i:=0) rfl z3g z1o z1p) z03 (fun _ _=>rfl)) z0m (z0s _)) (z0a (z0h (z18 c_do_if hr (by omega) (z09 (z00 (i:=0) rfl z3g z1o z1p) (z09 (z00 (i:=1) rfl z5u z19 z1b) (z09 (z00 (i:=2) rfl z5b z2l z2m) (z09 (z00 (i:=3) rfl z4t z22 z23) z04)))) zgo zz4))) z0x)
 (z0a (z0h (z18 c_do_while hr (by omega) (z09 (z00 (i:=0) rfl z3g z1o z1p) (z09 (z00 (i:=1) rfl z5u z19 z1b) (z09 (z00 (i:=2) rfl z5b z2l z2m) (z09 (z00 (i:=3) rfl z4t z22 z23) z04)))) zcs zp6))))),z0j fun N1 e1=>?_⟩
 walk_at "rd7"
 refine⟨_,SqT.of hva,_,z1v,_,zoz,?_⟩
 split
 ·rename_i z
  exact⟨_,e,pv,p,d,fs,c,g,g',lo,rfl,by rw [of_decide_eq_true z]; simp,hv,h⟩
 rename_i z1
 rw [e1]
 refine z0j fun N2 e2=>?_
 walk_at "rd7"
 refine⟨_,SqT.of hva,_,z1v,_,zoz,?_⟩
 split
 ·rename_i z
  exact⟨_,e,pv,p,d,fs,c,g,g',lo,rfl,by rw [of_decide_eq_true z]; simp,hv,h⟩
 rename_i z2
 rw [e2]
 walk_at "rd7"
 refine⟨_,e,pv,p,d,fs,c,g,g',lo,rfl,?_,hv,h⟩
 simp only[List.mem_cons,List.not_mem_nil,or_false] at hk |-
 rcases hk with hk | hk | hk
 ·exact absurd (decide_eq_true hk) z1
 ·exact absurd (decide_eq_true hk) z2
 ·exact hk
theorem zom{n:Nat} (F:Fun K "do_block" "do_block" z1r f fd) (b_enumerate:mg "enumerate" = none) (c_do_deed:Callee P w K mg base "do_deed" ["deed","path","names","settle"] (3 * n+10) (zlj ["set","if","while"] n)):FnOk P w K mg base CX0 (3 * n+11) f fd ["block","path","names","settle"] (zo0 (n+1)):=by
 refine F.ok sc_do_block (fun vs H Q E h=>?_) (fun cdv A outer s H vs Q E hr h=>?_)
 ·obtain⟨v,b,pv,p,d,f,c,g,g',lo,rfl,_⟩:=h
  rfl
 obtain⟨v,b,pv,p,d,fs,c,g,g',lo,rfl,hv,hp,hok,hn,hpl,hkb,hd,hky,hh,hS,hL,q⟩:=h
 obtain⟨ab,xs,rfl,hab,hda⟩:=hv.tupI
 have hxl:xs.length=b.length:=by rw [hda.length,z6y]
 have hout:evB p 0 b c=zno [] (evB p ((0:Nat):Int) (b.drop 0) c):=by rw [List.drop_zero]; rfl
 generalize evB p 0 b c=out at hL q hout
 refine⟨_,(z06 (zdo PassesOwn.never rfl (zk4 zb6 b_enumerate (z09 (z00 (i:=0) rfl zd8 zqp zqw) z04)) (zcj (n:=2) rfl (z0y (z10 (i:=4) sc_do_block.nd rfl zhm) (z0y (z10 (i:=5) sc_do_block.nd rfl zfl) z4f)))
 (z06 (z1g (i:=6) sc_do_block.nd rfl zc8 (z18 c_do_deed hr (by omega) (z09 (z00 (i:=5) rfl zey z1o z1p) (z09 (z0r z3d (z00 (i:=1) rfl zex z19 z1b) (z13 (z09 (z00 (i:=4) rfl zh6 q4q q4v) z04))) (z09 (z00 (i:=2) rfl zd7 z2l z2m) (z09 (z00 (i:=3) rfl zcm z22 z23) z04)))) zct zsr) (z05 rfl))
 (z0a (z32 (z0g q1m (z00 (i:=6) rfl z61 z6i z6j) zfx (z0s _)) (z0a (z0h (z00 (i:=6) rfl z61 z6i z6j))) z0x))))
 (z0a (z0h zfx))),z0j fun N1 e1=>?_⟩
 walk_at "rd7"
 refine⟨⟨_,SqT.of hab⟩,?_⟩
 refine zmo (xs:=xs) (BkI H ab pv d fs lo g' b p out) ?start ?lst ?step ?done
 case start=>exact⟨c,g,[],_,_,_,rfl,(Gr.same (Same.refl H) hL).gd,hd,hky,hh,by rw [List.drop_zero]; exact hkb,hout⟩
 case lst=>
  rintro i σ Hc _ ⟨ci,gi,rs,_,_,_,rfl,gd,_⟩
  exact SqT.of (gd.keep hd hab (by intro xs z; cases z) (by intro xs z; cases z))
 case done=>
  rintro σ Hc ⟨ci,gi,rs,_,_,_,rfl,gd,hdc,hkc,hhc,hkb2,ho⟩
  show N1 _ _
  rw [e1]
  walk_at "rd7"
  rw [hxl,List.drop_length,evB] at ho
  subst ho
  refine q _ _ ?_ hdc rfl
  show Gd d lo H Hc (rs++[])
  rw [List.append_nil]
  exact gd
 case step=>
  rintro i x σ Hc Tu hx ⟨ci,gi,rs,_,_,_,rfl,gd,hdc,hkc,hhc,hkb2,ho⟩ hT
  obtain⟨e,hbi,dx⟩:=zw6 hda hx
  have hdo:=hok.2 e (List.mem_of_getElem? hbi)
  rw [zw3 hbi] at ho hkb2
  obtain⟨q1,hq1,hkr⟩:=zyp hkb2
  have s2:=z02 hT (HO.tup [V.int i,x])
  walk_at "rd7"
  refine⟨_,SqT.of z01,rfl,_,_,rfl,_,_,rfl,rfl,by decide,fun p1 h1=>?_⟩
  have s3:=z02 h1 (HO.tup [V.int i])
  have s23:=s2.trans s3
  have kpc:=gd.kp hd
  refine zqx ((hp.kp kpc).kp s23.kp) zdr (by simp; omega) fun z H1 s4 dz=>?_
  have s24:=s23.trans s4
  have l1:=q1n p i e (b.drop (i+1)) ci
  have lo1:out.2.2.length=rs.length+(evB p i (e::b.drop (i+1)) ci).2.2.length:=by rw [ho,zno,List.length_append]
  have hLc:HasL lo Hc ((evB p i (e::b.drop (i+1)) ci).2.2.length+1):=hL.onD gd (by omega)
  refine⟨x,e,z,_,d,fs,ci,gi,q1,lo,rfl,by cases e<;>simp[D.kind],(dx.kp kpc).kp s24.kp,dz,hdo,by omega,by simp; omega,hq1,s24 _ _ hdc,hkc,hhc,(hS.kp (gd.kpE hd)).kp (Same.kpE s24),(hLc.same s24).mono (by omega),fun r2 H4 g2 hd4 ho4=>?_⟩
  have GB:=gd.trans (((Gr.same s24 hLc).gd).trans g2 (s24 _ _ hdc)) hdc
  have hk4:=zvy e n (p++[(i:Int)]) ci hdo hkc
  have hh4:=zvz e (p++[(i:Int)]) ci gi q1 hq1 hhc
  rcases hb:evD (p++[(i:Int)]) e ci with⟨ee,c4,w4⟩
  rw [hb] at hd4 ho4 GB hk4 hh4
  cases ee with
  | some er=>
   rw [zkl hb] at ho
   subst ho
   have hne:r2≠.non:=by
    obtain⟨a4,rfl,_⟩:=zfw (r:=Rs.ref er.1 er.2) ho4
    intro z
    cases z
   show if decide (r2=V.non)=false then Q r2 H4 else _
   rw [if_pos (decide_eq_false hne)]
   exact q _ _ GB hd4 ho4
  | none=>
   rw [zkm hb] at ho
   cases ho4
   show if decide (V.non=V.non)=false then Q V.non H4 else _
   rw [if_neg (by simp)]
   refine⟨c4,q1,rs++w4,_,_,_,rfl,GB,hd4,hk4,hh4 rfl,hkr,?_⟩
   rw [ho]
   simp only[zno,List.append_assoc]
   rfl
theorem q15{k:Nat}{n1 n2 n3 n4:Str}:FnOk P w K mg base CX0 k f fd [n1,n2,n3,n4] (zo0 0):=by
 have no:∀vs H Q E,¬ zo0 0 vs H Q E:=fun vs H Q E h=>by
  obtain⟨v,b,pv,p,d,f,c,g,g',lo,_,_,_,h,_⟩:=h
  exact h.elim
 exact⟨fun vs H Q E h=>absurd h (no vs H Q E),fun A outer s H args us vs Q E _ _ _ _ h=>absurd h (no vs H Q E)⟩
theorem zx8{f2 f3 f4 f5:Addr}{fd2 fd3 fd4 fd5:FuncData} (d:Df K mg "do_block" z1r ["block","path","names","settle"] f fd) (d2:Df K mg "do_deed" z3v ["deed","path","names","settle"] f2 fd2) (d3:Df K mg "do_set" z4v ["deed","path","names","settle"] f3 fd3) (d4:Df K mg "do_if" z5v ["deed","path","names","settle"] f4 fd4) (d5:Df K mg "do_while" z1q ["deed","path","names","settle"] f5 fd5) (b_enumerate:mg "enumerate" = none) (c_reckon:Callee P w K mg base "reckon" ["term","path","names","settle"] 7 (z64 5)):∀n:Nat,Callee P w K mg base "do_block" ["block","path","names","settle"] (3 * n+8) (zo0 n)
 | 0=>d.callee q15
 | n+1=>d.callee (zom d.F b_enumerate (d2.callee (zs7 d2.F (d3.callee (zuz d3.F c_reckon)) (d4.callee (zya d4.F c_reckon (zx8 d d2 d3 d4 d5 b_enumerate c_reckon n))) (d5.callee (zol d5.F c_reckon (zx8 d d2 d3 d4 d5 b_enumerate c_reckon n))))))
end
section
variable{P:Program}{w:World}{K:PySem.W.Frag}{mg:Str->Option Value}{base:Heap}{f:Addr}{fd:FuncData}
def stB:Cnt->List Rw->List Int->Cnt
 | c,r::rs,w::ws=>stB (zk0 c r.1 w) rs ws
 | c,_,_=>c
def Fits:List Rw->List Int->Prop
 | [],[]=>True
 | r::rs,w::ws=>r.2.1<=w/\w<=r.2.2/\Fits rs ws
 | _,_=>False
theorem Fits.len:∀{rows:List Rw} {ws:List Int},Fits rows ws->rows.length=ws.length
 | [],[],_=>rfl
 | _::rs,_::ws,h=>by rw [List.length_cons,List.length_cons,Fits.len h.2.2]
 | [],_::_,h=>h.elim
 | _::_,[],h=>h.elim
theorem Fits.at:∀{rows:List Rw} {ws:List Int} {i:Nat} {r:Rw} {w:Int},Fits rows ws->rows[i]?=some r->ws[i]?=some w->r.2.1<=w/\w<=r.2.2
 | r::rs,w::ws,0,_,_,h,e1,e2=>by
  simp at e1 e2
  subst e1; subst e2
  exact⟨h.1,h.2.1⟩
 | r::rs,w::ws,i+1,_,_,h,e1,e2=>Fits.at h.2.2 (by simpa using e1) (by simpa using e2)
 | [],[],_,_,_,_,e1,_=>by simp at e1
 | [],_::_,_,_,_,h,_,_=>h.elim
 | _::_,[],_,_,_,h,_,_=>h.elim
theorem zpk:∀{rows:List Rw} {ws:List Int} {i:Nat} {r:Rw} {w:Int} (c:Cnt),rows[i]?=some r->ws[i]?=some w->stB c (rows.take (i+1)) (ws.take (i+1))=zk0 (stB c (rows.take i) (ws.take i)) r.1 w
 | r::rs,w::ws,0,_,_,c,e1,e2=>by
  simp at e1 e2
  subst e1; subst e2
  simp[stB]
 | r::rs,w::ws,i+1,_,_,c,e1,e2=>by
  have:=zpk (i:=i) (zk0 c r.1 w) (show rs[i]?=some _ by simpa using e1) (show ws[i]?=some _ by simpa using e2)
  simpa [stB] using this
 | [],_,_,_,_,_,e1,_=>by simp at e1
 | _::_,[],_,_,_,_,_,e2=>by simp at e2
theorem znt:∀(rows:List Rw) (ws:List Int) (c:Cnt),(∀r∈rows,r.1∈pool)->KeyOk c->KeyOk (stB c rows ws)
 | [],_,c,_,h=>by simpa [stB] using h
 | _::_,[],c,_,h=>by simpa [stB] using h
 | r::rs,w::ws,c,hr,h=>by
  rw [stB]
  exact znt rs ws _ (fun x hx=>hr x (.tail _ hx)) (h.put (hr r (.head _)) w)
theorem zts:∀(rows:List Rw) (ws:List Int) (c:Cnt) (g:List Str),Fits rows ws->(∀r∈rows,-6<=r.2.1/\r.2.2<=8)->Has c g->Has (stB c rows ws) (g++rows.map (·.1))
 | [],[],c,g,_,_,h=>by simpa [stB] using h
 | r::rs,w::ws,c,g,hf,hr,h=>by
  rw [stB,List.map_cons,show g++r.1::rs.map (·.1)=(g++[r.1])++rs.map (·.1) by simp]
  have h1:=hr r (.head _)
  exact zts rs ws _ _ hf.2.2 (fun x hx=>hr x (.tail _ hx)) (h.put (by have:=hf.1; omega) (by have:=hf.2.1; omega))
 | [],_::_,_,_,h,_,_=>h.elim
 | _::_,[],_,_,h,_,_=>h.elim
theorem zls{rows:List Rw}(h:okRows rows):∀r∈rows,r.1∈pool:=fun r hr=>by
 have h1:r.1∈rows.map (·.1):=List.mem_map.mpr ⟨r,hr,rfl⟩
 rw [h.nm] at h1
 have h2:=List.mem_of_mem_take h1
 simp only[pair,List.mem_cons,List.not_mem_nil,or_false] at h2
 rcases h2 with h2 | h2<;>rw [h2]<;>decide+kernel
theorem KeyOk.nil:KeyOk []:=⟨.nil,fun p h=>by simp at h⟩
def ztv:Sp:=fun vs H Q _=>∃(iv wv:V) (rows:List Rw) (ws:List Int),vs=[iv,wv]/\Dt H iv (.tup (rows.map rowEnc))/\Dt H wv (z25 ws)/\okRows rows/\Fits rows ws/\∀(d:Addr) (H':Hp),Same H H'->H d=none->H' d=some (.dK (kvC (stB [] rows ws)))->Q (.ref d) H'
def FsI(H:Hp)(ia wa d:Addr)(rows:List Rw)(ws:List Int)(i:Nat)(σ : St)(Hc:Hp):Prop:=∃(x3 x4:Option V),σ = [some (.ref ia),some (.ref wa),some (.ref d),x3,x4]/\Same H Hc/\Hc d=some (.dK (kvC (stB [] (rows.take i) (ws.take i))))
end
section
variable{P:Program}{w:World}{K:PySem.W.Frag}{mg:Str->Option Value}{base:Heap}{f:Addr}{fd:FuncData}
theorem zys{H:Hp}{v:V}{d:Dm}(h:Dt H v d):∃t,TyOf K H v t/\PySem.W.kitOne K t (.type "int")=some (isI d):=⟨_,q5l h,by cases d<;>rfl⟩
theorem zmk{H:Hp}{v:V}{d:Dm}(h:Dt H v d):∃t,TyOf K H v t/\PySem.W.kitOne K t (.type "bool")=some (isB d):=⟨_,q5l h,by cases d<;>rfl⟩
def zov:Dm->Bool
 | .int _=>true
 | _=>false
def zzw(d:Dm)(lo hi:Int):Bool:=match d with
 | .int i=>decide (lo<=i) && decide (i<=hi)
 | _=>false
def q46(d:Dm)(n:Int):Bool:=match d with
 | .tup ds=>decide ((ds.length:Int)=n)
 | _=>false
def q6b(g:Dm->Bool):Sp:=fun vs H Q _=>∃v d,vs=[v]/\Dt H v d/\∀H',Same H H'->Q (.bl (g d)) H'
theorem zok(F:Fun K "is_whole" "is_whole" z5d f fd) (b_isinstance:mg "isinstance" = none) (b_int:mg "int" = none) (b_bool:mg "bool" = none):FnOk P w K mg base CX0 1 f fd ["thing"] (q6b zov):=by
 refine F.ok zo6 (fun vs H Q E h=>?_) (fun cdv A outer s H vs Q E hr h=>?_)
 ·obtain⟨v,d,rfl,_⟩:=h
  rfl
 obtain⟨v,d,rfl,hd,q⟩:=h
 refine⟨_,(z0a (z0h (zm0 (za5 zyx z57 b_isinstance z6g (z09 (z00 (i:=0) rfl z7b z9p z9t) (z09 (zk6 (v:=V.ty "int") zi0 b_int q50 rfl q3s q4p) z04)) z66 z69) (zpw (q3a (za5 zyx z57 b_isinstance z6g (z09 (z00 (i:=0) rfl z7b z9p z9t) (z09 (zk6 (v:=V.ty "bool") zgm b_bool q1y rfl q17 q1s) z04)) z66 z69)))))),?_⟩
 walk_at "rd"
 refine⟨_,_,⟨rfl,rfl⟩,_,zys hd,?_⟩
 have q':=q H (Same.refl _)
 cases d with
 | int i=>exact⟨_,_,⟨rfl,rfl⟩,_,zmk hd,q'⟩
 | bl b=>exact⟨_,_,⟨rfl,rfl⟩,_,zmk hd,q'⟩
 | non=>exact q'
 | str x=>exact q'
 | tup ds=>exact q'
 | lst=>exact q'
def zzf:Sp:=fun vs H Q _=>∃v d lo hi,vs=[v,.int lo,.int hi]/\Dt H v d/\∀H',Same H H'->Q (.bl (zzw d lo hi)) H'
theorem zgd(F:Fun K "is_whole_from" "is_whole_from" z2j f fd) (c_is_whole:Callee P w K mg base "is_whole" ["thing"] 1 (q6b zov)):FnOk P w K mg base CX0 2 f fd ["thing","low","high"] zzf:=by
 refine F.ok zgb (fun vs H Q E h=>?_) (fun cdv A outer s H vs Q E hr h=>?_)
 ·obtain⟨v,d,lo,hi,rfl,_⟩:=h
  rfl
 obtain⟨v,d,lo,hi,rfl,hd,q⟩:=h
 refine⟨_,(z0a (z0h (zm0 (z18 c_is_whole hr (by omega) (z09 (z00 (i:=0) rfl z3a z9p z9t) z04) z7z zp5) (zm0 (zfd q3g (z00 (i:=1) rfl zac q4o q4u) (z00 (i:=0) rfl z3a z9p z9t) (z0s _)) (zpw (zfd q3g (z00 (i:=0) rfl z3a z9p z9t) (z00 (i:=2) rfl za4 q1q q1v) (z0s _))))))),?_⟩
 walk_at "rd"
 refine⟨v,d,rfl,hd,fun H1 s1=>?_⟩
 have q':=q H1 s1
 cases hd with
 | int i=>
  walk_at "rd"
  simp only[zov,if_true]
  replace q':Q (.bl (decide (lo<=i) && decide (i<=hi))) H1:=q'
  split
  ·rename_i hlo
   rw [decide_eq_true hlo,Bool.true_and] at q'
   exact q'
  ·rename_i hlo
   rw [decide_eq_false hlo,Bool.false_and] at q'
   exact q'
 | _=>exact⟨_,rfl,q'⟩
def ztu:Sp:=fun vs H Q _=>∃v d n,vs=[v,.int n]/\Dt H v d/\∀H',Same H H'->Q (.bl (q46 d n)) H'
theorem zir(F:Fun K "is_tuple_of" "is_tuple_of" z2s f fd) (b_isinstance:mg "isinstance" = none) (b_len:mg "len" = none) (b_tuple:mg "tuple" = none):FnOk P w K mg base CX0 1 f fd ["thing","many"] ztu:=by
 refine F.ok zio (fun vs H Q E h=>?_) (fun cdv A outer s H vs Q E hr h=>?_)
 ·obtain⟨v,d,n,rfl,_⟩:=h
  rfl
 obtain⟨v,d,n,rfl,hd,q⟩:=h
 refine⟨_,(z0a (z0h (zm0 (za5 zyx z80 b_isinstance z6g (z09 (z00 (i:=0) rfl z5i z9p z9t) (z09 (zk6 (v:=V.ty "tuple") zcd b_tuple zen rfl zdv zeg) z04)) z66 z69) (zpw (zfd zds (za5 zzx zed b_len zg7 (z09 (z00 (i:=0) rfl z5i z9p z9t) z04) zfy zg2) (z00 (i:=1) rfl zc2 zcx zd1) (z0s _)))))),?_⟩
 walk_at "rd"
 refine⟨_,_,⟨rfl,rfl⟩,_,zsh hd,?_⟩
 have q':=q H (Same.refl _)
 cases hd with
 | tup e r=>
  refine⟨_,q72 (SqT.of e),?_⟩
  rw [r.length]
  exact q'
 | _=>exact q'
theorem zfe(F:Fun K "names_at_first" "names_at_first" z0k f fd) (b_len:mg "len" = none) (b_zip:mg "zip" = none) (c_is_tuple_of:Callee P w K mg base "is_tuple_of" ["thing","many"] 1 ztu) (c_is_whole_from:Callee P w K mg base "is_whole_from" ["thing","low","high"] 2 zzf):FnOk P w K mg base CX0 3 f fd ["ins","worths"] ztv:=by
 refine F.ok sc_names_at_first (fun vs H Q E h=>?_) (fun cdv A outer s H vs Q E hr h=>?_)
 ·obtain⟨iv,wv,rows,ws,rfl,_⟩:=h
  rfl
 obtain⟨iv,wv,rows,ws,rfl,hi,hw,hrow,hfit,q⟩:=h
 obtain⟨ia,is,rfl,hia,dia⟩:=hi.tupI
 obtain⟨wa,us,rfl,hwa,dwa⟩:=hw.tupI
 have lis:is.length=rows.length:=by rw [dia.length,List.length_map]
 have lus:us.length=ws.length:=by rw [dwa.length,List.length_map]
 have hlen:=hfit.len
 refine⟨_,(z06 (z32 (zuf (zpt (z18 c_is_tuple_of hr (by omega) (z09 (z00 (i:=1) rfl z47 z8r z8v) (z09 (za5 zzx zb3 b_len zg7 (z09 (z00 (i:=0) rfl z53 q01 q02) z04) zfy zg2) z04)) z5x zj0))) (z0a zk1) z0x)
 (z06 (z1g (i:=2) sc_names_at_first.nd rfl z8d zq0 (z05 rfl))
 (z06 (zdo PassesOwn.never rfl (q0q zb2 b_zip (z09 (z00 (i:=0) rfl z53 q01 q02) (z09 (z00 (i:=1) rfl z47 z8r z8v) z04))) (zcj (n:=2) rfl (z0y (z10 (i:=3) sc_names_at_first.nd rfl za6) (z0y (z10 (i:=4) sc_names_at_first.nd rfl z8c) z4f)))
 (z06 (z32 (zuf (zpt (z18 c_is_whole_from hr (by omega) (z09 (z00 (i:=4) rfl z4h z7f z7g) (z09 (z0z z0n (z00 (i:=3) rfl z3j zqo zqv) z03 (fun _ _=>rfl)) (z09 (z0z z0n (z00 (i:=3) rfl z3j zqo zqv) z03 (fun _ _=>rfl)) z04))) z5f zgq))) (z0a zk1) z0x)
 (z0a (zk2 hr.units1 (z00 (i:=2) rfl z4i z2l z2m) (z0z z0n (z00 (i:=3) rfl z3j zqo zqv) z03 (fun _ _=>rfl)) (z00 (i:=4) rfl z4h z7f z7g) (z05 rfl)))))
 (z0a (z0h (z00 (i:=2) rfl z4i z2l z2m)))))),z0j fun N1 e1=>?_⟩
 walk_at "rd7"
 refine⟨_,.inl ⟨ia,is,rfl,.inr (SqT.of hia),rfl⟩,?_⟩
 refine⟨_,_,_,rfl,hw,fun H1 s1=>⟨_,rfl,?_⟩⟩
 have hy:q46 (z25 ws) (is.length:Int)=true:=by
  show decide _=true
  rw [decide_eq_true_eq,List.length_map,lis,hlen]
 rw [if_neg (by rw [hy]; decide)]
 rw [e1]
 refine z0j fun N2 e2=>?_
 walk_at "rd7"
 intro d hdn
 have s2:=z02 hdn (HO.dK [])
 have s12:=s1.trans s2
 have hdf:H d=none:=s1.free hdn
 rw [e2]
 refine z0j fun N3 e3=>?_
 walk_at "rd7"
 refine⟨_,_,⟨rfl,rfl⟩,⟨_,SqT.of (s12 _ _ hia)⟩,⟨_,SqT.of (s12 _ _ hwa)⟩,?_⟩
 refine zyz (xs:=is) (ys:=us) (by omega) (FsI H ia wa d rows ws) ?start ?lst ?step ?done
 case start=>exact⟨_,_,rfl,s12,z01⟩
 case lst=>
  rintro i σ Hc _ ⟨_,_,rfl,sc,_⟩
  exact⟨SqT.of (sc _ _ hia),SqT.of (sc _ _ hwa)⟩
 case done=>
  rintro σ Hc ⟨_,_,rfl,sc,hc⟩
  show N3 _ _
  rw [e3]
  walk_at "rd7"
  rw [lis,List.take_length,hlen,List.take_length] at hc
  exact q d Hc sc hdf hc
 case step=>
  rintro i x y σ Hc T hx hy ⟨_,_,rfl,sc,hc⟩ hT
  obtain⟨r,hri,dr⟩:=zas dia hx
  obtain⟨wd,hwi,dw⟩:=zas dwa hy
  cases dw
  obtain⟨ra,r0,r1,r2,rfl,hra,t0,t1,t2⟩:=zr6 dr
  cases t0; cases t1; cases t2
  have s3:=z02 hT (HO.tup [V.ref ra,V.int wd])
  have hra3:=s3 _ _ (sc _ _ hra)
  have hf:=hfit.at hri hwi
  have hk:=znt (rows.take i) (ws.take i) [] (fun r hr=>zls hrow r (List.mem_of_mem_take hr)) KeyOk.nil
  walk_at "rd7"
  refine⟨_,SqT.of z01,rfl,_,_,rfl,_,_,rfl,rfl,_,rfl,_,SqT.of hra3,_,z24 (j:=1) rfl,_,rfl,_,SqT.of hra3,_,z24 (j:=2) rfl,?_⟩
  refine⟨_,_,_,_,rfl,.int wd,fun H2 s4=>⟨_,rfl,?_⟩⟩
  have hy:zzw (.int wd) r.2.1 r.2.2=true:=by
   show(decide (r.2.1<=wd) && decide (wd<=r.2.2))=true
   simp[hf.1,hf.2]
  rw [if_neg (by rw [hy]; decide)]
  have hc4:=s4 _ _ (s3 _ _ hc)
  refine⟨_,rfl,_,SqT.of (s4 _ _ hra3),_,z1v,_,DPut.k (k:=Sum.inr r.1) hc4 ?_,?_⟩
  ·unfold kvC
   rw [List.length_map]
   exact Nat.lt_of_le_of_lt hk.len (by decide)
  ·refine⟨_,_,rfl,z65 (sc.trans (s3.trans s4)) hdf,?_⟩
   rw [z01,zue,zpk [] hri hwi]
end
section
variable{P:Program}{w:World}{K:PySem.W.Frag}{mg:Str->Option Value}{base:Heap}{f:Addr}{fd:FuncData}
def zhe(x:Str):Nat:=if x = "a" then 0 else if x = "b" then 1 else if x = "c" then 2 else 3
theorem zu1:(pool.all fun x=>pool.all fun y=>(decide (x.cps.toList < y.cps.toList) == decide (zhe x < zhe y)) && (!(decide (zhe x=zhe y)) || decide (x=y)))=true:=by decide+kernel
theorem zxv{x y:Str}(hx:x∈pool)(hy:y∈pool):decide (x.cps.toList < y.cps.toList)=decide (zhe x < zhe y)/\(zhe x=zhe y->x=y):=by
 have h:=zu1
 rw [List.all_eq_true] at h
 have h1:=h x hx
 rw [List.all_eq_true] at h1
 have h2:=h1 y hy
 rw [Bool.and_eq_true,Bool.or_eq_true] at h2
 refine⟨beq_iff_eq.mp h2.1,fun e=>?_⟩
 rcases h2.2 with z | z
 ·rw [decide_eq_true e] at z; cases z
 ·exact of_decide_eq_true z
def q6y(o:Out)(H':Hp)(r:V):Prop:=match o.1 with
 | some e=>Dt H' r (Rs.ref e.1 e.2).enc
 | none=>∃ms:Cnt,ms.Perm o.2.1/\ms.Pairwise (fun p q=>zhe p.1 < zhe q.1)/\Dt H' r (.tup [.str "told",.tup (ms.map ziq)])
abbrev evP(rows:List Rw)(b:List D)(ws:List Int):Out:=evB [] 0 b (stB [] rows ws)
def zny:Sp:=fun vs H Q _=>∃(gv wv:V) (rows:List Rw) (b:List D) (ws:List Int) (f:Addr) (g':List Str) (lo:Option Addr),vs=[gv,wv,.ref f]/\Dt H gv (.tup [.tup (rows.map rowEnc),.tup (encB b)])/\Dt H wv (z25 ws)/\okRows rows/\Fits rows ws/\okW 4 b/\kbB (rows.map (·.1)) b=some g'/\SetOk f lo H/\HasL lo H ((evP rows b ws).2.2.length+1)/\
 ∀(r:V) (H':Hp),Gr lo H H' (evP rows b ws).2.2->q6y (evP rows b ws) H' r->Q r H'
theorem Gd.gr{d:Addr}{lo:Option Addr}{H H1 H':Hp}{rs:List RI}(h:Gd d lo H1 H' rs)(s:Same H H1)(hd:H d=none)(hl:∀l,lo=some l->∃xs,H l=some (.lst xs)):Gr lo H H' rs:=by
 refine⟨fun a o n e=>h.1 a o (z0e e hd) n (s _ _ e),fun l e=>?_⟩
 obtain⟨xs,hx⟩:=hl l e
 obtain⟨xs',ys,e1,e2,d2⟩:=h.2 l e
 rw [s _ _ hx] at e1
 cases e1
 exact⟨xs,ys,hx,e2,d2⟩
theorem HasL.has{lo:Option Addr}{H:Hp}{n:Nat}(h:HasL lo H n):∀l,lo=some l->∃xs,H l=some (.lst xs):=fun l e=>by
 obtain⟨xs,hx,_⟩:=h l e
 exact⟨xs,hx⟩
end
section
variable{P:Program}{w:World}{K:PySem.W.Frag}{mg:Str->Option Value}{base:Heap}{f:Addr}{fd:FuncData}
theorem zux(F:Fun K "run_by" "run_by" z3q f fd) (b_sorted:mg "sorted" = none) (b_tuple:mg "tuple" = none) (c_names_at_first:Callee P w K mg base "names_at_first" ["ins","worths"] 3 ztv) (c_do_block:Callee P w K mg base "do_block" ["block","path","names","settle"] 20 (zo0 4)):FnOk P w K mg base CX0 21 f fd ["program","worths","settle"] zny:=by
 refine F.ok sc_run_by (fun vs H Q E h=>?_) (fun cdv A outer s H vs Q E hr h=>?_)
 ·obtain⟨gv,wv,rows,b,ws,f,g',lo,rfl,_⟩:=h
  rfl
 obtain⟨gv,wv,rows,b,ws,fs,g',lo,rfl,hg,hw,hrow,hfit,hok,hkb,hS,hL,q⟩:=h
 obtain⟨ga,iv,bv,rfl,hga,di,db⟩:=zjn hg
 refine⟨_,(z06 (z1g (i:=3) sc_run_by.nd rfl zge (z18 c_names_at_first hr (by omega) (z09 (z0z z0n (z00 (i:=0) rfl z79 z2o z2p) z03 (fun _ _=>rfl)) (z09 (z00 (i:=1) rfl zeu z8r z8v) z04)) z8l zfs) (z05 rfl))
 (z06 (z1g (i:=4) sc_run_by.nd rfl ze1 (z18 c_do_block hr (by omega) (z09 (z0z z0n (z00 (i:=0) rfl z79 z2o z2p) z03 (fun _ _=>rfl)) (z09 (z13 z04) (z09 (z00 (i:=3) rfl z9x z2l z2m) (z09 (z00 (i:=2) rfl zev z22 z23) z04)))) ze6 z9q) (z05 rfl))
 (z06 (z32 (z0g q1m (z00 (i:=4) rfl z78 z6i z6j) zfx (z0s _)) (z0a (z0h (z00 (i:=4) rfl z78 z6i z6j))) z0x)
 (z0a (z0h (z13 (z09 z0m (z09 (zoc z6f zhy b_tuple zen (z09 (za5 (za1 rfl) zgl b_sorted zeo (z09 (zpy (z00 (i:=3) rfl z9x z2l z2m)) z04) zdw zeh) z04) zdv zeg) z04)))))))),z0j fun N1 e1=>?_⟩
 walk_at "rd7"
 refine⟨_,SqT.of hga,_,z1v,iv,wv,rows,ws,rfl,di,hw,hrow,hfit,fun d H1 s1 hdn hd=>?_⟩
 rw [e1]
 refine z0j fun N2 e2=>?_
 walk_at "rd7"
 refine⟨_,SqT.of (s1 _ _ hga),_,z24 (j:=1) rfl,Nat.zero_le _,fun p0 hp0=>?_⟩
 have s2:=z02 hp0 (HO.tup [])
 have s12:=s1.trans s2
 have hky:=znt rows ws [] (zls hrow) KeyOk.nil
 have hh:=zts rows ws [] [] hfit (fun r hr=>⟨(hrow.lo r hr).1,(hrow.lo r hr).2.2⟩) (fun x hx=>by simp at hx)
 rw [List.nil_append] at hh
 refine⟨bv,b,.ref p0,[],d,fs,stB [] rows ws,_,g',lo,rfl,db.kp s12.kp,.tup z01 .nil,hok,by decide,by decide,hkb,s2 _ _ hd,hky,hh,hS.kp (Same.kpE s12),hL.same s12,fun r H3 gd hd3 ho=>?_⟩
 have G:Gr lo H H3 (evP rows b ws).2.2:=gd.gr s12 hdn hL.has
 have hk3:=zfq b 4 [] 0 _ hok hky
 rw [e2]
 refine z0j fun N3 e3=>?_
 walk_at "rd7"
 change q5s (evP rows b ws).1 H3 r at ho
 change H3 d=some (.dK (kvC (evP rows b ws).2.1)) at hd3
 change KeyOk (evP rows b ws).2.1 at hk3
 rcases hout:evP rows b ws with⟨oo,cc,rr⟩
 rw [hout] at ho hd3 hk3 G q
 cases oo with
 | some er=>
  have hne:r≠.non:=by
   obtain⟨a4,rfl,_⟩:=zfw (r:=Rs.ref er.1 er.2) ho
   intro z
   cases z
  rw [if_pos (decide_eq_false hne)]
  exact q _ _ G ho
 | none=>
  cases ho
  rw [if_neg (by simp),e3]
  walk_at "rd7"
  refine⟨_,hd3,fun p hp=>?_⟩
  have s6:=z02 hp (z9z p d)
  refine⟨p,d,cc,zhe,rfl,z01,s6 _ _ hd3,Nat.lt_of_le_of_lt hk3.len (by decide),fun x hx y hy=>zxv (hk3.2 x hx) (hk3.2 y hy),fun l7 H7 wt mt s7 f7 h7 d7 pm7 pw7=>?_⟩
  refine⟨_,rfl,_,.inl ⟨SqL.of h7,fun l8 h8=>⟨by decide,fun p9 h9=>?_⟩⟩⟩
  have s8:=z02 h8 (HO.tup wt)
  have s9:=z02 h9 (HO.tup [V.str "told",V.ref l8])
  have s69:=s6.trans (s7.trans (s8.trans s9))
  have hL3:HasL lo H3 0:=by
   have:=hL.on G (m:=0) (by rw [hout]; show rr.length+0<=rr.length+1; omega)
   exact this
  have GG:=G.trans (Gr.same s69 hL3)
  rw [List.append_nil] at GG
  exact q _ _ GG ⟨mt,pm7,pw7,.tup z01 (.cons (.str _) (.cons (.tup (s9 _ _ z01) (d7.kp (s8.trans s9).kp)) .nil))⟩
end
section
variable{P:Program}{w:World}{K:PySem.W.Frag}{mg:Str->Option Value}{base:Heap}{f:Addr}{fd:FuncData}
structure FunC(K:PySem.W.Frag)(x qual:Str)(st:Stmt)(f:Addr)(fd:FuncData)(c:Addr):Prop where
 ex:∃(oc:Value) (od:Option Addr) (kV doc pm:Value) (an:Option Addr) (ct:Value) (osl:Array (Option Value)),
  fd=PySem.W.fnOf x qual (defArgs st) (defBody st) (defScope st) .none kV doc pm an (.ref c) ct/\K.lookup f=some ⟨oc,od,.func fd,osl⟩/\PySem.W.codeIn K (.ref c) qual=true
 kp:PySem.W.keepIn K (.ref f)=true
theorem FunC.ok{P:Program}{w:World}{K:PySem.W.Frag}{mg:Str->Option Value}{base:Heap}{x qual:Str}{st:Stmt}{f c:Addr}{fd:FuncData}{N ps:List Str}{k:Nat}{sp:Sp}(F:FunC K x qual st f fd c)(S:FnScope N ps (defScope st))(len:∀vs H Q E,sp vs H Q E->vs.length=ps.length)
  (hbody:∀(A:Around) (outer:List PySem.Env) (s:Shared) (H:Hp) (vs:List V) (Q:VK) (E:XK),Room k (A.deeper (PyProof.Rows.envOfC qual (defScope st) s.heap.objs.size f (.ref c)))->sp vs H Q E->
   ∃t,PSs (zl1 CX0 P w K mg base N qual (defScope st) f (.ref c) A outer s H E).nox (defBody st) t/\t {nx:=fun _ H'=>Q .non H',rt:=Q} (L2.start N vs) H):FnOk P w K mg base CX0 (k+1) f fd ps sp:=by
 obtain⟨oc,od,kV,doc,pm,an,ct,osl,rfl,lk,hcd⟩:=F.ex
 refine q4c lk hcd S len fun A outer s H vs Q E hr hsp=>?_
 obtain⟨t,h,q⟩:=hbody A outer s H vs Q E hr hsp
 exact⟨t,h.nox,q⟩
def TabAt(pt:Addr)(pos:Pos)(q:Str)(H:Hp):Prop:=H pt=some (.tbl #[])\/∃c',H pt=some (.tbl (#[] ++ #[rawInt pos.line,rawInt pos.col,.ref c']))/\H c'=some (zch c' q)
theorem SameB.kpT{pt:Addr}{ps:Array Value}{H H':Hp}(h:SameB pt H H')(hp:H pt=some (.tbl ps)):Kp H H':=
 ⟨fun b xs e=>h b _ (z5w e hp (by intro z; cases z)) e,fun b xs e=>⟨xs,h b _ (z5w e hp (by intro z; cases z)) e⟩⟩
abbrev zzp:Pos:=q41 (q6l z2r)
def zpl(pt:Addr):Sp:=fun vs H Q _=>∃(gv wv:V) (rows:List Rw) (b:List D) (ws:List Int) (g':List Str),vs=[gv,wv]/\Dt H gv (.tup [.tup (rows.map rowEnc),.tup (encB b)])/\Dt H wv (z25 ws)/\okRows rows/\Fits rows ws/\okW 4 b/\kbB (rows.map (·.1)) b=some g'/\(evP rows b ws).2.2.length+1 < sizeLine/\TabAt pt zzp dT.qual H/\
 ∀(l:Addr) (ys:List V) (H':Hp),SameB pt H H'->H l=none->TabAt pt zzp dT.qual H'->H' l=some (.lst ys)->DtA H' ys ((evP rows b ws).2.2.map rowI)->Q (.ref l) H'
theorem zog(pos:Pos)(c':Addr):TriplesOk (#[] ++ #[rawInt pos.line,rawInt pos.col,Value.ref c']).toList:=by simp[TriplesOk,rawInt]
theorem zuu(pos:Pos)(c':Addr):codeAmong pos (#[] ++ #[rawInt pos.line,rawInt pos.col,Value.ref c']).toList=some (.ref c'):=by simp[codeAmong,rawInt]
theorem zyo{pt:Addr}{pos:Pos}{D:LamD}{cl:List (Str×Addr)}{σ : St}{H:Hp}{Q:VK}(hT:TabAt pt pos D.qual H)(q:∀(fa c':Addr) (H2:Hp),SameB pt H H2->Kp H H2->H fa=none->H2 fa=some (zqf D cl fa c')->H2 c'=some (zch c' D.qual)->TabAt pt pos D.qual H2->Q (.ref fa) H2):q5b pt pos D cl σ H Q:=by
 rcases hT with hT | ⟨c',hT,hc'⟩
 ·refine⟨#[],hT,trivial,.inl ⟨rfl,fun c' fa h1 h2 hne=>?_⟩⟩
  have n1:pt≠c':=z0e hT h1
  have n2:pt≠fa:=z0e hT h2
  have sB:SameB pt H (upd (upd (upd H pt (.tbl (#[] ++ #[rawInt pos.line,rawInt pos.col,.ref c']))) c' (zch c' D.qual)) fa (zqf D cl fa c')):=fun a o n e=>by rw [z0b (z0e e h2),z0b (z0e e h1),z0b n]; exact e
  exact q fa c' _ sB (sB.kpT hT) h2 z01 (by rw [z0b hne,z01]) (.inr ⟨c',by rw [z0b n2,z0b n1,z01],by rw [z0b hne,z01]⟩)
 ·refine⟨_,hT,zog pos c',.inr ⟨c',zuu pos c',hc',fun fa h1=>?_⟩⟩
  have s1:=z02 h1 (zqf D cl fa c')
  exact q fa c' _ (SameB.of s1) s1.kp h1 z01 (s1 _ _ hc') (.inr ⟨c',s1 _ _ hT,s1 _ _ hc'⟩)
theorem TabAt.kp{pt:Addr}{pos:Pos}{q:Str}{H H':Hp}(h:TabAt pt pos q H)(k:∀a o,(∀xs,o≠.lst xs)->H a=some o->H' a=some o):TabAt pt pos q H':=by
 rcases h with h | ⟨c',h1,h2⟩
 ·exact .inl (k _ _ (by intro xs z; cases z) h)
 ·exact .inr ⟨c',k _ _ (by intro xs z; cases z) h1,k _ _ (by intro xs z; cases z) h2⟩
end
section
variable{P:Program}{w:World}{K:PySem.W.Frag}{mg:Str->Option Value}{base:Heap}{f:Addr}{fd:FuncData}
theorem zuv{c pt:Addr} (F:FunC K "traced" "traced" z2r f fd c) (hC:PySem.W.CodeHd base c pt) (hB:base.BuiltinsAt mg pt) (hgP:mainGlobals≠pt) (c_run_by:Callee P w K mg base "run_by" ["program","worths","settle"] 21 zny):FnOk P w K mg base CX0 22 f fd ["program","worths"] (zpl pt):=by
 refine F.ok sc_traced (fun vs H Q E h=>?_) (fun A outer s H vs Q E hr h=>?_)
 ·obtain⟨gv,wv,rows,b,ws,g',rfl,_⟩:=h
  rfl
 obtain⟨gv,wv,rows,b,ws,g',rfl,hg,hw,hrow,hfit,hok,hkb,hz,hT,q⟩:=h
 have hcl_rows:(zl1 CX0 P w K mg base ["program","worths","rows"] "traced" (defScope z2r) f (.ref c) A outer s H E).nox.env.cells.lookup ("rows" : Str)=some (s.heap.objs.size+1):=rfl
 refine⟨_,(z06 (z1g (i:=2) sc_traced.nd rfl zhl (z44 z04) (z05 rfl))
 (z06 (z46 (zuo (i:=2) c_run_by hr (by omega) (z09 (z00 (i:=0) rfl zd5 z2o z2p) (z09 (z00 (i:=1) rfl zes z8r z8v) (z09 (zzq (c:=c) (P:=pt) rfl rfl rfl hC hB hgP) z04))) rfl hcl_rows zgr rfl zgj zwc) (z05 rfl))
 (z0a (z0h (z00 (i:=2) rfl zh4 zb9 zbj))))),z0j fun N1 e1=>?_⟩
 walk_at "rd7"
 refine⟨Nat.zero_le _,fun l hl=>?_⟩
 have s1:=z02 hl (HO.lst [])
 have hll:(upd H l (HO.lst [])) l=some (.lst []):=z01
 generalize upd H l (HO.lst [])=H1 at s1 hll |-
 rw [e1]
 refine z0j fun N2 e2=>?_
 walk_at "rd7"
 show zha zny (s.heap.objs.size+1) 2 (zf1 (zim 0) (zf1 (zim 1) (zf1 (q5b pt zzp dT [("rows",s.heap.objs.size+1)]) zra))) [some gv,some wv,some (V.ref l)] H1 fun x H1=>N2 [some gv,some wv,some (V.ref l)] H1
 clear hcl_rows
 generalize s.heap.objs.size+1=cc
 simp only[zha]
 walk_at "rd7"
 have hT1:TabAt pt zzp dT.qual H1:=hT.kp fun a o _ e=>s1 _ _ e
 have nlp:l≠pt:=fun z=>by
  rcases hT with h | ⟨_,h,_⟩<;>(rw [<- z,hl] at h; cases h)
 refine zyo hT1 fun fa c' H2 sB kp hfa hf hc hT2=>?_
 refine fun o u hd ru hcn=>?_
 cases ru
 have s3:=z02 hcn (z4g cc o)
 have hcc:(upd H2 cc (z4g cc o)) cc=some (z4g cc o):=z01
 have hl2:=sB l _ nlp hll
 have nlc:l≠cc:=z0e hl2 hcn
 have kpA:=s1.kp.trans (kp.trans s3.kp)
 refine⟨gv,wv,rows,b,ws,fa,g',some l,rfl,hg.kp kpA,hw.kp kpA,hrow,hfit,hok,hkb,⟨c',cc,o,s3 _ _ hf,s3 _ _ hc,hcc,hd⟩,fun l' z=>?_,fun r H4 G ho=>?_⟩
 ·cases z
  exact⟨[],s3 _ _ hl2,by simpa using hz⟩
 have hcc4:=G.keep hcc (by intro xs z; unfold z4g at z; cases z)
 refine⟨hcc4,?_⟩
 obtain⟨xs,ys,e3,e4,d4⟩:=G.2 l rfl
 rw [s3 _ _ hl2] at e3
 cases e3
 have out:∀{a:Addr} {o':HO},H4 a=some o'->H2 a≠none->zh0 [cc] H4 a=some o':=fun {a o'} e n=>by
  rw [z1t (fun z=>n (by rw [List.mem_singleton.mp z]; exact hcn))]
  exact e
 rw [e2]
 walk_at "rd7"
 refine q l ys _ (fun a o' n e=>?_) hl (hT2.kp fun a o' n e=>out (G.keep (s3 _ _ e) n) (by rw [e]; simp)) ?_ (d4.kp (zvc hcc4))
 ·have h2:=sB a o' n (s1 _ _ e)
  exact out (G.1 a o' (fun z=>by cases z; rw [hl] at e; cases e) (s3 _ _ h2)) (by rw [h2]; simp)
 ·exact out (by simpa using e4) (by rw [hl2]; simp)
end
section
variable{P:Program}{w:World}{K:PySem.W.Frag}{mg:Str->Option Value}{base:Heap}{f:Addr}{fd:FuncData}
structure TrC(K:PySem.W.Frag)(C:Addr):Prop where
 c:Cls K C
 np:NoAttr K C "program"
 nw:NoAttr K C "worths"
 nr:NoAttr K C "rows"
 nd:NoAttr K C "done"
abbrev trF(gv wv:V)(l:Addr)(k:Int):List (Str×V):=[("program",gv),("worths",wv),("rows",.ref l),("done",.int k)]
def zze(p2 C:Addr):Sp:=fun vs H Q _=>∃(x dx:Addr) (gv wv:V) (rows:List Rw) (b:List D) (ws:List Int) (g':List Str),vs=[.ref x,gv,wv]/\H x=some (.ins C dx [])/\Dt H gv (.tup [.tup (rows.map rowEnc),.tup (encB b)])/\Dt H wv (z25 ws)/\okRows rows/\Fits rows ws/\okW 4 b/\kbB (rows.map (·.1)) b=some g'/\(evP rows b ws).2.2.length+1 < sizeLine/\TabAt p2 zzp dT.qual H/\
 ∀(l:Addr) (ys:List V) (H':Hp),(∀a o,a≠p2->a≠x->H a=some o->H' a=some o)->TabAt p2 zzp dT.qual H'->H' x=some (.ins C dx (trF gv wv l 0))->H l=none->H' l=some (.lst ys)->DtA H' ys ((evP rows b ws).2.2.map rowI)->Q .non H'
def q6a(C:Addr):Sp:=fun vs H Q _=>∃(x dx l:Addr) (gv wv:V) (ys:List V) (k:Nat) (y:V),vs=[.ref x]/\H x=some (.ins C dx (trF gv wv l k))/\H l=some (.lst ys)/\ys[k]?=some y/\Q y (upd H x (.ins C dx (trF gv wv l (k+1))))
def zpn(C:Addr):Sp:=fun vs H Q _=>∃(x dx l:Addr) (gv wv:V) (ys:List V) (k:Int),vs=[.ref x]/\H x=some (.ins C dx (trF gv wv l k))/\H l=some (.lst ys)/\∀p,H p=none->Q (.ref p) (upd H p (.tup [.int k,.int (ys.length - k)]))
theorem ne_fields:(("done" : Str) == "program")=false/\(("done" : Str) == "worths")=false/\(("done" : Str) == "rows")=false/\(("rows" : Str) == "program")=false/\(("rows" : Str) == "worths")=false/\(("worths" : Str) == "program")=false:=by decide+kernel
theorem zco{gv wv:V}{l:Addr}{k:Int}:(trF gv wv l k).lookup ("done" : Str)=some (V.int k):=by
 simp only[trF,List.lookup,ne_fields.1,ne_fields.2.1,ne_fields.2.2.1,beq_self_eq_true]
theorem zhn{gv wv:V}{l:Addr}{k:Int}:(trF gv wv l k).lookup ("rows" : Str)=some (V.ref l):=by
 simp only[trF,List.lookup,ne_fields.2.2.2.1,ne_fields.2.2.2.2.1,beq_self_eq_true]
theorem zsf{gv wv:V}{l:Addr}{k:Int}:(trF gv wv l k).lookup ("program" : Str)=some gv:=by
 simp only[trF,List.lookup,beq_self_eq_true]
theorem ne_fields2:(("program" : Str)≠"done"/\("worths" : Str)≠"done"/\("rows" : Str)≠"done")/\("program" : Str)≠"rows"/\("worths" : Str)≠"rows"/\("program" : Str)≠"worths":=by decide+kernel
theorem zxy{gv wv:V}{l:Addr}{k j:Int}:z5g ("done" : Str) (.int j) (trF gv wv l k)=trF gv wv l j:=by
 simp only[trF,z5g,ne_fields2.1.1,ne_fields2.1.2.1,ne_fields2.1.2.2,if_false,if_true]
theorem q0m{gv wv:V}{l:Addr}:z5g ("done" : Str) (.int 0) (z5g ("rows" : Str) (.ref l) (z5g ("worths" : Str) wv (z5g ("program" : Str) gv [])))=trF gv wv l 0:=by
 simp only[trF,z5g,ne_fields2.1.1,ne_fields2.1.2.1,ne_fields2.1.2.2,ne_fields2.2.1,ne_fields2.2.2.1,ne_fields2.2.2.2,if_false]
theorem TabAt.ins{pt x C dx:Addr}{pos:Pos}{q:Str}{H:Hp}{fs:List (Str×V)}{o:HO}(h:TabAt pt pos q H)(hx:H x=some (.ins C dx fs)):TabAt pt pos q (upd H x o):=by
 rcases h with h | ⟨c',h,hc⟩
 ·exact .inl (by rw [z0b (z5w h hx (by intro z; cases z))]; exact h)
 ·refine .inr ⟨c',by rw [z0b (z5w h hx (by intro z; cases z))]; exact h,by rw [z0b (z5w hc hx (by intro z; unfold zch at z; cases z))]; exact hc⟩
theorem zme{x C dx:Addr}{H:Hp}{fs:List (Str×V)}{o:HO}(hx:H x=some (.ins C dx fs)):Kp H (upd H x o):=
 ⟨fun b xs e=>by rw [z0b (z5w e hx (by intro z; cases z))]; exact e,fun b xs e=>⟨xs,by rw [z0b (z5w e hx (by intro z; cases z))]; exact e⟩⟩
theorem zjz(f:Str)(v:V):∀fs:List (Str×V),(z5g f v fs).length<=fs.length+1
 | []=>by simp[z5g]
 | (g,x)::r=>by
  unfold z5g
  split
  ·simp
  ·have:=zjz f v r
   simp only[List.length_cons]
   omega
theorem TabAt.tb{pt:Addr}{pos:Pos}{q:Str}{H:Hp}(h:TabAt pt pos q H):∃ps,H pt=some (.tbl ps):=by
 rcases h with h | ⟨c',h,_⟩
 ·exact⟨_,h⟩
 ·exact⟨_,h⟩
end
local macro_rules | `(tactic| walk_at "rd11")=>`(tactic| simp only[↓zx4,↓zx3,↓zih,↓zig,↓zlm,↓zll,↓zdh,↓zdg,↓zdj,↓zdi,↓zvk,↓zji,↓zmi,zvj,zmj,zmh,zx2,zdf,q30,q2z,ztr,q3u,q3t,q3y,q3x,q55,q54,q5c,q5e,zns,ztj,zlb,zd9,zxj,zxk,zl7,zjc,q5f,zjy,zl8,z92,zr7,ztm,zin,tOp,zim,tC,zzd,z8o,zxa,zgp,zyw,q2b,zti,zrc,zrb,tCB,zf1,zra,zrf,tUn,rU,rI0,rI,q0a,tOr,q2c,tB,zrg,q2v,zr9,tIf,q2w,ztk,zla,zrd,zl9,zrr,zj5,ztn,zh8,ztp,tSl,zf0,zr8,q32,zh9,zlu,zrx,zu9,zaj,zbo,zda,zag,zam,zbg,zn2,z4y,z8t,zia,zbh,z72,z4z,z73,zek,zbi,z74,z88,zlc,q2g,tDX,q2x,q09,q2d,tBM,
 qEq,qNe,qIn,zhf,q2l,zrv,q36,zu8,q2k,zrw,zzm,q35,zua,zub,zlv,rIx,q0j,zl0,q2i,q2j,q2h,zu3,q34,q33,zfa,zf9,zj4,zld,q08,
 zdb,zai,zah,zak,z89,zal,zn3,z8u,zel,Nat.reduceAdd,Nat.reduceSub,Nat.add_zero,Nat.sub_zero,Nat.add_sub_cancel,
 List.getElem?_cons_zero,List.getElem?_cons_succ,List.set_cons_zero,List.set_cons_succ,List.cons.injEq,Option.some.injEq,V.int.injEq,V.ref.injEq,V.str.injEq,V.bl.injEq,V.ty.injEq,
 reduceCtorEq,false_and,and_false,and_true,true_and,exists_false,exists_const,false_or,or_false,exists_eq_left,exists_eq_left',exists_eq_right,exists_eq_right',exists_and_left,decide_eq_true_eq,Bool.not_eq_true',Bool.decide_eq_true,exists_eq,true_or,or_true,Bool.false_eq_true,if_true,if_false,Bool.true_eq_false,Bool.not_true,Bool.not_false,decide_true,decide_false,List.isEmpty_cons,List.isEmpty_nil,Bool.true_and,Bool.false_and,bne_self_eq_false,beq_self_eq_true])
section
variable{P:Program}{w:World}{K:PySem.W.Frag}{mg:Str->Option Value}{base:Heap}{f:Addr}{fd:FuncData}
theorem zhi{C:Addr} (F:Fun K "passed" "Trace.passed" z2a f fd) (b_len:mg "len" = none) (t:TrC K C):FnOk P w K mg base CX0 1 f fd ["self"] (zpn C):=by
 refine F.ok zhd (fun vs H Q E h=>?_) (fun cdv A outer s H vs Q E hr h=>?_)
 ·obtain⟨x,dx,l,gv,wv,ys,k,rfl,_⟩:=h
  rfl
 obtain⟨x,dx,l,gv,wv,ys,k,rfl,hx,hl,q⟩:=h
 refine⟨_,(z0a (z0h (z13 (z09 (z8a (z00 (i:=0) rfl z3u z3n z3o) rfl) (z09 (z0r zck (za5 zzx zcu b_len zg7 (z09 (z8a (z00 (i:=0) rfl z3u z3n z3o) rfl) z04) zfy zg2) (z8a (z00 (i:=0) rfl z3u z3n z3o) rfl)) z04))))),?_⟩
 walk_at "rd11"
 exact⟨_,_,_,hx,t.c,t.nd,_,zco,_,_,_,hx,t.c,t.nr,_,zhn,_,q2m (SqL.of hl),_,_,_,hx,t.c,t.nd,_,zco,_,rfl,by decide,q⟩
theorem zon{C:Addr} (F:Fun K "go" "Trace.go" z4m f fd) (b_len:mg "len" = none) (t:TrC K C):FnOk P w K mg base CX0 1 f fd ["self"] (q6a C):=by
 refine F.ok zo7 (fun vs H Q E h=>?_) (fun cdv A outer s H vs Q E hr h=>?_)
 ·obtain⟨x,dx,l,gv,wv,ys,k,y,rfl,_⟩:=h
  rfl
 obtain⟨x,dx,l,gv,wv,ys,k,y,rfl,hx,hl,hy,q⟩:=h
 refine⟨_,(z06 (z32 (z0g zds (z8a (z00 (i:=0) rfl z2g z3n z3o) rfl) (za5 zzx zi2 b_len zg7 (z09 (z8a (z00 (i:=0) rfl z2g z3n z3o) rfl) z04) zfy zg2) (z0s _)) (z0a zk1) z0x)
 (z06 (zlw (f:="done") (z00 (i:=0) rfl z2g z3n z3o) (z0r z1l (z8a (z00 (i:=0) rfl z2g z3n z3o) rfl) z03) (z05 rfl))
 (z0a (z0h (z0z z6t (z8a (z00 (i:=0) rfl z2g z3n z3o) rfl) (z0r zck (z8a (z00 (i:=0) rfl z2g z3n z3o) rfl) z03) (fun _ _=>rfl)))))),z0j fun N1 e1=>?_⟩
 walk_at "rd11"
 have hk:k < ys.length:=(List.getElem?_eq_some_iff.mp hy).1
 refine⟨_,_,_,hx,t.c,t.nd,_,zco,_,_,_,hx,t.c,t.nr,_,zhn,_,q2m (SqL.of hl),_,rfl,?_⟩
 rw [if_neg (by omega),e1]
 refine z0j fun N2 e2=>?_
 walk_at "rd11"
 refine⟨_,_,_,hx,t.c,t.nd,_,zco,_,rfl,_,_,_,hx,t.c,t.nd,by simp,?_⟩
 rw [zxy,e2]
 have nl:l≠x:=z5w hl hx (by intro z; cases z)
 have hl2:(upd H x (HO.ins C dx (trF gv wv l (k+1)))) l=some (.lst ys):=by rw [z0b nl]; exact hl
 walk_at "rd11"
 refine⟨_,_,_,z01,t.c,t.nr,_,zhn,_,_,_,z01,t.c,t.nd,_,zco,_,rfl,?_⟩
 rw [show((k:Int)+1 - 1)=(k:Int) by omega]
 exact⟨l,rfl,_,SqL.of hl2,y,z24 hy,q⟩
theorem zka{p2 C:Addr} (F:Fun K "__init__" "Trace.__init__" z2b f fd) (t:TrC K C) (c_traced:Callee P w K mg base "traced" ["program","worths"] 22 (zpl p2)):FnOk P w K mg base CX0 23 f fd ["self","program","worths"] (zze p2 C):=by
 refine F.ok zjx (fun vs H Q E h=>?_) (fun cdv A outer s H vs Q E hr h=>?_)
 ·obtain⟨x,dx,gv,wv,rows,b,ws,g',rfl,_⟩:=h
  rfl
 obtain⟨x,dx,gv,wv,rows,b,ws,g',rfl,hx,hg,hw,hrow,hfit,hok,hkb,hz,hT,q⟩:=h
 refine⟨_,(z06 (zlw (f:="program") (z00 (i:=0) rfl z3c z3n z3o) (z00 (i:=1) rfl z55 z2o z2p) (z05 rfl))
 (z06 (zlw (f:="worths") (z00 (i:=0) rfl z3c z3n z3o) (z00 (i:=2) rfl z5j z8r z8v) (z05 rfl))
 (z06 (zlw (f:="rows") (z00 (i:=0) rfl z3c z3n z3o) (z18 c_traced hr (by omega) (z09 (z00 (i:=1) rfl z55 z2o z2p) (z09 (z00 (i:=2) rfl z5j z8r z8v) z04)) zcg zwa) (z05 rfl))
 (z0a (zlw (f:="done") (z00 (i:=0) rfl z3c z3n z3o) z03 (z05 rfl)))))),z0j fun N1 e1=>?_⟩
 walk_at "rd11"
 refine⟨_,_,_,hx,t.c,t.np,by decide,?_⟩
 rw [e1]
 refine z0j fun N2 e2=>?_
 walk_at "rd11"
 have hx1:(upd H x (HO.ins C dx (z5g ("program" : Str) gv []))) x=some (.ins C dx (z5g ("program" : Str) gv [])):=z01
 have k1:Kp H (upd H x (HO.ins C dx (z5g ("program" : Str) gv []))):=zme hx
 have hT1:TabAt p2 zzp dT.qual (upd H x (HO.ins C dx (z5g ("program" : Str) gv []))):=hT.ins hx
 have m1:∀a o,a≠x->H a=some o->(upd H x (HO.ins C dx (z5g ("program" : Str) gv []))) a=some o:=fun a o n e=>by rw [z0b n]; exact e
 generalize upd H x (HO.ins C dx (z5g ("program" : Str) gv []))=H1 at hx1 k1 hT1 m1 |-
 refine⟨_,_,_,hx1,t.c,t.nw,by simp[z5g],?_⟩
 have hx2:(upd H1 x (HO.ins C dx (z5g ("worths" : Str) wv (z5g ("program" : Str) gv [])))) x=some (.ins C dx (z5g ("worths" : Str) wv (z5g ("program" : Str) gv []))):=z01
 have k2:Kp H1 (upd H1 x (HO.ins C dx (z5g ("worths" : Str) wv (z5g ("program" : Str) gv [])))):=zme hx1
 have hT2:TabAt p2 zzp dT.qual (upd H1 x (HO.ins C dx (z5g ("worths" : Str) wv (z5g ("program" : Str) gv [])))):=hT1.ins hx1
 have m2:∀a o,a≠x->H1 a=some o->(upd H1 x (HO.ins C dx (z5g ("worths" : Str) wv (z5g ("program" : Str) gv [])))) a=some o:=fun a o n e=>by rw [z0b n]; exact e
 generalize upd H1 x (HO.ins C dx (z5g ("worths" : Str) wv (z5g ("program" : Str) gv [])))=H2 at hx2 k2 hT2 m2 |-
 rw [e2]
 refine z0j fun N3 e3=>?_
 walk_at "rd11"
 refine⟨gv,wv,rows,b,ws,g',rfl,(hg.kp k1).kp k2,(hw.kp k1).kp k2,hrow,hfit,hok,hkb,hz,hT2,fun l ys H3 sB hln hT3 hl dys=>?_⟩
 obtain⟨ps,hps⟩:=hT2.tb
 have hx3:=sB _ _ (z5w hx2 hps (by intro z; cases z)) hx2
 have l1:=zjz "program" gv []
 have l2:=zjz "worths" wv (z5g ("program" : Str) gv [])
 have l3:=zjz "rows" (V.ref l) (z5g ("worths" : Str) wv (z5g ("program" : Str) gv []))
 simp only[List.length_nil] at l1
 have nlx:l≠x:=z5w hl hx3 (by intro z; cases z)
 refine⟨_,_,_,hx3,t.c,t.nr,by omega,?_⟩
 rw [e3]
 walk_at "rd11"
 refine⟨_,_,_,z01,t.c,t.nd,by omega,?_⟩
 rw [q0m]
 have hx4:(upd H3 x (HO.ins C dx (z5g ("rows" : Str) (V.ref l) (z5g ("worths" : Str) wv (z5g ("program" : Str) gv []))))) x=some (.ins C dx (z5g ("rows" : Str) (V.ref l) (z5g ("worths" : Str) wv (z5g ("program" : Str) gv [])))):=z01
 refine q l ys _ (fun a o n1 n2 e=>?_) ((hT3.ins hx3).ins hx4) z01 ?_ ?_ ((dys.kp (zme hx3)).kp (zme hx4))
 ·rw [z0b n2,z0b n2]
  exact sB _ _ n1 (m2 _ _ n2 (m1 _ _ n2 e))
 ·cases hHl:H l with
  | none=>rfl
  | some o=>
   have:=m2 _ _ nlx (m1 _ _ nlx hHl)
   rw [hln] at this
   cases this
 ·rw [z0b nlx,z0b nlx]
  exact hl
end
local macro_rules | `(tactic| walk_at "rd12")=>`(tactic| simp only[↓zx4,↓zx3,↓zih,↓zig,↓zlm,↓zll,↓zdh,↓zdg,↓zdj,↓zdi,↓zvk,↓zji,↓zmi,zvj,zmj,zmh,zx2,zdf,q30,q2z,ztr,q3u,q3t,q3y,q3x,q55,q54,q2u,q6g,zu6,zu5,q5c,q5e,zns,ztj,zlb,zd9,zxj,zxk,zl7,zjc,q5f,zjy,zl8,z92,zr7,ztm,zin,tOp,zim,tC,zzd,z8o,zxa,zgp,zyw,q2b,zti,zrc,zrb,tCB,zf1,zra,zrf,tUn,rU,rI0,rI,q0a,tOr,q2c,tB,zrg,q2v,zr9,tIf,q2w,ztk,zla,zrd,zl9,zrr,zj5,ztn,zh8,ztp,tSl,zf0,zr8,q32,zh9,zlu,zrx,zu9,zaj,zbo,zda,zag,zam,zbg,zn2,z4y,z8t,zia,zbh,z72,z4z,z73,zek,zbi,z74,z88,zlc,q2g,tDX,q2x,q09,q2d,tBM,
 qEq,qNe,qIn,zhf,q2l,zrv,q36,zu8,q2k,zrw,zzm,q35,zua,zub,zlv,rIx,q0j,zl0,q2i,q2j,q2h,zu3,q34,q33,zfa,zf9,zj4,zld,q08,
 zdb,zai,zah,zak,z89,zal,zn3,z8u,zel,Nat.reduceAdd,Nat.reduceSub,Nat.add_zero,Nat.sub_zero,Nat.add_sub_cancel,
 List.getElem?_cons_zero,List.getElem?_cons_succ,List.set_cons_zero,List.set_cons_succ,List.cons.injEq,Option.some.injEq,V.int.injEq,V.ref.injEq,V.str.injEq,V.bl.injEq,V.ty.injEq,
 reduceCtorEq,false_and,and_false,and_true,true_and,exists_false,exists_const,false_or,or_false,exists_eq_left,exists_eq_left',exists_eq_right,exists_eq_right',exists_and_left,decide_eq_true_eq,Bool.not_eq_true',Bool.decide_eq_true,exists_eq,true_or,or_true,Bool.false_eq_true,if_true,if_false,Bool.true_eq_false,Bool.not_true,Bool.not_false,decide_true,decide_false,List.isEmpty_cons,List.isEmpty_nil,Bool.true_and,Bool.false_and,bne_self_eq_false,beq_self_eq_true])
section
variable{P:Program}{w:World}{K:PySem.W.Frag}{mg:Str->Option Value}{base:Heap}{f:Addr}{fd:FuncData}
theorem Fits.snoc:∀{rows:List Rw} {ws:List Int} {r:Rw} {w:Int},Fits rows ws->r.2.1<=w->w<=r.2.2->Fits (rows++[r]) (ws++[w])
 | [],[],r,w,_,h1,h2=>⟨h1,h2,trivial⟩
 | a::rows,b::ws,r,w,h,h1,h2=>⟨h.1,h.2.1,Fits.snoc h.2.2 h1 h2⟩
 | [],_::_,_,_,h,_,_=>h.elim
 | _::_,[],_,_,h,_,_=>h.elim
def q69(K:PySem.W.Frag):Sp:=fun vs H Q _=>∃(a:Addr) (ns:List Int) (k:Int) (gv:V) (rows:List Rw) (bd:Dm),vs=[.ref a,.int k,gv]/\SqL K H a (ns.map V.int)/\0<=k/\Dt H gv (.tup [.tup (rows.map rowEnc),bd])/\okRows rows/\∀(wv:V) (ws:List Int) (H':Hp),Same H H'->Dt H' wv (z25 ws)->Fits rows ws->Q wv H'
def WsI(U:Hp)(rows:List Rw)(x4 x5:Option V)(i:Nat)(ys:List V)(σ':St)(H':Hp):Prop:=Same U H'/\(∃t0 t1 t2 t3,σ'=[t0,t1,t2,t3,x4,x5])/\ys.length<=i/\∃ws:List Int,ys=ws.map V.int/\Fits (rows.take i) ws
theorem zqh(H:Hp):∀l:List Int,DtA H (l.map V.int) (l.map Dm.int)
 | []=>.nil
 | a::r=>.cons (.int a) (zqh H r)
end
section
variable{P:Program}{w:World}{K:PySem.W.Frag}{mg:Str->Option Value}{base:Heap}{f:Addr}{fd:FuncData}
theorem zk9(F:Fun K "_law_worths" "_law_worths" z4l f fd) (b_tuple:mg "tuple" = none) (b_enumerate:mg "enumerate" = none) (c_law_pick:Callee P w K mg base "_law_pick" ["_law_script","_law_k","_law_many"] 2 (zde K)):FnOk P w K mg base CX0 3 f fd ["_law_script","_law_at","_law_program_here"] (q69 K):=by
 refine F.ok zjw (fun vs H Q E h=>?_) (fun cdv A outer s H vs Q E hr h=>?_)
 ·obtain⟨a,ns,k,gv,rows,bd,rfl,_⟩:=h
  rfl
 obtain⟨a,ns,k,gv,rows,bd,rfl,hS,hk,hg,hrow,q⟩:=h
 obtain⟨ga,iv,bv,rfl,hga,di,db⟩:=zjn hg
 obtain⟨ia,is,rfl,hia,dia⟩:=di.tupI
 have lis:is.length=rows.length:=by rw [dia.length,List.length_map]
 refine⟨_,(z0a (z0h (zoc z6f zcq b_tuple zen (z09 (zaq ["_law_k","_law_name","_law_low","_law_high","_law_script","_law_at"] [none,none,none,none,some 0,some 1] rfl (CompS.of (by rfl)) (zk4 z9l b_enumerate (z09 (z0z z0n (z00 (i:=2) rfl z51 z1a z1c) z03 (fun _ _=>rfl)) z04)) (fun _ _ _ _ _=>(zfc (n:=2) (K:=K) rfl rfl (z0y (z10 (i:=0) (show List.Nodup (["_law_k","_law_name","_law_low","_law_high","_law_script","_law_at"]:List Str) from by decide+kernel) rfl (Or.inl rfl)) (z0y (zfc (n:=3) (K:=K) rfl rfl (z0y (z10 (i:=1) (show List.Nodup (["_law_k","_law_name","_law_low","_law_high","_law_script","_law_at"]:List Str) from by decide+kernel) rfl (Or.inl rfl)) (z0y (z10 (i:=2) (show List.Nodup (["_law_k","_law_name","_law_low","_law_high","_law_script","_law_at"]:List Str) from by decide+kernel) rfl (Or.inl rfl)) (z0y (z10 (i:=3) (show List.Nodup (["_law_k","_law_name","_law_low","_law_high","_law_script","_law_at"]:List Str) from by decide+kernel) rfl (Or.inl rfl)) z4f)))) z4f)))) (fun _ _ _ _ _=>zob) (fun _ _ _ _ _=>(z0r z1l (z00 (i:=2) rfl (by first | exact Or.inl rfl | exact Or.inr (Or.inl rfl) | exact Or.inr (Or.inr rfl)) z9r z9u) (z18 c_law_pick hr (by omega) (z09 (z00 (i:=4) rfl (by first | exact Or.inl rfl | exact Or.inr (Or.inl rfl) | exact Or.inr (Or.inr rfl)) z07 z08) (z09 (z0r z1l (z00 (i:=5) rfl (by first | exact Or.inl rfl | exact Or.inr (Or.inl rfl) | exact Or.inr (Or.inr rfl)) z11 z12) (z00 (i:=0) rfl (by first | exact Or.inl rfl | exact Or.inr (Or.inl rfl) | exact Or.inr (Or.inr rfl)) z3y z40)) (z09 (z0r z1l (z0r zck (z00 (i:=3) rfl (by first | exact Or.inl rfl | exact Or.inr (Or.inl rfl) | exact Or.inr (Or.inr rfl)) zmz zn9) (z00 (i:=2) rfl (by first | exact Or.inl rfl | exact Or.inr (Or.inl rfl) | exact Or.inr (Or.inr rfl)) z9r z9u)) z03) z04))) rfl z0u)))) z04) zdv zeg))),?_⟩
 walk_at "rd12"
 refine⟨_,SqT.of hga,_,z1v,ia,rfl,⟨_,SqT.of hia⟩,?_⟩
 have h2:=hrow.len
 refine zsu (xs:=is) (WsI H rows (some (V.ref a)) (some (V.int k))) ⟨Same.refl _,⟨_,_,_,_,rfl⟩,Nat.le_refl _,[],rfl,trivial⟩ (Nat.lt_of_le_of_lt (show is.length<=2 by omega) (by decide)) ?_ ?_ ?_ ?_
 ·rintro i ys σ' H' ⟨_,_,h,_⟩
  exact h
 ·rintro i ys σ' H' _ ⟨sU,_⟩
  exact SqT.of (sU _ _ hia)
 ·rintro i ys x σ' H' T hx ⟨sU,⟨t0,t1,t2,t3,rfl⟩,hle,ws,rfl,hfit⟩ hT
  obtain⟨r,hri,dr⟩:=zas dia hx
  obtain⟨ra,r0,r1,r2,rfl,hra,u0,u1,u2⟩:=zr6 dr
  cases u0; cases u1; cases u2
  have s3:=z02 hT (HO.tup [V.int i,V.ref ra])
  have hra3:=s3 _ _ (sU _ _ hra)
  walk_at "rd12"
  have hrl:=hrow.lo r (List.mem_of_getElem? hri)
  refine⟨_,SqT.of z01,rfl,_,_,rfl,_,_,rfl,ra,rfl,_,SqT.of hra3,rfl,_,_,rfl,_,_,rfl,_,_,rfl,rfl,rfl,_,rfl,_,rfl,_,rfl,?_⟩
  refine⟨a,ns,k+i,r.2.2 - r.2.1+1,rfl,(sU.trans s3).seq hS,by omega,by omega,fun y H4 h0 h1 s4=>?_⟩
  refine⟨_,rfl,_,rfl,sU.trans (s3.trans s4),⟨_,_,_,_,rfl⟩,by rw [List.length_append,List.length_singleton]; omega,ws++[r.2.1+y],by rw [List.map_append]; rfl,?_⟩
  rw [z3h hri]
  exact hfit.snoc (by omega) (by omega)
 ·rintro ys σ' H' ⟨sU,_,_,ws,rfl,hfit⟩ pe hpe
  have s6:=z02 hpe (HO.lst (ws.map V.int))
  rw [lis,List.take_length] at hfit
  refine⟨pe,rfl,_,.inl ⟨SqL.of z01,fun l hl=>?_⟩⟩
  have s7:=z02 hl (HO.tup (ws.map V.int))
  exact q _ ws _ (sU.trans (s6.trans s7)) (.tup z01 (zqh _ ws)) hfit
end
section
variable{P:Program}{w:World}{K:PySem.W.Frag}{mg:Str->Option Value}{base:Heap}{f:Addr}{fd:FuncData}
def zf2(n:Nat):Sp:=fun vs H Q _=>∃v t pv p,vs=[v,pv]/\Dt H v (T.enc t)/\Dt H pv (z25 p)/\t.deep<=n/\n<=6/\p.length+n<=100/\∀(r:Addr) (H':Hp) (xs:List V),Same H H'->H r=none->H' r=some (.lst xs)->DtA H' xs ((z56 p t).map q0h)->Q (.ref r) H'
theorem zgc{n:Nat} (F:Fun K "spots_of_term" "spots_of_term" z2i f fd) (c_spots_of_term:Callee P w K mg base "spots_of_term" ["term","path"] (n+1) (zf2 n)):FnOk P w K mg base CX0 (n+2) f fd ["term","path"] (zf2 (n+1)):=by
 refine F.ok zga (fun vs H Q E h=>?_) (fun cdv A outer s H vs Q E hr h=>?_)
 ·obtain⟨v,t,pv,p,rfl,_⟩:=h
  rfl
 obtain⟨v,t,pv,p,rfl,hd,hp,hn,hn6,hl,q⟩:=h
 refine⟨_,(z06 (z32 (PW.pt (zuc (z0g (gEq hr.units) (z0z z0n (z00 (i:=0) rfl z1e z3x z3z) z03 (fun _ _=>rfl)) z0m (z0s _)) (zps (z0g (gEq hr.units) (z0z z0n (z00 (i:=0) rfl z1e z3x z3z) z03 (fun _ _=>rfl)) z0m (z0s _))))) (z0a (z0h (z44 (z09 (z13 (z09 (z00 (i:=1) rfl z2k z19 z1b) (z09 (z00 (i:=0) rfl z1e z3x z3z) z04))) z04)))) z0x)
 (z0a (z0h (z0r zq3 (z0r zq3 (z44 (z09 (z13 (z09 (z00 (i:=1) rfl z2k z19 z1b) (z09 (z00 (i:=0) rfl z1e z3x z3z) z04))) z04)) (z18 c_spots_of_term hr (by omega) (z09 (z0z z0n (z00 (i:=0) rfl z1e z3x z3z) z03 (fun _ _=>rfl)) (z09 (z0r z3d (z00 (i:=1) rfl z2k z19 z1b) (z13 (z09 z03 z04))) z04)) z34 z5y)) (z18 c_spots_of_term hr (by omega) (z09 (z0z z0n (z00 (i:=0) rfl z1e z3x z3z) z03 (fun _ _=>rfl)) (z09 (z0r z3d (z00 (i:=1) rfl z2k z19 z1b) (z13 (z09 z03 z04))) z04)) z34 z5y))))),?_⟩
 walk_at "rd7"
 have leaf:(z56 p t=[(p,t)])->2<=sizeLine/\∀(r:Addr),H r=none->1<=sizeLine/\∀(r1:Addr),upd H r (HO.tup [pv,v]) r1=none->Q (V.ref r1) (upd (upd H r (HO.tup [pv,v])) r1 (HO.lst [V.ref r])):=fun e=>by
  refine⟨zl 2 (by decide),fun r h1=>⟨zl 1 (by decide),fun r1 h2=>?_⟩⟩
  have s1:=z02 h1 (HO.tup [pv,v])
  have s2:=z02 h2 (HO.lst [V.ref r])
  refine q r1 _ _ (s1.trans s2) (s1.free h2) z01 ?_
  rw [e]
  exact .cons (.tup (s2 _ _ z01) (.cons (hp.kp (s1.trans s2).kp) (.cons (hd.kp (s1.trans s2).kp) .nil))) .nil
 have hdv:=hd
 cases t with
 | num i=>
  rw [T.enc] at hd
  obtain⟨a,x0,x1,rfl,ha,t0,t1⟩:=zjn hd
  refine⟨_,rfl,_,SqT.of ha,_,rfl,_,z8p t0,?_⟩
  rw [if_pos (show eqS (.str "num") "num" = true from by decide+kernel)]
  exact leaf rfl
 | nm x=>
  rw [T.enc] at hd
  obtain⟨a,x0,x1,rfl,ha,t0,t1⟩:=zjn hd
  refine⟨_,rfl,_,SqT.of ha,_,rfl,_,z8p t0,?_⟩
  rw [if_neg (show ¬ eqS (.str "name") "num" = true from by decide+kernel)]
  refine⟨_,rfl,_,SqT.of ha,_,rfl,_,z8p t0,?_⟩
  rw [if_pos (show eqS (.str "name") "name" = true from by decide+kernel)]
  exact leaf rfl
 | op wd ta tb=>
  rw [T.enc] at hd
  obtain⟨a,x0,x1,x2,rfl,ha,t0,t1,t2⟩:=zr6 hd
  refine⟨_,rfl,_,SqT.of ha,_,rfl,_,z8p t0,?_⟩
  rw [if_neg (by rw [wd.ne.1]; decide)]
  refine⟨_,rfl,_,SqT.of ha,_,rfl,_,z8p t0,?_⟩
  rw [if_neg (by rw [wd.ne.2]; decide)]
  have hab:ta.deep<=n/\tb.deep<=n:=by
   simp only[T.deep] at hn
   omega
  refine⟨zl 2 (by decide),fun r h1=>⟨zl 1 (by decide),fun r1 h2=>?_⟩⟩
  have s1:=z02 h1 (HO.tup [pv,V.ref a])
  have s2:=z02 h2 (HO.lst [V.ref r])
  have s02:=s1.trans s2
  have f1:H r1=none:=s1.free h2
  have hr1:(upd (upd H r (HO.tup [pv,V.ref a])) r1 (HO.lst [V.ref r])) r1=some (.lst [V.ref r]):=z01
  have row:Dt (upd (upd H r (HO.tup [pv,V.ref a])) r1 (HO.lst [V.ref r])) (.ref r) (q0h (p,.op wd ta tb)):=.tup (s2 _ _ z01) (.cons (hp.kp s02.kp) (.cons (hdv.kp s02.kp) .nil))
  generalize upd (upd H r (HO.tup [pv,V.ref a])) r1 (HO.lst [V.ref r])=U at s2 s02 hr1 row |-
  refine⟨_,rfl,_,SqT.of (s02 _ _ ha),_,rfl,zl 1 (by decide),fun r3 h3=>?_⟩
  have s3:=z02 h3 (HO.tup [V.int 0])
  refine zqx (hp.kp (s02.trans s3).kp) zdr (by simp; omega) fun z H1 s4 dz=>?_
  have s24:=s3.trans s4
  refine⟨x1,ta,z,p++[0],rfl,t1.kp (s02.trans s24).kp,dz,hab.1,by omega,by simp; omega,fun r4 H2 ys s5 f5 h5 d5=>?_⟩
  walk_at "rd7"
  have s25:=s24.trans s5
  have l1:=z93 (p:=p++[0]) hab.1 (by omega:n<=6)
  have l2:=z93 (p:=p++[1]) hab.2 (by omega:n<=6)
  have e5:ys.length=(z56 (p++[0]) ta).length:=by rw [d5.length,List.length_map]
  refine⟨_,s25 _ _ hr1,_,h5,Nat.le_of_lt (z20 (by rw [e5,List.length_singleton]; omega)),fun r6 h6=>?_⟩
  have s6:=z02 h6 (HO.lst ([V.ref r]++ys))
  have s26:=s25.trans s6
  have hr6:(upd H2 r6 (HO.lst ([V.ref r]++ys))) r6=some (.lst ([V.ref r]++ys)):=z01
  have d6:DtA (upd H2 r6 (HO.lst ([V.ref r]++ys))) ([V.ref r]++ys) ((p,T.op wd ta tb)::z56 (p++[0]) ta |>.map q0h):=.cons (row.kp s26.kp) (d5.kp s6.kp)
  generalize upd H2 r6 (HO.lst ([V.ref r]++ys))=U2 at s6 s26 hr6 d6 |-
  refine⟨_,SqT.of ((s02.trans s26) _ _ ha),_,rfl,zl 1 (by decide),fun r7 h7=>?_⟩
  have s7:=z02 h7 (HO.tup [V.int 1])
  refine zqx (hp.kp ((s02.trans s26).trans s7).kp) zdr (by simp; omega) fun z2 H3 s8 dz2=>?_
  have s78:=s7.trans s8
  refine⟨x2,tb,z2,p++[1],rfl,t2.kp ((s02.trans s26).trans s78).kp,dz2,hab.2,by omega,by simp; omega,fun r9 H4 zs s9 f9 h9 d9=>?_⟩
  walk_at "rd7"
  have s79:=s78.trans s9
  have e9:zs.length=(z56 (p++[1]) tb).length:=by rw [d9.length,List.length_map]
  refine⟨_,s79 _ _ hr6,_,h9,Nat.le_of_lt (z20 (by rw [List.length_append,e5,e9,List.length_singleton]; omega)),fun r10 h10=>?_⟩
  have s10:=z02 h10 (HO.lst (([V.ref r]++ys)++zs))
  refine q r10 _ _ ((s02.trans s26).trans (s79.trans s10)) (((s02.trans s26).trans s79).free h10) z01 ?_
  rw [z56,<- List.cons_append,List.map_append]
  exact(d6.kp (s79.trans s10).kp).append (d9.kp s10.kp)
def zf3(n:Nat):Sp:=fun vs H Q _=>∃v b pv p,vs=[v,pv]/\Dt H v (.tup (encB b))/\Dt H pv (z25 p)/\okB n b/\n<=3/\p.length+2 * n<=100/\∀(r:Addr) (H':Hp) (xs:List V),Same H H'->H r=none->H' r=some (.lst xs)->DtA H' xs ((z17 p 0 b).map zxs)->Q (.ref r) H'
theorem zff{n:Nat} (F:Fun K "deeds_of_block" "deeds_of_block" z0d f fd) (b_enumerate:mg "enumerate" = none) (c_blocks_of:Callee P w K mg base "blocks_of" ["deed"] 1 zf4) (c_deeds_of_block:Callee P w K mg base "deeds_of_block" ["block","path"] (n+2) (zf3 n)):FnOk P w K mg base CX0 (n+3) f fd ["block","path"] (zf3 (n+1)):=by
 refine F.ok sc_deeds_of_block (fun vs H Q E h=>?_) (fun cdv A outer s H vs Q E hr h=>?_)
 ·obtain⟨v,t,pv,p,rfl,_⟩:=h
  rfl
 obtain⟨v,b,pv,p,rfl,hd,hp,hok,hn,hl,q⟩:=h
 refine⟨_,(z06 (z1g (i:=2) sc_deeds_of_block.nd rfl z9i (z44 z04) (z05 rfl))
 (z06 (zdo PassesOwn.never rfl (zk4 z6v b_enumerate (z09 (z00 (i:=0) rfl z87 zqp zqw) z04)) (zcj (n:=2) rfl (z0y (z10 (i:=3) sc_deeds_of_block.nd rfl zaw) (z0y (z10 (i:=4) sc_deeds_of_block.nd rfl z9j) z4f)))
 (z06 (z1g (i:=5) sc_deeds_of_block.nd rfl z67 (z0r z3d (z00 (i:=1) rfl z91 z19 z1b) (z13 (z09 (z00 (i:=3) rfl zae q4q q4v) z04))) (z05 rfl))
 (z06 (z46 (zdq PySem.F.plainAttrs_list PySem.F.slot_list_append PySem.F.type_list_append z3i (z00 (i:=2) rfl z3b zb9 zbj) (z09 (z13 (z09 (z00 (i:=5) rfl z3p zg3 zg5) (z09 (z00 (i:=4) rfl z4u z1o z1p) z04))) z04)) (z05 rfl))
 (z0a (zdo PassesOwn.never rfl (z6s (z18 c_blocks_of hr (by omega) (z09 (z00 (i:=4) rfl z4u z1o z1p) z04) z6w zmu)) (zcj (n:=2) rfl (z0y (z10 (i:=6) sc_deeds_of_block.nd rfl z7w) (z0y (z10 (i:=7) sc_deeds_of_block.nd rfl z8k) z4f)))
 (z0a (z46 (zdq PySem.F.plainAttrs_list PySem.F.slot_list_extend PySem.F.type_list_extend zma (z00 (i:=2) rfl z3b zb9 zbj) (z09 (z18 c_deeds_of_block hr (by omega) (z09 (z00 (i:=7) rfl z86 zz3 zza) (z09 (z0r z3d (z00 (i:=5) rfl z3p zg3 zg5) (z13 (z09 (z00 (i:=6) rfl z7p zwd zws) z04))) z04)) z52 z8s) z04)) (z05 rfl))))))))
 (z0a (z0h (z00 (i:=2) rfl z3b zb9 zbj))))),?_⟩
 walk_at "rd7"
 refine⟨Nat.zero_le _,fun pr hpr=>?_⟩
 obtain⟨ab,xs,rfl,hab,hda⟩:=hd.tupI
 have s1:=z02 hpr (HO.lst [])
 have hxl:xs.length=b.length:=by rw [hda.length,z6y]
 refine⟨ab,rfl,⟨_,SqT.of (s1 _ _ hab)⟩,?_⟩
 refine zmo (xs:=xs) (q7k H ab pv p b pr) ?start ?lst ?step ?done
 case start=>exact⟨[],_,_,_,_,_,rfl,s1,z01,by rw [List.take_zero,z17]; exact .nil⟩
 case lst=>
  rintro i σ Hc _ ⟨vs,_,_,_,_,_,rfl,sc,_⟩
  exact SqT.of (sc _ _ hab)
 case done=>
  rintro σ Hc ⟨vs,_,_,_,_,_,rfl,sc,hv,dv⟩
  walk_at "rd7"
  rw [hxl,List.take_length] at dv
  exact q pr Hc vs sc hpr hv dv
 case step=>
  rintro i x σ Hc Tu hx ⟨vs,_,_,_,_,_,rfl,sc,hv,dv⟩ hT
  obtain⟨d,hbi,dx⟩:=zw6 hda hx
  have hib:i < b.length:=(List.getElem?_eq_some_iff.mp hbi).1
  have s2:=z02 hT (HO.tup [V.int i,x])
  walk_at "rd7"
  refine⟨_,SqT.of z01,rfl,_,_,rfl,_,_,rfl,rfl,zl 1 (by decide),fun r1 h1=>?_⟩
  have s3:=z02 h1 (HO.tup [V.int i])
  refine zqx (hp.kp (sc.trans (s2.trans s3)).kp) zdr (by simp; omega) fun z H1 s4 dz=>?_
  have s24:=(s2.trans s3).trans s4
  refine⟨.inl ⟨rfl,_,SqL.of (s24 _ _ hv)⟩,zl 2 (by decide),fun r2 h2=>?_⟩
  have s5:=z02 h2 (HO.tup [z,x])
  have s25:=s24.trans s5
  have hbn:=zqy hn
  have hvl:vs.length<=942:=by
   have e:vs.length=(z17 p 0 (b.take i)).length:=by rw [dv.length,List.length_map]
   have:=zi7 hok (i:=i) p
   omega
  refine⟨_,s25 _ _ hv,z20 (by omega),?_⟩
  have hw2:(upd H1 r2 (HO.tup [z,x])) r2=some (.tup [z,x]):=z01
  have rowW:Dt (upd H1 r2 (HO.tup [z,x])) (.ref r2) (zxs (p++[(i:Int)],d)):=.tup hw2 (.cons (dz.kp s5.kp) (.cons (dx.kp (sc.trans s25).kp) .nil))
  have hvW:=s25 _ _ hv
  generalize upd H1 r2 (HO.tup [z,x])=W at s5 s25 hw2 rowW hvW |-
  have k6:Kp W (upd W pr (HO.lst (vs++[V.ref r2]))):=Kp.set hvW
  have sU:Same H (upd W pr (HO.lst (vs++[V.ref r2]))):=z65 (sc.trans s25) hpr
  have vU:(upd W pr (HO.lst (vs++[V.ref r2]))) pr=some (.lst (vs++[V.ref r2])):=z01
  have dU:DtA (upd W pr (HO.lst (vs++[V.ref r2]))) (vs++[V.ref r2]) ((z17 p 0 (b.take i)++[(p++[(i:Int)],d)]).map zxs):=by
   rw [List.map_append]
   exact(dv.kp (s25.kp.trans k6)).append (.cons (rowW.kp k6) .nil)
  have hzU:=dz.kp (s5.kp.trans k6)
  generalize upd W pr (HO.lst (vs++[V.ref r2]))=U at k6 sU vU dU hzU |-
  refine⟨x,d,rfl,dx.kp sU.kp,fun rb H5 bs s6 f6 hb db=>?_⟩
  refine⟨rb,rfl,⟨_,SqL.of hb⟩,?_⟩
  have hnp:rb≠pr:=fun e=>by rw [e,vU] at f6; cases f6
  refine zh1 (xs:=bs) (q65 H H5 rb bs ab pv p b pr i d x z) ?s2 ?l2 ?st2 ?d2
  case s2=>exact⟨vs++[V.ref r2],_,_,_,rfl,sU.trans s6,s6 _ _ vU,by rw [List.take_zero,z68]; exact dU.kp s6.kp,Kp.refl _,hb⟩
  case l2=>
   rintro j σ Hd _ ⟨us,_,_,_,rfl,_,_,_,_,hbd⟩
   exact SqL.of hbd
  case d2=>
   rintro σ Hd ⟨us,_,_,_,rfl,sd,hu,du,_⟩
   have e:bs.length=d.blocks.length:=by rw [db.length,List.length_map]
   rw [e,List.take_length,<- zz2 hbi] at du
   exact⟨us,_,_,_,_,_,rfl,sd,hu,du⟩
  case st2=>
   rintro j y σ Hd hy ⟨us,_,_,_,rfl,sd,hu,du,kd,hbd⟩
   obtain⟨nb,hnb,dnb⟩:=zas db hy
   obtain⟨pp,y0,y1,rfl,hpp,u0,u1⟩:=zjn (dnb.kp kd)
   cases u0
   walk_at "rd7"
   have hdo:=hok.2 d (List.mem_of_getElem? hbi)
   have hbok:okB n nb.2:=zep hdo (List.mem_of_getElem? hnb)
   refine⟨_,SqT.of hpp,rfl,_,_,rfl,_,_,rfl,rfl,.inl ⟨rfl,_,SqL.of hu⟩,zl 1 (by decide),fun r3 h3=>?_⟩
   have s7:=z02 h3 (HO.tup [V.int nb.1])
   refine zqx (hzU.kp (s6.kp.trans (kd.trans s7.kp))) zdr (by simp; omega) fun z2 H6 s8 dz2=>?_
   have s78:=s7.trans s8
   refine⟨y1,nb.2,z2,_,rfl,u1.kp s78.kp,dz2,hbok,by omega,by simp; omega,fun r4 H7 ws s9 f9 h9 d9=>?_⟩
   have s79:=s78.trans s9
   have hws:ws.length<=942:=by
    have e:ws.length=(z17 (p++[(i:Int)]++[nb.1]) 0 nb.2).length:=by rw [d9.length,List.length_map]
    have g1:=z3w n nb.2 (p++[(i:Int)]++[nb.1]) 0 hbok
    have g2:=zqy (n:=n) (by omega)
    omega
   have hus:us.length<=2900:=by
    have e:=du.length
    rw [List.length_map,List.length_append,List.length_cons] at e
    have g1:=zi7 hok (i:=i) p
    have g2:=zy4 hdo (by omega) (p++[(i:Int)]) (d.blocks.take j) (fun q hq=>List.mem_of_mem_take hq) (by rw [List.length_take]; have:=zt1 d; omega)
    omega
   refine⟨r4,rfl,us,s79 _ _ hu,ws,h9,zz (by omega),?_⟩
   have k7:Kp H7 (upd H7 pr (HO.lst (us++ws))):=Kp.set (s79 _ _ hu)
   refine⟨us++ws,_,_,_,rfl,z65 (sd.trans s79) hpr,z01,?_,kd.trans (s79.kp.trans k7),by rw [z0b hnp]; exact s79 _ _ hbd⟩
   rw [z3h hnb,zg0,z68,z68,List.append_nil,<- List.cons_append,<- List.append_assoc,List.map_append]
   exact(du.kp (s79.kp.trans k7)).append (d9.kp k7)
end
section
variable{P:Program}{w:World}{K:PySem.W.Frag}{mg:Str->Option Value}{base:Heap}{f:Addr}{fd:FuncData}
theorem zs9{k:Nat}{n1 n2:Str}:FnOk P w K mg base CX0 k f fd [n1,n2] (zf2 0):=by
 have no:∀vs H Q E,¬ zf2 0 vs H Q E:=fun vs H Q E h=>by
  obtain⟨v,t,pv,p,_,_,_,h1,_⟩:=h
  cases t<;>simp[T.deep] at h1
 exact⟨fun vs H Q E h=>absurd h (no vs H Q E),fun A outer s H args us vs Q E _ _ _ _ h=>absurd h (no vs H Q E)⟩
theorem zsa{k:Nat}{n1 n2:Str}:FnOk P w K mg base CX0 k f fd [n1,n2] (zf3 0):=by
 have no:∀vs H Q E,¬ zf3 0 vs H Q E:=fun vs H Q E h=>by
  obtain⟨v,t,pv,p,_,_,_,h1,_⟩:=h
  exact h1
 exact⟨fun vs H Q E h=>absurd h (no vs H Q E),fun A outer s H args us vs Q E _ _ _ _ h=>absurd h (no vs H Q E)⟩
theorem znm(d:Df K mg "spots_of_term" z2i ["term","path"] f fd):∀n:Nat,Callee P w K mg base "spots_of_term" ["term","path"] (n+1) (zf2 n)
 | 0=>d.callee zs9
 | n+1=>d.callee (zgc d.F (znm d n))
theorem zg8(d:Df K mg "deeds_of_block" z0d ["block","path"] f fd) (b_enumerate:mg "enumerate" = none) (c_blocks_of:Callee P w K mg base "blocks_of" ["deed"] 1 zf4):∀n:Nat,Callee P w K mg base "deeds_of_block" ["block","path"] (n+2) (zf3 n)
 | 0=>d.callee zsa
 | n+1=>d.callee (zff d.F b_enumerate c_blocks_of (zg8 d b_enumerate c_blocks_of n))
def zbq:Sp:=fun vs H Q _=>∃v ins b,vs=[v]/\Dt H v (.tup [ins,.tup (encB b)])/\okB 3 b/\∀(r:Addr) (H':Hp) (xs:List V),Same H H'->H r=none->H' r=some (.lst xs)->DtA H' xs ((z1x b).map zxs)->Q (.ref r) H'
theorem zm9(F:Fun K "all_deeds" "all_deeds" z6r f fd) (c_deeds_of_block:Callee P w K mg base "deeds_of_block" ["block","path"] 5 (zf3 3)):FnOk P w K mg base CX0 6 f fd ["program"] zbq:=by
 refine F.ok zlo (fun vs H Q E h=>?_) (fun cdv A outer s H vs Q E hr h=>?_)
 ·obtain⟨v,ins,b,rfl,_⟩:=h
  rfl
 obtain⟨v,ins,b,rfl,hd,hok,q⟩:=h
 refine⟨_,(z0a (z0h (z18 c_deeds_of_block hr (by omega) (z09 (z0z z0n (z00 (i:=0) rfl zaf z2o z2p) z03 (fun _ _=>rfl)) (z09 (z13 z04) z04)) z6x z8s))),?_⟩
 walk_at "rd7"
 obtain⟨a,x0,x1,rfl,ha,t0,t1⟩:=zjn hd
 refine⟨_,rfl,_,SqT.of ha,_,rfl,Nat.zero_le _,fun r1 h1=>?_⟩
 have s1:=z02 h1 (HO.tup [])
 exact⟨x1,b,.ref r1,[],rfl,t1.kp s1.kp,.tup z01 .nil,hok,by decide,by decide,fun r H' xs s2 f2 h2 d2=>q r H' xs (s1.trans s2) (s1.free f2) h2 d2⟩
def zgw:Sp:=fun vs H Q _=>∃v ins b,vs=[v]/\Dt H v (.tup [ins,.tup (encB b)])/\okB 3 b/\∀(r:Addr) (H':Hp) (xs:List V),Same H H'->H r=none->H' r=some (.lst xs)->DtA H' xs ((z2x b).map q0h)->Q (.ref r) H'
theorem zy9(F:Fun K "spots" "spots" z5c f fd) (c_all_deeds:Callee P w K mg base "all_deeds" ["program"] 6 zbq) (c_spots_of_term:Callee P w K mg base "spots_of_term" ["term","path"] 6 (zf2 5)) (c_term_of:Callee P w K mg base "term_of" ["deed"] 1 zpm):FnOk P w K mg base CX0 7 f fd ["program"] zgw:=by
 refine F.ok sc_spots (fun vs H Q E h=>?_) (fun cdv A outer s H vs Q E hr h=>?_)
 ·obtain⟨v,ins,b,rfl,_⟩:=h
  rfl
 obtain⟨v,ins,b,rfl,hd,hok,q⟩:=h
 refine⟨_,(z06 (z1g (i:=1) sc_spots.nd rfl zit (z44 z04) (z05 rfl))
 (z06 (zdo PassesOwn.never rfl (z6s (z18 c_all_deeds hr (by omega) (z09 (z00 (i:=0) rfl zet z2o z2p) z04) ze5 zbc)) (zcj (n:=2) rfl (z0y (z10 (i:=2) sc_spots.nd rfl ziu) (z0y (z10 (i:=3) sc_spots.nd rfl ziv) z4f)))
 (z0a (z46 (zdq PySem.F.plainAttrs_list PySem.F.slot_list_extend PySem.F.type_list_extend zma (z00 (i:=1) rfl zci zb9 zbj) (z09 (z18 c_spots_of_term hr (by omega) (z09 (z18 c_term_of hr (by omega) (z09 (z00 (i:=3) rfl zil z1o z1p) z04) zgk zsp) (z09 (z0r z3d (z00 (i:=2) rfl zik z19 z1b) (z13 (z09 z03 z04))) z04)) zaa z5y) z04)) (z05 rfl))))
 (z0a (z0h (z00 (i:=1) rfl zci zb9 zbj))))),?_⟩
 walk_at "rd7"
 refine⟨Nat.zero_le _,fun pr hpr=>?_⟩
 have s1:=z02 hpr (HO.lst [])
 refine⟨v,ins,b,rfl,hd.kp s1.kp,hok,fun ra H1 us s2 f2 h2 d2=>?_⟩
 have hne:ra≠pr:=fun e=>by rw [e,z01] at f2; cases f2
 have hrows:=z8q 3 b [] 0 hok
 have hbl:=z3w 3 b [] 0 hok
 have hb3:bnd 3=942:=by decide
 refine⟨ra,rfl,⟨_,SqL.of h2⟩,?_⟩
 refine zh1 (xs:=us) (q7f H v (z1x b) ra us pr) ?start ?lst ?step ?done
 case start=>exact⟨[],_,_,rfl,s1.trans s2,s2 _ _ z01,by rw [List.take_zero,z4a]; exact .nil,h2,d2⟩
 case lst=>
  rintro i σ Hc _ ⟨vs,_,_,rfl,_,_,_,hu,_⟩
  exact SqL.of hu
 case done=>
  rintro σ Hc ⟨vs,_,_,rfl,sc,hv,dv,hu,du⟩
  walk_at "rd7"
  rw [show us.length=(z1x b).length by rw [d2.length,List.length_map],List.take_length] at dv
  exact q pr Hc vs sc hpr hv dv
 case step=>
  rintro i y σ Hc hy ⟨vs,_,_,rfl,sc,hv,dv,hu,du⟩
  obtain⟨r,hri,dr⟩:=zas du hy
  obtain⟨pp,y0,y1,rfl,hpp,u0,u1⟩:=zjn dr
  walk_at "rd7"
  have hrm:=hrows r (List.mem_of_getElem? hri)
  refine⟨_,SqT.of hpp,rfl,_,_,rfl,_,_,rfl,rfl,.inl ⟨rfl,_,SqL.of hv⟩,y1,r.2,rfl,u1,fun x dx=>⟨zl 1 (by decide),fun r1 h1=>?_⟩⟩
  have s3:=z02 h1 (HO.tup [V.int 0])
  have hrl:r.1.length<=6:=by have:=hrm.1; simp at this; omega
  refine zqx (u0.kp s3.kp) zdr (by simp; omega) fun z H2 s4 dz=>?_
  have s34:=s3.trans s4
  refine⟨x,r.2.term,z,_,rfl,dx.kp s34.kp,dz,zhg hrm.2,by decide,by simp; omega,fun r4 H3 ws s5 f5 h5 d5=>?_⟩
  have s35:=s34.trans s5
  have l1:ws.length<=64:=by
   rw [d5.length,List.length_map]
   exact z93 (zhg hrm.2) (by decide)
  have l2:vs.length<=942 * 64:=by
   have e:vs.length=(z4a ((z1x b).take i)).length:=by rw [dv.length,List.length_map]
   have g1:=zbp ((z1x b).take i) fun z hz=>(hrows z (List.mem_of_mem_take hz)).2
   have g2:((z1x b).take i).length<=942:=by
    rw [List.length_take]
    have:(z1x b).length<=bnd 3:=hbl
    omega
   have g3:((z1x b).take i).length * 64<=942 * 64:=Nat.mul_le_mul_right _ g2
   omega
  refine⟨r4,rfl,vs,s35 _ _ hv,ws,h5,zz5 (by omega),?_⟩
  have k6:Kp H3 (upd H3 pr (HO.lst (vs++ws))):=Kp.set (s35 _ _ hv)
  refine⟨vs++ws,_,_,rfl,z65 (sc.trans s35) hpr,z01,?_,by rw [z0b hne]; exact s35 _ _ hu,du.kp (s35.kp.trans k6)⟩
  rw [z3h hri,zdd,z4a,z4a,List.append_nil,List.map_append]
  exact(dv.kp (s35.kp.trans k6)).append (d5.kp k6)
end
section
variable{P:Program}{w:World}{K:PySem.W.Frag}{mg:Str->Option Value}{base:Heap}{f:Addr}{fd:FuncData}
theorem zqn{H:Hp}:∀{xs:List V} {ds:List Dm} (n:Nat),DtA H xs ds->DtA H (xs.take n) (ds.take n)
 | _,_,0,_=>by simp; exact .nil
 | _,_,n+1,.nil=>by simp; exact .nil
 | _,_,n+1,.cons h t=>by simp only[List.take_succ_cons]; exact .cons h (zqn n t)
def TabM(pt:Addr)(q:Str)(H:Hp):Prop:=∃ps,H pt=some (.tbl ps)/\TriplesOk ps.toList/\∀pos v,codeAmong pos ps.toList=some v->∃c',v=.ref c'/\H c'=some (zch c' q)
theorem zl6(a b:Nat)(v:Value)(l:List Value):TriplesOk l->TriplesOk (l++[rawInt a,rawInt b,v]):=by
 fun_induction TriplesOk l with
 | case1=>intro _; simp[TriplesOk,rawInt]
 | case2 i t j u c zo8 ih=>intro h; exact ih h
 | case3=>intro h; exact h.elim
theorem zt4(pos p:Pos)(v u:Value)(l:List Value):TriplesOk l->codeAmong pos (l++[rawInt p.line,rawInt p.col,v])=some u->codeAmong pos l=some u\/u=v:=by
 fun_induction TriplesOk l with
 | case1=>
  intro _ h
  right
  simp only[List.nil_append,rawInt,codeAmong] at h
  split at h
  ·exact(Option.some.inj h).symm
  ·cases h
 | case2 i t j u' c zo8 ih=>
  intro h e
  simp only[List.cons_append,codeAmong] at e |-
  split at e
  ·rename_i hh
   rw [if_pos hh]
   exact .inl e
  ·rename_i hh
   rw [if_neg hh]
   exact ih h e
 | case3=>intro h; exact h.elim
theorem TabM.tb{pt:Addr}{q:Str}{H:Hp}(h:TabM pt q H):∃ps,H pt=some (.tbl ps):=let ⟨ps,e,_⟩:=h; ⟨ps,e⟩
theorem TabM.kp{pt:Addr}{q:Str}{H H':Hp}(h:TabM pt q H)(k:∀a o,(∀xs,o≠.lst xs)->(∀C dx fs,o≠.ins C dx fs)->H a=some o->H' a=some o):TabM pt q H':=by
 obtain⟨ps,e,t,c⟩:=h
 refine⟨ps,k _ _ (by intro xs z; cases z) (by intro C dx fs z; cases z) e,t,fun pos v z=>?_⟩
 obtain⟨c',e1,e2⟩:=c pos v z
 exact⟨c',e1,k _ _ (by intro xs z; cases z) (by intro C dx fs z; cases z) e2⟩
theorem zvb{pt:Addr}{pos:Pos}{D:LamD}{cl:List (Str×Addr)}{σ : St}{H:Hp}{Q:VK}(hT:TabM pt D.qual H)(q:∀(fa c':Addr) (H2:Hp),SameB pt H H2->H fa=none->H2 fa=some (zqf D cl fa c')->H2 c'=some (zch c' D.qual)->TabM pt D.qual H2->Q (.ref fa) H2):q5b pt pos D cl σ H Q:=by
 obtain⟨ps,hP,ht,hc⟩:=hT
 refine⟨ps,hP,ht,?_⟩
 cases e:codeAmong pos ps.toList with
 | none=>
  refine .inl ⟨rfl,fun c' fa h1 h2 hne=>?_⟩
  have n1:pt≠c':=z0e hP h1
  have n2:pt≠fa:=z0e hP h2
  have sB:SameB pt H (upd (upd (upd H pt (.tbl (ps ++ #[rawInt pos.line,rawInt pos.col,.ref c']))) c' (zch c' D.qual)) fa (zqf D cl fa c')):=fun a o n e=>by rw [z0b (z0e e h2),z0b (z0e e h1),z0b n]; exact e
  refine q fa c' _ sB h2 z01 (by rw [z0b hne,z01]) ⟨_,by rw [z0b n2,z0b n1,z01],?_,fun pos' v z=>?_⟩
  ·rw [Array.toList_append]
   exact zl6 _ _ _ _ ht
  ·rw [Array.toList_append] at z
   rcases zt4 _ _ _ _ _ ht z with z | z
   ·obtain⟨c2,e1,e2⟩:=hc pos' v z
    exact⟨c2,e1,sB _ _ (fun w=>by rw [w,hP] at e2; unfold zch at e2; cases e2) e2⟩
   ·exact⟨c',z,by rw [z0b hne,z01]⟩
 | some v=>
  obtain⟨c',rfl,e2⟩:=hc pos v e
  refine .inr ⟨c',rfl,e2,fun fa h1=>?_⟩
  have s1:=z02 h1 (zqf D cl fa c')
  refine q fa c' _ (SameB.of s1) h1 z01 (s1 _ _ e2) ⟨ps,s1 _ _ hP,ht,fun pos' v z=>?_⟩
  obtain⟨c2,e1,e3⟩:=hc pos' v z
  exact⟨c2,e1,s1 _ _ e3⟩
theorem zcn{x:Str}{c:Addr}:∀{fr:List Str} {as:List Addr},fr.Nodup->as.Nodup->(fr.zip as).lookup x=some c->∃i:Nat,fr[i]?=some x/\as[i]?=some c
 | [],_,_,_,h=>by simp at h
 | _::_,[],_,_,h=>by simp at h
 | y::fr,a::as,n1,n2,h=>by
  rw [List.zip_cons_cons,List.lookup] at h
  split at h
  ·rename_i e
   cases h
   exact⟨0,by simpa using(beq_iff_eq.mp e).symm,rfl⟩
  ·obtain⟨i,h1,h2⟩:=zcn (List.nodup_cons.mp n1).2 (List.nodup_cons.mp n2).2 h
   exact⟨i+1,h1,h2⟩
theorem z5e{fr:List Str}{as:List Addr}{sc:Scope}(h1:sc.kind=.function)(h2:sc.isCoroutine=false)(h3:sc.isGenerator=false)(h4:fr.Nodup)(h5:∀x∈fr,sc.names.lookup x=some .free)(h6:∀y∈sc.names,y.2≠.cell)(h7:∀y∈sc.names,y.2=.free->y.1∈fr)(hl:fr.length=as.length)(hn:as.Nodup):LamScope [] fr (fr.zip as) sc:=by
 have get:∀{i:Nat} {x:Str} {c:Addr},fr[i]?=some x->as[i]?=some c->(fr.zip as).lookup x=some c:=by
  intro i x c e1 e2
  clear h1 h2 h3 h5 h6 h7
  induction fr generalizing as i with
  | nil=>simp at e1
  | cons y fr ih=>
   match as,hl,hn,e2 with
   | [],hl,_,_=>simp at hl
   | a::as,hl,hn,e2=>
    have n1:=List.nodup_cons.mp h4
    cases i with
    | zero=>
     have e1':y=x:=by simpa using e1
     have e2':a=c:=by simpa using e2
     subst e1' e2'
     rw [List.zip_cons_cons,List.lookup,beq_self_eq_true]
    | succ i=>
     have e1':fr[i]?=some x:=by simpa using e1
     have:(x == y)=false:=by
      rw [beq_eq_false_iff_ne]
      rintro rfl
      exact n1.1 (List.mem_of_getElem? e1')
     rw [List.zip_cons_cons,List.lookup,this]
     exact ih n1.2 (by simpa using hl) (List.nodup_cons.mp hn).2 e1' (by simpa using e2)
 refine⟨h1,h2,h3,h4,by simp,h5,h6,fun y hy e=>?_,fun x y c e1 e2=>?_,fun x c h=>?_⟩
 ·obtain⟨i,hi,e'⟩:=List.getElem_of_mem (h7 y hy e)
  exact⟨as[i]'(by omega),get (List.getElem?_eq_some_iff.mpr ⟨hi,e'⟩) (List.getElem?_eq_getElem (by omega))⟩
 ·obtain⟨i,a1,a2⟩:=zcn h4 hn e1
  obtain⟨j,b1,b2⟩:=zcn h4 hn e2
  have hi:=(List.getElem?_eq_some_iff.mp a2).1
  have:i=j:=(List.getElem?_inj hi hn).mp (a2.trans b2.symm)
  subst this
  rw [a1] at b1
  exact Option.some.inj b1
 ·obtain⟨i,hi,e⟩:=List.getElem_of_mem h
  rw [List.getElem_zip] at e
  have l:=hi
  rw [List.length_zip] at l
  have e1:=congrArg Prod.fst e
  have e2:=congrArg Prod.snd e
  exact get (i:=i) (List.getElem?_eq_some_iff.mpr ⟨by omega,e1⟩) (List.getElem?_eq_some_iff.mpr ⟨by omega,e2⟩)
theorem zm2{σ : St}:∀{cs:List (Nat×Addr)} {ws:List V},Paired (fun(i:Nat) (v:V)=>σ[i]?=some (some v)) (cs.map (·.1)) ws->q67 σ cs ws
 | [],_,.nil=>.nil
 | _::_,_,.cons e r=>.cons e (zm2 r)
theorem zqs:∀{os:List (Addr×Obj)} {ws:List V},zeq os ws->∀{i:Nat} {v:V},ws[i]?=some v->∃c o u,os[i]?=some (c,o)/\o.data=.cell (some u)/\RelV v u
 | _,_,.nil,i,v,h=>by simp at h
 | (c,o)::_,y::_,.cons ⟨u,e1,e2⟩ r,0,v,h=>by
  have:y=v:=by simpa using h
  subst this
  exact⟨c,o,u,rfl,e1,e2⟩
 | _::_,_,.cons _ r,i+1,v,h=>by
  obtain⟨c,o,u,h1,h2⟩:=zqs r (i:=i) (v:=v) (by simpa using h)
  exact⟨c,o,u,by simpa using h1,h2⟩
theorem zqt:∀{os:List (Addr×Obj)} {ws:List V},zeq os ws->∀q∈os,∃u,q.2.data=.cell (some u)
 | _,_,.nil,q,h=>absurd h (by simp)
 | _::_,_,.cons ⟨u,e1,e2⟩ r,q,h=>by
  rcases List.mem_cons.mp h with rfl | h
  ·exact⟨u,e1⟩
  ·exact zqt r q h
theorem zmb:∀{os:List (Addr×Obj)} {i:Nat} {c:Addr} {o:Obj},(os.map (·.1)).Nodup->os[i]?=some (c,o)->os.lookup c=some o
 | [],_,_,_,_,h=>by simp at h
 | (b,u)::os,0,c,o,n,h=>by
  have e:b=c/\u=o:=by simpa using h
  obtain⟨rfl,rfl⟩:=e
  rw [List.lookup,beq_self_eq_true]
 | (b,u)::os,i+1,c,o,n,h=>by
  have h':os[i]?=some (c,o):=by simpa using h
  have n':=List.nodup_cons.mp n
  have:(c == b)=false:=by
   rw [beq_eq_false_iff_ne]
   rintro rfl
   exact n'.1 (List.mem_map.mpr ⟨_,List.mem_of_getElem? h',rfl⟩)
  rw [List.lookup,this]
  exact zmb n'.2 h'
theorem zt2{fd:FuncData}{ar:Arguments}{sc:Scope}(h1:fd.params=ar)(h2:fd.defaults=.none)(h3:fd.kwdefaults=.none)(h4:fd.scope=sc)(h:ar = {posonlyargs:=[],args:=[],vararg:=none,kwonlyargs:=[],kw_defaults:=[],kwarg:=none,defaults:=[]}:=by rfl):bindArgs fd ⟨[],[]⟩=pure []:=by
 subst h
 obtain⟨name,qual,params,body,scope,globals,closure,defaults,kwdefaults,doc,pm,an,code,ct,bu⟩:=fd
 cases h1
 cases h2
 cases h3
 cases h4
 rfl
abbrev qL:Str:="law" ++ ".<locals>." ++ "<lambda>"
end
section
variable{P:Program}{w:World}{K:PySem.W.Frag}{mg:Str->Option Value}{base:Heap}{f:Addr}{fd:FuncData}
def ztq(R:Addr->Hp->VK->Prop)(i:Nat):TE:=fun σ H Q=>∃f,σ[i]?=some (some (.ref f))/\IsLam H f/\R f H Q
theorem zlz{X:Cx}{x:Str}{i k j:Nat}{p pos:Pos}(hN:X.N[i]?=some x)(hv:Vis X.env.scope x)(hr:Room j X.A)(hk:k<=j)
  (hd:(x == ("__debug__" : Str))=false:=by decide) (hcd:(x == ("__classdict__" : Str))=false:=by decide) :
  PE X (.Call (.Name x p) [] [] pos) (ztq (fun f H Q=>zt9 X.prog X.w X.K X.mg X.base k f H [] Q) i):=by
 refine⟨?_⟩
 intro pins s σ H Q I h
 obtain⟨f,ei,hl,h⟩:=h
 refine wpAny_Call_Name_kw (thn (z00 (pos:=p) hN hv hd hcd pins s σ H (fun x' H'=>x'=.ref f/\IsLam H' f/\zt9 X.prog X.w X.K X.mg X.base k f H' [] Q) I (isV.i ei ⟨rfl,hl,h⟩)) fun u s0 ⟨x',H',I',r',ex,hl',h'⟩=>?_)
 subst ex
 cases r'
 refine PySem.W.callWith_F0 (first:=[]) (hl'.at I') ?_
 refine wpAny_call (codeAny_mono (h' X.A X.stack s0 [] (hr.mono hk) I'.env0 .nil) fun r s' hq=>?_)
 cases r with
 | error e=>exact False.elim hq
 | ok fl=>
  cases fl with
  | ret u=>exact I'.after hq
  | next=>exact False.elim hq
  | brk=>exact False.elim hq
  | cont=>exact False.elim hq
def zt5(ds:List Dm):Prop:=zf7 ds=true/\SeqAt.shaped (.list (zej ds))=true/\PyData.eqv (.list (zej ds)) (.list (zej ds))=true
abbrev zap(H:Hp)(p l:Addr)(xs:List V):Hp:=upd (upd H p (.lst xs)) l (.lst (xs++[.str "?"]))
def znw(P:Program)(w:World)(K:PySem.W.Frag)(mg:Str->Option Value)(base:Heap):Sp:=fun vs H Q _=>∃fa:Addr,vs=[.ref fa]/\IsLam H fa/\zt9 P w K mg base 10 fa H [] fun v H1=>
 ∃(l:Addr) (xs:List V) (ds:List Dm),v=.ref l/\H1 l=some (.lst xs)/\DtA H1 xs ds/\zt5 ds/\xs.length < sizeLine/\∀p,H1 p=none->IsLam (zap H1 p l xs) fa/\zt9 P w K mg base 10 fa (zap H1 p l xs) [] fun v' H3=>
  ∃(l':Addr) (xs':List V),v'=.ref l'/\H3 l'=some (.lst xs')/\DtA H3 xs' ds/\H3 p=some (.lst xs)/\DtA H3 xs ds/\Q (.bl true) H3
def SQ2(U:Hp)(ds:List Dm)(Q:VK)(v':V)(H3:Hp):Prop:=∃(l':Addr) (xs':List V),v'=.ref l'/\Same U H3/\H3 l'=some (.lst xs')/\DtA H3 xs' ds/\Q (.bl true) H3
def SQ1(t:Hp->VK->Prop)(H0:Hp)(Q:VK)(v:V)(H1:Hp):Prop:=∃(l:Addr) (xs:List V) (ds:List Dm),v=.ref l/\Same H0 H1/\H1 l=some (.lst xs)/\DtA H1 xs ds/\zt5 ds/\xs.length < sizeLine/\
  ∀p,H1 p=none->∀Q2:VK,(∀v' H3,SQ2 (zap H1 p l xs) ds Q v' H3->Q2 v' H3)->t (zap H1 p l xs) Q2
def zzc(pt:Addr)(q:Str)(is:List Nat)(t:TE):TE:=fun σ H Q=>TabM pt q H/\∃ws:List V,Paired (fun(i:Nat) (v:V)=>σ[i]?=some (some v)) is ws/\
 ∀H0,SameB pt H H0->TabM pt q H0->∀Q1:VK,(∀v H1,SQ1 (t (ws.map some)) H0 Q v H1->Q1 v H1)->t (ws.map some) H0 Q1
theorem z97{H:Hp}{p l b:Addr}{xs:List V}{o:HO}(hp:H p=none)(e:H b=some o)(hb:b≠l):zap H p l xs b=some o:=by
 unfold zap
 rw [z0b hb,z0b (z0e e hp)]
 exact e
theorem zpu{H:Hp}{p l:Addr}{xs:List V}(hp:H p=none)(hl:H l=some (.lst xs)):Kp H (zap H p l xs):=(z02 hp (.lst xs)).kp.trans (Kp.set ((z02 hp (.lst xs)) _ _ hl))
theorem zlp{cs:List Addr}{G H:Hp}(hn:∀c∈cs,H c=none):Same H (zgs cs G H):=fun a o e=>by
 rw [z50 fun z=>by rw [hn a z] at e; cases e]
 exact e
theorem zvq{cs:List Addr}{G H:Hp}{p l:Addr}{xs:List V}(hn:∀c∈cs,H c=none)(np:p∉cs)(nl:l∉cs):zh0 cs (zap (zgs cs G H) p l xs)=zap H p l xs:=by
 funext b
 by_cases hb:b∈cs
 ·rw [z9k hb]
  unfold zap
  have h1:b≠l:=fun z=>nl (z ▸ hb)
  have h2:b≠p:=fun z=>np (z ▸ hb)
  rw [z0b h1,z0b h2,hn b hb]
 ·rw [z1t hb]
  unfold zap upd
  rw [z50 hb]
theorem zmd{P:Program}{w:World}{K:PySem.W.Frag}{mg:Str->Option Value}{base:Heap}{params:Arguments}{body:Expr}{scope:Scope}{q:Str}{fr:List Str}{cs:List (Nat×Addr)}{os:List (Addr×Obj)}{ws:List V}{t:TE}{fa c':Addr}{G:Hp}{Q:VK}
  (S:LamScope [] fr (fr.zip (cs.map (·.2))) scope) (hlen:fr.length=cs.length) (em:os.map (·.1)=cs.map (·.2)) (hca:zeq os ws) (hnd:(cs.map (·.2)).Nodup)
  (hbind:∀fd:FuncData,fd.params=params->fd.defaults=.none->fd.kwdefaults=.none->fd.scope=scope->bindArgs fd ⟨[],[]⟩=pure [])
  (hbody:∀(f c':Addr) (A:Around) (outer:List PySem.Env) (s:Shared) (H:Hp),Room 9 (A.deeper (PySem.W.envX q scope s.heap.objs.size f (.ref c') (fr.zip (cs.map (·.2)))))->PE (cxL P w K mg base fr ⟨q,params,body,scope⟩ (fr.zip (cs.map (·.2))) f c' A outer s H E0) body t)
  (hf:G fa=some (zqf ⟨q,params,body,scope⟩ (fr.zip (cs.map (·.2))) fa c')) (hc:G c'=some (zch c' q)) (hG:∀b o,os.lookup b=some o->G b=some (z4g b o))
  (h:t (ws.map some) (zh0 (os.map (·.1)) G) fun v H'=>(∀c∈os.map (·.1),H' c=none)->Q v (zgs (os.map (·.1)) G H')):zt9 P w K mg base 10 fa G [] Q:=by
 intro A outer s us hr' e0 r
 cases r
 have ecl:(fr.zip (cs.map (·.2))).map (·.2)=os.map (·.1):=by rw [em]; exact List.map_snd_zip (by rw [List.length_map]; omega)
 have lw:ws.length=fr.length:=by rw [hlen,<- Paired.length hca,<- List.length_map (f:=(·.1)),em,List.length_map]
 have ond:(os.map (·.1)).Nodup:=by rw [em]; exact hnd
 refine zva (k:=9) (ps:=[]) (fr:=fr) (ws:=ws) S hr' e0 hf hc rfl .nil lw (fun b hb=>?_) (fun i x v h1 h2=>?_) hbind fun hr2=>⟨_,hbody fa c' A outer s G hr2,?_⟩
 ·rw [ecl] at hb
  obtain⟨o,e⟩:=zbu hb
  obtain⟨u,hu⟩:=zqt hca _ (PySem.W.mem_of_lookupK e)
  exact⟨o,_,hG _ _ e,hu⟩
 ·obtain⟨b,o,u,h3,h4,h5⟩:=zqs hca h2
  refine⟨b,o,u,S.look x b (List.mem_of_getElem? (i:=i) ?_),hG _ _ (zmb ond h3),h4,h5⟩
  have:(cs.map (·.2))[i]?=some b:=by rw [<- em,List.getElem?_map,h3]; rfl
  rw [List.getElem?_zip_eq_some]
  exact⟨h1,this⟩
 ·rw [ecl]
  exact h
theorem zbr{X:Cx}{c pt:Addr}{j:Nat}{q:Str}{params:Arguments}{body:Expr}{scope:Scope}{fr:List Str}{cs:List (Nat×Addr)}{t:TE}{p lpos pos:Pos}
  (C:Callee X.prog X.w X.K X.mg X.base "_law_stays" ["_law_deed"] 11 (znw X.prog X.w X.K X.mg X.base)) (hr:Room j X.A) (hk:11<=j)
  (hdef:defaultsOf params X.env=([],[])) (hcl:closureFor scope X.env=pure (fr.zip (cs.map (·.2)))) (hcode:X.env.code=.ref c) (hC:PySem.W.CodeHd X.base c pt) (hB:X.base.BuiltinsAt X.mg pt) (hgP:mainGlobals≠pt)
  (hq:X.env.qual ++ "<lambda>" = q) (hcs:q22 X cs) (S:LamScope [] fr (fr.zip (cs.map (·.2))) scope) (hlen:fr.length=cs.length) (hnd:(cs.map (·.2)).Nodup)
  (hbind:∀fd:FuncData,fd.params=params->fd.defaults=.none->fd.kwdefaults=.none->fd.scope=scope->bindArgs fd ⟨[],[]⟩=pure [])
  (hbody:∀(f c':Addr) (A:Around) (outer:List PySem.Env) (s:Shared) (H:Hp),Room 9 (A.deeper (PySem.W.envX q scope s.heap.objs.size f (.ref c') (fr.zip (cs.map (·.2)))))->PE (cxL X.prog X.w X.K X.mg X.base fr ⟨q,params,body,scope⟩ (fr.zip (cs.map (·.2))) f c' A outer s H E0) body t)
  (hg:Gl X "_law_stays") (hdb:(("_law_stays" : Str) == ("__debug__" : Str))=false:=by decide) :
  PE X (.Call (.Name "_law_stays" p) [.Lambda params body scope lpos] [] pos) (zzc pt q (cs.map (·.1)) t):=by
 subst hq
 refine PE.weak (zrz (cs:=cs) C hr hk (z09 (zzq hdef hcl hcode hC hB hgP) z04) hcs hg hdb) fun σ H Q h=>?_
 obtain⟨hT,ws,hw,h⟩:=h
 unfold zj6 zf1 zra
 refine zvb hT fun fa c' H2 sB hfa hf hc hT2=>?_
 refine⟨ws,zm2 hw,fun os em hca hn=>?_⟩
 have hG0:∀b o,os.lookup b=some o->shw os H2 b=some (z4g b o):=fun b o e=>zpo e
 have mem:∀{b o},os.lookup b=some o->b∈os.map (·.1):=fun e=>List.mem_map.mpr ⟨_,PySem.W.mem_of_lookupK e,rfl⟩
 refine⟨fa,rfl,⟨_,_,c',z7d hn hf⟩,zmd S hlen em hca hnd hbind hbody (z7d hn hf) (z7d hn hc) hG0 ?_⟩
 rw [zyu hn]
 refine h H2 sB hT2 _ fun v H1 ⟨l,xs,ds,ev,s1,hl,dx,ok,h9,h2⟩ hno=>?_
 have nl:l∉os.map (·.1):=fun z=>by rw [hno l z] at hl; cases hl
 have sb:Same H1 (zgs (os.map (·.1)) (shw os H2) H1):=zlp hno
 refine⟨l,xs,ds,ev,sb _ _ hl,dx.kp sb.kp,ok,h9,fun p hp=>?_⟩
 have np:p∉os.map (·.1):=fun z=>by
  obtain⟨o,e⟩:=zbu z
  rw [zft z,zpo e] at hp
  cases hp
 have hp1:H1 p=none:=by rw [z50 np] at hp; exact hp
 have hlB:=sb _ _ hl
 have fB:zap (zgs (os.map (·.1)) (shw os H2) H1) p l xs fa=some _:=z97 hp (sb _ _ (s1 _ _ hf)) (fun z=>by rw [z] at hf; rw [s1 _ _ hf] at hl; cases hl)
 have cB:zap (zgs (os.map (·.1)) (shw os H2) H1) p l xs c'=some _:=z97 hp (sb _ _ (s1 _ _ hc)) (fun z=>by rw [z] at hc; rw [s1 _ _ hc] at hl; cases hl)
 have hG1:∀b o,os.lookup b=some o->zap (zgs (os.map (·.1)) (shw os H2) H1) p l xs b=some (z4g b o):=fun b o e=>z97 hp (by rw [zft (mem e)]; exact zpo e) (fun z=>nl (z ▸ mem e))
 refine⟨⟨_,_,c',fB⟩,zmd S hlen em hca hnd hbind hbody fB cB hG1 ?_⟩
 rw [zvq hno np nl]
 refine h2 p hp1 _ fun v' H3 ⟨l',xs',ev',s3,hl',dx',q'⟩ hno3=>?_
 have sb3:Same H3 (zgs (os.map (·.1)) (zap (zgs (os.map (·.1)) (shw os H2) H1) p l xs) H3):=zlp hno3
 have npl:p≠l:=fun z=>by rw [z,hl] at hp1; cases hp1
 refine⟨l',xs',ev',sb3 _ _ hl',dx'.kp sb3.kp,sb3 _ _ (s3 _ _ ?_),(dx.kp (zpu hp1 hl)).kp (s3.trans sb3).kp,fun b o e=>?_,?_⟩
 ·unfold zap
  rw [z0b npl,z01]
 ·rw [zft (mem e)]
  exact hG1 b o e
 ·rw [zvr hno3]
  exact q'
end
local macro_rules | `(tactic| walk_at "rd83")=>`(tactic| simp only[↓zx4,↓zx3,↓zih,↓zig,↓zlm,↓zll,↓zdh,↓zdg,↓zdj,↓zdi,↓zvk,↓zji,↓zmi,zvj,zmj,zmh,zx2,zdf,q30,q2z,ztr,q3u,q3t,q3y,q3x,q55,q54,q6x,zto,zzc,ztl,zu4,ztq,q2u,q6g,zu6,zu5,q5c,q5e,zns,ztj,zlb,zd9,zxj,zxk,zl7,zjc,q5f,zjy,zl8,z92,zr7,ztm,zin,tOp,zim,tC,zzd,z8o,zxa,zgp,zyw,q2b,zti,zrc,zrb,tCB,zf1,zra,zrf,tUn,rU,rI0,rI,q0a,tOr,q2c,tB,zrg,q2v,zr9,tIf,q2w,ztk,zla,zrd,zl9,zrr,zj5,ztn,zh8,ztp,tSl,zf0,zr8,q32,zh9,zlu,zrx,zu9,zaj,zbo,zda,zag,zam,zbg,zn2,z4y,z8t,zia,zbh,z72,z4z,z73,zek,zbi,z74,z88,zlc,q2g,tDX,q2x,q09,q2d,tBM,
 qEq,qNe,qIn,zhf,q2l,zrv,q36,zu8,q2k,zrw,zzm,q35,zua,zub,zlv,rIx,q0j,zl0,q2i,q2j,q2h,zu3,q34,q33,zfa,zf9,zj4,zld,q08,
 zdb,zai,zah,zak,z89,zal,zn3,z8u,zel,Nat.reduceAdd,Nat.reduceSub,Nat.add_zero,Nat.sub_zero,Nat.add_sub_cancel,
 List.getElem?_cons_zero,List.getElem?_cons_succ,List.set_cons_zero,List.set_cons_succ,List.cons.injEq,Option.some.injEq,V.int.injEq,V.ref.injEq,V.str.injEq,V.bl.injEq,V.ty.injEq,
 reduceCtorEq,false_and,and_false,and_true,true_and,exists_false,exists_const,false_or,or_false,exists_eq_left,exists_eq_left',exists_eq_right,exists_eq_right',exists_and_left,decide_eq_true_eq,Bool.not_eq_true',Bool.decide_eq_true,exists_eq,true_or,or_true,Bool.false_eq_true,if_true,if_false,Bool.true_eq_false,Bool.not_true,Bool.not_false,decide_true,decide_false,List.isEmpty_cons,List.isEmpty_nil,Bool.true_and,Bool.false_and,bne_self_eq_false,beq_self_eq_true])
section
variable{P:Program}{w:World}{K:PySem.W.Frag}{mg:Str->Option Value}{base:Heap}{f:Addr}{fd:FuncData}
def rw2(r:RI):Rw2:=(r.1,.int r.2)
theorem zxq(rs:List RI):rs.map rowI=(rs.map rw2).map q2f:=by rw [List.map_map]; rfl
def q1b(rs:List RI)(p:List Int):V:=match rs.find? (fun r=>decide (r.1=p)) with
 | some r=>.int r.2
 | none=>.non
theorem zpe{H:Hp}{p:List Int}:∀{rs:List RI} {kvs:List (List Key×V)},Paired (fun(kv:List Key×V) (r:Rw2)=>kv.1=r.1.map Sum.inl/\Dt H kv.2 r.2) kvs (rs.map rw2)->(zl3 kvs (p.map Sum.inl)).getD .non=q1b rs p/\(zl3 kvs (p.map Sum.inl)).isSome=(rs.map (·.1)).contains p
 | [],_,.nil=>⟨rfl,rfl⟩
 | r::rs,kv::kvs,.cons e t=>by
  by_cases h:r.1=p
  ·obtain⟨e1,e2⟩:=e
   have e2':Dt H kv.2 (.int r.2):=e2
   have ek:kv.2=.int r.2:=by
    generalize kv.2=z at e2'
    cases e2'
    rfl
   rw [zgt (e1.trans (by rw [<- h]; rfl)),ek]
   refine⟨?_,?_⟩
   ·unfold q1b
    rw [List.find?_cons_of_pos (by simpa using h)]
    rfl
   ·rw [List.map_cons,List.contains_cons,h,beq_self_eq_true]
    rfl
  ·have hn:¬ kv.1=p.map Sum.inl:=fun c=>h (zvn _ _ (e.1.symm.trans c))
   obtain⟨i1,i2⟩:=zpe (p:=p) t
   rw [zgu hn,i1,i2]
   refine⟨?_,?_⟩
   ·unfold q1b
    rw [List.find?_cons_of_neg (by simpa using h)]
   ·have:(p == r.1)=false:=by simpa using fun z:p=r.1=>h z.symm
    rw [List.map_cons,List.contains_cons,this,Bool.false_or]
theorem zwm{xs:List V}{k:Nat}(h:k<=xs.length):zwn xs none (some (k:Int))=xs.take k:=by
 unfold zwn
 rw [HT.zxp,HT.q0f,Nat.min_eq_left h,List.drop_zero,Nat.sub_zero]
theorem q0e{H:Hp}{ys:List V}{rs:List RI}{k:Nat}{Q:VK}{p:Addr}(dy:DtA H ys (rs.map rowI))(hnd:((rs.take k).map (·.1)).Nodup)(hz:k<=1000)(hk:k<=rs.length)(hp:H p=none)
  (q:∀(d:Addr) (kvs:List (List Key×V)) (H':Hp),H' d=some (.dT kvs)->Same H H'->H d=none->Paired (fun(kv:List Key×V) (r:Rw2)=>kv.1=r.1.map Sum.inl/\Dt H' kv.2 r.2) kvs ((rs.take k).map rw2)->Q (.ref d) H'):zzn [V.ref p] (upd H p (.lst (zwn ys none (some (k:Int))))) Q:=by
 have lys:ys.length=rs.length:=by rw [dy.length,List.length_map]
 have s1:=z02 hp (HO.lst (zwn ys none (some (k:Int))))
 rw [zwm (by omega)] at s1 |-
 have dt:DtA (upd H p (.lst (ys.take k))) (ys.take k) (((rs.take k).map rw2).map q2f):=by
  have:=zqn k (dy.kp s1.kp)
  rw [zxq,<- List.map_take,<- List.map_take] at this
  exact this
 refine⟨p,ys.take k,(rs.take k).map rw2,rfl,z01,dt,?_,?_,fun d kvs hd pk=>?_⟩
 ·rw [List.map_map]
  exact hnd
 ·rw [List.length_map,List.length_take]
  omega
 ·have s2:=z02 hd (HO.dT kvs)
  exact q d kvs _ z01 (s1.trans s2) (s1.free hd) (L2.Paired.imp' (fun a b e=>⟨e.1,e.2.kp s2.kp⟩) pk)
def zgv(C:Addr):Sp:=fun vs H Q _=>∃(x dx l:Addr) (gv wv:V) (ins:Dm) (b:List D) (ys:List V) (rs:List RI) (k:Nat),vs=[.ref x]/\H x=some (.ins C dx (trF gv wv l k))/\H l=some (.lst ys)/\Dt H gv (.tup [ins,.tup (encB b)])/\okB 3 b/\DtA H ys (rs.map rowI)/\((rs.take k).map (·.1)).Nodup/\k<=1000/\k<=rs.length/\
 ∀(r:Addr) (vs:List V) (H':Hp),Same H H'->H r=none->H' r=some (.lst vs)->DtA H' vs ((((z2x b).map (·.1)).filter fun p=>!((rs.take k).map (·.1)).contains p).map z25)->Q (.ref r) H'
def UsI(U:Hp)(S:List RT)(R:List (List Int))(d:Addr)(i:Nat)(ys:List V)(σ':St)(H':Hp):Prop:=H'=U/\(∃t0 t1,σ'=[t0,t1,some (.ref d)])/\ys.length<=i/\DtA U ys ((((S.take i).map (·.1)).filter fun p=>!R.contains p).map z25)
theorem zhh{C:Addr} (F:Fun K "unseen" "Trace.unseen" z1m f fd) (b_dict:mg "dict" = none) (t:TrC K C) (c_spots:Callee P w K mg base "spots" ["program"] 7 zgw):FnOk P w K mg base CX0 8 f fd ["self"] (zgv C):=by
 refine F.ok sc_Trace_unseen (fun vs H Q E h=>?_) (fun cdv A outer s H vs Q E hr h=>?_)
 ·obtain⟨x,dx,l,gv,wv,ins,b,ys,rs,k,rfl,_⟩:=h
  rfl
 obtain⟨x,dx,l,gv,wv,ins,b,ys,rs,k,rfl,hx,hl,dg,hok,dy,hnd,hz,hk,q⟩:=h
 refine⟨_,(z06 (z1g (i:=1) sc_Trace_unseen.nd rfl zax (zoc (zt0 rfl hr.units) zcf b_dict q1x (z09 (zpv ztw (z8a (z00 (i:=0) rfl z3t z3n z3o) rfl) zui (zuh (z8a (z00 (i:=0) rfl z3t z3n z3o) rfl))) z04) q16 q1r) (z05 rfl))
 (z0a (z0h (zaq ["path","term","seen"] [none,none,some 1] rfl (CompS.of (by rfl)) (z6s (z18 c_spots hr (by omega) (z09 (z8a (z00 (i:=0) rfl z3t z3n z3o) rfl) z04) zb7 zkq)) (fun _ _ _ _ _=>(zfc (n:=2) (K:=K) rfl rfl (z0y (z10 (i:=0) (show List.Nodup (["path","term","seen"]:List Str) from by decide+kernel) rfl (Or.inl rfl)) (z0y (z10 (i:=1) (show List.Nodup (["path","term","seen"]:List Str) from by decide+kernel) rfl (Or.inl rfl)) z4f)))) (fun _ _ _ _ _=>(zfb (q37 (zuq hr.units1 (z00 (i:=0) rfl (by first | exact Or.inl rfl | exact Or.inr (Or.inl rfl) | exact Or.inr (Or.inr rfl)) z19 z1b) (z00 (i:=2) rfl (by first | exact Or.inl rfl | exact Or.inr (Or.inl rfl) | exact Or.inr (Or.inr rfl)) q1p q1u))))) (fun _ _ _ _ _=>(z00 (i:=0) rfl (by first | exact Or.inl rfl | exact Or.inr (Or.inl rfl) | exact Or.inr (Or.inr rfl)) z19 z1b)))))),z0j fun N1 e1=>?_⟩
 walk_at "rd83"
 refine⟨_,_,_,hx,t.c,t.nr,_,zhn,_,_,_,hx,t.c,t.nd,_,zco,_,rfl,_,rfl,_,SqL.of hl,fun p1 h1=>q0e dy hnd hz hk h1 fun d kvs H2 hd2 s2 hdn pk=>?_⟩
 rw [e1]
 walk_at "rd83"
 refine⟨_,_,_,s2 _ _ hx,t.c,t.np,_,zsf,gv,ins,b,rfl,dg.kp s2.kp,hok,fun r3 H3 zs s3 hr3 hl3 dz=>?_⟩
 refine⟨r3,rfl,⟨_,SqL.of hl3⟩,?_⟩
 have hzs:zs.length=(z2x b).length:=by rw [dz.length,List.length_map]
 have hsb:(z2x b).length<=942 * 64:=zlf (n:=3) hok (by decide)
 have hd3:=s3 _ _ hd2
 have pk3:=L2.Paired.imp' (G:=fun(kv:List Key×V) (r:Rw2)=>kv.1=r.1.map Sum.inl/\Dt H3 kv.2 r.2) (fun a b e=>⟨e.1,e.2.kp s3.kp⟩) pk
 refine z75 (K:=K) (a:=r3) (xs:=zs) (UsI H3 (z2x b) ((rs.take k).map (·.1)) d) ⟨rfl,⟨_,_,rfl⟩,Nat.le_refl _,by rw [List.take_zero]; exact .nil⟩ (Nat.lt_of_le_of_lt (show zs.length<=942 * 64 by omega) (by decide)) ?_ ?_ ?_ ?_
 ·rintro i vs σ' H' ⟨_,_,h,_⟩
  exact h
 ·rintro i vs σ' H' _ ⟨rfl,_⟩
  exact SqL.of hl3
 ·rintro i vs v σ' H' hv ⟨rfl,⟨t0,t1,rfl⟩,hle,dv⟩
  obtain⟨r,hri,dr⟩:=zas dz hv
  obtain⟨va,v0,v1,rfl,hva,u0,u1⟩:=zjn dr
  obtain⟨pa,xs,rfl,hpa,dpa⟩:=u0.tupI
  obtain rfl:=zbv dpa
  walk_at "rd83"
  refine⟨_,SqT.of hva,rfl,_,_,rfl,_,_,rfl,rfl,_,DGet.t hd3 (k:=r.1.map Sum.inl) (by rw [hpa,List.map_map]; rfl),?_⟩
  rw [(zpe pk3).2]
  have et:(((z2x b).take (i+1)).map (·.1))=((z2x b).take i).map (·.1)++[r.1]:=by rw [z3h hri,List.map_append]; rfl
  split
  ·rename_i hc
   refine⟨rfl,⟨_,_,rfl⟩,by rw [List.length_append,List.length_singleton]; omega,?_⟩
   rw [et,List.filter_append,List.filter_cons_of_pos (by rw [hc]; rfl),List.filter_nil,List.map_append]
   exact dv.append (.cons u0 .nil)
  ·rename_i hc
   refine⟨rfl,⟨_,_,rfl⟩,by omega,?_⟩
   rw [et,List.filter_append,List.filter_cons_of_neg (by rw [Bool.not_eq_false] at hc; rw [hc]; decide),List.filter_nil,List.append_nil]
   exact dv
 ·rintro vs σ' H' ⟨rfl,_,_,dv⟩ p5 h5
  rw [hzs,List.take_length] at dv
  have s5:=z02 h5 (HO.lst vs)
  exact q p5 vs _ (s2.trans (s3.trans s5)) ((s2.trans s3).free h5) z01 (dv.kp s5.kp)
end
section
variable{P:Program}{w:World}{K:PySem.W.Frag}{mg:Str->Option Value}{base:Heap}{f:Addr}{fd:FuncData}
theorem zz9{ra:Addr}{us:List V}{l:List RD}{x:Str}{Q:VK}{H1:Hp}(h2:H1 ra=some (.lst us))(d2:DtA H1 us (l.map zxs))(hz:l.length<=1000)(q:∀(r:Addr) (H':Hp) (xs:List V),Same H1 H'->H1 r=none->H' r=some (.lst xs)->DtA H' xs ((z99 x l).map z25)->Q (.ref r) H') :
  zd4 (Itl K ra) (zxa K 2 (zgp (z8o 0) (zgp (z8o 1) zyw))) (q0a (zin (tOp (qEq K) (tOp (zl0 K) (zim 1) (tC (V.int 0))) (tC (V.str (Str.ofString "set"))))) (zin (tOp (qEq K) (tOp (zl0 K) (zim 1) (tC (V.int 1))) (zim 2)))) (zim 0) Q [none,none,some (V.str x)] H1:=by
 have hul:us.length=l.length:=by rw [d2.length,List.length_map]
 refine z75 (K:=K) (a:=ra) (xs:=us) (q5i H1 (fun r=>zgx r == some x) l [some (V.str x)]) ⟨Same.refl _,⟨_,_,rfl⟩,by rw [List.take_zero]; exact .nil,Nat.le_refl _⟩ (by rw [hul]; exact z20 hz) ?_ ?_ ?_ ?_
 ·rintro i ys σ' H' ⟨_,_,_,hy⟩
  exact hy
 ·rintro i ys σ' H' _ ⟨s2,_,_⟩
  exact SqL.of (s2 _ _ h2)
 ·rintro i ys v' σ' H' hxi ⟨s2,⟨t,u,rfl⟩,dy,hy⟩
  obtain⟨r,hri,dr⟩:=zas d2 hxi
  obtain⟨pp,y0,y1,rfl,hpp,u0,u1⟩:=zjn (dr.kp s2.kp)
  walk_at "rd7"
  refine⟨_,SqT.of hpp,rfl,_,_,rfl,_,_,rfl,rfl,?_⟩
  obtain⟨rp,d⟩:=r
  cases d with
  | set z tt=>
   obtain⟨a,x0,x1,x2,rfl,ha,t0,t1,t2⟩:=zr6 (show Dt H' y1 (.tup [.str "set",.str z,tt.enc]) by have:=u1; rw [D.enc] at this; exact this)
   cases t1
   refine⟨_,rfl,_,SqT.of ha,_,rfl,_,z8p t0,?_⟩
   rw [if_pos (show eqS (.str "set") "set" = true from by decide+kernel)]
   refine⟨_,rfl,_,SqT.of ha,_,rfl,_,z8p (.str z),?_⟩
   split
   ·rename_i hz'
    have:z=x:=by simpa [eqS] using hz'
    exact zqj s2 dy hy hri (by simp[zgx,this]) (Same.refl _) u0
   ·rename_i hz'
    have:¬ z=x:=by simpa [eqS] using hz'
    exact zkh s2 dy hy hri (by simp[zgx,this]) (Same.refl _)
  | ite t b c=>
   obtain⟨a,x0,x1,x2,x3,rfl,ha,t0,t1,t2,t3⟩:=zt6 (show Dt H' y1 (.tup [.str "if",t.enc,.tup (encB b),.tup (encB c)]) by have:=u1; rw [D.enc] at this; exact this)
   refine⟨_,rfl,_,SqT.of ha,_,rfl,_,z8p t0,?_⟩
   rw [if_neg (show ¬ eqS (.str "if") "set" = true from by decide+kernel)]
   exact zkh s2 dy hy hri rfl (Same.refl _)
  | whl t m b=>
   obtain⟨a,x0,x1,x2,x3,rfl,ha,t0,t1,t2,t3⟩:=zt6 (show Dt H' y1 (.tup [.str "while",t.enc,.int m,.tup (encB b)]) by have:=u1; rw [D.enc] at this; exact this)
   refine⟨_,rfl,_,SqT.of ha,_,rfl,_,z8p t0,?_⟩
   rw [if_neg (show ¬ eqS (.str "while") "set" = true from by decide+kernel)]
   exact zkh s2 dy hy hri rfl (Same.refl _)
 ·rintro ys σ' H' ⟨s2,_,dy,_⟩ pe hpe
  have s3:=z02 hpe (HO.lst ys)
  refine q pe _ ys (s2.trans s3) (s2.free hpe) z01 ?_
  rw [hul,List.take_length] at dy
  unfold z99
  rw [List.map_map]
  exact dy.kp s3.kp
theorem zz7{ra:Addr}{us:List V}{l:List RT}{x:Str}{Q:VK}{H1:Hp}(h2:H1 ra=some (.lst us))(d2:DtA H1 us (l.map q0h))(hz:l.length<=100000)(hx:PyData.strOk x=true)(hl:∀r∈l,T.ok pool 5 r.2)(q:∀(r:Addr) (H':Hp) (xs:List V),Same H1 H'->H1 r=none->H' r=some (.lst xs)->DtA H' xs ((z98 x l).map z25)->Q (.ref r) H') :
  zd4 (Itl K ra) (zxa K 2 (zgp (z8o 0) (zgp (z8o 1) zyw))) (zin (tOp (zzm K) (zim 1) (q09 (zf1 (tC (V.str (Str.ofString "name"))) (zf1 (zim 2) zra))))) (zim 0) Q [none,none,some (V.str x)] H1:=by
 have hul:us.length=l.length:=by rw [d2.length,List.length_map]
 refine z75 (K:=K) (a:=ra) (xs:=us) (q5i H1 (fun r=>zzv x r.2) l [some (V.str x)]) ⟨Same.refl _,⟨_,_,rfl⟩,by rw [List.take_zero]; exact .nil,Nat.le_refl _⟩ (by rw [hul]; exact Nat.lt_of_le_of_lt hz (by decide)) ?_ ?_ ?_ ?_
 ·rintro i ys σ' H' ⟨_,_,_,hy⟩
  exact hy
 ·rintro i ys σ' H' _ ⟨s2,_,_⟩
  exact SqL.of (s2 _ _ h2)
 ·rintro i ys v' σ' H' hxi ⟨s2,⟨t,u,rfl⟩,dy,hy⟩
  obtain⟨r,hri,dr⟩:=zas d2 hxi
  obtain⟨pp,y0,y1,rfl,hpp,u0,u1⟩:=zjn (dr.kp s2.kp)
  walk_at "rd7"
  refine⟨_,SqT.of hpp,rfl,_,_,rfl,_,_,rfl,rfl,?_⟩
  refine⟨zl 2 (by decide),fun r1 h1=>?_⟩
  have s3:=z02 h1 (HO.tup [V.str "name",V.str x])
  have dn:Dt (upd H' r1 (HO.tup [V.str "name",V.str x])) (.ref r1) (T.nm x).enc:=.tup z01 (.cons (.str _) (.cons (.str _) .nil))
  refine⟨_,⟨_,_,u1.kp s3.kp,dn,(zvv (hl r (List.mem_of_getElem? hri))).eq (by decide),(zvu hx).eq (by decide),rfl⟩,?_⟩
  rw [q4f]
  cases hb:zzv x r.2 with
  | true=>exact zqj s2 dy hy hri hb s3 u0
  | false=>exact zkh s2 dy hy hri hb s3
 ·rintro ys σ' H' ⟨s2,_,dy,_⟩ pe hpe
  have s3:=z02 hpe (HO.lst ys)
  refine q pe _ ys (s2.trans s3) (s2.free hpe) z01 ?_
  rw [hul,List.take_length] at dy
  unfold z98
  rw [List.map_map]
  exact dy.kp s3.kp
theorem zst{ra:Addr}{us:List V}{l:List RD}{Q:VK}{H1:Hp}(h2:H1 ra=some (.lst us))(d2:DtA H1 us (l.map zxs))(hz:l.length<=1000)(q:∀r:Addr,H1 r=none->Q (.ref r) (upd H1 r (.lst ((l.filterMap zgx).map V.str)))) :
  zd4 (Itl K ra) (zxa K 2 (zgp (z8o 0) (zgp (z8o 1) zyw))) (zin (tOp (qEq K) (tOp (zl0 K) (zim 1) (tC (V.int 0))) (tC (V.str (Str.ofString "set"))))) (tOp (zl0 K) (zim 1) (tC (V.int 1))) Q [none,none] H1:=by
 have hul:us.length=l.length:=by rw [d2.length,List.length_map]
 refine z75 (K:=K) (a:=ra) (xs:=us) (q64 H1 l) ⟨rfl,⟨_,_,rfl⟩,by rw [List.take_zero]; rfl,Nat.le_refl _⟩ (by rw [hul]; exact z20 hz) ?_ ?_ ?_ ?_
 ·rintro i ys σ' H' ⟨_,_,_,hy⟩
  exact hy
 ·rintro i ys σ' H' _ ⟨rfl,_,_⟩
  exact SqL.of h2
 ·rintro i ys v' σ' H' hxi ⟨rfl,⟨t,u,rfl⟩,rfl,hy⟩
  obtain⟨r,hri,dr⟩:=zas d2 hxi
  obtain⟨pp,y0,y1,rfl,hpp,u0,u1⟩:=zjn dr
  walk_at "rd7"
  refine⟨_,SqT.of hpp,rfl,_,_,rfl,_,_,rfl,rfl,?_⟩
  obtain⟨rp,d⟩:=r
  cases d with
  | set z tt=>
   obtain⟨a,x0,x1,x2,rfl,ha,t0,t1,t2⟩:=zr6 (show Dt H' y1 (.tup [.str "set",.str z,tt.enc]) by have:=u1; rw [D.enc] at this; exact this)
   cases t1
   refine⟨_,rfl,_,SqT.of ha,_,rfl,_,z8p t0,?_⟩
   rw [if_pos (show eqS (.str "set") "set" = true from by decide+kernel)]
   exact⟨_,rfl,_,SqT.of ha,_,rfl,rfl,⟨_,_,rfl⟩,by rw [z3h hri,List.filterMap_append]; simp[zgx],by rw [List.length_append,List.length_singleton]; omega⟩
  | ite t b c=>
   obtain⟨a,x0,x1,x2,x3,rfl,ha,t0,t1,t2,t3⟩:=zt6 (show Dt H' y1 (.tup [.str "if",t.enc,.tup (encB b),.tup (encB c)]) by have:=u1; rw [D.enc] at this; exact this)
   refine⟨_,rfl,_,SqT.of ha,_,rfl,_,z8p t0,?_⟩
   rw [if_neg (show ¬ eqS (.str "if") "set" = true from by decide+kernel)]
   exact⟨rfl,⟨_,_,rfl⟩,by rw [z3h hri,List.filterMap_append]; simp[zgx],by omega⟩
  | whl t m b=>
   obtain⟨a,x0,x1,x2,x3,rfl,ha,t0,t1,t2,t3⟩:=zt6 (show Dt H' y1 (.tup [.str "while",t.enc,.int m,.tup (encB b)]) by have:=u1; rw [D.enc] at this; exact this)
   refine⟨_,rfl,_,SqT.of ha,_,rfl,_,z8p t0,?_⟩
   rw [if_neg (show ¬ eqS (.str "while") "set" = true from by decide+kernel)]
   exact⟨rfl,⟨_,_,rfl⟩,by rw [z3h hri,List.filterMap_append]; simp[zgx],by omega⟩
 ·rintro ys σ' H' ⟨rfl,_,rfl,_⟩ pe hpe
  rw [hul,List.take_length]
  exact q pe hpe
def znx:Sp:=fun vs H Q _=>∃v ins b x,vs=[v,.str x]/\Dt H v (.tup [ins,.tup (encB b)])/\okB 3 b/\∀(r:Addr) (H':Hp) (xs:List V),Same H H'->H r=none->H' r=some (.lst xs)->DtA H' xs ((z99 x (z1x b)).map z25)->Q (.ref r) H'
theorem zuw(F:Fun K "set_at" "set_at" zdl f fd) (c_all_deeds:Callee P w K mg base "all_deeds" ["program"] 6 zbq):FnOk P w K mg base CX0 7 f fd ["program","name"] znx:=by
 refine F.ok ztz (fun vs H Q E h=>?_) (fun cdv A outer s H vs Q E hr h=>?_)
 ·obtain⟨v,ins,b,x,rfl,_⟩:=h
  rfl
 obtain⟨v,ins,b,x,rfl,hd,hok,q⟩:=h
 refine⟨_,(z0a (z0h (zaq ["path","deed","name"] [none,none,some 1] rfl (CompS.of (by rfl)) (z6s (z18 c_all_deeds hr (by omega) (z09 (z00 (i:=0) rfl zd6 z2o z2p) z04) zcp zbc)) (fun _ _ _ _ _=>(zfc (n:=2) (K:=K) rfl rfl (z0y (z10 (i:=0) (show List.Nodup (["path","deed","name"]:List Str) from by decide+kernel) rfl (Or.inl rfl)) (z0y (z10 (i:=1) (show List.Nodup (["path","deed","name"]:List Str) from by decide+kernel) rfl (Or.inl rfl)) z4f)))) (fun _ _ _ _ _=>(zfb (PW.pt (zud (z0g (opK (r:=qEq) (K:=K) (gEq hr.units) rfl) (z0z (ixK (r:=zl0) (K:=K) z0n rfl) (z00 (i:=1) rfl (by first | exact Or.inl rfl | exact Or.inr (Or.inl rfl) | exact Or.inr (Or.inr rfl)) z1o z1p) z03 (fun _ _=>rfl)) z0m (z0s _)) (zo9 (z0g (opK (r:=qEq) (K:=K) (gEq hr.units) rfl) (z0z (ixK (r:=zl0) (K:=K) z0n rfl) (z00 (i:=1) rfl (by first | exact Or.inl rfl | exact Or.inr (Or.inl rfl) | exact Or.inr (Or.inr rfl)) z1o z1p) z03 (fun _ _=>rfl)) (z00 (i:=2) rfl (by first | exact Or.inl rfl | exact Or.inr (Or.inl rfl) | exact Or.inr (Or.inr rfl)) zwe zwt) (z0s _))))))) (fun _ _ _ _ _=>(z00 (i:=0) rfl (by first | exact Or.inl rfl | exact Or.inr (Or.inl rfl) | exact Or.inr (Or.inr rfl)) z19 z1b))))),?_⟩
 walk_at "rd7"
 refine⟨v,ins,b,rfl,hd,hok,fun ra H1 us s2 f2 h2 d2=>?_⟩
 walk_at "rd7"
 have hbl:(z1x b).length<=942:=by
  have h1:=z3w 3 b [] 0 hok
  have h2:bnd 3=942:=by decide
  have h3:(z1x b).length<=bnd 3:=h1
  omega
 exact⟨⟨_,SqL.of h2⟩,zz9 h2 d2 (by omega) fun r H' xs s3 f3 h3 d3=>q r H' xs (s2.trans s3) (s2.free f3) h3 d3⟩
def zjp:Sp:=fun vs H Q _=>∃v ins b x,vs=[v,.str x]/\Dt H v (.tup [ins,.tup (encB b)])/\okB 3 b/\PyData.strOk x=true/\∀(r:Addr) (H':Hp) (xs:List V),Same H H'->H r=none->H' r=some (.lst xs)->DtA H' xs ((z98 x (z2x b)).map z25)->Q (.ref r) H'
theorem zs3(F:Fun K "used_at" "used_at" zao f fd) (c_spots:Callee P w K mg base "spots" ["program"] 7 zgw):FnOk P w K mg base CX0 8 f fd ["program","name"] zjp:=by
 refine F.ok zrm (fun vs H Q E h=>?_) (fun cdv A outer s H vs Q E hr h=>?_)
 ·obtain⟨v,ins,b,x,rfl,_⟩:=h
  rfl
 obtain⟨v,ins,b,x,rfl,hd,hok,hx,q⟩:=h
 refine⟨_,(z0a (z0h (zaq ["path","term","name"] [none,none,some 1] rfl (CompS.of (by rfl)) (z6s (z18 c_spots hr (by omega) (z09 (z00 (i:=0) rfl zcl z2o z2p) z04) zgi zkq)) (fun _ _ _ _ _=>(zfc (n:=2) (K:=K) rfl rfl (z0y (z10 (i:=0) (show List.Nodup (["path","term","name"]:List Str) from by decide+kernel) rfl (Or.inl rfl)) (z0y (z10 (i:=1) (show List.Nodup (["path","term","name"]:List Str) from by decide+kernel) rfl (Or.inl rfl)) z4f)))) (fun _ _ _ _ _=>(zfb (z0g (opK (r:=zzm) (K:=K) (dEq hr.units) rfl) (z00 (i:=1) rfl (by first | exact Or.inl rfl | exact Or.inr (Or.inl rfl) | exact Or.inr (Or.inr rfl)) z3x z3z) (z13 (z09 z0m (z09 (z00 (i:=2) rfl (by first | exact Or.inl rfl | exact Or.inr (Or.inl rfl) | exact Or.inr (Or.inr rfl)) zwe zwt) z04))) (z0s _)))) (fun _ _ _ _ _=>(z00 (i:=0) rfl (by first | exact Or.inl rfl | exact Or.inr (Or.inl rfl) | exact Or.inr (Or.inr rfl)) z19 z1b))))),?_⟩
 walk_at "rd7"
 refine⟨v,ins,b,rfl,hd,hok,fun ra H1 us s2 f2 h2 d2=>?_⟩
 walk_at "rd7"
 exact⟨⟨_,SqL.of h2⟩,zz7 h2 d2 (zri hok) hx (ztt hok) fun r H' xs s3 f3 h3 d3=>q r H' xs (s2.trans s3) (s2.free f3) h3 d3⟩
theorem zwo{ai:Addr}{xs:List V}{rows:List Rw}{Q:VK}{H:Hp}(hai:H ai=some (.tup xs))(dai:DtA H xs (rows.map rowEnc))(hrl:rows.length<=2)(q:∀r:Addr,H r=none->Q (.ref r) (upd H r (.lst (rows.map fun r=>V.str r.1)))) :
  zd4 (Itt K ai) (z8o 0) q08 (tOp (zl0 K) (zim 0) (tC (V.int 0))) Q [none] H:=by
 have hxl:xs.length=rows.length:=by rw [dai.length,List.length_map]
 refine zz8 (K:=K) (a:=ai) (xs:=xs) (q6o H rows) ⟨rfl,⟨_,rfl⟩,by simp⟩ (by rw [hxl]; exact z20 (by omega)) ?_ ?_ ?_ ?_
 ·rintro i ys σ' H' ⟨_,_,rfl⟩
  rw [List.length_map,List.length_take]
  omega
 ·rintro i ys σ' H' _ ⟨rfl,_,_⟩
  exact SqT.of hai
 ·rintro i ys v' σ' H' hxi ⟨rfl,⟨t,rfl⟩,rfl⟩
  obtain⟨r,hri,dr⟩:=zas dai hxi
  obtain⟨pp,y0,y1,y2,rfl,hpp,u0,u1,u2⟩:=zr6 dr
  cases u0
  walk_at "rd7"
  exact⟨_,SqT.of hpp,_,rfl,rfl,⟨_,rfl⟩,by rw [z3h hri,List.map_append]; rfl⟩
 ·rintro ys σ' H' ⟨rfl,_,rfl⟩ pc hpc
  rw [hxl,List.take_length]
  exact q pc hpc
def znz:Sp:=fun vs H Q _=>∃v rows b,vs=[v]/\Dt H v (.tup [.tup (rows.map rowEnc),.tup (encB b)])/\okB 3 b/\rows.length<=2/\(∀r∈rows,r.1∈pool)/\∀(r:Addr) (H':Hp) (ms:List Str),Same H H'->H r=none->H' r=some (.lst (ms.map V.str))->PyProof.Rows.sortedS ms=true->ms.Nodup->(∀x,x∈ms↔x∈zdx rows b)->Q (.ref r) H'
theorem zoj(F:Fun K "names_in" "names_in" z41 f fd) (b_sorted:mg "sorted" = none) (b_set:mg "set" = none) (c_all_deeds:Callee P w K mg base "all_deeds" ["program"] 6 zbq):FnOk P w K mg base CX0 7 f fd ["program"] znz:=by
 refine F.ok sc_names_in (fun vs H Q E h=>?_) (fun cdv A outer s H vs Q E hr h=>?_)
 ·obtain⟨v,rows,b,rfl,_⟩:=h
  rfl
 obtain⟨v,rows,b,rfl,hd,hok,hrl,hrp,q⟩:=h
 refine⟨_,(z06 (q0n (i:=1) ["row"] [none] sc_names_in.nd rfl zc3 rfl (CompS.of (by rfl)) (q39 (z0z z0n (z00 (i:=0) rfl z5z z2o z2p) z03 (fun _ _=>rfl))) (fun _ _ _ _ _=>(z10 (i:=0) (show List.Nodup (["row"]:List Str) from by decide+kernel) rfl (Or.inl rfl))) (fun _ _ _ _ _=>zob) (fun _ _ _ _ _=>(z0z (ixK (r:=zl0) (K:=K) z0n rfl) (z00 (i:=0) rfl (by first | exact Or.inl rfl | exact Or.inr (Or.inl rfl) | exact Or.inr (Or.inr rfl)) zqo zqv) z03 (fun _ _=>rfl))))
 (z0a (z0h (za5 (zie rfl) ze8 b_sorted zeo (z09 (zoc (zwx rfl) zhz b_set q4x (z09 (z0r zq3 (z00 (i:=1) rfl zby zss zsy) (zaq ["path","deed"] [none,none] rfl (CompS.of (by rfl)) (z6s (z18 c_all_deeds hr (by omega) (z09 (z00 (i:=0) rfl z5z z2o z2p) z04) zb1 zbc)) (fun _ _ _ _ _=>(zfc (n:=2) (K:=K) rfl rfl (z0y (z10 (i:=0) (show List.Nodup (["path","deed"]:List Str) from by decide+kernel) rfl (Or.inl rfl)) (z0y (z10 (i:=1) (show List.Nodup (["path","deed"]:List Str) from by decide+kernel) rfl (Or.inl rfl)) z4f)))) (fun _ _ _ _ _=>(zfb (z0g (opK (r:=qEq) (K:=K) (gEq hr.units) rfl) (z0z (ixK (r:=zl0) (K:=K) z0n rfl) (z00 (i:=1) rfl (by first | exact Or.inl rfl | exact Or.inr (Or.inl rfl) | exact Or.inr (Or.inr rfl)) z1o z1p) z03 (fun _ _=>rfl)) z0m (z0s _)))) (fun _ _ _ _ _=>(z0z (ixK (r:=zl0) (K:=K) z0n rfl) (z00 (i:=1) rfl (by first | exact Or.inl rfl | exact Or.inr (Or.inl rfl) | exact Or.inr (Or.inr rfl)) z1o z1p) z03 (fun _ _=>rfl))))) z04) q3p q4l) z04) zdw zeh)))),?_⟩
 walk_at "rd7"
 obtain⟨a,x0,x1,rfl,ha,t0,t1⟩:=zjn hd
 obtain⟨ai,xs,rfl,hai,dai⟩:=t0.tupI
 refine⟨_,rfl,_,SqT.of ha,_,rfl,ai,rfl,⟨_,SqT.of hai⟩,?_⟩
 have hxl:xs.length=rows.length:=by rw [dai.length,List.length_map]
 have hbl:(z1x b).length<=942:=by
  have h1:=z3w 3 b [] 0 hok
  have h2:bnd 3=942:=by decide
  have h3:(z1x b).length<=bnd 3:=h1
  omega
 refine zwo hai dai hrl fun pc hpc=>?_
 have s3:=z02 hpc (HO.lst (rows.map fun r=>V.str r.1))
 refine⟨_,_,b,rfl,hd.kp s3.kp,hok,fun ra H2 us s4 f4 h4 d4=>?_⟩
 refine⟨ra,rfl,⟨_,SqL.of h4⟩,zst h4 d4 (by omega) fun r5 h5=>?_⟩
 have s5:=z02 h5 (HO.lst (((z1x b).filterMap zgx).map V.str))
 have hfl:((z1x b).filterMap zgx).length<=(z1x b).length:=List.length_filterMap_le _ _
 refine⟨pc,rfl,r5,rfl,_,s5 _ _ (s4 _ _ z01),_,z01,zz (by rw [List.length_map,List.length_map]; omega),fun r6 h6=>?_⟩
 have s6:=z02 h6 (HO.lst ((rows.map fun r=>V.str r.1)++((z1x b).filterMap zgx).map V.str))
 have e6:(rows.map fun r=>V.str r.1)++((z1x b).filterMap zgx).map V.str=(zdx rows b).map V.str:=by
  unfold zdx
  rw [List.map_append,List.map_map]; rfl
 have h6':(upd (upd H2 r5 (HO.lst (((z1x b).filterMap zgx).map V.str))) r6 (HO.lst ((rows.map fun r=>V.str r.1)++((z1x b).filterMap zgx).map V.str))) r6=some (.lst ((zdx rows b).map V.str)):=by rw [z01,e6]
 have s06:=s3.trans (s4.trans (s5.trans s6))
 generalize upd (upd H2 r5 (HO.lst (((z1x b).filterMap zgx).map V.str))) r6 (HO.lst ((rows.map fun r=>V.str r.1)++((z1x b).filterMap zgx).map V.str))=U at s6 s06 h6' |-
 refine⟨r6,zdx rows b,rfl,SqL.of h6',zv3 hrl hok,fun ps ks hps hnd hmem hle=>?_⟩
 have s7:=z02 hps (L2.zkz P w ps ks)
 have hk4:ks.length<=pool.length:=zdu ks pool hnd fun x hx=>zfg hrp hok x ((hmem x).mp hx)
 refine⟨ps,ks,rfl,z01,Nat.lt_of_le_of_lt hk4 (by decide),fun r8 ms h8 hpm hso=>?_⟩
 exact q r8 _ ms (s06.trans (s7.trans (z02 h8 _))) ((s06.trans s7).free h8) z01 hso (hpm.nodup_iff.mpr hnd) fun x=>(hpm.mem_iff).trans (hmem x)
end
section
variable{P:Program}{w:World}{K:PySem.W.Frag}{mg:Str->Option Value}{base:Heap}{f:Addr}{fd:FuncData}
def znv:Sp:=fun vs H Q _=>∃v ins b,vs=[v]/\Dt H v (.tup [ins,.tup (encB b)])/\okB 3 b/\∀(l:Addr) (H':Hp) (ws:List V) (ms:Cnt),Same H H'->H l=none->H' l=some (.lst ws)->DtA H' ws (ms.map ziq)->ms.Perm (zsw [] (z2x b))->ms.Pairwise (fun p q=>z96 p.1 < z96 q.1)->Q (.ref l) H'
theorem zoi(F:Fun K "words_in" "words_in" z31 f fd) (b_sorted:mg "sorted" = none) (c_spots:Callee P w K mg base "spots" ["program"] 7 zgw):FnOk P w K mg base CX0 8 f fd ["program"] znv:=by
 refine F.ok sc_words_in (fun vs H Q E h=>?_) (fun cdv A outer s H vs Q E hr h=>?_)
 ·obtain⟨v,ins,b,rfl,_⟩:=h
  rfl
 obtain⟨v,ins,b,rfl,hd,hok,q⟩:=h
 refine⟨_,(z06 (z1g (i:=1) sc_words_in.nd rfl zfj zq0 (z05 rfl))
 (z06 (zdo PassesOwn.never rfl (z6s (z18 c_spots hr (by omega) (z09 (z00 (i:=0) rfl zbx z2o z2p) z04) zfm zkq)) (zcj (n:=2) rfl (z0y (z10 (i:=2) sc_words_in.nd rfl zfi) (z0y (z10 (i:=3) sc_words_in.nd rfl zfh) z4f)))
 (z0a (zk2 hr.units1 (z00 (i:=1) rfl z58 zcx zd1) (z0z z0n (z00 (i:=3) rfl z82 z3x z3z) z03 (fun _ _=>rfl)) (z0r z1l (zq1 hr.units1 (z00 (i:=1) rfl z58 zcx zd1) (z0z z0n (z00 (i:=3) rfl z82 z3x z3z) z03 (fun _ _=>rfl)) z03 ⟨rfl,rfl,rfl,rfl⟩) z03) (z05 rfl))))
 (z0a (z0h (za5 (za1 rfl) ze4 b_sorted zeo (z09 (zpy (z00 (i:=1) rfl z58 zcx zd1)) z04) zdw zeh))))),?_⟩
 walk_at "rd7"
 intro d hdn
 have s1:=z02 hdn (HO.dK [])
 refine⟨v,ins,b,rfl,hd.kp s1.kp,hok,fun ra H1 us s2 f2 h2 d2=>?_⟩
 refine⟨ra,rfl,⟨_,SqL.of h2⟩,?_⟩
 have hne:ra≠d:=fun e=>by rw [e,z01] at f2; cases f2
 have hul:us.length=(z2x b).length:=by rw [d2.length,List.length_map]
 refine zh1 (xs:=us) (q7e H v (z2x b) ra us d) ?start ?lst ?step ?done
 case start=>exact⟨_,_,rfl,s1.trans s2,by rw [List.take_zero]; exact s2 _ _ z01,h2,d2⟩
 case lst=>
  rintro i σ Hc _ ⟨_,_,rfl,_,_,hu,_⟩
  exact SqL.of hu
 case done=>
  rintro σ Hc ⟨_,_,rfl,sc,hc,hu,du⟩
  walk_at "rd7"
  rw [hul,List.take_length] at hc
  have ok:=zib (z2x b) CntOk.nil
  refine⟨_,hc,fun p hp=>?_⟩
  have s3:=z02 hp (z9z p d)
  refine⟨p,d,zsw [] (z2x b),z96,rfl,z01,s3 _ _ hc,Nat.lt_of_le_of_lt ok.len (by decide),fun x hx y hy=>q0i (ok.sub x hx) (ok.sub y hy),fun l H' ws ms s4 f4 h4 d4 pm pw=>?_⟩
  exact q l H' ws ms (sc.trans (s3.trans s4)) ((sc.trans s3).free f4) h4 d4 pm pw
 case step=>
  rintro i y σ Hc hy ⟨_,_,rfl,sc,hc,hu,du⟩
  obtain⟨r,hri,dr⟩:=zas du hy
  obtain⟨pp,y0,y1,rfl,hpp,u0,u1⟩:=zjn dr
  obtain⟨ta,ty,tx,rfl,hta⟩:=zph u1
  walk_at "rd7"
  have ok:=zib ((z2x b).take i) CntOk.nil
  refine⟨_,SqT.of hpp,rfl,_,_,rfl,_,_,rfl,rfl,.inl ⟨_,.inl hc⟩,_,rfl,_,SqT.of hta,_,z1v,_,DGet.k (k:=Sum.inr r.2.word) hc,_,zxg _ _,_,rfl,_,SqT.of hta,_,z1v,_,DPut.k (k:=Sum.inr r.2.word) hc ?_,?_⟩
  ·unfold kvC
   rw [List.length_map]
   exact Nat.lt_of_le_of_lt ok.len (by decide)
  ·refine⟨_,_,rfl,z65 sc hdn,?_,by rw [z0b hne]; exact hu,du.kp (zvd hc)⟩
   rw [z01,zue,z3h hri,zic]
   rfl
end
section
variable{P:Program}{w:World}{K:PySem.W.Frag}{mg:Str->Option Value}{base:Heap}{f:Addr}{fd:FuncData}
def zjq(C:Addr):Sp:=fun vs H Q _=>∃(x dx l:Addr) (gv wv:V) (ys:List V) (r:RI) (rs:List RI),vs=[.ref x]/\H x=some (.ins C dx (trF gv wv l 1))/\H l=some (.lst ys)/\DtA H ys ((r::rs).map rowI)/\
 ∀(l':Addr) (ws:List V) (H':Hp),Same H H'->H l'=none->H' l'=some (.lst ws)->DtA H' ws [.tup [z25 r.1,.int 1]]->Q (.ref l') H'
def TyI(U:Hp)(x p0:Addr)(k:List Key)(i:Nat)(σ : St)(H':Hp):Prop:=(∃t1 t2,σ = [some (.ref x),some (.ref p0),t1,t2])/\H'=if i=0 then U else upd U p0 (.dT [(k,V.int 1)])
theorem zis{C:Addr} (F:Fun K "tally" "Trace.tally" z16 f fd) (b_sorted:mg "sorted" = none) (t:TrC K C):FnOk P w K mg base CX0 1 f fd ["self"] (zjq C):=by
 refine F.ok sc_Trace_tally (fun vs H Q E h=>?_) (fun cdv A outer s H vs Q E hr h=>?_)
 ·obtain⟨x,dx,l,gv,wv,ys,r,rs,rfl,_⟩:=h
  rfl
 obtain⟨x,dx,l,gv,wv,ys,r,rs,rfl,hx,hl,dy,q⟩:=h
 obtain _ | ⟨dr,drs⟩:=dy
 refine⟨_,(z06 (z1g (i:=1) sc_Trace_tally.nd rfl zca zy2 (z05 rfl))
 (z06 (zdo PassesOwn.never rfl (z6s (zpv ztw (z8a (z00 (i:=0) rfl z62 z3n z3o) rfl) zui (zuh (z8a (z00 (i:=0) rfl z62 z3n z3o) rfl)))) (zcj (n:=2) rfl (z0y (z10 (i:=2) sc_Trace_tally.nd rfl zc9) (z0y (z10 (i:=3) sc_Trace_tally.nd rfl zay) z4f)))
 (z0a (zk2 hr.units1 (z00 (i:=1) rfl z45 zcx zd1) (z00 (i:=2) rfl z63 z19 z1b) (z0r z1l (zq1 hr.units1 (z00 (i:=1) rfl z45 zcx zd1) (z00 (i:=2) rfl z63 z19 z1b) z03 ⟨rfl,rfl,rfl,rfl⟩) z03) (z05 rfl))))
 (z0a (z0h (za5 (znb rfl) zb8 b_sorted zeo (z09 (zun (z00 (i:=1) rfl z45 zcx zd1)) z04) zdw zeh))))),z0j fun N1 e1=>?_⟩
 walk_at "rd83"
 intro p0 hp0
 have s0:=z02 hp0 (HO.dT [])
 rw [e1]
 refine z0j fun N2 e2=>?_
 walk_at "rd83"
 refine⟨_,_,_,s0 _ _ hx,t.c,t.nr,_,zhn,_,_,_,s0 _ _ hx,t.c,t.nd,_,zco,_,rfl,l,rfl,_,SqL.of (s0 _ _ hl),fun p1 hp1=>⟨⟨_,SqL.of z01⟩,?_⟩⟩
 rename_i y0 ys'
 have ec:zwn (y0::ys') none (some (1:Int))=[y0]:=zwm (k:=1) (xs:=y0::ys') (by simp)
 rw [ec]
 have s1:=z02 hp1 (HO.lst [y0])
 have e0:upd (upd H p0 (HO.dT [])) p1 (HO.lst [y0]) p0=some (.dT []):=s1 _ _ z01
 have e1':upd (upd H p0 (HO.dT [])) p1 (HO.lst [y0]) p1=some (.lst [y0]):=z01
 have s01:=s0.trans s1
 generalize upd (upd H p0 (HO.dT [])) p1 (HO.lst [y0])=U at s01 e0 e1' |-
 have n01:p1≠p0:=z5w e1' e0 (by intro z; cases z)
 obtain⟨pp,v0,v1,rfl,hpp,u0,u1⟩:=zjn (dr.kp s01.kp)
 obtain⟨pa,xs,rfl,hpa,dpa⟩:=u0.tupI
 obtain rfl:=zbv dpa
 have hpa':U pa=some (.tup ((r.1.map Sum.inl).map kV)):=by rw [hpa,List.map_map]; rfl
 have npa:pa≠p0:=z5w hpa e0 (by intro z; cases z)
 refine zh1 (xs:=[V.ref pp]) (TyI U x p0 (r.1.map Sum.inl)) ⟨⟨_,_,rfl⟩,by rw [if_pos rfl]⟩ ?_ ?_ ?_
 ·rintro i σ H' _ ⟨_,rfl⟩
  split
  ·exact SqL.of e1'
  ·exact SqL.of (by rw [z0b n01]; exact e1')
 ·rintro i v σ H' hv ⟨⟨t1,t2,rfl⟩,rfl⟩
  have hi:i=0:=by
   cases i with
   | zero=>rfl
   | succ j=>simp at hv
  subst hi
  have hv:some (V.ref pp)=some v:=hv
  cases hv
  rw [if_pos rfl]
  walk_at "rd83"
  refine⟨_,SqT.of hpp,rfl,_,_,rfl,_,_,rfl,rfl,?_⟩
  refine⟨.inr ⟨_,.inl e0⟩,_,DGet.t e0 hpa',0,rfl,_,DPut.t e0 hpa' (show 0 < sizeLine by decide),⟨_,_,rfl⟩,?_⟩
  rw [if_neg (by decide)]
  rfl
 ·rintro σ H' ⟨⟨t1,t2,rfl⟩,rfl⟩
  show N2 _ _
  rw [e2,if_neg (show ¬ [V.ref pp].length=0 by simp)]
  walk_at "rd83"
  refine⟨_,z01,fun p2 hp2=>?_⟩
  have hp2':U p2=none:=by
   by_cases e:p2=p0
   ·subst e; rw [z01] at hp2; cases hp2
   ·rw [z0b e] at hp2; exact hp2
  have s2:=z02 hp2 (z9z p2 p0)
  refine⟨p2,p0,r.1,1,rfl,z01,s2 _ _ z01,fun l' H'' ws s3 fl hl' dw=>?_⟩
  have s4:Same H (upd (upd U p0 (HO.dT [(r.1.map Sum.inl,V.int 1)])) p2 (z9z p2 p0)):=fun a o ea=>by
   have ha:=s01 a o ea
   have na:a≠p0:=z0e ea hp0
   exact s2 _ _ (by rw [z0b na]; exact ha)
  exact q l' ws H'' (s4.trans s3) (s4.free fl) hl' dw
end
section
variable{P:Program}{w:World}{K:PySem.W.Frag}{mg:Str->Option Value}{base:Heap}{f:Addr}{fd:FuncData}
theorem zqe{k:Nat}{fa:Addr}{H:Hp}{vs:List V}{Q Q':VK}(h:zt9 P w K mg base k fa H vs Q)(q:∀v H1,Q v H1->Q' v H1):zt9 P w K mg base k fa H vs Q':=fun A outer s us hr e0 r=>codeAny_mono (h A outer s us hr e0 r) fun rs s' hq=>by
 cases rs with
 | error e=>exact hq
 | ok fl=>
  cases fl with
  | ret u=>
   obtain⟨v,H',os,bare,un,hok,rv,qv⟩:=hq
   exact⟨v,H',os,bare,un,hok,rv,q v H' qv⟩
  | next=>exact hq
  | brk=>exact hq
  | cont=>exact hq
theorem zm7(F:Fun K "_law_stays" "_law_stays" z2v f fd) (b_isinstance:mg "isinstance" = none) (b_list:mg "list" = none):FnOk P w K mg base CX0 11 f fd ["_law_deed"] (znw P w K mg base):=by
 refine F.ok sc_law_stays (fun vs H Q E h=>?_) (fun cdv A outer s H vs Q E hr h=>?_)
 ·obtain⟨fa,rfl,_⟩:=h
  rfl
 obtain⟨fa,rfl,hl,h⟩:=h
 refine⟨_,(z06 (z1g (i:=1) sc_law_stays.nd rfl z9b (zlz (i:=0) (k:=10) rfl z4r hr (by omega) zg4 zg6) (z05 rfl))
 (z06 (z32 (zuf (zpt (za5 zyx z9m b_isinstance z6g (z09 (z00 (i:=1) rfl z37 zbd zbl) (z09 (zk6 (v:=V.ty "list") z8m b_list zx0 rfl zv2 zwf) z04)) z66 z69))) (z0a (z0h q0u)) z0x)
 (z06 (z1g (i:=2) sc_law_stays.nd rfl z9c (zoc znc z8m b_list zx0 (z09 (z00 (i:=1) rfl z37 zbd zbl) z04) zv2 zwf) (z05 rfl))
 (z06 (z46 (zdq PySem.F.plainAttrs_list PySem.F.slot_list_append PySem.F.type_list_append z3i (z00 (i:=1) rfl z37 zbd zbl) (z09 z0m z04)) (z05 rfl))
 (z0a (z0h (zfd (q7c hr.units) (zlz (i:=0) (k:=10) rfl z4r hr (by omega) zg4 zg6) (z00 (i:=2) rfl z8x zmy zn8) (z0s _)))))))),z0j fun N1 e1=>?_⟩
 walk_at "rd83"
 refine⟨hl,?_⟩
 refine zqe h fun v H1 ⟨l,xs,ds,ev,hx,dx,ok,h9,h2⟩=>?_
 subst ev
 rw [e1]
 refine z0j fun N2 e2=>zth fun Y Z eY eZ=>?_
 walk_at "rd83"
 refine⟨_,_,⟨rfl,rfl⟩,true,⟨_,.lst hx,rfl⟩,?_⟩
 rw [if_neg (by decide),eZ]
 show N2 _ _
 rw [e2]
 refine z0j fun N3 e3=>?_
 walk_at "rd83"
 refine⟨xs,.inl (SqL.of hx),fun p hp=>?_⟩
 obtain⟨hl2,h2⟩:=h2 p hp
 have npl:l≠p:=z0e hx hp
 rw [e3]
 refine z0j fun N4 e4=>?_
 walk_at "rd83"
 have hx2:upd H1 p (HO.lst xs) l=some (.lst xs):=by rw [z0b npl]; exact hx
 refine⟨.inl ⟨rfl,_,SqL.of hx2⟩,xs,hx2,h9,?_⟩
 rw [e4]
 walk_at "rd83"
 refine⟨hl2,zqe h2 fun v' H3 ⟨l',xs',ev,hx',dx',hp3,dx3,q⟩=>?_⟩
 subst ev
 exact⟨true,⟨_,_,_,_,_,_,rfl,rfl,SqL.of hx',SqL.of hp3,dx',dx3,ok.1,ok.1,ok.2.1,ok.2.1,ok.2.2.symm⟩,q⟩
end
section
variable{P:Program}{w:World}{K:PySem.W.Frag}{mg:Str->Option Value}{base:Heap}{f:Addr}{fd:FuncData}
theorem zoy(c:Cnt):∀(n:Nat) (t:T) (p:List Int),T.ok pool n t->(evT c t p).2.length+1<=2 ^ n
 | 0,_,_,h=>h.elim
 | n+1,.num i,p,_=>by
  rw [evT]
  have:1<=2 ^ n:=Nat.one_le_two_pow
  simp only[List.length_cons,List.length_nil,Nat.pow_succ]
  omega
 | n+1,.nm x,p,_=>by
  rw [evT]
  have:1<=2 ^ n:=Nat.one_le_two_pow
  simp only[List.length_cons,List.length_nil,Nat.pow_succ]
  omega
 | n+1,.op w a b,p,h=>by
  have h1:=zoy c n a (p++[0]) h.1
  have h2:=zoy c n b (p++[1]) h.2
  rw [Nat.pow_succ]
  rcases e1:evT c a (p++[0]) with⟨r1,w1⟩
  rcases e2:evT c b (p++[1]) with⟨r2,w2⟩
  rw [e1] at h1
  rw [e2] at h2
  cases r1 with
  | ref u q=>rw [zur e1]; simp only at h1 |-; omega
  | had x=>
   cases r2 with
   | ref u q=>rw [zk8 e1 e2]; simp only[List.length_append] at h1 h2 |-; omega
   | had y=>
    by_cases h3:w=.quo/\y=0
    ·obtain⟨rfl,rfl⟩:=h3
     rw [zk7 e1 e2]; simp only[List.length_append] at h1 h2 |-; omega
    ·rw [zq2 e1 e2 h3]; simp only[List.length_append,List.length_cons,List.length_nil] at h1 h2 |-; omega
theorem zym{cond:Cnt->Rs×List RI}{body:Cnt->Out}{p:List Int}{A B:Nat}(hc:∀c,(cond c).2.length<=A)(hb:∀c,(body c).2.2.length<=B):∀(k:Nat) (c:Cnt),(z4w cond body p k c).2.2.length<=(k+1) * A+k * B:=by
 intro k
 induction k with
 | zero=>
  intro c
  have h1:=hc c
  rcases e1:cond c with⟨r1,w1⟩
  rw [e1] at h1
  cases r1 with
  | ref u q=>rw [zdz e1]; simpa using h1
  | had v=>
   by_cases hv:v=0
   ·subst hv; rw [zat e1]; simpa using h1
   ·rw [ze0 e1 hv]; simpa using h1
 | succ k ih=>
  intro c
  have h1:=hc c
  have h2:=hb c
  have mA:(k+1+1) * A=A+(k+1) * A:=by rw [Nat.add_mul (k+1) 1 A,Nat.one_mul]; omega
  have mB:(k+1) * B=B+k * B:=by rw [Nat.add_mul k 1 B,Nat.one_mul]; omega
  rw [mA,mB]
  rcases e1:cond c with⟨r1,w1⟩
  rcases e2:body c with⟨o1,c1,v1⟩
  rw [e1] at h1
  rw [e2] at h2
  simp only at h1 h2
  cases r1 with
  | ref u q=>rw [zdz e1]; simp only; omega
  | had v=>
   by_cases hv:v=0
   ·subst hv; rw [zat e1]; simp only; omega
   ·cases o1 with
    | some u=>rw [zau e1 hv e2]; simp only[List.length_append]; omega
    | none=>
     have h3:=ih c1
     rw [zav e1 hv e2]; simp only[zno,List.length_append]; omega
theorem zi5{M:Nat}:∀(b:List D),(∀d∈b,∀(p:List Int) (c:Cnt),(evD p d c).2.2.length<=M)->∀(p:List Int) (k:Int) (c:Cnt),(evB p k b c).2.2.length<=b.length * M
 | [],_,p,k,c=>by rw [evB]; simp
 | d::r,h,p,k,c=>by
  have h1:=h d (.head _) (p++[k]) c
  rw [List.length_cons,Nat.add_mul,Nat.one_mul]
  rcases e1:evD (p++[k]) d c with⟨o1,c1,w1⟩
  rw [e1] at h1
  simp only at h1
  have h2:=zi5 r (fun e he=>h e (.tail _ he)) p (k+1) c1
  cases o1 with
  | some u=>rw [zkl e1]; simp only; omega
  | none=>rw [zkm e1]; simp only[zno,List.length_append]; omega
def PD:Nat->Nat
 | 0=>31
 | n+1=>651+20 * (6 * PD n)
theorem t31(c:Cnt)(t:T)(p:List Int)(h:T.ok pool 5 t):(evT c t p).2.length<=31:=by
 have:=zoy c 5 t p h
 omega
theorem zkk:∀(n:Nat) (d:D) (p:List Int) (c:Cnt),okD n d->(evD p d c).2.2.length<=PD n
 | n,.set x t,p,c,h=>by
  have h1:=t31 c t (p++[0]) h.2
  rw [ztx]
  cases n with
  | zero=>exact h1
  | succ n=>rw [PD]; omega
 | 0,.ite t b b2,p,c,h=>h.2.1.elim
 | 0,.whl t m b,p,c,h=>h.2.2.2.elim
 | n+1,.ite t b b2,p,c,h=>by
  have h1:=t31 c t (p++[0]) h.1
  have hb:=zi5 b (fun d hd p c=>zkk n d p c (h.2.1.2 d hd)) (p++[1]) 0 c
  have hb2:=zi5 b2 (fun d hd p c=>zkk n d p c (h.2.2.2 d hd)) (p++[2]) 0 c
  have l1:b.length * PD n<=6 * PD n:=Nat.mul_le_mul_right _ h.2.1.1
  have l2:b2.length * PD n<=6 * PD n:=Nat.mul_le_mul_right _ h.2.2.1
  rw [PD]
  rcases e1:evT c t (p++[0]) with⟨r1,w1⟩
  rw [e1] at h1
  simp only at h1
  cases r1 with
  | ref u q=>rw [zhu e1]; simp only; omega
  | had v=>
   by_cases hv:v=0
   ·subst hv
    rw [zmg e1]; simp only[List.length_append]; omega
   ·rw [zht e1 hv]; simp only[List.length_append]; omega
 | n+1,.whl t m b,p,c,h=>by
  have l1:b.length * PD n<=6 * PD n:=Nat.mul_le_mul_right _ h.2.2.2.1
  have hl:=zym (cond:=fun c=>evT c t (p++[0])) (body:=fun c=>evB (p++[1]) 0 b c) (p:=p) (A:=31) (B:=6 * PD n) (fun c=>t31 c t (p++[0]) h.1) (fun c=>Nat.le_trans (zi5 b (fun d hd p c=>zkk n d p c (h.2.2.2.2 d hd)) (p++[1]) 0 c) l1) m.toNat c
  rw [evD,PD]
  have hm:m.toNat<=20:=by have:=h.2.2.1; omega
  have l2:(m.toNat+1) * 31<=21 * 31:=Nat.mul_le_mul_right _ (by omega)
  have l3:m.toNat * (6 * PD n)<=20 * (6 * PD n):=Nat.mul_le_mul_right _ hm
  omega
theorem q0g{b:List D}(h:okB 3 b)(p:List Int)(k:Int)(c:Cnt):(evB p k b c).2.2.length+1 < sizeLine:=by
 have h1:=zi5 b (fun d hd p c=>zkk 2 d p c (h.2 d hd)) p k c
 have h2:b.length * PD 2<=6 * PD 2:=Nat.mul_le_mul_right _ h.1
 have h3:6 * PD 2+1 < sizeLine:=by decide
 omega
theorem zql(c:Cnt):∀(t:T) (p:List Int),(evT c t p).2≠[]
 | .num i,p=>by rw [evT]; simp
 | .nm x,p=>by rw [evT]; simp
 | .op w a b,p=>by
  have h:=zql c a (p++[0])
  rw [evT]
  generalize evT c a (p++[0])=ra at h |-
  obtain⟨r,r1⟩:=ra
  have h:r1≠[]:=h
  cases r with
  | ref u q=>exact h
  | had x=>
   dsimp only
   generalize evT c b (p++[1])=rb
   obtain⟨s,r2⟩:=rb
   cases s with
   | ref u q=>simp[h]
   | had y=>simp only; split<;>simp[h]
theorem q1a{cond:Cnt->Rs×List RI}{body:Cnt->Out}{p:List Int}(h:∀c,(cond c).2≠[])(k:Nat)(c:Cnt):(z4w cond body p k c).2.2≠[]:=by
 have hc:=h c
 cases e:cond c with
 | mk rs r=>
  rw [e] at hc
  have hc:r≠[]:=hc
  cases rs with
  | ref u q=>rw [zdz e]; exact hc
  | had v=>
   by_cases hv:v=0
   ·subst hv
    rw [zat e]
    exact hc
   ·cases k with
    | zero=>rw [ze0 e hv]; exact hc
    | succ k=>
     cases eb:body c with
     | mk oe zo8=>
      obtain⟨c1,r1⟩:=zo8
      cases oe with
      | some e'=>rw [zau e hv eb]; simp[hc]
      | none=>rw [zav e hv eb]; unfold zno; simp[hc]
theorem q4d(d:D)(p:List Int)(c:Cnt):(evD p d c).2.2≠[]:=by
 cases d with
 | set x t=>
  have h:=zql c t (p++[0])
  rw [evD]
  generalize evT c t (p++[0])=ra at h |-
  obtain⟨r,r1⟩:=ra
  cases r<;>exact h
 | ite t b b2=>
  have h:=zql c t (p++[0])
  rw [evD]
  generalize evT c t (p++[0])=ra at h |-
  obtain⟨r,r1⟩:=ra
  have h:r1≠[]:=h
  cases r with
  | ref u q=>exact h
  | had v=>
   simp only
   split<;>simp[h]
 | whl t m b=>
  rw [evD]
  exact q1a (fun c=>zql c t _) _ _
theorem q4e{b:List D}(hb:b≠[])(p:List Int)(k:Int)(c:Cnt):(evB p k b c).2.2≠[]:=by
 cases b with
 | nil=>exact absurd rfl hb
 | cons d r=>
  have h:=q4d d (p++[k]) c
  rw [evB]
  generalize evD (p++[k]) d c=ra at h |-
  obtain⟨oe,c1,w⟩:=ra
  have h:w≠[]:=h
  cases oe with
  | some e=>exact h
  | none=>simp[h]
end
section
variable{P:Program}{w:World}{K:PySem.W.Frag}{mg:Str->Option Value}{base:Heap}{f:Addr}{fd:FuncData}
def SameN(H H':Hp):Prop:=∀a o,(∀s,o≠.tbl s)->H a=some o->H' a=some o
theorem SameN.refl(H:Hp):SameN H H:=fun _ _ _ e=>e
theorem SameN.trans{H H1 H2:Hp}(a:SameN H H1)(b:SameN H1 H2):SameN H H2:=fun x o n e=>b x o n (a x o n e)
theorem SameN.of{H H':Hp}(h:Same H H'):SameN H H':=fun a o _ e=>h a o e
theorem SameN.kp{H H':Hp}(h:SameN H H'):Kp H H':=⟨fun b xs e=>h _ _ (by intro s z; cases z) e,fun b xs e=>⟨xs,h _ _ (by intro s z; cases z) e⟩⟩
theorem SameN.ofB{pt:Addr}{H H':Hp}{ps:Array Value}(h:SameB pt H H')(e:H pt=some (.tbl ps)):SameN H H':=fun a o n z=>h a o (z5w z e (n ps)) z
theorem TabM.ne{p1 p2:Addr}{q:Str}{H H':Hp}(h:TabM p1 q H)(s:SameB p2 H H')(n:p1≠p2)(ht:∃ps,H p2=some (.tbl ps)):TabM p1 q H':=by
 obtain⟨ps,ht⟩:=ht
 obtain⟨qs,e,t,c⟩:=h
 refine⟨qs,s _ _ n e,t,fun pos v z=>?_⟩
 obtain⟨c',e1,e2⟩:=c pos v z
 exact⟨c',e1,s _ _ (z5w e2 ht (by intro z; unfold zch at z; cases z)) e2⟩
theorem zkd{m:Str}{gv wv:V}{l:Addr}{k:Int} (h:(m == ("program" : Str))=false/\(m == ("worths" : Str))=false/\(m == ("rows" : Str))=false/\(m == ("done" : Str))=false):(trF gv wv l k).lookup m=none:=by
 simp only[trF,List.lookup,h.1,h.2.1,h.2.2.1,h.2.2.2]
structure LT(pt C x dx l:Addr)(gv wv:V)(ys:List V)(rows:List Rw)(b:List D)(r0:RI)(rs:List RI)(lg:Option (Addr×List V))(H:Hp):Prop where
 tb:TabM pt qL H
 hx:H x=some (.ins C dx (trF gv wv l 1))
 hl:H l=some (.lst ys)
 dy:DtA H ys ((r0::rs).map rowI)
 dg:Dt H gv (.tup [.tup (rows.map rowEnc),.tup (encB b)])
 lg:∀q,lg=some q->H q.1=some (.lst q.2)
section
variable{pt C x dx l:Addr}{gv wv:V}{ys:List V}{rows:List Rw}{b:List D}{r0:RI}{rs:List RI}{lg:Option (Addr×List V)}{H H':Hp}
theorem LT.nn(h:LT pt C x dx l gv wv ys rows b r0 rs lg H)(s:SameN H H')(t:TabM pt qL H'):LT pt C x dx l gv wv ys rows b r0 rs lg H':=
 ⟨t,s _ _ (by intro s z; cases z) h.hx,s _ _ (by intro s z; cases z) h.hl,h.dy.kp s.kp,h.dg.kp s.kp,fun q e=>s _ _ (by intro s z; cases z) (h.lg q e)⟩
theorem LT.same(h:LT pt C x dx l gv wv ys rows b r0 rs lg H)(s:Same H H'):LT pt C x dx l gv wv ys rows b r0 rs lg H':=h.nn (SameN.of s) (h.tb.kp fun a o _ _ e=>s _ _ e)
theorem LT.told(h:LT pt C x dx l gv wv ys rows b r0 rs lg H)(s:SameB pt H H')(t:TabM pt qL H'):LT pt C x dx l gv wv ys rows b r0 rs lg H':=by
 obtain⟨_,e⟩:=h.tb.tb
 exact h.nn (SameN.ofB s e) t
theorem LT.plus{p l':Addr}{xs:List V}(h:LT pt C x dx l gv wv ys rows b r0 rs lg H)(hp:H p=none)(hl':H l'=some (.lst xs))(n1:l≠l')(n2:∀q,lg=some q->q.1≠l'):LT pt C x dx l gv wv ys rows b r0 rs lg (zap H p l' xs):=by
 have kp:=zpu hp hl'
 refine⟨h.tb.kp fun a o n1 n2 e=>z97 hp e (z5w e hl' (n1 _)),z97 hp h.hx (z5w h.hx hl' (by intro z; cases z)),z97 hp h.hl n1,h.dy.kp kp,h.dg.kp kp,fun q e=>z97 hp (h.lg q e) (n2 q e)⟩
theorem LT.good{p:Addr}{gs:List V}(h:LT pt C x dx l gv wv ys rows b r0 rs none H)(hp:H p=none):LT pt C x dx l gv wv ys rows b r0 rs (some (p,gs)) (upd H p (.lst gs))/\l≠p:=by
 have h':=h.same (z02 hp (.lst gs))
 exact⟨⟨h'.tb,h'.hx,h'.hl,h'.dy,h'.dg,fun q e=>by cases e; exact z01⟩,z0e h.hl hp⟩
theorem LT.more{p:Addr}{gs gs':List V}(h:LT pt C x dx l gv wv ys rows b r0 rs (some (p,gs)) H)(n:l≠p):LT pt C x dx l gv wv ys rows b r0 rs (some (p,gs')) (upd H p (.lst gs')):=by
 have hg:=h.lg _ rfl
 have kp:Kp H (upd H p (.lst gs')):=Kp.set hg
 exact⟨h.tb.kp fun a o n1 n2 e=>by rw [z0b (z5w e hg (n1 _))]; exact e,by rw [z0b (z5w h.hx hg (by intro z; cases z))]; exact h.hx,by rw [z0b n]; exact h.hl,h.dy.kp kp,h.dg.kp kp,fun q e=>by cases e; exact z01⟩
theorem zj9{T:Hp->VK->Prop}{R:List Dm->Prop}{Q Q1:VK}(uq:∀ds ds',R ds->R ds'->ds=ds')(ok:∀ds,R ds->zt5 ds/\ds.length < sizeLine)
  (tell:∀H,LT pt C x dx l gv wv ys rows b r0 rs lg H->∀Q':VK,(∀(ds:List Dm) (l':Addr) (xs:List V) (H':Hp),R ds->Same H H'->H l'=none->H' l'=some (.lst xs)->DtA H' xs ds->Q' (.ref l') H')->T H Q')
  (h:LT pt C x dx l gv wv ys rows b r0 rs lg H) (k:∀v H1,SQ1 T H Q v H1->Q1 v H1) (q:∀H3,LT pt C x dx l gv wv ys rows b r0 rs lg H3->Q (.bl true) H3):T H Q1:=
 tell H h Q1 fun ds l' xs H1 rd s1 f1 h1 d1=>k _ _ ⟨l',xs,ds,rfl,s1,h1,d1,(ok ds rd).1,by rw [d1.length]; exact(ok ds rd).2,fun p hp Q2 k2=>by
  have j1:=(h.same s1).plus hp h1 (z0e h.hl f1) fun q e=>z0e (h.lg q e) f1
  refine tell _ j1 Q2 fun ds' l2 xs2 H3 rd' s3 f3 h3 d3=>k2 _ _ ⟨l2,xs2,rfl,s3,h3,?_,q H3 (j1.same s3)⟩
  rw [uq ds ds' rd rd']
  exact d3⟩
end
theorem zfr(l:List (List Int)):zt5 (l.map z25):=⟨(zfo l).1,(zfo l).2.1,zkn (zfo l).2.2⟩
theorem zw2{ds:List Dm}(h:∀d∈ds,Fine 3 d):zt5 ds:=by
 obtain⟨a,b,c⟩:=zvw (ds:=ds) (n:=3) h
 have h0:PyData.canLay0 (.list (zej ds))=true:=by simpa [PyData.canLay0] using b
 refine⟨a,?_,zkn h0⟩
 unfold SeqAt.shaped
 rw [h0,Bool.true_and,decide_eq_true_eq]
 simp only[PyData.depth]
 omega
def RNm(rows:List Rw)(b:List D)(ds:List Dm):Prop:=∃ms:List Str,ds=ms.map Dm.str/\PyProof.Rows.sortedS ms=true/\ms.Nodup/\∀x,x∈ms↔x∈zdx rows b
def RWd(b:List D)(ds:List Dm):Prop:=∃ms:Cnt,ds=ms.map ziq/\ms.Perm (zsw [] (z2x b))/\ms.Pairwise fun p q=>z96 p.1 < z96 q.1
theorem zy0:∀x∈pool,PyData.strOk x=true:=by
 intro x hx
 simp only[pool,List.mem_cons,List.not_mem_nil,or_false] at hx
 rcases hx with rfl | rfl | rfl | rfl<;>decide+kernel
theorem q6w{rows:List Rw}{b:List D}(hrp:∀r∈rows,r.1∈pool)(hok:okB 3 b)(ds ds':List Dm):RNm rows b ds->RNm rows b ds'->ds=ds':=by
 rintro⟨ms,rfl,h1,h2,h3⟩ ⟨ms',rfl,h1',h2',h3'⟩
 rw [zf6 (fun x hx=>zfg hrp hok x ((h3 x).mp hx)) h1 h1' ((List.perm_ext_iff_of_nodup h2 h2').mpr fun x=>(h3 x).trans (h3' x).symm)]
theorem q6z{rows:List Rw}{b:List D}(hrp:∀r∈rows,r.1∈pool)(hok:okB 3 b)(ds:List Dm):RNm rows b ds->zt5 ds/\ds.length < sizeLine:=by
 rintro⟨ms,rfl,h1,h2,h3⟩
 have hp:∀x∈ms,x∈pool:=fun x hx=>zfg hrp hok x ((h3 x).mp hx)
 refine⟨zw2 fun d hd=>?_,?_⟩
 ·obtain⟨x,hx,rfl⟩:=List.mem_map.mp hd
  exact z7e _ (zy0 x (hp x hx))
 ·rw [List.length_map]
  exact Nat.lt_of_le_of_lt (zdu ms pool h2 hp) (by decide)
theorem q6v{b:List D}(ds ds':List Dm):RWd b ds->RWd b ds'->ds=ds':=by
 rintro⟨ms,rfl,h1,h2⟩ ⟨ms',rfl,h1',h2'⟩
 rw [zo2 h1 h1' h2 h2']
theorem q5u{b:List D}(ds:List Dm):RWd b ds->zt5 ds/\ds.length < sizeLine:=by
 rintro⟨ms,rfl,h1,h2⟩
 refine⟨⟨(zfp (zk5 h1)).1,(zfp (zk5 h1)).2.1,zkn (zfp (zk5 h1)).2.2⟩,?_⟩
 rw [List.length_map,h1.length_eq]
 exact Nat.lt_of_le_of_lt (zib (z2x b) CntOk.nil).len (by decide)
theorem q5a(e:List Dm)(ds ds':List Dm):ds=e->ds'=e->ds=ds':=fun h h'=>h.trans h'.symm
theorem q5h{e:List Dm}(h:zt5 e/\e.length < sizeLine)(ds:List Dm):ds=e->zt5 ds/\ds.length < sizeLine:=fun z=>z ▸ h
def zxm(K:PySem.W.Frag)(p2 p3:Addr):Sp:=fun vs H Q _=>∃(a:Addr) (ns:List Int),vs=[.ref a]/\SqL K H a (ns.map V.int)/\ns.length<=63/\H p2=some (.tbl #[])/\H p3=some (.tbl #[])/\∀H',Q (.bl true) H'
theorem q3n{c p2 pt C:Addr}(h23:p2≠pt) (F:FunC K "law" "law" z6q f fd c) (hC:PySem.W.CodeHd base c pt) (hB:base.BuiltinsAt mg pt) (hgP:mainGlobals≠pt) (t:TrC K C) (m_Trace:mg "Trace" = some (.ref C))
  (c_law_program:Callee P w K mg base "_law_program" ["_law_script","_law_at"] 11 (zli K)) (c_law_worths:Callee P w K mg base "_law_worths" ["_law_script","_law_at","_law_program_here"] 3 (q69 K))
  (c_law_stays:Callee P w K mg base "_law_stays" ["_law_deed"] 11 (znw P w K mg base)) (c_Trace_init:CalleeI P w K mg base C ["self","program","worths"] 23 (zze p2 C)) (c_Trace_go:CalleeM P w K mg base C "go" ["self"] 1 (q6a C))
  (c_Trace_passed:CalleeM P w K mg base C "passed" ["self"] 1 (zpn C)) (c_Trace_tally:CalleeM P w K mg base C "tally" ["self"] 1 (zjq C)) (c_Trace_unseen:CalleeM P w K mg base C "unseen" ["self"] 8 (zgv C))
  (c_names_in:Callee P w K mg base "names_in" ["program"] 7 znz) (c_set_at:Callee P w K mg base "set_at" ["program","name"] 7 znx) (c_used_at:Callee P w K mg base "used_at" ["program","name"] 8 zjp) (c_words_in:Callee P w K mg base "words_in" ["program"] 8 znv):FnOk P w K mg base CX0 27 f fd ["_law_script"] (zxm K p2 pt):=by
 refine F.ok sc_law (fun vs H Q E h=>?_) (fun A outer s H vs Q E hr h=>?_)
 ·obtain⟨a,ns,rfl,_⟩:=h
  rfl
 obtain⟨a,ns,rfl,hS,_,hp2,hp3,q⟩:=h
 have k_Trace:=t.c
 refine⟨_,(z06 (z1g (i:=1) sc_law.nd rfl z7v (z18 c_law_program hr (by omega) (z09 (z00 (i:=0) rfl z6l z07 z08) (z09 z03 z04)) zcr zi8) (z05 rfl))
 (z06 (z1g (i:=2) sc_law.nd rfl ze2 (q5r c_Trace_init hr (by omega) zmm m_Trace (z09 (z00 (i:=1) rfl z49 z1a z1c) (z09 (z18 c_law_worths hr (by omega) (z09 (z00 (i:=0) rfl z6l z07 z08) (z09 z03 (z09 (z00 (i:=1) rfl z49 z1a z1c) z04))) zec zj1) z04)) zz6) (z05 rfl))
 (z06 (z46 (zpx (z00 (i:=2) rfl z7a z6a z6d) k_Trace c_Trace_go hr (by omega)) (z05 rfl))
 (z06 (z1g (i:=3) sc_law.nd rfl zfk (z44 (z09 (zbr (c:=c) (pt:=pt) (q:=qL) (cs:=[(1,s.heap.objs.size+1)]) (fr:=["_law_program_here"]) c_law_stays hr (by omega) rfl rfl rfl hC hB hgP rfl (List.forall_mem_cons.mpr ⟨⟨"_law_program_here",rfl,rfl,z1u,rfl⟩,(fun _ h=>nomatch h)⟩) (z5e rfl rfl rfl (by decide+kernel) (by decide+kernel) (by decide+kernel) (by decide+kernel) rfl (by simp)) rfl (by simp) (fun _ h1 h2 h3 h4=>zt2 h1 h2 h3 h4) (fun _ _ _ _ _ _ hr=>(z18 c_names_in hr (by omega) (z09 (z00 (i:=0) rfl (by first | exact Or.inl rfl | exact Or.inr (Or.inl rfl) | exact Or.inr (Or.inr rfl)) z1a z1c) z04) rfl zp4)) z2h z43) z04)) (z05 rfl))
 (z06 (z46 (zdq PySem.F.plainAttrs_list PySem.F.slot_list_append PySem.F.type_list_append z3i (z00 (i:=3) rfl z2f z4o z4q) (z09 (zbr (c:=c) (pt:=pt) (q:=qL) (cs:=[(1,s.heap.objs.size+1)]) (fr:=["_law_program_here"]) c_law_stays hr (by omega) rfl rfl rfl hC hB hgP rfl (List.forall_mem_cons.mpr ⟨⟨"_law_program_here",rfl,rfl,z1u,rfl⟩,(fun _ h=>nomatch h)⟩) (z5e rfl rfl rfl (by decide+kernel) (by decide+kernel) (by decide+kernel) (by decide+kernel) rfl (by simp)) rfl (by simp) (fun _ h1 h2 h3 h4=>zt2 h1 h2 h3 h4) (fun _ _ _ _ _ _ hr=>(z18 c_set_at hr (by omega) (z09 (z00 (i:=0) rfl (by first | exact Or.inl rfl | exact Or.inr (Or.inl rfl) | exact Or.inr (Or.inr rfl)) z1a z1c) (z09 z0m z04)) rfl zwb)) z2h z43) z04)) (z05 rfl))
 (z06 (z46 (zdq PySem.F.plainAttrs_list PySem.F.slot_list_append PySem.F.type_list_append z3i (z00 (i:=3) rfl z2f z4o z4q) (z09 (zbr (c:=c) (pt:=pt) (q:=qL) (cs:=[(1,s.heap.objs.size+1)]) (fr:=["_law_program_here"]) c_law_stays hr (by omega) rfl rfl rfl hC hB hgP rfl (List.forall_mem_cons.mpr ⟨⟨"_law_program_here",rfl,rfl,z1u,rfl⟩,(fun _ h=>nomatch h)⟩) (z5e rfl rfl rfl (by decide+kernel) (by decide+kernel) (by decide+kernel) (by decide+kernel) rfl (by simp)) rfl (by simp) (fun _ h1 h2 h3 h4=>zt2 h1 h2 h3 h4) (fun _ _ _ _ _ _ hr=>(z18 c_used_at hr (by omega) (z09 (z00 (i:=0) rfl (by first | exact Or.inl rfl | exact Or.inr (Or.inl rfl) | exact Or.inr (Or.inr rfl)) z1a z1c) (z09 z0m z04)) rfl zso)) z2h z43) z04)) (z05 rfl))
 (z06 (z46 (zdq PySem.F.plainAttrs_list PySem.F.slot_list_append PySem.F.type_list_append z3i (z00 (i:=3) rfl z2f z4o z4q) (z09 (zbr (c:=c) (pt:=pt) (q:=qL) (cs:=[(1,s.heap.objs.size+1)]) (fr:=["_law_program_here"]) c_law_stays hr (by omega) rfl rfl rfl hC hB hgP rfl (List.forall_mem_cons.mpr ⟨⟨"_law_program_here",rfl,rfl,z1u,rfl⟩,(fun _ h=>nomatch h)⟩) (z5e rfl rfl rfl (by decide+kernel) (by decide+kernel) (by decide+kernel) (by decide+kernel) rfl (by simp)) rfl (by simp) (fun _ h1 h2 h3 h4=>zt2 h1 h2 h3 h4) (fun _ _ _ _ _ _ hr=>(z18 c_words_in hr (by omega) (z09 (z00 (i:=0) rfl (by first | exact Or.inl rfl | exact Or.inr (Or.inl rfl) | exact Or.inr (Or.inr rfl)) z1a z1c) z04) rfl zp3)) z2h z43) z04)) (z05 rfl))
 (z06 (z46 (zdq PySem.F.plainAttrs_list PySem.F.slot_list_append PySem.F.type_list_append z3i (z00 (i:=3) rfl z2f z4o z4q) (z09 (zbr (c:=c) (pt:=pt) (q:=qL) (cs:=[(2,s.heap.objs.size+2)]) (fr:=["_law_trace"]) c_law_stays hr (by omega) rfl rfl rfl hC hB hgP rfl (List.forall_mem_cons.mpr ⟨⟨"_law_trace",rfl,rfl,z76,rfl⟩,(fun _ h=>nomatch h)⟩) (z5e rfl rfl rfl (by decide+kernel) (by decide+kernel) (by decide+kernel) (by decide+kernel) rfl (by simp)) rfl (by simp) (fun _ h1 h2 h3 h4=>zt2 h1 h2 h3 h4) (fun _ _ _ _ _ _ hr=>(zpx (z00 (i:=0) rfl (by first | exact Or.inl rfl | exact Or.inr (Or.inl rfl) | exact Or.inr (Or.inr rfl)) z6a z6d) k_Trace c_Trace_tally hr (by omega))) z2h z43) z04)) (z05 rfl))
 (z06 (z46 (zdq PySem.F.plainAttrs_list PySem.F.slot_list_append PySem.F.type_list_append z3i (z00 (i:=3) rfl z2f z4o z4q) (z09 (zbr (c:=c) (pt:=pt) (q:=qL) (cs:=[(2,s.heap.objs.size+2)]) (fr:=["_law_trace"]) c_law_stays hr (by omega) rfl rfl rfl hC hB hgP rfl (List.forall_mem_cons.mpr ⟨⟨"_law_trace",rfl,rfl,z76,rfl⟩,(fun _ h=>nomatch h)⟩) (z5e rfl rfl rfl (by decide+kernel) (by decide+kernel) (by decide+kernel) (by decide+kernel) rfl (by simp)) rfl (by simp) (fun _ h1 h2 h3 h4=>zt2 h1 h2 h3 h4) (fun _ _ _ _ _ _ hr=>(zpx (z00 (i:=0) rfl (by first | exact Or.inl rfl | exact Or.inr (Or.inl rfl) | exact Or.inr (Or.inr rfl)) z6a z6d) k_Trace c_Trace_unseen hr (by omega))) z2h z43) z04)) (z05 rfl))
 (z0a (z0h (zm0 (zfd (gEq hr.units) (z00 (i:=3) rfl z2f z4o z4q) (z0r q3c (z44 (z09 q0u z04)) z03) (z0s _)) (zpw (zfd zds (z0z z0n (zpx (z00 (i:=2) rfl z7a z6a z6d) k_Trace c_Trace_passed hr (by omega)) z03 (fun _ _=>rfl)) z03 (z0s _))))))))))))))),z0j fun N1 e1=>?_⟩
 walk_at "rd83"
 refine⟨a,ns,0,rfl,hS,by decide,fun r ri rb H1 rows b g0 s1 hr1 dri drb hrow hok hbl hbn hkn=>?_⟩
 have dr:Dt H1 (.ref r) (.tup [.tup (rows.map rowEnc),.tup (encB b)]):=.tup hr1 (.cons dri (.cons drb .nil))
 obtain⟨g,hkb,_,_⟩:=hkn _ (Sub.refl _)
 rw [e1]
 refine z0j fun N2 e2=>?_
 walk_at "rd83"
 refine⟨a,ns,910,.ref r,rows,_,rfl,s1.seq hS,by decide,dr,hrow,fun wv ws H2 s2 dw hfit x dx hx hdx hne=>?_⟩
 have s12:=s1.trans s2
 have s00:Same H2 (upd (upd H2 dx (HO.own x)) x (HO.ins C dx [])):=fun a o e=>by rw [z0b (z0e e hx),z0b (z0e e hdx)]; exact e
 refine⟨x,dx,.ref r,wv,rows,b,ws,g,rfl,z01,(dr.kp s2.kp).kp s00.kp,dw.kp s00.kp,hrow,hfit,zq4 (zq5 hok),hkb,q0g hok [] 0 _,.inl (s00 _ _ (s12 _ _ hp2)),fun l ys H3 sB T2 hx3 hln hl3 dy3=>⟨rfl,?_⟩⟩
 have sB2:SameB p2 H2 H3:=fun a o n e=>sB a o n (z0e e hx) (s00 _ _ e)
 have sN3:=SameN.ofB sB2 (s12 _ _ hp2)
 have dr3:=(dr.kp s2.kp).kp sN3.kp
 have tb3:TabM pt qL H3:=⟨#[],sB2 _ _ (Ne.symm h23) (s12 _ _ hp3),trivial,fun pos v z=>nomatch z⟩
 obtain⟨r0,rs,er⟩:∃r0 rs,(evP rows b ws).2.2=r0::rs:=by
  cases e:(evP rows b ws).2.2 with
  | nil=>exact absurd e (q4e hbn _ _ _)
  | cons r0 rs=>exact⟨r0,rs,rfl⟩
 rw [er] at dy3
 clear sB T2 sB2 s00 sN3 hx hdx hne er dw hfit hkb hkn hS
 rw [e2]
 refine z0j fun N3 e3=>?_
 clear e1 e2
 walk_at "rd83"
 obtain⟨y0,ys',rfl⟩:∃y0 ys',ys=y0::ys':=by
  cases ys with
  | nil=>cases dy3
  | cons y0 ys'=>exact⟨y0,ys',rfl⟩
 refine⟨_,_,hx3,zkd (by decide+kernel),x,dx,l,.ref r,wv,_,0,y0,rfl,hx3,hl3,rfl,?_⟩
 have lt4:LT pt C x dx l (.ref r) wv (y0::ys') rows b r0 rs none (upd H3 x (.ins C dx (trF (.ref r) wv l 1))):=by
  have nl:l≠x:=z5w hl3 hx3 (by intro z; cases z)
  have kp:=zme (o:=.ins C dx (trF (.ref r) wv l 1)) hx3
  exact⟨tb3.kp fun a o _ n e=>by rw [z0b (z5w e hx3 (n _ _ _))]; exact e,z01,by rw [z0b nl]; exact hl3,dy3.kp kp,dr3.kp kp,fun q e=>by cases e⟩
 clear hx3 hln hl3 dy3 dr3 tb3
 show N3 _ (upd H3 x (.ins C dx (trF (.ref r) wv l 1)))
 generalize upd H3 x (.ins C dx (trF (.ref r) wv l 1))=H4 at lt4 |-
 rw [e3]
 refine z0j fun N4 e4=>?_
 clear e3
 walk_at "rd83"
 have hrp:=zoo hrow
 have hspl:(z2x b).length<=942 * 64:=zlf (n:=3) hok (by decide)
 have hdl:(z1x b).length<=942:=by
  have h1:=z3w 3 b [] 0 hok
  have h2:bnd 3=942:=by decide
  have h3:(z1x b).length<=bnd 3:=h1
  omega
 have big:942 * 64 < sizeLine:=by decide
 have okSet:zt5 ((z99 "a" (z1x b)).map z25)/\((z99 "a" (z1x b)).map z25).length < sizeLine:=⟨zfr _,by
  rw [List.length_map,z99,List.length_map]
  have:=List.length_filter_le (fun r=>zgx r == some ("a" : Str)) (z1x b)
  omega⟩
 have okUse:zt5 ((z98 "a" (z2x b)).map z25)/\((z98 "a" (z2x b)).map z25).length < sizeLine:=⟨zfr _,by
  rw [List.length_map,z98,List.length_map]
  have:=List.length_filter_le (fun r:RT=>zzv ("a" : Str) r.2) (z2x b)
  omega⟩
 have okTal:zt5 [.tup [z25 r0.1,.int 1]]/\[Dm.tup [z25 r0.1,.int 1]].length < sizeLine:=⟨zw2 fun d hd=>by
  rw [List.mem_singleton] at hd
  subst hd
  refine(z9o (n:=1) fun e he=>?_).mono (by decide)
  simp only[List.mem_cons,List.not_mem_nil,or_false] at he
  rcases he with rfl | rfl
  ·exact zmq _
  ·exact zh2 _ _,(show 1 < sizeLine by decide)⟩
 have okUns:zt5 ((((z2x b).map (·.1)).filter fun p=>!(((r0::rs).take 1).map (·.1)).contains p).map z25)/\((((z2x b).map (·.1)).filter fun p=>!(((r0::rs).take 1).map (·.1)).contains p).map z25).length < sizeLine:=⟨zfr _,by
  rw [List.length_map]
  have:=List.length_filter_le (fun p=>!(((r0::rs).take 1).map (·.1)).contains p) ((z2x b).map (·.1))
  rw [List.length_map] at this
  omega⟩
 refine⟨lt4.tb,[.ref r],.cons rfl .nil,fun H0 sB T0 Q1 k=>⟨_,rfl,zj9 (R:=RNm rows b) (q6w hrp hok) (q6z hrp hok) (fun H lt Q' q'=>(show znz [.ref r] H Q' E0 from⟨.ref r,rows,b,rfl,lt.dg,hok,hrow.len,hrp,fun r8 H' ms s f h hso hnd hm=>q' _ _ _ _ ⟨ms,rfl,hso,hnd,hm⟩ s f h (zh3 fun x _=>.str x)⟩)) (lt4.told sB T0) k fun H5 lt5=>⟨by decide,fun lg hlg=>?_⟩⟩⟩
 obtain⟨lt6,nlg⟩:=lt5.good (gs:=[V.bl true]) hlg
 generalize upd H5 lg (HO.lst [V.bl true])=H6 at lt6 |-
 clear lt4 lt5 hlg sB T0 k H4
 rw [e4]
 clear e4
 refine z0j fun N5 e5=>?_
 walk_at "rd83"
 refine⟨.inl ⟨rfl,_,SqL.of (lt6.lg _ rfl)⟩,lt6.tb,[(.ref r)],.cons rfl .nil,fun H0 sB T0 Q1 k=>⟨_,rfl,zj9 (q5a ((z99 "a" (z1x b)).map z25)) (q5h okSet) (fun H lt Q' q'=>(show znx [.ref r,.str "a"] H Q' E0 from⟨.ref r,_,b,_,rfl,lt.dg,hok,fun r8 H' xs s f h d=>q' _ _ _ _ rfl s f h d⟩)) (lt6.told sB T0) k fun H9 lt9=>⟨_,lt9.lg _ rfl,(show 1 < sizeLine by decide),?_⟩⟩⟩
 have lt8:=lt9.more (gs':=[V.bl true]++[V.bl true]) nlg
 show N5 _ (upd H9 lg (HO.lst ([V.bl true]++[V.bl true])))
 generalize upd H9 lg (HO.lst ([V.bl true]++[V.bl true]))=H8 at lt8 |-
 clear lt6 lt9 sB T0 k H6
 rw [e5]
 clear e5
 refine z0j fun N6 e6=>?_
 walk_at "rd83"
 refine⟨.inl ⟨rfl,_,SqL.of (lt8.lg _ rfl)⟩,lt8.tb,[(.ref r)],.cons rfl .nil,fun H0 sB T0 Q1 k=>⟨_,rfl,zj9 (q5a ((z98 "a" (z2x b)).map z25)) (q5h okUse) (fun H lt Q' q'=>(show zjp [.ref r,.str "a"] H Q' E0 from⟨.ref r,_,b,_,rfl,lt.dg,hok,(show PyData.strOk "a" = true by decide+kernel),fun r8 H' xs s f h d=>q' _ _ _ _ rfl s f h d⟩)) (lt8.told sB T0) k fun H9 lt9=>⟨_,lt9.lg _ rfl,(show 2 < sizeLine by decide),?_⟩⟩⟩
 have lt10:=lt9.more (gs':=[V.bl true,V.bl true]++[V.bl true]) nlg
 show N6 _ (upd H9 lg (HO.lst ([V.bl true,V.bl true]++[V.bl true])))
 generalize upd H9 lg (HO.lst ([V.bl true,V.bl true]++[V.bl true]))=H10 at lt10 |-
 clear lt8 lt9 sB T0 k H8
 rw [e6]
 clear e6
 refine z0j fun N7 e7=>?_
 walk_at "rd83"
 refine⟨.inl ⟨rfl,_,SqL.of (lt10.lg _ rfl)⟩,lt10.tb,[(.ref r)],.cons rfl .nil,fun H0 sB T0 Q1 k=>⟨_,rfl,zj9 (R:=RWd b) q6v q5u (fun H lt Q' q'=>(show znv [.ref r] H Q' E0 from⟨.ref r,_,b,rfl,lt.dg,hok,fun l8 H' ws ms s f h d pm pw=>q' _ _ _ _ ⟨ms,rfl,pm,pw⟩ s f h d⟩)) (lt10.told sB T0) k fun H9 lt9=>⟨_,lt9.lg _ rfl,(show 3 < sizeLine by decide),?_⟩⟩⟩
 have lt12:=lt9.more (gs':=[V.bl true,V.bl true,V.bl true]++[V.bl true]) nlg
 show N7 _ (upd H9 lg (HO.lst ([V.bl true,V.bl true,V.bl true]++[V.bl true])))
 generalize upd H9 lg (HO.lst ([V.bl true,V.bl true,V.bl true]++[V.bl true]))=H12 at lt12 |-
 clear lt10 lt9 sB T0 k H10
 rw [e7]
 clear e7
 refine z0j fun N8 e8=>?_
 walk_at "rd83"
 refine⟨.inl ⟨rfl,_,SqL.of (lt12.lg _ rfl)⟩,lt12.tb,[(.ref x)],.cons rfl .nil,fun H0 sB T0 Q1 k=>?_⟩
 suffices hT:zns C "tally" (zjq C) [] E0 (zim 0) zra ([V.ref x].map some) H0 Q1 by
  obtain⟨a',dx',fs',e,h1,h2,h3⟩:=hT
  cases e
  exact⟨_,rfl,_,rfl,_,_,h1,h2,h3⟩
 refine zj9 (q5a [.tup [z25 r0.1,.int 1]]) (q5h okTal) (fun H lt Q' q'=>(show ∃a dx fs,V.ref x=V.ref a/\H a=some (.ins C dx fs)/\fs.lookup ("tally" : Str)=none/\zjq C [.ref x] H Q' E0 from⟨_,_,_,rfl,lt.hx,zkd (by decide+kernel),x,dx,l,_,wv,_,r0,rs,rfl,lt.hx,lt.hl,lt.dy,fun l8 ws H' s f h d=>q' _ _ _ _ rfl s f h d⟩)) (lt12.told sB T0) k fun H9 lt9=>⟨_,lt9.lg _ rfl,(show 4 < sizeLine by decide),?_⟩
 have lt14:=lt9.more (gs':=[V.bl true,V.bl true,V.bl true,V.bl true]++[V.bl true]) nlg
 show N8 _ (upd H9 lg (HO.lst ([V.bl true,V.bl true,V.bl true,V.bl true]++[V.bl true])))
 generalize upd H9 lg (HO.lst ([V.bl true,V.bl true,V.bl true,V.bl true]++[V.bl true]))=H14 at lt14 |-
 clear lt12 lt9 sB T0 k H12
 rw [e8]
 clear e8
 refine z0j fun N9 e9=>?_
 walk_at "rd83"
 refine⟨.inl ⟨rfl,_,SqL.of (lt14.lg _ rfl)⟩,lt14.tb,[(.ref x)],.cons rfl .nil,fun H0 sB T0 Q1 k=>?_⟩
 suffices hT:zns C "unseen" (zgv C) [] E0 (zim 0) zra ([V.ref x].map some) H0 Q1 by
  obtain⟨a',dx',fs',e,h1,h2,h3⟩:=hT
  cases e
  exact⟨_,rfl,_,rfl,_,_,h1,h2,h3⟩
 refine zj9 (q5a ((((z2x b).map (·.1)).filter fun p=>!(((r0::rs).take 1).map (·.1)).contains p).map z25)) (q5h okUns) (fun H lt Q' q'=>(show ∃a dx fs,V.ref x=V.ref a/\H a=some (.ins C dx fs)/\fs.lookup ("unseen" : Str)=none/\zgv C [.ref x] H Q' E0 from⟨_,_,_,rfl,lt.hx,zkd (by decide+kernel),x,dx,l,_,wv,_,b,_,r0::rs,1,rfl,lt.hx,lt.hl,lt.dg,hok,lt.dy,List.pairwise_singleton _ _,by decide,(show 1<=rs.length+1 by omega),fun r8 vs H' s f h d=>q' _ _ _ _ rfl s f h d⟩)) (lt14.told sB T0) k fun H9 lt9=>⟨_,lt9.lg _ rfl,(show 5 < sizeLine by decide),?_⟩
 have lt16:=lt9.more (gs':=[V.bl true,V.bl true,V.bl true,V.bl true,V.bl true]++[V.bl true]) nlg
 show N9 _ (upd H9 lg (HO.lst ([V.bl true,V.bl true,V.bl true,V.bl true,V.bl true]++[V.bl true])))
 generalize upd H9 lg (HO.lst ([V.bl true,V.bl true,V.bl true,V.bl true,V.bl true]++[V.bl true]))=H16 at lt16 |-
 clear lt14 lt9 sB T0 k H14
 rw [e9]
 clear e9
 walk_at "rd83"
 refine⟨by decide,fun p hp=>⟨_,z01,by decide,by decide,(show 6<=sizeLine by decide),fun p1 hp1=>?_⟩⟩
 have lt17:=lt16.same ((z02 hp (HO.lst [V.bl true])).trans (z02 hp1 (HO.lst (List.replicate (Int.toNat 6) [V.bl true]).flatten)))
 refine⟨true,.inr (.inl ⟨lg,p1,_,_,rfl,rfl,SqL.of (lt17.lg _ rfl),SqL.of z01,rfl,rfl,rfl⟩),?_⟩
 rw [if_pos rfl]
 exact⟨_,_,lt17.hx,zkd (by decide+kernel),x,dx,l,_,wv,_,1,rfl,lt17.hx,lt17.hl,fun p9 hp9=>⟨p9,rfl,_,SqT.of z01,_,z1v,1,rfl,by rw [decide_eq_true rfl]; exact q _⟩⟩
end
theorem q5m{K:PySem.W.Frag}{a:Addr}{o:Option Addr}{its:Array Value}{n:Nat}{l:Array (Option Value)}{xs:List V} (h:K.lookup a=some ⟨.type "tuple",o,.seq its n,l⟩) (r:Vals xs its.toList) (hz:its.size<=sizeLine:=by decide):∀H,SqT K H a xs:=fun H=>.inr ⟨_,_,_,h,rfl,rfl,hz,r⟩
theorem us1{Pr:List Value->Prop}(h:∀a0,Pr [a0])(us:List Value)(l:us.length=1):Pr us:=by
 rcases us with _ | ⟨_,_ | ⟨_,_⟩⟩
 ·cases l
 ·exact h _
 ·cases l
theorem us2{Pr:List Value->Prop}(h:∀a0 a1,Pr [a0,a1])(us:List Value)(l:us.length=2):Pr us:=by
 rcases us with _ | ⟨_,_ | ⟨_,_ | ⟨_,_⟩⟩⟩
 ·cases l
 ·cases l
 ·exact h _ _
 ·cases l
theorem us3{Pr:List Value->Prop}(h:∀a0 a1 a2,Pr [a0,a1,a2])(us:List Value)(l:us.length=3):Pr us:=by
 rcases us with _ | ⟨_,_ | ⟨_,_ | ⟨_,_ | ⟨_,_⟩⟩⟩⟩
 ·cases l
 ·cases l
 ·cases l
 ·exact h _ _ _
 ·cases l
theorem us4{Pr:List Value->Prop}(h:∀a0 a1 a2 a3,Pr [a0,a1,a2,a3])(us:List Value)(l:us.length=4):Pr us:=by
 rcases us with _ | ⟨_,_ | ⟨_,_ | ⟨_,_ | ⟨_,_ | ⟨_,_⟩⟩⟩⟩⟩
 ·cases l
 ·cases l
 ·cases l
 ·cases l
 ·exact h _ _ _ _
 ·cases l
theorem us5{Pr:List Value->Prop}(h:∀a0 a1 a2 a3 a4,Pr [a0,a1,a2,a3,a4])(us:List Value)(l:us.length=5):Pr us:=by
 rcases us with _ | ⟨_,_ | ⟨_,_ | ⟨_,_ | ⟨_,_ | ⟨_,_ | ⟨_,_⟩⟩⟩⟩⟩⟩
 ·cases l
 ·cases l
 ·cases l
 ·cases l
 ·cases l
 ·exact h _ _ _ _ _
 ·cases l
def DfK(K:PySem.W.Frag)(x:Str)(st:Stmt)(f:Addr):Prop:=∃oc od sl kV dc pm an cd ct,PySem.W.nsIn K mainGlobals x=some (some (.ref f))/\K.lookup f=some ⟨oc,od,.func (PySem.W.fnOf x x (defArgs st) (defBody st) (defScope st) .none kV dc pm an cd ct),sl⟩/\PySem.W.codeIn K cd x=true/\PySem.W.keepIn K (.ref f)=true
theorem DfK.df{K:PySem.W.Frag}{h:Heap}{mg:Str->Option Value}{x:Str}{st:Stmt}{f:Addr}(D:DfK K x st f)(X:K.In h)(G:h.Ns mainGlobals mg)(ps:List Str)(hb:∀(kV doc pm:Value) (an:Option Addr) (cdv ct:Value) (us:List Value),us.length=ps.length->bindArgs (PySem.W.fnOf x x (defArgs st) (defBody st) (defScope st) .none kV doc pm an cdv ct) ⟨us,[]⟩=pure (ps.zip us)):∃fd,Df K mg x st ps f fd:=by
 obtain⟨_,_,_,_,_,_,_,_,_,a,l,c,k⟩:=D
 have F:=zfz l c k
 exact⟨_,F,PySem.W.mg_of X G a,F.binds hb⟩
theorem q57{l:PySem.W.OpenLaw}{w:World}{K:PySem.W.Frag}{h:Heap}{mg:Str->Option Value}{fa f0 f1 f2 f3 f4 f5 f6 f7 f8 f9 f10 f11 f12 f13 f14 f15 f16 f17 f18 f19 f20 f21 f22 f23 f24 f25 f26 f27 f28 f29 f30 f31 f32:Addr}(X:K.In h)(G:h.Ns mainGlobals mg) (hfa:mg "law" = some (.ref fa))
  {od13 an13 od32 an32:Option Addr} {sl13 sl32:Array (Option Value)} {oc13 kV13 dc13 pm13 ct13 oc32 kV32 dc32 pm32 ct32:Value}
  {e13 e32:Addr} {t13 t32:Addr}
  {ai:Addr} {oi:Option Addr} {ni:Nat} {li:Array (Option Value)} {ti0 ti1:Tok} {a_Trace:Addr}
  (d0:DfK K "spots" z5c f0)
  (d1:DfK K "is_whole" z5d f1)
  (d2:DfK K "is_whole_from" z2j f2)
  (d3:DfK K "is_tuple_of" z2s f3)
  (d4:DfK K "term_of" zdk f4)
  (d5:DfK K "blocks_of" z95 f5)
  (d6:DfK K "all_deeds" z6r f6)
  (d7:DfK K "deeds_of_block" z0d f7)
  (d8:DfK K "spots_of_term" z2i f8)
  (d9:DfK K "names_in" z41 f9)
  (d10:DfK K "set_at" zdl f10)
  (d11:DfK K "used_at" zao f11)
  (d12:DfK K "words_in" z31 f12)
  (a13:PySem.W.nsIn K mainGlobals "traced" = some (some (.ref f13))) (l13:K.lookup f13=some ⟨oc13,od13,.func (PySem.W.fnOf "traced" "traced" (defArgs z2r) (defBody z2r) (defScope z2r) .none kV13 dc13 pm13 an13 (.ref e13) ct13),sl13⟩) (c13:PySem.W.codeIn K (.ref e13) "traced" = true) (k13:PySem.W.keepIn K (.ref f13)=true)
  (d14:DfK K "run_by" z3q f14)
  (d15:DfK K "settled" z6p f15)
  (d16:DfK K "names_at_first" z0k f16)
  (d17:DfK K "do_block" z1r f17)
  (d18:DfK K "do_deed" z3v f18)
  (d19:DfK K "do_set" z4v f19)
  (d20:DfK K "do_if" z5v f20)
  (d21:DfK K "do_while" z1q f21)
  (d22:DfK K "reckon" z3r f22)
  (d23:DfK K "worth_of" z4k f23)
  (d24:DfK K "_law_cell" z6h f24)
  (d25:DfK K "_law_pick" z42 f25)
  (d26:DfK K "_law_sum" z21 f26)
  (d27:DfK K "_law_counted" z0l f27)
  (d28:DfK K "_law_block" z0c f28)
  (d29:DfK K "_law_program" z0w f29)
  (d30:DfK K "_law_worths" z4l f30)
  (d31:DfK K "_law_stays" z2v f31)
  (a32:PySem.W.nsIn K mainGlobals "law" = some (some (.ref f32))) (l32:K.lookup f32=some ⟨oc32,od32,.func (PySem.W.fnOf "law" "law" (defArgs z6q) (defBody z6q) (defScope z6q) .none kV32 dc32 pm32 an32 (.ref e32) ct32),sl32⟩) (c32:PySem.W.codeIn K (.ref e32) "law" = true) (k32:PySem.W.keepIn K (.ref f32)=true)
  (x_Trace:PySem.W.nsIn K mainGlobals "Trace" = some (some (.ref a_Trace)))
  {fm_Trace_init:Addr} {od_Trace_init an_Trace_init:Option Addr} {sl_Trace_init:Array (Option Value)} {oc_Trace_init kV_Trace_init dc_Trace_init pm_Trace_init cd_Trace_init ct_Trace_init:Value} (ma_Trace_init:PySem.W.findIn K (.ref a_Trace) "__init__" = some (some (.ref fm_Trace_init))) (ml_Trace_init:K.lookup fm_Trace_init=some ⟨oc_Trace_init,od_Trace_init,.func (PySem.W.fnOf "__init__" "Trace.__init__" (defArgs z2b) (defBody z2b) (defScope z2b) .none kV_Trace_init dc_Trace_init pm_Trace_init an_Trace_init cd_Trace_init ct_Trace_init),sl_Trace_init⟩) (mc_Trace_init:PySem.W.codeIn K cd_Trace_init "Trace.__init__" = true) (mf_Trace_init:PySem.W.isFn K (.ref fm_Trace_init)=true) (mk_Trace_init:PySem.W.keepIn K (.ref fm_Trace_init)=true)
  {fm_Trace_go:Addr} {od_Trace_go an_Trace_go:Option Addr} {sl_Trace_go:Array (Option Value)} {oc_Trace_go kV_Trace_go dc_Trace_go pm_Trace_go cd_Trace_go ct_Trace_go:Value} (ma_Trace_go:PySem.W.findIn K (.ref a_Trace) "go" = some (some (.ref fm_Trace_go))) (ml_Trace_go:K.lookup fm_Trace_go=some ⟨oc_Trace_go,od_Trace_go,.func (PySem.W.fnOf "go" "Trace.go" (defArgs z4m) (defBody z4m) (defScope z4m) .none kV_Trace_go dc_Trace_go pm_Trace_go an_Trace_go cd_Trace_go ct_Trace_go),sl_Trace_go⟩) (mc_Trace_go:PySem.W.codeIn K cd_Trace_go "Trace.go" = true) (mf_Trace_go:PySem.W.isFn K (.ref fm_Trace_go)=true) (mk_Trace_go:PySem.W.keepIn K (.ref fm_Trace_go)=true)
  {fm_Trace_passed:Addr} {od_Trace_passed an_Trace_passed:Option Addr} {sl_Trace_passed:Array (Option Value)} {oc_Trace_passed kV_Trace_passed dc_Trace_passed pm_Trace_passed cd_Trace_passed ct_Trace_passed:Value} (ma_Trace_passed:PySem.W.findIn K (.ref a_Trace) "passed" = some (some (.ref fm_Trace_passed))) (ml_Trace_passed:K.lookup fm_Trace_passed=some ⟨oc_Trace_passed,od_Trace_passed,.func (PySem.W.fnOf "passed" "Trace.passed" (defArgs z2a) (defBody z2a) (defScope z2a) .none kV_Trace_passed dc_Trace_passed pm_Trace_passed an_Trace_passed cd_Trace_passed ct_Trace_passed),sl_Trace_passed⟩) (mc_Trace_passed:PySem.W.codeIn K cd_Trace_passed "Trace.passed" = true) (mf_Trace_passed:PySem.W.isFn K (.ref fm_Trace_passed)=true) (mk_Trace_passed:PySem.W.keepIn K (.ref fm_Trace_passed)=true)
  {fm_Trace_tally:Addr} {od_Trace_tally an_Trace_tally:Option Addr} {sl_Trace_tally:Array (Option Value)} {oc_Trace_tally kV_Trace_tally dc_Trace_tally pm_Trace_tally cd_Trace_tally ct_Trace_tally:Value} (ma_Trace_tally:PySem.W.findIn K (.ref a_Trace) "tally" = some (some (.ref fm_Trace_tally))) (ml_Trace_tally:K.lookup fm_Trace_tally=some ⟨oc_Trace_tally,od_Trace_tally,.func (PySem.W.fnOf "tally" "Trace.tally" (defArgs z16) (defBody z16) (defScope z16) .none kV_Trace_tally dc_Trace_tally pm_Trace_tally an_Trace_tally cd_Trace_tally ct_Trace_tally),sl_Trace_tally⟩) (mc_Trace_tally:PySem.W.codeIn K cd_Trace_tally "Trace.tally" = true) (mf_Trace_tally:PySem.W.isFn K (.ref fm_Trace_tally)=true) (mk_Trace_tally:PySem.W.keepIn K (.ref fm_Trace_tally)=true)
  {fm_Trace_unseen:Addr} {od_Trace_unseen an_Trace_unseen:Option Addr} {sl_Trace_unseen:Array (Option Value)} {oc_Trace_unseen kV_Trace_unseen dc_Trace_unseen pm_Trace_unseen cd_Trace_unseen ct_Trace_unseen:Value} (ma_Trace_unseen:PySem.W.findIn K (.ref a_Trace) "unseen" = some (some (.ref fm_Trace_unseen))) (ml_Trace_unseen:K.lookup fm_Trace_unseen=some ⟨oc_Trace_unseen,od_Trace_unseen,.func (PySem.W.fnOf "unseen" "Trace.unseen" (defArgs z1m) (defBody z1m) (defScope z1m) .none kV_Trace_unseen dc_Trace_unseen pm_Trace_unseen an_Trace_unseen cd_Trace_unseen ct_Trace_unseen),sl_Trace_unseen⟩) (mc_Trace_unseen:PySem.W.codeIn K cd_Trace_unseen "Trace.unseen" = true) (mf_Trace_unseen:PySem.W.isFn K (.ref fm_Trace_unseen)=true) (mk_Trace_unseen:PySem.W.keepIn K (.ref fm_Trace_unseen)=true)
  (z_enumerate:PySem.W.nsIn K mainGlobals "enumerate" = some none)
  (z_sorted:PySem.W.nsIn K mainGlobals "sorted" = some none)
  (z_len:PySem.W.nsIn K mainGlobals "len" = some none)
  (z_max:PySem.W.nsIn K mainGlobals "max" = some none)
  (z_min:PySem.W.nsIn K mainGlobals "min" = some none)
  (z_dict:PySem.W.nsIn K mainGlobals "dict" = some none)
  (z_tuple:PySem.W.nsIn K mainGlobals "tuple" = some none)
  (z_range:PySem.W.nsIn K mainGlobals "range" = some none)
  (z_isinstance:PySem.W.nsIn K mainGlobals "isinstance" = some none)
  (z_int:PySem.W.nsIn K mainGlobals "int" = some none)
  (z_bool:PySem.W.nsIn K mainGlobals "bool" = some none)
  (z_zip:PySem.W.nsIn K mainGlobals "zip" = some none)
  (z_list:PySem.W.nsIn K mainGlobals "list" = some none)
  (z_set:PySem.W.nsIn K mainGlobals "set" = some none)
  (pw:PySem.W.nsIn K mainGlobals "WIDE" = some (some (.ref ai)))
  (ph:K.lookup ai=some ⟨.type "tuple",oi,.seq #[.int (-32768) ti0,.int 32767 ti1] ni,li⟩)
  (t_Trace:TrC K a_Trace)
  (mk_Trace:PySem.W.makesIn K a_Trace=true)
  (kp_Trace:PySem.W.keepIn K (.ref a_Trace)=true)
  (n1332:t13≠t32)
  : ∃fd:FuncData,(∀(s:Shared) (v:Value),BindsTo s fd ⟨[v],[]⟩ [("_law_script",v)])/\∀base:Heap,K.In base->base.Ns mainGlobals mg->q58 mg base [(e13,t13),(e32,t32)]->FnOk l.prog w K mg base CX0 27 fa fd ["_law_script"] (zxm K t13 t32):=by
 have e:=hfa.symm.trans (PySem.W.mg_of X G a32)
 cases e
 obtain⟨_,d_spots⟩:=d0.df X G ["program"] fun _ _ _ _ _ _=>us1 fun _=>rfl
 have F_spots:=d_spots.F
 obtain⟨_,d_is_whole⟩:=d1.df X G ["thing"] fun _ _ _ _ _ _=>us1 fun _=>rfl
 have F_is_whole:=d_is_whole.F
 obtain⟨_,d_is_whole_from⟩:=d2.df X G ["thing","low","high"] fun _ _ _ _ _ _=>us3 fun _ _ _=>rfl
 have F_is_whole_from:=d_is_whole_from.F
 obtain⟨_,d_is_tuple_of⟩:=d3.df X G ["thing","many"] fun _ _ _ _ _ _=>us2 fun _ _=>rfl
 have F_is_tuple_of:=d_is_tuple_of.F
 obtain⟨_,d_term_of⟩:=d4.df X G ["deed"] fun _ _ _ _ _ _=>us1 fun _=>rfl
 have F_term_of:=d_term_of.F
 obtain⟨_,d_blocks_of⟩:=d5.df X G ["deed"] fun _ _ _ _ _ _=>us1 fun _=>rfl
 have F_blocks_of:=d_blocks_of.F
 obtain⟨_,d_all_deeds⟩:=d6.df X G ["program"] fun _ _ _ _ _ _=>us1 fun _=>rfl
 have F_all_deeds:=d_all_deeds.F
 obtain⟨_,d_deeds_of_block⟩:=d7.df X G ["block","path"] fun _ _ _ _ _ _=>us2 fun _ _=>rfl
 have F_deeds_of_block:=d_deeds_of_block.F
 obtain⟨_,d_spots_of_term⟩:=d8.df X G ["term","path"] fun _ _ _ _ _ _=>us2 fun _ _=>rfl
 have F_spots_of_term:=d_spots_of_term.F
 obtain⟨_,d_names_in⟩:=d9.df X G ["program"] fun _ _ _ _ _ _=>us1 fun _=>rfl
 have F_names_in:=d_names_in.F
 obtain⟨_,d_set_at⟩:=d10.df X G ["program","name"] fun _ _ _ _ _ _=>us2 fun _ _=>rfl
 have F_set_at:=d_set_at.F
 obtain⟨_,d_used_at⟩:=d11.df X G ["program","name"] fun _ _ _ _ _ _=>us2 fun _ _=>rfl
 have F_used_at:=d_used_at.F
 obtain⟨_,d_words_in⟩:=d12.df X G ["program"] fun _ _ _ _ _ _=>us1 fun _=>rfl
 have F_words_in:=d_words_in.F
 have F_traced:=zfz (st:=z2r) l13 c13 k13
 have B_traced:=F_traced.binds (ps:=["program","worths"]) fun _ _ _ _ _ _=>us2 fun _ _=>rfl
 have d_traced:Df K mg "traced" z2r ["program","worths"] f13 _:=⟨F_traced,PySem.W.mg_of X G a13,B_traced⟩
 obtain⟨_,d_run_by⟩:=d14.df X G ["program","worths","settle"] fun _ _ _ _ _ _=>us3 fun _ _ _=>rfl
 have F_run_by:=d_run_by.F
 obtain⟨_,d_settled⟩:=d15.df X G ["worth","path","rows"] fun _ _ _ _ _ _=>us3 fun _ _ _=>rfl
 have F_settled:=d_settled.F
 obtain⟨_,d_names_at_first⟩:=d16.df X G ["ins","worths"] fun _ _ _ _ _ _=>us2 fun _ _=>rfl
 have F_names_at_first:=d_names_at_first.F
 obtain⟨_,d_do_block⟩:=d17.df X G ["block","path","names","settle"] fun _ _ _ _ _ _=>us4 fun _ _ _ _=>rfl
 have F_do_block:=d_do_block.F
 obtain⟨_,d_do_deed⟩:=d18.df X G ["deed","path","names","settle"] fun _ _ _ _ _ _=>us4 fun _ _ _ _=>rfl
 have F_do_deed:=d_do_deed.F
 obtain⟨_,d_do_set⟩:=d19.df X G ["deed","path","names","settle"] fun _ _ _ _ _ _=>us4 fun _ _ _ _=>rfl
 have F_do_set:=d_do_set.F
 obtain⟨_,d_do_if⟩:=d20.df X G ["deed","path","names","settle"] fun _ _ _ _ _ _=>us4 fun _ _ _ _=>rfl
 have F_do_if:=d_do_if.F
 obtain⟨_,d_do_while⟩:=d21.df X G ["deed","path","names","settle"] fun _ _ _ _ _ _=>us4 fun _ _ _ _=>rfl
 have F_do_while:=d_do_while.F
 obtain⟨_,d_reckon⟩:=d22.df X G ["term","path","names","settle"] fun _ _ _ _ _ _=>us4 fun _ _ _ _=>rfl
 have F_reckon:=d_reckon.F
 obtain⟨_,d_worth_of⟩:=d23.df X G ["word","one","other"] fun _ _ _ _ _ _=>us3 fun _ _ _=>rfl
 have F_worth_of:=d_worth_of.F
 obtain⟨_,d_law_cell⟩:=d24.df X G ["_law_script","_law_k"] fun _ _ _ _ _ _=>us2 fun _ _=>rfl
 have F_law_cell:=d_law_cell.F
 obtain⟨_,d_law_pick⟩:=d25.df X G ["_law_script","_law_k","_law_many"] fun _ _ _ _ _ _=>us3 fun _ _ _=>rfl
 have F_law_pick:=d_law_pick.F
 obtain⟨_,d_law_sum⟩:=d26.df X G ["_law_script","_law_at","_law_known","_law_deep"] fun _ _ _ _ _ _=>us4 fun _ _ _ _=>rfl
 have F_law_sum:=d_law_sum.F
 obtain⟨_,d_law_counted⟩:=d27.df X G ["_law_script","_law_at","_law_known","_law_body","_law_deep"] fun _ _ _ _ _ _=>us5 fun _ _ _ _ _=>rfl
 have F_law_counted:=d_law_counted.F
 obtain⟨_,d_law_block⟩:=d28.df X G ["_law_script","_law_at","_law_known","_law_deep"] fun _ _ _ _ _ _=>us4 fun _ _ _ _=>rfl
 have F_law_block:=d_law_block.F
 obtain⟨_,d_law_program⟩:=d29.df X G ["_law_script","_law_at"] fun _ _ _ _ _ _=>us2 fun _ _=>rfl
 have F_law_program:=d_law_program.F
 obtain⟨_,d_law_worths⟩:=d30.df X G ["_law_script","_law_at","_law_program_here"] fun _ _ _ _ _ _=>us3 fun _ _ _=>rfl
 have F_law_worths:=d_law_worths.F
 obtain⟨_,d_law_stays⟩:=d31.df X G ["_law_deed"] fun _ _ _ _ _ _=>us1 fun _=>rfl
 have F_law_stays:=d_law_stays.F
 have F_law:=zfz (st:=z6q) l32 c32 k32
 have F_Trace_init:=zfz (st:=z2b) ml_Trace_init mc_Trace_init mk_Trace_init
 have B_Trace_init:=F_Trace_init.binds (ps:=["self","program","worths"]) fun _ _ _ _ _ _=>us3 fun _ _ _=>rfl
 have F_Trace_go:=zfz (st:=z4m) ml_Trace_go mc_Trace_go mk_Trace_go
 have B_Trace_go:=F_Trace_go.binds (ps:=["self"]) fun _ _ _ _ _ _=>us1 fun _=>rfl
 have F_Trace_passed:=zfz (st:=z2a) ml_Trace_passed mc_Trace_passed mk_Trace_passed
 have B_Trace_passed:=F_Trace_passed.binds (ps:=["self"]) fun _ _ _ _ _ _=>us1 fun _=>rfl
 have F_Trace_tally:=zfz (st:=z16) ml_Trace_tally mc_Trace_tally mk_Trace_tally
 have B_Trace_tally:=F_Trace_tally.binds (ps:=["self"]) fun _ _ _ _ _ _=>us1 fun _=>rfl
 have F_Trace_unseen:=zfz (st:=z1m) ml_Trace_unseen mc_Trace_unseen mk_Trace_unseen
 have B_Trace_unseen:=F_Trace_unseen.binds (ps:=["self"]) fun _ _ _ _ _ _=>us1 fun _=>rfl
 have b_enumerate:=PySem.W.mg_none_of X G z_enumerate
 have b_sorted:=PySem.W.mg_none_of X G z_sorted
 have b_len:=PySem.W.mg_none_of X G z_len
 have b_max:=PySem.W.mg_none_of X G z_max
 have b_min:=PySem.W.mg_none_of X G z_min
 have b_dict:=PySem.W.mg_none_of X G z_dict
 have b_tuple:=PySem.W.mg_none_of X G z_tuple
 have b_range:=PySem.W.mg_none_of X G z_range
 have b_isinstance:=PySem.W.mg_none_of X G z_isinstance
 have b_int:=PySem.W.mg_none_of X G z_int
 have b_bool:=PySem.W.mg_none_of X G z_bool
 have b_zip:=PySem.W.mg_none_of X G z_zip
 have b_list:=PySem.W.mg_none_of X G z_list
 have b_set:=PySem.W.mg_none_of X G z_set
 refine⟨PySem.W.fnOf "law" "law" (defArgs z6q) (defBody z6q) (defScope z6q) .none kV32 dc32 pm32 an32 (.ref e32) ct32,fun s v=>.of_eq rfl,fun base _ _ hTB=>?_⟩
 have FC_traced:FunC K "traced" "traced" z2r f13 _ e13:=⟨⟨_,_,_,_,_,_,_,_,rfl,l13,c13⟩,k13⟩
 obtain⟨tc_traced,tb_traced,tg_traced⟩:=hTB (e13,t13) (.head _)
 have FC_law:FunC K "law" "law" z6q fa _ e32:=⟨⟨_,_,_,_,_,_,_,_,rfl,l32,c32⟩,k32⟩
 obtain⟨tc_law,tb_law,tg_law⟩:=hTB (e32,t32) (.tail _ (.head _))
 have g_WIDE:GC mg "WIDE" (.ref ai):=⟨_,PySem.W.mg_of X G pw,rfl⟩
 have hI:∀H,SqT K H ai [.int (-32768),.int 32767]:=q5m ph (.cons ⟨_,rfl⟩ (.cons ⟨_,rfl⟩ .nil)) (show(2:Nat)<=sizeLine by decide)
 have c_iw:=d_is_whole.callee (zok (P:=l.prog) (w:=w) (base:=base) F_is_whole b_isinstance b_int b_bool)
 have c_if:=d_is_whole_from.callee (zgd F_is_whole_from c_iw)
 have c_it:=d_is_tuple_of.callee (zir (P:=l.prog) (w:=w) (base:=base) F_is_tuple_of b_isinstance b_len b_tuple)
 have c_nf:=d_names_at_first.callee (zfe F_names_at_first b_len b_zip c_it c_if)
 have c_se:=d_settled.callee (zs5 (P:=l.prog) (w:=w) (base:=base) F_settled g_WIDE hI)
 have c_wo:=d_worth_of.callee (zoh (P:=l.prog) (w:=w) (base:=base) F_worth_of b_min b_max)
 have c_re:=zjl d_reckon c_wo c_se 5
 have c_do:=zx8 d_do_block d_do_deed d_do_set d_do_if d_do_while b_enumerate c_re 4
 have c_rb:=d_run_by.callee (zux F_run_by b_sorted b_tuple c_nf c_do)
 have c_tr:=d_traced.callee (zuv FC_traced tc_traced tb_traced tg_traced c_rb)
 have c_cell:=d_law_cell.callee (q14 (P:=l.prog) (w:=w) (base:=base) F_law_cell b_len)
 have c_pick:=d_law_pick.callee (q13 F_law_pick c_cell)
 have c_sum:=zx7 d_law_sum b_len c_pick 3
 have c_cnt:=d_law_counted.callee (zs8 F_law_counted b_len c_pick c_sum)
 have c_blk:=znn d_law_block b_range b_tuple c_pick c_sum c_cnt 3
 have c_prg:=d_law_program.callee (zs6 F_law_program b_range b_tuple c_pick c_blk)
 have c_ws:=d_law_worths.callee (zk9 F_law_worths b_tuple b_enumerate c_pick)
 have c_to:=d_term_of.callee (zs4 (P:=l.prog) (w:=w) (base:=base) F_term_of)
 have c_bo:=d_blocks_of.callee (zm8 (P:=l.prog) (w:=w) (base:=base) F_blocks_of)
 have c_st:=znm (P:=l.prog) (w:=w) (base:=base) d_spots_of_term 5
 have c_db:=zg8 d_deeds_of_block b_enumerate c_bo 3
 have c_ad:=d_all_deeds.callee (zm9 F_all_deeds c_db)
 have c_sp:=d_spots.callee (zy9 F_spots c_ad c_st c_to)
 have i_init:CalleeI l.prog w K mg base a_Trace _ 23 _:=⟨_,_,zka F_Trace_init t_Trace c_tr,⟨mk_Trace,ma_Trace_init,mf_Trace_init,kp_Trace⟩,B_Trace_init⟩
 have n_passed:CalleeM l.prog w K mg base a_Trace "passed" _ 1 _:=⟨_,_,zhi (P:=l.prog) (w:=w) (base:=base) F_Trace_passed b_len t_Trace,⟨ma_Trace_passed,mf_Trace_passed,mk_Trace_passed⟩,B_Trace_passed⟩
 have n_unseen:CalleeM l.prog w K mg base a_Trace "unseen" _ 8 _:=⟨_,_,zhh F_Trace_unseen b_dict t_Trace c_sp,⟨ma_Trace_unseen,mf_Trace_unseen,mk_Trace_unseen⟩,B_Trace_unseen⟩
 have n_go:CalleeM l.prog w K mg base a_Trace "go" _ 1 _:=⟨_,_,zon (P:=l.prog) (w:=w) (base:=base) F_Trace_go b_len t_Trace,⟨ma_Trace_go,mf_Trace_go,mk_Trace_go⟩,B_Trace_go⟩
 have n_tally:CalleeM l.prog w K mg base a_Trace "tally" _ 1 _:=⟨_,_,zis (P:=l.prog) (w:=w) (base:=base) F_Trace_tally b_sorted t_Trace,⟨ma_Trace_tally,mf_Trace_tally,mk_Trace_tally⟩,B_Trace_tally⟩
 have c_stays:=d_law_stays.callee (zm7 (P:=l.prog) (w:=w) (base:=base) F_law_stays b_isinstance b_list)
 have c_nm:=d_names_in.callee (zoj F_names_in b_sorted b_set c_ad)
 have c_sa:=d_set_at.callee (zuw F_set_at c_ad)
 have c_ua:=d_used_at.callee (zs3 F_used_at c_sp)
 have c_wi:=d_words_in.callee (zoi F_words_in b_sorted c_sp)
 exact q3n n1332 FC_law tc_law tb_law tg_law t_Trace (PySem.W.mg_of X G x_Trace) c_prg c_ws c_stays i_init n_go n_passed n_tally n_unseen c_nm c_sa c_ua c_wi
theorem q6r{l:PySem.W.OpenLaw}{q:Program}{loose:List Str}{XP:(Str->Option Value)->Heap->Prop}{YP:World->Heap->Prop}{d:DefRec}{K:Params->PySem.W.Frag}(e13 t13 e32 t32:Addr)(hn:l.most=some 63)(hdf:d.params.defaults=[])
  (hY:∀(w:World) (h:Heap),YP w h->(K w.params).In h) (hK:∀w:World,PySem.W.noTabs (K w.params)=true) (hrec:∀t∈([("traced",e13,t13),("law",e32,t32)]:List (Str×Addr×Addr)),∃e,(PyProof.Rows.recsOf q).find? (fun e=>e.name == t.1)=some e) (htab:∀(w:World),∀t∈([("traced",e13,t13),("law",e32,t32)]:List (Str×Addr×Addr)),PySem.W.tabIn (K w.params) t.1=some (t.2.1,t.2.2))
  (F:∀(w:World) (mg:Str->Option Value) (fa:Addr) (h:Heap),(K w.params).In h->h.Ns mainGlobals mg->mg d.name=some (.ref fa)->
   ∃fd:FuncData,(∀(s:Shared) (u:Value),BindsTo s fd ⟨[u],[]⟩ [("_law_script",u)])/\∀base:Heap,(K w.params).In base->base.Ns mainGlobals mg->q58 mg base [(e13,t13),(e32,t32)]->FnOk l.prog w (K w.params) mg base CX0 27 fa fd ["_law_script"] (zxm (K w.params) t13 t32)) :
  PySem.W.WalkO q loose XP YP l.row.toRowW d [] (fun f vs=>PySem.call f vs):=
 L2.zxe (n:=63) (k:=27) (x:="_law_script") (sp:=fun w=>zxm (K w.params) t13 t32) (tabs:=[("traced",e13,t13),("law",e32,t32)]) hn (by decide) hdf ⟨rfl,by decide,by decide⟩ hY hK hrec htab F (fun _ _ a ns hl hO hS=>⟨a,ns,rfl,hS,hl,hO _ (.head _),hO _ (.tail _ (.head _)),fun _=>rfl⟩)
end SR
namespace PySem.W.Fast
def tw16709462538185352493:=0
def tw9862069917463480085:=0
def tw8274951667758569092:=0
def tw15286575967117650504:=0
def tw2814400861635112600:=0
def tw1664788332533081429:=0
def tw9334147871067643343:=0
def tw11812460255255577146:=0
def tw13789734289725501610:=0
def tw9790502318261921348:=0
def tw4808862228724082626:=0
def tw10703189445802244645:=0
def tw18172548813994962379:=0
def tw10274690942001107347:=0
def tw3361518814114597952:=0
def tw9786127363146480138:=0
def tw16783725532649571214:=0
def tw2003671848287987932:=0
def tw17770509845707325000:=0
def tw17832139481241571232:=0
def tw700136724300688960:=0
def tw5127770676923182353:=0
def tw15518349774779581860:=0
def tw6341706011868943634:=0
def tw7398623863553053839:=0
def tw16689698018616906494:=0
def tw8774852320088916717:=0
def tw5731152865100248703:=0
def tw18178155885685584769:=0
def tw16309520152573557856:=0
def tw12584324207651576974:=0
def tw14135940643375612717:=0
def tw13172522754494747695:=0
def tw8555814257682867388:=0
def tw17937125791240772896:=0
def tw17066722725025619843:=0
def tw9991744969558312684:=0
def tw12032866275126074239:=0
def tw3848099307411255600:=0
def tw17360604953849249998:=0
def tw12828837917973426198:=0
def tw4351439818085770987:=0
def tw15840188975358141709:=0
def tw15304822450590787451:=0
def tw6158426210000305893:=0
def tw10184615395529714836:=0
def tw9319213130048412434:=0
def tw18156718840023783904:=0
def tw5029149312421261858:=0
def tw7657881054201856650:=0
def tw4826907358577178275:=0
def tw5708127629434250683:=0
def tw11197416132281527653:=0
def tw15407288433409484523:=0
def tw11664578605106769192:=0
def tw12087687794024200402:=0
def tw15189376956222799386:=0
def tw18197694554182357535:=0
def tw15016292392249242112:=0
def tw5486158188935086569:=0
def tw3094889695871469730:=0
def tw2599959378956959089:=0
def tw17399388292286000492:=0
def tw12115469092363971656:=0
def tw17437083208470500960:=0
def tw16318694799542696490:=0
def tw1082542396345778935:=0
def tw2705582137364126175:=0
def tw7371227591562124354:=0
def tw14580908334790627211:=0
def tw7877012690899995742:=0
def tw7215094187014515322:=0
def tw16984588116245137989:=0
def tw4786618461793884211:=0
def tw7902375015275596684:=0
def tw6935423903249464211:=0
def tw4492484715563119935:=0
def tw11230862195554936187:=0
def tw14970308364941302451:=0
def tw2688758440919948478:=0
def tw17785839627011452982:=0
def tw16426843136305266694:=0
def tw4807284901876746185:=0
def tw17473893831517521947:=0
def tw2973567982125093090:=0
def tw10836133606212261349:=0
def tw657561917922686073:=0
def tw7735186121695716756:=0
def tw12105600667956430903:=0
def tw16518621805085999355:=0
def tw6460873812092079959:=0
def tw7857651634019604553:=0
def tw9941993579382156833:=0
def tw298004292113683533:=0
def tw1639325826920169586:=0
def tw5826707328555435541:=0
def tw13153329268014649713:=0
def tw13762616738938472331:=0
def tw6059333632199010314:=0
def tw11894008604906308382:=0
def tw9872978331253954459:=0
def tw14566990116601609275:=0
def tw2353187661405623729:=0
def tw4942576403887360704:=0
def tw11351554938087684852:=0
def tw8019246596431469543:=0
def tw6383748810180213192:=0
def tw9661455448285433569:=0
def tw7670865231692163715:=0
def tw10341539076922162449:=0
def tw4238718849320879752:=0
def tw13465204817367450746:=0
def tw14058954283636287499:=0
def tw13431356332187219840:=0
def tw983060499101073807:=0
def tw3278948233216083986:=0
def tw6212004630058165636:=0
def tw17520090184559265812:=0
def tw8742514804290025446:=0
def tw5017349097214563730:=0
def tw10725323688529094648:=0
def tw8815099026970860338:=0
def tw16669766627797184269:=0
def tw9662200263712579058:=0
def tw6757004378734655422:=0
def tw13620878919934476415:=0
def tw2285139568410324407:=0
def tw15888914569498173377:=0
def tw12703866927120818494:=0
def tw1516065669089128293:=0
def tw17274507592707980571:=0
def tw3218401522589014378:=0
def tw3317511132943181506:=0
def tw10565675571237610776:=0
def tw17489170280627636418:=0
def tw1892463117434410443:=0
def tw6312329699794243198:=0
def tw10818075513734298943:=0
def tw12454322922037956036:=0
def tw2111793693956976000:=0
def tw4669972524348880250:=0
def tw3236882717647689190:=0
def tw682633800636047526:=0
def tw11524937978982160409:=0
def tw14480641110629027057:=0
def tw14951237894640725686:=0
def tw3592681114916080662:=0
def tw16471249265592415335:=0
def tw7288623138297688993:=0
def tw13433710786689359074:=0
def tw9199905048340552749:=0
def tw8260767901866431086:=0
def tw17141772882390725932:=0
def tw2393030380995155456:=0
def tw1966484864617329023:=0
def tw4535705133523627657:=0
def tw3524517100636809390:=0
def tw6078883456588133885:=0
def tw2142396202611965693:=0
def tw11133118665106611137:=0
def tw6816841683232641370:=0
def tw4682834809982436:=0
def tw4343561770446369035:=0
def tw18293609147981465568:=0
def tw6544125022403829277:=0
def tw9907723070069045695:=0
def tw11097313167634588764:=0
def tw3112877764000083613:=0
def tw1978253867262702520:=0
def tw4801960643249876661:=0
def tw10720452247546439143:=0
def tw4538469792204386612:=0
def tw4580471064232834521:=0
def tw16735976756720644825:=0
def tw4047141402183627077:=0
def tw9951633849803905763:=0
def tw13970793281287331018:=0
def tw11046001059706335397:=0
def tw13347550789279929122:=0
def tw314868583136098970:=0
def tw17548062755465819404:=0
def tw603453704421394889:=0
def tw12969831287606948943:=0
def tw9110330722980663547:=0
def tw15053265393997284906:=0
def tw5435900553813257574:=0
def tw14019767798269579891:=0
def tw6305258454530720844:=0
def tw18352011982691693437:=0
def tw12338572047011936053:=0
def tw5168238548127938424:=0
def tw4935898521983757758:=0
def tw12075605218053522337:=0
def tw10182283641524316496:=0
def tw7831280584349643925:=0
def tw10560980180876179246:=0
def tw15643324370857672362:=0
def tw7352067753155374750:=0
def tw3216678478795819820:=0
def tw10009419321009539543:=0
def tw2041288500655371607:=0
def tw8789596341088515520:=0
def tw3597113093414677248:=0
def tw10586660938059017875:=0
def tw6482048087110269893:=0
def tw653084905721758427:=0
def tw10838560456564344932:=0
def tw2059465967202310214:=0
def tw2534496724333518440:=0
def tw11236792150575460947:=0
def tw13086919921696204467:=0
def tw11022698896275130478:=0
def tw2837262662114016787:=0
def tw16753423914577535565:=0
def tw4280276004666587009:=0
def tw12867784900714701669:=0
def tw5880247313219469605:=0
def tw4709903822353505132:=0
def tw17237927873554801112:=0
def tw2019023310089134224:=0
def tw17613666080345747242:=0
def tw2892855973643293718:=0
def tw12144511198269850111:=0
def tw589279062113357313:=0
def tw5657151787647468798:=0
def tw2348574777046517070:=0
def tw18065931780264638105:=0
def tw9301908486448660389:=0
def tw9175042402096125877:=0
def tw10189973371198804907:=0
def tw3104768061927106163:=0
def tw17034008464430356923:=0
def tw11792240616517821567:=0
def tw13870270630297188336:=0
def tw11321474620236878354:=0
def tw15394370261157639744:=0
def tw7010441434124985610:=0
def tw9647416630824489260:=0
def tw7427901075198656132:=0
def tw10386701304578287775:=0
def tw11974260508284208881:=0
def tw11761192330651737533:=0
def tw10338241942481389334:=0
def tw11236686145637739699:=0
def tw1428586844581977692:=0
def tw11139072071341322151:=0
def tw13883322716473379037:=0
def tw728947692677513594:=0
def tw13839692869384033860:=0
def tw908403988323288185:=0
def tw1458599376492808873:=0
def tw8442043878240040593:=0
def tw13433374883091397267:=0
def tw16137467449419156595:=0
def tw5459114852605447205:=0
def tw17788588642613368887:=0
def tw5248582704498861651:=0
def tw17375994864714505430:=0
def tw17640864453826745593:=0
def tw13272686493466032198:=0
def tw4047033294973240991:=0
def tw8059260521649494775:=0
def tw12301342754740520872:=0
def tw5433883908438863430:=0
def tw12623638391139600778:=0
def tw10986524024481617227:=0
def tw3062392833917721855:=0
def tw1313994657979429557:=0
def tw13791529270235776483:=0
def tw4170604203968190851:=0
def tw16119123592221451074:=0
def tw3155513124414914527:=0
def tw17173509699855217354:=0
def tw11816017583053985230:=0
def tw12855137990650507411:=0
def tw18249422930350354703:=0
def tw9381602805542924075:=0
def tw9977161151688899847:=0
def tw15798181485005597071:=0
def tw17204272367564429182:=0
def tw9610766575521309888:=0
def tw15485128268773295789:=0
def tw13338663116588928778:=0
def tw16710668819872711061:=0
def tw1387530330542042846:=0
def tw1751456135754836499:=0
def tw1199068874882844436:=0
def tw13992326733236710771:=0
def tw3813601363133032630:=0
def tw9412288020893355941:=0
def tw5042085027596705067:=0
def tw13435645493813364019:=0
def tw7810728090563810438:=0
def tw7547974383160021117:=0
def tw6009714588647990364:=0
def tw11869522899135535362:=0
def tw4168802099899554370:=0
def tw14608499229707995109:=0
def tw6115914779562068588:=0
def tw10153668911161419251:=0
def tw6540563732602702554:=0
def tw17015781987047551257:=0
def tw12589685953099208831:=0
def tw11495148473626959282:=0
def tw2446793846221379770:=0
def tw1366751090027627474:=0
def tw13861870861195642148:=0
def tw6899918556780873657:=0
def tw6520269822441157877:=0
def tw256446451992498980:=0
def tw9647052566667854018:=0
def tw2756643985274032801:=0
def tw1523218784674547521:=0
def tw11653752580305367645:=0
def tw4449787052805540974:=0
def tw17565381447486957234:=0
def tw5453176996410930832:=0
def tw3633242748870679122:=0
def tw1393099061878483064:=0
def tw17966349903895094436:=0
def tw9226862925143551136:=0
def tw6251034271601628600:=0
def tw642556173324185244:=0
def tw12102972094250063548:=0
def tw10152617754906533279:=0
def tw7777180742731453761:=0
def tw16764271262946571752:=0
def tw11966253367658510446:=0
def tw6318492961285308655:=0
def tw17933969596559519141:=0
def tw14204871419265585512:=0
def tw16242304093582626443:=0
def tw1395756499937979903:=0
def tw10285066668650234128:=0
def tw10807431909430441229:=0
def tw13463296206881631058:=0
def tw1768108415362399619:=0
def tw11425015382889334320:=0
end PySem.W.Fast
open PySem PySem.W PyProof.Rows
local macro_rules | `(tactic| walk_at "df")=>`(tactic| exact⟨_,_,_,_,_,_,_,_,_,by k_is,by k_is,by k_is,by k_is⟩)
set_option maxRecDepth 100000 in
set_option maxHeartbeats 0 in
theorem PySem.Challenge.cw_smallrooms_k82_whole_told_lists_holds : PySem.Challenge.rw_smallrooms_k82_whole_told_lists.Holds := by
 w_on; o_law; k_head; (case hw=>w_witness2)
 k_fill
 refine SR.q6r (l:=PySem.Challenge.rw_smallrooms_k82_whole_told_lists) 150 146 366 362 rfl rfl (fun w h Y=>PySem.W.km_in_of Y) (fun w=>by kernel_rfl) ?hrec ?htab ?F
 case hrec=>exact List.forall_mem_cons.mpr ⟨Option.isSome_iff_exists.mp (by kernel_rfl),List.forall_mem_cons.mpr ⟨Option.isSome_iff_exists.mp (by kernel_rfl),fun _ h=>nomatch h⟩⟩
 case htab=>exact fun w=>List.forall_mem_cons.mpr ⟨by kernel_rfl,List.forall_mem_cons.mpr ⟨by kernel_rfl,fun _ h=>nomatch h⟩⟩
 case F=>
  intro w mg fa h KX G hmg
  refine' SR.q57 KX G hmg ?d0 ?d1 ?d2 ?d3 ?d4 ?d5 ?d6 ?d7 ?d8 ?d9 ?d10 ?d11 ?d12 ?a13 ?l13 ?c13 ?k13 ?d14 ?d15 ?d16 ?d17 ?d18 ?d19 ?d20 ?d21 ?d22 ?d23 ?d24 ?d25 ?d26 ?d27 ?d28 ?d29 ?d30 ?d31 ?a32 ?l32 ?c32 ?k32 ?x_Trace ?ma_Trace_init ?ml_Trace_init ?mc_Trace_init ?mf_Trace_init ?mk_Trace_init ?ma_Trace_go ?ml_Trace_go ?mc_Trace_go ?mf_Trace_go ?mk_Trace_go ?ma_Trace_passed ?ml_Trace_passed ?mc_Trace_passed ?mf_Trace_passed ?mk_Trace_passed ?ma_Trace_tally ?ml_Trace_tally ?mc_Trace_tally ?mf_Trace_tally ?mk_Trace_tally ?ma_Trace_unseen ?ml_Trace_unseen ?mc_Trace_unseen ?mf_Trace_unseen ?mk_Trace_unseen ?z_enumerate ?z_sorted ?z_len ?z_max ?z_min ?z_dict ?z_tuple ?z_range ?z_isinstance ?z_int ?z_bool ?z_zip ?z_list ?z_set ?pw ?ph ?t_Trace ?mk_Trace ?kp_Trace ?n1332
  (case d0=>walk_at "df"); (case d1=>walk_at "df"); (case d2=>walk_at "df"); (case d3=>walk_at "df")
  (case d4=>walk_at "df"); (case d5=>walk_at "df"); (case d6=>walk_at "df"); (case d7=>walk_at "df")
  (case d8=>walk_at "df"); (case d9=>walk_at "df"); (case d10=>walk_at "df"); (case d11=>walk_at "df")
  (case d12=>walk_at "df"); (case a13=>k_is); (case l13=>k_is); (case c13=>k_is)
  (case k13=>k_is); (case d14=>walk_at "df"); (case d15=>walk_at "df"); (case d16=>walk_at "df")
  (case d17=>walk_at "df"); (case d18=>walk_at "df"); (case d19=>walk_at "df"); (case d20=>walk_at "df")
  (case d21=>walk_at "df"); (case d22=>walk_at "df"); (case d23=>walk_at "df"); (case d24=>walk_at "df")
  (case d25=>walk_at "df"); (case d26=>walk_at "df"); (case d27=>walk_at "df"); (case d28=>walk_at "df")
  (case d29=>walk_at "df"); (case d30=>walk_at "df"); (case d31=>walk_at "df"); (case a32=>k_is)
  (case l32=>k_is); (case c32=>k_is); (case k32=>k_is); (case x_Trace=>k_is)
  (case ma_Trace_init=>k_is); (case ml_Trace_init=>k_is); (case mc_Trace_init=>k_is); (case mf_Trace_init=>k_is)
  (case mk_Trace_init=>k_is); (case ma_Trace_go=>k_is); (case ml_Trace_go=>k_is); (case mc_Trace_go=>k_is)
  (case mf_Trace_go=>k_is); (case mk_Trace_go=>k_is); (case ma_Trace_passed=>k_is); (case ml_Trace_passed=>k_is)
  (case mc_Trace_passed=>k_is); (case mf_Trace_passed=>k_is); (case mk_Trace_passed=>k_is); (case ma_Trace_tally=>k_is)
  (case ml_Trace_tally=>k_is); (case mc_Trace_tally=>k_is); (case mf_Trace_tally=>k_is); (case mk_Trace_tally=>k_is)
  (case ma_Trace_unseen=>k_is); (case ml_Trace_unseen=>k_is); (case mc_Trace_unseen=>k_is); (case mf_Trace_unseen=>k_is)
  (case mk_Trace_unseen=>k_is); (case z_enumerate=>k_is); (case z_sorted=>k_is); (case z_len=>k_is)
  (case z_max=>k_is); (case z_min=>k_is); (case z_dict=>k_is); (case z_tuple=>k_is)
  (case z_range=>k_is); (case z_isinstance=>k_is); (case z_int=>k_is); (case z_bool=>k_is)
  (case z_zip=>k_is); (case z_list=>k_is); (case z_set=>k_is); (case pw=>k_is)
  (case ph=>k_is); (case t_Trace=>exact⟨⟨by kernel_rfl,by kernel_rfl,by kernel_rfl,by kernel_rfl⟩,by unfold L2.NoAttr; kernel_rfl,by unfold L2.NoAttr; kernel_rfl,by unfold L2.NoAttr; kernel_rfl,by unfold L2.NoAttr; kernel_rfl⟩); (case mk_Trace=>k_is); (case kp_Trace=>k_is)
  (case n1332=>decide)
