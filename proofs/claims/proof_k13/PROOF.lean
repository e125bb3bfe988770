import PyProof.Rows.All
import Wide.All
import OpenK.AllK
import Wide.FinOn
import Lean
import PyProof.EqAt
import PyProof.EqKinds
import PyProof.TupleCall
import PyProof.AttrMissHeap
import PySem.Challenge.RW_smallrooms_k13_whole_trace_twins
set_option Elab.async false
set_option linter.all false
set_option maxRecDepth 100000
open Array renaming length_toList → y1l,getElem?_eq_none → y2m
open Bool renaming false_ne_true → yp,and_eq_true → yw,not_eq_true' → y09,false_eq_true → y0h,true_and → y1c,false_and → y1d,decide_eq_true → y1m,true_eq_false → y1q,not_true → y1w,not_false → y21,eq_iff_iff → y25
open Classical renaming byContradiction → y26
open Int renaming toNat_natCast → y2s
open List renaming length_map → y8,getElem?_eq_getElem → yb,length_append → yd,length_cons → yh,getD_eq_getElem?_getD → yj,map_cons → yn,not_mem_nil → yt,mem_of_getElem? → yv,size_toArray → yy,mem_cons → yz,getElem?_map → y00,map_append → y03,append_nil → y06,mem_append_right → y07,length_singleton → y08,length_take → y0a,mem_cons_of_mem → y0c,mem_cons_self → y0f,find?_cons → y0g,take_length → y0j,getElem?_cons_zero → y0p,append_assoc → y0q,mem_singleton → y0u,lookup_cons → y0x,getElem_of_mem → y0y,map_map → y10,zip_cons_cons → y14,getElem?_cons_succ → y15,any_cons → y16,cons_append → y17,take_of_length_le → y1a,length_nil → y1g,mem_of_mem_take → y1k,set_cons_zero → y1o,set_cons_succ → y1p,mem_append_left → y1t,isEmpty_cons → y1u,isEmpty_nil → y1z,take_zero → y20,filter_append → y23,getElem?_append_right → y27,getElem?_append_left → y2a,getElem_map → y2d,filter_cons → y2e,getElem?_take_of_lt → y2g,of_mem_zip → y2j,filter_nil → y2k,getElem?_set_self → y2n,length_range → y2o
open List.Nodup renaming idxOf_getElem → y28
open List.cons renaming injEq → y1s
open Nat renaming le_refl → yg,ne_of_lt → yk,lt_of_lt_of_le → yu,zero_le → y05,le_trans → y0b,lt_irrefl → y0i,ne_of_gt → y0k,mul_le_mul_right → y0t,lt_trans → y0v,lt_of_le_of_lt → y0w,le_of_lt → y18,add_sub_cancel → y1r,sub_zero → y1v,lt_succ_self → y2f,lt_succ_of_lt → y2r
open Ne renaming symm → y1y
open Option.some renaming inj → y04,injEq → y1h
open PyProof.Rows renaming callWith_type1 → y1i
open PySem renaming Value → y4,Shared → y9,wpAny_bind → yc,Program → yf,wpAny_pure → yo,FuncData → yq,World → yr,Around → y01,wpAny_mono → y0l,wpAny_call_entry → y0m,mem_of_lookup → y0n,wpAny_callSpecial?_slot → y0s,wpAny_Call_Name_kw → y19,codeAny_mono → y1j,codeAny_builtin → y1n,wpAny_holding → y22,wpAny_passesOwn → y29,wpAny_attempt → y2c,wpAny_pyIter_tuple → y2p,plainId_quiet → y2q,wpAny_truthy_bool → y2u,wpAny_call → y2v
open PySem.Around renaming under_plainId → y13
open PySem.Calls renaming callWith_builtin → y2l
open PySem.F renaming plainAttrs_list → y0d,slot_dict_itemiterator_next → y0z,type_list_append → y1e,slot_list_append → y1f,excBase_ValueError → y24,slot_tuple_iterator_next → y2b,plain_extend_loop → y2h,args_dict_itemiterator_next_1 → y2t
open PySem.Heap renaming get?_push_of_some → y6,lt_size → ye,get?_push_size → yi,get?_update_self → y02,size_push → y0o,get?_update_other → y1b
open PySem.Heap.SameBut renaming update → yx
open PySem.PassesOwn renaming never → y0r
open PySem.W renaming Frag → y3,mg_none_of → y0e,mg_of → y11,kia_one → y12,callWith_K → y1x,mem_of_lookupK → y2i
namespace L2
open PySem PySem.Spec PyProof.Rows
abbrev Key:=Sum Int Str
def zot:Key->y4->Bool
 | .inl k,v=>Value.isInt k v
 | .inr x,v=>Value.isStrOf x v
def q5p(w:yr):Key->Int
 | .inl k=>hashInt k
 | .inr x=>hashStr w x
theorem z2m:∀{k:Key} {v:y4},zot k v=true->(∃i t,k=Sum.inl i/\v=Value.int i t)\/(∃x t,k=Sum.inr x/\v=Value.str x t)
 | .inl i,v,h=>by
  obtain⟨t,e⟩:=Value.isInt_shape (k:=i) (v:=v) h
  exact .inl ⟨i,t,rfl,e⟩
 | .inr x,v,h=>by
  obtain⟨t,e⟩:=Value.isStrOf_shape (x:=x) (v:=v) h
  exact .inr ⟨x,t,rfl,e⟩
theorem zui(i:Int)(t:Tok):zot (.inl i) (.int i t)=true:=by simp[zot,Value.isInt]
theorem zuh(x:Str)(t:Tok):zot (.inr x) (.str x t)=true:=by simp[zot,Value.isStrOf]
theorem q2y(a b:Int):decide ((Sum.inl a:Key)=Sum.inl b)=(a == b):=by
 by_cases e:a=b
 ·subst e; simp
 ·have h:¬ (Sum.inl a:Key)=Sum.inl b:=fun q=>e (Sum.inl.inj q)
  rw [decide_eq_false h]
  exact(beq_eq_false_iff_ne.mpr e).symm
theorem q2v(a b:Str):decide ((Sum.inr a:Key)=Sum.inr b)=decide (a=b):=by
 by_cases e:a=b
 ·subst e; simp
 ·have h:¬ (Sum.inr a:Key)=Sum.inr b:=fun q=>e (Sum.inr.inj q)
  rw [decide_eq_false h,decide_eq_false e]
theorem q2x(a:Int)(b:Str):decide ((Sum.inl a:Key)=Sum.inr b)=false:=decide_eq_false (fun q=>nomatch q)
theorem q2w(a:Str)(b:Int):decide ((Sum.inr a:Key)=Sum.inl b)=false:=decide_eq_false (fun q=>nomatch q)
def z1d(prog:yf)(w:yr):PySem.KeyKind prog w Key where
 is:=zot
 hash:=q5p w
 inj:=fun v a b ha hb=>by
  rcases z2m ha with⟨i,t,rfl,rfl⟩ | ⟨x,t,rfl,rfl⟩
  ·rcases z2m hb with⟨j,u,rfl,e⟩ | ⟨y,u,rfl,e⟩
   ·injection e with e1 _; rw [e1]
   ·exact nomatch e
  ·rcases z2m hb with⟨j,u,rfl,e⟩ | ⟨y,u,rfl,e⟩
   ·exact nomatch e
   ·injection e with e1 _; rw [e1]
 byValue:=fun k v h=>by
  rcases z2m h with⟨i,t,rfl,rfl⟩ | ⟨x,t,rfl,rfl⟩<;>rfl
 pyHash:=fun hv h=>by
  rcases z2m hv with⟨i,t,rfl,rfl⟩ | ⟨x,t,rfl,rfl⟩
  ·exact wpAny_pyHash_int h
  ·exact wpAny_pyHash_str h
 eqBool:=fun hu hv h=>by
  rcases z2m hu with⟨i,t,rfl,rfl⟩ | ⟨x,t,rfl,rfl⟩
  ·rcases z2m hv with⟨j,u,rfl,rfl⟩ | ⟨y,u,rfl,rfl⟩
   ·rw [q2y] at h; exact wpAny_eqBool_int h
   ·rw [q2x] at h; exact SeqAt.EqAt.int_str i t y u _ _ _ _ h
  ·rcases z2m hv with⟨j,u,rfl,rfl⟩ | ⟨y,u,rfl,rfl⟩
   ·rw [q2w] at h; exact SeqAt.EqAt.str_int x t j u _ _ _ _ h
   ·rw [q2v] at h; exact wpAny_eqBool_str h
 «strs»:=fun k x t v h=>by
  rcases z2m h with⟨i,u,rfl,e⟩ | ⟨y,u,rfl,e⟩
  ·exact nomatch e
  ·injection e with e1 _
   subst e1
   cases v<;>rfl
theorem zoq(prog:yf)(w:yr)(i:Int)(t:Tok):(z1d prog w).is (.inl i) (.int i t)=true:=zui i t
theorem zop(prog:yf)(w:yr)(x:Str)(t:Tok):(z1d prog w).is (.inr x) (.str x t)=true:=zuh x t
end L2
namespace L2
open PySem PySem.Spec PyProof.Rows
inductive V where
 | non | bl (b:Bool) | int (i:Int) | str (x:Str) | byt (b:Array UInt8) | flt (b:UInt64) | ref (a:Addr) | ty (n:String)
 deriving DecidableEq
def RelV:V->y4->Prop
 | .non,u=>u=Value.none
 | .bl b,u=>u=Value.bool b
 | .int i,u=>∃t,u=Value.int i t
 | .str x,u=>∃t,u=Value.str x t
 | .byt b,u=>∃t,u=Value.bytes b t
 | .flt b,u=>∃t,u=Value.float b t
 | .ref a,u=>u=Value.ref a
 | .ty n,u=>u=Value.type n
abbrev Vals:List V->List y4->Prop:=Paired RelV
theorem Vals.length{xs:List V}{us:List y4}(r:Vals xs us):xs.length=us.length:=Paired.length r
theorem Vals.get:∀{xs:List V} {us:List y4} {i:Nat} {x:V},Vals xs us->xs[i]?=some x->∃u,us[i]?=some u/\RelV x u
 | _,_,_,_,.nil,e=>by simp at e
 | _,_,0,_,.cons r _,e=>by simp at e; subst e; exact⟨_,rfl,r⟩
 | _,_,i+1,x,.cons _ t,e=>by
  obtain⟨u,h1,h2⟩:=Vals.get (i:=i) (x:=x) t (by simpa using e)
  exact⟨u,by simpa using h1,h2⟩
theorem Vals.set{x:V}{u:y4}(r:RelV x u):∀{xs:List V} {us:List y4} (i:Nat),Vals xs us->Vals (xs.set i x) (us.set i u)
 | _,_,_,.nil=>.nil
 | _,_,0,.cons _ t=>.cons r t
 | _,_,i+1,.cons q t=>.cons q (Vals.set r i t)
theorem Vals.append:∀{xs ys:List V} {us ws:List y4},Vals xs us->Vals ys ws->Vals (xs++ys) (us++ws)
 | _,_,_,_,.nil,s=>s
 | _,_,_,_,.cons r t,s=>.cons r (Vals.append t s)
theorem Vals.take:∀{xs:List V} {us:List y4} (n:Nat),Vals xs us->Vals (xs.take n) (us.take n)
 | _,_,0,_=>.nil
 | _,_,_+1,.nil=>.nil
 | _,_,n+1,.cons r t=>.cons r (Vals.take n t)
theorem Vals.drop:∀{xs:List V} {us:List y4} (n:Nat),Vals xs us->Vals (xs.drop n) (us.drop n)
 | _,_,0,r=>r
 | _,_,_+1,.nil=>.nil
 | _,_,n+1,.cons _ t=>Vals.drop n t
def RelO:Option V->Option y4->Prop
 | some v,some u=>RelV v u
 | none,none=>True
 | _,_=>False
def KV{κ : Type}:List (κ×V)->List (κ×y4)->Prop:=Paired fun(p : κ×V) (q : κ×y4)=>p.1=q.1/\RelV p.2 q.2
def kV:Key->V
 | .inl i=>.int i
 | .inr x=>.str x
inductive HO where
 | lst (xs:List V)
 | tup (xs:List V)
 | dK (kvs:List (Key×V)) | dT (kvs:List (List Key×V))
 | set (S:Int->Bool) (n:Nat)
 | ins (C dx:Addr) (fs:List (Str×V))
 | own (x:Addr)
 | xd (fs:List (Str×V))
 | met (f x:Addr)
 | rng (lo hi:Int)
 | frz (o:Obj) (u:HO)
 | tbl (ps:Array y4)
 | ext (φ : Heap->Prop)
abbrev Hp:=Addr->Option HO
def upd(H:Hp)(a:Addr)(o:HO):Hp:=fun b=>if b=a then some o else H b
theorem z00{H:Hp}{a:Addr}{o:HO}:upd H a o a=some o:=by unfold upd; rw [if_pos rfl]
theorem z09{H:Hp}{a b:Addr}{o:HO}(h:b≠a):upd H a o b=H b:=by unfold upd; rw [if_neg h]
theorem z4y{H:Hp}{a b:Addr}{o u:HO}(h:H a=some o)(h':H b=some u)(d:o≠u):a≠b:=by
 intro e; subst e; rw [h] at h'; exact d (y04 h')
theorem z0d{H:Hp}{a b:Addr}{o:HO}(h:H a=some o)(h':H b=none):a≠b:=by
 intro e; subst e; rw [h] at h'; cases h'
section
variable(P:yf)(w:yr)
def ObjOk(H:Hp)(h:Heap)(a:Addr):HO->Prop
 | .lst xs=>xs.length<=sizeLine/\∃(its:List y4) (n:Nat),Vals xs its/\h.get? a=some {cls:=.type "list",data:=.seq its.toArray n}
 | .tup xs=>xs.length<=sizeLine/\∃its:List y4,Vals xs its/\IsTup h a its.toArray
 | .dK kvs=>kvs.length<=sizeLine/\(a == sysModules)=false/\∃vs,KV kvs vs/\h.DictOf (z1d P w) a vs
 | .dT kvs=>kvs.length<=sizeLine/\(a == sysModules)=false/\∃xs:List (List Key×Addr×y4),
   Paired (fun(p:List Key×V) (q:List Key×Addr×y4)=>p.1=q.1/\H q.2.1=some (.tup (p.1.map kV))/\RelV p.2 q.2.2) kvs xs/\
   ∃o es ep,h.get? a=some o/\o.ExactDict/\o.data=.dict es ep/\es.toList=xs.map (entryOfKey (tupleKind (z1d P w)))/\(xs.map (·.1)).Nodup
 | .set S n=>h.SetOf (intKind P w) a S n
 | .ins C dx fs=>H dx=some (.own a)/\fs.length<=1000/\dx≠a/\h.get? a=some (PySem.W.instObj C dx)/\
   ∃mA,h.Ns1 dx mA/\(∀f,RelO (fs.lookup f) (mA f))/\PySem.Within mA (fs.map (·.1))
 | .own _=>∃o,h.get? a=some o
 | .xd fs=>∃mA,h.Ns1 a mA/\∀f,RelO (fs.lookup f) (mA f)
 | .rng lo hi=>∃t u v,h.get? a=some {cls:=.type "range",data:=.fields #[.int lo t,.int hi u,.int 1 v]}
 | .frz o u=>h.get? a=some o/\ObjOk H h a u
 | .tbl ps=>h.get? a=some {cls:=.none,data:=.fields ps}
 | .met f x=>h.get? a=some (PySem.W.methodObj (.ref f) (.ref x))
 | .ext φ=>φ h/\(∃o,h.get? a=some o)/\∀h1 h2:Heap,φ h1->(∀o,h1.get? a=some o->h2.get? a=some o)->φ h2
def HOk(H:Hp)(h:Heap):Prop:=∀a o,H a=some o->ObjOk P w H h a o
end
section
variable{P:yf}{w:yr}{H H':Hp}{h h':Heap}{a:Addr}{o:HO}
theorem ObjOk.lt(x:ObjOk P w H h a o):a < h.objs.size:=by
 cases o with
 | lst xs=>obtain⟨_,_,_,_,e⟩:=x; exact ye e
 | tup xs=>obtain⟨_,_,_,p⟩:=x; exact p.lt
 | dK kvs=>obtain⟨_,_,_,_,o,_,_,e,_⟩:=x; exact ye e
 | dT kvs=>obtain⟨_,_,_,_,o,_,_,e,_⟩:=x; exact ye e
 | set S n=>obtain⟨o,_,_,_,e,_⟩:=x; exact ye e
 | ins C dx fs=>obtain⟨_,_,_,e,_⟩:=x; exact ye e
 | own y=>obtain⟨_,e⟩:=x; exact ye e
 | xd fs=>obtain⟨_,⟨_,_,_,e,_⟩,_⟩:=x; exact ye e
 | rng lo hi=>obtain⟨_,_,_,e⟩:=x; exact ye e
 | frz ob u=>obtain⟨e,_⟩:=x; exact ye e
 | tbl ps=>exact ye (show h.get? a=some _ from x)
 | met f y=>exact ye (show h.get? a=some _ from x)
 | ext φ=>obtain⟨_,⟨_,e⟩,_⟩:=x; exact ye e
theorem Paired.mapP{α β : Type}{F G : α->β->Prop}:∀{l₁:List α} {l₂:List β},Paired F l₁ l₂->(∀a b,F a b->G a b)->Paired G l₁ l₂
 | _,_,.nil,_=>.nil
 | _,_,.cons r t,f=>.cons (f _ _ r) (Paired.mapP t f)
theorem Paired.imp'{α β : Type}{F G : α->β->Prop}(f:∀a b,F a b->G a b){l₁:List α}{l₂:List β}(r:Paired F l₁ l₂):Paired G l₁ l₂:=Paired.mapP r f
theorem ObjOk.stay(x:ObjOk P w H h a o)(k:∀b u,(b=a\/H b=some (.own a))->h.get? b=some u->h'.get? b=some u)
  (ho:∀b,H b=some (.own a)->H' b=some (.own a)) (ht:∀b xs,H b=some (.tup xs)->H' b=some (.tup xs)):ObjOk P w H' h' a o:=by
 induction o with
 | lst xs=>obtain⟨z,its,n,r,e⟩:=x; exact⟨z,its,n,r,k _ _ (.inl rfl) e⟩
 | tup xs=>obtain⟨z,its,r,ob,e,c⟩:=x; exact⟨z,its,r,ob,k _ _ (.inl rfl) e,c⟩
 | dK kvs=>obtain⟨z,y,vs,r,ob,es,ep,e,c⟩:=x; exact⟨z,y,vs,r,ob,es,ep,k _ _ (.inl rfl) e,c⟩
 | dT kvs=>
  obtain⟨z,y,xs,r,ob,es,ep,e,c⟩:=x
  exact⟨z,y,xs,Paired.mapP r fun p q z=>⟨z.1,ht _ _ z.2.1,z.2.2⟩,ob,es,ep,k _ _ (.inl rfl) e,c⟩
 | set S n=>obtain⟨ob,es,ep,t,e,c⟩:=x; exact⟨ob,es,ep,t,k _ _ (.inl rfl) e,c⟩
 | ins C dx fs=>
  obtain⟨d,z,ne,e,mA,⟨od,es,ep,e2,c⟩,r⟩:=x
  exact⟨ho _ d,z,ne,k _ _ (.inl rfl) e,mA,⟨od,es,ep,k _ _ (.inr d) e2,c⟩,r⟩
 | own y=>obtain⟨ob,e⟩:=x; exact⟨ob,k _ _ (.inl rfl) e⟩
 | xd fs=>obtain⟨mA,⟨od,es,ep,e,c⟩,r⟩:=x; exact⟨mA,⟨od,es,ep,k _ _ (.inl rfl) e,c⟩,r⟩
 | rng lo hi=>obtain⟨t,u,v,e⟩:=x; exact⟨t,u,v,k _ _ (.inl rfl) e⟩
 | frz ob u ih=>obtain⟨e,q⟩:=x; exact⟨k _ _ (.inl rfl) e,ih q⟩
 | tbl ps=>
  have e:h.get? a=some {cls:=.none,data:=.fields ps}:=x
  show h'.get? a=some {cls:=.none,data:=.fields ps}
  exact k a _ (.inl rfl) e
 | met f y=>
  have e:h.get? a=some (PySem.W.methodObj (.ref f) (.ref y)):=x
  show h'.get? a=some (PySem.W.methodObj (.ref f) (.ref y))
  exact k a _ (.inl rfl) e
 | ext φ=>obtain⟨p,⟨o,e⟩,st⟩:=x; exact⟨st _ _ p fun o q=>k _ _ (.inl rfl) q,⟨o,k _ _ (.inl rfl) e⟩,st⟩
theorem HOk.lt(x:HOk P w H h)(e:H a=some o):a < h.objs.size:=(x a o e).lt
theorem HOk.fresh(x:HOk P w H h)(e:h.objs.size<=a):H a=none:=by
 cases q:H a with
 | none=>rfl
 | some u=>exact absurd (yu (x.lt q) e) (y0i _)
theorem HOk.kept(x:HOk P w H h)(k:∀b u,h.get? b=some u->h'.get? b=some u):HOk P w H h':=fun a o e=>
 (x a o e).stay (fun b u _ q=>k b u q) (fun _ q=>q) fun _ _ q=>q
theorem HOk.laid(x:HOk P w H h)(k:∀b u,h.get? b=some u->h'.get? b=some u)(hp:h.objs.size<=a)(new:ObjOk P w (upd H a o) h' a o):HOk P w (upd H a o) h':=fun b u e=>by
 have hn:=x.fresh hp
 by_cases hb:b=a
 ·subst hb; rw [z00] at e; cases e; exact new
 ·rw [z09 hb] at e
  exact(x b u e).stay (fun c v _ q=>k c v q) (fun c q=>by rw [z09 (z0d q hn)]; exact q) fun c xs q=>by rw [z09 (z0d q hn)]; exact q
end
def Rd(H:Hp)(a:Addr)(u:HO):Prop:=H a=some u\/∃o,H a=some (.frz o u)
theorem Rd.of{H:Hp}{a:Addr}{u:HO}(h:H a=some u):Rd H a u:=.inl h
theorem Rd.ok{P:yf}{w:yr}{H:Hp}{h:Heap}{a:Addr}{u:HO}(r:Rd H a u)(x:HOk P w H h):ObjOk P w H h a u:=by
 rcases r with r | ⟨o,r⟩
 ·exact x a u r
 ·obtain⟨_,q⟩:=x a _ r
  exact q
def Mut:Option HO->Prop
 | some (.lst _)=>True
 | some (.dK _)=>True
 | some (.dT _)=>True
 | some (.set _ _)=>True
 | some (.ins _ _ _)=>True
 | some (.ext _)=>True
 | _=>False
section
variable{P:yf}{w:yr}{H:Hp}{h h':Heap}{x e:Addr}{o':HO}
theorem HOk.write(ok:HOk P w H h)(mu:Mut (H x))(he:e=x\/H e=some (.own x))(k:∀b u,b≠e->h.get? b=some u->h'.get? b=some u)(heo:∃u,h'.get? e=some u)
  (new:ObjOk P w (upd H x o') h' x o'):HOk P w (upd H x o') h':=fun b u q=>by
 have nown:∀c y,H c=some (.own y)->c≠x:=fun c y r z=>by subst z; rw [r] at mu; exact mu
 have ntup:∀c xs,H c=some (.tup xs)->c≠x:=fun c xs r z=>by subst z; rw [r] at mu; exact mu
 by_cases hb:b=x
 ·subst hb; rw [z00] at q; cases q; exact new
 ·rw [z09 hb] at q
  by_cases hbe:b=e
  ·have q':H b=some (.own x):=by
    rcases he with z | z
    ·exact absurd (hbe.trans z) hb
    ·rw [hbe]; exact z
   rw [q] at q'; cases q'
   obtain⟨v,hv⟩:=heo
   exact⟨v,by rw [hbe]; exact hv⟩
  ·refine(ok b u q).stay (fun c v hc r=>k c v ?_ r) (fun c r=>by rw [z09 (nown c b r)]; exact r) fun c xs r=>by rw [z09 (ntup c xs r)]; exact r
   rcases hc with rfl | hc
   ·exact hbe
   ·rintro rfl
    rcases he with z | z
    ·exact nown c b hc z
    ·rw [hc] at z; cases z; exact hb rfl
end
structure Un(fs ex:List Addr)(H H':Hp)(h h':Heap):Prop where
 keep:∀b o,h.get? b=some o->H b=none->b∉fs->b∉ex->h'.get? b=some o
 slot:∀b o,h.get? b=some o->H b=none->b∈fs->b∉ex->∃sl,h'.get? b=some {o with slots:=sl}
 free:∀b o,h.get? b=some o->H b=none->b∉ex->H' b=none
 there:∀b o,h.get? b=some o->b∉ex->∃o',h'.get? b=some o'
 tups:∀b xs,H b=some (.tup xs)->H' b=some (.tup xs)
 frzs:∀b o u,H b=some (.frz o u)->H' b=some (.frz o u)
 tbls:∀b ps,H b=some (.tbl ps)->∃more,H' b=some (.tbl (ps++more))
section
variable{fs fs' ex ex':List Addr}{H H1 H2:Hp}{h h1 h2 h':Heap}{a x e:Addr}{o:HO}
theorem Un.any(u:Un fs ex H H1 h h1){b:Addr}{ob:Obj}(q:h.get? b=some ob)(n:H b=none)(hx:b∉ex):∃sl,h1.get? b=some {ob with slots:=sl}:=by
 by_cases hb:b∈fs
 ·exact u.slot b ob q n hb hx
 ·exact⟨ob.slots,u.keep b ob q n hb hx⟩
theorem Un.trans(a:Un fs ex H H1 h h1)(b:Un fs ex H1 H2 h1 h2):Un fs ex H H2 h h2 where
 keep:=fun c ob q n hc hx=>b.keep c ob (a.keep c ob q n hc hx) (a.free c ob q n hx) hc hx
 slot:=fun c ob q n hc hx=>by
  obtain⟨sl,e1⟩:=a.slot c ob q n hc hx
  obtain⟨sl',e2⟩:=b.slot c _ e1 (a.free c ob q n hx) hc hx
  exact⟨sl',e2⟩
 free:=fun c ob q n hx=>by
  obtain⟨o',e1⟩:=a.there c ob q hx
  exact b.free c o' e1 (a.free c ob q n hx) hx
 there:=fun c ob q hx=>by
  obtain⟨o',e1⟩:=a.there c ob q hx
  exact b.there c o' e1 hx
 tups:=fun c xs q=>b.tups c xs (a.tups c xs q)
 frzs:=fun c ob xs q=>b.frzs c ob xs (a.frzs c ob xs q)
 tbls:=fun c ps q=>by
  obtain⟨m1,e1⟩:=a.tbls c ps q
  obtain⟨m2,e2⟩:=b.tbls c _ e1
  exact⟨m1++m2,by rw [e2,Array.append_assoc]⟩
theorem Un.kept(k:∀b u,h.get? b=some u->h'.get? b=some u):Un fs ex H H h h':=
 ⟨fun b ob q _ _ _=>k b ob q,fun b ob q _ _ _=>⟨ob.slots,k b ob q⟩,fun _ _ _ n _=>n,fun b ob q _=>⟨ob,k b ob q⟩,fun _ _ q=>q,fun _ _ _ q=>q,fun _ ps q=>⟨#[],by rw [q]; simp⟩⟩
theorem Un.refl:Un fs ex H H h h:=Un.kept fun _ _ q=>q
theorem Un.laid(k:∀b u,h.get? b=some u->h'.get? b=some u)(hp:h.objs.size<=a)(hn:H a=none):Un fs ex H (upd H a o) h h' where
 keep:=fun b u q _ _ _=>k b u q
 slot:=fun b u q _ _ _=>⟨u.slots,k b u q⟩
 free:=fun b u q n _=>by rw [z09 (yk (yu (ye q) hp))]; exact n
 there:=fun b u q _=>⟨u,k b u q⟩
 tups:=fun b xs q=>by rw [z09 (z0d q hn)]; exact q
 frzs:=fun b u xs q=>by rw [z09 (z0d q hn)]; exact q
 tbls:=fun b ps q=>⟨#[],by rw [z09 (z0d q hn),q]; simp⟩
theorem Un.write(mu:Mut (H x))(he:e=x\/H e=some (.own x))(k:∀b u,b≠e->h.get? b=some u->h'.get? b=some u)(heo:∃u,h'.get? e=some u):Un fs ex H (upd H x o) h h':=by
 have hx:∀b,H b=none->b≠x:=fun b n z=>by subst z; rw [n] at mu; exact mu
 have hb:∀b,H b=none->b≠e:=fun b n z=>by
  subst z
  rcases he with r | r
  ·exact hx b n r
  ·rw [n] at r; cases r
 have hm:∀b u,H b=some u->¬ Mut (some u)->b≠x:=fun b u q nm z=>by subst z; rw [q] at mu; exact nm mu
 refine⟨fun b u q n _ _=>k b u (hb b n) q,fun b u q n _ _=>⟨u.slots,k b u (hb b n) q⟩,fun b u q n _=>by rw [z09 (hx b n)]; exact n,fun b u q _=>?_,
  fun b xs q=>by rw [z09 (hm b _ q fun z=>z)]; exact q,fun b u xs q=>by rw [z09 (hm b _ q fun z=>z)]; exact q,fun b ps q=>⟨#[],by rw [z09 (hm b _ q fun z=>z),q]; simp⟩⟩
 by_cases hbe:b=e
 ·subst hbe; exact heo
 ·exact⟨u,k b u hbe q⟩
theorem Un.mono(u:Un fs ex H H1 h h1)(hs:∀b∈fs,b∈fs')(hx:∀b∈ex,b∈ex'):Un fs' ex' H H1 h h1:=
 ⟨fun b ob q n hb he=>u.keep b ob q n (fun z=>hb (hs b z)) fun z=>he (hx b z),fun _ _ q n _ he=>u.any q n fun z=>he (hx _ z),fun b ob q n he=>u.free b ob q n fun z=>he (hx b z),fun b ob q he=>u.there b ob q fun z=>he (hx b z),u.tups,u.frzs,u.tbls⟩
end
def trk(h:Heap)(H:Hp):List Addr:=(List.range h.objs.size).filter fun a=>(H a).isSome
def zoy(h:Heap)(H:Hp):Heap:=PySem.W.hideAll h (trk h H)
theorem zmg(h:Heap)(H:Hp):(zoy h H).objs.size=h.objs.size:=PySem.W.hideAll_size _ _
theorem zqf{h:Heap}{H:Hp}{b:Addr}{o:Obj}(e:h.get? b=some o)(n:H b=none):(zoy h H).get? b=some o:=
 PySem.W.hideAll_get _ e fun hm=>by
  have q:(H b).isSome=true:=(List.mem_filter.mp hm).2
  rw [n] at q; simp at q
theorem zu0{h:Heap}{H:Hp}{b:Addr}{o:Obj}(e:(zoy h H).get? b=some o):h.get? b=some o/\H b=none:=by
 have e':h.get? b=some o:=PySem.W.of_hideAll (trk h H) e
 refine⟨e',?_⟩
 cases q:H b with
 | none=>rfl
 | some x=>
  have hm:b∈trk h H:=List.mem_filter.mpr ⟨List.mem_range.mpr (ye e'),by simp[q]⟩
  have z:(zoy h H).get? b=none:=PySem.W.hideAll_none (trk h H) hm
  rw [z] at e; cases e
def q1j(g h:Heap)(L:Addr):List (Addr×Obj):=(List.range h.objs.size).filterMap fun a=>if a=L\/(g.get? a).isSome=true then none else(h.get? a).map fun o=>(a,o)
def zjs(g h:Heap)(L d:Addr):List (Addr×Obj):=(q1j g h L).filter fun p=>decide (p.1≠d)
end L2
namespace L2
open PySem PySem.Spec PyProof.Rows
structure Mod(K:y3)(mg:Str->Option y4)(base:Heap):Prop where
 kin:K.In base
 glob:base.Ns mainGlobals mg
 blt:∃mb,base.Ns builtinsNs mb/\∀x:Str,x≠"__name__"->mb x=bootBuiltins x
 nolimit:base.NoLimit
structure Cx where
 prog:yf
 w:yr
 K:y3
 mg:Str->Option y4
 base:Heap
 A:y01
 N:List Str
 s₀:y9
 H₀:Hp
 env:Env
 outer:List Env
 stack:List Env
 ex:List Addr
 fn:Str->Bool
 calm:Bool
 pn:List (Addr×Obj)
 xe:y4->y9->Prop
def frs(l:List Env):List Addr:=l.filterMap (·.frame)
abbrev Cx.fs(X:Cx):List Addr:=frs X.outer
def Vis(sc:Scope)(x:Str):Prop:=sc.names.lookup x=some .local\/sc.names.lookup x=some .cell\/sc.names.lookup x=some .free
def Loc(sc:Scope)(x:Str):Prop:=sc.names.lookup x=some .local\/sc.names.lookup x=some .cell
def Look(env:Env)(h:Heap)(m:Str->Option y4)(x:Str)(u:y4):Prop:=
 (env.kindOf x=some .local/\m x=some u)\/((env.kindOf x=some .cell\/env.kindOf x=some .free)/\∃c,env.cells.lookup x=some c/\h.IsCell c (some u))
structure Cx.Ok(X:Cx):Prop where
 mod:Mod X.K X.mg X.base
 kind:X.env.scope.kind=.function
 glob:X.env.globals=mainGlobals
 blt:X.env.builtins=builtinsNs
 above:X.s₀.heap.objs.size<=X.env.locals
 inj:∀x y c,X.env.cells.lookup x=some c->X.env.cells.lookup y=some c->x=y
 has:∀x,(X.env.kindOf x=some .cell\/X.env.kindOf x=some .free)->∃c,X.env.cells.lookup x=some c
 cab:∀x c,X.fn x=true->X.env.cells.lookup x=some c->X.s₀.heap.objs.size<=c
 hd:X.calm=true->X.A.handled=none
 frames:X.A.frames=some X.stack
 stk:X.stack=X.outer\/(X.stack=X.env::X.outer/\X.env.frame=some X.env.locals)
 exf:∀b∈X.ex,b≠X.env.locals/\∀x c,X.env.cells.lookup x=some c->c≠b
 bs:∀b o,X.base.get? b=some o->X.s₀.heap.get? b=some o/\X.H₀ b=none
 bsz:X.base.objs.size<=X.s₀.heap.objs.size
 noex:∀b o,X.base.get? b=some o->b∉X.ex
 exfs:∀b∈X.ex,b∉X.fs
 funs:X.s₀.heap.FunFrames X.base X.outer
 frf:∀b∈X.fs,X.H₀ b=none
structure Inv(X:Cx)(pins:List (Addr×Obj))(σ : List (Option V))(H:Hp)(s:y9):Prop where
 ok:X.Ok
 os:s.os=X.s₀.os
 bare:AllBare s.gens
 base:Un X.fs X.ex X.H₀ H X.s₀.heap s.heap
 loc:∃m,s.heap.Ns X.env.locals m/\∀(i:Nat) (x:Str) (v:V),X.N[i]?=some x->σ[i]?=some (some v)->Vis X.env.scope x->∃u,RelV v u/\Look X.env s.heap m x u
 cell:∀x c,X.env.cells.lookup x=some c->∃v,s.heap.IsCell c v
 free:H X.env.locals=none
 freeC:∀x c,X.env.cells.lookup x=some c->H c=none
 pin:∀p∈X.pn++pins,s.heap.get? p.1=some p.2/\H p.1=none/\p.1≠X.env.locals/\p.1∉X.fs/\∀v,p.2.data≠.cell v
 hok:HOk X.prog X.w H s.heap
 len : σ.length=X.N.length
section
variable{X:Cx}{pins:List (Addr×Obj)}{σ : List (Option V)}{H H':Hp}{s:y9}{h':Heap}
theorem Cx.Ok.nofr(ok:X.Ok){b:Addr}{o:Obj}(e:X.base.get? b=some o):b∉X.fs:=fun hb=>by
 have:=(ok.funs.mem hb).1
 rw [e] at this; cases this
theorem Inv.bs(I:Inv X pins σ H s):∀b o,X.base.get? b=some o->s.heap.get? b=some o/\H b=none:=fun b o e=>
 ⟨I.base.keep b o (I.ok.bs b o e).1 (I.ok.bs b o e).2 (I.ok.nofr e) (I.ok.noex b o e),I.base.free b o (I.ok.bs b o e).1 (I.ok.bs b o e).2 (I.ok.noex b o e)⟩
theorem Inv.bk(I:Inv X pins σ H s):∀b o,X.base.get? b=some o->s.heap.get? b=some o:=fun b o e=>(I.bs b o e).1
theorem Inv.mod(I:Inv X pins σ H s):Mod X.K X.mg X.base:=I.ok.mod
theorem Inv.kIn(I:Inv X pins σ H s):X.K.In s.heap:=I.ok.mod.kin.keeps I.bk
theorem Inv.nolimit(I:Inv X pins σ H s):s.heap.NoLimit:=I.ok.mod.nolimit.keeps I.bk
theorem Inv.lt(I:Inv X pins σ H s):X.env.locals < s.heap.objs.size:=let ⟨_,hn,_⟩:=I.loc; hn.lt
theorem Inv.sz(I:Inv X pins σ H s):X.s₀.heap.objs.size<=s.heap.objs.size:=y0b I.ok.above (y18 I.lt)
theorem Inv.nofs(I:Inv X pins σ H s){a:Addr}(h:s.heap.objs.size<=a):a∉X.fs:=fun hb=>by
 obtain⟨_,o,ho,_⟩:=I.ok.funs.mem hb
 exact absurd (yu (ye ho) (y0b I.sz h)) (y0i _)
theorem Inv.cne(I:Inv X pins σ H s):∀x c,X.env.cells.lookup x=some c->c≠X.env.locals:=fun x c e z=>by
 obtain⟨v,o,ho,hd⟩:=I.cell x c e
 obtain⟨m,⟨o',es,ep,ho',hd',_⟩,_⟩:=I.loc
 rw [z,ho'] at ho; cases ho; rw [hd'] at hd; cases hd
theorem Inv.funs(I:Inv X pins σ H s):s.heap.FunFrames X.base X.outer:=by
 have all:∀(l:List Env),(∀b∈frs l,b∈X.fs)->X.s₀.heap.FunFrames X.base l->s.heap.FunFrames X.base l:=by
  intro l
  induction l with
  | nil=>intro _ _; trivial
  | cons env r ih=>
   intro hs hl
   obtain⟨hk,⟨L,o,hf,hn,ho,hd⟩,hr⟩:=hl
   have hL:L∈X.fs:=hs L (by unfold frs; rw [List.filterMap_cons,hf]; exact y0f)
   obtain⟨sl,e⟩:=I.base.slot L o ho (I.ok.frf L hL) hL fun z=>I.ok.exfs L z hL
   exact⟨hk,⟨L,_,hf,hn,e,hd⟩,ih (fun b hb=>hs b (by unfold frs; rw [List.filterMap_cons,hf]; exact y0c _ hb)) hr⟩
 exact all X.outer (fun _ hb=>hb) I.ok.funs
theorem Inv.stack(I:Inv X pins σ H s):s.heap.FunFrames X.base X.stack:=by
 rcases I.ok.stk with e | ⟨e,hf⟩
 ·rw [e]; exact I.funs
 ·rw [e]
  obtain⟨m,hn,_⟩:=I.loc
  refine .cons (by rw [I.ok.kind]; decide) hf hn ?_ I.funs
  exact Heap.get?_none_of_le (y0b I.ok.bsz I.ok.above)
theorem Inv.stkSub(I:Inv X pins σ H s):∀b∈frs X.stack,b∈X.env.locals::X.fs:=fun b hb=>by
 rcases I.ok.stk with e | ⟨e,hf⟩
 ·rw [e] at hb; exact y0c _ hb
 ·rw [e] at hb
  unfold frs at hb
  rw [List.filterMap_cons,hf] at hb
  exact hb
theorem Inv.stkFree(I:Inv X pins σ H s):∀b∈frs X.stack,H b=none:=fun b hb=>by
 rcases List.mem_cons.mp (I.stkSub b hb) with e | hb
 ·rw [e]; exact I.free
 ·obtain⟨_,o,ho,_⟩:=I.ok.funs.mem hb
  exact I.base.free b o ho (I.ok.frf b hb) fun z=>I.ok.exfs b z hb
theorem Inv.step{g':Array GenState}{t':Nat}{d':Drawn}{ch:List Addr}(I:Inv X pins σ H s)
  (hch:∀b∈ch,(b∈X.ex\/X.s₀.heap.objs.size<=b)/\b≠X.env.locals/\(∀x c,X.env.cells.lookup x=some c->c≠b)/\∀p∈X.pn++pins,p.1≠b)
  (keep:∀b o,b≠X.env.locals->b∉X.fs->b∉ch->s.heap.get? b=some o->H b=none->h'.get? b=some o)
  (slot:∀b o,b≠X.env.locals->b∈X.fs->b∉ch->s.heap.get? b=some o->H b=none->∃sl,h'.get? b=some {o with slots:=sl}) (free:∀b o,b∉ch->s.heap.get? b=some o->H b=none->H' b=none)
  (there:∀b o,b∉ch->s.heap.get? b=some o->∃o',h'.get? b=some o')
  (tups:∀b xs,H b=some (.tup xs)->H' b=some (.tup xs)) (frzs:∀b o u,H b=some (.frz o u)->H' b=some (.frz o u)) (tbls:∀b ps,H b=some (.tbl ps)->∃more,H' b=some (.tbl (ps++more)))
  (ns:∀m,s.heap.Ns X.env.locals m->h'.Ns X.env.locals m) (hok:HOk X.prog X.w H' h') (hg:AllBare g') :
  Inv X pins σ H' {s with heap:=h',gens:=g',drawn:=d',toks:=t'}:=by
 have neL:∀b o,X.s₀.heap.get? b=some o->b≠X.env.locals:=fun b o e=>yk (yu (ye e) I.ok.above)
 have neC:∀b o,X.s₀.heap.get? b=some o->b∉X.ex->b∉ch:=fun b o e hx hb=>by
  rcases(hch b hb).1 with z | z
  ·exact hx z
  ·exact absurd (yu (ye e) z) (y0i _)
 have cellK:∀x c,X.env.cells.lookup x=some c->∀v,s.heap.IsCell c v->h'.IsCell c v:=fun x c e v ⟨o,ho,hd⟩=>by
  have nch:c∉ch:=fun z=>(hch c z).2.2.1 x c e rfl
  by_cases hc:c∈X.fs
  ·obtain⟨sl,q⟩:=slot c o (I.cne x c e) hc nch ho (I.freeC x c e)
   exact⟨_,q,hd⟩
  ·exact⟨o,keep c o (I.cne x c e) hc nch ho (I.freeC x c e),hd⟩
 refine⟨I.ok,I.os,hg,⟨fun b o e n hb hx=>?_,fun b o e n hb hx=>?_,fun b o e n hx=>?_,fun b o e hx=>?_,fun b xs e=>tups b xs (I.base.tups b xs e),fun b o xs e=>frzs b o xs (I.base.frzs b o xs e),fun b ps e=>?_⟩,?_,fun x c e=>?_,?_,fun x c e=>?_,fun p hp=>?_,hok,I.len⟩
 ·exact keep b o (neL b o e) hb (neC b o e hx) (I.base.keep b o e n hb hx) (I.base.free b o e n hx)
 ·obtain⟨sl,e1⟩:=I.base.slot b o e n hb hx
  obtain⟨sl',e2⟩:=slot b _ (neL b o e) hb (neC b o e hx) e1 (I.base.free b o e n hx)
  exact⟨sl',e2⟩
 ·obtain⟨o',e1⟩:=I.base.there b o e hx
  exact free b o' (neC b o e hx) e1 (I.base.free b o e n hx)
 ·obtain⟨o',e1⟩:=I.base.there b o e hx
  exact there b o' (neC b o e hx) e1
 ·obtain⟨m1,e1⟩:=I.base.tbls b ps e
  obtain⟨m2,e2⟩:=tbls b _ e1
  exact⟨m1++m2,by rw [e2,Array.append_assoc]⟩
 ·obtain⟨m,hn,hl⟩:=I.loc
  refine⟨m,ns m hn,fun i x v e1 e2 e3=>?_⟩
  obtain⟨u,r,l⟩:=hl i x v e1 e2 e3
  refine⟨u,r,?_⟩
  rcases l with l | ⟨k,c,e,z⟩
  ·exact .inl l
  ·exact .inr ⟨k,c,e,cellK x c e _ z⟩
 ·obtain⟨v,z⟩:=I.cell x c e
  exact⟨v,cellK x c e v z⟩
 ·obtain⟨m,⟨o,_,_,ho,_⟩,_⟩:=I.loc
  exact free _ o (fun z=>(hch _ z).2.1 rfl) ho I.free
 ·obtain⟨v,o,ho,hd⟩:=I.cell x c e
  exact free c o (fun z=>(hch c z).2.2.1 x c e rfl) ho (I.freeC x c e)
 ·obtain⟨e,n,ne,nf,d⟩:=I.pin p hp
  have nch:p.1∉ch:=fun z=>(hch p.1 z).2.2.2 p hp rfl
  exact⟨keep p.1 p.2 ne nf nch e n,free p.1 p.2 nch e n,ne,nf,d⟩
theorem Inv.un{t':Nat}(I:Inv X pins σ H s)(u:Un X.fs [] H H' s.heap h')(hok:HOk X.prog X.w H' h'):Inv X pins σ H' {s with heap:=h',toks:=t'}:=by
 obtain⟨m,⟨o,es,ep,ho,r⟩,_⟩:=id I.loc
 obtain⟨sl,hL⟩:=u.any ho I.free (by simp)
 exact I.step (g':=s.gens) (d':=s.drawn) (ch:=[]) (fun _ z=>nomatch z) (fun b o _ hb _ e n=>u.keep b o e n hb (by simp)) (fun b o _ hb _ e n=>u.slot b o e n hb (by simp)) (fun b o _ e n=>u.free b o e n (by simp)) (fun b o _ e=>u.there b o e (by simp)) u.tups u.frzs u.tbls (fun m' hm=>by
  obtain⟨o',es',ep',ho',r'⟩:=hm
  rw [ho] at ho'; cases ho'
  exact⟨_,es',ep',hL,r'⟩) hok I.bare
theorem Inv.call{g':Array GenState}{t':Nat}{d':Drawn}{ch:List Addr}(I:Inv X pins σ H s)(u:Un (frs X.stack) ch H H' s.heap h')(hok:HOk X.prog X.w H' h')(hg:AllBare g')
  (hch:∀b∈ch,(b∈X.ex\/X.s₀.heap.objs.size<=b)/\b≠X.env.locals/\(∀x c,X.env.cells.lookup x=some c->c≠b)/\∀p∈X.pn++pins,p.1≠b) :
  Inv X pins σ H' {s with heap:=h',gens:=g',drawn:=d',toks:=t'}:=by
 obtain⟨m,⟨o,es,ep,ho,r⟩,_⟩:=id I.loc
 obtain⟨sl,hL⟩:=u.any ho I.free fun z=>(hch _ z).2.1 rfl
 exact I.step (ch:=ch) hch (fun b o hL hb hc e n=>u.keep b o e n (fun z=>(List.mem_cons.mp (I.stkSub b z)).elim hL hb) hc) (fun b o _ _ hc e n=>u.any e n hc) (fun b o hc e n=>u.free b o e n hc) (fun b o hc e=>u.there b o e hc) u.tups u.frzs u.tbls (fun m' hm=>by
  obtain⟨o',es',ep',ho',r'⟩:=hm
  rw [ho] at ho'; cases ho'
  exact⟨_,es',ep',hL,r'⟩) hok hg
theorem Inv.turned{t':Nat}{it:Addr}(I:Inv X pins σ H s)(k:∀b o,b≠it->s.heap.get? b=some o->h'.get? b=some o)(hn:H it=none)(hL:it≠X.env.locals)
  (h1:it∈X.ex\/X.s₀.heap.objs.size<=it) (h2:∀x c,X.env.cells.lookup x=some c->c≠it) (h3:∀p∈X.pn++pins,p.1≠it):Inv X pins σ H {s with heap:=h',toks:=t'}:=by
 have nit:∀b u,H b=some u->b≠it:=fun b u e z=>by rw [z,hn] at e; cases e
 refine I.step (g':=s.gens) (d':=s.drawn) (ch:=[it]) (fun b hb=>?_) (fun b o _ _ hc e _=>k b o (fun z=>hc (by simp[z])) e) (fun b o _ _ hc e _=>⟨o.slots,k b o (fun z=>hc (by simp[z])) e⟩) (fun _ _ _ _ n=>n)
  (fun b o hc e=>⟨o,k b o (fun z=>hc (by simp[z])) e⟩) (fun _ _ e=>e) (fun _ _ _ e=>e) (fun b ps e=>⟨#[],by rw [e]; simp⟩) (fun m hm=>?_) (fun b u e=>?_) I.bare
 ·have e:b=it:=by simpa using hb
  subst e
  exact⟨h1,hL,h2,h3⟩
 ·obtain⟨o,es,ep,ho,r⟩:=hm
  exact⟨o,es,ep,k _ o (y1y hL) ho,r⟩
 ·refine(I.hok b u e).stay (fun c v hc q=>k c v ?_ q) (fun _ q=>q) fun _ _ q=>q
  rcases hc with z | z
  ·rw [z]; exact nit b u e
  ·exact nit c _ z
theorem Inv.tok(I:Inv X pins σ H s)(t:Nat):Inv X pins σ H {s with toks:=t}:=I.un (h':=s.heap) (t':=t) Un.refl I.hok
theorem Inv.kept{t':Nat}(I:Inv X pins σ H s)(k:∀b u,s.heap.get? b=some u->h'.get? b=some u):Inv X pins σ H {s with heap:=h',toks:=t'}:=I.un (Un.kept k) (I.hok.kept k)
theorem Inv.laid{a:Addr}{o:HO}{t':Nat}(I:Inv X pins σ H s)(k:∀b u,s.heap.get? b=some u->h'.get? b=some u)(hp:s.heap.objs.size<=a)(new:ObjOk X.prog X.w (upd H a o) h' a o) :
  Inv X pins σ (upd H a o) {s with heap:=h',toks:=t'}:=I.un (Un.laid k hp (I.hok.fresh hp)) (I.hok.laid k hp new)
theorem Inv.write{x e:Addr}{o:HO}{t':Nat}(I:Inv X pins σ H s)(mu:Mut (H x))(he:e=x\/H e=some (.own x))(k:∀b u,b≠e->s.heap.get? b=some u->h'.get? b=some u)(heo:∃u,h'.get? e=some u)
  (new:ObjOk X.prog X.w (upd H x o) h' x o):Inv X pins σ (upd H x o) {s with heap:=h',toks:=t'}:=I.un (Un.write mu he k heo) (I.hok.write mu he k heo new)
theorem Inv.pins_of{pins':List (Addr×Obj)}(I:Inv X pins σ H s)(h:∀p∈pins',s.heap.get? p.1=some p.2/\H p.1=none/\p.1≠X.env.locals/\p.1∉X.fs/\∀v,p.2.data≠.cell v):Inv X pins' σ H s:=
 ⟨I.ok,I.os,I.bare,I.base,I.loc,I.cell,I.free,I.freeC,fun p hp=>(List.mem_append.mp hp).elim (fun z=>I.pin p (y1t _ z)) (h p),I.hok,I.len⟩
theorem zkb{N:List Str}(hN:N.Nodup){i j:Nat}{x:Str}(a:N[i]?=some x)(b:N[j]?=some x):i=j:=by
 obtain⟨h1,e1⟩:=List.getElem?_eq_some_iff.mp a
 obtain⟨h2,e2⟩:=List.getElem?_eq_some_iff.mp b
 exact(List.getElem_inj hN).mp (e1.trans e2.symm)
theorem zsv{M:Model}{A:y01}{E:y4->y9->Prop}{i:Nat}{x:Str}{v:V}{u:y4}{Q:Unit->y9->Prop}(I:Inv X pins σ H s)(hN:X.N.Nodup)(hi:X.N[i]?=some x)(hx:Loc X.env.scope x)(r:RelV v u)
  (h:∀s',Inv X pins (σ.set i (some v)) H s'->(∃a,Heap.SameBut a s.heap s'.heap/\(a=X.env.locals\/X.env.cells.lookup x=some a))->Q () s') (hf:X.fn x=true\/X.env.scope.names.lookup x=some .local:=by first | exact .inl rfl | exact .inr rfl | assumption):wpAny M A (storeName X.env x u) Q E s:=by
 obtain⟨m,hn,hl⟩:=id I.loc
 have hcls:(X.env.scope.kind == .class || (X.env.scope.kind == .module && X.env.locals !=X.env.globals))=false:=by rw [I.ok.kind]; rfl
 have hiσ : i < σ.length:=by rw [I.len]; exact(List.getElem?_eq_some_iff.mp hi).1
 have cne:=I.cne
 have tracked:∀{a:Addr} {h':Heap},(∃o,s.heap.get? a=some o/\H a=none)->Heap.SameBut a s.heap h'->HOk X.prog X.w H h':=fun {a h'} ha hs b ob e=>by
  obtain⟨_,_,hfree⟩:=ha
  refine(I.hok b ob e).stay (fun c w' hc q=>(hs.2 c ?_).trans q) (fun _ q=>q) fun _ _ q=>q
  rintro rfl
  rcases hc with rfl | hc
  ·rw [hfree] at e; cases e
  ·rw [hfree] at hc; cases hc
 rcases hx with hk | hk
 ·refine wpAny_storeName_local hk hn (fun h' hn' hs=>?_) hcls
  obtain⟨oL,_,_,hoL,_⟩:=id hn
  refine h _ ⟨I.ok,I.os,I.bare,⟨fun b o e n hb hx=>?_,fun b o e n hb hx=>?_,I.base.free,fun b o e hx=>?_,I.base.tups,I.base.frzs,I.base.tbls⟩,⟨_,hn',fun j y v' e1 e2 e3=>?_⟩,fun y c e=>?_,I.free,I.freeC,fun p hp=>?_,tracked ⟨oL,hoL,I.free⟩ hs,by simpa using I.len⟩ ⟨_,hs,.inl rfl⟩
  ·exact(hs.2 b (yk (yu (ye e) I.ok.above))).trans (I.base.keep b o e n hb hx)
  ·obtain⟨sl,e1⟩:=I.base.slot b o e n hb hx
   exact⟨sl,(hs.2 b (yk (yu (ye e) I.ok.above))).trans e1⟩
  ·obtain⟨o',e1⟩:=I.base.there b o e hx
   exact⟨o',(hs.2 b (yk (yu (ye e) I.ok.above))).trans e1⟩
  ·by_cases hj:j=i
   ·subst hj
    rw [hi] at e1; cases e1
    rw [y2n hiσ] at e2
    cases e2
    exact⟨u,r,.inl ⟨hk,by simp⟩⟩
   ·rw [List.getElem?_set_ne (y1y hj)] at e2
    obtain⟨u',r',q⟩:=hl j y v' e1 e2 e3
    refine⟨u',r',?_⟩
    rcases q with⟨k,e⟩ | ⟨k,c,e,z⟩
    ·refine .inl ⟨k,?_⟩
     have:y≠x:=fun e=>hj (zkb hN e1 (e ▸ hi))
     simp[this,e]
    ·exact .inr ⟨k,c,e,z.sameBut hs (cne y c e)⟩
  ·obtain⟨w',z⟩:=I.cell y c e
   exact⟨w',z.sameBut hs (cne y c e)⟩
  ·obtain⟨e,n,ne,nf,d⟩:=I.pin p hp
   exact⟨(hs.2 p.1 ne).trans e,n,ne,nf,d⟩
 ·have hfn:X.fn x=true:=by
   rcases hf with z | z
   ·exact z
   ·rw [z] at hk; cases hk
  obtain⟨c,hc⟩:=I.ok.has x (.inl hk)
  obtain⟨w',z⟩:=I.cell x c hc
  refine wpAny_storeName_cell I.ok.kind hk hc z (fun h' hc' hs=>?_)
  obtain⟨oc,hoc,hocd⟩:=id z
  refine h {s with heap:=h'} ⟨I.ok,I.os,I.bare,⟨fun b o e n hb hx=>?_,fun b o e n hb hx=>?_,I.base.free,fun b o e hx=>?_,I.base.tups,I.base.frzs,I.base.tbls⟩,⟨m,hn.sameBut hs (y1y (cne x c hc)),fun j y v' e1 e2 e3=>?_⟩,fun y c' e=>?_,I.free,I.freeC,fun p hp=>?_,tracked ⟨oc,hoc,I.freeC x c hc⟩ hs,by simpa using I.len⟩ ⟨c,hs,.inr hc⟩
  ·exact(hs.2 b (yk (yu (ye e) (I.ok.cab x c hfn hc)))).trans (I.base.keep b o e n hb hx)
  ·obtain⟨sl,e1⟩:=I.base.slot b o e n hb hx
   exact⟨sl,(hs.2 b (yk (yu (ye e) (I.ok.cab x c hfn hc)))).trans e1⟩
  ·obtain⟨o',e1⟩:=I.base.there b o e hx
   exact⟨o',(hs.2 b (yk (yu (ye e) (I.ok.cab x c hfn hc)))).trans e1⟩
  ·by_cases hj:j=i
   ·subst hj
    rw [hi] at e1; cases e1
    rw [y2n hiσ] at e2
    cases e2
    exact⟨u,r,.inr ⟨.inl hk,c,hc,hc'⟩⟩
   ·rw [List.getElem?_set_ne (y1y hj)] at e2
    obtain⟨u',r',q⟩:=hl j y v' e1 e2 e3
    refine⟨u',r',?_⟩
    rcases q with q | ⟨k,c',e,z'⟩
    ·exact .inl q
    ·refine .inr ⟨k,c',e,z'.sameBut hs ?_⟩
     rintro rfl
     exact hj (zkb hN e1 (I.ok.inj _ _ _ e hc ▸ hi))
  ·by_cases hcc:c'=c
   ·subst hcc; exact⟨_,hc'⟩
   ·obtain⟨w2,z2⟩:=I.cell y c' e
    exact⟨w2,z2.sameBut hs hcc⟩
  ·obtain⟨e,n,ne,nf,d⟩:=I.pin p hp
   refine⟨(hs.2 p.1 ?_).trans e,n,ne,nf,d⟩
   intro q
   rw [q,hoc] at e
   have q':oc=p.2:=y04 e
   exact d w' (by rw [<- q']; exact hocd)
theorem zjh{M:Model}{A:y01}{E:y4->y9->Prop}{i:Nat}{x:Str}{v:V}{u:y4}{Q:Unit->y9->Prop}(I:Inv X pins σ H s)(hN:X.N.Nodup)(hi:X.N[i]?=some x)(hx:Loc X.env.scope x)(r:RelV v u)
  (h:∀s',Inv X pins (σ.set i (some v)) H s'->Q () s') (hf:X.fn x=true\/X.env.scope.names.lookup x=some .local:=by first | exact .inl rfl | exact .inr rfl | assumption):wpAny M A (storeName X.env x u) Q E s:=
 zsv I hN hi hx r (fun s' I' _=>h s' I') hf
theorem Inv.call'{s':y9}{ch:List Addr}(I:Inv X pins σ H s)(ho:s'.os=s.os)(u:Un (frs X.stack) ch H H' s.heap s'.heap)(hok:HOk X.prog X.w H' s'.heap)(hg:AllBare s'.gens)
  (hch:∀b∈ch,(b∈X.ex\/X.s₀.heap.objs.size<=b)/\b≠X.env.locals/\(∀x c,X.env.cells.lookup x=some c->c≠b)/\∀p∈X.pn++pins,p.1≠b):Inv X pins σ H' s':=by
 obtain⟨h',g',d',t',o'⟩:=s'
 have e:o'=s.os:=ho
 subst e
 exact I.call (g':=g') (t':=t') (d':=d') u hok hg hch
end
abbrev XK:=y4->Option Addr->Hp->Prop
abbrev St:=List (Option V)
abbrev VK:=V->Hp->Prop
abbrev TE:=St->Hp->VK->Prop
abbrev TT:=St->Hp->(Bool->Hp->Prop)->Prop
abbrev TA:=St->Hp->(List V->Hp->Prop)->Prop
structure Ends where
 nx:St->Hp->Prop
 rt:VK
 bk:St->Hp->Prop:=fun _ _=>False
 ct:St->Hp->Prop:=fun _ _=>False
abbrev TS:=Ends->St->Hp->Prop
def EP(X:Cx)(pins:List (Addr×Obj))(σ : St)(Q:VK)(u:y4)(s':y9):Prop:=∃v H',Inv X pins σ H' s'/\RelV v u/\Q v H'
def TP(X:Cx)(pins:List (Addr×Obj))(σ : St)(Q:Bool->Hp->Prop)(b:Bool)(s':y9):Prop:=∃H',Inv X pins σ H' s'/\Q b H'
def AP(X:Cx)(pins:List (Addr×Obj))(σ : St)(Q:List V->Hp->Prop)(us:List y4)(s':y9):Prop:=∃vs H',Inv X pins σ H' s'/\Vals vs us/\Q vs H'
def SP(X:Cx)(pins:List (Addr×Obj))(D:Ends)(f:Flow)(s':y9):Prop:=
 match f with
 | .next=>∃ σ' H',Inv X pins σ' H' s'/\D.nx σ' H'
 | .brk=>∃ σ' H',Inv X pins σ' H' s'/\D.bk σ' H'
 | .cont=>∃ σ' H',Inv X pins σ' H' s'/\D.ct σ' H'
 | .ret u=>∃v σ' H',Inv X pins σ' H' s'/\RelV v u/\D.rt v H'
abbrev PEv(X:Cx)(e:Expr)(t:TE):Prop:=
 ∀(pins:List (Addr×Obj)) (s:y9) (σ : St) (H:Hp) (Q:VK),Inv X pins σ H s->t σ H Q->wpAny (model X.prog X.w) X.A (eval e X.env) (EP X pins σ Q) X.xe s
structure PE(X:Cx)(e:Expr)(t:TE):Prop where
 run:PEv X e t
instance{X:Cx}{e:Expr}{t:TE}:CoeFun (PE X e t) (fun _=>PEv X e t):=⟨PE.run⟩
abbrev PTv(X:Cx)(e:Expr)(t:TT):Prop:=
 ∀(pins:List (Addr×Obj)) (s:y9) (σ : St) (H:Hp) (Q:Bool->Hp->Prop),Inv X pins σ H s->t σ H Q->wpAny (model X.prog X.w) X.A (isTrue e X.env (eval e X.env)) (TP X pins σ Q) X.xe s
structure PT(X:Cx)(e:Expr)(t:TT):Prop where
 run:PTv X e t
instance{X:Cx}{e:Expr}{t:TT}:CoeFun (PT X e t) (fun _=>PTv X e t):=⟨PT.run⟩
abbrev PWv(X:Cx)(e:Expr)(t:TT):Prop:=
 ∀(whole:Sem y4) (pins:List (Addr×Obj)) (s:y9) (σ : St) (H:Hp) (Q:Bool->Hp->Prop),Inv X pins σ H s->t σ H Q->wpAny (model X.prog X.w) X.A (isTrue e X.env whole) (TP X pins σ Q) X.xe s
structure PW(X:Cx)(e:Expr)(t:TT):Prop where
 run:PWv X e t
instance{X:Cx}{e:Expr}{t:TT}:CoeFun (PW X e t) (fun _=>PWv X e t):=⟨PW.run⟩
theorem PW.pt{X:Cx}{e:Expr}{t:TT}(h:PW X e t):PT X e t:=⟨h.run _⟩
abbrev PAv(X:Cx)(es:List Expr)(t:TA):Prop:=
 ∀(pos:Pos) (pins:List (Addr×Obj)) (s:y9) (σ : St) (H:Hp) (Q:List V->Hp->Prop),Inv X pins σ H s->t σ H Q->wpAny (model X.prog X.w) X.A (spliced (backTo pos (starEach es X.env))) (AP X pins σ Q) X.xe s
structure PA(X:Cx)(es:List Expr)(t:TA):Prop where
 run:PAv X es t
instance{X:Cx}{es:List Expr}{t:TA}:CoeFun (PA X es t) (fun _=>PAv X es t):=⟨PA.run⟩
abbrev PSv(X:Cx)(st:Stmt)(t:TS):Prop:=
 ∀(pins:List (Addr×Obj)) (s:y9) (σ : St) (H:Hp) (D:Ends),Inv X pins σ H s->t D σ H->wpAny (model X.prog X.w) X.A (exec st X.env) (SP X pins D) X.xe s
structure PS(X:Cx)(st:Stmt)(t:TS):Prop where
 run:PSv X st t
instance{X:Cx}{st:Stmt}{t:TS}:CoeFun (PS X st t) (fun _=>PSv X st t):=⟨PS.run⟩
abbrev PSsv(X:Cx)(st:List Stmt)(t:TS):Prop:=
 ∀(pins:List (Addr×Obj)) (s:y9) (σ : St) (H:Hp) (D:Ends),Inv X pins σ H s->t D σ H->wpAny (model X.prog X.w) X.A (execs st X.env) (SP X pins D) X.xe s
structure PSs(X:Cx)(st:List Stmt)(t:TS):Prop where
 run:PSsv X st t
instance{X:Cx}{st:List Stmt}{t:TS}:CoeFun (PSs X st t) (fun _=>PSsv X st t):=⟨PSs.run⟩
theorem thn{α : Type}{t:Sem α}{Q Q' : α->y9->Prop}{M:Model}{A:y01}{E:y4->y9->Prop}{s:y9}(h:wpAny M A t Q E s)(hQ:∀a s,Q a s->Q' a s):wpAny M A t Q' E s:=y0l h hQ fun _ _ x=>x
end L2
namespace L2
open PySem PySem.Spec PyProof.Rows
section
variable{X:Cx}
def isI(x:V)(P:Int->Prop):Prop:=match x with | .int i=>P i | _=>False
def isBl(x:V)(P:Bool->Prop):Prop:=match x with | .bl i=>P i | _=>False
def isRf(x:V)(P:Addr->Prop):Prop:=match x with | .ref i=>P i | _=>False
theorem zow{i:Int}{P:Int->Prop}:isI (.int i) P=P i:=rfl
theorem zez{i:Bool}{P:Bool->Prop}:isBl (.bl i) P=P i:=rfl
theorem zhk{i:Addr}{P:Addr->Prop}:isRf (.ref i) P=P i:=rfl
theorem isI.o{x:V}{P:Int->Prop}(h:isI x P):∃i,x=.int i/\P i:=by
 cases x<;>first | exact h.elim | exact⟨_,rfl,h⟩
theorem isBl.o{x:V}{P:Bool->Prop}(h:isBl x P):∃i,x=.bl i/\P i:=by
 cases x<;>first | exact h.elim | exact⟨_,rfl,h⟩
theorem isRf.o{x:V}{P:Addr->Prop}(h:isRf x P):∃i,x=.ref i/\P i:=by
 cases x<;>first | exact h.elim | exact⟨_,rfl,h⟩
theorem zov{x:V}{P:Int->Prop}:isI x P=∃i,x=.int i/\P i:=propext ⟨isI.o,fun⟨i,e,h⟩=>by subst e; exact h⟩
theorem zhl{x:V}{P:Bool->Prop}:isBl x P=∃i,x=.bl i/\P i:=propext ⟨isBl.o,fun⟨i,e,h⟩=>by subst e; exact h⟩
theorem zhj{x:V}{P:Addr->Prop}:isRf x P=∃i,x=.ref i/\P i:=propext ⟨isRf.o,fun⟨i,e,h⟩=>by subst e; exact h⟩
def atS:Nat->St->(V->Prop)->Prop
 | 0,some v::_,P=>P v
 | i+1,_::σ,P=>atS i σ P
 | _,_,_=>False
theorem zpj{v:V}{σ : St}{P:V->Prop}:atS 0 (some v::σ) P=P v:=rfl
theorem zpi{i:Nat}{x:Option V}{σ : St}{P:V->Prop}:atS (i+1) (x::σ) P=atS i σ P:=rfl
theorem isV.o:∀{i:Nat} {σ : St} {P:V->Prop},atS i σ P->∃v,σ[i]?=some (some v)/\P v
 | 0,some v::_,_,h=>⟨v,rfl,h⟩
 | i+1,_::σ,P,h=>by
  obtain⟨v,e,h⟩:=isV.o (i:=i) (σ:=σ) h
  exact⟨v,by simpa using e,h⟩
 | 0,[],_,h=>h.elim
 | 0,none::_,_,h=>h.elim
 | _+1,[],_,h=>h.elim
theorem isV.i:∀{i:Nat} {σ : St} {v:V} {P:V->Prop},σ[i]?=some (some v)->P v->atS i σ P
 | 0,some v::_,_,_,e,h=>by
  have e:some (some v)=some (some _):=e
  cases e; exact h
 | i+1,_::σ,v,P,e,h=>isV.i (i:=i) (σ:=σ) (by simpa using e) h
 | 0,[],_,_,e,_=>by simp at e
 | 0,none::_,_,_,e,_=>by simp at e
 | _+1,[],_,_,e,_=>by simp at e
theorem zph{i:Nat}{σ : St}{P:V->Prop}:atS i σ P=∃v,σ[i]?=some (some v)/\P v:=propext ⟨isV.o,fun⟨_,e,h⟩=>isV.i e h⟩
def zra:Nat->V->St->(St->Prop)->Prop
 | 0,v,_::σ,Q=>Q (some v::σ)
 | i+1,v,x::σ,Q=>zra i v σ fun σ'=>Q (x::σ')
 | _,_,[],Q=>Q []
theorem zgn{v:V}{x:Option V}{σ : St}{Q:St->Prop}:zra 0 v (x::σ) Q=Q (some v::σ):=rfl
theorem zgm{i:Nat}{v:V}{x:Option V}{σ : St}{Q:St->Prop}:zra (i+1) v (x::σ) Q=zra i v σ fun σ'=>Q (x::σ'):=rfl
theorem zad:∀{i:Nat} {v:V} {σ : St} {Q:St->Prop},zra i v σ Q=Q (σ.set i (some v))
 | 0,v,_::σ,Q=>rfl
 | i+1,v,x::σ,Q=>by rw [zra,zad (i:=i)]; rfl
 | 0,_,[],Q=>rfl
 | i+1,_,[],Q=>rfl
theorem q09{α β : Type}{f : α->β}{a : α}{l:List α}:List.map f (a::l)=f a::List.map f l:=rfl
theorem q08{α β : Type}{f : α->β}:List.map f []=[]:=rfl
theorem q0e{α : Type}{a : α}{l:List α}:(a::l).length=l.length+1:=rfl
theorem q0d{α : Type}:([]:List α).length=0:=rfl
theorem q1h{α : Type}{a : α}{l r:List α}:(a::l)++r=a::(l++r):=rfl
theorem q1g{α : Type}{r:List α}:[]++r=r:=rfl
def zif(i:Nat):TE:=fun σ H Q=>atS i σ fun v=>Q v H
def tC(v:V):TE:=fun _ H Q=>Q v H
theorem z1q{i:Nat}{x:Str}{pos:Pos}(hN:X.N[i]?=some x)(hv:Vis X.env.scope x) (hd:(x == ("__debug__" : Str))=false:=by decide) (hcd:(x == ("__classdict__" : Str))=false:=by decide):PE X (.Name x pos) (zif i):=by
 refine⟨?_⟩
 intro pins s σ H Q I h
 obtain⟨v,e,h⟩:=isV.o h
 obtain⟨m,hn,hl⟩:=I.loc
 obtain⟨u,r,l⟩:=hl i x v hN e hv
 have fin:EP X pins σ Q u s:=⟨v,H,I,r,h⟩
 rcases l with⟨hk,hm⟩ | ⟨hk,c,hc,hcell⟩
 ·exact wpAny_Name (wpAny_loadName_local I.ok.kind hk hn hm fin) hd
 ·rcases hk with hk | hk
  ·exact wpAny_Name (wpAny_loadName_cell I.ok.kind hk hc hcell fin) hd
  ·exact wpAny_Name (wpAny_loadName_free I.ok.kind hk hc hcell fin hcd) hd
theorem z03{i j pos}:PE X (.Constant (.int i) j pos) (tC (.int i)):=⟨fun _ _ _ H _ I h=>wpAny_Constant_int ⟨.int i,H,I.tok _,⟨_,rfl⟩,h⟩⟩
theorem zil{b j pos}:PE X (.Constant (.bool b) j pos) (tC (.bl b)):=⟨fun _ _ _ H _ I h=>Constant_bool ⟨.bl b,H,I,rfl,h⟩⟩
theorem zew{j pos}:PE X (.Constant .none j pos) (tC .non):=⟨fun _ _ _ H _ I h=>Constant_none ⟨.non,H,I,rfl,h⟩⟩
theorem z0i{x j pos}:PE X (.Constant (.str x) j pos) (tC (.str x)):=⟨fun _ _ _ H _ I h=>Calls.Constant_str ⟨.str x,H,I.tok _,⟨_,rfl⟩,h⟩⟩
def Gl(X:Cx)(x:Str):Prop:=X.env.kindOf x=some .globalImplicit
theorem zaq{E:y4->y9->Prop}{pins:List (Addr×Obj)}{s:y9}{σ : St}{H:Hp}{x:Str}{u:y4}{pos:Pos}{Q:y4->y9->Prop}(I:Inv X pins σ H s)(hg:Gl X x)(hm:X.mg x=some u)(h:Q u s)
  (hd:(x == ("__debug__" : Str))=false:=by decide):wpAny (model X.prog X.w) X.A (eval (.Name x pos) X.env) Q E s:=
 Calls.Name_function_global I.ok.kind hg (Calls.loadGlobal_global (by rw [I.ok.glob]; exact I.mod.glob.keeps I.bk) hm h) hd
theorem zhc{E:y4->y9->Prop}{pins:List (Addr×Obj)}{s:y9}{σ : St}{H:Hp}{x:Str}{u:y4}{pos:Pos}{Q:y4->y9->Prop}(I:Inv X pins σ H s)(hg:Gl X x)(hm:X.mg x=none)(hv:bootBuiltins x=some u)(h:Q u s)
  (hn:x≠"__name__":=by decide) (hd:(x == ("__debug__" : Str))=false:=by decide):wpAny (model X.prog X.w) X.A (eval (.Name x pos) X.env) Q E s:=by
 obtain⟨mb,h1,h2⟩:=I.mod.blt
 exact Calls.Name_function_global I.ok.kind hg (Calls.loadGlobal_builtin (by rw [I.ok.glob]; exact I.mod.glob.keeps I.bk) hm (by rw [I.ok.blt]; exact h1.keeps I.bk) ((h2 x hn).trans hv) h) hd
theorem zc7{x:Str}{v:V}{u:y4}{pos:Pos}(hg:Gl X x)(hm:X.mg x=some u)(r:RelV v u) (hd:(x == ("__debug__" : Str))=false:=by decide):PE X (.Name x pos) (tC v):=
 ⟨fun _ _ _ H _ I h=>zaq I hg hm ⟨v,H,I,r,h⟩ hd⟩
theorem zk3{x:Str}{v:V}{u:y4}{pos:Pos}(hg:Gl X x)(hm:X.mg x=none)(hv:bootBuiltins x=some u)(r:RelV v u) (hn:x≠"__name__":=by decide) (hd:(x == ("__debug__" : Str))=false:=by decide):PE X (.Name x pos) (tC v):=
 ⟨fun _ _ _ H _ I h=>zhc I hg hm hv ⟨v,H,I,r,h⟩ hn hd⟩
variable{a b:Expr}{ta tb:TE}{pos:Pos}
abbrev PCv(X:Cx)(op:CmpOp)(a b:Expr)(t:TE):Prop:=
 ∀(pins:List (Addr×Obj)) (s:y9) (σ : St) (H:Hp) (Q:VK),Inv X pins σ H s->t σ H Q->
  wpAny (model X.prog X.w) X.A (eval a X.env) (fun v s₁=>wpAny (model X.prog X.w) X.A (eval b X.env) (fun u s₂=>wpAny (model X.prog X.w) X.A (compareOp op v u) (EP X pins σ Q) X.xe s₂) X.xe s₁) X.xe s
structure PC(X:Cx)(op:CmpOp)(a b:Expr)(t:TE):Prop where
 run:PCv X op a b t
instance{X:Cx}{op:CmpOp}{a b:Expr}{t:TE}:CoeFun (PC X op a b t) (fun _=>PCv X op a b t):=⟨PC.run⟩
theorem zx5(b:Expr){op:CmpOp}(h:op≠.In)(h2:op≠.NotIn):behindInMarks op b=false:=by
 have e1:(op == CmpOp.In)=false:=by cases op<;>first | rfl | exact absurd rfl h
 have e2:(op == CmpOp.NotIn)=false:=by cases op<;>first | rfl | exact absurd rfl h2
 cases b<;>simp[behindInMarks,e1,e2]
def tB(t:TE):TT:=fun σ H Q=>t σ H fun x H1=>isBl x fun c=>Q c H1
theorem q28{op:CmpOp}{t:TE}(h:PC X op a b t)(h1:behindInMarks op b=false:=by first | exact zx5 _ (by decide) (by decide) | rfl):PT X (.Compare a [op] [b] pos) (tB t):=by
 refine⟨?_⟩
 intro pins s σ H Q I hw
 refine wpAny_isTrue_Compare1 (thn (h pins s σ H _ I hw) fun v s1 h1=>thn h1 fun u s2 h2=>thn h2 fun c s3 ⟨x,H1,I1,r1,q1⟩=>?_) h1
 obtain⟨d,rfl,q⟩:=isBl.o q1
 cases r1
 exact y2u ⟨H1,I1,q⟩
theorem zpx{e:Expr}{t:TE}(h:PE X e t)(he:∀whole,isTrue e X.env whole=(do let v <- whole; standAt e.pos; holding [v] (truthy v)):=by intro _; rfl):PT X e (tB t):=by
 refine⟨?_⟩
 intro pins s σ H Q I hw
 refine isTrue_plain (thn (h pins s σ H _ I hw) fun v s1 ⟨x,H1,I1,r1,q1⟩=>?_) (he _)
 obtain⟨d,rfl,q⟩:=isBl.o q1
 cases r1
 exact y2u ⟨H1,I1,q⟩
variable{tA tB':TT}{zjs:List Expr}
def zy5(t u:TT):TT:=fun σ H Q=>t σ H fun c H1=>if c=true then u σ H1 Q else Q false H1
def tOr(t u:TT):TT:=fun σ H Q=>t σ H fun c H1=>if c=true then Q true H1 else u σ H1 Q
def zy3(t:TT):TT:=fun σ H Q=>t σ H fun c H1=>Q (!c) H1
theorem zo9(ha:PT X a tA):PW X (.BoolOp .And [a] pos) tA:=by
 refine⟨?_⟩
 intro wh pins s σ H Q I h
 refine isTrue_and (thn (ha pins s σ H Q I h) fun c s1 e=>?_)
 cases c with
 | true=>exact isTrue_and_nil e
 | false=>exact e
theorem zd1(ha:PT X a tA):PW X (.BoolOp .Or [a] pos) tA:=by
 refine⟨?_⟩
 intro wh pins s σ H Q I h
 refine isTrue_or (thn (ha pins s σ H Q I h) fun c s1 e=>?_)
 cases c with
 | false=>exact isTrue_or_nil e
 | true=>exact e
theorem ztd(ha:PT X a tA)(hb:PW X (.BoolOp .And (b::zjs) pos) tB'):PW X (.BoolOp .And (a::b::zjs) pos) (zy5 tA tB'):=by
 refine⟨?_⟩
 intro wh pins s σ H Q I h
 refine isTrue_and (thn (ha pins s σ H _ I h) fun c s1 ⟨H1,I1,q1⟩=>?_)
 cases c with
 | true=>exact hb wh pins s1 σ H1 Q I1 q1
 | false=>exact⟨H1,I1,q1⟩
theorem zgv(ha:PT X a tA)(hb:PW X (.BoolOp .Or (b::zjs) pos) tB'):PW X (.BoolOp .Or (a::b::zjs) pos) (tOr tA tB'):=by
 refine⟨?_⟩
 intro wh pins s σ H Q I h
 refine isTrue_or (thn (ha pins s σ H _ I h) fun c s1 ⟨H1,I1,q1⟩=>?_)
 cases c with
 | true=>exact⟨H1,I1,q1⟩
 | false=>exact hb wh pins s1 σ H1 Q I1 q1
theorem zte(ha:PT X a tA):PT X (.UnaryOp .Not a pos) (zy3 tA):=by
 refine⟨?_⟩
 intro pins s σ H Q I h
 exact isTrue_not (ha pins s σ H (fun c H1=>Q (!c) H1) I h)
def zld(ta tb:TE):TE:=fun σ H Q=>ta σ H fun x H1=>isBl x fun c=>if c=true then tb σ H1 Q else Q (.bl false) H1
def zz4(ta tb:TE):TE:=fun σ H Q=>ta σ H fun x H1=>isBl x fun c=>if c=true then Q (.bl true) H1 else tb σ H1 Q
def zl8(ta:TE):TE:=fun σ H Q=>ta σ H fun x H1=>isBl x fun c=>Q (.bl (!c)) H1
theorem ztk{op}{t:TE}(h:PE X a t):PE X (.BoolOp op [a] pos) t:=⟨fun pins s σ H Q I hw=>BoolOp_one (h pins s σ H Q I hw)⟩
theorem zpz(ha:PE X a ta)(hb:PE X (.BoolOp .And (b::zjs) pos) tb):PE X (.BoolOp .And (a::b::zjs) pos) (zld ta tb):=by
 refine⟨?_⟩
 intro pins s σ H Q I h
 refine BoolOp_and (thn (ha pins s σ H _ I h) fun v s1 ⟨x,H1,I1,r1,q1⟩=>?_)
 obtain⟨c,rfl,q1⟩:=isBl.o q1
 cases r1
 refine y2u ?_
 cases c with
 | true=>exact hb pins s1 σ H1 Q I1 q1
 | false=>exact⟨.bl false,H1,I1,rfl,q1⟩
theorem q29(ha:PE X a ta):PE X (.UnaryOp .Not a pos) (zl8 ta):=by
 refine⟨?_⟩
 intro pins s σ H Q I h
 refine UnaryOp_ (thn (ha pins s σ H _ I h) fun v s1 ⟨x,H1,I1,r1,q1⟩=>?_)
 obtain⟨c,rfl,q1⟩:=isBl.o q1
 cases r1
 exact not_of (y2u ⟨.bl (!c),H1,I1,rfl,q1⟩)
def tIf(t:TT)(ta tb:TE):TE:=fun σ H Q=>t σ H fun c H1=>if c=true then ta σ H1 Q else tb σ H1 Q
theorem zk1{c:Expr}(hc:PT X c tA)(ha:PE X a ta)(hb:PE X b tb):PE X (.IfExp c a b pos) (tIf tA ta tb):=by
 refine⟨?_⟩
 intro pins s σ H Q I h
 refine wpAny_IfExp (thn (hc pins s σ H _ I h) fun d s1 ⟨H1,I1,q1⟩=>?_)
 cases d with
 | true=>exact ha pins s1 σ H1 Q I1 q1
 | false=>exact hb pins s1 σ H1 Q I1 q1
end
end L2
namespace L2
open PySem PySem.Spec PyProof.Rows
def SqL(K:y3)(H:Hp)(a:Addr)(xs:List V):Prop:=
 Rd H a (.lst xs)\/
  ∃(o:Obj) (its:Array y4) (n:Nat),K.lookup a=some o/\o.cls=.type "list"/\o.dict=none/\o.data=.seq its n/\its.size<=sizeLine/\Vals xs its.toList
def SqT(K:y3)(H:Hp)(a:Addr)(xs:List V):Prop:=
 Rd H a (.tup xs)\/
  ∃(o:Obj) (its:Array y4) (n:Nat),K.lookup a=some o/\o.cls=.type "tuple"/\o.data=.seq its n/\its.size<=sizeLine/\Vals xs its.toList
def q5z:y4->Option V
 | .none=>some .non
 | .bool b=>some (.bl b)
 | .int i _=>some (.int i)
 | .str x _=>some (.str x)
 | .bytes b _=>some (.byt b)
 | .float b _=>some (.flt b)
 | .ref a=>some (.ref a)
 | .type n=>some (.ty n)
 | _=>none
theorem RelV.abs{x:V}{u:y4}(r:RelV x u):q5z u=some x:=by
 cases x with
 | non=>cases r; rfl
 | bl _=>cases r; rfl
 | int _=>obtain⟨t,rfl⟩:=r; rfl
 | str _=>obtain⟨t,rfl⟩:=r; rfl
 | byt _=>obtain⟨t,rfl⟩:=r; rfl
 | flt _=>obtain⟨t,rfl⟩:=r; rfl
 | ref _=>cases r; rfl
 | ty _=>cases r; rfl
theorem RelV.inj{x y:V}{u:y4}(r:RelV x u)(q:RelV y u):x=y:=y04 (r.abs.symm.trans q.abs)
theorem Vals.inj:∀{xs ys:List V} {us:List y4},Vals xs us->Vals ys us->xs=ys
 | _,_,_,.nil,.nil=>rfl
 | _,_,_,.cons r t,.cons r' t'=>by rw [r.inj r',Vals.inj t t']
section
variable{X:Cx}{pins:List (Addr×Obj)}{σ : St}{H:Hp}{s:y9}{a:Addr}{xs ys:List V}
theorem SqL.of{K:y3}(h:H a=some (.lst xs)):SqL K H a xs:=.inl (.inl h)
theorem SqT.of{K:y3}(h:H a=some (.tup xs)):SqT K H a xs:=.inl (.inl h)
theorem Inv.list(I:Inv X pins σ H s)(h:SqL X.K H a xs):∃its:List y4,Vals xs its/\PlainL s.heap a its.toArray/\xs.length<=sizeLine:=by
 rcases h with h | ⟨o,its,n,hk,hc,hd,hs,hz,r⟩
 ·obtain⟨z,its,n,r,e⟩:=h.ok I.hok
  exact⟨its,r,⟨_,n,e,rfl,rfl,rfl⟩,z⟩
 ·refine⟨its.toList,r,⟨o,n,I.kIn a o hk,hc,hd,by simpa using hs⟩,?_⟩
  have e:=r.length
  simp only[y1l] at e
  omega
theorem Inv.tuple(I:Inv X pins σ H s)(h:SqT X.K H a xs):∃its:List y4,Vals xs its/\IsTup s.heap a its.toArray/\xs.length<=sizeLine:=by
 rcases h with h | ⟨o,its,n,hk,hc,hs,hz,r⟩
 ·obtain⟨z,its,r,p⟩:=h.ok I.hok
  exact⟨its,r,p,z⟩
 ·refine⟨its.toList,r,⟨o,I.kIn a o hk,hc,n,by simpa using hs⟩,?_⟩
  have e:=r.length
  simp only[y1l] at e
  omega
theorem Inv.list_inj(I:Inv X pins σ H s)(h:SqL X.K H a xs)(h':SqL X.K H a ys):xs=ys:=by
 obtain⟨its,r,⟨o,n,e,_,_,d⟩,_⟩:=I.list h
 obtain⟨its',r',⟨o',n',e',_,_,d'⟩,_⟩:=I.list h'
 rw [e] at e'; cases e'
 rw [d] at d'
 injection d' with d1 _
 have:its=its':=by simpa using congrArg Array.toList d1
 subst this
 exact r.inj r'
theorem Inv.tuple_inj(I:Inv X pins σ H s)(h:SqT X.K H a xs)(h':SqT X.K H a ys):xs=ys:=by
 obtain⟨its,r,⟨o,e,_,n,d⟩,_⟩:=I.tuple h
 obtain⟨its',r',⟨o',e',_,n',d'⟩,_⟩:=I.tuple h'
 rw [e] at e'; cases e'
 rw [d] at d'
 injection d' with d1 _
 have:its=its':=by simpa using congrArg Array.toList d1
 subst this
 exact r.inj r'
end
abbrev Cx.wish(X:Cx)(E:y4->y9->Prop):Cx:={X with xe:=E}
abbrev Cx.nox(X:Cx):Cx:=X.wish fun _ _=>False
theorem Cx.Ok.wish{X:Cx}(ok:X.Ok)(E:y4->y9->Prop):(X.wish E).Ok:=
 ⟨ok.mod,ok.kind,ok.glob,ok.blt,ok.above,ok.inj,ok.has,ok.cab,ok.hd,ok.frames,ok.stk,ok.exf,ok.bs,ok.bsz,ok.noex,ok.exfs,ok.funs,ok.frf⟩
theorem Cx.Ok.unwish{X:Cx}{E:y4->y9->Prop}(ok:(X.wish E).Ok):X.Ok:=
 ⟨ok.mod,ok.kind,ok.glob,ok.blt,ok.above,ok.inj,ok.has,ok.cab,ok.hd,ok.frames,ok.stk,ok.exf,ok.bs,ok.bsz,ok.noex,ok.exfs,ok.funs,ok.frf⟩
section
variable{X:Cx}{pins:List (Addr×Obj)}{σ : St}{H:Hp}{s:y9}{E:y4->y9->Prop}
theorem Inv.wish(I:Inv X pins σ H s)(E:y4->y9->Prop):Inv (X.wish E) pins σ H s:=⟨I.ok.wish E,I.os,I.bare,I.base,I.loc,I.cell,I.free,I.freeC,I.pin,I.hok,I.len⟩
theorem Inv.unwish(I:Inv (X.wish E) pins σ H s):Inv X pins σ H s:=⟨I.ok.unwish,I.os,I.bare,I.base,I.loc,I.cell,I.free,I.freeC,I.pin,I.hok,I.len⟩
theorem SP.unwish{D:Ends}{f:Flow}{s':y9}(h:SP (X.wish E) pins D f s'):SP X pins D f s':=by
 cases f with
 | next=>obtain⟨σ',H',I,q⟩:=h; exact⟨σ',H',I.unwish,q⟩
 | brk=>obtain⟨σ',H',I,q⟩:=h; exact⟨σ',H',I.unwish,q⟩
 | cont=>obtain⟨σ',H',I,q⟩:=h; exact⟨σ',H',I.unwish,q⟩
 | ret u=>obtain⟨v,σ',H',I,r,q⟩:=h; exact⟨v,σ',H',I.unwish,r,q⟩
theorem PE.nox{e:Expr}{t:TE}(h:PE X.nox e t):PE X e t:=⟨fun pins s σ H Q I hw=>
 y0l (h pins s σ H Q (I.wish _) hw) (fun _ _ ⟨v,H',I',r,q⟩=>⟨v,H',I'.unwish,r,q⟩) fun _ _ z=>False.elim z⟩
theorem PT.nox{e:Expr}{t:TT}(h:PT X.nox e t):PT X e t:=⟨fun pins s σ H Q I hw=>
 y0l (h pins s σ H Q (I.wish _) hw) (fun _ _ ⟨H',I',q⟩=>⟨H',I'.unwish,q⟩) fun _ _ z=>False.elim z⟩
theorem PSs.nox{st:List Stmt}{t:TS}(h:PSs X.nox st t):PSs X st t:=⟨fun pins s σ H D I hw=>
 y0l (h pins s σ H D (I.wish _) hw) (fun _ _ q=>q.unwish) fun _ _ z=>False.elim z⟩
end
section
variable{X:Cx}{st:Stmt}{zjs:List Stmt}{t u:TS}{e:Expr}{te:TE}{pos:Pos}
def zl9:TS:=fun D σ H=>D.nx σ H
def znh(t u:TS):TS:=fun D σ H=>t {D with nx:=u D} σ H
theorem z0k:PSs X [] zl9:=⟨fun _ _ σ H _ I h=>wpAny_execs_nil ⟨σ,H,I,h⟩⟩
theorem z04(h1:PS X st t)(h2:PSs X zjs u):PSs X (st::zjs) (znh t u):=by
 refine⟨?_⟩
 intro pins s σ H D I h
 refine wpAny_execs_cons (thn (h1 pins s σ H {D with nx:=u D} I h) fun f s1 q=>?_)
 cases f with
 | next=>
  obtain⟨σ',H',I',q⟩:=q
  exact h2 pins s1 σ' H' D I' q
 | ret v=>exact q
 | brk=>exact q
 | cont=>exact q
theorem z07(h1:PS X st t):PSs X [st] t:=by
 refine⟨?_⟩
 intro pins s σ H D I h
 refine wpAny_execs_cons (thn (h1 pins s σ H D I h) fun f s1 q=>?_)
 cases f with
 | next=>exact wpAny_execs_nil q
 | ret v=>exact q
 | brk=>exact q
 | cont=>exact q
def zgj:TS:=fun D σ H=>D.bk σ H
def znr:TS:=fun D σ H=>D.ct σ H
theorem Inv.quiet{pins:List (Addr×Obj)}{σ : St}{H:Hp}{s:y9}(I:Inv X pins σ H s):interactive X.env=false:=by simp[interactive,I.ok.kind]
def zla(te:TE):TS:=fun D σ H=>te σ H fun _ H1=>D.nx σ H1
theorem z77(he:PE X e te)(hs:swapsWith e none pos.line X.env=pure false:=by rfl):PS X (.Expr e pos) (zla te):=by
 refine⟨?_⟩
 intro pins s σ H D I h
 exact wpAny_Expr_any (thn (he pins s σ H _ I h) fun v s1 ⟨x,H1,I1,r1,q1⟩=>⟨σ,H1,I1,q1⟩) I.quiet hs
def zy2(te:TE):TS:=fun D σ H=>te σ H D.rt
theorem z0f(he:PE X e te):PS X (.Return (some e) pos) (zy2 te):=by
 refine⟨?_⟩
 intro pins s σ H D I h
 exact wpAny_Return_some (thn (he pins s σ H _ I h) fun v s1 ⟨x,H1,I1,r1,q1⟩=>⟨x,σ,H1,I1,r1,q1⟩)
def znm:TS:=fun D _ H=>D.rt .non H
def znj(c:TT)(t u:TS):TS:=fun D σ H=>c σ H fun b H1=>if b=true then t D σ H1 else u D σ H1
theorem z1x{c:Expr}{a b:List Stmt}{tc:TT}(hc:PT X c tc)(ha:PSs X a t)(hb:PSs X b u):PS X (.If c a b pos) (znj tc t u):=by
 refine⟨?_⟩
 intro pins s σ H D I h
 refine wpAny_If (thn (hc pins s σ H _ I h) fun d s1 ⟨H1,I1,q1⟩=>?_)
 cases d with
 | true=>exact ha pins s1 σ H1 D I1 q1
 | false=>exact hb pins s1 σ H1 D I1 q1
def zes:TS:=fun _ _ _=>False
theorem zd2:PS X st zes:=⟨fun _ _ _ _ _ _ h=>h.elim⟩
end
abbrev TG:=V->St->Hp->(St->Hp->Prop)->Prop
abbrev TGs:=List V->St->Hp->(St->Hp->Prop)->Prop
abbrev PGv(X:Cx)(target:Expr)(t:TG):Prop:=
 ∀(pins:List (Addr×Obj)) (s:y9) (σ : St) (H:Hp) (v:V) (u:y4) (Q:St->Hp->Prop),Inv X pins σ H s->RelV v u->t v σ H Q->
  wpAny (model X.prog X.w) X.A (assign target X.env u) (fun _ s'=>∃ σ' H',Inv X pins σ' H' s'/\Q σ' H') X.xe s
structure PG(X:Cx)(target:Expr)(t:TG):Prop where
 run:PGv X target t
instance{X:Cx}{target:Expr}{t:TG}:CoeFun (PG X target t) (fun _=>PGv X target t):=⟨PG.run⟩
abbrev PGsv(X:Cx)(ts:List Expr)(t:TGs):Prop:=
 ∀(pins:List (Addr×Obj)) (s:y9) (σ : St) (H:Hp) (vs:List V) (us:List y4) (Q:St->Hp->Prop),Inv X pins σ H s->Vals vs us->t vs σ H Q->
  wpAny (model X.prog X.w) X.A (assignInOrder ((assignEach ts X.env).map (·.2)) us) (fun _ s'=>∃ σ' H',Inv X pins σ' H' s'/\Q σ' H') X.xe s
structure PGs(X:Cx)(ts:List Expr)(t:TGs):Prop where
 run:PGsv X ts t
instance{X:Cx}{ts:List Expr}{t:TGs}:CoeFun (PGs X ts t) (fun _=>PGsv X ts t):=⟨PGs.run⟩
section
variable{X:Cx}{pos:Pos}
def z7l(i:Nat):TG:=fun v σ H Q=>zra i v σ fun σ'=>Q σ' H
theorem z0s{i:Nat}{x:Str}(hN:X.N.Nodup)(hi:X.N[i]?=some x)(hx:Loc X.env.scope x)(hf:X.fn x=true\/X.env.scope.names.lookup x=some .local:=by first | exact .inl rfl | exact .inr rfl | assumption):PG X (.Name x pos) (z7l i):=by
 refine⟨?_⟩
 intro pins s σ H v u Q I r h
 rw [z7l,zad] at h
 exact wpAny_assign_Name (zjh I hN hi hx r (fun s' I'=>⟨_,H,I',h⟩) hf)
def zw4:TGs:=fun vs σ H Q=>vs=[]/\Q σ H
def zfu(t:TG)(u:TGs):TGs:=fun vs σ H Q=>∃v r,vs=v::r/\t v σ H fun σ' H'=>u r σ' H' Q
theorem z3z:PGs X [] zw4:=by
 refine⟨?_⟩
 intro pins s σ H vs us Q I r h
 obtain⟨e,h⟩:=h
 subst e
 cases r
 exact assignInOrder_nil ⟨σ,H,I,h⟩
theorem z0x{e:Expr}{es:List Expr}{t:TG}{u:TGs}(h1:PG X e t)(h2:PGs X es u)
  (hs:(assignEach (e::es) X.env).map (·.2)=assign e X.env::(assignEach es X.env).map (·.2):=by rfl):PGs X (e::es) (zfu t u):=by
 refine⟨?_⟩
 intro pins s σ H vs us Q I r h
 obtain⟨v,vr,e1,h⟩:=h
 subst e1
 cases r with
 | cons r rr=>
  rw [hs]
  refine assignInOrder_cons (thn (h1 pins s σ H _ _ _ I r h) fun _ s1 ⟨σ1,H1,I1,q1⟩=>?_)
  exact h2 pins s1 σ1 H1 _ _ Q I1 rr q1
def zuu(K:y3)(n:Nat)(t:TGs):TG:=fun v σ H Q=>isRf v fun a=>∃xs,SqT K H a xs/\xs.length=n/\t xs σ H Q
theorem zbz{es:List Expr}{k:Nat}{t:TGs}{n:Nat}(hc:X.calm=true)(h:PGs X es t)
  (hn:(assignEach es X.env).length=n:=by rfl) (hst:(assignEach es X.env).findIdx? (·.1)=none:=by rfl):PG X (.Tuple es k pos) (zuu X.K n t):=by
 refine⟨?_⟩
 intro pins s σ H v u Q I r hw
 obtain⟨a,e1,xs,hq,hl,hA⟩:=isRf.o hw
 subst e1
 cases r
 obtain⟨its,rv,ht,hz⟩:=I.tuple hq
 refine assign_Tuple_tuple (I.ok.hd hc) ht (by simp[hn,<- hl,rv.length]) hst fun h' hx=>?_
 have I1:Inv X pins σ H {s with heap:=h'}:=I.kept (t':=s.toks) fun b o e=>hx b o (yk (ye e)) e
 exact h pins _ σ H xs _ Q I1 (by simpa using rv) hA
def zwd(te:TE)(g:TG):TS:=fun D σ H=>te σ H fun x H1=>g x σ H1 D.nx
theorem ztf{tg e:Expr}{te:TE}{g:TG}(he:PE X e te)(hg:PG X tg g)(hs:swapsWithSole [tg] e pos.line X.env=pure false:=by rfl)(hw:swappedStores [tg] e X.env=pure none:=by rfl)
  (h1:(assignEach [tg] X.env).map (·.2)=[assign tg X.env]:=by rfl):PS X (.Assign [tg] e pos) (zwd te g):=by
 refine⟨?_⟩
 intro pins s σ H D I h
 refine wpAny_Assign_stores (thn (he pins s σ H _ I h) fun v s1 ⟨x,H1,I1,r1,q1⟩=>?_) hs hw
 rw [h1]
 exact thn (hg pins s1 σ H1 x v _ I1 r1 q1) fun _ s2 q=>q
theorem z14{i:Nat}{x:Str}{e:Expr}{te:TE}{pos':Pos}(hN:X.N.Nodup)(hi:X.N[i]?=some x)(hx:Loc X.env.scope x)(he:PE X e te)(hs:swapsWith e (some (.Name x pos')) pos.line X.env=pure false:=by rfl)(hf:X.fn x=true\/X.env.scope.names.lookup x=some .local:=by first | exact .inl rfl | exact .inr rfl | assumption) :
  PS X (.Assign [.Name x pos'] e pos) (zwd te (z7l i)):=by
 refine⟨?_⟩
 intro pins s σ H D I h
 refine wpAny_Assign_Name (thn (he pins s σ H _ I h) fun v s1 ⟨y,H1,I1,r1,q1⟩=>?_) hs
 have q1:z7l i y σ H1 D.nx:=q1
 rw [z7l,zad] at q1
 exact zjh I1 hN hi hx r1 (fun s2 I2=>⟨_,H1,I2,q1⟩) hf
end
section
variable{X:Cx}{pos:Pos}
def q20(c:TT)(tb:TS):TS:=fun D σ H=>∃W:Nat->St->Hp->Prop,(∃m,W m σ H)/\∀m σ H,W m σ H->
 c σ H fun b H1=>if b=true then ∃N:St->Hp->Prop,(∀ σ' H',N σ' H'->∃m',m' < m/\W m' σ' H')/\tb {D with nx:=N,ct:=N,bk:=D.nx} σ H1 else D.nx σ H1
theorem zwn{c:Expr}{body:List Stmt}{tc:TT}{tb:TS}(hp:PassesOwn (model X.prog X.w) X.A X.env X.xe)(hc:PT X c tc)(hb:PSs X body tb):PS X (.While c body [] pos) (q20 tc tb):=by
 refine⟨?_⟩
 intro pins s σ H D I h
 obtain⟨W,⟨m0,w0⟩,turn⟩:=h
 refine wpAny_While (codeAny_whileLoop (fun n s'=>∃ σ' H',Inv X pins σ' H' s'/\W n σ' H') ?_ m0 ⟨σ,H,I,w0⟩)
 rintro n s1 ⟨σ1,H1,I1,w1⟩
 refine y29 hp (thn (hc pins s1 σ1 H1 _ I1 (turn n σ1 H1 w1)) fun b s2 ⟨H2,I2,q2⟩=>?_)
 cases b with
 | true=>
  obtain⟨N,hN,q2⟩:=q2
  rw [if_pos rfl]
  refine y29 hp (thn (hb pins s2 σ1 H2 _ I2 q2) fun f s3 q3=>?_)
  cases f with
  | next=>
   obtain⟨σ3,H3,I3,n3⟩:=q3
   obtain⟨m',hm,w3⟩:=hN σ3 H3 n3
   exact⟨m',hm,σ3,H3,I3,w3⟩
  | cont=>
   obtain⟨σ3,H3,I3,n3⟩:=q3
   obtain⟨m',hm,w3⟩:=hN σ3 H3 n3
   exact⟨m',hm,σ3,H3,I3,w3⟩
  | brk=>exact q3
  | ret v=>exact q3
 | false=>
  rw [if_neg yp]
  exact wpAny_execs_nil ⟨σ1,H2,I2,q2⟩
end
structure It where
 go:Nat->Hp->Prop
 yld:Nat->Hp->V->Hp->Prop
 stop:Nat->Hp->Prop
def FpOk(X:Cx)(pins:List (Addr×Obj))(H:Hp)(b:Addr):Prop:=
 H b=none/\b≠X.env.locals/\b∉X.fs/\(b∈X.ex\/X.s₀.heap.objs.size<=b)/\(∀x c,X.env.cells.lookup x=some c->c≠b)/\∀p∈X.pn++pins,p.1≠b
theorem Inv.fpOk{X:Cx}{pins:List (Addr×Obj)}{σ : St}{H H':Hp}{s:y9}{b:Addr}(I:Inv X pins σ H s)(hb:s.heap.objs.size<=b)(hn:H' b=none):FpOk X pins H' b:=by
 refine⟨hn,y0k (yu I.lt hb),I.nofs hb,.inr (y0b I.sz hb),fun x c e z=>?_,fun p hp z=>?_⟩
 ·obtain⟨v,q⟩:=I.cell x c e
  exact absurd (yu q.lt (by rw [z]; exact hb)) (y0i _)
 ·exact absurd (yu (ye (I.pin p hp).1) (by rw [z]; exact hb)) (y0i _)
structure Turn(P:yf)(w:yr)(K:y3)(tg:Expr)(J:It)(fp:List Addr)(it:Addr)(tn:Nat->Heap->Prop):Prop where
 mem:it∈fp
 obj:∀i h,tn i h->∀b∈fp,∃o,h.get? b=some o/\∀v,o.data≠.cell v
 keep:∀i h h',tn i h->(∀b∈fp,∀o,h.get? b=some o->h'.get? b=some o)->tn i h'
 item:∀(X:Cx),X.prog=P->X.w=w->X.K=K->X.calm=true->∀(i:Nat) (pins:List (Addr×Obj)) (s:y9) (σ : St) (H:Hp) (E:y4->y9->Prop),Inv X pins σ H s->(∀b∈fp,FpOk X pins H b)->tn i s.heap->J.go i H->
  wpAny (model P w) X.A (pyNext (.ref it)) (fun r s1=>∃u,r=some u/\
   wpAny (model P w) X.A (letOwnedTupleGo tg (.ref it) u) (fun _ s2=>∃x H',Inv X pins σ H' s2/\RelV x u/\J.yld i H x H'/\tn (i+1) s2.heap/\∀b∈fp,H' b=none) E s1) E s
 done:∀(X:Cx),X.prog=P->X.w=w->X.K=K->X.calm=true->∀(i:Nat) (pins:List (Addr×Obj)) (s:y9) (σ : St) (H:Hp) (E:y4->y9->Prop),Inv X pins σ H s->(∀b∈fp,FpOk X pins H b)->tn i s.heap->J.stop i H->
  wpAny (model P w) X.A (pyNext (.ref it)) (fun r s1=>r=none/\Inv X pins σ H s1) E s
 self:∀(A:y01) (i:Nat) (s:y9) (Q:y4->y9->Prop) (E:y4->y9->Prop),tn i s.heap->Q (.ref it) s->wpAny (model P w) A (pyIter (.ref it)) Q E s
abbrev TI:=St->Hp->(It->Hp->Prop)->Prop
def PIE(X:Cx)(pins:List (Addr×Obj))(σ : St)(tg:Expr)(R:It->Hp->Prop)(itv:y4)(s2:y9):Prop:=
 ∃(it:Addr) (fp:List Addr) (tn:Nat->Heap->Prop) (J:It) (H':Hp),itv=.ref it/\Inv X pins σ H' s2/\Turn X.prog X.w X.K tg J fp it tn/\tn 0 s2.heap/\(∀b∈fp,FpOk X pins H' b)/\R J H'
abbrev PIv(X:Cx)(tg iter:Expr)(wi:TI):Prop:=
 ∀(pins:List (Addr×Obj)) (s:y9) (σ : St) (H:Hp) (R:It->Hp->Prop),Inv X pins σ H s->wi σ H R->
  wpAny (model X.prog X.w) X.A (eval iter X.env) (fun v s1=>wpAny (model X.prog X.w) X.A (pyIter v) (PIE X pins σ tg R) X.xe s1) X.xe s
structure PI(X:Cx)(tg iter:Expr)(wi:TI):Prop where
 run:PIv X tg iter wi
instance{X:Cx}{tg iter:Expr}{wi:TI}:CoeFun (PI X tg iter wi) (fun _=>PIv X tg iter wi):=⟨PI.run⟩
theorem q34{M:Model}{A:y01}{E:y4->y9->Prop}{s:y9}{tg:Expr}{it:Addr}{u:y4}{o:Obj}{n:String}{vs:Array y4}{Q:Unit->y9->Prop}(ho:s.heap.get? it=some o)(hc:o.cls=.type n)(hd:o.data=.fields vs)
    (hn:["enumerate","zip","dict_itemiterator","dict_reverseitemiterator","odict_iterator","itertools.zip_longest","itertools.pairwise"].contains n=false) (hQ:Q () s):wpAny M A (letOwnedTupleGo tg (.ref it) u) Q E s:=by
  unfold letOwnedTupleGo
  cases tg<;>first
    | exact yo hQ
    | (cases u<;>first
        | exact yo hQ
        | (refine yc (wpAny_load ho ?_)
           rw [hc,hd]
           show wpAny M A (if(["enumerate","zip","dict_itemiterator","dict_reverseitemiterator","odict_iterator","itertools.zip_longest","itertools.pairwise"].contains n && vs[0]? == some (rawInt _))=true then _ else _) Q E s
           rw [if_neg (by intro h; rw [hn,y1d] at h; cases h)]
           exact yo hQ))
def Itl(K:y3)(a:Addr):It:=
 ⟨fun i H=>∃xs x,SqL K H a xs/\xs[i]?=some x,fun i H x H'=>H'=H/\∀xs,SqL K H a xs->xs[i]?=some x,fun i H=>∃xs,SqL K H a xs/\xs.length<=i⟩
def Itt(K:y3)(a:Addr):It:=
 ⟨fun i H=>∃xs x,SqT K H a xs/\xs[i]?=some x,fun i H x H'=>H'=H/\∀xs,SqT K H a xs->xs[i]?=some x,fun i H=>∃xs,SqT K H a xs/\xs.length<=i⟩
def Itr(lo:Int)(n:Nat):It:=⟨fun i _=>i < n,fun i H x H'=>H'=H/\x=.int (lo+i),fun i _=>n<=i⟩
theorem zss{P:yf}{w:yr}{K:y3}{tg:Expr}(a it:Addr):Turn P w K tg (Itl K a) [it] it (fun i h=>h.IsListIter it a i) where
 mem:=by simp
 obj:=fun i h st b hb=>by
  have e:b=it:=by simpa using hb
  subst e
  obtain⟨o,e,c,d⟩:=st
  exact⟨o,e,fun v z=>by rw [d] at z; cases z⟩
 keep:=fun i h h' st k=>st.at fun o e=>k it (by simp) o e
 item:=by
  intro X hP hw hK hc i pins s σ H E I hf st hg
  subst hP hw hK
  obtain⟨xs,x,hq,hx⟩:=hg
  obtain⟨its,rv,p,hz⟩:=I.list hq
  obtain⟨u,hu,ru⟩:=rv.get hx
  obtain⟨f0,f1,f2,f3,f4,f5⟩:=hf it (by simp)
  refine wpAny_pyNext_list_item st p.isList (x:=u) (by simpa using hu) fun h' st' sb=>?_
  have I1:Inv X pins σ H {s with heap:=h'}:=I.turned (t':=s.toks) (fun b o hb e=>(sb.2 b hb).trans e) f0 f1 f3 f4 f5
  obtain⟨o,e,c,d⟩:=id st'
  exact⟨u,rfl,q34 (s:={s with heap:=h'}) e c d (by decide) ⟨x,H,I1,ru,⟨rfl,fun ys hy=>by rw [I.list_inj hy hq]; exact hx⟩,st',fun b hb=>(hf b hb).1⟩⟩
 done:=by
  intro X hP hw hK hc i pins s σ H E I hf st hg
  subst hP hw hK
  obtain⟨xs,hq,hx⟩:=hg
  obtain⟨its,rv,p,hz⟩:=I.list hq
  obtain⟨f0,f1,f2,f3,f4,f5⟩:=hf it (by simp)
  have hl:=rv.length
  exact wpAny_pyNext_list_end (I.ok.hd hc) st p.isList (by simp; omega) fun h' eb=>⟨rfl,I.turned (t':=s.toks) (fun b o hb e=>eb b o hb e) f0 f1 f3 f4 f5⟩
 self:=fun _ _ _ _ _ st h=>wpAny_pyIter_listiter st h
theorem zr1{P:yf}{w:yr}{K:y3}{tg:Expr}(it:Addr)(lo:Int)(n:Nat):Turn P w K tg (Itr lo n) [it] it (fun i h=>IsRangeIter h it (lo+(i:Nat) * 1) ((n:Int) - (i:Nat)) 1) where
 mem:=by simp
 obj:=fun i h st b hb=>by
  have e:b=it:=by simpa using hb
  subst e
  exact⟨_,st,fun v z=>by
   have z':Data.fields _=Data.cell v:=z
   cases z'⟩
 keep:=fun i h h' st k=>k it (by simp) _ st
 item:=by
  intro X hP hw hK hc i pins s σ H E I hf st hg
  subst hP hw hK
  obtain⟨f0,f1,f2,f3,f4,f5⟩:=hf it (by simp)
  have W:=Walks.range (prog:=X.prog) (w:=X.w) (I.ok.hd hc) it lo 1 n
  refine W.item i s _ _ hg st fun v h' tk hv st' kk=>?_
  obtain⟨t,rfl⟩:=hv
  have I1:Inv X pins σ H {s with heap:=h',toks:=tk}:=I.turned (fun b o hb e=>kk b o (by simpa using hb) e) f0 f1 f3 f4 f5
  refine⟨_,rfl,q34 (s:={s with heap:=h',toks:=tk}) (n:="range_iterator") st' rfl rfl (by decide) ⟨.int (lo+i),H,I1,⟨t,?_⟩,⟨rfl,rfl⟩,st',fun b hb=>(hf b hb).1⟩⟩
  rw [Int.mul_one]
 done:=by
  intro X hP hw hK hc i pins s σ H E I hf st hg
  subst hP hw hK
  obtain⟨f0,f1,f2,f3,f4,f5⟩:=hf it (by simp)
  exact wpAny_pyNext_range_end (I.ok.hd hc) st (by have:n<=i:=hg; omega) fun h' eb=>⟨rfl,I.turned (t':=s.toks) (fun b o hb e=>eb b o hb e) f0 f1 f3 f4 f5⟩
 self:=fun _ _ _ _ _ st h=>wpAny_pyIter_rangeiter st h
end L2
namespace L2
open PySem PySem.Spec PyProof.Rows
section
variable{X:Cx}{tg:Expr}
def q0q(K:y3)(tl:TE):TI:=fun σ H R=>tl σ H fun x H1=>isRf x fun a=>(∃xs,SqL K H1 a xs)/\R (Itl K a) H1
def q5a(K:y3)(tl:TE):TI:=fun σ H R=>tl σ H fun x H1=>isRf x fun a=>(∃xs,SqT K H1 a xs)/\R (Itt K a) H1
theorem z5i{l:Expr}{tl:TE}(hl:PE X l tl):PI X tg l (q0q X.K tl):=by
 refine⟨?_⟩
 intro pins s σ H R I h
 refine thn (hl pins s σ H _ I h) fun v s1 ⟨x,H1,I1,r1,q1⟩=>?_
 obtain⟨a,e,⟨xs,hq⟩,q⟩:=isRf.o q1
 subst e
 cases r1
 obtain⟨its,rv,p,hz⟩:=I1.list hq
 refine wpAny_pyIter_list p.isList ?_
 refine⟨s1.heap.objs.size,[s1.heap.objs.size],_,_,H1,rfl,I1.kept (t':=s1.toks) fun b o e=>y6 _ e,zss a _,⟨_,yi _ rfl,rfl,rfl⟩,fun b hb=>?_,q⟩
 have e:b=s1.heap.objs.size:=by simpa using hb
 subst e
 exact I1.fpOk (yg _) (I1.hok.fresh (yg _))
theorem zpu{pins:List (Addr×Obj)}{σ : St}{H:Hp}{s:y9}{R:It->Hp->Prop}{E:y4->y9->Prop}{lo hi:Int}{t u v:Tok}{tk:Nat}(I:Inv X pins σ H s)(h1 : -(2 ^ 62)<=lo)(h2:lo < 2 ^ 62)(h3 : -(2 ^ 62)<=hi)(h4:hi < 2 ^ 62)
  (q:R (Itr lo (hi - lo).toNat) H):wpAny (model X.prog X.w) X.A (pyIter (.ref s.heap.objs.size)) (PIE X pins σ tg R) E {s with heap:=s.heap.push {cls:=.type "range",data:=.fields #[.int lo t,.int hi u,.int 1 v]},toks:=tk}:=by
 refine wpAny_pyIter_range (IsRange.new ..) (small_one h1 h2 h3 h4) ?_
 have I1:Inv X pins σ H {s with heap:=s.heap.push {cls:=.type "range",data:=.fields #[.int lo t,.int hi u,.int 1 v]},toks:=tk}:=I.kept fun b o e=>y6 _ e
 refine⟨(s.heap.push {cls:=.type "range",data:=.fields #[.int lo t,.int hi u,.int 1 v]}).objs.size,[(s.heap.push {cls:=.type "range",data:=.fields #[.int lo t,.int hi u,.int 1 v]}).objs.size],_,_,H,rfl,
  I1.kept (t':=tk) fun b o e=>y6 _ e,zr1 _ lo (hi - lo).toNat,?_,fun b hb=>?_,q⟩
 ·have e1:lo+((0:Nat):Int) * 1=lo:=by simp
  have e2:(((hi - lo).toNat:Nat):Int) - ((0:Nat):Int)=Builtin.Range.rangeSize lo hi 1:=by rw [rangeSize_one]; split<;>omega
  show IsRangeIter _ _ (lo+((0:Nat):Int) * 1) ((((hi - lo).toNat:Nat):Int) - ((0:Nat):Int)) 1
  rw [e1,e2]
  exact yi _ rfl
 ·have e:b=(s.heap.push {cls:=.type "range",data:=.fields #[.int lo t,.int hi u,.int 1 v]}).objs.size:=by simpa using hb
  subst e
  exact I1.fpOk (yg _) (I1.hok.fresh (yg _))
def q0p(ta:TA):TI:=fun σ H R=>ta σ H fun vs H1=>∃j:Int,vs=[.int j]/\-(2 ^ 62)<=j/\j < 2 ^ 62/\R (Itr 0 j.toNat) H1
def q0o(ta:TA):TI:=fun σ H R=>ta σ H fun vs H1=>∃i j:Int,vs=[.int i,.int j]/\(-(2 ^ 62)<=i/\i < 2 ^ 62/\-(2 ^ 62)<=j/\j < 2 ^ 62)/\R (Itr i (j - i).toNat) H1
theorem zah{a:Expr}{ta:TA}{p pos:Pos} (hg:Gl X "range") (hm:X.mg "range" = none) (ha:PA X [a] ta) (hs:starEach [a] X.env=[(false,eval a X.env)]:=by rfl):PI X tg (.Call (.Name "range" p) [a] [] pos) (q0p ta):=by
 refine⟨?_⟩
 intro pins s σ H R I h
 refine Call_ (zhc I hg hm boot_range (y1i (thn (ha pos pins s σ H _ I h) fun us s1 ⟨vs,H1,I1,r1,q1⟩=>?_) hs rfl))
 obtain⟨j,e,q1,q2,q⟩:=q1
 subst e
 cases r1 with
 | cons r rr=>
  cases rr
  obtain⟨t,rfl⟩:=r
  exact call_range_1 (zpu I1 (by omega) (by omega) q1 q2 (by simpa using q))
theorem zti{a b:Expr}{ta:TA}{p pos:Pos} (hg:Gl X "range") (hm:X.mg "range" = none) (ha:PA X [a,b] ta) (hs:starEach [a,b] X.env=[(false,eval a X.env),(false,eval b X.env)]:=by rfl) (hs2:starEach [b] X.env=[(false,eval b X.env)]:=by rfl) :
  PI X tg (.Call (.Name "range" p) [a,b] [] pos) (q0o ta):=by
 refine⟨?_⟩
 intro pins s σ H R I h
 refine Call_ (zhc I hg hm boot_range (y1i (thn (ha pos pins s σ H _ I h) fun us s1 ⟨vs,H1,I1,r1,q1⟩=>?_) (by rw [hs,hs2]) (by rw [hs2]; rfl)))
 obtain⟨i,j,e,⟨q1,q2,q3,q4⟩,q⟩:=q1
 subst e
 cases r1 with
 | cons r rr=>
  cases rr with
  | cons r' rr=>
   cases rr
   obtain⟨t,rfl⟩:=r
   obtain⟨t',rfl⟩:=r'
   exact call_range_2 (zpu I1 q1 q2 q3 q4 q)
def zwc(wi:TI)(g:TG)(tb:TS):TS:=fun D σ H=>wi σ H fun J H1=>∃W:Nat->Nat->St->Hp->Prop,(∃m,W 0 m σ H1)/\∀i m σ H,W i m σ H->
 (J.stop i H/\D.nx σ H)\/(J.go i H/\∃N:St->Hp->Prop,(∀ σ' H',N σ' H'->∃m',m' < m/\W (i+1) m' σ' H')/\∀x H',J.yld i H x H'->g x σ H' fun σ2 H2=>tb {D with nx:=N,ct:=N,bk:=D.nx} σ2 H2)
def zlv(fp:List Addr)(h:Heap):List (Addr×Obj):=fp.filterMap fun b=>(h.get? b).map fun o=>(b,o)
theorem zba{fp:List Addr}{h:Heap}{b:Addr}{o:Obj}(hb:b∈fp)(e:h.get? b=some o):(b,o)∈zlv fp h:=List.mem_filterMap.mpr ⟨b,hb,by rw [e]; rfl⟩
theorem ztz{fp:List Addr}{h:Heap}{p:Addr×Obj}(hp:p∈zlv fp h):p.1∈fp/\h.get? p.1=some p.2:=by
 obtain⟨b,hb,e⟩:=List.mem_filterMap.mp hp
 cases q:h.get? b with
 | none=>rw [q] at e; cases e
 | some o=>
  rw [q] at e
  have e':(b,o)=p:=y04 e
  subst e'
  exact⟨hb,q⟩
theorem Inv.pinned{pins:List (Addr×Obj)}{σ : St}{H:Hp}{s:y9}{fp:List Addr}(I:Inv X pins σ H s)(hf:∀b∈fp,FpOk X pins H b)(ho:∀b∈fp,∃o,s.heap.get? b=some o/\∀v,o.data≠.cell v):Inv X (pins++zlv fp s.heap) σ H s:=
 I.pins_of fun p hp=>(List.mem_append.mp hp).elim (fun z=>I.pin p (y07 _ z)) fun z=>by
  obtain⟨hb,e⟩:=ztz z
  obtain⟨f0,f1,f2,_⟩:=hf p.1 hb
  obtain⟨o,e',d⟩:=ho p.1 hb
  rw [e] at e'; cases e'
  exact⟨e,f0,f1,f2,d⟩
theorem Inv.unpinned{pins pl:List (Addr×Obj)}{σ : St}{H:Hp}{s:y9}(I:Inv X (pins++pl) σ H s):Inv X pins σ H s:=I.pins_of fun p hp=>I.pin p (y07 _ (y1t _ hp))
theorem zag{iter:Expr}{body:List Stmt}{wi:TI}{g:TG}{tb:TS}{pos:Pos}(hp:PassesOwn (model X.prog X.w) X.A X.env X.xe)(hc:X.calm=true)(hi:PI X tg iter wi)(hg:PG X tg g)(hb:PSs X body tb)
  (hs:∀x,foldedSetIterable iter X.env x=pure x:=by intro _; rfl):PS X (.For tg iter body [] pos) (zwc wi g tb):=by
 refine⟨?_⟩
 intro pins s σ H D I h
 refine wpAny_For (thn (hi pins s σ H _ I h) fun v s1 h1=>thn h1 fun itv s2 h2=>?_) hs
 obtain⟨it,fp,tn,J,H2,e,I2,T,st2,f2,W,⟨m0,w0⟩,turn⟩:=h2
 subst e
 have stat:∀{H':Hp},(∀b∈fp,H' b=none)->∀b∈fp,FpOk X pins H' b:=fun hn b hb=>⟨hn b hb,(f2 b hb).2⟩
 refine codeAny_forLoop_any (fun n s'=>∃i σ' H',Inv X pins σ' H' s'/\tn i s'.heap/\(∀b∈fp,H' b=none)/\W i n σ' H') ?_ m0 ⟨0,σ,H2,I2,st2,fun b hb=>(f2 b hb).1,w0⟩
 rintro n s3 ⟨i,σ3,H3,I3,st3,fr3,w3⟩
 rcases turn i n σ3 H3 w3 with⟨stop,qn⟩ | ⟨go,N,hN,step⟩
 ·refine y29 hp (thn (T.done X rfl rfl rfl hc i pins s3 σ3 H3 X.xe I3 (stat fr3) st3 stop) fun r s4 ⟨hr,I4⟩=>?_)
  subst hr
  exact wpAny_execs_nil ⟨σ3,H3,I4,qn⟩
 ·refine y29 hp (thn (T.item X rfl rfl rfl hc i pins s3 σ3 H3 X.xe I3 (stat fr3) st3 go) fun r s4 ⟨u,hr,h4⟩=>?_)
  subst hr
  refine y29 hp (thn h4 fun _ s5 ⟨x,H5,I5,r5,y5,st5,fr5⟩=>?_)
  have I5':=I5.pinned (stat fr5) (T.obj _ _ st5)
  refine y29 hp (thn (hg _ s5 σ3 H5 x u _ I5' r5 (step x H5 y5)) fun _ s6 ⟨σ6,H6,I6,q6⟩=>?_)
  refine y29 hp (thn (hb _ s6 σ6 H6 _ I6 q6) fun f s7 q7=>?_)
  have again:∀{σ7:St} {H7:Hp},Inv X (pins++zlv fp s5.heap) σ7 H7 s7->N σ7 H7->∃m,m < n/\∃i σ' H',Inv X pins σ' H' s7/\tn i s7.heap/\(∀b∈fp,H' b=none)/\W i m σ' H':=fun {σ7 H7} I7 n7=>by
   obtain⟨m',hm,w7⟩:=hN σ7 H7 n7
   refine⟨m',hm,i+1,σ7,H7,I7.unpinned,T.keep _ _ _ st5 fun b hb o e=>(I7.pin (b,o) (y07 _ (y07 _ (zba hb e)))).1,fun b hb=>?_,w7⟩
   obtain⟨o,e,d⟩:=T.obj _ _ st5 b hb
   exact(I7.pin (b,o) (y07 _ (y07 _ (zba hb e)))).2.1
  cases f with
  | next=>obtain⟨σ7,H7,I7,n7⟩:=q7; exact again I7 n7
  | cont=>obtain⟨σ7,H7,I7,n7⟩:=q7; exact again I7 n7
  | brk=>obtain⟨σ7,H7,I7,q7⟩:=q7; exact⟨σ7,H7,I7.unpinned,q7⟩
  | ret v=>obtain⟨x7,σ7,H7,I7,r7,q7⟩:=q7; exact⟨x7,σ7,H7,I7.unpinned,r7,q7⟩
end
theorem zg3{K:y3}{a:Addr}{xs:List V}{g:TG}{tb:TS}{D:Ends}{σ : St}{H:Hp}(Pv:Nat->St->Hp->Prop)(h0:Pv 0 σ H)(hl:∀i σ H,i<=xs.length->Pv i σ H->SqL K H a xs)
  (hs:∀i x σ H,xs[i]?=some x->Pv i σ H->g x σ H fun σ2 H2=>tb {D with nx:=Pv (i+1),ct:=Pv (i+1),bk:=D.nx} σ2 H2) (hd:∀ σ H,Pv xs.length σ H->D.nx σ H) :
  ∃W:Nat->Nat->St->Hp->Prop,(∃m,W 0 m σ H)/\∀i m σ H,W i m σ H->
   ((Itl K a).stop i H/\D.nx σ H)\/((Itl K a).go i H/\∃N:St->Hp->Prop,(∀ σ' H',N σ' H'->∃m',m' < m/\W (i+1) m' σ' H')/\∀x H',(Itl K a).yld i H x H'->g x σ H' fun σ2 H2=>tb {D with nx:=N,ct:=N,bk:=D.nx} σ2 H2):=by
 refine⟨fun i m σ H=>m=xs.length - i/\i<=xs.length/\Pv i σ H,⟨xs.length,by simp,y05 _,h0⟩,?_⟩
 rintro i m σ H ⟨rfl,hi,p⟩
 have q:=hl i σ H hi p
 by_cases hlt:i < xs.length
 ·refine .inr ⟨⟨xs,xs[i],q,by simp[hlt]⟩,Pv (i+1),fun σ' H' p'=>⟨xs.length - (i+1),by omega,rfl,hlt,p'⟩,fun x H' y=>?_⟩
  obtain⟨e,y⟩:=y
  subst e
  exact hs i x σ _ (y xs q) p
 ·have e:i=xs.length:=by omega
  subst e
  exact .inl ⟨⟨xs,q,yg _⟩,hd σ H p⟩
theorem zdr{lo:Int}{n:Nat}{g:TG}{tb:TS}{D:Ends}{σ : St}{H:Hp}(Pv:Nat->St->Hp->Prop)(h0:Pv 0 σ H)
  (hs:∀i σ H,i < n->Pv i σ H->g (.int (lo+i)) σ H fun σ2 H2=>tb {D with nx:=Pv (i+1),ct:=Pv (i+1),bk:=D.nx} σ2 H2) (hd:∀ σ H,Pv n σ H->D.nx σ H) :
  ∃W:Nat->Nat->St->Hp->Prop,(∃m,W 0 m σ H)/\∀i m σ H,W i m σ H->
   ((Itr lo n).stop i H/\D.nx σ H)\/((Itr lo n).go i H/\∃N:St->Hp->Prop,(∀ σ' H',N σ' H'->∃m',m' < m/\W (i+1) m' σ' H')/\∀x H',(Itr lo n).yld i H x H'->g x σ H' fun σ2 H2=>tb {D with nx:=N,ct:=N,bk:=D.nx} σ2 H2):=by
 refine⟨fun i m σ H=>m=n - i/\i<=n/\Pv i σ H,⟨n,by simp,y05 _,h0⟩,?_⟩
 rintro i m σ H ⟨rfl,hi,p⟩
 by_cases hlt:i < n
 ·refine .inr ⟨hlt,Pv (i+1),fun σ' H' p'=>⟨n - (i+1),by omega,rfl,hlt,p'⟩,fun x H' y=>?_⟩
  obtain⟨e,y⟩:=y
  subst e y
  exact hs i σ _ hlt p
 ·have e:i=n:=by omega
  subst e
  exact .inl ⟨yg _,hd σ H p⟩
end L2
namespace L2
open PySem PySem.Spec PyProof.Rows
abbrev R2:=V->V->Hp->VK->Prop
def OpR(X:Cx)(f:y4->y4->Sem y4)(r:R2):Prop:=
 ∀(pins:List (Addr×Obj)) (s:y9) (σ : St) (H:Hp) (x y:V) (v u:y4) (Q:VK),Inv X pins σ H s->RelV x v->RelV y u->r x y H Q->
  wpAny (model X.prog X.w) X.A (f v u) (EP X pins σ Q) X.xe s
def UnR(X:Cx)(f:y4->Sem y4)(r:V->Hp->VK->Prop):Prop:=
 ∀(pins:List (Addr×Obj)) (s:y9) (σ : St) (H:Hp) (x:V) (v:y4) (Q:VK),Inv X pins σ H s->RelV x v->r x H Q->
  wpAny (model X.prog X.w) X.A (f v) (EP X pins σ Q) X.xe s
def CallR(X:Cx)(f:y4)(r:List V->Hp->VK->Prop):Prop:=
 ∀(pins:List (Addr×Obj)) (s:y9) (σ : St) (H:Hp) (xs:List V) (us:List y4) (Q:VK),Inv X pins σ H s->Vals xs us->r xs H Q->
  wpAny (model X.prog X.w) X.A (call f us) (EP X pins σ Q) X.xe s
def tOp(r:R2)(ta tb:TE):TE:=fun σ H Q=>ta σ H fun x H1=>tb σ H1 fun y H2=>r x y H2 Q
def tUn(r:V->Hp->VK->Prop)(ta:TE):TE:=fun σ H Q=>ta σ H fun x H1=>r x H1 Q
def rI(C:Int->Int->Prop)(g:Int->Int->V):R2:=fun x y H Q=>isI x fun i=>isI y fun j=>C i j/\Q (g i j) H
def rI0(g:Int->Int->V):R2:=fun x y H Q=>isI x fun i=>isI y fun j=>Q (g i j) H
def rU(g:Int->V):V->Hp->VK->Prop:=fun x H Q=>isI x fun i=>Q (g i) H
section
variable{X:Cx}{a b c:Expr}{ta tb tc:TE}{pos:Pos}
theorem q4q(ha:PE X a ta)(hb:PE X b tb){pins:List (Addr×Obj)}{s:y9}{σ : St}{H:Hp}{R:V->V->Hp->Prop}(I:Inv X pins σ H s)
  (h:ta σ H fun x H1=>tb σ H1 fun y H2=>R x y H2) {Q:y4->y9->Prop} {f:y4->y4->Sem y4}
  (hf:∀v u s2 x y H2,Inv X pins σ H2 s2->RelV x v->RelV y u->R x y H2->wpAny (model X.prog X.w) X.A (f v u) Q X.xe s2) :
  wpAny (model X.prog X.w) X.A (eval a X.env) (fun v s₁=>wpAny (model X.prog X.w) X.A (eval b X.env) (fun u s₂=>wpAny (model X.prog X.w) X.A (f v u) Q X.xe s₂) X.xe s₁) X.xe s:=by
 refine thn (ha pins s σ H _ I h) fun v s1 ⟨x,H1,I1,r1,q1⟩=>?_
 refine thn (hb pins s1 σ H1 _ I1 q1) fun u s2 ⟨y,H2,I2,r2,q2⟩=>?_
 exact hf v u s2 x y H2 I2 r1 r2 q2
theorem z0n{op:Operator}{r:R2}(ho:OpR X (binaryOp op) r)(ha:PE X a ta)(hb:PE X b tb):PE X (.BinOp a op b pos) (tOp r ta tb):=by
 refine⟨?_⟩
 intro pins s σ H Q I h
 exact wpAny_BinOp (q4q ha hb I h fun v u s2 x y H2 I2 rx ry q=>ho pins s2 σ H2 x y v u Q I2 rx ry q)
theorem zk0{op:UnaryOp}{r:V->Hp->VK->Prop}(ho:UnR X (unaryOp op) r)(ha:PE X a ta):PE X (.UnaryOp op a pos) (tUn r ta):=by
 refine⟨?_⟩
 intro pins s σ H Q I h
 exact UnaryOp_ (thn (ha pins s σ H _ I h) fun v s1 ⟨x,H1,I1,r1,q1⟩=>ho pins s1 σ H1 x v Q I1 r1 q1)
theorem opI{f:y4->y4->Sem y4}{C:Int->Int->Prop}{g:Int->Int->Int}
  (rule:∀(i j:Int) (t u:Tok) (s:y9) (Q:y4->y9->Prop) (E:y4->y9->Prop),C i j->Q (.int (g i j) s.toks) {s with toks:=s.toks+1}->wpAny (model X.prog X.w) X.A (f (.int i t) (.int j u)) Q E s) :
  OpR X f (rI C fun i j=>.int (g i j)):=by
 intro pins s σ H x y v u Q I rx ry h
 obtain⟨i,rfl,hA⟩:=isI.o h
 obtain⟨j,rfl,hc,q⟩:=isI.o hA
 obtain⟨t,rfl⟩:=rx
 obtain⟨t',rfl⟩:=ry
 exact rule i j t t' s _ _ hc ⟨.int (g i j),H,I.tok _,⟨_,rfl⟩,q⟩
theorem q57{f:y4->y4->Sem y4}{g:Int->Int->Int}
  (rule:∀(i j:Int) (t u:Tok) (s:y9) (Q:y4->y9->Prop) (E:y4->y9->Prop),Q (.int (g i j) s.toks) {s with toks:=s.toks+1}->wpAny (model X.prog X.w) X.A (f (.int i t) (.int j u)) Q E s) :
  OpR X f (rI0 fun i j=>.int (g i j)):=by
 intro pins s σ H x y v u Q I rx ry h
 obtain⟨i,rfl,hA⟩:=isI.o h
 obtain⟨j,rfl,q⟩:=isI.o hA
 obtain⟨t,rfl⟩:=rx
 obtain⟨t',rfl⟩:=ry
 exact rule i j t t' s _ _ ⟨.int (g i j),H,I.tok _,⟨_,rfl⟩,q⟩
theorem q44{f:y4->y4->Sem y4}{g:Int->Int->Bool}
  (rule:∀(i j:Int) (t u:Tok) (s:y9) (Q:y4->y9->Prop) (E:y4->y9->Prop),Q (.bool (g i j)) s->wpAny (model X.prog X.w) X.A (f (.int i t) (.int j u)) Q E s) :
  OpR X f (rI0 fun i j=>.bl (g i j)):=by
 intro pins s σ H x y v u Q I rx ry h
 obtain⟨i,rfl,hA⟩:=isI.o h
 obtain⟨j,rfl,q⟩:=isI.o hA
 obtain⟨t,rfl⟩:=rx
 obtain⟨t',rfl⟩:=ry
 exact rule i j t t' s _ _ ⟨.bl (g i j),H,I,rfl,q⟩
def q68(i j:Int):Prop:=0 < j/\j < 1073741824
def q4w(i j:Int):Prop:=j≠0/\j.natAbs < 1073741824
def CMul(i j:Int):Prop:=(-(2 ^ 64) < i/\i < 2 ^ 64)\/(-(2 ^ 64) < j/\j < 2 ^ 64)
theorem CMul.ok{i j:Int}(h:CMul i j):IntMulOk i j:=by
 rcases h with⟨h1,h2⟩ | ⟨h1,h2⟩
 ·exact .of_left (intBits_le_64 h1 h2)
 ·exact .of_right (intBits_le_64 h1 h2)
theorem z1a:OpR X (binaryOp .Add) (rI0 fun i j=>.int (i+j)):=q57 fun _ _ _ _ _ _ _ q=>add_int q
theorem z6k:OpR X (binaryOp .Sub) (rI0 fun i j=>.int (i - j)):=q57 fun _ _ _ _ _ _ _ q=>sub_int q
theorem zai:OpR X (binaryOp .Mult) (rI CMul fun i j=>.int (i * j)):=opI fun _ _ _ _ _ _ _ hc q=>mul_int q hc.ok
theorem q01:OpR X (binaryOp .FloorDiv) (rI q68 fun i j=>.int (i / j)):=opI fun i j _ _ _ _ _ hc q=>by
 have h1:(0:Int) < j:=hc.1
 have h2:j < 1073741824:=hc.2
 exact floordiv_int (by omega) (by rw [Int.fdiv_eq_ediv_of_nonneg i (by omega)]; exact q) (.inl (PyProof.noPylong_small (by omega)))
theorem zwx:OpR X (binaryOp .FloorDiv) (rI q4w fun i j=>.int (i.fdiv j)):=opI fun _ _ _ _ _ _ _ hc q=>floordiv_int hc.1 q (.inl (PyProof.noPylong_small hc.2))
theorem zlz:OpR X (binaryOp .Mod) (rI (fun _ j=>0 < j) fun i j=>.int (i % j)):=opI fun i j _ _ _ _ _ hc q=>by
 have h1:(0:Int) < j:=hc
 exact mod_int' (by omega) (by rw [Int.fmod_eq_emod_of_nonneg i (by omega)]; exact q)
theorem unI{f:y4->Sem y4}{g:Int->Int}
  (rule:∀(i:Int) (t:Tok) (s:y9) (Q:y4->y9->Prop) (E:y4->y9->Prop),Q (.int (g i) s.toks) {s with toks:=s.toks+1}->wpAny (model X.prog X.w) X.A (f (.int i t)) Q E s) :
  UnR X f (rU fun i=>.int (g i)):=by
 intro pins s σ H x v Q I rx h
 obtain⟨i,rfl,q⟩:=isI.o h
 obtain⟨t,rfl⟩:=rx
 exact rule i t s _ _ ⟨.int (g i),H,I.tok _,⟨_,rfl⟩,q⟩
theorem zcs:UnR X (unaryOp .USub) (rU fun i=>.int (-i)):=unI fun _ _ _ _ _ q=>neg_int q
end
def q42:V->V->Bool
 | .non,.non=>true | .non,.int _=>true | .int _,.non=>true | .non,.bl _=>true | .bl _,.non=>true | .non,.str _=>true | .str _,.non=>true
 | .int _,.int _=>true | .bl _,.bl _=>true | .str _,.str _=>true | .byt _,.byt _=>true
 | .int _,.str _=>true | .str _,.int _=>true | .bl _,.str _=>true | .str _,.bl _=>true
 | _,_=>false
def rEq:R2:=fun x y H Q=>q42 x y=true/\Q (.bl (decide (x=y))) H
def rNe:R2:=fun x y H Q=>q42 x y=true/\Q (.bl (!decide (x=y))) H
theorem zvc{i j:Int}:decide (V.int i=V.int j)=(i == j):=by
 rw [y25]
 simp
theorem zyw{i j:Bool}:decide (V.bl i=V.bl j)=(i == j):=by
 rw [y25]
 simp
theorem zvb{i j:Str}:decide (V.str i=V.str j)=(i == j):=by
 rw [y25]
 simp
theorem zvd{i j:Array UInt8}:decide (V.byt i=V.byt j)=(i.toList == j.toList):=by
 rw [y25]
 cases i
 cases j
 simp
section
variable{X:Cx}{a b c:Expr}{ta tb tc:TE}{pos:Pos}
theorem z21{pins:List (Addr×Obj)}{σ : St}{H:Hp}{s:y9}{Q:VK}{k k':Bool}(I:Inv X pins σ H s)(q:Q (.bl k) H)(e:k=k'):EP X pins σ Q (.bool k') s:=by
 subst e
 exact⟨.bl k,H,I,rfl,q⟩
theorem q2k:OpR X (compareOp .Eq) rEq:=by
 intro pins s σ H x y v u Q I rx ry h
 obtain⟨hs,q⟩:=h
 cases x with
 | non=>
  cases rx
  cases y with
  | non=>cases ry; exact PySem.EqNone.eq_none_none (z21 I q (by simp))
  | bl j=>cases ry; exact PySem.EqNone.eq_none_bool (z21 I q (by simp))
  | int j=>obtain⟨t',rfl⟩:=ry; exact PySem.EqNone.eq_none_int (z21 I q (by simp))
  | str j=>obtain⟨t',rfl⟩:=ry; exact PySem.EqNone.eq_none_str (z21 I q (by simp))
  | _=>exact absurd (show false=true from hs) yp
 | bl i=>
  cases rx
  cases y with
  | non=>cases ry; exact PySem.EqNone.eq_bool_none (z21 I q (by simp))
  | bl j=>cases ry; exact eq_bool (z21 I q zyw)
  | str j=>obtain⟨t',rfl⟩:=ry; exact PySem.EqMixed.eq_bool_str (z21 I q (by simp))
  | _=>exact absurd (show false=true from hs) yp
 | int i=>
  obtain⟨t,rfl⟩:=rx
  cases y with
  | non=>cases ry; exact PySem.EqNone.eq_int_none (z21 I q (by simp))
  | int j=>obtain⟨t',rfl⟩:=ry; exact eq_int (z21 I q zvc)
  | str j=>obtain⟨t',rfl⟩:=ry; exact PySem.EqMixed.eq_int_str (z21 I q (by simp))
  | _=>exact absurd (show false=true from hs) yp
 | str i=>
  obtain⟨t,rfl⟩:=rx
  cases y with
  | non=>cases ry; exact PySem.EqNone.eq_str_none (z21 I q (by simp))
  | bl j=>cases ry; exact PySem.EqMixed.eq_str_bool (z21 I q (by simp))
  | int j=>obtain⟨t',rfl⟩:=ry; exact PySem.EqMixed.eq_str_int (z21 I q (by simp))
  | str j=>obtain⟨t',rfl⟩:=ry; exact eq_str (z21 I q zvb)
  | _=>exact absurd (show false=true from hs) yp
 | byt i=>
  obtain⟨t,rfl⟩:=rx
  cases y with
  | byt j=>obtain⟨t',rfl⟩:=ry; exact PySem.W.eq_bytes (z21 I q zvd)
  | _=>exact absurd (show false=true from hs) yp
 | _=>cases y<;>exact absurd (show false=true from hs) yp
theorem q2f:OpR X (compareOp .NotEq) rNe:=by
 intro pins s σ H x y v u Q I rx ry h
 obtain⟨hs,q⟩:=h
 cases x with
 | non=>
  cases rx
  cases y with
  | non=>cases ry; exact PySem.EqNone.ne_none_none (z21 I q (by simp))
  | bl j=>cases ry; exact PySem.EqNone.ne_none_bool (z21 I q (by simp))
  | int j=>obtain⟨t',rfl⟩:=ry; exact PySem.EqNone.ne_none_int (z21 I q (by simp))
  | str j=>obtain⟨t',rfl⟩:=ry; exact PySem.EqNone.ne_none_str (z21 I q (by simp))
  | _=>exact absurd (show false=true from hs) yp
 | bl i=>
  cases rx
  cases y with
  | non=>cases ry; exact PySem.EqNone.ne_bool_none (z21 I q (by simp))
  | bl j=>cases ry; exact ne_bool (z21 I q (congrArg not zyw))
  | str j=>obtain⟨t',rfl⟩:=ry; exact PySem.EqMixed.ne_bool_str (z21 I q (by simp))
  | _=>exact absurd (show false=true from hs) yp
 | int i=>
  obtain⟨t,rfl⟩:=rx
  cases y with
  | non=>cases ry; exact PySem.EqNone.ne_int_none (z21 I q (by simp))
  | int j=>obtain⟨t',rfl⟩:=ry; exact ne_int (z21 I q (congrArg not zvc))
  | str j=>obtain⟨t',rfl⟩:=ry; exact PySem.EqMixed.ne_int_str (z21 I q (by simp))
  | _=>exact absurd (show false=true from hs) yp
 | str i=>
  obtain⟨t,rfl⟩:=rx
  cases y with
  | non=>cases ry; exact PySem.EqNone.ne_str_none (z21 I q (by simp))
  | bl j=>cases ry; exact PySem.EqMixed.ne_str_bool (z21 I q (by simp))
  | int j=>obtain⟨t',rfl⟩:=ry; exact PySem.EqMixed.ne_str_int (z21 I q (by simp))
  | str j=>obtain⟨t',rfl⟩:=ry; exact ne_str (z21 I q (congrArg not zvb))
  | _=>exact absurd (show false=true from hs) yp
 | byt i=>
  obtain⟨t,rfl⟩:=rx
  cases y with
  | byt j=>obtain⟨t',rfl⟩:=ry; exact PySem.W.ne_bytes (z21 I q (congrArg not zvd))
  | _=>exact absurd (show false=true from hs) yp
 | _=>cases y<;>exact absurd (show false=true from hs) yp
theorem zof:OpR X (compareOp .Lt) (rI0 fun i j=>.bl (decide (i < j))):=q44 fun _ _ _ _ _ _ _ q=>lt_int q
theorem q2g:OpR X (compareOp .LtE) (rI0 fun i j=>.bl (decide (i<=j))):=q44 fun _ _ _ _ _ _ _ q=>le_int q
theorem q2i:OpR X (compareOp .Gt) (rI0 fun i j=>.bl (decide (j < i))):=q44 fun _ _ _ _ _ _ _ q=>gt_int q
theorem q4k:OpR X (compareOp .GtE) (rI0 fun i j=>.bl (decide (j<=i))):=q44 fun _ _ _ _ _ _ _ q=>ge_int q
theorem zts:OpR X (compareOp .In) (fun x y H Q=>∃i j,x=.str i/\y=.str j/\Q (.bl (!(Builtin.Str.occurrences j i 0 j.length 1).isEmpty)) H):=by
 intro pins s σ H x y v u Q I rx ry h
 obtain⟨i,j,rfl,rfl,q⟩:=h
 obtain⟨t,rfl⟩:=rx
 obtain⟨t',rfl⟩:=ry
 exact in_str (z21 I q rfl)
theorem q2h:OpR X (compareOp .Is) (fun x y H Q=>y=.non/\Q (.bl (decide (x=.non))) H):=by
 intro pins s σ H x y v u Q I rx ry h
 obtain⟨rfl,q⟩:=h
 cases ry
 refine is_none_gen (z21 I q ?_)
 cases x<;>first
  | (cases rx; rfl)
  | (obtain⟨t,rfl⟩:=rx; rfl)
theorem zzy:OpR X (compareOp .IsNot) (fun x y H Q=>y=.non/\Q (.bl (!decide (x=.non))) H):=by
 intro pins s σ H x y v u Q I rx ry h
 obtain⟨rfl,q⟩:=h
 cases ry
 refine isnot_none_gen (z21 I q ?_)
 cases x<;>first
  | (cases rx; rfl)
  | (obtain⟨t,rfl⟩:=rx; rfl)
theorem OpR.or{f:y4->y4->Sem y4}{r r':R2}(h:OpR X f r)(h':OpR X f r'):OpR X f (fun x y H Q=>r x y H Q\/r' x y H Q):=by
 intro pins s σ H x y v u Q I rx ry q
 rcases q with q | q
 ·exact h pins s σ H x y v u Q I rx ry q
 ·exact h' pins s σ H x y v u Q I rx ry q
theorem z0g(b:Expr){op:CmpOp}(h:op≠.In:=by decide)(h2:op≠.NotIn:=by decide):behindInMarks op b=false:=by
 have e1:(op == CmpOp.In)=false:=by cases op<;>first | rfl | exact absurd rfl h
 have e2:(op == CmpOp.NotIn)=false:=by cases op<;>first | rfl | exact absurd rfl h2
 cases b<;>simp[behindInMarks,e1,e2]
theorem zk2{op:CmpOp}{r:R2}(ho:OpR X (compareOp op) r)(ha:PE X a ta)(hb:PE X b tb)(hm:behindInMarks op b=false):PE X (.Compare a [op] [b] pos) (tOp r ta tb):=by
 refine⟨?_⟩
 intro pins s σ H Q I h
 exact wpAny_Compare1 (q4q ha hb I h fun v u s2 x y H2 I2 rx ry q=>ho pins s2 σ H2 x y v u Q I2 rx ry q) hm
def zij(t:TE):TT:=fun σ H Q=>t σ H fun x H'=>isBl x fun k=>Q k H'
theorem z0b{op:CmpOp}{r:R2}(ho:OpR X (compareOp op) r)(ha:PE X a ta)(hb:PE X b tb)(hm:behindInMarks op b=false):PT X (.Compare a [op] [b] pos) (zij (tOp r ta tb)):=by
 refine⟨?_⟩
 intro pins s σ H Q I h
 refine wpAny_isTrue_Compare1 (thn (ha pins s σ H _ I h) fun v s1 ⟨x,H1,I1,r1,q1⟩=>thn (hb pins s1 σ H1 _ I1 q1) fun u s2 ⟨y,H2,I2,r2,q2⟩=>
  thn (ho pins s2 σ H2 x y v u _ I2 r1 r2 q2) fun c s3 ⟨z,H3,I3,r3,q3⟩=>?_) hm
 obtain⟨k,e,q3⟩:=isBl.o q3
 subst e
 cases r3
 exact y2u ⟨H3,I3,q3⟩
def zgf(r r':R2)(ta tb tc:TE):TE:=fun σ H Q=>ta σ H fun x H1=>tb σ H1 fun y H2=>r x y H2 fun z H3=>∃k,z=.bl k/\
 (if k=true then tc σ H3 fun w' H4=>r' y w' H4 Q else Q (.bl false) H3)
theorem zq6:(sizeLine:Nat) < 2 ^ 63:=by rw [sizeLine_eq]; decide
theorem zz2{x:V}{us:List y4}(r:Vals [x] us):∃u,us=[u]/\RelV x u:=by
 cases r with
 | cons r1 r2=>cases r2; exact⟨_,rfl,r1⟩
theorem q1v{x y:V}{us:List y4}(r:Vals [x,y] us):∃u w',us=[u,w']/\RelV x u/\RelV y w':=by
 cases r with
 | cons r1 r2=>
  cases r2 with
  | cons r3 r4=>cases r4; exact⟨_,_,rfl,r1,r3⟩
theorem zvw(hc:X.calm=true):CallR X (.builtin "max") (fun xs H Q=>∃i j,xs=[.int i,.int j]/\Q (.int (if j > i then j else i)) H):=by
 intro pins s σ H xs us Q I r h
 obtain⟨i,j,rfl,q⟩:=h
 obtain⟨u,w',rfl,⟨t,rfl⟩,⟨t',rfl⟩⟩:=q1v r
 refine max_two_ints (I.ok.hd hc) fun h' tk k=>⟨_,H,I.kept k,?_,q⟩
 by_cases hj:j > i
 ·rw [if_pos hj,if_pos hj]; exact⟨_,rfl⟩
 ·rw [if_neg hj,if_neg hj]; exact⟨_,rfl⟩
theorem zn5(hc:X.calm=true):CallR X (.builtin "min") (fun xs H Q=>∃i j,xs=[.int i,.int j]/\Q (.int (if j < i then j else i)) H):=by
 intro pins s σ H xs us Q I r h
 obtain⟨i,j,rfl,q⟩:=h
 obtain⟨u,w',rfl,⟨t,rfl⟩,⟨t',rfl⟩⟩:=q1v r
 refine min_two_ints (I.ok.hd hc) fun h' tk k=>⟨_,H,I.kept k,?_,q⟩
 by_cases hj:j < i
 ·rw [if_pos hj,if_pos hj]; exact⟨_,rfl⟩
 ·rw [if_neg hj,if_neg hj]; exact⟨_,rfl⟩
end
end L2
namespace L2
open PySem PySem.Spec PyProof.Rows
structure ObjM(h:Heap)(x dx C:Addr)(mA:Str->Option y4):Prop where
 obj:h.get? x=some (PySem.W.instObj C dx)
 ns:h.Ns1 dx mA
 ne:dx≠x
theorem zub{h:Heap}{dx:Addr}{mA:Str->Option y4}(n:h.Ns1 dx mA):∃od,h.get? dx=some od/\∀name,PySem.W.lookIn name od=some (mA name):=by
 obtain⟨o,es,ep,ho,hd,hk,_,hm⟩:=n
 refine⟨o,ho,fun name=>?_⟩
 have e:=hm name
 unfold nsFind findBy at e
 rw [<- Array.find?_toList] at e
 unfold PySem.W.lookIn
 rw [hd]
 dsimp only
 split
 ·rename_i y q
  rw [q] at e
  exact congrArg some e
 ·rename_i q
  rw [q] at e
  have a:es.toList.any (·.refKey)=false:=by
   rw [List.any_eq_false]
   intro y hy
   obtain⟨z,t,hkey⟩:=hk y (Array.mem_toList_iff.mp hy)
   simp[DictEntry.refKey,hkey]
  have a':¬ es.toList.any (·.refKey)=true:=by rw [a]; exact yp
  rw [if_neg a']
  exact congrArg some e
theorem ObjM.look{h:Heap}{x dx C:Addr}{mA:Str->Option y4}(I:ObjM h x dx C mA):∃od,PySem.W.InstAt h x (PySem.W.instObj C dx) C (some od)/\∀name,PySem.W.lookIn name od=some (mA name):=
 let ⟨od,ho,hl⟩:=zub I.ns
 ⟨od,⟨I.obj,rfl,rfl,ho⟩,hl⟩
section
variable{prog:yf}{w:yr}{A:y01}{E:y4->y9->Prop}{s:y9}{K:y3}{x dx C f:Addr}{mA:Str->Option y4}{name:Str}{v:y4}
theorem q0r{expr:Bool}{Q:y4->y9->Prop}(X:K.In s.heap)(I:ObjM s.heap x dx C mA)(hg:PySem.W.plainGet K C name=true)(hh:PySem.W.hasDictIn K C=true)
  (ha:PySem.W.findIn K (.ref C) name=some none) (hv:mA name=some v) (hv':PySem.W.handedIn v=true) (h:Q v {s with toks:=s.toks+1}) :
  wpAny (model prog w) A (getAttr (.ref x) name expr) Q E s:=by
 obtain⟨od,J,hl⟩:=I.look
 exact PySem.W.get_value X J (PySem.W.plainGet_of hg).1 (PySem.W.findObj_own hh ha rfl (by rw [hl,hv])) hv' h
theorem zxl{pl:Sem Bool}{Q:y4×List y4->y9->Prop}(X:K.In s.heap)(I:ObjM s.heap x dx C mA)(hg:PySem.W.plainGet K C name=true)
  (hf:PySem.W.findIn K (.ref C) name=some (some (.ref f))) (ht:PySem.W.isFn K (.ref f)=true) (hv:mA name=none) (h:Q (.ref f,[.ref x]) s) :
  wpAny (model prog w) A (getMethod (.ref x) name pl) Q E s:=by
 obtain⟨od,J,hl⟩:=I.look
 exact PySem.W.method_fn X J (PySem.W.plainGet_of hg).1 (PySem.W.plainGet_of hg).2 hf (beq_iff_eq.mp ht) (by show(PySem.W.lookIn name od).map (·.isSome)=some false; rw [hl,hv]; rfl) h
theorem zzb{ns:List Str}{Q:Unit->y9->Prop}(X:K.In s.heap)(I:ObjM s.heap x dx C mA)
  (hs:PySem.W.findIn K (.ref C) "__setattr__" = some (some (.builtin "object.__setattr__"))) (hp:PySem.W.plainOver K C=true) (ht:PySem.W.takerIn K C name=some none) (hh:PySem.W.hasDictIn K C=true)
  (hw:PySem.Within mA ns) (hsz:ns.length<=sizeLine)
  (h:∀h',ObjM h' x dx C (fun y=>if y=name then some v else mA y)->Heap.SameBut dx s.heap h'->Q () {s with heap:=h',toks:=s.toks+2}) :
  wpAny (model prog w) A (setAttr (.ref x) name v) Q E s:=by
 obtain⟨od,J,hl⟩:=I.look
 refine PySem.W.set_plain X J hs (PySem.W.osa_open (s:={s with toks:=s.toks+1}) (r:=none) X J hp ht fun b=>?_)
 obtain⟨cd,hc,hd'⟩:=PySem.W.any_some hh
 have hx:s.heap.get? x=some ⟨.ref C,some dx,.plain,#[]⟩:=I.obj
 refine yc (yo (yc (yc (wpAny_loadPart hx (yc (PySem.W.Looks.here (s:={s with toks:=s.toks+1}) (PySem.W.looks_clsIn X hc) ?_))))))
 rw [hd']
 refine yo (a:=some dx) (yc (yo (yc ?_)))
 refine wpAny_nsSet1 (s:={s with toks:=s.toks+1}) I.ns fun h' hn2 hs2=>?_
 obtain⟨oD,esD,epD,hoD,hdD,hcD⟩:=hn2.count (PySem.Within.cons name v hw)
 refine yc (wpAny_lookBehind hoD (by rw [hdD]; exact pastItsLine_dict (y0b hcD (by rw [yh]; omega))) ?_)
 exact yo (h _ ⟨(hs2.2 _ (y1y I.ne)).trans I.obj,hn2,I.ne⟩ hs2)
theorem zx7{R:Result->y9->Prop}{vs:List y4}{kw:List (Str×y4)}(X:K.In s.heap)(hm:PySem.W.makesIn K C=true)
  (hi:PySem.W.findIn K (.ref C) "__init__" = some (some (.ref f))) (hf:PySem.W.typeIn K (.ref f)=some (.type "function"))
  (h:codeAny (model prog w) (A.under (.builtin "type.__call__" ⟨.ref C::vs,kw⟩)) (.call (.ref f) ⟨.ref (s.heap.objs.size+1)::vs,kw⟩) (PySem.W.InitBack (s.heap.objs.size+1) R)
   {s with heap:=(s.heap.push PySem.W.emptyDict).push (PySem.W.instObj C s.heap.objs.size)}) :
  codeAny (model prog w) A (.call (.ref C) ⟨vs,kw⟩) R s:=by
 obtain⟨hh,g,d,t,os⟩:=s
 exact PySem.W.make_core (PySem.W.makes_of X hm) (PySem.W.looks_findIn X hi) (fun self=>PySem.W.bind_fn X self hf) (.inl rfl) h
end
def z52(f:Str)(v:V):List (Str×V)->List (Str×V)
 | []=>[(f,v)]
 | (g,x)::r=>if g=f then(g,v)::r else(g,x)::z52 f v r
theorem zh6(f g:Str)(v:V):∀fs:List (Str×V),(z52 f v fs).lookup g=if g=f then some v else fs.lookup g
 | []=>by
  show List.lookup g [(f,v)]=_
  by_cases h:g=f
  ·have hb:(g == f)=true:=beq_iff_eq.mpr h
   simp only[List.lookup,hb,if_pos h]
  ·have hb:(g == f)=false:=beq_eq_false_iff_ne.mpr h
   simp only[List.lookup,hb,if_neg h]
 | (k,x)::r=>by
  have ih:=zh6 f g v r
  rw [show z52 f v ((k,x)::r)=(if k=f then(k,v)::r else(k,x)::z52 f v r) from rfl]
  by_cases hk:k=f
  ·rw [if_pos hk]
   by_cases h:g=k
   ·have hb:(g == k)=true:=beq_iff_eq.mpr h
    simp only[List.lookup,hb,if_pos (h.trans hk)]
   ·have hb:(g == k)=false:=beq_eq_false_iff_ne.mpr h
    simp only[List.lookup,hb,if_neg (fun e:g=f=>h (e.trans hk.symm))]
  ·rw [if_neg hk]
   by_cases h:g=k
   ·have hb:(g == k)=true:=beq_iff_eq.mpr h
    simp only[List.lookup,hb,if_neg (fun e:g=f=>hk (h.symm.trans e))]
   ·have hb:(g == k)=false:=beq_eq_false_iff_ne.mpr h
    simp only[List.lookup,hb]
    exact ih
theorem zhf(f:Str)(v:V):∀fs:List (Str×V),f∈(z52 f v fs).map (·.1)/\∀g,g∈fs.map (·.1)->g∈(z52 f v fs).map (·.1)
 | []=>⟨by simp[z52],fun g h=>by simp at h⟩
 | (k,x)::r=>by
  obtain⟨i1,i2⟩:=zhf f v r
  rw [show z52 f v ((k,x)::r)=(if k=f then(k,v)::r else(k,x)::z52 f v r) from rfl]
  by_cases hk:k=f
  ·rw [if_pos hk]
   subst hk
   exact⟨by simp,fun g h=>by simpa using h⟩
  ·rw [if_neg hk]
   refine⟨?_,fun g h=>?_⟩
   ·rw [yn]
    exact y0c _ i1
   ·rw [yn] at h |-
    rcases List.mem_cons.mp h with e | e
    ·exact List.mem_cons.mpr (.inl e)
    ·exact y0c _ (i2 g e)
theorem zhb(f:Str)(v:V):∀fs:List (Str×V),(z52 f v fs).length<=fs.length+1
 | []=>by simp[z52]
 | (k,x)::r=>by
  have ih:=zhb f v r
  rw [show z52 f v ((k,x)::r)=(if k=f then(k,v)::r else(k,x)::z52 f v r) from rfl]
  by_cases hk:k=f
  ·rw [if_pos hk,yh,yh]; omega
  ·rw [if_neg hk,yh,yh]; omega
theorem RelO.some_of{v:V}{o:Option y4}(r:RelO (some v) o):∃u,o=some u/\RelV v u:=by
 cases o with
 | none=>exact(show False from r).elim
 | some u=>exact⟨u,rfl,r⟩
theorem RelO.none_of{o:Option y4}(r:RelO none o):o=none:=by
 cases o with
 | none=>rfl
 | some u=>exact(show False from r).elim
theorem zut{v:V}{u:y4}(r:RelV v u):PySem.W.handedIn u=true:=by
 cases v with
 | non=>cases (show u=Value.none from r); rfl
 | bl b=>cases (show u=Value.bool b from r); rfl
 | int i=>obtain⟨t,e⟩:=(show ∃t,u=Value.int i t from r); cases e; rfl
 | str x=>obtain⟨t,e⟩:=(show ∃t,u=Value.str x t from r); cases e; rfl
 | byt b=>obtain⟨t,e⟩:=(show ∃t,u=Value.bytes b t from r); cases e; rfl
 | flt b=>obtain⟨t,e⟩:=(show ∃t,u=Value.float b t from r); cases e; rfl
 | ref a=>cases (show u=Value.ref a from r); rfl
 | ty n=>cases (show u=Value.type n from r); rfl
section
variable{P:yf}{w:yr}{H H':Hp}{h h':Heap}{a C dx:Addr}{fs fs':List (Str×V)}
theorem zkh(hok:HOk P w H h)(e:H a=some (.ins C dx fs)):∃mA,ObjM h a dx C mA/\(∀f,RelO (fs.lookup f) (mA f))/\PySem.Within mA (fs.map (·.1))/\fs.length<=1000/\H dx=some (.own a):=by
 obtain⟨d,z,ne,ob,mA,n,r,q⟩:=(show ObjOk P w H h a (.ins C dx fs) from hok a _ e)
 exact⟨mA,⟨ob,n,ne⟩,r,q,z,d⟩
end
structure Cls(K:y3)(C:Addr):Prop where
 pg:PySem.W.plainGet K C Str.empty=true
 hd:PySem.W.hasDictIn K C=true
 po:PySem.W.plainOver K C=true
 sa:PySem.W.findIn K (.ref C) "__setattr__" = some (some (.builtin "object.__setattr__"))
theorem Cls.get{K:y3}{C:Addr}(c:Cls K C)(f:Str):PySem.W.plainGet K C f=true:=c.pg
def NoAttr(K:y3)(C:Addr)(f:Str):Prop:=PySem.W.findIn K (.ref C) f=some none
theorem NoAttr.taker{K:y3}{C:Addr}{f:Str}(n:NoAttr K C f):PySem.W.takerIn K C f=some none:=by
 unfold PySem.W.takerIn
 rw [show PySem.W.findIn K (.ref C) f=some none from n]
 rfl
structure Con(K:y3)(C:Addr)(f:Str)(v:V)(u:y4):Prop where
 at_:PySem.W.findIn K (.ref C) f=some (some u)
 rel:RelV v u
 get:PySem.W.specialIn K u "__get__" = some none
 cp:PySem.W.copiedNames.contains f=false
structure Meth(K:y3)(C:Addr)(m:Str)(f:Addr):Prop where
 at_:PySem.W.findIn K (.ref C) m=some (some (.ref f))
 fn:PySem.W.isFn K (.ref f)=true
 kp:PySem.W.keepIn K (.ref f)=true
section
variable{X:Cx}{pins:List (Addr×Obj)}{σ : St}{H:Hp}{s:y9}{a C dx:Addr}{fs:List (Str×V)}{f:Str}{v:V}{A:y01}{E:y4->y9->Prop}
theorem zrz{b:Bool}{Q:y4->y9->Prop}(I:Inv X pins σ H s)(e:H a=some (.ins C dx fs))(c:Cls X.K C)(n:NoAttr X.K C f)(l:fs.lookup f=some v)
  (h:∀u s',Inv X pins σ H s'->RelV v u->Q u s'):wpAny (model X.prog X.w) A (getAttr (.ref a) f b) Q E s:=by
 obtain⟨mA,O,r,_,_,_⟩:=zkh I.hok e
 obtain⟨u,hu,ru⟩:=RelO.some_of (v:=v) (o:=mA f) (by rw [<- l]; exact r f)
 exact q0r I.kIn O (c.get f) c.hd n hu (zut ru) (h u _ (I.tok _) ru)
theorem zj8{m:Str}{g:Addr}{pl:Sem Bool}{Q:y4×List y4->y9->Prop}(I:Inv X pins σ H s)(e:H a=some (.ins C dx fs))(c:Cls X.K C)(k:Meth X.K C m g)(l:fs.lookup m=none)
  (h:Q (.ref g,[.ref a]) s):wpAny (model X.prog X.w) A (getMethod (.ref a) m pl) Q E s:=by
 obtain⟨mA,O,r,_,_,_⟩:=zkh I.hok e
 have hn:mA m=none:=RelO.none_of (by rw [<- l]; exact r m)
 exact zxl I.kIn O (c.get m) k.at_ k.fn hn h
theorem zr8{y:V}{u:y4}{Q:Unit->y9->Prop}(I:Inv X pins σ H s)(e:H a=some (.ins C dx fs))(c:Cls X.K C)(n:NoAttr X.K C f)(hl:fs.length < 1000)(ry:RelV y u)
  (h:∀s',Inv X pins σ (upd H a (.ins C dx (z52 f y fs))) s'->Q () s'):wpAny (model X.prog X.w) A (setAttr (.ref a) f u) Q E s:=by
 obtain⟨mA,O,r,wi,_,ho⟩:=zkh I.hok e
 have hz:(fs.map (·.1)).length<=sizeLine:=by rw [y8,sizeLine_eq]; omega
 refine zzb I.kIn O c.sa c.po n.taker c.hd wi hz fun h' O' sb=>h _ ?_
 have hd:∃o,h'.get? dx=some o:=let ⟨o,_,_,e',_⟩:=O'.ns; ⟨o,e'⟩
 refine I.write (x:=a) (e:=dx) (by rw [e]; exact True.intro) (.inr ho) (fun b q hb z=>(sb.2 b hb).trans z) hd ?_
 refine⟨by rw [z09 O.ne]; exact ho,?_,O.ne,O'.obj,_,O'.ns,fun g=>?_,fun g hg=>?_⟩
 ·have:=zhb f y fs; omega
 ·show RelO ((z52 f y fs).lookup g) (if g=f then some u else mA g)
  rw [zh6]
  by_cases q:g=f
  ·rw [if_pos q,if_pos q]; exact ry
  ·rw [if_neg q,if_neg q]; exact r g
 ·by_cases q:g=f
  ·rw [q]; exact(zhf f y fs).1
  ·refine(zhf f y fs).2 g (wi g fun z=>hg ?_)
   show(if g=f then some u else mA g)=none
   rw [if_neg q]; exact z
theorem Inv.made(I:Inv X pins σ H s):Inv X pins σ (upd (upd H s.heap.objs.size (.own (s.heap.objs.size+1))) (s.heap.objs.size+1) (.ins C s.heap.objs.size []))
  {s with heap:=(s.heap.push PySem.W.emptyDict).push (PySem.W.instObj C s.heap.objs.size)}:=by
 have e1:(s.heap.push PySem.W.emptyDict).get? s.heap.objs.size=some PySem.W.emptyDict:=yi s.heap rfl
 have e2:((s.heap.push PySem.W.emptyDict).push (PySem.W.instObj C s.heap.objs.size)).get? (s.heap.objs.size+1)=some (PySem.W.instObj C s.heap.objs.size):=by
  have:=yi (s.heap.push PySem.W.emptyDict) (o:=PySem.W.instObj C s.heap.objs.size) rfl
  rwa [y0o] at this
 have e3:(s.heap.push PySem.W.emptyDict).Ns s.heap.objs.size (fun _=>none):=⟨PySem.W.emptyDict,#[],_,e1,rfl,(fun e he=>absurd he (by simp)),fun _=>rfl⟩
 have I1:=I.laid (a:=s.heap.objs.size) (o:=.own (s.heap.objs.size+1)) (h':=s.heap.push PySem.W.emptyDict) (t':=s.toks) (fun b u q=>y6 _ q) (yg _) ⟨_,e1⟩
 refine I1.laid (a:=s.heap.objs.size+1) (o:=.ins C s.heap.objs.size []) (t':=s.toks) (fun b u q=>y6 _ q) (Nat.le_of_eq (y0o _ _)) ?_
 have ne:s.heap.objs.size≠s.heap.objs.size+1:=yk (y2f _)
 refine⟨by rw [z09 ne,z00],y05 _,ne,e2,fun _=>none,(Heap.Ns1.of_empty e3).at fun o q=>y6 _ q,fun _=>True.intro,fun y hy=>absurd rfl hy⟩
theorem q1f{prog:yf}{w:yr}{env:Env}{e:Expr}{f:Str}{pos:Pos}{s:y9}{Q:y4->y9->Prop}(hb:attributeBase e f env (eval e env)=eval e env)
  (h:wpAny (model prog w) A (eval e env) (fun o s₁=>wpAny (model prog w) A (getAttr o f true) Q E s₁) E s):wpAny (model prog w) A (eval (.Attribute e f pos) env) Q E s:=
 Attribute_any_ h (by rw [arm_eval_Attribute,hb])
end
def q21(K:y3)(ta:TE)(f:Str):TE:=fun σ H Q=>ta σ H fun x H1=>∃a C dx fs v,x=.ref a/\H1 a=some (.ins C dx fs)/\Cls K C/\NoAttr K C f/\fs.lookup f=some v/\Q v H1
def q25(K:y3)(ta tv:TE)(f:Str):TS:=fun D σ H=>tv σ H fun y H1=>ta σ H1 fun x H2=>∃a C dx fs,x=.ref a/\H2 a=some (.ins C dx fs)/\Cls K C/\NoAttr K C f/\fs.length < 1000/\
 D.nx σ (upd H2 a (.ins C dx (z52 f y fs)))
section
variable{X:Cx}{o e value:Expr}{f:Str}{pos pos' tpos:Pos}{ta tv:TE}
theorem z1y(he:PE X e ta)(hb:attributeBase e f X.env (eval e X.env)=eval e X.env):PE X (.Attribute e f pos) (q21 X.K ta f):=by
 refine⟨?_⟩
 intro pins s σ H Q I h
 refine q1f hb (thn (he pins s σ H _ I h) fun u s1 hh=>?_)
 obtain⟨x,H1,I1,rx,a,C,dx,fs,v,ex,ea,c,n,l,q⟩:=hh
 subst ex
 obtain rfl:u=Value.ref a:=rx
 exact zrz I1 ea c n l fun u' s2 I2 ru=>⟨v,H1,I2,ru,q⟩
theorem zby(ha:PE X o ta)(hv:PE X value tv)(hs:swapsWith value (some (.Attribute o f pos')) pos.line X.env=pure false):PS X (.Assign [.Attribute o f pos'] value pos) (q25 X.K ta tv f):=by
 refine⟨?_⟩
 intro pins s σ H D I h
 refine plainObj_wpAny_Assign_Attribute (thn (hv pins s σ H _ I h) fun u s1 ⟨y,H1,I1,ry,q⟩=>thn (ha pins s1 σ H1 _ I1 q) fun ov s2 hh=>?_) hs
 obtain⟨x,H2,I2,rx,a,C,dx,fs,ex,ea,c,n,l,q2⟩:=hh
 subst ex
 obtain rfl:ov=Value.ref a:=rx
 exact zr8 I2 ea c n l ry fun s3 I3=>⟨σ,_,I3,q2⟩
end
section
variable{X:Cx}{pins:List (Addr×Obj)}{σ : St}{H:Hp}{s:y9}{A:y01}{E:y4->y9->Prop}{Q:y4->y9->Prop}{c:y4}{b:Bool}
inductive TyOf (K:y3) (H:Hp):V->y4->Prop where
 | non:TyOf K H .non (.type "NoneType")
 | bl (x:Bool):TyOf K H (.bl x) (.type "bool")
 | int (i:Int):TyOf K H (.int i) (.type "int")
 | str (x:Str):TyOf K H (.str x) (.type "str")
 | flt (x:UInt64):TyOf K H (.flt x) (.type "float")
 | lst {a:Addr} {xs:List V} (e:H a=some (.lst xs)):TyOf K H (.ref a) (.type "list")
 | frz {a:Addr} {o:Obj} {xs:List V} (e:H a=some (.frz o (.lst xs))):TyOf K H (.ref a) (.type "list")
 | tup {a:Addr} {xs:List V} (e:H a=some (.tup xs)):TyOf K H (.ref a) (.type "tuple")
 | dK {a:Addr} {kvs:List (Key×V)} (e:H a=some (.dK kvs)):TyOf K H (.ref a) (.type "dict")
 | dT {a:Addr} {kvs:List (List Key×V)} (e:H a=some (.dT kvs)):TyOf K H (.ref a) (.type "dict")
 | ins {a C dx:Addr} {fs:List (Str×V)} (e:H a=some (.ins C dx fs)) (cl:Cls K C) (ha:PySem.W.findIn K (.ref C) "__class__" = some (some (.builtin "object.__class__")))
   (hn:PySem.W.specialIn K (.builtin "object.__class__") "__get__" = some (some (.builtin "getset_descriptor.__get__"))) (htk:PySem.W.takesIn K (.builtin "object.__class__")=some true)
   (hm:PySem.W.mroIn K C (.type "object")=some true):TyOf K H (.ref a) (.ref C)
theorem zul{x:V}{u t:y4}(I:Inv X pins σ H s)(rx:RelV x u)(ty:TyOf X.K H x t)(e:PySem.W.kitOne X.K t c=some b)(h:∀tk,Q (.bool b) {s with toks:=tk}) :
  wpAny (model X.prog X.w) A (call (.builtin "isinstance") [u,c]) Q E s:=by
 cases ty with
 | non=>cases (show u=Value.none from rx); exact y12 PySem.W.kitx_none I.kIn True.intro e (fun z=>nomatch z) h
 | bl y=>cases (show u=Value.bool y from rx); exact y12 PySem.W.kitx_bool I.kIn True.intro e (fun z=>nomatch z) h
 | int i=>obtain⟨t,q⟩:=(show ∃t,u=Value.int i t from rx); cases q; exact y12 PySem.W.kitx_int I.kIn True.intro e (fun z=>nomatch z) h
 | str y=>obtain⟨t,q⟩:=(show ∃t,u=Value.str y t from rx); cases q; exact y12 PySem.W.kitx_str I.kIn True.intro e (fun z=>nomatch z) h
 | flt y=>obtain⟨t,q⟩:=(show ∃t,u=Value.float y t from rx); cases q; exact y12 PySem.W.kitx_float I.kIn True.intro e (fun z=>nomatch z) h
 | @lst a xs ea=>
  cases (show u=Value.ref a from rx)
  obtain⟨_,_,n,_,h1⟩:=(show ObjOk X.prog X.w H s.heap a (.lst xs) from I.hok a _ ea)
  exact y12 PySem.W.kitx_list I.kIn ⟨_,h1,rfl⟩ e (fun z=>nomatch z) h
 | @frz a ob xs ea=>
  cases (show u=Value.ref a from rx)
  obtain⟨_,_,_,n,_,h1⟩:=(show ObjOk X.prog X.w H s.heap a (.frz ob (.lst xs)) from I.hok a _ ea)
  exact y12 PySem.W.kitx_list I.kIn ⟨_,h1,rfl⟩ e (fun z=>nomatch z) h
 | @tup a xs ea=>
  cases (show u=Value.ref a from rx)
  obtain⟨_,_,_,p⟩:=(show ObjOk X.prog X.w H s.heap a (.tup xs) from I.hok a _ ea)
  obtain⟨o,h1,h2,_⟩:=p
  exact y12 PySem.W.kitx_tuple I.kIn ⟨o,h1,h2⟩ e (fun z=>nomatch z) h
 | @dK a kvs ea=>
  cases (show u=Value.ref a from rx)
  obtain⟨_,_,vs,_,p⟩:=(show ObjOk X.prog X.w H s.heap a (.dK kvs) from I.hok a _ ea)
  obtain⟨o,es,ep,h1,h2,_⟩:=p
  exact y12 PySem.W.kitx_dict I.kIn ⟨o,h1,h2.1⟩ e (fun z=>nomatch z) h
 | @dT a kvs ea=>
  cases (show u=Value.ref a from rx)
  obtain⟨_,_,xs,_,o,es,ep,h1,h2,_⟩:=(show ObjOk X.prog X.w H s.heap a (.dT kvs) from I.hok a _ ea)
  exact y12 PySem.W.kitx_dict I.kIn ⟨o,h1,h2.1⟩ e (fun z=>nomatch z) h
 | @ins a C dx fs ea cl ha hn htk hm=>
  cases (show u=Value.ref a from rx)
  obtain⟨mA,O,_⟩:=zkh I.hok ea
  obtain⟨od,J,_⟩:=O.look
  exact y12 (PySem.W.kitx_own (cl.get _) cl.hd ha hn htk hm) I.kIn J e (fun z=>nomatch z) h
end
end L2
namespace L2
open PySem PySem.Spec PyProof.Rows
structure Room(k:Nat)(A:y01):Prop where
 hd:A.handled=none
 dp:A.depth+3 * k+5 < recursionLimit
 un:A.units+16 * k+200 < cLine
theorem Room.mono{j k:Nat}{A:y01}(r:Room k A)(h:j<=k):Room j A:=⟨r.hd,by have:=r.dp; omega,by have:=r.un; omega⟩
theorem Room.deeper{k:Nat}{A:y01}(r:Room (k+1) A)(env:Env):Room k (A.deeper env):=
 ⟨r.hd,by have:=r.dp; show A.depth+1+3 * k+5 < _; omega,by have:=r.un; show A.units+3+16 * k+200 < _; omega⟩
theorem zru{A:y01}{C:Addr}{us:List y4}{kw:List (Str×y4)}:(A.under (.builtin "type.__call__" ⟨.ref C::us,kw⟩)).depth=A.depth+1:=by
 first | rfl | simp[Around.under,Code.weight,Code.isCreation,Code.isGuard,Code.isCaller,Code.frames,Code.isFrame,guardIds]
theorem zrt{A:y01}{C:Addr}{us:List y4}{kw:List (Str×y4)}:(A.under (.builtin "type.__call__" ⟨.ref C::us,kw⟩)).units=A.units+1:=by
 first | rfl | simp[Around.under,Code.cUnits,Code.frames,Code.isFrame]
theorem Room.make{k:Nat}{A:y01}(r:Room (k+1) A)(C:Addr)(us:List y4)(kw:List (Str×y4)):Room k (A.under (.builtin "type.__call__" ⟨.ref C::us,kw⟩)):=
 ⟨r.hd,by have:=r.dp; rw [zru]; omega,by have:=r.un; rw [zrt]; omega⟩
theorem Room.depth{k:Nat}{A:y01}(r:Room k A):A.depth < recursionLimit:=by have:=r.dp; omega
theorem Room.units{k:Nat}{A:y01}(r:Room k A):A.units+64 < cLine:=by have:=r.un; omega
def zni:TA:=fun _ H Q=>Q [] H
def zcu(ta:TE)(tr:TA):TA:=fun σ H Q=>ta σ H fun x H1=>tr σ H1 fun xs H2=>Q (x::xs) H2
section
variable{X:Cx}{e:Expr}{es:List Expr}{te:TE}{t:TA}{pos:Pos}
theorem z02:PA X [] zni:=⟨fun _ _ _ _ H Q I h=>Calls.spliced_nil ⟨[],H,I,.nil,h⟩⟩
theorem zzv(ha:PE X e te)(hr:PA X es t)(hs:starEach (e::es) X.env=(false,eval e X.env)::starEach es X.env:=by rfl):PA X (e::es) (zcu te t):=by
 refine⟨?_⟩
 intro pos pins s σ H Q I h
 rw [hs]
 show wpAny _ _ (spliced ((false,eval e X.env)::backTo pos (starEach es X.env))) _ _ s
 refine Calls.spliced_cons (thn (ha pins s σ H _ I h) fun u s1 ⟨x,H1,I1,r1,q1⟩=>?_)
 exact thn (hr pos pins s1 σ H1 _ I1 q1) fun us s2 ⟨xs,H2,I2,r2,q2⟩=>⟨x::xs,H2,I2,.cons r1 r2,q2⟩
def zy1(t:TA):TE:=fun σ H Q=>t σ H fun xs H1=>xs.length<=sizeLine/\∀p,H1 p=none->Q (.ref p) (upd H1 p (.tup xs))
def zy4(t:TA):TE:=fun σ H Q=>t σ H fun xs H1=>xs.length<=sizeLine/\∀p,H1 p=none->Q (.ref p) (upd H1 p (.lst xs))
theorem z12{x1}(h:PA X es t):PE X (.Tuple es x1 pos) (zy1 t):=by
 refine⟨?_⟩
 intro pins s σ H Q I hq
 refine wpAny_Tuple_spliced (thn (h pos pins s σ H _ I hq) fun us s1 ⟨xs,H1,I1,r,z,q⟩=>⟨by rw [<- r.length]; exact z,?_⟩)
 have hf:H1 s1.heap.objs.size=none:=I1.hok.fresh (yg _)
 refine⟨.ref s1.heap.objs.size,upd H1 s1.heap.objs.size (.tup xs),I1.laid (t':=s1.toks) (fun b u e=>y6 _ e) (yg _) ?_,rfl,q _ hf⟩
 exact⟨z,us,r,⟨_,yi _ rfl,rfl,_,rfl⟩⟩
theorem z2v(h:PA X es t):PE X (.List es pos) (zy4 t):=by
 refine⟨?_⟩
 intro pins s σ H Q I hq
 refine wpAny_List_spliced (thn (h pos pins s σ H _ I hq) fun us s1 ⟨xs,H1,I1,r,z,q⟩=>⟨by rw [<- r.length]; exact z,?_⟩)
 have hf:H1 s1.heap.objs.size=none:=I1.hok.fresh (yg _)
 refine⟨.ref s1.heap.objs.size,upd H1 s1.heap.objs.size (.lst xs),I1.laid (t':=s1.toks) (fun b u e=>y6 _ e) (yg _) ?_,rfl,q _ hf⟩
 exact⟨z,us,0,r,yi _ rfl⟩
end
abbrev Sp:=List V->Hp->VK->XK->Prop
abbrev CXT:=List Env->Hp->y9->XK->y4->y9->Prop
structure Env0(P:yf)(w:yr)(K:y3)(mg:Str->Option y4)(base:Heap)(A:y01)(outer:List Env)(s:y9)(H:Hp):Prop where
 frames:A.frames=some outer
 mod:Mod K mg base
 bs:∀b o,base.get? b=some o->s.heap.get? b=some o/\H b=none
 bsz:base.objs.size<=s.heap.objs.size
 funs:s.heap.FunFrames base outer
 frf:∀b∈frs outer,H b=none
 hok:HOk P w H s.heap
 bare:AllBare s.gens
def CE(outer:List Env)(P:yf)(w:yr)(H:Hp)(s:y9)(Q:VK)(u:y4)(s':y9):Prop:=
 ∃v H',s'.os=s.os/\AllBare s'.gens/\Un (frs outer) [] H H' s.heap s'.heap/\HOk P w H' s'.heap/\RelV v u/\Q v H'
def CR(CX:CXT)(outer:List Env)(P:yf)(w:yr)(H:Hp)(s:y9)(Q:VK)(E:XK)(r:Result)(s':y9):Prop:=
 match r with
 | .ok (.ret u)=>CE outer P w H s Q u s'
 | .ok _=>False
 | .error e=>CX outer H s E e s'
structure FnOk(P:yf)(w:yr)(K:y3)(mg:Str->Option y4)(base:Heap)(CX:CXT)(k:Nat)(f:Addr)(fd:yq)(ps:List Str)(sp:Sp):Prop where
 len:∀vs H Q E,sp vs H Q E->vs.length=ps.length
 run:∀(A:y01) (outer:List Env) (s:y9) (H:Hp) (args:Args) (us:List y4) (vs:List V) (Q:VK) (E:XK),Room k A->Env0 P w K mg base A outer s H->BindsTo s fd args (ps.zip us)->Vals vs us->sp vs H Q E->
  codeAny (model P w) A (.call (.ref f) args) (CR CX outer P w H s Q E) s
theorem FnOk.mono{P:yf}{w:yr}{K:y3}{mg:Str->Option y4}{base:Heap}{CX:CXT}{j k:Nat}{f:Addr}{fd:yq}{ps:List Str}{sp:Sp}(F:FnOk P w K mg base CX j f fd ps sp)(h:j<=k) :
  FnOk P w K mg base CX k f fd ps sp:=⟨F.len,fun A outer s H args us vs Q E hr=>F.run A outer s H args us vs Q E (hr.mono h)⟩
theorem Env0.make{P:yf}{w:yr}{K:y3}{mg:Str->Option y4}{base:Heap}{A:y01}{outer:List Env}{s:y9}{H:Hp}(e:Env0 P w K mg base A outer s H)(C:Addr)(us:List y4)(kw:List (Str×y4)) :
  Env0 P w K mg base (A.under (.builtin "type.__call__" ⟨.ref C::us,kw⟩)) outer s H:=⟨by first | exact e.frames | (simpa [Around.under,Code.envs,Code.isFrame,pushEnvs] using e.frames),e.mod,e.bs,e.bsz,e.funs,e.frf,e.hok,e.bare⟩
section
variable{X:Cx}{pins:List (Addr×Obj)}{σ : St}{H:Hp}{s s':y9}
theorem Inv.env0(I:Inv X pins σ H s):Env0 X.prog X.w X.K X.mg X.base X.A X.stack s H:=
 ⟨I.ok.frames,I.ok.mod,I.bs,y0b I.ok.bsz I.sz,I.stack,I.stkFree,I.hok,I.bare⟩
theorem Inv.after{Q:VK}{u:y4}(I:Inv X pins σ H s)(h:CE X.stack X.prog X.w H s Q u s'):EP X pins σ Q u s':=by
 obtain⟨v,H',os,bare,un,hok,r,q⟩:=h
 obtain⟨hh,g,d,t,os'⟩:=s'
 obtain rfl:os'=s.os:=os
 exact⟨v,H',I.call (h':=hh) (g':=g) (d':=d) (t':=t) (ch:=[]) un hok bare (fun b z=>absurd z (by simp)),r,q⟩
end
def zlc(sp:Sp)(dvs:List V)(E:XK)(t:TA):TE:=fun σ H Q=>t σ H fun vs H1=>sp (vs++dvs) H1 Q E
def zgb(C:Addr)(m:Str)(sp:Sp)(dvs:List V)(E:XK)(ta:TE)(t:TA):TE:=fun σ H Q=>ta σ H fun x H1=>∃a dx fs,x=.ref a/\H1 a=some (.ins C dx fs)/\fs.lookup m=none/\
 t σ H1 fun vs H2=>sp (x::(vs++dvs)) H2 Q E
def zr5(C:Addr)(sp:Sp)(dvs:List V)(E:XK)(t:TA):TE:=fun σ H Q=>t σ H fun vs H1=>∀x dx,H1 x=none->H1 dx=none->dx≠x->
 sp (.ref x::(vs++dvs)) (upd (upd H1 dx (.own x)) x (.ins C dx [])) (fun v H2=>v=.non/\Q (.ref x) H2) E
def Binds(K:y3)(fd:yq)(ps:List Str)(ds:List y4):Prop:=
 ∀(s:y9) (us:List y4),K.In s.heap->(us++ds).length=ps.length->BindsTo s fd ⟨us,[]⟩ (ps.zip (us++ds))
theorem Binds.all{K:y3}{fd:yq}{ps:List Str}(h:∀us:List y4,us.length=ps.length->bindArgs fd ⟨us,[]⟩=pure (ps.zip us)):Binds K fd ps []:=fun s us _ hl=>by
 rw [y06] at hl |-
 exact .of_eq (h us hl)
def zf6(CX:CXT)(X:Cx)(E:XK):Prop:=∀(pins:List (Addr×Obj)) (σ : St) (H:Hp) (s:y9) (e:y4) (s':y9),Inv X pins σ H s->CX X.stack H s E e s'->X.xe e s'
section
variable{X:Cx}{CX:CXT}{k:Nat}{f C:Addr}{fd:yq}{ps:List Str}{sp:Sp}{dvs:List V}{ds:List y4}{E:XK}{x m:Str}{p pos apos:Pos}{e o:Expr}{es:List Expr}{ta:TE}{t:TA}
theorem zt7{pins:List (Addr×Obj)}{σ : St}{H:Hp}{s:y9}{Q:VK}{us:List y4}{vs:List V}(F:FnOk X.prog X.w X.K X.mg X.base CX k f fd ps sp)(hr:Room k X.A)(hb:Binds X.K fd ps ds)(hd:Vals dvs ds)(hx:zf6 CX X E)
  (I:Inv X pins σ H s) (r:Vals vs us) (h:sp (vs++dvs) H Q E):wpAny (model X.prog X.w) X.A (call (.ref f) us) (EP X pins σ Q) X.xe s:=by
 have r2:Vals (vs++dvs) (us++ds):=r.append hd
 have hl:(us++ds).length=ps.length:=by rw [<- r2.length]; exact F.len _ _ _ _ h
 refine y2v (y1j (F.run X.A X.stack s H ⟨us,[]⟩ (us++ds) (vs++dvs) Q E hr I.env0 (hb s us I.kIn hl) r2 h) fun r s' hq=>?_)
 cases r with
 | error e=>exact hx pins σ H s e s' I hq
 | ok fl=>
  cases fl with
  | ret u=>exact I.after hq
  | next=>exact False.elim hq
  | brk=>exact False.elim hq
  | cont=>exact False.elim hq
theorem zzq{pl:Sem Bool}(he:PE X o ta)(c:Cls X.K C)(hm:Meth X.K C m f)(F:FnOk X.prog X.w X.K X.mg X.base CX k f fd ps sp)(hr:Room k X.A)(hb:Binds X.K fd ps ds)(hd:Vals dvs ds)(hx:zf6 CX X E)(ha:PA X (e::es) t)
  (hst:starEach (e::es) X.env=(false,eval e X.env)::starEach es X.env:=by rfl) (hpl:(backTo pos (starEach es X.env)).any (·.1)=false:=by rfl)
  (ht:eval (.Call (.Attribute o m apos) (e::es) [] pos) X.env=(do
   let ov <- eval o X.env
   standAt apos.atName
   let (f,first) <- holding [ov] (getMethod ov m pl)
   callWith pos f first (backTo pos (starEach (e::es) X.env)) (backToKw pos (keywordEach [] X.env))):=by rfl) :
  PE X (.Call (.Attribute o m apos) (e::es) [] pos) (zgb C m sp dvs E ta t):=by
 refine⟨?_⟩
 intro pins s σ H Q I h
 refine PySem.W.methodCall_KW (pl:=pl) (thn (he pins s σ H _ I h) fun u s1 ⟨x,H1,I1,rx,a,dx,fs,ex,ea,l,q⟩=>?_) ht
 subst ex
 obtain rfl:u=Value.ref a:=rx
 refine zj8 I1 ea c hm l ?_
 refine y1x (first:=[.ref a]) (h₀:=X.base) I.ok.mod.kin hm.kp (thn (ha pos pins s1 σ H1 _ I1 q) fun us s2 ⟨vs,H2,I2,r,q2⟩=>⟨I2.kIn,?_⟩) hst hpl
 exact zt7 (us:=.ref a::us) (vs:=.ref a::vs) F hr hb hd hx I2 (.cons rfl r) q2
theorem zpy{pl:Sem Bool}(he:PE X o ta)(c:Cls X.K C)(hm:Meth X.K C m f)(F:FnOk X.prog X.w X.K X.mg X.base CX k f fd ps sp)(hr:Room k X.A)(hb:Binds X.K fd ps ds)(hd:Vals dvs ds)(hx:zf6 CX X E)
  (ht:eval (.Call (.Attribute o m apos) [] [] pos) X.env=(do
   let ov <- eval o X.env
   standAt apos.atName
   let (f,first) <- holding [ov] (getMethod ov m pl)
   callWith pos f first (backTo pos (starEach [] X.env)) (backToKw pos (keywordEach [] X.env))):=by rfl) :
  PE X (.Call (.Attribute o m apos) [] [] pos) (zgb C m sp dvs E ta zni):=by
 refine⟨?_⟩
 intro pins s σ H Q I h
 refine PySem.W.methodCall_KW (pl:=pl) (thn (he pins s σ H _ I h) fun u s1 ⟨x,H1,I1,rx,a,dx,fs,ex,ea,l,q⟩=>?_) ht
 subst ex
 obtain rfl:u=Value.ref a:=rx
 refine zj8 I1 ea c hm l ?_
 exact PySem.W.callWith_K0 (first:=[.ref a]) I1.kIn hm.kp (zt7 (us:=[.ref a]) (vs:=[.ref a]) F hr hb hd hx I1 (.cons rfl .nil) q)
structure Mk(K:y3)(C f:Addr):Prop where
 makes:PySem.W.makesIn K C=true
 init:PySem.W.findIn K (.ref C) "__init__" = some (some (.ref f))
 fn:PySem.W.isFn K (.ref f)=true
 kp:PySem.W.keepIn K (.ref C)=true
theorem zwh{pins:List (Addr×Obj)}{σ : St}{H:Hp}{s:y9}{Q:VK}{us:List y4}{vs:List V}(M:Mk X.K C f)(F:FnOk X.prog X.w X.K X.mg X.base CX k f fd ps sp)(hr:Room (k+1) X.A)(hb:Binds X.K fd ps ds)(hd:Vals dvs ds)
  (hx:zf6 CX X E) (I:Inv X pins σ H s) (r:Vals vs us)
  (h:∀x dx,H x=none->H dx=none->dx≠x->sp (.ref x::(vs++dvs)) (upd (upd H dx (.own x)) x (.ins C dx [])) (fun v H2=>v=.non/\Q (.ref x) H2) E) :
  wpAny (model X.prog X.w) X.A (call (.ref C) us) (EP X pins σ Q) X.xe s:=by
 have hq:=h (s.heap.objs.size+1) s.heap.objs.size (I.hok.fresh (Nat.le_succ _)) (I.hok.fresh (yg _)) (yk (y2f _))
 have I2:=Inv.made (C:=C) I
 have r2:Vals (V.ref (s.heap.objs.size+1)::(vs++dvs)) (Value.ref (s.heap.objs.size+1)::(us++ds)):=.cons rfl (r.append hd)
 have hl:(Value.ref (s.heap.objs.size+1)::us++ds).length=ps.length:=by
  have e:=r2.length
  rw [F.len _ _ _ _ hq] at e
  exact e.symm
 refine y2v (zx7 (f:=f) I.kIn M.makes M.init (beq_iff_eq.mp M.fn) (y1j (F.run _ X.stack _ _ ⟨Value.ref (s.heap.objs.size+1)::us,[]⟩ (Value.ref (s.heap.objs.size+1)::(us++ds)) _ _ E (hr.make C us [])
  (I2.env0.make C us []) (hb _ (Value.ref (s.heap.objs.size+1)::us) I2.kIn hl) r2 hq) fun r s' hq'=>?_))
 cases r with
 | error e=>exact hx pins σ _ _ e s' I2 hq'
 | ok fl=>
  cases fl with
  | ret u=>
   obtain⟨v,H',I3,rv,ev,q3⟩:=I2.after hq'
   subst ev
   exact⟨rv,⟨V.ref (s.heap.objs.size+1),H',I3,rfl,q3⟩⟩
  | next=>exact False.elim hq'
  | brk=>exact False.elim hq'
  | cont=>exact False.elim hq'
theorem zzr(M:Mk X.K C f)(F:FnOk X.prog X.w X.K X.mg X.base CX k f fd ps sp)(hr:Room (k+1) X.A)(hg:Gl X x)(hm:X.mg x=some (.ref C))(hb:Binds X.K fd ps ds)(hd:Vals dvs ds)(hx:zf6 CX X E)
  (ha:PA X (e::es) t) (hdb:(x == ("__debug__" : Str))=false:=by decide) (he:starEach (e::es) X.env=(false,eval e X.env)::starEach es X.env:=by rfl) (hpl:(backTo pos (starEach es X.env)).any (·.1)=false:=by rfl) :
  PE X (.Call (.Name x p) (e::es) [] pos) (zr5 C sp dvs E t):=by
 refine⟨?_⟩
 intro pins s σ H Q I h
 refine y19 (zaq I hg hm ?_ hdb)
 refine y1x (h₀:=X.base) I.ok.mod.kin M.kp (thn (ha pos pins s σ H _ I h) fun us s1 ⟨vs,H1,I1,r,q⟩=>⟨I1.kIn,?_⟩) he hpl
 exact zwh M F hr hb hd hx I1 r q
end
section
variable{X:Cx}{CX:CXT}{k:Nat}{f C:Addr}{fd:yq}{ps ks:List Str}{sp:Sp}{E:XK}{x m:Str}{p pos apos kpos:Pos}{e o:Expr}{es:List Expr}{kws:List Keyword}{te ta:TE}{t tk:TA}{nm:Option Str}
structure KBinds(K:y3)(fd:yq)(ps ks:List Str)(g:List y4->List y4->List y4)(gV:List V->List V->List V):Prop where
 to:∀(s:y9) (us ws:List y4),K.In s.heap->(g us ws).length=ps.length->BindsTo s fd ⟨us,ks.zip ws⟩ (ps.zip (g us ws))
 rel:∀{vs:List V} {us:List y4} {zs:List V} {ws:List y4},Vals vs us->Vals zs ws->Vals (gV vs zs) (g us ws)
variable{g:List y4->List y4->List y4}{gV:List V->List V->List V}
end
structure FnScope(N P:List Str)(sc:Scope):Prop where
 kind:sc.kind=.function
 co:sc.isCoroutine=false
 gen:sc.isGenerator=false
 nd:N.Nodup
 pre:N.take P.length=P
 par:∀x∈P,sc.names.lookup x=some .local\/sc.names.lookup x=some .cell
 nofree:∀y∈sc.names,y.2≠.free
theorem zn9{kindOf:Str->Option NameKind}{x:Str}:∀{binds:List (Str×y4)} {m:Str->Option y4},(∀v,(x,v)∉binds)->bindL kindOf binds m x=m x
 | [],_,_=>rfl
 | (n,v)::r,m,h=>by
  unfold bindL
  rw [zn9 fun w hw=>h w (y0c _ hw)]
  split
  ·have:x≠n:=by rintro rfl; exact h v y0f
   simp[this]
  ·rfl
theorem znb{kindOf:Str->Option NameKind}{x:Str}:∀{binds:List (Str×y4)} {m:Str->Option y4},(∀v,(x,v)∉binds)->bindC kindOf binds m x=m x
 | [],_,_=>rfl
 | (n,v)::r,m,h=>by
  unfold bindC
  rw [znb fun w hw=>h w (y0c _ hw)]
  split
  ·rfl
  ·have:x≠n:=by rintro rfl; exact h v y0f
   simp[this]
theorem zna{kindOf:Str->Option NameKind}{x:Str}{v:y4}:∀{P:List Str} {vs:List y4} {i:Nat} {m:Str->Option y4},P.Nodup->P[i]?=some x->vs[i]?=some v->kindOf x=some .local->
  bindL kindOf (P.zip vs) m x=some v
 | [],_,_,_,_,h,_,_=>by simp at h
 | _::_,[],_,_,_,_,h,_=>by simp at h
 | p::P,w::vs,0,m,nd,h1,h2,hk=>by
  simp at h1 h2; subst h1; subst h2
  show bindL kindOf ((p,w)::P.zip vs) m p=_
  unfold bindL
  rw [zn9 fun v hv=>(List.nodup_cons.mp nd).1 (y2j hv).1,if_pos hk]
  simp
 | p::P,w::vs,i+1,m,nd,h1,h2,hk=>by
  show bindL kindOf ((p,w)::P.zip vs) m x=_
  unfold bindL
  exact zna (i:=i) (List.nodup_cons.mp nd).2 (by simpa using h1) (by simpa using h2) hk
theorem znc{kindOf:Str->Option NameKind}{x:Str}{v:y4}:∀{P:List Str} {vs:List y4} {i:Nat} {m:Str->Option y4},P.Nodup->P[i]?=some x->vs[i]?=some v->kindOf x≠some .local->
  bindC kindOf (P.zip vs) m x=some v
 | [],_,_,_,_,h,_,_=>by simp at h
 | _::_,[],_,_,_,_,h,_=>by simp at h
 | p::P,w::vs,0,m,nd,h1,h2,hk=>by
  simp at h1 h2; subst h1; subst h2
  show bindC kindOf ((p,w)::P.zip vs) m p=_
  unfold bindC
  rw [znb fun v hv=>(List.nodup_cons.mp nd).1 (y2j hv).1,if_neg hk]
  simp
 | p::P,w::vs,i+1,m,nd,h1,h2,hk=>by
  show bindC kindOf ((p,w)::P.zip vs) m x=_
  unfold bindC
  exact znc (i:=i) (List.nodup_cons.mp nd).2 (by simpa using h1) (by simpa using h2) hk
def start:List Str->List V->St
 | _::N,v::vs=>some v::start N vs
 | _::N,[]=>none::start N []
 | [],_=>[]
theorem zza{n:Str}{N:List Str}{v:V}{vs:List V}:start (n::N) (v::vs)=some v::start N vs:=rfl
theorem zz9{n:Str}{N:List Str}:start (n::N) []=none::start N []:=rfl
theorem zns:start [] []=[]:=rfl
theorem zco{n:Str}{N:List Str}{v:V}{vs:List V}{P:V->Prop}:atS 0 (start (n::N) (v::vs)) P=P v:=rfl
theorem zcn{i:Nat}{n:Str}{N:List Str}{v:V}{vs:List V}{P:V->Prop}:atS (i+1) (start (n::N) (v::vs)) P=atS i (start N vs) P:=rfl
theorem z8y{n:Str}{N:List Str}{v w:V}{vs:List V}{Q:St->Prop}:zra 0 v (start (n::N) (w::vs)) Q=Q (some v::start N vs):=rfl
theorem z8x{i:Nat}{n:Str}{N:List Str}{v w:V}{vs:List V}{Q:St->Prop}:zra (i+1) v (start (n::N) (w::vs)) Q=zra i v (start N vs) fun σ'=>Q (some w::σ'):=rfl
theorem z90{n:Str}{N:List Str}{v:V}{Q:St->Prop}:zra 0 v (start (n::N) []) Q=Q (some v::start N []):=rfl
theorem z8z{i:Nat}{n:Str}{N:List Str}{v:V}{Q:St->Prop}:zra (i+1) v (start (n::N) []) Q=zra i v (start N []) fun σ'=>Q (none::σ'):=rfl
theorem zpn:∀N:List Str,start N []=List.replicate N.length none
 | []=>rfl
 | _::N=>by rw [start,zpn N]; rfl
theorem zcv:∀{N:List Str} {vs:List V},vs.length<=N.length->start N vs=vs.map some++List.replicate (N.length - vs.length) none
 | N,[],_=>by rw [zpn]; simp
 | _::N,v::vs,h=>by
  rw [start,zcv (by simpa using h)]
  simp
 | [],_::_,h=>absurd h (by simp)
def z9g(CX:CXT)(P:yf)(w:yr)(K:y3)(mg:Str->Option y4)(base:Heap)(N:List Str)(qual:Str)(scope:Scope)(f:Addr)(cd:y4)(A:y01)(outer:List Env)(s:y9)(H:Hp)(E:XK):Cx where
 prog:=P
 w:=w
 K:=K
 mg:=mg
 base:=base
 A:=A.deeper (envOfC qual scope s.heap.objs.size f cd)
 N:=N
 s₀:=s
 H₀:=H
 env:=envOfC qual scope s.heap.objs.size f cd
 outer:=outer
 stack:=envOfC qual scope s.heap.objs.size f cd::outer
 ex:=[]
 calm:=true
 fn:=fun _=>true
 pn:=[]
 xe:=fun e s'=>wpAny (model P w) (A.deeper (envOfC qual scope s.heap.objs.size f cd)) (leaving (envOfC qual scope s.heap.objs.size f cd) e) (fun _ s''=>CX outer H s E e s'') (fun e' s''=>CX outer H s E e' s'') s'
theorem zqv{sc:Scope}{n:Nat}{x:Str}(h:sc.names.lookup x=some .cell):∃c,(cellsFrom n sc.names []).lookup x=some c:=by
 have q:=PySem.W.cellsFrom_some sc.names n [] (.inl h)
 exact Option.isSome_iff_exists.mp q
theorem zme{CX:CXT}{P:yf}{w:yr}{K:y3}{mg:Str->Option y4}{base:Heap}{N ps:List Str}{qual:Str}{scope:Scope}{f:Addr}{cd:y4}{A:y01}{outer:List Env}{s s1:y9}{H:Hp}{E:XK}{us:List y4}{vs:List V}
  (S:FnScope N ps scope) (hd:A.handled=none) (e0:Env0 P w K mg base A outer s H) (hl:vs.length=ps.length) (r:Vals vs us)
  (x:InCallC s s.heap.objs.size (bindL (envOfC qual scope s.heap.objs.size f cd).kindOf (ps.zip us) fun _=>none) (cellsFrom (s.heap.objs.size+1) scope.names []) (bindC (envOfC qual scope s.heap.objs.size f cd).kindOf (ps.zip us) fun _=>none) s1) :
  Inv (z9g CX P w K mg base N qual scope f cd A outer s H E) [] (start N vs) H s1:=by
 have hpl:ps.length<=N.length:=by have:=congrArg List.length S.pre; rw [y0a] at this; omega
 obtain⟨h1,tk,rfl,hk⟩:=x.done
 have noA:∀b:Addr,b∉(z9g CX P w K mg base N qual scope f cd A outer s H E).ex:=fun b z=>absurd (show b∈([]:List Addr) from z) (by simp)
 refine⟨⟨e0.mod,S.kind,rfl,rfl,yg _,fun y z c h1 h2=>?_,fun y hy=>?_,fun y c _ h=>?_,fun _=>hd,Around.frames_deeper e0.frames,.inr ⟨rfl,rfl⟩,fun b z=>absurd z (noA b),e0.bs,e0.bsz,fun b _ _=>noA b,fun b z=>absurd z (noA b),e0.funs,e0.frf⟩,
  rfl,e0.bare,Un.kept hk,⟨_,x.toInCall.ns,fun i y v h1 h2 h3=>?_⟩,fun y c h=>⟨_,x.cell y c h⟩,e0.hok.fresh (yg _),fun y c h=>?_,fun p hp=>absurd (show p∈([]:List (Addr×Obj)) from hp) (by simp),e0.hok.kept hk,?_⟩
 ·exact name_of_addr x.apart (y0n h1) (y0n h2)
 ·have hy:scope.names.lookup y=some .cell\/scope.names.lookup y=some .free:=hy
  rcases hy with hy | hy
  ·exact zqv hy
  ·exact absurd rfl (S.nofree _ (y0n hy))
 ·exact y18 (x.above y c (y0n h))
 ·have hi:i < vs.length:=by
   rw [zcv (by omega)] at h2
   by_cases hi:i < vs.length
   ·exact hi
   ·rw [y27 (by simpa using hi)] at h2
    rw [List.getElem?_replicate] at h2
    split at h2<;>cases h2
  have ha:vs[i]?=some v:=by
   rw [zcv (by omega)] at h2
   rw [y2a (by simpa using hi),y00] at h2
   cases e:vs[i]? with
   | none=>rw [e] at h2; cases h2
   | some a=>rw [e] at h2; cases h2; rfl
  obtain⟨u,hu,rv⟩:=r.get ha
  have hp:ps[i]?=some y:=by
   rw [<- S.pre,y2g (by omega)]; exact h1
  have ndP:ps.Nodup:=by rw [<- S.pre]; exact S.nd.sublist (List.take_sublist _ _)
  refine⟨u,rv,?_⟩
  rcases S.par y (yv hp) with k | k
  ·exact .inl ⟨k,zna ndP hp hu k⟩
  ·obtain⟨c,e⟩:=zqv (n:=s.heap.objs.size+1) k
   refine .inr ⟨.inl k,c,e,?_⟩
   have q:=x.cell y c e
   rw [znc ndP hp hu (by show scope.names.lookup y≠_; rw [k]; decide)] at q
   exact q
 ·exact e0.hok.fresh (y18 (x.above y c (y0n h)))
 ·show(start N vs).length=N.length
  rw [zcv (by omega)]
  rw [yd,y8,List.length_replicate]
  omega
theorem q0v{CX:CXT}{P:yf}{w:yr}{K:y3}{mg:Str->Option y4}{base:Heap}{k:Nat}{f:Addr}{name qual:Str}{params:Arguments}{body:List Stmt}{scope:Scope}{dV kV doc pm cdv ct oc:y4}{an od:Option Addr}
  {osl:Array (Option y4)} {N ps:List Str} {sp:Sp} (lk:K.lookup f=some ⟨oc,od,.func (PySem.W.fnOf name qual params body scope dV kV doc pm an cdv ct),osl⟩) (hcd:PySem.W.codeIn K cdv qual=true) (S:FnScope N ps scope)
  (len:∀vs H Q E,sp vs H Q E->vs.length=ps.length)
  (hbody:∀(A:y01) (outer:List Env) (s:y9) (H:Hp) (vs:List V) (Q:VK) (E:XK),Room k (A.deeper (envOfC qual scope s.heap.objs.size f cdv))->sp vs H Q E->
   ∃t,PSs (z9g CX P w K mg base N qual scope f cdv A outer s H E) body t/\t {nx:=fun _ H'=>Q .non H',rt:=Q} (start N vs) H) :
  FnOk P w K mg base CX (k+1) f (PySem.W.fnOf name qual params body scope dV kV doc pm an cdv ct) ps sp:=by
 refine⟨len,fun A outer s H args us vs Q E hr e0 hb r hsp=>?_⟩
 have hl:=len _ _ _ _ hsp
 have KX:K.In s.heap:=e0.mod.kin.keeps fun b o e=>(e0.bs b o e).1
 have lim:s.heap.NoLimit:=e0.mod.nolimit.keeps fun b o e=>(e0.bs b o e).1
 have hkind:∀y∈ps.zip us,scope.names.lookup y.1=some .local\/(scope.names.lookup y.1=some .cell/\((cellsFrom (s.heap.objs.size+1) scope.names []).lookup y.1).isSome=true):=fun⟨n,v⟩ hy=>by
  rcases S.par n (y2j hy).1 with q | q
  ·exact .inl q
  ·exact .inr ⟨q,PySem.W.cellsFrom_some _ _ _ (.inl q)⟩
 refine codeAny_call_function hr.depth (KX _ _ lk) rfl S.co S.gen rfl (PySem.W.codeRec_of KX hcd) (hb _ _ _ _ ?_)
 refine wpAny_newFunctionEnv_cells S.kind hkind fun env he s1 x=>?_
 subst he
 refine⟨lim.keeps x.toInCall.keep,codeAny_func ?_⟩
 obtain⟨t,ht,hq⟩:=hbody A outer s H vs Q E (hr.deeper _) hsp
 have I:Inv (z9g CX P w K mg base N qual scope f cdv A outer s H E) [] (start N vs) H s1:=zme S hr.hd e0 hl r x
 refine y0l (ht [] s1 (start N vs) H _ I hq) (fun fl s' hs=>?_) fun e s' hs=>hs
 have fin:∀{σ':St} {H':Hp} {v:V} {u:y4},Inv (z9g CX P w K mg base N qual scope f cdv A outer s H E) [] σ' H' s'->RelV v u->Q v H'->CE outer P w H s Q u s':=
  fun {σ' H' v u} J rv q=>⟨v,H',J.os,J.bare,J.base,J.hok,rv,q⟩
 cases fl with
 | ret u=>
  obtain⟨v,σ',H',J,rv,q⟩:=hs
  exact fin J rv q
 | next=>
  obtain⟨σ',H',J,q⟩:=hs
  exact fin (v:=V.non) (u:=Value.none) J rfl q
 | brk=>
  obtain⟨_,_,_,q⟩:=hs
  exact False.elim q
 | cont=>
  obtain⟨_,_,_,q⟩:=hs
  exact False.elim q
end L2
namespace L2
open PySem PySem.Spec PyProof.Rows
section
variable{X:Cx}{x:Str}{p pos:Pos}{e:Expr}{es:List Expr}{t:TA}{id T:String}{r:List V->Hp->VK->Prop}
def tCB(r:List V->Hp->VK->Prop)(t:TA):TE:=fun σ H Q=>t σ H fun vs H1=>r vs H1 Q
theorem zwu(hc:CallR X (.builtin id) r)(hg:Gl X x)(hm:X.mg x=none)(hv:bootBuiltins x=some (.builtin id))(ha:PA X (e::es) t) (hn:x≠"__name__":=by decide) (hdb:(x == ("__debug__" : Str))=false:=by decide)
  (he:starEach (e::es) X.env=(false,eval e X.env)::starEach es X.env:=by rfl) (hpl:(backTo pos (starEach es X.env)).any (·.1)=false:=by rfl):PE X (.Call (.Name x p) (e::es) [] pos) (tCB r t):=by
 refine⟨?_⟩
 intro pins s σ H Q I h
 refine y19 (zhc I hg hm hv ?_ hn hdb)
 exact PyProof.Rows.callWith_builtin1 (thn (ha pos pins s σ H _ I h) fun us s1 ⟨vs,H1,I1,r1,q1⟩=>hc pins s1 σ H1 vs us Q I1 r1 q1) he hpl
theorem zto(hc:CallR X (.type T) r)(hg:Gl X x)(hm:X.mg x=none)(hv:bootBuiltins x=some (.type T))(ha:PA X (e::es) t) (hn:x≠"__name__":=by decide) (hdb:(x == ("__debug__" : Str))=false:=by decide)
  (he:starEach (e::es) X.env=(false,eval e X.env)::starEach es X.env:=by rfl) (hpl:(backTo pos (starEach es X.env)).any (·.1)=false:=by rfl):PE X (.Call (.Name x p) (e::es) [] pos) (tCB r t):=by
 refine⟨?_⟩
 intro pins s σ H Q I h
 refine y19 (zhc I hg hm hv ?_ hn hdb)
 exact y1i (thn (ha pos pins s σ H _ I h) fun us s1 ⟨vs,H1,I1,r1,q1⟩=>hc pins s1 σ H1 vs us Q I1 r1 q1) he hpl
end
end L2
namespace HT
open PySem PyProof.Rows
section
open PySem.SeqAt
open PySem.AutoSeq1 (wpAny_loadPart')
open PySem.MeetsSeq PySem.MeetsSeq2 PySem.MeetsSeq3
end
section
variable{prog:yf}{w:yr}{A:y01}{E:y4->y9->Prop}{s:y9}
theorem q1b{t b:Addr}{vs ws:List y4}{Q:y4->y9->Prop}(ht:IsTup s.heap t vs.toArray)(hb:IsTup s.heap b ws.toArray)(hv:vs≠[])
  (h1:ws=[]->Q (.ref t) s) (h2:ws≠[]->Q (.ref s.heap.objs.size) {s with heap:=s.heap.push {cls:=.type "tuple",data:=.seq (vs++ws).toArray}})
  (hsz:vs.length+ws.length<=sizeLine):wpAny (model prog w) A (binaryOp .Add (.ref t) (.ref b)) Q E s:=by
 obtain⟨⟨cls,dd,data,sl⟩,ho,hc,n,hd⟩:=id ht
 obtain⟨⟨cls2,dd2,data2,sl2⟩,ho2,hc2,n2,hd2⟩:=id hb
 simp only at hc hd hc2 hd2
 subst hc hd hc2 hd2
 have e:vs.toArray++ws.toArray=(vs++ws).toArray:=by simp
 by_cases hw:ws=[]
 ·exact concat_meets ⟨_,ho,rfl⟩ ⟨_,ho2,rfl⟩ noFill_tuple_add seq_tuple_add PySem.F.slot_tuple_add PySem.F.entry_tuple_add (PySem.F.args_tuple_add_2 _ _)
   (tuple_addW1 t b vs.toArray ws.toArray n n2 dd dd2 sl sl2 (by simpa using hv) (by simp[hw])) ⟨ho,ho2,h1 hw⟩
 ·refine concat_meets ⟨_,ho,rfl⟩ ⟨_,ho2,rfl⟩ noFill_tuple_add seq_tuple_add PySem.F.slot_tuple_add PySem.F.entry_tuple_add (PySem.F.args_tuple_add_2 _ _)
   (tuple_addW2 t b vs.toArray ws.toArray n n2 dd dd2 sl sl2 (by simpa using hv) (by simpa using hw) (by rw [yy,yy]; exact hsz)) ⟨ho,ho2,?_⟩
  rw [e]
  exact h2 hw
def sIx(n d:Nat):Option Int->Nat
 | none=>d
 | some v=>if v < 0 then(v+(n:Int)).toNat else min v.toNat n
theorem zjr(n d:Nat):sIx n d none=d:=rfl
theorem zo2(n d k:Nat):sIx n d (some (k:Int))=min k n:=by
 show(if(k:Int) < 0 then((k:Int)+(n:Int)).toNat else min (k:Int).toNat n)=min k n
 rw [if_neg (by omega),y2s]
end
end HT
namespace L2
open PySem PySem.Spec PyProof.Rows
abbrev TO:=St->Hp->(Option Int->Hp->Prop)->Prop
abbrev POv(X:Cx)(e:Option Expr)(t:TO):Prop:=
 ∀(pins:List (Addr×Obj)) (s:y9) (σ : St) (H:Hp) (Q:Option Int->Hp->Prop),Inv X pins σ H s->t σ H Q->
  wpAny (model X.prog X.w) X.A (evalPart e X.env) (fun u s'=>∃o H',Inv X pins σ H' s'/\IsPart u o/\Q o H') X.xe s
structure PO(X:Cx)(e:Option Expr)(t:TO):Prop where
 run:POv X e t
instance{X:Cx}{e:Option Expr}{t:TO}:CoeFun (PO X e t) (fun _=>POv X e t):=⟨PO.run⟩
def zaa:TO:=fun _ H Q=>Q none H
def zl7(t:TE):TO:=fun σ H Q=>t σ H fun x H1=>isI x fun i=>Q (some i) H1
section
variable{X:Cx}{e:Expr}{te:TE}{lo hi:Option Expr}{tl th:TO}{pos p2:Pos}
theorem zjy:PO X none zaa:=by
 refine⟨?_⟩
 intro pins s σ H Q I h
 rw [evalPart_none]
 exact yo ⟨none,H,I,.none,h⟩
theorem zea(h:PE X e te):PO X (some e) (zl7 te):=by
 refine⟨?_⟩
 intro pins s σ H Q I hw
 rw [evalPart_some]
 refine thn (h pins s σ H _ I hw) fun u s1 ⟨x,H1,I1,r1,q1⟩=>?_
 obtain⟨i,rfl,q⟩:=isI.o q1
 obtain⟨t,rfl⟩:=r1
 exact⟨some i,H1,I1,.int i t,q⟩
def SlR(X:Cx)(r:V->Option Int->Option Int->Hp->VK->Prop):Prop:=
 ∀(pins:List (Addr×Obj)) (s:y9) (σ : St) (H:Hp) (x:V) (v vl vu:y4) (lo hi:Option Int) (sl:Addr) (Q:VK),Inv X pins σ H s->RelV x v->s.heap.IsSliceOf sl vl vu .none->IsPart vl lo->IsPart vu hi->r x lo hi H Q->
  ∃T id,typeLookup (.type T) "__getitem__" = pure (some (.builtin id))/\s.TypeIs v T/\wpAny (model X.prog X.w) X.A (getItem v (.ref sl)) (EP X pins σ Q) X.xe s
theorem SlR.or{r r':V->Option Int->Option Int->Hp->VK->Prop}(h:SlR X r)(h':SlR X r'):SlR X (fun x lo hi H Q=>r x lo hi H Q\/r' x lo hi H Q):=by
 intro pins s σ H x v vl vu lo hi sl Q I rx hs pl pu q
 rcases q with q | q
 ·exact h pins s σ H x v vl vu lo hi sl Q I rx hs pl pu q
 ·exact h' pins s σ H x v vl vu lo hi sl Q I rx hs pl pu q
def tSl(r:V->Option Int->Option Int->Hp->VK->Prop)(te:TE)(tl th:TO):TE:=fun σ H Q=>te σ H fun x H1=>tl σ H1 fun l H2=>th σ H2 fun u H3=>r x l u H3 Q
theorem zg1{r:V->Option Int->Option Int->Hp->VK->Prop}(hr:SlR X r)(he:PE X e te)(hl:PO X lo tl)(hu:PO X hi th):PE X (.Subscript e (.Slice lo hi none p2) pos) (tSl r te tl th):=by
 refine⟨?_⟩
 intro pins s σ H Q I h
 refine Subscript_ (thn (he pins s σ H _ I h) fun v s1 ⟨x,H1,I1,r1,q1⟩=>?_)
 refine wpAny_Slice (thn (hl pins s1 σ H1 _ I1 q1) fun vl s2 ⟨l,H2,I2,pl,q2⟩=>thn (hu pins s2 σ H2 _ I2 q2) fun vu s3 ⟨u,H3,I3,pu,q3⟩=>?_)
 rw [evalPart_none]
 refine yo ?_
 have I4:Inv X pins σ H3 {s3 with heap:=s3.heap.push {cls:=.type "slice",data:=.fields #[vl,vu,.none]}}:=I3.kept (t':=s3.toks) fun b ob q=>y6 _ q
 obtain⟨T,id,hT,ht,hg⟩:=hr pins {s3 with heap:=s3.heap.push {cls:=.type "slice",data:=.fields #[vl,vu,.none]}} σ H3 x v vl vu l u s3.heap.objs.size Q I4 r1 (Heap.IsSliceOf.new ..) pl pu q3
 show wpAny (model X.prog X.w) X.A (subscriptTail e (.Slice lo hi none p2) v (.ref s3.heap.objs.size)) (EP X pins σ Q) X.xe {s3 with heap:=s3.heap.push {cls:=.type "slice",data:=.fields #[vl,vu,.none]}}
 exact tail_any (ops:=[.ref s3.heap.objs.size,v]) ht hT hg (by with_unfolding_all rfl)
def zpb(xs:List V)(lo hi:Option Int):List V:=(xs.drop (HT.sIx xs.length 0 lo)).take (HT.sIx xs.length xs.length hi - HT.sIx xs.length 0 lo)
theorem zpa(xs:List V)(lo hi:Option Int):(zpb xs lo hi).length<=xs.length:=by
 unfold zpb
 rw [y0a,List.length_drop]
 omega
def zzf(K:y3):V->Option Int->Option Int->Hp->VK->Prop:=fun x lo hi H Q=>∃a xs,x=.ref a/\SqT K H a xs/\
 ¬ (HT.sIx xs.length 0 lo=0/\HT.sIx xs.length xs.length hi=xs.length)/\∀p,H p=none->Q (.ref p) (upd H p (.tup (zpb xs lo hi)))
def q4g(K:y3):R2:=fun x y H Q=>∃a b xs ys,x=.ref a/\y=.ref b/\SqT K H a xs/\SqT K H b ys/\xs≠[]/\xs.length+ys.length<=sizeLine/\
 (ys=[]->Q (.ref a) H)/\(ys≠[]->∀p,H p=none->Q (.ref p) (upd H p (.tup (xs++ys))))
theorem Vals.nil_iff{xs:List V}{us:List y4}(r:Vals xs us):us=[]↔xs=[]:=by
 cases r with
 | nil=>simp
 | cons _ _=>simp
theorem q02:OpR X (binaryOp .Add) (q4g X.K):=by
 intro pins s σ H x y v u Q I rx ry h
 obtain⟨a,b,xs,ys,rfl,rfl,ha,hb,hx,hz,q1,q2⟩:=h
 cases rx
 cases ry
 obtain⟨its,r1,p1,_⟩:=I.tuple ha
 obtain⟨its2,r2,p2,_⟩:=I.tuple hb
 refine HT.q1b p1 p2 (fun z=>hx (r1.nil_iff.mp z)) (fun z=>⟨.ref a,H,I,rfl,q1 (r2.nil_iff.mp z)⟩) (fun z=>?_) (by rw [<- r1.length,<- r2.length]; exact hz)
 refine⟨.ref s.heap.objs.size,_,I.laid (t':=s.toks) (o:=.tup (xs++ys)) (fun b ob q=>y6 _ q) (yg _) ?_,rfl,q2 (fun w=>z (r2.nil_iff.mpr w)) _ (I.hok.fresh (yg _))⟩
 exact⟨by rw [yd]; exact hz,_,r1.append r2,IsTup.new _ _⟩
end
end L2
namespace L2
open PySem PySem.Spec PyProof.Rows
def ixN(n:Nat)(i:Int):Option Nat:=if 0<=i then(if i < n then some i.toNat else none) else if -(n:Int)<=i then some (i+n).toNat else none
def atI{α : Type}(xs:List α)(i:Int):Option α:=(ixN xs.length i).bind fun j=>xs[j]?
theorem q0l{n:Nat}{i:Int}{j:Nat}(h:ixN n i=some j):seqIndex? i n=some j/\j < n/\-(n:Int)<=i/\i < n:=by
 unfold ixN at h
 by_cases h0:0<=i
 ·rw [if_pos h0] at h
  by_cases h1:i < n
  ·rw [if_pos h1] at h
   have e:i.toNat=j:=y04 h
   exact⟨by rw [seqIndex_of h0 h1,e],by omega,by omega,h1⟩
  ·rw [if_neg h1] at h; cases h
 ·rw [if_neg h0] at h
  by_cases h1 : -(n:Int)<=i
  ·rw [if_pos h1] at h
   have e:(i+n).toNat=j:=y04 h
   exact⟨by rw [seqIndex_neg (by omega) h1,e],by omega,h1,by omega⟩
  ·rw [if_neg h1] at h; cases h
theorem zvx{α : Type}{xs:List α}{i:Int}{v : α}(h:atI xs i=some v):∃j,seqIndex? i xs.length=some j/\xs[j]?=some v/\j < xs.length/\-(xs.length:Int)<=i/\i < xs.length:=by
 unfold atI at h
 cases e:ixN xs.length i with
 | none=>rw [e] at h; cases h
 | some j=>
  rw [e] at h
  obtain⟨h1,h2,h3,h4⟩:=q0l e
  exact⟨j,h1,h,h2,h3,h4⟩
theorem z1b{α : Type}{xs:List α}{j:Nat}{v : α}(h:xs[j]?=some v):atI xs (j:Int)=some v:=by
 have hj:j < xs.length:=(List.getElem?_eq_some_iff.mp h).1
 have e:ixN xs.length (j:Int)=some j:=by
  unfold ixN
  rw [if_pos (by omega),if_pos (by omega)]; simp
 unfold atI; rw [e]; exact h
theorem zxy{α : Type}(xs:List α)(v : α):atI (xs++[v]) (-1)=some v:=by
 have hl:(xs++[v]).length=xs.length+1:=by simp
 have e:ixN (xs++[v]).length (-1)=some xs.length:=by
  unfold ixN
  rw [hl,if_neg (by decide),if_pos (by omega)]
  congr 1
  omega
 unfold atI
 rw [e]
 show(xs++[v])[xs.length]?=some v
 simp
def q1l(b:Expr):Prop:=∀o i,subscripted b false o i=operate [o,i] (getItem o i)
def IxR(X:Cx)(r:R2):Prop:=
 ∀(value slice:Expr) (pins:List (Addr×Obj)) (s:y9) (σ : St) (H:Hp) (x y:V) (v u:y4) (Q:VK),Inv X pins σ H s->RelV x v->RelV y u->r x y H Q->
  subscripted slice false v u=operate [v,u] (getItem v u)->wpAny (model X.prog X.w) X.A (subscriptTail value slice v u) (EP X pins σ Q) X.xe s
def MtR(X:Cx)(id:String)(r:V->List V->Hp->VK->Prop):Prop:=
 ∀(pins:List (Addr×Obj)) (s:y9) (σ : St) (H:Hp) (x:V) (xs:List V) (v:y4) (us:List y4) (Q:VK),Inv X pins σ H s->RelV x v->Vals xs us->r x xs H Q->
  wpAny (model X.prog X.w) X.A (call (.builtin id) (v::us)) (EP X pins σ Q) X.xe s
section
variable{X:Cx}{a b:Expr}{ta tb:TE}{pos:Pos}
theorem IxR.or{r r':R2}(h:IxR X r)(h':IxR X r'):IxR X (fun x y H Q=>r x y H Q\/r' x y H Q):=by
 intro value slice pins s σ H x y v u Q I rx ry q hs
 rcases q with q | q
 ·exact h value slice pins s σ H x y v u Q I rx ry q hs
 ·exact h' value slice pins s σ H x y v u Q I rx ry q hs
theorem MtR.or{id:String}{r r':V->List V->Hp->VK->Prop}(h:MtR X id r)(h':MtR X id r'):MtR X id (fun x xs H Q=>r x xs H Q\/r' x xs H Q):=by
 intro pins s σ H x xs v us Q I rx rs q
 rcases q with q | q
 ·exact h pins s σ H x xs v us Q I rx rs q
 ·exact h' pins s σ H x xs v us Q I rx rs q
theorem z0u{r:R2}(hr:IxR X r)(ha:PE X a ta)(hb:PE X b tb)(hs:q1l b):PE X (.Subscript a b pos) (tOp r ta tb):=by
 refine⟨?_⟩
 intro pins s σ H Q I h
 exact Subscript_ (q4q ha hb I h fun v u s2 x y H2 I2 rx ry q=>hr a b pins s2 σ H2 x y v u Q I2 rx ry q (hs _ _))
def zta(K:y3):R2:=fun x y H Q=>isRf x fun p=>∃xs,isI y fun i=>SqL K H p xs/\∃v,atI xs i=some v/\Q v H
def zpv(K:y3):R2:=fun x y H Q=>isRf x fun p=>∃xs,isI y fun i=>SqT K H p xs/\∃v,atI xs i=some v/\Q v H
def zye:R2:=fun x y H Q=>∃z i c,x=.str z/\y=.int i/\z.length<=sizeLine/\atI z.cps.toList i=some c/\Q (.str ⟨#[c]⟩) H
theorem z2t:IxR X (zta X.K):=by
 intro value slice pins s σ H x y v u Q I rx ry h hs
 obtain⟨p,rfl,xs,hA⟩:=isRf.o h
 obtain⟨i,rfl,hq,z,he,q⟩:=isI.o hA
 cases rx
 obtain⟨t,rfl⟩:=ry
 obtain⟨its,r,pl,hz⟩:=I.list hq
 obtain⟨j,h1,h2,h3,h4,h5⟩:=zvx he
 obtain⟨w,ew,rw'⟩:=r.get h2
 have hl:=r.length
 have hn:=zq6
 have fin:EP X pins σ Q w s:=⟨z,H,I,rw',q⟩
 by_cases h0:0<=i
 ·have hj:i.toNat=j:=by
   rw [seqIndex_of h0 h5] at h1
   exact y04 h1
  exact item_listR pl.isList h0 (by omega) (by rw [hj]; simpa using ew) fin hs
 ·have hj:(i+(its.toArray.size:Int)).toNat=j:=by
   rw [seqIndex_neg (by omega) h4] at h1
   rw [yy,<- hl]
   exact y04 h1
  exact subscriptTail_builtinR (x:=w) pl.isList.typeIs slot_list_getitem.lookup
   (wpAny_getItem_list_neg (Q:=fun r s'=>r=w/\EP X pins σ Q r s') pl.isList (by omega) (by rw [yy]<;>omega) (by omega) (by rw [hj]; simpa using ew) ⟨rfl,fin⟩) hs
theorem z0o:IxR X (zpv X.K):=by
 intro value slice pins s σ H x y v u Q I rx ry h hs
 obtain⟨p,rfl,xs,hA⟩:=isRf.o h
 obtain⟨i,rfl,hq,z,he,q⟩:=isI.o hA
 cases rx
 obtain⟨t,rfl⟩:=ry
 obtain⟨its,r,pl,hz⟩:=I.tuple hq
 obtain⟨j,h1,h2,h3,h4,h5⟩:=zvx he
 obtain⟨w,ew,rw'⟩:=r.get h2
 have hl:=r.length
 have hn:=zq6
 have fin:EP X pins σ Q w s:=⟨z,H,I,rw',q⟩
 exact subscriptTail_builtinR (x:=w) pl.typeIs slot_tuple_getitem.lookup
  (getItem_tuple (j:=j) (Q:=fun r s'=>r=w/\EP X pins σ Q r s') pl (by omega) (by omega) (by rw [yy,<- hl]; exact h1) (by simpa using ew) ⟨rfl,fin⟩) hs
def rIx(K:y3):R2:=fun x y H Q=>zta K x y H Q\/zpv K x y H Q\/zye x y H Q
theorem Inv.lst{pins:List (Addr×Obj)}{σ : St}{H:Hp}{s:y9}{p:Addr}{xs:List V}(I:Inv X pins σ H s)(h:H p=some (.lst xs)) :
  ∃(its:List y4) (n:Nat),Vals xs its/\s.heap.get? p=some {cls:=.type "list",data:=.seq its.toArray n}/\xs.length<=sizeLine:=by
 obtain⟨z,its,n,r,e⟩:=I.hok p _ h
 exact⟨its,n,r,e,z⟩
theorem zlj(lo hi:Option Int)(n:Nat):(sliceBounds lo hi none n).1=((HT.sIx n 0 lo:Nat):Int)/\(sliceBounds lo hi none n).2.1=((HT.sIx n n hi:Nat):Int)/\(sliceBounds lo hi none n).2.2=1:=by
 refine⟨?_,?_,rfl⟩
 ·cases lo with
  | none=>simp[sliceBounds,HT.sIx]
  | some i=>
   simp only[sliceBounds,HT.sIx,Option.getD_none,show(1:Int) > 0 by decide,if_true]
   by_cases h:i < 0
   ·simp only[h,if_true]<;>omega
   ·simp only[h,if_false]<;>omega
 ·cases hi with
  | none=>simp[sliceBounds,HT.sIx]
  | some i=>
   simp only[sliceBounds,HT.sIx,Option.getD_none,show(1:Int) > 0 by decide,if_true]
   by_cases h:i < 0
   ·simp only[h,if_true]<;>omega
   ·simp only[h,if_false]<;>omega
theorem zjk(its:List y4)(lo hi:Option Int):slicePick its.toArray lo hi none=((its.drop (HT.sIx its.length 0 lo)).take (HT.sIx its.length its.length hi - HT.sIx its.length 0 lo)).toArray:=by
 obtain⟨h1,h2,h3⟩:=zlj lo hi its.toArray.size
 unfold slicePick
 rw [h1,h2,h3]
 simp only[sliceRange_one,pick_run,yy]<;>rfl
def zyd(K:y3):V->Option Int->Option Int->Hp->VK->Prop:=fun x lo hi H Q=>∃a xs,x=.ref a/\SqL K H a xs/\∀p,H p=none->Q (.ref p) (upd H p (.lst (zpb xs lo hi)))
theorem zjl:SlR X (zyd X.K):=by
 intro pins s σ H x v vl vu lo hi sl Q I rx hs pl pu h
 obtain⟨a,xs,rfl,hx,q⟩:=h
 cases rx
 obtain⟨its,r,ht,hz⟩:=I.list hx
 have hlen:=r.length
 refine⟨"list",_,slot_list_getitem.lookup,ht.isList.typeIs,?_⟩
 refine wpAny_getItem_list_slice ht.isList hs pl pu .none (by simp) ?_ (by rw [yy]<;>omega)
 rw [zjk,<- hlen]
 refine⟨.ref s.heap.objs.size,_,I.laid (t':=s.toks) (o:=.lst (zpb xs lo hi)) (fun b ob q=>y6 _ q) (yg _) ?_,rfl,q _ (I.hok.fresh (yg _))⟩
 exact⟨y0b (zpa xs lo hi) hz,_,0,(r.drop (HT.sIx xs.length 0 lo)).take (HT.sIx xs.length xs.length hi - HT.sIx xs.length 0 lo),yi _ rfl⟩
def za3:V->Bool
 | .non=>true
 | .bl _=>true
 | .int _=>true
 | .str _=>true
 | _=>false
def eqV:V->V->Bool
 | .non,.non=>true
 | .bl a,.bl b=>a == b
 | .bl a,.int b=>(if a then 1 else 0) == b
 | .int a,.bl b=>a == (if b then 1 else 0)
 | .int a,.int b=>a == b
 | .str a,.str b=>a == b
 | _,_=>false
theorem q3b{A:y01}{s:y9}{y x:V}{u v:y4}(ry:RelV y u)(rx:RelV x v)(fy:za3 y=true)(fx:za3 x=true):SeqAt.EqAt A s u v (eqV y x):=by
 cases y with
 | non=>
  cases ry
  cases x with
  | non=>cases rx; exact SeqAt.EqAt.same _
  | bl b=>cases rx; exact SeqAt.EqAt.none_bool b
  | int b=>obtain⟨t,rfl⟩:=rx; exact SeqAt.EqAt.none_int b t
  | str b=>obtain⟨t,rfl⟩:=rx; exact SeqAt.EqAt.none_str b t
  | _=>exact absurd (show false=true from fx) yp
 | bl a=>
  cases ry
  cases x with
  | non=>cases rx; exact SeqAt.EqAt.bool_none a
  | bl b=>cases rx; exact SeqAt.EqAt.bool_bool a b
  | int b=>obtain⟨t,rfl⟩:=rx; exact SeqAt.EqAt.bool_int a b t
  | str b=>obtain⟨t,rfl⟩:=rx; exact SeqAt.EqAt.bool_str a b t
  | _=>exact absurd (show false=true from fx) yp
 | int a=>
  obtain⟨t',rfl⟩:=ry
  cases x with
  | non=>cases rx; exact SeqAt.EqAt.int_none a t'
  | bl b=>cases rx; exact SeqAt.EqAt.int_bool a t' b
  | int b=>obtain⟨t,rfl⟩:=rx; exact SeqAt.EqAt.int_int a t' b t
  | str b=>obtain⟨t,rfl⟩:=rx; exact SeqAt.EqAt.int_str a t' b t
  | _=>exact absurd (show false=true from fx) yp
 | str a=>
  obtain⟨t',rfl⟩:=ry
  cases x with
  | non=>cases rx; exact SeqAt.EqAt.str_none a t'
  | bl b=>cases rx; exact SeqAt.EqAt.str_bool a t' b
  | int b=>obtain⟨t,rfl⟩:=rx; exact SeqAt.EqAt.str_int a t' b t
  | str b=>obtain⟨t,rfl⟩:=rx; exact SeqAt.EqAt.str_str a t' b t
  | _=>exact absurd (show false=true from fx) yp
 | _=>exact absurd (show false=true from fy) yp
def eqU(x:V)(u:y4):Bool:=match u with
 | .none=>eqV .non x
 | .bool b=>eqV (.bl b) x
 | .int i _=>eqV (.int i) x
 | .str z _=>eqV (.str z) x
 | _=>false
theorem zyu{x y:V}{u:y4}(r:RelV y u)(f:za3 y=true):eqU x u=eqV y x:=by
 cases y with
 | non=>cases r; rfl
 | bl b=>cases r; rfl
 | int i=>obtain⟨t,rfl⟩:=r; rfl
 | str z=>obtain⟨t,rfl⟩:=r; rfl
 | _=>exact absurd (show false=true from f) yp
theorem zid{x:V}:∀{xs:List V} {us:List y4},Vals xs us->xs.all za3=true->us.any (eqU x)=xs.any fun y=>eqV y x
 | _,_,.nil,_=>rfl
 | y::xs,u::us,.cons r t,f=>by
  rw [List.all_cons,yw] at f
  rw [y16,y16,zyu r f.1,zid t f.2]
theorem zd7{A:y01}{s:y9}{x:V}{v:y4}(rx:RelV x v)(fx:za3 x=true):∀{xs:List V} {us:List y4},Vals xs us->xs.all za3=true->∀u∈us,SeqAt.EqAt A s u v (eqU x u)
 | _,_,.nil,_=>fun u hu=>by cases hu
 | y::xs,u::us,.cons r t,f=>fun u' hu=>by
  rw [List.all_cons,yw] at f
  rcases List.mem_cons.mp hu with rfl | hu
  ·rw [zyu r f.1]; exact q3b r rx f.1 fx
  ·exact zd7 rx fx t f.2 u' hu
def inV(x:V)(xs:List V):Bool:=xs.any fun y=>eqV y x
def rIn(K:y3)(neg:Bool):R2:=fun x y H Q=>∃p xs,y=.ref p/\(SqL K H p xs\/SqT K H p xs)/\za3 x=true/\xs.all za3=true/\Q (.bl (if neg then !inV x xs else inV x xs)) H
theorem ztt:OpR X (compareOp .In) (rIn X.K false):=by
 intro pins s σ H x y v u Q I rx ry h
 obtain⟨p,xs,rfl,hq,fx,fs,q⟩:=h
 cases ry
 rcases hq with hq | hq
 ·obtain⟨its,r,pl,hz⟩:=I.list hq
  refine SeqAt.in_listAt (eqU x) pl.isList (fun w hw=>zd7 rx fx r fs w (by simpa using hw)) ⟨.bl _,H,I,rfl,?_⟩
  rw [show its.toArray.any (eqU x)=its.any (eqU x) by simp,zid r fs]
  exact q
 ·obtain⟨its,r,pl,hz⟩:=I.tuple hq
  refine SeqAt.in_tupleAt (eqU x) pl (fun w hw=>zd7 rx fx r fs w (by simpa using hw)) ⟨.bl _,H,I,rfl,?_⟩
  rw [show its.toArray.any (eqU x)=its.any (eqU x) by simp,zid r fs]
  exact q
theorem zly:OpR X (compareOp .NotIn) (rIn X.K true):=by
 intro pins s σ H x y v u Q I rx ry h
 obtain⟨p,xs,rfl,hq,fx,fs,q⟩:=h
 cases ry
 rcases hq with hq | hq
 ·obtain⟨its,r,pl,hz⟩:=I.list hq
  refine SeqAt.notIn_listAt (eqU x) pl.isList (fun w hw=>zd7 rx fx r fs w (by simpa using hw)) ⟨.bl _,H,I,rfl,?_⟩
  rw [show its.toArray.any (eqU x)=its.any (eqU x) by simp,zid r fs]
  exact q
 ·obtain⟨its,r,pl,hz⟩:=I.tuple hq
  refine SeqAt.notIn_tupleAt (eqU x) pl (fun w hw=>zd7 rx fx r fs w (by simpa using hw)) ⟨.bl _,H,I,rfl,?_⟩
  rw [show its.toArray.any (eqU x)=its.any (eqU x) by simp,zid r fs]
  exact q
theorem zlx:OpR X (compareOp .NotIn) (fun x y H Q=>∃i j,x=.str i/\y=.str j/\Q (.bl (!(!(Builtin.Str.occurrences j i 0 j.length 1).isEmpty))) H):=by
 intro pins s σ H x y v u Q I rx ry h
 obtain⟨i,j,rfl,rfl,q⟩:=h
 obtain⟨t,rfl⟩:=rx
 obtain⟨t',rfl⟩:=ry
 exact notIn_str ⟨.bl _,H,I,rfl,q⟩
theorem zn7:CallR X (.builtin "len") (fun xs H Q=>∃p ys,xs=[.ref p]/\(SqL X.K H p ys\/SqT X.K H p ys)/\Q (.int ys.length) H):=by
 intro pins s σ H xs us Q I r h
 obtain⟨p,ys,rfl,hq,q⟩:=h
 obtain⟨u,rfl,rx⟩:=zz2 r
 cases rx
 have hn:=zq6
 rcases hq with hq | hq
 ·obtain⟨its,r',pl,hz⟩:=I.list hq
  have hlen:=r'.length
  exact Calls.call_len_list pl.isList (by simp only[yy]<;>omega) ⟨.int ys.length,H,I.tok _,⟨s.toks+1,by rw [yy,hlen]⟩,q⟩
 ·obtain⟨its,r',pl,hz⟩:=I.tuple hq
  have hlen:=r'.length
  exact len_tuple pl (by simp only[yy]<;>omega) ⟨.int ys.length,H,I.tok _,⟨s.toks+1,by rw [yy,hlen]⟩,q⟩
theorem zn6:CallR X (.builtin "len") (fun xs H Q=>∃z,xs=[.str z]/\z.length<=sizeLine/\Q (.int z.length) H):=by
 intro pins s σ H xs us Q I r h
 obtain⟨z,rfl,hz,q⟩:=h
 obtain⟨u,rfl,t,rfl⟩:=zz2 r
 have hn:=zq6
 exact len_str (by omega) ⟨.int z.length,H,I.tok _,⟨_,rfl⟩,q⟩
theorem CallR.or{f:y4}{r r':List V->Hp->VK->Prop}(h:CallR X f r)(h':CallR X f r'):CallR X f (fun xs H Q=>r xs H Q\/r' xs H Q):=by
 intro pins s σ H xs us Q I rs q
 rcases q with q | q
 ·exact h pins s σ H xs us Q I rs q
 ·exact h' pins s σ H xs us Q I rs q
theorem z5u:CallR X (.type "tuple") (fun xs H Q=>∃p ys,xs=[.ref p]/\((SqL X.K H p ys/\∀l,H l=none->Q (.ref l) (upd H l (.tup ys)))\/(SqT X.K H p ys/\Q (.ref p) H))):=by
 intro pins s σ H xs us Q I r h
 obtain⟨p,ys,rfl,h⟩:=h
 obtain⟨u,rfl,rx⟩:=zz2 r
 cases rx
 rcases h with⟨hq,q⟩ | ⟨hq,q⟩
 ·obtain⟨its,r',pl,hz⟩:=I.list hq
  have hlen:=r'.length
  refine call_tuple_list pl.isList (fun h' kp=>?_) (by simp only[yy]<;>omega)
  have I1:Inv X pins σ H {s with heap:=h'}:=I.kept (t':=s.toks) kp
  have I2:Inv X pins σ (upd H h'.objs.size (.tup ys)) {s with heap:=h'.push {cls:=.type "tuple",data:=.seq its.toArray}}:=
   I1.laid (t':=s.toks) (fun b o e=>y6 _ e) (yg _) (show ObjOk X.prog X.w _ _ _ (.tup ys) from⟨hz,its,r',IsTup.new _ _⟩)
  exact⟨.ref h'.objs.size,_,I2,rfl,q _ (I1.hok.fresh (yg _))⟩
 ·obtain⟨its,r',pl,hz⟩:=I.tuple hq
  exact call_tuple_same pl ⟨.ref p,H,I,rfl,q⟩
def tyV(K:y3)(T:String)(x:V)(H:Hp):Prop:=match x with
 | .str _=>T = "str"
 | .int _=>T = "int"
 | .ref p=>(T = "list"/\∃xs,SqL K H p xs)\/(T = "tuple"/\∃o,K.lookup p=some o/\o.cls=.type "tuple"/\o.dict=none)\/
   (T = "dict"/\((∃kvs,H p=some (.dK kvs))\/∃kvs,H p=some (.dT kvs)))\/(T = "set"/\∃S n,H p=some (.set S n))
 | _=>False
theorem q1w{pins:List (Addr×Obj)}{σ : St}{H:Hp}{s:y9}{T:String}{x:V}{v:y4}(I:Inv X pins σ H s)(r:RelV x v)(ty:tyV X.K T x H) :
  s.TypeIs v T/\∀a,v=.ref a->∃ob,s.heap.get? a=some ob/\ob.dict=none:=by
 cases x with
 | str z=>
  obtain⟨t,rfl⟩:=r
  cases (show T = "str" from ty)
  exact⟨typeIs_str s z t,fun _ e=>nomatch e⟩
 | int i=>
  obtain⟨t,rfl⟩:=r
  cases (show T = "int" from ty)
  exact⟨typeIs_int s i t,fun _ e=>nomatch e⟩
 | ref p=>
  cases r
  rcases ty with⟨rfl,xs,hq⟩ | ⟨rfl,o,hk,hc,hd⟩ | ⟨rfl,hk⟩ | ⟨rfl,S,n,hk⟩
  ·obtain⟨its,_,pl,_⟩:=I.list hq
   refine⟨pl.isList.typeIs,fun a e=>?_⟩
   cases e
   obtain⟨o,n,e,c,hd,_⟩:=pl
   exact⟨o,e,hd⟩
  ·refine⟨⟨o,I.kIn p o hk,hc⟩,fun a e=>?_⟩
   cases e
   exact⟨o,I.kIn _ o hk,hd⟩
  ·have z:∃o,s.heap.get? p=some o/\o.ExactDict:=by
    rcases hk with⟨kvs,hk⟩ | ⟨kvs,hk⟩
    ·obtain⟨_,_,_,_,o,_,_,e,ex,_⟩:=I.hok p _ hk
     exact⟨o,e,ex⟩
    ·obtain⟨_,_,_,_,o,_,_,e,ex,_⟩:=I.hok p _ hk
     exact⟨o,e,ex⟩
   obtain⟨o,e,ex⟩:=z
   refine⟨⟨o,e,ex.1⟩,fun a e2=>?_⟩
   cases e2
   exact⟨o,e,ex.2.1⟩
  ·obtain⟨o,_,_,_,e,ex,_⟩:=I.hok p _ hk
   refine⟨⟨o,e,ex.1⟩,fun a e2=>?_⟩
   cases e2
   exact⟨o,e,ex.2.1⟩
 | _=>exact False.elim ty
def tBM(K:y3)(T:String)(r:V->List V->Hp->VK->Prop)(to:TE)(t:TA):TE:=fun σ H Q=>to σ H fun x H1=>tyV K T x H1/\t σ H1 fun xs H2=>r x xs H2 Q
variable{o e:Expr}{es:List Expr}{to:TE}{t:TA}{name:Str}{apos cpos:Pos}{T id:String}{r:V->List V->Hp->VK->Prop}
theorem zgy(pa:PlainAttrs T)(slot:Slot T name id) (hty:typeOf (.builtin id)=pure (.type "method_descriptor")) (hm:MtR X id r) (ho:PE X o to) (ha:PA X (e::es) t)
  (hbase:attributeBase o name X.env (eval o X.env)=eval o X.env:=by rfl)
  (hfew:((backTo cpos (starEach (e::es) X.env)).all (fun x=>!x.1) && (backToKw cpos (keywordEach [] X.env)).all (fun x=>x.1.isSome)
   && decide ((e::es).length+([]:List Keyword).length+(if([]:List Keyword).isEmpty then 0 else 1) < 30))=true:=by rfl)
  (hline:(apos.endLine == cpos.line)=true:=by rfl) (hs:starEach (e::es) X.env=(false,eval e X.env)::starEach es X.env:=by rfl) (hplain:(backTo cpos (starEach es X.env)).any (·.1)=false:=by rfl) :
  PE X (.Call (.Attribute o name apos) (e::es) [] cpos) (tBM X.K T r to t):=by
 refine⟨?_⟩
 intro pins s σ H Q I h
 refine wpAny_Call_method_late hbase hfew hline rfl (thn (ho pins s σ H _ I h) fun v s1 ⟨x,H1,I1,r1,ty,q1⟩=>?_)
 obtain⟨h1,h2⟩:=q1w I1 r1 ty
 refine⟨T,id,pa,slot,hty,h1,h2,?_⟩
 have hA:=ha cpos pins s1 σ H1 _ I1 q1
 rw [hs] at hA |-
 refine y2l (by show(false || (backTo cpos (starEach es X.env)).any (·.1))=false; rw [hplain]<;>rfl) (Calls.evalArgs_plain ?_)
 exact thn hA fun us s2 ⟨vs,H2,I2,r2,q2⟩=>hm pins s2 σ H2 x vs v us Q I2 r1 r2 q2
end
end L2
namespace L2
open PySem PySem.Spec PyProof.Rows
def MtM(X:Cx)(id:String)(r:V->List V->Hp->VK->Prop):Prop:=
 ∀(pins:List (Addr×Obj)) (s:y9) (σ : St) (H:Hp) (x:V) (xs:List V) (v:y4) (us:List y4) (Q:VK),Inv X pins σ H s->RelV x v->Vals xs us->r x xs H Q->
  wpAny (model X.prog X.w) X.A (call (.builtin id) (v::us)) (EP X pins σ Q) X.xe s
theorem Vals.one:∀{x:V} {us:List y4},Vals [x] us->∃u,us=[u]/\RelV x u
 | _,_,h=>by
  rcases h with _ | ⟨r,t⟩
  cases t
  exact⟨_,rfl,r⟩
theorem Vals.two:∀{x y:V} {us:List y4},Vals [x,y] us->∃u v,us=[u,v]/\RelV x u/\RelV y v
 | _,_,_,h=>by
  rcases h with _ | ⟨r,t⟩
  rcases t with _ | ⟨q,t⟩
  cases t
  exact⟨_,_,rfl,r,q⟩
theorem Vals.zero:∀{us:List y4},Vals [] us->us=[]
 | _,.nil=>rfl
theorem zmj(its:List y4):∀(k:Nat) (acc:List y4),
  List.foldl (fun x1 x2=>x1++x2) acc.toArray (List.replicate k its.toArray)=(acc++(List.replicate k its).flatten).toArray
 | 0,acc=>by simp
 | k+1,acc=>by
  have e:acc.toArray++its.toArray=(acc++its).toArray:=by simp
  have e2:(acc++its)++(List.replicate k its).flatten=acc++(List.replicate (k+1) its).flatten:=by
   rw [List.replicate_succ,List.flatten_cons,y0q]
  rw [<- e2,<- zmj its k (acc++its),<- e,List.replicate_succ,List.foldl_cons]
section
variable{X:Cx}{pins:List (Addr×Obj)}{σ : St}{H:Hp}{s:y9}{l b:Addr}{xs ys zs:List V}
theorem Inv.lset{its its':List y4}{n:Nat}{f:Array y4->Array y4}{t':Nat}(I:Inv X pins σ H s)(hH:H l=some (.lst xs))
  (e:s.heap.get? l=some {cls:=.type "list",data:=.seq its.toArray n}) (hf:f its.toArray=its'.toArray) (hv:Vals ys its') (hz:ys.length<=sizeLine) :
  Inv X pins σ (upd H l (.lst ys)) {s with heap:=s.heap.update l (Obj.mapSeq f),toks:=t'}:=by
 have q:=PySem.IsL.update e f
 rw [hf] at q
 refine I.write (x:=l) (e:=l) (by rw [hH]; exact trivial) (.inl rfl) (fun b' u hb hu=>(y1b s.heap (Obj.mapSeq f) (y1y hb)).trans hu) ⟨_,q⟩ ?_
 exact⟨hz,its',_,hv,q⟩
theorem Inv.lnew{its:List y4}{t':Nat}(I:Inv X pins σ H s)(hv:Vals ys its)(hz:ys.length<=sizeLine) :
  Inv X pins σ (upd H s.heap.objs.size (.lst ys)) {s with heap:=s.heap.push {cls:=.type "list",data:=.seq its.toArray},toks:=t'}:=
 I.laid (fun _ _ q=>y6 _ q) (yg _) ⟨hz,its,0,hv,yi _ rfl⟩
theorem Inv.fresh(I:Inv X pins σ H s):H s.heap.objs.size=none:=I.hok.fresh (yg _)
theorem Inv.lstM(I:Inv X pins σ H s)(hH:H l=some (.lst xs)):xs.length<=sizeLine/\∃(its:List y4) (n:Nat),Vals xs its/\xs.length=its.length/\s.heap.get? l=some {cls:=.type "list",data:=.seq its.toArray n}:=by
 obtain⟨z,its,n,r,e⟩:=I.hok l _ hH
 exact⟨z,its,n,r,r.length,e⟩
theorem zx3{n:Nat}(h:n<=sizeLine):Builtin.List.listTooLong n=false:=by
 unfold Builtin.List.listTooLong
 exact decide_eq_false (by omega)
end
section
variable{X:Cx}
def zaf:V->List V->Hp->VK->Prop:=fun x vs H Q=>∃l xs y,x=.ref l/\vs=[y]/\H l=some (.lst xs)/\xs.length < sizeLine/\Q .non (upd H l (.lst (xs++[y])))
theorem z82:MtM X "list.append" zaf:=by
 intro pins s σ H x vs v us Q I rx rv h
 obtain⟨l,xs,y,rfl,rfl,hH,hz,q⟩:=h
 cases rx
 obtain⟨u,rfl,ru⟩:=rv.one
 obtain⟨z,its,n,r,hl,e⟩:=I.lstM hH
 refine call_meets F.slot_list_append ⟨_,e,rfl⟩ F.entry_list_append (F.args_list_append_2 _ _) (PySem.list_append l its.toArray n u (by rw [yy]; omega)) ⟨e,?_⟩
 refine⟨.non,_,I.lset (its':=its++[u]) hH e (by simp) (r.append (.cons ru .nil)) ?_,rfl,q⟩
 rw [yd,y08]
 omega
def zae:V->List V->Hp->VK->Prop:=fun x vs H Q=>∃l b xs zs,x=.ref l/\vs=[.ref b]/\H l=some (.lst xs)/\H b=some (.lst zs)/\xs.length+zs.length<=sizeLine/\Q .non (upd H l (.lst (xs++zs)))
theorem zm6:MtM X "list.extend" zae:=by
 intro pins s σ H x vs v us Q I rx rv h
 obtain⟨l,b,xs,zs,rfl,rfl,hH,hB,hz,q⟩:=h
 cases rx
 obtain⟨u,rfl,ru⟩:=rv.one
 cases ru
 obtain⟨z,its,n,r,hl,e⟩:=I.lstM hH
 obtain⟨z2,its2,n2,r2,hl2,e2⟩:=I.lstM hB
 have hsz:its.toArray.size+its2.toArray.size<=sizeLine:=by rw [yy,yy]; omega
 have hlong:¬ (!its.toArray.isEmpty && Builtin.List.listTooLong (its.toArray.size+its2.toArray.size))=true:=by
  rw [zx3 hsz,Bool.and_false]
  exact yp
 refine call_meets F.slot_list_extend ⟨_,e,rfl⟩ F.entry_list_extend (F.args_list_extend_2 _ _)
  (AutoSeq1.list_extend_list_list_0 l its.toArray n b its2.toArray n2 hlong (by rw [yy]; omega) (by omega)) ⟨e,e2,?_⟩
 refine⟨.non,_,I.lset (its':=its++its2) hH e (by simp) (r.append r2) ?_,rfl,q⟩
 rw [yd]
 omega
def zyf:R2:=fun x y H Q=>∃l b xs zs,x=.ref l/\y=.ref b/\H l=some (.lst xs)/\H b=some (.lst zs)/\xs.length+zs.length<=sizeLine/\∀p,H p=none->Q (.ref p) (upd H p (.lst (xs++zs)))
theorem zq3:OpR X (binaryOp .Add) zyf:=by
 intro pins s σ H x y v u Q I rx ry h
 obtain⟨l,b,xs,zs,rfl,rfl,hH,hB,hz,q⟩:=h
 cases rx
 cases ry
 obtain⟨z,its,n,r,hl,e⟩:=I.lstM hH
 obtain⟨z2,its2,n2,r2,hl2,e2⟩:=I.lstM hB
 refine PySem.P.add_list e e2 ?_ (by rw [yy,yy]; omega)
 have ea:its.toArray++its2.toArray=(its++its2).toArray:=by simp
 rw [ea]
 exact⟨.ref _,_,I.lnew (t':=s.toks) (r.append r2) (by rw [yd]; omega),rfl,q _ I.fresh⟩
def zzg:R2:=fun x y H Q=>∃l k xs,x=.ref l/\y=.int k/\H l=some (.lst xs)/\-(2 ^ 63)<=k/\k < 2 ^ 63/\xs.length * k.toNat<=sizeLine/\
 ∀p,H p=none->Q (.ref p) (upd H p (.lst (List.replicate k.toNat xs).flatten))
theorem q0f{α : Type}(xs:List α)(k:Nat):(List.replicate k xs).flatten.length=k * xs.length:=by
 induction k with
 | zero=>simp
 | succ k ih=>rw [List.replicate_succ,List.flatten_cons,yd,ih,Nat.succ_mul,Nat.add_comm]
end
section
variable{prog:yf}{w:yr}{A:y01}{E:y4->y9->Prop}{s:y9}
end
section
variable{X:Cx}
end
end L2
namespace Att
open PySem PySem.W PySem.Calls PyProof.Rows
theorem zhm{P:Params}{h:Heap}:∀(ns:List Int) (vs:List y4),WellAll P h vs (ns.map WData.int)->IntsAre vs ns:=by
 intro ns
 induction ns with
 | nil=>
  intro vs w
  rw [List.map_nil] at w
  cases w
  exact .nil
 | cons n ns ih=>
  intro vs w
  rw [yn] at w
  cases w with
  | cons a b=>
   cases a
   exact .cons _ _ (ih _ b)
theorem zt5{l:OpenLaw}{n:Nat}(hn:l.most=some n){P:Params}{h:Heap}{args:List WData}{vals:List y4}
  (hpre:l.row.toRowW.claim.pre args=true) (hwl:WellAll P h vals args) :
  ∃a vs ns,vals=[Value.ref a]/\args=[WData.list (ns.map WData.int)]/\h.get? a=some {cls:=.type "list",data:=.seq vs.toArray}/\IntsAre vs ns/\ns.length<=n:=by
 have hsh:WShape.hasAll [] args [.list .int]=true:=(pre_splitW hpre).1
 have hc:l.pre.holds [] {args:=args}=true:=(pre_splitW hpre).2
 obtain⟨d,r,rfl,h1,h2⟩:=hasAllW_cons hsh
 obtain rfl:=hasAllW_nil h2
 obtain⟨xs,rfl,h3⟩:=hasW_list h1
 obtain⟨ns,rfl⟩:=items_int h3
 have hlen:ns.length<=n:=by
  unfold OpenLaw.pre at hc
  have h4:(WTm.not (.lt (.lit (.int (n:Int))) (.len (.arg 0)))).holds [] {args:=[.list (ns.map .int)]}=true:=by
   have h4:=(holds_andW hc).1
   rw [hn] at h4
   exact h4
  have h5:=condW_of h4 (w_not (w_lt w_lit (w_len_list (w_arg rfl))))
  rw [y8] at h5
  refine Nat.le_of_not_lt fun q=>?_
  have q':(n:Int) < ((ns.length:Nat):Int):=by omega
  first
   | (rw [decide_eq_true q'] at h5; exact absurd h5 (by decide))
   | (simp at h5; omega)
 cases hwl with
 | cons w1 w2=>
  cases w2
  cases w1 with
  | list ho hall=>exact⟨_,_,ns,rfl,rfl,ho,zhm ns _ hall,hlen⟩
theorem ztg(l:OpenLaw)(args:List WData):l.row.toRowW.claim.post args (.bool true) args=true:=
 postW_of (r:=l.row.toRowW) (X:=(true == true))
  (show WShape.has [] (.bool true) .bool=true by first | rfl | decide | simp[WShape.has,WShape.arms,WShape.armsAll])
  (show(WTm.eq .res (.lit (.bool true))).value [] {args:=args,res:=some (.bool true),after:=args}=some (.bool (true == true)) from w_eq_bool (w_res rfl) w_lit) rfl
theorem zib{l:OpenLaw}{n:Nat}{q:yf}{loose:List Str}{XP:(Str->Option y4)->Heap->Prop}{YP:yr->Heap->Prop}{d:DefRec}
  (hn:l.most=some n) (hdf:d.params.defaults=[])
  (call:∀(w:yr) (s₀ s₁:y9) (mg mb:Str->Option y4) (fa:Addr) (o:Obj) (pm cd doc:y4) (a:Addr) (vs:List y4) (ns:List Int),
   Ground q loose [] XP w s₀ mg mb s₁.heap->YP w s₁.heap->
   s₁.heap.get? fa=some o->o.data=.func (docDef d.name d.params d.body d.scope pm cd doc)->s₁.heap.CodeRec cd d.name->mg d.name=some (.ref fa)->
   s₁.heap.get? a=some {cls:=.type "list",data:=.seq vs.toArray}->IntsAre vs ns->ns.length<=n->s₁.gens = #[]->
   codeAny (model l.prog w) callerA (.call (.ref fa) ⟨[.ref a],[]⟩) (fun r s'=>r=.ok (.ret (.bool true))/\OldK s₁.heap s'.heap/\s'.os=s₁.os/\AllBare s'.gens) s₁) :
  WalkO q loose XP YP l.row.toRowW d [] (fun f vs=>PySem.call f vs):=by
 intro w s₀ s₁ mg mb G Y fa o pm cd doc dV kV ho hd hcd hD hmg hg args vals as hpre hlay hrd hwl hlo
 obtain rfl:dV=.none:=Dflts.none hD hdf
 obtain rfl:kV=.none:=Dflts.noKw hD
 obtain⟨a,vs,ns,rfl,rfl,hobj,hints,hlen⟩:=zt5 hn hpre hwl
 refine enter_call (y1j (call w s₀ s₁ mg mb fa o pm cd doc a vs ns G Y ho (fd_plain hd) hcd hmg hobj hints hlen hg) fun r s' hq=>?_)
 obtain⟨rfl,h2,h3,h4⟩:=hq
 exact⟨.inl ⟨.bool true,.bool true,[],rfl,fun _=>rfl,.bool true,ztg l _,fun _=>⟨List.Pairwise.nil,fun _ hm=>(nomatch hm)⟩⟩,h2,h3,h4⟩
section
variable{prog:yf}{w:yr}{A:y01}{E:y4->y9->Prop}{s:y9}{K:Frag}
def q58(h:Heap)(L d:Addr):List (Addr×Obj):=(List.range h.objs.size).filterMap fun a=>if a=L\/a=d then none else(h.get? a).map fun o=>(a,o)
end
end Att
namespace L2
open PySem PySem.Spec PyProof.Rows
theorem zg9:∀{vs:List y4} {ns:List Int},IntsAre vs ns->Vals (ns.map V.int) vs
 | _,_,.nil=>.nil
 | _,_,.cons n t h=>.cons ⟨t,rfl⟩ (zg9 h)
def q4t(H:Hp):Prop:=∀b,H b=none\/∃o xs,H b=some (.frz o (.lst xs))
theorem zxc{P:yf}{w:yr}{K:y3}{mg mb:Str->Option y4}{CX:CXT}{k:Nat}{fa a:Addr}{fd:yq}{x:Str}{sp:Sp}{s₁:y9}{vs:List y4}{ns:List Int}
  (KX:K.In s₁.heap) (hns:s₁.heap.Ns mainGlobals mg) (hb:s₁.heap.Ns builtinsNs mb) (hbb:∀x:Str,x≠"__name__"->mb x=bootBuiltins x) (hlim:s₁.heap.NoLimit) (hg:s₁.gens = #[])
  (ha:s₁.heap.get? a=some {cls:=.type "list",data:=.seq vs.toArray}) (hi:IntsAre vs ns) (hl:ns.length<=sizeLine) (hr:Room k callerA)
  (F:∀base:Heap,K.In base->base.Ns mainGlobals mg->FnOk P w K mg base CX k fa fd [x] sp) (hbind:∀(s:y9) (u:y4),BindsTo s fd ⟨[u],[]⟩ [(x,u)])
  (hsp:∀H:Hp,q4t H->SqL K H a (ns.map V.int)->sp [.ref a] H (fun v _=>v=.bl true) fun _ _ _=>False)
  (hCX:∀H e s',CX [] H s₁ (fun _ _ _=>False) e s'->False) :
  codeAny (model P w) callerA (.call (.ref fa) ⟨[.ref a],[]⟩) (fun r s'=>r=.ok (.ret (.bool true))/\OldK s₁.heap s'.heap/\s'.os=s₁.os/\AllBare s'.gens) s₁:=by
 have rv:=zg9 hi
 have lenV:=hi.length
 have core:∀H:Hp,q4t H->SqL K H a (ns.map V.int)->HOk P w H s₁.heap->(∀b,H b≠none->b=a)->(H a≠none->K.lookup a=none)->
   codeAny (model P w) callerA (.call (.ref fa) ⟨[.ref a],[]⟩) (fun r s'=>r=.ok (.ret (.bool true))/\OldK s₁.heap s'.heap/\s'.os=s₁.os/\AllBare s'.gens) s₁:=by
  intro H hO hS hok hA hK
  have base_of:∀{b:Addr} {o:Obj},s₁.heap.get? b=some o->H b=none->(zoy s₁.heap H).get? b=some o:=fun e n=>zqf e n
  have noA:∀{b:Addr} {o:Obj} {es:Array DictEntry} {ep:Nat},s₁.heap.get? b=some o->o.data=.dict es ep->H b=none:=fun {b o es ep} e d=>by
   cases q:H b with
   | none=>rfl
   | some u=>
    have e':b=a:=hA b (by rw [q]; simp)
    subst e'
    rw [ha] at e; cases e
    have d':Data.seq vs.toArray _=Data.dict es ep:=d
    cases d'
  have nsK:∀{b:Addr} {m:Str->Option y4},s₁.heap.Ns b m->(zoy s₁.heap H).Ns b m:=fun {b m} ⟨o,es,ep,e,d,r⟩=>⟨o,es,ep,base_of e (noA e d),d,r⟩
  have hKb:K.In (zoy s₁.heap H):=fun b o e=>base_of (KX b o e) (by
   cases q:H b with
   | none=>rfl
   | some u=>
    have e':b=a:=hA b (by rw [q]; simp)
    subst e'
    rw [hK (by rw [q]; simp)] at e; cases e)
  have hM:Mod K mg (zoy s₁.heap H):=⟨hKb,nsK hns,⟨mb,nsK hb,hbb⟩,let ⟨mc,h1,h2⟩:=hlim; ⟨mc,nsK h1,h2⟩⟩
  have e0:Env0 P w K mg (zoy s₁.heap H) callerA [] s₁ H:=⟨rfl,hM,fun b o e=>zu0 e,Nat.le_of_eq (zmg _ _),trivial,fun b hb=>absurd (show b∈([]:List Addr) from hb) (by simp),hok,.of_eq hg⟩
  refine y1j ((F _ hKb (nsK hns)).run callerA [] s₁ H ⟨[.ref a],[]⟩ [.ref a] [.ref a] _ _ hr e0 (hbind s₁ (.ref a)) (.cons rfl .nil) (hsp H hO hS)) fun r s' h=>?_
  cases r with
  | error e=>exact(hCX H e s' h).elim
  | ok fl=>
   cases fl with
   | next=>exact False.elim h
   | brk=>exact False.elim h
   | cont=>exact False.elim h
   | ret u=>
    obtain⟨v,H',os,bare,un,hok',r',q⟩:=h
    have q':v=.bl true:=q
    subst q'
    obtain rfl:u=Value.bool true:=r'
    refine⟨rfl,OldK.of_keep fun b o e=>?_,os,bare⟩
    cases q:H b with
    | none=>exact un.keep b o e q (by intro z; exact absurd (show b∈([]:List Addr) from z) (by simp)) (by simp)
    | some u=>
     rcases hO b with z | ⟨ob,xs,z⟩
     ·rw [q] at z; cases z
     ·have z2:=un.frzs b ob _ z
      obtain⟨e1,_⟩:=hok b _ z
      obtain⟨e2,_⟩:=hok' b _ z2
      rw [e] at e1; cases e1
      exact e2
 cases hk:K.lookup a with
 | some o=>
  have e:=KX a o hk
  rw [ha] at e
  cases e
  refine core (fun _=>none) (fun _=>.inl rfl) (.inr ⟨_,vs.toArray,_,hk,rfl,rfl,rfl,by rw [yy,lenV]; exact hl,by simpa using rv⟩) (fun b u z=>by have z':(none:Option HO)=some u:=z; cases z') (fun b z=>absurd rfl z) fun z=>absurd rfl z
 | none=>
  refine core (fun b=>if b=a then some (.frz {cls:=.type "list",data:=.seq vs.toArray} (.lst (ns.map V.int))) else none) (fun b=>?_) (.inl (.inr ⟨{cls:=.type "list",data:=.seq vs.toArray},if_pos rfl⟩)) (fun b u z=>?_) (fun b z=>?_) fun _=>hk
  ·by_cases hb:b=a
   ·exact .inr ⟨_,_,if_pos hb⟩
   ·exact .inl (if_neg hb)
  ·by_cases hb:b=a
   ·have z':=(if_pos hb).symm.trans z
    cases z'
    subst hb
    exact⟨ha,by rw [y8]; exact hl,vs,_,rv,ha⟩
   ·have z':=(if_neg hb).symm.trans z
    cases z'
  ·by_cases hb:b=a
   ·exact hb
   ·exact absurd (if_neg hb) z
end L2
namespace L2
open PySem PySem.Spec PyProof.Rows
abbrev KOf{K:y3}{h:Heap}(_:K.In h):y3:=K
theorem q49{l:PySem.W.OpenLaw}{n k:Nat}{q:yf}{loose:List Str}{XP:(Str->Option y4)->Heap->Prop}{YP:yr->Heap->Prop}{d:DefRec}{K:Params->y3}{CX:yr->CXT}{sp:yr->Sp}{x:Str}
  (hn:l.most=some n) (hn2:n<=sizeLine) (hdf:d.params.defaults=[]) (hr:Room k callerA)
  (hY:∀(w:yr) (h:Heap),YP w h->(K w.params).In h)
  (F:∀(w:yr) (mg:Str->Option y4) (fa:Addr) (h:Heap),(K w.params).In h->h.Ns mainGlobals mg->mg d.name=some (.ref fa)->
   ∃fd:yq,(∀(s:y9) (u:y4),BindsTo s fd ⟨[u],[]⟩ [(x,u)])/\
    ∀base:Heap,(K w.params).In base->base.Ns mainGlobals mg->FnOk l.prog w (K w.params) mg base (CX w) k fa fd [x] (sp w))
  (hsp:∀(w:yr) (H:Hp) (a:Addr) (ns:List Int),ns.length<=n->q4t H->SqL (K w.params) H a (ns.map V.int)->sp w [.ref a] H (fun v _=>v=.bl true) fun _ _ _=>False)
  (hCX:∀(w:yr) (H:Hp) (s:y9) (e:y4) (s':y9),CX w [] H s (fun _ _ _=>False) e s'->False) :
  PySem.W.WalkO q loose XP YP l.row.toRowW d [] (fun f vs=>PySem.call f vs):=by
 refine Att.zib hn hdf fun w s₀ s₁ mg mb fa o pm cd doc a vs ns G Y ho hd hcd hmg hobj hints hlen hg=>?_
 have KX:=hY w _ Y
 obtain⟨fd,hb,hF⟩:=F w mg fa _ KX G.T.g hmg
 exact zxc KX G.T.g G.T.b G.T.builtins G.T.nolimit hg hobj hints (y0b hlen hn2) hr hF hb (fun H hO hS=>hsp w H a ns hlen hO hS) fun H e s'=>hCX w H s₁ e s'
end L2
namespace L2
open PySem PySem.Spec PyProof.Rows
def defArgs(s:Stmt):Arguments:=match s with
 | .FunctionDef _ a _ _ _ _ _ _ _ _=>a
 | _=>{posonlyargs:=[],args:=[],vararg:=none,kwonlyargs:=[],kw_defaults:=[],kwarg:=none,defaults:=[]}
def defBody(s:Stmt):List Stmt:=match s with
 | .FunctionDef _ _ b _ _ _ _ _ _ _=>b
 | _=>[]
def defScope(s:Stmt):Scope:=match s with
 | .FunctionDef _ _ _ _ _ _ sc _ _ _=>sc
 | _=>{kind:=.function,names:=[],isGenerator:=false,isCoroutine:=false}
abbrev CX0:CXT:=fun _ _ _ _ _ _=>False
abbrev E0:XK:=fun _ _ _=>False
structure Fun(K:y3)(x qual:Str)(st:Stmt)(f:Addr)(fd:yq):Prop where
 ex:∃(oc:y4) (od:Option Addr) (kV doc pm:y4) (an:Option Addr) (cdv ct:y4) (osl:Array (Option y4)),
  fd=PySem.W.fnOf x qual (defArgs st) (defBody st) (defScope st) .none kV doc pm an cdv ct/\K.lookup f=some ⟨oc,od,.func fd,osl⟩/\PySem.W.codeIn K cdv qual=true
 kp:PySem.W.keepIn K (.ref f)=true
section
variable{P:yf}{w:yr}{K:y3}{mg:Str->Option y4}{base:Heap}
theorem Fun.ok{x qual:Str}{st:Stmt}{f:Addr}{fd:yq}{N ps:List Str}{k:Nat}{sp:Sp}(F:Fun K x qual st f fd)(S:FnScope N ps (defScope st))(len:∀vs H Q E,sp vs H Q E->vs.length=ps.length)
  (hbody:∀(cdv:y4) (A:y01) (outer:List Env) (s:y9) (H:Hp) (vs:List V) (Q:VK) (E:XK),Room k (A.deeper (envOfC qual (defScope st) s.heap.objs.size f cdv))->sp vs H Q E->
   ∃t,PSs (z9g CX0 P w K mg base N qual (defScope st) f cdv A outer s H E).nox (defBody st) t/\t {nx:=fun _ H'=>Q .non H',rt:=Q} (start N vs) H):FnOk P w K mg base CX0 (k+1) f fd ps sp:=by
 obtain⟨oc,od,kV,doc,pm,an,cdv,ct,osl,rfl,lk,hcd⟩:=F.ex
 refine q0v lk hcd S len fun A outer s H vs Q E hr hsp=>?_
 obtain⟨t,h,q⟩:=hbody cdv A outer s H vs Q E hr hsp
 exact⟨t,h.nox,q⟩
theorem Fun.binds{x qual:Str}{st:Stmt}{f:Addr}{fd:yq}{ps:List Str}(F:Fun K x qual st f fd)
  (h:∀(kV doc pm:y4) (an:Option Addr) (cdv ct:y4) (us:List y4),us.length=ps.length->bindArgs (PySem.W.fnOf x qual (defArgs st) (defBody st) (defScope st) .none kV doc pm an cdv ct) ⟨us,[]⟩=pure (ps.zip us)):Binds K fd ps []:=by
 obtain⟨oc,od,kV,doc,pm,an,cdv,ct,osl,rfl,lk,hcd⟩:=F.ex
 exact .all (h kV doc pm an cdv ct)
theorem z9q{x qual:Str}{st:Stmt}{f:Addr}{oc:y4}{od an:Option Addr}{osl:Array (Option y4)}{kV doc pm cdv ct:y4}(l:K.lookup f=some ⟨oc,od,.func (PySem.W.fnOf x qual (defArgs st) (defBody st) (defScope st) .none kV doc pm an cdv ct),osl⟩)
  (c:PySem.W.codeIn K cdv qual=true) (k:PySem.W.keepIn K (.ref f)=true):Fun K x qual st f (PySem.W.fnOf x qual (defArgs st) (defBody st) (defScope st) .none kV doc pm an cdv ct):=⟨⟨oc,od,kV,doc,pm,an,cdv,ct,osl,rfl,l,c⟩,k⟩
end
theorem z2g{n:Nat}(h:n<=1000):n < sizeLine:=y0w h (by decide)
section
variable{X:Cx}
theorem pv(i:Nat){x:Str}{pos:Pos}(hN:X.N[i]?=some x:=by rfl)(hv:Vis X.env.scope x:=by first | exact Or.inl rfl | exact Or.inr (Or.inl rfl) | exact Or.inr (Or.inr rfl)) (hd:(x == ("__debug__" : Str))=false:=by decide)
  (hcd:(x == ("__classdict__" : Str))=false:=by decide):PE X (.Name x pos) (zif i):=z1q hN hv hd hcd
end
def Same(H H':Hp):Prop:=∀b o,H b=some o->H' b=some o
theorem Same.refl(H:Hp):Same H H:=fun _ _ h=>h
theorem Same.trans{H H1 H2:Hp}(a:Same H H1)(b:Same H1 H2):Same H H2:=fun c o h=>b c o (a c o h)
theorem Same.free{H H':Hp}(e:Same H H'){l:Addr}(h:H' l=Option.none):H l=Option.none:=by
 cases q:H l with
 | none=>rfl
 | some o=>
  rw [e l o q] at h
  cases h
theorem Same.seq{K:y3}{H H':Hp}{a:Addr}{xs:List V}(e:Same H H')(h:SqL K H a xs):SqL K H' a xs:=by
 rcases h with(h | ⟨o,h⟩) | h
 ·exact .inl (.inl (e _ _ h))
 ·exact .inl (.inr ⟨o,e _ _ h⟩)
 ·exact .inr h
end L2
namespace L2
open PySem PySem.Spec PyProof.Rows
theorem zpd(env:Env):∀(names:List (Str×NameKind)) (acc:List (Str×Addr)),(∀y∈names,y.2=.free->∃c,env.cells.lookup y.1=some c)->(∀x c,acc.lookup x=some c->env.cells.lookup x=some c)->
  ∃cl,(forIn names acc fun(p:Str×NameKind) (r:List (Str×Addr))=>(match p with | (name,kind)=>if(kind == NameKind.free)=true then(do let c <- cellOf env name; pure (ForInStep.yield ((name,c)::r))) else pure (ForInStep.yield r)):Sem (List (Str×Addr)))=pure cl/\
   (∀x c,cl.lookup x=some c->env.cells.lookup x=some c)/\(∀x,(∃c,acc.lookup x=some c)->∃c,cl.lookup x=some c)/\(∀y∈names,y.2=.free->∃c,cl.lookup y.1=some c)
 | [],acc,_,ha=>⟨acc,by simp,ha,fun _ h=>h,fun _ h=>absurd h (by simp)⟩
 | (n,k)::r,acc,hn,ha=>by
  by_cases hk:k=.free
  ·obtain⟨c,hc⟩:=hn (n,k) y0f hk
   have ha':∀x c',((n,c)::acc).lookup x=some c'->env.cells.lookup x=some c':=fun x c' h=>by
    by_cases hx:x=n
    ·subst hx
     rw [List.lookup_cons_self] at h
     cases h; exact hc
    ·have hx':(x == n)=false:=by simpa using hx
     simp only[y0x,hx'] at h
     exact ha x c' h
   obtain⟨cl,e,p1,p2,p3⟩:=zpd env r ((n,c)::acc) (fun y hy=>hn y (y0c _ hy)) ha'
   refine⟨cl,?_,p1,fun x ⟨c',hc'⟩=>p2 x ?_,fun y hy hf=>?_⟩
   ·have hco:cellOf env n=pure c:=by unfold cellOf; rw [hc]
    rw [List.forIn_cons]
    subst hk
    simp only[beq_self_eq_true,if_true,hco,pure_bind]
    exact e
   ·by_cases hx:x=n
    ·exact⟨c,by subst hx; rw [List.lookup_cons_self]⟩
    ·have hx':(x == n)=false:=by simpa using hx
     exact⟨c',by simp only[y0x,hx']; exact hc'⟩
   ·rcases List.mem_cons.mp hy with rfl | hy
    ·exact p2 _ ⟨c,by rw [List.lookup_cons_self]⟩
    ·exact p3 y hy hf
  ·obtain⟨cl,e,p1,p2,p3⟩:=zpd env r acc (fun y hy=>hn y (y0c _ hy)) ha
   refine⟨cl,?_,p1,p2,fun y hy hf=>?_⟩
   ·have hb:(k == NameKind.free)=false:=by simpa using hk
    rw [List.forIn_cons]
    simp only[hb,y0h,if_false,pure_bind]
    exact e
   ·rcases List.mem_cons.mp hy with rfl | hy
    ·exact absurd hf hk
    ·exact p3 y hy hf
theorem q18{scope:Scope}{env:Env}(h:∀y∈scope.names,y.2=.free->∃c,env.cells.lookup y.1=some c) :
  ∃cl,closureFor scope env=pure cl/\(∀x c,cl.lookup x=some c->env.cells.lookup x=some c)/\(∀y∈scope.names,y.2=.free->∃c,cl.lookup y.1=some c):=by
 obtain⟨cl,e,p1,_,p3⟩:=zpd env scope.names [] h (fun x c q=>by simp at q)
 refine⟨cl,?_,p1,p3⟩
 unfold closureFor
 simp only[bind_pure]
 exact e
theorem z78{env:Env}:∀{names:List (Str×NameKind)} {x:Str} {k:NameKind},(names.map fun(n,k)=>if(k == NameKind.free && env.scope.kind == .function && env.kindOf n == some .cell) then(n,NameKind.cell) else(n,k)).lookup x=some k->
  (∀y∈names,y.2≠.cell)->k=.cell\/k=.free->names.lookup x=some .free
 | [],_,_,h,_,_=>by simp at h
 | (n,k0)::r,x,k,h,hc,hk=>by
  have ih:=@z78 env r x k
  rw [yn] at h
  cases hx:x == n with
  | true=>
   have hn:k0≠.cell:=hc (n,k0) y0f
   simp only[y0x,hx]
   by_cases hcnd:(k0 == NameKind.free && env.scope.kind == .function && env.kindOf n == some .cell)=true
   ·have:k0=.free:=by
     simp only[yw,beq_iff_eq] at hcnd
     exact hcnd.1.1
    rw [this]
   ·dsimp only at h
    rw [if_neg hcnd] at h
    simp only[y0x,hx] at h
    have h:k0=k:=by simpa using h
    subst h
    rcases hk with hk | hk
    ·exact absurd hk hn
    ·rw [hk]
  | false=>
   simp only[y0x,hx]
   refine ih ?_ (fun y hy=>hc y (y0c _ hy)) hk
   by_cases hcnd:(k0 == NameKind.free && env.scope.kind == .function && env.kindOf n == some .cell)=true
   ·dsimp only at h
    rw [if_pos hcnd] at h
    simp only[y0x,hx] at h; exact h
   ·dsimp only at h
    rw [if_neg hcnd] at h
    simp only[y0x,hx] at h; exact h
def z5c(X:Cx)(N':List Str)(scope:Scope)(cl:List (Str×Addr))(C:Addr)(s₀:y9)(H₀:Hp)(ex:List Addr):Cx:=
 {X with N:=N',s₀:=s₀,H₀:=H₀,env:=compEnvC scope cl C X.env,outer:=X.stack,stack:=X.stack,ex:=ex,fn:=fun _=>false,pn:=[],xe:=fun _ _=>False}
def subσ(mp:List (Option Nat))(σ : St):St:=mp.map fun o=>match o with | none=>none | some i=>(σ[i]?).getD none
def compOk(N:List Str)(on inn:List (Str×NameKind))(N':List Str)(mp:List (Option Nat)):Bool:=
 mp.length == N'.length && (N'.zip mp).all fun p=>match p.2 with
  | none=>true
  | some i=>N[i]? == some p.1 && inn.lookup p.1 == some .free && on.lookup p.1 == some .cell
abbrev PIfv(X:Cx)(ifs:List Expr)(t:TT):Prop:=
 ∀(pins:List (Addr×Obj)) (s:y9) (σ : St) (H:Hp) (Q:Bool->Hp->Prop),Inv X pins σ H s->t σ H Q->
  wpAny (model X.prog X.w) X.A (forIn ifs true fun c r=>if r=true then do let ok <- isTrue c X.env (eval c X.env); pure (ForInStep.yield ok) else pure (ForInStep.yield r)) (TP X pins σ Q) X.xe s
structure PIf(X:Cx)(ifs:List Expr)(t:TT):Prop where
 run:PIfv X ifs t
instance{X:Cx}{ifs:List Expr}{t:TT}:CoeFun (PIf X ifs t) (fun _=>PIfv X ifs t):=⟨PIf.run⟩
def zsu:TT:=fun _ H Q=>Q true H
theorem zeb{X:Cx}:PIf X [] zsu:=⟨fun pins s σ H Q I h=>wpAny_tests_nil ⟨H,I,h⟩⟩
theorem zgx{X:Cx}{c:Expr}{t:TT}(h:PT X c t):PIf X [c] t:=⟨fun pins s σ H Q I q=>wpAny_tests_one (h pins s σ H Q I q)⟩
theorem zvq{prog:yf}{w:yr}{A:y01}{s:y9}{elt target iter:PySem.Expr}{ifs:List PySem.Expr}{scope:Scope}{pos:Pos}{it acc:y4}{env:Env}{R:Result->y9->Prop}(I:Nat->y9->Prop)
  (turn:∀n s,I n s->wpAny (model prog w) A (pyNext it) (fun r s₁=>match r with
   | none=>R (.ok .next) s₁
   | some v=>wpAny (model prog w) A (letOwnedTupleGo target it v) (fun _ s₀=>wpAny (model prog w) A (assign target env v) (fun _ s₂=>
     wpAny (model prog w) A (forIn ifs true fun c r=>if r=true then do let ok <- isTrue c env (eval c env); pure (ForInStep.yield ok) else pure (ForInStep.yield r)) (fun ok s₃=>if ok=true then wpAny (model prog w) A (eval elt env) (fun x s₄=>
      wpAny (model prog w) A (call (.builtin "list.append") [acc,x]) (fun _ s₅=>∃m,m < n/\I m s₅) (fun _ _=>False) s₄) (fun _ _=>False) s₃
      else ∃m,m < n/\I m s₃) (fun _ _=>False) s₂)
     (fun _ _=>False) s₀) (fun _ _=>False) s₁) (fun _ _=>False) s)
  (n:Nat) (h:I n s):codeAny (model prog w) A (.compLoop (.ListComp elt [⟨target,iter,ifs,0⟩] scope pos) 0 it acc env) R s:=by
 refine codeAny_loop rfl I (fun n s hI=>?_) n h
 show wpAny _ A ((compTurn (.ListComp elt [⟨target,iter,ifs,0⟩] scope pos) 0 it acc env).onRaise (fun x=>do noteFrame x env; theTreesLotGoes x)) _ _ s
 refine wpAny_noted ?_
 rw [compTurn_list]
 refine yc (wpAny_standAt (yc (y0l (turn n s hI) (fun r s₁ h₁=>?_) fun _ _ h'=>h'.elim)))
 cases r with
 | none=>exact yo h₁
 | some v=>
  refine yc (y0l h₁ (fun _ s₀ h₀'=>?_) fun _ _ h'=>h'.elim)
  refine yc (y0l h₀' (fun _ s₂ h₂=>?_) fun _ _ h'=>h'.elim)
  refine yc (y0l h₂ (fun okb s₃ h₃=>?_) fun _ _ h'=>h'.elim)
  cases okb with
  | false=>exact yo ⟨rfl,h₃⟩
  | true=>exact yc (yc (y0l h₃ (fun x s₄ h₄=>yc (y0l h₄ (fun _ s₅ h₅=>yo (yo ⟨rfl,h₅⟩)) fun _ _ h'=>h'.elim)) fun _ _ h'=>h'.elim))
theorem Inv.track{X:Cx}{pins:List (Addr×Obj)}{σ : St}{H:Hp}{s:y9}{a:Addr}{o:HO}(I:Inv X pins σ H s)(hn:H a=none)(f:FpOk X pins H a)(new:ObjOk X.prog X.w (upd H a o) s.heap a o):Inv X pins σ (upd H a o) s:=by
 obtain⟨_,f1,f2,f3,f4,f5⟩:=f
 have na:∀b u,H b=some u->b≠a:=fun b u e=>z0d e hn
 have J:=I.step (g':=s.gens) (t':=s.toks) (d':=s.drawn) (ch:=[a]) (h':=s.heap) (H':=upd H a o) (fun b hb=>by
   have e:b=a:=by simpa using hb
   subst e
   exact⟨f3,f1,f4,f5⟩) (fun b o _ _ _ e _=>e) (fun b o _ _ _ e _=>⟨o.slots,e⟩) (fun b o hb _ n=>by rw [z09 (by simpa using hb)]; exact n) (fun b o _ e=>⟨o,e⟩)
  (fun b xs e=>by rw [z09 (na b _ e)]; exact e) (fun b o u e=>by rw [z09 (na b _ e)]; exact e) (fun b ps e=>⟨#[],by rw [z09 (na b _ e),e]; simp⟩) (fun m hm=>hm) (fun b u e=>by
   by_cases hb:b=a
   ·subst hb; rw [z00] at e; cases e; exact new
   ·rw [z09 hb] at e
    exact(I.hok b u e).stay (fun c v _ q=>q) (fun c q=>by rw [z09 (na c _ q)]; exact q) fun c xs q=>by rw [z09 (na c _ q)]; exact q) I.bare
 exact J
def zjg(wi:TI)(g:TG)(tt:TT)(te:TE)(mp:List (Option Nat)):TE:=fun σ H Q=>wi σ H fun J H1=>∃W:Nat->Nat->List V->St->Hp->Prop,(∃m,W 0 m [] (subσ mp σ) H1)/\∀i m ys σ H,W i m ys σ H->
 (J.stop i H/\ys.length<=sizeLine/\∀p,H p=none->Q (.ref p) (upd H p (.lst ys)))\/(J.go i H/\ys.length < sizeLine/\∃N:List V->St->Hp->Prop,(∀ys' σ' H',N ys' σ' H'->∃m',m' < m/\W (i+1) m' ys' σ' H')/\∀x H',J.yld i H x H'->g x σ H' fun σ2 H2=>tt σ2 H2 fun b H3=>
  if b=true then te σ2 H3 (fun v H4=>N (ys++[v]) σ2 H4) else N ys σ2 H3)
structure CompS(X:Cx)(N':List Str)(scope:Scope)(mp:List (Option Nat)):Prop where
 kind:scope.kind=.function
 nocell:∀y∈scope.names,y.2≠.cell
 locs:∀y∈scope.names,y.2=.local->scope.names.lookup y.1=some .local
 frees:∀y∈scope.names,y.2=.free->X.env.scope.names.lookup y.1=some .cell
 ok:compOk X.N X.env.scope.names scope.names N' mp=true
theorem zsb{N:List Str}{on inn:List (Str×NameKind)}{N':List Str}{mp:List (Option Nat)}(h:compOk N on inn N' mp=true):mp.length=N'.length/\∀(j:Nat) (x:Str) (i:Nat),N'[j]?=some x->mp[j]?=some (some i)->N[i]?=some x/\inn.lookup x=some .free/\on.lookup x=some .cell:=by
 unfold compOk at h
 rw [yw] at h
 obtain⟨h1,h2⟩:=h
 refine⟨by simpa using h1,fun j x i e1 e2=>?_⟩
 have hm:(x,some i)∈N'.zip mp:=by
  refine yv (i:=j) ?_
  rw [List.getElem?_zip_eq_some]
  exact⟨e1,e2⟩
 have q:=List.all_eq_true.mp h2 _ hm
 simp only[yw,beq_iff_eq] at q
 exact⟨q.1.1,q.1.2,q.2⟩
theorem subσ_get{mp:List (Option Nat)}{σ : St}{j:Nat}{v:V}(h:(subσ mp σ)[j]?=some (some v)):∃i,mp[j]?=some (some i)/\σ[i]?=some (some v):=by
 unfold subσ at h
 rw [y00] at h
 cases e:mp[j]? with
 | none=>rw [e] at h; cases h
 | some o=>
  rw [e] at h
  cases o with
  | none=>simp at h
  | some i=>
   refine⟨i,rfl,?_⟩
   cases e2 : σ[i]? with
   | none=>simp[e2] at h
   | some z=>
    simp[e2] at h
    rw [h]
section
variable{X:Cx}{pins:List (Addr×Obj)}{σ : St}{H:Hp}
theorem zvr{elt tg iter:Expr}{ifs:List Expr}{scope:Scope}{pos:Pos}{N':List Str}{mp:List (Option Nat)}{g:TG}{tt:TT}{te:TE}{s₂:y9}{it:Addr}{fp:List Addr}{tn:Nat->Heap->Prop}{J:It}{cl:List (Str×Addr)}
  {Qe:V->Hp->Prop} {RR:y4->Addr->Result->y9->Prop} {E:y4->y9->Prop} (hc:X.calm=true) (S:CompS X N' scope mp)
  (hcl:∀x c,cl.lookup x=some c->X.env.cells.lookup x=some c) (hcf:∀y∈scope.names,y.2=.free->∃c,cl.lookup y.1=some c)
  (hg:∀C s₀ H₀ ex,PG (z5c X N' scope cl C s₀ H₀ ex) tg g) (ht:∀C s₀ H₀ ex,PIf (z5c X N' scope cl C s₀ H₀ ex) ifs tt) (he:∀C s₀ H₀ ex,PE (z5c X N' scope cl C s₀ H₀ ex) elt te)
  (I:Inv X pins σ H s₂) (T:Turn X.prog X.w X.K tg J fp it tn) (st:tn 0 s₂.heap) (hf:∀b∈fp,FpOk X pins H b)
  (hw:∃W:Nat->Nat->List V->St->Hp->Prop,(∃m,W 0 m [] (subσ mp σ) H)/\∀i m ys σ H,W i m ys σ H->
   (J.stop i H/\ys.length<=sizeLine/\∀p,H p=none->Qe (.ref p) (upd H p (.lst ys)))\/(J.go i H/\ys.length < sizeLine/\∃N:List V->St->Hp->Prop,(∀ys' σ' H',N ys' σ' H'->∃m',m' < m/\W (i+1) m' ys' σ' H')/\∀x H',J.yld i H x H'->g x σ H' fun σ2 H2=>tt σ2 H2 fun b H3=>
  if b=true then te σ2 H3 (fun v H4=>N (ys++[v]) σ2 H4) else N ys σ2 H3))
  (hR:∀(D C:Addr) (H':Hp) (s':y9),Inv X pins σ H' s'->Qe (.ref D) H'->(∃m,s'.heap.Ns C m)->FpOk X pins H' C->RR (.ref D) C (.ok .next) s') :
  wpAny (model X.prog X.w) X.A (newList []) (fun acc s₃=>wpAny (model X.prog X.w) X.A (newFunctionEnv scope X.env.globals cl [] X.env.qual none .none (some X.env)) (fun cenv s₄=>
   codeAny (model X.prog X.w) X.A (.compStart (.ListComp elt [⟨tg,iter,ifs,0⟩] scope pos) 0 (.ref it) acc {cenv with scope:=relabel scope X.env}) (RR acc cenv.locals) s₄) E s₃) E s₂:=by
 obtain⟨W,⟨m0,w0⟩,turn⟩:=hw
 refine wpAny_newObj_type (wpAny_newFunctionEnv S.nocell (by intro y hy; simp at hy) (fun h₁ hns₁ hsb₁=>?_) S.kind)
 dsimp only at hns₁ hsb₁ |-
 generalize hH2:s₂.heap.push {cls:=.type "list",dict:=none,data:=.seq ([]:List y4).toArray}=H2 at hns₁ hsb₁ |-
 have hCs:H2.objs.size=s₂.heap.objs.size+1:=by rw [<- hH2,y0o]
 have I3:Inv X pins σ H {s₂ with heap:=H2}:=by
  rw [<- hH2]
  exact I.kept (t':=s₂.toks) fun b o e=>y6 _ e
 have k1:∀b u,H2.get? b=some u->h₁.get? b=some u:=fun b u e=>hsb₁.extBut b u (yk (ye e)) (y6 _ e)
 have accOk:FpOk X pins H s₂.heap.objs.size:=I.fpOk (yg _) (I.hok.fresh (yg _))
 have COk:FpOk X pins H H2.objs.size:=I3.fpOk (yg _) (I3.hok.fresh (yg _))
 have fpLt:∀b∈fp,b < s₂.heap.objs.size:=fun b hb=>let ⟨o,e,_⟩:=T.obj 0 _ st b hb; ye e
 have accNf:s₂.heap.objs.size∉fp:=fun z=>absurd (fpLt _ z) (y0i _)
 have accNC:s₂.heap.objs.size≠H2.objs.size:=by rw [hCs]; exact yk (y2f _)
 have exAll:∀b∈s₂.heap.objs.size::fp,FpOk X pins H b:=fun b hb=>(List.mem_cons.mp hb).elim (fun e=>e ▸ accOk) (hf b)
 have exNC:∀b∈s₂.heap.objs.size::fp,b≠H2.objs.size:=fun b hb=>(List.mem_cons.mp hb).elim (fun e=>e ▸ accNC) fun z=>yk (y0v (fpLt b z) (by rw [hCs]; exact y2f _))
 have stkN:∀b,FpOk X pins H b->b∉frs X.stack:=fun b f z=>(List.mem_cons.mp (I.stkSub b z)).elim f.2.1 f.2.2.1
 have ok':(z5c X N' scope cl H2.objs.size {s₂ with heap:=H2} H (s₂.heap.objs.size::fp)).Ok:=by
  refine⟨I.ok.mod,S.kind,I.ok.glob,I.ok.blt,yg _,fun x y c h1 h2=>I.ok.inj x y c (hcl x c h1) (hcl y c h2),fun x hx=>?_,fun x c hx=>absurd hx (by show ¬ false=true; decide),I.ok.hd,I.ok.frames,.inl rfl,
   fun b hb=>⟨exNC b hb,fun x c e=>(exAll b hb).2.2.2.2.1 x c (hcl x c e)⟩,fun b o e=>I3.bs b o e,y0b I.ok.bsz I3.sz,fun b o e hb=>?_,fun b hb=>stkN b (exAll b hb),I3.stack,I3.stkFree⟩
  ·have hx':(relabel scope X.env).names.lookup x=some .cell\/(relabel scope X.env).names.lookup x=some .free:=hx
   have hfree:scope.names.lookup x=some .free:=by
    rcases hx' with z | z
    ·exact z78 z S.nocell (.inl rfl)
    ·exact z78 z S.nocell (.inr rfl)
   exact hcf (x,.free) (y0n hfree) rfl
  ·rcases(exAll b hb).2.2.2.1 with z | z
   ·exact I.ok.noex b o e z
   ·exact absurd (yu (ye e) (y0b I.ok.bsz z)) (y0i _)
 obtain⟨hml,hmp⟩:=zsb S.ok
 let XC:=z5c X N' scope cl H2.objs.size {s₂ with heap:=H2} H (s₂.heap.objs.size::fp)
 have J4:Inv (z5c X N' scope cl H2.objs.size {s₂ with heap:=H2} H (s₂.heap.objs.size::fp)) [] (subσ mp σ) H {s₂ with heap:=h₁,toks:=s₂.toks+([]:List (Str×y4)).length}:=by
  refine⟨ok',rfl,I.bare,Un.kept k1,⟨_,hns₁,fun j x v e1 e2 e3=>?_⟩,fun x c e=>?_,COk.1,fun x c e=>I.freeC x c (hcl x c e),fun p hp=>absurd (show p∈([]:List (Addr×Obj)) from hp) (by simp),I3.hok.kept k1,by show(subσ mp σ).length=N'.length; unfold subσ; rw [y8,hml]⟩
  ·obtain⟨i,q1,q2⟩:=subσ_get e2
   obtain⟨n1,n2,n3⟩:=hmp j x i e1 q1
   obtain⟨m,hn,hl⟩:=I3.loc
   obtain⟨u,ru,lk⟩:=hl i x v n1 q2 (.inr (.inl n3))
   refine⟨u,ru,?_⟩
   rcases lk with⟨z,_⟩ | ⟨_,c,ec,z⟩
   ·have z':X.env.scope.names.lookup x=some .local:=z
    rw [n3] at z'; cases z'
   ·obtain⟨c',ec'⟩:=hcf (x,.free) (y0n n2) rfl
    have e4:=hcl x c' ec'
    rw [ec] at e4; cases e4
    refine .inr ⟨?_,c,ec',?_⟩
    ·have z3:(relabel scope X.env).names.lookup x=some .local\/(relabel scope X.env).names.lookup x=some .cell\/(relabel scope X.env).names.lookup x=some .free:=e3
     rcases z3 with z3 | z3 | z3
     ·exfalso
      have:∀(names:List (Str×NameKind)),names.lookup x=some .free->(names.map fun(n,k)=>if(k == NameKind.free && X.env.scope.kind == .function && X.env.kindOf n == some .cell) then(n,NameKind.cell) else(n,k)).lookup x≠some .local:=by
       intro names
       induction names with
       | nil=>intro h; simp at h
       | cons p r ih=>
        obtain⟨n,k⟩:=p
        intro h
        cases hx:x == n with
        | true=>
         simp only[y0x,hx] at h
         cases h
         rw [yn]
         dsimp only
         split<;>simp[y0x,hx]
        | false=>
         simp only[y0x,hx] at h
         rw [yn]
         dsimp only
         split<;>(simp only[y0x,hx]; exact ih h)
      exact this scope.names n2 z3
     ·exact .inl z3
     ·exact .inr z3
    ·obtain⟨o,ho,hd⟩:=z
     exact⟨o,k1 _ _ ho,hd⟩
  ·obtain⟨v,o,ho,hd⟩:=I3.cell x c (hcl x c e)
   exact⟨v,o,k1 _ _ ho,hd⟩
 have acc4:h₁.get? s₂.heap.objs.size=some {cls:=.type "list",data:=.seq ([]:List y4).toArray 0}:=k1 _ _ (by rw [<- hH2]; exact yi _ rfl)
 have st4:tn 0 h₁:=T.keep _ _ _ st fun b _ o e=>k1 b o (by rw [<- hH2]; exact y6 _ e)
 have fp4:∀{H':Hp},(∀b∈fp,H' b=none)->∀b∈fp,FpOk (z5c X N' scope cl H2.objs.size {s₂ with heap:=H2} H (s₂.heap.objs.size::fp)) [] H' b:=fun hn b hb=>
  ⟨hn b hb,exNC b (y0c _ hb),stkN b (hf b hb),.inl (y0c _ hb),fun x c e=>(hf b hb).2.2.2.2.1 x c (hcl x c e),fun p hp=>absurd (show p∈([]:List (Addr×Obj)) from hp) (by simp)⟩
 have acc5:∀{H':Hp},H' s₂.heap.objs.size=none->FpOk (z5c X N' scope cl H2.objs.size {s₂ with heap:=H2} H (s₂.heap.objs.size::fp)) [] H' s₂.heap.objs.size:=fun hn=>
  ⟨hn,accNC,stkN _ accOk,.inl y0f,fun x c e=>accOk.2.2.2.2.1 x c (hcl x c e),fun p hp=>absurd (show p∈([]:List (Addr×Obj)) from hp) (by simp)⟩
 have loop:∀s₃:y9,s₃ = {s₂ with heap:=h₁,toks:=s₂.toks+([]:List (Str×y4)).length}->
   codeAny (model X.prog X.w) X.A (.compLoop (.ListComp elt [⟨tg,iter,ifs,0⟩] scope pos) 0 (.ref it) (.ref s₂.heap.objs.size) (compEnvC scope cl H2.objs.size X.env)) (RR (.ref s₂.heap.objs.size) H2.objs.size) s₃:=by
  rintro s₃ rfl
  refine zvq (fun n s'=>∃i σ' H' ys its k,Inv (z5c X N' scope cl H2.objs.size {s₂ with heap:=H2} H (s₂.heap.objs.size::fp)) [] σ' H' s'/\tn i s'.heap/\(∀b∈fp,H' b=none)/\H' s₂.heap.objs.size=none/\
   Vals ys its/\s'.heap.get? s₂.heap.objs.size=some {cls:=.type "list",data:=.seq its.toArray k}/\W i n ys σ' H') ?_ m0 ⟨0,subσ mp σ,H,[],[],0,J4,st4,fun b hb=>(hf b hb).1,accOk.1,.nil,acc4,w0⟩
  rintro n s5 ⟨i,σ5,H5,ys,its,k,J5,st5,fr5,an5,vy,ea,w5⟩
  have zv:its.length=ys.length:=vy.length.symm
  have pinOk:∀{σ':St} {H':Hp} {s':y9} {o:Obj},Inv XC [] σ' H' s'->H' s₂.heap.objs.size=none->s'.heap.get? s₂.heap.objs.size=some o->(∀v,o.data≠.cell v)->Inv XC [(s₂.heap.objs.size,o)] σ' H' s':=fun {σ' H' s' o} J a1 a2 a3=>J.pins_of fun p hp=>by
   have e:p=(s₂.heap.objs.size,o):=by simpa using hp
   subst e
   exact⟨a2,a1,accNC,stkN _ accOk,a3⟩
  have fp5:∀{H':Hp} {o:Obj},(∀b∈fp,H' b=none)->∀b∈fp,FpOk XC [(s₂.heap.objs.size,o)] H' b:=fun {H' o} hn b hb=>by
   obtain⟨c1,c2,c3,c4,c5,_⟩:=fp4 hn b hb
   refine⟨c1,c2,c3,c4,c5,fun p hp=>?_⟩
   have e:p=(s₂.heap.objs.size,o):=by
    have hp':p∈([]++[(s₂.heap.objs.size,o)]:List (Addr×Obj)):=hp
    simpa using hp'
   subst e
   intro z
   exact accNf (by rw [show s₂.heap.objs.size=b from z]; exact hb)
  have noc:∀(us:List y4) (k:Nat) (v:Option y4),({cls:=.type "list",data:=.seq us.toArray k}:Obj).data≠.cell v:=fun us k v z=>by
   have z':Data.seq us.toArray k=Data.cell v:=z
   cases z'
  have J5p:=pinOk J5 an5 ea (noc its k)
  rcases turn i n ys σ5 H5 w5 with⟨stop,zl,qn⟩ | ⟨go,zl,N,hN,step⟩
  ·refine thn (T.done XC rfl rfl rfl hc i _ s5 σ5 H5 _ J5p (fp5 fr5) st5 stop) fun r s6 ⟨hr,J6⟩=>?_
   subst hr
   have I6:Inv X pins σ H5 s6:=I3.call' (ch:=s₂.heap.objs.size::fp) (show s6.os=_ from J6.os) J6.base J6.hok J6.bare fun b hb=>let ⟨_,a1,_,a3,a4,a5⟩:=exAll b hb; ⟨a3,a1,a4,a5⟩
   have ea6:s6.heap.get? s₂.heap.objs.size=some {cls:=.type "list",data:=.seq its.toArray k}:=(J6.pin _ (y07 _ (List.mem_singleton.mpr rfl))).1
   have I7:Inv X pins σ (upd H5 s₂.heap.objs.size (.lst ys)) s6:=I6.track an5 ⟨an5,accOk.2⟩ ⟨zl,its,k,vy,ea6⟩
   obtain⟨m,hm,_⟩:=J6.loc
   exact hR _ _ _ s6 I7 (qn _ an5) ⟨m,hm⟩ ⟨by rw [z09 (y1y accNC)]; exact J6.free,COk.2⟩
  ·refine thn (T.item XC rfl rfl rfl hc i _ s5 σ5 H5 _ J5p (fp5 fr5) st5 go) fun r s6 ⟨u,hr,h6⟩=>?_
   subst hr
   refine thn h6 fun _ s7 ⟨x,H7,J7,r7,y7,st7,fr7⟩=>?_
   have an7:H7 s₂.heap.objs.size=none:=(J7.pin _ (y07 _ (List.mem_singleton.mpr rfl))).2.1
   have J7':=J7.pinned (fp5 fr7) (T.obj _ _ st7)
   refine thn (hg _ _ _ _ _ s7 σ5 H7 x u _ J7' r7 (step x H7 y7)) fun _ s8 ⟨σ8,H8,J8,q8⟩=>?_
   refine thn (ht _ _ _ _ _ s8 σ8 H8 _ J8 q8) fun b s9 ⟨H9,J9,q9⟩=>?_
   have zb7:∀{σ':St} {H':Hp} {s':y9},Inv XC ([(s₂.heap.objs.size,({cls:=.type "list",data:=.seq its.toArray k}:Obj))]++zlv fp s7.heap) σ' H' s'->
     Inv XC [] σ' H' s'/\tn (i+1) s'.heap/\(∀b∈fp,H' b=none)/\H' s₂.heap.objs.size=none/\s'.heap.get? s₂.heap.objs.size=some {cls:=.type "list",data:=.seq its.toArray k}:=fun {σ' H' s'} K=>by
    have pa:=K.pin (s₂.heap.objs.size,{cls:=.type "list",data:=.seq its.toArray k}) (y07 _ (y1t _ (List.mem_singleton.mpr rfl)))
    refine⟨K.pins_of (fun p hp=>absurd hp (by simp)),T.keep _ _ _ st7 fun b hb o e=>(K.pin (b,o) (y07 _ (y07 _ (zba hb e)))).1,fun b hb=>?_,pa.2.1,pa.1⟩
    obtain⟨o,e,d⟩:=T.obj _ _ st7 b hb
    exact(K.pin (b,o) (y07 _ (y07 _ (zba hb e)))).2.1
   cases b with
   | false=>
    rw [if_neg yp] at q9
    rw [if_neg yp]
    obtain⟨m',hm',w'⟩:=hN _ _ _ q9
    obtain⟨K1,K2,K3,K4,K5⟩:=zb7 J9
    exact⟨m',hm',i+1,σ8,H9,ys,its,k,K1,K2,K3,K4,vy,K5,w'⟩
   | true=>
    rw [if_pos rfl] at q9
    rw [if_pos rfl]
    refine thn (he _ _ _ _ _ s9 σ8 H9 _ J9 q9) fun z s10 ⟨v,H10,J10,r10,q10⟩=>?_
    obtain⟨m',hm',w'⟩:=hN _ _ _ q10
    obtain⟨K1,K2,K3,K4,K5⟩:=zb7 J10
    refine call_meets F.slot_list_append ⟨_,K5,rfl⟩ F.entry_list_append (F.args_list_append_2 _ _) (PySem.list_append s₂.heap.objs.size its.toArray k z (by rw [yy]; omega)) ⟨K5,?_⟩
    have qa:=PySem.IsL.update K5 (fun x_1=>x_1.push z)
    have eqa:its.toArray.push z=(its++[z]).toArray:=by simp
    rw [eqa] at qa
    have kk:∀b o,b≠s₂.heap.objs.size->s10.heap.get? b=some o->(s10.heap.update s₂.heap.objs.size (Obj.mapSeq fun x_1=>x_1.push z)).get? b=some o:=fun b o hb hu=>(y1b s10.heap (Obj.mapSeq fun x_1=>x_1.push z) (y1y hb)).trans hu
    obtain⟨d0,d1,d2,d3,d4,d5⟩:=acc5 K4
    have K1':=K1.turned (h':=s10.heap.update s₂.heap.objs.size (Obj.mapSeq fun x_1=>x_1.push z)) (t':=s10.toks) kk d0 d1 d3 d4 d5
    exact⟨m',hm',i+1,σ8,H10,ys++[v],its++[z],_,K1',T.keep _ _ _ K2 (fun b hb o e=>kk b o (fun y=>accNf (by rw [<- y]; exact hb)) e),K3,K4,vy.append (.cons r10 .nil),qa,w'⟩
 exact codeAny_compStart_list (loop _ rfl) (T.self _ _ _ _ _ st4 (loop _ rfl))
theorem z6j{elt tg iter:Expr}{ifs:List Expr}{scope:Scope}{pos:Pos}(N':List Str)(mp:List (Option Nat)){wi:TI}{g:TG}{tt:TT}{te:TE}(hc:X.calm=true)(S:CompS X N' scope mp)(hi:PI X tg iter wi)
  (hg:∀cl C s₀ H₀ ex,PG (z5c X N' scope cl C s₀ H₀ ex) tg g) (ht:∀cl C s₀ H₀ ex,PIf (z5c X N' scope cl C s₀ H₀ ex) ifs tt) (he:∀cl C s₀ H₀ ex,PE (z5c X N' scope cl C s₀ H₀ ex) elt te)
  (hs:∀x,foldedSetIterable iter X.env x=pure x:=by intro _; rfl):PE X (.ListComp elt [⟨tg,iter,ifs,0⟩] scope pos) (zjg wi g tt te mp):=by
 refine⟨?_⟩
 intro pins s σ H Q I h
 obtain⟨cl,e0,e1,e2⟩:=q18 (scope:=scope) (env:=X.env) fun y hy hf=>I.ok.has y.1 (.inl (S.frees y hy hf))
 rw [eval_ListComp]
 refine wpAny_comprehension_free (use:=none) rfl hs e0 S.kind S.locs (thn (hi pins s σ H _ I h) fun v s1 h1=>thn h1 fun itv s2 h2=>?_)
 obtain⟨it,fp,tn,J,H2,e,I2,T,st2,f2,hw⟩:=h2
 subst e
 refine zvr (Qe:=Q) (RR:=fun acc C=>compPost (model X.prog X.w) X.A X.xe none (EP X pins σ Q) acc C) hc S e1 e2 (hg cl) (ht cl) (he cl) I2 T st2 f2 hw fun D C H' s' I' q ⟨m,hm⟩ ⟨f0,f1,_,f3,f4,f5⟩=>?_
 exact⟨m,hm,fun h' sb=>⟨.ref D,H',I'.turned (t':=s'.toks) (fun b o hb e=>(sb.2 b hb).trans e) f0 f1 f3 f4 f5,rfl,q⟩⟩
end
section
variable{K:y3}{a:Addr}{xs:List V}{g:TG}{tt:TT}{te:TE}{σ : St}{H:Hp}{Q:VK}
abbrev zb8(J:It)(g:TG)(tt:TT)(te:TE)(Q:VK)(σ : St)(H:Hp):Prop:=∃W:Nat->Nat->List V->St->Hp->Prop,(∃m,W 0 m [] σ H)/\∀i m ys σ H,W i m ys σ H->
 (J.stop i H/\ys.length<=sizeLine/\∀p,H p=none->Q (.ref p) (upd H p (.lst ys)))\/(J.go i H/\ys.length < sizeLine/\∃N:List V->St->Hp->Prop,(∀ys' σ' H',N ys' σ' H'->∃m',m' < m/\W (i+1) m' ys' σ' H')/\∀x H',J.yld i H x H'->g x σ H' fun σ2 H2=>tt σ2 H2 fun b H3=>
  if b=true then te σ2 H3 (fun v H4=>N (ys++[v]) σ2 H4) else N ys σ2 H3)
theorem z6v(Pv:Nat->List V->St->Hp->Prop)(h0:Pv 0 [] σ H)(hz:xs.length < sizeLine)(hy:∀i ys σ H,Pv i ys σ H->ys.length<=i)(hl:∀i ys σ H,i<=xs.length->Pv i ys σ H->SqL K H a xs)
  (hs:∀i ys x σ H,xs[i]?=some x->Pv i ys σ H->g x σ H fun σ2 H2=>tt σ2 H2 fun b H3=>if b=true then te σ2 H3 (fun v H4=>Pv (i+1) (ys++[v]) σ2 H4) else Pv (i+1) ys σ2 H3)
  (hd:∀ys σ H,Pv xs.length ys σ H->∀p,H p=none->Q (.ref p) (upd H p (.lst ys))):zb8 (Itl K a) g tt te Q σ H:=by
 refine⟨fun i m ys σ H=>m=xs.length - i/\i<=xs.length/\Pv i ys σ H,⟨xs.length,by simp,y05 _,h0⟩,?_⟩
 rintro i m ys σ H ⟨rfl,hi,p⟩
 have q:=hl i ys σ H hi p
 have hyl:=hy i ys σ H p
 by_cases hlt:i < xs.length
 ·refine .inr ⟨⟨xs,xs[i],q,by simp[hlt]⟩,by omega,Pv (i+1),fun ys' σ' H' p'=>⟨xs.length - (i+1),by omega,rfl,hlt,p'⟩,fun x H' y=>?_⟩
  obtain⟨e,y⟩:=y
  subst e
  exact hs i ys x σ _ (y xs q) p
 ·have e:i=xs.length:=by omega
  subst e
  exact .inl ⟨⟨xs,q,yg _⟩,by omega,hd ys σ H p⟩
end
end L2
namespace L2
open PySem PySem.Spec PyProof.Rows
section
variable{X:Cx}
def zpw(K:y3):R2:=fun x y H Q=>∃a b xs ys,x=.ref a/\y=.ref b/\SqT K H a xs/\SqT K H b ys/\xs.length+ys.length<=sizeLine/\
 (xs=[]->Q (.ref b) H)/\(xs≠[]->ys=[]->Q (.ref a) H)/\(xs≠[]->ys≠[]->∀p,H p=none->Q (.ref p) (upd H p (.tup (xs++ys))))
theorem z31:OpR X (binaryOp .Add) (zpw X.K):=by
 intro pins s σ H x y v u Q I rx ry h
 obtain⟨a,b,xs,ys,rfl,rfl,ha,hb,hz,q0,q1,q2⟩:=h
 by_cases hx:xs=[]
 ·cases rx
  cases ry
  obtain⟨its,r1,p1,_⟩:=I.tuple ha
  obtain⟨its2,r2,p2,_⟩:=I.tuple hb
  obtain⟨⟨cls,dd,data,sl⟩,ho,hc,n,hd⟩:=id p1
  obtain⟨⟨cls2,dd2,data2,sl2⟩,ho2,hc2,n2,hd2⟩:=id p2
  simp only at hc hd hc2 hd2
  subst hc hd hc2 hd2
  have he:its=[]:=r1.nil_iff.mpr hx
  exact concat_meets ⟨_,ho,rfl⟩ ⟨_,ho2,rfl⟩ noFill_tuple_add seq_tuple_add PySem.F.slot_tuple_add PySem.F.entry_tuple_add (PySem.F.args_tuple_add_2 _ _)
   (tuple_addW0 a b its.toArray its2.toArray n n2 dd dd2 sl sl2 (by simp[he])) ⟨ho,ho2,⟨.ref b,H,I,rfl,q0 hx⟩⟩
 ·exact q02 pins s σ H _ _ v u Q I rx ry ⟨a,b,xs,ys,rfl,rfl,ha,hb,hx,hz,q1 hx,q2 hx⟩
def zqp:V->PyData
 | .bl b=>.bool b
 | .int i=>.int i
 | .str x=>.str x
 | _=>.none
theorem zre{h:Heap}{x:V}{u:y4}(r:RelV x u)(f:za3 x=true):Reads h u (zqp x) []:=by
 cases x with
 | non=>cases r; exact .none
 | bl b=>cases r; exact .bool b
 | int i=>obtain⟨t,rfl⟩:=r; exact .int i t
 | str z=>obtain⟨t,rfl⟩:=r; exact .str z t
 | _=>exact absurd (show false=true from f) yp
theorem zcz{h:Heap}:∀{xs:List V} {us:List y4},Vals xs us->xs.all za3=true->ReadsAll h us (xs.map zqp) []
 | _,_,.nil,_=>.nil
 | _::_,_::_,.cons r t,f=>by
  rw [List.all_cons,yw] at f
  exact .cons (zre r f.1) (zcz t f.2)
def okV:V->Bool
 | .non=>true
 | .bl _=>true
 | .int _=>true
 | .str z=>PyData.strOk z
 | _=>false
theorem okV.flat{x:V}(h:okV x=true):za3 x=true:=by
 cases x<;>first | rfl | exact absurd (show false=true from h) yp
theorem okV.all{xs:List V}(h:xs.all okV=true):xs.all za3=true:=List.all_eq_true.mpr fun x hx=>okV.flat (List.all_eq_true.mp h x hx)
theorem zq7:∀(xs:List V),xs.all okV=true->PyData.canLayAll0 (xs.map zqp)=true/\PyData.depthAll (xs.map zqp)<=1
 | [],_=>by simp[PyData.canLayAll0,PyData.depthAll]
 | x::xs,hz=>by
  rw [List.all_cons,yw] at hz
  have h1:(zqp x).canLay0=true/\(zqp x).depth<=1:=by
   cases x with
   | str z=>exact⟨by simpa [zqp,PyData.canLay0,okV] using hz.1,by simp[zqp,PyData.depth]⟩
   | _=>exact⟨by simp[zqp,PyData.canLay0],by simp[zqp,PyData.depth]⟩
  have h2:=zq7 xs hz.2
  simp only[yn,PyData.canLayAll0,PyData.depthAll,h1.1,h2.1,Bool.and_self,true_and]
  have a1:=h1.2
  have a2:=h2.2
  omega
theorem z8w{xs:List V}(h:xs.all okV=true):SeqAt.shaped (.list (xs.map zqp))=true:=by
 have q:=zq7 xs h
 unfold SeqAt.shaped
 simp only[PyData.canLay0,PyData.depth,q.1,y1c]
 have:=q.2
 exact decide_eq_true (by omega)
theorem Inv.readsL{pins:List (Addr×Obj)}{σ : St}{H:Hp}{s:y9}{a:Addr}{xs:List V}(I:Inv X pins σ H s)(h:SqL X.K H a xs)(f:xs.all okV=true):∃as,Reads s.heap (.ref a) (.list (xs.map zqp)) as:=by
 obtain⟨its,r,⟨o,n,e,c,_,d⟩,_⟩:=I.list h
 exact⟨_,.list e c d (by simpa using zcz r (okV.all f))⟩
def eqL(xs ys:List V):Bool:=PyData.eqv (.list (xs.map zqp)) (.list (ys.map zqp))
def q55(K:y3)(neg:Bool):R2:=fun x y H Q=>∃a b xs ys,x=.ref a/\y=.ref b/\SqL K H a xs/\SqL K H b ys/\xs.all okV=true/\ys.all okV=true/\Q (.bl (if neg then !eqL xs ys else eqL xs ys)) H
theorem q2j(hu:X.A.units+64 < cLine):OpR X (compareOp .Eq) (q55 X.K false):=by
 intro pins s σ H x y v u Q I rx ry h
 obtain⟨a,b,xs,ys,rfl,rfl,ha,hb,fa,fb,q⟩:=h
 cases rx; cases ry
 obtain⟨as,ra⟩:=I.readsL ha fa
 obtain⟨bs,rb⟩:=I.readsL hb fb
 exact eq_dataH ra rb (z8w fa) (z8w fb) hu ⟨.bl _,H,I,rfl,q⟩
theorem q2e(hu:X.A.units+64 < cLine):OpR X (compareOp .NotEq) (q55 X.K true):=by
 intro pins s σ H x y v u Q I rx ry h
 obtain⟨a,b,xs,ys,rfl,rfl,ha,hb,fa,fb,q⟩:=h
 cases rx; cases ry
 obtain⟨as,ra⟩:=I.readsL ha fa
 obtain⟨bs,rb⟩:=I.readsL hb fb
 exact ne_dataH ra rb (z8w fa) (z8w fb) hu ⟨.bl _,H,I,rfl,q⟩
theorem zv4(xs:List V):eqL xs []=xs.isEmpty:=by
 cases xs<;>simp[eqL,PyData.eqv,PyData.eqvAll]
theorem zpf:CallR X (.builtin "isinstance") (fun xs H Q=>∃x n t b,xs=[x,.ty n]/\TyOf X.K H x t/\PySem.W.kitOne X.K t (.type n)=some b/\Q (.bl b) H):=by
 intro pins s σ H xs us Q I r h
 obtain⟨x,n,t,b,rfl,ty,e,q⟩:=h
 obtain⟨u,u2,rfl,r1,r2⟩:=r.two
 cases r2
 exact zul I r1 ty e fun tk=>⟨.bl b,H,I.tok tk,rfl,q⟩
theorem zcm:∀{bs:List Bool} {us:List y4},Vals (bs.map V.bl) us->us=bs.map Value.bool
 | [],_,.nil=>rfl
 | b::bs,_::_,.cons r t=>by
  cases r
  rw [zcm t]; rfl
def Its(z:Str):It:=⟨fun i _=>i < z.cps.size,fun i H x H'=>H'=H/\∃c,z.cps[i]?=some c/\x=.str ⟨#[c]⟩,fun i _=>i=z.cps.size⟩
def q5r(tl:TE):TI:=fun σ H R=>tl σ H fun x H1=>∃z,x=.str z/\R (Its z) H1
open PySem.AutoSeq1 (wpAny_loadPart') in
theorem q1q(l:Addr)(items:Array y4)(n:Nat)(dd:Option Addr)(sl:Array (Option y4))(x:Int)(u:Tok)(h2:2<=x)(hx:x < 2 ^ 62)(hne:items.isEmpty=false)(hz:items.size * x.toNat<=sizeLine) :
  Meets (Builtin.«tuple.__mul__» ⟨[.ref l,.int x u],[]⟩) (fun _ R s=>s.heap.get? l=some {cls:=.type "tuple",dict:=dd,data:=.seq items n,slots:=sl}/\R (.ok (.ret (Value.ref s.heap.objs.size))) {s with heap:=s.heap.push {cls:=Value.type "tuple",data:=Data.seq (List.foldl (fun x1 x2=>x1++x2) #[] (List.replicate x.toNat items))},toks:=s.toks}):=
 .of_wp fun prog w A R s h=>by
  obtain⟨hp,g,d,tk,os⟩:=s; obtain⟨hl,h⟩:=h
  have f1:=AutoSeq1.idx_int
  have hs:sizeLine=16777216:=sizeLine_eq
  have hm:((items.size * x.toNat:Nat):Int)=(items.size:Int) * x:=by
   rw [Int.natCast_mul,Int.toNat_of_nonneg (by omega)]
  have c0:¬ (decide (x < -2 ^ 63) || decide (x ≥ 2 ^ 63))=true:=by
   simp only[Bool.or_eq_true,decide_eq_true_eq,not_or]
   omega
  have c1:¬ (items.isEmpty || x == 1)=true:=by
   rw [hne,Bool.false_or]
   simp only[beq_iff_eq]
   omega
  have c2:¬ (decide (x<=0) || items.isEmpty)=true:=by
   rw [hne,Bool.or_false]
   simp only[decide_eq_true_eq]
   omega
  have c3:¬ ((items.size:Int) * x > (2 ^ 63 - 1) / 8):=by
   rw [<- hm]
   have:(2 ^ 63 - 1:Int) / 8=1152921504606846975:=by decide
   rw [this]
   omega
  have c4:¬ Builtin.Tuple.tupleTooMany ((items.size:Int) * x)=true:=by
   unfold Builtin.Tuple.tupleTooMany
   simp only[decide_eq_true_eq]
   rw [<- hm]
   omega
  wp_walk using wpAny_loadPart' hl
  refine PySem.W.KFB.if_not (Bool.eq_false_iff.mpr c0) ?_
  wp_walk using wpAny_loadPart' hl
  refine PySem.W.KFB.if_not (Bool.eq_false_iff.mpr c1) ?_
  refine PySem.W.KFB.if_not (Bool.eq_false_iff.mpr c2) ?_
  dsimp only
  rw [if_neg c3]
  refine PySem.W.KFB.if_not (Bool.eq_false_iff.mpr c4) ?_
  refine yc (wpAny_newObj_type (yo ⟨_,rfl,h⟩) ?_)
  show(List.foldl (fun x1 x2=>x1++x2) #[] (List.replicate x.toNat items)).size<=sizeLine
  have e:=zmj items.toList x.toNat []
  rw [List.nil_append] at e
  have e2:items.toList.toArray=items:=by simp
  rw [e2] at e
  rw [show([]:List y4).toArray = #[] from rfl] at e
  rw [e,yy,q0f,y1l,Nat.mul_comm]
  exact hz
def zo3(K:y3):R2:=fun x y H Q=>∃l k xs,x=.ref l/\y=.int k/\SqT K H l xs/\2<=k/\k < 2 ^ 62/\xs≠[]/\xs.length * k.toNat<=sizeLine/\
 ∀p,H p=none->Q (.ref p) (upd H p (.tup (List.replicate k.toNat xs).flatten))
end
end L2
namespace L2
open PySem PySem.Spec PyProof.Rows
section
variable{X:Cx}
def Seq(K:y3)(H:Hp)(a:Addr):Prop:=(∃xs,SqL K H a xs)\/∃xs,SqT K H a xs
theorem zwy(hu:X.A.units+64 < cLine):OpR X (compareOp .Eq) (fun x y H Q=>∃a z,x=.ref a/\y=.str z/\Seq X.K H a/\Q (.bl false) H):=by
 intro pins s σ H x y v u Q I rx ry h
 obtain⟨a,z,rfl,rfl,hq,q⟩:=h
 cases rx
 obtain⟨t,rfl⟩:=ry
 show wpAny _ _ (richCompare .Eq _ _) _ _ _
 rcases hq with⟨xs,hq⟩ | ⟨xs,hq⟩
 ·obtain⟨its,r,pl,hz⟩:=I.list hq
  exact SeqAt.RcAt.list_str z t pl.isList (by omega) _ _ _ _ ⟨.bl false,H,I,rfl,q⟩
 ·obtain⟨its,r,pl,hz⟩:=I.tuple hq
  exact SeqAt.RcAt.tuple_str z t (show s.heap.IsTuple a its.toArray from pl) (by omega) _ _ _ _ ⟨.bl false,H,I,rfl,q⟩
def isN:V->Bool
 | .non=>true
 | _=>false
def q31:y4->Bool
 | .none=>true
 | _=>false
theorem zrj(hu:X.A.units+64 < cLine):OpR X (compareOp .In) (fun x y H Q=>∃p xs,x=.non/\y=.ref p/\SqL X.K H p xs/\(∀v∈xs,v=.non\/∃a ys,v=.ref a/\SqT X.K H a ys)/\Q (.bl (xs.any isN)) H):=by
 intro pins s σ H x y v u Q I rx ry h
 obtain⟨p,xs,rfl,rfl,hq,hall,q⟩:=h
 cases rx; cases ry
 obtain⟨its,r,pl,hz⟩:=I.list hq
 have hmem:∀(xs:List V) (us:List y4),Vals xs us->(∀v∈xs,v=.non\/∃a ys,v=.ref a/\SqT X.K H a ys)->(∀u∈us,SeqAt.EqAt X.A.in1 s u .none (q31 u))/\us.any q31=xs.any isN:=by
  intro xs us rv
  induction rv with
  | nil=>intro _; exact⟨fun u hu=>(by cases hu),rfl⟩
  | cons rr _ ih=>
   intro ha
   obtain⟨i1,i2⟩:=ih fun v hv=>ha v (y0c _ hv)
   rcases ha _ y0f with e | ⟨a,ys,e,hs⟩
   ·subst e
    cases rr
    refine⟨fun u hu'=>?_,by rw [y16,y16,i2]; rfl⟩
    rcases List.mem_cons.mp hu' with rfl | h'
    ·exact SeqAt.EqAt.same _
    ·exact i1 u h'
   ·subst e
    cases rr
    refine⟨fun u hu'=>?_,by rw [y16,y16,i2]; rfl⟩
    rcases List.mem_cons.mp hu' with rfl | h'
    ·obtain⟨its,_,ht,_⟩:=I.tuple hs
     exact SeqAt.EqAt.tuple_none (show s.heap.IsTuple a its.toArray from ht) (by show X.A.units+1 < _; omega)
    ·exact i1 u h'
 obtain⟨h1,h2⟩:=hmem xs its r hall
 refine SeqAt.in_listAt q31 pl.isList (fun w hw=>h1 w (by simpa using hw)) ⟨.bl _,H,I,rfl,?_⟩
 rw [show its.toArray.any q31=its.any q31 by simp,h2]
 exact q
def zzi:R2:=fun x y H Q=>∃i j,x=.str i/\y=.str j/\Q (.bl (!decide (j.cps.toList < i.cps.toList))) H
def zzh:R2:=fun x y H Q=>∃i j,x=.str i/\y=.str j/\Q (.bl (decide (i.cps.toList < j.cps.toList))) H
def q40(K:y3)(x y:V)(H:Hp)(b:Bool):Prop:=(q42 x y=true/\b=decide (x=y))\/
 (∃a c xs ys,x=.ref a/\y=.ref c/\SqL K H a xs/\SqL K H c ys/\xs.all okV=true/\ys.all okV=true/\b=eqL xs ys)\/(∃a z,x=.ref a/\y=.str z/\Seq K H a/\b=false)
def qEq(K:y3):R2:=fun x y H Q=>∃b,q40 K x y H b/\Q (.bl b) H
def qNe(K:y3):R2:=fun x y H Q=>∃b,((q42 x y=true/\b=decide (x=y))\/(∃a c xs ys,x=.ref a/\y=.ref c/\SqL K H a xs/\SqL K H c ys/\xs.all okV=true/\ys.all okV=true/\b=eqL xs ys))/\Q (.bl (!b)) H
def q64(K:y3)(x y:V)(H:Hp)(b:Bool):Prop:=(∃p xs,y=.ref p/\(SqL K H p xs\/SqT K H p xs)/\za3 x=true/\xs.all za3=true/\b=inV x xs)\/
 (∃i j,x=.str i/\y=.str j/\b = !(Builtin.Str.occurrences j i 0 j.length 1).isEmpty)\/
 (∃p xs,x=.non/\y=.ref p/\SqL K H p xs/\(∀v∈xs,v=.non\/∃a ys,v=.ref a/\SqT K H a ys)/\b=xs.any isN)
def qIn(K:y3):R2:=fun x y H Q=>∃b,q64 K x y H b/\Q (.bl b) H
def q1m(K:y3)(x y:V)(H:Hp)(b:Bool):Prop:=(∃p xs,y=.ref p/\(SqL K H p xs\/SqT K H p xs)/\za3 x=true/\xs.all za3=true/\b = !inV x xs)\/
 (∃i j,x=.str i/\y=.str j/\b = !(!(Builtin.Str.occurrences j i 0 j.length 1).isEmpty))\/
 (∃a p xs,x=.ref a/\y=.ref p/\Seq K H a/\SqT K H p xs/\(∀v∈xs,∃z,v=.str z)/\b=true)
def zd0(K:y3):R2:=fun x y H Q=>∃b,q1m K x y H b/\Q (.bl b) H
def q1n(K:y3)(x:V)(H:Hp)(n:Nat):Prop:=(∃p ys,x=.ref p/\(SqL K H p ys\/SqT K H p ys)/\n=ys.length)\/∃z,x=.str z/\z.length<=sizeLine/\n=z.length
def zyh(K:y3):List V->Hp->VK->Prop:=fun xs H Q=>∃x n,xs=[x]/\q1n K x H n/\Q (.int n) H
def zyi:R2:=fun x y H Q=>y=.non/\Q (.bl (decide (x=.non))) H
def zlr:R2:=fun x y H Q=>y=.non/\Q (.bl (!decide (x=.non))) H
def zzk:R2:=fun x y H Q=>∃a b,x=.bl a/\y=.bl b/\Q (.bl (a == b)) H
def zo5:R2:=fun x y H Q=>∃a b,x=.bl a/\y=.bl b/\Q (.bl (a !=b)) H
theorem zoe(hu:X.A.units+64 < cLine):OpR X (compareOp .NotIn) (fun x y H Q=>∃a p xs,x=.ref a/\y=.ref p/\Seq X.K H a/\SqT X.K H p xs/\(∀v∈xs,∃z,v=.str z)/\Q (.bl true) H):=by
 intro pins s σ H x y v u Q I rx ry h
 obtain⟨a,p,xs,rfl,rfl,hq,hp,hall,q⟩:=h
 cases rx; cases ry
 obtain⟨its,r,pl,hz⟩:=I.tuple hp
 have hmem:∀(xs:List V) (us:List y4),Vals xs us->(∀v∈xs,∃z,v=.str z)->∀u∈us,SeqAt.EqAt X.A.in1 s u (.ref a) ((fun _=>false) u):=by
  intro xs us rv
  induction rv with
  | nil=>intro _ u hu; cases hu
  | cons rr _ ih=>
   intro ha u hu'
   rcases List.mem_cons.mp hu' with rfl | h'
   ·obtain⟨z,e⟩:=ha _ y0f
    subst e
    obtain⟨t,rfl⟩:=rr
    rcases hq with⟨ys,hq⟩ | ⟨ys,hq⟩
    ·obtain⟨its,_,pl,_⟩:=I.list hq
     exact SeqAt.EqAt.str_list z t pl.isList (by show X.A.units+1 < _; omega)
    ·obtain⟨its,_,pl,_⟩:=I.tuple hq
     exact SeqAt.EqAt.str_tuple z t (show s.heap.IsTuple a its.toArray from pl) (by show X.A.units+1 < _; omega)
   ·exact ih (fun v hv=>ha v (y0c _ hv)) u h'
 refine SeqAt.notIn_tupleAt (fun _=>false) pl (fun w hw=>hmem xs its r hall w (by simpa using hw)) ⟨.bl _,H,I,rfl,?_⟩
 have e:(!its.toArray.any fun _=>false)=true:=by simp
 rw [e]
 exact q
theorem gEq(hu:X.A.units+64 < cLine):OpR X (compareOp .Eq) (qEq X.K):=by
 intro pins s σ H x y v u Q I rx ry h
 obtain⟨b,h,q⟩:=h
 rcases h with⟨h,rfl⟩ | ⟨a,c,xs,ys,h1,h2,h3,h4,h5,h6,rfl⟩ | ⟨a,z,h1,h2,h3,rfl⟩
 ·exact q2k pins s σ H x y v u Q I rx ry ⟨h,q⟩
 ·exact q2j hu pins s σ H x y v u Q I rx ry ⟨a,c,xs,ys,h1,h2,h3,h4,h5,h6,q⟩
 ·exact zwy hu pins s σ H x y v u Q I rx ry ⟨a,z,h1,h2,h3,q⟩
theorem gNe(hu:X.A.units+64 < cLine):OpR X (compareOp .NotEq) (qNe X.K):=by
 intro pins s σ H x y v u Q I rx ry h
 obtain⟨b,h,q⟩:=h
 rcases h with⟨h,rfl⟩ | ⟨a,c,xs,ys,h1,h2,h3,h4,h5,h6,rfl⟩
 ·exact q2f pins s σ H x y v u Q I rx ry ⟨h,q⟩
 ·exact q2e hu pins s σ H x y v u Q I rx ry ⟨a,c,xs,ys,h1,h2,h3,h4,h5,h6,q⟩
theorem gIn(hu:X.A.units+64 < cLine):OpR X (compareOp .In) (qIn X.K):=by
 intro pins s σ H x y v u Q I rx ry h
 obtain⟨b,h,q⟩:=h
 rcases h with⟨p,xs,h1,h2,h3,h4,rfl⟩ | ⟨i,j,h1,h2,rfl⟩ | ⟨p,xs,h1,h2,h3,h4,rfl⟩
 ·exact ztt pins s σ H x y v u Q I rx ry ⟨p,xs,h1,h2,h3,h4,q⟩
 ·exact zts pins s σ H x y v u Q I rx ry ⟨i,j,h1,h2,q⟩
 ·exact zrj hu pins s σ H x y v u Q I rx ry ⟨p,xs,h1,h2,h3,h4,q⟩
theorem q35(hu:X.A.units+64 < cLine):OpR X (compareOp .NotIn) (zd0 X.K):=by
 intro pins s σ H x y v u Q I rx ry h
 obtain⟨b,h,q⟩:=h
 rcases h with⟨p,xs,h1,h2,h3,h4,rfl⟩ | ⟨i,j,h1,h2,rfl⟩ | ⟨a,p,xs,h1,h2,h3,h4,h5,rfl⟩
 ·exact zly pins s σ H x y v u Q I rx ry ⟨p,xs,h1,h2,h3,h4,q⟩
 ·exact zlx pins s σ H x y v u Q I rx ry ⟨i,j,h1,h2,q⟩
 ·exact zoe hu pins s σ H x y v u Q I rx ry ⟨a,p,xs,h1,h2,h3,h4,h5,q⟩
theorem zqg:CallR X (.builtin "len") (zyh X.K):=by
 intro pins s σ H xs us Q I r h
 obtain⟨x,n,rfl,h,q⟩:=h
 rcases h with⟨p,ys,rfl,h,rfl⟩ | ⟨z,rfl,hz,rfl⟩
 ·exact zn7 pins s σ H _ us Q I r ⟨p,ys,rfl,h,q⟩
 ·exact zn6 pins s σ H _ us Q I r ⟨z,rfl,hz,q⟩
theorem z80:OpR X (compareOp .Eq) (rI0 fun i j=>.bl (decide (i=j))):=by
 intro pins s σ H x y v u Q I rx ry h
 obtain⟨i,rfl,hA⟩:=isI.o h
 obtain⟨j,rfl,q⟩:=isI.o hA
 refine q2k pins s σ H _ _ v u Q I rx ry ⟨rfl,?_⟩
 have e:decide (V.int i=V.int j)=decide (i=j):=by simp
 rw [e]; exact q
theorem zq2:OpR X (compareOp .NotEq) (rI0 fun i j=>.bl (!decide (i=j))):=by
 intro pins s σ H x y v u Q I rx ry h
 obtain⟨i,rfl,hA⟩:=isI.o h
 obtain⟨j,rfl,q⟩:=isI.o hA
 refine q2f pins s σ H _ _ v u Q I rx ry ⟨rfl,?_⟩
 have e:decide (V.int i=V.int j)=decide (i=j):=by simp
 rw [e]; exact q
theorem q5w:OpR X (compareOp .Is) zyi:=q2h
theorem q0s:OpR X (compareOp .IsNot) zlr:=zzy
def zlt(K:y3):List V->Hp->VK->Prop:=fun xs H Q=>∃x n b,xs=[x,.ty n]/\(∃t,TyOf K H x t/\PySem.W.kitOne K t (.type n)=some b)/\Q (.bl b) H
theorem q0u:CallR X (.builtin "isinstance") (zlt X.K):=by
 intro pins s σ H xs us Q I r h
 obtain⟨x,n,b,rfl,⟨t,h1,h2⟩,q⟩:=h
 exact zpf pins s σ H _ us Q I r ⟨x,n,t,b,rfl,h1,h2,q⟩
end
def zj7:Expr->Bool
 | .Starred ..=>true
 | _=>false
def z2b:List Expr->Bool
 | []=>true
 | e::r=>!zj7 e && z2b r
theorem z0z{e:Expr}{es:List Expr}{env:Env}(h:zj7 e=false):starEach (e::es) env=(false,eval e env)::starEach es env:=by
 cases e<;>first | rfl | exact absurd (show true=false from h) (by decide)
theorem z2a{pos:Pos}{env:Env}:∀{es:List Expr},z2b es=true->(backTo pos (starEach es env)).any (·.1)=false
 | [],_=>rfl
 | e::r,h=>by
  rw [z2b,yw,y09] at h
  rw [z0z h.1]
  have q:=z2a (pos:=pos) (env:=env) h.2
  show(false || (backTo pos (starEach r env)).any (·.1))=false
  rw [q]; rfl
theorem z08{X:Cx}{e:Expr}{es:List Expr}{te:TE}{t:TA}(ha:PE X e te)(hr:PA X es t)(h:zj7 e=false:=by rfl):PA X (e::es) (zcu te t):=zzv ha hr (z0z h)
structure Callee(P:yf)(w:yr)(K:y3)(mg:Str->Option y4)(base:Heap)(x:Str)(ps:List Str)(k:Nat)(sp:Sp):Prop where
 ex:∃f fd,FnOk P w K mg base CX0 k f fd ps sp/\mg x=some (.ref f)/\PySem.W.keepIn K (.ref f)=true/\Binds K fd ps []
theorem Callee.mono{P:yf}{w:yr}{K:y3}{mg:Str->Option y4}{base:Heap}{x:Str}{ps:List Str}{j k:Nat}{sp:Sp}(h:Callee P w K mg base x ps j sp)(hk:j<=k):Callee P w K mg base x ps k sp:=by
 obtain⟨f,fd,a,b,c,d⟩:=h
 exact⟨f,fd,a.mono hk,b,c,d⟩
theorem z19{X:Cx}{x:Str}{ps:List Str}{k j:Nat}{sp:Sp}{e:Expr}{es:List Expr}{t:TA}{p pos:Pos}(C:Callee X.prog X.w X.K X.mg X.base x ps k sp)(hr:Room j X.A)(hk:k<=j)(ha:PA X (e::es) t)(hg:Gl X x:=by rfl)
  (hdb:(x == ("__debug__" : Str))=false:=by decide) (hst:z2b (e::es)=true:=by rfl) :
  PE X (.Call (.Name x p) (e::es) [] pos) (zlc sp [] E0 t):=by
 have hst':=hst
 rw [z2b,yw,y09] at hst'
 have he:=z0z (es:=es) (env:=X.env) hst'.1
 have hpl:=z2a (pos:=pos) (env:=X.env) hst'.2
 obtain⟨f,fd,F,hm,hkp,hb⟩:=C
 refine⟨?_⟩
 intro pins s σ H Q I h
 refine y19 (zaq I hg hm ?_ hdb)
 refine y1x (h₀:=X.base) I.ok.mod.kin hkp (thn (ha pos pins s σ H _ I h) fun us s1 ⟨vs,H1,I1,r,q⟩=>⟨I1.kIn,?_⟩) he hpl
 exact zt7 F (hr.mono hk) hb .nil (fun _ _ _ _ _ _ _ z=>z.elim) I1 r q
theorem z4h{X:Cx}{x:Str}{p pos:Pos}{e:Expr}{es:List Expr}{t:TA}{id:String}{r:List V->Hp->VK->Prop}(hc:CallR X (.builtin id) r)(hg:Gl X x)(hm:X.mg x=none)(hv:bootBuiltins x=some (.builtin id))(ha:PA X (e::es) t) (hn:x≠"__name__") (hdb:(x == ("__debug__" : Str))=false)
  (hst:z2b (e::es)=true:=by rfl):PE X (.Call (.Name x p) (e::es) [] pos) (tCB r t):=by
 have hst':=hst
 rw [z2b,yw,y09] at hst'
 exact zwu hc hg hm hv ha hn hdb (z0z hst'.1) (z2a hst'.2)
theorem ztp{X:Cx}{x:Str}{p pos:Pos}{e:Expr}{es:List Expr}{t:TA}{T:String}{r:List V->Hp->VK->Prop}(hc:CallR X (.type T) r)(hg:Gl X x)(hm:X.mg x=none)(hv:bootBuiltins x=some (.type T))(ha:PA X (e::es) t) (hn:x≠"__name__") (hdb:(x == ("__debug__" : Str))=false)
  (hst:z2b (e::es)=true:=by rfl):PE X (.Call (.Name x p) (e::es) [] pos) (tCB r t):=by
 have hst':=hst
 rw [z2b,yw,y09] at hst'
 exact zto hc hg hm hv ha hn hdb (z0z hst'.1) (z2a hst'.2)
structure GC(mg:Str->Option y4)(x:Str)(v:V):Prop where
 ex:∃u,mg x=some u/\RelV v u
theorem q2b{X:Cx}{x:Str}{v:V}{pos:Pos}(h:GC X.mg x v)(hg:Gl X x:=by rfl) (hd:(x == ("__debug__" : Str))=false:=by decide):PE X (.Name x pos) (tC v):=by
 obtain⟨u,hm,r⟩:=h
 exact zc7 hg hm r hd
def zvt(N:List Str)(on:List (Str×NameKind))(sc:Scope)(N':List Str)(mp:List (Option Nat)):Bool:=
 sc.kind == .function && sc.names.all (fun y=>y.2 !=.cell) && sc.names.all (fun y=>y.2 !=.local || sc.names.lookup y.1 == some .local) && sc.names.all (fun y=>y.2 !=.free || on.lookup y.1 == some .cell) && compOk N on sc.names N' mp
theorem CompS.of{X:Cx}{N':List Str}{sc:Scope}{mp:List (Option Nat)}(h:zvt X.N X.env.scope.names sc N' mp=true):CompS X N' sc mp:=by
 unfold zvt at h
 simp only[yw,beq_iff_eq] at h
 obtain⟨⟨⟨⟨h1,h2⟩,h3⟩,h4⟩,h5⟩:=h
 refine⟨h1,fun y hy=>?_,fun y hy e=>?_,fun y hy e=>?_,h5⟩
 ·have:=List.all_eq_true.mp h2 y hy
  simpa using this
 ·have:=List.all_eq_true.mp h3 y hy
  simp only[e,Bool.or_eq_true,beq_iff_eq] at this
  rcases this with z | z
  ·exact absurd z (by decide)
  ·exact z
 ·have:=List.all_eq_true.mp h4 y hy
  simp only[e,Bool.or_eq_true,beq_iff_eq] at this
  rcases this with z | z
  ·exact absurd z (by decide)
  ·exact z
theorem opK{X:Cx}{K:y3}{f:y4->y4->Sem y4}{r:y3->R2}(h:OpR X f (r X.K))(hK:X.K=K):OpR X f (r K):=hK ▸ h
theorem ixK{X:Cx}{K:y3}{r:y3->R2}(h:IxR X (r X.K))(hK:X.K=K):IxR X (r K):=hK ▸ h
theorem zec{X:Cx}{K:y3}{es:List Expr}{k:Nat}{t:TGs}{n:Nat}{pos:Pos}(hK:X.K=K)(hc:X.calm=true)(h:PGs X es t)(hn:(assignEach es X.env).length=n:=by rfl)(hst:(assignEach es X.env).findIdx? (·.1)=none:=by rfl):PG X (.Tuple es k pos) (zuu K n t):=hK ▸ zbz hc h hn hst
def q32:Expr->Bool
 | .ListComp ..=>true
 | .SetComp ..=>true
 | .DictComp ..=>true
 | _=>false
theorem z05{e:Expr}{t:Option Expr}{l:Nat}{env:Env}(h:q32 e=false):swapsWith e t l env=pure false:=by
 cases e<;>first | rfl | exact absurd (show true=false from h) (by decide)
theorem zj2{elt:Expr}{gs:List Comprehension}{sc:Scope}{cp p:Pos}{x:Str}{l:Nat}{env:Env}(h:env.scope.names.lookup x=some .cell):swapsWith (.ListComp elt gs sc cp) (some (.Name x p)) l env=pure false:=by
 unfold swapsWith
 have e:(env.kindOf x == some NameKind.local)=false:=by
  unfold Env.kindOf
  rw [h]; rfl
 simp only[e,Bool.and_false,y1d]
inductive Dm where
 | non | bl (b:Bool) | int (i:Int) | str (x:Str) | tup (ds:List Dm) | lst
mutual
inductive Dt (H:Hp):V->Dm->Prop where
 | non:Dt H .non .non
 | bl (b:Bool):Dt H (.bl b) (.bl b)
 | int (i:Int):Dt H (.int i) (.int i)
 | str (x:Str):Dt H (.str x) (.str x)
 | tup {a:Addr} {xs:List V} {ds:List Dm}:H a=some (.tup xs)->DtA H xs ds->Dt H (.ref a) (.tup ds)
 | lst {a:Addr} {xs:List V}:H a=some (.lst xs)->Dt H (.ref a) .lst
inductive DtA (H:Hp):List V->List Dm->Prop where
 | nil:DtA H [] []
 | cons {x:V} {xs:List V} {d:Dm} {ds:List Dm}:Dt H x d->DtA H xs ds->DtA H (x::xs) (d::ds)
end
structure Kp(H H':Hp):Prop where
 t:∀b xs,H b=some (.tup xs)->H' b=some (.tup xs)
 l:∀b xs,H b=some (.lst xs)->∃ys,H' b=some (.lst ys)
theorem Kp.refl(H:Hp):Kp H H:=⟨fun _ _ h=>h,fun _ xs h=>⟨xs,h⟩⟩
theorem Kp.trans{H H1 H2:Hp}(a:Kp H H1)(b:Kp H1 H2):Kp H H2:=⟨fun c xs h=>b.t c xs (a.t c xs h),fun c xs h=>let ⟨ys,e⟩:=a.l c xs h; b.l c ys e⟩
theorem Same.kp{H H':Hp}(s:Same H H'):Kp H H':=⟨fun b xs h=>s b _ h,fun b xs h=>⟨xs,s b _ h⟩⟩
theorem z01{H:Hp}{p:Addr}(h:H p=none)(o:HO):Same H (upd H p o):=fun b u q=>by rw [z09 (z0d q h)]; exact q
theorem Kp.new{H:Hp}{p:Addr}(h:H p=none)(o:HO):Kp H (upd H p o):=(z01 h o).kp
theorem Kp.set{H:Hp}{p:Addr}{xs ys:List V}(h:H p=some (.lst xs)):Kp H (upd H p (.lst ys)):=
 ⟨fun b zs e=>by rw [z09 (z4y e h (by intro z; cases z))]; exact e,fun b zs e=>by
  by_cases hb:b=p
  ·subst hb; exact⟨ys,z00⟩
  ·exact⟨zs,by rw [z09 hb]; exact e⟩⟩
mutual
theorem Dt.kp{H H':Hp}(k:Kp H H'):∀{v:V} {d:Dm},Dt H v d->Dt H' v d
 | _,_,.non=>.non
 | _,_,.bl b=>.bl b
 | _,_,.int i=>.int i
 | _,_,.str x=>.str x
 | _,_,.tup e r=>.tup (k.t _ _ e) (DtA.kp k r)
 | _,_,.lst e=>let ⟨_,e'⟩:=k.l _ _ e; .lst e'
theorem DtA.kp{H H':Hp}(k:Kp H H'):∀{xs:List V} {ds:List Dm},DtA H xs ds->DtA H' xs ds
 | _,_,.nil=>.nil
 | _,_,.cons r t=>.cons (Dt.kp k r) (DtA.kp k t)
end
theorem DtA.length{H:Hp}:∀{xs:List V} {ds:List Dm},DtA H xs ds->xs.length=ds.length
 | _,_,.nil=>rfl
 | _,_,.cons _ t=>by rw [yh,yh,DtA.length t]
theorem DtA.append{H:Hp}:∀{xs ys:List V} {ds es:List Dm},DtA H xs ds->DtA H ys es->DtA H (xs++ys) (ds++es)
 | _,_,_,_,.nil,h=>h
 | _,_,_,_,.cons r t,h=>.cons r (DtA.append t h)
theorem DtA.get{H:Hp}:∀{xs:List V} {ds:List Dm} {i:Nat} {x:V},DtA H xs ds->xs[i]?=some x->∃d,ds[i]?=some d/\Dt H x d
 | _,_,_,_,.nil,e=>by simp at e
 | _,_,0,_,.cons r _,e=>by simp at e; subst e; exact⟨_,rfl,r⟩
 | _,_,i+1,x,.cons _ t,e=>by
  obtain⟨d,h1,h2⟩:=DtA.get (i:=i) (x:=x) t (by simpa using e)
  exact⟨d,by simpa using h1,h2⟩
theorem Dt.tupI{H:Hp}{v:V}{ds:List Dm}(h:Dt H v (.tup ds)):∃a xs,v=.ref a/\H a=some (.tup xs)/\DtA H xs ds:=by
 cases h with
 | tup e r=>exact⟨_,_,rfl,e,r⟩
end L2
namespace L2
open PySem PySem.Spec PyProof.Rows
section
variable{X:Cx}
def zo6(K:y3):List V->Hp->VK->Prop:=fun xs H Q=>∃(a:Addr) (ns:List Int),xs=[.ref a]/\SqL K H a (ns.map V.int)/\0 < ns.length/\∀M,M∈ns->(∀a∈ns,M<=a)->Q (.int M) H
def zo7(K:y3):List V->Hp->VK->Prop:=fun xs H Q=>∃(a:Addr) (ns:List Int),xs=[.ref a]/\SqL K H a (ns.map V.int)/\0 < ns.length/\∀M,M∈ns->(∀a∈ns,a<=M)->Q (.int M) H
def zgu(K:y3):List V->Hp->VK->Prop:=fun xs H Q=>∃(a:Addr) (ns:List Int),xs=[.ref a]/\SqL K H a (ns.map V.int)/\ns.length < 64/\∀(l:Addr) (ms:List Int),H l=none->ms.Perm ns->ms.Pairwise (· <= ·)->Q (.ref l) (upd H l (.lst (ms.map V.int)))
def zz6(t ta tb:TT):TT:=fun σ H Q=>t σ H fun c H1=>if c=true then ta σ H1 Q else tb σ H1 Q
mutual
def Dm.dat:Dm->PyData
 | .non=>.none
 | .bl b=>.bool b
 | .int i=>.int i
 | .str x=>.str x
 | .tup ds=>.tuple (zcj ds)
 | .lst=>.none
def zcj:List Dm->List PyData
 | []=>[]
 | d::ds=>d.dat::zcj ds
end
mutual
def Dm.shut:Dm->Bool
 | .tup ds=>zff ds
 | .lst=>false
 | .str x=>PyData.strOk x
 | _=>true
def zff:List Dm->Bool
 | []=>true
 | d::ds=>d.shut && zff ds
end
mutual
theorem Dt.reads{pins:List (Addr×Obj)}{σ : St}{H:Hp}{s:y9}(I:Inv X pins σ H s):∀{x:V} {d:Dm} {u:y4},Dt H x d->d.shut=true->RelV x u->∃as,Reads s.heap u d.dat as
 | _,_,_,.non,_,r=>by cases r; exact⟨_,.none⟩
 | _,_,_,.bl b,_,r=>by cases r; exact⟨_,.bool b⟩
 | _,_,_,.int i,_,r=>by obtain⟨t,rfl⟩:=r; exact⟨_,.int i t⟩
 | _,_,_,.str x,_,r=>by obtain⟨t,rfl⟩:=r; exact⟨_,.str x t⟩
 | _,_,_,.tup e ra,hs,r=>by
  cases r
  obtain⟨its,rv,⟨o,ho,hc,n,hd⟩,_⟩:=I.tuple (SqT.of e)
  obtain⟨as,q⟩:=DtA.reads I ra (by simpa [Dm.shut] using hs) rv
  exact⟨as,by rw [Dm.dat]; exact .tuple ho hc hd (by simpa using q)⟩
 | _,_,_,.lst _,hs,_=>absurd hs (by simp[Dm.shut])
theorem DtA.reads{pins:List (Addr×Obj)}{σ : St}{H:Hp}{s:y9}(I:Inv X pins σ H s):∀{xs:List V} {ds:List Dm} {us:List y4},DtA H xs ds->zff ds=true->Vals xs us->∃as,ReadsAll s.heap us (zcj ds) as
 | _,_,_,.nil,_,.nil=>⟨[],by rw [zcj]; exact .nil⟩
 | _,_,_,.cons r t,hs,.cons rv rt=>by
  rw [zff,yw] at hs
  obtain⟨as,q1⟩:=Dt.reads I r hs.1 rv
  obtain⟨bs,q2⟩:=DtA.reads I t hs.2 rt
  exact⟨as++bs,by rw [zcj]; exact .cons q1 q2⟩
end
def EqD(H:Hp)(x y:V)(b:Bool):Prop:=∃d e,Dt H x d/\Dt H y e/\(d.shut=true/\SeqAt.shaped d.dat=true)/\(e.shut=true/\SeqAt.shaped e.dat=true)/\b=PyData.eqv d.dat e.dat
def zw3(_:y3):R2:=fun x y H Q=>∃b,EqD H x y b/\Q (.bl b) H
def zyg(_:y3):R2:=fun x y H Q=>∃b,EqD H x y b/\Q (.bl (!b)) H
theorem dEq(hu:X.A.units+64 < cLine):OpR X (compareOp .Eq) (zw3 X.K):=by
 intro pins s σ H x y v u Q I rx ry h
 obtain⟨b,⟨d,e,dx,dy,⟨s1,s2⟩,⟨s3,s4⟩,rfl⟩,q⟩:=h
 obtain⟨as,ra⟩:=Dt.reads I dx s1 rx
 obtain⟨bs,rb⟩:=Dt.reads I dy s3 ry
 exact eq_dataH ra rb s2 s4 hu ⟨.bl _,H,I,rfl,q⟩
theorem dNe(hu:X.A.units+64 < cLine):OpR X (compareOp .NotEq) (zyg X.K):=by
 intro pins s σ H x y v u Q I rx ry h
 obtain⟨b,⟨d,e,dx,dy,⟨s1,s2⟩,⟨s3,s4⟩,rfl⟩,q⟩:=h
 obtain⟨as,ra⟩:=Dt.reads I dx s1 rx
 obtain⟨bs,rb⟩:=Dt.reads I dy s3 ry
 exact ne_dataH ra rb s2 s4 hu ⟨.bl _,H,I,rfl,q⟩
end
end L2
namespace L2
open PySem PySem.Spec PyProof.Rows
section
variable{κ : Type} [DecidableEq κ]
def zcr(kvs:List (κ×V))(k : κ):Option V:=(kvs.find? fun kv=>decide (kv.1=k)).map (·.2)
def zgw(kvs:List (κ×V))(k : κ)(v:V):List (κ×V):=
 if(kvs.any fun kv=>decide (kv.1=k))=true then kvs.map (fun kv=>if kv.1=k then(kv.1,v) else kv) else kvs++[(k,v)]
theorem z4e{p : κ×V}{r:List (κ×V)}{k : κ}(e:p.1=k):zcr (p::r) k=some p.2:=by simp[zcr,y0g,e]
theorem z4f{p : κ×V}{r:List (κ×V)}{k : κ}(e:¬ p.1=k):zcr (p::r) k=zcr r k:=by simp[zcr,y0g,e]
theorem zfy(k : κ):∀kvs:List (κ×V),(kvs.any fun kv=>decide (kv.1=k))=(zcr kvs k).isSome
 | []=>rfl
 | p::r=>by
  rw [y16]
  by_cases e:p.1=k
  ·simp only[z4e e,decide_eq_true e,Bool.true_or,Option.isSome_some]
  ·rw [z4f e,decide_eq_false e,Bool.false_or]; exact zfy k r
theorem zpl(k j : κ)(y:V):∀kvs:List (κ×V),zcr (kvs.map fun kv=>if kv.1=k then(kv.1,y) else kv) j=(zcr kvs j).map fun x=>if j=k then y else x
 | []=>rfl
 | p::r=>by
  have ih:=zpl k j y r
  rw [yn]
  by_cases h:p.1=k
  ·rw [if_pos h]
   by_cases e:p.1=j
   ·rw [z4e (p:=(p.1,y)) e,z4e e,Option.map_some,if_pos (e.symm.trans h)]
   ·rw [z4f (p:=(p.1,y)) e,z4f e,ih]
  ·rw [if_neg h]
   by_cases e:p.1=j
   ·rw [z4e (p:=p) e,z4e e,Option.map_some,if_neg (fun z=>h (e.trans z))]
   ·rw [z4f (p:=p) e,z4f e,ih]
theorem zl4(k j : κ)(y:V):∀kvs:List (κ×V),zcr kvs k=none->zcr (kvs++[(k,y)]) j=if j=k then some y else zcr kvs j
 | [],_=>by
  by_cases e:k=j
  ·rw [if_pos e.symm]; exact z4e (p:=(k,y)) e
  ·rw [if_neg (fun z=>e z.symm)]; exact z4f (p:=(k,y)) e
 | p::r,hn=>by
  rw [y17]
  have hk:¬ p.1=k:=fun z=>by rw [z4e z] at hn; cases hn
  rw [z4f hk] at hn
  have ih:=zl4 k j y r hn
  by_cases e:p.1=j
  ·rw [z4e e,z4e e,if_neg (fun z=>hk (e.trans z))]
  ·rw [z4f e,z4f e,ih]
theorem zw9(kvs:List (κ×V))(k j : κ)(y:V):zcr (zgw kvs k y) j=if j=k then some y else zcr kvs j:=by
 unfold zgw
 by_cases a:(kvs.any fun kv=>decide (kv.1=k))=true
 ·rw [if_pos a,zpl]
  rw [zfy] at a
  by_cases e:j=k
  ·obtain⟨x,hx⟩:=Option.isSome_iff_exists.mp a
   rw [if_pos e,e,hx,Option.map_some,if_pos rfl]
  ·rw [if_neg e]
   cases zcr kvs j with
   | none=>rfl
   | some x=>rw [Option.map_some,if_neg e]
 ·rw [if_neg a]
  refine zl4 k j y kvs ?_
  rw [zfy] at a
  cases q:zcr kvs k with
  | none=>rfl
  | some x=>rw [q] at a; exact(a rfl).elim
theorem zha(kvs:List (κ×V))(k : κ)(v:V):(zgw kvs k v).length<=kvs.length+1:=by
 unfold zgw
 split
 ·rw [y8]; omega
 ·rw [yd,yh,y1g]; omega
theorem RelO.isSome_eq{o:Option V}{u:Option y4}(r:RelO o u):o.isSome=u.isSome:=by
 cases o with
 | none=>cases u with
  | none=>rfl
  | some _=>exact(show False from r).elim
 | some _=>cases u with
  | none=>exact(show False from r).elim
  | some _=>rfl
theorem RelO.getD{o:Option V}{u:Option y4}{d:V}{d':y4}(r:RelO o u)(rd:RelV d d'):RelV (o.getD d) (u.getD d'):=by
 cases o with
 | none=>cases u with
  | none=>exact rd
  | some _=>exact(show False from r).elim
 | some _=>cases u with
  | none=>exact(show False from r).elim
  | some _=>exact r
theorem KV.val{kvs:List (κ×V)}{vs:List (κ×y4)}(r:KV kvs vs)(k : κ):RelO (zcr kvs k) (valueAt vs k):=by
 unfold KV at r
 induction r with
 | nil=>exact True.intro
 | @cons p q ps qs h t ih=>
  obtain⟨h1,h2⟩:=h
  by_cases e:p.1=k
  ·have e':q.1=k:=h1.symm.trans e
   have b:valueAt (q::qs) k=some q.2:=by simp[valueAt,y0g,e']
   rw [z4e e,b]; exact h2
  ·have e':¬ q.1=k:=fun z=>e (h1.trans z)
   have b:valueAt (q::qs) k=valueAt qs k:=by simp[valueAt,y0g,e']
   rw [z4f e,b]; exact ih
theorem KV.any{kvs:List (κ×V)}{vs:List (κ×y4)}(r:KV kvs vs)(k : κ):(kvs.any fun kv=>decide (kv.1=k))=vs.any fun kv=>decide (kv.1=k):=by
 unfold KV at r
 induction r with
 | nil=>rfl
 | cons h t ih=>rw [y16,y16,ih,h.1]
theorem KV.repl{kvs:List (κ×V)}{vs:List (κ×y4)}(r:KV kvs vs)(k : κ){y:V}{u:y4}(ry:RelV y u) :
  KV (kvs.map fun kv=>if kv.1=k then(kv.1,y) else kv) (vs.map fun kv=>if kv.1=k then(kv.1,u) else kv):=by
 unfold KV at r |-
 induction r with
 | nil=>exact .nil
 | @cons p q ps qs h t ih=>
  rw [yn,yn]
  refine .cons ?_ ih
  obtain⟨h1,h2⟩:=h
  by_cases e:p.1=k
  ·rw [if_pos e,if_pos (h1.symm.trans e)]; exact⟨h1,ry⟩
  ·rw [if_neg e,if_neg (fun z=>e (h1.trans z))]; exact⟨h1,h2⟩
theorem KV.put{kvs:List (κ×V)}{vs:List (κ×y4)}(r:KV kvs vs)(k : κ){y:V}{u:y4}(ry:RelV y u):KV (zgw kvs k y) (stored vs k u):=by
 unfold zgw stored
 rw [r.any k]
 by_cases e:(vs.any fun kv=>decide (kv.1=k))=true
 ·rw [if_pos e,if_pos e]; exact r.repl k ry
 ·rw [if_neg e,if_neg e]; exact Paired.snoc r ⟨rfl,ry⟩
theorem KV.keys{kvs:List (κ×V)}{vs:List (κ×y4)}(r:KV kvs vs):kvs.map (·.1)=vs.map (·.1):=by
 unfold KV at r
 induction r with
 | nil=>rfl
 | cons h t ih=>rw [yn,yn,ih,h.1]
theorem KV.length{kvs:List (κ×V)}{vs:List (κ×y4)}(r:KV kvs vs):kvs.length=vs.length:=Paired.length r
end
theorem zuk{P:yf}{w:yr}{k:Key}{u:y4}(r:RelV (kV k) u):(z1d P w).is k u=true:=by
 cases k with
 | inl i=>obtain⟨t,e⟩:=(show ∃t,u=Value.int i t from r); subst e; exact zoq P w i t
 | inr x=>obtain⟨t,e⟩:=(show ∃t,u=Value.str x t from r); subst e; exact zop P w x t
theorem zmb{P:yf}{w:yr}:∀{ks:List Key} {us:List y4},Vals (ks.map kV) us->ItemsAre (z1d P w) ks us
 | [],_,r=>by rw [List.map_nil] at r; cases r; exact .nil
 | k::ks,_,r=>by
  rw [yn] at r
  cases r with
  | cons h t=>exact .cons (zuk h) (zmb t)
abbrev KT(H:Hp):List (List Key×V)->List (List Key×Addr×y4)->Prop:=Paired fun p q=>p.1=q.1/\H q.2.1=some (.tup (p.1.map kV))/\RelV p.2 q.2.2
theorem KT.val{H:Hp}{kvs:List (List Key×V)}{xs:List (List Key×Addr×y4)}(r:KT H kvs xs)(k:List Key):RelO (zcr kvs k) ((atKey xs k).map (·.2)):=by
 induction r with
 | nil=>exact True.intro
 | @cons p q ps qs h t ih=>
  obtain⟨h1,_,h2⟩:=h
  by_cases e:p.1=k
  ·have e':q.1=k:=h1.symm.trans e
   have b:atKey (q::qs) k=some q.2:=by simp[atKey,y0g,e']
   rw [z4e e,b]; exact h2
  ·have e':¬ q.1=k:=fun z=>e (h1.trans z)
   have b:atKey (q::qs) k=atKey qs k:=by simp[atKey,y0g,e']
   rw [z4f e,b]; exact ih
theorem KT.repl{H:Hp}{kvs:List (List Key×V)}{xs:List (List Key×Addr×y4)}(r:KT H kvs xs)(k:List Key){y:V}{u:y4}(ry:RelV y u) :
  KT H (kvs.map fun kv=>if kv.1=k then(kv.1,y) else kv) (xs.map (putAt k u)):=by
 induction r with
 | nil=>exact .nil
 | @cons p q ps qs h t ih=>
  rw [yn,yn]
  refine .cons ?_ ih
  obtain⟨h1,h2,h3⟩:=h
  unfold putAt
  by_cases e:p.1=k
  ·rw [if_pos e,if_pos (h1.symm.trans e)]; exact⟨h1,h2,ry⟩
  ·rw [if_neg e,if_neg (fun z=>e (h1.trans z))]; exact⟨h1,h2,h3⟩
theorem KT.put{H:Hp}{kvs:List (List Key×V)}{xs:List (List Key×Addr×y4)}(r:KT H kvs xs)(k:List Key){b:Addr}{y:V}{u:y4}(hb:H b=some (.tup (k.map kV)))(ry:RelV y u) :
  KT H (zgw kvs k y) (storedH xs k b u):=by
 have e:(kvs.any fun kv=>decide (kv.1=k))=(atKey xs k).isSome:=by
  rw [zfy,(r.val k).isSome_eq,Option.isSome_map]
 unfold zgw storedH
 rw [e]
 by_cases q:(atKey xs k).isSome=true
 ·rw [if_pos q,if_pos q]; exact r.repl k ry
 ·rw [if_neg q,if_neg q]; exact Paired.snoc r ⟨rfl,hb,ry⟩
theorem KT.keeps{H H':Hp}{kvs:List (List Key×V)}{xs:List (List Key×Addr×y4)}(r:KT H kvs xs)(ht:∀b ys,H b=some (.tup ys)->H' b=some (.tup ys)):KT H' kvs xs:=
 Paired.mapP r fun _ _ z=>⟨z.1,ht _ _ z.2.1,z.2.2⟩
section
variable{P:yf}{w:yr}{H:Hp}{h:Heap}{a:Addr}
theorem q26{u:HO}(ok:HOk P w H h)(e:Rd H a u):ObjOk P w H h a u:=e.ok ok
theorem zs3{kvs:List (Key×V)}(ok:HOk P w H h)(e:Rd H a (.dK kvs)):kvs.length<=sizeLine/\(a == sysModules)=false/\∃vs,KV kvs vs/\h.DictOf (z1d P w) a vs:=
 show ObjOk P w H h a (.dK kvs) from q26 ok e
theorem q11{kvs:List (Key×V)}(ok:HOk P w H h)(e:H a=some (.dK kvs)):kvs.length<=sizeLine/\(a == sysModules)=false/\∃vs,KV kvs vs/\h.DictOf (z1d P w) a vs:=zs3 ok (.inl e)
theorem zj5{ks:List Key}(ok:HOk P w H h)(e:H a=some (.tup (ks.map kV))):(tupleKind (z1d P w)).is h ks a:=by
 obtain⟨_,its,r,o,h1,h2,n,h3⟩:=(show ObjOk P w H h a (.tup (ks.map kV)) from ok a _ e)
 exact⟨o,its.toArray,n,h1,h2,h3,by simpa using zmb r⟩
theorem zs2{kvs:List (List Key×V)}(ok:HOk P w H h)(e:Rd H a (.dT kvs)):kvs.length<=sizeLine/\(a == sysModules)=false/\
  ∃xs,KT H kvs xs/\h.DictOfH (tupleKind (z1d P w)) a xs:=by
 obtain⟨z,y,xs,r,o,es,ep,h1,h2,h3,h4,h5⟩:=(show ObjOk P w H h a (.dT kvs) from q26 ok e)
 refine⟨z,y,xs,r,o,es,ep,h1,h2,h3,h4,fun x hx=>?_,h5⟩
 have all:∀{l:List (List Key×V)} {m:List (List Key×Addr×y4)},KT H l m->∀x∈m,(tupleKind (z1d P w)).is h x.1 x.2.1:=by
  intro l m q
  induction q with
  | nil=>intro x hx; exact nomatch hx
  | @cons p q ps qs hq t ih=>
   intro x hx
   rcases List.mem_cons.mp hx with e | hx
   ·subst e
    exact zj5 ok (by rw [<- hq.1]; exact hq.2.1)
   ·exact ih x hx
 exact all r x hx
theorem q4o{kvs:List (List Key×V)}(ok:HOk P w H h)(e:H a=some (.dT kvs)):kvs.length<=sizeLine/\(a == sysModules)=false/\
  ∃xs,KT H kvs xs/\h.DictOfH (tupleKind (z1d P w)) a xs:=zs2 ok (.inl e)
end
def DGet(H:Hp)(a:Addr)(y:V)(r:Option V):Prop:=
 (∃kvs k,Rd H a (.dK kvs)/\y=kV k/\r=zcr kvs k)\/∃kvs k b,Rd H a (.dT kvs)/\y=.ref b/\H b=some (.tup (k.map kV))/\r=zcr kvs k
def DPut(H:Hp)(a:Addr)(y v:V)(H':Hp):Prop:=
 (∃kvs k,H a=some (.dK kvs)/\y=kV k/\kvs.length < sizeLine/\H'=upd H a (.dK (zgw kvs k v)))\/
 ∃kvs k b,H a=some (.dT kvs)/\y=.ref b/\H b=some (.tup (k.map kV))/\kvs.length < sizeLine/\H'=upd H a (.dT (zgw kvs k v))
theorem DGet.k{H:Hp}{a:Addr}{kvs:List (Key×V)}{k:Key}(e:H a=some (.dK kvs)):DGet H a (kV k) (zcr kvs k):=.inl ⟨kvs,k,.inl e,rfl,rfl⟩
theorem DGet.t{H:Hp}{a b:Addr}{kvs:List (List Key×V)}{k:List Key}(e:H a=some (.dT kvs))(eb:H b=some (.tup (k.map kV))):DGet H a (.ref b) (zcr kvs k):=.inr ⟨kvs,k,b,.inl e,rfl,eb,rfl⟩
theorem DPut.k{H:Hp}{a:Addr}{kvs:List (Key×V)}{k:Key}{v:V}(e:H a=some (.dK kvs))(hl:kvs.length < sizeLine):DPut H a (kV k) v (upd H a (.dK (zgw kvs k v))):=.inl ⟨kvs,k,e,rfl,hl,rfl⟩
theorem DPut.t{H:Hp}{a b:Addr}{kvs:List (List Key×V)}{k:List Key}{v:V}(e:H a=some (.dT kvs))(eb:H b=some (.tup (k.map kV)))(hl:kvs.length < sizeLine) :
  DPut H a (.ref b) v (upd H a (.dT (zgw kvs k v))):=.inr ⟨kvs,k,b,e,rfl,eb,hl,rfl⟩
section
variable{X:Cx}{pins:List (Addr×Obj)}{σ : St}{H:Hp}{s:y9}{a:Addr}{y v:V}{u r:y4}{o:Option V}{A:y01}{E:y4->y9->Prop}
theorem Inv.big(I:Inv X pins σ H s):sysModules < s.heap.objs.size:=by
 have h:mainGlobals < s.heap.objs.size:=(I.mod.glob.keeps I.bk).lt
 exact y0v (by decide) h
theorem zvl{Q:y4->y9->Prop}(hu:A.units+1 < cLine)(I:Inv X pins σ H s)(g:DGet H a y (some v))(ry:RelV y u)(h:∀w' s',Inv X pins σ H s'->RelV v w'->Q w' s') :
  wpAny (model X.prog X.w) A (getItem (.ref a) u) Q E s:=by
 rcases g with⟨kvs,k,e,ey,l⟩ | ⟨kvs,k,b,e,ey,eb,l⟩
 ·subst ey
  obtain⟨z,hd,vs,rel,dd⟩:=zs3 I.hok e
  obtain⟨w',hw,rw'⟩:=RelO.some_of (v:=v) (o:=valueAt vs k) (by rw [l]; exact rel.val k)
  exact wpAny_getItem_of (zuk ry) dd.mapOf hw (h w' _ (I.tok _) rw')
 ·subst ey
  cases (show u=Value.ref b from ry)
  obtain⟨z,hd,xs,rel,dd⟩:=zs2 I.hok e
  obtain⟨w',hw,rw'⟩:=RelO.some_of (v:=v) (o:=(atKey xs k).map (·.2)) (by rw [l]; exact rel.val k)
  obtain⟨p,hp,hp2⟩:=Option.map_eq_some_iff.mp hw
  refine wpAny_getItem_heap (tupleKind_room_in1 hu) (zj5 I.hok eb) dd hp ?_
  rw [hp2]
  exact h w' _ (I.tok _) rw'
theorem q16{Q:y4->y9->Prop}(hu:A.units+1 < cLine)(I:Inv X pins σ H s)(g:DGet H a y o)(ry:RelV y u)(h:∀s',Inv X pins σ H s'->Q (.bool (!o.isSome)) s') :
  wpAny (model X.prog X.w) A (compareOp .NotIn u (.ref a)) Q E s:=by
 rcases g with⟨kvs,k,e,ey,l⟩ | ⟨kvs,k,b,e,ey,eb,l⟩
 ·subst ey
  obtain⟨z,hd,vs,rel,dd⟩:=zs3 I.hok e
  refine wpAny_notIn_of (zuk ry) hd dd.mapOf ?_
  rw [<- (rel.val k).isSome_eq,<- l]
  exact h _ (I.tok _)
 ·subst ey
  cases (show u=Value.ref b from ry)
  obtain⟨z,hd,xs,rel,dd⟩:=zs2 I.hok e
  refine wpAny_notIn_heap (tupleKind_room_in1 hu) (zj5 I.hok eb) hd dd ?_
  have q:=(rel.val k).isSome_eq
  rw [Option.isSome_map] at q
  rw [<- q,<- l]
  exact h _ (I.tok _)
theorem zvj{h':Heap}{t':Nat}{ob:HO}(I:Inv X pins σ H s)(mu:Mut (H a))(hs:Heap.SameBut a s.heap h')(he:∃q,h'.get? a=some q)(new:ObjOk X.prog X.w (upd H a ob) h' a ob) :
  Inv X pins σ (upd H a ob) {s with heap:=h',toks:=t'}:=
 I.write (x:=a) (e:=a) mu (.inl rfl) (fun b q hb z=>(hs.2 b hb).trans z) he new
theorem q3d{P:yf}{w:yr}{H':Hp}{h':Heap}{kvs:List (Key×V)}{vs:List (Key×y4)}(z:kvs.length<=sizeLine)(hd:(a == sysModules)=false)(rel:KV kvs vs)(dd:h'.DictOf (z1d P w) a vs) :
  ObjOk P w H' h' a (.dK kvs):=⟨z,hd,vs,rel,dd⟩
theorem zvk{H':Hp}{Q:Unit->y9->Prop}(hu:A.units+1 < cLine)(I:Inv X pins σ H s)(g:DPut H a y v H')(ry:RelV y u)(rv:RelV v r)(h:∀s',Inv X pins σ H' s'->Q () s') :
  wpAny (model X.prog X.w) A (setItem (.ref a) u r) Q E s:=by
 rcases g with⟨kvs,k,e,ey,l,eH⟩ | ⟨kvs,k,b,e,ey,eb,l,eH⟩
 ·subst ey eH
  obtain⟨z,hd,vs,rel,dd⟩:=q11 I.hok e
  have hz:vs.length<=sizeLine:=by rw [<- rel.length]; exact z
  have hl:(zgw kvs k v).length<=sizeLine:=by have:=zha kvs k v; omega
  refine wpAny_setItem_pairs (hsz:=hz) (zuk ry) dd fun h' dd' hs=>h _ ?_
  have he:∃q,h'.get? a=some q:=let ⟨q,_,_,hq,_⟩:=dd'; ⟨q,hq⟩
  exact zvj I (by rw [e]; exact True.intro) hs he (q3d hl hd (rel.put k rv) dd')
 ·subst ey eH
  cases (show u=Value.ref b from ry)
  obtain⟨z,hd,xs,rel,dd⟩:=q4o I.hok e
  have hz:xs.length<=sizeLine:=by rw [<- Paired.length rel]; exact z
  have hl:(zgw kvs k v).length<=sizeLine:=by have:=zha kvs k v; omega
  refine wpAny_setItem_heap (hsz:=hz) (tupleKind_room_in1 hu) (zj5 I.hok eb) dd fun h' dd' hs=>h _ ?_
  obtain⟨q,es,ep,hq,h2,h3,h4,_,h5⟩:=dd'
  refine zvj I (by rw [e]; exact True.intro) hs ⟨q,hq⟩ ⟨hl,hd,_,(rel.put k eb rv).keeps fun c ys ec=>?_,q,es,ep,hq,h2,h3,h4,h5⟩
  rw [z09 (z4y ec e (fun z=>nomatch z))]
  exact ec
end
section
variable{X:Cx}{pins:List (Addr×Obj)}{σ : St}{H:Hp}{s:y9}{a:Addr}{kvs:List (Key×V)}{k:Key}{u:y4}{A:y01}{E:y4->y9->Prop}
end
def q5e(i:Expr):Prop:=∀ov iv,subscripted i false ov iv=operate [ov,iv] (getItem ov iv)
theorem zz8{prog:yf}{w:yr}{A:y01}{E:y4->y9->Prop}{s:y9}{env:Env}{value slice:Expr}{pos:Pos}{T id:String}{Q:y4->y9->Prop}
  (hl:typeLookup (.type T) "__getitem__" = pure (some (.builtin id))) (hs:q5e slice)
  (h:wpAny (model prog w) A (eval value env) (fun o s₁=>wpAny (model prog w) A (eval slice env) (fun i s₂=>s₂.TypeIs o T/\wpAny (model prog w) A (getItem o i) Q E s₂) E s₁) E s) :
  wpAny (model prog w) A (eval (.Subscript value slice pos) env) Q E s:=by
 refine Subscript_ (y0l h (fun o s₁ h₁=>y0l h₁ (fun i s₂ h₂=>?_) fun _ _ x=>x) fun _ _ x=>x)
 obtain⟨hT,h₂⟩:=h₂
 unfold subscriptTail
 refine yc ?_
 rw [getitemInPython_of_ne hT.not_modules]
 refine yc (wpAny_specialOf hT hl ?_)
 have fin:wpAny (model prog w) A (subscripted slice false o i) (fun r s₃=>wpAny (model prog w) A (letTemporaryGo value o r >>= fun _=>pure r) Q E s₃) E s₂:=by
  rw [hs o i]
  exact wpAny_operating (y0l h₂ (fun r s₃ h₃=>yc (wpAny_letTemporaryGo (yo h₃))) fun _ _ x=>x)
 first
  | exact yo (yc fin)
  | exact yc (yo (yc fin))
  | exact yc fin
theorem zp2{X:Cx}{pins:List (Addr×Obj)}{σ : St}{H:Hp}{s:y9}{a:Addr}{y:V}{o:Option V}(I:Inv X pins σ H s)(g:DGet H a y o):s.TypeIs (.ref a) "dict":=by
 rcases g with⟨kvs,k,e,_,_⟩ | ⟨kvs,k,b,e,_,_,_⟩
 ·obtain⟨_,_,vs,_,dd⟩:=zs3 I.hok e
  exact dd.typeIs
 ·obtain⟨_,_,xs,_,dd⟩:=zs2 I.hok e
  exact dd.typeIs
def zlb(td ty:TE):TE:=fun σ H Q=>td σ H fun x H1=>ty σ H1 fun y H2=>∃a v,x=.ref a/\DGet H2 a y (some v)/\Q v H2
def q4z(ty td:TE):TE:=fun σ H Q=>ty σ H fun y H1=>td σ H1 fun x H2=>∃a o,x=.ref a/\DGet H2 a y o/\Q (.bl o.isSome) H2
def znq(ty td:TE):TE:=fun σ H Q=>ty σ H fun y H1=>td σ H1 fun x H2=>∃a o,x=.ref a/\DGet H2 a y o/\Q (.bl (!o.isSome)) H2
def zln(td ty tv:TE):TS:=fun D σ H=>tv σ H fun v H1=>td σ H1 fun x H2=>ty σ H2 fun y H3=>∃a H4,x=.ref a/\DPut H3 a y v H4/\D.nx σ H4
section
variable{X:Cx}{o i e value:Expr}{pos pos' tpos:Pos}{td ty tv:TE}
theorem zzs(hu:X.A.units+1 < cLine)(ho:PE X o td)(hi:PE X i ty)(hs:q5e i):PE X (.Subscript o i pos) (zlb td ty):=by
 refine⟨?_⟩
 intro pins s σ H Q I h
 refine zz8 PySem.F.slot_dict_getitem.lookup hs (thn (ho pins s σ H _ I h) fun u s1 ⟨x,H1,I1,rx,q1⟩=>thn (hi pins s1 σ H1 _ I1 q1) fun iv s2 ⟨y,H2,I2,ry,a,v,ex,g,q2⟩=>?_)
 subst ex
 obtain rfl:u=Value.ref a:=rx
 exact⟨zp2 I2 g,zvl hu I2 g ry fun w' s3 I3 rw'=>⟨v,H2,I3,rw',q2⟩⟩
theorem ztq(hu:X.A.units+1 < cLine)(hi:PE X i ty)(ho:PE X o td):PC X .NotIn i o (znq ty td):=by
 refine⟨?_⟩
 intro pins s σ H Q I h
 refine thn (hi pins s σ H _ I h) fun iv s1 ⟨y,H1,I1,ry,q1⟩=>thn (ho pins s1 σ H1 _ I1 q1) fun u s2 ⟨x,H2,I2,rx,a,ov,ex,g,q2⟩=>?_
 subst ex
 obtain rfl:u=Value.ref a:=rx
 exact q16 hu I2 g ry fun s3 I3=>⟨.bl (!ov.isSome),H2,I3,rfl,q2⟩
theorem zoa(hu:X.A.units+1 < cLine)(ho:PE X o td)(hi:PE X i ty)(hv:PE X value tv)(hs:swapsWith value (some (.Subscript o i pos')) pos.line X.env=pure false) :
  PS X (.Assign [.Subscript o i pos'] value pos) (zln td ty tv):=by
 refine⟨?_⟩
 intro pins s σ H D I h
 refine wpAny_Assign_Subscript (thn (hv pins s σ H _ I h) fun r s1 ⟨v,H1,I1,rv,q1⟩=>thn (ho pins s1 σ H1 _ I1 q1) fun u s2 ⟨x,H2,I2,rx,q2⟩=>thn (hi pins s2 σ H2 _ I2 q2) fun iv s3 ⟨y,H3,I3,ry,a,H4,ex,g,q3⟩=>?_) hs
 subst ex
 obtain rfl:u=Value.ref a:=rx
 exact zvk hu I3 g ry rv fun s4 I4=>⟨σ,H4,I4,q3⟩
end
theorem zxt{P:yf}{w:yr}{H:Hp}(h:Heap)(hb:sysModules < h.objs.size):ObjOk P w H (h.push {cls:=.type "dict",data:=.dict #[]}) h.objs.size (.dK []):=
 ⟨y05 _,beq_eq_false_iff_ne.mpr (y1y (yk hb)),[],.nil,Heap.DictOf.new h⟩
theorem zxs{P:yf}{w:yr}{H:Hp}(h:Heap)(hb:sysModules < h.objs.size):ObjOk P w H (h.push {cls:=.type "dict",data:=.dict #[]}) h.objs.size (.dT []):=
 ⟨y05 _,beq_eq_false_iff_ne.mpr (y1y (yk hb)),[],.nil,_,#[],0,yi _ rfl,⟨rfl,rfl,rfl⟩,rfl,rfl,List.nodup_nil⟩
def zet:TE:=fun _ H Q=>∀p,H p=none->Q (.ref p) (upd H p (.dK []))
def q22:TE:=fun _ H Q=>∀p,H p=none->Q (.ref p) (upd H p (.dT []))
section
variable{X:Cx}{pos:Pos}
theorem zws:PE X (.Dict [] [] pos) zet:=⟨fun pins s σ H Q I h=>
 wpAny_Dict_empty ⟨.ref s.heap.objs.size,_,I.laid (a:=s.heap.objs.size) (o:=.dK []) (t':=s.toks) (fun _ _ q=>y6 _ q) (yg _) (zxt s.heap I.big),rfl,h _ (I.hok.fresh (yg _))⟩⟩
theorem zwr:PE X (.Dict [] [] pos) q22:=⟨fun pins s σ H Q I h=>
 wpAny_Dict_empty ⟨.ref s.heap.objs.size,_,I.laid (a:=s.heap.objs.size) (o:=.dT []) (t':=s.toks) (fun _ _ q=>y6 _ q) (yg _) (zxs s.heap I.big),rfl,h _ (I.hok.fresh (yg _))⟩⟩
end
def zct:List (TE×TE)->St->Hp->(List (V×V)->Hp->Prop)->Prop
 | [],_,H,Q=>Q [] H
 | (tk,tv)::r,σ,H,Q=>tk σ H fun x H1=>tv σ H1 fun y H2=>zct r σ H2 fun ps H3=>Q ((x,y)::ps) H3
def q2q(kvs more:List (Key×V)):List (Key×V):=more.foldl (fun acc kv=>zgw acc kv.1 kv.2) kvs
def znp(trs:List (TE×TE)):TE:=fun σ H Q=>∀p,H p=none->zct trs σ (upd H p (.dK [])) fun ps H2=>H2 p=some (.dK [])/\∃kvs:List (Key×V),ps=kvs.map (fun kv=>(kV kv.1,kv.2))/\kvs.length<=15/\Q (.ref p) (upd H2 p (.dK (q2q [] kvs)))
structure M1(X:Cx)(o:Expr)(m:Str)(apos:Pos)(e:Expr)(cpos:Pos):Prop where
 base:attributeBase o m X.env (eval o X.env)=eval o X.env
 few:((backTo cpos (starEach [e] X.env)).all (fun x=>!x.1) && (backToKw cpos (keywordEach [] X.env)).all (fun x=>x.1.isSome)
  && decide (([e]:List Expr).length+([]:List Keyword).length+(if([]:List Keyword).isEmpty then 0 else 1) < 30))=true
 line:(apos.endLine == cpos.line)=true
 trees:backTo cpos (starEach [e] X.env)=[(false,eval e X.env)]
structure M2(X:Cx)(o:Expr)(m:Str)(apos:Pos)(e f:Expr)(cpos:Pos):Prop where
 base:attributeBase o m X.env (eval o X.env)=eval o X.env
 few:((backTo cpos (starEach [e,f] X.env)).all (fun x=>!x.1) && (backToKw cpos (keywordEach [] X.env)).all (fun x=>x.1.isSome)
  && decide (([e,f]:List Expr).length+([]:List Keyword).length+(if([]:List Keyword).isEmpty then 0 else 1) < 30))=true
 line:(apos.endLine == cpos.line)=true
 trees:backTo cpos (starEach [e,f] X.env)=[(false,eval e X.env),(false,eval f X.env)]
def IsD(H:Hp)(a:Addr):Prop:=(∃kvs,Rd H a (.dK kvs))\/∃kvs,Rd H a (.dT kvs)
theorem zun{X:Cx}{pins:List (Addr×Obj)}{σ : St}{H:Hp}{s:y9}{a:Addr}(I:Inv X pins σ H s)(d:IsD H a) :
  s.TypeIs (.ref a) "dict"/\(∀b,Value.ref a=.ref b->∃ob,s.heap.get? b=some ob/\ob.dict=none)/\(a == sysModules)=false:=by
 rcases d with⟨kvs,e⟩ | ⟨kvs,e⟩
 ·obtain⟨_,hd,vs,_,dd⟩:=zs3 I.hok e
  refine⟨dd.typeIs,fun b q=>?_,hd⟩
  cases q
  obtain⟨ob,_,_,h1,h2,_⟩:=dd
  exact⟨ob,h1,h2.2.1⟩
 ·obtain⟨_,hd,xs,_,dd⟩:=zs2 I.hok e
  refine⟨dd.typeIs,fun b q=>?_,hd⟩
  cases q
  obtain⟨ob,_,_,h1,h2,_⟩:=dd
  exact⟨ob,h1,h2.2.1⟩
section
variable{X:Cx}{pins:List (Addr×Obj)}{σ : St}{H:Hp}{s:y9}{a:Addr}{y d:V}{u r:y4}{o:Option V}{A:y01}{E:y4->y9->Prop}
theorem q3h{Q:y4->y9->Prop}(hu:A.units+1 < cLine)(I:Inv X pins σ H s)(g:DGet H a y o)(ry:RelV y u)(rd:RelV d r)(h:∀w' s',Inv X pins σ H s'->RelV (o.getD d) w'->Q w' s') :
  wpAny (model X.prog X.w) A (call (.builtin "dict.get") [.ref a,u,r]) Q E s:=by
 rcases g with⟨kvs,k,e,ey,l⟩ | ⟨kvs,k,b,e,ey,eb,l⟩
 ·subst ey
  obtain⟨z,hd,vs,rel,dd⟩:=zs3 I.hok e
  refine call_meetsIn PySem.F.slot_dict_get dd.typeIs PySem.F.entry_dict_get (PySem.F.args_dict_get_3 _ _ _) (meets_dict_get_default (z1d X.prog X.w) a (zuk ry) hd r) ⟨_,dd.mapOf,h _ _ (I.tok _) ?_⟩
  rw [l]
  exact(rel.val k).getD rd
 ·subst ey
  cases (show u=Value.ref b from ry)
  obtain⟨z,hd,xs,rel,dd⟩:=zs2 I.hok e
  refine call_meetsIn PySem.F.slot_dict_get dd.typeIs PySem.F.entry_dict_get (PySem.F.args_dict_get_3 _ _ _) (meetsH_dict_get_default (tupleKind (z1d X.prog X.w)) a b hd r) ⟨tupleKind_room_in1 hu,k,xs,zj5 I.hok eb,dd,h _ _ (I.tok _) ?_⟩
  rw [l]
  exact(rel.val k).getD rd
end
def zge(td ty:TE):TE:=fun σ H Q=>td σ H fun x H1=>∃a,x=.ref a/\IsD H1 a/\ty σ H1 fun y H2=>∃o,DGet H2 a y o/\Q (o.getD .non) H2
def zgd(td ty tx:TE):TE:=fun σ H Q=>td σ H fun x H1=>∃a,x=.ref a/\IsD H1 a/\ty σ H1 fun y H2=>tx σ H2 fun z H3=>∃o,DGet H3 a y o/\Q (o.getD z) H3
section
variable{X:Cx}{o e f:Expr}{apos cpos:Pos}{td ty tx:TE}
theorem zwt(hu:X.A.units+1 < cLine)(ho:PE X o td)(he:PE X e ty)(hf:PE X f tx) (m:M2 X o "get" apos e f cpos):PE X (.Call (.Attribute o "get" apos) [e,f] [] cpos) (zgd td ty tx):=by
 refine⟨?_⟩
 intro pins s σ H Q I h
 refine wpAny_Call_method m.base m.few m.line PySem.F.plainAttrs_dict PySem.F.slot_dict_get PySem.F.type_dict_get (thn (ho pins s σ H _ I h) fun u s1 ⟨x,H1,I1,rx,a,ex,d,q1⟩=>?_)
 subst ex
 obtain rfl:u=Value.ref a:=rx
 obtain⟨t1,t2,_⟩:=zun I1 d
 refine⟨t1,t2,?_⟩
 rw [m.trees]
 refine y2l rfl (Calls.evalArgs_plain (Calls.spliced_cons (thn (he pins s1 σ H1 _ I1 q1) fun iv s2 ⟨y,H2,I2,ry,q2⟩=>
  Calls.spliced_cons (thn (hf pins s2 σ H2 _ I2 q2) fun fv s3 ⟨z,H3,I3,rz,ov,g,q3⟩=>Calls.spliced_nil ?_))))
 exact q3h hu I3 g ry rz fun w' s4 I4 rw'=>⟨_,H3,I4,rw',q3⟩
end
section
variable{X:Cx}{pins:List (Addr×Obj)}{σ : St}{H:Hp}{s:y9}{a:Addr}{kvs:List (Key×V)}{A:y01}{E:y4->y9->Prop}
end
section
variable{X:Cx}{pins:List (Addr×Obj)}{σ : St}{H:Hp}{s:y9}{a:Addr}{y:V}{u:y4}{A:y01}{E:y4->y9->Prop}
end
end L2
namespace L2
open PySem PySem.Spec PyProof.Rows
section
variable{X:Cx}
end
section
variable{κ : Type} [DecidableEq κ]
end
end L2
namespace L2
open PySem PySem.Spec PyProof.Rows
section
variable{X:Cx}
def q63(K:y3)(a:Addr)(f:Int->Option y4):Prop:=∃o es ep,K.lookup a=some o/\o.ExactDict/\o.data=.dict es ep/\(∀e∈es,∃k,Value.isInt k e.key=true/\e.hash=hashInt k)/\∀k,findBy Value.isInt es k=f k
def znn(K:y3)(td ty:TE):TE:=fun σ H Q=>td σ H fun x H1=>ty σ H1 fun y H2=>∃a k u v f,x=.ref a/\y=.int k/\q63 K a f/\f k=some u/\RelV v u/\Q v H2
end
end L2
namespace L2
open PySem PySem.Spec PyProof.Rows
section
variable{X:Cx}{pins:List (Addr×Obj)}{σ : List (Option V)}{H:Hp}{s:y9}{h':Heap}
theorem Inv.turnedL{t':Nat}{ch:List Addr}(I:Inv X pins σ H s)(k:∀b o,b∉ch->s.heap.get? b=some o->h'.get? b=some o)(hf:∀b∈ch,FpOk X pins H b):Inv X pins σ H {s with heap:=h',toks:=t'}:=by
 have nit:∀b u,H b=some u->b∉ch:=fun b u e z=>by rw [(hf b z).1] at e; cases e
 refine I.step (g':=s.gens) (d':=s.drawn) (ch:=ch) (fun b hb=>?_) (fun b o _ _ hc e _=>k b o hc e) (fun b o _ _ hc e _=>⟨o.slots,k b o hc e⟩) (fun _ _ _ _ n=>n)
  (fun b o hc e=>⟨o,k b o hc e⟩) (fun _ _ e=>e) (fun _ _ _ e=>e) (fun b ps e=>⟨#[],by rw [e]; simp⟩) (fun m hm=>?_) (fun b u e=>?_) I.bare
 ·obtain⟨_,f1,_,f3,f4,f5⟩:=hf b hb
  exact⟨f3,f1,f4,f5⟩
 ·obtain⟨o,es,ep,ho,r⟩:=hm
  exact⟨o,es,ep,k _ o (fun z=>(hf _ z).2.1 rfl) ho,r⟩
 ·refine(I.hok b u e).stay (fun c v hc q=>k c v ?_ q) (fun _ q=>q) fun _ _ q=>q
  rcases hc with z | z
  ·rw [z]; exact nit b u e
  ·exact nit c _ z
end
def Ite(K:y3)(a:Addr):It:=
 ⟨fun i H=>∃xs x,SqL K H a xs/\xs[i]?=some x,fun i H x H'=>∃T v,x=.ref T/\H T=none/\H'=upd H T (.tup [.int i,v])/\∀xs,SqL K H a xs->xs[i]?=some v,fun i H=>∃xs,SqL K H a xs/\xs.length<=i⟩
def Itz(K:y3)(a b:Addr):It:=
 ⟨fun i H=>∃xs ys x y,SqL K H a xs/\SqL K H b ys/\xs[i]?=some x/\ys[i]?=some y,fun i H x H'=>∃T u v,x=.ref T/\H T=none/\H'=upd H T (.tup [u,v])/\(∀xs,SqL K H a xs->xs[i]?=some u)/\∀ys,SqL K H b ys->ys[i]?=some v,
  fun i H=>∃xs ys,SqL K H a xs/\SqL K H b ys/\(xs.length<=i\/ys.length<=i)⟩
theorem zpm:(2:Nat)<=sizeLine:=by decide
section
variable{X:Cx}
def q4n(K:y3)(ta:TA):TI:=fun σ H R=>ta σ H fun vs H1=>∃a,vs=[.ref a]/\(∃xs,SqL K H1 a xs)/\R (Ite K a) H1
end
section
variable{X:Cx}
def q5q(K:y3)(ta:TA):TI:=fun σ H R=>ta σ H fun vs H1=>∃a b,vs=[.ref a,.ref b]/\(∃xs,SqL K H1 a xs)/\(∃ys,SqL K H1 b ys)/\R (Itz K a b) H1
end
end L2
namespace L2
open PySem PySem.Spec PyProof.Rows
theorem Room.units1{k:Nat}{A:y01}(r:Room k A):A.units+1 < cLine:=by have:=r.un; omega
section
variable{X:Cx}
def zgt(K:y3):List V->Hp->VK->Prop:=fun xs H Q=>∃(a:Addr) (ns:List Str),xs=[.ref a]/\SqL K H a (ns.map V.str)/\ns.length < 64/\∀(l:Addr) (ms:List Str),H l=none->ms.Perm ns->sortedS ms=true->Q (.ref l) (upd H l (.lst (ms.map V.str)))
def zc5(r r' r'':R2)(ta tb tc td:TE):TT:=fun σ H Q=>ta σ H fun x H1=>tb σ H1 fun y H2=>r x y H2 fun z H3=>∃k,z=.bl k/\(if k=true then tc σ H3 fun w H4=>r' y w H4 fun z H5=>∃k,z=.bl k/\
 (if k=true then td σ H5 fun v H6=>r'' w v H6 fun z H7=>∃k,z=.bl k/\Q k H7 else Q false H5) else Q false H3)
def q5s(K:y3)(tl:TE):TI:=fun σ H R=>tl σ H fun x H1=>∃a,x=.ref a/\(((∃xs,SqL K H1 a xs)/\R (Itl K a) H1)\/((∃xs,SqT K H1 a xs)/\R (Itt K a) H1))
end
section
variable{X:Cx}
def q4u(K:y3)(H:Hp)(x y:V)(b:Bool):Prop:=∃a c xs ys ds es,x=.ref a/\y=.ref c/\SqL K H a xs/\SqL K H c ys/\DtA H xs ds/\DtA H ys es/\zff ds=true/\zff es=true/\SeqAt.shaped (.list (zcj ds))=true/\SeqAt.shaped (.list (zcj es))=true/\b=PyData.eqv (.list (zcj ds)) (.list (zcj es))
def zo8(K:y3):R2:=fun x y H Q=>∃b,q4u K H x y b/\Q (.bl b) H
def zls(K:y3):R2:=fun x y H Q=>∃b,q4u K H x y b/\Q (.bl (!b)) H
theorem Inv.readsDL{pins:List (Addr×Obj)}{σ : St}{H:Hp}{s:y9}{a:Addr}{xs:List V}{ds:List Dm}(I:Inv X pins σ H s)(h:SqL X.K H a xs)(d:DtA H xs ds)(hs:zff ds=true):∃as,Reads s.heap (.ref a) (.list (zcj ds)) as:=by
 obtain⟨its,r,⟨o,n,e,c,_,dd⟩,_⟩:=I.list h
 obtain⟨as,q⟩:=DtA.reads I d hs r
 exact⟨_,.list e c dd (by simpa using q)⟩
theorem q0z(hu:X.A.units+64 < cLine):OpR X (compareOp .NotEq) (zls X.K):=by
 intro pins s σ H x y v u Q I rx ry h
 obtain⟨b,⟨a,c,xs,ys,ds,es,rfl,rfl,h1,h2,d1,d2,s1,s2,s3,s4,rfl⟩,q⟩:=h
 cases rx; cases ry
 obtain⟨as,ra⟩:=I.readsDL h1 d1 s1
 obtain⟨bs,rb⟩:=I.readsDL h2 d2 s2
 exact ne_dataH ra rb s3 s4 hu ⟨.bl _,H,I,rfl,q⟩
end
end L2
namespace L2
open PySem PySem.Spec PyProof.Rows
def Ris(xs:Array Nat):Prop:=xs.toList.Pairwise (· < ·)
theorem Ris.lt{xs:Array Nat}(h:Ris xs){i j:Nat}(hij:i < j)(hj:j < xs.size)(d:Nat):xs.getD i d < xs.getD j d:=by
 have e:=List.pairwise_iff_getElem.mp h i j (by simp; omega) (by simpa using hj) hij
 simpa [Array.getD,hj,y0v hij hj] using e
end L2
namespace L2
open PySem PySem.Spec PyProof.Rows
section
variable{prog:yf}{w:yr}{κ : Type} [DecidableEq κ] (knd:PySem.KeyKind prog w κ) (key:y4->κ)
def SetX(a:Addr)(L:Bool)(ks:List κ)(h:Heap):Prop:=
 ∃o es ep t,h.get? a=some o/\o.ExactSet/\o.data=.set es ep t/\ElemsOf knd es.toList/\ks=es.toList.map (fun e=>key e.2)/\ks.Nodup/\es.size < scanBound/\t.fits es.size=true/\Ris t.place/\t.led=L
variable{knd key}{A:y01}{E:y4->y9->Prop}{s:y9}{a:Addr}{L:Bool}{ks:List κ}
theorem SetX.len{h:Heap}(x:SetX knd key a L ks h):ks.length < scanBound:=by
 obtain⟨o,es,ep,t,_,_,_,_,rfl,_,hb,_⟩:=x
 simpa using hb
abbrev q3m(w:yr):Bool:=w.params.followText "set-order"
end
end L2
namespace L2
open PySem PySem.Spec PyProof.Rows
section
variable{prog:yf}{w:yr}{A:y01}{E:y4->y9->Prop}{s:y9}{S I:Addr}{es:Array (Int×y4)}{ep:Nat}{t:SetTable}{o:Obj}
end
end L2
namespace L2
open PySem PySem.Spec PyProof.Rows
section
variable{prog:yf}{w:yr}{A:y01}{E:y4->y9->Prop}{s:y9}{S I:Addr}{es:Array (Int×y4)}{ep:Nat}{t:SetTable}{o:Obj}
def q5o:y4->Int
 | .int k _=>k
 | _=>0
theorem zqa{k:Int}{v:y4}(h:(intKind prog w).is k v=true):∃t,v=.int k t:=by
 cases v<;>simp[intKind,Value.isInt] at h
 exact⟨_,by rw [h]⟩
end
end L2
namespace L2
open PySem PySem.Spec PyProof.Rows
def q53(P:yf)(w:yr)(p:Addr)(ks:List Int):HO:=.ext (SetX (intKind P w) q5o p (!q3m w) ks)
def q4h(P:yf)(w:yr)(K:y3):List V->Hp->VK->Prop:=fun xs H Q=>∃(a:Addr) (ns:List Int),xs=[.ref a]/\SqL K H a (ns.map V.int)/\ns.length<=1000/\
 ∀(p:Addr) (ks:List Int),H p=none->ks.Nodup->(∀x,x∈ks↔x∈ns)->ks.length<=ns.length->Q (.ref p) (upd H p (q53 P w p ks))
def zwl(P:yf)(w:yr):List V->Hp->VK->Prop:=fun xs H Q=>∃(a:Addr) (ks:List Int),xs=[.ref a]/\H a=some (q53 P w a ks)/\ks.length < 64/\
 ∀(l:Addr) (ms:List Int),H l=none->ms.Perm ks->ms.Pairwise (· <= ·)->Q (.ref l) (upd H l (.lst (ms.map V.int)))
section
variable{X:Cx}
end
end L2
namespace L2
open PySem PyProof.Rows
def zgh(L:Addr->Sp->Prop)(i:Nat)(t:TA):TE:=fun σ H Q=>∃f,σ[i]?=some (some (.ref f))/\∃sp,L f sp/\t σ H fun vs H1=>sp vs H1 Q E0
end L2
namespace L2
open PySem PyProof.Rows
section
variable{P:yf}{w:yr}{A:y01}{E:y4->y9->Prop}{s:y9}
theorem zq4{it t:Addr}{i:Nat}{its:Array y4}{x:y4}{Q:y4->y9->Prop}(a:s.heap.IsTupleIter it t i)(b:s.heap.IsTuple t its)(c:its[i]?=some x)
  (q:∀h',h'.IsTupleIter it t (i+1)->Heap.SameBut it s.heap h'->Q x {s with heap:=h'}):wpAny (model P w) A (Builtin.SmallTypes.nextOf (.ref it)) Q E s:=by
 have ty:=a.typeIs
 obtain⟨⟨_,dc,_,sl⟩,eo,rfl,rfl⟩:=a
 obtain⟨⟨_,dl,_,ll⟩,el,rfl,nl,rfl⟩:=b
 rw [Builtin.SmallTypes.nextOf]
 refine yc (y0s (name:="__next__") ty y2b (y0m y2b ty F.entry_tuple_iterator_next ?_ (F.args_tuple_iterator_next_1 _)))
 wp_walk
 simp only[y2s,c]
 wp_walk
 exact⟨_,rfl,yo (q _ ⟨_,y02 _ eo rfl,rfl,by simp[Obj.mapFields,rawInt]⟩ (yx ..))⟩
theorem zb9{it t:Addr}{i:Nat}{its:Array y4}{Q:y4->y9->Prop}(hh:A.handled=none)(a:s.heap.IsTupleIter it t i)(b:s.heap.IsTuple t its)(c:its[i]?=none)
  (q:∀h' e,Heap.ExtBut it s.heap h'->(∃o,h'.get? e=some o/\o.cls=.type "StopIteration")->E (.ref e) {s with heap:=h'}):wpAny (model P w) A (Builtin.SmallTypes.nextOf (.ref it)) Q E s:=by
 have ty:=a.typeIs
 obtain⟨⟨_,dc,_,sl⟩,eo,rfl,rfl⟩:=a
 obtain⟨⟨_,dl,_,ll⟩,el,rfl,nl,rfl⟩:=b
 rw [Builtin.SmallTypes.nextOf]
 refine yc (y0s (name:="__next__") ty y2b (y0m y2b ty F.entry_tuple_iterator_next ?_ (F.args_tuple_iterator_next_1 _)))
 wp_walk
 simp only[y2s,c]
 have hh':A.in1.handled=none:=hh
 wp_walk
 rw [raiseNew]
 wp_walk
 exact q _ _ (((yx ..).extBut.push _).push _) ⟨_,yi _ rfl,rfl⟩
theorem znk(t u:Addr)(xs ys:Array y4):Meets (Builtin.«zip.__new__» ⟨[.type "zip",.ref t,.ref u],[]⟩) (fun _ R s=>s.heap.IsTuple t xs/\s.heap.IsTuple u ys/\
  ∀h',IsZip h' (s.heap.objs.size+4) (s.heap.objs.size+2) (s.heap.objs.size+3) .none->IsPair h' (s.heap.objs.size+2) (.ref s.heap.objs.size) (.ref (s.heap.objs.size+1))->IsPair h' (s.heap.objs.size+3) .none .none->
   h'.IsTupleIter s.heap.objs.size t 0->h'.IsTupleIter (s.heap.objs.size+1) u 0->h'.objs.size=s.heap.objs.size+5->(∀c o,s.heap.get? c=some o->h'.get? c=some o)->R (.ok (.ret (.ref (s.heap.objs.size+4)))) {s with heap:=h'}):=by
 refine .of_wp fun prog w A R s h=>?_
 obtain⟨hp,g,d,tk,os⟩:=s
 obtain⟨h1,h2,h⟩:=h
 have zz:=sub_zip
 have e1:Heap.IsTuple (Shared.heap ⟨hp,g,d,tk,os⟩) t xs:=h1
 have e2:Heap.IsTuple (Shared.heap ⟨hp.push {cls:=.type "tuple_iterator",data:=.fields #[.ref t,.int 0 0]},g,d,tk,os⟩) u ys:=Heap.IsTuple.push h2 _
 wp_walk using y2p e1,y2p e2
 refine⟨_,rfl,?_⟩
 have put:∀{k:Heap} {o:Obj} {n:Nat},n=k.objs.size->o.isFreed=false->(k.push o).get? n=some o:=fun e f=>by subst e; exact yi _ f
 have up:∀{k:Heap} {o o':Obj} {n:Nat},k.get? n=some o->(k.push o').get? n=some o:=fun e=>y6 _ e
 simp only[y0o,Nat.add_assoc,Nat.reduceAdd]
 refine h _ ?_ ?_ ?_ ⟨_,up (up (up (up (put rfl rfl)))),rfl,rfl⟩ ⟨_,up (up (up (put (by simp[y0o]) rfl))),rfl,rfl⟩ (by simp[y0o]) fun c o x=>up (up (up (up (up x))))
 ·exact put (by simp[y0o]) rfl
 ·exact up (up (put (by simp[y0o]) rfl))
 ·exact up (put (by simp[y0o]) rfl)
def Nx(P:yf)(w:yr)(A:y01)(it:Addr)(Q:y4->y9->Prop)(E:y4->y9->Prop)(s:y9):Prop:=wpAny (model P w) A (Builtin.SmallTypes.nextOf (.ref it)) Q E s
theorem zh5{it:Addr}{Q:y4->y9->Prop}(h:Nx P w A it Q E s):wpAny (model P w) A (Builtin.SmallTypes.nextOf (.ref it)) Q E s:=h
end
end L2
namespace L2
open PySem PyProof.Rows
section
variable{P:yf}{w:yr}{A:y01}{E:y4->y9->Prop}{s:y9}
set_option maxHeartbeats 8000000 in
theorem zr0{z I O i1 i2 t u:Addr}{k:Nat}{xs ys:Array y4}{x y a b:y4}{Q:y4->y9->Prop}(D:ZipApart z I O i1 i2 t u)(hz:IsZip s.heap z I O .none)(hI:IsPair s.heap I (.ref i1) (.ref i2))(hO:IsPair s.heap O a b)
  (h1:s.heap.IsTupleIter i1 t k) (h2:s.heap.IsTupleIter i2 u k) (ht:s.heap.IsTuple t xs) (hu:s.heap.IsTuple u ys) (hx:xs[k]?=some x) (hy:ys[k]?=some y)
  (q:∀h',IsZip h' z I O (rawInt s.heap.objs.size)->IsPair h' O x y->h'.IsTupleIter i1 t (k+1)->h'.IsTupleIter i2 u (k+1)->IsPair h' s.heap.objs.size x y->h'.objs.size=s.heap.objs.size+1->
   (∀c o,c≠z->c≠O->c≠i1->c≠i2->s.heap.get? c=some o->h'.get? c=some o)->Q (.ref s.heap.objs.size) {s with heap:=h'}) :
  wpAny (model P w) A (Builtin.«zip.__next__» ⟨[.ref z],[]⟩) (fun fin s'=>∃v,fin=.done (.ret v)/\Q v s') E s:=by
 wp_walk using wpAny_onRaise,zh5
 have m0:Heap.SameBut z s.heap (s.heap.update z (Obj.mapFields fun x=>x.setIfInBounds 0 Value.ellipsis)):=yx ..
 have z0:IsZip (s.heap.update z (Obj.mapFields fun x=>x.setIfInBounds 0 Value.ellipsis)) z I O .ellipsis:=y02 _ hz rfl
 generalize s.heap.update z (Obj.mapFields fun x=>x.setIfInBounds 0 Value.ellipsis)=g0 at m0 z0 |-
 refine zq4 (h1.extBut m0.extBut D.i1z) (ht.extBut m0.extBut D.l1z) hx fun g1 j1 m1=>?_
 have o1:IsPair g1 O a b:=m1.extBut _ _ D.TOi1 (m0.extBut _ _ D.TOz hO)
 wp_walk using wpAny_onRaise,zh5
 have m2:Heap.SameBut O g1 (g1.update O (Obj.mapSeq fun v=>v.setIfInBounds 0 x)):=yx ..
 have o2:IsPair (g1.update O (Obj.mapSeq fun v=>v.setIfInBounds 0 x)) O x b:=y02 _ o1 rfl
 generalize g1.update O (Obj.mapSeq fun v=>v.setIfInBounds 0 x)=g2 at m2 o2 |-
 refine zq4 (((h2.extBut m0.extBut D.i2z).extBut m1.extBut D.i12.symm).extBut m2.extBut D.TOi2.symm) (((hu.extBut m0.extBut D.l2z).extBut m1.extBut D.l2i1).extBut m2.extBut D.l2TO) hy fun g3 j3 m3=>?_
 have o3:IsPair g3 O x b:=m3.extBut _ _ D.TOi2 o2
 have z3:IsZip g3 z I O .ellipsis:=m3.extBut _ _ D.i2z.symm (m2.extBut _ _ D.TOz.symm (m1.extBut _ _ D.i1z.symm z0))
 wp_walk using wpAny_onRaise,zh5
 have m4:Heap.SameBut O g3 (g3.update O (Obj.mapSeq fun v=>v.setIfInBounds (0+1) y)):=yx ..
 have o4:IsPair (g3.update O (Obj.mapSeq fun v=>v.setIfInBounds (0+1) y)) O x y:=y02 _ o3 rfl
 generalize g3.update O (Obj.mapSeq fun v=>v.setIfInBounds (0+1) y)=g4 at m4 o4 |-
 have n4:g4.objs.size=s.heap.objs.size:=m4.1.trans (m3.1.trans (m2.1.trans (m1.1.trans m0.1)))
 rw [show((fun v:Array y4=>v.setIfInBounds (0+1) y) #[x,b]).toList.toArray = #[x,y] from rfl]
 have e5:IsPair (g4.push {cls:=.type "tuple",data:=.seq #[x,y]}) g4.objs.size x y:=yi _ rfl
 have z4:IsZip (g4.push {cls:=.type "tuple",data:=.seq #[x,y]}) z I O .ellipsis:=y6 _ (m4.extBut _ _ D.TOz.symm z3)
 have k5:∀c o,c≠z->c≠O->c≠i1->c≠i2->s.heap.get? c=some o->(g4.push {cls:=.type "tuple",data:=.seq #[x,y]}).get? c=some o:=fun c o c1 c2 c3 c4 h=>y6 _ (m4.extBut _ _ c2 (m3.extBut _ _ c4 (m2.extBut _ _ c2 (m1.extBut _ _ c3 (m0.extBut _ _ c1 h)))))
 have o5:IsPair (g4.push {cls:=.type "tuple",data:=.seq #[x,y]}) O x y:=y6 _ o4
 have y1:(g4.push {cls:=.type "tuple",data:=.seq #[x,y]}).IsTupleIter i1 t (k+1):=(((j1.extBut m2.extBut D.TOi1.symm).extBut m3.extBut D.i12).extBut m4.extBut D.TOi1.symm).at fun o h=>y6 _ h
 have y2:(g4.push {cls:=.type "tuple",data:=.seq #[x,y]}).IsTupleIter i2 u (k+1):=(j3.extBut m4.extBut D.TOi2.symm).at fun o h=>y6 _ h
 have s5:(g4.push {cls:=.type "tuple",data:=.seq #[x,y]}).objs.size=s.heap.objs.size+1:=by rw [size_push',n4]
 rw [n4] at e5
 rw [n4]
 generalize g4.push {cls:=.type "tuple",data:=.seq #[x,y]}=g5 at e5 z4 k5 o5 y1 y2 s5 |-
 wp_walk
 have m6:Heap.SameBut z g5 ((g5.update z (Obj.mapFields fun v=>v.setIfInBounds 0 (rawInt s.heap.objs.size))).update z (Obj.mapFields fun v=>v.setIfInBounds 1 (Value.bool false))):=(yx ..).trans (yx ..)
 refine⟨_,rfl,q _ (y02 _ (y02 _ z4 rfl) rfl) (m6.extBut _ _ D.TOz o5) (y1.extBut m6.extBut D.i1z) (y2.extBut m6.extBut D.i2z) (m6.extBut _ _ (y0k (ye hz)) e5) (m6.1.trans s5) fun c o c1 c2 c3 c4 h=>m6.extBut _ _ c1 (k5 c o c1 c2 c3 c4 h)⟩
set_option maxHeartbeats 8000000 in
theorem znl{z I O i1 i2 t u:Addr}{k:Nat}{xs ys:Array y4}{a b:y4}{Q:Fin->y9->Prop}(hh:A.handled=none)(D:ZipApart z I O i1 i2 t u)(hz:IsZip s.heap z I O .none)(hI:IsPair s.heap I (.ref i1) (.ref i2))(hO:IsPair s.heap O a b)
  (h1:s.heap.IsTupleIter i1 t k) (h2:s.heap.IsTupleIter i2 u k) (ht:s.heap.IsTuple t xs) (hu:s.heap.IsTuple u ys) (hend:xs[k]?=none\/ys[k]?=none)
  (q:∀h' e,(∀c o,c≠z->c≠O->c≠i1->c≠i2->s.heap.get? c=some o->h'.get? c=some o)->(∃o,h'.get? e=some o/\o.cls=.type "StopIteration")->E (.ref e) {s with heap:=h'}) :
  wpAny (model P w) A (Builtin.«zip.__next__» ⟨[.ref z],[]⟩) Q E s:=by
 wp_walk using wpAny_onRaise,zh5
 have m0:Heap.SameBut z s.heap (s.heap.update z (Obj.mapFields fun x=>x.setIfInBounds 0 Value.ellipsis)):=yx ..
 have z0:IsZip (s.heap.update z (Obj.mapFields fun x=>x.setIfInBounds 0 Value.ellipsis)) z I O .ellipsis:=y02 _ hz rfl
 generalize s.heap.update z (Obj.mapFields fun x=>x.setIfInBounds 0 Value.ellipsis)=g0 at m0 z0 |-
 cases hx:xs[k]? with
 | none=>
  refine zb9 hh (h1.extBut m0.extBut D.i1z) (ht.extBut m0.extBut D.l1z) hx fun g1 e1 m1 he=>?_
  have z1:IsZip g1 z I O .ellipsis:=m1 _ _ D.i1z.symm z0
  obtain⟨oe,ho,hc⟩:=he
  have ne:e1≠z:=fun x=>by subst x; rw [z1] at ho; cases ho; simp at hc
  exact wpAny_setField_rec z1 (by simp) fun h5 _ m5=>q h5 e1 (fun c o c1 c2 c3 c4 h=>m5.extBut _ _ c1 (m1 _ _ c3 (m0.extBut _ _ c1 h))) ⟨oe,m5.extBut _ _ ne ho,hc⟩
 | some x=>
  have hy:ys[k]?=none:=hend.resolve_left (by rw [hx]; simp)
  refine zq4 (h1.extBut m0.extBut D.i1z) (ht.extBut m0.extBut D.l1z) hx fun g1 j1 m1=>?_
  have o1:IsPair g1 O a b:=m1.extBut _ _ D.TOi1 (m0.extBut _ _ D.TOz hO)
  wp_walk using wpAny_onRaise,zh5
  have m2:Heap.SameBut O g1 (g1.update O (Obj.mapSeq fun v=>v.setIfInBounds 0 x)):=yx ..
  generalize g1.update O (Obj.mapSeq fun v=>v.setIfInBounds 0 x)=g2 at m2 |-
  refine zb9 hh (((h2.extBut m0.extBut D.i2z).extBut m1.extBut D.i12.symm).extBut m2.extBut D.TOi2.symm) (((hu.extBut m0.extBut D.l2z).extBut m1.extBut D.l2i1).extBut m2.extBut D.l2TO) hy fun g3 e3 m3 he=>?_
  have z3:IsZip g3 z I O .ellipsis:=m3 _ _ D.i2z.symm (m2.extBut _ _ D.TOz.symm (m1.extBut _ _ D.i1z.symm z0))
  obtain⟨oe,ho,hc⟩:=he
  have ne:e3≠z:=fun x=>by subst x; rw [z3] at ho; cases ho; simp at hc
  exact wpAny_setField_rec z3 (by simp) fun h5 _ m5=>q h5 e3 (fun c o c1 c2 c3 c4 h=>m5.extBut _ _ c1 (m3 _ _ c4 (m2.extBut _ _ c2 (m1.extBut _ _ c3 (m0.extBut _ _ c1 h))))) ⟨oe,m5.extBut _ _ ne ho,hc⟩
end
end L2
namespace L2
open PySem PySem.Spec PyProof.Rows
section
variable{P:yf}{w:yr}{A:y01}{E:y4->y9->Prop}{s:y9}
theorem zsl{z I O i1 i2 t u:Addr}{k:Nat}{xs ys:Array y4}{x y a b:y4}{Q:Option y4->y9->Prop}(D:ZipApart z I O i1 i2 t u)(hz:IsZip s.heap z I O .none)(hI:IsPair s.heap I (.ref i1) (.ref i2))(hO:IsPair s.heap O a b)
  (h1:s.heap.IsTupleIter i1 t k) (h2:s.heap.IsTupleIter i2 u k) (ht:s.heap.IsTuple t xs) (hu:s.heap.IsTuple u ys) (hx:xs[k]?=some x) (hy:ys[k]?=some y)
  (q:∀h',IsZip h' z I O (rawInt s.heap.objs.size)->IsPair h' O x y->h'.IsTupleIter i1 t (k+1)->h'.IsTupleIter i2 u (k+1)->IsPair h' s.heap.objs.size x y->h'.objs.size=s.heap.objs.size+1->
   (∀c o,c≠z->c≠O->c≠i1->c≠i2->s.heap.get? c=some o->h'.get? c=some o)->Q (some (.ref s.heap.objs.size)) {s with heap:=h'}):wpAny (model P w) A (pyNext (.ref z)) Q E s:=by
 have ty:s.TypeIs (.ref z) "zip":=⟨_,hz,rfl⟩
 rw [pyNext]
 refine yc (y2c (y0s (name:="__next__") ty PySem.F.slot_zip_next (y0m PySem.F.slot_zip_next ty PySem.F.entry_zip_next ?_ (PySem.F.args_zip_next_1 _))))
 exact zr0 D hz hI hO h1 h2 ht hu hx hy fun h' b1 b2 b3 b4 b5 b6 b7=>yo (q h' b1 b2 b3 b4 b5 b6 b7)
theorem zw6{z I O i1 i2 t u:Addr}{k:Nat}{xs ys:Array y4}{a b:y4}{Q:Option y4->y9->Prop}(hh:A.handled=none)(D:ZipApart z I O i1 i2 t u)(hz:IsZip s.heap z I O .none)(hI:IsPair s.heap I (.ref i1) (.ref i2))(hO:IsPair s.heap O a b)
  (h1:s.heap.IsTupleIter i1 t k) (h2:s.heap.IsTupleIter i2 u k) (ht:s.heap.IsTuple t xs) (hu:s.heap.IsTuple u ys) (hend:xs[k]?=none\/ys[k]?=none)
  (q:∀h',(∀c o,c≠z->c≠O->c≠i1->c≠i2->s.heap.get? c=some o->h'.get? c=some o)->Q none {s with heap:=h'}):wpAny (model P w) A (pyNext (.ref z)) Q E s:=by
 have ty:s.TypeIs (.ref z) "zip":=⟨_,hz,rfl⟩
 rw [pyNext]
 refine yc (y2c (y0s (name:="__next__") ty PySem.F.slot_zip_next (y0m PySem.F.slot_zip_next ty PySem.F.entry_zip_next (znl (by simpa using hh) D hz hI hO h1 h2 ht hu hend fun h' e hk he=>?_) (PySem.F.args_zip_next_1 _))))
 obtain⟨o,ho,hc⟩:=he
 exact yc (wpAny_isInstance (b:=true) ⟨o,ho,hc⟩ isSubtype_stop (yo (q _ hk)))
theorem zvv{t u:Addr}{xs ys:Array y4}{Q:y4->y9->Prop}(ht:s.heap.IsTuple t xs)(hu:s.heap.IsTuple u ys)
  (h:∀h',IsZip h' (s.heap.objs.size+4) (s.heap.objs.size+2) (s.heap.objs.size+3) .none->IsPair h' (s.heap.objs.size+2) (.ref s.heap.objs.size) (.ref (s.heap.objs.size+1))->IsPair h' (s.heap.objs.size+3) .none .none->
   h'.IsTupleIter s.heap.objs.size t 0->h'.IsTupleIter (s.heap.objs.size+1) u 0->h'.objs.size=s.heap.objs.size+5->(∀c o,s.heap.get? c=some o->h'.get? c=some o)->Q (.ref (s.heap.objs.size+4)) {s with heap:=h'}) :
  wpAny (model P w) A (call (.type "zip") [.ref t,.ref u]) Q E s:=by
 refine callType_new PySem.F.called_zip (by decide) (PySem.F.typeCall_zip_2 _ _) (PySem.F.newCall_zip_2 _ _) (fun obj=>PySem.F.args_object_init_3 obj _ _) PySem.F.entry_zip_new (znk t u xs ys) ⟨ht,hu,fun h' b1 b2 b3 b4 b5 b6 b7=>?_⟩
 exact⟨⟨_,b1,rfl⟩,h h' b1 b2 b3 b4 b5 b6 b7⟩
end
def q1o(K:y3)(a b:Addr):It:=
 ⟨fun i H=>∃xs ys x y,SqT K H a xs/\SqT K H b ys/\xs[i]?=some x/\ys[i]?=some y,fun i H x H'=>∃T u v,x=.ref T/\H T=none/\H'=upd H T (.tup [u,v])/\(∀xs,SqT K H a xs->xs[i]?=some u)/\∀ys,SqT K H b ys->ys[i]?=some v,
  fun i H=>∃xs ys,SqT K H a xs/\SqT K H b ys/\(xs.length<=i\/ys.length<=i)⟩
theorem zsr{P:yf}{w:yr}{K:y3}{elts:List Expr}{kt:Nat}{pt:Pos}(a b z TI TO i1 i2:Addr)(D:ZipApart z TI TO i1 i2 a b) :
  Turn P w K (.Tuple elts kt pt) (q1o K a b) [z,TI,TO,i1,i2] z (fun i h=>IsZip h z TI TO .none/\IsPair h TI (.ref i1) (.ref i2)/\(∃u v,IsPair h TO u v)/\h.IsTupleIter i1 a i/\h.IsTupleIter i2 b i) where
 mem:=by simp
 obj:=fun i h st c hc=>by
  obtain⟨hz,hTI,⟨u,v,hTO⟩,h1,h2⟩:=st
  simp only[yz,yt,or_false] at hc
  rcases hc with rfl | rfl | rfl | rfl | rfl
  ·exact⟨_,hz,fun v z=>by cases z⟩
  ·exact⟨_,hTI,fun v z=>by cases z⟩
  ·exact⟨_,hTO,fun v z=>by cases z⟩
  ·obtain⟨o,e',c,d⟩:=h1
   exact⟨o,e',fun v z=>by rw [d] at z; cases z⟩
  ·obtain⟨o,e',c,d⟩:=h2
   exact⟨o,e',fun v z=>by rw [d] at z; cases z⟩
 keep:=fun i h h' st k=>by
  obtain⟨hz,hTI,⟨u,v,hTO⟩,h1,h2⟩:=st
  exact⟨k z (by simp) _ hz,k TI (by simp) _ hTI,⟨u,v,k TO (by simp) _ hTO⟩,h1.at fun o q=>k i1 (by simp) o q,h2.at fun o q=>k i2 (by simp) o q⟩
 item:=by
  intro X hP hw hK hc i pins s σ H E I hf st hg
  subst hP hw hK
  obtain⟨hz,hTI,⟨u0,v0,hTO⟩,h1,h2⟩:=st
  obtain⟨xs,ys,x,y,hq,hq2,hx,hy⟩:=hg
  obtain⟨its,rv,p,_⟩:=I.tuple hq
  obtain⟨its2,rv2,p2,_⟩:=I.tuple hq2
  obtain⟨u,hu,ru⟩:=rv.get hx
  obtain⟨u2,hu2,ru2⟩:=rv2.get hy
  refine zsl D hz hTI hTO h1 h2 p p2 (x:=u) (y:=u2) (by simpa using hu) (by simpa using hu2) fun h3 a1 a2 a3 a4 a5 a6 hk=>?_
  refine⟨_,rfl,wpAny_letOwnedTupleGo_zip a1 fun h4 hz4 hs4=>?_⟩
  have hs4':Heap.SameBut z h3 h4:=hs4
  have hzl:z < s.heap.objs.size:=ye hz
  have kk:∀c o,c∉[z,TI,TO,i1,i2]->s.heap.get? c=some o->h4.get? c=some o:=fun c o hc' q=>
   hs4'.extBut c o (fun e=>hc' (by simp[e])) (hk c o (fun e=>hc' (by simp[e])) (fun e=>hc' (by simp[e])) (fun e=>hc' (by simp[e])) (fun e=>hc' (by simp[e])) q)
  have I1:Inv X pins σ H {s with heap:=h4,toks:=s.toks}:=I.turnedL kk hf
  have hTn:H s.heap.objs.size=none:=I.hok.fresh (yg _)
  have hT2:h4.get? s.heap.objs.size=some {cls:=.type "tuple",data:=.seq #[u,u2]}:=hs4'.extBut _ _ (y0k hzl) a5
  have I2:Inv X pins σ (upd H s.heap.objs.size (.tup [x,y])) {s with heap:=h4,toks:=s.toks}:=
   I1.track hTn (I.fpOk (yg _) hTn) (show ObjOk X.prog X.w _ h4 _ (.tup [x,y]) from⟨zpm,[u,u2],.cons ru (.cons ru2 .nil),⟨_,hT2,rfl,_,rfl⟩⟩)
  refine⟨.ref s.heap.objs.size,_,I2,rfl,⟨s.heap.objs.size,x,y,rfl,hTn,rfl,fun zs hz'=>by rw [I.tuple_inj hz' hq]; exact hx,fun zs hz'=>by rw [I.tuple_inj hz' hq2]; exact hy⟩,
   ⟨hz4,hs4'.extBut _ _ D.TIz (hk _ _ D.TIz D.TITO D.TIi1 D.TIi2 hTI),⟨_,_,hs4'.extBut _ _ D.TOz a2⟩,a3.at fun o q=>(hs4'.2 i1 D.i1z).trans q,a4.at fun o q=>(hs4'.2 i2 D.i2z).trans q⟩,fun c hc'=>?_⟩
  have hcl:c < s.heap.objs.size:=by
   simp only[yz,yt,or_false] at hc'
   rcases hc' with rfl | rfl | rfl | rfl | rfl
   ·exact hzl
   ·exact ye hTI
   ·exact ye hTO
   ·obtain⟨o,e',_⟩:=h1; exact ye e'
   ·obtain⟨o,e',_⟩:=h2; exact ye e'
  rw [z09 (yk hcl)]
  exact(hf c hc').1
 done:=by
  intro X hP hw hK hc i pins s σ H E I hf st hg
  subst hP hw hK
  obtain⟨hz,hTI,⟨u0,v0,hTO⟩,h1,h2⟩:=st
  obtain⟨xs,ys,hq,hq2,hend⟩:=hg
  obtain⟨its,rv,p,_⟩:=I.tuple hq
  obtain⟨its2,rv2,p2,_⟩:=I.tuple hq2
  have e1:=rv.length
  have e2:=rv2.length
  refine zw6 (I.ok.hd hc) D hz hTI hTO h1 h2 p p2 ?_ fun h' hk=>⟨rfl,I.turnedL (t':=s.toks) (fun c o hc' q=>hk c o (fun e=>hc' (by simp[e])) (fun e=>hc' (by simp[e])) (fun e=>hc' (by simp[e])) (fun e=>hc' (by simp[e])) q) hf⟩
  rcases hend with z | z
  ·exact .inl (by simp; omega)
  ·exact .inr (by simp; omega)
 self:=fun _ _ _ _ _ st h=>wpAny_pyIter_zip st.1 h
section
variable{X:Cx}
def q0n(K:y3)(ta:TA):TI:=fun σ H R=>ta σ H fun vs H1=>∃a b,vs=[.ref a,.ref b]/\(∃xs,SqT K H1 a xs)/\(∃ys,SqT K H1 b ys)/\R (q1o K a b) H1
theorem zzp{elts:List Expr}{kt:Nat}{pt p pos:Pos}{l l2:Expr}{ta:TA} (hg:Gl X "zip") (hm:X.mg "zip" = none) (ha:PA X [l,l2] ta) (hst:zj7 l=false:=by rfl) (hst2:zj7 l2=false:=by rfl):PI X (.Tuple elts kt pt) (.Call (.Name "zip" p) [l,l2] [] pos) (q0n X.K ta):=by
 refine⟨?_⟩
 intro pins s σ H R I h
 have hpl:=z2a (pos:=pos) (env:=X.env) (es:=[l2]) (by simp[z2b,hst2])
 refine Call_ (zhc I hg hm boot_zip (y1i (thn (ha pos pins s σ H _ I h) fun us s1 ⟨vs,H1,I1,r1,q1⟩=>?_) (z0z hst) hpl))
 obtain⟨a,b,e,⟨xs,hq⟩,⟨ys,hq2⟩,q⟩:=q1
 subst e
 cases r1 with
 | cons r rr=>
  cases rr with
  | cons r2 rr=>
   cases rr
   cases r
   cases r2
   obtain⟨its,rv,pl,_⟩:=I1.tuple hq
   obtain⟨its2,rv2,pl2,_⟩:=I1.tuple hq2
   have hla:a < s1.heap.objs.size:=by obtain⟨_,e,_⟩:=pl; exact ye e
   have hlb:b < s1.heap.objs.size:=by obtain⟨_,e,_⟩:=pl2; exact ye e
   refine zvv pl pl2 fun h' hz hTI hTO h1 h2 hsz hk=>?_
   have I2:Inv X pins σ H1 {s1 with heap:=h'}:=I1.kept (t':=s1.toks) hk
   refine wpAny_pyIter_zip hz ?_
   refine⟨s1.heap.objs.size+4,[s1.heap.objs.size+4,s1.heap.objs.size+2,s1.heap.objs.size+3,s1.heap.objs.size,s1.heap.objs.size+1],_,_,H1,rfl,I2,zsr a b _ _ _ _ _ (zipApart_new hla hlb),⟨hz,hTI,⟨_,_,hTO⟩,h1,h2⟩,fun c hc=>?_,q⟩
   have hle:s1.heap.objs.size<=c:=by
    simp only[yz,yt,or_false] at hc
    rcases hc with rfl | rfl | rfl | rfl | rfl<;>first | exact yg _ | exact Nat.le_add_right _ _
   exact I1.fpOk hle (I1.hok.fresh hle)
end
section
variable{prog:yf}{w:yr}{A:y01}{E:y4->y9->Prop}{s:y9}
end
section
variable{X:Cx}
def q4f(K:y3):V->Option Int->Option Int->Hp->VK->Prop:=fun x lo hi H Q=>∃a xs,x=.ref a/\SqT K H a xs/\
 (((HT.sIx xs.length 0 lo=0/\HT.sIx xs.length xs.length hi=xs.length)/\Q (.ref a) H)\/(¬ (HT.sIx xs.length 0 lo=0/\HT.sIx xs.length xs.length hi=xs.length)/\∀p,H p=none->Q (.ref p) (upd H p (.tup (zpb xs lo hi)))))
end
end L2
namespace L2
open PySem PySem.Spec PyProof.Rows
inductive DX where
 | c (d:Dm) | var (i:Nat) | tup (l:List DX) | lst (l:List DX) | cat (a b:DX) | lof (a:DX)
def q5c:Dm->Dm->Dm
 | .tup x,.tup y=>.tup (x++y)
 | _,_=>.non
mutual
def DX.val(ρ : Nat->Dm):DX->Dm
 | .c d=>d
 | .var i=>ρ i
 | .tup l=>.tup (q1p ρ l)
 | .lst _=>.lst
 | .cat a b=>q5c (a.val ρ) (b.val ρ)
 | .lof _=>.lst
def q1p(ρ : Nat->Dm):List DX->List Dm
 | []=>[]
 | x::r=>x.val ρ::q1p ρ r
end
mutual
def DX.Fit(ρ : Nat->Dm)(σ : St)(H:Hp):DX->Prop
 | .c _=>True
 | .var i=>∃v,σ[i]?=some (some v)/\Dt H v (ρ i)
 | .tup l=>l.length<=1000/\FitA ρ σ H l
 | .lst l=>l.length<=1000/\FitA ρ σ H l
 | .cat a b=>a.Fit ρ σ H/\b.Fit ρ σ H/\∃x y,a.val ρ = .tup x/\b.val ρ = .tup y/\x.length+y.length<=1000
 | .lof a=>a.Fit ρ σ H/\∃x,a.val ρ = .tup x
def FitA(ρ : Nat->Dm)(σ : St)(H:Hp):List DX->Prop
 | []=>True
 | x::r=>x.Fit ρ σ H/\FitA ρ σ H r
end
mutual
theorem DX.Fit.mono{ρ : Nat->Dm}{σ : St}{H H':Hp}(s:Same H H'):∀{x:DX},x.Fit ρ σ H->x.Fit ρ σ H'
 | .c _,_=>by rw [DX.Fit]; trivial
 | .var i,h=>by
  rw [DX.Fit] at h |-
  obtain⟨v,e,d⟩:=h
  exact⟨v,e,d.kp s.kp⟩
 | .tup l,h=>by
  rw [DX.Fit] at h |-
  exact⟨h.1,FitA.mono s h.2⟩
 | .lst l,h=>by
  rw [DX.Fit] at h |-
  exact⟨h.1,FitA.mono s h.2⟩
 | .cat a b,h=>by
  rw [DX.Fit] at h |-
  exact⟨DX.Fit.mono s h.1,DX.Fit.mono s h.2.1,h.2.2⟩
 | .lof a,h=>by
  rw [DX.Fit] at h |-
  exact⟨DX.Fit.mono s h.1,h.2⟩
theorem FitA.mono{ρ : Nat->Dm}{σ : St}{H H':Hp}(s:Same H H'):∀{l:List DX},FitA ρ σ H l->FitA ρ σ H' l
 | [],_=>by rw [FitA]; trivial
 | x::r,h=>by
  rw [FitA] at h |-
  exact⟨DX.Fit.mono s h.1,FitA.mono s h.2⟩
end
def q3l(vt:List Nat):DX->DX->Bool
 | .var i,.tup l=>vt.contains i && decide (l.length<=100)
 | _,_=>false
def q2s(vt:List Nat):DX->Bool
 | .var i=>vt.contains i
 | _=>false
mutual
def DX.chk(vo vt:List Nat):DX->Bool
 | .c _=>true
 | .var i=>vo.contains i
 | .tup l=>decide (l.length<=100) && q3k vo vt l
 | .lst l=>decide (l.length<=100) && q3k vo vt l
 | .cat a b=>q3l vt a b && a.chk vo vt && b.chk vo vt
 | .lof a=>q2s vt a && a.chk vo vt
def q3k(vo vt:List Nat):List DX->Bool
 | []=>true
 | x::r=>x.chk vo vt && q3k vo vt r
end
structure Env(ρ : Nat->Dm)(σ : St)(H:Hp)(vo vt:List Nat):Prop where
 o:∀i∈vo,∃v,σ[i]?=some (some v)/\Dt H v (ρ i)
 t:∀i∈vt,∃ds,ρ i=.tup ds/\ds.length<=100
theorem zl5(ρ : Nat->Dm):∀l:List DX,(q1p ρ l).length=l.length
 | []=>rfl
 | _::r=>by rw [q1p,yh,yh,zl5 ρ r]
mutual
theorem Env.fit{ρ : Nat->Dm}{σ : St}{H:Hp}{vo vt:List Nat}(e:Env ρ σ H vo vt):∀{x:DX},x.chk vo vt=true->x.Fit ρ σ H
 | .c _,_=>by rw [DX.Fit]; trivial
 | .var i,h=>by
  rw [DX.chk] at h
  rw [DX.Fit]
  exact e.o i (List.contains_iff_mem.mp h)
 | .tup l,h=>by
  rw [DX.chk,yw,decide_eq_true_eq] at h
  rw [DX.Fit]
  exact⟨by omega,e.fitA h.2⟩
 | .lst l,h=>by
  rw [DX.chk,yw,decide_eq_true_eq] at h
  rw [DX.Fit]
  exact⟨by omega,e.fitA h.2⟩
 | .cat a b,h=>by
  rw [DX.chk,yw,yw] at h
  obtain⟨⟨h0,h1⟩,h2⟩:=h
  rw [DX.Fit]
  refine⟨e.fit h1,e.fit h2,?_⟩
  unfold q3l at h0
  split at h0
  ·rename_i i l
   rw [yw,decide_eq_true_eq] at h0
   obtain⟨ds,ed,hl⟩:=e.t i (List.contains_iff_mem.mp h0.1)
   exact⟨ds,q1p ρ l,by rw [DX.val]; exact ed,by rw [DX.val],by rw [zl5]; omega⟩
  ·cases h0
 | .lof a,h=>by
  rw [DX.chk,yw] at h
  rw [DX.Fit]
  refine⟨e.fit h.2,?_⟩
  have h0:=h.1
  unfold q2s at h0
  split at h0
  ·rename_i i
   obtain⟨ds,ed,hl⟩:=e.t i (List.contains_iff_mem.mp h0)
   exact⟨ds,by rw [DX.val]; exact ed⟩
  ·cases h0
theorem Env.fitA{ρ : Nat->Dm}{σ : St}{H:Hp}{vo vt:List Nat}(e:Env ρ σ H vo vt):∀{l:List DX},q3k vo vt l=true->FitA ρ σ H l
 | [],_=>by rw [FitA]; trivial
 | x::r,h=>by
  rw [q3k,yw] at h
  rw [FitA]
  exact⟨e.fit h.1,e.fitA h.2⟩
end
def tDX(x:DX):TE:=fun σ H Q=>∃ ρ,x.Fit ρ σ H/\∀v H',Same H H'->Dt H' v (x.val ρ)->Q v H'
def zz7(l:List DX):TA:=fun σ H Q=>∃ ρ,FitA ρ σ H l/\∀vs H',Same H H'->DtA H' vs (q1p ρ l)->Q vs H'
section
variable{X:Cx}
theorem PE.weak{e:Expr}{t t':TE}(h:PE X e t)(k:∀ σ H Q,t' σ H Q->t σ H Q):PE X e t':=⟨fun pins s σ H Q I q=>h pins s σ H Q I (k σ H Q q)⟩
end
end L2
namespace L2
open PySem PySem.Spec PyProof.Rows PySem.W
def ltI:List Int->List Int->Bool
 | _,[]=>false
 | [],_::_=>true
 | a::x,b::y=>if a=b then ltI x y else decide (a < b)
theorem zyo:∀{x y:List Int},ltI x y=true->x≠y
 | [],[],h,_=>by simp[ltI] at h
 | a::x,b::y,h,e=>by
  injection e with e1 e2
  subst e1 e2
  rw [ltI,if_pos rfl] at h
  exact zyo h rfl
theorem zu7:∀{x y:List Int},ltI x y=true->ltI y x=false
 | _,[],h=>by cases ‹List Int›<;>simp[ltI] at h
 | [],b::y,_=>by simp[ltI]
 | a::x,b::y,h=>by
  rw [ltI] at h |-
  by_cases e:a=b
  ·subst e
   rw [if_pos rfl] at h |-
   exact zu7 h
  ·rw [if_neg e] at h
   rw [if_neg (y1y e)]
   simp only[decide_eq_true_eq,decide_eq_false_iff_not] at h |-
   omega
section
variable{prog:yf}{w:yr}{A:y01}{E:y4->y9->Prop}{s:y9}
theorem zjf{x y:List Int}{a b:Addr}{P:PySem.Fin->y9->Prop}(hx:IsTupleKey (intKind prog w) s.heap x a)(hy:IsTupleKey (intKind prog w) s.heap y b)(h:P (.done (.ret (.bool (ltI x y)))) s) :
  wpAny (model prog w) A (Builtin.«tuple.__lt__» ⟨[.ref a,.ref b],[]⟩) P E s:=by
 have hTb:=hy.typeIs
 obtain⟨oa,xs,na,hoa,_,hda,hia⟩:=hx
 obtain⟨ob,ys,nb,hob,_,hdb,hib⟩:=hy
 show wpAny _ _ (isInstance (.ref b) (.type "tuple") >>= _) _ _ s
 refine yc (wpAny_isInstance hTb isSubtype_tuple_tuple ?_)
 simp only[y1w,y0h,if_false]
 refine yc (wpAny_tupleItemsOf hoa hda ?_)
 refine yc (wpAny_tupleItemsOf hob hdb ?_)
 refine yc ?_
 refine wpAny_forIn_list _
  (fun zjs r s'=>r.1=none/\s'=s/\∃x' y' xs' ys',zjs=List.zip xs' ys'/\ItemsAre (intKind prog w) x' xs'/\ItemsAre (intKind prog w) y' ys'/\ltI x' y'=ltI x y/\decide (xs'.length < ys'.length)=decide (xs.size < ys.size))
  _ ?_ ?_ _ _ ⟨rfl,rfl,x,y,xs.toList,ys.toList,rfl,hia,hib,rfl,by simp⟩
 ·rintro⟨u,v⟩ zjs r s' ⟨hr,rfl,x',y',xs',ys',hz,hx',hy',hdec,hlen⟩
  cases hx' with
  | nil=>simp at hz
  | @cons k1 u' x'' xs'' h1 hx''=>
   cases hy' with
   | nil=>simp at hz
   | @cons k2 v' y'' ys'' h2 hy''=>
    simp only[y14,y1s,Prod.mk.injEq] at hz
    obtain⟨⟨rfl,rfl⟩,rfl⟩:=hz
    refine yc ((intKind prog w).eqBool (a:=k1) (b:=k2) h1 h2 ?_)
    rw [ltI] at hdec
    by_cases hk:k1=k2
    ·subst hk
     rw [decide_eq_true rfl]
     rw [if_pos rfl] at hdec
     simp only[y1w,y0h,if_false]
     exact yo ⟨rfl,rfl,x'',y'',xs'',ys'',rfl,hx'',hy'',hdec,by simpa using hlen⟩
    ·rw [decide_eq_false hk]
     rw [if_neg hk] at hdec
     simp only[y21,if_true]
     obtain⟨t1,rfl⟩:=zqa h1
     obtain⟨t2,rfl⟩:=zqa h2
     refine yc (wpAny_rule (yc (wpAny_lt_int ?_)))
     rw [hdec]
     exact yc (yo (yo (yo h)))
 ·rintro⟨r1,r2⟩ s' ⟨hr,rfl,x',y',xs',ys',hz,hx',hy',hdec,hlen⟩
  simp only at hr
  subst hr
  refine yo ?_
  have hfin:decide (xs.size < ys.size)=ltI x y:=by
   rw [<- hdec,<- hlen]
   cases hx' with
   | nil=>
    cases hy' with
    | nil=>simp[ltI]
    | cons _ _=>simp[ltI]
   | cons _ _=>
    cases hy' with
    | nil=>simp[ltI]
    | cons _ _=>simp at hz
  show P (.done (.ret (.bool (decide (xs.size < ys.size))))) s'
  rw [hfin]; exact h
theorem zx8{x y:List Int}{a b:Addr}{Q:y4->y9->Prop}(hu:A.units < cLine)(hx:IsTupleKey (intKind prog w) s.heap x a)(hy:IsTupleKey (intKind prog w) s.heap y b)(h:Q (.bool (ltI x y)) s) :
  wpAny (model prog w) A (compareOp .Lt (.ref a) (.ref b)) Q E s:=
 wpAny_richCompare_same_room (op:=.Lt) hx.typeIs hy.typeIs F.slot_tuple_lt
  (y0m F.slot_tuple_lt hx.typeIs F.entry_tuple_lt (zjf hx hy ⟨_,rfl,(fun e=>nomatch e),h⟩) (F.args_tuple_lt_2 _ _)) hu
variable{k:SortKind}{vs:List y4}{st:SortSt}
end
end L2
namespace L2
open PySem PySem.Spec PyProof.Rows PySem.W
section
variable{prog:yf}{w:yr}{A:y01}{E:y4->y9->Prop}{s:y9}
theorem q2r{x y:List Int}{a c p q:Addr}{oa oc:Obj}{xs ys:Array y4}{n m:Nat}{d e:y4}{Q:Bool->y9->Prop}(hu:A.units < cLine)(ha:s.heap.get? a=some oa)(da:oa.data=.seq xs n)(hc:s.heap.get? c=some oc)(dc:oc.data=.seq ys m)
  (ex:xs.toList=[.ref p,d]) (ey:ys.toList=[.ref q,e]) (hx:IsTupleKey (intKind prog w) s.heap x p) (hy:IsTupleKey (intKind prog w) s.heap y q) (hne:x≠y) (h:Q (ltI x y) s):wpAny (model prog w) A (keyLt' (tuples' false) (.ref a) (.ref c)) Q E s:=by
 refine kat_lt ha da hc dc ?_
 rw [ex,ey,y14]
 refine kat_cons (wpAny_eqBool_tuple hu hx hy ?_)
 rw [decide_eq_false hne]
 refine kat_no ?_
 show wpAny _ _ (oneLt' false _ _) _ _ _
 exact kat_one _ _ (zx8 hu hx hy h)
end
def pathD(p:List Int):Dm:=.tup (p.map Dm.int)
abbrev Rw2:=List Int×Dm
def q1s(r:Rw2):Dm:=.tup [pathD r.1,r.2]
theorem z9e{H:Hp}:∀{xs:List V} {p:List Int},DtA H xs (p.map Dm.int)->xs=p.map V.int
 | _,[],.nil=>rfl
 | _,_::_,.cons (.int _) r=>by rw [yn,<- z9e r]
section
variable{X:Cx}{pins:List (Addr×Obj)}{σ : St}{H:Hp}{s:y9}
theorem zq9:∀{p:List Int} {us:List y4},Vals (p.map V.int) us->ItemsAre (intKind X.prog X.w) p us
 | [],_,.nil=>.nil
 | i::p,_,.cons r t=>by
  obtain⟨k,rfl⟩:=r
  exact .cons (intKind_is _ _ _ _) (zq9 t)
theorem Inv.path(I:Inv X pins σ H s){v:V}{p:List Int}{u:y4}(d:Dt H v (pathD p))(r:RelV v u):∃a,u=.ref a/\IsTupleKey (intKind X.prog X.w) s.heap p a:=by
 cases d with
 | tup e ra=>
  cases r
  obtain⟨its,rv,⟨o,ho,hc,n,hd⟩,_⟩:=I.tuple (SqT.of e)
  have:=z9e ra
  subst this
  exact⟨_,rfl,o,its.toArray,n,ho,hc,hd,zq9 rv⟩
theorem q0j{h h':Heap}{p:List Int}{a:Addr}{P:yf}{w:yr}(x:IsTupleKey (intKind P w) h p a)(k:∀b o,h.get? b=some o->h'.get? b=some o):IsTupleKey (intKind P w) h' p a:=by
 obtain⟨o,i,n,e,r⟩:=x
 exact⟨o,i,n,k _ _ e,r⟩
theorem zq0(I:Inv X pins σ H s):∀{ps:List (List Int)} {vs:List V} {us:List y4},DtA H vs (ps.map pathD)->Vals vs us->us.length=ps.length/\∀i,i < ps.length->∃a,us.getD i .none=.ref a/\IsTupleKey (intKind X.prog X.w) s.heap (ps.getD i []) a
 | [],_,_,.nil,.nil=>⟨rfl,fun i h=>absurd h (by simp)⟩
 | p::ps,_,_,.cons d t,.cons r rt=>by
  obtain⟨l,f⟩:=zq0 I t rt
  refine⟨by simp[l],fun i hi=>?_⟩
  cases i with
  | zero=>exact I.path d r
  | succ i=>exact f i (by simpa using hi)
end
end L2
namespace L2
open PySem PyProof.Rows
open AutoSeq1 (wpAny_loadPart')
theorem zmn(l:Addr)(items:Array y4)(n:Nat)(dct:Option Addr)(sl:Array (Option y4)) :
  Meets (Builtin.«enumerate.__new__» ⟨[.type "enumerate",.ref l],[]⟩) (fun _ R s=>s.heap.get? l=some {cls:=.type "tuple",dict:=dct,data:=.seq items n,slots:=sl}/\
   R (.ok (.ret (.ref (s.heap.push {cls:=.type "tuple_iterator",data:=.fields #[.ref l,.int 0 0]}).objs.size)))
    {s with heap:=(s.heap.push {cls:=.type "tuple_iterator",data:=.fields #[.ref l,.int 0 0]}).push {cls:=.type "enumerate",data:=.fields #[.none,.bool false,.ref s.heap.objs.size,rawInt 0,.none,.none]}}):=
 .of_wp fun prog w A R s h=>by
  obtain⟨hp,g,d,tk,os⟩:=s; obtain⟨hl,h⟩:=h
  have hsub:=sub_enumerate
  have hL:Heap.IsTuple (Shared.heap ⟨hp,g,d,tk,os⟩) l items:=⟨_,hl,rfl,n,rfl⟩
  wp_walk using wpAny_loadPart' hl
  refine wpAny_stack_any fun st=>yo ?_
  split
  ·rename_i c _ _ _ _ _
   cases (c == Value.type "enumerate")
   ·wp_walk using wpAny_loadPart' hl,y2p hL
    exact⟨_,rfl,h⟩
   ·wp_walk using wpAny_loadPart' hl,y2p hL
    exact⟨_,rfl,h⟩
  ·wp_walk using wpAny_loadPart' hl,y2p hL
   exact⟨_,rfl,h⟩
section
variable{prog:yf}{w:yr}{A:y01}{E:y4->y9->Prop}{s:y9}
theorem zse{l:Addr}{items:Array y4}{Q:y4->y9->Prop}(hL:s.heap.IsTuple l items)
  (h:∀h',IsEnum h' (s.heap.objs.size+1) s.heap.objs.size 0 .none->h'.IsTupleIter s.heap.objs.size l 0->h'.objs.size=s.heap.objs.size+2->
   (∀b o,s.heap.get? b=some o->h'.get? b=some o)->Q (.ref (s.heap.objs.size+1)) {s with heap:=h'}) :
  wpAny (model prog w) A (call (.type "enumerate") [.ref l]) Q E s:=by
 obtain⟨⟨c,dct,dt,sl⟩,hl,hc,n,hd⟩:=hL
 replace hc:c=.type "tuple":=hc
 replace hd:dt=.seq items n:=hd
 subst hc hd
 refine callType_new F.called_enumerate (by decide) (F.typeCall_enumerate_1 _) (F.newCall_enumerate_1 _) (fun obj=>F.args_object_init_2 obj _) F.entry_enumerate_new
  (zmn l items n dct sl) ⟨hl,?_⟩
 have hz:(s.heap.push {cls:=.type "tuple_iterator",data:=.fields #[.ref l,.int 0 0]}).objs.size=s.heap.objs.size+1:=y0o ..
 show _/\_
 rw [hz]
 have he:IsEnum ((s.heap.push {cls:=.type "tuple_iterator",data:=.fields #[.ref l,.int 0 0]}).push
   {cls:=.type "enumerate",data:=.fields #[.none,.bool false,.ref s.heap.objs.size,rawInt 0,.none,.none]}) (s.heap.objs.size+1) s.heap.objs.size 0 .none:=by
  have:=yi (s.heap.push {cls:=.type "tuple_iterator",data:=.fields #[.ref l,.int 0 0]})
   (o:={cls:=.type "enumerate",data:=.fields #[.none,.bool false,.ref s.heap.objs.size,rawInt 0,.none,.none]}) rfl
  rw [hz] at this; exact this
 refine⟨⟨_,he,rfl⟩,h _ he ⟨_,y6 _ (yi _ rfl),rfl,rfl⟩ (by rw [y0o,hz]) fun b o x=>y6 _ (y6 _ x)⟩
theorem zv5{e it l:Addr}{i:Nat}{items:Array y4}{old:y4}{Q:Option y4->y9->Prop}(hh:A.handled=none)(he:IsEnum s.heap e it i old)(hit:s.heap.IsTupleIter it l i)(hl:s.heap.IsTuple l items)(hx:items[i]?=none)
  (hQ:∀h',Heap.ExtBut it s.heap h'->Q none {s with heap:=h'}):wpAny (model prog w) A (pyNext (.ref e)) Q E s:=by
 have hT:s.TypeIs (.ref e) "enumerate":=⟨_,he,rfl⟩
 unfold pyNext
 refine yc (y2c (y0s (name:=Str.ofString "__next__") hT F.slot_enumerate_next
  (y0m F.slot_enumerate_next hT F.entry_enumerate_next ?_ (F.args_enumerate_next_1 _))))
 show wpAny _ _ (field (.ref e) 2 >>= _) _ _ _
 refine yc (wpAny_field he rfl (x:=.ref it) rfl ?_)
 refine yc (zb9 hh hit hl hx fun h' x he' hx'=>?_)
 obtain⟨o,ho,hc⟩:=hx'
 refine yc (wpAny_isInstance (T:="StopIteration") (b:=true) ⟨o,ho,hc⟩ isSubtype_stop ?_)
 exact yo (hQ _ he')
end
theorem q3c{prog:yf}{w:yr}{A:y01}(hh:A.handled=none)(it l:Addr)(hne:l≠it)(items:Array y4) :
  Draws prog w A it [it,l] items.size (fun i v=>items[i]?=some v) (fun i h=>h.IsTupleIter it l i/\h.IsTuple l items) where
 live:=fun _ _ st=>let ⟨o,ho,_⟩:=st.1; ⟨o,ho⟩
 frame:=fun _ _ _ st hk=>⟨st.1.at fun o e=>hk it (by simp) o e,let ⟨o,ho,r⟩:=st.2; ⟨o,hk l (by simp) o ho,r⟩⟩
 item:=fun i s Q E hi st hQ=>by
  refine zq4 st.1 st.2 (x:=items[i]) (by simp[hi]) fun h' hit' hs'=>?_
  exact hQ _ h' s.toks (by simp[hi]) ⟨hit',st.2.extBut hs'.extBut hne⟩ hs'
 done:=fun s Q E st hE=>zb9 hh st.1 st.2 (by simp) hE
def zyz(K:y3)(a:Addr):It:=
 ⟨fun i H=>∃xs x,SqT K H a xs/\xs[i]?=some x,fun i H x H'=>∃T v,x=.ref T/\H T=none/\H'=upd H T (.tup [.int i,v])/\∀xs,SqT K H a xs->xs[i]?=some v,fun i H=>∃xs,SqT K H a xs/\xs.length<=i⟩
theorem zr2{P:yf}{w:yr}{K:y3}{elts:List Expr}{kt:Nat}{pt:Pos}(a e it:Addr)(hne:e≠it)(hea:e≠a)(hai:a≠it):Turn P w K (.Tuple elts kt pt) (zyz K a) [e,it] e (fun i h=>(∃old,IsEnum h e it i old)/\h.IsTupleIter it a i) where
 mem:=by simp
 obj:=fun i h st b hb=>by
  obtain⟨⟨old,he⟩,hi⟩:=st
  rcases List.mem_cons.mp hb with rfl | hb
  ·exact⟨_,he,fun v z=>by cases z⟩
  ·obtain rfl:=List.mem_singleton.mp hb
   obtain⟨o,e',c,d⟩:=hi
   exact⟨o,e',fun v z=>by rw [d] at z; cases z⟩
 keep:=fun i h h' st k=>by
  obtain⟨⟨old,he⟩,hi⟩:=st
  exact⟨⟨old,k e (by simp) _ he⟩,hi.at fun o q=>k it (by simp) o q⟩
 item:=by
  intro X hP hw hK hc i pins s σ H E I hf st hg
  subst hP hw hK
  obtain⟨⟨old,he⟩,hit⟩:=st
  obtain⟨xs,x,hq,hx⟩:=hg
  obtain⟨its,rv,p,hz⟩:=I.tuple hq
  obtain⟨u,hu,ru⟩:=rv.get hx
  have hui:its.toArray[i]?=some u:=by simpa using hu
  have hlt:i < its.toArray.size:=by
   rcases Nat.lt_or_ge i its.toArray.size with c | c
   ·exact c
   ·rw [y2m c] at hui; cases hui
  refine wpAny_pyNext_enum_itemD (q3c (A:=X.A.in1) (show X.A.in1.handled=none from I.ok.hd hc) it a hai its.toArray) he ⟨hit,p⟩ hlt hne (by simp[hne,hea]) fun y h1 tk hy ho hst1 hT hsz hk=>?_
  have hy':its.toArray[i]?=some y:=hy
  obtain rfl:u=y:=by rw [hui] at hy'; exact y04 hy'
  have hit1:=hst1.1
  refine⟨_,rfl,wpAny_letOwnedTupleGo_enum ho fun h2 he2 hs2=>?_⟩
  have helt:e < s.heap.objs.size:=ye he
  have hs2':Heap.SameBut e h1 h2:=hs2
  have kk:∀b o,b∉[e,it]->s.heap.get? b=some o->h2.get? b=some o:=fun b o hb q=>hs2'.extBut b o (fun z=>hb (by simp[z])) (hk b o (fun z=>hb (by simp[z])) (fun z=>hb (by simp[z])) q)
  have I1:Inv X pins σ H {s with heap:=h2,toks:=tk+1}:=I.turnedL kk hf
  have hTn:H s.heap.objs.size=none:=I.hok.fresh (yg _)
  have hT2:h2.get? s.heap.objs.size=some {cls:=.type "tuple",data:=.seq #[.int i tk,u]}:=hs2'.extBut _ _ (y0k helt) hT
  have I2:Inv X pins σ (upd H s.heap.objs.size (.tup [.int i,x])) {s with heap:=h2,toks:=tk+1}:=
   I1.track hTn (I.fpOk (yg _) hTn) (show ObjOk X.prog X.w _ h2 _ (.tup [.int i,x]) from⟨zpm,[.int i tk,u],.cons ⟨_,rfl⟩ (.cons ru .nil),⟨_,hT2,rfl,_,rfl⟩⟩)
  refine⟨.ref s.heap.objs.size,_,I2,rfl,⟨s.heap.objs.size,x,rfl,hTn,rfl,fun ys hy=>by rw [I.tuple_inj hy hq]; exact hx⟩,⟨⟨u,by simpa using he2⟩,hit1.at fun o q=>(hs2'.2 it hne.symm).trans q⟩,fun b hb=>?_⟩
  have hbl:b < s.heap.objs.size:=by
   rcases List.mem_cons.mp hb with rfl | hb
   ·exact helt
   ·obtain rfl:=List.mem_singleton.mp hb
    obtain⟨o,e',_⟩:=hit
    exact ye e'
  rw [z09 (yk hbl)]
  exact(hf b hb).1
 done:=by
  intro X hP hw hK hc i pins s σ H E I hf st hg
  subst hP hw hK
  obtain⟨⟨old,he⟩,hit⟩:=st
  obtain⟨xs,hq,hx⟩:=hg
  obtain⟨its,rv,p,hz⟩:=I.tuple hq
  have hl:=rv.length
  exact zv5 (I.ok.hd hc) he hit p (by simp; omega) fun h' eb=>⟨rfl,I.turnedL (t':=s.toks) (fun b o hb q=>eb b o (fun z=>hb (by simp[z])) q) hf⟩
 self:=fun _ _ _ _ _ st h=>by
  obtain⟨⟨old,he⟩,_⟩:=st
  exact wpAny_pyIter_enum he h
section
variable{X:Cx}
def zuq(K:y3)(ta:TA):TI:=fun σ H R=>ta σ H fun vs H1=>∃a,vs=[.ref a]/\(∃xs,SqT K H1 a xs)/\R (zyz K a) H1
theorem zjz{elts:List Expr}{kt:Nat}{pt p pos:Pos}{l:Expr}{ta:TA} (hg:Gl X "enumerate") (hm:X.mg "enumerate" = none) (ha:PA X [l] ta) (hst:zj7 l=false:=by rfl):PI X (.Tuple elts kt pt) (.Call (.Name "enumerate" p) [l] [] pos) (zuq X.K ta):=by
 refine⟨?_⟩
 intro pins s σ H R I h
 refine Call_ (zhc I hg hm boot_enumerate (y1i (thn (ha pos pins s σ H _ I h) fun us s1 ⟨vs,H1,I1,r1,q1⟩=>?_) (z0z hst) rfl))
 obtain⟨a,e,⟨xs,hq⟩,q⟩:=q1
 subst e
 cases r1 with
 | cons r rr=>
  cases rr
  cases r
  obtain⟨its,rv,pl,hz⟩:=I1.tuple hq
  have hal:a < s1.heap.objs.size:=by
   obtain⟨o,e,_⟩:=pl
   exact ye e
  refine zse pl fun h' he hi hsz hk=>?_
  have I2:Inv X pins σ H1 {s1 with heap:=h'}:=I1.kept (t':=s1.toks) hk
  refine wpAny_pyIter_enum he ?_
  refine⟨s1.heap.objs.size+1,[s1.heap.objs.size+1,s1.heap.objs.size],_,_,H1,rfl,I2,zr2 a _ _ (Nat.succ_ne_self _) (y0k (y2r hal)) (yk hal),⟨⟨_,he⟩,hi⟩,fun b hb=>?_,q⟩
  have hle:s1.heap.objs.size<=b:=by
   rcases List.mem_cons.mp hb with rfl | hb
   ·exact Nat.le_succ _
   ·obtain rfl:=List.mem_singleton.mp hb
    exact yg _
  exact I1.fpOk hle (I1.hok.fresh hle)
end
theorem zmi{K:y3}{a:Addr}{xs:List V}{g:TG}{tb:TS}{D:Ends}{σ : St}{H:Hp}(Pv:Nat->St->Hp->Prop)(h0:Pv 0 σ H)(hl:∀i σ H,i<=xs.length->Pv i σ H->SqT K H a xs)
  (hs:∀i x σ H T,xs[i]?=some x->Pv i σ H->H T=none->g (.ref T) σ (upd H T (.tup [.int i,x])) fun σ2 H2=>tb {D with nx:=Pv (i+1),ct:=Pv (i+1),bk:=D.nx} σ2 H2) (hd:∀ σ H,Pv xs.length σ H->D.nx σ H) :
  ∃W:Nat->Nat->St->Hp->Prop,(∃m,W 0 m σ H)/\∀i m σ H,W i m σ H->
   ((zyz K a).stop i H/\D.nx σ H)\/((zyz K a).go i H/\∃N:St->Hp->Prop,(∀ σ' H',N σ' H'->∃m',m' < m/\W (i+1) m' σ' H')/\∀x H',(zyz K a).yld i H x H'->g x σ H' fun σ2 H2=>tb {D with nx:=N,ct:=N,bk:=D.nx} σ2 H2):=by
 refine⟨fun i m σ H=>m=xs.length - i/\i<=xs.length/\Pv i σ H,⟨xs.length,by simp,y05 _,h0⟩,?_⟩
 rintro i m σ H ⟨rfl,hi,p⟩
 have q:=hl i σ H hi p
 by_cases hlt:i < xs.length
 ·refine .inr ⟨⟨xs,xs[i],q,by simp[hlt]⟩,Pv (i+1),fun σ' H' p'=>⟨xs.length - (i+1),by omega,rfl,hlt,p'⟩,fun x H' y=>?_⟩
  obtain⟨T,v,rfl,hT,rfl,y⟩:=y
  exact hs i v σ H T (y xs q) p hT
 ·have e:i=xs.length:=by omega
  subst e
  exact .inl ⟨⟨xs,q,yg _⟩,hd σ H p⟩
end L2
namespace L2
open PySem PySem.Spec PyProof.Rows
section
variable{prog:yf}{w:yr}{A:y01}{E:y4->y9->Prop}{s:y9}{S:Addr}
end
def zr9(P:yf)(w:yr)(p:Addr)(ks:List Str):HO:=.ext (SetX (PySem.strKind P w) strOf p (!q3m w) ks)
section
variable{X:Cx}
end
end L2
namespace L2
open PySem PySem.Spec PyProof.Rows PySem.W
def zsj(r:Nat->Nat)(n:Nat):Nat->Nat->(Bool->y9->Prop)->y9->Prop:=fun i j C s=>i < n/\j < n/\C (decide (r i < r j)) s
theorem zvz{α : Type}{r:Nat->Nat}{n:Nat}{cmp:Nat->Nat->(Bool->y9->Prop)->y9->Prop}{s:y9}{Q : α->y9->Prop}(hc:∀i j C,i < n->j < n->C (decide (r i < r j)) s->cmp i j C s) :
  ∀(t:KasT α),t.kasWp (zsj r n) (fun a s'=>Q a s) s->t.kasWp cmp Q s
 | .ret a,h=>h
 | .ask i j k,⟨h1,h2,h⟩=>hc i j _ h1 h2 (zvz hc (k _) h)
section
variable{r:Nat->Nat}{n:Nat}{s:y9}
theorem zic{α : Type}{i j:Nat}{T1 T2:KasT α}{Q : α->y9->Prop}(hi:i < n)(hj:j < n)(h1:r i < r j->T1.kasWp (zsj r n) Q s)(h2:¬ r i < r j->T2.kasWp (zsj r n) Q s):(KasT.ask i j fun c=>if c=true then T1 else T2).kasWp (zsj r n) Q s:=by
 refine⟨hi,hj,?_⟩
 by_cases c:r i < r j
 ·have:=h1 c
  simpa [c] using this
 ·have:=h2 c
  simpa [c] using this
def rk(r:Nat->Nat)(p:Array Nat)(i:Nat):Nat:=r (p.getD i 0)
def Asc(r:Nat->Nat)(p:Array Nat)(m:Nat):Prop:=∀i j,i < j->j < m->rk r p i < rk r p j
def Dsc(r:Nat->Nat)(p:Array Nat)(m:Nat):Prop:=∀i j,i < j->j < m->rk r p j < rk r p i
structure PermN(r:Nat->Nat)(n:Nat)(p:Array Nat):Prop where
 sz:p.size=n
 lt:∀i,i < n->p.getD i 0 < n
 inj:∀i j,i < n->j < n->rk r p i=rk r p j->i=j
 pm:p.toList.Perm (List.range n)
theorem PermN.of(hr:∀i j,i < n->j < n->r i=r j->i=j){p:Array Nat}(h:p.toList.Perm (List.range n)):PermN r n p:=by
 have sz:p.size=n:=by simpa using h.length_eq
 have lt:∀i,i < n->p.getD i 0 < n:=fun i hi=>by
  have hi':i < p.size:=by omega
  have:p.getD i 0∈p.toList:=by simp[Array.getD,hi']
  simpa using h.mem_iff.mp this
 refine⟨sz,lt,fun i j hi hj e=>?_,h⟩
 have e':=hr _ _ (lt i hi) (lt j hj) e
 have nd:p.toList.Nodup:=h.nodup_iff.mpr List.nodup_range
 have hi':i < p.size:=by omega
 have hj':j < p.size:=by omega
 have:p.toList[i]'(by simpa using hi')=p.toList[j]'(by simpa using hj'):=by simpa [Array.getD,hi',hj'] using e'
 exact(List.getElem_inj nd).mp this
theorem zkk{p q:Array Nat}{i j:Nat}(h:p[i]?=q[j]?):p.getD i 0=q.getD j 0:=by
 have e1:p.getD i 0=(p[i]?).getD 0:=by simp
 have e2:q.getD j 0=(q[j]?).getD 0:=by simp
 rw [e1,e2,h]
theorem q4r{p:Array Nat}(P:PermN r n p){Q:Nat->y9->Prop}:∀(f m:Nat),1<=m->m+f<=n->Asc r p m->(∀k,m<=k->k<=m+f->Asc r p k->(k < m+f->rk r p k < rk r p (k - 1))->Q k s)->(kas_asc p f m).kasWp (zsj r n) Q s
 | 0,m,h1,h2,h,q=>q m (yg _) (yg _) h (fun z=>absurd z (by omega))
 | f+1,m,h1,h2,h,q=>by
  refine zic (P.lt _ (by omega)) (P.lt _ (by omega)) (fun c=>?_) (fun(c:¬ rk r p m < rk r p (m - 1))=>?_)
  ·exact q m (yg _) (by omega) h (fun _=>c)
  ·refine q4r P f (m+1) (by omega) (by omega) (fun i j hij hj=>?_) fun k k1 k2 k3 k4=>q k (by omega) (by omega) k3 (fun z=>k4 (by omega))
   have last:rk r p (m - 1) < rk r p m:=by
    have:rk r p (m - 1)≠rk r p m:=fun e=>by have:=P.inj _ _ (by omega) (by omega) e; omega
    omega
   by_cases e:j=m
   ·subst e
    by_cases e2:i=j - 1
    ·rw [e2]; exact last
    ·exact y0v (h i (j - 1) (by omega) (by omega)) last
   ·exact h i j hij (by omega)
theorem q3e{p:Array Nat}(P:PermN r n p){Q:Array Nat×Nat×Nat->y9->Prop}:∀(f m:Nat),1<=m->m+f<=n->Dsc r p m->(∀k,m<=k->k<=m+f->Dsc r p k->Q (p,k,0) s)->(kas_desc f p m 0).kasWp (zsj r n) Q s
 | 0,m,h1,h2,h,q=>q m (yg _) (yg _) h
 | f+1,m,h1,h2,h,q=>by
  refine zic (P.lt _ (by omega)) (P.lt _ (by omega)) (fun c=>?_) (fun(c:¬ rk r p m < rk r p (m - 1))=>?_)
  ·rw [if_neg (by omega)]
   refine q3e P f (m+1) (by omega) (by omega) (fun i j hij hj=>?_) fun k k1 k2 k3=>q k (by omega) (by omega) k3
   by_cases e:j=m
   ·subst e
    by_cases e2:i=j - 1
    ·rw [e2]; exact c
    ·exact y0v c (h i (j - 1) (by omega) (by omega))
   ·exact h i j hij (by omega)
  ·have last:rk r p (m - 1) < rk r p m:=by
    have:rk r p (m - 1)≠rk r p m:=fun e=>by have:=P.inj _ _ (by omega) (by omega) e; omega
    omega
   refine zic (P.lt _ (by omega)) (P.lt _ (by omega)) (fun c=>?_) (fun c=>absurd last c)
   exact q m (yg _) (by omega) h
theorem zwj(hr:∀i j,i < n->j < n->r i=r j->i=j){p:Array Nat}(P:PermN r n p)(i j:Nat):PermN r n (kas_rev p i j):=
 .of hr ((Array.perm_iff_toList_perm.mp (mirror_perm _ _ _ _)).trans P.pm)
theorem zya{p:Array Nat}{m:Nat}(hm:m<=p.size)(k:Nat)(hk:k < m):rk r (kas_rev p 0 m) k=rk r p (m - 1 - k):=by
 have e:=getElem?_mirror_all (xs:=p) (i:=0) hm k
 rw [if_pos (by omega)] at e
 show r _=r _
 rw [show kas_rev p 0 m=mirror p 0 m ((m - 0) / 2) from rfl,zkk e]
 congr 2
 omega
theorem q1z(hr:∀i j,i < n->j < n->r i=r j->i=j){p:Array Nat}(P:PermN r n p){m:Nat}{Q:Nat×Array Nat->y9->Prop}(h1:1<=m)(h2:m<=n)(h:Dsc r p m)
  (q:∀k p',PermN r n p'->1<=k->k<=n->Asc r p' k->Q (k,p') s):(kas_tail3 m n p).kasWp (zsj r n) Q s:=by
 unfold kas_tail3
 rw [KasT.kasWp_bind]
 have P':=zwj hr P 0 m
 refine q4r P' (n - m) m h1 (by omega) (fun i j hij hj=>?_) fun k k1 k2 k3 _=>q k _ P' (by omega) (by omega) k3
 rw [zya (by rw [P.sz]; exact h2) _ (by omega),zya (by rw [P.sz]; exact h2) _ hj]
 exact h _ _ (by omega) (by omega)
theorem zv8(hr:∀i j,i < n->j < n->r i=r j->i=j){p:Array Nat}(P:PermN r n p){m:Nat}{Q:Nat×Array Nat->y9->Prop}(h2:m+1<=n)(h:Dsc r p (m+1))
  (q:∀k p',PermN r n p'->1<=k->k<=n->Asc r p' k->Q (k,p') s):(kas_descPart m n p).kasWp (zsj r n) Q s:=by
 unfold kas_descPart
 rw [KasT.kasWp_bind]
 refine q3e P (n - (m+1)) (m+1) (by omega) (by omega) h fun k k1 k2 k3=>?_
 rw [if_neg (show ¬ (p,k,0).2.2 > 0 from y0i 0)]
 have a1:1<=k:=by omega
 have a2:k<=n:=by omega
 exact q1z hr P a1 a2 k3 q
theorem q3j(hr:∀i j,i < n->j < n->r i=r j->i=j){p:Array Nat}(P:PermN r n p){Q:Nat×Array Nat->y9->Prop}(h1:1<=n)
  (q:∀k p',PermN r n p'->1<=k->k<=n->Asc r p' k->Q (k,p') s):(kas_count n p).kasWp (zsj r n) Q s:=by
 unfold kas_count
 rw [KasT.kasWp_bind]
 refine q4r P (n - 1) 1 (yg _) (by omega) (fun i j hij hj=>by omega) fun m m1 m2 m3 m4=>?_
 by_cases e:m=n
 ·rw [if_pos (by simpa using e)]
  exact q m p P m1 (by omega) m3
 ·rw [if_neg (by simpa using e)]
  by_cases e2:m > 1
  ·rw [if_pos e2]
   refine zic (P.lt _ (by omega)) (P.lt _ (by omega)) (fun c=>?_) (fun c=>absurd (m3 0 (m - 1) (by omega) (by omega)) c)
   exact q m p P m1 (by omega) m3
  ·rw [if_neg e2]
   obtain rfl:m=1:=by omega
   refine zv8 hr P (by omega) (fun i j hij hj=>?_) q
   obtain rfl:i=0:=by omega
   obtain rfl:j=1:=by omega
   exact m4 (by omega)
theorem zth{p:Array Nat}(P:PermN r n p){k:Nat}(hk:k < n)(hs:Asc r p k){Q:Nat->y9->Prop}:∀(f l u:Nat),l<=u->u<=k->u - l<=f->(∀i,i < l->rk r p i < rk r p k)->(∀i,u<=i->i < k->rk r p k < rk r p i)->
  (∀m,m<=k->(∀i,i < m->rk r p i < rk r p k)->(∀i,m<=i->i < k->rk r p k < rk r p i)->Q m s)->(kas_place p k f l u).kasWp (zsj r n) Q s
 | 0,l,u,h1,h2,h3,lo,hi,q=>by
  obtain rfl:l=u:=by omega
  exact q l h2 lo hi
 | f+1,l,u,h1,h2,h3,lo,hi,q=>by
  unfold kas_place
  by_cases e:l ≥ u
  ·rw [if_pos e]
   obtain rfl:l=u:=by omega
   exact q l h2 lo hi
  ·rw [if_neg e]
   refine zic (P.lt _ hk) (P.lt _ (by omega)) (fun c=>?_) (fun(c:¬ rk r p k < rk r p ((l+u) / 2))=>?_)
   ·refine zth P hk hs f l ((l+u) / 2) (by omega) (by omega) (by omega) lo (fun i h1 h2=>?_) q
    by_cases e2:i=(l+u) / 2
    ·rw [e2]; exact c
    ·exact y0v c (hs _ _ (by omega) h2)
   ·have c':rk r p ((l+u) / 2) < rk r p k:=by
     have:rk r p ((l+u) / 2)≠rk r p k:=fun e=>by have:=P.inj _ _ (by omega) hk e; omega
     omega
    refine zth P hk hs f ((l+u) / 2+1) u (by omega) h2 (by omega) (fun i h1=>?_) hi q
    by_cases e2:i=(l+u) / 2
    ·rw [e2]; exact c'
    ·exact y0v (hs _ _ (show i < (l+u) / 2 by omega) (by omega)) c'
theorem q5d(hr:∀i j,i < n->j < n->r i=r j->i=j){Q:Array Nat->y9->Prop}:∀(f:Nat) (p:Array Nat) (k:Nat),PermN r n p->k+f=n->Asc r p k->(∀p',PermN r n p'->Asc r p' n->Q p' s)->(kas_bin f p k).kasWp (zsj r n) Q s
 | 0,p,k,P,e,h,q=>by
  obtain rfl:k=n:=e
  exact q p P h
 | f+1,p,k,P,e,h,q=>by
  rw [show kas_bin (f+1) p k=(kas_place p k k 0 k).bind fun l=>kas_bin f (bubble p k (k - l)) (k+1) from rfl,KasT.kasWp_bind]
  have hk:k < n:=by omega
  refine zth P hk h k 0 k (y05 _) (yg _) (by omega) (fun i z=>absurd z (by omega)) (fun i z z'=>absurd z' (by omega)) fun m m1 m2 m3=>?_
  refine q5d hr f _ (k+1) (.of hr ((Array.perm_iff_toList_perm.mp (bubble_perm _ _ _)).trans P.pm)) (by omega) (fun i j hij hj=>?_) q
  have at_:∀x,rk r (bubble p k (k - m)) x=if x=m then rk r p k else if m < x/\x<=k then rk r p (x - 1) else rk r p x:=fun x=>by
   have z:=getElem?_bubble (xs:=p) (src:=k) (by rw [P.sz]; exact hk) (k - m) (by omega) x
   rw [show k - (k - m)=m by omega] at z
   show r _=_
   by_cases e1:x=m
   ·rw [if_pos e1] at z |-
    rw [zkk z,rk]
   ·rw [if_neg e1] at z |-
    by_cases e2:m < x/\x<=k
    ·rw [if_pos e2] at z |-
     rw [zkk z,rk]
    ·rw [if_neg e2] at z |-
     rw [zkk z,rk]
  rw [at_,at_]
  repeat' split
  all_goals first
   | (exfalso; omega)
   | exact m2 _ (by omega)
   | exact m3 _ (by omega) (by omega)
   | exact h _ _ (by omega) (by omega)
theorem q4e(hr:∀i j,i < n->j < n->r i=r j->i=j)(h1:1<=n){Q:Array Nat->y9->Prop}(q:∀p,PermN r n p->Asc r p n->Q p s):(kas_sort n).kasWp (zsj r n) Q s:=by
 unfold kas_sort
 rw [KasT.kasWp_bind]
 refine q3j hr (.of hr (by simp)) h1 fun k p P k1 k2 k3=>?_
 dsimp only
 by_cases e:k < n
 ·rw [if_pos e,show max k 1=k by omega]
  exact q5d hr _ p k P (by omega) k3 q
 ·rw [if_neg e]
  obtain rfl:k=n:=by omega
  exact q p P k3
end
end L2
namespace L2
open PySem PySem.Spec PyProof.Rows PySem.W
theorem hole:∀(n:Nat) (l:List Nat),l.length=n->∃j,j<=n/\j∉l
 | 0,l,h=>⟨0,yg _,by rw [List.length_eq_zero_iff.mp h]; simp⟩
 | n+1,l,h=>by
  by_cases c:n+1∈l
  ·obtain⟨j,hj,hn⟩:=hole n (l.erase (n+1)) (by rw [List.length_erase_of_mem c,h]; rfl)
   exact⟨j,by omega,fun z=>hn ((List.mem_erase_of_ne (show j≠n+1 by omega)).mpr z)⟩
  ·exact⟨n+1,yg _,c⟩
def lps(mask:Nat):Nat->Nat×Nat->Nat×Nat
 | 0,x=>x
 | k+1,x=>lps mask k (SetTable.leap mask x.1 x.2)
theorem zke(mask:Nat):∀(a b:Nat) (x:Nat×Nat),lps mask (a+b) x=lps mask b (lps mask a x)
 | 0,b,x=>by rw [Nat.zero_add]; rfl
 | a+1,b,x=>by rw [Nat.succ_add]; exact zke mask a b _
theorem zor(mask:Nat):∀(k:Nat) (x:Nat×Nat),(lps mask k x).2=x.2 / 32 ^ k
 | 0,x=>by simp[lps]
 | k+1,x=>by
  rw [lps,zor mask k,SetTable.leap,Nat.div_div_eq_div_mul,Nat.pow_succ,Nat.mul_comm]
theorem zyp(mask:Nat):∀(k:Nat) (x:Nat×Nat),x.1<=mask->(lps mask k x).1<=mask
 | 0,x,h=>h
 | k+1,x,h=>zyp mask k _ (Nat.le_of_lt_succ (Nat.mod_lt _ (Nat.succ_pos _)))
def orb(mask:Nat):Nat->Nat->List Nat
 | 0,i=>[i]
 | k+1,i=>i::orb mask k ((i * 5+1) % (mask+1))
theorem zod(mask:Nat):∀(k i j:Nat),j∈orb mask k i->∃m,m<=k/\(lps mask m (i,0)).1=j
 | 0,i,j,h=>by
  rw [orb,y0u] at h
  exact⟨0,yg _,h.symm⟩
 | k+1,i,j,h=>by
  rw [orb] at h
  rcases List.mem_cons.mp h with h | h
  ·exact⟨0,y05 _,h.symm⟩
  ·obtain⟨m,hm,e⟩:=zod mask k _ j h
   refine⟨m+1,by omega,?_⟩
   rw [lps,SetTable.leap]
   simpa using e
def zqz(mask:Nat):Prop:=mask=7\/mask=31\/mask=127
theorem zzx{mask:Nat}(hm:zqz mask):(∀j,j<=mask->j∈orb mask mask 0)/\(lps mask (mask+1) (0,0)).1=0:=by
 have go:∀n:Nat,((List.range (n+1)).all fun j=>(orb n n 0).contains j)=true->∀j,j<=n->j∈orb n n 0:=fun n h j hj=>by
  rw [List.all_eq_true] at h
  have x:=h j (by simp; omega)
  simpa using x
 rcases hm with rfl | rfl | rfl
 ·exact⟨go 7 (by decide+kernel),by decide+kernel⟩
 ·exact⟨go 31 (by decide+kernel),by decide+kernel⟩
 ·exact⟨go 127 (by decide+kernel),by decide+kernel⟩
theorem zq5(mask k i:Nat):lps mask k (i,0)=((lps mask k (i,0)).1,0):=by
 have:(lps mask k (i,0)).2=0:=by rw [zor]; exact Nat.zero_div _
 exact Prod.ext rfl this
theorem zww{mask:Nat}(hm:zqz mask){i j:Nat}(hi:i<=mask)(hj:j<=mask):∃m,m<=mask/\(lps mask m (i,0)).1=j:=by
 obtain⟨all,turn⟩:=zzx hm
 obtain⟨a,ha,ea⟩:=zod mask mask 0 i (all i hi)
 obtain⟨b,hb,eb⟩:=zod mask mask 0 j (all j hj)
 have from_:∀m,lps mask m (i,0)=lps mask (a+m) (0,0):=fun m=>by rw [zke,zq5 mask a 0,ea]
 by_cases c:a<=b
 ·refine⟨b - a,by omega,?_⟩
  rw [from_,show a+(b - a)=b by omega]
  exact eb
 ·refine⟨b+(mask+1) - a,by omega,?_⟩
  rw [from_,show a+(b+(mask+1) - a)=(mask+1)+b by omega,zke,zq5 mask (mask+1) 0,turn]
  exact eb
theorem q4m{mask:Nat}(hm:zqz mask){x:Nat×Nat}(h1:x.1<=mask)(h2:x.2 < 2 ^ 64){j:Nat}(hj:j<=mask):∃n,1<=n/\n<=mask+13/\(lps mask n x).1=j:=by
 have e0:(lps mask 13 x).2=0:=by
  rw [zor]
  exact Nat.div_eq_of_lt (y0v h2 (by decide))
 have e1:lps mask 13 x=((lps mask 13 x).1,0):=by rw [<- e0]
 obtain⟨m,hm',e⟩:=zww hm (zyp mask 13 x h1) hj
 refine⟨13+m,by omega,by omega,?_⟩
 rw [zke,e1]
 exact e
def zsk(t:SetTable):Nat->SetTable.Probe->SetTable.Probe
 | 0,p=>p
 | k+1,p=>zsk t k (t.advance p)
theorem zqy(t:SetTable):∀(a b:Nat) (p:SetTable.Probe),zsk t (a+b) p=zsk t b (zsk t a p)
 | 0,b,p=>by rw [Nat.zero_add]; rfl
 | a+1,b,p=>by rw [Nat.succ_add]; exact zqy t a b _
theorem zlo(mask i:Nat):SetTable.runEnd mask i - i<=9:=by
 unfold SetTable.runEnd
 split<;>omega
theorem zl2(t:SetTable):∀(m:Nat) (p:SetTable.Probe),p.more=m->(zsk t (m+1) p).j=(SetTable.leap t.mask p.i p.perturb).1/\(zsk t (m+1) p).i=(SetTable.leap t.mask p.i p.perturb).1/\(zsk t (m+1) p).perturb=(SetTable.leap t.mask p.i p.perturb).2/\(zsk t (m+1) p).more<=9
 | 0,p,h=>by
  have e:t.advance p = {p with j:=(SetTable.leap t.mask p.i p.perturb).1,more:=SetTable.runEnd t.mask (SetTable.leap t.mask p.i p.perturb).1 - (SetTable.leap t.mask p.i p.perturb).1,i:=(SetTable.leap t.mask p.i p.perturb).1,perturb:=(SetTable.leap t.mask p.i p.perturb).2}:=by
   unfold SetTable.advance
   rw [if_neg (by omega)]
  show(t.advance p).j=_/\(t.advance p).i=_/\(t.advance p).perturb=_/\(t.advance p).more<=9
  rw [e]
  exact⟨rfl,rfl,rfl,zlo _ _⟩
 | m+1,p,h=>by
  have e:t.advance p = {p with j:=p.j+1,more:=p.more - 1}:=by
   unfold SetTable.advance
   rw [if_pos (by omega)]
  show(zsk t (m+1) (t.advance p)).j=_/\_
  obtain⟨a,b,c,d⟩:=zl2 t m (t.advance p) (by rw [e]; show p.more - 1=m; omega)
  have e1:(t.advance p).i=p.i:=by rw [e]
  have e2:(t.advance p).perturb=p.perturb:=by rw [e]
  rw [e1,e2] at a b c
  exact⟨a,b,c,d⟩
theorem zjb(t:SetTable):∀(n:Nat) (p:SetTable.Probe),p.more<=9->∃k,k<=10 * (n+1)/\(zsk t k p).j=(lps t.mask (n+1) (p.i,p.perturb)).1
 | 0,p,h=>by
  obtain⟨a,_⟩:=zl2 t p.more p rfl
  exact⟨p.more+1,by omega,a⟩
 | n+1,p,h=>by
  obtain⟨a,b,c,d⟩:=zl2 t p.more p rfl
  obtain⟨k,hk,e⟩:=zjb t n (zsk t (p.more+1) p) d
  refine⟨p.more+1+k,by omega,?_⟩
  rw [zqy,e,b,c]
  rfl
structure TabOk(t:SetTable):Prop where
 dm:t.dummies = #[]
 mz:t.mask=7/\t.place.size<=4\/t.mask=31/\t.place.size<=18\/t.mask=127/\t.place.size<=60
 rs:Ris t.place
theorem TabOk.mask{t:SetTable}(T:TabOk t):zqz t.mask:=T.mz.elim (fun z=>.inl z.1) fun z=>z.elim (fun z=>.inr (.inl z.1)) fun z=>.inr (.inr z.1)
theorem TabOk.slot{t:SetTable}(T:TabOk t)(j:Nat):t.slot j=if t.place[SetTable.below t.place j]?=some j then .live (SetTable.below t.place j) else .empty:=by
 unfold SetTable.slot
 have:SetTable.has t.dummies j=false:=by rw [T.dm]; rfl
 rw [this]
 simp
theorem TabOk.hole{t:SetTable}(T:TabOk t):∃j,j<=t.mask/\t.slot j=.empty:=by
 obtain⟨j,hj,hn⟩:=L2.hole t.place.size t.place.toList (by simp)
 refine⟨j,?_,?_⟩
 ·rcases T.mz with⟨a,b⟩ | ⟨a,b⟩ | ⟨a,b⟩<;>omega
 ·rw [T.slot,if_neg]
  intro e
  exact hn (yv (i:=SetTable.below t.place j) (by simpa using e))
def q4s(t:SetTable)(p:SetTable.Probe):Prop:=p.more<=9/\p.i<=t.mask/\p.perturb < 2 ^ 64
def Far(t:SetTable)(p:SetTable.Probe)(k:Nat):Prop:=p.dummy=none/\t.slot (zsk t k p).j=.empty
theorem TabOk.far{t:SetTable}(T:TabOk t){p:SetTable.Probe}(h:q4s t p)(hd:p.dummy=none):∃k,k < 10 * SetTable.turns t.mask/\Far t p k:=by
 obtain⟨j,hj,he⟩:=T.hole
 obtain⟨n,h1,h2,e⟩:=q4m T.mask (x:=(p.i,p.perturb)) h.2.1 h.2.2 hj
 obtain⟨m,rfl⟩:∃m,n=m+1:=⟨n - 1,by omega⟩
 obtain⟨k,hk,ek⟩:=zjb t m p h.1
 refine⟨k,by unfold SetTable.turns; omega,hd,?_⟩
 rw [ek,e]
 exact he
theorem q1e(h:Int):SetTable.bits h < 2 ^ 64:=by
 unfold SetTable.bits
 have a:=Int.emod_lt_of_pos h (show(0:Int) < 2 ^ 64 by decide)
 have b:=Int.emod_nonneg h (show(2 ^ 64:Int)≠0 by decide)
 omega
theorem TabOk.start{t:SetTable}(T:TabOk t)(h:Int):∃k,k < 10 * SetTable.turns t.mask/\Far t (t.probeStart h) k:=
 T.far ⟨zlo _ _,Nat.le_of_lt_succ (Nat.mod_lt _ (Nat.succ_pos _)),q1e h⟩ rfl
def Own(mask:Nat)(owner:Array (Option Nat))(k:Nat):Prop:=owner.size=mask+1/\((List.range (mask+1)).filterMap fun j=>owner.getD j none).Perm (List.range k)
theorem Own.hole{mask k:Nat}{owner:Array (Option Nat)}(O:Own mask owner k)(hk:k<=mask):∃j,j<=mask/\owner.getD j none=none:=by
 refine y26 fun c=>?_
 have all:∀j,j<=mask->∃v,owner.getD j none=some v:=fun j hj=>by
  cases e:owner.getD j none with
  | none=>exact absurd ⟨j,hj,e⟩ c
  | some v=>exact⟨v,rfl⟩
 have len:∀l:List Nat,(∀j∈l,j<=mask)->(l.filterMap fun j=>owner.getD j none).length=l.length:=by
  intro l
  induction l with
  | nil=>intro _; rfl
  | cons a l ih=>
   intro h
   obtain⟨v,hv⟩:=all a (h a (.head _))
   rw [List.filterMap_cons_some (f:=fun j=>owner.getD j none) (b:=v) hv,yh,yh,ih fun j hj=>h j (.tail _ hj)]
 have z:=O.2.length_eq
 rw [len _ fun j hj=>by have:=List.mem_range.mp hj; omega,y2o,y2o] at z
 omega
end L2
namespace L2
open PySem PySem.Spec PyProof.Rows PySem.W
section
variable{prog:yf}{w:yr}{A:y01}{E:y4->y9->Prop}{s:y9}{a:Addr}{L:Bool}
theorem zc6{n:Nat}(h:n<=1000):n<=sizeLine:=by rw [sizeLine_eq]; omega
theorem zap{vs:List y4}{a:Addr}{n:Nat}{r:Nat->Nat}{P:PySem.Fin->y9->Prop} (ho:s.heap.get? a=some (seqObj "list" vs.toArray n)) (h64:vs.length < 64) (hr:∀i j,i < vs.length->j < vs.length->r i=r j->i=j)
  (hR:2<=vs.length->∀h':Heap,(∀b o,b≠a->s.heap.get? b=some o->h'.get? b=some o)->∃k,(∀(E:y4->y9->Prop) (Q:SortKind->y9->Prop),Q k {s with heap:=h'}->wpAny (model prog w) A (keyKind' vs.toArray) Q E {s with heap:=h'})/\
   ∀i j,i < vs.length->j < vs.length->∀(E:y4->y9->Prop) (Q:Bool->y9->Prop),Q (decide (r i < r j)) {s with heap:=h'}->wpAny (model prog w) A (keyLt' k (vs.getD i .none) (vs.getD j .none)) Q E {s with heap:=h'})
  (h:∀p,PermN r vs.length p->Asc r p vs.length->P (.done (.ret .none)) {s with heap:=sortedHeap s.heap a vs (p.toList.map fun i=>vs.getD i .none).toArray}) :
  wpAny (model prog w) A (Builtin.«list.sort» ⟨[.ref a],[]⟩) P E s:=by
 rw [list_sort_plain]
 have hz:vs.length<=sizeLine:=zc6 (by omega)
 have ha:a < s.heap.objs.size:=ye ho
 refine yc (listItems_at ho rfl ?_)
 refine yc (listUpdate_at ho rfl ?_ (by simpa using hz) (y05 _))
 obtain⟨e1,ho1⟩:∃e1,(s.heap.update a (Obj.mapSeq fun _=>#[])).get? a=some (seqObj "list" #[] e1):=⟨_,get?_update_seq ho (fun _=>#[])⟩
 refine yc (seqEpoch_at ho1 rfl ?_)
 refine yc (wpAny_newTuple ?_ (by simpa using hz))
 refine yc (wpAny_newList ?_ (y05 _))
 refine y22 ?_
 have ho6:(((s.heap.update a (Obj.mapSeq fun _=>#[])).push (seqObj "tuple" vs.toArray 0)).push (seqObj "list" #[] 0)).get? a=some (seqObj "list" #[] e1):=by
  rw [Heap.get?_push_ne _ _ _ (by rw [size_push',Heap.size_update]; exact yk (y2r ha)),Heap.get?_push_ne _ _ _ (by rw [Heap.size_update]; exact yk ha)]
  exact ho1
 have hkeep:∀b o,b≠a->s.heap.get? b=some o->(((s.heap.update a (Obj.mapSeq fun _=>#[])).push (seqObj "tuple" vs.toArray 0)).push (seqObj "list" #[] 0)).get? b=some o:=fun b o hb e=>by
  refine y6 _ (y6 _ ?_)
  rw [Heap.get?_update_ne _ _ _ _ hb]
  exact e
 show wpAny (model prog w) A _ P E {s with heap:=((s.heap.update a (Obj.mapSeq fun _=>#[])).push (seqObj "tuple" vs.toArray 0)).push (seqObj "list" #[] 0)}
 dsimp only
 have hsz:vs.toArray.size=vs.length:=by simp
 by_cases h2:vs.toArray.size < 2
 ·rw [if_pos h2,if_pos h2]
  refine yc (yo ?_)
  rw [StateT.run_pure]
  refine yc (yo ?_)
  dsimp only
  refine yc (seqEpoch_at ho6 rfl ?_)
  refine yc (listUpdate_at ho6 rfl ?_ (y05 _) (by rw [Array.size_map]; show(pairsOf vs).size<=_; rw [pairsOf_size]; exact Nat.le_succ_of_le hz))
  simp only[bne_self_eq_false,y0h,if_false]
  have e:(arrOf (SortSt.mk' general' (vs.toArray.zip vs.toArray) #[] 7 none)).map (·.2)=vs.toArray:=by
   show(vs.toArray.zip vs.toArray).map (·.2)=_
   apply Array.toList_inj.mp
   simp[List.map_snd_zip]
  rw [e]
  have z:=h (List.toArray (List.range vs.length)) (.of hr (by simp)) (fun i j hij hj=>by rw [hsz] at h2; omega)
  have ev:((List.toArray (List.range vs.length)).toList.map fun i=>vs.getD i Value.none)=vs:=by
   refine List.ext_getElem (by simp) fun i h1 h2=>?_
   simp[h2]
  rw [ev] at z
  exact yo z
 ·rw [if_neg h2,if_neg h2]
  rw [hsz] at h2
  obtain⟨kk,hK,hRi⟩:=hR (by omega) _ hkeep
  refine yc (hK _ _ ?_)
  refine yc (y0l (kat_run (κ:=kk) (Q:=fun st' s'=>∃p:Array Nat,PermN r vs.length p/\Asc r p vs.length/\arrOf st'=p.map (kas_item (vs.toArray.zip vs.toArray))/\failedOf st'=none/\s' = {s with heap:=((s.heap.update a (Obj.mapSeq fun _=>#[])).push (seqObj "tuple" vs.toArray 0)).push (seqObj "list" #[] 0)})
   (G:=fun p s'=>PermN r vs.length p/\Asc r p vs.length/\s' = {s with heap:=((s.heap.update a (Obj.mapSeq fun _=>#[])).push (seqObj "tuple" vs.toArray 0)).push (seqObj "list" #[] 0)})
   rfl (by omega) h64 (fun p' st' s' a1 a2 a3 ⟨a4,a5,a6⟩=>⟨p',a4,a5,a2,a3,a6⟩) (zvz (r:=r) (fun i j C hi hj hc=>hRi i j hi hj _ _ hc) _ (q4e hr (by omega) fun p P1 P2=>⟨P1,P2,rfl⟩))) ?_ fun _ _ e=>e)
  rintro⟨⟨⟩,st'⟩ s' ⟨p,P1,P2,har,hf,rfl⟩
  dsimp only at har hf |-
  have e:=kat_snds (ks:=vs) (vs:=vs) rfl har
  refine yc (seqEpoch_at ho6 rfl ?_)
  refine yc (listUpdate_at ho6 rfl ?_ (y05 _) (by rw [e,yy,y8,y1l,P1.sz]; exact Nat.le_succ_of_le hz))
  rw [hf]
  simp only[bne_self_eq_false,y0h,if_false,e]
  exact yo (h p P1 P2)
end
theorem zkd:∀x:List Int,ltI x x=false
 | []=>rfl
 | a::x=>by rw [ltI,if_pos rfl]; exact zkd x
section
variable{prog:yf}{w:yr}{A:y01}{E:y4->y9->Prop}{s:y9}{S:Addr}
end
def adV:V->Addr
 | .ref a=>a
 | _=>0
def RisP(ps:List (List Int)):Prop:=(∀p∈ps,p≠[])/\ps.Pairwise (fun p q=>ltI p q=true)/\ps.length<=60
section
variable{X:Cx}{pins:List (Addr×Obj)}{σ : St}{H:Hp}{s:y9}
theorem zmp(I:Inv X pins σ H s):∀{ps:List (List Int)} {vs:List V},DtA H vs (ps.map pathD)->vs=(vs.map adV).map V.ref/\vs.length=ps.length/\∀j,j < (vs.map adV).length->IsTupleKey (intKind X.prog X.w) s.heap (ps.getD j []) ((vs.map adV).getD j 0)
 | [],_,.nil=>⟨rfl,rfl,fun j h=>absurd h (by simp)⟩
 | p::ps,_,.cons d t=>by
  obtain⟨e,l,f⟩:=zmp I t
  cases d with
  | @tup a xs ds e1 ra=>
   obtain⟨b,eb,kb⟩:=I.path (v:=.ref a) (p:=p) (Dt.tup e1 ra) (show RelV (.ref a) (.ref a) from rfl)
   cases eb
   refine⟨by rw [yn,yn,<- e]; rfl,by simp[l],fun j hj=>?_⟩
   cases j with
   | zero=>exact kb
   | succ j=>exact f j (by simpa using hj)
theorem RisP.lt{ps:List (List Int)}(R:RisP ps){i j:Nat}(hi:i < ps.length)(hj:j < ps.length):ltI (ps.getD i []) (ps.getD j [])=decide (i < j):=by
 have up:∀i j,i < j->j < ps.length->ltI (ps.getD i []) (ps.getD j [])=true:=fun i j hij hj=>by
  rw [yj,yj,yb (by omega),yb hj]
  exact List.pairwise_iff_getElem.mp R.2.1 i j (by omega) hj hij
 rcases Nat.lt_trichotomy i j with z | rfl | z
 ·rw [up i j z hj,decide_eq_true z]
 ·rw [zkd,decide_eq_false (y0i _)]
 ·rw [zu7 (up j i z hi),decide_eq_false (by omega)]
theorem RisP.inj{ps:List (List Int)}(R:RisP ps){i j:Nat}(hi:i < ps.length)(hj:j < ps.length)(e:ps.getD i []=ps.getD j []):i=j:=by
 have a:=R.lt hi hj
 have b:=R.lt hj hi
 rw [e,zkd] at a b
 have a:=of_decide_eq_false a.symm
 have b:=of_decide_eq_false b.symm
 omega
end
end L2
namespace L2
open PySem PySem.Spec PyProof.Rows PySem.W
section
variable{prog:yf}{w:yr}{A:y01}{E:y4->y9->Prop}{s:y9}
end
def zr4(K:y3)(ta:TA)(tc:TE):TE:=fun σ H Q=>ta σ H fun vs H1=>tc σ H1 fun y H2=>∃(a:Addr) (ns:List Int) (d:Int),vs=[.ref a]/\y=.int d/\SqL K H2 a (ns.map V.int)/\∀M,((ns=[]/\M=d)\/(M∈ns/\∀a∈ns,a<=M))->Q (.int M) H2
def q1t(K:y3):List V->Hp->VK->Prop:=fun xs H Q=>∃(a:Addr) (ns:List Int),xs=[.ref a]/\SqL K H a (ns.map V.int)/\Q (.int ns.sum) H
section
variable{X:Cx}
end
theorem zsa{K:y3}{a:Addr}{xs:List V}{g:TG}{tt:TT}{te:TE}{Q:VK}{σ : St}{H:Hp}(Pv:Nat->List V->St->Hp->Prop)(h0:Pv 0 [] σ H)(hz:xs.length < sizeLine)(hy:∀i ys σ H,Pv i ys σ H->ys.length<=i)(hl:∀i ys σ H,i<=xs.length->Pv i ys σ H->SqT K H a xs)
  (hs:∀i ys x σ H T,xs[i]?=some x->Pv i ys σ H->H T=none->g (.ref T) σ (upd H T (.tup [.int i,x])) fun σ2 H2=>tt σ2 H2 fun b H3=>if b=true then te σ2 H3 (fun v H4=>Pv (i+1) (ys++[v]) σ2 H4) else Pv (i+1) ys σ2 H3)
  (hd:∀ys σ H,Pv xs.length ys σ H->∀p,H p=none->Q (.ref p) (upd H p (.lst ys))):zb8 (zyz K a) g tt te Q σ H:=by
 refine⟨fun i m ys σ H=>m=xs.length - i/\i<=xs.length/\Pv i ys σ H,⟨xs.length,by simp,y05 _,h0⟩,?_⟩
 rintro i m ys σ H ⟨rfl,hi,p⟩
 have q:=hl i ys σ H hi p
 have hyl:=hy i ys σ H p
 by_cases hlt:i < xs.length
 ·refine .inr ⟨⟨xs,xs[i],q,by simp[hlt]⟩,by omega,Pv (i+1),fun ys' σ' H' p'=>⟨xs.length - (i+1),by omega,rfl,hlt,p'⟩,fun x H' y=>?_⟩
  obtain⟨T,v,rfl,hT,rfl,y⟩:=y
  exact hs i ys v σ H T (y xs q) p hT
 ·have e:i=xs.length:=by omega
  subst e
  exact .inl ⟨⟨xs,q,yg _⟩,by omega,hd ys σ H p⟩
theorem z4u{K:y3}{ta:TA}{g:TG}{tt:TT}{te:TE}{mp:List (Option Nat)}{σ : St}{H:Hp}{Q:VK}:zjg (zuq K ta) g tt te mp σ H Q=ta σ H fun vs H1=>∃a,vs=[.ref a]/\(∃xs,SqT K H1 a xs)/\zb8 (zyz K a) g tt te Q (subσ mp σ) H1:=rfl
end L2
namespace L2
open PySem PySem.Spec PyProof.Rows PySem.W
def ze9:V->List V->Hp->VK->Prop:=fun x vs H Q=>∃(l:Addr) (ss:List Str) (y:Str),x=.ref l/\vs=[.str y]/\H l=some (.lst (ss.map V.str))/\Q (.int (ss.count y:Nat)) H
section
variable{X:Cx}
theorem Inv.grow{pins:List (Addr×Obj)}{σ : St}{H H':Hp}{s:y9}{h':Heap}{t':Nat}(I:Inv X pins σ H s)(k:∀b u,s.heap.get? b=some u->h'.get? b=some u)(sm:Same H H')(old:∀b,b < s.heap.objs.size->H b=none->H' b=none)
  (new:∀b u,H b=none->H' b=some u->ObjOk X.prog X.w H' h' b u):Inv X pins σ H' {s with heap:=h',toks:=t'}:=by
 refine I.un ⟨fun b u q _ _ _=>k b u q,fun b u q _ _ _=>⟨u.slots,k b u q⟩,fun b u q n _=>old b (ye q) n,fun b u q _=>⟨u,k b u q⟩,fun b xs q=>sm _ _ q,fun b u xs q=>sm _ _ q,fun b ps q=>⟨#[],by rw [sm _ _ q]; simp⟩⟩ fun b u e=>?_
 cases hb:H b with
 | none=>exact new b u hb e
 | some u'=>
  have:=sm _ _ hb
  rw [e] at this
  cases this
  exact(I.hok b u hb).stay (fun c v _ q=>k c v q) (fun c q=>sm _ _ q) fun c xs q=>sm _ _ q
end
def zc0(v d:Addr):HO:=.ext fun h=>h.IsItemsView v d
def zev:V->List V->Hp->VK->Prop:=fun x vs H Q=>∃(d:Addr) (kvs:List (Key×V)),x=.ref d/\vs=[]/\H d=some (.dK kvs)/\∀p,H p=none->Q (.ref p) (upd H p (zc0 p d))
def q2d(p:Str×Int):Dm:=.tup [.str p.1,.int p.2]
def zrf:List V->Hp->VK->Prop:=fun xs H Q=>∃(v d:Addr) (kvs:List (Str×Int)) (ρ : Str->Nat),xs=[.ref v]/\H v=some (zc0 v d)/\H d=some (.dK (kvs.map fun p=>(Sum.inr p.1,V.int p.2)))/\kvs.length < 64/\
 (∀p∈kvs,∀q∈kvs,decide (p.1.cps.toList < q.1.cps.toList)=decide (ρ p.1 < ρ q.1)/\(ρ p.1 = ρ q.1->p.1=q.1))/\
 ∀(l:Addr) (H':Hp) (ws:List V) (ms:List (Str×Int)),Same H H'->H l=none->H' l=some (.lst ws)->DtA H' ws (ms.map q2d)->ms.Perm kvs->ms.Pairwise (fun p q=>ρ p.1 < ρ q.1)->Q (.ref l) H'
section
variable{prog:yf}{w:yr}{A:y01}{E:y4->y9->Prop}{s:y9}
theorem q0b{x y:Str}{a c:Addr}{ox oy:Obj}{xs ys:Array y4}{n m:Nat}{t u:Tok}{d e:y4}{Q:Bool->y9->Prop}(ha:s.heap.get? a=some ox)(da:ox.data=.seq xs n)(hc:s.heap.get? c=some oy)(dc:oy.data=.seq ys m)
  (ex:xs.toList=[.str x t,d]) (ey:ys.toList=[.str y u,e]) (hne:x≠y) (h:Q (decide (x.cps.toList < y.cps.toList)) s):wpAny (model prog w) A (keyLt' (tuples' true) (.ref a) (.ref c)) Q E s:=by
 refine kat_lt ha da hc dc ?_
 rw [ex,ey,y14]
 refine kat_cons (wpAny_eqBool_str ?_)
 rw [decide_eq_false hne]
 exact kat_no (oneLt_str h)
end
section
variable{prog:yf}{w:yr}{A:y01}{E:y4->y9->Prop}{s:y9}{K:Type} [DecidableEq K] {knd:PySem.KeyKind prog w K}
theorem zkg{r d:Addr}{kvs:List (K×y4)}{ep:Nat}{Q:List y4->y9->Prop}(hh:A.handled=none)(hv:s.heap.IsItemsView r d)(hm:s.heap.DictAt knd d kvs ep)(hn:kvs.length<=sizeLine)
  (q:∀(h':Heap) (tk:Nat) (as:List Addr),s.heap.objs.size<=h'.objs.size->(∀b o,s.heap.get? b=some o->h'.get? b=some o)->as.length=kvs.length->KdxG knd kvs s.heap.objs.size h' as->Q (as.map Value.ref) {s with heap:=h',toks:=tk}) :
  wpAny (model prog w) A (collect (.ref r)) Q E s:=by
 have hr:r < s.heap.objs.size:=let ⟨_,ho,_⟩:=hv; ye ho
 have hd:d < s.heap.objs.size:=hm.lt_size
 unfold collect
 refine yc (wpAny_runValue (y1n PySem.F.entry_proto_collect ?_))
 rw [y13 PySem.F.plain_proto_collect]
 refine yc (wpAny_newList (yo ⟨y2q PySem.F.plain_list_iadd _,y1n PySem.F.entry_list_iadd ?_⟩))
 rw [y13 PySem.F.plain_list_iadd]
 have e0:(s.heap.push (seqObj "list" #[] 0)).get? s.heap.objs.size=some (seqObj "list" #[] 0):=yi _ rfl
 show wpAny _ _ (Builtin.List.listExtendWith (.ref s.heap.objs.size) (.ref r) (.ref s.heap.objs.size)) _ _ {s with heap:=s.heap.push (seqObj "list" #[] 0)}
 have fin:∀(v:Result) (s':y9),(∃(h':Heap) (tk:Nat) (acc:Array y4) (c:Nat) (as:List Addr),v=.ok (.ret (.ref s.heap.objs.size))/\s' = {s with heap:=h',toks:=tk}/\h'.get? s.heap.objs.size=some {cls:=.type "list",dict:=none,data:=.seq acc c,slots:=#[]}/\acc.toList=as.map Value.ref/\Q (as.map Value.ref) {s with heap:=h',toks:=tk})->
   (match v with | .ok (.ret v)=>wpAny (model prog w) A (match v with | .ref a=>(do match (<- load a).data with | .seq xs _=>pure xs.toList | _=>unsupported "internal:collect") | _=>unsupported "internal:collect") Q E s' | .ok _=>False | .error e=>E e s'):=by
  rintro v s' ⟨h',tk,acc,c,as,rfl,rfl,hS,hacc,hq⟩
  refine yc (wpAny_load hS (yo ?_))
  rw [hacc]
  exact hq
 refine y0l (kdx_extend (A:=A) (s:={s with heap:=s.heap.push (seqObj "list" #[] 0)}) (knd:=knd) (kvs:=kvs) (ep:=ep)
  (R:=fun v s'=>∃(h':Heap) (tk:Nat) (acc:Array y4) (c:Nat) (as:List Addr),v=.ok (.ret (.ref s.heap.objs.size))/\s' = {s with heap:=h',toks:=tk}/\h'.get? s.heap.objs.size=some {cls:=.type "list",dict:=none,data:=.seq acc c,slots:=#[]}/\acc.toList=as.map Value.ref/\Q (as.map Value.ref) {s with heap:=h',toks:=tk})
  hh (let ⟨o,ho,x⟩:=hv; ⟨o,y6 _ ho,x⟩) (hm.push _) s.heap.objs.size (y0k hr) (yk hd) (.ref s.heap.objs.size) 0 e0 (fun h' tk acc c as hk hS hl g hacc=>⟨h',tk,acc,c,as,rfl,rfl,hS,hacc,?_⟩) hn) (fun f s' z=>?_) (fun e s' z=>fin _ _ z)
 ·refine q h' tk as (y18 (ye hS)) (fun b o e=>hk b o (yk (ye e)) (y6 _ e)) hl (g.low ?_)
  show s.heap.objs.size<=(s.heap.push _).objs.size
  rw [y0o]
  exact Nat.le_succ _
 ·cases f with
  | done f=>exact fin _ _ z
  | again c=>exact⟨z.1,y1j z.2 fun r s2 y=>fin r s2 y⟩
end
def zsh:List Addr->List (List V)->Hp->Hp
 | a::as,x::xs,H=>upd (zsh as xs H) a (.tup x)
 | _,_,H=>H
theorem z7y:∀{as:List Addr} {xs:List (List V)} {H:Hp} {b:Addr},b∉as->zsh as xs H b=H b
 | [],_,_,_,_=>rfl
 | a::as,[],_,_,_=>rfl
 | a::as,x::xs,H,b,h=>by
  rw [zsh,z09 (show b≠a from fun z=>h (by rw [z]; exact y0f))]
  exact z7y fun z=>h (.tail _ z)
theorem zje:∀{as:List Addr} {xs:List (List V)} {H:Hp} {j:Nat} {a:Addr} {x:List V},as.Pairwise (· < ·)->as[j]?=some a->xs[j]?=some x->zsh as xs H a=some (.tup x)
 | [],_,_,_,_,_,_,h,_=>by simp at h
 | a::as,[],_,_,_,_,_,_,h=>by simp at h
 | a::as,x::xs,H,0,b,y,_,h1,h2=>by
  have e1:a=b:=by simpa using h1
  have e2:x=y:=by simpa using h2
  subst e1 e2
  exact z00
 | a::as,x::xs,H,j+1,b,y,hp,h1,h2=>by
  obtain⟨p1,p2⟩:=List.pairwise_cons.mp hp
  have h1':as[j]?=some b:=by simpa using h1
  have hlt:=p1 b (yv h1')
  rw [zsh,z09 (y0k hlt)]
  exact zje p2 h1' (by simpa using h2)
theorem zsp:∀{as:List Addr} {xs:List (List V)} {H:Hp} {b:Addr} {u:HO},as.length=xs.length->as.Pairwise (· < ·)->b∈as->zsh as xs H b=some u->∃(j:Nat) (x:List V),as[j]?=some b/\xs[j]?=some x/\u=.tup x:=by
 intro as xs H b u hl hp hb e
 obtain⟨j,hj,ej⟩:=y0y hb
 have h1:as[j]?=some b:=by rw [yb hj,ej]
 have h2:xs[j]?=some xs[j]:=yb (by omega)
 have z:=zje (H:=H) hp h1 h2
 rw [e] at z
 cases z
 exact⟨j,_,h1,h2,rfl⟩
section
variable{X:Cx}
theorem zx6:MtM X "dict.items" zev:=by
 intro pins s σ H x vs v us Q I rx rv h
 obtain⟨d,kvs,rfl,rfl,hH,q⟩:=h
 cases rx
 cases rv
 obtain⟨z,hd,xs,rel,dd⟩:=q11 I.hok hH
 have hT:s.TypeIs (.ref d) "dict":=dd.typeIs
 refine call_meetsIn F.slot_dict_items hT F.entry_dict_items (F.args_dict_items_1 _) (meets_dict_items (z1d X.prog X.w) d hd) ⟨⟨_,dd⟩,?_⟩
 have e:=yi s.heap (o:={cls:=.type "dict_items",data:=.fields #[.ref d]}) rfl
 refine⟨.ref s.heap.objs.size,_,I.laid (t':=s.toks) (fun b u q=>y6 _ q) (yg _) (show ObjOk X.prog X.w _ _ _ (zc0 s.heap.objs.size d) from⟨⟨_,e,rfl,rfl⟩,⟨_,e⟩,fun h1 h2 ⟨o,e1,r⟩ y=>⟨o,y _ e1,r⟩⟩),rfl,q _ (I.hok.fresh (yg _))⟩
theorem zyq{kvs:List (Str×Int)}:∀{vs:List (Key×y4)},KV (kvs.map fun p=>((Sum.inr p.1:Key),V.int p.2)) vs->∀(j:Nat) (k:Key) (x:y4),vs[j]?=some (k,x)->∃p t,kvs[j]?=some p/\k=Sum.inr p.1/\x=.int p.2 t:=by
 induction kvs with
 | nil=>
  intro vs rel j k x e
  cases rel
  simp at e
 | cons p kvs ih=>
  intro vs rel j k x e
  cases rel with
  | cons rr rt=>
   cases j with
   | zero=>
    obtain⟨h1,t,h2⟩:=rr
    simp only[y0p,y1h] at e
    subst e
    exact⟨p,t,rfl,h1.symm,h2⟩
   | succ j=>exact ih rt j k x (by simpa using e)
theorem zkr{α : Type}{H:Hp}{f : α->V}{g : α->Dm}:∀{l:List α},(∀i∈l,Dt H (f i) (g i))->DtA H (l.map f) (l.map g)
 | [],_=>.nil
 | i::l,h=>.cons (h i (.head _)) (zkr fun j hj=>h j (.tail _ hj))
theorem zg8{α : Type}{f : α->V}{g : α->y4}:∀{l:List α},(∀i∈l,RelV (f i) (g i))->Vals (l.map f) (l.map g)
 | [],_=>.nil
 | i::l,h=>.cons (h i (.head _)) (zg8 fun j hj=>h j (.tail _ hj))
theorem zfx(hc:X.calm=true):CallR X (.builtin "sorted") zrf:=by
 intro pins s σ H xs us Q I r h
 obtain⟨v,d,kvs,ρ,rfl,hv,hd,h64,hρ,q⟩:=h
 obtain⟨u,rfl,r1⟩:=r.one
 cases r1
 have view:s.heap.IsItemsView v d:=(show ObjOk X.prog X.w H s.heap v (zc0 v d) from I.hok v _ hv).1
 obtain⟨zl,hsm,xs,rel,dd⟩:=q11 I.hok hd
 obtain⟨ep,da⟩:=dd.dictAt
 have hxl:xs.length=kvs.length:=by have:=rel.length; rw [y8] at this; exact this.symm
 refine Calls.call_function_entry kind_sorted plain_sorted entry_sorted (args_sorted1 _) ?_
 unfold Builtin.«sorted»
 refine yc (m:=checkCount "sorted" 1 1 _) (yo (yc (zkg (A:=X.A.in1) (by simpa using I.ok.hd hc) view da (zc6 (by omega)) fun h1 tk as hsz k1 hal g=>?_)))
 have hal':as.length=kvs.length:=by omega
 have hpair:∀j a,as[j]?=some a->∃(p:Str×Int) (t u:Tok),kvs[j]?=some p/\h1.get? a=some {cls:=.type "tuple",data:=.seq #[.str p.1 t,.int p.2 u]}:=fun j a ha=>by
  obtain⟨key,k,x,e1,e2,e3⟩:=g.pairs j a ha
  obtain⟨p,t,e4,rfl,rfl⟩:=zyq rel j k x e1
  rcases z2m (show zot (Sum.inr p.1) key=true from e2) with⟨i,t',e5,rfl⟩ | ⟨y,t',e5,rfl⟩
  ·cases e5
  ·cases e5
   exact⟨p,t',t,e4,e3⟩
 have hnd:(kvs.map (·.1)).Nodup:=by
  have z:=da.nodup
  have e:xs.map (·.1)=kvs.map fun p=>(Sum.inr p.1:Key):=by
   refine List.ext_getElem? fun j=>?_
   rw [y00,y00]
   cases ej:xs[j]? with
   | none=>
    have:kvs[j]?=none:=by rw [List.getElem?_eq_none_iff] at ej |-; omega
    rw [this]; rfl
   | some kx=>
    obtain⟨k,x⟩:=kx
    obtain⟨p,t,e4,e5,_⟩:=zyq rel j k x ej
    rw [e4,e5]; rfl
  rw [e] at z
  exact List.pairwise_map.mpr ((List.pairwise_map.mp z).imp fun h e=>h (by rw [e]))
 have hD:∀i,i < kvs.length->kvs[i]?=some (kvs.getD i (⟨#[]⟩,0)):=fun i hi=>by
  rw [yj,yb hi]; rfl
 have hA:∀i,i < kvs.length->as[i]?=some (as.getD i 0):=fun i hi=>by
  rw [yj,yb (by omega)]; rfl
 have hmem:∀i,i < kvs.length->kvs.getD i (⟨#[]⟩,0)∈kvs:=fun i hi=>yv (hD i hi)
 have hat:∀i,i < kvs.length->∃t u,h1.get? (as.getD i 0)=some {cls:=.type "tuple",data:=.seq #[.str (kvs.getD i (⟨#[]⟩,0)).1 t,.int (kvs.getD i (⟨#[]⟩,0)).2 u]}:=fun i hi=>by
  obtain⟨p,t,u,e1,e2⟩:=hpair i _ (hA i hi)
  rw [hD i hi] at e1
  cases e1
  exact⟨t,u,e2⟩
 have hvl:(as.map Value.ref).length=kvs.length:=by rw [y8,hal']
 have hvd:∀i,i < kvs.length->(as.map Value.ref).getD i .none=.ref (as.getD i 0):=fun i hi=>by
  rw [yj,y00,hA i hi]; rfl
 have hne:∀i j,i < kvs.length->j < kvs.length->(kvs.getD i (⟨#[]⟩,0)).1=(kvs.getD j (⟨#[]⟩,0)).1->i=j:=fun i j hi hj e=>by
  have hi':i < (kvs.map (·.1)).length:=by rw [y8]; exact hi
  have hj':j < (kvs.map (·.1)).length:=by rw [y8]; exact hj
  refine(List.getElem_inj (h₀:=hi') (h₁:=hj') hnd).mp ?_
  rw [y2d,y2d]
  have a1:=hD i hi
  have a2:=hD j hj
  rw [yb hi] at a1
  rw [yb hj] at a2
  rw [y04 a1,y04 a2]
  exact e
 refine yc (wpAny_newList ?_ (zc6 (by omega)))
 have eL:(h1.push (seqObj "list" (as.map Value.ref).toArray 0)).get? h1.objs.size=some (seqObj "list" (as.map Value.ref).toArray 0):=yi _ rfl
 refine yc (y22 (y0m slot_list_sort ⟨_,eL,rfl⟩ entry_list_sort (zap (r:=fun i=>ρ (kvs.getD i (⟨#[]⟩,0)).1) eL (by omega) (fun i j hi hj e=>hne i j (by omega) (by omega) ((hρ _ (hmem i (by omega)) _ (hmem j (by omega))).2 e)) (fun h2 h' kp=>?_) fun p P1 P2=>⟨_,rfl,?_⟩) (args_list_sort _)))
 ·have keep:∀i,i < kvs.length->∃t u,h'.get? (as.getD i 0)=some {cls:=.type "tuple",data:=.seq #[.str (kvs.getD i (⟨#[]⟩,0)).1 t,.int (kvs.getD i (⟨#[]⟩,0)).2 u]}:=fun i hi=>by
   obtain⟨t,u,e⟩:=hat i hi
   exact⟨t,u,kp _ _ (yk (ye e)) (y6 _ e)⟩
  have tups:∀(l:List Nat),(∀i∈l,i < kvs.length)->∃fs,KatTups h' (l.map fun i=>(as.map Value.ref).getD i .none) fs/\fs.length=l.length/\∀f∈fs,∃x t,f=.str x t:=by
   intro l
   induction l with
   | nil=>intro _; exact⟨[],.nil,rfl,fun f hf=>absurd hf (by simp)⟩
   | cons i l ih=>
    intro hl
    obtain⟨fs,k,lf,ff⟩:=ih fun j hj=>hl j (.tail _ hj)
    obtain⟨t,u,e⟩:=keep i (hl i (.head _))
    refine⟨.str (kvs.getD i (⟨#[]⟩,0)).1 t::fs,?_,by simp[lf],fun f hf=>?_⟩
    ·rw [yn,hvd i (hl i (.head _))]
     exact .cons e rfl rfl rfl k
    ·rcases List.mem_cons.mp hf with rfl | hf
     ·exact⟨_,_,rfl⟩
     ·exact ff f hf
  obtain⟨fs,kt,fl,ff⟩:=tups (List.range kvs.length) fun i hi=>List.mem_range.mp hi
  have ev:((List.range kvs.length).map fun i=>(as.map Value.ref).getD i .none)=as.map Value.ref:=by
   refine List.ext_getElem (by simp[hal']) fun i h1 h2=>?_
   simp at h2
   simp[h2]
  rw [ev] at kt
  rw [y2o] at fl
  refine⟨tuples' true,fun E Q hQ=>kat_kind (T:=.type "str") kt (by omega) (fun v hv=>?_) rfl hQ,fun i j hi hj E Q hQ=>?_⟩
  ·obtain⟨x,t,rfl⟩:=ff v hv
   exact Looks.of_pure rfl
  ·rw [hvl] at hi hj
   rw [hvd i hi,hvd j hj]
   obtain⟨t1,u1,e1⟩:=keep i hi
   obtain⟨t2,u2,e2⟩:=keep j hj
   by_cases eij:i=j
   ·subst eij
    rw [decide_eq_false (y0i _)] at hQ
    rw [e1] at e2
    refine kat_lt e1 rfl e1 rfl ?_
    refine kat_cons (wpAny_eqBool_str ?_)
    rw [decide_eq_true rfl]
    refine kat_yes (kat_cons (wpAny_eqBool_int ?_))
    rw [show((kvs.getD i (⟨#[]⟩,0)).2 == (kvs.getD i (⟨#[]⟩,0)).2)=true from beq_self_eq_true _]
    refine kat_yes (kat_nil ?_)
    simpa using hQ
   ·refine q0b e1 rfl e2 rfl rfl rfl (fun z=>eij (hne i j hi hj z)) ?_
    rw [(hρ _ (hmem i hi) _ (hmem j hj)).1]
    exact hQ
 ·refine yo ⟨_,rfl,?_⟩
  rw [hvl] at P1 P2
  obtain⟨n,en⟩:=sortedHeap_at (out:=(p.toList.map fun i=>(as.map Value.ref).getD i Value.none).toArray) eL
  have hin:∀i∈p.toList,i < kvs.length:=fun i hi=>List.mem_range.mp (P1.pm.mem_iff.mp hi)
  have oldF:∀b u,h1.get? b=some u->(sortedHeap (h1.push (seqObj "list" (as.map Value.ref).toArray 0)) h1.objs.size (as.map Value.ref) (p.toList.map fun i=>(as.map Value.ref).getD i Value.none).toArray).get? b=some u:=fun b u hu=>by
   have lb:=ye hu
   rw [sortedHeap_old (yk lb) (by rw [size_push']; exact y2r lb)]
   exact y6 _ hu
  have hup:∀a∈as,s.heap.objs.size<=a/\a < h1.objs.size:=fun a ha=>⟨y18 (g.above a ha),g.there ha⟩
  have nL:h1.objs.size∉as:=fun z=>absurd (hup _ z).2 (y0i _)
  have low:∀b,b < s.heap.objs.size->upd (zsh as (kvs.map fun p=>[V.str p.1,V.int p.2]) H) h1.objs.size (.lst (p.toList.map fun i=>V.ref (as.getD i 0))) b=H b:=fun b hb=>by
   rw [z09 (yk (yu hb hsz)),z7y fun z=>absurd (hup b z).1 (by omega)]
  have sm:Same H (upd (zsh as (kvs.map fun p=>[V.str p.1,V.int p.2]) H) h1.objs.size (.lst (p.toList.map fun i=>V.ref (as.getD i 0)))):=fun b u e=>by
   rw [low b (I.hok b u e).lt]; exact e
  have atT:∀i,i < kvs.length->upd (zsh as (kvs.map fun p=>[V.str p.1,V.int p.2]) H) h1.objs.size (.lst (p.toList.map fun i=>V.ref (as.getD i 0))) (as.getD i 0)=some (.tup [V.str (kvs.getD i (⟨#[]⟩,0)).1,V.int (kvs.getD i (⟨#[]⟩,0)).2]):=fun i hi=>by
   have ha:=hA i hi
   rw [z09 fun z=>nL (by rw [<- z]; exact yv ha)]
   exact zje g.rise ha (by rw [y00,hD i hi]; rfl)
  refine⟨.ref h1.objs.size,_,I.grow (t':=tk) (fun b u e=>oldF b u (k1 b u e)) sm (fun b hb e=>(low b hb).trans e) (fun b u e1 e2=>?_),rfl,q h1.objs.size _ _ (p.toList.map fun i=>kvs.getD i (⟨#[]⟩,0)) sm (I.hok.fresh hsz) z00 ?_ ?_ ?_⟩
  ·by_cases hb:b=h1.objs.size
   ·subst hb
    rw [z00] at e2
    cases e2
    refine⟨?_,(p.toList.map fun i=>(as.map Value.ref).getD i Value.none),n,zg8 fun i hi=>?_,by simpa [seqObj] using en⟩
    ·rw [y8,y1l,P1.sz]
     exact zc6 (by omega)
    ·rw [hvd i (hin i hi)]; rfl
   ·rw [z09 hb] at e2
    by_cases hba:b∈as
    ·obtain⟨j,x,ej,ex,rfl⟩:=zsp (by rw [y8]; exact hal') g.rise hba e2
     obtain⟨p',t,u,e4,e5⟩:=hpair j b ej
     rw [y00,e4] at ex
     cases ex
     exact⟨zpm,[.str p'.1 t,.int p'.2 u],.cons ⟨t,rfl⟩ (.cons ⟨u,rfl⟩ .nil),⟨_,oldF b _ e5,rfl,0,rfl⟩⟩
    ·rw [z7y hba,e1] at e2
     cases e2
  ·rw [y10]
   refine zkr fun i hi=>?_
   exact .tup (atT i (hin i hi)) (.cons (.str _) (.cons (.int _) .nil))
  ·have z:=P1.pm.map fun i=>kvs.getD i ((⟨#[]⟩:Str),(0:Int))
   refine z.trans (.of_eq ?_)
   refine List.ext_getElem (by simp) fun i h1 h2=>?_
   simp[h2]
  ·rw [List.pairwise_map,List.pairwise_iff_getElem]
   intro i j hi hj hij
   have hj':j < p.size:=by simpa using hj
   have z:=P2 i j hij (by rw [<- P1.sz]; exact hj')
   simpa [rk,Array.getD,hj',y0v hij hj'] using z
end
end L2
namespace L2
open PySem PySem.Spec PyProof.Rows PySem.W
theorem zmo:entryFor table "dict.update.loop" = some Builtin.«dict.update.loop»:=entryFor_of_tree (by kernel_rfl)
theorem zd3:plainId "dict.update.loop" = true:=by decide+kernel
theorem q4y{n:Nat}(h:n<=200000):n<=sizeLine:=y0b h (by decide)
theorem zma:typeLookup (.type "list") "keys" = pure none:=by rw [typeLookup_type,builtinLookup_eq_fast]; kernel_rfl
section
variable{prog:yf}{w:yr}{A:y01}{E:y4->y9->Prop}{s:y9}{a:Addr}
theorem q0i{its:Array y4}{n:Nat}{Q:Option y4->y9->Prop}(hh:A.handled=none) (hx:s.heap.get? a=some {cls:=.type "list",data:=.seq its n}) (q:∀h' tk,(∀b o,s.heap.get? b=some o->h'.get? b=some o)->Q none {s with heap:=h',toks:=tk}) :
  wpAny (model prog w) A (getAttr? (.ref a) "keys") Q E s:=by
 obtain⟨hp,g,d,tk,os⟩:=s
 have hT:Shared.TypeIs ⟨hp,g,d,tk,os⟩ (.ref a) "list":=⟨_,hx,rfl⟩
 have hT1:Shared.TypeIs ⟨hp,g,d,tk+1,os⟩ (.ref a) "list":=⟨_,hx,rfl⟩
 have f1:=sub_AttributeError
 have f3:=F.slot_list_getattribute.lookup
 have f4:=F.slot_list_getattribute.bind (.ref a)
 have f5:=am_list_getattr_none
 unfold getAttr? getAttrBy? getAttrBy
 repeat (any_goals (first | assumption | ((with_reducible show wpAny _ _ (call (Value.builtin "list.__getattribute__") _ _) _ _ _); refine call_meets F.slot_list_getattribute hT1 am_entry_list_getattribute (F.args_list_getattribute_2 _ _) (meets_getattribute_miss_list a its n #[] "keys" _ zma (by decide+kernel)) ⟨hx,hh,fun h' tk' e hx'=>?_⟩) | wp_step))
 obtain⟨t',u',he⟩:=hx'.there
 show wpAny _ _ (getattributeRaised _ _ _ _ _ _ _) _ _ _
 unfold getattributeRaised
 repeat (any_goals (first | assumption | wp_step))
 exact q _ _ fun b ob e=>hx'.keeps b ob e
theorem zch{h h':Heap}{D:Addr}{xs:List (List Key×Addr×y4)}(x:h.DictOfH (tupleKind (z1d prog w)) D xs)(kD:∀o,h.get? D=some o->h'.get? D=some o)(kk:∀y∈xs,(tupleKind (z1d prog w)).is h' y.1 y.2.1):h'.DictOfH (tupleKind (z1d prog w)) D xs:=by
 obtain⟨o,es,ep,e1,e2,e3,e4,_,e6⟩:=x
 exact⟨o,es,ep,kD o e1,e2,e3,e4,kk,e6⟩
theorem zdf{h h':Heap}{p:List Key}{a:Addr}(x:(tupleKind (z1d prog w)).is h p a)(k:∀o,h.get? a=some o->h'.get? a=some o):(tupleKind (z1d prog w)).is h' p a:=by
 obtain⟨o,i,n,e,r⟩:=x
 exact⟨o,i,n,k _ e,r⟩
theorem zri{a b:Addr}{v:y4}{o:Obj}{its:Array y4}{k:Nat}{Q:List y4->y9->Prop}(e:s.heap.get? a=some o) (c:o.cls=.type "tuple") (d:o.data=.seq its k) (hi:its.toList=[.ref b,v]) (q:Q [.ref b,v] s):wpAny (model prog w) A (Builtin.Dict.pairItems (.ref a)) Q E s:=by
 unfold Builtin.Dict.pairItems
 refine yc (wpAny_typeOf (T:="tuple") ⟨_,e,c⟩ ?_)
 rw [if_pos (by decide)]
 refine yc (wpAny_seqItems e d (yo ?_))
 show Q its.toList s
 rw [hi]
 exact q
end
structure Prw where
 r:Addr
 k:Addr
 x:V
 u:y4
instance:Inhabited Prw:=⟨⟨0,0,.non,.none⟩⟩
section
variable{X:Cx}{pins:List (Addr×Obj)}{σ : St}{H:Hp}{s:y9}
def q3x(X:Cx)(H:Hp)(h:Heap)(l:Rw2)(q:Prw):Prop:=H q.r=some (.tup [.ref q.k,q.x])/\H q.k=some (.tup (l.1.map V.int))/\Dt H q.x l.2/\RelV q.x q.u/\(∃o its k,h.get? q.r=some o/\o.cls=.type "tuple"/\o.data=.seq its k/\its.toList=[.ref q.k,q.u])/\(tupleKind (z1d X.prog X.w)).is h (l.1.map Sum.inl) q.k
theorem q56(I:Inv X pins σ H s):∀{l:List Rw2} {vs:List V} {us:List y4},DtA H vs (l.map q1s)->Vals vs us->∃qs:List Prw,us=qs.map (fun q=>Value.ref q.r)/\Paired (q3x X H s.heap) l qs
 | [],_,_,.nil,.nil=>⟨[],rfl,.nil⟩
 | r::l,_,_,.cons d t,.cons rr rt=>by
  obtain⟨qs,e,pq⟩:=q56 I t rt
  cases d with
  | tup e1 ra=>
   cases rr
   obtain⟨its,rv,⟨o,ho,hc,n,hd⟩,_⟩:=I.tuple (SqT.of e1)
   cases ra with
   | cons d1 ra=>
    cases ra with
    | cons d2 ra=>
     cases ra
     cases rv with
     | cons q1 rv=>
      cases rv with
      | cons q2 rv=>
       cases rv
       cases d1 with
       | tup e2 rb=>
        have eb:=z9e rb
        subst eb
        cases q1
        refine⟨⟨_,_,_,_⟩::qs,by rw [e]; rfl,.cons ⟨e1,e2,d2,q2,⟨o,_,n,ho,hc,hd,rfl⟩,?_⟩ pq⟩
        refine zj5 I.hok ?_
        rw [e2,y10]
        rfl
theorem zlw{α β : Type}{R : α->β->Prop}:∀{l:List α} {m:List β},Paired R l m->l.length=m.length/\∀(j:Nat) (a : α) (b : β),l[j]?=some a->m[j]?=some b->R a b
 | [],_,.nil=>⟨rfl,fun j a b h=>by simp at h⟩
 | x::l,_,.cons r t=>by
  obtain⟨h1,h2⟩:=zlw t
  refine⟨by simp[h1],fun j a b ha hb=>?_⟩
  cases j with
  | zero=>
   have e1:=y04 ha
   have e2:=y04 hb
   subst e1 e2
   exact r
  | succ j=>exact h2 j a b (by simpa using ha) (by simpa using hb)
end
def zgc(td:TE):TE:=fun σ H Q=>td σ H fun x H1=>zev x [] H1 Q
theorem zwq{X:Cx}{o:Expr}{apos cpos:Pos}{td:TE}(ho:PE X o td) (hbase:attributeBase o "items" X.env (eval o X.env)=eval o X.env:=by rfl)
  (hfew:((backTo cpos (starEach [] X.env)).all (fun x=>!x.1) && (backToKw cpos (keywordEach [] X.env)).all (fun x=>x.1.isSome)
   && decide (([]:List Expr).length+([]:List Keyword).length+(if([]:List Keyword).isEmpty then 0 else 1) < 30))=true:=by rfl)
  (hline:(apos.endLine == cpos.line)=true:=by rfl):PE X (.Call (.Attribute o "items" apos) [] [] cpos) (zgc td):=by
 refine⟨?_⟩
 intro pins s σ H Q I h
 refine wpAny_Call_method hbase hfew hline PySem.F.plainAttrs_dict PySem.F.slot_dict_items PySem.F.type_dict_items (thn (ho pins s σ H _ I h) fun u s1 ⟨x,H1,I1,rx,q1⟩=>?_)
 obtain⟨d,kvs,rfl,_,hH,q⟩:=q1
 obtain rfl:u=Value.ref d:=rx
 obtain⟨t1,t2,_⟩:=zun I1 (.inl ⟨kvs,.inl hH⟩)
 refine⟨t1,t2,?_⟩
 refine y2l rfl (PyProof.Rows.evalArgs_nil3 ?_)
 exact zx6 pins s1 σ H1 (.ref d) [] (.ref d) [] Q I1 rfl .nil ⟨d,kvs,rfl,rfl,hH,q⟩
def zr3(i j k:Nat)(ta:TA):TS:=fun D σ H=>ta σ H fun vs H1=>∃u v w,vs=[u,v,w]/\D.nx (((σ.set i (some u)).set j (some v)).set k (some w)) H1
end L2
namespace L2
open PySem PySem.Spec PyProof.Rows
def zb6(c:Addr)(q:Str):HO:=.ext fun h=>h.CodeRec (.ref c) q
structure LamD where
 qual:Str
 params:Arguments
 body:Expr
 scope:Scope
def zq8(D:LamD)(cl:List (Str×Addr))(f c':Addr):HO:=.ext fun h=>∃pm ctv,h.get? f=some (PySem.W.kla_obj "<lambda>" D.qual D.params D.body D.scope cl pm c' ctv)
def q41(P:Addr)(pos:Pos)(D:LamD)(cl:List (Str×Addr)):TE:=fun σ H Q=>∃ps,H P=some (.tbl ps)/\TriplesOk ps.toList/\
  ((codeAmong pos ps.toList=none/\∀c' f,H c'=none->H f=none->c'≠f->Q (.ref f) (upd (upd (upd H P (.tbl (ps ++ #[rawInt pos.line,rawInt pos.col,.ref c']))) c' (zb6 c' D.qual)) f (zq8 D cl f c')))\/
   (∃c',codeAmong pos ps.toList=some (.ref c')/\H c'=some (zb6 c' D.qual)/\∀f,H f=none->Q (.ref f) (upd H f (zq8 D cl f c'))))
section
variable{X:Cx}
theorem zyl{params:Arguments}{body:Expr}{scope:Scope}{pos:Pos}{c P:Addr}{cl:List (Str×Addr)}(hdef:defaultsOf params X.env=([],[]))(hcl:closureFor scope X.env=pure cl)(hcode:X.env.code=.ref c)(C:PySem.W.CodeHd X.base c P)(hB:X.base.BuiltinsAt X.mg P)(hgP:mainGlobals≠P) :
  PE X (.Lambda params body scope pos) (q41 P pos ⟨X.env.qual ++ "<lambda>",params,body,scope⟩ cl):=by
 refine⟨?_⟩
 intro pins s σ H Q I h
 obtain⟨ps,hP,ht,h⟩:=h
 have C':PySem.W.CodeHd s.heap c P:=C.keeps I.bk
 have hb:s.heap.BuiltinsAt X.mg P:=by
  obtain⟨bm,ob,a1,a2,a3,a4,a5,a6⟩:=hB
  exact⟨bm,ob,a1,a2,a3,a4,I.bk _ _ a5,a6⟩
 have hg:s.heap.Ns mainGlobals X.mg:=I.mod.glob.keeps I.bk
 have hPo:s.heap.get? P=some (PySem.W.tabObj ps):=I.hok P _ hP
 refine PySem.W.kla_eval hdef ?_
 rcases h with⟨hnf,h⟩ | ⟨c',hf,hc',h⟩
 ·refine PySem.W.kla_makeFunction hcl I.ok.glob hg hcode C' hPo ht hnf hgP hb fun c' ctv h' tk hx hge hlt hrec htb=>?_
  have hcn:H c'=none:=I.hok.fresh hge
  have hsz:s.heap.objs.size<=h'.objs.size:=y18 (y0w hge hlt)
  have hfn:H h'.objs.size=none:=I.hok.fresh hsz
  have hne:c'≠h'.objs.size:=yk hlt
  have hPc:P≠c':=z0d hP hcn
  have hPf:P≠h'.objs.size:=z0d hP hfn
  have q:=h c' h'.objs.size hcn hfn hne
  generalize hH:upd (upd (upd H P (.tbl (ps ++ #[rawInt pos.line,rawInt pos.col,.ref c']))) c' (zb6 c' (X.env.qual ++ "<lambda>"))) h'.objs.size (zq8 ⟨X.env.qual ++ "<lambda>",params,body,scope⟩ cl h'.objs.size c')=H' at q
  have far:∀b,b≠P->b≠c'->b≠h'.objs.size->H' b=H b:=fun b h1 h2 h3=>by
   rw [<- hH,z09 h3,z09 h2,z09 h1]
  have atP:H' P=some (.tbl (ps ++ #[rawInt pos.line,rawInt pos.col,.ref c'])):=by rw [<- hH,z09 hPf,z09 hPc,z00]
  have old:∀b u,H b=some u->b≠P->H' b=some u:=fun b u e n=>(far b n (z0d e hcn) (z0d e hfn)).trans e
  have kp:∀b o,b≠P->s.heap.get? b=some o->(h'.push (PySem.W.kla_obj "<lambda>" (X.env.qual ++ "<lambda>") params body scope cl ((X.mg "__name__").getD .none) c' ctv)).get? b=some o:=fun b o n e=>y6 _ (hx b o n e)
  have nP:∀b,H b=none->b≠P:=fun b e z=>by rw [z,hP] at e; cases e
  refine⟨.ref h'.objs.size,H',I.un (t':=tk) ⟨fun b o e n _ _=>kp b o (nP b n) e,fun b o e n _ _=>⟨o.slots,kp b o (nP b n) e⟩,fun b o e n _=>?_,fun b o e _=>?_,fun b xs e=>old b _ e fun z=>(by rw [z,hP] at e; cases e),fun b o u e=>old b _ e fun z=>(by rw [z,hP] at e; cases e),fun b qs e=>?_⟩ fun b u e=>?_,rfl,q⟩
  ·have hlt':=ye e
   rw [far b (nP b n) (yk (yu hlt' hge)) (yk (yu hlt' hsz))]
   exact n
  ·by_cases hb':b=P
   ·exact⟨_,by rw [hb']; exact y6 _ htb⟩
   ·exact⟨o,kp b o hb' e⟩
  ·by_cases hb':b=P
   ·rw [hb',hP] at e
    cases e
    exact⟨_,by rw [hb']; exact atP⟩
   ·exact⟨#[],by rw [old b _ e hb']; simp⟩
  ·by_cases h3:b=h'.objs.size
   ·have e':=e
    rw [<- hH,h3,z00] at e'
    cases e'
    rw [h3]
    exact⟨⟨_,_,yi _ rfl⟩,⟨_,yi _ rfl⟩,fun h1 h2 ⟨pm,ct,z⟩ k=>⟨pm,ct,k _ z⟩⟩
   ·by_cases h2:b=c'
    ·have e':=e
     rw [<- hH,h2,z09 hne,z00] at e'
     cases e'
     rw [h2]
     obtain⟨c₂,oc,vs,t,e2,hoc,hd,hv⟩:=hrec
     cases e2
     exact⟨⟨_,oc,vs,t,rfl,y6 _ hoc,hd,hv⟩,⟨oc,y6 _ hoc⟩,fun h1 h2 ⟨c3,oc,vs,t,e3,z,zd,zv⟩ k=>by cases e3; exact⟨_,oc,vs,t,rfl,k _ z,zd,zv⟩⟩
    ·by_cases h1:b=P
     ·rw [h1,atP] at e
      cases e
      rw [h1]
      exact y6 _ htb
     ·rw [far b h1 h2 h3] at e
      refine(I.hok b u e).stay (fun d v hd e'=>kp d v ?_ e') (fun d e'=>old d _ e' fun z=>(by rw [z,hP] at e'; cases e')) fun d xs e'=>old d _ e' fun z=>(by rw [z,hP] at e'; cases e')
      rcases hd with hd | hd
      ·rw [hd]; exact h1
      ·exact fun z=>by rw [z,hP] at hd; cases hd
 ·refine PySem.W.kla_makeFunctionHit hcl I.ok.glob hg hcode C' hPo ht hf hb fun ctv h' tk hk hsz=>?_
  have hfn:H h'.objs.size=none:=I.hok.fresh hsz
  refine⟨.ref h'.objs.size,upd H h'.objs.size _,I.laid (t':=tk) (fun b u e=>y6 _ (hk b u e)) hsz ?_,rfl,h _ hfn⟩
  exact⟨⟨_,_,yi _ rfl⟩,⟨_,yi _ rfl⟩,fun h1 h2 ⟨pm,ct,z⟩ k=>⟨pm,ct,k _ z⟩⟩
end
def z3x(c:Addr)(o:Obj):HO:=.ext fun h=>h.get? c=some o
def zhn(cs:List Addr)(H:Hp):Hp:=fun b=>if b∈cs then none else H b
def zb7(cs:List Addr)(H H':Hp):Hp:=fun b=>if b∈cs then H b else H' b
theorem z7g{cs:List Addr}{H:Hp}{b:Addr}(h:b∈cs):zhn cs H b=none:=by unfold zhn; rw [if_pos h]
theorem z1p{cs:List Addr}{H:Hp}{b:Addr}(h:b∉cs):zhn cs H b=H b:=by unfold zhn; rw [if_neg h]
theorem zia{cs:List Addr}{H H':Hp}{b:Addr}(h:b∈cs):zb7 cs H H' b=H b:=by unfold zb7; rw [if_pos h]
theorem z4l{cs:List Addr}{H H':Hp}{b:Addr}(h:b∉cs):zb7 cs H H' b=H' b:=by unfold zb7; rw [if_neg h]
theorem z5a{cs:List Addr}{H:Hp}{b:Addr}(h:H b=none):zhn cs H b=none:=by
 by_cases hb:b∈cs
 ·exact z7g hb
 ·rw [z1p hb]; exact h
theorem zur{cs:List Addr}{H:Hp}{b:Addr}{u:HO}(h:zhn cs H b=some u):b∉cs/\H b=some u:=by
 by_cases hb:b∈cs
 ·rw [z7g hb] at h; cases h
 ·exact⟨hb,by rw [z1p hb] at h; exact h⟩
def AreCells(cs:List Addr)(H:Hp):Prop:=∀c∈cs,∃o,H c=some (z3x c o)
theorem AreCells.not{cs:List Addr}{H:Hp}(h:AreCells cs H){b:Addr}{u:HO}(e:H b=some u)(n:∀o,u≠z3x b o):b∉cs:=fun hb=>by
 obtain⟨o,q⟩:=h b hb
 rw [e] at q
 cases q
 exact n o rfl
theorem HOk.hid{P:yf}{w:yr}{H:Hp}{h:Heap}{cs:List Addr}(x:HOk P w H h)(k:AreCells cs H):HOk P w (zhn cs H) h:=fun a o e=>by
 obtain⟨_,e'⟩:=zur e
 refine(x a o e').stay (fun _ _ _ q=>q) (fun b q=>?_) fun b xs q=>?_
 ·rw [z1p (k.not q fun o=>by unfold z3x; intro z; cases z)]; exact q
 ·rw [z1p (k.not q fun o=>by unfold z3x; intro z; cases z)]; exact q
theorem HOk.ret{P:yf}{w:yr}{H H':Hp}{h h':Heap}{cs:List Addr}(x:HOk P w H h)(x':HOk P w H' h')(k:AreCells cs H)(hn:∀c∈cs,H' c=none)(kp:∀c∈cs,∀o,h.get? c=some o->h'.get? c=some o):HOk P w (zb7 cs H H') h':=fun a o e=>by
 have out:∀{b:Addr} {u:HO},H' b=some u->zb7 cs H H' b=some u:=fun {b u} e=>by rw [z4l fun hb=>by rw [hn b hb] at e; cases e]; exact e
 by_cases ha:a∈cs
 ·rw [zia ha] at e
  obtain⟨ob,q⟩:=k a ha
  rw [q] at e
  cases e
  obtain⟨z,_,st⟩:=x a _ q
  exact⟨kp a ha _ z,⟨_,kp a ha _ z⟩,st⟩
 ·rw [z4l ha] at e
  exact(x' a o e).stay (fun _ _ _ q=>q) (fun b q=>out q) fun b xs q=>out q
theorem Un.ret{fs:List Addr}{H H':Hp}{h h':Heap}{cs:List Addr}(u:Un fs [] (zhn cs H) H' h h')(k:AreCells cs H):Un fs [] H (zb7 cs H H') h h':=by
 have nc:∀{b:Addr},H b=none->b∉cs:=fun {b} n hb=>by
  obtain⟨o,q⟩:=k b hb
  rw [n] at q; cases q
 refine⟨fun b o e n hb hx=>u.keep b o e (z5a n) hb hx,fun b o e n hb hx=>u.slot b o e (z5a n) hb hx,fun b o e n hx=>?_,u.there,fun b xs e=>?_,fun b o v e=>?_,fun b ps e=>?_⟩
 ·rw [z4l (nc n)]
  exact u.free b o e (z5a n) hx
 ·have nb:=k.not e fun o=>by unfold z3x; intro z; cases z
  rw [z4l nb]
  exact u.tups b xs (by rw [z1p nb]; exact e)
 ·have nb:=k.not e fun o=>by unfold z3x; intro z; cases z
  rw [z4l nb]
  exact u.frzs b o v (by rw [z1p nb]; exact e)
 ·have nb:=k.not e fun o=>by unfold z3x; intro z; cases z
  rw [z4l nb]
  exact u.tbls b ps (by rw [z1p nb]; exact e)
structure LamScope(ps fr:List Str)(cl:List (Str×Addr))(sc:Scope):Prop where
 kind:sc.kind=.function
 co:sc.isCoroutine=false
 gen:sc.isGenerator=false
 nd:(ps++fr).Nodup
 par:∀x∈ps,sc.names.lookup x=some .local
 free:∀x∈fr,sc.names.lookup x=some .free
 nocell:∀y∈sc.names,y.2≠.cell
 has:∀y∈sc.names,y.2=.free->∃c,cl.lookup y.1=some c
 inj:∀x y c,cl.lookup x=some c->cl.lookup y=some c->x=y
 look:∀x c,(x,c)∈cl->cl.lookup x=some c
def cxL(P:yf)(w:yr)(K:y3)(mg:Str->Option y4)(base:Heap)(N:List Str)(D:LamD)(cl:List (Str×Addr))(f c':Addr)(A:y01)(outer:List PySem.Env)(s:y9)(H:Hp)(E:XK):Cx where
 prog:=P
 w:=w
 K:=K
 mg:=mg
 base:=base
 A:=A.deeper (PySem.W.envX D.qual D.scope s.heap.objs.size f (.ref c') cl)
 N:=N
 s₀:=s
 H₀:=zhn (cl.map (·.2)) H
 env:=PySem.W.envX D.qual D.scope s.heap.objs.size f (.ref c') cl
 outer:=outer
 stack:=PySem.W.envX D.qual D.scope s.heap.objs.size f (.ref c') cl::outer
 ex:=[]
 calm:=true
 fn:=fun _=>false
 pn:=[]
 xe:=fun e s'=>wpAny (model P w) (A.deeper (PySem.W.envX D.qual D.scope s.heap.objs.size f (.ref c') cl)) (leaving (PySem.W.envX D.qual D.scope s.heap.objs.size f (.ref c') cl) e) (fun _ s''=>CX0 outer H s E e s'') (fun e' s''=>CX0 outer H s E e' s'') s'
theorem zj4{x:Str}{v:y4}:∀{ps:List Str} {us:List y4} {i:Nat},ps.Nodup->ps[i]?=some x->us[i]?=some v->(ps.zip us).lookup x=some v
 | [],_,_,_,h,_=>by simp at h
 | _::_,[],_,_,_,h=>by simp at h
 | p::ps,u::us,0,nd,h1,h2=>by
  simp at h1 h2; subst h1; subst h2
  simp[y14,List.lookup]
 | p::ps,u::us,i+1,nd,h1,h2=>by
  have hn:=List.nodup_cons.mp nd
  have h1':ps[i]?=some x:=by simpa using h1
  have hne:(x == p)=false:=by
   rw [beq_eq_false_iff_ne]
   rintro rfl
   exact hn.1 (yv h1')
  rw [y14,List.lookup,hne]
  exact zj4 hn.2 h1' (by simpa using h2)
theorem zrv{x:Str}{v:y4}{ps:List Str}{us:List y4}{i:Nat}(nd:ps.Nodup)(hl:ps.length=us.length)(h1:ps[i]?=some x)(h2:us[i]?=some v):(ps.zip us).reverse.lookup x=some v:=by
 have e:(ps.zip us).reverse=ps.reverse.zip us.reverse:=by
  apply List.ext_getElem?
  intro j
  simp[List.zip,List.reverse_zipWith hl]
 have hi:i < ps.length:=(List.getElem?_eq_some_iff.mp h1).1
 rw [e]
 refine zj4 (i:=ps.length - 1 - i) (by unfold List.Nodup; rw [List.pairwise_reverse]; exact nd.imp y1y) ?_ ?_
 ·rw [List.getElem?_reverse (by omega)]
  rw [show ps.length - 1 - (ps.length - 1 - i)=i by omega]
  exact h1
 ·rw [List.getElem?_reverse (by omega)]
  rw [show us.length - 1 - (ps.length - 1 - i)=i by omega]
  exact h2
theorem zup{P:yf}{w:yr}{K:y3}{mg:Str->Option y4}{base:Heap}{ps fr:List Str}{D:LamD}{cl:List (Str×Addr)}{f c':Addr}{A:y01}{outer:List PySem.Env}{s:y9}{h1:Heap}{tk:Nat}{H:Hp}{E:XK}{us:List y4}{vs ws:List V}
  (S:LamScope ps fr cl D.scope) (hd:A.handled=none) (e0:Env0 P w K mg base A outer s H) (hl:vs.length=ps.length) (r:Vals vs us) (hlw:ws.length=fr.length)
  (cells:∀c∈cl.map (·.2),∃o x,H c=some (z3x c o)/\o.data=.cell x)
  (hw:∀(i:Nat) (x:Str) (v:V),fr[i]?=some x->ws[i]?=some v->∃c o u,cl.lookup x=some c/\H c=some (z3x c o)/\o.data=.cell (some u)/\RelV v u)
  (hns:h1.Ns s.heap.objs.size fun x=>(ps.zip us).reverse.lookup x) (hk:∀b o,s.heap.get? b=some o->h1.get? b=some o) :
  Inv (cxL P w K mg base (ps++fr) D cl f c' A outer s H E) [] ((vs++ws).map some) (zhn (cl.map (·.2)) H) {s with heap:=h1,toks:=tk}:=by
 have ac:AreCells (cl.map (·.2)) H:=fun c hc=>by
  obtain⟨o,_,q,_⟩:=cells c hc
  exact⟨o,q⟩
 have inC:∀{x:Str} {c:Addr},cl.lookup x=some c->c∈cl.map (·.2):=fun {x c} h=>List.mem_map.mpr ⟨(x,c),y0n h,rfl⟩
 have noA:∀b:Addr,b∉(cxL P w K mg base (ps++fr) D cl f c' A outer s H E).ex:=fun b z=>absurd (show b∈([]:List Addr) from z) (by simp)
 have isC:∀{c:Addr} {o:Obj},H c=some (z3x c o)->s.heap.get? c=some o:=fun q=>(e0.hok _ _ q).1
 refine⟨⟨e0.mod,S.kind,rfl,rfl,yg _,fun y z c h1 h2=>S.inj y z c h1 h2,fun y hy=>?_,fun y c h=>Bool.noConfusion (show false=true from h),fun _=>hd,Around.frames_deeper e0.frames,.inr ⟨rfl,rfl⟩,fun b z=>absurd z (noA b),fun b o e=>⟨(e0.bs b o e).1,z5a (e0.bs b o e).2⟩,e0.bsz,fun b _ _=>noA b,fun b z=>absurd z (noA b),e0.funs,fun b hb=>z5a (e0.frf b hb)⟩,
  rfl,e0.bare,Un.kept hk,⟨_,hns,fun i y v h1 h2 h3=>?_⟩,fun y c h=>?_,z5a (e0.hok.fresh (yg _)),fun y c h=>z7g (inC h),fun p hp=>absurd (show p∈([]:List (Addr×Obj)) from hp) (by simp),(e0.hok.hid ac).kept hk,?_⟩
 ·have hy:D.scope.names.lookup y=some .cell\/D.scope.names.lookup y=some .free:=hy
  rcases hy with hy | hy
  ·exact absurd rfl (S.nocell _ (y0n hy))
  ·exact S.has _ (y0n hy) rfl
 ·have h1':(ps++fr)[i]?=some y:=h1
  rw [y00] at h2
  by_cases hi:i < ps.length
  ·rw [y2a hi] at h1'
   rw [y2a (by omega)] at h2
   cases ev:vs[i]? with
   | none=>rw [ev] at h2; cases h2
   | some a=>
    rw [ev] at h2
    cases h2
    obtain⟨u,hu,rv⟩:=r.get ev
    exact⟨u,rv,.inl ⟨S.par y (yv h1'),zrv (List.nodup_append.mp S.nd).1 (by rw [<- hl,r.length]) h1' hu⟩⟩
  ·rw [y27 (by omega)] at h1'
   rw [y27 (by omega),hl] at h2
   cases ev:ws[i - ps.length]? with
   | none=>rw [ev] at h2; cases h2
   | some a=>
    rw [ev] at h2
    cases h2
    obtain⟨c,o,u,hc,q,hd',rv⟩:=hw _ _ _ h1' ev
    exact⟨u,rv,.inr ⟨.inr (S.free y (yv h1')),c,hc,o,hk _ _ (isC q),hd'⟩⟩
 ·obtain⟨o,x,q,hd'⟩:=cells c (inC h)
  exact⟨x,o,hk _ _ (isC q),hd'⟩
 ·show _=(ps++fr).length
  rw [y8,yd,yd,hl,hlw]
theorem q0g{P:yf}{w:yr}{K:y3}{mg:Str->Option y4}{base:Heap}{k:Nat}{ps fr:List Str}{D:LamD}{cl:List (Str×Addr)}{f c':Addr}{A:y01}{outer:List PySem.Env}{s:y9}{H:Hp}{us:List y4}{vs ws:List V}{Q:VK}
  (S:LamScope ps fr cl D.scope) (hr:Room (k+1) A) (e0:Env0 P w K mg base A outer s H) (hf:H f=some (zq8 D cl f c')) (hc:H c'=some (zb6 c' D.qual)) (hl:vs.length=ps.length) (r:Vals vs us) (hlw:ws.length=fr.length)
  (cells:∀c∈cl.map (·.2),∃o x,H c=some (z3x c o)/\o.data=.cell x)
  (hw:∀(i:Nat) (x:Str) (v:V),fr[i]?=some x->ws[i]?=some v->∃c o u,cl.lookup x=some c/\H c=some (z3x c o)/\o.data=.cell (some u)/\RelV v u)
  (hbind:∀fd:yq,fd.params=D.params->fd.defaults=.none->fd.kwdefaults=.none->fd.scope=D.scope->bindArgs fd ⟨us,[]⟩=pure (ps.zip us))
  (hbody:Room k (A.deeper (PySem.W.envX D.qual D.scope s.heap.objs.size f (.ref c') cl))->∃t,PE (cxL P w K mg base (ps++fr) D cl f c' A outer s H E0) D.body t/\t ((vs++ws).map some) (zhn (cl.map (·.2)) H) fun v H'=>(∀c∈cl.map (·.2),H' c=none)->Q v (zb7 (cl.map (·.2)) H H')) :
  codeAny (model P w) A (.call (.ref f) ⟨us,[]⟩) (CR CX0 outer P w H s Q E0) s:=by
 obtain⟨⟨pm,ctv,hfo⟩,_⟩:=e0.hok f _ hf
 obtain⟨hcr,_⟩:=e0.hok c' _ hc
 have ac:AreCells (cl.map (·.2)) H:=fun c hc=>by
  obtain⟨o,_,q,_⟩:=cells c hc
  exact⟨o,q⟩
 have lim:s.heap.NoLimit:=e0.mod.nolimit.keeps fun b o e=>(e0.bs b o e).1
 refine PySem.W.kla_callFunE hr.depth hfo rfl S.co S.gen rfl hcr ?_
 rw [hbind _ rfl rfl rfl rfl]
 refine yo (wpAny_newFunctionEnv S.nocell (fun y hy=>S.par _ (y2j hy).1) (fun h₁ hns hsb=>⟨lim.fresh _ hsb,?_⟩) S.kind)
 show codeAny _ _ (.expr D.body (PySem.W.envX D.qual D.scope s.heap.objs.size f (.ref c') cl)) _ _
 have hk₁:∀b o,s.heap.get? b=some o->h₁.get? b=some o:=fun b o e=>hsb.extBut b o (yk (ye e)) (y6 _ e)
 obtain⟨t,ht,q⟩:=hbody (hr.deeper _)
 have I:=zup (K:=K) (f:=f) (c':=c') (E:=E0) (tk:=s.toks+(ps.zip us).length) S hr.hd e0 hl r hlw cells hw hns hk₁
 refine PySem.W.kla_codeExpr (y0l (ht [] _ _ _ _ I q) (fun u s' hs=>?_) fun e s' hs=>hs)
 obtain⟨v,H',J,rv,qv⟩:=hs
 have nC:∀c∈cl.map (·.2),H' c=none:=fun c hc=>by
  obtain⟨⟨x,c2⟩,hm,rfl⟩:=List.mem_map.mp hc
  exact J.freeC x c2 (S.look x c2 hm)
 replace qv:=qv nC
 refine⟨v,zb7 (cl.map (·.2)) H H',J.os,J.bare,Un.ret (cs:=cl.map fun x=>x.2) (H:=H) J.base ac,HOk.ret e0.hok J.hok ac nC fun c hc o e=>?_,rv,qv⟩
 refine J.base.keep c o e (z7g hc) (fun z=>?_) (by show c∉([]:List Addr); simp)
 obtain⟨o',q'⟩:=ac c hc
 have:=e0.frf c z
 rw [q'] at this
 cases this
def q3z(P:yf)(w:yr)(K:y3)(mg:Str->Option y4)(base:Heap)(k:Nat)(f:Addr)(H:Hp)(vs:List V)(Q:VK):Prop:=
 ∀(A:y01) (outer:List PySem.Env) (s:y9) (us:List y4),Room k A->Env0 P w K mg base A outer s H->Vals vs us->codeAny (model P w) A (.call (.ref f) ⟨us,[]⟩) (CR CX0 outer P w H s Q E0) s
def IsLam(H:Hp)(f:Addr):Prop:=∃D cl c',H f=some (zq8 D cl f c')
theorem IsLam.at{X:Cx}{pins:List (Addr×Obj)}{σ : St}{H:Hp}{s:y9}{f:Addr}(h:IsLam H f)(I:Inv X pins σ H s):PySem.W.FnAt f s.heap:=by
 obtain⟨D,cl,c',e⟩:=h
 obtain⟨⟨pm,ctv,q⟩,_⟩:=I.hok f _ e
 exact⟨_,_,_,_,q⟩
def zgg(R:Addr->Hp->List V->VK->Prop)(i:Nat)(t:TA):TE:=fun σ H Q=>∃f,σ[i]?=some (some (.ref f))/\IsLam H f/\t σ H fun vs H1=>IsLam H1 f/\R f H1 vs Q
theorem zg2{X:Cx}{x:Str}{i k j:Nat}{e:Expr}{es:List Expr}{t:TA}{p pos:Pos}(hN:X.N[i]?=some x)(hv:Vis X.env.scope x)(hr:Room j X.A)(hk:k<=j)(ha:PA X (e::es) t)
  (hd:(x == ("__debug__" : Str))=false:=by decide) (hcd:(x == ("__classdict__" : Str))=false:=by decide) (hst:z2b (e::es)=true:=by rfl) :
  PE X (.Call (.Name x p) (e::es) [] pos) (zgg (q3z X.prog X.w X.K X.mg X.base k) i t):=by
 have hst':=hst
 rw [z2b,yw,y09] at hst'
 have he:=z0z (es:=es) (env:=X.env) hst'.1
 have hpl:=z2a (pos:=pos) (env:=X.env) hst'.2
 refine⟨?_⟩
 intro pins s σ H Q I h
 obtain⟨f,ei,hl,h⟩:=h
 refine y19 (thn (z1q (pos:=p) hN hv hd hcd pins s σ H (fun x' H'=>x'=.ref f/\IsLam H' f/\t σ H' fun vs H1=>IsLam H1 f/\q3z X.prog X.w X.K X.mg X.base k f H1 vs Q) I (isV.i ei ⟨rfl,hl,h⟩)) fun u s0 ⟨x',H',I',r',ex,hl',h'⟩=>?_)
 subst ex
 cases r'
 refine PySem.W.callWith_F (first:=[]) (hl'.at I') (thn (ha pos pins s0 σ H' _ I' h') fun us s1 ⟨vs,H1,I1,r,hl1,q⟩=>⟨hl1.at I1,?_⟩) he hpl
 refine y2v (y1j (q X.A X.stack s1 us (hr.mono hk) I1.env0 r) fun r s' hq=>?_)
 cases r with
 | error e=>exact False.elim hq
 | ok fl=>
  cases fl with
  | ret u=>exact I1.after hq
  | next=>exact False.elim hq
  | brk=>exact False.elim hq
  | cont=>exact False.elim hq
def zgi(sp:Sp)(c:Addr)(i:Nat)(t:TA):TE:=fun σ H Q=>t σ H fun vs H1=>∃v,σ[i]?=some (some v)/\∀o u,o.data=.cell (some u)->RelV v u->H1 c=none->sp vs (upd H1 c (z3x c o)) (fun y H2=>H2 c=some (z3x c o)/\Q y (zhn [c] H2)) E0
theorem ztn{X:Cx}{x y:Str}{c:Addr}{ps:List Str}{i k j:Nat}{sp:Sp}{e:Expr}{es:List Expr}{t:TA}{p pos:Pos}(C:Callee X.prog X.w X.K X.mg X.base x ps k sp)(hr:Room j X.A)(hk:k<=j)(ha:PA X (e::es) t)
  (hN:X.N[i]?=some y) (hc:X.env.cells.lookup y=some c) (hy:X.env.kindOf y=some .cell) (hfn:X.fn y=true) (hg:Gl X x:=by rfl)
  (hdb:(x == ("__debug__" : Str))=false:=by decide) (hst:z2b (e::es)=true:=by rfl) :
  PE X (.Call (.Name x p) (e::es) [] pos) (zgi sp c i t):=by
 have hst':=hst
 rw [z2b,yw,y09] at hst'
 have he:=z0z (es:=es) (env:=X.env) hst'.1
 have hpl:=z2a (pos:=pos) (env:=X.env) hst'.2
 obtain⟨f,fd,F,hm,hkp,hb⟩:=C
 refine⟨?_⟩
 intro pins s σ H Q I h
 refine y19 (zaq I hg hm ?_ hdb)
 refine y1x (h₀:=X.base) I.ok.mod.kin hkp (thn (ha pos pins s σ H _ I h) fun us s1 ⟨vs,H1,I1,r,v,ei,q⟩=>⟨I1.kIn,?_⟩) he hpl
 obtain⟨m,hn,hl⟩:=id I1.loc
 obtain⟨u,ru,l⟩:=hl i y v hN ei (.inr (.inl hy))
 have hcell:s1.heap.IsCell c (some u):=by
  rcases l with⟨hk',_⟩ | ⟨_,c2,e2,z⟩
  ·rw [hy] at hk'; cases hk'
  ·rw [hc] at e2; cases e2; exact z
 obtain⟨o,ho,hd⟩:=hcell
 have hcn:H1 c=none:=I1.freeC y c hc
 have q':=q o u hd ru hcn
 have hH:HOk X.prog X.w (upd H1 c (z3x c o)) s1.heap:=fun b w e=>by
  by_cases hb:b=c
  ·subst hb
   rw [z00] at e
   cases e
   exact⟨ho,⟨o,ho⟩,fun h1 h2 z k=>k _ z⟩
  ·rw [z09 hb] at e
   exact(I1.hok b w e).stay (fun _ _ _ q=>q) (fun d z=>by rw [z09 (z0d z hcn)]; exact z) fun d xs z=>by rw [z09 (z0d z hcn)]; exact z
 have cfs:c∉frs X.stack:=fun z=>by
  rcases List.mem_cons.mp (I1.stkSub c z) with z | z
  ·exact I1.cne y c hc z
  ·obtain⟨_,ob,hob,_⟩:=I1.ok.funs.mem z
   exact absurd (yu (ye hob) (I1.ok.cab y c hfn hc)) (y0i _)
 have e0:Env0 X.prog X.w X.K X.mg X.base X.A X.stack s1 (upd H1 c (z3x c o)):=by
  have z:=I1.env0
  refine⟨z.frames,z.mod,fun b ob e=>⟨(z.bs b ob e).1,?_⟩,z.bsz,z.funs,fun b hb=>?_,hH,z.bare⟩
  ·rw [z09 fun w=>?_]
   ·exact(z.bs b ob e).2
   ·subst w
    have:=ye (I1.ok.bs b ob e).1
    exact absurd (yu this (I1.ok.cab y b hfn hc)) (y0i _)
  ·rw [z09 fun w=>cfs (by rw [<- w]; exact hb)]
   exact z.frf b hb
 have hln:us.length=ps.length:=by rw [<- r.length]; exact F.len _ _ _ _ q'
 have hbd:=hb s1 us I1.kIn (by rw [y06]; exact hln)
 rw [y06] at hbd
 refine y2v (y1j (F.run X.A X.stack s1 _ ⟨us,[]⟩ us vs _ E0 (hr.mono hk) e0 hbd r q') fun r s' hq=>?_)
 cases r with
 | error e=>exact False.elim hq
 | ok fl=>
  cases fl with
  | next=>exact False.elim hq
  | brk=>exact False.elim hq
  | cont=>exact False.elim hq
  | ret u2=>
   obtain⟨v2,H2,os,bare,un,hok,rv,hc2,q2⟩:=hq
   have ac:AreCells [c] H2:=fun b hb=>by
    rw [y0u] at hb
    subst hb
    exact⟨o,hc2⟩
   obtain⟨hh,g,d,tk,os'⟩:=s'
   obtain rfl:os'=s1.os:=os
   have hco:hh.get? c=some o:=(hok c _ hc2).1
   refine⟨v2,zhn [c] H2,I1.call (h':=hh) (g':=g) (d':=d) (t':=tk) (ch:=[]) ⟨fun b ob e n hb hx=>?_,fun b ob e n hb hx=>?_,fun b ob e n hx=>?_,fun b ob e hx=>un.there b ob e hx,fun b xs e=>?_,fun b ob w e=>?_,fun b qs e=>?_⟩ (hok.hid ac) bare (fun b z=>absurd z (by simp)),rv,q2⟩
   ·by_cases hbc:b=c
    ·subst hbc; rw [ho] at e; cases e; exact hco
    ·exact un.keep b ob e (by rw [z09 hbc]; exact n) hb hx
   ·by_cases hbc:b=c
    ·subst hbc; exact absurd hb cfs
    ·exact un.slot b ob e (by rw [z09 hbc]; exact n) hb hx
   ·by_cases hbc:b=c
    ·subst hbc; exact z7g (List.mem_singleton.mpr rfl)
    ·exact z5a (un.free b ob e (by rw [z09 hbc]; exact n) hx)
   ·have nb:b≠c:=z0d e hcn
    rw [z1p (by simpa using nb)]
    exact un.tups b xs (by rw [z09 nb]; exact e)
   ·have nb:b≠c:=z0d e hcn
    rw [z1p (by simpa using nb)]
    exact un.frzs b ob w (by rw [z09 nb]; exact e)
   ·have nb:b≠c:=z0d e hcn
    rw [z1p (by simpa using nb)]
    exact un.tbls b qs (by rw [z09 nb]; exact e)
end L2
namespace L2
open PySem PySem.Spec PyProof.Rows
def q3w(mg:Str->Option y4)(base:Heap)(tabs:List (Addr×Addr)):Prop:=∀q∈tabs,PySem.W.CodeHd base q.1 q.2/\base.BuiltinsAt mg q.2/\mainGlobals≠q.2
theorem zuc{P:yf}{w:yr}{K:y3}{mg mb:Str->Option y4}{k:Nat}{fa a:Addr}{fd:yq}{x:Str}{sp:Sp}{s₁:y9}{vs:List y4}{ns:List Int}{tabs:List (Addr×Addr)}
  (KX:K.In s₁.heap) (hns:s₁.heap.Ns mainGlobals mg) (hb:s₁.heap.Ns builtinsNs mb) (hbb:∀x:Str,x≠"__name__"->mb x=bootBuiltins x) (hlim:s₁.heap.NoLimit) (hg:s₁.gens = #[])
  (ha:s₁.heap.get? a=some {cls:=.type "list",data:=.seq vs.toArray}) (hi:IntsAre vs ns) (hl:ns.length<=sizeLine) (hr:Room k callerA)
  (hT:PySem.W.TabsAt tabs s₁.heap) (hB:∀q∈tabs,s₁.heap.BuiltinsAt mg q.2) (hK:PySem.W.noTabs K=true)
  (F:∀base:Heap,K.In base->base.Ns mainGlobals mg->q3w mg base tabs->FnOk P w K mg base CX0 k fa fd [x] sp) (hbind:∀(s:y9) (u:y4),BindsTo s fd ⟨[u],[]⟩ [(x,u)])
  (hsp:∀H:Hp,(∀q∈tabs,H q.2=some (.tbl #[]))->SqL K H a (ns.map V.int)->sp [.ref a] H (fun v _=>v=.bl true) fun _ _ _=>False) :
  codeAny (model P w) callerA (.call (.ref fa) ⟨[.ref a],[]⟩) (fun r s'=>r=.ok (.ret (.bool true))/\OldK s₁.heap s'.heap/\s'.os=s₁.os/\AllBare s'.gens) s₁:=by
 have rv:=zg9 hi
 have lenV:=hi.length
 have tabK:∀q∈tabs,K.lookup q.2=none:=fun q hq=>by
  cases e:K.lookup q.2 with
  | none=>rfl
  | some o=>
   have h1:=KX _ _ e
   rw [(hT q hq).2] at h1
   cases h1
   have h2:=List.all_eq_true.mp hK (q.2,_) (y2i e)
   exact absurd (show false=true from h2) yp
 have aT:a∉tabs.map (·.2):=fun z=>by
  obtain⟨q,hq,e⟩:=List.mem_map.mp z
  have h1:=(hT q hq).2
  rw [e,ha] at h1
  cases h1
 have core:∀H:Hp,(∀b,H b=none\/(∃o xs,b=a/\H b=some (.frz o (.lst xs)))\/(b∈tabs.map (·.2)/\H b=some (.tbl #[])))->(∀q∈tabs,H q.2=some (.tbl #[]))->SqL K H a (ns.map V.int)->HOk P w H s₁.heap->(H a≠none->K.lookup a=none)->
   codeAny (model P w) callerA (.call (.ref fa) ⟨[.ref a],[]⟩) (fun r s'=>r=.ok (.ret (.bool true))/\OldK s₁.heap s'.heap/\s'.os=s₁.os/\AllBare s'.gens) s₁:=by
  intro H hO hTb hS hok hKa
  have base_of:∀{b:Addr} {o:Obj},s₁.heap.get? b=some o->H b=none->(zoy s₁.heap H).get? b=some o:=fun e n=>zqf e n
  have tabO:∀{b:Addr},b∈tabs.map (·.2)->s₁.heap.get? b=some (PySem.W.tabObj #[]):=fun {b} hb=>by
   obtain⟨q,hq,rfl⟩:=List.mem_map.mp hb
   exact(hT q hq).2
  have noA:∀{b:Addr} {o:Obj},s₁.heap.get? b=some o->b≠a->b∉tabs.map (·.2)->H b=none:=fun {b o} e n1 n2=>by
   rcases hO b with z | ⟨_,_,z,_⟩ | ⟨z,_⟩
   ·exact z
   ·exact absurd z n1
   ·exact absurd z n2
  have nsK:∀{b:Addr} {m:Str->Option y4},s₁.heap.Ns b m->(zoy s₁.heap H).Ns b m:=fun {b m} ⟨o,es,ep,e,d,r⟩=>by
   refine⟨o,es,ep,base_of e (noA e (fun z=>?_) fun z=>?_),d,r⟩
   ·rw [z,ha] at e; cases e; cases d
   ·rw [tabO z] at e; cases e; cases d
  have hKb:K.In (zoy s₁.heap H):=fun b o e=>base_of (KX b o e) (by
   rcases hO b with z | ⟨_,_,z,z2⟩ | ⟨z,_⟩
   ·exact z
   ·have:=hKa (by rw [<- z,z2]; simp)
    rw [z,this] at e
    cases e
   ·obtain⟨q,hq,rfl⟩:=List.mem_map.mp z
    rw [tabK q hq] at e
    cases e)
  have hM:Mod K mg (zoy s₁.heap H):=⟨hKb,nsK hns,⟨mb,nsK hb,hbb⟩,let ⟨mc,h1,h2⟩:=hlim; ⟨mc,nsK h1,h2⟩⟩
  have hTB:q3w mg (zoy s₁.heap H) tabs:=fun q hq=>by
   obtain⟨o,vs',file,tf,flags,tg,inF,text,tt,e1,r1,r2,r⟩:=(hT q hq).1
   obtain⟨bm,ob,b1,b2,b3,b4,b5,b6,b7,b8⟩:=hB q hq
   refine⟨⟨o,vs',file,tf,flags,tg,inF,text,tt,base_of e1 (noA e1 (fun z=>?_) fun z=>?_),r1,r2,r⟩,⟨bm,ob,b1,b2,b3,b4,base_of b5 (noA b5 (fun z=>?_) fun z=>?_),b6,b7,b8⟩,fun z=>?_⟩
   ·rw [z,ha] at e1; cases e1; exact absurd (show Value.type "list" = Value.type "code" from r1) (by simp)
   ·rw [tabO z] at e1; cases e1; cases r1
   ·rw [z,ha] at b5; cases b5; exact absurd (show Value.type "list" = Value.type "module" from b6) (by simp)
   ·rw [tabO z] at b5; cases b5; cases b6
   ·obtain⟨o',es,ep,e',d,_⟩:=hns
    rw [z,(hT q hq).2] at e'
    cases e'
    cases d
  have e0:Env0 P w K mg (zoy s₁.heap H) callerA [] s₁ H:=⟨rfl,hM,fun b o e=>zu0 e,Nat.le_of_eq (zmg _ _),trivial,fun b hb=>absurd (show b∈([]:List Addr) from hb) (by simp),hok,.of_eq hg⟩
  refine y1j ((F _ hKb (nsK hns) hTB).run callerA [] s₁ H ⟨[.ref a],[]⟩ [.ref a] [.ref a] _ _ hr e0 (hbind s₁ (.ref a)) (.cons rfl .nil) (hsp H hTb hS)) fun r s' h=>?_
  cases r with
  | error e=>exact False.elim h
  | ok fl=>
   cases fl with
   | next=>exact False.elim h
   | brk=>exact False.elim h
   | cont=>exact False.elim h
   | ret u=>
    obtain⟨v,H',os,bare,un,hok',r',q⟩:=h
    have q':v=.bl true:=q
    subst q'
    obtain rfl:u=Value.bool true:=r'
    refine⟨rfl,⟨fun b o e=>?_,fun b o e=>un.there b o e (by simp)⟩,os,bare⟩
    rcases hO b with z | ⟨ob,xs,_,z⟩ | ⟨hb,z⟩
    ·exact .inl (un.keep b o e z (by intro z; exact absurd (show b∈([]:List Addr) from z) (by simp)) (by simp))
    ·have z2:=un.frzs b ob _ z
     obtain⟨e1,_⟩:=hok b _ z
     obtain⟨e2,_⟩:=hok' b _ z2
     rw [e] at e1; cases e1
     exact .inl e2
    ·obtain⟨more,z2⟩:=un.tbls b _ z
     have e2:s'.heap.get? b=some {cls:=.none,data:=.fields (#[]++more)}:=hok' b _ z2
     rw [tabO hb] at e
     cases e
     obtain⟨q,hq,rfl⟩:=List.mem_map.mp hb
     exact .inr (.inl ⟨((hT q hq).1.tab (hT q hq).2).isCodeTable,rfl,#[],more,rfl,e2⟩)
 have tin:∀q∈tabs,q.2∈tabs.map (·.2):=fun q hq=>List.mem_map.mpr ⟨q,hq,rfl⟩
 cases hk:K.lookup a with
 | some o=>
  have e:=KX a o hk
  rw [ha] at e
  cases e
  refine core (fun b=>if b∈tabs.map (·.2) then some (.tbl #[]) else none) (fun b=>?_) (fun q hq=>if_pos (tin q hq)) (.inr ⟨_,vs.toArray,_,hk,rfl,rfl,rfl,by rw [yy,lenV]; exact hl,by simpa using rv⟩) (fun b u z=>?_) fun z=>absurd (if_neg aT) z
  ·by_cases hb:b∈tabs.map (·.2)
   ·exact .inr (.inr ⟨hb,if_pos hb⟩)
   ·exact .inl (if_neg hb)
  ·by_cases hb:b∈tabs.map (·.2)
   ·have z':=(if_pos hb).symm.trans z
    cases z'
    obtain⟨q,hq,rfl⟩:=List.mem_map.mp hb
    exact(hT q hq).2
   ·have z':=(if_neg hb).symm.trans z
    cases z'
 | none=>
  refine core (fun b=>if b∈tabs.map (·.2) then some (.tbl #[]) else if b=a then some (.frz {cls:=.type "list",data:=.seq vs.toArray} (.lst (ns.map V.int))) else none) (fun b=>?_) (fun q hq=>if_pos (tin q hq)) (.inl (.inr ⟨{cls:=.type "list",data:=.seq vs.toArray},(if_neg aT).trans (if_pos rfl)⟩)) (fun b u z=>?_) fun _=>hk
  ·by_cases hb:b∈tabs.map (·.2)
   ·exact .inr (.inr ⟨hb,if_pos hb⟩)
   ·by_cases hba:b=a
    ·exact .inr (.inl ⟨_,_,hba,(if_neg hb).trans (if_pos hba)⟩)
    ·exact .inl ((if_neg hb).trans (if_neg hba))
  ·by_cases hb:b∈tabs.map (·.2)
   ·have z':=(if_pos hb).symm.trans z
    cases z'
    obtain⟨q,hq,rfl⟩:=List.mem_map.mp hb
    exact(hT q hq).2
   ·have z1:=(if_neg hb).symm.trans z
    by_cases hba:b=a
    ·have z':=(if_pos hba).symm.trans z1
     cases z'
     subst hba
     exact⟨ha,by rw [y8]; exact hl,vs,_,rv,ha⟩
    ·have z':=(if_neg hba).symm.trans z1
     cases z'
theorem zw8{l:PySem.W.OpenLaw}{n k:Nat}{q:yf}{loose:List Str}{XP:(Str->Option y4)->Heap->Prop}{YP:yr->Heap->Prop}{d:DefRec}{K:Params->y3}{sp:yr->Sp}{x:Str}{tabs:List (Str×Addr×Addr)}
  (hn:l.most=some n) (hn2:n<=sizeLine) (hdf:d.params.defaults=[]) (hr:Room k callerA)
  (hY:∀(w:yr) (h:Heap),YP w h->(K w.params).In h)
  (hK:∀w:yr,PySem.W.noTabs (K w.params)=true) (hrec:∀t∈tabs,∃e,(recsOf q).find? (fun e=>e.name == t.1)=some e) (htab:∀(w:yr),∀t∈tabs,PySem.W.tabIn (K w.params) t.1=some (t.2.1,t.2.2))
  (F:∀(w:yr) (mg:Str->Option y4) (fa:Addr) (h:Heap),(K w.params).In h->h.Ns mainGlobals mg->mg d.name=some (.ref fa)->
   ∃fd:yq,(∀(s:y9) (u:y4),BindsTo s fd ⟨[u],[]⟩ [(x,u)])/\
    ∀base:Heap,(K w.params).In base->base.Ns mainGlobals mg->q3w mg base (tabs.map (·.2))->FnOk l.prog w (K w.params) mg base CX0 k fa fd [x] (sp w))
  (hsp:∀(w:yr) (H:Hp) (a:Addr) (ns:List Int),ns.length<=n->(∀q∈tabs.map (·.2),H q.2=some (.tbl #[]))->SqL (K w.params) H a (ns.map V.int)->sp w [.ref a] H (fun v _=>v=.bl true) fun _ _ _=>False) :
  PySem.W.WalkO q loose XP YP l.row.toRowW d [] (fun f vs=>PySem.call f vs):=by
 refine Att.zib hn hdf fun w s₀ s₁ mg mb fa o pm cd doc a vs ns G Y ho hd hcd hmg hobj hints hlen hg=>?_
 have KX:=hY w _ Y
 obtain⟨fd,hb,hF⟩:=F w mg fa _ KX G.T.g hmg
 have hT:PySem.W.TabsAt (tabs.map (·.2)) s₁.heap:=fun t ht=>by
  obtain⟨t',ht',rfl⟩:=List.mem_map.mp ht
  obtain⟨e,he⟩:=hrec t' ht'
  exact PySem.W.tab_of G.T KX he (htab w t' ht')
 refine zuc KX G.T.g G.T.b G.T.builtins G.T.nolimit hg hobj hints (y0b hlen hn2) hr hT (fun t ht=>?_) (hK w) hF hb fun H hO hS=>hsp w H a ns hlen hO hS
 obtain⟨bm,ob,b1,b2,b3,b4,b5,b6⟩:=G.T.bmain
 refine⟨bm,ob,b1,b2,fun z=>?_,fun z=>?_,b3,b4,b5,b6⟩
 ·obtain⟨o',es,ep,e',hd',_⟩:=G.T.g
  rw [z,e'] at b3
  cases b3
  rw [hd'] at b6
  cases b6
 ·rw [z,(hT t ht).2] at b3
  cases b3
  cases b4
theorem zxm{K:y3}{a b:Addr}{xs ys:List V}{g:TG}{tb:TS}{D:Ends}{σ : St}{H:Hp}(hxy:xs.length=ys.length)(Pv:Nat->St->Hp->Prop)(h0:Pv 0 σ H)(hl:∀i σ H,i<=xs.length->Pv i σ H->SqT K H a xs/\SqT K H b ys)
  (hs:∀i x y σ H T,xs[i]?=some x->ys[i]?=some y->Pv i σ H->H T=none->g (.ref T) σ (upd H T (.tup [x,y])) fun σ2 H2=>tb {D with nx:=Pv (i+1),ct:=Pv (i+1),bk:=D.nx} σ2 H2) (hd:∀ σ H,Pv xs.length σ H->D.nx σ H) :
  ∃W:Nat->Nat->St->Hp->Prop,(∃m,W 0 m σ H)/\∀i m σ H,W i m σ H->
   ((q1o K a b).stop i H/\D.nx σ H)\/((q1o K a b).go i H/\∃N:St->Hp->Prop,(∀ σ' H',N σ' H'->∃m',m' < m/\W (i+1) m' σ' H')/\∀x H',(q1o K a b).yld i H x H'->g x σ H' fun σ2 H2=>tb {D with nx:=N,ct:=N,bk:=D.nx} σ2 H2):=by
 refine⟨fun i m σ H=>m=xs.length - i/\i<=xs.length/\Pv i σ H,⟨xs.length,by simp,y05 _,h0⟩,?_⟩
 rintro i m σ H ⟨rfl,hi,p⟩
 have q:=hl i σ H hi p
 by_cases hlt:i < xs.length
 ·refine .inr ⟨⟨xs,ys,xs[i],ys[i]'(by omega),q.1,q.2,by simp[hlt],by simp⟩,Pv (i+1),fun σ' H' p'=>⟨xs.length - (i+1),by omega,rfl,hlt,p'⟩,fun x H' y=>?_⟩
  obtain⟨T,u,v,rfl,hT,rfl,y1,y2⟩:=y
  exact hs i u v σ H T (y1 xs q.1) (y2 ys q.2) p hT
 ·have e:i=xs.length:=by omega
  subst e
  exact .inl ⟨⟨xs,ys,q.1,q.2,.inl (yg _)⟩,hd σ H p⟩
end L2
namespace L2
open PySem PySem.Spec PyProof.Rows PySem.W
section
variable{prog:yf}{w:yr}{A:y01}{E:y4->y9->Prop}{s:y9}{a:Addr}
end
section
variable{X:Cx}{pins:List (Addr×Obj)}{σ : St}{H:Hp}{s:y9}
structure Pkw where
 r:Addr
 k:y4
 u:y4
instance:Inhabited Pkw:=⟨⟨0,.none,.none⟩⟩
end
end L2
namespace L2
open PySem PySem.Spec PyProof.Rows PySem.W
theorem ObjOk.obj{P:yf}{w:yr}{H:Hp}{h:Heap}{a:Addr}{o:HO}(x:ObjOk P w H h a o):∃u,h.get? a=some u:=by
 cases o with
 | lst xs=>obtain⟨_,_,_,_,e⟩:=x; exact⟨_,e⟩
 | tup xs=>obtain⟨_,_,_,o,e,_⟩:=x; exact⟨_,e⟩
 | dK kvs=>obtain⟨_,_,_,_,o,_,_,e,_⟩:=x; exact⟨_,e⟩
 | dT kvs=>obtain⟨_,_,_,_,o,_,_,e,_⟩:=x; exact⟨_,e⟩
 | set S n=>obtain⟨o,_,_,_,e,_⟩:=x; exact⟨_,e⟩
 | ins C dx fs=>obtain⟨_,_,_,e,_⟩:=x; exact⟨_,e⟩
 | own y=>exact x
 | xd fs=>obtain⟨_,⟨o,_,_,e,_⟩,_⟩:=x; exact⟨_,e⟩
 | rng lo hi=>obtain⟨_,_,_,e⟩:=x; exact⟨_,e⟩
 | frz ob u=>exact⟨_,x.1⟩
 | tbl ps=>exact⟨_,(show h.get? a=some {cls:=.none,data:=.fields ps} from x)⟩
 | met f y=>exact⟨_,(show h.get? a=some (PySem.W.methodObj (.ref f) (.ref y)) from x)⟩
 | ext φ=>exact x.2.1
def FlyAt(h:Heap)(l:List PySem.Env)(x T:Addr)(C:y4):Prop:=(∃B:Heap,h.FunFrames B l)/\x∉frs l/\T∉frs l/\T≠x/\∃(oe:Obj) (vs:Array y4) (oT:Obj) (ts:Array y4) (a0:y4),h.get? x=some oe/\oe.cls=C/\vs[0]?=some a0/\oe.data=.fields vs/\vs[1]?=some (.ref T)/\h.get? T=some oT/\oT.data=.fields ts/\ts[3]?=some .none
def q33(h:Heap)(l:List PySem.Env)(x T:Addr):Heap:=hideAll h (x::T::frs l)
theorem FlyAt.flying{h:Heap}{l:List PySem.Env}{x T:Addr}{C:y4}(f:FlyAt h l x T C):∃a0,Heap.FlyingW (q33 h l x T) l x C a0 h:=by
 obtain⟨⟨B,ff⟩,n1,n2,ne,oe,vs,oT,ts,a0,he,hc,h0,hd,h1,hT,hdT,h3⟩:=f
 refine⟨a0,fun b o q=>of_hideAll _ q,hideAll_none _ (.head _),funFrames_hide ff fun env he a ha=>?_,oe,vs,T,oT,ts,he,⟨hc,h0⟩,hd,h1,hideAll_none _ (.tail _ (.head _)),ne,hT,hdT,h3⟩
 exact .tail _ (.tail _ (List.mem_filterMap.mpr ⟨env,he,ha⟩))
theorem FlyAt.of{B h:Heap}{l:List PySem.Env}{x:Addr}{C a0:y4}(f:Heap.FlyingW B l x C a0 h):∃T,B.get? T=none/\FlyAt h l x T C:=by
 obtain⟨f1,f2,f3,oe,vs,T,oT,ts,he,⟨hc,h0⟩,hd,h1,hn,ne,hT,hdT,h3⟩:=f
 refine⟨T,hn,⟨B,f3⟩,fun z=>?_,fun z=>?_,ne,oe,vs,oT,ts,a0,he,hc,h0,hd,h1,hT,hdT,h3⟩
 ·obtain⟨_,o,ho,hnf⟩:=f3.mem z
  rw [he] at ho; cases ho
  exact hnf vs hd
 ·obtain⟨_,o,ho,hnf⟩:=f3.mem z
  rw [hT] at ho; cases ho
  exact hnf ts hdT
section
variable{P:yf}{w:yr}{h h':Heap}{l:List PySem.Env}{x T:Addr}{H:Hp}
theorem zsq(st:(q33 h l x T).StaysIn h')(up:h.UpToSlots h')(ff:∃B:Heap,h.FunFrames B l):Un (frs l) [x,T] H H h h':=by
 have kp:∀b o,h.get? b=some o->b∉frs l->b∉[x,T]->h'.get? b=some o:=fun b o q n1 n2=>st b o (hideAll_get _ q (by
  simp only[yz,yt,or_false,not_or] at n2 |-
  exact⟨n2.1,n2.2,n1⟩))
 have sl:∀b o,h.get? b=some o->b∈frs l->∃sl,h'.get? b=some {o with slots:=sl}:=fun b o q n1=>by
  obtain⟨B,ff⟩:=ff
  obtain⟨_,o',ho,hnf⟩:=ff.mem n1
  rw [q] at ho; cases ho
  exact up b o q hnf
 refine⟨fun b o q _ n1 n2=>kp b o q n1 n2,fun b o q _ n1 _=>sl b o q n1,fun _ _ _ n _=>n,fun b o q n2=>?_,fun _ _ q=>q,fun _ _ _ q=>q,fun _ ps q=>⟨#[],by rw [q]; simp⟩⟩
 by_cases n1:b∈frs l
 ·obtain⟨_,e⟩:=sl b o q n1
  exact⟨_,e⟩
 ·exact⟨_,kp b o q n1 n2⟩
theorem zqe(ok:HOk P w H h)(st:(q33 h l x T).StaysIn h')(nx:H x=none)(nT:H T=none)(nf:∀b∈frs l,H b=none):HOk P w H h':=fun a o e=>by
 have tr:∀b u,H b=some u->b∉x::T::frs l:=fun b u q z=>by
  rcases List.mem_cons.mp z with rfl | z
  ·rw [nx] at q; cases q
  ·rcases List.mem_cons.mp z with rfl | z
   ·rw [nT] at q; cases q
   ·rw [nf b z] at q; cases q
 refine(ok a o e).stay (fun b u hb q=>st b u (hideAll_get _ q ?_)) (fun _ q=>q) fun _ _ q=>q
 rcases hb with rfl | hb
 ·exact tr _ _ e
 ·exact tr _ _ hb
end
def CX1(P:yf)(w:yr):CXT:=fun outer H s E e s'=>∃(x T C:Addr) (H':Hp),e=.ref x/\s'.os=s.os/\AllBare s'.gens/\Un (frs outer) [] H H' s.heap s'.heap/\HOk P w H' s'.heap/\FlyAt s'.heap outer x T (.ref C)/\s.heap.get? x=none/\s.heap.get? T=none/\H' x=none/\H' T=none/\E (.ref C) none H'
section
variable{P:yf}{w:yr}{K:y3}{mg:Str->Option y4}{base:Heap}{N:List Str}{qual:Str}{scope:Scope}{f:Addr}{cd:y4}{A:y01}{outer:List PySem.Env}{s₀:y9}{H₀:Hp}{E:XK}
theorem zze{pins:List (Addr×Obj)}{σ : St}{H:Hp}{s:y9}{h':Heap}{x C:Addr}{vs:List y4}(I:Inv (z9g (CX1 P w) P w K mg base N qual scope f cd A outer s₀ H₀ E) pins σ H s)(hx:Heap.MadeExcOf s.heap h' x (.ref C) vs)(q:E (.ref C) none H) :
  (z9g (CX1 P w) P w K mg base N qual scope f cd A outer s₀ H₀ E).xe (.ref x) {s with heap:=h'}:=by
 have ff:=I.stack
 have exn:∀b,b∉(z9g (CX1 P w) P w K mg base N qual scope f cd A outer s₀ H₀ E).ex:=fun b z=>absurd (show b∈([]:List Addr) from z) (by simp)
 refine wpAny_leaves_madeW (base:=hideAll s.heap (frs (z9g (CX1 P w) P w K mg base N qual scope f cd A outer s₀ H₀ E).stack)) (h:=s.heap) I.ok.frames rfl (fun b o z=>of_hideAll _ z) (funFrames_hide ff fun env he a ha=>List.mem_filterMap.mpr ⟨env,he,ha⟩) hx fun h'' t fl _ _ up=>?_
 obtain⟨T,nT,fly⟩:=FlyAt.of fl
 have kp:∀b o,s.heap.get? b=some o->b∉frs (z9g (CX1 P w) P w K mg base N qual scope f cd A outer s₀ H₀ E).stack->h''.get? b=some o:=fun b o z n=>fl.1 b o (hideAll_get _ z n)
 have sl:∀b o,s.heap.get? b=some o->b∈frs (z9g (CX1 P w) P w K mg base N qual scope f cd A outer s₀ H₀ E).stack->∃sl,h''.get? b=some {o with slots:=sl}:=fun b o z n=>by
  obtain⟨_,o',ho,hnf⟩:=ff.mem n
  rw [z] at ho; cases ho
  exact up b o (hx.keeps b o z) hnf
 have sT:s.heap.get? T=none:=by
  cases q1:s.heap.get? T with
  | none=>rfl
  | some o=>
   have hm:T∈frs (z9g (CX1 P w) P w K mg base N qual scope f cd A outer s₀ H₀ E).stack:=by
    refine y26 fun z=>?_
    have:=hideAll_get _ q1 z
    rw [nT] at this
    cases this
   obtain⟨_,o',ho,hnf⟩:=ff.mem hm
   obtain⟨sl',hs⟩:=sl _ _ ho hm
   obtain⟨_,_,_,_,_,_,oT,ts,_,_,_,_,_,_,hT2,hdT,_⟩:=fly
   rw [hs] at hT2
   cases hT2
   exact absurd hdT (hnf ts)
 have new0:∀b,s.heap.get? b=none->s₀.heap.get? b=none:=fun b z=>by
  cases q0:s₀.heap.get? b with
  | none=>rfl
  | some o=>
   obtain⟨o',e'⟩:=I.base.there b o q0 (exn b)
   rw [z] at e'; cases e'
 have noH:∀b,s.heap.get? b=none->H b=none:=fun b z=>by
  cases q2:H b with
  | none=>rfl
  | some u=>obtain⟨o,e'⟩:=(I.hok _ _ q2).obj; rw [z] at e'; cases e'
 have nst:∀b o,s₀.heap.get? b=some o->b∉frs outer->b∉frs (z9g (CX1 P w) P w K mg base N qual scope f cd A outer s₀ H₀ E).stack:=fun b o q0 n z=>by
  rcases List.mem_cons.mp (I.stkSub b z) with z | z
  ·exact yk (ye q0) z
  ·exact n z
 refine⟨x,T,C,H,rfl,I.os,I.bare,?_,fun a o e=>?_,fly,new0 _ hx.new,new0 _ sT,noH _ hx.new,noH _ sT,q⟩
 ·refine⟨fun b o q0 n n1 _=>kp b o (I.base.keep b o q0 n n1 (exn b)) (nst b o q0 n1),fun b o q0 n n1 _=>?_,fun b o q0 n _=>I.base.free b o q0 n (exn b),fun b o q0 _=>?_,I.base.tups,I.base.frzs,I.base.tbls⟩
  ·obtain⟨s1,e1⟩:=I.base.slot b o q0 n n1 (exn b)
   by_cases z:b∈frs (z9g (CX1 P w) P w K mg base N qual scope f cd A outer s₀ H₀ E).stack
   ·obtain⟨s2,e2⟩:=sl b _ e1 z
    exact⟨s2,e2⟩
   ·exact⟨s1,kp b _ e1 z⟩
  ·obtain⟨o',e1⟩:=I.base.there b o q0 (exn b)
   by_cases z:b∈frs (z9g (CX1 P w) P w K mg base N qual scope f cd A outer s₀ H₀ E).stack
   ·obtain⟨s2,e2⟩:=sl b _ e1 z
    exact⟨_,e2⟩
   ·exact⟨_,kp b _ e1 z⟩
 ·have tr:∀b u,H b=some u->b∉frs (z9g (CX1 P w) P w K mg base N qual scope f cd A outer s₀ H₀ E).stack:=fun b u z n=>by
   rw [I.stkFree b n] at z; cases z
  refine(I.hok a o e).stay (fun b u hb z=>kp b u z ?_) (fun _ z=>z) fun _ _ z=>z
  rcases hb with rfl | hb
  ·exact tr _ _ e
  ·exact tr _ _ hb
theorem zwo{x:Str}{C:Addr}{bm bmN:List y4}{B Bn newId nid inN initId:String}{e:Expr}{es:List Expr}{t:TA}{np cpos pos:Pos}(O:OwnCls x C bm newId mg base)(Fn:ExcBaseFacts Bn newId inN bmN)(hBn:bm.contains (.type Bn)=true)(FB:ExcBaseFacts B nid initId bm)
  (ha:PA (z9g (CX1 P w) P w K mg base N qual scope f cd A outer s₀ H₀ E) (e::es) t) (hg:Gl (z9g (CX1 P w) P w K mg base N qual scope f cd A outer s₀ H₀ E) x) (hdb:(x == ("__debug__" : Str))=false:=by decide) (hst:z2b (e::es)=true:=by rfl) :
  PS (z9g (CX1 P w) P w K mg base N qual scope f cd A outer s₀ H₀ E) (.Raise (some (.Call (.Name x np) (e::es) [] cpos)) none pos) (fun D σ H=>t σ H fun vs H1=>vs.length<=sizeLine/\E (.ref C) none H1):=by
 refine⟨?_⟩
 intro pins s σ H D I h
 obtain⟨tl,Nn,nm,qq,bs,hdct,sn,sub,ab,col,dd,k0,k1,k2,k3,k5,mN,hC,hN,hni,TT⟩:=O.obj
 refine wpAny_Raise_call_subU (C:=C) (nm:=nm) (q:=qq) (N:=Nn) (bs:=bs) (bm:=tl) (hdct:=hdct) (sn:=sn) (sub:=sub) (ab:=ab) (col:=col) (dd:=dd) (k0:=k0) (k1:=k1) (k2:=k2) (k3:=k3) (k5:=k5) Fn hBn FB (mN:=mN) (TT.hasType FB.hasBase) (I.ok.hd rfl) (z2a hst) hni (zaq I hg O.bound ⟨rfl,?_⟩ hdb)
 have hst':=hst
 rw [z2b,yw,y09] at hst'
 have he:=z0z (es:=es) (env:=(z9g (CX1 P w) P w K mg base N qual scope f cd A outer s₀ H₀ E).env) hst'.1
 have hh:=ha cpos pins s σ H _ I h
 rw [he] at hh |-
 refine Calls.evalArgs_plain (y0l hh (fun us s2 h2=>?_) fun _ _ y=>y)
 obtain⟨vs,H1,I1,r,hz,q⟩:=h2
 exact⟨rfl,by rw [<- r.length]; exact hz,I1.bk _ _ hC,hN.keeps I1.bk,TT.keeps I1.bk,fun h' x' mx=>zze I1 mx q⟩
end
end L2
namespace L2
open PySem PySem.Spec PyProof.Rows PySem.W
theorem zum{v:y4}{a b:Str}(ha:v.isStr a=true)(hb:v.isStr b=true):a=b:=by
 unfold Value.isStr at ha hb
 split at ha<;>simp_all
theorem zzw{K:y3}{mg:Str->Option y4}{base:Heap}{x:Str}{C:Addr}{bm:List y4}{newId:String}(M:Mod K mg base)(e:nsIn K mainGlobals x=some (some (.ref C)))(q:excIn K C bm newId=true):OwnCls x C bm newId mg base:=by
 obtain⟨mb,hb,hbb⟩:=M.blt
 obtain⟨o,es,ep,ho,hd,hk,hm⟩:=M.glob
 open Classical in
 refine own_of_in (p:=default) (loose:=es.toList.filterMap fun y=>if h:∃z,y.key.isStr z=true then some (Classical.choose h) else none) M.kin ⟨M.glob,hb,M.nolimit,hbb,fun z _ hl _ _ _=>?_⟩ e q
 rw [<- hm z]
 unfold nsFind findBy
 rw [Option.map_eq_none_iff,Array.find?_eq_none]
 intro y hy hz
 refine hl (List.mem_filterMap.mpr ⟨y,Array.mem_toList_iff.mpr hy,?_⟩)
 have h:∃z,y.key.isStr z=true:=⟨z,hz⟩
 rw [dif_pos h]
 exact congrArg some (zum (Classical.choose_spec h) hz)
structure CalleeX(P:yf)(w:yr)(K:y3)(mg:Str->Option y4)(base:Heap)(x:Str)(ps:List Str)(k:Nat)(sp:Sp):Prop where
 ex:∃f fd,FnOk P w K mg base (CX1 P w) k f fd ps sp/\mg x=some (.ref f)/\PySem.W.keepIn K (.ref f)=true/\Binds K fd ps []
theorem CalleeX.mono{P:yf}{w:yr}{K:y3}{mg:Str->Option y4}{base:Heap}{x:Str}{ps:List Str}{j k:Nat}{sp:Sp}(h:CalleeX P w K mg base x ps j sp)(hk:j<=k):CalleeX P w K mg base x ps k sp:=by
 obtain⟨f,fd,a,b,c,d⟩:=h
 exact⟨f,fd,a.mono hk,b,c,d⟩
section
variable{P:yf}{w:yr}{K:y3}{mg:Str->Option y4}{base:Heap}
theorem Fun.okx{x qual:Str}{st:Stmt}{f:Addr}{fd:yq}{N ps:List Str}{k:Nat}{sp:Sp}(F:Fun K x qual st f fd)(S:FnScope N ps (defScope st))(len:∀vs H Q E,sp vs H Q E->vs.length=ps.length)
  (hbody:∀(cdv:y4) (A:y01) (outer:List PySem.Env) (s:y9) (H:Hp) (vs:List V) (Q:VK) (E:XK),Room k (A.deeper (envOfC qual (defScope st) s.heap.objs.size f cdv))->sp vs H Q E->
   ∃t,PSs (z9g (CX1 P w) P w K mg base N qual (defScope st) f cdv A outer s H E) (defBody st) t/\t {nx:=fun _ H'=>Q .non H',rt:=Q} (start N vs) H):FnOk P w K mg base (CX1 P w) (k+1) f fd ps sp:=by
 obtain⟨oc,od,kV,doc,pm,an,cdv,ct,osl,rfl,lk,hcd⟩:=F.ex
 exact q0v lk hcd S len fun A outer s H vs Q E hr hsp=>hbody cdv A outer s H vs Q E hr hsp
theorem Callee.x{x:Str}{ps:List Str}{k:Nat}{sp:Sp}(C:Callee P w K mg base x ps k sp):CalleeX P w K mg base x ps k sp:=by
 obtain⟨f,fd,F,a,b,c⟩:=C
 refine⟨f,fd,⟨F.len,fun A outer s H args us vs Q E hr e0 hb hv hs=>y1j (F.run A outer s H args us vs Q E hr e0 hb hv hs) fun r s' hq=>?_⟩,a,b,c⟩
 cases r with
 | error e=>exact False.elim hq
 | ok fl=>cases fl<;>exact hq
end
section
variable{X:Cx}{pins:List (Addr×Obj)}{σ : St}{H:Hp}{s:y9}{h':Heap}{x T:Addr}
structure Strange(X:Cx)(pins:List (Addr×Obj))(x:Addr):Prop where
 new:X.s₀.heap.get? x=none
 loc:x≠X.env.locals
 cell:∀y c,X.env.cells.lookup y=some c->c≠x
 pin:∀p∈X.pn++pins,p.1≠x
theorem Inv.strange(I:Inv X pins σ H s)(hex:X.ex=[])(n:s.heap.get? x=none):Strange X pins x:=by
 refine⟨?_,?_,fun y c e z=>?_,fun p hp z=>?_⟩
 ·cases q:X.s₀.heap.get? x with
  | none=>rfl
  | some o=>
   obtain⟨o',e⟩:=I.base.there x o q (by rw [hex]; simp)
   rw [n] at e; cases e
 ·rintro rfl
  obtain⟨m,⟨o,_,_,ho,_⟩,_⟩:=I.loc
  rw [n] at ho; cases ho
 ·obtain⟨v,o,ho,_⟩:=I.cell y c e
  rw [z,n] at ho; cases ho
 ·obtain⟨e,_⟩:=I.pin p hp
  rw [z,n] at e; cases e
theorem Inv.fly(I:Inv X pins σ H s)(hex:X.ex=[])(st:(q33 s.heap X.stack x T).StaysIn h')(up:s.heap.UpToSlots h')(sx:Strange X pins x)(sT:Strange X pins T)(nx:H x=none)(nT:H T=none) :
  Inv X pins σ H {s with heap:=h'}:=by
 have US:=zsq (H:=H) st up ⟨_,I.stack⟩
 have nxT:∀b,(b≠x)->(b≠T)->b∉[x,T]:=fun b h1 h2 z=>by
  simp only[yz,yt,or_false] at z
  exact z.elim h1 h2
 have n0:∀b o,X.s₀.heap.get? b=some o->b∉[x,T]:=fun b o e=>nxT b (fun z=>by rw [z,sx.new] at e; cases e) fun z=>by rw [z,sT.new] at e; cases e
 have exn:∀b,b∉X.ex:=fun b=>by rw [hex]; simp
 have nst:∀b o,X.s₀.heap.get? b=some o->b∉X.fs->b∉frs X.stack:=fun b o e n z=>by
  rcases List.mem_cons.mp (I.stkSub b z) with z | z
  ·exact yk (yu (ye e) I.ok.above) z
  ·exact n z
 have cellK:∀c v,s.heap.IsCell c v->Heap.IsCell h' c v:=fun c v ⟨o,ho,hd⟩=>by
  obtain⟨sl,e⟩:=up c o ho fun vs z=>by rw [hd] at z; cases z
  exact⟨_,e,hd⟩
 refine⟨I.ok,I.os,I.bare,⟨fun b o e n hb hx=>?_,fun b o e n hb hx=>?_,I.base.free,fun b o e hx=>?_,I.base.tups,I.base.frzs,I.base.tbls⟩,?_,fun y c e=>?_,I.free,I.freeC,fun p hp=>?_,zqe I.hok st nx nT I.stkFree,I.len⟩
 ·exact US.keep b o (I.base.keep b o e n hb hx) (I.base.free b o e n hx) (nst b o e hb) (n0 b o e)
 ·obtain⟨s1,e1⟩:=I.base.slot b o e n hb hx
  by_cases z:b∈frs X.stack
  ·obtain⟨s2,e2⟩:=US.slot b _ e1 (I.base.free b o e n hx) z (n0 b o e)
   exact⟨s2,e2⟩
  ·exact⟨s1,US.keep b _ e1 (I.base.free b o e n hx) z (n0 b o e)⟩
 ·obtain⟨o',e1⟩:=I.base.there b o e hx
  exact US.there b o' e1 (n0 b o e)
 ·obtain⟨m,hn,hl⟩:=I.loc
  refine⟨m,up.ns hn,fun i y v e1 e2 e3=>?_⟩
  obtain⟨u,r,l⟩:=hl i y v e1 e2 e3
  refine⟨u,r,?_⟩
  rcases l with l | ⟨k,c,e,z⟩
  ·exact .inl l
  ·exact .inr ⟨k,c,e,cellK c _ z⟩
 ·obtain⟨v,z⟩:=I.cell y c e
  exact⟨v,cellK c v z⟩
 ·obtain⟨e,n,ne,nf,d⟩:=I.pin p hp
  have ns:p.1∉frs X.stack:=fun z=>(List.mem_cons.mp (I.stkSub _ z)).elim ne nf
  exact⟨US.keep p.1 p.2 e n ns (nxT _ (sx.pin p hp) (sT.pin p hp)),n,ne,nf,d⟩
def HO.exc(x C:Addr):HO:=.ext fun h=>∃o,h.get? x=some o/\o.cls=.ref C
theorem Inv.shown{C:Addr}(I:Inv X pins σ H s)(sx:Strange X pins x)(nx:H x=none)(ho:∃o,s.heap.get? x=some o/\o.cls=.ref C):Inv X pins σ (upd H x (HO.exc x C)) s:=by
 have oth:∀b,b≠x->upd H x (HO.exc x C) b=H b:=fun b n=>z09 n
 have sm:∀b u,H b=some u->upd H x (HO.exc x C) b=some u:=fun b u e=>by
  rw [oth b fun z=>by rw [z,nx] at e; cases e]; exact e
 refine⟨I.ok,I.os,I.bare,⟨I.base.keep,I.base.slot,fun b o e n hx=>?_,I.base.there,fun b xs e=>sm _ _ (I.base.tups b xs e),fun b o u e=>sm _ _ (I.base.frzs b o u e),fun b ps e=>?_⟩,I.loc,I.cell,?_,fun y c e=>?_,fun p hp=>?_,fun b u e=>?_,I.len⟩
 ·rw [oth b fun z=>by rw [z,sx.new] at e; cases e]
  exact I.base.free b o e n hx
 ·obtain⟨m,q⟩:=I.base.tbls b ps e
  exact⟨m,sm _ _ q⟩
 ·rw [oth _ fun z=>sx.loc z.symm]; exact I.free
 ·rw [oth _ (sx.cell y c e)]; exact I.freeC y c e
 ·obtain⟨e,n,r⟩:=I.pin p hp
  exact⟨e,by rw [oth _ (sx.pin p hp)]; exact n,r⟩
 ·by_cases hb:b=x
  ·subst hb
   rw [z00] at e
   cases e
   obtain⟨o,h1,h2⟩:=ho
   exact⟨⟨o,h1,h2⟩,⟨o,h1⟩,fun g1 g2 ⟨o,a,b⟩ k=>⟨o,k _ a,b⟩⟩
  ·rw [oth b hb] at e
   exact(I.hok b u e).stay (fun _ _ _ q=>q) (fun c q=>sm _ _ q) fun _ _ q=>sm _ _ q
theorem Inv.gone{i:Nat}{n:Str}{m:Str->Option y4}{v:Option y4}{t':Nat}(I:Inv X pins σ H s)(hN:X.N.Nodup)(hi:X.N[i]?=some n)(hn:Heap.Ns h' X.env.locals (fun y=>if y=n then v else m y))(hm:s.heap.Ns X.env.locals m)(hs:Heap.SameBut X.env.locals s.heap h') :
  Inv X pins (σ.set i none) H {s with heap:=h',toks:=t'}:=by
 obtain⟨m0,hn0,hl⟩:=I.loc
 have em:m0=m:=hn0.eq_nsMap.trans hm.eq_nsMap.symm
 subst em
 have cne:=I.cne
 have neL:∀b o,X.s₀.heap.get? b=some o->b≠X.env.locals:=fun b o e=>yk (yu (ye e) I.ok.above)
 refine⟨I.ok,I.os,I.bare,⟨fun b o e n hb hx=>(hs.2 b (neL b o e)).trans (I.base.keep b o e n hb hx),fun b o e n hb hx=>?_,I.base.free,fun b o e hx=>?_,I.base.tups,I.base.frzs,I.base.tbls⟩,⟨_,hn,fun j y v' e1 e2 e3=>?_⟩,fun y c e=>?_,I.free,I.freeC,fun p hp=>?_,fun b u e=>?_,by simpa using I.len⟩
 ·obtain⟨sl,q⟩:=I.base.slot b o e n hb hx
  exact⟨sl,(hs.2 b (neL b o e)).trans q⟩
 ·obtain⟨o',q⟩:=I.base.there b o e hx
  exact⟨o',(hs.2 b (neL b o e)).trans q⟩
 ·by_cases hj:j=i
  ·subst hj
   have hiσ : j < σ.length:=by rw [I.len]; exact(List.getElem?_eq_some_iff.mp hi).1
   rw [y2n hiσ] at e2
   cases e2
  ·rw [List.getElem?_set_ne (y1y hj)] at e2
   obtain⟨u,r,q⟩:=hl j y v' e1 e2 e3
   refine⟨u,r,?_⟩
   rcases q with⟨k,e⟩ | ⟨k,c,e,z⟩
   ·refine .inl ⟨k,?_⟩
    have:y≠n:=fun e=>hj (zkb hN e1 (e ▸ hi))
    simp[this,e]
   ·exact .inr ⟨k,c,e,z.sameBut hs (cne y c e)⟩
 ·obtain⟨w',z⟩:=I.cell y c e
  exact⟨w',z.sameBut hs (cne y c e)⟩
 ·obtain⟨e,n,ne,nf,d⟩:=I.pin p hp
  exact⟨(hs.2 p.1 ne).trans e,n,ne,nf,d⟩
 ·refine(I.hok b u e).stay (fun c w' hc q=>(hs.2 c ?_).trans q) (fun _ q=>q) fun _ _ q=>q
  rintro rfl
  rcases hc with rfl | hc
  ·rw [I.free] at e; cases e
  ·rw [I.free] at hc; cases hc
end
end L2
namespace L2
open PySem PySem.Spec PyProof.Rows PySem.W
abbrev Cx.marked(X:Cx)(e:y4):Cx:={X with A:=X.A.mark (some e),calm:=false,xe:=fun _ _=>False}
theorem Cx.Ok.marked{X:Cx}{e:y4}(ok:X.Ok):(X.marked e).Ok:=
 ⟨ok.mod,ok.kind,ok.glob,ok.blt,ok.above,ok.inj,ok.has,ok.cab,(fun z=>nomatch z),ok.frames,ok.stk,ok.exf,ok.bs,ok.bsz,ok.noex,ok.exfs,ok.funs,ok.frf⟩
section
variable{X:Cx}{pins:List (Addr×Obj)}{σ : St}{H:Hp}{s:y9}{e:y4}
theorem Inv.marked(I:Inv X pins σ H s)(ok:(X.marked e).Ok):Inv (X.marked e) pins σ H s:=⟨ok,I.os,I.bare,I.base,I.loc,I.cell,I.free,I.freeC,I.pin,I.hok,I.len⟩
theorem Inv.unmarked(I:Inv (X.marked e) pins σ H s)(ok:X.Ok):Inv X pins σ H s:=⟨ok,I.os,I.bare,I.base,I.loc,I.cell,I.free,I.freeC,I.pin,I.hok,I.len⟩
end
end L2
namespace L2
open PySem PySem.Spec PyProof.Rows PySem.W PySem.Builtin PySem.Builtin.ObjectAttr PySem.Builtin.Getset_descriptor PySem.Calls
section
variable{prog:yf}{w:yr}{A:y01}{E:y4->y9->Prop}{s:y9}{K:y3}{x C:Addr}
theorem zxq{R:Result->y9->Prop}{tp:y4}(X:K.In s.heap)(L0:Looks (model prog w) s.heap (typeOf (.ref x)) (.ref C)) (hm:mroIn K C (.type "object")=some true)
  (h:R (.ok (.ret (.ref C))) s):codeAny (model prog w) A (.call (.builtin "getset_descriptor.__get__") ⟨[.builtin "object.__class__",.ref x,tp],[]⟩) R s:=by
 obtain⟨hh,g,dr,t,os⟩:=s
 have L1:=looks_mroIn (M:=model prog w) X hm
 refine codeAny_call_builtin KF.slot_gs.plain KF.entry_gs (KF.slot_gs.check _ _ _ _ _ _ _ _ KF.type_class (KF.args_gs _ _ _) ?_)
 unfold Builtin.«getset_descriptor.__get__» descrGet
 rw [dga_obj]
 refine yc (yo ?_)
 unfold descrGetter descrCheckInstance descrNameAndClass isInstance
 simp only[KF.owner_class]
 repeat lk
 refine⟨Code.quiet_builtin _ (by decide+kernel),y1n KF.entry_class ?_⟩
 unfold Builtin.«object.__class__» shownTypeOf
 repeat lk
 exact h
theorem zxp{M:Model}{h:Heap}(X:K.In h) (ha:findIn K (.ref C) "__class__" = some (some (.builtin "object.__class__"))) (hn:specialIn K (.builtin "object.__class__") "__get__" = some (some (.builtin "getset_descriptor.__get__"))) (htk:takesIn K (.builtin "object.__class__")=some true) :
  Looks M h (find (.ref x) (.ref C) "__class__") (.bind (.builtin "getset_descriptor.__get__") (.builtin "object.__class__")):=by
 have L3:=looks_takesIn (M:=M) X htk
 exact(looks_findIn X ha).andThen ((show Looks M h (getOf (some (.builtin "object.__class__"))) (some (.builtin "getset_descriptor.__get__")) from looks_specialIn X hn).andThen ((show Looks M h (dataDescriptor? (some (.builtin "object.__class__")) (some (.builtin "getset_descriptor.__get__"))) (some (_,_)) from L3.andThen .now).andThen (Looks.tag .now)))
theorem zux{tk:Tok}{Q:Fin->y9->Prop}(X:K.In s.heap)(L0:Looks (model prog w) s.heap (typeOf (.ref x)) (.ref C)) (ha:findIn K (.ref C) "__class__" = some (some (.builtin "object.__class__"))) (hn:specialIn K (.builtin "object.__class__") "__get__" = some (some (.builtin "getset_descriptor.__get__"))) (htk:takesIn K (.builtin "object.__class__")=some true) (hm:mroIn K C (.type "object")=some true)
  (h:Q (.done (.ret (.ref C))) s):wpAny (model prog w) A (Builtin.«object.__getattribute__» ⟨[.ref x,.str "__class__" tk],[]⟩) Q E s:=by
 obtain⟨hh,g,dr,t,os⟩:=s
 have L1:=zxp (M:=model prog w) (x:=x) X ha hn htk
 unfold Builtin.«object.__getattribute__»
 refine yc (yo (yc (yo (yc (L0.at (yc (L1.at ?_)))))))
 exact yc (y22 (y2v (zxq X L0 hm (yo h))))
theorem zuz{M:Model}{nameV:y4}{Q:Unit->y9->Prop}(L0:Looks M s.heap (typeOf (.ref x)) (.ref C)) (LB:Looks M s.heap (isSubtype (.ref C) (.type "BaseException")) true) (hq:Q () s) :
  wpAny M A (checkBuiltinCall "BaseException.__getattribute__" ⟨[.ref x,nameV],[]⟩) Q E s:=by
 obtain⟨hh,g,dr,t,os⟩:=s
 have hk:builtinKind "BaseException.__getattribute__" = some .slot:=by decide+kernel
 have hsplit:splitId "BaseException.__getattribute__" = some ("BaseException","__getattribute__"):=by decide+kernel
 have LI:Looks M hh (isInstance (.ref x) (.type "BaseException")) true:=L0.andThen LB
 have ha:=F.args_bexc_ga (.ref x) nameV
 simp only[checkBuiltinCall,hk,hsplit]
 refine yc (LI.at ?_)
 repeat (first | assumption | wp_step)
theorem zxr{tk:Tok}{R:Result->y9->Prop}(X:K.In s.heap)(L0:Looks (model prog w) s.heap (typeOf (.ref x)) (.ref C)) (hb:subIn K (.ref C) (.type "BaseException")=some true) (ha:findIn K (.ref C) "__class__" = some (some (.builtin "object.__class__"))) (hn:specialIn K (.builtin "object.__class__") "__get__" = some (some (.builtin "getset_descriptor.__get__"))) (htk:takesIn K (.builtin "object.__class__")=some true) (hm:mroIn K C (.type "object")=some true)
  (h:R (.ok (.ret (.ref C))) s):codeAny (model prog w) A (.call (.builtin "BaseException.__getattribute__") ⟨[.ref x,.str "__class__" tk],[]⟩) R s:=
 codeAny_call_builtin F.excAttr_ValueError.ga.plain F.entry_bexc_ga (zuz L0 (looks_subIn X hb) (zux X L0 ha hn htk hm h))
theorem zuy{Q:Option y4->y9->Prop}(X:K.In s.heap)(L0:Looks (model prog w) s.heap (typeOf (.ref x)) (.ref C)) (hb:subIn K (.ref C) (.type "BaseException")=some true) (hga:findIn K (.ref C) "__getattribute__" = some (some (.builtin "BaseException.__getattribute__"))) (hgh:findIn K (.ref C) "__getattr__" = some none)
  (ha:findIn K (.ref C) "__class__" = some (some (.builtin "object.__class__"))) (hn:specialIn K (.builtin "object.__class__") "__get__" = some (some (.builtin "getset_descriptor.__get__"))) (htk:takesIn K (.builtin "object.__class__")=some true) (hm:mroIn K C (.type "object")=some true)
  (h:Q (some (.ref C)) {s with toks:=s.toks+1}):wpAny (model prog w) A (getAttr? (.ref x) "__class__") Q E s:=by
 obtain⟨hh,g,dr,t,os⟩:=s
 have L1:=looks_findIn (M:=model prog w) X hga
 have L2:=looks_findIn (M:=model prog w) X hgh
 have hx2:(Value.builtin "BaseException.__getattribute__" == Value.builtin "object.__getattribute__")=false:=by decide+kernel
 have hx1:(onTheHeap (Value.ref C) && Value.builtin "BaseException.__getattribute__" == Value.builtin "object.__getattribute__")=false:=by rw [hx2]; rfl
 have f3:=F.excAttr_ValueError.ga.bind (.ref x)
 unfold getAttr? getAttrBy? getAttrBy
 refine yc (wpAny_mkText (yc (y2c (y22 (yc (L0.at (yc (L1.at ?_))))))))
 dsimp only
 rw [hx1,if_neg yp]
 unfold getAttrByItsOwn hookBefore callGetattribute boundAndCalled
 refine yc (L2.at (yc (y2c (y22 ?_))))
 rw [y1d,if_neg yp,f3]
 refine yc (yo (y2v (zxr (s:=⟨hh,g,dr,t+1,os⟩) X L0 hb ha hn htk hm ?_)))
 exact handed_on rfl (yo h)
structure ExcC(K:y3)(C:Addr):Prop where
 cl:(clsIn K C).isSome=true
 hb:subIn K (.ref C) (.type "BaseException")=some true
 hga:findIn K (.ref C) "__getattribute__" = some (some (.builtin "BaseException.__getattribute__"))
 hgh:findIn K (.ref C) "__getattr__" = some none
 ha:findIn K (.ref C) "__class__" = some (some (.builtin "object.__class__"))
 hn:specialIn K (.builtin "object.__class__") "__get__" = some (some (.builtin "getset_descriptor.__get__"))
 htk:takesIn K (.builtin "object.__class__")=some true
 hm:mroIn K C (.type "object")=some true
theorem zxg(c:ExcC K C):KitX K (.ref x) (.ref C) (fun h=>∃o,h.get? x=some o/\o.cls=.ref C) where
 ty:=fun M h _ ⟨o,ho,hc⟩=>hc ▸ (Looks.ld ho).andThen .now
 it:=fun _ _ X _=>by
  obtain⟨cd,hcd⟩:=Option.isSome_iff_exists.mp c.cl
  unfold clsIn at hcd
  split at hcd
  ·rename_i c' d' cd' sl' ho
   intro A' Q' E' s' k q
   unfold isType loadHead
   exact yc (wpAny_loadPart (k _ _ (X _ _ ho)) (yo q))
  ·cases hcd
 ne:=fun h tp dd its n sl X htp=>by
  obtain⟨cd,hcd⟩:=Option.isSome_iff_exists.mp c.cl
  refine Bool.eq_false_iff.mpr fun q=>?_
  have e:C=tp:=Value.ref.inj (beq_iff_eq.mp q)
  subst e
  unfold clsIn at hcd
  split at hcd
  ·rename_i c' d' cd' sl' ho
   have z:=(X _ _ ho).symm.trans htp
   cases z
  ·cases hcd
 ca:=fun X ⟨o,ho,hc⟩ k=>zuy X (hc ▸ (Looks.ld ho).andThen .now) c.hb c.hga c.hgh c.ha c.hn c.htk c.hm k
end
section
variable{X:Cx}
def q43(K:y3):List V->Hp->VK->Prop:=fun xs H Q=>∃(x C:Addr) (y:V) (d:y4) (b:Bool),xs=[.ref x,y]/\H x=some (HO.exc x C)/\RelV y d/\(∀u,RelV y u->u=d)/\ExcC K C/\kitOne K (.ref C) d=some b/\Q (.bl b) H
theorem z9j:CallR X (.builtin "isinstance") (q43 X.K):=by
 intro pins s σ H xs us Q I r h
 obtain⟨x,C,y,d,b,rfl,hx,rd,ud,c,e,q⟩:=h
 obtain⟨u,u2,rfl,r1,r2⟩:=r.two
 cases r1
 cases ud _ r2
 obtain⟨ho,_⟩:=(show ObjOk X.prog X.w H s.heap x (HO.exc x C) from I.hok x _ hx)
 exact kia_one (zxg c) I.kIn ho e (fun z=>nomatch z) fun tk=>⟨.bl b,H,I.tok tk,rfl,q⟩
def zju:V->List V->Hp->VK->Prop:=fun x vs H Q=>∃(l:Addr) (bs:List Bool) (y:Bool),x=.ref l/\vs=[.bl y]/\H l=some (.lst (bs.map V.bl))/\Q (.int (bs.count y:Nat)) H
theorem zu4:MtM X "list.count" zju:=by
 intro pins s σ H x vs v us Q I rx rv h
 obtain⟨l,bs,y,rfl,rfl,hH,q⟩:=h
 cases rx
 obtain⟨u,rfl,r1⟩:=rv.one
 cases r1
 obtain⟨z,its,n,r,hl,e⟩:=I.lstM hH
 obtain rfl:=zcm r
 refine call_meets F.slot_list_count ⟨_,e,rfl⟩ F.entry_list_count (F.args_list_count_2 _ _) (SeqAt.list_countAt l _ n _ _ (.bool y) fun u=>u == Value.bool y) ⟨e,fun u hu=>?_,?_⟩
 ·rw [List.mem_toArray] at hu
  obtain⟨b,hb,rfl⟩:=List.mem_map.mp hu
  intro prog w E Q hq
  refine SeqAt.EqAt.bool_bool b y prog w E Q ?_
  cases b<;>cases y<;>exact hq
 ·refine⟨.int _,H,I.kept (h':=s.heap) (t':=s.toks+1) fun b u e=>e,⟨_,rfl⟩,?_⟩
  rw [List.toList_toArray,show(bs.map Value.bool).countP (fun u=>u == Value.bool y)=bs.count y by
   rw [List.countP_map]; exact congrArg (fun f=>bs.countP f) (funext fun b=>by cases b<;>cases y<;>rfl)]
  exact q
end
section
variable{P:yf}{w:yr}{K:y3}{mg:Str->Option y4}{base:Heap}{N:List Str}{qual:Str}{scope:Scope}{f:Addr}{cd:y4}{A:y01}{outer:List PySem.Env}{s₀:y9}{H₀:Hp}{E:XK}
theorem zlu{x:Str}{C:Addr}{bm bmN:List y4}{B Bn newId nid inN initId:String}{e:Expr}{es:List Expr}{t:TA}{np cpos pos:Pos}(hx:nsIn K mainGlobals x=some (some (.ref C)))(hq:excIn K C bm newId=true)(Fn:ExcBaseFacts Bn newId inN bmN)(hBn:bm.contains (.type Bn)=true)(FB:ExcBaseFacts B nid initId bm)
  (ha:PA (z9g (CX1 P w) P w K mg base N qual scope f cd A outer s₀ H₀ E) (e::es) t) (hg:Gl (z9g (CX1 P w) P w K mg base N qual scope f cd A outer s₀ H₀ E) x) (hdb:(x == ("__debug__" : Str))=false:=by decide) (hst:z2b (e::es)=true:=by rfl) :
  PS (z9g (CX1 P w) P w K mg base N qual scope f cd A outer s₀ H₀ E) (.Raise (some (.Call (.Name x np) (e::es) [] cpos)) none pos) (fun D σ H=>t σ H fun vs H1=>vs.length<=sizeLine/\E (.ref C) none H1):=
 ⟨fun pins s σ H D I h=>zwo (zzw I.mod hx hq) Fn hBn FB ha hg hdb hst pins s σ H D I h⟩
end
end L2
namespace L2
open PySem PySem.Spec PyProof.Rows PySem.W
def zi7(s:Stmt)(j:Nat):Stmt:=match s with
 | .ClassDef _ _ _ b _ _ _ _ _ _ _=>(b[j]?).getD s
 | _=>s
structure CalleeM(P:yf)(w:yr)(K:y3)(mg:Str->Option y4)(base:Heap)(C:Addr)(m:Str)(ps:List Str)(k:Nat)(sp:Sp):Prop where
 ex:∃f fd,FnOk P w K mg base CX0 k f fd ps sp/\Meth K C m f/\Binds K fd ps []
structure CalleeI(P:yf)(w:yr)(K:y3)(mg:Str->Option y4)(base:Heap)(C:Addr)(ps:List Str)(k:Nat)(sp:Sp):Prop where
 ex:∃f fd,FnOk P w K mg base CX0 k f fd ps sp/\Mk K C f/\Binds K fd ps []
section
variable{X:Cx}{C:Addr}{m x:Str}{ps:List Str}{k j:Nat}{sp:Sp}{o e:Expr}{es:List Expr}{ta:TE}{t:TA}{p apos pos:Pos}{pl:Sem Bool}
theorem q4i(he:PE X o ta)(c:Cls X.K C)(M:CalleeM X.prog X.w X.K X.mg X.base C m ps k sp)(hr:Room j X.A)(hk:k<=j)(ha:PA X (e::es) t)(hst:z2b (e::es)=true:=by rfl)
  (ht:eval (.Call (.Attribute o m apos) (e::es) [] pos) X.env=(do
   let ov <- eval o X.env
   standAt apos.atName
   let (f,first) <- holding [ov] (getMethod ov m pl)
   callWith pos f first (backTo pos (starEach (e::es) X.env)) (backToKw pos (keywordEach [] X.env))):=by rfl):PE X (.Call (.Attribute o m apos) (e::es) [] pos) (zgb C m sp [] E0 ta t):=by
 obtain⟨f,fd,F,hm,hb⟩:=M
 have hst':=hst
 rw [z2b,yw,y09] at hst'
 exact zzq he c hm F (hr.mono hk) hb .nil (fun _ _ _ _ _ _ _ z=>z.elim) ha (z0z hst'.1) (z2a hst'.2) ht
theorem z6i(he:PE X o ta)(c:Cls X.K C)(M:CalleeM X.prog X.w X.K X.mg X.base C m ps k sp)(hr:Room j X.A)(hk:k<=j)
  (ht:eval (.Call (.Attribute o m apos) [] [] pos) X.env=(do
   let ov <- eval o X.env
   standAt apos.atName
   let (f,first) <- holding [ov] (getMethod ov m pl)
   callWith pos f first (backTo pos (starEach [] X.env)) (backToKw pos (keywordEach [] X.env))):=by rfl):PE X (.Call (.Attribute o m apos) [] [] pos) (zgb C m sp [] E0 ta zni):=by
 obtain⟨f,fd,F,hm,hb⟩:=M
 exact zpy he c hm F (hr.mono hk) hb .nil (fun _ _ _ _ _ _ _ z=>z.elim) ht
theorem q2a(M:CalleeI X.prog X.w X.K X.mg X.base C ps k sp)(hr:Room j X.A)(hk:k+1<=j)(hg:Gl X x)(hm:X.mg x=some (.ref C))(ha:PA X (e::es) t) (hdb:(x == ("__debug__" : Str))=false:=by decide) (hst:z2b (e::es)=true:=by rfl) :
  PE X (.Call (.Name x p) (e::es) [] pos) (zr5 C sp [] E0 t):=by
 obtain⟨f,fd,F,hM,hb⟩:=M
 have hst':=hst
 rw [z2b,yw,y09] at hst'
 exact zzr hM F (hr.mono hk) hg hm hb .nil (fun _ _ _ _ _ _ _ z=>z.elim) ha hdb (z0z hst'.1) (z2a hst'.2)
end
end L2
namespace L2
open PySem PySem.Spec PyProof.Rows PySem.W
theorem zzu{X:Cx}{E:XK}{E':y4->y9->Prop}(hex:X.ex=[])(hsk:X.stack=X.env::X.outer)(hfr:X.env.frame=some X.env.locals){pins:List (Addr×Obj)}{σ : St}{H:Hp}{s:y9}{e:y4}{s':y9}(I:Inv X pins σ H s)(h:CX1 X.prog X.w X.stack H s E e s') :
  wpAny (model X.prog X.w) X.A (leaving X.env e) (fun _ s''=>CX1 X.prog X.w X.outer X.H₀ X.s₀ (fun c d H'=>(∀x a,X.env.cells.lookup x=some a->H' a=none)/\E c d H') e s'') E' s':=by
 obtain⟨x,T,C,H',rfl,os,bare,un,hok,fly,nx,nT,hx,hT,q⟩:=h
 have I1:=I.call' os un hok bare (fun b z=>absurd z (by simp))
 obtain⟨a0,fl⟩:=fly.flying
 refine wpAny_leaves_onW (env:=X.env) (outer:=X.outer) (by rw [<- hsk]; exact I.ok.frames) hfr (by rw [<- hsk]; exact fl) fun h' fl' up=>?_
 obtain⟨T',nT',fly'⟩:=FlyAt.of fl'
 have new0:∀b,s.heap.get? b=none->X.s₀.heap.get? b=none:=fun b z=>by
  cases q0:X.s₀.heap.get? b with
  | none=>rfl
  | some o=>
   obtain⟨o',e'⟩:=I.base.there b o q0 (by rw [hex]; simp)
   rw [z] at e'; cases e'
 have new1:∀b,s'.heap.get? b=none->X.s₀.heap.get? b=none:=fun b z=>by
  cases q0:X.s₀.heap.get? b with
  | none=>rfl
  | some o=>
   obtain⟨o',e'⟩:=I1.base.there b o q0 (by rw [hex]; simp)
   rw [z] at e'; cases e'
 have hL:∀b o,X.s₀.heap.get? b=some o->b≠X.env.locals:=fun b o q0=>yk (yu (ye q0) I.ok.above)
 have tT:X.s₀.heap.get? T'=none/\H' T'=none:=by
  cases q1:s'.heap.get? T' with
  | none=>
   refine⟨new1 _ q1,?_⟩
   cases q2:H' T' with
   | none=>rfl
   | some u=>obtain⟨o,e'⟩:=(hok _ _ q2).obj; rw [q1] at e'; cases e'
  | some o=>
   have hm:T'∈x::T::frs X.stack:=by
    refine y26 fun z=>?_
    have:=hideAll_get _ q1 z
    rw [show hideAll s'.heap _=q33 s'.heap _ x T from rfl,nT'] at this
    cases this
   rcases List.mem_cons.mp hm with rfl | hm
   ·exact absurd rfl fly'.2.2.2.1
   ·rcases List.mem_cons.mp hm with rfl | hm
    ·exact⟨new0 _ nT,hT⟩
    ·obtain⟨⟨B,ff⟩,_⟩:=fly
     obtain⟨_,o',ho,hnf⟩:=ff.mem hm
     obtain⟨sl,hs⟩:=up _ _ ho hnf
     obtain⟨_,_,_,_,_,_,oT,ts,_,_,_,_,_,_,hT2,hdT,_⟩:=fly'
     rw [hs] at hT2
     cases hT2
     exact absurd hdT (hnf ts)
 have US:=zsq (H:=H') fl'.1 up fly.1
 have nst:∀b o,X.s₀.heap.get? b=some o->b∉X.fs->b∉frs X.stack:=fun b o q0 n z=>by
  rcases List.mem_cons.mp (I.stkSub b z) with z | z
  ·exact hL b o q0 z
  ·exact n z
 have nxT:∀b o,X.s₀.heap.get? b=some o->b∉[x,T]:=fun b o q0 z=>by
  simp only[yz,yt,or_false] at z
  rcases z with rfl | rfl
  ·rw [new0 _ nx] at q0; cases q0
  ·rw [new0 _ nT] at q0; cases q0
 have exn:∀b,b∉X.ex:=fun b=>by rw [hex]; simp
 refine⟨x,T',C,H',rfl,os.trans I.os,bare,?_,zqe hok fl'.1 hx hT I1.stkFree,fly',new0 _ nx,tT.1,hx,tT.2,fun y a ya=>I1.freeC y a ya,q⟩
 refine⟨fun b o q0 n n1 _=>?_,fun b o q0 n n1 _=>?_,fun b o q0 n _=>I1.base.free b o q0 n (exn b),fun b o q0 _=>?_,I1.base.tups,I1.base.frzs,I1.base.tbls⟩
 ·exact US.keep b o (I1.base.keep b o q0 n n1 (exn b)) (I1.base.free b o q0 n (exn b)) (nst b o q0 n1) (nxT b o q0)
 ·obtain⟨sl,e1⟩:=I1.base.slot b o q0 n n1 (exn b)
  by_cases z:b∈frs X.stack
  ·obtain⟨sl',e2⟩:=US.slot b _ e1 (I1.base.free b o q0 n (exn b)) z (nxT b o q0)
   exact⟨sl',e2⟩
  ·exact⟨sl,US.keep b _ e1 (I1.base.free b o q0 n (exn b)) z (nxT b o q0)⟩
 ·obtain⟨o',e1⟩:=I1.base.there b o q0 (exn b)
  exact US.there b o' e1 (nxT b o q0)
abbrev q3i(P:yf)(w:yr)(K:y3)(mg:Str->Option y4)(base:Heap)(N:List Str)(D:LamD)(cl:List (Str×Addr))(f c':Addr)(A:y01)(outer:List PySem.Env)(s:y9)(H:Hp)(E:XK):Cx:=
 (cxL P w K mg base N D cl f c' A outer s H E0).wish fun e s'=>wpAny (model P w) (A.deeper (PySem.W.envX D.qual D.scope s.heap.objs.size f (.ref c') cl)) (leaving (PySem.W.envX D.qual D.scope s.heap.objs.size f (.ref c') cl) e) (fun _ s''=>CX1 P w outer H s E e s'') (fun e' s''=>CX1 P w outer H s E e' s'') s'
section
variable{P:yf}{w:yr}{K:y3}{mg:Str->Option y4}{base:Heap}{k:Nat}{ps fr N:List Str}{D:LamD}{cl:List (Str×Addr)}{f c':Addr}{A:y01}{outer:List PySem.Env}{s:y9}{H:Hp}{us:List y4}{vs ws:List V}{Q:VK}{E:XK}
theorem zzt(S:LamScope ps fr cl D.scope)(e0:Env0 P w K mg base A outer s H)(ac:AreCells (cl.map (·.2)) H) :
  zf6 (CX1 P w) (q3i P w K mg base N D cl f c' A outer s H E) (fun c d H'=>(∀b∈cl.map (·.2),H' b=none)->E c d (zb7 (cl.map (·.2)) H H')):=by
 intro pins σ H2 s2 e s' I h
 refine y0l (zzu (X:=q3i P w K mg base N D cl f c' A outer s H E) (E':=fun _ _=>False) rfl rfl rfl I h) (fun _ s'' hq=>?_) fun _ _ z=>z.elim
 obtain⟨x,T,C,H',rfl,os,bare,un,hok,fly,nx,nT,hx,hT,hcell,q⟩:=hq
 have nC:∀c∈cl.map (·.2),H' c=none:=fun c hc=>by
  obtain⟨⟨y,c2⟩,hm,rfl⟩:=List.mem_map.mp hc
  exact hcell y c2 (S.look y c2 hm)
 have nin:∀b,s.heap.get? b=none->b∉cl.map (·.2):=fun b z hb=>by
  obtain⟨o,e⟩:=ac b hb
  obtain⟨u,e'⟩:=(e0.hok b _ e).obj
  rw [z] at e'; cases e'
 refine⟨x,T,C,zb7 (cl.map (·.2)) H H',rfl,os,bare,Un.ret (cs:=cl.map fun x=>x.2) (H:=H) un ac,HOk.ret e0.hok hok ac nC fun c hc o e=>?_,fly,nx,nT,by rw [z4l (nin _ nx)]; exact hx,by rw [z4l (nin _ nT)]; exact hT,q nC⟩
 refine un.keep c o e (z7g hc) (fun z=>?_) (by simp)
 obtain⟨o',q'⟩:=ac c hc
 have:=e0.frf c z
 rw [q'] at this
 cases this
theorem zxd(S:LamScope ps fr cl D.scope)(hr:Room (k+1) A)(e0:Env0 P w K mg base A outer s H)(hf:H f=some (zq8 D cl f c'))(hc:H c'=some (zb6 c' D.qual))(hl:vs.length=ps.length)(r:Vals vs us)(hlw:ws.length=fr.length)
  (cells:∀c∈cl.map (·.2),∃o x,H c=some (z3x c o)/\o.data=.cell x)
  (hw:∀(i:Nat) (x:Str) (v:V),fr[i]?=some x->ws[i]?=some v->∃c o u,cl.lookup x=some c/\H c=some (z3x c o)/\o.data=.cell (some u)/\RelV v u)
  (hbind:∀fd:yq,fd.params=D.params->fd.defaults=.none->fd.kwdefaults=.none->fd.scope=D.scope->bindArgs fd ⟨us,[]⟩=pure (ps.zip us))
  (hbody:Room k (A.deeper (PySem.W.envX D.qual D.scope s.heap.objs.size f (.ref c') cl))->∃t,PE (q3i P w K mg base (ps++fr) D cl f c' A outer s H E) D.body t/\t ((vs++ws).map some) (zhn (cl.map (·.2)) H) fun v H'=>(∀c∈cl.map (·.2),H' c=none)->Q v (zb7 (cl.map (·.2)) H H')) :
  codeAny (model P w) A (.call (.ref f) ⟨us,[]⟩) (CR (CX1 P w) outer P w H s Q E) s:=by
 obtain⟨⟨pm,ctv,hfo⟩,_⟩:=e0.hok f _ hf
 obtain⟨hcr,_⟩:=e0.hok c' _ hc
 have ac:AreCells (cl.map (·.2)) H:=fun c hc=>by
  obtain⟨o,_,q,_⟩:=cells c hc
  exact⟨o,q⟩
 have lim:s.heap.NoLimit:=e0.mod.nolimit.keeps fun b o e=>(e0.bs b o e).1
 refine PySem.W.kla_callFunE hr.depth hfo rfl S.co S.gen rfl hcr ?_
 rw [hbind _ rfl rfl rfl rfl]
 refine yo (wpAny_newFunctionEnv S.nocell (fun y hy=>S.par _ (y2j hy).1) (fun h₁ hns hsb=>⟨lim.fresh _ hsb,?_⟩) S.kind)
 show codeAny _ _ (.expr D.body (PySem.W.envX D.qual D.scope s.heap.objs.size f (.ref c') cl)) _ _
 have hk₁:∀b o,s.heap.get? b=some o->h₁.get? b=some o:=fun b o e=>hsb.extBut b o (yk (ye e)) (y6 _ e)
 obtain⟨t,ht,q⟩:=hbody (hr.deeper _)
 have I:=zup (K:=K) (f:=f) (c':=c') (E:=E0) (tk:=s.toks+(ps.zip us).length) S hr.hd e0 hl r hlw cells hw hns hk₁
 refine PySem.W.kla_codeExpr (y0l (ht [] _ _ _ _ (I.wish _) q) (fun u s' hs=>?_) fun e s' hs=>hs)
 obtain⟨v,H',J,rv,qv⟩:=hs
 have nC:∀c∈cl.map (·.2),H' c=none:=fun c hc=>by
  obtain⟨⟨x,c2⟩,hm,rfl⟩:=List.mem_map.mp hc
  exact J.freeC x c2 (S.look x c2 hm)
 replace qv:=qv nC
 refine⟨v,zb7 (cl.map (·.2)) H H',J.os,J.bare,Un.ret (cs:=cl.map fun x=>x.2) (H:=H) J.base ac,HOk.ret e0.hok J.hok ac nC fun c hc o e=>?_,rv,qv⟩
 refine J.base.keep c o e (z7g hc) (fun z=>?_) (by show c∉([]:List Addr); simp)
 obtain⟨o',q'⟩:=ac c hc
 have:=e0.frf c z
 rw [q'] at this
 cases this
end
end L2
namespace L2
open PySem PySem.Spec PyProof.Rows PySem.W
structure RoomH(k:Nat)(A:y01):Prop where
 dp:A.depth+3 * k+5 < recursionLimit
 un:A.units+16 * k+200 < cLine
theorem Room.h{k:Nat}{A:y01}(r:Room k A):RoomH k A:=⟨r.dp,r.un⟩
theorem Room.mark{k:Nat}{A:y01}{e:y4}(r:Room k A):RoomH k (A.mark (some e)):=⟨r.dp,r.un⟩
theorem RoomH.mono{j k:Nat}{A:y01}(r:RoomH k A)(h:j<=k):RoomH j A:=⟨by have:=r.dp; omega,by have:=r.un; omega⟩
theorem RoomH.deeper{k:Nat}{A:y01}(r:RoomH (k+1) A)(env:PySem.Env):RoomH k (A.deeper env):=
 ⟨by have:=r.dp; show A.depth+1+3 * k+5 < _; omega,by have:=r.un; show A.units+3+16 * k+200 < _; omega⟩
theorem RoomH.depth{k:Nat}{A:y01}(r:RoomH k A):A.depth < recursionLimit:=by have:=r.dp; omega
structure FnOkH(P:yf)(w:yr)(K:y3)(mg:Str->Option y4)(base:Heap)(k:Nat)(f:Addr)(fd:yq)(ps:List Str)(sp:Sp):Prop where
 len:∀vs H Q E,sp vs H Q E->vs.length=ps.length
 run:∀(A:y01) (outer:List PySem.Env) (s:y9) (H:Hp) (args:Args) (us:List y4) (vs:List V) (Q:VK) (E:XK),RoomH k A->Env0 P w K mg base A outer s H->BindsTo s fd args (ps.zip us)->Vals vs us->sp vs H Q E->
  codeAny (model P w) A (.call (.ref f) args) (CR CX0 outer P w H s Q E) s
abbrev cxH(P:yf)(w:yr)(K:y3)(mg:Str->Option y4)(base:Heap)(N:List Str)(qual:Str)(scope:Scope)(f:Addr)(cd:y4)(A:y01)(outer:List PySem.Env)(s:y9)(H:Hp):Cx:=
 {(z9g CX0 P w K mg base N qual scope f cd A outer s H E0) with calm:=false,xe:=fun _ _=>False}
theorem q36{P:yf}{w:yr}{K:y3}{mg:Str->Option y4}{base:Heap}{k:Nat}{x qual:Str}{st:Stmt}{f:Addr}{fd:yq}{N ps:List Str}{sp:Sp}(F:Fun K x qual st f fd)(S:FnScope N ps (defScope st))(len:∀vs H Q E,sp vs H Q E->vs.length=ps.length)
  (hbody:∀(cdv:y4) (A:y01) (outer:List PySem.Env) (s:y9) (H:Hp) (vs:List V) (Q:VK) (E:XK),RoomH k (A.deeper (envOfC qual (defScope st) s.heap.objs.size f cdv))->sp vs H Q E->
   ∃t,PSs (cxH P w K mg base N qual (defScope st) f cdv A outer s H) (defBody st) t/\t {nx:=fun _ H'=>Q .non H',rt:=Q} (start N vs) H):FnOkH P w K mg base (k+1) f fd ps sp:=by
 obtain⟨oc,od,kV,doc,pm,an,cdv,ct,osl,rfl,lk,hcd⟩:=F.ex
 refine⟨len,fun A outer s H args us vs Q E hr e0 hb r hsp=>?_⟩
 have hl:=len _ _ _ _ hsp
 have KX:K.In s.heap:=e0.mod.kin.keeps fun b o e=>(e0.bs b o e).1
 have lim:s.heap.NoLimit:=e0.mod.nolimit.keeps fun b o e=>(e0.bs b o e).1
 have hkind:∀y∈ps.zip us,(defScope st).names.lookup y.1=some .local\/((defScope st).names.lookup y.1=some .cell/\((cellsFrom (s.heap.objs.size+1) (defScope st).names []).lookup y.1).isSome=true):=fun⟨n,v⟩ hy=>by
  rcases S.par n (y2j hy).1 with q | q
  ·exact .inl q
  ·exact .inr ⟨q,PySem.W.cellsFrom_some _ _ _ (.inl q)⟩
 refine codeAny_call_function hr.depth (KX _ _ lk) rfl S.co S.gen rfl (PySem.W.codeRec_of KX hcd) (hb _ _ _ _ ?_)
 refine wpAny_newFunctionEnv_cells S.kind hkind fun env he s1 x=>?_
 subst he
 refine⟨lim.keeps x.toInCall.keep,codeAny_func ?_⟩
 obtain⟨t,ht,hq⟩:=hbody cdv A outer s H vs Q E (hr.deeper _) hsp
 have e1:Env0 P w K mg base {A with handled:=none} outer s H:=⟨e0.frames,e0.mod,e0.bs,e0.bsz,e0.funs,e0.frf,e0.hok,e0.bare⟩
 have J:Inv (z9g CX0 P w K mg base N qual (defScope st) f cdv {A with handled:=none} outer s H E0) [] (start N vs) H s1:=zme S rfl e1 hl r x
 have ok:=J.ok
 have okH:(cxH P w K mg base N qual (defScope st) f cdv A outer s H).Ok:=⟨ok.mod,ok.kind,ok.glob,ok.blt,ok.above,ok.inj,ok.has,ok.cab,(fun z=>nomatch z),ok.frames,ok.stk,ok.exf,ok.bs,ok.bsz,ok.noex,ok.exfs,ok.funs,ok.frf⟩
 have I:Inv (cxH P w K mg base N qual (defScope st) f cdv A outer s H) [] (start N vs) H s1:=⟨okH,J.os,J.bare,J.base,J.loc,J.cell,J.free,J.freeC,J.pin,J.hok,J.len⟩
 refine y0l (ht [] s1 (start N vs) H _ I hq) (fun fl s' hs=>?_) fun e s' hs=>False.elim hs
 have fin:∀{σ':St} {H':Hp} {v:V} {u:y4},Inv (cxH P w K mg base N qual (defScope st) f cdv A outer s H) [] σ' H' s'->RelV v u->Q v H'->CE outer P w H s Q u s':=
  fun {σ' H' v u} J rv q=>⟨v,H',J.os,J.bare,J.base,J.hok,rv,q⟩
 cases fl with
 | ret u=>
  obtain⟨v,σ',H',J,rv,q⟩:=hs
  exact fin J rv q
 | next=>
  obtain⟨σ',H',J,q⟩:=hs
  exact fin (v:=V.non) (u:=Value.none) J rfl q
 | brk=>
  obtain⟨_,_,_,q⟩:=hs
  exact False.elim q
 | cont=>
  obtain⟨_,_,_,q⟩:=hs
  exact False.elim q
end L2
namespace L2
open PySem PySem.Spec PyProof.Rows PySem.W
structure CalleeH(P:yf)(w:yr)(K:y3)(mg:Str->Option y4)(base:Heap)(x:Str)(ps:List Str)(k:Nat)(sp:Sp):Prop where
 ex:∃f fd,FnOkH P w K mg base k f fd ps sp/\mg x=some (.ref f)/\PySem.W.keepIn K (.ref f)=true/\Binds K fd ps []
def q3y(P:yf)(w:yr)(K:y3)(mg:Str->Option y4)(base:Heap)(k:Nat)(f:Addr)(H:Hp)(vs:List V)(Q:VK)(E:XK):Prop:=
 ∀(A:y01) (outer:List PySem.Env) (s:y9) (us:List y4),Room k A->Env0 P w K mg base A outer s H->Vals vs us->codeAny (model P w) A (.call (.ref f) ⟨us,[]⟩) (CR (CX1 P w) outer P w H s Q E) s
def zwb(K:y3)(R:Addr->Hp->VK->XK->Prop)(Rc:Addr)(sp:Sp)(j:Nat):TS:=fun D σ H=>∃f,σ[j]?=some (some (.ref f))/\IsLam H f/\R f H D.rt
 (fun cls _ H2=>∃C,cls=.ref C/\exmOne K (.ref C) (.ref Rc)=some true/\∀x,H2 x=none->sp [.ref x] (upd H2 x (HO.exc x C)) D.rt E0)
theorem zzo{X:Cx}{d R n g:Str}{ps:List Str}{k k2 j i q:Nat}{sp:Sp}{Rc:Addr}{dp cpos rpos rp gp npos gcpos hrpos hpos pos:Pos}
  (C:CalleeH X.prog X.w X.K X.mg X.base g ps k2 sp) (hr:Room j X.A) (hk:k<=j) (hk2:k2<=j) (hex:X.ex=[]) (hsk:X.stack=X.env::X.outer) (hfr:X.env.frame=some X.env.locals)
  (hR:X.mg R=some (.ref Rc)) (hgR:Gl X R) (hN:X.N.Nodup) (hn:X.N[i]?=some n) (hnl:X.env.kindOf n=some .local) (hq:X.N[q]?=some d) (hdv:Vis X.env.scope d)
  (hg:Gl X g) (hdd:(d == ("__debug__" : Str))=false) (hcd:(d == ("__classdict__" : Str))=false) (hdg:(g == ("__debug__" : Str))=false) (hdR:(R == ("__debug__" : Str))=false) (hdn:(n == ("__debug__" : Str))=false) (hcn:(n == ("__classdict__" : Str))=false) :
  PS X (.Try [.Return (some (.Call (.Name d dp) [] [] cpos)) rpos] [.ExceptHandler (some (.Name R rp)) (some n) [.Return (some (.Call (.Name g gp) [.Name n npos] [] gcpos)) hrpos] hpos] [] [] pos) (zwb X.K (fun f H Q E=>q3y X.prog X.w X.K X.mg X.base k f H [] Q E) Rc sp q):=by
 refine⟨?_⟩
 intro pins s σ H D I h
 obtain⟨fa,ei,hl,hRun⟩:=h
 refine wpAny_Try_except (wpAny_execs_cons (wpAny_Return_some (y19 ?_)))
 refine y0l (z1q (X:=X.nox) (pos:=dp) hq hdv hdd hcd pins s σ H (fun x' H'=>x'=.ref fa/\H'=H) (I.wish _) (isV.i ei ⟨rfl,rfl⟩)) (fun u s0 ⟨x',H',I',r',ex,eH⟩=>?_) (fun _ _ z=>False.elim z)
 subst ex eH
 cases r'
 have J:=I'.unwish
 refine PySem.W.callWith_F0 (first:=[]) (hl.at J) ?_
 refine y2v (y1j (hRun X.A X.stack s0 [] (hr.mono hk) J.env0 .nil) fun rs s' hq'=>?_)
 cases rs with
 | ok fl=>
  cases fl with
  | ret u=>
   obtain⟨v,H2,I2,r2,q2⟩:=J.after hq'
   exact⟨v,σ,H2,I2,r2,q2⟩
  | next=>exact False.elim hq'
  | brk=>exact False.elim hq'
  | cont=>exact False.elim hq'
 | error ev=>
  obtain⟨x,T,Ca,H2,rfl,os,bare,un,hok,fly,nx,nT,hx,hT,Cb,hcb,hmat,fin⟩:=hq'
  cases hcb
  have I2:=J.call' os un hok bare (fun b z=>absurd z (by simp))
  have sx:=J.strange hex nx
  have sT:=J.strange hex nT
  obtain⟨a0,fl⟩:=fly.flying
  have hfs:X.A.frames=some (X.env::X.outer):=by rw [<- hsk]; exact I.ok.frames
  refine wpAny_looks_onW (env:=X.env) (outer:=X.outer) hfs hfr (by rw [<- hsk]; exact fl) fun h3 held up3=>?_
  refine wpAny_landsW held fun h4 fl4 up4=>?_
  have up34:=up3.trans up4
  have I4:=I2.fly hex fl4.1 up34 sx sT hx hT
  have okm:(X.marked (.ref x)).Ok:=I.ok.marked
  refine wpAny_handleBy_cons (codeAny_handlers_test (zaq (I4.marked okm) hgR hR ?_ hdR)) (by intro z; cases z)
  obtain⟨ob,hob,hcl⟩:=fl4.there
  refine(exm_one I4.kIn (hcl ▸ (Looks.ld hob).andThen .now) hmat).here ?_
  refine codeAny_handlers_suite_as (lands_againW fl4 fun h5 fl5 up5=>?_)
  have I5:=I2.fly hex fl5.1 (up34.trans up5) sx sT hx hT
  obtain⟨ob5,hob5,hcl5⟩:=fl5.there
  have I6:=(I5.shown sx hx ⟨ob5,hob5,hcl5⟩).marked okm
  refine zjh (X:=X.marked (.ref x)) I6 hN hn (.inl hnl) (v:=.ref x) rfl (fun s7 I7=>?_) (.inr hnl)
  have hil:i < σ.length:=by rw [I.len]; exact(List.getElem?_eq_some_iff.mp hn).1
  obtain⟨gf,fd,F,hm,hkp,hb⟩:=C
  have hgm:Gl (X.marked (.ref x)) g:=hg
  refine wpAny_execs_cons (wpAny_Return_some (y19 (zaq I7 hgm hm ?_ hdg)))
  have ha:PA (X.marked (.ref x)) [.Name n npos] (zcu (zif i) zni):=z08 (z1q (pos:=npos) hn (.inl hnl) hdn hcn) z02
  refine y1x (h₀:=X.base) I.ok.mod.kin hkp (y0l (ha gcpos pins s7 _ _ (fun vs H'=>vs=[.ref x]/\H'=upd H2 x (HO.exc x Ca)) I7 (isV.i (v:=.ref x) (by rw [y2n hil]) ⟨rfl,rfl⟩)) (fun us s8 ⟨vs,H8,I8,r8,ev,eH⟩=>⟨I8.kIn,?_⟩) fun _ _ z=>False.elim z)
  subst ev eH
  have hsp:=fin x hx
  have hl8:us.length=ps.length:=by rw [<- r8.length]; exact F.len _ _ _ _ hsp
  have hbb:=hb s8 us I8.kIn (by rw [y06]; exact hl8)
  rw [y06] at hbb
  refine y2v (y1j (F.run (X.marked (.ref x)).A (X.marked (.ref x)).stack s8 _ ⟨us,[]⟩ us [.ref x] _ _ ((Room.mark hr).mono hk2) I8.env0 hbb r8 hsp) fun rs s9 hq9=>?_)
  cases rs with
  | error e=>exact False.elim hq9
  | ok fl=>
   cases fl with
   | ret u=>
    obtain⟨v,H9,I9,r9,q9⟩:=I8.after hq9
    have I9:=I9.unmarked I.ok
    obtain⟨m,hn9,_⟩:=id I9.loc
    refine wpAny_nameGoes_keeps hnl hn9 (by rw [I.ok.kind]; rfl) fun h10 v10 hn10 hs10=>?_
    exact⟨v,_,H9,I9.gone hN hn hn10 hn9 hs10,r9,q9⟩
   | next=>exact False.elim hq9
   | brk=>exact False.elim hq9
   | cont=>exact False.elim hq9
end L2
namespace L2
open PySem PySem.Spec PyProof.Rows PySem.W
def zjt:V->List V->Hp->VK->Prop:=fun x vs H Q=>∃(l:Addr) (bs:List Bool) (y:Bool) (j:Nat),x=.ref l/\vs=[.bl y]/\H l=some (.lst (bs.map V.bl))/\bs[j]?=some y/\(∀m,m < j->bs[m]?≠some y)/\j < 1000/\Q (.int j) H
theorem zu3{X:Cx}:MtM X "list.index" zjt:=by
 intro pins s σ H x vs v us Q I rx rv h
 obtain⟨l,bs,y,j,rfl,rfl,hH,hj,hno,hsm,q⟩:=h
 cases rx
 obtain⟨u,rfl,r1⟩:=rv.one
 cases r1
 obtain⟨z,its,n,r,hl,e⟩:=I.lstM hH
 obtain rfl:=zcm r
 have hjl:j < bs.length:=(List.getElem?_eq_some_iff.mp hj).1
 have at_:∀m (hm:m < (bs.map Value.bool).toArray.size),(bs.map Value.bool).toArray[m]=Value.bool (bs[m]'(by simpa using hm)):=fun m hm=>by simp
 refine call_meets F.slot_list_index ⟨_,e,rfl⟩ F.entry_list_index (F.args_list_index_2 _ _) (SeqAt.list_indexAt l _ n _ _ (.bool y) (fun u=>u == Value.bool y) j (by simpa using hjl) (by omega) ?_ fun m hm hlt=>?_) ⟨e,fun u hu=>?_,?_⟩
 ·rw [at_,(List.getElem?_eq_some_iff.mp hj).2]
  simp
 ·rw [at_]
  have hml:m < bs.length:=by simpa using hm
  have:=hno m hlt
  rw [yb hml] at this
  have ne:bs[m]≠y:=fun z=>this (by rw [z])
  cases hb:bs[m]<;>cases y<;>simp_all
 ·rw [List.mem_toArray] at hu
  obtain⟨b,hb,rfl⟩:=List.mem_map.mp hu
  intro prog w E Q hq
  refine SeqAt.EqAt.bool_bool b y prog w E Q ?_
  cases b<;>cases y<;>exact hq
 ·exact⟨.int _,H,I.kept (h':=s.heap) (t':=s.toks+1) fun b u e=>e,⟨_,rfl⟩,q⟩
end L2
namespace L2
open PySem PySem.Spec PyProof.Rows PySem.W
end L2
namespace L2
open PySem PySem.Spec PyProof.Rows PySem.W
structure CalleeMX(P:yf)(w:yr)(K:y3)(mg:Str->Option y4)(base:Heap)(C:Addr)(m:Str)(ps:List Str)(k:Nat)(sp:Sp):Prop where
 ex:∃f fd,FnOk P w K mg base (CX1 P w) k f fd ps sp/\Meth K C m f/\Binds K fd ps []
structure CalleeIX(P:yf)(w:yr)(K:y3)(mg:Str->Option y4)(base:Heap)(C:Addr)(ps:List Str)(k:Nat)(sp:Sp):Prop where
 ex:∃f fd,FnOk P w K mg base (CX1 P w) k f fd ps sp/\Mk K C f/\Binds K fd ps []
section
variable{X:Cx}{C:Addr}{m x:Str}{ps:List Str}{k j:Nat}{sp:Sp}{o e:Expr}{es:List Expr}{ta:TE}{t:TA}{p apos pos:Pos}{pl:Sem Bool}{E:XK}
theorem ztl(he:PE X o ta)(c:Cls X.K C)(M:CalleeMX X.prog X.w X.K X.mg X.base C m ps k sp)(hx:zf6 (CX1 X.prog X.w) X E)(hr:Room j X.A)(hk:k<=j)
  (ht:eval (.Call (.Attribute o m apos) [] [] pos) X.env=(do
   let ov <- eval o X.env
   standAt apos.atName
   let (f,first) <- holding [ov] (getMethod ov m pl)
   callWith pos f first (backTo pos (starEach [] X.env)) (backToKw pos (keywordEach [] X.env))):=by rfl):PE X (.Call (.Attribute o m apos) [] [] pos) (zgb C m sp [] E ta zni):=by
 obtain⟨f,fd,F,hm,hb⟩:=M
 exact zpy he c hm F (hr.mono hk) hb .nil hx ht
end
end L2
namespace L2
open PySem PySem.Spec PyProof.Rows PySem.W
def shw(os:List (Addr×Obj))(H:Hp):Hp:=fun b=>match os.lookup b with
 | some o=>some (z3x b o)
 | none=>H b
theorem zlk{os:List (Addr×Obj)}{H:Hp}{b:Addr}{o:Obj}(h:os.lookup b=some o):shw os H b=some (z3x b o):=by unfold shw; rw [h]
theorem zac{os:List (Addr×Obj)}{H:Hp}{b:Addr}(h:os.lookup b=none):shw os H b=H b:=by unfold shw; rw [h]
theorem z92{os:List (Addr×Obj)}{b:Addr}(h:b∉os.map (·.1)):os.lookup b=none:=by
 cases e:os.lookup b with
 | none=>rfl
 | some o=>exact absurd (List.mem_map.mpr ⟨_,mem_of_lookupK e,rfl⟩) h
theorem zef:∀{os:List (Addr×Obj)} {b:Addr},b∈os.map (·.1)->∃o,os.lookup b=some o
 | [],_,h=>absurd h (by simp)
 | (c,o)::os,b,h=>by
  by_cases e:b=c
  ·exact⟨o,by rw [List.lookup,e,beq_self_eq_true]⟩
  ·have:(b == c)=false:=by simpa using e
   rw [List.lookup,this]
   rw [yn,yz] at h
   exact zef (h.resolve_left e)
theorem z6z{os:List (Addr×Obj)}{H:Hp}(hn:∀c∈os.map (·.1),H c=none){b:Addr}{u:HO}(e:H b=some u):shw os H b=some u:=by
 rw [zac (z92 fun z=>by rw [hn b z] at e; cases e)]
 exact e
theorem zxk{os:List (Addr×Obj)}{H:Hp}(hn:∀c∈os.map (·.1),H c=none):zhn (os.map (·.1)) (shw os H)=H:=by
 funext b
 by_cases hb:b∈os.map (·.1)
 ·rw [z7g hb,hn b hb]
 ·rw [z1p hb,zac (z92 hb)]
theorem zus{cs:List Addr}{H H':Hp}(hn:∀c∈cs,H' c=none):zhn cs (zb7 cs H H')=H':=by
 funext b
 by_cases hb:b∈cs
 ·rw [z7g hb,hn b hb]
 ·rw [z1p hb,z4l hb]
def q1k(X:Cx)(cs:List (Nat×Addr)):Prop:=∀q∈cs,∃y,X.N[q.1]?=some y/\X.env.cells.lookup y=some q.2/\X.env.kindOf y=some .cell/\X.fn y=true
def zg6(os:List (Addr×Obj))(ws:List V):Prop:=Paired (fun(q:Addr×Obj) (v:V)=>∃u,q.2.data=.cell (some u)/\RelV v u) os ws
def q4x(σ : St)(cs:List (Nat×Addr))(ws:List V):Prop:=Paired (fun(q:Nat×Addr) (v:V)=>σ[q.1]?=some (some v)) cs ws
theorem zqs{X:Cx}{pins:List (Addr×Obj)}{σ : St}{H:Hp}{s:y9}(I:Inv X pins σ H s):∀{cs:List (Nat×Addr)} {ws:List V},q1k X cs->q4x σ cs ws->
  ∃os:List (Addr×Obj),os.map (·.1)=cs.map (·.2)/\zg6 os ws/\∀q∈os,s.heap.get? q.1=some q.2
 | [],_,_,.nil=>⟨[],rfl,.nil,by simp⟩
 | (i,c)::cs,v::ws,hs,.cons e r=>by
  obtain⟨os,e1,e2,e3⟩:=zqs I (fun q hq=>hs q (.tail _ hq)) r
  obtain⟨y,hN,hc,hy,_⟩:=hs _ y0f
  obtain⟨m,hn,hl⟩:=id I.loc
  obtain⟨u,ru,l⟩:=hl i y v hN e (.inr (.inl hy))
  have hcell:s.heap.IsCell c (some u):=by
   rcases l with⟨hk',_⟩ | ⟨_,c2,e2,z⟩
   ·rw [hy] at hk'; cases hk'
   ·rw [hc] at e2; cases e2; exact z
  obtain⟨o,ho,hd⟩:=hcell
  refine⟨(c,o)::os,by rw [yn,yn,e1],.cons ⟨u,hd,ru⟩ e2,fun q hq=>?_⟩
  rcases List.mem_cons.mp hq with rfl | hq
  ·exact ho
  ·exact e3 q hq
def zj1(sp:Sp)(cs:List (Nat×Addr))(t:TA):TE:=fun σ H Q=>t σ H fun vs H1=>∃ws,q4x σ cs ws/\
 ∀os:List (Addr×Obj),os.map (·.1)=cs.map (·.2)->zg6 os ws->(∀c∈os.map (·.1),H1 c=none)->
  sp vs (shw os H1) (fun y H2=>(∀c o,os.lookup c=some o->H2 c=some (z3x c o))/\Q y (zhn (os.map (·.1)) H2)) E0
theorem zrh{X:Cx}{x:Str}{cs:List (Nat×Addr)}{ps:List Str}{k j:Nat}{sp:Sp}{e:Expr}{es:List Expr}{t:TA}{p pos:Pos}(C:Callee X.prog X.w X.K X.mg X.base x ps k sp)(hr:Room j X.A)(hk:k<=j)(ha:PA X (e::es) t)
  (hcs:q1k X cs) (hg:Gl X x:=by rfl) (hdb:(x == ("__debug__" : Str))=false:=by decide) (hst:z2b (e::es)=true:=by rfl) :
  PE X (.Call (.Name x p) (e::es) [] pos) (zj1 sp cs t):=by
 have hst':=hst
 rw [z2b,yw,y09] at hst'
 have he:=z0z (es:=es) (env:=X.env) hst'.1
 have hpl:=z2a (pos:=pos) (env:=X.env) hst'.2
 obtain⟨f,fd,F,hm,hkp,hb⟩:=C
 refine⟨?_⟩
 intro pins s σ H Q I h
 refine y19 (zaq I hg hm ?_ hdb)
 refine y1x (h₀:=X.base) I.ok.mod.kin hkp (thn (ha pos pins s σ H _ I h) fun us s1 ⟨vs,H1,I1,r,ws,hw,q⟩=>⟨I1.kIn,?_⟩) he hpl
 obtain⟨os,em,hca,ho⟩:=zqs I1 hcs hw
 have inC:∀c∈os.map (·.1),∃y,X.env.cells.lookup y=some c/\X.fn y=true:=fun c hc=>by
  rw [em] at hc
  obtain⟨q,hq,rfl⟩:=List.mem_map.mp hc
  obtain⟨y,_,h1,_,h2⟩:=hcs q hq
  exact⟨y,h1,h2⟩
 have hcn:∀c∈os.map (·.1),H1 c=none:=fun c hc=>by
  obtain⟨y,h1,_⟩:=inC c hc
  exact I1.freeC y c h1
 have q':=q os em hca hcn
 have hoo:∀{c:Addr} {o:Obj},os.lookup c=some o->s1.heap.get? c=some o:=fun z=>ho _ (mem_of_lookupK z)
 have hH:HOk X.prog X.w (shw os H1) s1.heap:=fun b w e=>by
  cases hb:os.lookup b with
  | some o=>
   rw [zlk hb] at e
   cases e
   exact⟨hoo hb,⟨o,hoo hb⟩,fun h1 h2 z k=>k _ z⟩
  | none=>
   rw [zac hb] at e
   exact(I1.hok b w e).stay (fun _ _ _ q=>q) (fun d z=>z6z hcn z) fun d xs z=>z6z hcn z
 have cfs:∀c∈os.map (·.1),c∉frs X.stack:=fun c hc z=>by
  obtain⟨y,h1,h2⟩:=inC c hc
  rcases List.mem_cons.mp (I1.stkSub c z) with z | z
  ·exact I1.cne y c h1 z
  ·obtain⟨_,ob,hob,_⟩:=I1.ok.funs.mem z
   exact absurd (yu (ye hob) (I1.ok.cab y c h2 h1)) (y0i _)
 have e0:Env0 X.prog X.w X.K X.mg X.base X.A X.stack s1 (shw os H1):=by
  have z:=I1.env0
  refine⟨z.frames,z.mod,fun b ob e=>⟨(z.bs b ob e).1,?_⟩,z.bsz,z.funs,fun b hb=>?_,hH,z.bare⟩
  ·rw [zac (z92 fun w=>?_)]
   ·exact(z.bs b ob e).2
   ·obtain⟨y,h1,h2⟩:=inC b w
    have:=ye (I1.ok.bs b ob e).1
    exact absurd (yu this (I1.ok.cab y b h2 h1)) (y0i _)
  ·rw [zac (z92 fun w=>cfs b w hb)]
   exact z.frf b hb
 have hln:us.length=ps.length:=by rw [<- r.length]; exact F.len _ _ _ _ q'
 have hbd:=hb s1 us I1.kIn (by rw [y06]; exact hln)
 rw [y06] at hbd
 refine y2v (y1j (F.run X.A X.stack s1 _ ⟨us,[]⟩ us vs _ E0 (hr.mono hk) e0 hbd r q') fun r s' hq=>?_)
 cases r with
 | error e=>exact False.elim hq
 | ok fl=>
  cases fl with
  | next=>exact False.elim hq
  | brk=>exact False.elim hq
  | cont=>exact False.elim hq
  | ret u2=>
   obtain⟨v2,H2,os',bare,un,hok,rv,hc2,q2⟩:=hq
   have ac:AreCells (os.map (·.1)) H2:=fun b hb=>by
    obtain⟨o,e⟩:=zef hb
    exact⟨o,hc2 _ _ e⟩
   have out:∀{b:Addr} {u:HO},H1 b=some u->b∉os.map (·.1):=fun e z=>by rw [hcn _ z] at e; cases e
   refine⟨v2,zhn (os.map (·.1)) H2,I1.call' os' (ch:=[]) ⟨fun b ob e n hb hx=>?_,fun b ob e n hb hx=>?_,fun b ob e n hx=>?_,fun b ob e hx=>un.there b ob e hx,fun b xs e=>?_,fun b ob w e=>?_,fun b qs e=>?_⟩ (hok.hid ac) bare (fun b z=>absurd z (by simp)),rv,q2⟩
   ·cases hbc:os.lookup b with
    | some o=>rw [hoo hbc] at e; cases e; exact(hok b _ (hc2 _ _ hbc)).1
    | none=>exact un.keep b ob e (by rw [zac hbc]; exact n) hb hx
   ·cases hbc:os.lookup b with
    | some o=>exact absurd hb (cfs b (List.mem_map.mpr ⟨_,mem_of_lookupK hbc,rfl⟩))
    | none=>exact un.slot b ob e (by rw [zac hbc]; exact n) hb hx
   ·cases hbc:os.lookup b with
    | some o=>exact z7g (List.mem_map.mpr ⟨_,mem_of_lookupK hbc,rfl⟩)
    | none=>exact z5a (un.free b ob e (by rw [zac hbc]; exact n) hx)
   ·rw [z1p (out e)]
    exact un.tups b xs (z6z hcn e)
   ·rw [z1p (out e)]
    exact un.frzs b ob w (z6z hcn e)
   ·rw [z1p (out e)]
    exact un.tbls b qs (z6z hcn e)
end L2
namespace L2
open PySem PySem.Spec PyProof.Rows PySem.W
section
variable{prog:yf}{w:yr}{A:y01}{E:y4->y9->Prop}{s:y9}{d I:Addr}{es:Array DictEntry}{ep i:Nat}{o:Obj}
end
end L2
namespace L2
open PySem PySem.Spec PyProof.Rows PySem.W
section
variable{X:Cx}{pins:List (Addr×Obj)}{σ : St}{H:Hp}{s:y9}
end
section
variable{d:Addr}{o:Obj}{u:HO}{ks:List V}{g:TG}{tb:TS}{D:Ends}{σ : St}{H:Hp}{tt:TT}{te:TE}{Q:VK}
end
end L2
namespace L2
open PySem PySem.Spec PyProof.Rows PySem.W
theorem zu5:∀a b:List Int,a≠b->ltI a b=true\/ltI b a=true
 | [],[],h=>absurd rfl h
 | [],_::_,_=>.inl rfl
 | _::_,[],_=>.inr rfl
 | x::a,y::b,h=>by
  unfold ltI
  by_cases e:x=y
  ·subst e
   simp only[if_pos]
   exact zu5 a b fun z=>h (by rw [z])
  ·rw [if_neg e,if_neg (y1y e)]
   simp only[decide_eq_true_eq]
   omega
theorem zm7:∀{a b c:List Int},ltI a b=true->ltI b c=true->ltI a c=true
 | [],_::_,_::_,_,_=>rfl
 | [],[],_,h,_=>by simp[ltI] at h
 | _,_::_,[],_,h=>by simp[ltI] at h
 | _::_,[],_,h,_=>by simp[ltI] at h
 | x::a,y::b,z::c,h1,h2=>by
  unfold ltI at h1 h2 |-
  by_cases e1:x=y
  ·subst e1
   rw [if_pos rfl] at h1
   by_cases e2:x=z
   ·subst e2
    rw [if_pos rfl] at h2 |-
    exact zm7 h1 h2
   ·rw [if_neg e2] at h2 |-
    exact h2
  ·rw [if_neg e1] at h1
   have h1':=of_decide_eq_true h1
   by_cases e2:y=z
   ·subst e2
    rw [if_neg e1]
    exact h1
   ·rw [if_neg e2] at h2
    have h2':=of_decide_eq_true h2
    rw [if_neg (by omega)]
    exact decide_eq_true (by omega)
theorem zqc{α : Type}(x:List Int×α):∀z:List (List Int×α),z.Pairwise (fun p q=>ltI p.1 q.1=true)->(∀y∈z,y.1≠x.1)->∃z':List (List Int×α),z'.Perm (x::z)/\z'.Pairwise (fun p q=>ltI p.1 q.1=true)
 | [],_,_=>⟨[x],.refl _,List.pairwise_singleton _ _⟩
 | y::z,h,n=>by
  obtain⟨h1,h2⟩:=List.pairwise_cons.mp h
  rcases zu5 x.1 y.1 (y1y (n y (.head _))) with c | c
  ·exact⟨x::y::z,.refl _,List.pairwise_cons.mpr ⟨fun w hw=>by
    rcases List.mem_cons.mp hw with rfl | hw
    ·exact c
    ·exact zm7 c (h1 w hw),h⟩⟩
  ·obtain⟨z',p,r⟩:=zqc x z h2 fun w hw=>n w (.tail _ hw)
   refine⟨y::z',(p.cons y).trans (.swap ..),List.pairwise_cons.mpr ⟨fun w hw=>?_,r⟩⟩
   rcases List.mem_cons.mp (p.mem_iff.mp hw) with rfl | hw
   ·exact c
   ·exact h1 w hw
theorem zv0{α : Type}:∀l:List (List Int×α),(l.map (·.1)).Nodup->∃z:List (List Int×α),z.Perm l/\z.Pairwise (fun p q=>ltI p.1 q.1=true)
 | [],_=>⟨[],.refl _,.nil⟩
 | x::l,h=>by
  obtain⟨h1,h2⟩:=List.nodup_cons.mp h
  obtain⟨z,p,r⟩:=zv0 l h2
  obtain⟨z',p',r'⟩:=zqc x z r fun y hy e=>h1 (List.mem_map.mpr ⟨y,p.mem_iff.mp hy,e⟩)
  exact⟨z',p'.trans (p.cons x),r'⟩
section
variable{prog:yf}{w:yr}{A:y01}{E:y4->y9->Prop}{s:y9}{d:Addr}{es:Array DictEntry}{ep:Nat}{o:Obj}
end
theorem zox(H:Hp):∀p:List Int,DtA H (p.map V.int) (p.map Dm.int)
 | []=>.nil
 | x::p=>.cons (.int x) (zox H p)
theorem q2z{X:Cx}{pins:List (Addr×Obj)}{σ : St}{H:Hp}{s:y9}(I:Inv X pins σ H s){a:Addr}{p:List Int}(h:H a=some (.tup (p.map V.int))):IsTupleKey (intKind X.prog X.w) s.heap p a:=by
 have:=(zmp (ps:=[p]) (vs:=[.ref a]) I (.cons (.tup h (zox H p)) .nil)).2.2 0 (show 0 < 1 by decide)
 exact this
end L2
namespace L2
open PySem PySem.Spec PyProof.Rows PySem.W
abbrev zkj(x0:y4)(d:Addr)(i n ep:Nat)(ok ov:y4):Obj:={cls:=.type "dict_itemiterator",data:=.fields #[x0,.bool false,.ref d,.int i 0,.int n 0,.int ep 0,ok,ov]}
section
variable{prog:yf}{w:yr}{A:y01}{E:y4->y9->Prop}{s:y9}{d I:Addr}{en:DictEntry}{ep:Nat}{o:Obj}
end
end L2
namespace L2
open PySem PySem.Spec PyProof.Rows PySem.W
section
variable{prog:yf}{w:yr}{A:y01}{E:y4->y9->Prop}{s:y9}{d I:Addr}{en:DictEntry}{ep:Nat}{o:Obj}
end
end L2
namespace L2
open PySem PySem.Spec PyProof.Rows PySem.W
section
variable{prog:yf}{w:yr}{A:y01}{E:y4->y9->Prop}{s:y9}{d I S:Addr}{en:DictEntry}{ep:Nat}{o:Obj}{R:Result->y9->Prop}
abbrev pairO(en:DictEntry):Obj:={cls:=.type "tuple",data:=.seq #[en.key,en.val]}
end
end L2
namespace L2
open PySem PySem.Spec PyProof.Rows PySem.W
def zo4:V->Hp->VK->Prop:=fun x H Q=>∃(d:Addr) (kvs:List (List Key×V)),x=.ref d/\H d=some (.dT kvs)/\∀p,H p=none->Q (.ref p) (upd H p (zc0 p d))
def zno(td:TE):TE:=fun σ H Q=>td σ H fun x H1=>zo4 x H1 Q
section
variable{X:Cx}
set_option maxHeartbeats 4000000 in
theorem ztm{o:Expr}{apos cpos:Pos}{td:TE}(ho:PE X o td) (hbase:attributeBase o "items" X.env (eval o X.env)=eval o X.env:=by rfl)
  (hfew:((backTo cpos (starEach [] X.env)).all (fun x=>!x.1) && (backToKw cpos (keywordEach [] X.env)).all (fun x=>x.1.isSome)
   && decide (([]:List Expr).length+([]:List Keyword).length+(if([]:List Keyword).isEmpty then 0 else 1) < 30))=true:=by rfl)
  (hline:(apos.endLine == cpos.line)=true:=by rfl):PE X (.Call (.Attribute o "items" apos) [] [] cpos) (zno td):=by
 refine⟨?_⟩
 intro pins s σ H Q I h
 refine wpAny_Call_method hbase hfew hline PySem.F.plainAttrs_dict PySem.F.slot_dict_items PySem.F.type_dict_items (thn (ho pins s σ H _ I h) fun u s1 ⟨x,H1,I1,rx,q1⟩=>?_)
 obtain⟨d,kvs,rfl,hH,q⟩:=q1
 obtain rfl:u=Value.ref d:=rx
 obtain⟨t1,t2,_⟩:=zun I1 (.inr ⟨kvs,.inl hH⟩)
 refine⟨t1,t2,?_⟩
 refine y2l rfl (PyProof.Rows.evalArgs_nil3 ?_)
 obtain⟨z,lo,ys,rel,ob,es,ep,hob,hx,hd,hes,hn⟩:=(show ObjOk X.prog X.w H1 s1.heap d (.dT kvs) from I1.hok d _ hH)
 have hT:s1.TypeIs (.ref d) "dict":=⟨_,hob,hx.1⟩
 refine y0m F.slot_dict_items hT F.entry_dict_items ?_ (F.args_dict_items_1 _)
 unfold Builtin.«dict.items»
 wp_walk
 rw [hx.1,if_neg (by decide)]
 wp_walk
 have e:=yi s1.heap (o:={cls:=.type "dict_items",data:=.fields #[.ref d]}) rfl
 exact⟨_,rfl,.ref s1.heap.objs.size,_,I1.laid (t':=s1.toks) (fun b u q=>y6 _ q) (yg _) (show ObjOk X.prog X.w _ _ _ (zc0 s1.heap.objs.size d) from⟨⟨_,e,rfl,rfl⟩,⟨_,e⟩,fun h1 h2 ⟨o,e1,r⟩ y=>⟨o,y _ e1,r⟩⟩),rfl,q _ (I1.hok.fresh (yg _))⟩
end
end L2
namespace L2
open PySem PySem.Spec PyProof.Rows PySem.W
abbrev zrw(a:Addr)(f:Bool)(d:Addr)(i n ep:Nat)(ok ov:y4):Obj:={cls:=.type "dict_itemiterator",data:=.fields #[rawInt a,.bool f,.ref d,.int i 0,.int n 0,.int ep 0,ok,ov]}
section
variable{prog:yf}{w:yr}{A:y01}{E:y4->y9->Prop}{s:y9}{d I a:Addr}{es:Array DictEntry}{en:DictEntry}{ep i:Nat}{o oa:Obj}{f:Bool}{k v:y4}
set_option maxHeartbeats 4000000 in
theorem zu1{Q:Option y4->y9->Prop}(hh:A.handled=none)(eI:s.heap.get? I=some (zrw a f d i es.size ep k v))(ea:s.heap.get? a=some oa)(nai:a≠I)(e:s.heap.get? d=some o)(dd:o.data=.dict es ep)(ei:es[i]?=some en)
  (q1:∀h' f',Heap.ExtBut I s.heap h'->h'.get? s.heap.objs.size=some {cls:=.type "tuple",data:=.seq #[en.key,en.val]}->h'.get? I=some (zrw a f' d (i+1) es.size ep k v)->Q (some (.ref s.heap.objs.size)) {s with heap:=h'}):wpAny (model prog w) A (pyNext (.ref I)) Q E s:=by
 have hT:s.TypeIs (.ref I) "dict_itemiterator":=⟨_,eI,rfl⟩
 unfold pyNext
 refine yc (y2c (y0s (name:="__next__") hT y0z (y0m y0z hT F.entry_dict_itemiterator_next ?_ (y2t _))))
 unfold Builtin.«dict_itemiterator.__next__»
 wp_walk using wpAny_dictEntries e dd,wpAny_dictEpoch e dd
 rw [if_neg (show ¬ ((i:Int) < 0) by omega),show((i:Int)).toNat=i from rfl,ei]
 wp_walk
 rw [if_pos (show Builtin.Dict_items.ownsTuple ((Manifest.find? "dict_itemiterator").elim "dict_itemiterator" fun x=>x.tpName)=true by decide+kernel),if_neg]
 ·have e1:(s.heap.update I (Obj.mapFields fun x=>x.setIfInBounds (2+1) (rawInt ((i:Int)+1)))).get? I=some (zrw a f d (i+1) es.size ep k v):=y02 _ eI rfl
  have s1:Heap.SameBut I s.heap (s.heap.update I (Obj.mapFields fun x=>x.setIfInBounds (2+1) (rawInt ((i:Int)+1)))):=yx ..
  generalize s.heap.update I (Obj.mapFields fun x=>x.setIfInBounds (2+1) (rawInt ((i:Int)+1)))=h1 at e1 s1 |-
  have hl:I < s.heap.objs.size:=ye eI
  rw [s1.1]
  have e2:(h1.push {cls:=.type "tuple",data:=.seq #[en.key,en.val]}).get? I=some (zrw a f d (i+1) es.size ep k v):=y6 _ e1
  have t2:(h1.push {cls:=.type "tuple",data:=.seq #[en.key,en.val]}).get? s.heap.objs.size=some {cls:=.type "tuple",data:=.seq #[en.key,en.val]}:=by rw [<- s1.1]; exact yi _ rfl
  have x2:Heap.ExtBut I s.heap (h1.push {cls:=.type "tuple",data:=.seq #[en.key,en.val]}):=s1.extBut.push _
  have a2:=x2 a oa nai ea
  generalize h1.push {cls:=.type "tuple",data:=.seq #[en.key,en.val]}=h2 at e2 t2 x2 a2 |-
  refine kdx_alive (s:=⟨h2,s.gens,s.drawn,s.toks,s.os⟩) a2 ?_
  cases f with
  | true=>
   wp_walk
   exact⟨_,rfl,yo (q1 h2 true x2 t2 e2)⟩
  | false=>
   wp_walk
   exact⟨_,rfl,yo (q1 _ true (fun b u hb hu=>(yx ..).extBut b u hb (x2 b u hb hu)) ((yx ..).extBut _ _ (y0k hl) t2) (y02 _ e2 rfl))⟩
 ·decide+kernel
set_option maxHeartbeats 4000000 in
theorem zrs{Q:Option y4->y9->Prop}(hh:A.handled=none)(eI:s.heap.get? I=some (zkj .none d 0 es.size ep .none .none))(e:s.heap.get? d=some o)(dd:o.data=.dict es ep)(ei:es[0]?=some en)
  (q1:∀h',Heap.ExtBut I s.heap h'->h'.get? s.heap.objs.size=some {cls:=.type "tuple",data:=.seq #[en.key,en.val]}->h'.get? I=some (zrw s.heap.objs.size false d 1 es.size ep en.key en.val)->Q (some (.ref s.heap.objs.size)) {s with heap:=h'}):wpAny (model prog w) A (pyNext (.ref I)) Q E s:=by
 have hT:s.TypeIs (.ref I) "dict_itemiterator":=⟨_,eI,rfl⟩
 unfold pyNext
 refine yc (y2c (y0s (name:="__next__") hT y0z (y0m y0z hT F.entry_dict_itemiterator_next ?_ (y2t _))))
 unfold Builtin.«dict_itemiterator.__next__»
 wp_walk using wpAny_dictEntries e dd,wpAny_dictEpoch e dd
 rw [if_neg (show ¬ (((0:Nat):Int) < 0) by omega),show(((0:Nat):Int)).toNat=0 from rfl,ei]
 wp_walk
 rw [if_pos (show Builtin.Dict_items.ownsTuple ((Manifest.find? "dict_itemiterator").elim "dict_itemiterator" fun x=>x.tpName)=true by decide+kernel),if_neg]
 ·have e1:(s.heap.update I (Obj.mapFields fun x=>x.setIfInBounds (2+1) (rawInt (((0:Nat):Int)+1)))).get? I=some (zkj .none d 1 es.size ep .none .none):=y02 _ eI rfl
  have s1:Heap.SameBut I s.heap (s.heap.update I (Obj.mapFields fun x=>x.setIfInBounds (2+1) (rawInt (((0:Nat):Int)+1)))):=yx ..
  generalize s.heap.update I (Obj.mapFields fun x=>x.setIfInBounds (2+1) (rawInt (((0:Nat):Int)+1)))=h1 at e1 s1 |-
  have hl:I < s.heap.objs.size:=ye eI
  rw [s1.1]
  have e2:(h1.push {cls:=.type "tuple",data:=.seq #[en.key,en.val]}).get? I=some (zkj .none d 1 es.size ep .none .none):=y6 _ e1
  have t2:(h1.push {cls:=.type "tuple",data:=.seq #[en.key,en.val]}).get? s.heap.objs.size=some {cls:=.type "tuple",data:=.seq #[en.key,en.val]}:=by rw [<- s1.1]; exact yi _ rfl
  have x2:Heap.ExtBut I s.heap (h1.push {cls:=.type "tuple",data:=.seq #[en.key,en.val]}):=s1.extBut.push _
  refine⟨_,rfl,yo (q1 _ (fun b u hb hu=>?_) ?_ (y02 _ (y02 _ (y02 _ (y02 _ e2 rfl) rfl) rfl) rfl))⟩
  ·exact(yx ..).extBut b u hb ((yx ..).extBut b u hb ((yx ..).extBut b u hb ((yx ..).extBut b u hb (x2 b u hb hu))))
  ·have hb:s.heap.objs.size≠I:=y0k hl
   exact(yx ..).extBut _ _ hb ((yx ..).extBut _ _ hb ((yx ..).extBut _ _ hb ((yx ..).extBut _ _ hb t2)))
 ·decide+kernel
set_option maxHeartbeats 4000000 in
theorem zm5{Q:Option y4->y9->Prop}{x0:y4}(hh:A.handled=none) (eI:s.heap.get? I=some {cls:=.type "dict_itemiterator",data:=.fields #[x0,.bool f,.ref d,.int i 0,.int es.size 0,.int ep 0,k,v]}) (e:s.heap.get? d=some o) (dd:o.data=.dict es ep) (ei:es[i]?=none)
  (q2:∀h',Heap.ExtBut I s.heap h'->Q none {s with heap:=h'}):wpAny (model prog w) A (pyNext (.ref I)) Q E s:=by
 have hT:s.TypeIs (.ref I) "dict_itemiterator":=⟨_,eI,rfl⟩
 unfold pyNext
 refine yc (y2c (y0s (name:="__next__") hT y0z (y0m y0z hT F.entry_dict_itemiterator_next ?_ (y2t _))))
 unfold Builtin.«dict_itemiterator.__next__»
 wp_walk using wpAny_dictEntries e dd,wpAny_dictEpoch e dd
 rw [if_neg (show ¬ ((i:Int) < 0) by omega),show((i:Int)).toNat=i from rfl,ei]
 wp_walk
 rw [raiseNew]
 wp_walk
 refine wpAny_of_eq isSubtype_stop (yo ?_)
 exact q2 _ (((yx ..).extBut.push _).push _)
end
end L2
namespace L2
open PySem PySem.Spec PyProof.Rows PySem.W
section
variable{prog:yf}{w:yr}{A:y01}{E:y4->y9->Prop}{s:y9}{d I S:Addr}{es:Array DictEntry}{ep:Nat}{o:Obj}{R:Result->y9->Prop}
set_option maxHeartbeats 4000000 in
theorem zxi{Q:y4->y9->Prop}{r:Addr}(hv:s.heap.IsItemsView r d)(e:s.heap.get? d=some o)(x:o.ExactDict)(dd:o.data=.dict es ep)(q:Q (.ref s.heap.objs.size) {s with heap:=s.heap.push (zkj .none d 0 es.size ep .none .none)}):wpAny (model prog w) A (pyIter (.ref r)) Q E s:=by
 obtain⟨⟨cv,xv,dv,sv⟩,ev,c1,d1⟩:=hv
 have c1:cv=.type "dict_items":=c1
 have d1:dv=.fields #[.ref d]:=d1
 subst c1 d1
 have hT:s.TypeIs (.ref r) "dict_items":=⟨_,ev,rfl⟩
 refine wpAny_pyIter_slot hT F.slot_dict_items_iter (y0m F.slot_dict_items_iter hT F.entry_dict_items_iter ?_ (F.args_dict_items_iter_1 _))
 unfold Builtin.«dict_items.__iter__»
 wp_walk using wpAny_dictEntries e dd,wpAny_dictEpoch e dd
 rw [if_pos (show Builtin.Dict_items.ownsTuple "dict_itemiterator" = true by decide+kernel)]
 exact⟨_,rfl,"dict_itemiterator",_,⟨_,yi _ rfl,rfl⟩,F.slot_dict_itemiterator_next.lookup,q⟩
def JSt(h:Heap)(I d S:Addr)(i n ep:Nat):Prop:=(i=0/\h.get? I=some (zkj .none d 0 n ep .none .none))\/∃a f k v oa,h.get? I=some (zrw a f d i n ep k v)/\h.get? a=some oa/\a≠I/\a≠S
structure JG(es:Array DictEntry)(lo:Addr)(h:Heap)(as:List Addr):Prop where
 rise:as.Pairwise (· < ·)
 above:∀a∈as,lo < a
 at_:∀(j:Nat) (a:Addr),as[j]?=some a->∃en,es[j]?=some en/\h.get? a=some (pairO en)
theorem JG.there{lo:Addr}{h:Heap}{as:List Addr}(g:JG es lo h as){a:Addr}(ha:a∈as):a < h.objs.size:=by
 obtain⟨j,hj⟩:=List.mem_iff_getElem?.mp ha
 obtain⟨_,_,e⟩:=g.at_ j a hj
 exact ye e
theorem JG.keep{lo:Addr}{h h':Heap}{as:List Addr}(g:JG es lo h as)(k:∀a∈as,∀u,h.get? a=some u->h'.get? a=some u):JG es lo h' as:=⟨g.rise,g.above,fun j a hj=>by
 obtain⟨en,e1,e2⟩:=g.at_ j a hj
 exact⟨en,e1,k a (yv hj) _ e2⟩⟩
theorem JG.snoc{lo:Addr}{h:Heap}{as:List Addr}{a:Addr}{en:DictEntry}(g:JG es lo h as)(h1:∀b∈as,b < a)(h2:lo < a)(e:es[as.length]?=some en)(ea:h.get? a=some (pairO en)):JG es lo h (as++[a]):=by
 refine⟨List.pairwise_append.mpr ⟨g.rise,List.pairwise_singleton _ _,fun x hx y hy=>by rw [List.mem_singleton.mp hy]; exact h1 x hx⟩,fun x hx=>?_,fun j x hj=>?_⟩
 ·rcases List.mem_append.mp hx with hx | hx
  ·exact g.above x hx
  ·rw [List.mem_singleton.mp hx]; exact h2
 ·by_cases hl:j < as.length
  ·rw [y2a hl] at hj
   exact g.at_ j x hj
  ·rw [y27 (by omega)] at hj
   have z:j - as.length=0:=by
    cases hz:j - as.length with
    | zero=>rfl
    | succ m=>rw [hz] at hj; simp at hj
   rw [z] at hj
   have:a=x:=by simpa using hj
   subst this
   have:j=as.length:=by omega
   subst this
   exact⟨en,e,ea⟩
theorem q0a(f:Array y4->Array y4)(xs:Array y4)(c:Nat):∃c2,Obj.mapSeq f (seqObj "list" xs c)=seqObj "list" (f xs) c2:=⟨_,rfl⟩
theorem zxb{res:y4}(hh:A.handled=none)(hSI:S < I)(hSd:d≠S)(hId:d≠I)(hn:es.size<=sizeLine)(dd:o.data=.dict es ep){h0:Heap}
  (q:∀h' tk c as,(∀b u,b≠S->b≠I->h0.get? b=some u->h'.get? b=some u)->as.length=es.size->JG es I h' as->h'.get? S=some (seqObj "list" (as.map Value.ref).toArray c)->R (.ok (.ret res)) {s with heap:=h',toks:=tk}) :
  ∀(m i:Nat) (h:Heap) (tk c:Nat) (as:List Addr),es.size - i=m->i<=es.size->JSt h I d S i es.size ep->h.get? d=some o->(∀b u,b≠S->b≠I->h0.get? b=some u->h.get? b=some u)->h.get? S=some (seqObj "list" (as.map Value.ref).toArray c)->as.length=i->JG es I h as->I < h.objs.size->
   codeAny (model prog w) A (.builtin "list.extend.loop" ⟨[.ref S,.ref I,res],[]⟩) R {s with heap:=h,toks:=tk}:=by
 have nSI:S≠I:=yk hSI
 intro m
 induction m with
 | zero=>
  intro i h tk c as hm hi st e k0 eS hl g hIs
  have hin:i=es.size:=by omega
  refine y1n F.entry_extend_loop ?_; rw [y13 y2h _]
  show wpAny _ A.in1 (pyNext (.ref I) >>= _) _ _ _
  have fin:∀h',Heap.ExtBut I h h'->R (.ok (.ret res)) {s with heap:=h',toks:=tk}:=fun h' x=>q h' tk c as (fun b u n1 n2 y=>x b u n2 (k0 b u n1 n2 y)) (by omega) (g.keep fun a ha u y=>x a u (y0k (g.above a ha)) y) (x S _ nSI eS)
  rcases st with⟨rfl,eI⟩ | ⟨a,f,kk,v,oa,eI,_,_,_⟩
  ·exact yc (zm5 (s:={s with heap:=h,toks:=tk}) (A:=A.in1) (es:=es) (i:=0) hh eI e dd (y2m (by omega)) fun h' x=>yo (fin h' x))
  ·exact yc (zm5 (s:={s with heap:=h,toks:=tk}) (A:=A.in1) (es:=es) (i:=i) hh eI e dd (y2m (by omega)) fun h' x=>yo (fin h' x))
 | succ m ih=>
  intro i h tk c as hm hi st e k0 eS hl g hIs
  have hlt:i < es.size:=by omega
  obtain⟨en,ei⟩:∃en,es[i]?=some en:=⟨es[i],Array.getElem?_eq_getElem hlt⟩
  have lS:S < h.objs.size:=ye eS
  refine y1n F.entry_extend_loop ?_; rw [y13 y2h _]
  show wpAny _ A.in1 (pyNext (.ref I) >>= _) _ _ _
  have step:∀h1,Heap.ExtBut I h h1->h1.get? h.objs.size=some (pairO en)->JSt h1 I d S (i+1) es.size ep->wpAny (model prog w) A.in1 (updateSeq S (·.push (Value.ref h.objs.size)) >>= fun _=>pure (PySem.Fin.again (.builtin "list.extend.loop" ⟨[.ref S,.ref I,res],[]⟩)))
    (fun(fin:PySem.Fin) s'=>match fin with | .done f=>R (.ok f) s' | .again c'=>c'.quiet=true/\codeAny (model prog w) A c' R s') (fun e s'=>R (.error e) s') {s with heap:=h1,toks:=tk}:=fun h1 x1 t1 st1=>by
   have eS1:=x1 S _ nSI eS
   have up:∀b u,b≠S->h1.get? b=some u->(h1.update S (Obj.mapSeq (·.push (Value.ref h.objs.size)))).get? b=some u:=fun b u hb y=>(y1b _ _ (y1y hb)).trans y
   have st2:JSt (h1.update S (Obj.mapSeq (·.push (Value.ref h.objs.size)))) I d S (i+1) es.size ep:=by
    rcases st1 with⟨z,_⟩ | ⟨a,f,kk,v,oa,eI,ea,n1,n2⟩
    ·omega
    ·exact .inr ⟨a,f,kk,v,oa,up _ _ (y1y nSI) eI,up _ _ n2 ea,n1,n2⟩
   have tt:=up _ _ (y0k lS) t1
   have g2:=(g.keep (h':=h1.update S (Obj.mapSeq (·.push (Value.ref h.objs.size)))) fun a ha u y=>up a u (y0k (y0v hSI (g.above a ha))) (x1 a u (y0k (g.above a ha)) y)).snoc (a:=h.objs.size) (fun b hb=>g.there hb) hIs (by rw [hl]; exact ei) tt
   obtain⟨c2,eS2⟩:∃c2,(h1.update S (Obj.mapSeq (·.push (Value.ref h.objs.size)))).get? S=some (seqObj "list" ((as++[h.objs.size]).map Value.ref).toArray c2):=by
    have z:=y02 (Obj.mapSeq (·.push (Value.ref h.objs.size))) eS1 rfl
    obtain⟨c2,e3⟩:=q0a (·.push (Value.ref h.objs.size)) (as.map Value.ref).toArray c
    refine⟨c2,z.trans ?_⟩
    rw [e3,y03,List.push_toArray]
    rfl
   have zs:(as.map Value.ref).toArray.size < es.size:=by rw [yy,y8]; omega
   refine yc (wpAny_updateSeq eS1 rfl (yo ⟨y2q y2h _,ih (i+1) _ tk c2 (as++[h.objs.size]) (by omega) hlt st2 (up d _ hSd (x1 d _ hId e)) (fun b u n1 n2 y=>up b u n1 (x1 b u n2 (k0 b u n1 n2 y))) eS2 (by rw [yd,hl]; rfl) g2 (y0v hIs (ye tt))⟩) (by omega) (by rw [Array.size_push]; omega))
  rcases st with⟨rfl,eI⟩ | ⟨a,f,kk,v,oa,eI,ea,n1,n2⟩
  ·refine yc (zrs (s:={s with heap:=h,toks:=tk}) (A:=A.in1) (es:=es) hh eI e dd ei fun h1 x1 t1 i1=>?_)
   exact step h1 x1 t1 (.inr ⟨_,_,_,_,_,i1,t1,y0k hIs,y0k lS⟩)
  ·refine yc (zu1 (s:={s with heap:=h,toks:=tk}) (A:=A.in1) (es:=es) hh eI ea n1 e dd ei fun h1 f' x1 t1 i1=>?_)
   exact step h1 x1 t1 (.inr ⟨_,_,_,_,_,i1,x1 a oa n1 ea,n1,n2⟩)
end
end L2
namespace L2
open PySem PySem.Spec PyProof.Rows PySem.W
section
variable{prog:yf}{w:yr}{A:y01}{E:y4->y9->Prop}{s:y9}{d I S:Addr}{es:Array DictEntry}{ep:Nat}{o:Obj}{R:Result->y9->Prop}
theorem JG.low{lo lo':Addr}{h:Heap}{as:List Addr}(g:JG es lo h as)(hl:lo'<=lo):JG es lo' h as:=⟨g.rise,fun a ha=>y0w hl (g.above a ha),g.at_⟩
theorem zs1{r:Addr}{res:y4}{c0:Nat}(hh:A.handled=none)(hv:s.heap.IsItemsView r d)(e:s.heap.get? d=some o)(x:o.ExactDict)(dd:o.data=.dict es ep)(hn:es.size<=sizeLine)(hSr:S≠r)(hSd:d≠S) (eS:s.heap.get? S=some (seqObj "list" #[] c0))
  (q:∀h' tk c as,(∀b u,b≠S->s.heap.get? b=some u->h'.get? b=some u)->as.length=es.size->JG es s.heap.objs.size h' as->h'.get? S=some (seqObj "list" (as.map Value.ref).toArray c)->R (.ok (.ret res)) {s with heap:=h',toks:=tk}) :
  wpAny (model prog w) A.in1 (Builtin.List.listExtendWith (.ref S) (.ref r) res)
   (fun fin s'=>match fin with | .done f=>R (.ok f) s' | .again c'=>c'.quiet=true/\codeAny (model prog w) A c' R s') (fun e s'=>R (.error e) s') s:=by
 have lS:S < s.heap.objs.size:=ye eS
 have ld:d < s.heap.objs.size:=ye e
 have go:∀(h:Heap) (c1 tk:Nat),(∀b u,b≠S->(s.heap.push (zkj .none d 0 es.size ep .none .none)).get? b=some u->h.get? b=some u)->s.heap.objs.size < h.objs.size->h.get? S=some (seqObj "list" #[] c1)->
   codeAny (model prog w) A (.builtin "list.extend.loop" ⟨[.ref S,.ref s.heap.objs.size,res],[]⟩) R {s with heap:=h,toks:=tk}:=fun h c1 tk hk hz hS1=>by
  refine zxb (es:=es) (o:=o) (ep:=ep) (s:=s) (h0:=s.heap) hh lS hSd (yk ld) hn dd (fun h' tk' c as k1 l1 g1 eS'=>q h' tk' c as (fun b u n y=>k1 b u n (yk (ye y)) y) l1 g1 eS') es.size 0 h tk c1 [] (y1v _) (y05 _)
   (.inl ⟨rfl,hk _ _ (y0k lS) (yi _ rfl)⟩) (hk d o hSd (y6 _ e)) (fun b u n _ y=>hk b u n (y6 _ y)) hS1 rfl ⟨List.Pairwise.nil,(fun _ ha=>nomatch ha),(fun j a hj=>by simp at hj)⟩ hz
 unfold Builtin.List.listExtendWith
 refine yc (wpAny_typeOf (T:="dict_items") hv.typeIs ?_)
 simp only[show Builtin.List.listSameRef (.ref S) (.ref r)=false by simp[Builtin.List.listSameRef,hSr],show(Value.type "dict_items" == Value.type "list")=false by decide,show(Value.type "dict_items" == Value.type "tuple")=false by decide,Bool.or_false,y0h,if_false]
 refine yc (zxi hv e x dd ?_)
 have eS1:=y6 (zkj .none d 0 es.size ep .none .none) eS
 have z1:s.heap.objs.size < (s.heap.push (zkj .none d 0 es.size ep .none .none)).objs.size:=by rw [y0o]; exact y2f _
 refine yc (y22 (kdx_hint (let ⟨o,ho,hc,_⟩:=hv; ⟨o,y6 _ ho,hc⟩) ?_))
 refine wpAny_ite_split (fun _=>?_) (fun _=>yo ⟨y2q y2h _,go _ c0 _ (fun b u _ y=>y) z1 eS1⟩)
 refine yc (wpAny_rule (yc ?_))
 show wpAny _ _ (updateSeq S (·.push .none) >>= fun _=>updateSeq S (·.pop)) _ _ _
 refine yc (wpAny_updateSeq eS1 rfl ?_)
 have eS2:=y02 (Obj.mapSeq (·.push Value.none)) eS1 rfl
 refine wpAny_updateSeq (hz:=by seq_fits) eS2 rfl ?_
 have eS3:=y02 (Obj.mapSeq (·.pop)) eS2 rfl
 refine yo ⟨y2q y2h _,go _ _ _ (fun b u n y=>(y1b _ _ (y1y n)).trans ((y1b _ _ (y1y n)).trans y)) ?_ eS3⟩
 have y:=yi (o:=zkj .none d 0 es.size ep .none .none) s.heap rfl
 exact ye ((y1b _ _ (yk lS)).trans ((y1b _ _ (yk lS)).trans y))
theorem zpc{r:Addr}{Q:List y4->y9->Prop}(hh:A.handled=none)(hv:s.heap.IsItemsView r d)(e:s.heap.get? d=some o)(x:o.ExactDict)(dd:o.data=.dict es ep)(hn:es.size<=sizeLine)
  (q:∀(h':Heap) (tk:Nat) (as:List Addr),s.heap.objs.size < h'.objs.size->(∀b u,s.heap.get? b=some u->h'.get? b=some u)->as.length=es.size->JG es s.heap.objs.size h' as->Q (as.map Value.ref) {s with heap:=h',toks:=tk}):wpAny (model prog w) A (collect (.ref r)) Q E s:=by
 have lr:r < s.heap.objs.size:=let ⟨_,ho,_⟩:=hv; ye ho
 have ld:d < s.heap.objs.size:=ye e
 unfold collect
 refine yc (wpAny_runValue (y1n F.entry_proto_collect ?_)); rw [y13 F.plain_proto_collect]
 refine yc (wpAny_newList (yo ⟨y2q F.plain_list_iadd _,y1n F.entry_list_iadd ?_⟩)); rw [y13 F.plain_list_iadd]
 have e0:(s.heap.push (seqObj "list" #[] 0)).get? s.heap.objs.size=some (seqObj "list" #[] 0):=yi _ rfl
 show wpAny _ _ (Builtin.List.listExtendWith (.ref s.heap.objs.size) (.ref r) (.ref s.heap.objs.size)) _ _ {s with heap:=s.heap.push (seqObj "list" #[] 0)}
 have fin:∀(v:Result) (s':y9),(∃(h':Heap) (tk c:Nat) (as:List Addr),v=.ok (.ret (.ref s.heap.objs.size))/\s' = {s with heap:=h',toks:=tk}/\h'.get? s.heap.objs.size=some (seqObj "list" (as.map Value.ref).toArray c)/\Q (as.map Value.ref) {s with heap:=h',toks:=tk})->
   (match v with | .ok (.ret v)=>wpAny (model prog w) A (match v with | .ref a=>(do match (<- load a).data with | .seq xs _=>pure xs.toList | _=>unsupported "internal:collect") | _=>unsupported "internal:collect") Q E s' | .ok _=>False | .error e=>E e s'):=by
  rintro v s' ⟨h',tk,c,as,rfl,rfl,hS,hq⟩
  exact yc (wpAny_load hS (yo hq))
 refine y0l (zs1 (A:=A) (s:={s with heap:=s.heap.push (seqObj "list" #[] 0)}) (es:=es) (o:=o) (ep:=ep)
  (R:=fun v s'=>∃(h':Heap) (tk c:Nat) (as:List Addr),v=.ok (.ret (.ref s.heap.objs.size))/\s' = {s with heap:=h',toks:=tk}/\h'.get? s.heap.objs.size=some (seqObj "list" (as.map Value.ref).toArray c)/\Q (as.map Value.ref) {s with heap:=h',toks:=tk})
  hh (let ⟨o,ho,x⟩:=hv; ⟨o,y6 _ ho,x⟩) (y6 _ e) x dd hn (y0k lr) (yk ld) e0 (fun h' tk c as hk hl g hS=>⟨h',tk,c,as,rfl,rfl,hS,?_⟩)) (fun f s' z=>?_) (fun e s' z=>fin _ _ z)
 ·refine q h' tk as (ye hS) (fun b u y=>hk b u (yk (ye y)) (y6 _ y)) hl (g.low ?_)
  show s.heap.objs.size<=(s.heap.push _).objs.size
  rw [y0o]
  exact Nat.le_succ _
 ·cases f with
  | done f=>exact fin _ _ z
  | again c=>exact⟨z.1,y1j z.2 fun r s2 y=>fin r s2 y⟩
end
end L2
namespace L2
open PySem PySem.Spec PyProof.Rows PySem.W
section
variable{prog:yf}{w:yr}{A:y01}{E:y4->y9->Prop}{s:y9}
theorem zwi{x:List Int}{a p:Addr}{oa:Obj}{xs:Array y4}{n:Nat}{i:Int}{t:Tok}{Q:Bool->y9->Prop}(hu:A.units < cLine)(ha:s.heap.get? a=some oa)(da:oa.data=.seq xs n)(ex:xs.toList=[.ref p,.int i t])(hx:IsTupleKey (intKind prog w) s.heap x p)(h:Q false s):wpAny (model prog w) A (keyLt' (tuples' false) (.ref a) (.ref a)) Q E s:=by
 refine kat_lt ha da ha da ?_
 rw [ex,y14]
 refine kat_cons (wpAny_eqBool_tuple hu hx hx ?_)
 rw [decide_eq_true rfl]
 refine kat_yes (kat_cons (wpAny_eqBool_int ?_))
 rw [show(i == i)=true from beq_self_eq_true _]
 refine kat_yes (kat_nil ?_)
 simpa using h
end
theorem zzd{ps:List (List Int)}(hnd:ps.Nodup):∃r:Nat->Nat,(∀i j,i < ps.length->j < ps.length->r i=r j->i=j)/\∀i j,i < ps.length->j < ps.length->ltI (ps.getD i []) (ps.getD j [])=decide (r i < r j):=by
 have e1:(ps.zip (List.range ps.length)).map (·.1)=ps:=List.map_fst_zip (by simp)
 have e2:(ps.zip (List.range ps.length)).map (·.2)=List.range ps.length:=List.map_snd_zip (by simp)
 obtain⟨z,pz,rz⟩:=zv0 (ps.zip (List.range ps.length)) (by rw [e1]; exact hnd)
 have zl:z.length=ps.length:=by rw [pz.length_eq,List.length_zip,y2o,Nat.min_self]
 have nd2:(z.map (·.2)).Nodup:=by
  have:=pz.map (·.2)
  rw [e2] at this
  exact this.nodup_iff.mpr List.nodup_range
 have hin:∀i,i < ps.length->∃j,∃hj:j < z.length,z[j]=(ps.getD i [],i):=fun i hi=>by
  have m:(ps.getD i [],i)∈ps.zip (List.range ps.length):=by
   refine yv (i:=i) ?_
   rw [List.getElem?_zip_eq_some]
   exact⟨by rw [yj,yb hi]; rfl,by rw [List.getElem?_range hi]⟩
  obtain⟨j,hj,e⟩:=y0y (pz.mem_iff.mpr m)
  exact⟨j,hj,e⟩
 refine⟨fun i=>(z.map (·.2)).idxOf i,fun i j hi hj e=>?_,fun i j hi hj=>?_⟩
 ·obtain⟨a,ha,ea⟩:=hin i hi
  obtain⟨b,hb,eb⟩:=hin j hj
  have ia:(z.map (·.2)).idxOf i=a:=by
   have:(z.map (·.2))[a]'(by rw [y8]; exact ha)=i:=by rw [y2d,ea]
   rw [<- this]
   exact y28 nd2 a (by rw [y8]; exact ha)
  have ib:(z.map (·.2)).idxOf j=b:=by
   have:(z.map (·.2))[b]'(by rw [y8]; exact hb)=j:=by rw [y2d,eb]
   rw [<- this]
   exact y28 nd2 b (by rw [y8]; exact hb)
  have e:(z.map (·.2)).idxOf i=(z.map (·.2)).idxOf j:=e
  rw [ia,ib] at e
  subst e
  rw [ea] at eb
  exact(congrArg Prod.snd eb)
 ·obtain⟨a,ha,ea⟩:=hin i hi
  obtain⟨b,hb,eb⟩:=hin j hj
  have ia:(z.map (·.2)).idxOf i=a:=by
   have:(z.map (·.2))[a]'(by rw [y8]; exact ha)=i:=by rw [y2d,ea]
   rw [<- this]
   exact y28 nd2 a (by rw [y8]; exact ha)
  have ib:(z.map (·.2)).idxOf j=b:=by
   have:(z.map (·.2))[b]'(by rw [y8]; exact hb)=j:=by rw [y2d,eb]
   rw [<- this]
   exact y28 nd2 b (by rw [y8]; exact hb)
  show _=decide ((z.map (·.2)).idxOf i < (z.map (·.2)).idxOf j)
  rw [ia,ib]
  have h:=List.pairwise_iff_getElem.mp rz
  rcases Nat.lt_trichotomy a b with l | l | l
  ·have:=h a b ha hb l
   rw [ea,eb] at this
   rw [this,decide_eq_true l]
  ·subst l
   rw [ea] at eb
   have e3:ps.getD i []=ps.getD j []:=congrArg Prod.fst eb
   rw [e3,decide_eq_false (y0i _)]
   cases hh:ltI (ps.getD j []) (ps.getD j []) with
   | false=>rfl
   | true=>exact absurd rfl (zyo hh)
  ·have:=h b a hb ha l
   rw [ea,eb] at this
   rw [zu7 this,decide_eq_false (by omega)]
end L2
namespace L2
open PySem PySem.Spec PyProof.Rows PySem.W
def q2c(p:List Int×Int):Dm:=.tup [pathD p.1,.int p.2]
def zzj:List V->Hp->VK->Prop:=fun xs H Q=>∃(v d:Addr) (kvs:List (List Int×Int)),xs=[.ref v]/\H v=some (zc0 v d)/\H d=some (.dT (kvs.map fun p=>(p.1.map Sum.inl,V.int p.2)))/\kvs.length < 64/\
 ∀(l:Addr) (H':Hp) (ws:List V) (ms:List (List Int×Int)),Same H H'->H l=none->H' l=some (.lst ws)->DtA H' ws (ms.map q2c)->ms.Perm kvs->ms.Pairwise (fun p q=>ltI p.1 q.1=true)->Q (.ref l) H'
def bOf(ys:List (List Key×Addr×y4))(j:Nat):Addr:=((ys[j]?).map (·.2.1)).getD 0
theorem zyb{H:Hp}:∀{kvs:List (List Int×Int)} {ys:List (List Key×Addr×y4)},Paired (fun(p:List Key×V) (q:List Key×Addr×y4)=>p.1=q.1/\H q.2.1=some (.tup (p.1.map kV))/\RelV p.2 q.2.2) (kvs.map fun p=>(p.1.map Sum.inl,V.int p.2)) ys->
  ys.length=kvs.length/\ys.map (·.1)=kvs.map (fun p=>p.1.map Sum.inl)/\∀j,j < kvs.length->∃t,ys[j]?=some ((kvs.getD j ([],0)).1.map Sum.inl,bOf ys j,.int (kvs.getD j ([],0)).2 t)/\H (bOf ys j)=some (.tup ((kvs.getD j ([],0)).1.map V.int))
 | [],_,.nil=>⟨rfl,rfl,fun j h=>absurd h (by simp)⟩
 | p::kvs,_,.cons (b:=y) ⟨e1,e2,e3⟩ r=>by
  obtain⟨l,m,g⟩:=zyb r
  obtain⟨k,b,u⟩:=y
  obtain rfl:p.1.map Sum.inl=k:=e1
  obtain⟨t,rfl⟩:=(show ∃t,u=Value.int p.2 t from e3)
  refine⟨by rw [yh,yh,l],by rw [yn,yn,m],fun j hj=>?_⟩
  cases j with
  | zero=>
   refine⟨t,rfl,?_⟩
   show H b=_
   have e2:H b=some (.tup ((p.1.map Sum.inl).map kV)):=e2
   rw [e2,y10]
   rfl
  | succ j=>exact g j (by simpa using hj)
section
variable{X:Cx}
theorem zl0(hc:X.calm=true)(hu:X.A.units+64 < cLine):CallR X (.builtin "sorted") zzj:=by
 intro pins s σ H xs us Q I r h
 obtain⟨v,d,kvs,rfl,hv,hd,h64,q⟩:=h
 obtain⟨u,rfl,r1⟩:=r.one
 cases r1
 have view:s.heap.IsItemsView v d:=(show ObjOk X.prog X.w H s.heap v (zc0 v d) from I.hok v _ hv).1
 obtain⟨z,lo,ys,rel,o,es,ep,ho,hx,hdd,hes,hn⟩:=(show ObjOk X.prog X.w H s.heap d (.dT _) from I.hok d _ hd)
 obtain⟨yl,ym,yat⟩:=zyb rel
 have hsz:es.size=kvs.length:=by rw [<- y1l,hes,y8,yl]
 have hnd:(kvs.map (·.1)).Nodup:=by
  rw [ym] at hn
  exact List.pairwise_map.mpr ((List.pairwise_map.mp hn).imp fun h e=>h (by rw [e]))
 obtain⟨rk,hinj,hlt⟩:=zzd hnd
 have hgd:∀i,(kvs.map (·.1)).getD i []=(kvs.getD i ([],0)).1:=fun i=>by
  rw [yj,y00,yj]
  cases kvs[i]?<;>rfl
 have hn':kvs.length=(kvs.map (·.1)).length:=by rw [y8]
 have hb:∀i,i < kvs.length->H (bOf ys i)=some (.tup ((kvs.getD i ([],0)).1.map V.int)):=fun i hi=>let ⟨_,_,e⟩:=yat i hi; e
 have hent:∀i,i < kvs.length->∃en t,es[i]?=some en/\en.key=.ref (bOf ys i)/\en.val=.int (kvs.getD i ([],0)).2 t:=fun i hi=>by
  obtain⟨t,e,_⟩:=yat i hi
  refine⟨entryOfKey (tupleKind (z1d X.prog X.w)) ((kvs.getD i ([],0)).1.map Sum.inl,bOf ys i,.int (kvs.getD i ([],0)).2 t),t,?_,rfl,rfl⟩
  rw [<- Array.getElem?_toList,hes,y00,e]
  rfl
 refine Calls.call_function_entry kind_sorted plain_sorted entry_sorted (args_sorted1 _) ?_
 unfold Builtin.«sorted»
 refine yc (m:=checkCount "sorted" 1 1 _) (yo (yc (zpc (A:=X.A.in1) (by simpa using I.ok.hd hc) view ho hx hdd (zc6 (by omega)) fun h1 tk as hz1 k1 hal g=>?_)))
 have hal':as.length=kvs.length:=by omega
 have hA:∀i,i < kvs.length->as[i]?=some (as.getD i 0):=fun i hi=>by
  rw [yj,yb (by omega)]; rfl
 have hpo:∀i,i < kvs.length->∃t,h1.get? (as.getD i 0)=some {cls:=.type "tuple",data:=.seq #[.ref (bOf ys i),.int (kvs.getD i ([],0)).2 t]}:=fun i hi=>by
  obtain⟨en,e1,e2⟩:=g.at_ i _ (hA i hi)
  obtain⟨en',t,e3,e4,e5⟩:=hent i hi
  rw [e1] at e3
  cases e3
  refine⟨t,?_⟩
  rw [<- e4,<- e5]
  exact e2
 have hkey:∀i,i < kvs.length->IsTupleKey (intKind X.prog X.w) s.heap (kvs.getD i ([],0)).1 (bOf ys i):=fun i hi=>q2z I (hb i hi)
 have hvl:(as.map Value.ref).length=kvs.length:=by rw [y8,hal']
 have hvd:∀i,i < kvs.length->(as.map Value.ref).getD i .none=.ref (as.getD i 0):=fun i hi=>by
  rw [yj,y00,hA i hi]; rfl
 refine yc (wpAny_newList ?_ (zc6 (by omega)))
 have eL:(h1.push (seqObj "list" (as.map Value.ref).toArray 0)).get? h1.objs.size=some (seqObj "list" (as.map Value.ref).toArray 0):=yi _ rfl
 refine yc (y22 (y0m slot_list_sort ⟨_,eL,rfl⟩ entry_list_sort (zap (r:=rk) eL (by omega) (fun i j hi hj e=>hinj i j (by omega) (by omega) e) (fun h2 h' kp=>?_) fun p P1 P2=>⟨_,rfl,?_⟩) (args_list_sort _)))
 ·have kp':∀c u,h1.get? c=some u->h'.get? c=some u:=fun c u y=>kp c u (yk (ye y)) (y6 _ y)
  have keep:∀i,i < kvs.length->∃t,h'.get? (as.getD i 0)=some {cls:=.type "tuple",data:=.seq #[.ref (bOf ys i),.int (kvs.getD i ([],0)).2 t]}:=fun i hi=>let ⟨t,e⟩:=hpo i hi; ⟨t,kp' _ _ e⟩
  have key':∀i,i < kvs.length->IsTupleKey (intKind X.prog X.w) h' (kvs.getD i ([],0)).1 (bOf ys i):=fun i hi=>q0j (hkey i hi) fun c u y=>kp' c u (k1 c u y)
  have tups:∀(l:List Nat),(∀i∈l,i < kvs.length)->∃fs,KatTups h' (l.map fun i=>(as.map Value.ref).getD i .none) fs/\fs.length=l.length/\∀f∈fs,Looks (model X.prog X.w) h' (typeOf f) (.type "tuple"):=by
   intro l
   induction l with
   | nil=>intro _; exact⟨[],.nil,rfl,fun f hf=>absurd hf (by simp)⟩
   | cons i l ih=>
    intro hl
    obtain⟨fs,k,lf,ff⟩:=ih fun j hj=>hl j (.tail _ hj)
    obtain⟨t,e⟩:=keep i (hl i (.head _))
    refine⟨.ref (bOf ys i)::fs,?_,by simp[lf],fun f hf=>?_⟩
    ·rw [yn,hvd i (hl i (.head _))]
     exact .cons e rfl rfl rfl k
    ·rcases List.mem_cons.mp hf with rfl | hf
     ·obtain⟨o2,its2,n2,ho2,hc2,_⟩:=key' i (hl i (.head _))
      have z:=(Looks.ld (M:=model X.prog X.w) (part:=none) ho2).andThen (f:=fun o=>pure o.cls) (.now (a:=o2.cls))
      rw [hc2] at z
      exact z
     ·exact ff f hf
  obtain⟨fs,kt,fl,ff⟩:=tups (List.range kvs.length) fun i hi=>List.mem_range.mp hi
  have ev:((List.range kvs.length).map fun i=>(as.map Value.ref).getD i .none)=as.map Value.ref:=by
   refine List.ext_getElem (by simp[hal']) fun i h1 h2=>?_
   simp at h2
   simp[h2]
  rw [ev] at kt
  rw [y2o] at fl
  refine⟨tuples' false,fun E Q hQ=>kat_kind (T:=.type "tuple") kt (by omega) ff rfl hQ,fun i j hi hj E Q hQ=>?_⟩
  rw [hvl] at hi hj
  rw [hvd i hi,hvd j hj]
  obtain⟨t1,e1⟩:=keep i hi
  obtain⟨t2,e2⟩:=keep j hj
  by_cases eij:i=j
  ·subst eij
   rw [decide_eq_false (y0i _)] at hQ
   exact zwi (by show X.A.units+1+1 < cLine; omega) e1 rfl rfl (key' i hi) hQ
  ·refine q2r (by show X.A.units+1+1 < cLine; omega) e1 rfl e2 rfl rfl rfl (key' i hi) (key' j hj) ?_ ?_
   ·intro z
    have hi':i < (kvs.map (·.1)).length:=by rw [y8]; exact hi
    have hj':j < (kvs.map (·.1)).length:=by rw [y8]; exact hj
    refine eij ((List.getElem_inj (h₀:=hi') (h₁:=hj') hnd).mp ?_)
    rw [<- hgd i,<- hgd j,yj,yj,yb hi',yb hj'] at z
    exact z
   ·rw [<- hgd i,<- hgd j,hlt i j (by omega) (by omega)]
    exact hQ
 ·refine yo ⟨_,rfl,?_⟩
  rw [hvl] at P1 P2
  obtain⟨n,en⟩:=sortedHeap_at (out:=(p.toList.map fun i=>(as.map Value.ref).getD i Value.none).toArray) eL
  have hin:∀i∈p.toList,i < kvs.length:=fun i hi=>List.mem_range.mp (P1.pm.mem_iff.mp hi)
  have oldF:∀c u,h1.get? c=some u->(sortedHeap (h1.push (seqObj "list" (as.map Value.ref).toArray 0)) h1.objs.size (as.map Value.ref) (p.toList.map fun i=>(as.map Value.ref).getD i Value.none).toArray).get? c=some u:=fun c u hu=>by
   have lb:=ye hu
   rw [sortedHeap_old (yk lb) (by rw [size_push']; exact y2r lb)]
   exact y6 _ hu
  have hup:∀a∈as,s.heap.objs.size < a/\a < h1.objs.size:=fun a ha=>⟨g.above a ha,g.there ha⟩
  have hsz1:s.heap.objs.size<=h1.objs.size:=y18 hz1
  let xsL:List (List V):=(List.range kvs.length).map fun i=>[V.ref (bOf ys i),V.int (kvs.getD i ([],0)).2]
  have hxl:as.length=xsL.length:=by simp[xsL,hal']
  have hxa:∀i,i < kvs.length->xsL[i]?=some [V.ref (bOf ys i),V.int (kvs.getD i ([],0)).2]:=fun i hi=>by
   simp only[xsL]
   rw [y00,List.getElem?_range hi]
   rfl
  have nL:h1.objs.size∉as:=fun z=>absurd (hup _ z).2 (y0i _)
  have low:∀c,c < s.heap.objs.size->upd (zsh as xsL H) h1.objs.size (.lst (p.toList.map fun i=>V.ref (as.getD i 0))) c=H c:=fun c hc=>by
   rw [z09 (yk (yu hc hsz1)),z7y fun z=>absurd (hup c z).1 (Nat.not_lt.mpr (y18 hc))]
  have sm:Same H (upd (zsh as xsL H) h1.objs.size (.lst (p.toList.map fun i=>V.ref (as.getD i 0)))):=fun c u e=>by
   rw [low c (I.hok c u e).lt]; exact e
  have atT:∀i,i < kvs.length->upd (zsh as xsL H) h1.objs.size (.lst (p.toList.map fun i=>V.ref (as.getD i 0))) (as.getD i 0)=some (.tup [V.ref (bOf ys i),V.int (kvs.getD i ([],0)).2]):=fun i hi=>by
   have ha:=hA i hi
   rw [z09 fun z=>nL (by rw [<- z]; exact yv ha)]
   exact zje g.rise ha (hxa i hi)
  refine⟨.ref h1.objs.size,_,I.grow (t':=tk) (fun c u e=>oldF c u (k1 c u e)) sm (fun c hc e=>(low c hc).trans e) (fun c u e1 e2=>?_),rfl,q h1.objs.size _ _ (p.toList.map fun i=>kvs.getD i ([],0)) sm (I.hok.fresh hsz1) z00 ?_ ?_ ?_⟩
  ·by_cases hb':c=h1.objs.size
   ·subst hb'
    rw [z00] at e2
    cases e2
    refine⟨?_,(p.toList.map fun i=>(as.map Value.ref).getD i Value.none),n,zg8 fun i hi=>?_,by simpa [seqObj] using en⟩
    ·rw [y8,y1l,P1.sz]
     exact zc6 (by omega)
    ·rw [hvd i (hin i hi)]; rfl
   ·rw [z09 hb'] at e2
    by_cases hba:c∈as
    ·obtain⟨j,x,ej,ex,rfl⟩:=zsp hxl g.rise hba e2
     have hj:j < kvs.length:=by
      have:=(List.getElem?_eq_some_iff.mp ej).1
      omega
     rw [hxa j hj] at ex
     cases ex
     obtain⟨t,e5⟩:=hpo j hj
     have:as.getD j 0=c:=by
      have:=hA j hj
      rw [ej] at this
      exact(y04 this).symm
     rw [this] at e5
     exact⟨zpm,[.ref (bOf ys j),.int (kvs.getD j ([],0)).2 t],.cons rfl (.cons ⟨t,rfl⟩ .nil),⟨_,oldF c _ e5,rfl,0,rfl⟩⟩
    ·rw [z7y hba,e1] at e2
     cases e2
  ·rw [y10]
   refine zkr fun i hi=>?_
   refine .tup (atT i (hin i hi)) (.cons (.tup (sm _ _ (hb i (hin i hi))) (zox _ _)) (.cons (.int _) .nil))
  ·have z:=P1.pm.map fun i=>kvs.getD i (([]:List Int),(0:Int))
   refine z.trans (.of_eq ?_)
   refine List.ext_getElem (by simp) fun i h1 h2=>?_
   simp[h2]
  ·rw [List.pairwise_map,List.pairwise_iff_getElem]
   intro i j hi hj hij
   have hj':j < p.size:=by simpa using hj
   have z:=P2 i j hij (by rw [<- P1.sz]; exact hj')
   have z':rk p.toList[i] < rk p.toList[j]:=by simpa [L2.rk,Array.getD,hj',y0v hij hj'] using z
   have hi2:=hin _ (List.getElem_mem hi)
   have hj2:=hin _ (List.getElem_mem hj)
   rw [<- hgd,<- hgd,hlt _ _ (by omega) (by omega)]
   exact decide_eq_true z'
end
end L2
namespace L2
open PySem PySem.Spec PyProof.Rows PySem.W
theorem zt9(n:Nat):sliceRange ((n:Int) - 1) (-1) (-1)=(List.range n).map fun k=>n - 1 - k:=by
 have e:(if(-1:Int) > 0 then(if(n:Int) - 1 < -1 then(-1 - ((n:Int) - 1) + -1 - 1) / -1 else 0) else(if(n:Int) - 1 > -1 then((n:Int) - 1 - -1 - -1 - 1) / (- -1) else 0))=(n:Int):=by
  rw [if_neg (by decide)]
  by_cases h:(n:Int) - 1 > -1
  ·rw [if_pos h,show(- (-1:Int))=1 by decide,Int.ediv_one]
   omega
  ·rw [if_neg h]
   omega
 unfold sliceRange
 simp only[e,y2s]
 refine List.map_congr_left fun k hk=>?_
 have:=List.mem_range.mp hk
 omega
theorem zwp(its:List y4):slicePick its.toArray none none (some (-1))=its.reverse.toArray:=by
 unfold slicePick
 have e:sliceBounds none none (some (-1)) its.toArray.size=((its.length:Int) - 1,-1,-1):=by simp[sliceBounds]
 rw [e,zt9]
 congr 1
 refine List.ext_getElem? fun j=>?_
 rw [List.filterMap_map]
 have h:∀k∈List.range its.length,((fun i=>its.toArray[i]?) ∘ fun k=>its.length - 1 - k) k=some (its.getD (its.length - 1 - k) .none):=fun k hk=>by
  have:=List.mem_range.mp hk
  have hl:its.length - 1 - k < its.length:=by omega
  show its.toArray[its.length - 1 - k]?=_
  rw [List.getElem?_toArray,yj,yb hl]
  rfl
 have e2:(List.range its.length).filterMap ((fun i=>its.toArray[i]?) ∘ fun k=>its.length - 1 - k)=(List.range its.length).map fun k=>its.getD (its.length - 1 - k) .none:=by
  generalize List.range its.length=l at h
  induction l with
  | nil=>rfl
  | cons a l ih=>
   rw [List.filterMap_cons,h a (.head _),yn,ih fun k hk=>h k (.tail _ hk)]
 rw [e2,y00]
 by_cases hj:j < its.length
 ·rw [List.getElem?_range hj,List.getElem?_reverse hj]
  show some (its.getD (its.length - 1 - j) .none)=_
  rw [yj,yb (by omega)]
  rfl
 ·rw [List.getElem?_eq_none (by simp; omega),List.getElem?_eq_none (by simp; omega)]
  rfl
def q4b(K:y3)(te:TE)(ts:TO):TE:=fun σ H Q=>te σ H fun x H1=>ts σ H1 fun st H2=>∃a xs,st=some (-1)/\x=.ref a/\SqL K H2 a xs/\∀p,H2 p=none->Q (.ref p) (upd H2 p (.lst xs.reverse))
theorem zpk:∀{xs:List V} {us:List y4},Vals xs us->Vals xs.reverse us.reverse
 | _,_,.nil=>.nil
 | _,_,.cons r t=>by
  rw [List.reverse_cons,List.reverse_cons]
  exact Vals.append (zpk t) (.cons r .nil)
section
variable{X:Cx}{e:Expr}{te:TE}
theorem zyk{es:Expr}{ts:TO}{p2 pos:Pos}(he:PE X e te)(hst:PO X (some es) ts):PE X (.Subscript e (.Slice none none (some es) p2) pos) (q4b X.K te ts):=by
 refine⟨?_⟩
 intro pins s σ H Q I h
 refine Subscript_ (thn (he pins s σ H _ I h) fun v s1 ⟨x,H1,I1,r1,q1⟩=>?_)
 refine wpAny_Slice ?_
 rw [evalPart_none]
 refine yo (yo (thn (hst pins s1 σ H1 _ I1 q1) fun vs s2 ⟨st,H2,I2,ps,q2⟩=>?_))
 obtain⟨a,xs,rfl,rfl,hx,q⟩:=q2
 cases r1
 have I3:Inv X pins σ H2 {s2 with heap:=s2.heap.push {cls:=.type "slice",data:=.fields #[.none,.none,vs]}}:=I2.kept (t':=s2.toks) fun b ob q=>y6 _ q
 obtain⟨its,r,ht,hz⟩:=I3.list hx
 show wpAny (model X.prog X.w) X.A (subscriptTail e (.Slice none none (some es) p2) (.ref a) (.ref s2.heap.objs.size)) (EP X pins σ Q) X.xe {s2 with heap:=s2.heap.push {cls:=.type "slice",data:=.fields #[.none,.none,vs]}}
 refine tail_any (ops:=[.ref a,.ref s2.heap.objs.size]) ht.isList.typeIs slot_list_getitem.lookup ?_ (by with_unfolding_all rfl)
 refine wpAny_getItem_list_slice ht.isList (Heap.IsSliceOf.new ..) .none .none ps (by simp) ?_ (by rw [yy,<- r.length]; exact hz)
 rw [zwp]
 refine⟨.ref _,_,I3.laid (t':=s2.toks) (o:=.lst xs.reverse) (fun b ob q=>y6 _ q) (yg _) ?_,rfl,q _ (I3.hok.fresh (yg _))⟩
 exact⟨by rw [List.length_reverse]; exact hz,_,0,zpk r,yi _ rfl⟩
end
end L2
namespace L2
open PySem PySem.Spec PyProof.Rows PySem.W
def zjv(K:y3):R2:=fun x y H Q=>∃(q:List Int) (p:Addr) (ps:List (List Int)) (vs:List V),Dt H x (pathD q)/\y=.ref p/\SqL K H p vs/\DtA H vs (ps.map pathD)/\Q (.bl (!ps.contains q)) H
section
variable{X:Cx}
theorem zuf{P:yf}{w:yr}{h:Heap}{a:Addr}{p q:List Int}(hp:IsTupleKey (intKind P w) h p a)(hq:IsTupleKey (intKind P w) h q a):p=q:=by
 obtain⟨o,xs,n,e,_,d,i⟩:=hp
 obtain⟨o',xs',n',e',_,d',i'⟩:=hq
 rw [e] at e'
 cases e'
 rw [d] at d'
 cases d'
 exact i.inj i'
theorem zmc{P P':yf}{w w':yr}:∀{p:List Int} {us:List y4},PySem.ItemsAre (intKind P w) p us->PySem.ItemsAre (intKind P' w') p us
 | _,_,.nil=>.nil
 | _,_,.cons k r=>.cons k (zmc r)
theorem zug{P P':yf}{w w':yr}{h:Heap}{a:Addr}{p:List Int}(hp:IsTupleKey (intKind P w) h p a):IsTupleKey (intKind P' w') h p a:=by
 obtain⟨o,xs,n,e,c,d,i⟩:=hp
 exact⟨o,xs,n,e,c,d,zmc i⟩
open Classical in
theorem q0t(hu:X.A.units+64 < cLine):OpR X (compareOp .NotIn) (zjv X.K):=by
 intro pins s σ H x y v u Q I rx ry h
 obtain⟨q,p,ps,vs,dx,rfl,hp,dv,hQ⟩:=h
 cases ry
 obtain⟨a,rfl,ka⟩:=I.path dx rx
 obtain⟨its,r,pl,hz⟩:=I.list hp
 obtain⟨hl,hat⟩:=zq0 I dv r
 let f:y4->Bool:=fun z=>decide (∃b,z=Value.ref b/\IsTupleKey (intKind X.prog X.w) s.heap q b)
 have hf:∀i,i < ps.length->f (its.getD i .none)=decide (ps.getD i []=q):=fun i hi=>by
  obtain⟨b,e,k⟩:=hat i hi
  show decide (∃b,its.getD i .none=Value.ref b/\IsTupleKey (intKind X.prog X.w) s.heap q b)=_
  rw [e]
  by_cases z:ps.getD i []=q
  ·rw [decide_eq_true z,decide_eq_true ⟨b,rfl,z ▸ k⟩]
  ·rw [decide_eq_false z,decide_eq_false]
   rintro⟨b',e',k'⟩
   cases e'
   exact z (zuf k k')
 have hany:its.toArray.any f=ps.contains q:=by
  rw [List.any_toArray]
  rw [y25,List.any_eq_true,List.contains_iff_mem]
  constructor
  ·rintro⟨z,hz',e⟩
   obtain⟨i,hi,rfl⟩:=y0y hz'
   have hi':i < ps.length:=by omega
   have:=hf i hi'
   rw [yj,yb hi] at this
   have e2:f its[i]=true:=e
   rw [show(some its[i]).getD Value.none=its[i] from rfl,e2] at this
   have e3:=of_decide_eq_true this.symm
   rw [<- e3,yj,yb hi']
   exact List.getElem_mem _
  ·intro hm
   obtain⟨i,hi,e⟩:=y0y hm
   have hi':i < its.length:=by omega
   refine⟨its[i],List.getElem_mem _,?_⟩
   have:=hf i hi
   rw [yj,yb hi',yj,yb hi] at this
   rw [show(some its[i]).getD Value.none=its[i] from rfl] at this
   rw [this]
   exact decide_eq_true e
 refine SeqAt.notIn_listAt f pl.isList (fun z hz'=>?_) ⟨.bl _,H,I,rfl,?_⟩
 ·obtain⟨i,hi,rfl⟩:=y0y (by simpa using hz':z∈its)
  have hi':i < ps.length:=by omega
  obtain⟨b,e,k⟩:=hat i hi'
  have h1:=hf i hi'
  rw [yj,yb hi] at e h1
  have e:its[i]=Value.ref b:=e
  have h1:f its[i]=decide (ps.getD i []=q):=h1
  rw [h1,e]
  intro prog w E Q hq
  exact wpAny_eqBool_tuple (knd:=intKind prog w) (by show X.A.units+1 < cLine; omega) (zug k) (zug ka) hq
 ·rw [hany]
  exact hQ
end
end L2
namespace L2
open PySem PySem.Spec PyProof.Rows PySem.W
def zhv(ks:Nat->List Key)(ka:Nat->Addr)(va:Nat->y4):Nat->List (List Key×Addr×y4)
 | 0=>[]
 | i+1=>storedH (zhv ks ka va i) (ks i) (ka i) (va i)
theorem zds{ks:Nat->List Key}{ka:Nat->Addr}{va:Nat->y4}:∀(i:Nat) (y:List Key×Addr×y4),y∈zhv ks ka va i->∃j,j < i/\y.1=ks j/\y.2.1=ka j
 | 0,y,h=>by cases h
 | i+1,y,h=>by
  have h:y∈storedH (zhv ks ka va i) (ks i) (ka i) (va i):=h
  unfold storedH at h
  split at h
  ·obtain⟨x,hx,rfl⟩:=List.mem_map.mp h
   obtain⟨j,hj,e1,e2⟩:=zds i x hx
   refine⟨j,by omega,?_,?_⟩<;>(unfold putAt; split<;>assumption)
  ·rcases List.mem_append.mp h with h | h
   ·obtain⟨j,hj,e⟩:=zds i y h
    exact⟨j,by omega,e⟩
   ·rw [y0u] at h
    subst h
    exact⟨i,by omega,rfl,rfl⟩
theorem zhu{ks:Nat->List Key}{ka:Nat->Addr}{va:Nat->y4}:∀i:Nat,(zhv ks ka va i).length<=i
 | 0=>yg _
 | i+1=>by
  have h:=zhu (ks:=ks) (ka:=ka) (va:=va) i
  show(storedH _ _ _ _).length<=_
  unfold storedH
  split
  ·rw [y8]; omega
  ·rw [yd]; simp only[yh,y1g]; omega
def zs0(ks:Nat->List Key)(xv:Nat->V):Nat->List (List Key×V)
 | 0=>[]
 | i+1=>zgw (zs0 ks xv i) (ks i) (xv i)
theorem zyc{H:Hp}{k:List Key}:∀{kvs:List (List Key×V)} {xs:List (List Key×Addr×y4)},Paired (fun(p:List Key×V) (q:List Key×Addr×y4)=>p.1=q.1/\H q.2.1=some (.tup (p.1.map kV))/\RelV p.2 q.2.2) kvs xs->(kvs.any fun kv=>decide (kv.1=k))=(atKey xs k).isSome
 | _,_,.nil=>rfl
 | p::kvs,_::xs,.cons ⟨e,_⟩ r=>by
  have ih:=zyc (k:=k) r
  unfold atKey at ih |-
  rw [y16,y0g,ih,e]
  split
  ·rename_i h; rw [h]; rfl
  ·rename_i h; rw [h]; rfl
theorem zqi{H:Hp}{ks:Nat->List Key}{ka:Nat->Addr}{va:Nat->y4}{xv:Nat->V}{n:Nat}(h:∀j,j < n->H (ka j)=some (.tup ((ks j).map kV))/\RelV (xv j) (va j)) :
  ∀i,i<=n->Paired (fun(p:List Key×V) (q:List Key×Addr×y4)=>p.1=q.1/\H q.2.1=some (.tup (p.1.map kV))/\RelV p.2 q.2.2) (zs0 ks xv i) (zhv ks ka va i)
 | 0,_=>.nil
 | i+1,hi=>by
  have ih:=zqi h i (by omega)
  obtain⟨h1,h2⟩:=h i (by omega)
  show Paired _ (zgw _ _ _) (storedH _ _ _ _)
  unfold zgw storedH
  rw [zyc ih]
  split
  ·generalize zs0 ks xv i=a at ih
   generalize zhv ks ka va i=c at ih
   induction ih with
   | nil=>exact .nil
   | @cons p q ps qs r t ih2=>
    refine .cons ?_ ih2
    obtain⟨e1,e2,e3⟩:=r
    unfold putAt
    by_cases z:p.1=ks i
    ·have z':q.1=ks i:=e1 ▸ z
     simp only[z,z',if_true]
     exact⟨trivial,z ▸ e2,h2⟩
    ·have z':¬ q.1=ks i:=fun y=>z (e1.trans y)
     simp only[z,z',if_false]
     exact⟨e1,e2,e3⟩
  ·generalize zs0 ks xv i=a at ih
   generalize zhv ks ka va i=c at ih
   induction ih with
   | nil=>exact .cons ⟨rfl,h1,h2⟩ .nil
   | cons r t ih2=>exact .cons r ih2
section
variable{prog:yf}{w:yr}{A:y01}{E:y4->y9->Prop}{s:y9}{a:Addr}
theorem zoc{R:Result->y9->Prop}{I D:Addr}{fp wr:List Addr}{G:Array GenState->Array GenState->Prop}{n:Nat}{P:Nat->y4->Prop}{St:Nat->y9->Prop}{rw_ ka:Nat->Addr}{va:Nat->y4}{ks:Nat->List Key}(W:WalksS prog w A.in1 I fp wr G n P St)(hDf:D∉fp)
  (hval:∀i v,P i v->v=.ref (rw_ i)) (hn:n<=100000) (hnw:∀i,i < n->rw_ i∉D::wr/\ka i∉D::wr) (hu:A.units+8 < cLine) :
  ∀(m i:Nat) (s:y9),i+m=n->St i s->s.heap.DictOfH (tupleKind (z1d prog w)) D (zhv ks ka va i)->
   (∀j,j < n->(∃o its k,s.heap.get? (rw_ j)=some o/\o.cls=.type "tuple"/\o.data=.seq its k/\its.toList=[.ref (ka j),va j])/\(tupleKind (z1d prog w)).is s.heap (ks j) (ka j))->
   (∀s',Moved (D::wr) G s s'->s'.heap.DictOfH (tupleKind (z1d prog w)) D (zhv ks ka va n)->R (.ok (.ret .none)) s')->
   codeAny (model prog w) A (.builtin "dict.update.loop" ⟨[.ref D,.ref I,rawInt i,.none],[]⟩) R s:=by
 have hw:D∉wr:=fun z=>hDf (W.sub _ z)
 have hm:∀b∈wr,b∈D::wr:=fun b z=>.tail _ z
 intro m
 induction m with
 | zero=>
  intro i s e st x hk q
  obtain rfl:i=n:=e
  refine y1n zmo ?_
  rw [y13 zd3]
  refine yc (W.done s _ _ st fun s' mv=>?_)
  show wpAny _ _ (Builtin.Dict.addKeywords D [] >>= _) _ _ _
  refine yc (yo (yo (q s' (mv.mono hm) (zch x (fun o z=>mv.heap D o hw z) fun y hy=>?_))))
  obtain⟨j,hj,z1,z2⟩:=zds _ y hy
  rw [z1,z2]
  exact zdf (hk j hj).2 fun o z=>mv.heap _ o (fun z=>(hnw j hj).2 (hm _ z)) z
 | succ m ih=>
  intro i s e st x hk q
  refine y1n zmo ?_
  rw [y13 zd3]
  refine yc (W.item i s _ _ (by omega) st fun v s1 hP st1 mv=>?_)
  obtain rfl:=hval i v hP
  have hi:i < n:=by omega
  have hk1:∀j,j < n->(∃o its k,s1.heap.get? (rw_ j)=some o/\o.cls=.type "tuple"/\o.data=.seq its k/\its.toList=[.ref (ka j),va j])/\(tupleKind (z1d prog w)).is s1.heap (ks j) (ka j):=fun j hj=>by
   obtain⟨⟨o,its,k,e1,r⟩,x2⟩:=hk j hj
   exact⟨⟨o,its,k,mv.heap _ o (fun z=>(hnw j hj).1 (hm _ z)) e1,r⟩,zdf x2 fun o z=>mv.heap _ o (fun z=>(hnw j hj).2 (hm _ z)) z⟩
  have x1:s1.heap.DictOfH (tupleKind (z1d prog w)) D (zhv ks ka va i):=zch x (fun o z=>mv.heap D o hw z) fun y hy=>by
   obtain⟨j,hj,z1,z2⟩:=zds _ y hy
   rw [z1,z2]
   exact(hk1 j (by omega)).2
  obtain⟨⟨o,its,k,e1,e2,e3,e4⟩,x2⟩:=hk1 i hi
  refine yc (y22 (yc (wpAny_tryCatch (zri e1 e2 e3 e4 (y22 (wpAny_dictSet_heap (by show A.units+1 < cLine; omega) x2 x1 (fun h' x' sb=>?_) ?_))))))
  ·have x':h'.DictOfH (tupleKind (z1d prog w)) D (zhv ks ka va (i+1)):=x'
   have hk2:∀j,j < n->(∃o its k,h'.get? (rw_ j)=some o/\o.cls=.type "tuple"/\o.data=.seq its k/\its.toList=[.ref (ka j),va j])/\(tupleKind (z1d prog w)).is h' (ks j) (ka j):=fun j hj=>by
    obtain⟨⟨o,its,k,e1,r⟩,x2⟩:=hk1 j hj
    exact⟨⟨o,its,k,(sb.2 _ fun z=>(hnw j hj).1 (by rw [z]; exact y0f)).trans e1,r⟩,zdf x2 fun o z=>(sb.2 _ fun z=>(hnw j hj).2 (by rw [z]; exact y0f)).trans z⟩
   refine yo ⟨y2q zd3 _,ih (i+1) _ (by omega) (W.frame _ s1 _ _ st1 (Nat.le_add_right _ _) fun b hb' o z=>?_) x' hk2 fun s2 mv2 x2=>q s2 (Moved.trans W.gtrans ((mv.mono hm).then_heap (Nat.le_add_right _ _) fun b o hb' z=>?_) mv2) x2⟩
   ·rw [sb.2 b fun z:b=D=>hDf (z ▸ hb')]; exact z
   ·rw [sb.2 b fun z:b=D=>hb' (z ▸ y0f)]; exact z
  ·exact q4y (y0b (zhu i) (by omega))
end
theorem zqd:∀(x y:List Int),x.map (Sum.inl:Int->Key)=y.map Sum.inl->x=y
 | [],[],_=>rfl
 | [],_::_,h=>by cases h
 | _::_,[],h=>by cases h
 | a::x,b::y,h=>by
  rw [yn,yn] at h
  injection h with h1 h2
  injection h1 with h1
  rw [h1,zqd x y h2]
theorem zqh{ks:Nat->List Key}{xv:Nat->V}{k:List Key}:∀n:Nat,(zcr (zs0 ks xv n) k).isSome=decide (∃j,j < n/\ks j=k)
 | 0=>(decide_eq_false fun⟨_,h,_⟩=>absurd h (Nat.not_lt_zero _)).symm
 | n+1=>by
  show(zcr (zgw _ _ _) k).isSome=_
  rw [zw9]
  by_cases e:k=ks n
  ·rw [if_pos e]
   exact(decide_eq_true ⟨n,y2f _,e.symm⟩).symm
  ·rw [if_neg e,zqh n]
   congr 1
   refine propext ⟨fun⟨j,h,z⟩=>⟨j,y2r h,z⟩,fun⟨j,h,z⟩=>⟨j,?_,z⟩⟩
   rcases Nat.lt_succ_iff_lt_or_eq.mp h with h | h
   ·exact h
   ·exact absurd (h ▸ z).symm e
def ztc:List V->Hp->VK->Prop:=fun xs H Q=>∃(a:Addr) (vs:List V) (l:List Rw2),xs=[.ref a]/\H a=some (.lst vs)/\DtA H vs (l.map q1s)/\l.length<=100000/\
 ∀(p:Addr) (kvs:List (List Key×V)),H p=none->(∀k:List Int,(zcr kvs (k.map Sum.inl)).isSome=(l.map (·.1)).contains k)->Q (.ref p) (upd H p (.dT kvs))
section
variable{X:Cx}{pins:List (Addr×Obj)}{σ : St}{H:Hp}{s:y9}
theorem zpg(hc:X.calm=true)(hu:X.A.units+64 < cLine):CallR X (.type "dict") ztc:=by
 intro pins s σ H xs us Q I r h
 obtain⟨a,vs,l,rfl,hH,hd,hz,q⟩:=h
 obtain⟨u,rfl,r1⟩:=r.one
 cases r1
 obtain⟨z,its,n,rv,hl,e⟩:=I.lstM hH
 obtain⟨qs,eq,pq⟩:=q56 I hd rv
 subst eq
 obtain⟨hlen,hat⟩:=zlw pq
 refine callType_codes (Q₁:=fun obj s₁=>obj=.ref s.heap.objs.size/\s₁ = {s with heap:=s.heap.push {cls:=.type "dict",data:=.dict #[]}}) F.kt_called_dict (F.kt_typeCall_dict_1 _) F.entry_dict_init (kt_code_dict_new _ ⟨rfl,rfl⟩) ?_
 rintro obj s₁ ⟨rfl,rfl⟩
 have hnew:(s.heap.push {cls:=.type "dict",data:=.dict #[]}).DictOfH (tupleKind (z1d X.prog X.w)) s.heap.objs.size []:=Heap.DictOfH.new s.heap
 refine⟨hnew.typeIs,F.args_dict_init_2 _ _,?_⟩
 unfold Builtin.«dict.__init__»
 refine yc ?_
 unfold Builtin.Dict.selfAndRest
 refine yc (wpAny_notOrdered_dict hnew.typeIs ?_)
 show wpAny _ _ (pure (s.heap.objs.size,[Value.ref a])) _ _ _
 refine yo ?_
 show wpAny _ _ (Builtin.Dict.updateFrom "dict.__init__" s.heap.objs.size (.ref a) [] .none) _ _ _
 unfold Builtin.Dict.updateFrom
 have e1:(s.heap.push {cls:=.type "dict",data:=.dict #[]}).get? a=some {cls:=.type "list",data:=.seq (qs.map fun q=>Value.ref q.r).toArray n}:=y6 _ e
 refine yc (wpAny_typeOf (T:="list") ⟨_,e1,rfl⟩ ?_)
 rw [if_pos (by decide)]
 refine yc (q0i (by simpa using I.ok.hd hc) e1 fun h2 tk2 k2=>?_)
 refine wpAny_ite_split (fun _=>?_) (fun c=>absurd rfl c)
 have e2:=k2 a _ e1
 have eD:=k2 _ _ (yi s.heap (o:={cls:=.type "dict",data:=.dict #[]}) rfl)
 have lD:s.heap.objs.size < h2.objs.size:=ye eD
 have la:a < s.heap.objs.size:=ye e
 have hl2:h2.IsList a (qs.map fun q=>Value.ref q.r).toArray:=⟨_,e2,rfl,n,rfl⟩
 refine yc (wpAny_rule (yc (wpAny_pyIter_list (s:={s with heap:=h2,toks:=tk2}) hl2 (yo ⟨y2q zd3 _,?_⟩))))
 have W:=(Walks.list (prog:=X.prog) (w:=X.w) (A:=X.A.in1.in1) (by simpa using I.ok.hd hc) h2.objs.size a (yk (y0v la lD)) (qs.map fun q=>Value.ref q.r).toArray).toS
 have hsz:(qs.map fun q=>Value.ref q.r).toArray.size=qs.length:=by simp
 rw [hsz] at W
 have hgq:∀j,j < qs.length->qs[j]?=some (qs.getD j default):=fun j hj=>by
  rw [yj,yb hj]; rfl
 have hgl:∀j,j < qs.length->l[j]?=some (l.getD j ([],.non)):=fun j hj=>by
  rw [yj,yb (by omega)]; rfl
 have ok:∀j,j < qs.length->q3x X H s.heap (l.getD j ([],.non)) (qs.getD j default):=fun j hj=>hat j _ _ (hgl j hj) (hgq j hj)
 have kp:∀b o,s.heap.get? b=some o->(h2.push {cls:=.type "list_iterator",data:=.fields #[.ref a,.int 0 0]}).get? b=some o:=fun b o q=>y6 _ (k2 b o (y6 _ q))
 refine zoc (A:=X.A.in1) (D:=s.heap.objs.size) (rw_:=fun j=>(qs.getD j default).r) (ka:=fun j=>(qs.getD j default).k) (va:=fun j=>(qs.getD j default).u) (ks:=fun j=>(l.getD j ([],.non)).1.map Sum.inl) W ?_ (fun i v hv=>?_) (by omega) (fun j hj=>?_) (by show X.A.units+1+8 < cLine; omega) qs.length 0 _ (Nat.zero_add _) ⟨⟨_,yi _ rfl,rfl,rfl⟩,hl2.push _⟩ ?_ (fun j hj=>?_) fun s' mv x=>?_
 ·simp only[yz,yt,or_false,not_or]
  exact⟨yk lD,y0k la⟩
 ·have hi:i < qs.length:=by
   refine y26 fun z=>?_
   rw [y2m (by rw [hsz]; omega)] at hv
   cases hv
  have z:(qs.map fun q=>Value.ref q.r)[i]?=some v:=by simpa using hv
  rw [y00,hgq i hi] at z
  exact(y04 z).symm
 ·obtain⟨_,_,_,_,⟨o,its,k,g1,_⟩,o2,its2,k2',g2,_⟩:=ok j hj
  have b1:=ye g1
  have b2:=ye g2
  simp only[yz,yt,or_false,not_or]
  exact⟨⟨yk b1,yk (y0v b1 lD)⟩,yk b2,yk (y0v b2 lD)⟩
 ·exact zch hnew (fun o z=>y6 _ (k2 _ o z)) fun y hy=>nomatch (show y∈([]:List (List Key×Addr×y4)) from hy)
 ·obtain⟨_,_,_,_,⟨o,its,k,g1,r1⟩,x2⟩:=ok j hj
  exact⟨⟨o,its,k,kp _ _ g1,r1⟩,zdf x2 fun o z=>kp _ o z⟩
 ·obtain⟨h',g',d',tk',os'⟩:=s'
  have z1:g'=s.gens:=mv.gens
  have z2:d'=s.drawn:=mv.drawn
  have z3:os'=s.os:=mv.os
  subst z1 z2 z3
  refine⟨rfl,?_⟩
  have kf:∀b o,s.heap.get? b=some o->h'.get? b=some o:=fun b o q=>by
   have lb:=ye q
   refine mv.heap b o ?_ (kp b o q)
   simp only[yz,yt,or_false,not_or]
   exact⟨yk lb,yk (y0v lb lD)⟩
  obtain⟨oD,es,ep,f1,f2,f3,f4,f5,f6⟩:=x
  have fl:=zqi (H:=H) (ks:=fun j=>(l.getD j ([],.non)).1.map Sum.inl) (ka:=fun j=>(qs.getD j default).k) (va:=fun j=>(qs.getD j default).u) (xv:=fun j=>(qs.getD j default).x) (n:=qs.length) (fun j hj=>⟨by rw [(ok j hj).2.1,y10]; rfl,(ok j hj).2.2.2.1⟩) qs.length (yg _)
  refine⟨.ref s.heap.objs.size,_,I.laid (t':=tk') kf (yg _) (show ObjOk X.prog X.w _ _ _ (.dT (zs0 (fun j=>(l.getD j ([],.non)).1.map Sum.inl) (fun j=>(qs.getD j default).x) qs.length)) from⟨?_,?_,_,?_,oD,es,ep,f1,f2,f3,f4,f6⟩),rfl,q _ _ (I.hok.fresh (yg _)) fun k=>?_⟩
  ·rw [fl.length]
   exact q4y (y0b (zhu _) (by omega))
  ·have:=I.big
   exact beq_eq_false_iff_ne.mpr (y0k this)
  ·exact L2.Paired.imp' (fun p q e=>⟨e.1,by rw [z09 (yk (I.hok _ _ e.2.1).lt)]; exact e.2.1,e.2.2⟩) fl
  ·rw [zqh,y25,decide_eq_true_eq,List.contains_iff_mem,List.mem_map]
   constructor
   ·rintro⟨j,hj,e⟩
    refine⟨l.getD j ([],.non),yv (hgl j hj),?_⟩
    exact zqd _ _ e
   ·rintro⟨r,hr,rfl⟩
    obtain⟨j,hj,e⟩:=y0y hr
    refine⟨j,by omega,?_⟩
    rw [yj,yb hj,e]
    rfl
end
end L2
set_option maxHeartbeats 0
namespace SR
open PySem L2
abbrev CDF(x:Str):Prop:=(x == ("__classdict__" : Str))=false
abbrev DBF(x:Str):Prop:=(x == ("__debug__" : Str))=false
abbrev GLF(s:Stmt)(x:Str):Prop:=(defScope s).names.lookup x=some NameKind.globalImplicit
def VD(s:Scope)(x:Str):Prop:=Vis s x/\(x == ("__debug__" : Str))=false/\(x == ("__classdict__" : Str))=false
abbrev VE(s:Stmt)(x:Str):Prop:=VD (defScope s) x
theorem ve1{s:Stmt}{x:Str} (h:(defScope s).names.lookup x=some NameKind.local/\(x == ("__debug__" : Str))=false/\(x == ("__classdict__" : Str))=false):VE s x:=⟨.inl h.1,h.2⟩
theorem ve2{s:Stmt}{x:Str} (h:(defScope s).names.lookup x=some NameKind.cell/\(x == ("__debug__" : Str))=false/\(x == ("__classdict__" : Str))=false):VE s x:=⟨.inr (.inl h.1),h.2⟩
theorem z06{X:Cx}{x:Str}{pos:Pos}(i:Nat)(hN:X.N[i]?=some x)(h:VD X.env.scope x):PE X (.Name x pos) (zif i):=z1q hN h.1 h.2.1 h.2.2
local macro_rules | `(tactic| walk_at "vc")=>`(tactic| first | exact Or.inl rfl | exact Or.inr (Or.inl rfl) | exact Or.inr (Or.inr rfl))
def top(i:Nat):Stmt:=PySem.Challenge.pw_smallrooms_k13_whole_trace_twins.main.body.getD i (.Pass ⟨0,0,0,0⟩)
theorem zl1:bootBuiltins "ValueError" = some (.type "ValueError"):=by decide+kernel
theorem q1d:bootBuiltins "bool" = some (.type "bool"):=by decide+kernel
theorem q1c:bootBuiltins "dict" = some (.type "dict"):=by decide+kernel
theorem q3o:bootBuiltins "int" = some (.type "int"):=by decide+kernel
theorem z1t:bootBuiltins "isinstance" = some (.builtin "isinstance"):=by decide+kernel
theorem z74:bootBuiltins "len" = some (.builtin "len"):=by decide+kernel
theorem q3n:bootBuiltins "max" = some (.builtin "max"):=by decide+kernel
theorem zyy:bootBuiltins "min" = some (.builtin "min"):=by decide+kernel
theorem zn8:bootBuiltins "sorted" = some (.builtin "sorted"):=by decide+kernel
theorem zdz:bootBuiltins "tuple" = some (.type "tuple"):=by decide+kernel
theorem zsd:CDF "_law_at":=by decide+kernel
theorem zn4:CDF "_law_deed":=by decide+kernel
theorem zn3:CDF "_law_high":=by decide+kernel
theorem zvu:CDF "_law_k":=by decide+kernel
theorem zkz:CDF "_law_known":=by decide+kernel
theorem zi8:CDF "_law_low":=by decide+kernel
theorem z3q:CDF "_law_one":=by decide+kernel
theorem z73:CDF "_law_path":=by decide+kernel
theorem zcl:CDF "_law_row":=by decide+kernel
theorem zn2:CDF "_law_rows":=by decide+kernel
theorem zj0:CDF "_law_script":=by decide+kernel
theorem zn1:CDF "_law_seen":=by decide+kernel
theorem zky:CDF "_law_yours":=by decide+kernel
theorem q5y:CDF "e":=by decide+kernel
theorem zpe:CDF "path":=by decide+kernel
theorem q1a:CDF "rows":=by decide+kernel
theorem q19:CDF "seen":=by decide+kernel
theorem zdy:CDF "settle":=by decide+kernel
theorem zxx:CDF "worth":=by decide+kernel
theorem zp9:DBF "BadPaper":=by decide+kernel
theorem zs8:DBF "BadPlan":=by decide+kernel
theorem zn0:DBF "NoProgram":=by decide+kernel
theorem zi3:DBF "NoStep":=by decide+kernel
theorem zvi:DBF "NoText":=by decide+kernel
theorem zp8:DBF "NoWorths":=by decide+kernel
theorem zmz:DBF "RoomError":=by decide+kernel
theorem zqo:DBF "Trace":=by decide+kernel
theorem zkw:DBF "ValueError":=by decide+kernel
theorem zvh:DBF "WIDE":=by decide+kernel
theorem zs7:DBF "_law_at":=by decide+kernel
theorem z5t:DBF "_law_block":=by decide+kernel
theorem zmy:DBF "_law_cell":=by decide+kernel
theorem zkv:DBF "_law_class":=by decide+kernel
theorem zi2:DBF "_law_counted":=by decide+kernel
theorem zmx:DBF "_law_deed":=by decide+kernel
theorem zmw:DBF "_law_high":=by decide+kernel
theorem zvg:DBF "_law_k":=by decide+kernel
theorem zku:DBF "_law_known":=by decide+kernel
theorem zi1:DBF "_law_low":=by decide+kernel
theorem z3p:DBF "_law_one":=by decide+kernel
theorem z72:DBF "_law_path":=by decide+kernel
theorem z0p:DBF "_law_pick":=by decide+kernel
theorem zi0:DBF "_law_program":=by decide+kernel
theorem zci:DBF "_law_row":=by decide+kernel
theorem zmv:DBF "_law_rows":=by decide+kernel
theorem ziz:DBF "_law_script":=by decide+kernel
theorem zmu:DBF "_law_seen":=by decide+kernel
theorem z6r:DBF "_law_sum":=by decide+kernel
theorem zf4:DBF "_law_told":=by decide+kernel
theorem ziy:DBF "_law_worths":=by decide+kernel
theorem zkt:DBF "_law_yours":=by decide+kernel
theorem zmt:DBF "all_deeds":=by decide+kernel
theorem zms:DBF "blocks_of":=by decide+kernel
theorem q15:DBF "bool":=by decide+kernel
theorem z8i:DBF "deeds_of_block":=by decide+kernel
theorem q14:DBF "dict":=by decide+kernel
theorem z9f:DBF "do_block":=by decide+kernel
theorem zs6:DBF "do_deed":=by decide+kernel
theorem zxw:DBF "do_if":=by decide+kernel
theorem zvf:DBF "do_set":=by decide+kernel
theorem zp7:DBF "do_while":=by decide+kernel
theorem q5x:DBF "e":=by decide+kernel
theorem q3g:DBF "int":=by decide+kernel
theorem zix:DBF "is_tuple_of":=by decide+kernel
theorem zp6:DBF "is_whole":=by decide+kernel
theorem zfv:DBF "is_whole_from":=by decide+kernel
theorem z1s:DBF "isinstance":=by decide+kernel
theorem z71:DBF "len":=by decide+kernel
theorem q3f:DBF "max":=by decide+kernel
theorem zyx:DBF "min":=by decide+kernel
theorem zer:DBF "names_at_first":=by decide+kernel
theorem zp5:DBF "path":=by decide+kernel
theorem zb5:DBF "reckon":=by decide+kernel
theorem q13:DBF "rows":=by decide+kernel
theorem zve:DBF "run_by":=by decide+kernel
theorem q12:DBF "seen":=by decide+kernel
theorem zdw:DBF "settle":=by decide+kernel
theorem zmr:DBF "sorted":=by decide+kernel
theorem zks:DBF "spots":=by decide+kernel
theorem z5k:DBF "spots_of_term":=by decide+kernel
theorem zs4:DBF "term_of":=by decide+kernel
theorem zhz:DBF "traced":=by decide+kernel
theorem zdv:DBF "tuple":=by decide+kernel
theorem zxv:DBF "worth":=by decide+kernel
theorem zp4:DBF "worth_of":=by decide+kernel
theorem zkc:("ValueError" : Str)≠"__name__":=by decide+kernel
theorem q07:("bool" : Str)≠"__name__":=by decide+kernel
theorem q06:("dict" : Str)≠"__name__":=by decide+kernel
theorem q2p:("int" : Str)≠"__name__":=by decide+kernel
theorem z1r:("isinstance" : Str)≠"__name__":=by decide+kernel
theorem z70:("len" : Str)≠"__name__":=by decide+kernel
theorem q2o:("max" : Str)≠"__name__":=by decide+kernel
theorem zyn:("min" : Str)≠"__name__":=by decide+kernel
theorem zm4:("sorted" : Str)≠"__name__":=by decide+kernel
theorem zd6:("tuple" : Str)≠"__name__":=by decide+kernel
abbrev q54:Stmt:=top 0
abbrev z4v:Stmt:=top 11
theorem sc_spots:FnScope ["program","rows","path","deed"] ["program"] (defScope z4v):=⟨rfl,rfl,rfl,by decide+kernel,rfl,by decide+kernel,by decide+kernel⟩
theorem zdg:GLF z4v "all_deeds":=by decide+kernel
theorem za0:GLF z4v "spots_of_term":=by decide+kernel
theorem zfp:GLF z4v "term_of":=by decide+kernel
theorem zir:Loc (defScope z4v) "deed":=Or.inl (by decide+kernel)
theorem ziq:Loc (defScope z4v) "path":=Or.inl (by decide+kernel)
theorem zio:Loc (defScope z4v) "rows":=Or.inl (by decide+kernel)
theorem zjd:VE z4v "deed":=ve1 (by decide+kernel)
theorem zjc:VE z4v "path":=ve1 (by decide+kernel)
theorem zf8:VE z4v "program":=ve1 (by decide+kernel)
theorem zcp:VE z4v "rows":=ve1 (by decide+kernel)
abbrev z4x:Stmt:=top 12
theorem zo1:FnScope ["thing"] ["thing"] (defScope z4x):=⟨rfl,rfl,rfl,by decide+kernel,rfl,by decide+kernel,by decide+kernel⟩
theorem zfr:GLF z4x "bool":=by decide+kernel
theorem zhr:GLF z4x "int":=by decide+kernel
theorem z4p:GLF z4x "isinstance":=by decide+kernel
theorem z7v:VE z4x "thing":=ve1 (by decide+kernel)
abbrev z29:Stmt:=top 13
theorem zfh:FnScope ["thing","low","high"] ["thing","low","high"] (defScope z29):=⟨rfl,rfl,rfl,by decide+kernel,rfl,by decide+kernel,by decide+kernel⟩
theorem z7j:GLF z29 "is_whole":=by decide+kernel
theorem za7:VE z29 "high":=ve1 (by decide+kernel)
theorem zbd:VE z29 "low":=ve1 (by decide+kernel)
theorem z3a:VE z29 "thing":=ve1 (by decide+kernel)
abbrev z2i:Stmt:=top 14
theorem zik:FnScope ["thing","many"] ["thing","many"] (defScope z2i):=⟨rfl,rfl,rfl,by decide+kernel,rfl,by decide+kernel,by decide+kernel⟩
theorem z7k:GLF z2i "isinstance":=by decide+kernel
theorem zdo:GLF z2i "len":=by decide+kernel
theorem zbr:GLF z2i "tuple":=by decide+kernel
theorem zc4:VE z2i "many":=ve1 (by decide+kernel)
theorem z5m:VE z2i "thing":=ve1 (by decide+kernel)
abbrev zcy:Stmt:=top 15
theorem zrb:FnScope ["deed"] ["deed"] (defScope zcy):=⟨rfl,rfl,rfl,by decide+kernel,rfl,by decide+kernel,by decide+kernel⟩
theorem z5x:VE zcy "deed":=ve1 (by decide+kernel)
abbrev z91:Stmt:=top 16
theorem zll:FnScope ["deed"] ["deed"] (defScope z91):=⟨rfl,rfl,rfl,by decide+kernel,rfl,by decide+kernel,by decide+kernel⟩
theorem z2s:VE z91 "deed":=ve1 (by decide+kernel)
abbrev z6h:Stmt:=top 17
theorem zlm:FnScope ["program"] ["program"] (defScope z6h):=⟨rfl,rfl,rfl,by decide+kernel,rfl,by decide+kernel,by decide+kernel⟩
theorem z6o:GLF z6h "deeds_of_block":=by decide+kernel
theorem zbf:VE z6h "program":=ve1 (by decide+kernel)
abbrev z0c:Stmt:=top 18
theorem sc_deeds_of_block:FnScope ["block","path","rows","at","deed","deed_path","number","inner"] ["block","path"] (defScope z0c):=⟨rfl,rfl,rfl,by decide+kernel,rfl,by decide+kernel,by decide+kernel⟩
theorem z6n:GLF z0c "blocks_of":=by decide+kernel
theorem z4m:GLF z0c "deeds_of_block":=by decide+kernel
theorem z6m:GLF z0c "enumerate":=by decide+kernel
theorem zam:Loc (defScope z0c) "at":=Or.inl (by decide+kernel)
theorem z99:Loc (defScope z0c) "deed":=Or.inl (by decide+kernel)
theorem z5r:Loc (defScope z0c) "deed_path":=Or.inl (by decide+kernel)
theorem z8c:Loc (defScope z0c) "inner":=Or.inl (by decide+kernel)
theorem z7e:Loc (defScope z0c) "number":=Or.inl (by decide+kernel)
theorem z98:Loc (defScope z0c) "rows":=Or.inl (by decide+kernel)
theorem zbe:VE z0c "at":=ve1 (by decide+kernel)
theorem z8s:VE z0c "block":=ve1 (by decide+kernel)
theorem z4o:VE z0c "deed":=ve1 (by decide+kernel)
theorem z3m:VE z0c "deed_path":=ve1 (by decide+kernel)
theorem z8r:VE z0c "inner":=ve1 (by decide+kernel)
theorem z7x:VE z0c "number":=ve1 (by decide+kernel)
theorem z9u:VE z0c "path":=ve1 (by decide+kernel)
theorem z3b:VE z0c "rows":=ve1 (by decide+kernel)
abbrev z28:Stmt:=top 19
theorem zfg:FnScope ["term","path"] ["term","path"] (defScope z28):=⟨rfl,rfl,rfl,by decide+kernel,rfl,by decide+kernel,by decide+kernel⟩
theorem z2w:GLF z28 "spots_of_term":=by decide+kernel
theorem z2f:VE z28 "path":=ve1 (by decide+kernel)
theorem z1f:VE z28 "term":=ve1 (by decide+kernel)
abbrev z2h:Stmt:=top 21
theorem sc_traced:FnScope ["program","worths","rows"] ["program","worths"] (defScope z2h):=⟨rfl,rfl,rfl,by decide+kernel,rfl,by decide+kernel,by decide+kernel⟩
theorem zfw:(defScope z2h).names.lookup ("rows" : Str)=some NameKind.cell:=by decide+kernel
theorem zfo:GLF z2h "run_by":=by decide+kernel
theorem zh7:Loc (defScope z2h) "rows":=Or.inr (by decide+kernel)
theorem ze0:VE z2h "program":=ve1 (by decide+kernel)
theorem zig:VE z2h "rows":=ve2 (by decide+kernel)
theorem zf7:VE z2h "worths":=ve1 (by decide+kernel)
abbrev z3h:Stmt:=top 22
theorem sc_run_by:FnScope ["program","worths","settle","names","refusal"] ["program","worths","settle"] (defScope z3h):=⟨rfl,rfl,rfl,by decide+kernel,rfl,by decide+kernel,by decide+kernel⟩
theorem zdh:GLF z3h "do_block":=by decide+kernel
theorem z8d:GLF z3h "names_at_first":=by decide+kernel
theorem zfq:GLF z3h "sorted":=by decide+kernel
theorem zhq:GLF z3h "tuple":=by decide+kernel
theorem zfk:Loc (defScope z3h) "names":=Or.inl (by decide+kernel)
theorem zda:Loc (defScope z3h) "refusal":=Or.inl (by decide+kernel)
theorem za4:VE z3h "names":=ve1 (by decide+kernel)
theorem z7p:VE z3h "program":=ve1 (by decide+kernel)
theorem z7o:VE z3h "refusal":=ve1 (by decide+kernel)
theorem zfa:VE z3h "settle":=ve1 (by decide+kernel)
theorem zf9:VE z3h "worths":=ve1 (by decide+kernel)
abbrev z6g:Stmt:=top 23
theorem zrc:FnScope ["worth","path","rows"] ["worth","path","rows"] (defScope z6g):=⟨rfl,rfl,rfl,by decide+kernel,rfl,by decide+kernel,by decide+kernel⟩
theorem zar:GLF z6g "WIDE":=by decide+kernel
theorem z5y:VE z6g "path":=ve1 (by decide+kernel)
theorem zg7:VE z6g "rows":=ve1 (by decide+kernel)
theorem z35:VE z6g "worth":=ve1 (by decide+kernel)
abbrev z0j:Stmt:=top 24
theorem sc_names_at_first:FnScope ["ins","worths","names","row","worth"] ["ins","worths"] (defScope z0j):=⟨rfl,rfl,rfl,by decide+kernel,rfl,by decide+kernel,by decide+kernel⟩
theorem z5j:GLF z0j "is_tuple_of":=by decide+kernel
theorem z4z:GLF z0j "is_whole_from":=by decide+kernel
theorem zat:GLF z0j "len":=by decide+kernel
theorem zas:GLF z0j "zip":=by decide+kernel
theorem z84:Loc (defScope z0j) "names":=Or.inl (by decide+kernel)
theorem z9v:Loc (defScope z0j) "row":=Or.inl (by decide+kernel)
theorem z83:Loc (defScope z0j) "worth":=Or.inl (by decide+kernel)
theorem z53:VE z0j "ins":=ve1 (by decide+kernel)
theorem z4b:VE z0j "names":=ve1 (by decide+kernel)
theorem z3i:VE z0j "row":=ve1 (by decide+kernel)
theorem z4a:VE z0j "worth":=ve1 (by decide+kernel)
theorem z43:VE z0j "worths":=ve1 (by decide+kernel)
abbrev z1n:Stmt:=top 25
theorem sc_do_block:FnScope ["block","path","names","settle","at","deed","refusal"] ["block","path","names","settle"] (defScope z1n):=⟨rfl,rfl,rfl,by decide+kernel,rfl,by decide+kernel,by decide+kernel⟩
theorem zce:GLF z1n "do_deed":=by decide+kernel
theorem zb0:GLF z1n "enumerate":=by decide+kernel
theorem zh8:Loc (defScope z1n) "at":=Or.inl (by decide+kernel)
theorem zej:Loc (defScope z1n) "deed":=Or.inl (by decide+kernel)
theorem zbk:Loc (defScope z1n) "refusal":=Or.inl (by decide+kernel)
theorem zii:VE z1n "at":=ve1 (by decide+kernel)
theorem ze2:VE z1n "block":=ve1 (by decide+kernel)
theorem zfd:VE z1n "deed":=ve1 (by decide+kernel)
theorem ze1:VE z1n "names":=ve1 (by decide+kernel)
theorem zfc:VE z1n "path":=ve1 (by decide+kernel)
theorem z65:VE z1n "refusal":=ve1 (by decide+kernel)
theorem zcq:VE z1n "settle":=ve1 (by decide+kernel)
abbrev z3o:Stmt:=top 26
theorem zrd:FnScope ["deed","path","names","settle"] ["deed","path","names","settle"] (defScope z3o):=⟨rfl,rfl,rfl,by decide+kernel,rfl,by decide+kernel,by decide+kernel⟩
theorem zft:GLF z3o "do_if":=by decide+kernel
theorem zel:GLF z3o "do_set":=by decide+kernel
theorem zcd:GLF z3o "do_while":=by decide+kernel
theorem z3l:VE z3o "deed":=ve1 (by decide+kernel)
theorem z5g:VE z3o "names":=ve1 (by decide+kernel)
theorem z64:VE z3o "path":=ve1 (by decide+kernel)
theorem z4r:VE z3o "settle":=ve1 (by decide+kernel)
abbrev z4g:Stmt:=top 27
theorem sc_do_set:FnScope ["deed","path","names","settle","had"] ["deed","path","names","settle"] (defScope z4g):=⟨rfl,rfl,rfl,by decide+kernel,rfl,by decide+kernel,by decide+kernel⟩
theorem zfs:GLF z4g "reckon":=by decide+kernel
theorem ziu:Loc (defScope z4g) "had":=Or.inl (by decide+kernel)
theorem zbw:VE z4g "deed":=ve1 (by decide+kernel)
theorem z8o:VE z4g "had":=ve1 (by decide+kernel)
theorem za8:VE z4g "names":=ve1 (by decide+kernel)
theorem zih:VE z4g "path":=ve1 (by decide+kernel)
theorem zfb:VE z4g "settle":=ve1 (by decide+kernel)
abbrev z5h:Stmt:=top 28
theorem sc_do_if:FnScope ["deed","path","names","settle","had"] ["deed","path","names","settle"] (defScope z5h):=⟨rfl,rfl,rfl,by decide+kernel,rfl,by decide+kernel,by decide+kernel⟩
theorem z8e:GLF z5h "do_block":=by decide+kernel
theorem zhs:GLF z5h "reckon":=by decide+kernel
theorem zkf:Loc (defScope z5h) "had":=Or.inl (by decide+kernel)
theorem z8q:VE z5h "deed":=ve1 (by decide+kernel)
theorem za9:VE z5h "had":=ve1 (by decide+kernel)
theorem z75:VE z5h "names":=ve1 (by decide+kernel)
theorem z8p:VE z5h "path":=ve1 (by decide+kernel)
theorem z63:VE z5h "settle":=ve1 (by decide+kernel)
abbrev z1m:Stmt:=top 29
theorem sc_do_while:FnScope ["deed","path","names","settle","done","had","refusal"] ["deed","path","names","settle"] (defScope z1m):=⟨rfl,rfl,rfl,by decide+kernel,rfl,by decide+kernel,by decide+kernel⟩
theorem zbs:GLF z1m "do_block":=by decide+kernel
theorem zdp:GLF z1m "reckon":=by decide+kernel
theorem z8b:Loc (defScope z1m) "done":=Or.inl (by decide+kernel)
theorem zfn:Loc (defScope z1m) "had":=Or.inl (by decide+kernel)
theorem zbj:Loc (defScope z1m) "refusal":=Or.inl (by decide+kernel)
theorem z5f:VE z1m "deed":=ve1 (by decide+kernel)
theorem z9m:VE z1m "done":=ve1 (by decide+kernel)
theorem z61:VE z1m "had":=ve1 (by decide+kernel)
theorem z7w:VE z1m "names":=ve1 (by decide+kernel)
theorem z5e:VE z1m "path":=ve1 (by decide+kernel)
theorem z60:VE z1m "refusal":=ve1 (by decide+kernel)
theorem z6x:VE z1m "settle":=ve1 (by decide+kernel)
abbrev z30:Stmt:=top 30
theorem sc_reckon:FnScope ["term","path","names","settle","one","other"] ["term","path","names","settle"] (defScope z30):=⟨rfl,rfl,rfl,by decide+kernel,rfl,by decide+kernel,by decide+kernel⟩
theorem z9n:GLF z30 "reckon":=by decide+kernel
theorem zdi:GLF z30 "worth_of":=by decide+kernel
theorem zis:Loc (defScope z30) "one":=Or.inl (by decide+kernel)
theorem zfl:Loc (defScope z30) "other":=Or.inl (by decide+kernel)
theorem z5z:VE z30 "names":=ve1 (by decide+kernel)
theorem z8l:VE z30 "one":=ve1 (by decide+kernel)
theorem z49:VE z30 "other":=ve1 (by decide+kernel)
theorem z37:VE z30 "path":=ve1 (by decide+kernel)
theorem z3r:Vis (defScope z30) "settle":=Or.inl (by decide+kernel)
theorem z9l:VE z30 "settle":=ve1 (by decide+kernel)
theorem z23:VE z30 "term":=ve1 (by decide+kernel)
abbrev z45:Stmt:=top 31
theorem znz:FnScope ["word","one","other"] ["word","one","other"] (defScope z45):=⟨rfl,rfl,rfl,by decide+kernel,rfl,by decide+kernel,by decide+kernel⟩
theorem zhp:GLF z45 "max":=by decide+kernel
theorem zho:GLF z45 "min":=by decide+kernel
theorem z1u:VE z45 "one":=ve1 (by decide+kernel)
theorem z1e:VE z45 "other":=ve1 (by decide+kernel)
theorem z1z:VE z45 "word":=ve1 (by decide+kernel)
abbrev z26:Stmt:=zi7 (top 33) 0
theorem zjq:FnScope ["self","program","worths"] ["self","program","worths"] (defScope z26):=⟨rfl,rfl,rfl,by decide+kernel,rfl,by decide+kernel,by decide+kernel⟩
theorem zbu:GLF z26 "traced":=by decide+kernel
theorem z56:VE z26 "program":=ve1 (by decide+kernel)
theorem z3g:VE z26 "self":=ve1 (by decide+kernel)
theorem z5n:VE z26 "worths":=ve1 (by decide+kernel)
abbrev z38:Stmt:=zi7 (top 33) 1
theorem zgq:FnScope ["self"] ["self"] (defScope z38):=⟨rfl,rfl,rfl,by decide+kernel,rfl,by decide+kernel,by decide+kernel⟩
theorem zdq:GLF z38 "NoStep":=by decide+kernel
theorem zb3:GLF z38 "len":=by decide+kernel
theorem z0r:VE z38 "self":=ve1 (by decide+kernel)
abbrev z2j:Stmt:=zi7 (top 33) 2
theorem zcx:FnScope ["self"] ["self"] (defScope z2j):=⟨rfl,rfl,rfl,by decide+kernel,rfl,by decide+kernel,by decide+kernel⟩
theorem zbv:GLF z2j "NoStep":=by decide+kernel
theorem z0t:VE z2j "self":=ve1 (by decide+kernel)
abbrev z2e:Stmt:=zi7 (top 33) 3
theorem sc_Trace_to:FnScope ["self","path","at"] ["self","path"] (defScope z2e):=⟨rfl,rfl,rfl,by decide+kernel,rfl,by decide+kernel,by decide+kernel⟩
theorem zht:GLF z2e "len":=by decide+kernel
theorem zem:GLF z2e "range":=by decide+kernel
theorem zh9:Loc (defScope z2e) "at":=Or.inl (by decide+kernel)
theorem z76:VE z2e "at":=ve1 (by decide+kernel)
theorem zfe:VE z2e "path":=ve1 (by decide+kernel)
theorem z36:VE z2e "self":=ve1 (by decide+kernel)
abbrev z25:Stmt:=zi7 (top 33) 4
theorem zgo:FnScope ["self"] ["self"] (defScope z25):=⟨rfl,rfl,rfl,by decide+kernel,rfl,by decide+kernel,by decide+kernel⟩
theorem zcg:GLF z25 "len":=by decide+kernel
theorem z3v:VE z25 "self":=ve1 (by decide+kernel)
abbrev zy9:Stmt:=zi7 (top 33) 5
abbrev z16:Stmt:=zi7 (top 33) 6
theorem sc_Trace_tally:FnScope ["self","many","path","worth"] ["self"] (defScope z16):=⟨rfl,rfl,rfl,by decide+kernel,rfl,by decide+kernel,by decide+kernel⟩
theorem zb2:GLF z16 "sorted":=by decide+kernel
theorem zbn:Loc (defScope z16) "many":=Or.inl (by decide+kernel)
theorem zbm:Loc (defScope z16) "path":=Or.inl (by decide+kernel)
theorem zao:Loc (defScope z16) "worth":=Or.inl (by decide+kernel)
theorem z3y:VE z16 "many":=ve1 (by decide+kernel)
theorem z68:VE z16 "path":=ve1 (by decide+kernel)
theorem z67:VE z16 "self":=ve1 (by decide+kernel)
abbrev z1h:Stmt:=zi7 (top 33) 7
theorem sc_Trace_unseen:FnScope ["self","seen"] ["self"] (defScope z1h):=⟨rfl,rfl,rfl,by decide+kernel,rfl,by decide+kernel,by decide+kernel⟩
theorem zbt:GLF z1h "dict":=by decide+kernel
theorem zb1:GLF z1h "spots":=by decide+kernel
theorem zan:Loc (defScope z1h) "seen":=Or.inr (by decide+kernel)
theorem z3u:VE z1h "self":=ve1 (by decide+kernel)
abbrev zt6:Stmt:=zi7 (top 33) 8
abbrev z2l:Stmt:=zi7 (top 33) 9
theorem zgp:FnScope ["self"] ["self"] (defScope z2l):=⟨rfl,rfl,rfl,by decide+kernel,rfl,by decide+kernel,by decide+kernel⟩
theorem z5o:VE z2l "self":=ve1 (by decide+kernel)
abbrev z24:Stmt:=zi7 (top 33) 10
theorem sc_Trace_twin:FnScope ["self","other"] ["self"] (defScope z24):=⟨rfl,rfl,rfl,by decide+kernel,rfl,by decide+kernel,by decide+kernel⟩
theorem zcf:GLF z24 "Trace":=by decide+kernel
theorem zbl:Loc (defScope z24) "other":=Or.inl (by decide+kernel)
theorem z66:VE z24 "other":=ve1 (by decide+kernel)
theorem z4d:VE z24 "self":=ve1 (by decide+kernel)
abbrev z5w:Stmt:=top 35
theorem zo0:FnScope ["_law_script","_law_k"] ["_law_script","_law_k"] (defScope z5w):=⟨rfl,rfl,rfl,by decide+kernel,rfl,by decide+kernel,by decide+kernel⟩
theorem zaz:GLF z5w "len":=by decide+kernel
theorem z3e:VE z5w "_law_k":=ve1 (by decide+kernel)
theorem z1j:VE z5w "_law_script":=ve1 (by decide+kernel)
abbrev z3s:Stmt:=top 36
theorem sc_law_pick:FnScope ["_law_script","_law_k","_law_many","_law_drawn"] ["_law_script","_law_k","_law_many"] (defScope z3s):=⟨rfl,rfl,rfl,by decide+kernel,rfl,by decide+kernel,by decide+kernel⟩
theorem zaw:GLF z3s "_law_cell":=by decide+kernel
theorem z93:Loc (defScope z3s) "_law_drawn":=Or.inl (by decide+kernel)
theorem z39:VE z3s "_law_drawn":=ve1 (by decide+kernel)
theorem z6w:VE z3s "_law_k":=ve1 (by decide+kernel)
theorem za6:VE z3s "_law_many":=ve1 (by decide+kernel)
theorem z8m:VE z3s "_law_script":=ve1 (by decide+kernel)
abbrev z1w:Stmt:=top 37
theorem sc_law_sum:FnScope ["_law_script","_law_at","_law_known","_law_deep","_law_way","_law_words","_law_one"] ["_law_script","_law_at","_law_known","_law_deep"] (defScope z1w):=⟨rfl,rfl,rfl,by decide+kernel,rfl,by decide+kernel,by decide+kernel⟩
theorem z20:GLF z1w "_law_pick":=by decide+kernel
theorem z6l:GLF z1w "_law_sum":=by decide+kernel
theorem ziw:GLF z1w "len":=by decide+kernel
theorem zbh:Loc (defScope z1w) "_law_one":=Or.inl (by decide+kernel)
theorem zbg:Loc (defScope z1w) "_law_way":=Or.inl (by decide+kernel)
theorem z9w:Loc (defScope z1w) "_law_words":=Or.inl (by decide+kernel)
theorem z1i:VE z1w "_law_at":=ve1 (by decide+kernel)
theorem z3t:VE z1w "_law_deep":=ve1 (by decide+kernel)
theorem z1v:VE z1w "_law_known":=ve1 (by decide+kernel)
theorem zc2:VE z1w "_law_one":=ve1 (by decide+kernel)
theorem z10:VE z1w "_law_script":=ve1 (by decide+kernel)
theorem zc1:VE z1w "_law_way":=ve1 (by decide+kernel)
theorem za5:VE z1w "_law_words":=ve1 (by decide+kernel)
abbrev z0m:Stmt:=top 38
theorem sc_law_counted:FnScope ["_law_script","_law_at","_law_known","_law_body","_law_deep","_law_most","_law_name","_law_goal","_law_more"] ["_law_script","_law_at","_law_known","_law_body","_law_deep"] (defScope z0m):=⟨rfl,rfl,rfl,by decide+kernel,rfl,by decide+kernel,by decide+kernel⟩
theorem z1g:GLF z0m "_law_pick":=by decide+kernel
theorem z9b:GLF z0m "_law_sum":=by decide+kernel
theorem zdk:GLF z0m "len":=by decide+kernel
theorem z7b:Loc (defScope z0m) "_law_goal":=Or.inl (by decide+kernel)
theorem z7a:Loc (defScope z0m) "_law_more":=Or.inl (by decide+kernel)
theorem z3w:Loc (defScope z0m) "_law_most":=Or.inl (by decide+kernel)
theorem z79:Loc (defScope z0m) "_law_name":=Or.inl (by decide+kernel)
theorem z17:VE z0m "_law_at":=ve1 (by decide+kernel)
theorem z44:VE z0m "_law_body":=ve1 (by decide+kernel)
theorem z7s:VE z0m "_law_deep":=ve1 (by decide+kernel)
theorem z7r:VE z0m "_law_goal":=ve1 (by decide+kernel)
theorem z2k:VE z0m "_law_known":=ve1 (by decide+kernel)
theorem z7q:VE z0m "_law_more":=ve1 (by decide+kernel)
theorem z2p:VE z0m "_law_most":=ve1 (by decide+kernel)
theorem z2o:VE z0m "_law_name":=ve1 (by decide+kernel)
theorem z0v:VE z0m "_law_script":=ve1 (by decide+kernel)
abbrev z0a:Stmt:=top 39
theorem sc_law_block:FnScope ["_law_script","_law_at","_law_known","_law_deep","_law_deeds","_law_k","_law_base","_law_way","_law_name","_law_first","_law_mine","_law_second","_law_yours","_law_body"] ["_law_script","_law_at","_law_known","_law_deep"] (defScope z0a):=⟨rfl,rfl,rfl,by decide+kernel,rfl,by decide+kernel,by decide+kernel⟩
theorem z7n:(defScope z0a).names.lookup ("_law_known" : Str)=some NameKind.cell:=by decide+kernel
theorem z32:GLF z0a "_law_block":=by decide+kernel
theorem z7i:GLF z0a "_law_counted":=by decide+kernel
theorem z3d:GLF z0a "_law_pick":=by decide+kernel
theorem z5b:GLF z0a "_law_sum":=by decide+kernel
theorem zdm:GLF z0a "range":=by decide+kernel
theorem zdl:GLF z0a "tuple":=by decide+kernel
theorem z97:Loc (defScope z0a) "_law_base":=Or.inl (by decide+kernel)
theorem z96:Loc (defScope z0a) "_law_body":=Or.inl (by decide+kernel)
theorem z89:Loc (defScope z0a) "_law_deeds":=Or.inl (by decide+kernel)
theorem z88:Loc (defScope z0a) "_law_first":=Or.inl (by decide+kernel)
theorem zbi:Loc (defScope z0a) "_law_k":=Or.inl (by decide+kernel)
theorem z48:Loc (defScope z0a) "_law_known":=Or.inr (by decide+kernel)
theorem z95:Loc (defScope z0a) "_law_mine":=Or.inl (by decide+kernel)
theorem z94:Loc (defScope z0a) "_law_name":=Or.inl (by decide+kernel)
theorem z7c:Loc (defScope z0a) "_law_second":=Or.inl (by decide+kernel)
theorem z9y:Loc (defScope z0a) "_law_way":=Or.inl (by decide+kernel)
theorem z87:Loc (defScope z0a) "_law_yours":=Or.inr (by decide+kernel)
theorem z5l:VE z0a "_law_at":=ve1 (by decide+kernel)
theorem z0q:VE z0a "_law_base":=ve1 (by decide+kernel)
theorem z9t:VE z0a "_law_body":=ve1 (by decide+kernel)
theorem z22:VE z0a "_law_deeds":=ve1 (by decide+kernel)
theorem z18:VE z0a "_law_deep":=ve1 (by decide+kernel)
theorem z8n:VE z0a "_law_first":=ve1 (by decide+kernel)
theorem zc3:VE z0a "_law_k":=ve1 (by decide+kernel)
theorem z0l:VE z0a "_law_known":=ve2 (by decide+kernel)
theorem z9s:VE z0a "_law_mine":=ve1 (by decide+kernel)
theorem z4n:VE z0a "_law_name":=ve1 (by decide+kernel)
theorem z0h:VE z0a "_law_script":=ve1 (by decide+kernel)
theorem z7t:VE z0a "_law_second":=ve1 (by decide+kernel)
theorem z54:VE z0a "_law_way":=ve1 (by decide+kernel)
abbrev z0w:Stmt:=top 40
theorem sc_law_program:FnScope ["_law_script","_law_at","_law_ins","_law_k","_law_low"] ["_law_script","_law_at"] (defScope z0w):=⟨rfl,rfl,rfl,by decide+kernel,rfl,by decide+kernel,by decide+kernel⟩
theorem z7h:GLF z0w "_law_block":=by decide+kernel
theorem z2u:GLF z0w "_law_pick":=by decide+kernel
theorem zbp:GLF z0w "range":=by decide+kernel
theorem zbo:GLF z0w "tuple":=by decide+kernel
theorem z86:Loc (defScope z0w) "_law_ins":=Or.inl (by decide+kernel)
theorem z9x:Loc (defScope z0w) "_law_k":=Or.inl (by decide+kernel)
theorem z85:Loc (defScope z0w) "_law_low":=Or.inl (by decide+kernel)
theorem z2c:VE z0w "_law_at":=ve1 (by decide+kernel)
theorem z2x:VE z0w "_law_ins":=ve1 (by decide+kernel)
theorem z3j:VE z0w "_law_k":=ve1 (by decide+kernel)
theorem z4c:VE z0w "_law_low":=ve1 (by decide+kernel)
theorem z1o:VE z0w "_law_script":=ve1 (by decide+kernel)
abbrev z46:Stmt:=top 41
theorem zjp:FnScope ["_law_script","_law_at","_law_program_here"] ["_law_script","_law_at","_law_program_here"] (defScope z46):=⟨rfl,rfl,rfl,by decide+kernel,rfl,by decide+kernel,by decide+kernel⟩
theorem z9a:GLF z46 "enumerate":=by decide+kernel
theorem zc9:GLF z46 "tuple":=by decide+kernel
theorem z4q:VE z46 "_law_program_here":=ve1 (by decide+kernel)
abbrev z1k:Stmt:=top 42
theorem sc_law_class:FnScope ["_law_kept","_law_kinds"] ["_law_kept"] (defScope z1k):=⟨rfl,rfl,rfl,by decide+kernel,rfl,by decide+kernel,by decide+kernel⟩
theorem zay:GLF z1k "BadPaper":=by decide+kernel
theorem zbq:GLF z1k "BadPlan":=by decide+kernel
theorem za2:GLF z1k "NoProgram":=by decide+kernel
theorem zcb:GLF z1k "NoStep":=by decide+kernel
theorem zca:GLF z1k "NoText":=by decide+kernel
theorem zax:GLF z1k "NoWorths":=by decide+kernel
theorem z9c:GLF z1k "ValueError":=by decide+kernel
theorem z0y:GLF z1k "isinstance":=by decide+kernel
theorem z47:Loc (defScope z1k) "_law_kinds":=Or.inl (by decide+kernel)
theorem z11:VE z1k "_law_kept":=ve1 (by decide+kernel)
theorem z2y:VE z1k "_law_kinds":=ve1 (by decide+kernel)
abbrev z4w:Stmt:=top 43
theorem sc_law_told:FnScope ["_law_deed","e"] ["_law_deed"] (defScope z4w):=⟨rfl,rfl,rfl,by decide+kernel,rfl,by decide+kernel,by decide+kernel⟩
theorem zau:GLF z4w "RoomError":=by decide+kernel
theorem za1:GLF z4w "_law_class":=by decide+kernel
theorem ziv:(defScope z4w).names.lookup ("e" : Str)=some NameKind.local:=by decide+kernel
theorem z9r:Vis (defScope z4w) "_law_deed":=Or.inl (by decide+kernel)
abbrev z2d:Stmt:=top 44
theorem sc_law:FnScope ["_law_script","_law_program_here","_law_worths_here","_law_rows","_law_trace","_law_many","_law_ahead","_law_k","_law_other","_law_pairs","_law_one","_law_seen","_law_first_one"] ["_law_script"] (defScope z2d):=⟨rfl,rfl,rfl,by decide+kernel,rfl,by decide+kernel,by decide+kernel⟩
theorem z8j:(defScope z2d).names.lookup ("_law_one" : Str)=some NameKind.cell:=by decide+kernel
theorem zdx:(defScope z2d).names.lookup ("_law_seen" : Str)=some NameKind.cell:=by decide+kernel
theorem zmh:GLF z2d "Trace":=by decide+kernel
theorem z9p:GLF z2d "_law_pick":=by decide+kernel
theorem zcc:GLF z2d "_law_program":=by decide+kernel
theorem z9o:GLF z2d "_law_told":=by decide+kernel
theorem zdn:GLF z2d "_law_worths":=by decide+kernel
theorem zbb:GLF z2d "len":=by decide+kernel
theorem zry:GLF z2d "min":=by decide+kernel
theorem zav:GLF z2d "range":=by decide+kernel
theorem zf0:GLF z2d "spots":=by decide+kernel
theorem zdj:GLF z2d "traced":=by decide+kernel
theorem zde:Loc (defScope z2d) "_law_ahead":=Or.inl (by decide+kernel)
theorem z9z:Loc (defScope z2d) "_law_first_one":=Or.inl (by decide+kernel)
theorem zit:Loc (defScope z2d) "_law_k":=Or.inl (by decide+kernel)
theorem zei:Loc (defScope z2d) "_law_many":=Or.inl (by decide+kernel)
theorem zfm:Loc (defScope z2d) "_law_one":=Or.inr (by decide+kernel)
theorem zdd:Loc (defScope z2d) "_law_other":=Or.inl (by decide+kernel)
theorem zdc:Loc (defScope z2d) "_law_pairs":=Or.inl (by decide+kernel)
theorem z7d:Loc (defScope z2d) "_law_program_here":=Or.inl (by decide+kernel)
theorem zeh:Loc (defScope z2d) "_law_rows":=Or.inr (by decide+kernel)
theorem zeg:Loc (defScope z2d) "_law_seen":=Or.inr (by decide+kernel)
theorem zdb:Loc (defScope z2d) "_law_trace":=Or.inl (by decide+kernel)
theorem z8a:Loc (defScope z2d) "_law_worths_here":=Or.inl (by decide+kernel)
theorem z2r:VE z2d "_law_ahead":=ve1 (by decide+kernel)
theorem z55:VE z2d "_law_first_one":=ve1 (by decide+kernel)
theorem z5d:VE z2d "_law_many":=ve1 (by decide+kernel)
theorem z3k:VE z2d "_law_one":=ve2 (by decide+kernel)
theorem z2q:VE z2d "_law_other":=ve1 (by decide+kernel)
theorem z7u:VE z2d "_law_pairs":=ve1 (by decide+kernel)
theorem z13:VE z2d "_law_program_here":=ve1 (by decide+kernel)
theorem z15:VE z2d "_law_rows":=ve2 (by decide+kernel)
theorem z3f:VE z2d "_law_script":=ve1 (by decide+kernel)
theorem z27:VE z2d "_law_trace":=ve1 (by decide+kernel)
theorem z2z:VE z2d "_law_worths_here":=ve1 (by decide+kernel)
abbrev zz0(J:It)(g:TG)(tb:TS)(D:Ends)(σ : St)(H:Hp):Prop:=∃W:Nat->Nat->St->Hp->Prop,(∃m,W 0 m σ H)/\∀i m σ H,W i m σ H->
 (J.stop i H/\D.nx σ H)\/(J.go i H/\∃N:St->Hp->Prop,(∀ σ' H',N σ' H'->∃m',m' < m/\W (i+1) m' σ' H')/\∀x H',J.yld i H x H'->g x σ H' fun σ2 H2=>tb {D with nx:=N,ct:=N,bk:=D.nx} σ2 H2)
theorem z8u{K:y3}{tl:TE}{g:TG}{tb:TS}{D:Ends}{σ : St}{H:Hp}:zwc (q5a K tl) g tb D σ H=tl σ H fun x H1=>isRf x fun a=>(∃xs,SqT K H1 a xs)/\zz0 (Itt K a) g tb D σ H1:=rfl
theorem z57{K:y3}{tl:TE}{g:TG}{tb:TS}{D:Ends}{σ : St}{H:Hp}:zwc (q0q K tl) g tb D σ H=tl σ H fun x H1=>isRf x fun a=>(∃xs,SqL K H1 a xs)/\zz0 (Itl K a) g tb D σ H1:=rfl
theorem z6a{ta:TA}{g:TG}{tb:TS}{D:Ends}{σ : St}{H:Hp}:zwc (q0p ta) g tb D σ H=ta σ H fun vs H1=>∃j:Int,vs=[.int j]/\-(2 ^ 62)<=j/\j < 2 ^ 62/\zz0 (Itr 0 j.toNat) g tb D σ H1:=rfl
theorem z6c{K:y3}{tl:TE}{g:TG}{tt:TT}{te:TE}{mp:List (Option Nat)}{σ : St}{H:Hp}{Q:VK}:zjg (q5a K tl) g tt te mp σ H Q=tl σ H fun x H1=>isRf x fun a=>(∃xs,SqT K H1 a xs)/\zb8 (Itt K a) g tt te Q (subσ mp σ) H1:=rfl
theorem z4t{K:y3}{tl:TE}{g:TG}{tt:TT}{te:TE}{mp:List (Option Nat)}{σ : St}{H:Hp}{Q:VK}:zjg (q0q K tl) g tt te mp σ H Q=tl σ H fun x H1=>isRf x fun a=>(∃xs,SqL K H1 a xs)/\zb8 (Itl K a) g tt te Q (subσ mp σ) H1:=rfl
theorem z6d{tl:TE}{g:TG}{tt:TT}{te:TE}{mp:List (Option Nat)}{σ : St}{H:Hp}{Q:VK}:zjg (q5r tl) g tt te mp σ H Q=tl σ H fun x H1=>∃z,x=.str z/\zb8 (Its z) g tt te Q (subσ mp σ) H1:=rfl
inductive Wd where
 | add | sub | mul | quo | less | same | min | max
 deriving DecidableEq
def Wd.str:Wd->Str
 | .add=>"add" | .sub=>"sub" | .mul=>"mul" | .quo=>"quo" | .less=>"less" | .same=>"same" | .min=>"min" | .max=>"max"
inductive T where
 | num (i:Int) | nm (x:Str) | op (w:Wd) (a b:T)
def T.enc:T->Dm
 | .num i=>.tup [.str "num",.int i]
 | .nm x=>.tup [.str "name",.str x]
 | .op w a b=>.tup [.str w.str,a.enc,b.enc]
def T.ok(g:List Str):Nat->T->Prop
 | 0,_=>False
 | _+1,.num i=>-32768<=i/\i<=32767
 | _+1,.nm x=>x∈g
 | n+1,.op _ a b=>T.ok g n a/\T.ok g n b
theorem T.ok.mono{g g':List Str}(hg:∀x∈g,x∈g'):∀{n m:Nat} {t:T},T.ok g n t->n<=m->T.ok g' m t
 | 0,_,_,h,_=>h.elim
 | n+1,0,_,_,h=>absurd h (by omega)
 | n+1,m+1,.num i,h,_=>h
 | n+1,m+1,.nm x,h,_=>hg x h
 | n+1,m+1,.op w a b,h,hm=>⟨T.ok.mono hg h.1 (by omega),T.ok.mono hg h.2 (by omega)⟩
inductive D where
 | set (x:Str) (t:T) | ite (t:T) (b c:List D) | whl (t:T) (m:Int) (b:List D)
mutual
def D.enc:D->Dm
 | .set x t=>.tup [.str "set",.str x,t.enc]
 | .ite t b c=>.tup [.str "if",t.enc,.tup (encB b),.tup (encB c)]
 | .whl t m b=>.tup [.str "while",t.enc,.int m,.tup (encB b)]
def encB:List D->List Dm
 | []=>[]
 | d::r=>d.enc::encB r
end
theorem z6q:∀(b c:List D),encB (b++c)=encB b++encB c
 | [],c=>by simp[encB]
 | d::b,c=>by rw [y17,encB,encB,z6q b c,y17]
theorem z6p:∀b:List D,(encB b).length=b.length
 | []=>by simp[encB]
 | d::b=>by rw [encB,yh,yh,z6p b]
def pool:List Str:=["a","b","c","dd"]
def okB:Nat->List D->Prop
 | 0,_=>False
 | n+1,b=>b.length<=6/\∀d∈b,match d with
  | .set x t=>x∈pool/\t.ok pool 5
  | .ite t b c=>t.ok pool 5/\okB n b/\okB n c
  | .whl t m b=>t.ok pool 5/\0<=m/\m<=20/\okB n b
abbrev okD(n:Nat)(d:D):Prop:=match d with
 | .set x t=>x∈pool/\t.ok pool 5
 | .ite t b c=>t.ok pool 5/\okB n b/\okB n c
 | .whl t m b=>t.ok pool 5/\0<=m/\m<=20/\okB n b
def T.knows(p:List Str):T->Bool
 | .num _=>true
 | .nm x=>p.contains x
 | .op _ a b=>a.knows p && b.knows p
mutual
def kbD(p:List Str):D->Option (List Str)
 | .set x t=>if t.knows p then some (p++[x]) else none
 | .ite t b c=>if t.knows p then(match kbB p b,kbB p c with | some q,some r=>some (q.filter fun x=>r.contains x) | _,_=>none) else none
 | .whl t _ b=>if t.knows p then(match kbB p b with | some _=>some p | none=>none) else none
def kbB(p:List Str):List D->Option (List Str)
 | []=>some p
 | d::r=>match kbD p d with
  | some q=>kbB q r
  | none=>none
end
theorem zj6(p:List Str):∀(b c:List D),kbB p (b++c)=match kbB p b with | some q=>kbB q c | none=>none
 | [],c=>by simp[kbB]
 | d::b,c=>by
  rw [y17,kbB,kbB]
  cases kbD p d with
  | none=>rfl
  | some q=>exact zj6 q b c
def Sub(g p:List Str):Prop:=∀x∈g,x∈p
theorem Sub.refl(g:List Str):Sub g g:=fun _ h=>h
theorem Sub.trans{a b c:List Str}(h:Sub a b)(k:Sub b c):Sub a c:=fun x hx=>k x (h x hx)
theorem T.ok.knows{g p:List Str}(hg:Sub g p):∀{n:Nat} {t:T},T.ok g n t->t.knows p=true
 | 0,_,h=>h.elim
 | n+1,.num i,_=>rfl
 | n+1,.nm x,h=>by simpa [T.knows] using hg x h
 | n+1,.op w a b,h=>by simp[T.knows,T.ok.knows hg h.1,T.ok.knows hg h.2]
def Knows(g:List Str)(b:List D)(g':List Str):Prop:=∀p,Sub g p->∃q,kbB p b=some q/\Sub g' q/\Sub p q
def KnowsD(g:List Str)(d:D)(g':List Str):Prop:=∀p,Sub g p->∃q,kbD p d=some q/\Sub g' q/\Sub p q
theorem Knows.nil(g:List Str):Knows g [] g:=fun p h=>⟨p,by simp[kbB],h,Sub.refl p⟩
theorem Knows.snoc{g g1 g2:List Str}{b:List D}{d:D}(h:Knows g b g1)(k:KnowsD g1 d g2):Knows g (b++[d]) g2:=fun p hp=>by
 obtain⟨q,e,s1,s2⟩:=h p hp
 obtain⟨r,e2,s3,s4⟩:=k q s1
 refine⟨r,?_,s3,s2.trans s4⟩
 rw [zj6,e]
 simp[kbB,e2]
theorem KnowsD.set{g g':List Str}{x:Str}{t:T}{n:Nat}(ht:t.ok g n)(hs:∀y∈g',y∈g\/y=x):KnowsD g (.set x t) g':=fun p hp=>by
 refine⟨p++[x],by simp[kbD,ht.knows hp],fun y hy=>?_,fun y hy=>y1t _ hy⟩
 rcases hs y hy with z | z
 ·exact y1t _ (hp y z)
 ·exact y07 _ (by simp[z])
theorem KnowsD.ite{g m y g':List Str}{t:T}{b c:List D}{n:Nat}(ht:t.ok g n)(hb:Knows g b m)(hc:Knows g c y)(hs:∀x∈g',x∈m/\x∈y):KnowsD g (.ite t b c) g':=fun p hp=>by
 obtain⟨q,e,s1,s2⟩:=hb p hp
 obtain⟨r,e2,s3,s4⟩:=hc p hp
 refine⟨q.filter fun x=>r.contains x,by simp[kbD,ht.knows hp,e,e2],fun x hx=>?_,fun x hx=>?_⟩
 ·exact List.mem_filter.mpr ⟨s1 x (hs x hx).1,by simpa using s3 x (hs x hx).2⟩
 ·exact List.mem_filter.mpr ⟨s2 x hx,by simpa using s4 x hx⟩
theorem KnowsD.whl{g g1:List Str}{t:T}{m:Int}{b:List D}{n:Nat}(ht:t.ok g n)(hb:Knows g b g1):KnowsD g (.whl t m b) g:=fun p hp=>by
 obtain⟨q,e,s1,s2⟩:=hb p hp
 exact⟨p,by simp[kbD,ht.knows hp,e],hp,Sub.refl p⟩
theorem Knows.sub{g g1:List Str}{b:List D}(h:Knows g b g1):Knows g b g:=fun p hp=>by
 obtain⟨q,e,s1,s2⟩:=h p hp
 exact⟨q,e,hp.trans s2,s2⟩
theorem q3s{xs:List V}{k:Int}(h0:0<=k)(h:k < (xs.length:Int)):∃v,xs[k.toNat]?=some v/\atI xs k=some v:=by
 have hk:k.toNat < xs.length:=by omega
 have ek:k=((k.toNat:Nat):Int):=by omega
 refine⟨xs[k.toNat],yb hk,?_⟩
 have q:atI xs ((k.toNat:Nat):Int)=some xs[k.toNat]:=z1b (yb hk)
 rw [<- ek] at q
 exact q
theorem z9k{α : Type}{c : α->V}{ns:List α}{k:Int}(h0:0<=k)(h:k < (ns.length:Int)):∃v∈ns,atI (ns.map c) k=some (c v):=by
 obtain⟨v,e1,e2⟩:=q3s (xs:=ns.map c) h0 (by rw [y8]; exact h)
 rw [y00] at e1
 cases e:ns[k.toNat]? with
 | none=>rw [e] at e1; cases e1
 | some i=>rw [e] at e1; cases e1; exact⟨i,yv e,e2⟩
theorem q2n(ns:List Int):(ns.map V.int).all okV=true:=by simp[okV]
theorem zym{g:List Str}(h:Sub g pool):(g.map V.str).all okV=true:=by
 simp only[List.all_map,List.all_eq_true]
 intro x hx
 have:=h x hx
 simp only[pool,yz,yt,or_false] at this
 rcases this with rfl | rfl | rfl | rfl<;>decide+kernel
theorem zl(n:Nat)(h:n<=1000):n<=sizeLine:=y18 (z2g h)
theorem zsi{K:y3}{H:Hp}{a:Addr}{xs:List V}(h:SqL K H a xs):q1n K (.ref a) H xs.length:=.inl ⟨a,xs,rfl,.inl h,rfl⟩
theorem q5m{K:y3}{H:Hp}{a:Addr}{xs:List V}(h:SqT K H a xs):q1n K (.ref a) H xs.length:=.inl ⟨a,xs,rfl,.inr h,rfl⟩
theorem q3a{K:y3}{H:Hp}{a p:Addr}{xs:List V}(h:SqL K H a xs)(ho:xs.all okV=true)(hp:SqL K H p []):q40 K (.ref a) (.ref p) H xs.isEmpty:=.inr (.inl ⟨a,p,xs,[],rfl,rfl,h,hp,ho,rfl,(zv4 xs).symm⟩)
theorem zi5(CX:CXT)(P:yf)(w:yr)(K:y3)(mg:Str->Option y4)(base:Heap)(N:List Str)(qual:Str)(scope:Scope)(f:Addr)(cd:y4)(A:y01)(outer:List Env)(s:y9)(H:Hp)(E:XK):(z9g CX P w K mg base N qual scope f cd A outer s H E).K=K:=rfl
theorem z51(CX:CXT)(P:yf)(w:yr)(K:y3)(mg:Str->Option y4)(base:Heap)(N:List Str)(qual:Str)(scope:Scope)(f:Addr)(cd:y4)(A:y01)(outer:List Env)(s:y9)(H:Hp)(E:XK):(z9g CX P w K mg base N qual scope f cd A outer s H E).nox.K=K:=rfl
theorem z9i(X:Cx)(N':List Str)(scope:Scope)(cl:List (Str×Addr))(C:Addr)(s₀:y9)(H₀:Hp)(ex:List Addr):(z5c X N' scope cl C s₀ H₀ ex).K=X.K:=rfl
theorem z6b{K:y3}{ta:TA}{g:TG}{tb:TS}{D:Ends}{σ : St}{H:Hp}:zwc (q4n K ta) g tb D σ H=ta σ H fun vs H1=>∃a,vs=[.ref a]/\(∃xs,SqL K H1 a xs)/\zz0 (Ite K a) g tb D σ H1:=rfl
theorem z8t{K:y3}{ta:TA}{g:TG}{tb:TS}{D:Ends}{σ : St}{H:Hp}:zwc (q5q K ta) g tb D σ H=ta σ H fun vs H1=>∃a b,vs=[.ref a,.ref b]/\(∃xs,SqL K H1 a xs)/\(∃ys,SqL K H1 b ys)/\zz0 (Itz K a b) g tb D σ H1:=rfl
theorem z69{ta:TA}{g:TG}{tb:TS}{D:Ends}{σ : St}{H:Hp}:zwc (q0o ta) g tb D σ H=ta σ H fun vs H1=>∃i j:Int,vs=[.int i,.int j]/\(-(2 ^ 62)<=i/\i < 2 ^ 62/\-(2 ^ 62)<=j/\j < 2 ^ 62)/\zz0 (Itr i (j - i).toNat) g tb D σ H1:=rfl
theorem z6e{K:y3}{tl:TE}{g:TG}{tt:TT}{te:TE}{mp:List (Option Nat)}{σ : St}{H:Hp}{Q:VK}:zjg (q5s K tl) g tt te mp σ H Q=tl σ H fun x H1=>∃a,x=.ref a/\(((∃xs,SqL K H1 a xs)/\zb8 (Itl K a) g tt te Q (subσ mp σ) H1)\/((∃xs,SqT K H1 a xs)/\zb8 (Itt K a) g tt te Q (subσ mp σ) H1)):=rfl
theorem z6s(CX:CXT)(P:yf)(w:yr)(K:y3)(mg:Str->Option y4)(base:Heap)(N:List Str)(qual:Str)(scope:Scope)(f:Addr)(cd:y4)(A:y01)(outer:List Env)(s:y9)(H:Hp)(E:XK):(z9g CX P w K mg base N qual scope f cd A outer s H E).prog=P:=rfl
theorem zi4(CX:CXT)(P:yf)(w:yr)(K:y3)(mg:Str->Option y4)(base:Heap)(N:List Str)(qual:Str)(scope:Scope)(f:Addr)(cd:y4)(A:y01)(outer:List Env)(s:y9)(H:Hp)(E:XK):(z9g CX P w K mg base N qual scope f cd A outer s H E).w=w:=rfl
theorem z33(CX:CXT)(P:yf)(w:yr)(K:y3)(mg:Str->Option y4)(base:Heap)(N:List Str)(qual:Str)(scope:Scope)(f:Addr)(cd:y4)(A:y01)(outer:List Env)(s:y9)(H:Hp)(E:XK):(z9g CX P w K mg base N qual scope f cd A outer s H E).nox.prog=P:=rfl
theorem z50(CX:CXT)(P:yf)(w:yr)(K:y3)(mg:Str->Option y4)(base:Heap)(N:List Str)(qual:Str)(scope:Scope)(f:Addr)(cd:y4)(A:y01)(outer:List Env)(s:y9)(H:Hp)(E:XK):(z9g CX P w K mg base N qual scope f cd A outer s H E).nox.w=w:=rfl
theorem zck(CX:CXT)(P:yf)(w:yr)(K:y3)(mg:Str->Option y4)(base:Heap)(N:List Str)(qual:Str)(scope:Scope)(f:Addr)(cd:y4)(A:y01)(outer:List Env)(s:y9)(H:Hp)(E:XK):(z9g CX P w K mg base N qual scope f cd A outer s H E).mg=mg:=rfl
theorem z40(CX:CXT)(P:yf)(w:yr)(K:y3)(mg:Str->Option y4)(base:Heap)(N:List Str)(qual:Str)(scope:Scope)(f:Addr)(cd:y4)(A:y01)(outer:List Env)(s:y9)(H:Hp)(E:XK):(z9g CX P w K mg base N qual scope f cd A outer s H E).nox.mg=mg:=rfl
theorem z6t(CX:CXT)(P:yf)(w:yr)(K:y3)(mg:Str->Option y4)(base:Heap)(N:List Str)(qual:Str)(scope:Scope)(f:Addr)(cd:y4)(A:y01)(outer:List Env)(s:y9)(H:Hp)(E:XK):(z9g CX P w K mg base N qual scope f cd A outer s H E).base=base:=rfl
theorem z34(CX:CXT)(P:yf)(w:yr)(K:y3)(mg:Str->Option y4)(base:Heap)(N:List Str)(qual:Str)(scope:Scope)(f:Addr)(cd:y4)(A:y01)(outer:List Env)(s:y9)(H:Hp)(E:XK):(z9g CX P w K mg base N qual scope f cd A outer s H E).nox.base=base:=rfl
theorem z41(X:Cx)(N':List Str)(scope:Scope)(cl:List (Str×Addr))(C:Addr)(s₀:y9)(H₀:Hp)(ex:List Addr):(z5c X N' scope cl C s₀ H₀ ex).prog=X.prog:=rfl
theorem z9h(X:Cx)(N':List Str)(scope:Scope)(cl:List (Str×Addr))(C:Addr)(s₀:y9)(H₀:Hp)(ex:List Addr):(z5c X N' scope cl C s₀ H₀ ex).w=X.w:=rfl
theorem z6u(X:Cx)(N':List Str)(scope:Scope)(cl:List (Str×Addr))(C:Addr)(s₀:y9)(H₀:Hp)(ex:List Addr):(z5c X N' scope cl C s₀ H₀ ex).mg=X.mg:=rfl
theorem z42(X:Cx)(N':List Str)(scope:Scope)(cl:List (Str×Addr))(C:Addr)(s₀:y9)(H₀:Hp)(ex:List Addr):(z5c X N' scope cl C s₀ H₀ ex).base=X.base:=rfl
theorem z4s{K:y3}{ta:TA}{g:TG}{tt:TT}{te:TE}{mp:List (Option Nat)}{σ : St}{H:Hp}{Q:VK}:zjg (q0n K ta) g tt te mp σ H Q=ta σ H fun vs H1=>∃a b,vs=[.ref a,.ref b]/\(∃xs,SqT K H1 a xs)/\(∃ys,SqT K H1 b ys)/\zb8 (q1o K a b) g tt te Q (subσ mp σ) H1:=rfl
local macro_rules | `(tactic| walk_at "rd")=>`(tactic| simp only[↓zpj,↓zpi,↓zco,↓zcn,↓zgn,↓zgm,↓z8y,↓z8x,↓z90,↓z8z,↓zow,↓zez,↓zhk,zov,zhl,zhj,zph,zad,zza,zz9,zns,q09,q08,q0e,q0d,q1h,q1g,znh,znj,zij,tOp,zif,tC,zwd,z7l,zuu,zfu,zw4,zy2,znm,zla,zl9,tCB,zcu,zni,zlc,tUn,rU,rI0,rI,zy5,tOr,zy3,tB,zld,zz4,zl8,tIf,zz6,znn,zgf,zlb,zge,zln,zet,znp,zct,znr,tSl,zaa,zl7,zzf,zc5,zgt,zo8,zls,z6b,z8t,z69,z6e,q4h,zwl,z6s,zi4,z33,z50,zck,z6t,z40,z34,z41,z9h,z6u,z42,z4s,zgh,q4f,zyd,tDX,zz7,zy1,zy4,tBM,
 qEq,qNe,qIn,zd0,zyi,zlr,zzk,zo5,zyh,zlt,zw3,zyg,zo6,zo7,zgu,rIx,zta,zpv,zye,zyf,zpw,zzg,zo3,zzi,zzh,zaf,zae,zes,zgj,zsu,
 z8u,z57,z6a,z6c,z4t,z6d,zi5,z51,z9i,Nat.reduceAdd,Nat.reduceSub,Nat.add_zero,y1v,y1r,
 y0p,y15,y1o,y1p,y1s,y1h,V.int.injEq,V.ref.injEq,V.str.injEq,V.bl.injEq,V.ty.injEq,
 reduceCtorEq,false_and,and_false,and_true,true_and,exists_false,exists_const,false_or,or_false,exists_eq_left,exists_eq_left',exists_eq_right,exists_eq_right',exists_and_left,decide_eq_true_eq,y09,y1m,exists_eq,true_or,or_true,y0h,if_true,if_false,y1q,y1w,y21,decide_true,decide_false,y1u,y1z,y1c,y1d,bne_self_eq_false,beq_self_eq_true])
section
variable{P:yf}{w:yr}{K:y3}{mg:Str->Option y4}{base:Heap}{f:Addr}{fd:yq}
def zy8(K:y3):Sp:=fun vs H Q _=>∃(a:Addr) (ns:List Int) (k:Int),vs=[.ref a,.int k]/\SqL K H a (ns.map V.int)/\0<=k/\∀(i:Int) (H':Hp),Same H H'->Q (.int i) H'
theorem q04(F:Fun K "_law_cell" "_law_cell" z5w f fd) (b_len:mg "len" = none):FnOk P w K mg base CX0 1 f fd ["_law_script","_law_k"] (zy8 K):=by
 refine F.ok zo0 (fun vs H Q E h=>?_) (fun cdv A outer s H vs Q E hr h=>?_)
 ·obtain⟨a,ns,k,rfl,_⟩:=h
  rfl
 obtain⟨a,ns,k,rfl,hS,h0,q⟩:=h
 refine⟨_,(z04 (z1x (z0b zof (z06 1 rfl z3e) (z4h zqg zaz b_len z74 (z08 (z06 0 rfl z1j) z02) z70 z71) (z0g _)) (z07 (z0f (z0u z2t (z06 0 rfl z1j) (z06 1 rfl z3e) (fun _ _=>rfl)))) z0k)
 (z04 (z1x (z0b (gEq hr.units) (z06 0 rfl z1j) (z2v z02) (z0g _)) (z07 (z0f z03)) z0k)
 (z07 (z0f (z0n z1a (z0n zai (z0u z2t (z06 0 rfl z1j) (z0n zlz (z06 1 rfl z3e) (z4h zqg zaz b_len z74 (z08 (z06 0 rfl z1j) z02) z70 z71)) (fun _ _=>rfl)) z03) (z06 1 rfl z3e)))))),?_⟩
 walk_at "rd"
 refine⟨_,zsi hS,?_⟩
 rw [y8]
 split
 ·rename_i hk
  obtain⟨i,_,e⟩:=z9k (c:=V.int) h0 hk
  exact⟨_,hS,_,e,q i H (Same.refl _)⟩
 ·refine⟨y05 _,fun p hp=>?_⟩
  have s1:=z01 hp (.lst [])
  refine⟨_,q3a (s1.seq hS) (q2n ns) (SqL.of z00),?_⟩
  split
  ·exact q 0 _ s1
  ·rename_i hne
   have hl:0 < (ns.length:Int):=by
    cases ns with
    | nil=>exact absurd rfl hne
    | cons a r=>simp only[yh]; omega
   obtain⟨i,_,e⟩:=z9k (c:=V.int) (ns:=ns) (k:=k % (ns.length:Int)) (Int.emod_nonneg _ (by omega)) (Int.emod_lt_of_pos _ hl)
   exact⟨_,zsi (s1.seq hS),by rw [y8]; exact hl,_,s1.seq hS,_,by rw [y8]; exact e,i,rfl,.inr ⟨by decide,by decide⟩,q _ _ s1⟩
def zbx(K:y3):Sp:=fun vs H Q _=>∃(a:Addr) (ns:List Int) (k m:Int),vs=[.ref a,.int k,.int m]/\SqL K H a (ns.map V.int)/\0<=k/\0 < m/\∀(i:Int) (H':Hp),0<=i->i < m->Same H H'->Q (.int i) H'
theorem q03(F:Fun K "_law_pick" "_law_pick" z3s f fd) (c_law_cell:Callee P w K mg base "_law_cell" ["_law_script","_law_k"] 1 (zy8 K)):FnOk P w K mg base CX0 2 f fd ["_law_script","_law_k","_law_many"] (zbx K):=by
 refine F.ok sc_law_pick (fun vs H Q E h=>?_) (fun cdv A outer s H vs Q E hr h=>?_)
 ·obtain⟨a,ns,k,m,rfl,_⟩:=h
  rfl
 obtain⟨a,ns,k,m,rfl,hS,h0,hm,q⟩:=h
 refine⟨_,(z04 (z14 (i:=3) sc_law_pick.nd rfl z93 (z0n zlz (z0n zai (z0n z1a (z19 c_law_cell hr (by omega) (z08 (z06 0 rfl z8m) (z08 (z06 1 rfl z6w) z02)) zaw zmy) (z0n zai z03 (z0n z1a (z06 1 rfl z6w) z03))) z03) z03) (z05 rfl))
 (z07 (z0f (z0n zlz (z0n zlz (z0n z1a (z0n zai (z06 3 rfl z39) (z06 3 rfl z39)) (z0n q01 (z06 3 rfl z39) z03)) z03) (z06 2 rfl za6))))),?_⟩
 walk_at "rd"
 refine⟨a,ns,k,rfl,hS,h0,fun i H' s1=>?_⟩
 walk_at "rd"
 refine⟨.inl ⟨by decide,by decide⟩,.inr ⟨by decide,by decide⟩,by decide,?_⟩
 have e1:0<=(i+6151 * (k+1)) * 40692 % 2147483399:=Int.emod_nonneg _ (by decide)
 have e2:(i+6151 * (k+1)) * 40692 % 2147483399 < 2147483399:=Int.emod_lt_of_pos _ (by decide)
 refine⟨.inl ⟨by omega,by omega⟩,⟨by decide,by decide⟩,by decide,hm,q _ _ (Int.emod_nonneg _ (by omega)) (Int.emod_lt_of_pos _ hm) s1⟩
structure Df(K:y3)(mg:Str->Option y4)(x:Str)(st:Stmt)(ps:List Str)(f:Addr)(fd:yq):Prop where
 F:Fun K x x st f fd
 m:mg x=some (.ref f)
 b:Binds K fd ps []
theorem Df.callee{x:Str}{st:Stmt}{ps:List Str}{k:Nat}{sp:Sp}(d:Df K mg x st ps f fd)(h:FnOk P w K mg base CX0 k f fd ps sp):Callee P w K mg base x ps k sp:=⟨f,fd,h,d.m,d.F.kp,d.b⟩
theorem zki(x:Str):∀g:List Str,inV (.str x) (g.map V.str)=g.contains x
 | []=>rfl
 | y::g=>by
  have ih:=zki x g
  unfold inV at ih |-
  rw [yn,y16,ih,List.contains_cons]
  have e:eqV (.str y) (.str x)=(x == y):=by
   show(y == x)=(x == y)
   rw [y25,beq_iff_eq,beq_iff_eq]
   exact eq_comm
  rw [e]
theorem zmk(g:List Str):(g.map V.str).all za3=true:=by simp[za3]
theorem z5q{H H':Hp}{p:Addr}{o:HO}(s:Same H H')(h:H p=none):Same H (upd H' p o):=fun b u q=>by rw [z09 (z0d q h)]; exact s b u q
end
theorem z5v{K:y3}{ta:TA}{g:TG}{tb:TS}{D:Ends}{σ : St}{H:Hp}:zwc (zuq K ta) g tb D σ H=ta σ H fun vs H1=>∃a,vs=[.ref a]/\(∃xs,SqT K H1 a xs)/\zz0 (zyz K a) g tb D σ H1:=rfl
theorem z7z{K:y3}{ta:TA}{g:TG}{tb:TS}{D:Ends}{σ : St}{H:Hp}:zwc (q0n K ta) g tb D σ H=ta σ H fun vs H1=>∃a b,vs=[.ref a,.ref b]/\(∃xs,SqT K H1 a xs)/\(∃ys,SqT K H1 b ys)/\zz0 (q1o K a b) g tb D σ H1:=rfl
theorem zr6{ta:TA}{g:TG}{tt:TT}{te:TE}{mp:List (Option Nat)}{σ : St}{H:Hp}{Q:VK}:zjg (q0o ta) g tt te mp σ H Q=ta σ H fun vs H1=>∃i j:Int,vs=[.int i,.int j]/\(-(2 ^ 62)<=i/\i < 2 ^ 62/\-(2 ^ 62)<=j/\j < 2 ^ 62)/\zb8 (Itr i (j - i).toNat) g tt te Q (subσ mp σ) H1:=rfl
local macro_rules | `(tactic| walk_at "rd7")=>`(tactic| simp only[↓zpj,↓zpi,↓zco,↓zcn,↓zgn,↓zgm,↓z8y,↓z8x,↓z90,↓z8z,↓zow,↓zez,↓zhk,zov,zhl,zhj,zph,zad,zza,zz9,zns,q09,q08,q0e,q0d,q1h,q1g,zr6,zgg,z7z,zr3,zr4,zgc,zev,q1t,ze9,zgd,z4u,znh,znj,zij,tOp,zif,tC,zwd,z7l,zuu,zfu,zw4,zy2,znm,zla,zl9,tCB,zcu,zni,zlc,tUn,rU,rI0,rI,zy5,tOr,zy3,tB,zld,zz4,zl8,tIf,zz6,znn,zgf,zlb,zge,zln,zet,znp,zct,znr,tSl,zaa,zl7,zzf,zc5,zgt,zo8,zls,z6b,z5v,z8t,z69,z6e,z6s,zi4,z33,z50,zck,z6t,z40,z34,z41,z9h,z6u,z42,z4s,zgh,q4f,zyd,tDX,zz7,zy1,zy4,tBM,
 qEq,qNe,qIn,zd0,zyi,zlr,zzk,zo5,zyh,zlt,zw3,zyg,zo6,zo7,zgu,rIx,zta,zpv,zye,zyf,zzg,zo3,zzi,zzh,zaf,zae,zes,zgj,zsu,
 z8u,z57,z6a,z6c,z4t,z6d,zi5,z51,z9i,Nat.reduceAdd,Nat.reduceSub,Nat.add_zero,y1v,y1r,
 y0p,y15,y1o,y1p,y1s,y1h,V.int.injEq,V.ref.injEq,V.str.injEq,V.bl.injEq,V.ty.injEq,
 reduceCtorEq,false_and,and_false,and_true,true_and,exists_false,exists_const,false_or,or_false,exists_eq_left,exists_eq_left',exists_eq_right,exists_eq_right',exists_and_left,decide_eq_true_eq,y09,y1m,exists_eq,true_or,or_true,y0h,if_true,if_false,y1q,y1w,y21,decide_true,decide_false,y1u,y1z,y1c,y1d,bne_self_eq_false,beq_self_eq_true])
section
variable{P:yf}{w:yr}{K:y3}{mg:Str->Option y4}{base:Heap}{f:Addr}{fd:yq}
theorem q5u{g:TG}{x:V}{σ : St}{H:Hp}{b:St->Hp->Prop}(h:∀N:St->Hp->Prop,N=b->g x σ H N):g x σ H b:=h _ rfl
theorem z0e{a b:TS}{D:Ends}{σ : St}{H:Hp}(h:∀N:St->Hp->Prop,N=b D->a {D with nx:=N} σ H):znh a b D σ H:=h _ rfl
theorem zst{c:TT}{a b:TS}{D:Ends}{σ : St}{H:Hp}(h:∀Y Z:St->Hp->Prop,Y=a D->Z=b D->znj c (fun _=>Y) (fun _=>Z) D σ H):znj c a b D σ H:=h _ _ rfl rfl
theorem q1y{t1 t2:TS}{c:TT}{a b:TS}{D:Ends}{σ : St}{H:Hp}(h:∀Y Z:St->Hp->Prop,Y=a D->Z=b D->znh t1 (znh t2 (znj c (fun _=>Y) (fun _=>Z))) D σ H):znh t1 (znh t2 (znj c a b)) D σ H:=h _ _ rfl rfl
def zlf(K:y3)(n:Nat):Sp:=fun vs H Q _=>∃(a:Addr) (ns:List Int) (k:Int) (kn:Addr) (g:List Str) (d:Nat),vs=[.ref a,.int k,.ref kn,.int d]/\SqL K H a (ns.map V.int)/\0<=k/\H kn=some (.lst (g.map V.str))/\Sub g pool/\1<=d/\d<=n/\
 ∀(r:V) (H':Hp) (t:T),Same H H'->Dt H' r t.enc->t.ok g d->Q r H'
theorem q2l{n:Nat} (F:Fun K "_law_sum" "_law_sum" z1w f fd) (b_len:mg "len" = none) (c_law_pick:Callee P w K mg base "_law_pick" ["_law_script","_law_k","_law_many"] 2 (zbx K))
  (c_law_sum:Callee P w K mg base "_law_sum" ["_law_script","_law_at","_law_known","_law_deep"] (n+3) (zlf K n)):FnOk P w K mg base CX0 (n+4) f fd ["_law_script","_law_at","_law_known","_law_deep"] (zlf K (n+1)):=by
 refine F.ok sc_law_sum (fun vs H Q E h=>?_) (fun cdv A outer s H vs Q E hr h=>?_)
 ·obtain⟨a,ns,k,kn,g,d,rfl,_⟩:=h
  rfl
 obtain⟨a,ns,k,kn,g,d,rfl,hS,h0,hk,hg,hd1,hd2,q⟩:=h
 refine⟨_,(z04 (z14 (i:=4) sc_law_sum.nd rfl zbg (z19 c_law_pick hr (by omega) (z08 (z06 0 rfl z10) (z08 (z06 1 rfl z1i) (z08 z03 z02))) z20 z0p) (z05 rfl))
 (z04 (z1x (PW.pt (zgv (z0b z80 (z06 3 rfl z3t) z03 (z0g _)) (zd1 (z0b zof (z06 4 rfl zc1) z03 (z0g _))))) (z04 (z1x (PW.pt (ztd (z0b (gNe hr.units) (z06 2 rfl z1v) (z2v z02) (z0g _)) (zo9 (z0b q2i (z19 c_law_pick hr (by omega) (z08 (z06 0 rfl z10) (z08 (z0n z1a (z06 1 rfl z1i) z03) (z08 z03 z02))) z20 z0p) z03 (z0g _))))) (z07 (z0f (z12 (z08 z0i (z08 (z0u z2t (z06 2 rfl z1v) (z19 c_law_pick hr (by omega) (z08 (z06 0 rfl z10) (z08 (z0n z1a (z06 1 rfl z1i) z03) (z08 (z4h zqg ziw b_len z74 (z08 (z06 2 rfl z1v) z02) z70 z71) z02))) z20 z0p) (fun _ _=>rfl)) z02))))) z0k)
 (z07 (z0f (z12 (z08 z0i (z08 (z0u z2t (z2v (z08 z03 (z08 z03 (z08 (zk0 zcs z03) (z08 z03 (z08 z03 (z08 z03 (z08 (zk0 zcs z03) (z08 z03 (z08 (zk0 zcs z03) (z08 z03 (z08 z03 (z08 (zk0 zcs z03) z02))))))))))))) (z19 c_law_pick hr (by omega) (z08 (z06 0 rfl z10) (z08 (z0n z1a (z06 1 rfl z1i) z03) (z08 z03 z02))) z20 z0p) (fun _ _=>rfl)) z02)))))) z0k)
 (z04 (z14 (i:=5) sc_law_sum.nd rfl z9w (z2v (z08 z0i (z08 z0i (z08 z0i (z08 z0i (z08 z0i (z08 z0i (z08 z0i (z08 z0i (z08 z0i (z08 z0i z02))))))))))) (z05 rfl))
 (z04 (z14 (i:=6) sc_law_sum.nd rfl zbh (z19 c_law_sum hr (by omega) (z08 (z06 0 rfl z10) (z08 (z0n z1a (z0n zai z03 (z06 1 rfl z1i)) z03) (z08 (z06 2 rfl z1v) (z08 (z0n z6k (z06 3 rfl z3t) z03) z02)))) z6l z6r) (z05 rfl))
 (z07 (z0f (z12 (z08 (z0u z2t (z06 5 rfl za5) (z19 c_law_pick hr (by omega) (z08 (z06 0 rfl z10) (z08 (z0n z1a (z06 1 rfl z1i) z03) (z08 z03 z02))) z20 z0p) (fun _ _=>rfl)) (z08 (z06 6 rfl zc2) (z08 (z19 c_law_sum hr (by omega) (z08 (z06 0 rfl z10) (z08 (z0n z1a (z0n zai z03 (z06 1 rfl z1i)) z03) (z08 (z06 2 rfl z1v) (z08 (z0n z6k (z06 3 rfl z3t) z03) z02)))) z6l z6r) z02)))))))))),z0e fun N1 e1=>?_⟩
 walk_at "rd"
 refine⟨a,ns,k,10,rfl,hS,h0,by decide,fun i H1 i0 i1 s1=>?_⟩
 rw [e1]
 refine z0e fun N2 e2=>zst fun Y Z eY eZ=>?_
 walk_at "rd"
 have leaf:∀(H1:Hp),Same H H1->Y [some (.ref a),some (.int k),some (.ref kn),some (.int d),some (.int i),none,none] H1:=by
  intro H1 s1
  rw [eY]
  walk_at "rd"
  have num:∀(H2:Hp) (p:Addr),Same H H2->H2 p=none->zbx K [V.ref a,V.int (k+3),V.int 12] (upd H2 p (HO.lst [V.int 0,V.int 1,V.int (-1),V.int 2,V.int 3,V.int 7,V.int (-8),V.int 100,V.int (-129),V.int 300,V.int 32767,V.int (-32768)])) (fun y H2=>∃x x_1,y=V.int x_1/\SqL K H2 p x/\∃x_2,atI x x_1=some x_2/\2<=sizeLine/\∀(p:Addr),H2 p=none->Q (V.ref p) (upd H2 p (HO.tup [V.str (Str.ofString "num"),x_2]))) E0:=by
   intro H2 p s2 hp
   have s3:=z01 hp (HO.lst [V.int 0,V.int 1,V.int (-1),V.int 2,V.int 3,V.int 7,V.int (-8),V.int 100,V.int (-129),V.int 300,V.int 32767,V.int (-32768)])
   refine⟨a,ns,k+3,12,rfl,(s2.trans s3).seq hS,by omega,by decide,fun j H3 j0 j1 s4=>?_⟩
   obtain⟨v,hv,e⟩:=z9k (c:=V.int) (ns:=[0,1,-1,2,3,7,-8,100,-129,300,32767,-32768]) (k:=j) j0 j1
   refine⟨_,_,rfl,SqL.of (s4 _ _ z00),_,e,zl 2 (by decide),fun r hr'=>?_⟩
   refine q _ _ (.num v) ((s2.trans s3).trans (s4.trans (z01 hr' _))) (.tup z00 (.cons (.str _) (.cons (.int _) .nil))) ?_
   obtain⟨d',rfl⟩:∃d',d=d'+1:=⟨d - 1,by omega⟩
   show -32768<=v/\v<=32767
   simp only[yz,yt,or_false] at hv
   omega
  refine⟨y05 _,fun p hp=>?_⟩
  have s2:=z01 hp (HO.lst [])
  have hk2:(upd H1 p (HO.lst [])) kn=some (.lst (g.map V.str)):=s2 _ _ (s1 _ _ hk)
  refine⟨_,.inr ⟨_,SqL.of hk2,_,SqL.of z00,zym hg,rfl,(zv4 _).symm⟩,?_⟩
  split
  ·rename_i hne
   refine⟨a,ns,k+1,3,rfl,(s1.trans s2).seq hS,by omega,by decide,fun j H3 j0 j1 s3=>?_⟩
   refine⟨_,rfl,?_⟩
   have s03:=(s1.trans s2).trans s3
   split
   ·have hk3:=s3 _ _ hk2
    refine⟨_,zsi (SqL.of hk3),?_⟩
    have hl:0 < ((g.map V.str).length:Int):=by
     cases g with
     | nil=>exact absurd rfl (Bool.eq_false_iff.mp hne)
     | cons x r=>simp only[yn,yh]; omega
    refine⟨a,ns,k+2,_,rfl,s03.seq hS,by omega,hl,fun m H4 m0 m1 s4=>?_⟩
    obtain⟨v,hv,e⟩:=z9k (c:=V.str) (ns:=g) (k:=m) m0 (by rw [y8] at m1; exact m1)
    refine⟨_,_,rfl,SqL.of (s4 _ _ hk3),_,e,zl 2 (by decide),fun r hr'=>?_⟩
    refine q _ _ (.nm v) (s03.trans (s4.trans (z01 hr' _))) (.tup z00 (.cons (.str _) (.cons (.str _) .nil))) ?_
    obtain⟨d',rfl⟩:∃d',d=d'+1:=⟨d - 1,by omega⟩
    exact hv
   ·exact⟨zl 12 (by decide),fun p2 hp2=>num _ p2 s03 hp2⟩
  ·exact⟨zl 12 (by decide),fun p2 hp2=>num _ p2 (s1.trans s2) hp2⟩
 split
 ·exact leaf H1 s1
 ·split
  ·exact leaf H1 s1
  ·rename_i hd _
   rw [eZ]
   show N2 _ _
   rw [e2]
   refine z0e fun N3 e3=>?_
   walk_at "rd"
   refine⟨zl 10 (by decide),fun p hp=>?_⟩
   rw [e3]
   refine z0e fun N4 e4=>?_
   walk_at "rd"
   refine⟨.inl ⟨by decide,by decide⟩,?_⟩
   have s2:=z01 hp (HO.lst [V.str "add",V.str "sub",V.str "mul",V.str "quo",V.str "less",V.str "same",V.str "min",V.str "max",V.str "add",V.str "less"])
   have s02:=s1.trans s2
   have ed:((d:Int) - 1)=((d - 1:Nat):Int):=by omega
   have hd3:2<=d:=by omega
   rw [ed]
   refine⟨a,ns,_,kn,g,d - 1,rfl,s02.seq hS,by omega,s02 _ _ hk,hg,by omega,by omega,fun r1 H2 t1 s3 d1 k1=>?_⟩
   have s03:=s02.trans s3
   rw [e4]
   walk_at "rd"
   refine⟨a,ns,k+4,10,rfl,s03.seq hS,by omega,by decide,fun j H3 j0 j1 s4=>?_⟩
   have s04:=s03.trans s4
   obtain⟨v,hv,e⟩:=z9k (c:=fun w:Wd=>V.str w.str) (ns:=[.add,.sub,.mul,.quo,.less,.same,.min,.max,.add,.less]) (k:=j) j0 j1
   refine⟨_,_,rfl,SqL.of (s4 _ _ (s3 _ _ z00)),_,e,.inl ⟨by decide,by decide⟩,?_⟩
   rw [ed]
   refine⟨a,ns,_,kn,g,d - 1,rfl,s04.seq hS,by omega,s04 _ _ hk,hg,by omega,by omega,fun r2 H4 t2 s5 d2 k2=>?_⟩
   refine⟨zl 3 (by decide),fun p3 hp3=>?_⟩
   have s6:=z01 hp3 (HO.tup [V.str v.str,r1,r2])
   refine q _ _ (.op v t1 t2) (s04.trans (s5.trans s6)) (.tup z00 (.cons (.str _) (.cons (d1.kp (s4.trans (s5.trans s6)).kp) (.cons (d2.kp s6.kp) .nil)))) ?_
   obtain⟨d',rfl⟩:∃d',d=d'+1:=⟨d - 1,by omega⟩
   exact⟨k1,k2⟩
theorem zx4{k:Nat}:FnOk P w K mg base CX0 k f fd ["_law_script","_law_at","_law_known","_law_deep"] (zlf K 0):=by
 have no:∀vs H Q E,¬ zlf K 0 vs H Q E:=fun vs H Q E h=>by
  obtain⟨a,ns,k,kn,g,d,_,_,_,_,_,h1,h2,_⟩:=h
  omega
 exact⟨fun vs H Q E h=>absurd h (no vs H Q E),fun A outer s H args us vs Q E _ _ _ _ h=>absurd h (no vs H Q E)⟩
theorem zw0(d:Df K mg "_law_sum" z1w ["_law_script","_law_at","_law_known","_law_deep"] f fd) (b_len:mg "len" = none) (c_law_pick:Callee P w K mg base "_law_pick" ["_law_script","_law_k","_law_many"] 2 (zbx K)) :
  ∀n:Nat,Callee P w K mg base "_law_sum" ["_law_script","_law_at","_law_known","_law_deep"] (n+3) (zlf K n)
 | 0=>d.callee zx4
 | n+1=>d.callee (q2l d.F b_len c_law_pick (zw0 d b_len c_law_pick n))
def zgl(K:y3):Sp:=fun vs H Q _=>∃(a:Addr) (ns:List Int) (k:Int) (kn:Addr) (g g1:List Str) (rb:V) (b:List D) (d:Nat) (di:Int),vs=[.ref a,.int k,.ref kn,rb,.int di]/\SqL K H a (ns.map V.int)/\0<=k/\H kn=some (.lst (g.map V.str))/\Sub g pool/\g≠[]/\
 Dt H rb (.tup (encB b))/\okB d b/\b.length<=4/\b≠[]/\Knows g b g1/\1<=d/\∀(r:V) (H':Hp) (e:D),Same H H'->Dt H' r e.enc->okD d e->KnowsD g e g->Q r H'
theorem zro(F:Fun K "_law_counted" "_law_counted" z0m f fd) (b_len:mg "len" = none) (c_law_pick:Callee P w K mg base "_law_pick" ["_law_script","_law_k","_law_many"] 2 (zbx K))
  (c_law_sum:Callee P w K mg base "_law_sum" ["_law_script","_law_at","_law_known","_law_deep"] 6 (zlf K 3)):FnOk P w K mg base CX0 7 f fd ["_law_script","_law_at","_law_known","_law_body","_law_deep"] (zgl K):=by
 refine F.ok sc_law_counted (fun vs H Q E h=>?_) (fun cdv A outer s H vs Q E hr h=>?_)
 ·obtain⟨a,ns,k,kn,g,g1,rb,b,d,di,rfl,_⟩:=h
  rfl
 obtain⟨a,ns,k,kn,g,g1,rb,b,d,di,rfl,hS,h0,hk,hg,hne,hb,hob,hbl,hbn,hkn,hd1,q⟩:=h
 refine⟨_,(z04 (z14 (i:=5) sc_law_counted.nd rfl z3w (z0u z2t (z2v (z08 z03 (z08 z03 (z08 z03 (z08 z03 (z08 z03 z02)))))) (z19 c_law_pick hr (by omega) (z08 (z06 0 rfl z0v) (z08 (z06 1 rfl z17) (z08 z03 z02))) z1g z0p) (fun _ _=>rfl)) (z05 rfl))
 (z04 (z1x (z0b zof (z06 4 rfl z7s) z03 (z0g _)) (z07 (z14 (i:=5) sc_law_counted.nd rfl z3w (z0n zlz (z06 5 rfl z2p) z03) (z05 rfl))) z0k)
 (z04 (z1x (z0b z80 (z19 c_law_pick hr (by omega) (z08 (z06 0 rfl z0v) (z08 (z0n z1a (z06 1 rfl z17) z03) (z08 z03 z02))) z1g z0p) z03 (z0g _)) (z07 (z0f (z12 (z08 z0i (z08 (z19 c_law_sum hr (by omega) (z08 (z06 0 rfl z0v) (z08 (z0n z1a (z06 1 rfl z17) z03) (z08 (z06 2 rfl z2k) (z08 z03 z02)))) z9b z6r) (z08 (z06 5 rfl z2p) (z08 (z06 3 rfl z44) z02))))))) z0k)
 (z04 (z14 (i:=6) sc_law_counted.nd rfl z79 (z12 (z08 z0i (z08 (z0u z2t (z06 2 rfl z2k) (z19 c_law_pick hr (by omega) (z08 (z06 0 rfl z0v) (z08 (z0n z1a (z06 1 rfl z17) z03) (z08 (z4h zqg zdk b_len z74 (z08 (z06 2 rfl z2k) z02) z70 z71) z02))) z1g z0p) (fun _ _=>rfl)) z02))) (z05 rfl))
 (z04 (z14 (i:=7) sc_law_counted.nd rfl z7b (z12 (z08 z0i (z08 (z0u z2t (z2v (z08 (zk0 zcs z03) (z08 z03 (z08 z03 (z08 z03 z02))))) (z19 c_law_pick hr (by omega) (z08 (z06 0 rfl z0v) (z08 (z0n z1a (z06 1 rfl z17) z03) (z08 z03 z02))) z1g z0p) (fun _ _=>rfl)) z02))) (z05 rfl))
 (z04 (z14 (i:=8) sc_law_counted.nd rfl z7a (z12 (z08 z0i (z08 (z0u z0o (z06 6 rfl z2o) z03 (fun _ _=>rfl)) (z08 (z12 (z08 z0i (z08 (z06 6 rfl z2o) (z08 (z12 (z08 z0i (z08 (z0n z1a z03 (z19 c_law_pick hr (by omega) (z08 (z06 0 rfl z0v) (z08 (z0n z1a (z06 1 rfl z17) z03) (z08 z03 z02))) z1g z0p)) z02))) z02)))) z02)))) (z05 rfl))
 (z07 (z0f (z12 (z08 z0i (z08 (z12 (z08 z0i (z08 (z06 6 rfl z2o) (z08 (z06 7 rfl z7r) z02)))) (z08 (z06 5 rfl z2p) (z08 (z0n z31 (z06 3 rfl z44) (z12 (z08 (z06 8 rfl z7q) z02))) z02))))))))))))),z0e fun N1 e1=>?_⟩
 walk_at "rd"
 have hl:0 < ((g.map V.str).length:Int):=by
  cases g with
  | nil=>exact absurd rfl hne
  | cons x r=>simp only[yn,yh]; omega
 refine⟨zl 5 (by decide),fun p hp=>?_⟩
 have s1:=z01 hp (HO.lst [V.int 0,V.int 1,V.int 3,V.int 6,V.int 20])
 refine⟨a,ns,k,5,rfl,s1.seq hS,h0,by decide,fun i H2 i0 i1 s2=>?_⟩
 have s02:=s1.trans s2
 obtain⟨v,hv,e⟩:=z9k (c:=V.int) (ns:=[0,1,3,6,20]) (k:=i) i0 i1
 have hv2:0<=v/\v<=20:=by
  simp only[yz,yt,or_false] at hv
  omega
 refine⟨_,_,rfl,SqL.of (s2 _ _ z00),_,e,?_⟩
 obtain⟨ab,xs,rfl,hab,hda⟩:=hb.tupI
 have hxl:xs.length=b.length:=by rw [hda.length,z6p]
 have hxs:xs≠[]:=fun z=>hbn (List.length_eq_zero_iff.mp (by rw [<- hxl,z]; rfl))
 rw [e1]
 refine z0e fun N2 e2=>?_
 walk_at "rd"
 suffices key:∀mv:Int,0<=mv/\mv<=20->N2 [some (.ref a),some (.int k),some (.ref kn),some (.ref ab),some (.int di),some (.int mv),none,none,none] H2 by
  split
  ·exact⟨by decide,key (v % 4) (by omega)⟩
  ·exact key v hv2
 intro mv hv3
 rw [e2]
 refine z0e fun N3 e3=>?_
 walk_at "rd"
 refine⟨a,ns,k+1,4,rfl,s02.seq hS,by omega,by decide,fun j H3 j0 j1 s3=>?_⟩
 refine⟨_,rfl,?_⟩
 have s03:=s02.trans s3
 split
 ·refine⟨a,ns,k+2,kn,g,2,rfl,s03.seq hS,by omega,s03 _ _ hk,hg,by decide,by decide,fun r1 H4 t1 s4 d1 k1=>?_⟩
  refine⟨zl 4 (by decide),fun p2 hp2=>?_⟩
  exact q _ _ (.whl t1 _ b) (s03.trans (s4.trans (z01 hp2 _))) (.tup z00 (.cons (.str _) (.cons (d1.kp (z01 hp2 _).kp) (.cons (.int _) (.cons (hb.kp (s03.trans (s4.trans (z01 hp2 _))).kp) .nil))))) ⟨k1.mono hg (by decide),by omega,by omega,hob⟩ (KnowsD.whl k1 hkn)
 ·have hk3:=s03 _ _ hk
  rw [e3]
  refine z0e fun N4 e4=>?_
  walk_at "rd"
  refine⟨_,zsi (SqL.of hk3),?_⟩
  refine⟨a,ns,k+3,_,rfl,s03.seq hS,by omega,hl,fun m H4 m0 m1 s4=>?_⟩
  obtain⟨x,hx,e⟩:=z9k (c:=V.str) (ns:=g) (k:=m) m0 (by rw [y8] at m1; exact m1)
  refine⟨_,_,rfl,SqL.of (s4 _ _ hk3),_,e,zl 2 (by decide),fun pn hpn=>?_⟩
  have s5:=z01 hpn (HO.tup [V.str "name",V.str x])
  rw [e4]
  refine z0e fun N5 e5=>?_
  walk_at "rd"
  refine⟨zl 4 (by decide),fun pg hpg=>?_⟩
  have s6:=z01 hpg (HO.lst [V.int (-2),V.int 1,V.int 3,V.int 5])
  have s06:=s03.trans (s4.trans (s5.trans s6))
  refine⟨a,ns,k+4,4,rfl,s06.seq hS,by omega,by decide,fun l H5 l0 l1 s7=>?_⟩
  obtain⟨gv,hgv,e2⟩:=z9k (c:=V.int) (ns:=[-2,1,3,5]) (k:=l) l0 l1
  have hgv2 : -32768<=gv/\gv<=32767:=by
   simp only[yz,yt,or_false] at hgv
   omega
  refine⟨_,_,rfl,SqL.of (s7 _ _ z00),_,e2,zl 2 (by decide),fun pl hpl=>?_⟩
  have s8:=z01 hpl (HO.tup [V.str "num",V.int gv])
  have s68:=s6.trans (s7.trans s8)
  have s08:=s03.trans (s4.trans (s5.trans s68))
  rw [e5]
  refine z0e fun N6 e6=>?_
  walk_at "rd"
  refine⟨_,SqT.of (s68 _ _ z00),V.str x,rfl,?_⟩
  refine⟨a,ns,k+5,3,rfl,s08.seq hS,by omega,by decide,fun z H6 z0 z1 s9=>?_⟩
  refine⟨_,rfl,zl 2 (by decide),fun p1 h1=>⟨zl 3 (by decide),fun p2 h2=>⟨zl 3 (by decide),fun p3 h3=>?_⟩⟩⟩
  rw [e6]
  walk_at "rd"
  refine⟨zl 3 (by decide),fun p4 h4=>⟨zl 1 (by decide),fun p5 h5=>?_⟩⟩
  have u1:=z01 h1 (HO.tup [V.str "num",V.int (1+z)])
  have u2:=z01 h2 (HO.tup [V.str "add",V.ref pn,V.ref p1])
  have u3:=z01 h3 (HO.tup [V.str "set",V.str x,V.ref p2])
  have u4:=z01 h4 (HO.tup [V.str "less",V.ref pn,V.ref pl])
  have u5:=z01 h5 (HO.tup [V.ref p3])
  have u05:=s08.trans (s9.trans (u1.trans (u2.trans (u3.trans (u4.trans u5)))))
  refine⟨xs,SqT.of (u05 _ _ hab),[V.ref p3],SqT.of z00,by rw [y08]; exact zl _ (by omega),fun h=>absurd h hxs,fun _ h=>absurd h (by simp),fun _ _ p6 h6=>⟨zl 4 (by decide),fun p7 h7=>?_⟩⟩
  have u6:=z01 h6 (HO.tup (xs++[V.ref p3]))
  have u67:=u6.trans (z01 h7 (HO.tup [V.str "while",V.ref p4,V.int mv,V.ref p6]))
  have u57:=u5.trans u67
  have dn:Dt (upd H4 pn (HO.tup [V.str "name",V.str x])) (.ref pn) (T.nm x).enc:=.tup z00 (.cons (.str _) (.cons (.str _) .nil))
  have dl:Dt (upd H5 pl (HO.tup [V.str "num",V.int gv])) (.ref pl) (T.num gv).enc:=.tup z00 (.cons (.str _) (.cons (.int _) .nil))
  have dz:Dt (upd H6 p1 (HO.tup [V.str "num",V.int (1+z)])) (.ref p1) (T.num (1+z)).enc:=.tup z00 (.cons (.str _) (.cons (.int _) .nil))
  have s9u:=s9.trans u1
  have da:Dt _ (.ref p2) (T.op .add (.nm x) (.num (1+z))).enc:=.tup (z00 (H:=upd H6 p1 (HO.tup [V.str "num",V.int (1+z)]))) (.cons (.str _) (.cons (dn.kp (s68.trans (s9u.trans u2)).kp) (.cons (dz.kp u2.kp) .nil)))
  have ds:Dt _ (.ref p3) (D.set x (T.op .add (.nm x) (.num (1+z)))).enc:=.tup z00 (.cons (.str _) (.cons (.str _) (.cons (da.kp u3.kp) .nil)))
  have de:Dt _ (.ref p4) (T.op .less (.nm x) (.num gv)).enc:=.tup z00 (.cons (.str _) (.cons (dn.kp (s68.trans (s9u.trans (u2.trans (u3.trans u4)))).kp) (.cons (dl.kp (s9u.trans (u2.trans (u3.trans u4))).kp) .nil)))
  have dB:Dt _ (.ref p6) (.tup (encB b++[(D.set x (T.op .add (.nm x) (.num (1+z)))).enc])):=.tup z00 ((hda.kp (u05.trans u6).kp).append (.cons (ds.kp (u4.trans (u5.trans u6)).kp) .nil))
  rw [show encB b++[(D.set x (T.op .add (.nm x) (.num (1+z)))).enc]=encB (b++[D.set x (T.op .add (.nm x) (.num (1+z)))]) by rw [z6q,encB,encB]] at dB
  have hz : -32768<=1+z/\1+z<=32767:=by omega
  refine q _ _ (.whl (.op .less (.nm x) (.num gv)) _ (b++[D.set x (T.op .add (.nm x) (.num (1+z)))])) (u05.trans u67) (.tup z00 (.cons (.str _) (.cons (de.kp u57.kp) (.cons (.int _) (.cons (dB.kp (z01 h7 _).kp) .nil))))) ⟨⟨hg x hx,hgv2⟩,by omega,by omega,?_⟩ (KnowsD.whl (n:=2) ⟨hx,hgv2⟩ (hkn.sub.snoc (KnowsD.set (n:=2) (g':=g) ⟨hx,hz⟩ fun y hy=>.inl hy)))
  obtain⟨d',rfl⟩:∃d',d=d'+1:=⟨d - 1,by omega⟩
  refine⟨by rw [yd,y08]; omega,fun c hc=>?_⟩
  rcases List.mem_append.mp hc with hc | hc
  ·exact hob.2 c hc
  ·have ec:c=D.set x (T.op .add (.nm x) (.num (1+z))):=by simpa using hc
   subst ec
   exact⟨hg x hx,⟨hg x hx,hz⟩⟩
def zsc:Nat->Nat
 | 1=>1 | 2=>2 | 3=>6 | _=>0
def zrg:Nat->Nat
 | 3=>2 | _=>1
theorem pg1(d:Nat):1<=zrg d:=by unfold zrg; split<;>decide
theorem pgc{d j:Nat}(h1:1<=d)(h3:d<=3)(hj:j<=d):j * zrg d<=zsc d:=by
 have:d=1\/d=2\/d=3:=by omega
 rcases this with rfl | rfl | rfl<;>simp only[zrg,zsc]<;>omega
theorem cgp{d:Nat}(h1:2<=d)(h3:d<=3):zsc (d - 1)<=zrg d:=by
 have:d=2\/d=3:=by omega
 rcases this with rfl | rfl<;>decide
theorem cg6(d:Nat):zsc d<=6:=by unfold zsc; split<;>decide
theorem q1u{Hy C:Hp->Prop}{G:Prop}(h1:(∀Hx,Hy Hx->C Hx)->G)(h2:∀Hx,Hy Hx->C Hx):G:=h1 h2
def ze7(K:y3)(n:Nat):Sp:=fun vs H Q _=>∃(a:Addr) (ns:List Int) (k:Int) (kn:Addr) (g:List Str) (d:Nat),vs=[.ref a,.int k,.ref kn,.int d]/\SqL K H a (ns.map V.int)/\0<=k/\H kn=some (.lst (g.map V.str))/\Sub g pool/\1<=d/\d<=n/\d<=3/\g.length+100 * d<=900/\
 ∀(r rb rk:Addr) (H':Hp) (b:List D) (g':List Str),Same H H'->H' r=some (.tup [.ref rb,.ref rk])->Dt H' (.ref rb) (.tup (encB b))->H' rk=some (.lst (g'.map V.str))->okB d b->b.length<=d->b≠[]->Knows g b g'->Sub g' pool->g'.length<=g.length+zsc d->(rk=kn\/H rk=none)->Q (.ref r) H'
def q67(U3:Hp)(kc:Addr)(g':List Str)(x:Str)(i:Nat)(ys:List V)(σ':St)(H':Hp):Prop:=H'=U3/\(∃t,σ'=[t,some (.ref kc)])/\((i=0/\ys=[])\/(i=1/\ys=(if g'.contains x then [] else [x]).map V.str))
def q65(U2:Hp)(rk2:Addr)(g1 g2:List Str)(i:Nat)(ys:List V)(σ':St)(H':Hp):Prop:=H'=U2/\(∃t,σ'=[t,some (.ref rk2)])/\ys=((g1.take i).filter fun x=>g2.contains x).map V.str
def q69(H:Hp)(kn a:Addr)(k:Int)(d:Nat)(pd:Addr)(g:List Str)(j:Nat)(σ : St)(Hc:Hp):Prop:=
 ∃(kc:Addr) (vs:List V) (b:List D) (g':List Str) (x5 x6 x7 x8 x9 x10 x11 x12 x13:Option V),σ = [some (.ref a),some (.int k),some (.ref kc),some (.int d),some (.ref pd),x5,x6,x7,x8,x9,x10,x11,x12,x13]/\
  Same H Hc/\Hc pd=some (.lst vs)/\DtA Hc vs (encB b)/\Hc kc=some (.lst (g'.map V.str))/\kc≠pd/\Knows g b g'/\Sub g' pool/\b.length=j/\(∀e∈b,okD (d - 1) e)/\g'.length<=g.length+j * zrg d/\(kc=kn\/H kc=none)
theorem zx1{n:Nat} (F:Fun K "_law_block" "_law_block" z0a f fd) (b_range:mg "range" = none) (b_tuple:mg "tuple" = none) (c_law_pick:Callee P w K mg base "_law_pick" ["_law_script","_law_k","_law_many"] 2 (zbx K))
  (c_law_sum:Callee P w K mg base "_law_sum" ["_law_script","_law_at","_law_known","_law_deep"] 6 (zlf K 3)) (c_law_counted:Callee P w K mg base "_law_counted" ["_law_script","_law_at","_law_known","_law_body","_law_deep"] 7 (zgl K))
  (c_law_block:Callee P w K mg base "_law_block" ["_law_script","_law_at","_law_known","_law_deep"] (n+7) (ze7 K n)):FnOk P w K mg base CX0 (n+8) f fd ["_law_script","_law_at","_law_known","_law_deep"] (ze7 K (n+1)):=by
 refine F.ok sc_law_block (fun vs H Q E h=>?_) (fun cdv A outer s H vs Q E hr h=>?_)
 ·obtain⟨a,ns,k,kn,g,d,rfl,_⟩:=h
  rfl
 obtain⟨a,ns,k,kn,g,d,rfl,hS,h0,hk,hg,hd1,hd2,hd3,hgb,q⟩:=h
 refine⟨_,(z04 (z14 (i:=4) sc_law_block.nd rfl z89 (z2v z02) (z05 rfl))
 (z04 (zag y0r rfl (zah zdm b_range (z08 (z0n z1a z03 (z19 c_law_pick hr (by omega) (z08 (z06 0 rfl z0h) (z08 (z06 1 rfl z5l) (z08 (z06 3 rfl z18) z02))) z3d z0p)) z02)) (z0s (i:=5) sc_law_block.nd rfl zbi)
 (z04 (z14 (i:=6) sc_law_block.nd rfl z97 (z0n z1a (z0n zai z03 (z06 1 rfl z5l)) (z0n zai z03 (z0n z1a (z06 5 rfl zc3) z03))) (z05 rfl))
 (z04 (z14 (i:=7) sc_law_block.nd rfl z9y (z19 c_law_pick hr (by omega) (z08 (z06 0 rfl z0h) (z08 (z06 6 rfl z0q) (z08 z03 z02))) z3d z0p) (z05 rfl))
 (z07 (z1x (PW.pt (zgv (z0b zof (z06 7 rfl z54) z03 (z0g _)) (zgv (z0b z80 (z06 3 rfl z18) z03 (z0g _)) (zd1 (z0b (gEq hr.units) (z06 2 rfl z0l) (z2v z02) (z0g _)))))) (z04 (z14 (i:=8) sc_law_block.nd rfl z94 (z0u z2t (z2v (z08 z0i (z08 z0i (z08 z0i (z08 z0i z02))))) (z19 c_law_pick hr (by omega) (z08 (z06 0 rfl z0h) (z08 (z0n z1a (z06 6 rfl z0q) z03) (z08 z03 z02))) z3d z0p) (fun _ _=>rfl)) (z05 rfl))
 (z04 (z77 (zgy y0d y1f y1e z82 (z06 4 rfl z22) (z08 (z12 (z08 z0i (z08 (z06 8 rfl z4n) (z08 (z19 c_law_sum hr (by omega) (z08 (z06 0 rfl z0h) (z08 (z0n z1a (z06 6 rfl z0q) z03) (z08 (z06 2 rfl z0l) (z08 z03 z02)))) z5b z6r) z02)))) z02)) (z05 rfl))
 (z07 (z14 (i:=2) sc_law_block.nd rfl z48 (z0n zq3 (z06 2 rfl z0l) (z6j ["_law_one","_law_known"] [none,some 2] rfl (CompS.of (by rfl)) (z5i (z2v (z08 (z06 8 rfl z4n) z02))) (fun _ _ _ _ _=>(z0s (i:=0) (show List.Nodup (["_law_one","_law_known"]:List Str) from by decide+kernel) rfl (Or.inl rfl))) (fun _ _ _ _ _=>(zgx (z0b (opK (r:=zd0) (K:=K) (q35 hr.units) rfl) (z1q (i:=0) rfl (by walk_at "vc") z3p z3q) (z1q (i:=1) rfl (by walk_at "vc") zku zkz) (by with_unfolding_all rfl)))) (fun _ _ _ _ _=>(z1q (i:=0) rfl (by walk_at "vc") z3p z3q)))) (z05 rfl))))) (z07 (z1x (z0b zof (z06 7 rfl z54) z03 (z0g _)) (z04 (ztf (z19 c_law_block hr (by omega) (z08 (z06 0 rfl z0h) (z08 (z0n z1a (z06 6 rfl z0q) z03) (z08 (z06 2 rfl z0l) (z08 (z0n z6k (z06 3 rfl z18) z03) z02)))) z32 z5t) (zbz (n:=2) rfl (z0x (z0s (i:=9) sc_law_block.nd rfl z88) (z0x (z0s (i:=10) sc_law_block.nd rfl z95) z3z))))
 (z04 (ztf (z19 c_law_block hr (by omega) (z08 (z06 0 rfl z0h) (z08 (z0n z1a (z06 6 rfl z0q) z03) (z08 (z06 2 rfl z0l) (z08 (z0n z6k (z06 3 rfl z18) z03) z02)))) z32 z5t) (zbz (n:=2) rfl (z0x (z0s (i:=11) sc_law_block.nd rfl z7c) (z0x (z0s (i:=12) sc_law_block.nd rfl z87) z3z))))
 (z04 (z77 (zgy y0d y1f y1e z82 (z06 4 rfl z22) (z08 (z12 (z08 z0i (z08 (z19 c_law_sum hr (by omega) (z08 (z06 0 rfl z0h) (z08 (z0n z1a (z06 6 rfl z0q) z03) (z08 (z06 2 rfl z0l) (z08 z03 z02)))) z5b z6r) (z08 (z06 9 rfl z8n) (z08 (z06 11 rfl z7t) z02))))) z02)) (z05 rfl))
 (z07 (z14 (i:=2) sc_law_block.nd rfl z48 (z6j ["_law_one","_law_yours"] [none,some 12] rfl (CompS.of (by rfl)) (z5i (z06 10 rfl z9s)) (fun _ _ _ _ _=>(z0s (i:=0) (show List.Nodup (["_law_one","_law_yours"]:List Str) from by decide+kernel) rfl (Or.inl rfl))) (fun _ _ _ _ _=>(zgx (z0b (opK (r:=qIn) (K:=K) (gIn hr.units) rfl) (z1q (i:=0) rfl (by walk_at "vc") z3p z3q) (z1q (i:=1) rfl (by walk_at "vc") zkt zky) (by with_unfolding_all rfl)))) (fun _ _ _ _ _=>(z1q (i:=0) rfl (by walk_at "vc") z3p z3q))) (zj2 z7n)))))) (z04 (z14 (i:=13) sc_law_block.nd rfl z96 (z0u z0o (z19 c_law_block hr (by omega) (z08 (z06 0 rfl z0h) (z08 (z0n z1a (z06 6 rfl z0q) z03) (z08 (z06 2 rfl z0l) (z08 (z0n z6k (z06 3 rfl z18) z03) z02)))) z32 z5t) z03 (fun _ _=>rfl)) (z05 rfl))
 (z07 (z77 (zgy y0d y1f y1e z82 (z06 4 rfl z22) (z08 (z19 c_law_counted hr (by omega) (z08 (z06 0 rfl z0h) (z08 (z0n z1a (z06 6 rfl z0q) z03) (z08 (z06 2 rfl z0l) (z08 (z06 13 rfl z9t) (z08 (z06 3 rfl z18) z02))))) z7i zi2) z02)) (z05 rfl)))))))))))
 (z07 (z0f (z12 (z08 (ztp z5u zdl b_tuple zdz (z08 (z06 4 rfl z22) z02) zd6 zdv) (z08 (z06 2 rfl z0l) z02))))))),?_⟩
 walk_at "rd"
 refine⟨y05 _,fun pd hpd=>?_⟩
 have s1:=z01 hpd (HO.lst [])
 refine⟨a,ns,k,d,rfl,s1.seq hS,h0,by omega,fun i H2 i0 i1 s2=>?_⟩
 have hnk:kn≠pd:=z0d hk hpd
 refine⟨_,rfl,by omega,by omega,?_⟩
 refine zdr (lo:=0) (n:=(1+i).toNat) (q69 H kn a k d pd g) ?start ?step ?done
 case start=>exact⟨kn,[],[],g,none,none,none,none,none,none,none,none,none,rfl,s1.trans s2,s2 _ _ z00,.nil,(s1.trans s2) _ _ hk,hnk,Knows.nil g,hg,rfl,fun e he=>absurd he (by simp),by omega,.inl rfl⟩
 case done=>
  rintro σ Hc ⟨kc,vs,b,g',x5,x6,x7,x8,x9,x10,x11,x12,x13,rfl,sc,hv,dv,hkc,hne,hkn,hg',hbl,hok,hgl,hkf⟩
  walk_at "rd"
  refine⟨vs,.inl ⟨SqL.of hv,fun pb hpb=>⟨zl 2 (by decide),fun pr hpr=>?_⟩⟩⟩
  have sa:=z01 hpb (HO.tup vs)
  have sb:=z01 hpr (HO.tup [V.ref pb,V.ref kc])
  refine q pr pb kc _ b g' (sc.trans (sa.trans sb)) z00 (.tup (sb _ _ z00) (dv.kp (sa.trans sb).kp)) (sb _ _ (sa _ _ hkc)) ?_ (by omega) (fun z=>by rw [z] at hbl; simp at hbl; omega) hkn hg' (y0b hgl (Nat.add_le_add_left (pgc hd1 hd3 (by omega)) _)) hkf
  obtain⟨d',rfl⟩:∃d',d=d'+1:=⟨d - 1,by omega⟩
  exact⟨by omega,fun e he=>hok e he⟩
 case step=>
  rintro j σ Hc hj ⟨kc,vs,b,g',x5,x6,x7,x8,x9,x10,x11,x12,x13,rfl,sc,hv,dv,hkc,hne,hkn,hg',hbl,hok,hgl,hkf⟩
  have hjd:j < d:=by omega
  have hg7:g'.length<=g.length+6:=y0b hgl (Nat.add_le_add_left (y0b (pgc hd1 hd3 (y18 hjd)) (cg6 d)) _)
  have hvl:vs.length=j:=by rw [dv.length,z6p,hbl]
  refine q5u fun M0 f0=>?_
  walk_at "rd"
  rw [f0]
  show znh _ (znh _ (znj _ _ _)) _ _ _
  refine q1y fun Y Z eY eZ=>?_
  walk_at "rd"
  refine⟨.inl ⟨by decide,by decide⟩,.inl ⟨by decide,by decide⟩,?_⟩
  refine⟨a,ns,_,7,rfl,sc.seq hS,by omega,by decide,fun wy H3 w0 w1 s3=>?_⟩
  walk_at "rd"
  refine q1u (Hy:=fun Hx=>Same H3 Hx) (C:=?cc) ?kk ?_
  case kk=>
   intro key
   split
   ·generalize hH:H3=H3n
    exact key H3n (hH ▸ Same.refl _)
   ·split
    ·exact key H3 (Same.refl _)
    ·rename_i hd0
     refine⟨y05 _,fun pe hpe=>?_⟩
     have se:=z01 hpe (HO.lst [])
     refine⟨_,q3a (SqL.of (se _ _ (s3 _ _ hkc))) (zym hg') (SqL.of z00),?_⟩
     replace s3:=s3.trans se
     generalize upd H3 pe (HO.lst [])=H3e at s3 se |-
     split
     ·exact key H3e se
     ·rename_i hne2
      rw [eZ]
      refine zst fun Y2 Z2 eY2 eZ2=>?_
      walk_at "rd"
      split
      ·rw [eY2]
       refine z0e fun N1 e1=>?_
       walk_at "rd"
       have hd4:2<=d:=by
        have:¬ (d:Int)=1:=hd0
        omega
       have ed:((d:Int) - 1)=((d - 1:Nat):Int):=by omega
       rw [ed]
       refine⟨a,ns,_,kc,g',d - 1,rfl,(sc.trans s3).seq hS,by omega,s3 _ _ hkc,hg',by omega,by omega,by omega,by omega,fun r1 rb1 rk1 H4 b1 g1 s4 hr1 db1 hk1 ob1 lb1 nb1 kn1 sp1 gl1 kf1=>?_⟩
       refine⟨_,rfl,_,SqT.of hr1,rfl,_,_,rfl,_,_,rfl,rfl,?_⟩
       have s34:=s3.trans s4
       rw [e1]
       refine z0e fun N2 e2=>?_
       walk_at "rd"
       rw [ed]
       refine⟨a,ns,_,kc,g',d - 1,rfl,(sc.trans s34).seq hS,by omega,s34 _ _ hkc,hg',by omega,by omega,by omega,by omega,fun r2 rb2 rk2 H5 b2 g2 s5 hr2 db2 hk2 ob2 lb2 nb2 kn2 sp2 gl2 kf2=>?_⟩
       have s35:=s34.trans s5
       refine⟨_,rfl,_,SqT.of hr2,rfl,_,_,rfl,_,_,rfl,rfl,?_⟩
       rw [e2]
       refine z0e fun N3 e3=>?_
       walk_at "rd"
       refine⟨.inl ⟨rfl,_,SqL.of (s35 _ _ hv)⟩,?_⟩
       refine⟨a,ns,_,kc,g',2,rfl,(sc.trans s35).seq hS,by omega,s35 _ _ hkc,hg',by decide,by decide,fun r3 H6 t3 s6 d3 k3=>?_⟩
       refine⟨zl 4 (by decide),fun pt hpt=>?_⟩
       have s7:=z01 hpt (HO.tup [V.str "if",r3,V.ref rb1,V.ref rb2])
       have s57:=s5.trans (s6.trans s7)
       have s67:=s6.trans s7
       have dt:Dt _ (.ref pt) (D.ite t3 b1 b2).enc:=.tup z00 (.cons (.str _) (.cons (d3.kp s7.kp) (.cons (db1.kp s57.kp) (.cons (db2.kp s67.kp) .nil))))
       have s37:=s34.trans s57
       have n1:rk1≠pd:=by
        rcases kf1 with z | z
        ·rw [z]; exact hne
        ·intro y; rw [y,s3 _ _ hv] at z; cases z
       have n2:rk2≠pd:=by
        rcases kf2 with z | z
        ·rw [z]; exact hne
        ·intro y; rw [y,s34 _ _ hv] at z; cases z
       have m1:=s57 _ _ hk1
       have m2:=s67 _ _ hk2
       generalize upd H6 pt (HO.tup [V.str "if",r3,V.ref rb1,V.ref rb2])=U at s7 s57 s67 dt s37 m1 m2 |-
       have hv7:=s37 _ _ hv
       refine⟨vs,hv7,by rw [hvl]; exact z2g (by omega),?_⟩
       have k8:Kp U (upd U pd (HO.lst (vs++[V.ref pt]))):=Kp.set hv7
       have w1:(upd U pd (HO.lst (vs++[V.ref pt]))) rk1=some (.lst (g1.map V.str)):=by rw [z09 n1]; exact m1
       have w2:(upd U pd (HO.lst (vs++[V.ref pt]))) rk2=some (.lst (g2.map V.str)):=by rw [z09 n2]; exact m2
       have vU2:(upd U pd (HO.lst (vs++[V.ref pt]))) pd=some (.lst (vs++[V.ref pt])):=z00
       have sU2:Same H (upd U pd (HO.lst (vs++[V.ref pt]))):=z5q (sc.trans s37) hpd
       generalize upd U pd (HO.lst (vs++[V.ref pt]))=U2 at k8 w1 w2 vU2 sU2 |-
       rw [e3]
       walk_at "rd"
       refine⟨⟨_,SqL.of w1⟩,?_⟩
       have hg1:g1.length<=900:=by
        have:=cg6 (d - 1)
        omega
       refine z6v (K:=K) (a:=rk1) (xs:=g1.map V.str) (q65 U2 rk2 g1 g2) ⟨rfl,⟨none,rfl⟩,by simp⟩ (by rw [y8]; exact z2g (by omega)) ?_ ?_ ?_ ?_
       ·rintro i ys σ' H' ⟨_,_,rfl⟩
        rw [y8]
        exact y0b (List.length_filter_le _ _) (by rw [y0a]; omega)
       ·rintro i ys σ' H' _ ⟨rfl,_,_⟩
        exact SqL.of w1
       ·rintro i ys v σ' H' hxi ⟨rfl,⟨t,rfl⟩,rfl⟩
        rw [y00] at hxi
        cases hx:g1[i]? with
        | none=>rw [hx] at hxi; cases hxi
        | some x=>
         rw [hx] at hxi
         have ev:V.str x=v:=by simpa using hxi
         subst ev
         walk_at "rd"
         refine⟨inV (.str x) (g2.map V.str),.inl ⟨rk2,_,rfl,.inl (SqL.of w2),rfl,zmk g2,rfl⟩,?_⟩
         rw [zki]
         have et:g1.take (i+1)=g1.take i++[x]:=by rw [List.take_add_one,hx]; rfl
         cases hc:g2.contains x with
         | true=>exact⟨rfl,⟨_,rfl⟩,by rw [et,y23,y03,y2e,hc]; rfl⟩
         | false=>exact⟨rfl,⟨_,rfl⟩,by rw [et,y23,y03,y2e,hc]; simp⟩
       ·rintro ys σ' H' ⟨rfl,_,rfl⟩ pc hpc
        rw [y8,y0j]
        have sa:=z01 hpc (HO.lst ((g1.filter fun x=>g2.contains x).map V.str))
        have hnp:pc≠pd:=fun z=>by rw [z,vU2] at hpc; cases hpc
        have hlf:(g1.filter fun x=>g2.contains x).length<=g1.length:=List.length_filter_le _ _
        refine⟨pc,vs++[V.ref pt],b++[D.ite t3 b1 b2],g1.filter fun x=>g2.contains x,_,_,_,_,_,_,_,_,_,rfl,sU2.trans sa,sa _ _ vU2,?_,z00,hnp,hkn.snoc (KnowsD.ite k3 kn1 kn2 ?_),?_,by rw [yd,y08,hbl],?_,?_,.inr (sU2.free hpc)⟩
        ·rw [z6q]
         exact(dv.kp (s37.kp.trans (k8.trans sa.kp))).append (.cons (dt.kp (k8.trans sa.kp)) .nil)
        ·intro y hy
         have:=List.mem_filter.mp hy
         exact⟨this.1,by simpa using this.2⟩
        ·exact fun y hy=>sp1 y (List.mem_filter.mp hy).1
        ·intro c hc
         rcases List.mem_append.mp hc with hc | hc
         ·exact hok c hc
         ·have ec:c=D.ite t3 b1 b2:=by simpa using hc
          subst ec
          exact⟨k3.mono hg' (by decide),ob1,ob2⟩
        ·rw [Nat.succ_mul]
         have:=cgp hd4 hd3
         omega
      ·rw [eZ2]
       refine z0e fun N1 e1=>?_
       walk_at "rd"
       have hd4:2<=d:=by
        have:¬ (d:Int)=1:=hd0
        omega
       have ed:((d:Int) - 1)=((d - 1:Nat):Int):=by omega
       rw [ed]
       have hgn:g'≠[]:=fun z=>hne2 (by rw [z]; rfl)
       refine⟨a,ns,_,kc,g',d - 1,rfl,(sc.trans s3).seq hS,by omega,s3 _ _ hkc,hg',by omega,by omega,by omega,by omega,fun r1 rb1 rk1 H4 b1 g1 s4 hr1 db1 hk1 ob1 lb1 nb1 kn1 sp1 gl1 kf1=>?_⟩
       have s34:=s3.trans s4
       refine⟨_,rfl,_,SqT.of hr1,_,rfl,?_⟩
       rw [e1]
       walk_at "rd"
       refine⟨.inl ⟨rfl,_,SqL.of (s34 _ _ hv)⟩,?_⟩
       refine⟨a,ns,_,kc,g',g1,_,b1,d - 1,d,rfl,(sc.trans s34).seq hS,by omega,s34 _ _ hkc,hg',hgn,db1,ob1,by omega,nb1,kn1,by omega,fun r2 H5 e2 s5 de2 oe2 ke2=>?_⟩
       have s35:=s34.trans s5
       refine⟨vs,s35 _ _ hv,by rw [hvl]; exact z2g (by omega),?_⟩
       have k8:Kp H5 (upd H5 pd (HO.lst (vs++[r2]))):=Kp.set (s35 _ _ hv)
       refine⟨kc,vs++[r2],b++[e2],g',_,_,_,_,_,_,_,_,_,rfl,z5q (sc.trans s35) hpd,z00,?_,by rw [z09 hne]; exact s35 _ _ hkc,hne,hkn.snoc ke2,hg',by rw [yd,y08,hbl],?_,?_,hkf⟩
       ·rw [z6q]
        exact(dv.kp (s35.kp.trans k8)).append (.cons (de2.kp k8) .nil)
       ·intro c hc
        rcases List.mem_append.mp hc with hc | hc
        ·exact hok c hc
        ·have ec:c=e2:=by simpa using hc
         subst ec
         exact oe2
       ·rw [Nat.succ_mul]
        omega
  intro Hx sx
  replace s3:=s3.trans sx
  rw [eY]
  refine z0e fun N1 e1=>?_
  walk_at "rd"
  refine⟨zl 4 (by decide),fun pm hpm=>?_⟩
  have s4:=z01 hpm (HO.lst [V.str "a",V.str "b",V.str "c",V.str "dd"])
  refine⟨a,ns,_,4,rfl,((sc.trans s3).trans s4).seq hS,by omega,by decide,fun m H4 m0 m1 s5=>?_⟩
  obtain⟨x,hx,e⟩:=z9k (c:=V.str) (ns:=pool) (k:=m) m0 m1
  have s35:=s3.trans (s4.trans s5)
  refine⟨_,_,rfl,SqL.of (s5 _ _ z00),_,e,?_⟩
  rw [e1]
  refine z0e fun N2 e2=>?_
  walk_at "rd"
  refine⟨.inl ⟨rfl,_,SqL.of (s35 _ _ hv)⟩,?_⟩
  refine⟨a,ns,_,kc,g',3,rfl,(sc.trans s35).seq hS,by omega,s35 _ _ hkc,hg',by decide,by decide,fun r1 H5 t1 s6 d1 k1=>?_⟩
  refine⟨zl 3 (by decide),fun pt hpt=>?_⟩
  have s7:=z01 hpt (HO.tup [V.str "set",V.str x,r1])
  have dt:Dt _ (.ref pt) (D.set x t1).enc:=.tup z00 (.cons (.str _) (.cons (.str _) (.cons (d1.kp s7.kp) .nil)))
  have s37:=s35.trans (s6.trans s7)
  generalize upd H5 pt (HO.tup [V.str "set",V.str x,r1])=U at s7 dt s37 |-
  have hv7:=s37 _ _ hv
  refine⟨vs,hv7,by rw [hvl]; exact z2g (by omega),?_⟩
  rw [e2]
  walk_at "rd"
  refine⟨zl 1 (by decide),fun pl hpl=>?_⟩
  have k8:Kp U (upd U pd (HO.lst (vs++[V.ref pt]))):=Kp.set hv7
  have kU2:(upd U pd (HO.lst (vs++[V.ref pt]))) kc=some (.lst (g'.map V.str)):=by rw [z09 hne]; exact s37 _ _ hkc
  have vU2:(upd U pd (HO.lst (vs++[V.ref pt]))) pd=some (.lst (vs++[V.ref pt])):=z00
  have sU2:Same H (upd U pd (HO.lst (vs++[V.ref pt]))):=z5q (sc.trans s37) hpd
  generalize upd U pd (HO.lst (vs++[V.ref pt]))=U2 at k8 kU2 vU2 sU2 hpl |-
  have s9:=z01 hpl (HO.lst [V.str x])
  have hU3:(upd U2 pl (HO.lst [V.str x])) pl=some (.lst [V.str x]):=z00
  generalize upd U2 pl (HO.lst [V.str x])=U3 at s9 hU3 |-
  refine⟨⟨_,SqL.of hU3⟩,?_⟩
  refine z6v (K:=K) (a:=pl) (xs:=[V.str x]) (q67 U3 kc g' x) ⟨rfl,⟨none,rfl⟩,.inl ⟨rfl,rfl⟩⟩ (z2g (by show 1<=1000; decide)) ?_ ?_ ?_ ?_
  ·rintro i ys σ' H' ⟨_,_,h⟩
   rcases h with⟨rfl,rfl⟩ | ⟨rfl,rfl⟩
   ·exact yg _
   ·split<;>simp
  ·rintro i ys σ' H' _ ⟨rfl,_,_⟩
   exact SqL.of hU3
  ·rintro i ys v σ' H' hxi ⟨rfl,⟨t,rfl⟩,h⟩
   rcases h with⟨rfl,rfl⟩ | ⟨rfl,rfl⟩
   ·have ev:V.str x=v:=by simpa using hxi
    subst ev
    walk_at "rd"
    refine⟨!inV (.str x) (g'.map V.str),.inl ⟨kc,_,rfl,.inl (SqL.of (s9 _ _ kU2)),rfl,zmk g',rfl⟩,?_⟩
    rw [zki]
    cases hc:g'.contains x with
    | true=>exact⟨rfl,⟨_,rfl⟩,.inr ⟨rfl,by rw [hc]; rfl⟩⟩
    | false=>exact⟨rfl,⟨_,rfl⟩,.inr ⟨rfl,by rw [hc]; rfl⟩⟩
   ·simp at hxi
  ·rintro ys σ' H' ⟨rfl,_,h⟩ pc hpc
   rcases h with⟨h,_⟩ | ⟨_,rfl⟩
   ·exact absurd h (by simp)
   have sa:=z01 hpc (HO.lst ((if g'.contains x then [] else [x]).map V.str))
   refine⟨_,rfl,_,sa _ _ (s9 _ _ kU2),_,z00,?_,fun pk hpk=>?_⟩
   ·have e1:((if g'.contains x then [] else [x]).map V.str).length<=1:=by split<;>simp
    rw [y8]
    exact zl _ (by omega)
   ·have sb:=z01 hpk (HO.lst (g'.map V.str++(if g'.contains x then [] else [x]).map V.str))
    have s9b:=s9.trans (sa.trans sb)
    have hnp:pk≠pd:=fun z=>by
     have:=(s9.trans sa) _ _ vU2
     rw [<- z,hpk] at this
     cases this
    refine⟨pk,vs++[V.ref pt],b++[D.set x t1],g'++(if g'.contains x then [] else [x]),_,_,_,_,_,_,_,_,_,rfl,sU2.trans s9b,s9b _ _ vU2,?_,?_,hnp,hkn.snoc (KnowsD.set k1 ?_),?_,by rw [yd,y08,hbl],?_,?_,.inr ((sU2.trans (s9.trans sa)).free hpk)⟩
    ·rw [z6q]
     exact(dv.kp (s37.kp.trans (k8.trans s9b.kp))).append (.cons (dt.kp (k8.trans s9b.kp)) .nil)
    ·rw [z00,y03]
    ·intro y hy
     rcases List.mem_append.mp hy with hy | hy
     ·exact .inl hy
     ·cases hc:g'.contains x with
      | true=>rw [hc] at hy; simp at hy
      | false=>rw [hc] at hy; simp at hy; exact .inr hy
    ·intro y hy
     rcases List.mem_append.mp hy with hy | hy
     ·exact hg' y hy
     ·cases hc:g'.contains x with
      | true=>rw [hc] at hy; simp at hy
      | false=>rw [hc] at hy; simp at hy; rw [hy]; exact hx
    ·intro c hc
     rcases List.mem_append.mp hc with hc | hc
     ·exact hok c hc
     ·have ec:c=D.set x t1:=by simpa using hc
      subst ec
      exact⟨hx,k1.mono hg' (by decide)⟩
    ·have e1:(if g'.contains x then [] else [x]).length<=1:=by split<;>simp
     rw [yd,Nat.succ_mul]
     have:=pg1 d
     omega
theorem zrr{k:Nat}:FnOk P w K mg base CX0 k f fd ["_law_script","_law_at","_law_known","_law_deep"] (ze7 K 0):=by
 have no:∀vs H Q E,¬ ze7 K 0 vs H Q E:=fun vs H Q E h=>by
  obtain⟨a,ns,k,kn,g,d,_,_,_,_,_,h1,h2,_⟩:=h
  omega
 exact⟨fun vs H Q E h=>absurd h (no vs H Q E),fun A outer s H args us vs Q E _ _ _ _ h=>absurd h (no vs H Q E)⟩
theorem zne(dd:Df K mg "_law_block" z0a ["_law_script","_law_at","_law_known","_law_deep"] f fd) (b_range:mg "range" = none) (b_tuple:mg "tuple" = none) (c_law_pick:Callee P w K mg base "_law_pick" ["_law_script","_law_k","_law_many"] 2 (zbx K))
  (c_law_sum:Callee P w K mg base "_law_sum" ["_law_script","_law_at","_law_known","_law_deep"] 6 (zlf K 3)) (c_law_counted:Callee P w K mg base "_law_counted" ["_law_script","_law_at","_law_known","_law_body","_law_deep"] 7 (zgl K)) :
  ∀n:Nat,Callee P w K mg base "_law_block" ["_law_script","_law_at","_law_known","_law_deep"] (n+7) (ze7 K n)
 | 0=>dd.callee zrr
 | n+1=>dd.callee (zx1 dd.F b_range b_tuple c_law_pick c_law_sum c_law_counted (zne dd b_range b_tuple c_law_pick c_law_sum c_law_counted n))
abbrev Rw:=Str×Int×Int
def rowEnc(r:Rw):Dm:=.tup [.str r.1,.int r.2.1,.int r.2.2]
def pair:List Str:=["a","b"]
def q62(H:Hp)(a:Addr)(k:Int)(pi:Addr)(j:Nat)(σ : St)(Hc:Hp):Prop:=∃(vs:List V) (rows:List Rw) (x3 x4:Option V),σ = [some (.ref a),some (.int k),some (.ref pi),x3,x4]/\Same H Hc/\Hc pi=some (.lst vs)/\DtA Hc vs (rows.map rowEnc)/\rows.length=j/\rows.map (·.1)=pair.take j/\∀r∈rows,-6<=r.2.1/\r.2.1<=r.2.2/\r.2.2<=8
def q61(U:Hp)(rows:List Rw)(i:Nat)(ys:List V)(σ':St)(H':Hp):Prop:=H'=U/\(∃t,σ'=[t])/\ys=(rows.take i).map fun r=>V.str r.1
structure okRows(rows:List Rw):Prop where
 len:rows.length<=2
 nm:rows.map (·.1)=pair.take rows.length
 lo:∀r∈rows,-6<=r.2.1/\r.2.1<=r.2.2/\r.2.2<=8
def zlg(K:y3):Sp:=fun vs H Q _=>∃(a:Addr) (ns:List Int) (k:Int),vs=[.ref a,.int k]/\SqL K H a (ns.map V.int)/\0<=k/\
 ∀(r ri rb:Addr) (H':Hp) (rows:List Rw) (b:List D) (g':List Str),Same H H'->H' r=some (.tup [.ref ri,.ref rb])->Dt H' (.ref ri) (.tup (rows.map rowEnc))->Dt H' (.ref rb) (.tup (encB b))->okRows rows->okB 3 b->b.length<=3->b≠[]->Knows (rows.map (·.1)) b g'->Q (.ref r) H'
theorem zrm(F:Fun K "_law_program" "_law_program" z0w f fd) (b_range:mg "range" = none) (b_tuple:mg "tuple" = none) (c_law_pick:Callee P w K mg base "_law_pick" ["_law_script","_law_k","_law_many"] 2 (zbx K))
  (c_law_block:Callee P w K mg base "_law_block" ["_law_script","_law_at","_law_known","_law_deep"] 10 (ze7 K 3)):FnOk P w K mg base CX0 11 f fd ["_law_script","_law_at"] (zlg K):=by
 refine F.ok sc_law_program (fun vs H Q E h=>?_) (fun cdv A outer s H vs Q E hr h=>?_)
 ·obtain⟨a,ns,k,rfl,_⟩:=h
  rfl
 obtain⟨a,ns,k,rfl,hS,h0,q⟩:=h
 refine⟨_,(z04 (z14 (i:=2) sc_law_program.nd rfl z86 (z2v z02) (z05 rfl))
 (z04 (zag y0r rfl (zah zbp b_range (z08 (z19 c_law_pick hr (by omega) (z08 (z06 0 rfl z1o) (z08 (z06 1 rfl z2c) (z08 z03 z02))) z2u z0p) z02)) (z0s (i:=3) sc_law_program.nd rfl z9x)
 (z04 (z14 (i:=4) sc_law_program.nd rfl z85 (z0n z6k (z19 c_law_pick hr (by omega) (z08 (z06 0 rfl z1o) (z08 (z0n z1a (z0n z1a (z06 1 rfl z2c) z03) (z0n zai z03 (z06 3 rfl z3j))) (z08 z03 z02))) z2u z0p) z03) (z05 rfl))
 (z07 (z77 (zgy y0d y1f y1e z82 (z06 2 rfl z2x) (z08 (z12 (z08 (z0u z2t (z2v (z08 z0i (z08 z0i z02))) (z06 3 rfl z3j) (fun _ _=>rfl)) (z08 (z06 4 rfl z4c) (z08 (z0n z1a (z06 4 rfl z4c) (z19 c_law_pick hr (by omega) (z08 (z06 0 rfl z1o) (z08 (z0n z1a (z0n z1a (z06 1 rfl z2c) z03) (z0n zai z03 (z06 3 rfl z3j))) (z08 z03 z02))) z2u z0p)) z02)))) z02)) (z05 rfl)))))
 (z07 (z0f (z12 (z08 (ztp z5u zbo b_tuple zdz (z08 (z06 2 rfl z2x) z02) zd6 zdv) (z08 (z0u z0o (z19 c_law_block hr (by omega) (z08 (z06 0 rfl z1o) (z08 (z0n z1a (z06 1 rfl z2c) z03) (z08 (z6j ["_law_row"] [none] rfl (CompS.of (by rfl)) (z5i (z06 2 rfl z2x)) (fun _ _ _ _ _=>(z0s (i:=0) (show List.Nodup (["_law_row"]:List Str) from by decide+kernel) rfl (Or.inl rfl))) (fun _ _ _ _ _=>zeb) (fun _ _ _ _ _=>(z0u (ixK (r:=zpv) (K:=K) z0o rfl) (z1q (i:=0) rfl (by walk_at "vc") zci zcl) z03 (fun _ _=>rfl)))) (z08 z03 z02)))) z7h z5t) z03 (fun _ _=>rfl)) z02))))))),?_⟩
 walk_at "rd"
 refine⟨y05 _,fun pi hpi=>?_⟩
 have s1:=z01 hpi (HO.lst [])
 refine⟨a,ns,k,3,rfl,s1.seq hS,h0,by decide,fun i H2 i0 i1 s2=>?_⟩
 refine⟨_,rfl,by omega,by omega,?_⟩
 refine zdr (lo:=0) (n:=i.toNat) (q62 H a k pi) ?start ?step ?done
 case start=>exact⟨[],[],none,none,rfl,s1.trans s2,s2 _ _ z00,.nil,rfl,rfl,fun r hr=>absurd hr (by simp)⟩
 case step=>
  rintro j σ Hc hj ⟨vs,rows,x3,x4,rfl,sc,hv,dv,hl,hnm,hlo⟩
  have hvl:vs.length=j:=by rw [dv.length,y8,hl]
  walk_at "rd"
  refine⟨.inl ⟨by decide,by decide⟩,?_⟩
  refine⟨a,ns,_,13,rfl,sc.seq hS,by omega,by decide,fun lo H3 l0 l1 s3=>?_⟩
  walk_at "rd"
  refine⟨.inl ⟨rfl,_,SqL.of (s3 _ _ hv)⟩,zl 2 (by decide),fun pm hpm=>?_⟩
  have s4:=z01 hpm (HO.lst [V.str "a",V.str "b"])
  have hj2:j=0\/j=1:=by omega
  obtain⟨x,ex,et⟩:∃x:Str,atI (pair.map V.str) (0+(j:Int))=some (V.str x)/\pair.take (j+1)=pair.take j++[x]:=by
   rcases hj2 with rfl | rfl
   ·exact⟨"a",rfl,rfl⟩
   ·exact⟨"b",rfl,rfl⟩
  refine⟨_,SqL.of z00,_,ex,.inl ⟨by decide,by decide⟩,?_⟩
  refine⟨a,ns,_,3,rfl,((sc.trans s3).trans s4).seq hS,by omega,by decide,fun z H4 z0 z1 s5=>?_⟩
  refine⟨_,rfl,zl 3 (by decide),fun pt hpt=>?_⟩
  have s6:=z01 hpt (HO.tup [V.str x,V.int (lo - 6),V.int (lo - 6+z)])
  have dt:Dt (upd H4 pt (HO.tup [V.str x,V.int (lo - 6),V.int (lo - 6+z)])) (.ref pt) (rowEnc (x,lo - 6,lo - 6+z)):=.tup z00 (.cons (.str _) (.cons (.int _) (.cons (.int _) .nil)))
  have s36:=s3.trans (s4.trans (s5.trans s6))
  generalize upd H4 pt (HO.tup [V.str x,V.int (lo - 6),V.int (lo - 6+z)])=U at s6 dt s36 |-
  refine⟨vs,s36 _ _ hv,by rw [hvl]; exact z2g (by omega),?_⟩
  have k8:Kp U (upd U pi (HO.lst (vs++[V.ref pt]))):=Kp.set (s36 _ _ hv)
  refine⟨vs++[V.ref pt],rows++[(x,lo - 6,lo - 6+z)],_,_,rfl,z5q (sc.trans s36) hpi,z00,?_,by rw [yd,y08,hl],?_,?_⟩
  ·rw [y03]
   exact(dv.kp (s36.kp.trans k8)).append (.cons (dt.kp k8) .nil)
  ·rw [y03,hnm,et]; rfl
  ·intro r hr'
   rcases List.mem_append.mp hr' with hr' | hr'
   ·exact hlo r hr'
   ·have er:r=(x,lo - 6,lo - 6+z):=by simpa using hr'
    subst er
    show -6<=lo - 6/\lo - 6<=lo - 6+z/\lo - 6+z<=8
    omega
 case done=>
  rintro σ Hc ⟨vs,rows,x3,x4,rfl,sc,hv,dv,hl,hnm,hlo⟩
  walk_at "rd"
  have hvl:vs.length=i.toNat:=by rw [dv.length,y8,hl]
  refine⟨vs,.inl ⟨SqL.of hv,fun pb hpb=>?_⟩⟩
  have sa:=z01 hpb (HO.tup vs)
  have dti:Dt _ (.ref pb) (.tup (rows.map rowEnc)):=.tup z00 (dv.kp sa.kp)
  have hv2:=sa _ _ hv
  have dvU:=dv.kp sa.kp
  generalize upd Hc pb (HO.tup vs)=U at sa dti hv2 dvU |-
  refine⟨⟨_,SqL.of hv2⟩,?_⟩
  refine z6v (K:=K) (a:=pi) (xs:=vs) (q61 U rows) ⟨rfl,⟨none,rfl⟩,rfl⟩ (by rw [hvl]; exact z2g (by omega)) ?_ ?_ ?_ ?_
  ·rintro i ys σ' H' ⟨_,_,rfl⟩
   rw [y8,y0a]
   omega
  ·rintro i ys σ' H' _ ⟨rfl,_,_⟩
   exact SqL.of hv2
  ·rintro i' ys v σ' H' hxi ⟨rfl,⟨t,rfl⟩,rfl⟩
   obtain⟨d,hd,dd⟩:=dvU.get hxi
   rw [y00] at hd
   cases hr':rows[i']? with
   | none=>rw [hr'] at hd; cases hd
   | some r=>
    rw [hr'] at hd
    have ed:rowEnc r=d:=by simpa using hd
    subst ed
    obtain⟨pa,xs,rfl,hpa,da⟩:=dd.tupI
    rcases da with _ | ⟨d1,_ | ⟨d3,_ | ⟨d5,_ | _⟩⟩⟩
    ·cases d1
     walk_at "rd"
     refine⟨_,SqT.of hpa,_,rfl,rfl,⟨_,rfl⟩,?_⟩
     rw [List.take_add_one,hr',y03]
     rfl
  ·rintro ys σ' H' ⟨rfl,_,rfl⟩ pc hpc
   rw [show vs.length=rows.length by rw [hvl,hl],y0j]
   have sb:=z01 hpc (HO.lst (rows.map fun r=>V.str r.1))
   have hsub:Sub (rows.map (·.1)) pool:=by
    rw [hnm]
    intro y hy
    have:=y1k hy
    simp only[pair,yz,yt,or_false] at this
    rcases this with rfl | rfl<;>decide+kernel
   refine⟨a,ns,k+9,pc,rows.map (·.1),3,rfl,(sc.trans (sa.trans sb)).seq hS,by omega,?_,hsub,by decide,by decide,by decide,by rw [y8]; omega,fun r rb rk H5 b g' s5 hr' db hkk ob lb nb kn sp gl kf=>?_⟩
   ·rw [z00,y10]; rfl
   ·refine⟨_,rfl,_,SqT.of hr',_,rfl,zl 2 (by decide),fun pr hpr=>?_⟩
    have sc2:=z01 hpr (HO.tup [V.ref pb,V.ref rb])
    exact q pr pb rb _ rows b g' (sc.trans (sa.trans (sb.trans (s5.trans sc2)))) z00 (dti.kp (sb.trans (s5.trans sc2)).kp) (db.kp sc2.kp) ⟨by omega,by rw [hnm,hl],hlo⟩ ob lb nb kn
end
section
variable{P:yf}{w:yr}{K:y3}{mg:Str->Option y4}{base:Heap}{f:Addr}{fd:yq}
def tyD:Dm->String
 | .non=>"NoneType" | .bl _=>"bool" | .int _=>"int" | .str _=>"str" | .tup _=>"tuple" | .lst=>"list"
theorem q4a{H:Hp}{v:V}{d:Dm}(h:Dt H v d):TyOf K H v (.type (tyD d)):=by
 cases h with
 | non=>exact .non
 | bl b=>exact .bl b
 | int i=>exact .int i
 | str x=>exact .str x
 | tup e _=>exact .tup e
 | lst e=>exact .lst e
def isT:Dm->Bool
 | .tup _=>true
 | _=>false
def isI:Dm->Bool
 | .int _=>true
 | .bl _=>true
 | _=>false
def isB:Dm->Bool
 | .bl _=>true
 | _=>false
theorem zrx{H:Hp}{v:V}{d:Dm}(h:Dt H v d):∃t,TyOf K H v t/\PySem.W.kitOne K t (.type "tuple")=some (isT d):=⟨_,q4a h,by cases d<;>rfl⟩
theorem zie{H:Hp}{v:V}{a b:Dm}(h:Dt H v (.tup [a,b])):∃p x y,v=.ref p/\H p=some (.tup [x,y])/\Dt H x a/\Dt H y b:=by
 obtain⟨p,xs,rfl,e,r⟩:=h.tupI
 rcases r with _ | ⟨r1,_ | ⟨r2,_ | _⟩⟩
 exact⟨p,_,_,rfl,e,r1,r2⟩
theorem zw2{H:Hp}{v:V}{a b c:Dm}(h:Dt H v (.tup [a,b,c])):∃p x y z,v=.ref p/\H p=some (.tup [x,y,z])/\Dt H x a/\Dt H y b/\Dt H z c:=by
 obtain⟨p,xs,rfl,e,r⟩:=h.tupI
 rcases r with _ | ⟨r1,_ | ⟨r2,_ | ⟨r3,_ | _⟩⟩⟩
 exact⟨p,_,_,_,rfl,e,r1,r2,r3⟩
theorem zy0{H:Hp}{v:V}{a b c d:Dm}(h:Dt H v (.tup [a,b,c,d])):∃p x y z u,v=.ref p/\H p=some (.tup [x,y,z,u])/\Dt H x a/\Dt H y b/\Dt H z c/\Dt H u d:=by
 obtain⟨p,xs,rfl,e,r⟩:=h.tupI
 rcases r with _ | ⟨r1,_ | ⟨r2,_ | ⟨r3,_ | ⟨r4,_ | _⟩⟩⟩⟩
 exact⟨p,_,_,_,_,rfl,e,r1,r2,r3,r4⟩
def eqS(d:Dm)(z:Str):Bool:=match d with
 | .str x=>decide (x=z)
 | _=>false
theorem zep{H:Hp}{x:V}{d:Dm}{z:Str}(h:Dt H x d):q40 K x (.str z) H (eqS d z):=by
 cases h with
 | str y=>exact .inl ⟨rfl,by show decide (y=z)=decide (V.str y=V.str z); simp⟩
 | tup e _=>exact .inr (.inr ⟨_,_,rfl,rfl,.inr ⟨_,SqT.of e⟩,rfl⟩)
 | lst e=>exact .inr (.inr ⟨_,_,rfl,rfl,.inl ⟨_,SqL.of e⟩,rfl⟩)
 | non=>exact .inl ⟨rfl,by simp[eqS]⟩
 | bl b=>exact .inl ⟨rfl,by simp[eqS]⟩
 | int i=>exact .inl ⟨rfl,by simp[eqS]⟩
def D.term:D->T
 | .set _ t=>t
 | .ite t _ _=>t
 | .whl t _ _=>t
def zpq:Sp:=fun vs H Q _=>∃v e,vs=[v]/\Dt H v (D.enc e)/\∀x,Dt H x e.term.enc->Q x H
theorem zrk(F:Fun K "term_of" "term_of" zcy f fd):FnOk P w K mg base CX0 1 f fd ["deed"] zpq:=by
 refine F.ok zrb (fun vs H Q E h=>?_) (fun cdv A outer s H vs Q E hr h=>?_)
 ·obtain⟨v,d,rfl,_⟩:=h
  rfl
 obtain⟨v,e,rfl,hd,q⟩:=h
 refine⟨_,(z04 (z1x (z0b (gEq hr.units) (z0u z0o (z06 0 rfl z5x) z03 (fun _ _=>rfl)) z0i (z0g _)) (z07 (z0f (z0u z0o (z06 0 rfl z5x) z03 (fun _ _=>rfl)))) z0k)
 (z07 (z0f (z0u z0o (z06 0 rfl z5x) z03 (fun _ _=>rfl))))),?_⟩
 walk_at "rd"
 cases e with
 | set x t=>
  rw [D.enc] at hd
  obtain⟨p,x0,x1,x2,rfl,hp,t0,t1,t2⟩:=zw2 hd
  refine⟨_,rfl,_,SqT.of hp,_,rfl,_,zep t0,?_⟩
  rw [if_pos (show eqS (.str "set") "set" = true from by decide+kernel)]
  exact⟨_,rfl,_,SqT.of hp,_,rfl,q _ t2⟩
 | ite t b c=>
  rw [D.enc] at hd
  obtain⟨p,x0,x1,x2,x3,rfl,hp,t0,t1,t2,t3⟩:=zy0 hd
  refine⟨_,rfl,_,SqT.of hp,_,rfl,_,zep t0,?_⟩
  rw [if_neg (show ¬ eqS (.str "if") "set" = true from by decide+kernel)]
  exact⟨_,rfl,_,SqT.of hp,_,rfl,q _ t1⟩
 | whl t m b=>
  rw [D.enc] at hd
  obtain⟨p,x0,x1,x2,x3,rfl,hp,t0,t1,t2,t3⟩:=zy0 hd
  refine⟨_,rfl,_,SqT.of hp,_,rfl,_,zep t0,?_⟩
  rw [if_neg (show ¬ eqS (.str "while") "set" = true from by decide+kernel)]
  exact⟨_,rfl,_,SqT.of hp,_,rfl,q _ t1⟩
def D.blocks:D->List (Int×List D)
 | .set _ _=>[]
 | .ite _ b c=>[(1,b),(2,c)]
 | .whl _ _ b=>[(1,b)]
def q3p(p:Int×List D):Dm:=.tup [.int p.1,.tup (encB p.2)]
def ze6:Sp:=fun vs H Q _=>∃v e,vs=[v]/\Dt H v (D.enc e)/\∀(r:Addr) (H':Hp) (xs:List V),Same H H'->H r=none->H' r=some (.lst xs)->DtA H' xs (e.blocks.map q3p)->Q (.ref r) H'
theorem zm1(F:Fun K "blocks_of" "blocks_of" z91 f fd):FnOk P w K mg base CX0 1 f fd ["deed"] ze6:=by
 refine F.ok zll (fun vs H Q E h=>?_) (fun cdv A outer s H vs Q E hr h=>?_)
 ·obtain⟨v,d,rfl,_⟩:=h
  rfl
 obtain⟨v,e,rfl,hd,q⟩:=h
 refine⟨_,(z04 (z1x (z0b (gEq hr.units) (z0u z0o (z06 0 rfl z2s) z03 (fun _ _=>rfl)) z0i (z0g _)) (z07 (z0f (z2v (z08 (z12 (z08 z03 (z08 (z0u z0o (z06 0 rfl z2s) z03 (fun _ _=>rfl)) z02))) (z08 (z12 (z08 z03 (z08 (z0u z0o (z06 0 rfl z2s) z03 (fun _ _=>rfl)) z02))) z02))))) z0k)
 (z04 (z1x (z0b (gEq hr.units) (z0u z0o (z06 0 rfl z2s) z03 (fun _ _=>rfl)) z0i (z0g _)) (z07 (z0f (z2v (z08 (z12 (z08 z03 (z08 (z0u z0o (z06 0 rfl z2s) z03 (fun _ _=>rfl)) z02))) z02)))) z0k)
 (z07 (z0f (z2v z02))))),?_⟩
 walk_at "rd"
 cases e with
 | set x t=>
  rw [D.enc] at hd
  obtain⟨p,x0,x1,x2,rfl,hp,t0,t1,t2⟩:=zw2 hd
  refine⟨_,rfl,_,SqT.of hp,_,rfl,_,zep t0,?_⟩
  rw [if_neg (show ¬ eqS (.str "set") "if" = true from by decide+kernel)]
  refine⟨_,rfl,_,SqT.of hp,_,rfl,_,zep t0,?_⟩
  rw [if_neg (show ¬ eqS (.str "set") "while" = true from by decide+kernel)]
  exact⟨y05 _,fun r hr'=>q r _ [] (z01 hr' _) hr' z00 .nil⟩
 | ite t b c=>
  rw [D.enc] at hd
  obtain⟨p,x0,x1,x2,x3,rfl,hp,t0,t1,t2,t3⟩:=zy0 hd
  refine⟨_,rfl,_,SqT.of hp,_,rfl,_,zep t0,?_⟩
  rw [if_pos (show eqS (.str "if") "if" = true from by decide+kernel)]
  refine⟨_,rfl,_,SqT.of hp,_,rfl,zl 2 (by decide),fun p1 h1=>?_⟩
  have s1:=z01 h1 (HO.tup [V.int 1,x2])
  refine⟨_,rfl,_,SqT.of (s1 _ _ hp),_,rfl,zl 2 (by decide),fun p2 h2=>⟨zl 2 (by decide),fun r hr'=>?_⟩⟩
  have s2:=z01 h2 (HO.tup [V.int 2,x3])
  have s3:=z01 hr' (HO.lst [V.ref p1,V.ref p2])
  refine q r _ _ (s1.trans (s2.trans s3)) ((s1.trans s2).free hr') z00 (.cons (.tup (s3 _ _ (s2 _ _ z00)) (.cons (.int 1) (.cons (t2.kp (s1.trans (s2.trans s3)).kp) .nil))) (.cons (.tup (s3 _ _ z00) (.cons (.int 2) (.cons (t3.kp (s1.trans (s2.trans s3)).kp) .nil))) .nil))
 | whl t m b=>
  rw [D.enc] at hd
  obtain⟨p,x0,x1,x2,x3,rfl,hp,t0,t1,t2,t3⟩:=zy0 hd
  refine⟨_,rfl,_,SqT.of hp,_,rfl,_,zep t0,?_⟩
  rw [if_neg (show ¬ eqS (.str "while") "if" = true from by decide+kernel)]
  refine⟨_,rfl,_,SqT.of hp,_,rfl,_,zep t0,?_⟩
  rw [if_pos (show eqS (.str "while") "while" = true from by decide+kernel)]
  refine⟨_,rfl,_,SqT.of hp,_,rfl,zl 2 (by decide),fun p1 h1=>⟨zl 1 (by decide),fun r hr'=>?_⟩⟩
  have s1:=z01 h1 (HO.tup [V.int 1,x3])
  have s3:=z01 hr' (HO.lst [V.ref p1])
  exact q r _ _ (s1.trans s3) (s1.free hr') z00 (.cons (.tup (s3 _ _ z00) (.cons (.int 1) (.cons (t3.kp (s1.trans s3).kp) .nil))) .nil)
def T.deep:T->Nat
 | .op _ a b=>max a.deep b.deep+1
 | _=>1
theorem Wd.ne(w:Wd):eqS (.str w.str) "num" = false/\eqS (.str w.str) "name" = false:=by cases w<;>decide+kernel
abbrev RT:=List Int×T
abbrev RD:=List Int×D
def q1r(r:RT):Dm:=q1s (r.1,r.2.enc)
def zzc(r:RD):Dm:=q1s (r.1,r.2.enc)
def z6y(p:List Int):T->List RT
 | .num i=>[(p,.num i)]
 | .nm x=>[(p,.nm x)]
 | .op w a b=>(p,.op w a b)::(z6y (p++[0]) a++z6y (p++[1]) b)
mutual
def zf3(p:List Int):D->List RD
 | .set x t=>[(p,.set x t)]
 | .ite t b c=>(p,.ite t b c)::(z1l (p++[1]) 0 b++z1l (p++[2]) 0 c)
 | .whl t m b=>(p,.whl t m b)::z1l (p++[1]) 0 b
def z1l(p:List Int)(k:Int):List D->List RD
 | []=>[]
 | d::r=>zf3 (p++[k]) d++z1l p (k+1) r
end
def z7m(p:List Int):List (Int×List D)->List RD
 | []=>[]
 | q::r=>z1l (p++[q.1]) 0 q.2++z7m p r
theorem zmq(p:List Int)(d:D):zf3 p d=(p,d)::z7m p d.blocks:=by
 cases d<;>simp[zf3,z7m,D.blocks]
theorem zf2(p:List Int):∀(a b:List (Int×List D)),z7m p (a++b)=z7m p a++z7m p b
 | [],b=>by simp[z7m]
 | q::a,b=>by rw [y17,z7m,z7m,zf2 p a b,y0q]
theorem zdu(p:List Int):∀(k:Int) (a b:List D),z1l p k (a++b)=z1l p k a++z1l p (k+a.length) b
 | k,[],b=>by simp[z1l]
 | k,d::a,b=>by
  rw [y17,z1l,z1l,zdu p (k+1) a b,y0q,yh]
  congr 3
  omega
theorem zp3(p:List Int)(a:List D)(d:D):z1l p 0 (a++[d])=z1l p 0 a++zf3 (p++[(a.length:Int)]) d:=by
 rw [zdu,z1l,z1l,y06,Int.zero_add]
theorem z3n{α : Type}{l:List α}{i:Nat}{x : α}(h:l[i]?=some x):l.take (i+1)=l.take i++[x]:=by
 rw [List.take_add_one,h]; rfl
def bnd:Nat->Nat
 | 0=>0
 | n+1=>6 * (1+2 * bnd n)
theorem zj9{n:Nat}(ih:∀(b:List D) (p:List Int) (k:Int),okB n b->(z1l p k b).length<=bnd n):∀(b:List D) (p:List Int) (k:Int),(∀d∈b,okD n d)->(z1l p k b).length<=b.length * (1+2 * bnd n)
 | [],p,k,_=>by simp[z1l]
 | d::b,p,k,h=>by
  have h2:=zj9 ih b p (k+1) fun e he=>h e (.tail _ he)
  have h1:(zf3 (p++[k]) d).length<=1+2 * bnd n:=by
   have hd:=h d (.head _)
   cases d with
   | set x t=>simp[zf3]
   | ite t b c=>
    have a1:=ih b (p++[k]++[1]) 0 hd.2.1
    have a2:=ih c (p++[k]++[2]) 0 hd.2.2
    rw [zf3,yh,yd]
    omega
   | whl t m b=>
    have a1:=ih b (p++[k]++[1]) 0 hd.2.2.2
    rw [zf3,yh]
    omega
  rw [z1l,yd,yh,Nat.succ_mul]
  omega
theorem z8h:∀(n:Nat) (b:List D) (p:List Int) (k:Int),okB n b->(z1l p k b).length<=bnd n
 | 0,_,_,_,h=>h.elim
 | n+1,b,p,k,h=>by
  refine y0b (zj9 (z8h n) b p k fun d hd=>h.2 d hd) ?_
  exact y0t _ h.1
theorem zqx{n:Nat}(h:n<=3):bnd n<=942:=by
 match n,h with
 | 0,_=>decide
 | 1,_=>decide
 | 2,_=>decide
 | 3,_=>decide
theorem zyv{H:Hp}:∀p:List Int,DtA H (p.map V.int) (p.map Dm.int)
 | []=>.nil
 | i::p=>.cons (.int i) (zyv p)
theorem zqw{K:y3}{H:Hp}{Q:VK}{x y:V}{p q:List Int}(dx:Dt H x (pathD p))(dy:Dt H y (pathD q))(hz:p.length+q.length<=1000)(h:∀z H',Same H H'->Dt H' z (pathD (p++q))->Q z H'):zpw K x y H Q:=by
 obtain⟨a,xs,rfl,ha,da⟩:=dx.tupI
 obtain⟨b,ys,rfl,hb,db⟩:=dy.tupI
 have ea:=z9e da
 have eb:=z9e db
 subst ea eb
 refine⟨a,b,_,_,rfl,rfl,SqT.of ha,SqT.of hb,?_,fun e=>?_,fun _ e=>?_,fun _ _ r hr=>?_⟩
 ·rw [y8,y8]
  exact y18 (z2g hz)
 ·have:p=[]:=by simpa using e
  subst this
  exact h _ _ (Same.refl _) dy
 ·have:q=[]:=by simpa using e
  subst this
  rw [y06] at h
  exact h _ _ (Same.refl _) dx
 ·refine h _ _ (z01 hr _) (.tup z00 ?_)
  rw [<- y03]
  exact zyv _
theorem zd4{H:Hp}{r:Addr}{i:Int}:Dt (upd H r (.tup [.int i])) (.ref r) (pathD [i]):=.tup z00 (.cons (.int i) .nil)
theorem zqm:∀(b:List D) (i:Nat),(encB b)[i]?=(b[i]?).map D.enc
 | [],i=>by simp[encB]
 | d::b,0=>by simp[encB]
 | d::b,i+1=>by simp[encB,zqm b i]
theorem zva{H:Hp}{xs:List V}{b:List D}{i:Nat}{x:V}(h:DtA H xs (encB b))(hx:xs[i]?=some x):∃d,b[i]?=some d/\Dt H x d.enc:=by
 obtain⟨e,he,de⟩:=h.get hx
 rw [zqm] at he
 cases hb:b[i]? with
 | none=>rw [hb] at he; cases he
 | some d=>
  rw [hb] at he
  have:d.enc=e:=by simpa using he
  subst this
  exact⟨d,rfl,de⟩
theorem z59{α : Type}{f : α->Dm}{H:Hp}{xs:List V}{b:List α}{i:Nat}{x:V}(h:DtA H xs (b.map f))(hx:xs[i]?=some x):∃d,b[i]?=some d/\Dt H x (f d):=by
 obtain⟨e,he,de⟩:=h.get hx
 rw [y00] at he
 cases hb:b[i]? with
 | none=>rw [hb] at he; cases he
 | some d=>
  rw [hb] at he
  have:f d=e:=by simpa using he
  subst this
  exact⟨d,rfl,de⟩
def q66(H:Hp)(ab:Addr)(pv:V)(p:List Int)(b:List D)(pr:Addr)(i:Nat)(σ : St)(Hc:Hp):Prop:=∃(vs:List V) (x3 x4 x5 x6 x7:Option V),σ = [some (.ref ab),some pv,some (.ref pr),x3,x4,x5,x6,x7]/\Same H Hc/\Hc pr=some (.lst vs)/\DtA Hc vs ((z1l p 0 (b.take i)).map zzc)
def q4v(H H1:Hp)(rb:Addr)(bs:List V)(ab:Addr)(pv:V)(p:List Int)(b:List D)(pr:Addr)(i:Nat)(d:D)(dv qv:V)(j:Nat)(σ : St)(Hc:Hp):Prop:=∃(vs:List V) (x3 x6 x7:Option V),σ = [some (.ref ab),some pv,some (.ref pr),x3,some dv,some qv,x6,x7]/\Same H Hc/\Hc pr=some (.lst vs)/\DtA Hc vs ((z1l p 0 (b.take i)++(p++[(i:Int)],d)::z7m (p++[(i:Int)]) (d.blocks.take j)).map zzc)/\Kp H1 Hc/\Hc rb=some (.lst bs)
theorem zgk:∀(t:T) (p:List Int),(z6y p t).length < 2 ^ t.deep
 | .num i,p=>by simp[z6y,T.deep]
 | .nm x,p=>by simp[z6y,T.deep]
 | .op w a b,p=>by
  have h1:=zgk a (p++[0])
  have h2:=zgk b (p++[1])
  have g1:2 ^ a.deep<=2 ^ max a.deep b.deep:=Nat.pow_le_pow_right (by decide) (by omega)
  have g2:2 ^ b.deep<=2 ^ max a.deep b.deep:=Nat.pow_le_pow_right (by decide) (by omega)
  rw [z6y,T.deep,yh,yd,Nat.pow_succ]
  omega
theorem z8v{t:T}{p:List Int}{n:Nat}(h:t.deep<=n)(hn:n<=6):(z6y p t).length<=64:=by
 have h1:=zgk t p
 have h2:2 ^ t.deep<=2 ^ 6:=Nat.pow_le_pow_right (by decide) (by omega)
 omega
theorem zxu{p:List Int}{b:List D}{i:Nat}{d:D}(h:b[i]?=some d):z1l p 0 (b.take (i+1))=z1l p 0 (b.take i)++(p++[(i:Int)],d)::z7m (p++[(i:Int)]) d.blocks:=by
 have hl:i < b.length:=(List.getElem?_eq_some_iff.mp h).1
 have e:(b.take i).length=i:=by rw [y0a]; omega
 rw [z3n h,zp3,zmq,e]
theorem zhy{n:Nat}{b:List D}(h:okB (n+1) b){i:Nat}(p:List Int):(z1l p 0 (b.take i)).length<=bnd (n+1):=by
 refine z8h (n+1) _ p 0 ⟨?_,fun d hd=>h.2 d (y1k hd)⟩
 rw [y0a]
 have:=h.1
 omega
theorem zi9{n:Nat}{d:D}{nb:Int×List D}(h:okD n d)(hm:nb∈d.blocks):okB n nb.2:=by
 cases d with
 | set x t=>simp[D.blocks] at hm
 | ite t b c=>
  simp only[D.blocks,yz,yt,or_false] at hm
  rcases hm with rfl | rfl
  ·exact h.2.1
  ·exact h.2.2
 | whl t m b=>
  simp only[D.blocks,yz,yt,or_false] at hm
  subst hm
  exact h.2.2.2
theorem zqj{n:Nat}(p:List Int):∀(l:List (Int×List D)),(∀q∈l,okB n q.2)->(z7m p l).length<=l.length * bnd n
 | [],_=>by simp[z7m]
 | q::l,h=>by
  have h1:=z8h n q.2 (p++[q.1]) 0 (h q (.head _))
  have h2:=zqj p l fun r hr=>h r (.tail _ hr)
  rw [z7m,yd,yh,Nat.succ_mul]
  omega
theorem zsf(d:D):d.blocks.length<=2:=by cases d<;>simp[D.blocks]
theorem zz{n:Nat}(h:n<=10000):n<=sizeLine:=y0b h (by decide)
theorem zwv{n:Nat}{d:D}(h:okD n d)(hn:n+1<=3)(p:List Int)(l:List (Int×List D))(hl:∀q∈l,q∈d.blocks)(h2:l.length<=2):(z7m p l).length<=1884:=by
 have h1:=zqj (n:=n) p l fun q hq=>zi9 h (hl q hq)
 have h3:=zqx (n:=n) (by omega)
 have:l.length * bnd n<=2 * 942:=Nat.mul_le_mul h2 h3
 omega
theorem zh0{g:List Str}:∀{n:Nat} {t:T},T.ok g n t->t.deep<=n
 | 0,_,h=>h.elim
 | n+1,.num i,_=>by simp[T.deep]
 | n+1,.nm x,_=>by simp[T.deep]
 | n+1,.op w a b,h=>by
  have h1:=zh0 h.1
  have h2:=zh0 h.2
  simp only[T.deep]
  omega
theorem zx2{n:Nat}{d:D}(h:okD n d):T.ok pool 5 d.term:=by
 cases d with
 | set x t=>exact h.2
 | ite t b c=>exact h.1
 | whl t m b=>exact h.1
theorem zlp{n:Nat}(ih:∀(b:List D) (p:List Int) (k:Int),okB n b->∀r∈z1l p k b,r.1.length<=p.length+2 * n/\T.ok pool 5 r.2.term):∀(b:List D) (p:List Int) (k:Int),(∀d∈b,okD n d)->∀r∈z1l p k b,r.1.length<=p.length+2 * (n+1)/\T.ok pool 5 r.2.term
 | [],p,k,_,r,hr=>by simp[z1l] at hr
 | d::b,p,k,h,r,hr=>by
  rw [z1l,List.mem_append] at hr
  rcases hr with hr | hr
  ·have hd:=h d (.head _)
   rw [zmq,yz] at hr
   rcases hr with rfl | hr
   ·exact⟨by simp; omega,zx2 hd⟩
   ·have key:∀l:List (Int×List D),(∀q∈l,q∈d.blocks)->r∈z7m (p++[k]) l->r.1.length<=p.length+2 * (n+1)/\T.ok pool 5 r.2.term:=by
     intro l
     induction l with
     | nil=>intro _ hr; simp[z7m] at hr
     | cons q l ihl=>
      intro hl hr
      rw [z7m,List.mem_append] at hr
      rcases hr with hr | hr
      ·have:=ih q.2 (p++[k]++[q.1]) 0 (zi9 hd (hl q (.head _))) r hr
       exact⟨by have:=this.1; simp at this; omega,this.2⟩
      ·exact ihl (fun z hz=>hl z (.tail _ hz)) hr
    exact key d.blocks (fun _ z=>z) hr
  ·exact zlp ih b p (k+1) (fun e he=>h e (.tail _ he)) r hr
theorem zeq:∀(n:Nat) (b:List D) (p:List Int) (k:Int),okB n b->∀r∈z1l p k b,r.1.length<=p.length+2 * n/\T.ok pool 5 r.2.term
 | 0,_,_,_,h=>h.elim
 | n+1,b,p,k,h=>zlp (zeq n) b p k h.2
def z58:List RD->List RT
 | []=>[]
 | r::l=>z6y (r.1++[0]) r.2.term++z58 l
theorem zcw:∀(a b:List RD),z58 (a++b)=z58 a++z58 b
 | [],b=>by simp[z58]
 | r::a,b=>by rw [y17,z58,z58,zcw a b,y0q]
theorem ze3:∀(l:List RD),(∀r∈l,T.ok pool 5 r.2.term)->(z58 l).length<=l.length * 64
 | [],_=>by simp[z58]
 | r::l,h=>by
  have h1:=z8v (p:=r.1++[0]) (zh0 (h r (.head _))) (by decide:5<=6)
  have h2:=ze3 l fun z hz=>h z (.tail _ hz)
  rw [z58,yd,yh,Nat.succ_mul]
  omega
theorem zz5{n:Nat}(h:n<=200000):n<=sizeLine:=y0b h (by decide)
def zdt(b:List D):List RD:=z1l [] 0 b
def zab(b:List D):List RT:=z58 (zdt b)
def q60(H:Hp)(v:V)(ds:List RD)(ra:Addr)(us:List V)(pr:Addr)(i:Nat)(σ : St)(Hc:Hp):Prop:=∃(vs:List V) (x2 x3:Option V),σ = [some v,some (.ref pr),x2,x3]/\Same H Hc/\Hc pr=some (.lst vs)/\DtA Hc vs ((z58 (ds.take i)).map q1r)/\Hc ra=some (.lst us)/\DtA Hc us (ds.map zzc)
end
section
variable{P:yf}{w:yr}{K:y3}{mg:Str->Option y4}{base:Heap}{f:Addr}{fd:yq}
def okW:Nat->List D->Prop
 | 0,_=>False
 | n+1,b=>b.length<=7/\∀d∈b,match d with
  | .set x t=>x∈pool/\t.ok pool 5
  | .ite t b c=>t.ok pool 5/\okW n b/\okW n c
  | .whl t m b=>t.ok pool 5/\okW n b
abbrev q4l(n:Nat)(d:D):Prop:=match d with
 | .set x t=>x∈pool/\t.ok pool 5
 | .ite t b c=>t.ok pool 5/\okW n b/\okW n c
 | .whl t m b=>t.ok pool 5/\okW n b
theorem zey:∀{n:Nat} {b:List D},okB n b->okW n b
 | 0,_,h=>h.elim
 | n+1,b,h=>⟨y0b h.1 (by decide),fun d hd=>by
  have:=h.2 d hd
  cases d with
  | set x t=>exact this
  | ite t b c=>exact⟨this.1,zey this.2.1,zey this.2.2⟩
  | whl t m b=>exact⟨this.1,zey this.2.2.2⟩⟩
theorem zex:∀{n:Nat} {b:List D},okW n b->okW (n+1) b
 | 0,_,h=>h.elim
 | n+1,b,h=>⟨h.1,fun d hd=>by
  have:=h.2 d hd
  cases d with
  | set x t=>exact this
  | ite t b c=>exact⟨this.1,zex this.2.1,zex this.2.2⟩
  | whl t m b=>exact⟨this.1,zex this.2⟩⟩
def D.kind:D->Str
 | .set _ _=>"set"
 | .ite _ _ _=>"if"
 | .whl _ _ _=>"while"
end
section
variable{P:yf}{w:yr}{K:y3}{mg:Str->Option y4}{base:Heap}{f:Addr}{fd:yq}
def Fine(n:Nat)(d:Dm):Prop:=d.shut=true/\d.dat.canLay0=true/\d.dat.depth<=n
theorem Fine.mono{n m:Nat}{d:Dm}(h:Fine n d)(k:n<=m):Fine m d:=⟨h.1,h.2.1,y0b h.2.2 k⟩
theorem zxo{n:Nat}:∀{ds:List Dm},(∀d∈ds,Fine n d)->zff ds=true/\PyData.canLayAll0 (zcj ds)=true/\PyData.depthAll (zcj ds)<=n
 | [],_=>⟨by simp[zff],by simp[zcj,PyData.canLayAll0],by simp[zcj,PyData.depthAll]⟩
 | d::ds,h=>by
  obtain⟨a,b,c⟩:=zxo (ds:=ds) fun e he=>h e (.tail _ he)
  obtain⟨x,y,z⟩:=h d (.head _)
  refine⟨by simp[zff,x,a],by simp[zcj,PyData.canLayAll0,y,b],?_⟩
  simp only[zcj,PyData.depthAll]
  omega
theorem z2n{n:Nat}{ds:List Dm}(h:∀d∈ds,Fine n d):Fine (n+1) (.tup ds):=by
 obtain⟨a,b,c⟩:=zxo h
 exact⟨by simpa [Dm.shut] using a,by simpa [Dm.dat,PyData.canLay0] using b,by simp only[Dm.dat,PyData.depth]; omega⟩
theorem zbc(n:Nat)(i:Int):Fine n (.int i):=⟨by simp[Dm.shut],by simp[Dm.dat,PyData.canLay0],by simp[Dm.dat,PyData.depth]⟩
theorem z5s(n:Nat){x:Str}(h:PyData.strOk x=true):Fine n (.str x):=⟨by simpa [Dm.shut] using h,by simpa [Dm.dat,PyData.canLay0] using h,by simp[Dm.dat,PyData.depth]⟩
theorem Fine.eq{n:Nat}{d:Dm}(h:Fine n d)(k:n<=64):d.shut=true/\SeqAt.shaped d.dat=true:=⟨h.1,by
 unfold SeqAt.shaped
 rw [h.2.1,y1c,decide_eq_true_eq]
 exact y0b h.2.2 k⟩
theorem zob:∀x∈pool,PyData.strOk x=true:=by
 intro x hx
 simp only[pool,yz,yt,or_false] at hx
 rcases hx with rfl | rfl | rfl | rfl<;>decide+kernel
theorem q48(w:Wd):PyData.strOk w.str=true:=by cases w<;>decide+kernel
theorem zml:∀{n:Nat} {t:T},T.ok pool n t->Fine n t.enc
 | 0,_,h=>h.elim
 | n+1,.num i,_=>by
  rw [T.enc]
  refine z2n fun d hd=>?_
  simp only[yz,yt,or_false] at hd
  rcases hd with rfl | rfl
  ·exact z5s _ (by decide+kernel)
  ·exact zbc _ _
 | n+1,.nm x,h=>by
  rw [T.enc]
  refine z2n fun d hd=>?_
  simp only[yz,yt,or_false] at hd
  rcases hd with rfl | rfl
  ·exact z5s _ (by decide+kernel)
  ·exact z5s _ (zob x h)
 | n+1,.op w a b,h=>by
  rw [T.enc]
  refine z2n fun d hd=>?_
  simp only[yz,yt,or_false] at hd
  rcases hd with rfl | rfl | rfl
  ·exact z5s _ (q48 w)
  ·exact zml h.1
  ·exact zml h.2
theorem z4k(p:List Int):Fine 1 (pathD p):=z2n fun d hd=>by
 obtain⟨i,_,rfl⟩:=List.mem_map.mp hd
 exact zbc _ _
theorem zkp{d:PyData}(h:d.canLay0=true):PyData.eqv d d=true:=SeqAt.eqv_refl d h
theorem zka:∀(l m:List Str),l.Nodup->(∀x∈l,x∈m)->l.length<=m.length
 | [],m,_,_=>by simp
 | x::l,m,h,hs=>by
  rw [List.nodup_cons] at h
  have hx:=hs x (.head _)
  have ih:=zka l (m.erase x) h.2 fun y hy=>by
   have hne:y≠x:=fun e=>h.1 (e ▸ hy)
   exact(List.mem_erase_of_ne hne).mpr (hs y (.tail _ hy))
  have e:=List.length_erase_of_mem hx
  have hp:=List.length_pos_of_mem hx
  rw [yh]
  omega
end
section
variable{P:yf}{w:yr}{K:y3}{mg:Str->Option y4}{base:Heap}{f:Addr}{fd:yq}
theorem zen(l:List (List Int)):zff (l.map pathD)=true/\SeqAt.shaped (.list (zcj (l.map pathD)))=true/\PyData.canLay0 (.list (zcj (l.map pathD)))=true:=by
 obtain⟨a,b,c⟩:=zxo (ds:=l.map pathD) (n:=1) fun d hd=>by
  obtain⟨p,_,rfl⟩:=List.mem_map.mp hd
  exact z4k p
 have h:PyData.canLay0 (.list (zcj (l.map pathD)))=true:=by simpa [PyData.canLay0] using b
 refine⟨a,?_,h⟩
 unfold SeqAt.shaped
 rw [h,y1c,decide_eq_true_eq]
 simp only[PyData.depth]
 omega
end
section
variable{P:yf}{w:yr}{K:y3}{mg:Str->Option y4}{base:Heap}{f:Addr}{fd:yq}
theorem zle{n:Nat}{b:List D}{p:List Int}{k:Int}(h:okB n b)(hn:n<=3):(z58 (z1l p k b)).length<=942 * 64:=by
 have h1:=ze3 (z1l p k b) fun r hr=>(zeq n b p k h r hr).2
 have h2:=z8h n b p k h
 have h3:=zqx hn
 have h4:(z1l p k b).length * 64<=942 * 64:=y0t _ (by omega)
 omega
end
section
variable{P:yf}{w:yr}{K:y3}{mg:Str->Option y4}{base:Heap}{f:Addr}{fd:yq}
def T.word:T->Str
 | .num _=>"num"
 | .nm _=>"name"
 | .op w _ _=>w.str
def ten:List Str:=["num","name","add","sub","mul","quo","less","same","min","max"]
abbrev Cnt:=List (Str×Int)
def kvC(c:Cnt):List (Key×V):=c.map fun p=>((Sum.inr p.1:Key),V.int p.2)
def zf1(c:Cnt)(x:Str):Option Int:=(c.find? fun p=>decide (p.1=x)).map (·.2)
def zjx(c:Cnt)(x:Str)(i:Int):Cnt:=if(c.any fun p=>decide (p.1=x))=true then c.map (fun p=>if p.1=x then(p.1,i) else p) else c++[(x,i)]
def q3v(c:Cnt)(x:Str):Cnt:=zjx c x ((zf1 c x).getD 0+1)
theorem inr_eq{x y:Str}:((Sum.inr x:Key)=Sum.inr y)↔x=y:=⟨fun h=>by injection h,fun h=>by rw [h]⟩
theorem zxz(x:Str):∀c:Cnt,zcr (kvC c) (Sum.inr x)=(zf1 c x).map V.int
 | []=>rfl
 | p::c=>by
  have ih:=zxz x c
  unfold zcr kvC zf1 at ih |-
  rw [yn,y0g,y0g]
  by_cases e:p.1=x
  ·simp[e]
  ·have e':¬ (Sum.inr p.1:Key)=Sum.inr x:=fun z=>e (inr_eq.mp z)
   simp only[e,e',decide_false]
   exact ih
theorem q3t(x:Str)(c:Cnt):((kvC c).any fun kv=>decide (kv.1=Sum.inr x))=c.any fun p=>decide (p.1=x):=by
 unfold kvC
 rw [List.any_map]
 congr 1
 funext p
 show decide ((Sum.inr p.1:Key)=Sum.inr x)=decide (p.1=x)
 by_cases e:p.1=x
 ·rw [decide_eq_true e,decide_eq_true (inr_eq.mpr e)]
 ·rw [decide_eq_false e,decide_eq_false fun z=>e (inr_eq.mp z)]
theorem zyj(x:Str)(i:Int)(c:Cnt):zgw (kvC c) (Sum.inr x) (V.int i)=kvC (zjx c x i):=by
 unfold zgw zjx
 rw [q3t]
 split
 ·unfold kvC
  rw [y10,y10]
  refine List.map_congr_left fun p _=>?_
  show(if(Sum.inr p.1:Key)=Sum.inr x then _ else _)=_
  by_cases e:p.1=x
  ·simp[e]
  ·simp[e]
 ·simp[kvC]
def sumC(c:Cnt):Int:=(c.map (·.2)).sum
theorem zfz(c:Cnt)(x:Str)(i:Int):(zjx c x i).map (·.1)=if x∈c.map (·.1) then c.map (·.1) else c.map (·.1)++[x]:=by
 unfold zjx
 have hany:(c.any fun p=>decide (p.1=x))=true↔x∈c.map (·.1):=by
  rw [List.any_eq_true,List.mem_map]
  constructor
  ·rintro⟨p,hp,e⟩; exact⟨p,hp,of_decide_eq_true e⟩
  ·rintro⟨p,hp,e⟩; exact⟨p,hp,decide_eq_true e⟩
 by_cases h:x∈c.map (·.1)
 ·rw [if_pos (hany.mpr h),if_pos h,y10]
  refine List.map_congr_left fun p _=>?_
  show(if p.1=x then(p.1,i) else p).1=p.1
  split<;>rfl
 ·rw [if_neg fun z=>h (hany.mp z),if_neg h,y03]
  rfl
theorem zzl(i:Int)(x:Str):∀c:Cnt,(c.map (·.1)).Nodup->sumC (zjx c x i)=sumC c - (zf1 c x).getD 0+i:=by
 have upd_:∀c:Cnt,(c.map (·.1)).Nodup->(∀v,zf1 c x=some v->sumC (c.map fun p=>if p.1=x then(p.1,i) else p)=sumC c - v+i)/\(zf1 c x=none->(c.map fun p=>if p.1=x then(p.1,i) else p)=c/\(c.any fun p=>decide (p.1=x))=false)/\(∀v,zf1 c x=some v->(c.any fun p=>decide (p.1=x))=true):=by
  intro c
  induction c with
  | nil=>intro _; exact⟨fun v h=>(by cases h),fun _=>⟨rfl,rfl⟩,fun v h=>(by cases h)⟩
  | cons p c ih=>
   intro hn
   rw [yn,List.nodup_cons] at hn
   obtain⟨i1,i2,i3⟩:=ih hn.2
   by_cases e:p.1=x
   ·have hno:zf1 c x=none:=by
     unfold zf1
     cases hf:c.find? fun p=>decide (p.1=x) with
     | none=>rfl
     | some q=>
      have h1:=List.mem_of_find?_eq_some hf
      have h2:=of_decide_eq_true (List.find?_some (p:=fun p:Str×Int=>decide (p.1=x)) hf)
      exact absurd (List.mem_map.mpr ⟨q,h1,h2.trans e.symm⟩) hn.1
    have hg:zf1 (p::c) x=some p.2:=by unfold zf1; rw [y0g]; simp[e]
    refine⟨fun v h=>?_,fun h=>(by rw [hg] at h; cases h),fun v h=>(by simp[e])⟩
    rw [hg] at h
    have:p.2=v:=y04 h
    subst this
    rw [yn,if_pos e,(i2 hno).1]
    simp[sumC]
    omega
   ·have hg:zf1 (p::c) x=zf1 c x:=by unfold zf1; rw [y0g]; simp[e]
    rw [hg]
    refine⟨fun v h=>?_,fun h=>?_,fun v h=>?_⟩
    ·have:=i1 v h
     rw [yn,if_neg e]
     simp only[sumC,yn,List.sum_cons] at this |-
     omega
    ·obtain⟨j1,j2⟩:=i2 h
     exact⟨by rw [yn,if_neg e,j1],by rw [y16,j2]; simp[e]⟩
    ·rw [y16,i3 v h]; simp
 intro c hn
 obtain⟨h1,h2,h3⟩:=upd_ c hn
 unfold zjx
 cases hg:zf1 c x with
 | none=>
  rw [if_neg (by rw [(h2 hg).2]; decide)]
  simp[sumC]
 | some v=>
  rw [if_pos (h3 v hg),h1 v hg]
  rfl
structure CntOk(c:Cnt)(n:Nat):Prop where
 nd:(c.map (·.1)).Nodup
 sub:∀p∈c,p.1∈ten
 tot:sumC c=n
theorem CntOk.nil:CntOk [] 0:=⟨.nil,fun p h=>by simp at h,rfl⟩
theorem CntOk.add{c:Cnt}{n:Nat}(h:CntOk c n){x:Str}(hx:x∈ten):CntOk (q3v c x) (n+1):=by
 refine⟨?_,fun p hp=>?_,?_⟩
 ·unfold q3v
  rw [zfz]
  split
  ·exact h.nd
  ·rename_i hn
   exact List.nodup_append.mpr ⟨h.nd,by simp,fun a ha b hb e=>hn (by rw [y0u] at hb; rw [<- hb,<- e]; exact ha)⟩
 ·have hm:p.1∈(q3v c x).map (·.1):=List.mem_map.mpr ⟨p,hp,rfl⟩
  unfold q3v at hm
  rw [zfz] at hm
  split at hm
  ·obtain⟨q,hq,e⟩:=List.mem_map.mp hm
   rw [<- e]; exact h.sub q hq
  ·rcases List.mem_append.mp hm with hm | hm
   ·obtain⟨q,hq,e⟩:=List.mem_map.mp hm
    rw [<- e]; exact h.sub q hq
   ·rw [y0u] at hm
    rw [hm]; exact hx
 ·unfold q3v
  rw [zzl _ _ _ h.nd,h.tot]
  omega
theorem CntOk.len{c:Cnt}{n:Nat}(h:CntOk c n):c.length<=10:=by
 have:=zka (c.map (·.1)) ten h.nd fun x hx=>by
  obtain⟨q,hq,e⟩:=List.mem_map.mp hx
  rw [<- e]; exact h.sub q hq
 rw [y8] at this
 exact this
theorem zwa{H:Hp}{v:V}{t:T}(h:Dt H v t.enc):∃a y xs,v=.ref a/\H a=some (.tup (.str t.word::y::xs)):=by
 cases t with
 | num i=>
  rw [T.enc] at h
  obtain⟨a,x0,x1,rfl,ha,t0,t1⟩:=zie h
  cases t0
  exact⟨_,_,_,rfl,ha⟩
 | nm x=>
  rw [T.enc] at h
  obtain⟨a,x0,x1,rfl,ha,t0,t1⟩:=zie h
  cases t0
  exact⟨_,_,_,rfl,ha⟩
 | op w a b=>
  rw [T.enc] at h
  obtain⟨a,x0,x1,x2,rfl,ha,t0,t1,t2⟩:=zw2 h
  cases t0
  exact⟨_,_,_,rfl,ha⟩
theorem zv9{H:Hp}{v:V}{d:D}(h:Dt H v d.enc):∃a xs,v=.ref a/\H a=some (.tup (.str d.kind::xs)):=by
 cases d with
 | set x t=>
  rw [D.enc] at h
  obtain⟨a,x0,x1,x2,rfl,ha,t0,t1,t2⟩:=zw2 h
  cases t0
  exact⟨_,_,rfl,ha⟩
 | ite t b c=>
  rw [D.enc] at h
  obtain⟨a,x0,x1,x2,x3,rfl,ha,t0,t1,t2,t3⟩:=zy0 h
  cases t0
  exact⟨_,_,rfl,ha⟩
 | whl t m b=>
  rw [D.enc] at h
  obtain⟨a,x0,x1,x2,x3,rfl,ha,t0,t1,t2,t3⟩:=zy0 h
  cases t0
  exact⟨_,_,rfl,ha⟩
theorem z1c{x:V}{xs:List V}:atI (x::xs) 0=some x:=z1b (j:=0) rfl
theorem q0h{H:Hp}{p:Addr}{c e:List (Key×V)}(h:H p=some (.dK c)):Kp H (upd H p (.dK e)):=
 ⟨fun b zs q=>by rw [z09 (z4y q h (by intro z; cases z))]; exact q,fun b zs q=>⟨zs,by rw [z09 (z4y q h (by intro z; cases z))]; exact q⟩⟩
end
section
variable{P:yf}{w:yr}{K:y3}{mg:Str->Option y4}{base:Heap}{f:Addr}{fd:yq}
end
section
variable{P:yf}{w:yr}{K:y3}{mg:Str->Option y4}{base:Heap}{f:Addr}{fd:yq}
theorem q5c{K:y3}{H:Hp}{Q:VK}{x y:V}{ds es:List Dm}(dx:Dt H x (.tup ds))(dy:Dt H y (.tup es))(hz:ds.length+es.length<=1000)(h:∀z H',Same H H'->Dt H' z (.tup (ds++es))->Q z H'):zpw K x y H Q:=by
 obtain⟨a,xs,rfl,ha,da⟩:=dx.tupI
 obtain⟨b,ys,rfl,hb,db⟩:=dy.tupI
 have la:=da.length
 have lb:=db.length
 refine⟨a,b,_,_,rfl,rfl,SqT.of ha,SqT.of hb,?_,fun e=>?_,fun _ e=>?_,fun _ _ r hr=>?_⟩
 ·exact y18 (z2g (by omega))
 ·subst e
  have:ds=[]:=List.length_eq_zero_iff.mp la.symm
  subst this
  exact h _ _ (Same.refl _) dy
 ·subst e
  have:es=[]:=List.length_eq_zero_iff.mp lb.symm
  subst this
  rw [y06] at h
  exact h _ _ (Same.refl _) dx
 ·have s:=z01 hr (HO.tup (xs++ys))
  exact h _ _ s (.tup z00 ((da.kp s.kp).append (db.kp s.kp)))
theorem zg4:∀(p q:List Int),PyData.eqvAll (zcj (p.map Dm.int)) (zcj (q.map Dm.int))=decide (p=q)
 | [],[]=>by simp[zcj,PyData.eqvAll]
 | [],_::_=>by simp[zcj,PyData.eqvAll]
 | _::_,[]=>by simp[zcj,PyData.eqvAll]
 | a::p,b::q=>by
  simp only[yn,zcj,PyData.eqvAll,zg4 p q,Dm.dat,PyData.eqv]
  by_cases e:a=b
  ·subst e; simp
  ·simp[e]
end
section
variable{P:yf}{w:yr}{K:y3}{mg:Str->Option y4}{base:Heap}{f:Addr}{fd:yq}
mutual
theorem q37:∀(n:Nat) (d:D),q4l n d->Fine (5+2 * n+2) d.enc
 | n,.set x t,h=>by
  rw [D.enc]
  refine(z2n (n:=5) fun e he=>?_).mono (by omega)
  simp only[yz,yt,or_false] at he
  rcases he with rfl | rfl | rfl
  ·exact z5s _ (by decide+kernel)
  ·exact z5s _ (zob x h.1)
  ·exact zml h.2
 | n,.ite t b c,h=>by
  rw [D.enc]
  refine(z2n (n:=5+2 * n+1) fun e he=>?_).mono (by omega)
  simp only[yz,yt,or_false] at he
  rcases he with rfl | rfl | rfl | rfl
  ·exact z5s _ (by decide+kernel)
  ·exact(zml h.1).mono (by omega)
  ·exact z2n (zmm n b h.2.1)
  ·exact z2n (zmm n c h.2.2)
 | n,.whl t m b,h=>by
  rw [D.enc]
  refine(z2n (n:=5+2 * n+1) fun e he=>?_).mono (by omega)
  simp only[yz,yt,or_false] at he
  rcases he with rfl | rfl | rfl | rfl
  ·exact z5s _ (by decide+kernel)
  ·exact(zml h.1).mono (by omega)
  ·exact zbc _ _
  ·exact z2n (zmm n b h.2)
theorem zmm:∀(n:Nat) (b:List D),okW n b->∀e∈encB b,Fine (5+2 * n) e
 | 0,_,h=>h.elim
 | n+1,[],h=>fun e he=>by simp[encB] at he
 | n+1,d::b,h=>fun e he=>by
  rw [encB] at he
  rcases List.mem_cons.mp he with he | he
  ·rw [he]
   exact(q37 n d (h.2 d (.head _))).mono (by omega)
  ·exact zmm (n+1) b ⟨by have:=h.1; rw [yh] at this; omega,fun d hd=>h.2 d (.tail _ hd)⟩ e he
end
theorem zxn{r:Rw}(h:PyData.strOk r.1=true):Fine 1 (rowEnc r):=by
 refine z2n fun d hd=>?_
 simp only[yz,yt,or_false] at hd
 rcases hd with rfl | rfl | rfl
 ·exact z5s _ h
 ·exact zbc _ _
 ·exact zbc _ _
theorem zuw{rows:List Rw}{b:List D}(hr:okRows rows)(h:okW 4 b):Fine 20 (.tup [.tup (rows.map rowEnc),.tup (encB b)]):=by
 refine(z2n (n:=15) fun d hd=>?_).mono (by decide)
 simp only[yz,yt,or_false] at hd
 rcases hd with rfl | rfl
 ·refine(z2n (n:=1) fun d hd=>?_).mono (by decide)
  obtain⟨r,hr',rfl⟩:=List.mem_map.mp hd
  refine zxn (zob _ ?_)
  have h1:r.1∈rows.map (·.1):=List.mem_map.mpr ⟨r,hr',rfl⟩
  rw [hr.nm] at h1
  have h2:=y1k h1
  simp only[pair,yz,yt,or_false] at h2
  rcases h2 with h2 | h2<;>rw [h2]<;>decide+kernel
 ·exact(z2n (zmm 4 b h)).mono (by decide)
end
section
variable{P:yf}{w:yr}{K:y3}{mg:Str->Option y4}{base:Heap}{f:Addr}{fd:yq}
abbrev RI:=List Int×Int
inductive Rs where
 | had (i:Int)
 | ref (w:Str) (p:List Int)
def Rs.enc:Rs->Dm
 | .had i=>.tup [.str "had",.int i]
 | .ref w p=>.tup [.str "refused",.str w,pathD p]
def rowI(r:RI):Dm:=.tup [pathD r.1,.int r.2]
def zr9(i:Int)(p:List Int):Rs:=if i < -32768 then .ref "over" p else if i > 32767 then .ref "over" p else .had i
def SameB(l:Addr)(H H':Hp):Prop:=∀a o,a≠l->H a=some o->H' a=some o
theorem SameB.of{l:Addr}{H H':Hp}(h:Same H H'):SameB l H H':=fun a o _ e=>h a o e
theorem SameB.trans{l:Addr}{H H1 H2:Hp}(a:SameB l H H1)(b:SameB l H1 H2):SameB l H H2:=fun x o n e=>b x o n (a x o n e)
theorem SameB.kp{l:Addr}{H H':Hp}{xs ys:List V}(h:SameB l H H')(hl:H l=some (.lst xs))(hl':H' l=some (.lst ys)):Kp H H':=
 ⟨fun b zs q=>h b _ (fun z=>by rw [z,hl] at q; cases q) q,fun b zs q=>by
  by_cases hb:b=l
  ·subst hb; exact⟨ys,hl'⟩
  ·exact⟨zs,h b _ hb q⟩⟩
def z6f:Sp:=fun vs H Q _=>∃(wv pv:V) (p:List Int) (l:Addr) (xs:List V),vs=[wv,pv,.ref l]/\Dt H pv (pathD p)/\H l=some (.lst xs)/\xs.length < sizeLine/\
 ((wv=.non/\∀r H',Same H H'->Dt H' r (Rs.ref "zero" p).enc->Q r H')\/∃i,wv=.int i/\∀(r y:V) (H':Hp),SameB l H H'->H' l=some (.lst (xs++[y]))->Dt H' y (rowI (p,i))->Dt H' r (zr9 i p).enc->Q r H')
end
section
variable{P:yf}{w:yr}{K:y3}{mg:Str->Option y4}{base:Heap}{f:Addr}{fd:yq}
theorem zrl(F:Fun K "settled" "settled" z6g f fd) {ai:Addr} (g_WIDE:GC mg "WIDE" (.ref ai)) (hI:∀H,SqT K H ai [.int (-32768),.int 32767]):FnOk P w K mg base CX0 1 f fd ["worth","path","rows"] z6f:=by
 refine F.ok zrc (fun vs H Q E h=>?_) (fun cdv A outer s H vs Q E hr h=>?_)
 ·obtain⟨wv,pv,p,l,xs,rfl,_⟩:=h
  rfl
 obtain⟨wv,pv,p,l,xs,rfl,hp,hl,hx,h⟩:=h
 refine⟨_,(z04 (z1x (z0b q5w (z06 0 rfl z35) zew (z0g _)) (z07 (z0f (z12 (z08 z0i (z08 z0i (z08 (z06 1 rfl z5y) z02)))))) z0k)
 (z04 (z77 (zgy y0d y1f y1e z82 (z06 2 rfl zg7) (z08 (z12 (z08 (z06 1 rfl z5y) (z08 (z06 0 rfl z35) z02))) z02)) (z05 rfl))
 (z04 (z1x (PW.pt (zgv (z0b zof (z06 0 rfl z35) (z0u z0o (q2b g_WIDE zar zvh) z03 (fun _ _=>rfl)) (z0g _)) (zd1 (z0b q2i (z06 0 rfl z35) (z0u z0o (q2b g_WIDE zar zvh) z03 (fun _ _=>rfl)) (z0g _))))) (z07 (z0f (z12 (z08 z0i (z08 z0i (z08 (z06 1 rfl z5y) z02)))))) z0k)
 (z07 (z0f (z12 (z08 z0i (z08 (z06 0 rfl z35) z02)))))))),z0e fun N1 e1=>?_⟩
 walk_at "rd7"
 rcases h with⟨rfl,q⟩ | ⟨i,rfl,q⟩
 ·rw [if_pos rfl]
  refine⟨by decide,fun r hr'=>?_⟩
  have s1:=z01 hr' (HO.tup [V.str "refused",V.str "zero",pv])
  exact q _ _ s1 (.tup z00 (.cons (.str _) (.cons (.str _) (.cons (hp.kp s1.kp) .nil))))
 ·rw [if_neg (by intro z; cases z),e1]
  refine z0e fun N2 e2=>?_
  walk_at "rd7"
  refine⟨.inl ⟨rfl,_,SqL.of hl⟩,by decide,fun y hy=>?_⟩
  have s1:=z01 hy (HO.tup [pv,V.int i])
  have hly:=s1 _ _ hl
  refine⟨xs,hly,hx,?_⟩
  have nyl:y≠l:=fun z=>by rw [z,hl] at hy; cases hy
  have k2:Kp (upd H y (HO.tup [pv,V.int i])) (upd (upd H y (HO.tup [pv,V.int i])) l (HO.lst (xs++[V.ref y]))):=Kp.set hly
  have sB:SameB l H (upd (upd H y (HO.tup [pv,V.int i])) l (HO.lst (xs++[V.ref y]))):=fun a o n e=>by rw [z09 n]; exact s1 _ _ e
  have hU:(upd (upd H y (HO.tup [pv,V.int i])) l (HO.lst (xs++[V.ref y]))) l=some (.lst (xs++[V.ref y])):=z00
  have dy:Dt (upd (upd H y (HO.tup [pv,V.int i])) l (HO.lst (xs++[V.ref y]))) (.ref y) (rowI (p,i)):=.tup (by rw [z09 nyl]; exact z00) (.cons (hp.kp (s1.kp.trans k2)) (.cons (.int _) .nil))
  have dp:=hp.kp (s1.kp.trans k2)
  generalize upd (upd H y (HO.tup [pv,V.int i])) l (HO.lst (xs++[V.ref y]))=U at k2 sB hU dy dp |-
  rw [e2]
  walk_at "rd7"
  have fin:∀(r:Addr) (o:List V),U r=none->Dt (upd U r (HO.tup o)) (.ref r) (zr9 i p).enc->Q (.ref r) (upd U r (HO.tup o)):=fun r o h1 h2=>by
   have s3:=z01 h1 (HO.tup o)
   exact q _ _ _ (sB.trans (SameB.of s3)) (s3 _ _ hU) (dy.kp s3.kp) h2
  refine⟨_,hI U,_,z1b (j:=0) rfl,_,rfl,?_⟩
  split
  ·rename_i hlt
   refine⟨by decide,fun r hr'=>fin r _ hr' ?_⟩
   rw [zr9,if_pos hlt]
   exact .tup z00 (.cons (.str _) (.cons (.str _) (.cons (dp.kp (z01 hr' _).kp) .nil)))
  ·rename_i hlt
   refine⟨_,hI U,_,z1b (j:=1) rfl,_,rfl,?_⟩
   split
   ·rename_i hgt
    refine⟨by decide,fun r hr'=>fin r _ hr' ?_⟩
    rw [zr9,if_neg hlt,if_pos hgt]
    exact .tup z00 (.cons (.str _) (.cons (.str _) (.cons (dp.kp (z01 hr' _).kp) .nil)))
   ·rename_i hgt
    refine⟨by decide,fun r hr'=>fin r _ hr' ?_⟩
    rw [zr9,if_neg hlt,if_neg hgt]
    exact .tup z00 (.cons (.str _) (.cons (.int _) .nil))
end
section
variable{P:yf}{w:yr}{K:y3}{mg:Str->Option y4}{base:Heap}{f:Addr}{fd:yq}
def q59(st:Stmt):Expr:=match defBody st with
 | [.Return (some (.Call _ [_,_,e] _ _)) _]=>e
 | [_,.Expr (.Call _ [_,_,e] _ _) _,_]=>e
 | _=>.Name "" ⟨0,0,0,0⟩
def q5n(q:Str)(e:Expr):LamD:=match e with
 | .Lambda ps b sc _=>⟨q,ps,b,sc⟩
 | _=>⟨q,{posonlyargs:=[],args:=[],vararg:=none,kwonlyargs:=[],kw_defaults:=[],kwarg:=none,defaults:=[]},.Name "" ⟨0,0,0,0⟩,{kind:=.function,names:=[],isGenerator:=false,isCoroutine:=false}⟩
def q2u(e:Expr):Pos:=match e with
 | .Lambda _ _ _ p=>p
 | _=>⟨0,0,0,0⟩
abbrev dT:LamD:=q5n ("traced" ++ ".<locals>." ++ "<lambda>") (q59 z2h)
theorem q5k:∀y∈dT.scope.names,y.2=.free->y.1 = "rows":=by decide+kernel
theorem q5l(c:Addr):LamScope ["worth","path"] ["rows"] [("rows",c)] dT.scope:=by
 refine⟨rfl,rfl,rfl,by decide+kernel,by decide+kernel,by decide+kernel,by decide+kernel,fun y hy e=>⟨c,?_⟩,fun x y c' h1 h2=>?_,fun x c' h=>?_⟩
 ·rw [q5k y hy e]
  rfl
 ·have key:∀z:Str,([("rows",c)]:List (Str×Addr)).lookup z=some c'->z = "rows":=fun z h=>by
   by_cases e:z = "rows"
   ·exact e
   ·have:(z == ("rows" : Str))=false:=by simpa using e
    rw [List.lookup,this] at h
    cases h
  rw [key x h1,key y h2]
 ·rw [y0u] at h
  cases h
  rfl
def SetOk(f:Addr)(lo:Option Addr)(H:Hp):Prop:=match lo with
 | none=>False
 | some l=>∃c' c o,H f=some (zq8 dT [("rows",c)] f c')/\H c'=some (zb6 c' dT.qual)/\H c=some (z3x c o)/\o.data=.cell (some (.ref l))
theorem SetOk.lam{f:Addr}{lo:Option Addr}{H:Hp}(h:SetOk f lo H):IsLam H f:=by
 cases lo with
 | none=>exact h.elim
 | some l=>obtain⟨c',c,o,e,_⟩:=h; exact⟨_,_,_,e⟩
def KpE(H H':Hp):Prop:=∀a φ,H a=some (.ext φ)->H' a=some (.ext φ)
theorem KpE.refl(H:Hp):KpE H H:=fun _ _ h=>h
theorem KpE.trans{H H1 H2:Hp}(a:KpE H H1)(b:KpE H1 H2):KpE H H2:=fun x φ h=>b x φ (a x φ h)
theorem Same.kpE{H H':Hp}(s:Same H H'):KpE H H':=fun a φ h=>s _ _ h
theorem KpE.set{H:Hp}{p:Addr}{o u:HO}(h:H p=some o)(n:∀ φ,o≠.ext φ):KpE H (upd H p u):=fun a φ e=>by
 rw [z09 (z4y e h fun z=>n φ z.symm)]
 exact e
theorem SetOk.kp{f:Addr}{lo:Option Addr}{H H':Hp}(h:SetOk f lo H)(k:KpE H H'):SetOk f lo H':=by
 cases lo with
 | none=>exact h.elim
 | some l=>obtain⟨c',c,o,e,e2,e3,e4⟩:=h; exact⟨c',c,o,k _ _ e,k _ _ e2,k _ _ e3,e4⟩
end
section
variable{P:yf}{w:yr}{K:y3}{mg:Str->Option y4}{base:Heap}{f:Addr}{fd:yq}
def Gr(lo:Option Addr)(H H':Hp)(rs:List RI):Prop:=(∀a o,some a≠lo->H a=some o->H' a=some o)/\∀l,lo=some l->∃xs ys,H l=some (.lst xs)/\H' l=some (.lst (xs++ys))/\DtA H' ys (rs.map rowI)
def HasL(lo:Option Addr)(H:Hp)(n:Nat):Prop:=∀l,lo=some l->∃xs,H l=some (.lst xs)/\xs.length+n < sizeLine
theorem Gr.kp{lo:Option Addr}{H H':Hp}{rs:List RI}(h:Gr lo H H' rs):Kp H H':=by
 cases lo with
 | none=>exact⟨fun b xs e=>h.1 b _ (by simp) e,fun b xs e=>⟨xs,h.1 b _ (by simp) e⟩⟩
 | some l=>
  obtain⟨xs,ys,e1,e2,_⟩:=h.2 l rfl
  exact SameB.kp (fun a o n e=>h.1 a o (by simpa using n) e) e1 e2
theorem Gr.kpE{lo:Option Addr}{H H':Hp}{rs:List RI}(h:Gr lo H H' rs):KpE H H':=fun a φ e=>by
 refine h.1 a _ (fun z=>?_) e
 obtain⟨xs,ys,e1,_⟩:=h.2 a z.symm
 rw [e1] at e
 cases e
theorem Gr.keep{lo:Option Addr}{H H':Hp}{rs:List RI}(h:Gr lo H H' rs){a:Addr}{o:HO}(e:H a=some o)(n:∀xs,o≠.lst xs):H' a=some o:=h.1 a o (fun z=>by
 obtain⟨xs,ys,e1,_⟩:=h.2 a z.symm
 rw [e1] at e
 cases e
 exact n _ rfl) e
theorem Gr.trans{lo:Option Addr}{H H1 H2:Hp}{r1 r2:List RI}(a:Gr lo H H1 r1)(b:Gr lo H1 H2 r2):Gr lo H H2 (r1++r2):=by
 refine⟨fun x o n e=>b.1 x o n (a.1 x o n e),fun l hl=>?_⟩
 obtain⟨xs,ys,e1,e2,d1⟩:=a.2 l hl
 obtain⟨xs',zs,f1,f2,d2⟩:=b.2 l hl
 rw [e2] at f1
 cases f1
 exact⟨xs,ys++zs,e1,by rw [f2,y0q],by rw [y03]; exact(d1.kp b.kp).append d2⟩
theorem Gr.same{lo:Option Addr}{H H':Hp}{n:Nat}(s:Same H H')(h:HasL lo H n):Gr lo H H' []:=by
 refine⟨fun a o _ e=>s a o e,fun l hl=>?_⟩
 obtain⟨xs,e,_⟩:=h l hl
 exact⟨xs,[],e,by rw [y06]; exact s _ _ e,.nil⟩
theorem HasL.on{lo:Option Addr}{H H':Hp}{rs:List RI}{n m:Nat}(h:HasL lo H n)(g:Gr lo H H' rs)(k:rs.length+m<=n):HasL lo H' m:=fun l hl=>by
 obtain⟨xs,e,z⟩:=h l hl
 obtain⟨xs',ys,e1,e2,d⟩:=g.2 l hl
 rw [e] at e1
 cases e1
 have:=d.length
 rw [y8] at this
 exact⟨_,e2,by rw [yd]; omega⟩
theorem HasL.same{lo:Option Addr}{H H':Hp}{n:Nat}(h:HasL lo H n)(s:Same H H'):HasL lo H' n:=fun l hl=>by
 obtain⟨xs,e,z⟩:=h l hl
 exact⟨xs,s _ _ e,z⟩
theorem HasL.mono{lo:Option Addr}{H:Hp}{n m:Nat}(h:HasL lo H n)(k:m<=n):HasL lo H m:=fun l hl=>by
 obtain⟨xs,e,z⟩:=h l hl
 exact⟨xs,e,by omega⟩
theorem q5v:dT.scope.names.lookup ("settled" : Str)=some NameKind.globalImplicit:=by decide+kernel
theorem q5g:Vis dT.scope "worth":=Or.inl (by decide+kernel)
theorem q5i:Vis dT.scope "path":=Or.inl (by decide+kernel)
theorem q5h:Vis dT.scope "rows":=Or.inr (Or.inr (by decide+kernel))
theorem q3q{us:List y4}(hl:us.length=2):∀fd:yq,fd.params=dT.params->fd.defaults=.none->fd.kwdefaults=.none->fd.scope=dT.scope->bindArgs fd ⟨us,[]⟩=pure ((["worth","path"]:List Str).zip us):=by
 intro fd h1 h2 h3 h4
 obtain⟨name,qual,params,body,scope,globals,closure,defaults,kwdefaults,doc,pm,an,code,ct,bu⟩:=fd
 cases h1
 cases h2
 cases h3
 cases h4
 match us,hl with
 | [_,_],_=>rfl
theorem zs5:DBF "settled":=by decide+kernel
end
section
variable{P:yf}{w:yr}{K:y3}{mg:Str->Option y4}{base:Heap}{f:Addr}{fd:yq}
theorem q2t(c_settled:Callee P w K mg base "settled" ["worth","path","rows"] 1 z6f) {H:Hp} {x pv:V} {p:List Int} {Q:VK} {c' c l:Addr} {o:Obj} (hf:H f=some (zq8 dT [("rows",c)] f c')) (hc:H c'=some (zb6 c' dT.qual)) (hcl:H c=some (z3x c o)) (ho:o.data=.cell (some (.ref l))) (hp:Dt H pv (pathD p))
  (q:z6f [x,pv,.ref l] (zhn [c] H) (fun v H'=>H' c=none->Q v (zb7 [c] H H')) E0):q3z P w K mg base 2 f H [x,pv] Q:=by
 intro A outer s us hr e0 r
 have hl:us.length=2:=r.length.symm
 refine q0g (k:=1) (ps:=["worth","path"]) (fr:=["rows"]) (ws:=[.ref l]) (q5l c) hr e0 hf hc rfl r rfl (fun c2 hc2=>?_) (fun i x v h1 h2=>?_) (q3q hl) fun hr'=>?_
 ·rw [yn,List.map_nil,y0u] at hc2
  subst hc2
  exact⟨o,_,hcl,ho⟩
 ·match i,h1,h2 with
  | 0,h1,h2=>
   cases h1
   cases h2
   exact⟨c,o,_,rfl,hcl,ho,rfl⟩
  | i+1,h1,_=>simp at h1
 refine⟨_,z19 c_settled hr' (by omega) (z08 (z1q (i:=0) rfl q5g zxv zxx) (z08 (z1q (i:=1) rfl q5i zp5 zpe) (z08 (z1q (i:=2) rfl q5h q13 q1a) z02))) q5v zs5,?_⟩
 rw [yn,List.map_nil]
 simp only[y0u,forall_eq]
 walk_at "rd7"
 exact q
theorem zue{H:Hp}{c:Addr}{o:Obj}(hc:H c=some (z3x c o)):Kp H (zhn [c] H):=by
 have out:∀{b:Addr} {u:HO},H b=some u->(∀ φ,u≠.ext φ)->zhn [c] H b=some u:=fun {b u} e n=>by
  rw [z1p fun z=>by
   rw [List.mem_singleton.mp z,hc] at e
   cases e
   exact n _ rfl]
  exact e
 exact⟨fun b xs e=>out e fun φ z=>(by cases z),fun b xs e=>⟨xs,out e fun φ z=>(by cases z)⟩⟩
theorem z8k{H H':Hp}{c:Addr}(hn:H' c=none){b:Addr}{u:HO}(e:H' b=some u):zb7 [c] H H' b=some u:=by
 rw [z4l fun z=>by
  rw [List.mem_singleton.mp z,hn] at e
  cases e]
 exact e
theorem zos{H H':Hp}{c:Addr}(hn:H' c=none):Kp H' (zb7 [c] H H'):=⟨fun b xs e=>z8k hn e,fun b xs e=>⟨xs,z8k hn e⟩⟩
theorem ze8(c_settled:Callee P w K mg base "settled" ["worth","path","rows"] 1 z6f) {H:Hp} {pv:V} {p:List Int} {i:Int} {lo:Option Addr} {Q:VK} (hS:SetOk f lo H) (hL:HasL lo H 1) (hp:Dt H pv (pathD p))
  (q:∀r H',Gr lo H H' [(p,i)]->Dt H' r (zr9 i p).enc->Q r H'):q3z P w K mg base 2 f H [.int i,pv] Q:=by
 cases lo with
 | none=>exact hS.elim
 | some l=>
  obtain⟨c',c,o,hf,hc,hcl,ho⟩:=hS
  obtain⟨xs,hl,hz⟩:=hL l rfl
  have nlc:l≠c:=fun z=>by rw [z,hcl] at hl; unfold z3x at hl; cases hl
  refine q2t c_settled hf hc hcl ho hp ⟨_,pv,p,l,xs,rfl,hp.kp (zue hcl),by rw [z1p (by simpa using nlc)]; exact hl,by omega,.inr ⟨i,rfl,fun r y H' sB hl' dy dr hn=>?_⟩⟩
  refine q r _ ⟨fun a u na e=>?_,fun l2 e2=>?_⟩ (dr.kp (zos hn))
  ·by_cases hac:a=c
   ·subst hac
    rw [zia (by simp)]
    exact e
   ·exact z8k hn (sB a u (fun z=>na (by rw [z])) (by rw [z1p (by simpa using hac)]; exact e))
  ·cases e2
   exact⟨xs,[y],hl,z8k hn hl',.cons (dy.kp (zos hn)) .nil⟩
theorem zny(c_settled:Callee P w K mg base "settled" ["worth","path","rows"] 1 z6f) {H:Hp} {pv:V} {p:List Int} {lo:Option Addr} {Q:VK} (hS:SetOk f lo H) (hL:HasL lo H 1) (hp:Dt H pv (pathD p))
  (q:∀r H',Gr lo H H' []->Dt H' r (Rs.ref "zero" p).enc->Q r H'):q3z P w K mg base 2 f H [.non,pv] Q:=by
 cases lo with
 | none=>exact hS.elim
 | some l=>
  obtain⟨c',c,o,hf,hc,hcl,ho⟩:=hS
  obtain⟨xs,hl,hz⟩:=hL l rfl
  have nlc:l≠c:=fun z=>by rw [z,hcl] at hl; unfold z3x at hl; cases hl
  have hlh:zhn [c] H l=some (.lst xs):=by rw [z1p (by simpa using nlc)]; exact hl
  refine q2t c_settled hf hc hcl ho hp ⟨_,pv,p,l,xs,rfl,hp.kp (zue hcl),hlh,by omega,.inl ⟨rfl,fun r H' s2 dr hn=>?_⟩⟩
  refine q r _ ⟨fun a u na e=>?_,fun l2 e2=>?_⟩ (dr.kp (zos hn))
  ·by_cases hac:a=c
   ·subst hac
    rw [zia (by simp)]
    exact e
   ·exact z8k hn (s2 a u (by rw [z1p (by simpa using hac)]; exact e))
  ·cases e2
   exact⟨xs,[],hl,by rw [y06]; exact z8k hn (s2 _ _ hlh),.nil⟩
end
section
variable{P:yf}{w:yr}{K:y3}{mg:Str->Option y4}{base:Heap}{f:Addr}{fd:yq}
def Wd.worth:Wd->Int->Int->Int
 | .add,a,b=>a+b
 | .sub,a,b=>a - b
 | .mul,a,b=>a * b
 | .quo,a,b=>a.fdiv b
 | .less,a,b=>if a < b then 1 else 0
 | .same,a,b=>if a=b then 1 else 0
 | .min,a,b=>if b < a then b else a
 | .max,a,b=>if b > a then b else a
def evT(c:Cnt):T->List Int->Rs×List RI
 | .num i,p=>(zr9 i p,[(p,i)])
 | .nm x,p=>(zr9 ((zf1 c x).getD 0) p,[(p,(zf1 c x).getD 0)])
 | .op w a b,p=>match evT c a (p++[0]) with
  | (.ref u q,r1)=>(.ref u q,r1)
  | (.had x,r1)=>match evT c b (p++[1]) with
   | (.ref u q,r2)=>(.ref u q,r1++r2)
   | (.had y,r2)=>if w=.quo/\y=0 then(.ref "zero" p,r1++r2) else(zr9 (w.worth x y) p,r1++r2++[(p,w.worth x y)])
abbrev Ref:=Str×List Int
abbrev Out:=Option Ref×Cnt×List RI
def z4i(cond:Cnt->Rs×List RI)(body:Cnt->Out)(p:List Int):Nat->Cnt->Out
 | k,c=>match cond c with
  | (.ref u q,r)=>(some (u,q),c,r)
  | (.had v,r)=>if v=0 then(none,c,r) else match k with
   | 0=>(some ("long",p),c,r)
   | k+1=>match body c with
    | (some e,c1,r1)=>(some e,c1,r++r1)
    | (none,c1,r1)=>match z4i cond body p k c1 with
     | (e,c2,r2)=>(e,c2,r++r1++r2)
mutual
def evD(p:List Int):D->Cnt->Out
 | .set x t,c=>match evT c t (p++[0]) with
  | (.ref u q,r)=>(some (u,q),c,r)
  | (.had v,r)=>(none,zjx c x v,r)
 | .ite t b b2,c=>match evT c t (p++[0]) with
  | (.ref u q,r)=>(some (u,q),c,r)
  | (.had v,r)=>if v≠0 then(match evB (p++[1]) 0 b c with | (e,c1,r1)=>(e,c1,r++r1)) else(match evB (p++[2]) 0 b2 c with | (e,c1,r1)=>(e,c1,r++r1))
 | .whl t m b,c=>z4i (fun c=>evT c t (p++[0])) (fun c=>evB (p++[1]) 0 b c) p m.toNat c
def evB(p:List Int)(k:Int):List D->Cnt->Out
 | [],c=>(none,c,[])
 | d::r,c=>match evD (p++[k]) d c with
  | (some e,c1,w)=>(some e,c1,w)
  | (none,c1,w)=>match evB p (k+1) r c1 with
   | (e,c2,w2)=>(e,c2,w++w2)
end
def T.in(g:List Str):T->Prop
 | .num _=>True
 | .nm x=>x∈g
 | .op _ a b=>a.in g/\b.in g
def Has(c:Cnt)(g:List Str):Prop:=∀x∈g,∃v,zf1 c x=some v/\-32768<=v/\v<=32767
theorem zjo{i v:Int}{p:List Int}(h:zr9 i p=.had v):v=i/\-32768<=i/\i<=32767:=by
 unfold zr9 at h
 split at h
 ·cases h
 ·split at h
  ·cases h
  ·cases h
   omega
theorem zv1{c:Cnt}:∀(t:T) (p:List Int) {v:Int} {r:List RI},evT c t p=(.had v,r)->-32768<=v/\v<=32767
 | .num i,p,v,r,h=>by
  rw [evT] at h
  obtain⟨rfl,h1,h2⟩:=zjo (congrArg Prod.fst h)
  exact⟨h1,h2⟩
 | .nm x,p,v,r,h=>by
  rw [evT] at h
  obtain⟨rfl,h1,h2⟩:=zjo (congrArg Prod.fst h)
  exact⟨h1,h2⟩
 | .op w a b,p,v,r,h=>by
  rw [evT] at h
  split at h
  ·cases h
  ·split at h
   ·cases h
   ·split at h
    ·cases h
    ·obtain⟨rfl,h1,h2⟩:=zjo (congrArg Prod.fst h)
     exact⟨h1,h2⟩
theorem ztr{c:Cnt}{w:Wd}{a b:T}{p:List Int}{u:Str}{q:List Int}{r:List RI}(h:evT c a (p++[0])=(.ref u q,r)):evT c (.op w a b) p=(.ref u q,r):=by rw [evT,h]
theorem zk5{c:Cnt}{w:Wd}{a b:T}{p:List Int}{u:Str}{q:List Int}{x:Int}{r s:List RI}(h:evT c a (p++[0])=(.had x,r))(h2:evT c b (p++[1])=(.ref u q,s)):evT c (.op w a b) p=(.ref u q,r++s):=by rw [evT,h]; simp only[h2]
theorem zk4{c:Cnt}{a b:T}{p:List Int}{x:Int}{r s:List RI}(h:evT c a (p++[0])=(.had x,r))(h2:evT c b (p++[1])=(.had 0,s)):evT c (.op .quo a b) p=(.ref "zero" p,r++s):=by rw [evT,h]; simp[h2]
theorem zq1{c:Cnt}{w:Wd}{a b:T}{p:List Int}{x y:Int}{r s:List RI}(h:evT c a (p++[0])=(.had x,r))(h2:evT c b (p++[1])=(.had y,s))(h3:¬ (w=.quo/\y=0)):evT c (.op w a b) p=(zr9 (w.worth x y) p,r++s++[(p,w.worth x y)]):=by rw [evT,h]; simp only[h2]; rw [if_neg h3]
theorem q00(c:Cnt)(w:Wd)(a b:T)(p:List Int):(evT c a (p++[0])).2.length<=(evT c (.op w a b) p).2.length:=by
 cases h:evT c a (p++[0]) with
 | mk r1 s1=>
  cases r1 with
  | ref u q=>rw [ztr h]; exact yg _
  | had x=>
   cases h2:evT c b (p++[1]) with
   | mk r2 s2=>
    cases r2 with
    | ref u q=>rw [zk5 h h2]; simp
    | had y=>
     by_cases h3:w=.quo/\y=0
     ·obtain⟨rfl,rfl⟩:=h3
      rw [zk4 h h2]; simp
     ·rw [zq1 h h2 h3]; simp only[yd,yh,y1g]; omega
theorem zzz{c:Cnt}{w:Wd}{a b:T}{p:List Int}{x:Int}{r:List RI}(h:evT c a (p++[0])=(.had x,r)):r.length+(evT c b (p++[1])).2.length<=(evT c (.op w a b) p).2.length:=by
 cases h2:evT c b (p++[1]) with
 | mk r2 s2=>
  cases r2 with
  | ref u q=>rw [zk5 h h2]; simp
  | had y=>
   by_cases h3:w=.quo/\y=0
   ·obtain⟨rfl,rfl⟩:=h3
    rw [zk4 h h2]; simp
   ·rw [zq1 h h2 h3]; simp only[yd,yh,y1g]; omega
def z5p(n:Nat):Sp:=fun vs H Q _=>∃(v:V) (t:T) (pv:V) (p:List Int) (d f:Addr) (c:Cnt) (g:List Str) (lo:Option Addr),vs=[v,pv,.ref d,.ref f]/\Dt H v t.enc/\Dt H pv (pathD p)/\t.ok g n/\n<=5/\p.length+n<=100/\H d=some (.dK (kvC c))/\Has c g/\SetOk f lo H/\HasL lo H ((evT c t p).2.length+1)/\
 ∀(r:V) (H':Hp),Gr lo H H' (evT c t p).2->Dt H' r (evT c t p).1.enc->Q r H'
end
section
variable{P:yf}{w:yr}{K:y3}{mg:Str->Option y4}{base:Heap}{f:Addr}{fd:yq}
theorem eqW{H:Hp}(w v:Wd):q40 K (.str w.str) (.str v.str) H (decide (w=v)):=.inl ⟨rfl,by cases w<;>cases v<;>decide+kernel⟩
def znu:Sp:=fun vs H Q _=>∃(w:Wd) (a b:Int),vs=[.str w.str,.int a,.int b]/\(w=.quo->b≠0)/\b.natAbs < 1073741824/\Q (.int (w.worth a b)) H
theorem zoh(F:Fun K "worth_of" "worth_of" z45 f fd) (b_min:mg "min" = none) (b_max:mg "max" = none):FnOk P w K mg base CX0 1 f fd ["word","one","other"] znu:=by
 refine F.ok znz (fun vs H Q E h=>?_) (fun cdv A outer s H vs Q E hr h=>?_)
 ·obtain⟨w,a,b,rfl,_⟩:=h
  rfl
 obtain⟨w,a,b,rfl,hq,hb,q⟩:=h
 refine⟨_,(z04 (z1x (z0b (gEq hr.units) (z06 0 rfl z1z) z0i (z0g _)) (z07 (z0f (z0n z1a (z06 1 rfl z1u) (z06 2 rfl z1e)))) z0k)
 (z04 (z1x (z0b (gEq hr.units) (z06 0 rfl z1z) z0i (z0g _)) (z07 (z0f (z0n z6k (z06 1 rfl z1u) (z06 2 rfl z1e)))) z0k)
 (z04 (z1x (z0b (gEq hr.units) (z06 0 rfl z1z) z0i (z0g _)) (z07 (z0f (z0n zai (z06 1 rfl z1u) (z06 2 rfl z1e)))) z0k)
 (z04 (z1x (z0b (gEq hr.units) (z06 0 rfl z1z) z0i (z0g _)) (z07 (z0f (z0n zwx (z06 1 rfl z1u) (z06 2 rfl z1e)))) z0k)
 (z04 (z1x (z0b (gEq hr.units) (z06 0 rfl z1z) z0i (z0g _)) (z07 (z0f (zk1 (z0b zof (z06 1 rfl z1u) (z06 2 rfl z1e) (z0g _)) z03 z03))) z0k)
 (z04 (z1x (z0b (gEq hr.units) (z06 0 rfl z1z) z0i (z0g _)) (z07 (z0f (zk1 (z0b z80 (z06 1 rfl z1u) (z06 2 rfl z1e) (z0g _)) z03 z03))) z0k)
 (z04 (z1x (z0b (gEq hr.units) (z06 0 rfl z1z) z0i (z0g _)) (z07 (z0f (z4h (zn5 rfl) zho b_min zyy (z08 (z06 1 rfl z1u) (z08 (z06 2 rfl z1e) z02)) zyn zyx))) z0k)
 (z07 (z0f (z4h (zvw rfl) zhp b_max q3n (z08 (z06 1 rfl z1u) (z08 (z06 2 rfl z1e) z02)) q2o q3f)))))))))),?_⟩
 walk_at "rd"
 have hm:CMul a b:=.inr ⟨by omega,by omega⟩
 refine⟨_,eqW w .add,?_⟩
 split
 ·rename_i e; cases of_decide_eq_true e; exact q
 rename_i n1
 refine⟨_,eqW w .sub,?_⟩
 split
 ·rename_i e; cases of_decide_eq_true e; exact q
 rename_i n2
 refine⟨_,eqW w .mul,?_⟩
 split
 ·rename_i e; cases of_decide_eq_true e; exact⟨hm,q⟩
 rename_i n3
 refine⟨_,eqW w .quo,?_⟩
 split
 ·rename_i e; cases of_decide_eq_true e; exact⟨⟨hq rfl,hb⟩,q⟩
 rename_i n4
 refine⟨_,eqW w .less,?_⟩
 split
 ·rename_i e; cases of_decide_eq_true e
  have q:Q (.int (if a < b then 1 else 0)) H:=q
  split
  ·rename_i c; rw [if_pos c] at q; exact q
  ·rename_i c; rw [if_neg c] at q; exact q
 rename_i n5
 refine⟨_,eqW w .same,?_⟩
 split
 ·rename_i e; cases of_decide_eq_true e
  have q:Q (.int (if a=b then 1 else 0)) H:=q
  split
  ·rename_i c; rw [if_pos c] at q; exact q
  ·rename_i c; rw [if_neg c] at q; exact q
 rename_i n6
 refine⟨_,eqW w .min,?_⟩
 split
 ·rename_i e; cases of_decide_eq_true e; exact⟨_,_,⟨rfl,rfl⟩,q⟩
 rename_i n7
 have e:w=.max:=by
  cases w<;>first | rfl | exact absurd rfl (by assumption)
 cases e
 exact⟨_,_,⟨rfl,rfl⟩,q⟩
theorem zoo{k:Nat}{n1 n2 n3 n4:Str}:FnOk P w K mg base CX0 k f fd [n1,n2,n3,n4] (z5p 0):=by
 have no:∀vs H Q E,¬ z5p 0 vs H Q E:=fun vs H Q E h=>by
  obtain⟨v,t,pv,p,d,f,c,g,lo,_,_,_,h,_⟩:=h
  exact h.elim
 exact⟨fun vs H Q E h=>absurd h (no vs H Q E),fun A outer s H args us vs Q E _ _ _ _ h=>absurd h (no vs H Q E)⟩
theorem zp1{H:Hp}{x z:Str}:q40 K (.str x) (.str z) H (decide (x=z)):=.inl ⟨rfl,by simp⟩
theorem zw7{t:T} (h:t.word = "num"):∃i,t=.num i:=by
 cases t with
 | num i=>exact⟨i,rfl⟩
 | nm x=>exact absurd h (show ¬ ("name" : Str) = "num" by decide+kernel)
 | op w a b=>exact absurd h (show ¬ w.str = "num" by cases w<;>decide+kernel)
theorem zsm{t:T} (h:t.word = "name"):∃x,t=.nm x:=by
 cases t with
 | num i=>exact absurd h (show ¬ ("num" : Str) = "name" by decide+kernel)
 | nm x=>exact⟨x,rfl⟩
 | op w a b=>exact absurd h (show ¬ w.str = "name" by cases w<;>decide+kernel)
theorem zz1{t:T} (h1:¬ t.word = "num") (h2:¬ t.word = "name"):∃w a b,t=.op w a b:=by
 cases t with
 | num i=>exact absurd rfl h1
 | nm x=>exact absurd rfl h2
 | op w a b=>exact⟨w,a,b,rfl⟩
theorem zeu{H:Hp}{v:V}{r:Rs}(h:Dt H v r.enc):∃a,v=.ref a/\((∃i,r=.had i/\H a=some (.tup [.str "had",.int i]))\/∃u q y,r=.ref u q/\H a=some (.tup [.str "refused",.str u,y])):=by
 cases r with
 | had i=>
  rw [Rs.enc] at h
  obtain⟨a,x0,x1,rfl,ha,t0,t1⟩:=zie h
  cases t0; cases t1
  exact⟨a,rfl,.inl ⟨i,rfl,ha⟩⟩
 | ref u q=>
  rw [Rs.enc] at h
  obtain⟨a,x0,x1,x2,rfl,ha,t0,t1,t2⟩:=zw2 h
  cases t0; cases t1
  exact⟨a,rfl,.inr ⟨u,q,x2,rfl,ha⟩⟩
theorem z81:¬ ("had" : Str) = "refused":=by decide+kernel
theorem ztx{n:Nat} (F:Fun K "reckon" "reckon" z30 f fd) (c_worth_of:Callee P w K mg base "worth_of" ["word","one","other"] 1 znu) (c_settled:Callee P w K mg base "settled" ["worth","path","rows"] 1 z6f) (c_reckon:Callee P w K mg base "reckon" ["term","path","names","settle"] (n+2) (z5p n)):FnOk P w K mg base CX0 (n+3) f fd ["term","path","names","settle"] (z5p (n+1)):=by
 refine F.ok sc_reckon (fun vs H Q E h=>?_) (fun cdv A outer s H vs Q E hr h=>?_)
 ·obtain⟨v,t,pv,p,d,f,c,g,lo,rfl,_⟩:=h
  rfl
 obtain⟨v,t,pv,p,d,fs,c,g,lo,rfl,hv,hp,hok,hn,hpl,hd,hh,hS,hL,q⟩:=h
 obtain⟨va,y,tx,rfl,hva⟩:=zwa hv
 refine⟨_,(z04 (z1x (z0b (gEq hr.units) (z0u z0o (z06 0 rfl z23) z03 (fun _ _=>rfl)) z0i (z0g _)) (z07 (z0f (zg2 (i:=3) (k:=2) rfl z3r hr (by omega) (z08 (z0u z0o (z06 0 rfl z23) z03 (fun _ _=>rfl)) (z08 (z06 1 rfl z37) z02)) zdw zdy))) z0k)
 (z04 (z1x (z0b (gEq hr.units) (z0u z0o (z06 0 rfl z23) z03 (fun _ _=>rfl)) z0i (z0g _)) (z07 (z0f (zg2 (i:=3) (k:=2) rfl z3r hr (by omega) (z08 (zzs hr.units1 (z06 2 rfl z5z) (z0u z0o (z06 0 rfl z23) z03 (fun _ _=>rfl)) (fun _ _=>rfl)) (z08 (z06 1 rfl z37) z02)) zdw zdy))) z0k)
 (z04 (z14 (i:=4) sc_reckon.nd rfl zis (z19 c_reckon hr (by omega) (z08 (z0u z0o (z06 0 rfl z23) z03 (fun _ _=>rfl)) (z08 (z0n z31 (z06 1 rfl z37) (z12 (z08 z03 z02))) (z08 (z06 2 rfl z5z) (z08 (z06 3 rfl z9l) z02)))) z9n zb5) (z05 rfl))
 (z04 (z1x (z0b (gEq hr.units) (z0u z0o (z06 4 rfl z8l) z03 (fun _ _=>rfl)) z0i (z0g _)) (z07 (z0f (z06 4 rfl z8l))) z0k)
 (z04 (z14 (i:=5) sc_reckon.nd rfl zfl (z19 c_reckon hr (by omega) (z08 (z0u z0o (z06 0 rfl z23) z03 (fun _ _=>rfl)) (z08 (z0n z31 (z06 1 rfl z37) (z12 (z08 z03 z02))) (z08 (z06 2 rfl z5z) (z08 (z06 3 rfl z9l) z02)))) z9n zb5) (z05 rfl))
 (z04 (z1x (z0b (gEq hr.units) (z0u z0o (z06 5 rfl z49) z03 (fun _ _=>rfl)) z0i (z0g _)) (z07 (z0f (z06 5 rfl z49))) z0k)
 (z04 (z1x (PW.pt (ztd (z0b (gEq hr.units) (z0u z0o (z06 0 rfl z23) z03 (fun _ _=>rfl)) z0i (z0g _)) (zo9 (z0b z80 (z0u z0o (z06 5 rfl z49) z03 (fun _ _=>rfl)) z03 (z0g _))))) (z07 (z0f (zg2 (i:=3) (k:=2) rfl z3r hr (by omega) (z08 zew (z08 (z06 1 rfl z37) z02)) zdw zdy))) z0k)
 (z07 (z0f (zg2 (i:=3) (k:=2) rfl z3r hr (by omega) (z08 (z19 c_worth_of hr (by omega) (z08 (z0u z0o (z06 0 rfl z23) z03 (fun _ _=>rfl)) (z08 (z0u z0o (z06 4 rfl z8l) z03 (fun _ _=>rfl)) (z08 (z0u z0o (z06 5 rfl z49) z03 (fun _ _=>rfl)) z02))) zdi zp4) (z08 (z06 1 rfl z37) z02)) zdw zdy)))))))))),z0e fun N1 e1=>?_⟩
 walk_at "rd7"
 refine⟨_,SqT.of hva,_,z1c,_,zp1,?_⟩
 split
 ·rename_i hw
  obtain⟨i,rfl⟩:=zw7 (of_decide_eq_true hw)
  rw [T.enc] at hv
  obtain⟨a2,x0,x1,ea,ha2,t0,t1⟩:=zie hv
  cases ea
  cases t1
  rw [ha2] at hva
  cases hva
  rw [evT] at hL q
  refine⟨hS.lam,_,SqT.of ha2,_,z1b (j:=1) rfl,hS.lam,?_⟩
  exact ze8 c_settled hS (hL.mono (by simp)) hp q
 rename_i hw1
 rw [e1]
 refine z0e fun N2 e2=>?_
 walk_at "rd7"
 refine⟨_,SqT.of hva,_,z1c,_,zp1,?_⟩
 split
 ·rename_i hw
  obtain⟨x,rfl⟩:=zsm (of_decide_eq_true hw)
  rw [T.enc] at hv
  obtain⟨a2,x0,x1,ea,ha2,t0,t1⟩:=zie hv
  cases ea
  cases t1
  rw [ha2] at hva
  cases hva
  rw [evT] at hL q
  obtain⟨w,hw2,_⟩:=hh x hok
  rw [hw2] at hL q
  have hg:DGet H d (.str x) (some (.int w)):=by
   have:=DGet.k (k:=Sum.inr x) hd
   rw [zxz,hw2] at this
   exact this
  refine⟨hS.lam,_,SqT.of ha2,_,z1b (j:=1) rfl,_,hg,hS.lam,?_⟩
  exact ze8 c_settled hS (hL.mono (by simp)) hp q
 rename_i hw2
 obtain⟨wd,ta,tb,rfl⟩:=zz1 (fun z=>hw1 (decide_eq_true z)) fun z=>hw2 (decide_eq_true z)
 rw [e2]
 refine z0e fun N3 e3=>?_
 walk_at "rd7"
 have hv0:=hv
 rw [T.enc] at hv
 obtain⟨a2,x0,xa,xb,ea,ha2,t0,da,db⟩:=zw2 hv
 cases ea
 cases t0
 clear hva
 refine⟨_,SqT.of ha2,_,z1b (j:=1) rfl,by decide,fun p1 h1=>?_⟩
 have s1:=z01 h1 (HO.tup [V.int 0])
 refine zqw (hp.kp s1.kp) zd4 (by simp; omega) fun z H1 s2 dz=>?_
 have s12:=s1.trans s2
 have l1:=q00 c wd ta tb p
 refine⟨xa,ta,z,_,d,fs,c,g,lo,rfl,da.kp s12.kp,dz,hok.1,by omega,by simp; omega,s12 _ _ hd,hh,hS.kp (Same.kpE s12),(hL.same s12).mono (by omega),fun r1 H2 g1 dr1=>?_⟩
 have G1:Gr lo H H2 (evT c ta (p++[0])).2:=(Gr.same s12 hL).trans g1
 clear g1 s1 s2 s12
 obtain⟨b1,rfl,hb1⟩:=zeu dr1
 rcases he1:evT c ta (p++[0]) with⟨r1,w1⟩
 rw [he1] at G1 dr1 hb1
 rw [e3]
 refine z0e fun N4 e4=>?_
 walk_at "rd7"
 rcases hb1 with⟨i1,rfl,hb1⟩ | ⟨u,qq,y1,rfl,hb1⟩
 rotate_left
 ·refine⟨_,SqT.of hb1,_,z1c,_,zp1,?_⟩
  rw [if_pos (decide_eq_true rfl)]
  rw [ztr he1] at q
  exact q _ _ G1 dr1
 refine⟨_,SqT.of hb1,_,z1c,_,zp1,?_⟩
 rw [if_neg (by rw [decide_eq_true_eq]; exact z81)]
 have ha3:=G1.keep ha2 (by intro xs z; cases z)
 have hd3:=G1.keep hd (by intro xs z; cases z)
 have hp3:=hp.kp G1.kp
 have db3:=db.kp G1.kp
 have hS3:=hS.kp G1.kpE
 have l2:=zzz (w:=wd) (b:=tb) he1
 have hL3:HasL lo H2 ((evT c tb (p++[1])).2.length+1):=hL.on G1 (by show w1.length+_<=_; omega)
 rw [e4]
 refine z0e fun N5 e5=>?_
 walk_at "rd7"
 refine⟨_,SqT.of ha3,_,z1b (j:=2) rfl,by decide,fun p2 h2=>?_⟩
 have s3:=z01 h2 (HO.tup [V.int 1])
 refine zqw (hp3.kp s3.kp) zd4 (by simp; omega) fun z2 H3 s4 dz2=>?_
 have s34:=s3.trans s4
 refine⟨xb,tb,z2,_,d,fs,c,g,lo,rfl,db3.kp s34.kp,dz2,hok.2,by omega,by simp; omega,s34 _ _ hd3,hh,hS3.kp (Same.kpE s34),hL3.same s34,fun r2 H4 g2 dr2=>?_⟩
 have G2:Gr lo H2 H4 (evT c tb (p++[1])).2:=(Gr.same s34 hL3).trans g2
 clear g2 s3 s4 s34
 obtain⟨b2,rfl,hb2⟩:=zeu dr2
 rcases he2:evT c tb (p++[1]) with⟨r2,w2⟩
 rw [he2] at G2 dr2 hb2 hL3
 have hb14:=G2.keep hb1 (by intro xs z; cases z)
 have ha4:=G2.keep ha3 (by intro xs z; cases z)
 have hp4:=hp3.kp G2.kp
 have hS4:=hS3.kp G2.kpE
 have G12:=G1.trans G2
 rw [e5]
 refine z0e fun N6 e6=>?_
 walk_at "rd7"
 rcases hb2 with⟨i2,rfl,hb2⟩ | ⟨u,qq,y1,rfl,hb2⟩
 rotate_left
 ·refine⟨_,SqT.of hb2,_,z1c,_,zp1,?_⟩
  rw [if_pos (decide_eq_true rfl)]
  rw [zk5 he1 he2] at q
  exact q _ _ G12 dr2
 refine⟨_,SqT.of hb2,_,z1c,_,zp1,?_⟩
 rw [if_neg (by rw [decide_eq_true_eq]; exact z81)]
 have hL4:HasL lo H4 1:=hL3.on G2 (yg _)
 have hw2:=zv1 tb (p++[1]) he2
 rw [e6]
 refine z0e fun N7 e7=>?_
 walk_at "rd7"
 refine⟨_,SqT.of ha4,_,z1c,_,zp1,?_⟩
 have last:(wd=.quo->i2≠0)->N7 [some (V.ref va),some pv,some (V.ref d),some (V.ref fs),some (V.ref b1),some (V.ref b2)] H4:=fun hq=>by
  rw [e7]
  walk_at "rd7"
  rw [zq1 he1 he2 (fun z=>hq z.1 z.2)] at q
  refine⟨hS4.lam,_,SqT.of ha4,_,z1c,_,SqT.of hb14,_,z1b (j:=1) rfl,_,SqT.of hb2,_,z1b (j:=1) rfl,wd,i1,i2,rfl,hq,by omega,?_⟩
  refine⟨hS4.lam,ze8 c_settled hS4 hL4 hp4 fun r H' g dr=>q r H' (G12.trans g) dr⟩
 split
 ·rename_i hq
  have hq':wd=.quo:=by
   have:=of_decide_eq_true hq
   cases wd<;>first | rfl | exact absurd this (by decide+kernel)
  subst hq'
  refine⟨_,SqT.of hb2,_,z1b (j:=1) rfl,_,rfl,?_⟩
  split
  ·rename_i hz
   subst hz
   rw [zk4 he1 he2] at q
   refine⟨hS4.lam,hS4.lam,zny c_settled hS4 hL4 hp4 fun r H' g dr=>q r H' ?_ dr⟩
   have:=G12.trans g
   rw [y06] at this
   exact this
  ·rename_i hz
   exact last fun _=>hz
 ·rename_i hq
  exact last fun z=>absurd (decide_eq_true (by rw [z]; rfl)) hq
theorem zja(d:Df K mg "reckon" z30 ["term","path","names","settle"] f fd) (c_worth_of:Callee P w K mg base "worth_of" ["word","one","other"] 1 znu) (c_settled:Callee P w K mg base "settled" ["worth","path","rows"] 1 z6f):∀n:Nat,Callee P w K mg base "reckon" ["term","path","names","settle"] (n+2) (z5p n)
 | 0=>d.callee zoo
 | n+1=>d.callee (ztx d.F c_worth_of c_settled (zja d c_worth_of c_settled n))
end
section
variable{P:yf}{w:yr}{K:y3}{mg:Str->Option y4}{base:Heap}{f:Addr}{fd:yq}
def Gd(d:Addr)(lo:Option Addr)(H H':Hp)(rs:List RI):Prop:=(∀a o,a≠d->some a≠lo->H a=some o->H' a=some o)/\∀l,lo=some l->∃xs ys,H l=some (.lst xs)/\H' l=some (.lst (xs++ys))/\DtA H' ys (rs.map rowI)
theorem Gr.gd{d:Addr}{lo:Option Addr}{H H':Hp}{rs:List RI}(h:Gr lo H H' rs):Gd d lo H H' rs:=⟨fun a o _ n e=>h.1 a o n e,h.2⟩
theorem Gd.keep{d:Addr}{lo:Option Addr}{H H':Hp}{rs:List RI}{k:List (Key×V)}(h:Gd d lo H H' rs)(hd:H d=some (.dK k)){a:Addr}{o:HO}(e:H a=some o)(n1:∀xs,o≠.lst xs)(n2:∀k,o≠.dK k):H' a=some o:=h.1 a o (fun z=>by
 rw [z,hd] at e
 cases e
 exact n2 _ rfl) (fun z=>by
 obtain⟨xs,ys,e1,_⟩:=h.2 a z.symm
 rw [e1] at e
 cases e
 exact n1 _ rfl) e
theorem Gd.kp{d:Addr}{lo:Option Addr}{H H':Hp}{rs:List RI}{k:List (Key×V)}(h:Gd d lo H H' rs)(hd:H d=some (.dK k)):Kp H H':=by
 refine⟨fun b xs e=>h.keep hd e (fun _ z=>by cases z) (fun _ z=>by cases z),fun b xs e=>?_⟩
 by_cases hb:some b=lo
 ·obtain⟨xs',ys,e1,e2,_⟩:=h.2 b hb.symm
  exact⟨_,e2⟩
 ·exact⟨xs,h.1 b _ (fun z=>by rw [z,hd] at e; cases e) hb e⟩
theorem Gd.kpE{d:Addr}{lo:Option Addr}{H H':Hp}{rs:List RI}{k:List (Key×V)}(h:Gd d lo H H' rs)(hd:H d=some (.dK k)):KpE H H':=fun a φ e=>h.keep hd e (fun _ z=>by cases z) fun _ z=>by cases z
theorem Gd.trans{d:Addr}{lo:Option Addr}{H H1 H2:Hp}{r1 r2:List RI}{k:List (Key×V)}(a:Gd d lo H H1 r1)(b:Gd d lo H1 H2 r2)(hd:H1 d=some (.dK k)):Gd d lo H H2 (r1++r2):=by
 refine⟨fun x o n1 n2 e=>b.1 x o n1 n2 (a.1 x o n1 n2 e),fun l hl=>?_⟩
 obtain⟨xs,ys,e1,e2,d1⟩:=a.2 l hl
 obtain⟨xs',zs,f1,f2,d2⟩:=b.2 l hl
 rw [e2] at f1
 cases f1
 exact⟨xs,ys++zs,e1,by rw [f2,y0q],by rw [y03]; exact(d1.kp (b.kp hd)).append d2⟩
theorem Gd.put{d:Addr}{lo:Option Addr}{H H':Hp}{rs:List RI}{k:List (Key×V)}{e:List (Key×V)}(h:Gr lo H H' rs)(hd:H' d=some (.dK k)):Gd d lo H (upd H' d (.dK e)) rs:=by
 refine⟨fun a o n1 n2 z=>by rw [z09 n1]; exact h.1 a o n2 z,fun l hl=>?_⟩
 obtain⟨xs,ys,e1,e2,d1⟩:=h.2 l hl
 exact⟨xs,ys,e1,by rw [z09 fun z=>by rw [z,hd] at e2; cases e2]; exact e2,d1.kp (q0h hd)⟩
theorem HasL.onD{d:Addr}{lo:Option Addr}{H H':Hp}{rs:List RI}{n m:Nat}(h:HasL lo H n)(g:Gd d lo H H' rs)(k:rs.length+m<=n):HasL lo H' m:=fun l hl=>by
 obtain⟨xs,e,z⟩:=h l hl
 obtain⟨xs',ys,e1,e2,d⟩:=g.2 l hl
 rw [e] at e1
 cases e1
 have:=d.length
 rw [y8] at this
 exact⟨_,e2,by rw [yd]; omega⟩
def KeyOk(c:Cnt):Prop:=(c.map (·.1)).Nodup/\∀p∈c,p.1∈pool
theorem KeyOk.put{c:Cnt}(h:KeyOk c){x:Str}(hx:x∈pool)(v:Int):KeyOk (zjx c x v):=by
 refine⟨?_,fun p hp=>?_⟩
 ·rw [zfz]
  split
  ·exact h.1
  ·rename_i hn
   exact List.nodup_append.mpr ⟨h.1,by simp,fun a ha b hb e=>hn (by rw [y0u] at hb; rw [<- hb,<- e]; exact ha)⟩
 ·have hm:p.1∈(zjx c x v).map (·.1):=List.mem_map.mpr ⟨p,hp,rfl⟩
  rw [zfz] at hm
  split at hm
  ·obtain⟨q,hq,e⟩:=List.mem_map.mp hm
   rw [<- e]; exact h.2 q hq
  ·rcases List.mem_append.mp hm with hm | hm
   ·obtain⟨q,hq,e⟩:=List.mem_map.mp hm
    rw [<- e]; exact h.2 q hq
   ·rw [y0u] at hm
    rw [hm]; exact hx
theorem KeyOk.len{c:Cnt}(h:KeyOk c):c.length<=4:=by
 have:=zka (c.map (·.1)) pool h.1 fun x hx=>by
  obtain⟨q,hq,e⟩:=List.mem_map.mp hx
  rw [<- e]; exact h.2 q hq
 rw [y8] at this
 exact this
theorem zkl:∀(c:Cnt) (x:Str) (v:Int),zf1 (zjx c x v) x=some v:=by
 intro c x v
 unfold zjx
 split
 ·rename_i h
  induction c with
  | nil=>simp at h
  | cons p c ih=>
   by_cases e:p.1=x
   ·simp[zf1,e]
   ·have h':(c.any fun p=>decide (p.1=x))=true:=by simpa [e] using h
    have:=ih h'
    unfold zf1 at this |-
    rw [yn,if_neg e,y0g]
    simpa [e] using this
 ·rename_i h
  have hn:∀p∈c,p.1≠x:=fun p hp e=>h (List.any_eq_true.mpr ⟨p,hp,decide_eq_true e⟩)
  unfold zf1
  rw [List.find?_append,List.find?_eq_none.mpr (fun p hp=>by simpa using hn p hp)]
  simp
theorem zoz:∀(c:Cnt) {x y:Str} (v:Int),y≠x->zf1 (zjx c x v) y=zf1 c y:=by
 intro c x y v hne
 unfold zjx
 split
 ·rename_i hany
  clear hany
  induction c with
  | nil=>rfl
  | cons p c ih=>
   unfold zf1 at ih |-
   rw [yn,y0g,y0g]
   by_cases e:p.1=x
   ·rw [if_pos e]
    have:¬ p.1=y:=fun z=>hne (z.symm.trans e)
    simpa [this] using ih
   ·rw [if_neg e]
    by_cases e2:p.1=y
    ·simp[e2]
    ·simpa [e2] using ih
 ·unfold zf1
  rw [List.find?_append]
  cases hf:c.find? fun p=>decide (p.1=y) with
  | none=>simp[y1y hne]
  | some q=>simp
theorem Has.put{c:Cnt}{g:List Str}(h:Has c g){x:Str}{v:Int}(h1 : -32768<=v)(h2:v<=32767):Has (zjx c x v) (g++[x]):=fun y hy=>by
 by_cases e:y=x
 ·rw [e,zkl]
  exact⟨v,rfl,h1,h2⟩
 ·rw [zoz c v e]
  rcases List.mem_append.mp hy with hy | hy
  ·exact h y hy
  ·exact absurd (List.mem_singleton.mp hy) e
theorem Has.sub{c:Cnt}{g g':List Str}(h:Has c g)(s:Sub g' g):Has c g':=fun x hx=>h x (s x hx)
theorem zd5{g:List Str}:∀{n:Nat} {t:T},T.ok pool n t->t.knows g=true->T.ok g n t
 | 0,_,h,_=>h.elim
 | n+1,.num i,h,_=>h
 | n+1,.nm x,h,k=>show x∈g by simpa [T.knows] using k
 | n+1,.op w a b,h,k=>by
  rw [T.knows,yw] at k
  exact⟨zd5 h.1 k.1,zd5 h.2 k.2⟩
mutual
theorem q0k:∀(d:D) (p q:List Str),kbD p d=some q->Sub p q
 | .set x t,p,q,h=>by
  rw [kbD] at h
  split at h
  ·cases h
   exact fun y hy=>y1t _ hy
  ·cases h
 | .ite t b c,p,q,h=>by
  rw [kbD] at h
  split at h
  ·cases hb:kbB p b with
   | none=>rw [hb] at h; cases h
   | some q1=>
    cases hc:kbB p c with
    | none=>rw [hb,hc] at h; cases h
    | some q2=>
     rw [hb,hc] at h
     cases h
     exact fun y hy=>List.mem_filter.mpr ⟨zhg b p q1 hb y hy,by simpa using zhg c p q2 hc y hy⟩
  ·cases h
 | .whl t m b,p,q,h=>by
  rw [kbD] at h
  split at h
  ·cases hb:kbB p b with
   | none=>rw [hb] at h; cases h
   | some q1=>
    rw [hb] at h
    cases h
    exact Sub.refl p
  ·cases h
theorem zhg:∀(b:List D) (p q:List Str),kbB p b=some q->Sub p q
 | [],p,q,h=>by
  rw [kbB] at h
  cases h
  exact Sub.refl p
 | d::r,p,q,h=>by
  rw [kbB] at h
  cases hd:kbD p d with
  | none=>rw [hd] at h; cases h
  | some q1=>
   rw [hd] at h
   exact(q0k d p q1 hd).trans (zhg r q1 q h)
end
end
section
variable{P:yf}{w:yr}{K:y3}{mg:Str->Option y4}{base:Heap}{f:Addr}{fd:yq}
def q4j(o:Option Ref)(H':Hp)(r:V):Prop:=match o with
 | none=>r=.non
 | some e=>Dt H' r (Rs.ref e.1 e.2).enc
def znw(n:Nat):Sp:=fun vs H Q _=>∃(v:V) (b:List D) (pv:V) (p:List Int) (d f:Addr) (c:Cnt) (g g':List Str) (lo:Option Addr),vs=[v,pv,.ref d,.ref f]/\Dt H v (.tup (encB b))/\Dt H pv (pathD p)/\okW n b/\n<=4/\p.length+2 * n<=90/\kbB g b=some g'/\H d=some (.dK (kvC c))/\KeyOk c/\Has c g/\SetOk f lo H/\HasL lo H ((evB p 0 b c).2.2.length+1)/\
 ∀(r:V) (H':Hp),Gd d lo H H' (evB p 0 b c).2.2->H' d=some (.dK (kvC (evB p 0 b c).2.1))->q4j (evB p 0 b c).1 H' r->Q r H'
def zlh(ks:List Str)(n:Nat):Sp:=fun vs H Q _=>∃(v:V) (e:D) (pv:V) (p:List Int) (d f:Addr) (c:Cnt) (g g':List Str) (lo:Option Addr),vs=[v,pv,.ref d,.ref f]/\e.kind∈ks/\Dt H v e.enc/\Dt H pv (pathD p)/\q4l n e/\n<=3/\p.length+2 * n<=89/\kbD g e=some g'/\H d=some (.dK (kvC c))/\KeyOk c/\Has c g/\SetOk f lo H/\HasL lo H ((evD p e c).2.2.length+1)/\
 ∀(r:V) (H':Hp),Gd d lo H H' (evD p e c).2.2->H' d=some (.dK (kvC (evD p e c).2.1))->q4j (evD p e c).1 H' r->Q r H'
theorem zjm{c:Cnt}{x:Str}{t:T}{p:List Int}{u:Str}{q:List Int}{r:List RI}(h:evT c t (p++[0])=(.ref u q,r)):evD p (.set x t) c=(some (u,q),c,r):=by rw [evD,h]
theorem zjn{c:Cnt}{x:Str}{t:T}{p:List Int}{v:Int}{r:List RI}(h:evT c t (p++[0])=(.had v,r)):evD p (.set x t) c=(none,zjx c x v,r):=by rw [evD,h]
theorem zt4(c:Cnt)(x:Str)(t:T)(p:List Int):(evD p (.set x t) c).2.2=(evT c t (p++[0])).2:=by
 rcases h:evT c t (p++[0]) with⟨r,w⟩
 cases r with
 | had v=>rw [zjn h]
 | ref u q=>rw [zjm h]
theorem zhi{c:Cnt}{t:T}{b b2:List D}{p:List Int}{u:Str}{q:List Int}{r:List RI}(h:evT c t (p++[0])=(.ref u q,r)):evD p (.ite t b b2) c=(some (u,q),c,r):=by rw [evD,h]
theorem zhh{c:Cnt}{t:T}{b b2:List D}{p:List Int}{v:Int}{r:List RI}(h:evT c t (p++[0])=(.had v,r))(hv:v≠0):evD p (.ite t b b2) c=((evB (p++[1]) 0 b c).1,(evB (p++[1]) 0 b c).2.1,r++(evB (p++[1]) 0 b c).2.2):=by rw [evD,h]; simp[hv]
theorem zmd{c:Cnt}{t:T}{b b2:List D}{p:List Int}{r:List RI}(h:evT c t (p++[0])=(.had 0,r)):evD p (.ite t b b2) c=((evB (p++[2]) 0 b2 c).1,(evB (p++[2]) 0 b2 c).2.1,r++(evB (p++[2]) 0 b2 c).2.2):=by rw [evD,h]; simp
theorem q0m(c:Cnt)(t:T)(b b2:List D)(p:List Int):(evT c t (p++[0])).2.length<=(evD p (.ite t b b2) c).2.2.length:=by
 rcases h:evT c t (p++[0]) with⟨r,w⟩
 cases r with
 | ref u q=>rw [zhi h]; exact yg _
 | had v=>
  by_cases hv:v=0
  ·subst hv
   rw [zmd h]
   simp
  ·rw [zhh h hv]
   simp
theorem zuj{g g':List Str}{t:T}{b b2:List D}(h:kbD g (.ite t b b2)=some g'):t.knows g=true/\(∃q,kbB g b=some q)/\∃q,kbB g b2=some q:=by
 rw [kbD] at h
 split at h
 ·rename_i hk
  cases hb:kbB g b with
  | none=>rw [hb] at h; cases h
  | some q1=>
   cases hc:kbB g b2 with
   | none=>rw [hb,hc] at h; cases h
   | some q2=>exact⟨hk,⟨q1,rfl⟩,q2,rfl⟩
 ·cases h
theorem zyr{g g':List Str}{t:T}{m:Int}{b:List D}(h:kbD g (.whl t m b)=some g'):t.knows g=true/\g'=g/\∃q,kbB g b=some q:=by
 rw [kbD] at h
 split at h
 ·rename_i hk
  cases hb:kbB g b with
  | none=>rw [hb] at h; cases h
  | some q1=>
   rw [hb] at h
   cases h
   exact⟨hk,rfl,q1,rfl⟩
 ·cases h
theorem zx9{cond:Cnt->Rs×List RI}{body:Cnt->Out}{p:List Int}(Pv:Cnt->Prop)(hb:∀c,Pv c->Pv (body c).2.1):∀(k:Nat) (c:Cnt),Pv c->Pv (z4i cond body p k c).2.1:=by
 intro k
 induction k with
 | zero=>
  intro c h
  rw [z4i]
  rcases cond c with⟨r,w⟩
  cases r with
  | ref u q=>exact h
  | had v=>by_cases hv:v=0<;>simp[hv,h]
 | succ k ih=>
  intro c h
  rw [z4i]
  rcases cond c with⟨r,w⟩
  cases r with
  | ref u q=>exact h
  | had v=>
   by_cases hv:v=0
   ·simp[hv,h]
   ·have h1:=hb c h
    rcases hbc:body c with⟨e,c1,r1⟩
    rw [hbc] at h1
    cases e with
    | some e=>simp[hv,hbc,h1]
    | none=>
     have h2:=ih c1 h1
     simp only[hv,if_false,hbc]
     exact h2
theorem zu8{cond:Cnt->Rs×List RI}{body:Cnt->Out}{p:List Int}(Pv:Cnt->Prop)(hb:∀c,Pv c->(body c).1=none->Pv (body c).2.1):∀(k:Nat) (c:Cnt),Pv c->(z4i cond body p k c).1=none->Pv (z4i cond body p k c).2.1:=by
 intro k
 induction k with
 | zero=>
  intro c h
  rw [z4i]
  rcases cond c with⟨r,w⟩
  cases r with
  | ref u q=>exact fun _=>h
  | had v=>by_cases hv:v=0<;>simp[hv,h]
 | succ k ih=>
  intro c h
  rw [z4i]
  rcases cond c with⟨r,w⟩
  cases r with
  | ref u q=>exact fun _=>h
  | had v=>
   by_cases hv:v=0
   ·simp[hv,h]
   ·have h1:=hb c h
    rcases hbc:body c with⟨e,c1,r1⟩
    rw [hbc] at h1
    cases e with
    | some e=>simp[hv,hbc]
    | none=>
     have h2:=ih c1 (h1 rfl)
     simp only[hv,if_false,hbc]
     exact h2
mutual
theorem zv2:∀(e:D) (n:Nat) (p:List Int) (c:Cnt),q4l n e->KeyOk c->KeyOk (evD p e c).2.1
 | .set x t,n,p,c,h,k=>by
  rcases he:evT c t (p++[0]) with⟨r,w⟩
  cases r with
  | ref u q=>rw [zjm he]; exact k
  | had v=>rw [zjn he]; exact k.put h.1 v
 | .ite t b b2,n,p,c,h,k=>by
  rcases he:evT c t (p++[0]) with⟨r,w⟩
  cases r with
  | ref u q=>rw [zhi he]; exact k
  | had v=>
   by_cases hv:v=0
   ·subst hv
    rw [zmd he]
    exact zeo b2 n (p++[2]) 0 c h.2.2 k
   ·rw [zhh he hv]
    exact zeo b n (p++[1]) 0 c h.2.1 k
 | .whl t m b,n,p,c,h,k=>by
  rw [evD]
  exact zx9 KeyOk (fun c1 k1=>zeo b n (p++[1]) 0 c1 h.2 k1) _ c k
theorem zeo:∀(b:List D) (n:Nat) (p:List Int) (i:Int) (c:Cnt),okW n b->KeyOk c->KeyOk (evB p i b c).2.1
 | [],n,p,i,c,h,k=>by rw [evB]; exact k
 | e::r,0,p,i,c,h,k=>h.elim
 | e::r,n+1,p,i,c,h,k=>by
  have h1:=zv2 e n (p++[i]) c (h.2 e (.head _)) k
  rw [evB]
  rcases he:evD (p++[i]) e c with⟨o,c1,w⟩
  rw [he] at h1
  cases o with
  | some u=>exact h1
  | none=>exact zeo r (n+1) p (i+1) c1 ⟨by have:=h.1; rw [yh] at this; omega,fun d hd=>h.2 d (.tail _ hd)⟩ h1
end
mutual
theorem zv3:∀(e:D) (p:List Int) (c:Cnt) (g g':List Str),kbD g e=some g'->Has c g->(evD p e c).1=none->Has (evD p e c).2.1 g'
 | .set x t,p,c,g,g',hk,h=>by
  rcases he:evT c t (p++[0]) with⟨r,w⟩
  cases r with
  | ref u q=>rw [zjm he]; exact fun z=>by cases z
  | had v=>
   rw [zjn he]
   intro _
   rw [kbD] at hk
   split at hk
   ·cases hk
    have:=zv1 t (p++[0]) he
    exact h.put this.1 this.2
   ·cases hk
 | .ite t b b2,p,c,g,g',hk,h=>by
  rcases he:evT c t (p++[0]) with⟨r,w⟩
  cases r with
  | ref u q=>rw [zhi he]; exact fun z=>by cases z
  | had v=>
   obtain⟨_,⟨q1,h1⟩,q2,h2⟩:=zuj hk
   have sub:Sub g' q1/\Sub g' q2:=by
    have hkt:=(zuj hk).1
    rw [kbD,if_pos hkt,h1,h2] at hk
    cases hk
    exact⟨fun x hx=>(List.mem_filter.mp hx).1,fun x hx=>by simpa using(List.mem_filter.mp hx).2⟩
   by_cases hv:v=0
   ·subst hv
    rw [zmd he]
    exact fun z=>(zhw b2 (p++[2]) 0 c g q2 h2 h z).sub sub.2
   ·rw [zhh he hv]
    exact fun z=>(zhw b (p++[1]) 0 c g q1 h1 h z).sub sub.1
 | .whl t m b,p,c,g,g',hk,h=>by
  obtain⟨_,rfl,q1,h1⟩:=zyr hk
  rw [evD]
  exact zu8 (fun c=>Has c g') (fun c1 k1 z=>(zhw b (p++[1]) 0 c1 g' q1 h1 k1 z).sub (zhg b g' q1 h1)) _ c h
theorem zhw:∀(b:List D) (p:List Int) (i:Int) (c:Cnt) (g g':List Str),kbB g b=some g'->Has c g->(evB p i b c).1=none->Has (evB p i b c).2.1 g'
 | [],p,i,c,g,g',hk,h=>by
  rw [kbB] at hk
  cases hk
  rw [evB]
  exact fun _=>h
 | e::r,p,i,c,g,g',hk,h=>by
  rw [kbB] at hk
  cases hd:kbD g e with
  | none=>rw [hd] at hk; cases hk
  | some q1=>
   rw [hd] at hk
   have h1:=zv3 e (p++[i]) c g q1 hd h
   rw [evB]
   rcases he:evD (p++[i]) e c with⟨o,c1,w⟩
   rw [he] at h1
   cases o with
   | some u=>exact fun z=>by cases z
   | none=>exact zhw r p (i+1) c1 q1 g' hk (h1 rfl)
end
def znf(rs:List RI)(o:Out):Out:=(o.1,o.2.1,rs++o.2.2)
theorem zd8{cond:Cnt->Rs×List RI}{body:Cnt->Out}{p:List Int}{k:Nat}{c:Cnt}{u:Str}{q:List Int}{r:List RI}(h:cond c=(.ref u q,r)):z4i cond body p k c=(some (u,q),c,r):=by
 cases k<;>rw [z4i,h]
theorem zaj{cond:Cnt->Rs×List RI}{body:Cnt->Out}{p:List Int}{k:Nat}{c:Cnt}{r:List RI}(h:cond c=(.had 0,r)):z4i cond body p k c=(none,c,r):=by
 cases k<;>rw [z4i,h]<;>simp
theorem zd9{cond:Cnt->Rs×List RI}{body:Cnt->Out}{p:List Int}{c:Cnt}{v:Int}{r:List RI}(h:cond c=(.had v,r))(hv:v≠0):z4i cond body p 0 c=((some (("long" : Str),p),c,r):Out):=by
 rw [z4i,h]
 simp[hv]
theorem zak{cond:Cnt->Rs×List RI}{body:Cnt->Out}{p:List Int}{k:Nat}{c c1:Cnt}{v:Int}{r r1:List RI}{e:Ref}(h:cond c=(.had v,r))(hv:v≠0)(hb:body c=(some e,c1,r1)):z4i cond body p (k+1) c=(some e,c1,r++r1):=by
 rw [z4i,h]
 simp[hv,hb]
theorem zal{cond:Cnt->Rs×List RI}{body:Cnt->Out}{p:List Int}{k:Nat}{c c1:Cnt}{v:Int}{r r1:List RI}(h:cond c=(.had v,r))(hv:v≠0)(hb:body c=(none,c1,r1)):z4i cond body p (k+1) c=znf (r++r1) (z4i cond body p k c1):=by
 rw [z4i,h]
 simp[hv,hb,znf]
def WhI(H:Hp)(va:Addr)(pv:V)(d fs:Addr)(lo:Option Addr)(g:List Str)(t:T)(b:List D)(p:List Int)(M:Nat)(out:Out)(k:Nat)(σ : St)(Hc:Hp):Prop:=∃(j:Nat) (cj:Cnt) (rs:List RI) (x5 x6:Option V),σ = [some (.ref va),some pv,some (.ref d),some (.ref fs),some (.int j),x5,x6]/\j+k=M/\Gd d lo H Hc rs/\Hc d=some (.dK (kvC cj))/\KeyOk cj/\Has cj g/\out=znf rs (z4i (fun c=>evT c t (p++[0])) (fun c=>evB (p++[1]) 0 b c) p k cj)
theorem zua(cond:Cnt->Rs×List RI)(body:Cnt->Out)(p:List Int)(k:Nat)(c:Cnt):(cond c).2.length<=(z4i cond body p k c).2.2.length:=by
 rcases h:cond c with⟨r,w⟩
 cases r with
 | ref u q=>rw [zd8 h]; exact yg _
 | had v=>
  by_cases hv:v=0
  ·subst hv
   rw [zaj h]; exact yg _
  ·cases k with
   | zero=>rw [zd9 h hv]; exact yg _
   | succ k=>
    rcases hb:body c with⟨e,c1,r1⟩
    cases e with
    | some e=>rw [zak h hv hb]; simp
    | none=>rw [zal h hv hb]; simp only[znf,yd]; omega
theorem zu9{cond:Cnt->Rs×List RI}{body:Cnt->Out}{p:List Int}{k:Nat}{c:Cnt}{v:Int}{r:List RI}(h:cond c=(.had v,r))(hv:v≠0):r.length+(body c).2.2.length<=(z4i cond body p (k+1) c).2.2.length:=by
 rcases hb:body c with⟨e,c1,r1⟩
 cases e with
 | some e=>rw [zak h hv hb]; simp
 | none=>rw [zal h hv hb]; simp only[znf,yd]; omega
theorem zkn{p:List Int}{k:Int}{e:D}{r:List D}{c c1:Cnt}{u:Ref}{w:List RI}(h:evD (p++[k]) e c=(some u,c1,w)):evB p k (e::r) c=(some u,c1,w):=by rw [evB,h]
theorem zko{p:List Int}{k:Int}{e:D}{r:List D}{c c1:Cnt}{w:List RI}(h:evD (p++[k]) e c=(none,c1,w)):evB p k (e::r) c=znf w (evB p (k+1) r c1):=by rw [evB,h]; rfl
theorem q0w(p:List Int)(k:Int)(e:D)(r:List D)(c:Cnt):(evD (p++[k]) e c).2.2.length<=(evB p k (e::r) c).2.2.length:=by
 rcases h:evD (p++[k]) e c with⟨o,c1,w⟩
 cases o with
 | some u=>rw [zkn h]; exact yg _
 | none=>rw [zko h]; simp[znf]
theorem zxh{g g':List Str}{e:D}{r:List D}(h:kbB g (e::r)=some g'):∃q,kbD g e=some q/\kbB q r=some g':=by
 rw [kbB] at h
 cases hd:kbD g e with
 | none=>rw [hd] at h; cases h
 | some q=>rw [hd] at h; exact⟨q,rfl,h⟩
theorem zv7{α : Type}:∀{l:List α} {i:Nat} {x : α},l[i]?=some x->l.drop i=x::l.drop (i+1)
 | [],_,_,h=>by simp at h
 | a::l,0,x,h=>by simp at h; simp[h]
 | a::l,i+1,x,h=>by
  have:l[i]?=some x:=by simpa using h
  simpa using zv7 this
def BkI(H:Hp)(ab:Addr)(pv:V)(d fs:Addr)(lo:Option Addr)(g':List Str)(b:List D)(p:List Int)(out:Out)(i:Nat)(σ : St)(Hc:Hp):Prop:=∃(ci:Cnt) (gi:List Str) (rs:List RI) (x4 x5 x6:Option V),σ = [some (.ref ab),some pv,some (.ref d),some (.ref fs),x4,x5,x6]/\Gd d lo H Hc rs/\Hc d=some (.dK (kvC ci))/\KeyOk ci/\Has ci gi/\kbB gi (b.drop i)=some g'/\out=znf rs (evB p i (b.drop i) ci)
end
section
variable{P:yf}{w:yr}{K:y3}{mg:Str->Option y4}{base:Heap}{f:Addr}{fd:yq}
theorem zty{n:Nat} (F:Fun K "do_set" "do_set" z4g f fd) (c_reckon:Callee P w K mg base "reckon" ["term","path","names","settle"] 7 (z5p 5)):FnOk P w K mg base CX0 8 f fd ["deed","path","names","settle"] (zlh ["set"] n):=by
 refine F.ok sc_do_set (fun vs H Q E h=>?_) (fun cdv A outer s H vs Q E hr h=>?_)
 ·obtain⟨v,e,pv,p,d,f,c,g,g',lo,rfl,_⟩:=h
  rfl
 obtain⟨v,e,pv,p,d,fs,c,g,g',lo,rfl,hk,hv,hp,hok,hn,hpl,hkb,hd,hky,hh,hS,hL,q⟩:=h
 obtain⟨x,t,rfl⟩:∃x t,e=.set x t:=by
  cases e with
  | set x t=>exact⟨x,t,rfl⟩
  | ite t b c=>exact absurd (List.mem_singleton.mp hk) (show ¬ ("if" : Str) = "set" by decide+kernel)
  | whl t m b=>exact absurd (List.mem_singleton.mp hk) (show ¬ ("while" : Str) = "set" by decide+kernel)
 rw [D.enc] at hv
 obtain⟨va,x0,x1,xt,rfl,hva,t0,t1,dt⟩:=zw2 hv
 cases t0
 cases t1
 rw [kbD] at hkb
 have hkt:t.knows g=true:=by
  cases hz:t.knows g with
  | true=>rfl
  | false=>rw [hz] at hkb; cases hkb
 have hlen:=zt4 c x t p
 refine⟨_,(z04 (z14 (i:=4) sc_do_set.nd rfl ziu (z19 c_reckon hr (by omega) (z08 (z0u z0o (z06 0 rfl zbw) z03 (fun _ _=>rfl)) (z08 (z0n z31 (z06 1 rfl zih) (z12 (z08 z03 z02))) (z08 (z06 2 rfl za8) (z08 (z06 3 rfl zfb) z02)))) zfs zb5) (z05 rfl))
 (z04 (z1x (z0b (gEq hr.units) (z0u z0o (z06 4 rfl z8o) z03 (fun _ _=>rfl)) z0i (z0g _)) (z07 (z0f (z06 4 rfl z8o))) z0k)
 (z04 (zoa hr.units1 (z06 2 rfl za8) (z0u z0o (z06 0 rfl zbw) z03 (fun _ _=>rfl)) (z0u z0o (z06 4 rfl z8o) z03 (fun _ _=>rfl)) (z05 rfl))
 (z07 (z0f zew))))),z0e fun N1 e1=>?_⟩
 walk_at "rd7"
 refine⟨_,SqT.of hva,_,z1b (j:=2) rfl,by decide,fun p1 h1=>?_⟩
 have s1:=z01 h1 (HO.tup [V.int 0])
 refine zqw (hp.kp s1.kp) zd4 (by simp; omega) fun z H1 s2 dz=>?_
 have s12:=s1.trans s2
 refine⟨xt,t,z,_,d,fs,c,g,lo,rfl,dt.kp s12.kp,dz,zd5 hok.2 hkt,by decide,by simp; omega,s12 _ _ hd,hh,hS.kp (Same.kpE s12),by rw [<- hlen]; exact hL.same s12,fun r1 H2 g1 dr1=>?_⟩
 have G1:Gr lo H H2 (evT c t (p++[0])).2:=(Gr.same s12 hL).trans g1
 clear g1 s1 s2 s12
 have hd2:=G1.keep hd (by intro xs z; cases z)
 have hva2:=G1.keep hva (by intro xs z; cases z)
 obtain⟨b1,rfl,hb1⟩:=zeu dr1
 rcases he1:evT c t (p++[0]) with⟨r1,w1⟩
 rw [he1] at G1 dr1 hb1
 rw [e1]
 refine z0e fun N2 e2=>?_
 walk_at "rd7"
 rcases hb1 with⟨i1,rfl,hb1⟩ | ⟨u,qq,y1,rfl,hb1⟩
 rotate_left
 ·refine⟨_,SqT.of hb1,_,z1c,_,zp1,?_⟩
  rw [if_pos (decide_eq_true rfl)]
  rw [zjm he1] at q
  exact q _ _ G1.gd hd2 dr1
 refine⟨_,SqT.of hb1,_,z1c,_,zp1,?_⟩
 rw [if_neg (by rw [decide_eq_true_eq]; exact z81)]
 rw [e2]
 walk_at "rd7"
 rw [zjn he1] at q
 refine⟨_,SqT.of hb1,_,z1b (j:=1) rfl,_,SqT.of hva2,_,z1b (j:=1) rfl,_,DPut.k (k:=Sum.inr x) hd2 ?_,?_⟩
 ·unfold kvC
  rw [y8]
  exact y0w hky.len (by decide)
 ·exact q _ _ (Gd.put G1 hd2) (by rw [z00,zyj]) rfl
theorem zx0{n:Nat} (F:Fun K "do_if" "do_if" z5h f fd) (c_reckon:Callee P w K mg base "reckon" ["term","path","names","settle"] 7 (z5p 5)) (c_do_block:Callee P w K mg base "do_block" ["block","path","names","settle"] (3 * n+8) (znw n)):FnOk P w K mg base CX0 (3 * n+9) f fd ["deed","path","names","settle"] (zlh ["if"] n):=by
 refine F.ok sc_do_if (fun vs H Q E h=>?_) (fun cdv A outer s H vs Q E hr h=>?_)
 ·obtain⟨v,e,pv,p,d,f,c,g,g',lo,rfl,_⟩:=h
  rfl
 obtain⟨v,e,pv,p,d,fs,c,g,g',lo,rfl,hk,hv,hp,hok,hn,hpl,hkb,hd,hky,hh,hS,hL,q⟩:=h
 obtain⟨t,b,b2,rfl⟩:∃t b b2,e=.ite t b b2:=by
  cases e with
  | set x t=>exact absurd (List.mem_singleton.mp hk) (show ¬ ("set" : Str) = "if" by decide+kernel)
  | ite t b c=>exact⟨t,b,c,rfl⟩
  | whl t m b=>exact absurd (List.mem_singleton.mp hk) (show ¬ ("while" : Str) = "if" by decide+kernel)
 rw [D.enc] at hv
 obtain⟨va,x0,xt,xb,xc,rfl,hva,t0,dt,db,dc⟩:=zy0 hv
 cases t0
 obtain⟨hkt,⟨q1,hq1⟩,q2,hq2⟩:=zuj hkb
 have hlen:=q0m c t b b2 p
 refine⟨_,(z04 (z14 (i:=4) sc_do_if.nd rfl zkf (z19 c_reckon hr (by omega) (z08 (z0u z0o (z06 0 rfl z8q) z03 (fun _ _=>rfl)) (z08 (z0n z31 (z06 1 rfl z8p) (z12 (z08 z03 z02))) (z08 (z06 2 rfl z75) (z08 (z06 3 rfl z63) z02)))) zhs zb5) (z05 rfl))
 (z04 (z1x (z0b (gEq hr.units) (z0u z0o (z06 4 rfl za9) z03 (fun _ _=>rfl)) z0i (z0g _)) (z07 (z0f (z06 4 rfl za9))) z0k)
 (z04 (z1x (z0b zq2 (z0u z0o (z06 4 rfl za9) z03 (fun _ _=>rfl)) z03 (z0g _)) (z07 (z0f (z19 c_do_block hr (by omega) (z08 (z0u z0o (z06 0 rfl z8q) z03 (fun _ _=>rfl)) (z08 (z0n z31 (z06 1 rfl z8p) (z12 (z08 z03 z02))) (z08 (z06 2 rfl z75) (z08 (z06 3 rfl z63) z02)))) z8e z9f))) z0k)
 (z07 (z0f (z19 c_do_block hr (by omega) (z08 (z0u z0o (z06 0 rfl z8q) z03 (fun _ _=>rfl)) (z08 (z0n z31 (z06 1 rfl z8p) (z12 (z08 z03 z02))) (z08 (z06 2 rfl z75) (z08 (z06 3 rfl z63) z02)))) z8e z9f)))))),z0e fun N1 e1=>?_⟩
 walk_at "rd7"
 refine⟨_,SqT.of hva,_,z1b (j:=1) rfl,by decide,fun p1 h1=>?_⟩
 have s1:=z01 h1 (HO.tup [V.int 0])
 refine zqw (hp.kp s1.kp) zd4 (by simp; omega) fun z H1 s2 dz=>?_
 have s12:=s1.trans s2
 refine⟨xt,t,z,_,d,fs,c,g,lo,rfl,dt.kp s12.kp,dz,zd5 hok.1 hkt,by decide,by simp; omega,s12 _ _ hd,hh,hS.kp (Same.kpE s12),(hL.same s12).mono (by omega),fun r1 H2 g1 dr1=>?_⟩
 have G1:Gr lo H H2 (evT c t (p++[0])).2:=(Gr.same s12 hL).trans g1
 clear g1 s1 s2 s12
 have hd2:=G1.keep hd (by intro xs z; cases z)
 have hva2:=G1.keep hva (by intro xs z; cases z)
 have hp2:=hp.kp G1.kp
 have db2:=db.kp G1.kp
 have dc2:=dc.kp G1.kp
 have hS2:=hS.kp G1.kpE
 obtain⟨b1,rfl,hb1⟩:=zeu dr1
 rcases he1:evT c t (p++[0]) with⟨r1,w1⟩
 rw [he1] at G1 dr1 hb1
 rw [e1]
 refine z0e fun N2 e2=>?_
 walk_at "rd7"
 rcases hb1 with⟨i1,rfl,hb1⟩ | ⟨u,qq,y1,rfl,hb1⟩
 rotate_left
 ·refine⟨_,SqT.of hb1,_,z1c,_,zp1,?_⟩
  rw [if_pos (decide_eq_true rfl)]
  rw [zhi he1] at q
  exact q _ _ G1.gd hd2 dr1
 refine⟨_,SqT.of hb1,_,z1c,_,zp1,?_⟩
 rw [if_neg (by rw [decide_eq_true_eq]; exact z81)]
 rw [e2]
 refine z0e fun N3 e3=>?_
 walk_at "rd7"
 refine⟨_,SqT.of hb1,_,z1b (j:=1) rfl,_,rfl,?_⟩
 by_cases hz:i1=0
 ·subst hz
  rw [zmd he1] at q hL
  simp only[if_true,if_false,not_true,ne_eq,not_false_eq_true]
  rw [e3]
  walk_at "rd7"
  refine⟨_,SqT.of hva2,_,z1b (j:=3) rfl,by decide,fun p2 h2=>?_⟩
  have s3:=z01 h2 (HO.tup [V.int 2])
  refine zqw (hp2.kp s3.kp) zd4 (by simp; omega) fun z2 H3 s4 dz2=>?_
  have s34:=s3.trans s4
  have hL2:HasL lo H2 ((evB (p++[2]) 0 b2 c).2.2.length+1):=hL.on G1 (by show w1.length+_<=_; rw [yd]; omega)
  refine⟨xc,b2,z2,_,d,fs,c,g,q2,lo,rfl,dc2.kp s34.kp,dz2,hok.2.2,by omega,by simp; omega,hq2,s34 _ _ hd2,hky,hh,hS2.kp (Same.kpE s34),hL2.same s34,fun r2 H4 g2 hd4 ho=>?_⟩
  exact q _ _ (G1.gd.trans (((Gr.same s34 hL2).gd).trans g2 (s34 _ _ hd2)) hd2) hd4 ho
 ·rw [zhh he1 hz] at q hL
  rw [if_pos (decide_eq_false hz)]
  refine⟨_,SqT.of hva2,_,z1b (j:=2) rfl,by decide,fun p2 h2=>?_⟩
  have s3:=z01 h2 (HO.tup [V.int 1])
  refine zqw (hp2.kp s3.kp) zd4 (by simp; omega) fun z2 H3 s4 dz2=>?_
  have s34:=s3.trans s4
  have hL2:HasL lo H2 ((evB (p++[1]) 0 b c).2.2.length+1):=hL.on G1 (by show w1.length+_<=_; rw [yd]; omega)
  refine⟨xb,b,z2,_,d,fs,c,g,q1,lo,rfl,db2.kp s34.kp,dz2,hok.2.1,by omega,by simp; omega,hq1,s34 _ _ hd2,hky,hh,hS2.kp (Same.kpE s34),hL2.same s34,fun r2 H4 g2 hd4 ho=>?_⟩
  exact q _ _ (G1.gd.trans (((Gr.same s34 hL2).gd).trans g2 (s34 _ _ hd2)) hd2) hd4 ho
theorem zok{n:Nat} (F:Fun K "do_while" "do_while" z1m f fd) (c_reckon:Callee P w K mg base "reckon" ["term","path","names","settle"] 7 (z5p 5)) (c_do_block:Callee P w K mg base "do_block" ["block","path","names","settle"] (3 * n+8) (znw n)):FnOk P w K mg base CX0 (3 * n+9) f fd ["deed","path","names","settle"] (zlh ["while"] n):=by
 refine F.ok sc_do_while (fun vs H Q E h=>?_) (fun cdv A outer s H vs Q E hr h=>?_)
 ·obtain⟨v,e,pv,p,d,f,c,g,g',lo,rfl,_⟩:=h
  rfl
 obtain⟨v,e,pv,p,d,fs,c,g,g',lo,rfl,hk,hv,hp,hok,hn,hpl,hkb,hd,hky,hh,hS,hL,q⟩:=h
 obtain⟨t,m,b,rfl⟩:∃t m b,e=.whl t m b:=by
  cases e with
  | set x t=>exact absurd (List.mem_singleton.mp hk) (show ¬ ("set" : Str) = "while" by decide+kernel)
  | ite t b c=>exact absurd (List.mem_singleton.mp hk) (show ¬ ("if" : Str) = "while" by decide+kernel)
  | whl t m b=>exact⟨t,m,b,rfl⟩
 rw [D.enc] at hv
 obtain⟨va,x0,xt,xm,xb,rfl,hva,t0,dt,dm,db⟩:=zy0 hv
 cases t0
 cases dm
 obtain⟨hkt,rfl,q1,hq1⟩:=zyr hkb
 refine⟨_,(z04 (z14 (i:=4) sc_do_while.nd rfl z8b z03 (z05 rfl))
 (z07 (zwn y0r (zpx zil)
 (z04 (z14 (i:=5) sc_do_while.nd rfl zfn (z19 c_reckon hr (by omega) (z08 (z0u z0o (z06 0 rfl z5f) z03 (fun _ _=>rfl)) (z08 (z0n z31 (z06 1 rfl z5e) (z12 (z08 z03 z02))) (z08 (z06 2 rfl z7w) (z08 (z06 3 rfl z6x) z02)))) zdp zb5) (z05 rfl))
 (z04 (z1x (z0b (gEq hr.units) (z0u z0o (z06 5 rfl z61) z03 (fun _ _=>rfl)) z0i (z0g _)) (z07 (z0f (z06 5 rfl z61))) z0k)
 (z04 (z1x (z0b z80 (z0u z0o (z06 5 rfl z61) z03 (fun _ _=>rfl)) z03 (z0g _)) (z07 (z0f zew)) z0k)
 (z04 (z1x (z0b q4k (z06 4 rfl z9m) (z0u z0o (z06 0 rfl z5f) z03 (fun _ _=>rfl)) (z0g _)) (z07 (z0f (z12 (z08 z0i (z08 z0i (z08 (z06 1 rfl z5e) z02)))))) z0k)
 (z04 (z14 (i:=6) sc_do_while.nd rfl zbj (z19 c_do_block hr (by omega) (z08 (z0u z0o (z06 0 rfl z5f) z03 (fun _ _=>rfl)) (z08 (z0n z31 (z06 1 rfl z5e) (z12 (z08 z03 z02))) (z08 (z06 2 rfl z7w) (z08 (z06 3 rfl z6x) z02)))) zbs z9f) (z05 rfl))
 (z04 (z1x (z0b q0s (z06 6 rfl z60) zew (z0g _)) (z07 (z0f (z06 6 rfl z60))) z0k)
 (z07 (z14 (i:=4) sc_do_while.nd rfl z8b (z0n z1a (z06 4 rfl z9m) z03) (z05 rfl)))))))))))),z0e fun N1 e1=>?_⟩
 walk_at "rd7"
 rw [e1]
 have hout:evD p (.whl t m b) c=znf [] (z4i (fun c=>evT c t (p++[0])) (fun c=>evB (p++[1]) 0 b c) p m.toNat c):=by rw [evD]; rfl
 generalize evD p (.whl t m b) c=out at hL q hout
 refine⟨WhI H va pv d fs lo g' t b p m.toNat out,⟨m.toNat,0,c,[],none,none,rfl,by omega,(Gr.same (Same.refl H) hL).gd,hd,hky,hh,hout⟩,?_⟩
 rintro k σ Hc ⟨j,cj,rs,x5,x6,rfl,hjk,gd,hdc,hkc,hhc,ho⟩
 simp only[tB,tC,↓zez,if_true]
 refine⟨fun σ' H'=>∃k',k' < k/\WhI H va pv d fs lo g' t b p m.toNat out k' σ' H',fun _ _ h=>h,z0e fun N2 e2=>?_⟩
 walk_at "rd7"
 have hvac:=gd.keep hd hva (by intro xs z; cases z) (by intro xs z; cases z)
 have kpc:=gd.kp hd
 have hSc:=hS.kp (gd.kpE hd)
 have hpc:=hp.kp kpc
 have dtc:=dt.kp kpc
 have dbc:=db.kp kpc
 have l1:=zua (fun c=>evT c t (p++[0])) (fun c=>evB (p++[1]) 0 b c) p k cj
 have lo1:out.2.2.length=rs.length+(z4i (fun c=>evT c t (p++[0])) (fun c=>evB (p++[1]) 0 b c) p k cj).2.2.length:=by rw [ho,znf,yd]
 have hLc:HasL lo Hc ((z4i (fun c=>evT c t (p++[0])) (fun c=>evB (p++[1]) 0 b c) p k cj).2.2.length+1):=hL.onD gd (by omega)
 refine⟨_,SqT.of hvac,_,z1b (j:=1) rfl,by decide,fun p1 h1=>?_⟩
 have s1:=z01 h1 (HO.tup [V.int 0])
 refine zqw (hpc.kp s1.kp) zd4 (by simp; omega) fun z H1 s2 dz=>?_
 have s12:=s1.trans s2
 refine⟨xt,t,z,_,d,fs,cj,g',lo,rfl,dtc.kp s12.kp,dz,zd5 hok.1 hkt,by decide,by simp; omega,s12 _ _ hdc,hhc,hSc.kp (Same.kpE s12),(hLc.same s12).mono (by omega),fun r1 H2 g1 dr1=>?_⟩
 have G1:Gr lo Hc H2 (evT cj t (p++[0])).2:=(Gr.same s12 hLc).trans g1
 clear g1 s1 s2 s12
 have hd2:=G1.keep hdc (by intro xs z; cases z)
 have hva2:=G1.keep hvac (by intro xs z; cases z)
 have hp2:=hpc.kp G1.kp
 have db2:=dbc.kp G1.kp
 have hS2:=hSc.kp G1.kpE
 obtain⟨b1,rfl,hb1⟩:=zeu dr1
 rcases he1:evT cj t (p++[0]) with⟨r1,w1⟩
 rw [he1] at G1 dr1 hb1
 have GD:=gd.trans G1.gd hdc
 have l1w:w1.length<=(z4i (fun c=>evT c t (p++[0])) (fun c=>evB (p++[1]) 0 b c) p k cj).2.2.length:=by
  have z:=l1
  simp only[he1] at z
  exact z
 rw [e2]
 refine z0e fun N3 e3=>?_
 walk_at "rd7"
 rcases hb1 with⟨i1,rfl,hb1⟩ | ⟨u,qq,y1,rfl,hb1⟩
 rotate_left
 ·refine⟨_,SqT.of hb1,_,z1c,_,zp1,?_⟩
  rw [if_pos (decide_eq_true rfl)]
  rw [zd8 (cond:=fun c=>evT c t (p++[0])) he1] at ho
  subst ho
  exact q _ _ GD hd2 dr1
 refine⟨_,SqT.of hb1,_,z1c,_,zp1,?_⟩
 rw [if_neg (by rw [decide_eq_true_eq]; exact z81)]
 rw [e3]
 refine z0e fun N4 e4=>?_
 walk_at "rd7"
 refine⟨_,SqT.of hb1,_,z1b (j:=1) rfl,_,rfl,?_⟩
 by_cases hz:i1=0
 ·subst hz
  rw [zaj (cond:=fun c=>evT c t (p++[0])) he1] at ho
  subst ho
  rw [if_pos (by decide)]
  exact q _ _ GD hd2 rfl
 rw [if_neg (by simpa using hz)]
 rw [e4]
 refine z0e fun N5 e5=>?_
 walk_at "rd7"
 refine⟨_,SqT.of hva2,_,z1b (j:=2) rfl,_,rfl,?_⟩
 cases k with
 | zero=>
  rw [zd9 (cond:=fun c=>evT c t (p++[0])) he1 hz] at ho
  subst ho
  rw [if_pos (by omega)]
  refine⟨by decide,fun r hr'=>?_⟩
  have s3:=z01 hr' (HO.tup [V.str "refused",V.str "long",pv])
  refine q _ _ ?_ (s3 _ _ hd2) (.tup z00 (.cons (.str _) (.cons (.str _) (.cons (hp2.kp s3.kp) .nil))))
  have hL2:HasL lo H2 0:=hLc.on G1 (by show w1.length+_<=_; omega)
  have:=GD.trans (Gr.same s3 hL2).gd hd2
  rw [y06] at this
  exact this
 | succ k=>
  rw [if_neg (by omega)]
  have l2:=zu9 (cond:=fun c=>evT c t (p++[0])) (body:=fun c=>evB (p++[1]) 0 b c) (p:=p) (k:=k) he1 hz
  have hL2:HasL lo H2 ((evB (p++[1]) 0 b cj).2.2.length+1):=hLc.on G1 (by show w1.length+_<=_; omega)
  rw [e5]
  refine z0e fun N6 e6=>?_
  walk_at "rd7"
  refine⟨_,SqT.of hva2,_,z1b (j:=3) rfl,by decide,fun p2 h2=>?_⟩
  have s3:=z01 h2 (HO.tup [V.int 1])
  refine zqw (hp2.kp s3.kp) zd4 (by simp; omega) fun z2 H3 s4 dz2=>?_
  have s34:=s3.trans s4
  refine⟨xb,b,z2,_,d,fs,cj,g',q1,lo,rfl,db2.kp s34.kp,dz2,hok.2,by omega,by simp; omega,hq1,s34 _ _ hd2,hkc,hhc,hS2.kp (Same.kpE s34),hL2.same s34,fun r2 H4 g2 hd4 ho4=>?_⟩
  have GB:=GD.trans (((Gr.same s34 hL2).gd).trans g2 (s34 _ _ hd2)) hd2
  have hk4:=zeo b n (p++[1]) 0 cj hok.2 hkc
  have hh4:=zhw b (p++[1]) 0 cj g' q1 hq1 hhc
  rcases hb:evB (p++[1]) 0 b cj with⟨ee,c4,w4⟩
  rw [hb] at hd4 ho4 GB hk4 hh4
  rw [e6]
  refine z0e fun N7 e7=>?_
  walk_at "rd7"
  cases ee with
  | some er=>
   rw [zak (cond:=fun c=>evT c t (p++[0])) (body:=fun c=>evB (p++[1]) 0 b c) he1 hz hb] at ho
   subst ho
   have hne:r2≠.non:=by
    obtain⟨a4,rfl,_⟩:=zeu (r:=Rs.ref er.1 er.2) ho4
    intro z
    cases z
   rw [if_pos (decide_eq_false hne)]
   refine q _ _ ?_ hd4 ho4
   show Gd d lo H H4 (rs++(w1++w4))
   rw [<- y0q]
   exact GB
  | none=>
   rw [zal (cond:=fun c=>evT c t (p++[0])) (body:=fun c=>evB (p++[1]) 0 b c) he1 hz hb] at ho
   cases ho4
   rw [if_neg (by simp),e7]
   walk_at "rd7"
   refine⟨k,by omega,j+1,c4,rs++(w1++w4),_,_,rfl,by omega,?_,hd4,hk4,(hh4 rfl).sub (zhg b g' q1 hq1),?_⟩
   ·rw [<- y0q]
    exact GB
   ·rw [ho]
    simp only[znf,y0q]
end
section
variable{P:yf}{w:yr}{K:y3}{mg:Str->Option y4}{base:Heap}{f:Addr}{fd:yq}
theorem zrn{n:Nat} (F:Fun K "do_deed" "do_deed" z3o f fd) (c_do_set:Callee P w K mg base "do_set" ["deed","path","names","settle"] 8 (zlh ["set"] n)) (c_do_if:Callee P w K mg base "do_if" ["deed","path","names","settle"] (3 * n+9) (zlh ["if"] n)) (c_do_while:Callee P w K mg base "do_while" ["deed","path","names","settle"] (3 * n+9) (zlh ["while"] n)):FnOk P w K mg base CX0 (3 * n+10) f fd ["deed","path","names","settle"] (zlh ["set","if","while"] n):=by
 refine F.ok zrd (fun vs H Q E h=>?_) (fun cdv A outer s H vs Q E hr h=>?_)
 ·obtain⟨v,e,pv,p,d,f,c,g,g',lo,rfl,_⟩:=h
  rfl
 obtain⟨v,e,pv,p,d,fs,c,g,g',lo,rfl,hk,hv,h⟩:=h
 obtain⟨va,xs,rfl,hva⟩:=zv9 hv
 refine⟨_,(z04 (z1x (z0b (gEq hr.units) (z0u z0o (z06 0 rfl z3l) z03 (fun _ _=>rfl)) z0i (z0g _)) (z07 (z0f (z19 c_do_set hr (by omega) (z08 (z06 0 rfl z3l) (z08 (z06 1 rfl z64) (z08 (z06 2 rfl z5g) (z08 (z06 3 rfl z4r) z02)))) zel zvf))) z0k)
 (z04 (z1x (z0b (gEq hr.units) (z0u z0o (z06 0 rfl z3l) z03 (fun _ _=>rfl)) z0i (z0g _)) (z07 (z0f (z19 c_do_if hr (by omega) (z08 (z06 0 rfl z3l) (z08 (z06 1 rfl z64) (z08 (z06 2 rfl z5g) (z08 (z06 3 rfl z4r) z02)))) zft zxw))) z0k)
 (z07 (z0f (z19 c_do_while hr (by omega) (z08 (z06 0 rfl z3l) (z08 (z06 1 rfl z64) (z08 (z06 2 rfl z5g) (z08 (z06 3 rfl z4r) z02)))) zcd zp7))))),z0e fun N1 e1=>?_⟩
 walk_at "rd7"
 refine⟨_,SqT.of hva,_,z1c,_,zp1,?_⟩
 split
 ·rename_i z
  exact⟨_,e,pv,p,d,fs,c,g,g',lo,rfl,by rw [of_decide_eq_true z]; simp,hv,h⟩
 rename_i z1
 rw [e1]
 refine z0e fun N2 e2=>?_
 walk_at "rd7"
 refine⟨_,SqT.of hva,_,z1c,_,zp1,?_⟩
 split
 ·rename_i z
  exact⟨_,e,pv,p,d,fs,c,g,g',lo,rfl,by rw [of_decide_eq_true z]; simp,hv,h⟩
 rename_i z2
 rw [e2]
 walk_at "rd7"
 refine⟨_,e,pv,p,d,fs,c,g,g',lo,rfl,?_,hv,h⟩
 simp only[yz,yt,or_false] at hk |-
 rcases hk with hk | hk | hk
 ·exact absurd (decide_eq_true hk) z1
 ·exact absurd (decide_eq_true hk) z2
 ·exact hk
theorem zol{n:Nat} (F:Fun K "do_block" "do_block" z1n f fd) (b_enumerate:mg "enumerate" = none) (c_do_deed:Callee P w K mg base "do_deed" ["deed","path","names","settle"] (3 * n+10) (zlh ["set","if","while"] n)):FnOk P w K mg base CX0 (3 * n+11) f fd ["block","path","names","settle"] (znw (n+1)):=by
 refine F.ok sc_do_block (fun vs H Q E h=>?_) (fun cdv A outer s H vs Q E hr h=>?_)
 ·obtain⟨v,b,pv,p,d,f,c,g,g',lo,rfl,_⟩:=h
  rfl
 obtain⟨v,b,pv,p,d,fs,c,g,g',lo,rfl,hv,hp,hok,hn,hpl,hkb,hd,hky,hh,hS,hL,q⟩:=h
 obtain⟨ab,xs,rfl,hab,hda⟩:=hv.tupI
 have hxl:xs.length=b.length:=by rw [hda.length,z6p]
 have hout:evB p 0 b c=znf [] (evB p ((0:Nat):Int) (b.drop 0) c):=by rw [List.drop_zero]; rfl
 generalize evB p 0 b c=out at hL q hout
 refine⟨_,(z04 (zag y0r rfl (zjz zb0 b_enumerate (z08 (z06 0 rfl ze2) z02)) (zbz (n:=2) rfl (z0x (z0s (i:=4) sc_do_block.nd rfl zh8) (z0x (z0s (i:=5) sc_do_block.nd rfl zej) z3z)))
 (z04 (z14 (i:=6) sc_do_block.nd rfl zbk (z19 c_do_deed hr (by omega) (z08 (z06 5 rfl zfd) (z08 (z0n z31 (z06 1 rfl zfc) (z12 (z08 (z06 4 rfl zii) z02))) (z08 (z06 2 rfl ze1) (z08 (z06 3 rfl zcq) z02)))) zce zs6) (z05 rfl))
 (z07 (z1x (z0b q0s (z06 6 rfl z65) zew (z0g _)) (z07 (z0f (z06 6 rfl z65))) z0k))))
 (z07 (z0f zew))),z0e fun N1 e1=>?_⟩
 walk_at "rd7"
 refine⟨⟨_,SqT.of hab⟩,?_⟩
 refine zmi (xs:=xs) (BkI H ab pv d fs lo g' b p out) ?start ?lst ?step ?done
 case start=>exact⟨c,g,[],_,_,_,rfl,(Gr.same (Same.refl H) hL).gd,hd,hky,hh,by rw [List.drop_zero]; exact hkb,hout⟩
 case lst=>
  rintro i σ Hc _ ⟨ci,gi,rs,_,_,_,rfl,gd,_⟩
  exact SqT.of (gd.keep hd hab (by intro xs z; cases z) (by intro xs z; cases z))
 case done=>
  rintro σ Hc ⟨ci,gi,rs,_,_,_,rfl,gd,hdc,hkc,hhc,hkb2,ho⟩
  show N1 _ _
  rw [e1]
  walk_at "rd7"
  rw [hxl,List.drop_length,evB] at ho
  subst ho
  refine q _ _ ?_ hdc rfl
  show Gd d lo H Hc (rs++[])
  rw [y06]
  exact gd
 case step=>
  rintro i x σ Hc Tu hx ⟨ci,gi,rs,_,_,_,rfl,gd,hdc,hkc,hhc,hkb2,ho⟩ hT
  obtain⟨e,hbi,dx⟩:=zva hda hx
  have hdo:=hok.2 e (yv hbi)
  rw [zv7 hbi] at ho hkb2
  obtain⟨q1,hq1,hkr⟩:=zxh hkb2
  have s2:=z01 hT (HO.tup [V.int i,x])
  walk_at "rd7"
  refine⟨_,SqT.of z00,rfl,_,_,rfl,_,_,rfl,rfl,by decide,fun p1 h1=>?_⟩
  have s3:=z01 h1 (HO.tup [V.int i])
  have s23:=s2.trans s3
  have kpc:=gd.kp hd
  refine zqw ((hp.kp kpc).kp s23.kp) zd4 (by simp; omega) fun z H1 s4 dz=>?_
  have s24:=s23.trans s4
  have l1:=q0w p i e (b.drop (i+1)) ci
  have lo1:out.2.2.length=rs.length+(evB p i (e::b.drop (i+1)) ci).2.2.length:=by rw [ho,znf,yd]
  have hLc:HasL lo Hc ((evB p i (e::b.drop (i+1)) ci).2.2.length+1):=hL.onD gd (by omega)
  refine⟨x,e,z,_,d,fs,ci,gi,q1,lo,rfl,by cases e<;>simp[D.kind],(dx.kp kpc).kp s24.kp,dz,hdo,by omega,by simp; omega,hq1,s24 _ _ hdc,hkc,hhc,(hS.kp (gd.kpE hd)).kp (Same.kpE s24),(hLc.same s24).mono (by omega),fun r2 H4 g2 hd4 ho4=>?_⟩
  have GB:=gd.trans (((Gr.same s24 hLc).gd).trans g2 (s24 _ _ hdc)) hdc
  have hk4:=zv2 e n (p++[(i:Int)]) ci hdo hkc
  have hh4:=zv3 e (p++[(i:Int)]) ci gi q1 hq1 hhc
  rcases hb:evD (p++[(i:Int)]) e ci with⟨ee,c4,w4⟩
  rw [hb] at hd4 ho4 GB hk4 hh4
  cases ee with
  | some er=>
   rw [zkn hb] at ho
   subst ho
   have hne:r2≠.non:=by
    obtain⟨a4,rfl,_⟩:=zeu (r:=Rs.ref er.1 er.2) ho4
    intro z
    cases z
   show if decide (r2=V.non)=false then Q r2 H4 else _
   rw [if_pos (decide_eq_false hne)]
   exact q _ _ GB hd4 ho4
  | none=>
   rw [zko hb] at ho
   cases ho4
   show if decide (V.non=V.non)=false then Q V.non H4 else _
   rw [if_neg (by simp)]
   refine⟨c4,q1,rs++w4,_,_,_,rfl,GB,hd4,hk4,hh4 rfl,hkr,?_⟩
   rw [ho]
   simp only[znf,y0q]
   rfl
theorem q05{k:Nat}{n1 n2 n3 n4:Str}:FnOk P w K mg base CX0 k f fd [n1,n2,n3,n4] (znw 0):=by
 have no:∀vs H Q E,¬ znw 0 vs H Q E:=fun vs H Q E h=>by
  obtain⟨v,b,pv,p,d,f,c,g,g',lo,_,_,_,h,_⟩:=h
  exact h.elim
 exact⟨fun vs H Q E h=>absurd h (no vs H Q E),fun A outer s H args us vs Q E _ _ _ _ h=>absurd h (no vs H Q E)⟩
theorem zw1{f2 f3 f4 f5:Addr}{fd2 fd3 fd4 fd5:yq} (d:Df K mg "do_block" z1n ["block","path","names","settle"] f fd) (d2:Df K mg "do_deed" z3o ["deed","path","names","settle"] f2 fd2) (d3:Df K mg "do_set" z4g ["deed","path","names","settle"] f3 fd3) (d4:Df K mg "do_if" z5h ["deed","path","names","settle"] f4 fd4) (d5:Df K mg "do_while" z1m ["deed","path","names","settle"] f5 fd5) (b_enumerate:mg "enumerate" = none) (c_reckon:Callee P w K mg base "reckon" ["term","path","names","settle"] 7 (z5p 5)):∀n:Nat,Callee P w K mg base "do_block" ["block","path","names","settle"] (3 * n+8) (znw n)
 | 0=>d.callee q05
 | n+1=>d.callee (zol d.F b_enumerate (d2.callee (zrn d2.F (d3.callee (zty d3.F c_reckon)) (d4.callee (zx0 d4.F c_reckon (zw1 d d2 d3 d4 d5 b_enumerate c_reckon n))) (d5.callee (zok d5.F c_reckon (zw1 d d2 d3 d4 d5 b_enumerate c_reckon n))))))
end
section
variable{P:yf}{w:yr}{K:y3}{mg:Str->Option y4}{base:Heap}{f:Addr}{fd:yq}
def stB:Cnt->List Rw->List Int->Cnt
 | c,r::rs,w::ws=>stB (zjx c r.1 w) rs ws
 | c,_,_=>c
def Fits:List Rw->List Int->Prop
 | [],[]=>True
 | r::rs,w::ws=>r.2.1<=w/\w<=r.2.2/\Fits rs ws
 | _,_=>False
theorem Fits.len:∀{rows:List Rw} {ws:List Int},Fits rows ws->rows.length=ws.length
 | [],[],_=>rfl
 | _::rs,_::ws,h=>by rw [yh,yh,Fits.len h.2.2]
 | [],_::_,h=>h.elim
 | _::_,[],h=>h.elim
theorem Fits.at:∀{rows:List Rw} {ws:List Int} {i:Nat} {r:Rw} {w:Int},Fits rows ws->rows[i]?=some r->ws[i]?=some w->r.2.1<=w/\w<=r.2.2
 | r::rs,w::ws,0,_,_,h,e1,e2=>by
  simp at e1 e2
  subst e1; subst e2
  exact⟨h.1,h.2.1⟩
 | r::rs,w::ws,i+1,_,_,h,e1,e2=>Fits.at h.2.2 (by simpa using e1) (by simpa using e2)
 | [],[],_,_,_,_,e1,_=>by simp at e1
 | [],_::_,_,_,_,h,_,_=>h.elim
 | _::_,[],_,_,_,h,_,_=>h.elim
theorem zpo:∀{rows:List Rw} {ws:List Int} {i:Nat} {r:Rw} {w:Int} (c:Cnt),rows[i]?=some r->ws[i]?=some w->stB c (rows.take (i+1)) (ws.take (i+1))=zjx (stB c (rows.take i) (ws.take i)) r.1 w
 | r::rs,w::ws,0,_,_,c,e1,e2=>by
  simp at e1 e2
  subst e1; subst e2
  simp[stB]
 | r::rs,w::ws,i+1,_,_,c,e1,e2=>by
  have:=zpo (i:=i) (zjx c r.1 w) (show rs[i]?=some _ by simpa using e1) (show ws[i]?=some _ by simpa using e2)
  simpa [stB] using this
 | [],_,_,_,_,_,e1,_=>by simp at e1
 | _::_,[],_,_,_,_,_,e2=>by simp at e2
theorem znt:∀(rows:List Rw) (ws:List Int) (c:Cnt),(∀r∈rows,r.1∈pool)->KeyOk c->KeyOk (stB c rows ws)
 | [],_,c,_,h=>by simpa [stB] using h
 | _::_,[],c,_,h=>by simpa [stB] using h
 | r::rs,w::ws,c,hr,h=>by
  rw [stB]
  exact znt rs ws _ (fun x hx=>hr x (.tail _ hx)) (h.put (hr r (.head _)) w)
theorem zsw:∀(rows:List Rw) (ws:List Int) (c:Cnt) (g:List Str),Fits rows ws->(∀r∈rows,-6<=r.2.1/\r.2.2<=8)->Has c g->Has (stB c rows ws) (g++rows.map (·.1))
 | [],[],c,g,_,_,h=>by simpa [stB] using h
 | r::rs,w::ws,c,g,hf,hr,h=>by
  rw [stB,yn,show g++r.1::rs.map (·.1)=(g++[r.1])++rs.map (·.1) by simp]
  have h1:=hr r (.head _)
  exact zsw rs ws _ _ hf.2.2 (fun x hx=>hr x (.tail _ hx)) (h.put (by have:=hf.1; omega) (by have:=hf.2.1; omega))
 | [],_::_,_,_,h,_,_=>h.elim
 | _::_,[],_,_,h,_,_=>h.elim
theorem zlq{rows:List Rw}(h:okRows rows):∀r∈rows,r.1∈pool:=fun r hr=>by
 have h1:r.1∈rows.map (·.1):=List.mem_map.mpr ⟨r,hr,rfl⟩
 rw [h.nm] at h1
 have h2:=y1k h1
 simp only[pair,yz,yt,or_false] at h2
 rcases h2 with h2 | h2<;>rw [h2]<;>decide+kernel
theorem KeyOk.nil:KeyOk []:=⟨.nil,fun p h=>by simp at h⟩
def zt1:Sp:=fun vs H Q _=>∃(iv wv:V) (rows:List Rw) (ws:List Int),vs=[iv,wv]/\Dt H iv (.tup (rows.map rowEnc))/\Dt H wv (pathD ws)/\okRows rows/\Fits rows ws/\∀(d:Addr) (H':Hp),Same H H'->H d=none->H' d=some (.dK (kvC (stB [] rows ws)))->Q (.ref d) H'
def FsI(H:Hp)(ia wa d:Addr)(rows:List Rw)(ws:List Int)(i:Nat)(σ : St)(Hc:Hp):Prop:=∃(x3 x4:Option V),σ = [some (.ref ia),some (.ref wa),some (.ref d),x3,x4]/\Same H Hc/\Hc d=some (.dK (kvC (stB [] (rows.take i) (ws.take i))))
end
section
variable{P:yf}{w:yr}{K:y3}{mg:Str->Option y4}{base:Heap}{f:Addr}{fd:yq}
theorem zxj{H:Hp}{v:V}{d:Dm}(h:Dt H v d):∃t,TyOf K H v t/\PySem.W.kitOne K t (.type "int")=some (isI d):=⟨_,q4a h,by cases d<;>rfl⟩
theorem zmf{H:Hp}{v:V}{d:Dm}(h:Dt H v d):∃t,TyOf K H v t/\PySem.W.kitOne K t (.type "bool")=some (isB d):=⟨_,q4a h,by cases d<;>rfl⟩
def zou:Dm->Bool
 | .int _=>true
 | _=>false
def zys(d:Dm)(lo hi:Int):Bool:=match d with
 | .int i=>decide (lo<=i) && decide (i<=hi)
 | _=>false
def q30(d:Dm)(n:Int):Bool:=match d with
 | .tup ds=>decide ((ds.length:Int)=n)
 | _=>false
def q52(g:Dm->Bool):Sp:=fun vs H Q _=>∃v d,vs=[v]/\Dt H v d/\∀H',Same H H'->Q (.bl (g d)) H'
theorem zoj(F:Fun K "is_whole" "is_whole" z4x f fd) (b_isinstance:mg "isinstance" = none) (b_int:mg "int" = none) (b_bool:mg "bool" = none):FnOk P w K mg base CX0 1 f fd ["thing"] (q52 zou):=by
 refine F.ok zo1 (fun vs H Q E h=>?_) (fun cdv A outer s H vs Q E hr h=>?_)
 ·obtain⟨v,d,rfl,_⟩:=h
  rfl
 obtain⟨v,d,rfl,hd,q⟩:=h
 refine⟨_,(z07 (z0f (zpz (z4h q0u z4p b_isinstance z1t (z08 (z06 0 rfl z7v) (z08 (zk3 (v:=V.ty "int") zhr b_int q3o rfl q2p q3g) z02)) z1r z1s) (ztk (q29 (z4h q0u z4p b_isinstance z1t (z08 (z06 0 rfl z7v) (z08 (zk3 (v:=V.ty "bool") zfr b_bool q1d rfl q07 q15) z02)) z1r z1s)))))),?_⟩
 walk_at "rd"
 refine⟨_,_,⟨rfl,rfl⟩,_,zxj hd,?_⟩
 have q':=q H (Same.refl _)
 cases d with
 | int i=>exact⟨_,_,⟨rfl,rfl⟩,_,zmf hd,q'⟩
 | bl b=>exact⟨_,_,⟨rfl,rfl⟩,_,zmf hd,q'⟩
 | non=>exact q'
 | str x=>exact q'
 | tup ds=>exact q'
 | lst=>exact q'
def zy7:Sp:=fun vs H Q _=>∃v d lo hi,vs=[v,.int lo,.int hi]/\Dt H v d/\∀H',Same H H'->Q (.bl (zys d lo hi)) H'
theorem zfj(F:Fun K "is_whole_from" "is_whole_from" z29 f fd) (c_is_whole:Callee P w K mg base "is_whole" ["thing"] 1 (q52 zou)):FnOk P w K mg base CX0 2 f fd ["thing","low","high"] zy7:=by
 refine F.ok zfh (fun vs H Q E h=>?_) (fun cdv A outer s H vs Q E hr h=>?_)
 ·obtain⟨v,d,lo,hi,rfl,_⟩:=h
  rfl
 obtain⟨v,d,lo,hi,rfl,hd,q⟩:=h
 refine⟨_,(z07 (z0f (zpz (z19 c_is_whole hr (by omega) (z08 (z06 0 rfl z3a) z02) z7j zp6) (zpz (zk2 q2g (z06 1 rfl zbd) (z06 0 rfl z3a) (z0g _)) (ztk (zk2 q2g (z06 0 rfl z3a) (z06 2 rfl za7) (z0g _))))))),?_⟩
 walk_at "rd"
 refine⟨v,d,rfl,hd,fun H1 s1=>?_⟩
 have q':=q H1 s1
 cases hd with
 | int i=>
  walk_at "rd"
  simp only[zou,if_true]
  replace q':Q (.bl (decide (lo<=i) && decide (i<=hi))) H1:=q'
  split
  ·rename_i hlo
   rw [decide_eq_true hlo,y1c] at q'
   exact q'
  ·rename_i hlo
   rw [decide_eq_false hlo,y1d] at q'
   exact q'
 | _=>exact⟨_,rfl,q'⟩
def zsy:Sp:=fun vs H Q _=>∃v d n,vs=[v,.int n]/\Dt H v d/\∀H',Same H H'->Q (.bl (q30 d n)) H'
theorem zim(F:Fun K "is_tuple_of" "is_tuple_of" z2i f fd) (b_isinstance:mg "isinstance" = none) (b_len:mg "len" = none) (b_tuple:mg "tuple" = none):FnOk P w K mg base CX0 1 f fd ["thing","many"] zsy:=by
 refine F.ok zik (fun vs H Q E h=>?_) (fun cdv A outer s H vs Q E hr h=>?_)
 ·obtain⟨v,d,n,rfl,_⟩:=h
  rfl
 obtain⟨v,d,n,rfl,hd,q⟩:=h
 refine⟨_,(z07 (z0f (zpz (z4h q0u z7k b_isinstance z1t (z08 (z06 0 rfl z5m) (z08 (zk3 (v:=V.ty "tuple") zbr b_tuple zdz rfl zd6 zdv) z02)) z1r z1s) (ztk (zk2 z80 (z4h zqg zdo b_len z74 (z08 (z06 0 rfl z5m) z02) z70 z71) (z06 1 rfl zc4) (z0g _)))))),?_⟩
 walk_at "rd"
 refine⟨_,_,⟨rfl,rfl⟩,_,zrx hd,?_⟩
 have q':=q H (Same.refl _)
 cases hd with
 | tup e r=>
  refine⟨_,q5m (SqT.of e),?_⟩
  rw [r.length]
  exact q'
 | _=>exact q'
theorem zed(F:Fun K "names_at_first" "names_at_first" z0j f fd) (b_len:mg "len" = none) (b_zip:mg "zip" = none) (c_is_tuple_of:Callee P w K mg base "is_tuple_of" ["thing","many"] 1 zsy) (c_is_whole_from:Callee P w K mg base "is_whole_from" ["thing","low","high"] 2 zy7):FnOk P w K mg base CX0 3 f fd ["ins","worths"] zt1:=by
 refine F.ok sc_names_at_first (fun vs H Q E h=>?_) (fun cdv A outer s H vs Q E hr h=>?_)
 ·obtain⟨iv,wv,rows,ws,rfl,_⟩:=h
  rfl
 obtain⟨iv,wv,rows,ws,rfl,hi,hw,hrow,hfit,q⟩:=h
 obtain⟨ia,is,rfl,hia,dia⟩:=hi.tupI
 obtain⟨wa,us,rfl,hwa,dwa⟩:=hw.tupI
 have lis:is.length=rows.length:=by rw [dia.length,y8]
 have lus:us.length=ws.length:=by rw [dwa.length,y8]
 have hlen:=hfit.len
 refine⟨_,(z04 (z1x (zte (zpx (z19 c_is_tuple_of hr (by omega) (z08 (z06 1 rfl z43) (z08 (z4h zqg zat b_len z74 (z08 (z06 0 rfl z53) z02) z70 z71) z02)) z5j zix))) (z07 zd2) z0k)
 (z04 (z14 (i:=2) sc_names_at_first.nd rfl z84 zws (z05 rfl))
 (z04 (zag y0r rfl (zzp zas b_zip (z08 (z06 0 rfl z53) (z08 (z06 1 rfl z43) z02))) (zbz (n:=2) rfl (z0x (z0s (i:=3) sc_names_at_first.nd rfl z9v) (z0x (z0s (i:=4) sc_names_at_first.nd rfl z83) z3z)))
 (z04 (z1x (zte (zpx (z19 c_is_whole_from hr (by omega) (z08 (z06 4 rfl z4a) (z08 (z0u z0o (z06 3 rfl z3i) z03 (fun _ _=>rfl)) (z08 (z0u z0o (z06 3 rfl z3i) z03 (fun _ _=>rfl)) z02))) z4z zfv))) (z07 zd2) z0k)
 (z07 (zoa hr.units1 (z06 2 rfl z4b) (z0u z0o (z06 3 rfl z3i) z03 (fun _ _=>rfl)) (z06 4 rfl z4a) (z05 rfl)))))
 (z07 (z0f (z06 2 rfl z4b)))))),z0e fun N1 e1=>?_⟩
 walk_at "rd7"
 refine⟨_,.inl ⟨ia,is,rfl,.inr (SqT.of hia),rfl⟩,?_⟩
 refine⟨_,_,_,rfl,hw,fun H1 s1=>⟨_,rfl,?_⟩⟩
 have hy:q30 (pathD ws) (is.length:Int)=true:=by
  show decide _=true
  rw [decide_eq_true_eq,y8,lis,hlen]
 rw [if_neg (by rw [hy]; decide)]
 rw [e1]
 refine z0e fun N2 e2=>?_
 walk_at "rd7"
 intro d hdn
 have s2:=z01 hdn (HO.dK [])
 have s12:=s1.trans s2
 have hdf:H d=none:=s1.free hdn
 rw [e2]
 refine z0e fun N3 e3=>?_
 walk_at "rd7"
 refine⟨_,_,⟨rfl,rfl⟩,⟨_,SqT.of (s12 _ _ hia)⟩,⟨_,SqT.of (s12 _ _ hwa)⟩,?_⟩
 refine zxm (xs:=is) (ys:=us) (by omega) (FsI H ia wa d rows ws) ?start ?lst ?step ?done
 case start=>exact⟨_,_,rfl,s12,z00⟩
 case lst=>
  rintro i σ Hc _ ⟨_,_,rfl,sc,_⟩
  exact⟨SqT.of (sc _ _ hia),SqT.of (sc _ _ hwa)⟩
 case done=>
  rintro σ Hc ⟨_,_,rfl,sc,hc⟩
  show N3 _ _
  rw [e3]
  walk_at "rd7"
  rw [lis,y0j,hlen,y0j] at hc
  exact q d Hc sc hdf hc
 case step=>
  rintro i x y σ Hc T hx hy ⟨_,_,rfl,sc,hc⟩ hT
  obtain⟨r,hri,dr⟩:=z59 dia hx
  obtain⟨wd,hwi,dw⟩:=z59 dwa hy
  cases dw
  obtain⟨ra,r0,r1,r2,rfl,hra,t0,t1,t2⟩:=zw2 dr
  cases t0; cases t1; cases t2
  have s3:=z01 hT (HO.tup [V.ref ra,V.int wd])
  have hra3:=s3 _ _ (sc _ _ hra)
  have hf:=hfit.at hri hwi
  have hk:=znt (rows.take i) (ws.take i) [] (fun r hr=>zlq hrow r (y1k hr)) KeyOk.nil
  walk_at "rd7"
  refine⟨_,SqT.of z00,rfl,_,_,rfl,_,_,rfl,rfl,_,rfl,_,SqT.of hra3,_,z1b (j:=1) rfl,_,rfl,_,SqT.of hra3,_,z1b (j:=2) rfl,?_⟩
  refine⟨_,_,_,_,rfl,.int wd,fun H2 s4=>⟨_,rfl,?_⟩⟩
  have hy:zys (.int wd) r.2.1 r.2.2=true:=by
   show(decide (r.2.1<=wd) && decide (wd<=r.2.2))=true
   simp[hf.1,hf.2]
  rw [if_neg (by rw [hy]; decide)]
  have hc4:=s4 _ _ (s3 _ _ hc)
  refine⟨_,rfl,_,SqT.of (s4 _ _ hra3),_,z1c,_,DPut.k (k:=Sum.inr r.1) hc4 ?_,?_⟩
  ·unfold kvC
   rw [y8]
   exact y0w hk.len (by decide)
  ·refine⟨_,_,rfl,z5q (sc.trans (s3.trans s4)) hdf,?_⟩
   rw [z00,zyj,zpo [] hri hwi]
end
section
variable{P:yf}{w:yr}{K:y3}{mg:Str->Option y4}{base:Heap}{f:Addr}{fd:yq}
def zgs(x:Str):Nat:=if x = "a" then 0 else if x = "b" then 1 else if x = "c" then 2 else 3
theorem zt8:(pool.all fun x=>pool.all fun y=>(decide (x.cps.toList < y.cps.toList) == decide (zgs x < zgs y)) && (!(decide (zgs x=zgs y)) || decide (x=y)))=true:=by decide+kernel
theorem zwk{x y:Str}(hx:x∈pool)(hy:y∈pool):decide (x.cps.toList < y.cps.toList)=decide (zgs x < zgs y)/\(zgs x=zgs y->x=y):=by
 have h:=zt8
 rw [List.all_eq_true] at h
 have h1:=h x hx
 rw [List.all_eq_true] at h1
 have h2:=h1 y hy
 rw [yw,Bool.or_eq_true] at h2
 refine⟨beq_iff_eq.mp h2.1,fun e=>?_⟩
 rcases h2.2 with z | z
 ·rw [decide_eq_true e] at z; cases z
 ·exact of_decide_eq_true z
def q5j(o:Out)(H':Hp)(r:V):Prop:=match o.1 with
 | some e=>Dt H' r (Rs.ref e.1 e.2).enc
 | none=>∃ms:Cnt,ms.Perm o.2.1/\ms.Pairwise (fun p q=>zgs p.1 < zgs q.1)/\Dt H' r (.tup [.str "told",.tup (ms.map q2d)])
abbrev evP(rows:List Rw)(b:List D)(ws:List Int):Out:=evB [] 0 b (stB [] rows ws)
def znv:Sp:=fun vs H Q _=>∃(gv wv:V) (rows:List Rw) (b:List D) (ws:List Int) (f:Addr) (g':List Str) (lo:Option Addr),vs=[gv,wv,.ref f]/\Dt H gv (.tup [.tup (rows.map rowEnc),.tup (encB b)])/\Dt H wv (pathD ws)/\okRows rows/\Fits rows ws/\okW 4 b/\kbB (rows.map (·.1)) b=some g'/\SetOk f lo H/\HasL lo H ((evP rows b ws).2.2.length+1)/\
 ∀(r:V) (H':Hp),Gr lo H H' (evP rows b ws).2.2->q5j (evP rows b ws) H' r->Q r H'
theorem Gd.gr{d:Addr}{lo:Option Addr}{H H1 H':Hp}{rs:List RI}(h:Gd d lo H1 H' rs)(s:Same H H1)(hd:H d=none)(hl:∀l,lo=some l->∃xs,H l=some (.lst xs)):Gr lo H H' rs:=by
 refine⟨fun a o n e=>h.1 a o (z0d e hd) n (s _ _ e),fun l e=>?_⟩
 obtain⟨xs,hx⟩:=hl l e
 obtain⟨xs',ys,e1,e2,d2⟩:=h.2 l e
 rw [s _ _ hx] at e1
 cases e1
 exact⟨xs,ys,hx,e2,d2⟩
theorem HasL.has{lo:Option Addr}{H:Hp}{n:Nat}(h:HasL lo H n):∀l,lo=some l->∃xs,H l=some (.lst xs):=fun l e=>by
 obtain⟨xs,hx,_⟩:=h l e
 exact⟨xs,hx⟩
end
section
variable{P:yf}{w:yr}{K:y3}{mg:Str->Option y4}{base:Heap}{f:Addr}{fd:yq}
theorem ztw(F:Fun K "run_by" "run_by" z3h f fd) (b_sorted:mg "sorted" = none) (b_tuple:mg "tuple" = none) (c_names_at_first:Callee P w K mg base "names_at_first" ["ins","worths"] 3 zt1) (c_do_block:Callee P w K mg base "do_block" ["block","path","names","settle"] 20 (znw 4)):FnOk P w K mg base CX0 21 f fd ["program","worths","settle"] znv:=by
 refine F.ok sc_run_by (fun vs H Q E h=>?_) (fun cdv A outer s H vs Q E hr h=>?_)
 ·obtain⟨gv,wv,rows,b,ws,f,g',lo,rfl,_⟩:=h
  rfl
 obtain⟨gv,wv,rows,b,ws,fs,g',lo,rfl,hg,hw,hrow,hfit,hok,hkb,hS,hL,q⟩:=h
 obtain⟨ga,iv,bv,rfl,hga,di,db⟩:=zie hg
 refine⟨_,(z04 (z14 (i:=3) sc_run_by.nd rfl zfk (z19 c_names_at_first hr (by omega) (z08 (z0u z0o (z06 0 rfl z7p) z03 (fun _ _=>rfl)) (z08 (z06 1 rfl zf9) z02)) z8d zer) (z05 rfl))
 (z04 (z14 (i:=4) sc_run_by.nd rfl zda (z19 c_do_block hr (by omega) (z08 (z0u z0o (z06 0 rfl z7p) z03 (fun _ _=>rfl)) (z08 (z12 z02) (z08 (z06 3 rfl za4) (z08 (z06 2 rfl zfa) z02)))) zdh z9f) (z05 rfl))
 (z04 (z1x (z0b q0s (z06 4 rfl z7o) zew (z0g _)) (z07 (z0f (z06 4 rfl z7o))) z0k)
 (z07 (z0f (z12 (z08 z0i (z08 (ztp z5u zhq b_tuple zdz (z08 (z4h (zfx rfl) zfq b_sorted zn8 (z08 (zwq (z06 3 rfl za4)) z02) zm4 zmr) z02) zd6 zdv) z02)))))))),z0e fun N1 e1=>?_⟩
 walk_at "rd7"
 refine⟨_,SqT.of hga,_,z1c,iv,wv,rows,ws,rfl,di,hw,hrow,hfit,fun d H1 s1 hdn hd=>?_⟩
 rw [e1]
 refine z0e fun N2 e2=>?_
 walk_at "rd7"
 refine⟨_,SqT.of (s1 _ _ hga),_,z1b (j:=1) rfl,y05 _,fun p0 hp0=>?_⟩
 have s2:=z01 hp0 (HO.tup [])
 have s12:=s1.trans s2
 have hky:=znt rows ws [] (zlq hrow) KeyOk.nil
 have hh:=zsw rows ws [] [] hfit (fun r hr=>⟨(hrow.lo r hr).1,(hrow.lo r hr).2.2⟩) (fun x hx=>by simp at hx)
 rw [List.nil_append] at hh
 refine⟨bv,b,.ref p0,[],d,fs,stB [] rows ws,_,g',lo,rfl,db.kp s12.kp,.tup z00 .nil,hok,by decide,by decide,hkb,s2 _ _ hd,hky,hh,hS.kp (Same.kpE s12),hL.same s12,fun r H3 gd hd3 ho=>?_⟩
 have G:Gr lo H H3 (evP rows b ws).2.2:=gd.gr s12 hdn hL.has
 have hk3:=zeo b 4 [] 0 _ hok hky
 rw [e2]
 refine z0e fun N3 e3=>?_
 walk_at "rd7"
 change q4j (evP rows b ws).1 H3 r at ho
 change H3 d=some (.dK (kvC (evP rows b ws).2.1)) at hd3
 change KeyOk (evP rows b ws).2.1 at hk3
 rcases hout:evP rows b ws with⟨oo,cc,rr⟩
 rw [hout] at ho hd3 hk3 G q
 cases oo with
 | some er=>
  have hne:r≠.non:=by
   obtain⟨a4,rfl,_⟩:=zeu (r:=Rs.ref er.1 er.2) ho
   intro z
   cases z
  rw [if_pos (decide_eq_false hne)]
  exact q _ _ G ho
 | none=>
  cases ho
  rw [if_neg (by simp),e3]
  walk_at "rd7"
  refine⟨_,hd3,fun p hp=>?_⟩
  have s6:=z01 hp (zc0 p d)
  refine⟨p,d,cc,zgs,rfl,z00,s6 _ _ hd3,y0w hk3.len (by decide),fun x hx y hy=>zwk (hk3.2 x hx) (hk3.2 y hy),fun l7 H7 wt mt s7 f7 h7 d7 pm7 pw7=>?_⟩
  refine⟨_,rfl,_,.inl ⟨SqL.of h7,fun l8 h8=>⟨by decide,fun p9 h9=>?_⟩⟩⟩
  have s8:=z01 h8 (HO.tup wt)
  have s9:=z01 h9 (HO.tup [V.str "told",V.ref l8])
  have s69:=s6.trans (s7.trans (s8.trans s9))
  have hL3:HasL lo H3 0:=by
   have:=hL.on G (m:=0) (by rw [hout]; show rr.length+0<=rr.length+1; omega)
   exact this
  have GG:=G.trans (Gr.same s69 hL3)
  rw [y06] at GG
  exact q _ _ GG ⟨mt,pm7,pw7,.tup z00 (.cons (.str _) (.cons (.tup (s9 _ _ z00) (d7.kp (s8.trans s9).kp)) .nil))⟩
end
section
variable{P:yf}{w:yr}{K:y3}{mg:Str->Option y4}{base:Heap}{f:Addr}{fd:yq}
structure FunC(K:y3)(x qual:Str)(st:Stmt)(f:Addr)(fd:yq)(c:Addr):Prop where
 ex:∃(oc:y4) (od:Option Addr) (kV doc pm:y4) (an:Option Addr) (ct:y4) (osl:Array (Option y4)),
  fd=PySem.W.fnOf x qual (defArgs st) (defBody st) (defScope st) .none kV doc pm an (.ref c) ct/\K.lookup f=some ⟨oc,od,.func fd,osl⟩/\PySem.W.codeIn K (.ref c) qual=true
 kp:PySem.W.keepIn K (.ref f)=true
theorem FunC.ok{P:yf}{w:yr}{K:y3}{mg:Str->Option y4}{base:Heap}{x qual:Str}{st:Stmt}{f c:Addr}{fd:yq}{N ps:List Str}{k:Nat}{sp:Sp}(F:FunC K x qual st f fd c)(S:FnScope N ps (defScope st))(len:∀vs H Q E,sp vs H Q E->vs.length=ps.length)
  (hbody:∀(A:y01) (outer:List PySem.Env) (s:y9) (H:Hp) (vs:List V) (Q:VK) (E:XK),Room k (A.deeper (PyProof.Rows.envOfC qual (defScope st) s.heap.objs.size f (.ref c)))->sp vs H Q E->
   ∃t,PSs (z9g CX0 P w K mg base N qual (defScope st) f (.ref c) A outer s H E).nox (defBody st) t/\t {nx:=fun _ H'=>Q .non H',rt:=Q} (L2.start N vs) H):FnOk P w K mg base CX0 (k+1) f fd ps sp:=by
 obtain⟨oc,od,kV,doc,pm,an,ct,osl,rfl,lk,hcd⟩:=F.ex
 refine q0v lk hcd S len fun A outer s H vs Q E hr hsp=>?_
 obtain⟨t,h,q⟩:=hbody A outer s H vs Q E hr hsp
 exact⟨t,h.nox,q⟩
def TabAt(pt:Addr)(pos:Pos)(q:Str)(H:Hp):Prop:=H pt=some (.tbl #[])\/∃c',H pt=some (.tbl (#[] ++ #[rawInt pos.line,rawInt pos.col,.ref c']))/\H c'=some (zb6 c' q)
theorem SameB.kpT{pt:Addr}{ps:Array y4}{H H':Hp}(h:SameB pt H H')(hp:H pt=some (.tbl ps)):Kp H H':=
 ⟨fun b xs e=>h b _ (z4y e hp (by intro z; cases z)) e,fun b xs e=>⟨xs,h b _ (z4y e hp (by intro z; cases z)) e⟩⟩
abbrev posT:Pos:=q2u (q59 z2h)
def zji(pt:Addr):Sp:=fun vs H Q _=>∃(gv wv:V) (rows:List Rw) (b:List D) (ws:List Int) (g':List Str),vs=[gv,wv]/\Dt H gv (.tup [.tup (rows.map rowEnc),.tup (encB b)])/\Dt H wv (pathD ws)/\okRows rows/\Fits rows ws/\okW 4 b/\kbB (rows.map (·.1)) b=some g'/\(evP rows b ws).2.2.length+1 < sizeLine/\TabAt pt posT dT.qual H/\
 ∀(l:Addr) (ys:List V) (H':Hp),SameB pt H H'->H l=none->TabAt pt posT dT.qual H'->H' l=some (.lst ys)->DtA H' ys ((evP rows b ws).2.2.map rowI)->Q (.ref l) H'
theorem zog(pos:Pos)(c':Addr):TriplesOk (#[] ++ #[rawInt pos.line,rawInt pos.col,Value.ref c']).toList:=by simp[TriplesOk,rawInt]
theorem ztu(pos:Pos)(c':Addr):codeAmong pos (#[] ++ #[rawInt pos.line,rawInt pos.col,Value.ref c']).toList=some (.ref c'):=by simp[codeAmong,rawInt]
theorem zxe{pt:Addr}{pos:Pos}{D:LamD}{cl:List (Str×Addr)}{σ : St}{H:Hp}{Q:VK}(hT:TabAt pt pos D.qual H)(q:∀(fa c':Addr) (H2:Hp),SameB pt H H2->Kp H H2->H fa=none->H2 fa=some (zq8 D cl fa c')->H2 c'=some (zb6 c' D.qual)->TabAt pt pos D.qual H2->Q (.ref fa) H2):q41 pt pos D cl σ H Q:=by
 rcases hT with hT | ⟨c',hT,hc'⟩
 ·refine⟨#[],hT,trivial,.inl ⟨rfl,fun c' fa h1 h2 hne=>?_⟩⟩
  have n1:pt≠c':=z0d hT h1
  have n2:pt≠fa:=z0d hT h2
  have sB:SameB pt H (upd (upd (upd H pt (.tbl (#[] ++ #[rawInt pos.line,rawInt pos.col,.ref c']))) c' (zb6 c' D.qual)) fa (zq8 D cl fa c')):=fun a o n e=>by rw [z09 (z0d e h2),z09 (z0d e h1),z09 n]; exact e
  exact q fa c' _ sB (sB.kpT hT) h2 z00 (by rw [z09 hne,z00]) (.inr ⟨c',by rw [z09 n2,z09 n1,z00],by rw [z09 hne,z00]⟩)
 ·refine⟨_,hT,zog pos c',.inr ⟨c',ztu pos c',hc',fun fa h1=>?_⟩⟩
  have s1:=z01 h1 (zq8 D cl fa c')
  exact q fa c' _ (SameB.of s1) s1.kp h1 z00 (s1 _ _ hc') (.inr ⟨c',s1 _ _ hT,s1 _ _ hc'⟩)
theorem TabAt.kp{pt:Addr}{pos:Pos}{q:Str}{H H':Hp}(h:TabAt pt pos q H)(k:∀a o,(∀xs,o≠.lst xs)->H a=some o->H' a=some o):TabAt pt pos q H':=by
 rcases h with h | ⟨c',h1,h2⟩
 ·exact .inl (k _ _ (by intro xs z; cases z) h)
 ·exact .inr ⟨c',k _ _ (by intro xs z; cases z) h1,k _ _ (by intro xs z; cases z) h2⟩
end
section
variable{P:yf}{w:yr}{K:y3}{mg:Str->Option y4}{base:Heap}{f:Addr}{fd:yq}
theorem ztv{c pt:Addr} (F:FunC K "traced" "traced" z2h f fd c) (hC:PySem.W.CodeHd base c pt) (hB:base.BuiltinsAt mg pt) (hgP:mainGlobals≠pt) (c_run_by:Callee P w K mg base "run_by" ["program","worths","settle"] 21 znv):FnOk P w K mg base CX0 22 f fd ["program","worths"] (zji pt):=by
 refine F.ok sc_traced (fun vs H Q E h=>?_) (fun A outer s H vs Q E hr h=>?_)
 ·obtain⟨gv,wv,rows,b,ws,g',rfl,_⟩:=h
  rfl
 obtain⟨gv,wv,rows,b,ws,g',rfl,hg,hw,hrow,hfit,hok,hkb,hz,hT,q⟩:=h
 have hcl_rows:(z9g CX0 P w K mg base ["program","worths","rows"] "traced" (defScope z2h) f (.ref c) A outer s H E).nox.env.cells.lookup ("rows" : Str)=some (s.heap.objs.size+1):=rfl
 refine⟨_,(z04 (z14 (i:=2) sc_traced.nd rfl zh7 (z2v z02) (z05 rfl))
 (z04 (z77 (ztn (i:=2) c_run_by hr (by omega) (z08 (z06 0 rfl ze0) (z08 (z06 1 rfl zf7) (z08 (zyl (c:=c) (P:=pt) rfl rfl rfl hC hB hgP) z02))) rfl hcl_rows zfw rfl zfo zve) (z05 rfl))
 (z07 (z0f (z06 2 rfl zig))))),z0e fun N1 e1=>?_⟩
 walk_at "rd7"
 refine⟨y05 _,fun l hl=>?_⟩
 have s1:=z01 hl (HO.lst [])
 have hll:(upd H l (HO.lst [])) l=some (.lst []):=z00
 generalize upd H l (HO.lst [])=H1 at s1 hll |-
 rw [e1]
 refine z0e fun N2 e2=>?_
 walk_at "rd7"
 show zgi znv (s.heap.objs.size+1) 2 (zcu (zif 0) (zcu (zif 1) (zcu (q41 pt posT dT [("rows",s.heap.objs.size+1)]) zni))) [some gv,some wv,some (V.ref l)] H1 fun x H1=>N2 [some gv,some wv,some (V.ref l)] H1
 clear hcl_rows
 generalize s.heap.objs.size+1=cc
 simp only[zgi]
 walk_at "rd7"
 have hT1:TabAt pt posT dT.qual H1:=hT.kp fun a o _ e=>s1 _ _ e
 have nlp:l≠pt:=fun z=>by
  rcases hT with h | ⟨_,h,_⟩<;>(rw [<- z,hl] at h; cases h)
 refine zxe hT1 fun fa c' H2 sB kp hfa hf hc hT2=>?_
 refine fun o u hd ru hcn=>?_
 cases ru
 have s3:=z01 hcn (z3x cc o)
 have hcc:(upd H2 cc (z3x cc o)) cc=some (z3x cc o):=z00
 have hl2:=sB l _ nlp hll
 have nlc:l≠cc:=z0d hl2 hcn
 have kpA:=s1.kp.trans (kp.trans s3.kp)
 refine⟨gv,wv,rows,b,ws,fa,g',some l,rfl,hg.kp kpA,hw.kp kpA,hrow,hfit,hok,hkb,⟨c',cc,o,s3 _ _ hf,s3 _ _ hc,hcc,hd⟩,fun l' z=>?_,fun r H4 G ho=>?_⟩
 ·cases z
  exact⟨[],s3 _ _ hl2,by simpa using hz⟩
 have hcc4:=G.keep hcc (by intro xs z; unfold z3x at z; cases z)
 refine⟨hcc4,?_⟩
 obtain⟨xs,ys,e3,e4,d4⟩:=G.2 l rfl
 rw [s3 _ _ hl2] at e3
 cases e3
 have out:∀{a:Addr} {o':HO},H4 a=some o'->H2 a≠none->zhn [cc] H4 a=some o':=fun {a o'} e n=>by
  rw [z1p (fun z=>n (by rw [List.mem_singleton.mp z]; exact hcn))]
  exact e
 rw [e2]
 walk_at "rd7"
 refine q l ys _ (fun a o' n e=>?_) hl (hT2.kp fun a o' n e=>out (G.keep (s3 _ _ e) n) (by rw [e]; simp)) ?_ (d4.kp (zue hcc4))
 ·have h2:=sB a o' n (s1 _ _ e)
  exact out (G.1 a o' (fun z=>by cases z; rw [hl] at e; cases e) (s3 _ _ h2)) (by rw [h2]; simp)
 ·exact out (by simpa using e4) (by rw [hl2]; simp)
end
section
variable{P:yf}{w:yr}{K:y3}{mg:Str->Option y4}{base:Heap}{f:Addr}{fd:yq}
structure TrC(K:y3)(C:Addr):Prop where
 c:Cls K C
 np:NoAttr K C "program"
 nw:NoAttr K C "worths"
 nr:NoAttr K C "rows"
 nd:NoAttr K C "done"
abbrev trF(gv wv:V)(l:Addr)(k:Int):List (Str×V):=[("program",gv),("worths",wv),("rows",.ref l),("done",.int k)]
def zt0(p2 C:Addr):Sp:=fun vs H Q _=>∃(x dx:Addr) (gv wv:V) (rows:List Rw) (b:List D) (ws:List Int) (g':List Str),vs=[.ref x,gv,wv]/\H x=some (.ins C dx [])/\Dt H gv (.tup [.tup (rows.map rowEnc),.tup (encB b)])/\Dt H wv (pathD ws)/\okRows rows/\Fits rows ws/\okW 4 b/\kbB (rows.map (·.1)) b=some g'/\(evP rows b ws).2.2.length+1 < sizeLine/\TabAt p2 posT dT.qual H/\
 ∀(l:Addr) (ys:List V) (H':Hp),(∀a o,a≠p2->a≠x->H a=some o->H' a=some o)->TabAt p2 posT dT.qual H'->H' x=some (.ins C dx (trF gv wv l 0))->H l=none->H' l=some (.lst ys)->DtA H' ys ((evP rows b ws).2.2.map rowI)->Q .non H'
def q4d(C:Addr):Sp:=fun vs H Q _=>∃(x dx l:Addr) (gv wv:V) (ys:List V) (k:Nat) (y:V),vs=[.ref x]/\H x=some (.ins C dx (trF gv wv l k))/\H l=some (.lst ys)/\ys[k]?=some y/\Q y (upd H x (.ins C dx (trF gv wv l (k+1))))
def zps(C:Addr):Sp:=fun vs H Q _=>∃(x dx l:Addr) (gv wv:V) (ys:List V) (k:Int),vs=[.ref x]/\H x=some (.ins C dx (trF gv wv l k))/\H l=some (.lst ys)/\∀p,H p=none->Q (.ref p) (upd H p (.tup [.int k,.int (ys.length - k)]))
theorem ne_fields:(("done" : Str) == "program")=false/\(("done" : Str) == "worths")=false/\(("done" : Str) == "rows")=false/\(("rows" : Str) == "program")=false/\(("rows" : Str) == "worths")=false/\(("worths" : Str) == "program")=false:=by decide+kernel
theorem z4j{gv wv:V}{l:Addr}{k:Int}:(trF gv wv l k).lookup ("done" : Str)=some (V.int k):=by
 simp only[trF,List.lookup,ne_fields.1,ne_fields.2.1,ne_fields.2.2.1,beq_self_eq_true]
theorem z7f{gv wv:V}{l:Addr}{k:Int}:(trF gv wv l k).lookup ("rows" : Str)=some (V.ref l):=by
 simp only[trF,List.lookup,ne_fields.2.2.2.1,ne_fields.2.2.2.2.1,beq_self_eq_true]
theorem zm9{gv wv:V}{l:Addr}{k:Int}:(trF gv wv l k).lookup ("worths" : Str)=some wv:=by
 simp only[trF,List.lookup,ne_fields.2.2.2.2.2,beq_self_eq_true]
theorem zek{gv wv:V}{l:Addr}{k:Int}:(trF gv wv l k).lookup ("program" : Str)=some gv:=by
 simp only[trF,List.lookup,beq_self_eq_true]
theorem ne_fields2:(("program" : Str)≠"done"/\("worths" : Str)≠"done"/\("rows" : Str)≠"done")/\("program" : Str)≠"rows"/\("worths" : Str)≠"rows"/\("program" : Str)≠"worths":=by decide+kernel
theorem zg0{gv wv:V}{l:Addr}{k j:Int}:z52 ("done" : Str) (.int j) (trF gv wv l k)=trF gv wv l j:=by
 simp only[trF,z52,ne_fields2.1.1,ne_fields2.1.2.1,ne_fields2.1.2.2,if_false,if_true]
theorem zzn{gv wv:V}{l:Addr}:z52 ("done" : Str) (.int 0) (z52 ("rows" : Str) (.ref l) (z52 ("worths" : Str) wv (z52 ("program" : Str) gv [])))=trF gv wv l 0:=by
 simp only[trF,z52,ne_fields2.1.1,ne_fields2.1.2.1,ne_fields2.1.2.2,ne_fields2.2.1,ne_fields2.2.2.1,ne_fields2.2.2.2,if_false]
theorem TabAt.ins{pt x C dx:Addr}{pos:Pos}{q:Str}{H:Hp}{fs:List (Str×V)}{o:HO}(h:TabAt pt pos q H)(hx:H x=some (.ins C dx fs)):TabAt pt pos q (upd H x o):=by
 rcases h with h | ⟨c',h,hc⟩
 ·exact .inl (by rw [z09 (z4y h hx (by intro z; cases z))]; exact h)
 ·refine .inr ⟨c',by rw [z09 (z4y h hx (by intro z; cases z))]; exact h,by rw [z09 (z4y hc hx (by intro z; unfold zb6 at z; cases z))]; exact hc⟩
theorem zhe{x C dx:Addr}{H:Hp}{fs:List (Str×V)}{o:HO}(hx:H x=some (.ins C dx fs)):Kp H (upd H x o):=
 ⟨fun b xs e=>by rw [z09 (z4y e hx (by intro z; cases z))]; exact e,fun b xs e=>⟨xs,by rw [z09 (z4y e hx (by intro z; cases z))]; exact e⟩⟩
theorem zjw(f:Str)(v:V):∀fs:List (Str×V),(z52 f v fs).length<=fs.length+1
 | []=>by simp[z52]
 | (g,x)::r=>by
  unfold z52
  split
  ·simp
  ·have:=zjw f v r
   simp only[yh]
   omega
theorem TabAt.tb{pt:Addr}{pos:Pos}{q:Str}{H:Hp}(h:TabAt pt pos q H):∃ps,H pt=some (.tbl ps):=by
 rcases h with h | ⟨c',h,_⟩
 ·exact⟨_,h⟩
 ·exact⟨_,h⟩
end
local macro_rules | `(tactic| walk_at "rd11")=>`(tactic| simp only[↓zpj,↓zpi,↓zco,↓zcn,↓zgn,↓zgm,↓z8y,↓z8x,↓z90,↓z8z,↓zow,↓zez,↓zhk,zov,zhl,zhj,zph,zad,zza,zz9,zns,q09,q08,q0e,q0d,q1h,q1g,q21,q25,zgb,zr5,zgg,z7z,zr3,zr4,zgc,zev,q1t,ze9,zgd,z4u,znh,znj,zij,tOp,zif,tC,zwd,z7l,zuu,zfu,zw4,zy2,znm,zla,zl9,tCB,zcu,zni,zlc,tUn,rU,rI0,rI,zy5,tOr,zy3,tB,zld,zz4,zl8,tIf,zz6,znn,zgf,zlb,zge,zln,zet,znp,zct,znr,tSl,zaa,zl7,zzf,zc5,zgt,zo8,zls,z6b,z5v,z8t,z69,z6e,z6s,zi4,z33,z50,zck,z6t,z40,z34,z41,z9h,z6u,z42,z4s,zgh,zyd,tDX,zz7,zy1,zy4,tBM,
 qEq,qNe,qIn,zd0,zyi,zlr,zzk,zo5,zyh,zlt,zw3,zyg,zo6,zo7,zgu,rIx,zta,zpv,zye,zyf,zzg,zo3,zzi,zzh,zaf,zae,zes,zgj,zsu,
 z8u,z57,z6a,z6c,z4t,z6d,zi5,z51,z9i,Nat.reduceAdd,Nat.reduceSub,Nat.add_zero,y1v,y1r,
 y0p,y15,y1o,y1p,y1s,y1h,V.int.injEq,V.ref.injEq,V.str.injEq,V.bl.injEq,V.ty.injEq,
 reduceCtorEq,false_and,and_false,and_true,true_and,exists_false,exists_const,false_or,or_false,exists_eq_left,exists_eq_left',exists_eq_right,exists_eq_right',exists_and_left,decide_eq_true_eq,y09,y1m,exists_eq,true_or,or_true,y0h,if_true,if_false,y1q,y1w,y21,decide_true,decide_false,y1u,y1z,y1c,y1d,bne_self_eq_false,beq_self_eq_true])
section
variable{P:yf}{w:yr}{K:y3}{mg:Str->Option y4}{base:Heap}{f:Addr}{fd:yq}
theorem zh3{C:Addr} (F:Fun K "passed" "Trace.passed" z25 f fd) (b_len:mg "len" = none) (t:TrC K C):FnOk P w K mg base CX0 1 f fd ["self"] (zps C):=by
 refine F.ok zgo (fun vs H Q E h=>?_) (fun cdv A outer s H vs Q E hr h=>?_)
 ·obtain⟨x,dx,l,gv,wv,ys,k,rfl,_⟩:=h
  rfl
 obtain⟨x,dx,l,gv,wv,ys,k,rfl,hx,hl,q⟩:=h
 refine⟨_,(z07 (z0f (z12 (z08 (z1y (z06 0 rfl z3v) rfl) (z08 (z0n z6k (z4h zqg zcg b_len z74 (z08 (z1y (z06 0 rfl z3v) rfl) z02) z70 z71) (z1y (z06 0 rfl z3v) rfl)) z02))))),?_⟩
 walk_at "rd11"
 exact⟨_,_,_,hx,t.c,t.nd,_,z4j,_,_,_,hx,t.c,t.nr,_,z7f,_,zsi (SqL.of hl),_,_,_,hx,t.c,t.nd,_,z4j,_,rfl,by decide,q⟩
theorem zon{C:Addr} (F:Fun K "go" "Trace.go" z38 f fd) (b_len:mg "len" = none) (t:TrC K C):FnOk P w K mg base CX0 1 f fd ["self"] (q4d C):=by
 refine F.ok zgq (fun vs H Q E h=>?_) (fun cdv A outer s H vs Q E hr h=>?_)
 ·obtain⟨x,dx,l,gv,wv,ys,k,y,rfl,_⟩:=h
  rfl
 obtain⟨x,dx,l,gv,wv,ys,k,y,rfl,hx,hl,hy,q⟩:=h
 refine⟨_,(z04 (z1x (z0b z80 (z1y (z06 0 rfl z0r) rfl) (z4h zqg zb3 b_len z74 (z08 (z1y (z06 0 rfl z0r) rfl) z02) z70 z71) (z0g _)) (z07 zd2) z0k)
 (z04 (zby (f:="done") (z06 0 rfl z0r) (z0n z1a (z1y (z06 0 rfl z0r) rfl) z03) (z05 rfl))
 (z07 (z0f (z0u z2t (z1y (z06 0 rfl z0r) rfl) (z0n z6k (z1y (z06 0 rfl z0r) rfl) z03) (fun _ _=>rfl)))))),z0e fun N1 e1=>?_⟩
 walk_at "rd11"
 have hk:k < ys.length:=(List.getElem?_eq_some_iff.mp hy).1
 refine⟨_,_,_,hx,t.c,t.nd,_,z4j,_,_,_,hx,t.c,t.nr,_,z7f,_,zsi (SqL.of hl),_,rfl,?_⟩
 rw [if_neg (by omega),e1]
 refine z0e fun N2 e2=>?_
 walk_at "rd11"
 refine⟨_,_,_,hx,t.c,t.nd,_,z4j,_,rfl,_,_,_,hx,t.c,t.nd,by simp,?_⟩
 rw [zg0,e2]
 have nl:l≠x:=z4y hl hx (by intro z; cases z)
 have hl2:(upd H x (HO.ins C dx (trF gv wv l (k+1)))) l=some (.lst ys):=by rw [z09 nl]; exact hl
 walk_at "rd11"
 refine⟨_,_,_,z00,t.c,t.nr,_,z7f,_,_,_,z00,t.c,t.nd,_,z4j,_,rfl,?_⟩
 rw [show((k:Int)+1 - 1)=(k:Int) by omega]
 exact⟨l,rfl,_,SqL.of hl2,y,z1b hy,q⟩
theorem zk8{p2 C:Addr} (F:Fun K "__init__" "Trace.__init__" z26 f fd) (t:TrC K C) (c_traced:Callee P w K mg base "traced" ["program","worths"] 22 (zji p2)):FnOk P w K mg base CX0 23 f fd ["self","program","worths"] (zt0 p2 C):=by
 refine F.ok zjq (fun vs H Q E h=>?_) (fun cdv A outer s H vs Q E hr h=>?_)
 ·obtain⟨x,dx,gv,wv,rows,b,ws,g',rfl,_⟩:=h
  rfl
 obtain⟨x,dx,gv,wv,rows,b,ws,g',rfl,hx,hg,hw,hrow,hfit,hok,hkb,hz,hT,q⟩:=h
 refine⟨_,(z04 (zby (f:="program") (z06 0 rfl z3g) (z06 1 rfl z56) (z05 rfl))
 (z04 (zby (f:="worths") (z06 0 rfl z3g) (z06 2 rfl z5n) (z05 rfl))
 (z04 (zby (f:="rows") (z06 0 rfl z3g) (z19 c_traced hr (by omega) (z08 (z06 1 rfl z56) (z08 (z06 2 rfl z5n) z02)) zbu zhz) (z05 rfl))
 (z07 (zby (f:="done") (z06 0 rfl z3g) z03 (z05 rfl)))))),z0e fun N1 e1=>?_⟩
 walk_at "rd11"
 refine⟨_,_,_,hx,t.c,t.np,by decide,?_⟩
 rw [e1]
 refine z0e fun N2 e2=>?_
 walk_at "rd11"
 have hx1:(upd H x (HO.ins C dx (z52 ("program" : Str) gv []))) x=some (.ins C dx (z52 ("program" : Str) gv [])):=z00
 have k1:Kp H (upd H x (HO.ins C dx (z52 ("program" : Str) gv []))):=zhe hx
 have hT1:TabAt p2 posT dT.qual (upd H x (HO.ins C dx (z52 ("program" : Str) gv []))):=hT.ins hx
 have m1:∀a o,a≠x->H a=some o->(upd H x (HO.ins C dx (z52 ("program" : Str) gv []))) a=some o:=fun a o n e=>by rw [z09 n]; exact e
 generalize upd H x (HO.ins C dx (z52 ("program" : Str) gv []))=H1 at hx1 k1 hT1 m1 |-
 refine⟨_,_,_,hx1,t.c,t.nw,by simp[z52],?_⟩
 have hx2:(upd H1 x (HO.ins C dx (z52 ("worths" : Str) wv (z52 ("program" : Str) gv [])))) x=some (.ins C dx (z52 ("worths" : Str) wv (z52 ("program" : Str) gv []))):=z00
 have k2:Kp H1 (upd H1 x (HO.ins C dx (z52 ("worths" : Str) wv (z52 ("program" : Str) gv [])))):=zhe hx1
 have hT2:TabAt p2 posT dT.qual (upd H1 x (HO.ins C dx (z52 ("worths" : Str) wv (z52 ("program" : Str) gv [])))):=hT1.ins hx1
 have m2:∀a o,a≠x->H1 a=some o->(upd H1 x (HO.ins C dx (z52 ("worths" : Str) wv (z52 ("program" : Str) gv [])))) a=some o:=fun a o n e=>by rw [z09 n]; exact e
 generalize upd H1 x (HO.ins C dx (z52 ("worths" : Str) wv (z52 ("program" : Str) gv [])))=H2 at hx2 k2 hT2 m2 |-
 rw [e2]
 refine z0e fun N3 e3=>?_
 walk_at "rd11"
 refine⟨gv,wv,rows,b,ws,g',rfl,(hg.kp k1).kp k2,(hw.kp k1).kp k2,hrow,hfit,hok,hkb,hz,hT2,fun l ys H3 sB hln hT3 hl dys=>?_⟩
 obtain⟨ps,hps⟩:=hT2.tb
 have hx3:=sB _ _ (z4y hx2 hps (by intro z; cases z)) hx2
 have l1:=zjw "program" gv []
 have l2:=zjw "worths" wv (z52 ("program" : Str) gv [])
 have l3:=zjw "rows" (V.ref l) (z52 ("worths" : Str) wv (z52 ("program" : Str) gv []))
 simp only[y1g] at l1
 have nlx:l≠x:=z4y hl hx3 (by intro z; cases z)
 refine⟨_,_,_,hx3,t.c,t.nr,by omega,?_⟩
 rw [e3]
 walk_at "rd11"
 refine⟨_,_,_,z00,t.c,t.nd,by omega,?_⟩
 rw [zzn]
 have hx4:(upd H3 x (HO.ins C dx (z52 ("rows" : Str) (V.ref l) (z52 ("worths" : Str) wv (z52 ("program" : Str) gv []))))) x=some (.ins C dx (z52 ("rows" : Str) (V.ref l) (z52 ("worths" : Str) wv (z52 ("program" : Str) gv [])))):=z00
 refine q l ys _ (fun a o n1 n2 e=>?_) ((hT3.ins hx3).ins hx4) z00 ?_ ?_ ((dys.kp (zhe hx3)).kp (zhe hx4))
 ·rw [z09 n2,z09 n2]
  exact sB _ _ n1 (m2 _ _ n2 (m1 _ _ n2 e))
 ·cases hHl:H l with
  | none=>rfl
  | some o=>
   have:=m2 _ _ nlx (m1 _ _ nlx hHl)
   rw [hln] at this
   cases this
 ·rw [z09 nlx,z09 nlx]
  exact hl
end
section
variable{P:yf}{w:yr}{K:y3}{mg:Str->Option y4}{base:Heap}{f:Addr}{fd:yq}
def zt3(C:Addr):Sp:=fun vs H Q _=>∃(x dx l:Addr) (gv wv:V) (ys:List V) (k:Nat) (y:V),vs=[.ref x]/\H x=some (.ins C dx (trF gv wv l (k+1)))/\H l=some (.lst ys)/\ys[k]?=some y/\Q y (upd H x (.ins C dx (trF gv wv l k)))
def q23(C N:Addr):Sp:=fun vs H _ E=>∃(x dx l:Addr) (gv wv:V) (ys:List V),vs=[.ref x]/\H x=some (.ins C dx (trF gv wv l ys.length))/\H l=some (.lst ys)/\E (.ref N) none H
def zt2(C N:Addr):Sp:=fun vs H _ E=>∃(x dx l:Addr) (gv wv:V),vs=[.ref x]/\H x=some (.ins C dx (trF gv wv l 0))/\E (.ref N) none H
abbrev q4p:List y4:=[.type "ValueError",.type "Exception",.type "BaseException",.type "object"]
end
section
variable{P:yf}{w:yr}{K:y3}{mg:Str->Option y4}{base:Heap}{f:Addr}{fd:yq}
theorem zk9{C:Addr} (F:Fun K "back" "Trace.back" z2j f fd) (t:TrC K C):FnOk P w K mg base CX0 1 f fd ["self"] (zt3 C):=by
 refine F.ok zcx (fun vs H Q E h=>?_) (fun cdv A outer s H vs Q E hr h=>?_)
 ·obtain⟨x,dx,l,gv,wv,ys,k,y,rfl,_⟩:=h
  rfl
 obtain⟨x,dx,l,gv,wv,ys,k,y,rfl,hx,hl,hy,q⟩:=h
 refine⟨_,(z04 (z1x (z0b z80 (z1y (z06 0 rfl z0t) rfl) z03 (z0g _)) (z07 zd2) z0k)
 (z04 (zby (f:="done") (z06 0 rfl z0t) (z0n z6k (z1y (z06 0 rfl z0t) rfl) z03) (z05 rfl))
 (z07 (z0f (z0u z2t (z1y (z06 0 rfl z0t) rfl) (z1y (z06 0 rfl z0t) rfl) (fun _ _=>rfl)))))),z0e fun N1 e1=>?_⟩
 walk_at "rd11"
 refine⟨_,_,_,hx,t.c,t.nd,_,z4j,_,rfl,?_⟩
 rw [if_neg (by omega),e1]
 refine z0e fun N2 e2=>?_
 walk_at "rd11"
 refine⟨_,_,_,hx,t.c,t.nd,_,z4j,_,rfl,_,_,_,hx,t.c,t.nd,by simp,?_⟩
 rw [zg0,e2,show((k:Int)+1 - 1)=(k:Int) by omega]
 have nl:l≠x:=z4y hl hx (by intro z; cases z)
 have hl2:(upd H x (HO.ins C dx (trF gv wv l k))) l=some (.lst ys):=by rw [z09 nl]; exact hl
 walk_at "rd11"
 exact⟨_,_,_,z00,t.c,t.nr,_,z7f,_,_,_,z00,t.c,t.nd,_,z4j,l,rfl,_,_,rfl,SqL.of hl2,y,z1b hy,q⟩
theorem zm3{C a_NoStep:Addr} (F:Fun K "go" "Trace.go" z38 f fd) (b_len:mg "len" = none) (x_NoStep:PySem.W.nsIn K mainGlobals "NoStep" = some (some (.ref a_NoStep))) (q_NoStep:PySem.W.excIn K a_NoStep q4p "ValueError.__new__" = true) (t:TrC K C):FnOk P w K mg base (CX1 P w) 1 f fd ["self"] (q23 C a_NoStep):=by
 refine F.okx zgq (fun vs H Q E h=>?_) (fun cdv A outer s H vs Q E hr h=>?_)
 ·obtain⟨x,dx,l,gv,wv,ys,rfl,_⟩:=h
  rfl
 obtain⟨x,dx,l,gv,wv,ys,rfl,hx,hl,q⟩:=h
 refine⟨_,(z04 (z1x (z0b z80 (z1y (z06 0 rfl z0r) rfl) (z4h zqg zb3 b_len z74 (z08 (z1y (z06 0 rfl z0r) rfl) z02) z70 z71) (z0g _)) (z07 (zlu x_NoStep q_NoStep y24 (by decide+kernel) y24 (z08 z0i z02) zdq zi3)) z0k)
 (z04 (zby (f:="done") (z06 0 rfl z0r) (z0n z1a (z1y (z06 0 rfl z0r) rfl) z03) (z05 rfl))
 (z07 (z0f (z0u z2t (z1y (z06 0 rfl z0r) rfl) (z0n z6k (z1y (z06 0 rfl z0r) rfl) z03) (fun _ _=>rfl)))))),z0e fun N1 e1=>?_⟩
 walk_at "rd11"
 refine⟨_,_,_,hx,t.c,t.nd,_,z4j,_,_,_,hx,t.c,t.nr,_,z7f,_,zsi (SqL.of hl),_,rfl,?_⟩
 rw [if_pos rfl]
 exact⟨by decide,q⟩
theorem zin{C a_NoStep:Addr} (F:Fun K "back" "Trace.back" z2j f fd) (x_NoStep:PySem.W.nsIn K mainGlobals "NoStep" = some (some (.ref a_NoStep))) (q_NoStep:PySem.W.excIn K a_NoStep q4p "ValueError.__new__" = true) (t:TrC K C):FnOk P w K mg base (CX1 P w) 1 f fd ["self"] (zt2 C a_NoStep):=by
 refine F.okx zcx (fun vs H Q E h=>?_) (fun cdv A outer s H vs Q E hr h=>?_)
 ·obtain⟨x,dx,l,gv,wv,rfl,_⟩:=h
  rfl
 obtain⟨x,dx,l,gv,wv,rfl,hx,q⟩:=h
 refine⟨_,(z04 (z1x (z0b z80 (z1y (z06 0 rfl z0t) rfl) z03 (z0g _)) (z07 (zlu x_NoStep q_NoStep y24 (by decide+kernel) y24 (z08 z0i z02) zbv zi3)) z0k)
 (z04 (zby (f:="done") (z06 0 rfl z0t) (z0n z6k (z1y (z06 0 rfl z0t) rfl) z03) (z05 rfl))
 (z07 (z0f (z0u z2t (z1y (z06 0 rfl z0t) rfl) (z1y (z06 0 rfl z0t) rfl) (fun _ _=>rfl)))))),z0e fun N1 e1=>?_⟩
 walk_at "rd11"
 refine⟨_,_,_,hx,t.c,t.nd,_,z4j,_,rfl,?_⟩
 rw [if_pos rfl]
 exact⟨by decide,q⟩
end
section
variable{P:yf}{w:yr}{K:y3}{mg:Str->Option y4}{base:Heap}{f:Addr}{fd:yq}
def kinds6:List Str:=["bad paper","bad plan","no program","no step","no text","no worths"]
def znx(K:y3)(as:List Addr):Sp:=fun vs H Q _=>∃(x C:Addr) (j:Nat) (wd:Str),vs=[.ref x]/\H x=some (HO.exc x C)/\ExcC K C/\(∀i a,as[i]?=some a->PySem.W.kitOne K (.ref C) (.ref a)=some (decide (i=j)))/\PySem.W.kitOne K (.ref C) (.type "ValueError")=some true/\kinds6[j]?=some wd/\∀H',Same H H'->Q (.str wd) H'
def zsz(P:yf)(w:yr)(K:y3)(mg:Str->Option y4)(base:Heap)(Rc:Addr)(as:List Addr):Sp:=fun vs H Q _=>∃fa:Addr,vs=[.ref fa]/\IsLam H fa/\q3y P w K mg base 25 fa H [] Q
 (fun cls _ H2=>∃C,cls=.ref C/\PySem.W.exmOne K (.ref C) (.ref Rc)=some true/\∀x,H2 x=none->znx K as [.ref x] (upd H2 x (HO.exc x C)) Q E0)
end
local macro_rules | `(tactic| walk_at "rd12")=>`(tactic| simp only[↓zpj,↓zpi,↓zco,↓zcn,↓zgn,↓zgm,↓z8y,↓z8x,↓z90,↓z8z,↓zow,↓zez,↓zhk,zov,zhl,zhj,zph,zad,zza,zz9,zns,q09,q08,q0e,q0d,q1h,q1g,zwb,q43,zju,zjt,q21,q25,zgb,zr5,zgg,z7z,zr3,zr4,zgc,zev,q1t,ze9,zgd,z4u,znh,znj,zij,tOp,zif,tC,zwd,z7l,zuu,zfu,zw4,zy2,znm,zla,zl9,tCB,zcu,zni,zlc,tUn,rU,rI0,rI,zy5,tOr,zy3,tB,zld,zz4,zl8,tIf,zz6,znn,zgf,zlb,zge,zln,zet,znp,zct,znr,tSl,zaa,zl7,zzf,zc5,zgt,zo8,zls,z6b,z5v,z8t,z69,z6e,z6s,zi4,z33,z50,zck,z6t,z40,z34,z41,z9h,z6u,z42,z4s,zgh,zyd,tDX,zz7,zy1,zy4,tBM,
 qEq,qNe,qIn,zd0,zyi,zlr,zzk,zo5,zyh,zlt,zw3,zyg,zo6,zo7,zgu,rIx,zta,zpv,zye,zyf,zzg,zo3,zzi,zzh,zaf,zae,zes,zgj,zsu,
 z8u,z57,z6a,z6c,z4t,z6d,zi5,z51,z9i,Nat.reduceAdd,Nat.reduceSub,Nat.add_zero,y1v,y1r,
 y0p,y15,y1o,y1p,y1s,y1h,V.int.injEq,V.ref.injEq,V.str.injEq,V.bl.injEq,V.ty.injEq,
 reduceCtorEq,false_and,and_false,and_true,true_and,exists_false,exists_const,false_or,or_false,exists_eq_left,exists_eq_left',exists_eq_right,exists_eq_right',exists_and_left,decide_eq_true_eq,y09,y1m,exists_eq,true_or,or_true,y0h,if_true,if_false,y1q,y1w,y21,decide_true,decide_false,y1u,y1z,y1c,y1d,bne_self_eq_false,beq_self_eq_true])
section
variable{P:yf}{w:yr}{K:y3}{mg:Str->Option y4}{base:Heap}{f:Addr}{fd:yq}
theorem zm0{a_NoWorths a_BadPaper a_BadPlan a_NoProgram a_NoText a_NoStep:Addr} (F:Fun K "_law_class" "_law_class" z1k f fd) (b_isinstance:mg "isinstance" = none) (b_ValueError:mg "ValueError" = none)
  (m_NoWorths:mg "NoWorths" = some (.ref a_NoWorths)) (m_BadPaper:mg "BadPaper" = some (.ref a_BadPaper)) (m_BadPlan:mg "BadPlan" = some (.ref a_BadPlan)) (m_NoProgram:mg "NoProgram" = some (.ref a_NoProgram)) (m_NoText:mg "NoText" = some (.ref a_NoText)) (m_NoStep:mg "NoStep" = some (.ref a_NoStep)):FnOkH P w K mg base 1 f fd ["_law_kept"] (znx K [a_BadPaper,a_BadPlan,a_NoProgram,a_NoStep,a_NoText,a_NoWorths]):=by
 refine q36 F sc_law_class (fun vs H Q E h=>?_) (fun cdv A outer s H vs Q E hr h=>?_)
 ·obtain⟨x,C,j,wd,rfl,_⟩:=h
  rfl
 obtain⟨x,C,j,wd,rfl,hx,ec,hk,kv,hwd,q⟩:=h
 have hj:j < 6:=(List.getElem?_eq_some_iff.mp hwd).1
 refine⟨_,(z04 (z14 (i:=1) sc_law_class.nd rfl z47 (z2v (z08 (z4h z9j z0y b_isinstance z1t (z08 (z06 0 rfl z11) (z08 (zc7 (v:=V.ref a_BadPaper) zay m_BadPaper rfl zp9) z02)) z1r z1s) (z08 (z4h z9j z0y b_isinstance z1t (z08 (z06 0 rfl z11) (z08 (zc7 (v:=V.ref a_BadPlan) zbq m_BadPlan rfl zs8) z02)) z1r z1s) (z08 (z4h z9j z0y b_isinstance z1t (z08 (z06 0 rfl z11) (z08 (zc7 (v:=V.ref a_NoProgram) za2 m_NoProgram rfl zn0) z02)) z1r z1s) z02)))) (z05 rfl))
 (z04 (z14 (i:=1) sc_law_class.nd rfl z47 (z0n zq3 (z06 1 rfl z2y) (z2v (z08 (z4h z9j z0y b_isinstance z1t (z08 (z06 0 rfl z11) (z08 (zc7 (v:=V.ref a_NoStep) zcb m_NoStep rfl zi3) z02)) z1r z1s) (z08 (z4h z9j z0y b_isinstance z1t (z08 (z06 0 rfl z11) (z08 (zc7 (v:=V.ref a_NoText) zca m_NoText rfl zvi) z02)) z1r z1s) (z08 (z4h z9j z0y b_isinstance z1t (z08 (z06 0 rfl z11) (z08 (zc7 (v:=V.ref a_NoWorths) zax m_NoWorths rfl zp8) z02)) z1r z1s) z02))))) (z05 rfl))
 (z04 (z1x (PW.pt (zgv (z0b zq2 (zgy y0d PySem.F.slot_list_count PySem.F.type_list_count zu4 (z06 1 rfl z2y) (z08 zil z02)) z03 (z0g _)) (zd1 (zte (zpx (z4h z9j z0y b_isinstance z1t (z08 (z06 0 rfl z11) (z08 (zk3 (v:=V.ty "ValueError") z9c b_ValueError zl1 rfl zkc zkw) z02)) z1r z1s)))))) (z07 (z0f z0i)) z0k)
 (z07 (z0f (z0u z2t (z2v (z08 z0i (z08 z0i (z08 z0i (z08 z0i (z08 z0i (z08 z0i z02))))))) (zgy y0d PySem.F.slot_list_index PySem.F.type_list_index zu3 (z06 1 rfl z2y) (z08 zil z02)) (fun _ _=>rfl))))))),z0e fun N1 e1=>?_⟩
 walk_at "rd12"
 refine⟨_,_,_,⟨rfl,rfl⟩,hx,_,rfl,fun _ z=>z,ec,_,hk 0 _ rfl,_,_,_,⟨rfl,rfl⟩,hx,_,rfl,fun _ z=>z,ec,_,hk 1 _ rfl,_,_,_,⟨rfl,rfl⟩,hx,_,rfl,fun _ z=>z,ec,_,hk 2 _ rfl,by decide,fun l hl=>?_⟩
 have s1:=z01 hl (HO.lst [V.bl (decide (0=j)),V.bl (decide (1=j)),V.bl (decide (2=j))])
 have hx1:=s1 _ _ hx
 have hl1:(upd H l (HO.lst [V.bl (decide (0=j)),V.bl (decide (1=j)),V.bl (decide (2=j))])) l=some (.lst [V.bl (decide (0=j)),V.bl (decide (1=j)),V.bl (decide (2=j))]):=z00
 generalize upd H l (HO.lst [V.bl (decide (0=j)),V.bl (decide (1=j)),V.bl (decide (2=j))])=H1 at s1 hx1 hl1 |-
 rw [e1]
 refine z0e fun N2 e2=>?_
 walk_at "rd12"
 refine⟨_,_,_,⟨rfl,rfl⟩,hx1,_,rfl,fun _ z=>z,ec,_,hk 3 _ rfl,_,_,_,⟨rfl,rfl⟩,hx1,_,rfl,fun _ z=>z,ec,_,hk 4 _ rfl,_,_,_,⟨rfl,rfl⟩,hx1,_,rfl,fun _ z=>z,ec,_,hk 5 _ rfl,by decide,fun l2 hl2=>?_⟩
 have s2:=z01 hl2 (HO.lst [V.bl (decide (3=j)),V.bl (decide (4=j)),V.bl (decide (5=j))])
 have hx2:=s2 _ _ hx1
 have hl12:=s2 _ _ hl1
 have hl22:(upd H1 l2 (HO.lst [V.bl (decide (3=j)),V.bl (decide (4=j)),V.bl (decide (5=j))])) l2=some (.lst [V.bl (decide (3=j)),V.bl (decide (4=j)),V.bl (decide (5=j))]):=z00
 generalize upd H1 l2 (HO.lst [V.bl (decide (3=j)),V.bl (decide (4=j)),V.bl (decide (5=j))])=H2 at s2 hx2 hl12 hl22 |-
 refine⟨_,hl12,_,hl22,(by decide:3+3<=sizeLine),fun l3 hl3=>?_⟩
 have s3:=z01 hl3 (HO.lst ([V.bl (decide (0=j)),V.bl (decide (1=j)),V.bl (decide (2=j))]++[V.bl (decide (3=j)),V.bl (decide (4=j)),V.bl (decide (5=j))]))
 have hx3:=s3 _ _ hx2
 have hl33:(upd H2 l3 (HO.lst ([V.bl (decide (0=j)),V.bl (decide (1=j)),V.bl (decide (2=j))]++[V.bl (decide (3=j)),V.bl (decide (4=j)),V.bl (decide (5=j))]))) l3=some (.lst ([decide (0=j),decide (1=j),decide (2=j),decide (3=j),decide (4=j),decide (5=j)].map V.bl)):=z00
 generalize upd H2 l3 (HO.lst ([V.bl (decide (0=j)),V.bl (decide (1=j)),V.bl (decide (2=j))]++[V.bl (decide (3=j)),V.bl (decide (4=j)),V.bl (decide (5=j))]))=H3 at s3 hx3 hl33 |-
 have hc:[decide (0=j),decide (1=j),decide (2=j),decide (3=j),decide (4=j),decide (5=j)].count true=1:=by
  rcases(show j=0\/j=1\/j=2\/j=3\/j=4\/j=5 by omega) with rfl | rfl | rfl | rfl | rfl | rfl<;>decide
 have hi:[decide (0=j),decide (1=j),decide (2=j),decide (3=j),decide (4=j),decide (5=j)][j]?=some true/\∀m,m < j->[decide (0=j),decide (1=j),decide (2=j),decide (3=j),decide (4=j),decide (5=j)][m]?≠some true:=by
  rcases(show j=0\/j=1\/j=2\/j=3\/j=4\/j=5 by omega) with rfl | rfl | rfl | rfl | rfl | rfl<;>exact⟨by decide,by decide⟩
 generalize [decide (0=j),decide (1=j),decide (2=j),decide (3=j),decide (4=j),decide (5=j)]=bs at hl33 hc hi
 rw [e2]
 refine z0e fun N3 e3=>?_
 walk_at "rd12"
 refine⟨.inl ⟨rfl,_,SqL.of hl33⟩,bs,hl33,?_⟩
 rw [hc,if_neg (by decide)]
 refine⟨_,_,_,⟨rfl,rfl⟩,hx3,_,rfl,fun _ z=>z,ec,_,kv,?_⟩
 rw [if_neg (by decide),e3]
 walk_at "rd12"
 refine⟨by decide,fun l4 hl4=>?_⟩
 have s4:=z01 hl4 (HO.lst [V.str "bad paper",V.str "bad plan",V.str "no program",V.str "no step",V.str "no text",V.str "no worths"])
 exact⟨.inl ⟨rfl,_,SqL.of (s4 _ _ hl33)⟩,bs,s4 _ _ hl33,j,hi.1,hi.2,by omega,_,SqL.of z00,.str wd,z1b (show(kinds6.map V.str)[j]?=some (V.str wd) by rw [y00,hwd]; rfl),q _ (s1.trans (s2.trans (s3.trans s4)))⟩
theorem zoi{a_RoomError:Addr}{as:List Addr} (F:Fun K "_law_told" "_law_told" z4w f fd) (m_RoomError:mg "RoomError" = some (.ref a_RoomError)) (ch_law_class:CalleeH P w K mg base "_law_class" ["_law_kept"] 1 (znx K as)):FnOk P w K mg base CX0 26 f fd ["_law_deed"] (zsz P w K mg base a_RoomError as):=by
 refine F.ok sc_law_told (fun vs H Q E h=>?_) (fun cdv A outer s H vs Q E hr h=>?_)
 ·obtain⟨fa,rfl,_⟩:=h
  rfl
 obtain⟨fa,rfl,hl,q⟩:=h
 refine⟨_,(z07 (zzo (i:=1) (q:=0) (k:=25) ch_law_class hr (by omega) (by omega) rfl rfl rfl m_RoomError zau sc_law_told.nd rfl ziv rfl z9r za1 zmx zn4 zkv zmz q5x q5y)),?_⟩
 walk_at "rd12"
 exact⟨hl,q⟩
end
local macro_rules | `(tactic| walk_at "rd7")=>`(tactic| simp only[↓zpj,↓zpi,↓zco,↓zcn,↓zgn,↓zgm,↓z8y,↓z8x,↓z90,↓z8z,↓zow,↓zez,↓zhk,zov,zhl,zhj,zph,zad,zza,zz9,zns,q09,q08,q0e,q0d,q1h,q1g,zgg,z7z,zr3,zr4,zgc,zev,q1t,ze9,zgd,z4u,znh,znj,zij,tOp,zif,tC,zwd,z7l,zuu,zfu,zw4,zy2,znm,zla,zl9,tCB,zcu,zni,zlc,tUn,rU,rI0,rI,zy5,tOr,zy3,tB,zld,zz4,zl8,tIf,zz6,znn,zgf,zlb,zge,zln,zet,znp,zct,znr,tSl,zaa,zl7,zzf,zc5,zgt,zo8,zls,z6b,z5v,z8t,z69,z6e,z6s,zi4,z33,z50,zck,z6t,z40,z34,z41,z9h,z6u,z42,z4s,zgh,q4f,zyd,tDX,zz7,zy1,zy4,tBM,
 qEq,qNe,qIn,zd0,zyi,zlr,zzk,zo5,zyh,zlt,zw3,zyg,zo6,zo7,zgu,rIx,zta,zpv,zye,zyf,zzg,zo3,zzi,zzh,zaf,zae,zes,zgj,zsu,
 z8u,z57,z6a,z6c,z4t,z6d,zi5,z51,z9i,Nat.reduceAdd,Nat.reduceSub,Nat.add_zero,y1v,y1r,
 y0p,y15,y1o,y1p,y1s,y1h,V.int.injEq,V.ref.injEq,V.str.injEq,V.bl.injEq,V.ty.injEq,
 reduceCtorEq,false_and,and_false,and_true,true_and,exists_false,exists_const,false_or,or_false,exists_eq_left,exists_eq_left',exists_eq_right,exists_eq_right',exists_and_left,decide_eq_true_eq,y09,y1m,exists_eq,true_or,or_true,y0h,if_true,if_false,y1q,y1w,y21,decide_true,decide_false,y1u,y1z,y1c,y1d,bne_self_eq_false,beq_self_eq_true])
section
variable{P:yf}{w:yr}{K:y3}{mg:Str->Option y4}{base:Heap}{f:Addr}{fd:yq}
theorem Fits.snoc:∀{rows:List Rw} {ws:List Int} {r:Rw} {w:Int},Fits rows ws->r.2.1<=w->w<=r.2.2->Fits (rows++[r]) (ws++[w])
 | [],[],r,w,_,h1,h2=>⟨h1,h2,trivial⟩
 | a::rows,b::ws,r,w,h,h1,h2=>⟨h.1,h.2.1,Fits.snoc h.2.2 h1 h2⟩
 | [],_::_,_,_,h,_,_=>h.elim
 | _::_,[],_,_,h,_,_=>h.elim
end
section
variable{P:yf}{w:yr}{K:y3}{mg:Str->Option y4}{base:Heap}{f:Addr}{fd:yq}
def q51(C:Addr):Sp:=fun vs H Q _=>∃(x dx l:Addr) (gv wv pv:V) (ys:List V) (rs:List RI) (k j:Nat) (p:List Int) (i:Int),vs=[.ref x,pv]/\H x=some (.ins C dx (trF gv wv l k))/\H l=some (.lst ys)/\DtA H ys (rs.map rowI)/\Dt H pv (pathD p)/\rs.length < sizeLine/\k<=j/\rs[j]?=some (p,i)/\(∀m,k<=m->m < j->∀r,rs[m]?=some r->r.1≠p)/\Q (.int i) (upd H x (.ins C dx (trF gv wv l (j+1))))
def ToI(H:Hp)(xv pv:V)(i:Nat)(σ : St)(Hc:Hp):Prop:=Hc=H/\∃x2,σ = [some xv,some pv,x2]
theorem q24:(sizeLine:Int) < 2 ^ 62:=by decide
end
section
variable{P:yf}{w:yr}{K:y3}{mg:Str->Option y4}{base:Heap}{f:Addr}{fd:yq}
theorem zom{C:Addr} (F:Fun K "to" "Trace.to" z2e f fd) (b_len:mg "len" = none) (b_range:mg "range" = none) (t:TrC K C):FnOk P w K mg base CX0 1 f fd ["self","path"] (q51 C):=by
 refine F.ok sc_Trace_to (fun vs H Q E h=>?_) (fun cdv A outer s H vs Q E hr h=>?_)
 ·obtain⟨x,dx,l,gv,wv,pv,ys,rs,k,j,p,i,rfl,_⟩:=h
  rfl
 obtain⟨x,dx,l,gv,wv,pv,ys,rs,k,j,p,i,rfl,hx,hl,dy,dp,hz,hkj,hj,hno,q⟩:=h
 have lys:ys.length=rs.length:=by rw [dy.length,y8]
 have hjl:j < rs.length:=(List.getElem?_eq_some_iff.mp hj).1
 have z62:=q24
 refine⟨_,(z04 (zag y0r rfl (zti zem b_range (z08 (z1y (z06 0 rfl z36) rfl) (z08 (z4h zqg zht b_len z74 (z08 (z1y (z06 0 rfl z36) rfl) z02) z70 z71) z02))) (z0s (i:=2) sc_Trace_to.nd rfl zh9)
 (z07 (z1x (z0b (dEq hr.units) (z0u z0o (z0u z2t (z1y (z06 0 rfl z36) rfl) (z06 2 rfl z76) (fun _ _=>rfl)) z03 (fun _ _=>rfl)) (z06 1 rfl zfe) (z0g _)) (z04 (zby (f:="done") (z06 0 rfl z36) (z0n z1a (z06 2 rfl z76) z03) (z05 rfl))
 (z07 (z0f (z0u z0o (z0u z2t (z1y (z06 0 rfl z36) rfl) (z06 2 rfl z76) (fun _ _=>rfl)) z03 (fun _ _=>rfl))))) z0k)))
 (z07 zd2)),z0e fun N1 e1=>?_⟩
 walk_at "rd12"
 refine⟨_,_,_,hx,t.c,t.nd,_,z4j,_,_,_,hx,t.c,t.nr,_,z7f,_,zsi (SqL.of hl),_,_,⟨rfl,rfl⟩,⟨by omega,by omega,by omega,by omega⟩,?_⟩
 refine zdr (fun i σ Hc=>ToI H (.ref x) pv i σ Hc/\k+i<=j) ⟨⟨rfl,_,rfl⟩,by omega⟩ ?_ ?_
 ·rintro m σ Hc hm ⟨⟨rfl,x2,rfl⟩,hle⟩
  walk_at "rd12"
  have hkm:k+m < ys.length:=by omega
  obtain⟨v,hv⟩:∃v,ys[k+m]?=some v:=⟨_,yb hkm⟩
  obtain⟨r,hrk,dv⟩:=z59 dy hv
  obtain⟨va,v0,v1,rfl,hva,t0,t1⟩:=zie dv
  cases t1
  have ekm:((k:Int)+(m:Int))=((k+m:Nat):Int):=by push_cast; rfl
  refine⟨_,_,_,hx,t.c,t.nr,_,z7f,_,rfl,_,SqL.of hl,_,by rw [ekm]; exact z1b hv,_,rfl,_,SqT.of hva,_,z1c,_,⟨pathD r.1,pathD p,t0,dp,((z4k r.1).mono (m:=4) (by decide)).eq (by decide),((z4k p).mono (m:=4) (by decide)).eq (by decide),rfl⟩,?_⟩
  rw [show PyData.eqv (pathD r.1).dat (pathD p).dat=decide (r.1=p) from zg4 r.1 p]
  by_cases he:r.1=p
  ·have ej:k+m=j:=by
    rcases Nat.lt_or_ge (k+m) j with z | z
    ·exact absurd he (hno (k+m) (by omega) z r hrk)
    ·omega
   rw [if_pos (decide_eq_true he)]
   have er:r=(p,i):=by
    rw [ej,hj] at hrk
    exact(y04 hrk).symm
   have nl:l≠x:=z4y hl hx (by intro z; cases z)
   have nv:va≠x:=z4y hva hx (by intro z; cases z)
   refine⟨_,_,_,hx,t.c,t.nd,by simp,?_⟩
   rw [zg0]
   have q':=q
   rw [show((j:Nat):Int)=(k:Int)+(m:Int) by omega] at q'
   refine⟨_,_,_,z00,t.c,t.nr,_,z7f,_,rfl,_,SqL.of (by rw [z09 nl]; exact hl),_,by rw [ekm]; exact z1b hv,_,rfl,_,SqT.of (by rw [z09 nv]; exact hva),_,z1b (j:=1) rfl,?_⟩
   rw [er]
   exact q'
  ·rw [if_neg (by rw [decide_eq_true_eq]; exact he)]
   refine⟨⟨rfl,_,rfl⟩,?_⟩
   have:k+m≠j:=fun z=>he (by rw [z,hj] at hrk; cases hrk; rfl)
   omega
 ·rintro σ Hc ⟨_,hle⟩
  omega
end
section
variable{P:yf}{w:yr}{K:y3}{mg:Str->Option y4}{base:Heap}{f:Addr}{fd:yq}
def q50(K:y3):Sp:=fun vs H Q _=>∃(a:Addr) (ns:List Int) (k:Int) (gv:V) (rows:List Rw) (bd:Dm),vs=[.ref a,.int k,gv]/\SqL K H a (ns.map V.int)/\0<=k/\Dt H gv (.tup [.tup (rows.map rowEnc),bd])/\okRows rows/\∀(wv:V) (ws:List Int) (H':Hp),Same H H'->Dt H' wv (pathD ws)->Fits rows ws->Q wv H'
def WsI(U:Hp)(rows:List Rw)(x4 x5:Option V)(i:Nat)(ys:List V)(σ':St)(H':Hp):Prop:=Same U H'/\(∃t0 t1 t2 t3,σ'=[t0,t1,t2,t3,x4,x5])/\ys.length<=i/\∃ws:List Int,ys=ws.map V.int/\Fits (rows.take i) ws
theorem zqb(H:Hp):∀l:List Int,DtA H (l.map V.int) (l.map Dm.int)
 | []=>.nil
 | a::r=>.cons (.int a) (zqb H r)
end
section
variable{P:yf}{w:yr}{K:y3}{mg:Str->Option y4}{base:Heap}{f:Addr}{fd:yq}
theorem zk6(F:Fun K "_law_worths" "_law_worths" z46 f fd) (b_tuple:mg "tuple" = none) (b_enumerate:mg "enumerate" = none) (c_law_pick:Callee P w K mg base "_law_pick" ["_law_script","_law_k","_law_many"] 2 (zbx K)):FnOk P w K mg base CX0 3 f fd ["_law_script","_law_at","_law_program_here"] (q50 K):=by
 refine F.ok zjp (fun vs H Q E h=>?_) (fun cdv A outer s H vs Q E hr h=>?_)
 ·obtain⟨a,ns,k,gv,rows,bd,rfl,_⟩:=h
  rfl
 obtain⟨a,ns,k,gv,rows,bd,rfl,hS,hk,hg,hrow,q⟩:=h
 obtain⟨ga,iv,bv,rfl,hga,di,db⟩:=zie hg
 obtain⟨ia,is,rfl,hia,dia⟩:=di.tupI
 have lis:is.length=rows.length:=by rw [dia.length,y8]
 refine⟨_,(z07 (z0f (ztp z5u zc9 b_tuple zdz (z08 (z6j ["_law_k","_law_name","_law_low","_law_high","_law_script","_law_at"] [none,none,none,none,some 0,some 1] rfl (CompS.of (by rfl)) (zjz z9a b_enumerate (z08 (z0u z0o (z06 2 rfl z4q) z03 (fun _ _=>rfl)) z02)) (fun _ _ _ _ _=>(zec (n:=2) (K:=K) rfl rfl (z0x (z0s (i:=0) (show List.Nodup (["_law_k","_law_name","_law_low","_law_high","_law_script","_law_at"]:List Str) from by decide+kernel) rfl (Or.inl rfl)) (z0x (zec (n:=3) (K:=K) rfl rfl (z0x (z0s (i:=1) (show List.Nodup (["_law_k","_law_name","_law_low","_law_high","_law_script","_law_at"]:List Str) from by decide+kernel) rfl (Or.inl rfl)) (z0x (z0s (i:=2) (show List.Nodup (["_law_k","_law_name","_law_low","_law_high","_law_script","_law_at"]:List Str) from by decide+kernel) rfl (Or.inl rfl)) (z0x (z0s (i:=3) (show List.Nodup (["_law_k","_law_name","_law_low","_law_high","_law_script","_law_at"]:List Str) from by decide+kernel) rfl (Or.inl rfl)) z3z)))) z3z)))) (fun _ _ _ _ _=>zeb) (fun _ _ _ _ _=>(z0n z1a (z1q (i:=2) rfl (by walk_at "vc") zi1 zi8) (z19 c_law_pick hr (by omega) (z08 (z1q (i:=4) rfl (by walk_at "vc") ziz zj0) (z08 (z0n z1a (z1q (i:=5) rfl (by walk_at "vc") zs7 zsd) (z1q (i:=0) rfl (by walk_at "vc") zvg zvu)) (z08 (z0n z1a (z0n z6k (z1q (i:=3) rfl (by walk_at "vc") zmw zn3) (z1q (i:=2) rfl (by walk_at "vc") zi1 zi8)) z03) z02))) rfl z0p)))) z02) zd6 zdv))),?_⟩
 walk_at "rd12"
 refine⟨_,SqT.of hga,_,z1c,ia,rfl,⟨_,SqT.of hia⟩,?_⟩
 have h2:=hrow.len
 refine zsa (xs:=is) (WsI H rows (some (V.ref a)) (some (V.int k))) ⟨Same.refl _,⟨_,_,_,_,rfl⟩,yg _,[],rfl,trivial⟩ (y0w (show is.length<=2 by omega) (by decide)) ?_ ?_ ?_ ?_
 ·rintro i ys σ' H' ⟨_,_,h,_⟩
  exact h
 ·rintro i ys σ' H' _ ⟨sU,_⟩
  exact SqT.of (sU _ _ hia)
 ·rintro i ys x σ' H' T hx ⟨sU,⟨t0,t1,t2,t3,rfl⟩,hle,ws,rfl,hfit⟩ hT
  obtain⟨r,hri,dr⟩:=z59 dia hx
  obtain⟨ra,r0,r1,r2,rfl,hra,u0,u1,u2⟩:=zw2 dr
  cases u0; cases u1; cases u2
  have s3:=z01 hT (HO.tup [V.int i,V.ref ra])
  have hra3:=s3 _ _ (sU _ _ hra)
  walk_at "rd12"
  have hrl:=hrow.lo r (yv hri)
  refine⟨_,SqT.of z00,rfl,_,_,rfl,_,_,rfl,ra,rfl,_,SqT.of hra3,rfl,_,_,rfl,_,_,rfl,_,_,rfl,rfl,rfl,_,rfl,_,rfl,_,rfl,?_⟩
  refine⟨a,ns,k+i,r.2.2 - r.2.1+1,rfl,(sU.trans s3).seq hS,by omega,by omega,fun y H4 h0 h1 s4=>?_⟩
  refine⟨_,rfl,_,rfl,sU.trans (s3.trans s4),⟨_,_,_,_,rfl⟩,by rw [yd,y08]; omega,ws++[r.2.1+y],by rw [y03]; rfl,?_⟩
  rw [z3n hri]
  exact hfit.snoc (by omega) (by omega)
 ·rintro ys σ' H' ⟨sU,_,_,ws,rfl,hfit⟩ pe hpe
  have s6:=z01 hpe (HO.lst (ws.map V.int))
  rw [lis,y0j] at hfit
  refine⟨pe,rfl,_,.inl ⟨SqL.of z00,fun l hl=>?_⟩⟩
  have s7:=z01 hl (HO.tup (ws.map V.int))
  exact q _ ws _ (sU.trans (s6.trans s7)) (.tup z00 (zqb _ ws)) hfit
end
section
variable{P:yf}{w:yr}{K:y3}{mg:Str->Option y4}{base:Heap}{f:Addr}{fd:yq}
def ze4(n:Nat):Sp:=fun vs H Q _=>∃v t pv p,vs=[v,pv]/\Dt H v (T.enc t)/\Dt H pv (pathD p)/\t.deep<=n/\n<=6/\p.length+n<=100/\∀(r:Addr) (H':Hp) (xs:List V),Same H H'->H r=none->H' r=some (.lst xs)->DtA H' xs ((z6y p t).map q1r)->Q (.ref r) H'
theorem zfi{n:Nat} (F:Fun K "spots_of_term" "spots_of_term" z28 f fd) (c_spots_of_term:Callee P w K mg base "spots_of_term" ["term","path"] (n+1) (ze4 n)):FnOk P w K mg base CX0 (n+2) f fd ["term","path"] (ze4 (n+1)):=by
 refine F.ok zfg (fun vs H Q E h=>?_) (fun cdv A outer s H vs Q E hr h=>?_)
 ·obtain⟨v,t,pv,p,rfl,_⟩:=h
  rfl
 obtain⟨v,t,pv,p,rfl,hd,hp,hn,hn6,hl,q⟩:=h
 refine⟨_,(z04 (z1x (PW.pt (zgv (z0b (gEq hr.units) (z0u z0o (z06 0 rfl z1f) z03 (fun _ _=>rfl)) z0i (z0g _)) (zd1 (z0b (gEq hr.units) (z0u z0o (z06 0 rfl z1f) z03 (fun _ _=>rfl)) z0i (z0g _))))) (z07 (z0f (z2v (z08 (z12 (z08 (z06 1 rfl z2f) (z08 (z06 0 rfl z1f) z02))) z02)))) z0k)
 (z07 (z0f (z0n zq3 (z0n zq3 (z2v (z08 (z12 (z08 (z06 1 rfl z2f) (z08 (z06 0 rfl z1f) z02))) z02)) (z19 c_spots_of_term hr (by omega) (z08 (z0u z0o (z06 0 rfl z1f) z03 (fun _ _=>rfl)) (z08 (z0n z31 (z06 1 rfl z2f) (z12 (z08 z03 z02))) z02)) z2w z5k)) (z19 c_spots_of_term hr (by omega) (z08 (z0u z0o (z06 0 rfl z1f) z03 (fun _ _=>rfl)) (z08 (z0n z31 (z06 1 rfl z2f) (z12 (z08 z03 z02))) z02)) z2w z5k))))),?_⟩
 walk_at "rd7"
 have leaf:(z6y p t=[(p,t)])->2<=sizeLine/\∀(r:Addr),H r=none->1<=sizeLine/\∀(r1:Addr),upd H r (HO.tup [pv,v]) r1=none->Q (V.ref r1) (upd (upd H r (HO.tup [pv,v])) r1 (HO.lst [V.ref r])):=fun e=>by
  refine⟨zl 2 (by decide),fun r h1=>⟨zl 1 (by decide),fun r1 h2=>?_⟩⟩
  have s1:=z01 h1 (HO.tup [pv,v])
  have s2:=z01 h2 (HO.lst [V.ref r])
  refine q r1 _ _ (s1.trans s2) (s1.free h2) z00 ?_
  rw [e]
  exact .cons (.tup (s2 _ _ z00) (.cons (hp.kp (s1.trans s2).kp) (.cons (hd.kp (s1.trans s2).kp) .nil))) .nil
 have hdv:=hd
 cases t with
 | num i=>
  rw [T.enc] at hd
  obtain⟨a,x0,x1,rfl,ha,t0,t1⟩:=zie hd
  refine⟨_,rfl,_,SqT.of ha,_,rfl,_,zep t0,?_⟩
  rw [if_pos (show eqS (.str "num") "num" = true from by decide+kernel)]
  exact leaf rfl
 | nm x=>
  rw [T.enc] at hd
  obtain⟨a,x0,x1,rfl,ha,t0,t1⟩:=zie hd
  refine⟨_,rfl,_,SqT.of ha,_,rfl,_,zep t0,?_⟩
  rw [if_neg (show ¬ eqS (.str "name") "num" = true from by decide+kernel)]
  refine⟨_,rfl,_,SqT.of ha,_,rfl,_,zep t0,?_⟩
  rw [if_pos (show eqS (.str "name") "name" = true from by decide+kernel)]
  exact leaf rfl
 | op wd ta tb=>
  rw [T.enc] at hd
  obtain⟨a,x0,x1,x2,rfl,ha,t0,t1,t2⟩:=zw2 hd
  refine⟨_,rfl,_,SqT.of ha,_,rfl,_,zep t0,?_⟩
  rw [if_neg (by rw [wd.ne.1]; decide)]
  refine⟨_,rfl,_,SqT.of ha,_,rfl,_,zep t0,?_⟩
  rw [if_neg (by rw [wd.ne.2]; decide)]
  have hab:ta.deep<=n/\tb.deep<=n:=by
   simp only[T.deep] at hn
   omega
  refine⟨zl 2 (by decide),fun r h1=>⟨zl 1 (by decide),fun r1 h2=>?_⟩⟩
  have s1:=z01 h1 (HO.tup [pv,V.ref a])
  have s2:=z01 h2 (HO.lst [V.ref r])
  have s02:=s1.trans s2
  have f1:H r1=none:=s1.free h2
  have hr1:(upd (upd H r (HO.tup [pv,V.ref a])) r1 (HO.lst [V.ref r])) r1=some (.lst [V.ref r]):=z00
  have row:Dt (upd (upd H r (HO.tup [pv,V.ref a])) r1 (HO.lst [V.ref r])) (.ref r) (q1r (p,.op wd ta tb)):=.tup (s2 _ _ z00) (.cons (hp.kp s02.kp) (.cons (hdv.kp s02.kp) .nil))
  generalize upd (upd H r (HO.tup [pv,V.ref a])) r1 (HO.lst [V.ref r])=U at s2 s02 hr1 row |-
  refine⟨_,rfl,_,SqT.of (s02 _ _ ha),_,rfl,zl 1 (by decide),fun r3 h3=>?_⟩
  have s3:=z01 h3 (HO.tup [V.int 0])
  refine zqw (hp.kp (s02.trans s3).kp) zd4 (by simp; omega) fun z H1 s4 dz=>?_
  have s24:=s3.trans s4
  refine⟨x1,ta,z,p++[0],rfl,t1.kp (s02.trans s24).kp,dz,hab.1,by omega,by simp; omega,fun r4 H2 ys s5 f5 h5 d5=>?_⟩
  walk_at "rd7"
  have s25:=s24.trans s5
  have l1:=z8v (p:=p++[0]) hab.1 (by omega:n<=6)
  have l2:=z8v (p:=p++[1]) hab.2 (by omega:n<=6)
  have e5:ys.length=(z6y (p++[0]) ta).length:=by rw [d5.length,y8]
  refine⟨_,s25 _ _ hr1,_,h5,y18 (z2g (by rw [e5,y08]; omega)),fun r6 h6=>?_⟩
  have s6:=z01 h6 (HO.lst ([V.ref r]++ys))
  have s26:=s25.trans s6
  have hr6:(upd H2 r6 (HO.lst ([V.ref r]++ys))) r6=some (.lst ([V.ref r]++ys)):=z00
  have d6:DtA (upd H2 r6 (HO.lst ([V.ref r]++ys))) ([V.ref r]++ys) ((p,T.op wd ta tb)::z6y (p++[0]) ta |>.map q1r):=.cons (row.kp s26.kp) (d5.kp s6.kp)
  generalize upd H2 r6 (HO.lst ([V.ref r]++ys))=U2 at s6 s26 hr6 d6 |-
  refine⟨_,SqT.of ((s02.trans s26) _ _ ha),_,rfl,zl 1 (by decide),fun r7 h7=>?_⟩
  have s7:=z01 h7 (HO.tup [V.int 1])
  refine zqw (hp.kp ((s02.trans s26).trans s7).kp) zd4 (by simp; omega) fun z2 H3 s8 dz2=>?_
  have s78:=s7.trans s8
  refine⟨x2,tb,z2,p++[1],rfl,t2.kp ((s02.trans s26).trans s78).kp,dz2,hab.2,by omega,by simp; omega,fun r9 H4 zs s9 f9 h9 d9=>?_⟩
  walk_at "rd7"
  have s79:=s78.trans s9
  have e9:zs.length=(z6y (p++[1]) tb).length:=by rw [d9.length,y8]
  refine⟨_,s79 _ _ hr6,_,h9,y18 (z2g (by rw [yd,e5,e9,y08]; omega)),fun r10 h10=>?_⟩
  have s10:=z01 h10 (HO.lst (([V.ref r]++ys)++zs))
  refine q r10 _ _ ((s02.trans s26).trans (s79.trans s10)) (((s02.trans s26).trans s79).free h10) z00 ?_
  rw [z6y,<- y17,y03]
  exact(d6.kp (s79.trans s10).kp).append (d9.kp s10.kp)
def ze5(n:Nat):Sp:=fun vs H Q _=>∃v b pv p,vs=[v,pv]/\Dt H v (.tup (encB b))/\Dt H pv (pathD p)/\okB n b/\n<=3/\p.length+2 * n<=100/\∀(r:Addr) (H':Hp) (xs:List V),Same H H'->H r=none->H' r=some (.lst xs)->DtA H' xs ((z1l p 0 b).map zzc)->Q (.ref r) H'
theorem zee{n:Nat} (F:Fun K "deeds_of_block" "deeds_of_block" z0c f fd) (b_enumerate:mg "enumerate" = none) (c_blocks_of:Callee P w K mg base "blocks_of" ["deed"] 1 ze6) (c_deeds_of_block:Callee P w K mg base "deeds_of_block" ["block","path"] (n+2) (ze5 n)):FnOk P w K mg base CX0 (n+3) f fd ["block","path"] (ze5 (n+1)):=by
 refine F.ok sc_deeds_of_block (fun vs H Q E h=>?_) (fun cdv A outer s H vs Q E hr h=>?_)
 ·obtain⟨v,t,pv,p,rfl,_⟩:=h
  rfl
 obtain⟨v,b,pv,p,rfl,hd,hp,hok,hn,hl,q⟩:=h
 refine⟨_,(z04 (z14 (i:=2) sc_deeds_of_block.nd rfl z98 (z2v z02) (z05 rfl))
 (z04 (zag y0r rfl (zjz z6m b_enumerate (z08 (z06 0 rfl z8s) z02)) (zbz (n:=2) rfl (z0x (z0s (i:=3) sc_deeds_of_block.nd rfl zam) (z0x (z0s (i:=4) sc_deeds_of_block.nd rfl z99) z3z)))
 (z04 (z14 (i:=5) sc_deeds_of_block.nd rfl z5r (z0n z31 (z06 1 rfl z9u) (z12 (z08 (z06 3 rfl zbe) z02))) (z05 rfl))
 (z04 (z77 (zgy y0d y1f y1e z82 (z06 2 rfl z3b) (z08 (z12 (z08 (z06 5 rfl z3m) (z08 (z06 4 rfl z4o) z02))) z02)) (z05 rfl))
 (z07 (zag y0r rfl (z5i (z19 c_blocks_of hr (by omega) (z08 (z06 4 rfl z4o) z02) z6n zms)) (zbz (n:=2) rfl (z0x (z0s (i:=6) sc_deeds_of_block.nd rfl z7e) (z0x (z0s (i:=7) sc_deeds_of_block.nd rfl z8c) z3z)))
 (z07 (z77 (zgy y0d PySem.F.slot_list_extend PySem.F.type_list_extend zm6 (z06 2 rfl z3b) (z08 (z19 c_deeds_of_block hr (by omega) (z08 (z06 7 rfl z8r) (z08 (z0n z31 (z06 5 rfl z3m) (z12 (z08 (z06 6 rfl z7x) z02))) z02)) z4m z8i) z02)) (z05 rfl))))))))
 (z07 (z0f (z06 2 rfl z3b))))),?_⟩
 walk_at "rd7"
 refine⟨y05 _,fun pr hpr=>?_⟩
 obtain⟨ab,xs,rfl,hab,hda⟩:=hd.tupI
 have s1:=z01 hpr (HO.lst [])
 have hxl:xs.length=b.length:=by rw [hda.length,z6p]
 refine⟨ab,rfl,⟨_,SqT.of (s1 _ _ hab)⟩,?_⟩
 refine zmi (xs:=xs) (q66 H ab pv p b pr) ?start ?lst ?step ?done
 case start=>exact⟨[],_,_,_,_,_,rfl,s1,z00,by rw [y20,z1l]; exact .nil⟩
 case lst=>
  rintro i σ Hc _ ⟨vs,_,_,_,_,_,rfl,sc,_⟩
  exact SqT.of (sc _ _ hab)
 case done=>
  rintro σ Hc ⟨vs,_,_,_,_,_,rfl,sc,hv,dv⟩
  walk_at "rd7"
  rw [hxl,y0j] at dv
  exact q pr Hc vs sc hpr hv dv
 case step=>
  rintro i x σ Hc Tu hx ⟨vs,_,_,_,_,_,rfl,sc,hv,dv⟩ hT
  obtain⟨d,hbi,dx⟩:=zva hda hx
  have hib:i < b.length:=(List.getElem?_eq_some_iff.mp hbi).1
  have s2:=z01 hT (HO.tup [V.int i,x])
  walk_at "rd7"
  refine⟨_,SqT.of z00,rfl,_,_,rfl,_,_,rfl,rfl,zl 1 (by decide),fun r1 h1=>?_⟩
  have s3:=z01 h1 (HO.tup [V.int i])
  refine zqw (hp.kp (sc.trans (s2.trans s3)).kp) zd4 (by simp; omega) fun z H1 s4 dz=>?_
  have s24:=(s2.trans s3).trans s4
  refine⟨.inl ⟨rfl,_,SqL.of (s24 _ _ hv)⟩,zl 2 (by decide),fun r2 h2=>?_⟩
  have s5:=z01 h2 (HO.tup [z,x])
  have s25:=s24.trans s5
  have hbn:=zqx hn
  have hvl:vs.length<=942:=by
   have e:vs.length=(z1l p 0 (b.take i)).length:=by rw [dv.length,y8]
   have:=zhy hok (i:=i) p
   omega
  refine⟨_,s25 _ _ hv,z2g (by omega),?_⟩
  have hw2:(upd H1 r2 (HO.tup [z,x])) r2=some (.tup [z,x]):=z00
  have rowW:Dt (upd H1 r2 (HO.tup [z,x])) (.ref r2) (zzc (p++[(i:Int)],d)):=.tup hw2 (.cons (dz.kp s5.kp) (.cons (dx.kp (sc.trans s25).kp) .nil))
  have hvW:=s25 _ _ hv
  generalize upd H1 r2 (HO.tup [z,x])=W at s5 s25 hw2 rowW hvW |-
  have k6:Kp W (upd W pr (HO.lst (vs++[V.ref r2]))):=Kp.set hvW
  have sU:Same H (upd W pr (HO.lst (vs++[V.ref r2]))):=z5q (sc.trans s25) hpr
  have vU:(upd W pr (HO.lst (vs++[V.ref r2]))) pr=some (.lst (vs++[V.ref r2])):=z00
  have dU:DtA (upd W pr (HO.lst (vs++[V.ref r2]))) (vs++[V.ref r2]) ((z1l p 0 (b.take i)++[(p++[(i:Int)],d)]).map zzc):=by
   rw [y03]
   exact(dv.kp (s25.kp.trans k6)).append (.cons (rowW.kp k6) .nil)
  have hzU:=dz.kp (s5.kp.trans k6)
  generalize upd W pr (HO.lst (vs++[V.ref r2]))=U at k6 sU vU dU hzU |-
  refine⟨x,d,rfl,dx.kp sU.kp,fun rb H5 bs s6 f6 hb db=>?_⟩
  refine⟨rb,rfl,⟨_,SqL.of hb⟩,?_⟩
  have hnp:rb≠pr:=fun e=>by rw [e,vU] at f6; cases f6
  refine zg3 (xs:=bs) (q4v H H5 rb bs ab pv p b pr i d x z) ?s2 ?l2 ?st2 ?d2
  case s2=>exact⟨vs++[V.ref r2],_,_,_,rfl,sU.trans s6,s6 _ _ vU,by rw [y20,z7m]; exact dU.kp s6.kp,Kp.refl _,hb⟩
  case l2=>
   rintro j σ Hd _ ⟨us,_,_,_,rfl,_,_,_,_,hbd⟩
   exact SqL.of hbd
  case d2=>
   rintro σ Hd ⟨us,_,_,_,rfl,sd,hu,du,_⟩
   have e:bs.length=d.blocks.length:=by rw [db.length,y8]
   rw [e,y0j,<- zxu hbi] at du
   exact⟨us,_,_,_,_,_,rfl,sd,hu,du⟩
  case st2=>
   rintro j y σ Hd hy ⟨us,_,_,_,rfl,sd,hu,du,kd,hbd⟩
   obtain⟨nb,hnb,dnb⟩:=z59 db hy
   obtain⟨pp,y0,y1,rfl,hpp,u0,u1⟩:=zie (dnb.kp kd)
   cases u0
   walk_at "rd7"
   have hdo:=hok.2 d (yv hbi)
   have hbok:okB n nb.2:=zi9 hdo (yv hnb)
   refine⟨_,SqT.of hpp,rfl,_,_,rfl,_,_,rfl,rfl,.inl ⟨rfl,_,SqL.of hu⟩,zl 1 (by decide),fun r3 h3=>?_⟩
   have s7:=z01 h3 (HO.tup [V.int nb.1])
   refine zqw (hzU.kp (s6.kp.trans (kd.trans s7.kp))) zd4 (by simp; omega) fun z2 H6 s8 dz2=>?_
   have s78:=s7.trans s8
   refine⟨y1,nb.2,z2,_,rfl,u1.kp s78.kp,dz2,hbok,by omega,by simp; omega,fun r4 H7 ws s9 f9 h9 d9=>?_⟩
   have s79:=s78.trans s9
   have hws:ws.length<=942:=by
    have e:ws.length=(z1l (p++[(i:Int)]++[nb.1]) 0 nb.2).length:=by rw [d9.length,y8]
    have g1:=z8h n nb.2 (p++[(i:Int)]++[nb.1]) 0 hbok
    have g2:=zqx (n:=n) (by omega)
    omega
   have hus:us.length<=2900:=by
    have e:=du.length
    rw [y8,yd,yh] at e
    have g1:=zhy hok (i:=i) p
    have g2:=zwv hdo (by omega) (p++[(i:Int)]) (d.blocks.take j) (fun q hq=>y1k hq) (by rw [y0a]; have:=zsf d; omega)
    omega
   refine⟨r4,rfl,us,s79 _ _ hu,ws,h9,zz (by omega),?_⟩
   have k7:Kp H7 (upd H7 pr (HO.lst (us++ws))):=Kp.set (s79 _ _ hu)
   refine⟨us++ws,_,_,_,rfl,z5q (sd.trans s79) hpr,z00,?_,kd.trans (s79.kp.trans k7),by rw [z09 hnp]; exact s79 _ _ hbd⟩
   rw [z3n hnb,zf2,z7m,z7m,y06,<- y17,<- y0q,y03]
   exact(du.kp (s79.kp.trans k7)).append (d9.kp k7)
end
section
variable{P:yf}{w:yr}{K:y3}{mg:Str->Option y4}{base:Heap}{f:Addr}{fd:yq}
theorem zrp{k:Nat}{n1 n2:Str}:FnOk P w K mg base CX0 k f fd [n1,n2] (ze4 0):=by
 have no:∀vs H Q E,¬ ze4 0 vs H Q E:=fun vs H Q E h=>by
  obtain⟨v,t,pv,p,_,_,_,h1,_⟩:=h
  cases t<;>simp[T.deep] at h1
 exact⟨fun vs H Q E h=>absurd h (no vs H Q E),fun A outer s H args us vs Q E _ _ _ _ h=>absurd h (no vs H Q E)⟩
theorem zrq{k:Nat}{n1 n2:Str}:FnOk P w K mg base CX0 k f fd [n1,n2] (ze5 0):=by
 have no:∀vs H Q E,¬ ze5 0 vs H Q E:=fun vs H Q E h=>by
  obtain⟨v,t,pv,p,_,_,_,h1,_⟩:=h
  exact h1
 exact⟨fun vs H Q E h=>absurd h (no vs H Q E),fun A outer s H args us vs Q E _ _ _ _ h=>absurd h (no vs H Q E)⟩
theorem znd(d:Df K mg "spots_of_term" z28 ["term","path"] f fd):∀n:Nat,Callee P w K mg base "spots_of_term" ["term","path"] (n+1) (ze4 n)
 | 0=>d.callee zrp
 | n+1=>d.callee (zfi d.F (znd d n))
theorem zf5(d:Df K mg "deeds_of_block" z0c ["block","path"] f fd) (b_enumerate:mg "enumerate" = none) (c_blocks_of:Callee P w K mg base "blocks_of" ["deed"] 1 ze6):∀n:Nat,Callee P w K mg base "deeds_of_block" ["block","path"] (n+2) (ze5 n)
 | 0=>d.callee zrq
 | n+1=>d.callee (zee d.F b_enumerate c_blocks_of (zf5 d b_enumerate c_blocks_of n))
def zj3:Sp:=fun vs H Q _=>∃v ins b,vs=[v]/\Dt H v (.tup [ins,.tup (encB b)])/\okB 3 b/\∀(r:Addr) (H':Hp) (xs:List V),Same H H'->H r=none->H' r=some (.lst xs)->DtA H' xs ((zdt b).map zzc)->Q (.ref r) H'
theorem zm2(F:Fun K "all_deeds" "all_deeds" z6h f fd) (c_deeds_of_block:Callee P w K mg base "deeds_of_block" ["block","path"] 5 (ze5 3)):FnOk P w K mg base CX0 6 f fd ["program"] zj3:=by
 refine F.ok zlm (fun vs H Q E h=>?_) (fun cdv A outer s H vs Q E hr h=>?_)
 ·obtain⟨v,ins,b,rfl,_⟩:=h
  rfl
 obtain⟨v,ins,b,rfl,hd,hok,q⟩:=h
 refine⟨_,(z07 (z0f (z19 c_deeds_of_block hr (by omega) (z08 (z0u z0o (z06 0 rfl zbf) z03 (fun _ _=>rfl)) (z08 (z12 z02) z02)) z6o z8i))),?_⟩
 walk_at "rd7"
 obtain⟨a,x0,x1,rfl,ha,t0,t1⟩:=zie hd
 refine⟨_,rfl,_,SqT.of ha,_,rfl,y05 _,fun r1 h1=>?_⟩
 have s1:=z01 h1 (HO.tup [])
 exact⟨x1,b,.ref r1,[],rfl,t1.kp s1.kp,.tup z00 .nil,hok,by decide,by decide,fun r H' xs s2 f2 h2 d2=>q r H' xs (s1.trans s2) (s1.free f2) h2 d2⟩
def zjj:Sp:=fun vs H Q _=>∃v ins b,vs=[v]/\Dt H v (.tup [ins,.tup (encB b)])/\okB 3 b/\∀(r:Addr) (H':Hp) (xs:List V),Same H H'->H r=none->H' r=some (.lst xs)->DtA H' xs ((zab b).map q1r)->Q (.ref r) H'
theorem zwz(F:Fun K "spots" "spots" z4v f fd) (c_all_deeds:Callee P w K mg base "all_deeds" ["program"] 6 zj3) (c_spots_of_term:Callee P w K mg base "spots_of_term" ["term","path"] 6 (ze4 5)) (c_term_of:Callee P w K mg base "term_of" ["deed"] 1 zpq):FnOk P w K mg base CX0 7 f fd ["program"] zjj:=by
 refine F.ok sc_spots (fun vs H Q E h=>?_) (fun cdv A outer s H vs Q E hr h=>?_)
 ·obtain⟨v,ins,b,rfl,_⟩:=h
  rfl
 obtain⟨v,ins,b,rfl,hd,hok,q⟩:=h
 refine⟨_,(z04 (z14 (i:=1) sc_spots.nd rfl zio (z2v z02) (z05 rfl))
 (z04 (zag y0r rfl (z5i (z19 c_all_deeds hr (by omega) (z08 (z06 0 rfl zf8) z02) zdg zmt)) (zbz (n:=2) rfl (z0x (z0s (i:=2) sc_spots.nd rfl ziq) (z0x (z0s (i:=3) sc_spots.nd rfl zir) z3z)))
 (z07 (z77 (zgy y0d PySem.F.slot_list_extend PySem.F.type_list_extend zm6 (z06 1 rfl zcp) (z08 (z19 c_spots_of_term hr (by omega) (z08 (z19 c_term_of hr (by omega) (z08 (z06 3 rfl zjd) z02) zfp zs4) (z08 (z0n z31 (z06 2 rfl zjc) (z12 (z08 z03 z02))) z02)) za0 z5k) z02)) (z05 rfl))))
 (z07 (z0f (z06 1 rfl zcp))))),?_⟩
 walk_at "rd7"
 refine⟨y05 _,fun pr hpr=>?_⟩
 have s1:=z01 hpr (HO.lst [])
 refine⟨v,ins,b,rfl,hd.kp s1.kp,hok,fun ra H1 us s2 f2 h2 d2=>?_⟩
 have hne:ra≠pr:=fun e=>by rw [e,z00] at f2; cases f2
 have hrows:=zeq 3 b [] 0 hok
 have hbl:=z8h 3 b [] 0 hok
 have hb3:bnd 3=942:=by decide
 refine⟨ra,rfl,⟨_,SqL.of h2⟩,?_⟩
 refine zg3 (xs:=us) (q60 H v (zdt b) ra us pr) ?start ?lst ?step ?done
 case start=>exact⟨[],_,_,rfl,s1.trans s2,s2 _ _ z00,by rw [y20,z58]; exact .nil,h2,d2⟩
 case lst=>
  rintro i σ Hc _ ⟨vs,_,_,rfl,_,_,_,hu,_⟩
  exact SqL.of hu
 case done=>
  rintro σ Hc ⟨vs,_,_,rfl,sc,hv,dv,hu,du⟩
  walk_at "rd7"
  rw [show us.length=(zdt b).length by rw [d2.length,y8],y0j] at dv
  exact q pr Hc vs sc hpr hv dv
 case step=>
  rintro i y σ Hc hy ⟨vs,_,_,rfl,sc,hv,dv,hu,du⟩
  obtain⟨r,hri,dr⟩:=z59 du hy
  obtain⟨pp,y0,y1,rfl,hpp,u0,u1⟩:=zie dr
  walk_at "rd7"
  have hrm:=hrows r (yv hri)
  refine⟨_,SqT.of hpp,rfl,_,_,rfl,_,_,rfl,rfl,.inl ⟨rfl,_,SqL.of hv⟩,y1,r.2,rfl,u1,fun x dx=>⟨zl 1 (by decide),fun r1 h1=>?_⟩⟩
  have s3:=z01 h1 (HO.tup [V.int 0])
  have hrl:r.1.length<=6:=by have:=hrm.1; simp at this; omega
  refine zqw (u0.kp s3.kp) zd4 (by simp; omega) fun z H2 s4 dz=>?_
  have s34:=s3.trans s4
  refine⟨x,r.2.term,z,_,rfl,dx.kp s34.kp,dz,zh0 hrm.2,by decide,by simp; omega,fun r4 H3 ws s5 f5 h5 d5=>?_⟩
  have s35:=s34.trans s5
  have l1:ws.length<=64:=by
   rw [d5.length,y8]
   exact z8v (zh0 hrm.2) (by decide)
  have l2:vs.length<=942 * 64:=by
   have e:vs.length=(z58 ((zdt b).take i)).length:=by rw [dv.length,y8]
   have g1:=ze3 ((zdt b).take i) fun z hz=>(hrows z (y1k hz)).2
   have g2:((zdt b).take i).length<=942:=by
    rw [y0a]
    have:(zdt b).length<=bnd 3:=hbl
    omega
   have g3:((zdt b).take i).length * 64<=942 * 64:=y0t _ g2
   omega
  refine⟨r4,rfl,vs,s35 _ _ hv,ws,h5,zz5 (by omega),?_⟩
  have k6:Kp H3 (upd H3 pr (HO.lst (vs++ws))):=Kp.set (s35 _ _ hv)
  refine⟨vs++ws,_,_,rfl,z5q (sc.trans s35) hpr,z00,?_,by rw [z09 hne]; exact s35 _ _ hu,du.kp (s35.kp.trans k6)⟩
  rw [z3n hri,zcw,z58,z58,y06,y03]
  exact(dv.kp (s35.kp.trans k6)).append (d5.kp k6)
end
section
variable{P:yf}{w:yr}{K:y3}{mg:Str->Option y4}{base:Heap}{f:Addr}{fd:yq}
theorem zg5{H:Hp}:∀{xs:List V} {ds:List Dm} (n:Nat),DtA H xs ds->DtA H (xs.take n) (ds.take n)
 | _,_,0,_=>by simp; exact .nil
 | _,_,n+1,.nil=>by simp; exact .nil
 | _,_,n+1,.cons h t=>by simp only[List.take_succ_cons]; exact .cons h (zg5 n t)
theorem zqn{H:Hp}:∀{xs:List V} {ds:List Dm} (n:Nat),DtA H xs ds->DtA H (xs.drop n) (ds.drop n)
 | _,_,0,h=>by simpa using h
 | _,_,n+1,.nil=>by simp; exact .nil
 | _,_,n+1,.cons h t=>by simp only[List.drop_succ_cons]; exact zqn n t
def TabM(pt:Addr)(q:Str)(H:Hp):Prop:=∃ps,H pt=some (.tbl ps)/\TriplesOk ps.toList/\∀pos v,codeAmong pos ps.toList=some v->∃c',v=.ref c'/\H c'=some (zb6 c' q)
theorem zl6(a b:Nat)(v:y4)(l:List y4):TriplesOk l->TriplesOk (l++[rawInt a,rawInt b,v]):=by
 fun_induction TriplesOk l with
 | case1=>intro _; simp[TriplesOk,rawInt]
 | case2 i t j u c zjs ih=>intro h; exact ih h
 | case3=>intro h; exact h.elim
theorem zsg(pos p:Pos)(v u:y4)(l:List y4):TriplesOk l->codeAmong pos (l++[rawInt p.line,rawInt p.col,v])=some u->codeAmong pos l=some u\/u=v:=by
 fun_induction TriplesOk l with
 | case1=>
  intro _ h
  right
  simp only[List.nil_append,rawInt,codeAmong] at h
  split at h
  ·exact(y04 h).symm
  ·cases h
 | case2 i t j u' c zjs ih=>
  intro h e
  simp only[y17,codeAmong] at e |-
  split at e
  ·rename_i hh
   rw [if_pos hh]
   exact .inl e
  ·rename_i hh
   rw [if_neg hh]
   exact ih h e
 | case3=>intro h; exact h.elim
theorem TabM.tb{pt:Addr}{q:Str}{H:Hp}(h:TabM pt q H):∃ps,H pt=some (.tbl ps):=let ⟨ps,e,_⟩:=h; ⟨ps,e⟩
theorem TabM.kp{pt:Addr}{q:Str}{H H':Hp}(h:TabM pt q H)(k:∀a o,(∀xs,o≠.lst xs)->(∀C dx fs,o≠.ins C dx fs)->H a=some o->H' a=some o):TabM pt q H':=by
 obtain⟨ps,e,t,c⟩:=h
 refine⟨ps,k _ _ (by intro xs z; cases z) (by intro C dx fs z; cases z) e,t,fun pos v z=>?_⟩
 obtain⟨c',e1,e2⟩:=c pos v z
 exact⟨c',e1,k _ _ (by intro xs z; cases z) (by intro C dx fs z; cases z) e2⟩
theorem zud{pt:Addr}{pos:Pos}{D:LamD}{cl:List (Str×Addr)}{σ : St}{H:Hp}{Q:VK}(hT:TabM pt D.qual H)(q:∀(fa c':Addr) (H2:Hp),SameB pt H H2->H fa=none->H2 fa=some (zq8 D cl fa c')->H2 c'=some (zb6 c' D.qual)->TabM pt D.qual H2->Q (.ref fa) H2):q41 pt pos D cl σ H Q:=by
 obtain⟨ps,hP,ht,hc⟩:=hT
 refine⟨ps,hP,ht,?_⟩
 cases e:codeAmong pos ps.toList with
 | none=>
  refine .inl ⟨rfl,fun c' fa h1 h2 hne=>?_⟩
  have n1:pt≠c':=z0d hP h1
  have n2:pt≠fa:=z0d hP h2
  have sB:SameB pt H (upd (upd (upd H pt (.tbl (ps ++ #[rawInt pos.line,rawInt pos.col,.ref c']))) c' (zb6 c' D.qual)) fa (zq8 D cl fa c')):=fun a o n e=>by rw [z09 (z0d e h2),z09 (z0d e h1),z09 n]; exact e
  refine q fa c' _ sB h2 z00 (by rw [z09 hne,z00]) ⟨_,by rw [z09 n2,z09 n1,z00],?_,fun pos' v z=>?_⟩
  ·rw [Array.toList_append]
   exact zl6 _ _ _ _ ht
  ·rw [Array.toList_append] at z
   rcases zsg _ _ _ _ _ ht z with z | z
   ·obtain⟨c2,e1,e2⟩:=hc pos' v z
    exact⟨c2,e1,sB _ _ (fun w=>by rw [w,hP] at e2; unfold zb6 at e2; cases e2) e2⟩
   ·exact⟨c',z,by rw [z09 hne,z00]⟩
 | some v=>
  obtain⟨c',rfl,e2⟩:=hc pos v e
  refine .inr ⟨c',rfl,e2,fun fa h1=>?_⟩
  have s1:=z01 h1 (zq8 D cl fa c')
  refine q fa c' _ (SameB.of s1) h1 z00 (s1 _ _ e2) ⟨ps,s1 _ _ hP,ht,fun pos' v z=>?_⟩
  obtain⟨c2,e1,e3⟩:=hc pos' v z
  exact⟨c2,e1,s1 _ _ e3⟩
theorem zc8{x:Str}{c:Addr}:∀{fr:List Str} {as:List Addr},fr.Nodup->as.Nodup->(fr.zip as).lookup x=some c->∃i:Nat,fr[i]?=some x/\as[i]?=some c
 | [],_,_,_,h=>by simp at h
 | _::_,[],_,_,h=>by simp at h
 | y::fr,a::as,n1,n2,h=>by
  rw [y14,List.lookup] at h
  split at h
  ·rename_i e
   cases h
   exact⟨0,by simpa using(beq_iff_eq.mp e).symm,rfl⟩
  ·obtain⟨i,h1,h2⟩:=zc8 (List.nodup_cons.mp n1).2 (List.nodup_cons.mp n2).2 h
   exact⟨i+1,h1,h2⟩
theorem zhd{fr:List Str}{as:List Addr}{sc:Scope}(h1:sc.kind=.function)(h2:sc.isCoroutine=false)(h3:sc.isGenerator=false)(h4:fr.Nodup)(h5:∀x∈fr,sc.names.lookup x=some .free)(h6:∀y∈sc.names,y.2≠.cell)(h7:∀y∈sc.names,y.2=.free->y.1∈fr)(hl:fr.length=as.length)(hn:as.Nodup):LamScope [] fr (fr.zip as) sc:=by
 have get:∀{i:Nat} {x:Str} {c:Addr},fr[i]?=some x->as[i]?=some c->(fr.zip as).lookup x=some c:=by
  intro i x c e1 e2
  clear h1 h2 h3 h5 h6 h7
  induction fr generalizing as i with
  | nil=>simp at e1
  | cons y fr ih=>
   match as,hl,hn,e2 with
   | [],hl,_,_=>simp at hl
   | a::as,hl,hn,e2=>
    have n1:=List.nodup_cons.mp h4
    cases i with
    | zero=>
     have e1':y=x:=by simpa using e1
     have e2':a=c:=by simpa using e2
     subst e1' e2'
     rw [y14,List.lookup,beq_self_eq_true]
    | succ i=>
     have e1':fr[i]?=some x:=by simpa using e1
     have:(x == y)=false:=by
      rw [beq_eq_false_iff_ne]
      rintro rfl
      exact n1.1 (yv e1')
     rw [y14,List.lookup,this]
     exact ih n1.2 (by simpa using hl) (List.nodup_cons.mp hn).2 e1' (by simpa using e2)
 refine⟨h1,h2,h3,h4,by simp,h5,h6,fun y hy e=>?_,fun x y c e1 e2=>?_,fun x c h=>?_⟩
 ·obtain⟨i,hi,e'⟩:=y0y (h7 y hy e)
  exact⟨as[i]'(by omega),get (List.getElem?_eq_some_iff.mpr ⟨hi,e'⟩) (yb (by omega))⟩
 ·obtain⟨i,a1,a2⟩:=zc8 h4 hn e1
  obtain⟨j,b1,b2⟩:=zc8 h4 hn e2
  have hi:=(List.getElem?_eq_some_iff.mp a2).1
  have:i=j:=(List.getElem?_inj hi hn).mp (a2.trans b2.symm)
  subst this
  rw [a1] at b1
  exact y04 b1
 ·obtain⟨i,hi,e⟩:=y0y h
  rw [List.getElem_zip] at e
  have l:=hi
  rw [List.length_zip] at l
  have e1:=congrArg Prod.fst e
  have e2:=congrArg Prod.snd e
  exact get (i:=i) (List.getElem?_eq_some_iff.mpr ⟨by omega,e1⟩) (List.getElem?_eq_some_iff.mpr ⟨by omega,e2⟩)
def zl3(K:y3)(Rc:Addr)(as:List Addr)(C:Addr)(wd:Str):Prop:=PySem.W.exmOne K (.ref C) (.ref Rc)=some true/\ExcC K C/\∃j:Nat,(∀(i:Nat) (a:Addr),as[i]?=some a->PySem.W.kitOne K (.ref C) (.ref a)=some (decide (i=j)))/\PySem.W.kitOne K (.ref C) (.type "ValueError")=some true/\kinds6[j]?=some wd
def zz3(K:y3)(Rc:Addr)(as:List Addr)(pt:Addr)(q:Str)(is:List Nat)(t:XK->TE):TE:=fun σ H Q=>TabM pt q H/\∃ws:List V,Paired (fun(i:Nat) (v:V)=>σ[i]?=some (some v)) is ws/\
 ∀H0,SameB pt H H0->TabM pt q H0->∀(E':XK) (Q':VK),(∀cls d H1,(∃C wd,cls=.ref C/\zl3 K Rc as C wd/\∀H',Same H1 H'->Q (.str wd) H')->E' cls d H1)->(∀v H1,Q v H1->Q' v H1)->t E' (ws.map some) H0 Q'
theorem zgz{σ : St}:∀{cs:List (Nat×Addr)} {ws:List V},Paired (fun(i:Nat) (v:V)=>σ[i]?=some (some v)) (cs.map (·.1)) ws->q4x σ cs ws
 | [],_,.nil=>.nil
 | _::_,_,.cons e r=>.cons e (zgz r)
theorem zqt:∀{os:List (Addr×Obj)} {ws:List V},zg6 os ws->∀{i:Nat} {v:V},ws[i]?=some v->∃c o u,os[i]?=some (c,o)/\o.data=.cell (some u)/\RelV v u
 | _,_,.nil,i,v,h=>by simp at h
 | (c,o)::_,y::_,.cons ⟨u,e1,e2⟩ r,0,v,h=>by
  have:y=v:=by simpa using h
  subst this
  exact⟨c,o,u,rfl,e1,e2⟩
 | _::_,_,.cons _ r,i+1,v,h=>by
  obtain⟨c,o,u,h1,h2⟩:=zqt r (i:=i) (v:=v) (by simpa using h)
  exact⟨c,o,u,by simpa using h1,h2⟩
theorem zqu:∀{os:List (Addr×Obj)} {ws:List V},zg6 os ws->∀q∈os,∃u,q.2.data=.cell (some u)
 | _,_,.nil,q,h=>absurd h (by simp)
 | _::_,_,.cons ⟨u,e1,e2⟩ r,q,h=>by
  rcases List.mem_cons.mp h with rfl | h
  ·exact⟨u,e1⟩
  ·exact zqu r q h
theorem zm8:∀{os:List (Addr×Obj)} {i:Nat} {c:Addr} {o:Obj},(os.map (·.1)).Nodup->os[i]?=some (c,o)->os.lookup c=some o
 | [],_,_,_,_,h=>by simp at h
 | (b,u)::os,0,c,o,n,h=>by
  have e:b=c/\u=o:=by simpa using h
  obtain⟨rfl,rfl⟩:=e
  rw [List.lookup,beq_self_eq_true]
 | (b,u)::os,i+1,c,o,n,h=>by
  have h':os[i]?=some (c,o):=by simpa using h
  have n':=List.nodup_cons.mp n
  have:(c == b)=false:=by
   rw [beq_eq_false_iff_ne]
   rintro rfl
   exact n'.1 (List.mem_map.mpr ⟨_,yv h',rfl⟩)
  rw [List.lookup,this]
  exact zm8 n'.2 h'
theorem ztj{X:Cx}{Rc c pt:Addr}{as:List Addr}{j:Nat}{q:Str}{params:Arguments}{body:Expr}{scope:Scope}{fr:List Str}{cs:List (Nat×Addr)}{t:XK->TE}{p lpos pos:Pos}
  (C:Callee X.prog X.w X.K X.mg X.base "_law_told" ["_law_deed"] 26 (zsz X.prog X.w X.K X.mg X.base Rc as)) (hr:Room j X.A) (hk:26<=j)
  (hdef:defaultsOf params X.env=([],[])) (hcl:closureFor scope X.env=pure (fr.zip (cs.map (·.2)))) (hcode:X.env.code=.ref c) (hC:PySem.W.CodeHd X.base c pt) (hB:X.base.BuiltinsAt X.mg pt) (hgP:mainGlobals≠pt)
  (hq:X.env.qual ++ "<lambda>" = q) (hcs:q1k X cs) (S:LamScope [] fr (fr.zip (cs.map (·.2))) scope) (hlen:fr.length=cs.length) (hnd:(cs.map (·.2)).Nodup)
  (hbind:∀fd:yq,fd.params=params->fd.defaults=.none->fd.kwdefaults=.none->fd.scope=scope->bindArgs fd ⟨[],[]⟩=pure [])
  (hbody:∀(f c':Addr) (A:y01) (outer:List PySem.Env) (s:y9) (H:Hp) (E E':XK),Room 24 (A.deeper (PySem.W.envX q scope s.heap.objs.size f (.ref c') (fr.zip (cs.map (·.2)))))->zf6 (CX1 X.prog X.w) (q3i X.prog X.w X.K X.mg X.base fr ⟨q,params,body,scope⟩ (fr.zip (cs.map (·.2))) f c' A outer s H E) E'->PE (q3i X.prog X.w X.K X.mg X.base fr ⟨q,params,body,scope⟩ (fr.zip (cs.map (·.2))) f c' A outer s H E) body (t E'))
  (hg:Gl X "_law_told") (hdb:(("_law_told" : Str) == ("__debug__" : Str))=false:=by decide) :
  PE X (.Call (.Name "_law_told" p) [.Lambda params body scope lpos] [] pos) (zz3 X.K Rc as pt q (cs.map (·.1)) t):=by
 subst hq
 refine PE.weak (zrh (cs:=cs) C hr hk (z08 (zyl hdef hcl hcode hC hB hgP) z02) hcs hg hdb) fun σ H Q h=>?_
 obtain⟨hT,ws,hw,h⟩:=h
 unfold zj1 zcu zni
 refine zud hT fun fa c' H2 sB hfa hf hc hT2=>?_
 refine⟨ws,zgz hw,fun os em hca hn=>?_⟩
 have ecl:(fr.zip (cs.map (·.2))).map (·.2)=os.map (·.1):=by rw [em]; exact List.map_snd_zip (by rw [y8]; omega)
 have lw:ws.length=fr.length:=by rw [hlen,(zgz hw).length]
 have ond:(os.map (·.1)).Nodup:=by rw [em]; exact hnd
 refine⟨fa,rfl,⟨_,_,c',z6z hn hf⟩,?_⟩
 intro A outer s us hr' e0 r
 cases r
 have cells:∀b∈(fr.zip (cs.map (·.2))).map (·.2),∃o x,shw os H2 b=some (z3x b o)/\o.data=.cell x:=fun b hb=>by
  rw [ecl] at hb
  obtain⟨o,e⟩:=zef hb
  obtain⟨u,hu⟩:=zqu hca _ (y2i e)
  exact⟨o,_,zlk e,hu⟩
 refine zxd (k:=24) (ps:=[]) (fr:=fr) (ws:=ws) S hr' e0 (z6z hn hf) (z6z hn hc) rfl .nil lw cells (fun i x v h1 h2=>?_) hbind fun hr2=>⟨_,hbody fa c' A outer s (shw os H2) _ _ hr2 (zzt S e0 fun b hb=>?_),?_⟩
 ·obtain⟨b,o,u,h3,h4,h5⟩:=zqt hca h2
  refine⟨b,o,u,S.look x b (yv (i:=i) ?_),zlk (zm8 ond h3),h4,h5⟩
  have:(cs.map (·.2))[i]?=some b:=by rw [<- em,y00,h3]; rfl
  rw [List.getElem?_zip_eq_some]
  exact⟨h1,this⟩
 ·obtain⟨o,_,e,_⟩:=cells b hb
  exact⟨o,e⟩
 rw [ecl,zxk hn]
 refine h H2 sB hT2 _ _ (fun cls d H1 ⟨C,wd,e,⟨xm,ec,jj,hk1,kv,hwd⟩,hq⟩ hno=>⟨C,e,xm,fun x hx=>⟨x,C,jj,wd,rfl,z00,ec,hk1,kv,hwd,fun H3 s3=>⟨fun b o e=>?_,hq _ fun a o e=>?_⟩⟩⟩) fun v H1 hq hno=>⟨fun b o e=>?_,by rw [zus hno]; exact hq⟩
 ·have eb:zb7 (os.map (·.1)) (shw os H2) H1 b=some (z3x b o):=by rw [zia (List.mem_map.mpr ⟨_,y2i e,rfl⟩)]; exact zlk e
  exact s3 _ _ (by rw [z09 (z0d eb hx)]; exact eb)
 ·have na:a∉os.map (·.1):=fun z=>by rw [hno a z] at e; cases e
  have ea:zb7 (os.map (·.1)) (shw os H2) H1 a=some o:=by rw [z4l na]; exact e
  rw [z1p na]
  exact s3 _ _ (by rw [z09 (z0d ea hx)]; exact ea)
 ·rw [zia (List.mem_map.mpr ⟨_,y2i e,rfl⟩)]
  exact zlk e
theorem q3r{fd:yq}{ar:Arguments}{sc:Scope}(h1:fd.params=ar)(h2:fd.defaults=.none)(h3:fd.kwdefaults=.none)(h4:fd.scope=sc)(h:ar = {posonlyargs:=[],args:=[],vararg:=none,kwonlyargs:=[],kw_defaults:=[],kwarg:=none,defaults:=[]}:=by rfl):bindArgs fd ⟨[],[]⟩=pure []:=by
 subst h
 obtain⟨name,qual,params,body,scope,globals,closure,defaults,kwdefaults,doc,pm,an,code,ct,bu⟩:=fd
 cases h1
 cases h2
 cases h3
 cases h4
 rfl
abbrev qL:Str:="law" ++ ".<locals>." ++ "<lambda>"
end
local macro_rules | `(tactic| walk_at "rd14")=>`(tactic| simp only[↓zpj,↓zpi,↓zco,↓zcn,↓zgn,↓zgm,↓z8y,↓z8x,↓z90,↓z8z,↓zow,↓zez,↓zhk,zov,zhl,zhj,zph,zad,zza,zz9,zns,q09,q08,q0e,q0d,q1h,q1g,q4z,znq,zz3,zno,zo4,q4b,zwb,q43,zju,zjt,q21,q25,zgb,zr5,zgg,z7z,zr3,zr4,zgc,zev,q1t,ze9,zgd,z4u,znh,znj,zij,tOp,zif,tC,zwd,z7l,zuu,zfu,zw4,zy2,znm,zla,zl9,tCB,zcu,zni,zlc,tUn,rU,rI0,rI,zy5,tOr,zy3,tB,zld,zz4,zl8,tIf,zz6,znn,zgf,zlb,zge,zln,zet,znp,zct,znr,tSl,zaa,zl7,zzf,zc5,zgt,zo8,zls,z6b,z5v,z8t,z69,z6e,z6s,zi4,z33,z50,zck,z6t,z40,z34,z41,z9h,z6u,z42,z4s,zgh,zyd,tDX,zz7,zy1,zy4,tBM,
 qEq,qNe,qIn,zd0,zyi,zlr,zzk,zo5,zyh,zlt,zw3,zyg,zo6,zo7,zgu,rIx,zta,zpv,zye,zyf,zzg,zo3,zzi,zzh,zaf,zae,zes,zgj,zsu,
 z8u,z57,z6a,z6c,z4t,z6d,zi5,z51,z9i,Nat.reduceAdd,Nat.reduceSub,Nat.add_zero,y1v,y1r,
 y0p,y15,y1o,y1p,y1s,y1h,V.int.injEq,V.ref.injEq,V.str.injEq,V.bl.injEq,V.ty.injEq,
 reduceCtorEq,false_and,and_false,and_true,true_and,exists_false,exists_const,false_or,or_false,exists_eq_left,exists_eq_left',exists_eq_right,exists_eq_right',exists_and_left,decide_eq_true_eq,y09,y1m,exists_eq,true_or,or_true,y0h,if_true,if_false,y1q,y1w,y21,decide_true,decide_false,y1u,y1z,y1c,y1d,bne_self_eq_false,beq_self_eq_true])
section
variable{P:yf}{w:yr}{K:y3}{mg:Str->Option y4}{base:Heap}{f:Addr}{fd:yq}
def rw2(r:RI):Rw2:=(r.1,.int r.2)
theorem zwg(rs:List RI):rs.map rowI=(rs.map rw2).map q1s:=by rw [y10]; rfl
theorem zvm{xs:List V}{k:Nat}(h:k<=xs.length):zpb xs none (some (k:Int))=xs.take k:=by
 unfold zpb
 rw [HT.zjr,HT.zo2,Nat.min_eq_left h,List.drop_zero,y1v]
theorem zwf{H:Hp}{ys:List V}{rs:List RI}{k:Nat}{Q:VK}{p:Addr}(dy:DtA H ys (rs.map rowI))(hz:k<=1000)(hk:k<=rs.length)(hp:H p=none)
  (q:∀(d:Addr) (kvs:List (List Key×V)) (H':Hp),H' d=some (.dT kvs)->Same H H'->H d=none->(∀x:List Int,(zcr kvs (x.map Sum.inl)).isSome=((rs.take k).map (·.1)).contains x)->Q (.ref d) H'):ztc [V.ref p] (upd H p (.lst (zpb ys none (some (k:Int))))) Q:=by
 have lys:ys.length=rs.length:=by rw [dy.length,y8]
 have s1:=z01 hp (HO.lst (zpb ys none (some (k:Int))))
 rw [zvm (by omega)] at s1 |-
 have dt:DtA (upd H p (.lst (ys.take k))) (ys.take k) (((rs.take k).map rw2).map q1s):=by
  have:=zg5 k (dy.kp s1.kp)
  rw [zwg,<- List.map_take,<- List.map_take] at this
  exact this
 refine⟨p,ys.take k,(rs.take k).map rw2,rfl,z00,dt,?_,fun d kvs hd hm=>?_⟩
 ·rw [y8,y0a]
  omega
 ·have s2:=z01 hd (HO.dT kvs)
  refine q d kvs _ z00 (s1.trans s2) (s1.free hd) fun x=>?_
  rw [hm x,y10]
  rfl
def zpp(C:Addr):Sp:=fun vs H Q _=>∃(x dx l:Addr) (gv wv:V) (ins:Dm) (b:List D) (ys:List V) (rs:List RI) (k:Nat),vs=[.ref x]/\H x=some (.ins C dx (trF gv wv l k))/\H l=some (.lst ys)/\Dt H gv (.tup [ins,.tup (encB b)])/\okB 3 b/\DtA H ys (rs.map rowI)/\k<=1000/\k<=rs.length/\
 ∀(r:Addr) (vs:List V) (H':Hp),Same H H'->H r=none->H' r=some (.lst vs)->DtA H' vs ((((zab b).map (·.1)).filter fun p=>!((rs.take k).map (·.1)).contains p).map pathD)->Q (.ref r) H'
def UsI(U:Hp)(S:List RT)(R:List (List Int))(d:Addr)(i:Nat)(ys:List V)(σ':St)(H':Hp):Prop:=H'=U/\(∃t0 t1,σ'=[t0,t1,some (.ref d)])/\ys.length<=i/\DtA U ys ((((S.take i).map (·.1)).filter fun p=>!R.contains p).map pathD)
theorem zh1{C:Addr} (F:Fun K "unseen" "Trace.unseen" z1h f fd) (b_dict:mg "dict" = none) (t:TrC K C) (c_spots:Callee P w K mg base "spots" ["program"] 7 zjj):FnOk P w K mg base CX0 8 f fd ["self"] (zpp C):=by
 refine F.ok sc_Trace_unseen (fun vs H Q E h=>?_) (fun cdv A outer s H vs Q E hr h=>?_)
 ·obtain⟨x,dx,l,gv,wv,ins,b,ys,rs,k,rfl,_⟩:=h
  rfl
 obtain⟨x,dx,l,gv,wv,ins,b,ys,rs,k,rfl,hx,hl,dg,hok,dy,hz,hk,q⟩:=h
 refine⟨_,(z04 (z14 (i:=1) sc_Trace_unseen.nd rfl zan (ztp (zpg rfl hr.units) zbt b_dict q1c (z08 (zg1 zjl (z1y (z06 0 rfl z3u) rfl) zjy (zea (z1y (z06 0 rfl z3u) rfl))) z02) q06 q14) (z05 rfl))
 (z07 (z0f (z6j ["path","term","seen"] [none,none,some 1] rfl (CompS.of (by rfl)) (z5i (z19 c_spots hr (by omega) (z08 (z1y (z06 0 rfl z3u) rfl) z02) zb1 zks)) (fun _ _ _ _ _=>(zec (n:=2) (K:=K) rfl rfl (z0x (z0s (i:=0) (show List.Nodup (["path","term","seen"]:List Str) from by decide+kernel) rfl (Or.inl rfl)) (z0x (z0s (i:=1) (show List.Nodup (["path","term","seen"]:List Str) from by decide+kernel) rfl (Or.inl rfl)) z3z)))) (fun _ _ _ _ _=>(zgx (q28 (ztq hr.units1 (z1q (i:=0) rfl (by walk_at "vc") zp5 zpe) (z1q (i:=2) rfl (by walk_at "vc") q12 q19))))) (fun _ _ _ _ _=>(z1q (i:=0) rfl (by walk_at "vc") zp5 zpe)))))),z0e fun N1 e1=>?_⟩
 walk_at "rd14"
 refine⟨_,_,_,hx,t.c,t.nr,_,z7f,_,_,_,hx,t.c,t.nd,_,z4j,_,rfl,_,rfl,_,SqL.of hl,fun p1 h1=>zwf dy hz hk h1 fun d kvs H2 hd2 s2 hdn hmem=>?_⟩
 rw [e1]
 walk_at "rd14"
 refine⟨_,_,_,s2 _ _ hx,t.c,t.np,_,zek,gv,ins,b,rfl,dg.kp s2.kp,hok,fun r3 H3 zs s3 hr3 hl3 dz=>?_⟩
 refine⟨r3,rfl,⟨_,SqL.of hl3⟩,?_⟩
 have hzs:zs.length=(zab b).length:=by rw [dz.length,y8]
 have hsb:(zab b).length<=942 * 64:=zle (n:=3) hok (by decide)
 have hd3:=s3 _ _ hd2
 refine z6v (K:=K) (a:=r3) (xs:=zs) (UsI H3 (zab b) ((rs.take k).map (·.1)) d) ⟨rfl,⟨_,_,rfl⟩,yg _,by rw [y20]; exact .nil⟩ (y0w (show zs.length<=942 * 64 by omega) (by decide)) ?_ ?_ ?_ ?_
 ·rintro i vs σ' H' ⟨_,_,h,_⟩
  exact h
 ·rintro i vs σ' H' _ ⟨rfl,_⟩
  exact SqL.of hl3
 ·rintro i vs v σ' H' hv ⟨rfl,⟨t0,t1,rfl⟩,hle,dv⟩
  obtain⟨r,hri,dr⟩:=z59 dz hv
  obtain⟨va,v0,v1,rfl,hva,u0,u1⟩:=zie dr
  obtain⟨pa,xs,rfl,hpa,dpa⟩:=u0.tupI
  obtain rfl:=z9e dpa
  walk_at "rd14"
  refine⟨_,SqT.of hva,rfl,_,_,rfl,_,_,rfl,rfl,_,DGet.t hd3 (k:=r.1.map Sum.inl) (by rw [hpa,y10]; rfl),?_⟩
  rw [hmem]
  have et:(((zab b).take (i+1)).map (·.1))=((zab b).take i).map (·.1)++[r.1]:=by rw [z3n hri,y03]; rfl
  split
  ·rename_i hc
   refine⟨rfl,⟨_,_,rfl⟩,by rw [yd,y08]; omega,?_⟩
   rw [et,y23,List.filter_cons_of_pos (by rw [hc]; rfl),y2k,y03]
   exact dv.append (.cons u0 .nil)
  ·rename_i hc
   refine⟨rfl,⟨_,_,rfl⟩,by omega,?_⟩
   rw [et,y23,List.filter_cons_of_neg (by rw [Bool.not_eq_false] at hc; rw [hc]; decide),y2k,y06]
   exact dv
 ·rintro vs σ' H' ⟨rfl,_,_,dv⟩ p5 h5
  rw [hzs,y0j] at dv
  have s5:=z01 h5 (HO.lst vs)
  exact q p5 vs _ (s2.trans (s3.trans s5)) ((s2.trans s3).free h5) z00 (dv.kp s5.kp)
end
section
variable{P:yf}{w:yr}{K:y3}{mg:Str->Option y4}{base:Heap}{f:Addr}{fd:yq}
abbrev zng:=List (List Int×Int)
def kvP(c:zng):List (List Key×V):=c.map fun p=>(p.1.map Sum.inl,V.int p.2)
def zyt(c:zng)(x:List Int):Option Int:=(c.find? fun p=>decide (p.1=x)).map (·.2)
def q27(c:zng)(x:List Int)(i:Int):zng:=if(c.any fun p=>decide (p.1=x))=true then c.map (fun p=>if p.1=x then(p.1,i) else p) else c++[(x,i)]
def q45(c:zng)(x:List Int):zng:=q27 c x ((zyt c x).getD 0+1)
def zw5:zng->List (List Int)->zng
 | c,[]=>c
 | c,x::l=>zw5 (q45 c x) l
theorem zi6:∀(c:zng) (l m:List (List Int)),zw5 c (l++m)=zw5 (zw5 c l) m
 | c,[],m=>rfl
 | c,x::l,m=>zi6 (q45 c x) l m
theorem inl_eq{x y:List Int}:(x.map (Sum.inl:Int->Key)=y.map Sum.inl)↔x=y:=by
 constructor
 ·intro h
  induction x generalizing y with
  | nil=>cases y with
   | nil=>rfl
   | cons b y=>cases h
  | cons a x ih=>
   cases y with
   | nil=>cases h
   | cons b y=>
    rw [yn,yn] at h
    injection h with h1 h2
    injection h1 with h1
    rw [h1,ih h2]
 ·intro h
  rw [h]
theorem zsn(x:List Int):∀c:zng,zcr (kvP c) (x.map Sum.inl)=(zyt c x).map V.int
 | []=>rfl
 | p::c=>by
  have ih:=zsn x c
  unfold zcr kvP zyt at ih |-
  rw [yn,y0g,y0g]
  by_cases e:p.1=x
  ·simp[e]
  ·have e':¬ p.1.map (Sum.inl:Int->Key)=x.map Sum.inl:=fun z=>e (inl_eq.mp z)
   simp only[e,e',decide_false]
   exact ih
theorem q1i(x:List Int)(c:zng):((kvP c).any fun kv=>decide (kv.1=x.map Sum.inl))=c.any fun p=>decide (p.1=x):=by
 unfold kvP
 rw [List.any_map]
 congr 1
 funext p
 show decide (p.1.map (Sum.inl:Int->Key)=x.map Sum.inl)=decide (p.1=x)
 by_cases e:p.1=x
 ·rw [decide_eq_true e,decide_eq_true (inl_eq.mpr e)]
 ·rw [decide_eq_false e,decide_eq_false fun z=>e (inl_eq.mp z)]
theorem zzm(x:List Int)(i:Int)(c:zng):zgw (kvP c) (x.map Sum.inl) (V.int i)=kvP (q27 c x i):=by
 unfold zgw q27
 rw [q1i]
 split
 ·unfold kvP
  rw [y10,y10]
  refine List.map_congr_left fun p _=>?_
  show(if p.1.map (Sum.inl:Int->Key)=x.map Sum.inl then _ else _)=_
  by_cases e:p.1=x
  ·simp[e]
  ·have e':¬ p.1.map (Sum.inl:Int->Key)=x.map Sum.inl:=fun z=>e (inl_eq.mp z)
   simp[e,e']
 ·simp[kvP]
theorem zwm(c:zng)(x:List Int)(i:Int):(q27 c x i).length<=c.length+1:=by
 unfold q27
 split
 ·rw [y8]; omega
 ·rw [yd]; simp
theorem zkx:∀(l:List (List Int)) (c:zng),(zw5 c l).length<=c.length+l.length
 | [],c=>yg _
 | x::l,c=>by
  have h1:=zkx l (q45 c x)
  have h2:=zwm c x ((zyt c x).getD 0+1)
  rw [zw5,yh]
  unfold q45 at h1 |-
  omega
theorem zso(c:zng)(x:List Int):((zyt c x).map V.int).getD (V.int 0)=V.int ((zyt c x).getD 0):=by
 cases zyt c x<;>rfl
theorem zxf{H:Hp}{p:Addr}{kvs kvs':List (List Key×V)}(h:H p=some (.dT kvs)):Kp H (upd H p (.dT kvs')):=
 ⟨fun b zs e=>by rw [z09 (z4y e h (by intro z; cases z))]; exact e,fun b zs e=>⟨zs,by rw [z09 (z4y e h (by intro z; cases z))]; exact e⟩⟩
end
section
variable{P:yf}{w:yr}{K:y3}{mg:Str->Option y4}{base:Heap}{f:Addr}{fd:yq}
def zpr(C:Addr):Sp:=fun vs H Q _=>∃(x dx l:Addr) (gv wv:V) (ys:List V) (rs:List RI) (k:Nat),vs=[.ref x]/\H x=some (.ins C dx (trF gv wv l k))/\H l=some (.lst ys)/\DtA H ys (rs.map rowI)/\k<=rs.length/\k < 64/\
 ∀(l':Addr) (H':Hp) (ws:List V) (ms:zng),Same H H'->H l'=none->H' l'=some (.lst ws)->DtA H' ws (ms.map q2c)->ms.Perm (zw5 [] ((rs.take k).map (·.1)))->ms.Pairwise (fun p q=>ltI p.1 q.1=true)->Q (.ref l') H'
def TyG(H:Hp)(x p0 p1:Addr)(us:List V)(rs:List RI)(i:Nat)(σ : St)(Hc:Hp):Prop:=(∃t1 t2,σ = [some (.ref x),some (.ref p0),t1,t2])/\Same H Hc/\Hc p0=some (.dT (kvP (zw5 [] ((rs.take i).map (·.1)))))/\Hc p1=some (.lst us)/\DtA Hc us (rs.map rowI)
theorem zh2{C:Addr} (F:Fun K "tally" "Trace.tally" z16 f fd) (b_sorted:mg "sorted" = none) (t:TrC K C):FnOk P w K mg base CX0 1 f fd ["self"] (zpr C):=by
 refine F.ok sc_Trace_tally (fun vs H Q E h=>?_) (fun cdv A outer s H vs Q E hr h=>?_)
 ·obtain⟨x,dx,l,gv,wv,ys,rs,k,rfl,_⟩:=h
  rfl
 obtain⟨x,dx,l,gv,wv,ys,rs,k,rfl,hx,hl,dy,hk,h64,q⟩:=h
 have lys:ys.length=rs.length:=by rw [dy.length,y8]
 refine⟨_,(z04 (z14 (i:=1) sc_Trace_tally.nd rfl zbn zwr (z05 rfl))
 (z04 (zag y0r rfl (z5i (zg1 zjl (z1y (z06 0 rfl z67) rfl) zjy (zea (z1y (z06 0 rfl z67) rfl)))) (zbz (n:=2) rfl (z0x (z0s (i:=2) sc_Trace_tally.nd rfl zbm) (z0x (z0s (i:=3) sc_Trace_tally.nd rfl zao) z3z)))
 (z07 (zoa hr.units1 (z06 1 rfl z3y) (z06 2 rfl z68) (z0n z1a (zwt hr.units1 (z06 1 rfl z3y) (z06 2 rfl z68) z03 ⟨rfl,rfl,rfl,rfl⟩) z03) (z05 rfl))))
 (z07 (z0f (z4h (zl0 rfl hr.units) zb2 b_sorted zn8 (z08 (ztm (z06 1 rfl z3y)) z02) zm4 zmr))))),z0e fun N1 e1=>?_⟩
 walk_at "rd14"
 intro p0 hp0
 have s0:=z01 hp0 (HO.dT [])
 rw [e1]
 refine z0e fun N2 e2=>?_
 walk_at "rd14"
 refine⟨_,_,_,s0 _ _ hx,t.c,t.nr,_,z7f,_,_,_,s0 _ _ hx,t.c,t.nd,_,z4j,_,rfl,l,rfl,_,SqL.of (s0 _ _ hl),fun p1 hp1=>⟨⟨_,SqL.of z00⟩,?_⟩⟩
 rw [zvm (by omega)]
 have s1:=z01 hp1 (HO.lst (ys.take k))
 have e0:upd (upd H p0 (HO.dT [])) p1 (HO.lst (ys.take k)) p0=some (.dT []):=s1 _ _ z00
 have e1':upd (upd H p0 (HO.dT [])) p1 (HO.lst (ys.take k)) p1=some (.lst (ys.take k)):=z00
 have s01:=s0.trans s1
 generalize upd (upd H p0 (HO.dT [])) p1 (HO.lst (ys.take k))=U at s01 e0 e1' |-
 have n01:p1≠p0:=z4y e1' e0 (by intro z; cases z)
 have du:DtA U (ys.take k) ((rs.take k).map rowI):=by
  have:=zg5 k (dy.kp s01.kp)
  rw [<- List.map_take] at this
  exact this
 have lt:(ys.take k).length=(rs.take k).length:=by rw [du.length,y8]
 have tk:(rs.take k).take k=rs.take k:=by rw [List.take_take,Nat.min_self]
 refine zg3 (xs:=ys.take k) (TyG H x p0 p1 (ys.take k) (rs.take k)) ⟨⟨_,_,rfl⟩,s01,by rw [y20]; exact e0,e1',du⟩ ?_ ?_ ?_
 ·rintro i σ H' _ ⟨_,_,_,h1,_⟩
  exact SqL.of h1
 ·rintro i v σ H' hv ⟨⟨t1,t2,rfl⟩,sc,hc,hu,dc⟩
  obtain⟨r,hri,dr⟩:=z59 dc hv
  obtain⟨pp,v0,v1,rfl,hpp,u0,u1⟩:=zie dr
  obtain⟨pa,xs,rfl,hpa,dpa⟩:=u0.tupI
  obtain rfl:=z9e dpa
  have hpa':H' pa=some (.tup ((r.1.map Sum.inl).map kV)):=by rw [hpa,y10]; rfl
  walk_at "rd14"
  refine⟨_,SqT.of hpp,rfl,_,_,rfl,_,_,rfl,rfl,.inr ⟨_,.inl hc⟩,_,DGet.t hc hpa',(zyt (zw5 [] (((rs.take k).take i).map (·.1))) r.1).getD 0,by rw [zsn,zso],_,DPut.t hc hpa' ?_,⟨_,_,rfl⟩,z5q sc hp0,?_,by rw [z09 n01]; exact hu,dc.kp (zxf hc)⟩
  ·unfold kvP
   rw [y8]
   have h1:=zkx (((rs.take k).take i).map (·.1)) []
   rw [y8,y0a,y0a,y1g] at h1
   exact z2g (by omega)
  ·rw [z00,zzm,z3n hri,y03,zi6]
   rfl
 ·rintro σ H' ⟨⟨t1,t2,rfl⟩,sc,hc,hu,dc⟩
  show N2 _ _
  rw [e2]
  rw [lt,y0j] at hc
  walk_at "rd14"
  refine⟨_,hc,fun p2 hp2=>?_⟩
  have s2:=z01 hp2 (zc0 p2 p0)
  have hlen:(zw5 [] ((rs.take k).map (·.1))).length < 64:=by
   have:=zkx ((rs.take k).map (·.1)) []
   rw [y8,y0a,y1g] at this
   omega
  exact⟨p2,p0,_,rfl,z00,s2 _ _ hc,hlen,fun l' H'' ws ms s3 f3 h3 d3 pm pw=>q l' H'' ws ms (sc.trans (s2.trans s3)) ((sc.trans s2).free f3) h3 d3 pm pw⟩
end
section
variable{P:yf}{w:yr}{K:y3}{mg:Str->Option y4}{base:Heap}{f:Addr}{fd:yq}
def zpt(C:Addr):Sp:=fun vs H Q _=>∃(x dx l:Addr) (gv wv:V) (k:Int),vs=[.ref x]/\H x=some (.ins C dx (trF gv wv l k))/\∀p,H p=none->Q (.ref p) (upd H p (.tup [gv,wv]))
theorem zh4{C:Addr} (F:Fun K "ground" "Trace.ground" z2l f fd) (t:TrC K C):FnOk P w K mg base CX0 1 f fd ["self"] (zpt C):=by
 refine F.ok zgp (fun vs H Q E h=>?_) (fun cdv A outer s H vs Q E hr h=>?_)
 ·obtain⟨x,dx,l,gv,wv,k,rfl,_⟩:=h
  rfl
 obtain⟨x,dx,l,gv,wv,k,rfl,hx,q⟩:=h
 refine⟨_,(z07 (z0f (z12 (z08 (z1y (z06 0 rfl z5o) rfl) (z08 (z1y (z06 0 rfl z5o) rfl) z02))))),?_⟩
 walk_at "rd14"
 exact⟨_,_,_,hx,t.c,t.np,_,zek,_,_,_,hx,t.c,t.nw,_,zm9,by decide,q⟩
def zy6(p2 C:Addr):Sp:=fun vs H Q _=>∃(x dx l:Addr) (gv wv:V) (rows:List Rw) (b:List D) (ws:List Int) (g':List Str) (k:Int),vs=[.ref x]/\H x=some (.ins C dx (trF gv wv l k))/\Dt H gv (.tup [.tup (rows.map rowEnc),.tup (encB b)])/\Dt H wv (pathD ws)/\okRows rows/\Fits rows ws/\okW 4 b/\kbB (rows.map (·.1)) b=some g'/\(evP rows b ws).2.2.length+1 < sizeLine/\TabAt p2 posT dT.qual H/\
 ∀(y dy l':Addr) (ys:List V) (H':Hp),(∀a o,a≠p2->H a=some o->H' a=some o)->TabAt p2 posT dT.qual H'->H y=none->H' y=some (.ins C dy (trF gv wv l' k))->H l'=none->H' l'=some (.lst ys)->DtA H' ys ((evP rows b ws).2.2.map rowI)->Q (.ref y) H'
theorem zk7{p2 C:Addr} (F:Fun K "twin" "Trace.twin" z24 f fd) (t:TrC K C) (m_Trace:mg "Trace" = some (.ref C)) (c_Trace_init:CalleeI P w K mg base C ["self","program","worths"] 23 (zt0 p2 C)):FnOk P w K mg base CX0 25 f fd ["self"] (zy6 p2 C):=by
 refine F.ok sc_Trace_twin (fun vs H Q E h=>?_) (fun cdv A outer s H vs Q E hr h=>?_)
 ·obtain⟨x,dx,l,gv,wv,rows,b,ws,g',k,rfl,_⟩:=h
  rfl
 obtain⟨x,dx,l,gv,wv,rows,b,ws,g',k,rfl,hx,dg,dw,hrow,hfit,hW,hkb,hb,hT,q⟩:=h
 have k_Trace:=t.c
 refine⟨_,(z04 (z14 (i:=1) sc_Trace_twin.nd rfl zbl (q2a c_Trace_init hr (by omega) zcf m_Trace (z08 (z1y (z06 0 rfl z4d) rfl) (z08 (z1y (z06 0 rfl z4d) rfl) z02)) zqo) (z05 rfl))
 (z04 (zby (f:="done") (z06 1 rfl z66) (z1y (z06 0 rfl z4d) rfl) (z05 rfl))
 (z07 (z0f (z06 1 rfl z66))))),z0e fun N1 e1=>?_⟩
 walk_at "rd14"
 refine⟨_,_,_,hx,t.c,t.np,_,zek,_,_,_,hx,t.c,t.nw,_,zm9,fun y dy hy hdy hne=>?_⟩
 have s00:Same H (upd (upd H dy (HO.own y)) y (HO.ins C dy [])):=fun a o e=>by rw [z09 (z0d e hy),z09 (z0d e hdy)]; exact e
 refine⟨y,dy,gv,wv,rows,b,ws,g',rfl,z00,dg.kp s00.kp,dw.kp s00.kp,hrow,hfit,hW,hkb,hb,hT.kp fun a o _ e=>s00 _ _ e,fun l' ys H3 sB T2 hy3 hln hl3 dy3=>⟨rfl,?_⟩⟩
 obtain⟨_,ep2⟩:=hT.tb
 have hx3:H3 x=some (.ins C dx (trF gv wv l k)):=sB x _ (z4y hx ep2 (by intro z; cases z)) (z0d hx hy) (s00 _ _ hx)
 rw [e1]
 refine z0e fun N2 e2=>?_
 walk_at "rd14"
 refine⟨_,_,_,hx3,t.c,t.nd,_,z4j,_,_,_,hy3,t.c,t.nd,by simp,?_⟩
 rw [zg0,e2]
 walk_at "rd14"
 have nl:l'≠y:=z4y hl3 hy3 (by intro z; cases z)
 refine q y dy l' ys _ (fun a o n e=>?_) (T2.ins hy3) hy z00 (s00.free hln) (by rw [z09 nl]; exact hl3) (dy3.kp (zhe hy3))
 rw [z09 (z0d e hy)]
 exact sB a o n (z0d e hy) (s00 _ _ e)
end
section
variable{P:yf}{w:yr}{K:y3}{mg:Str->Option y4}{base:Heap}{f:Addr}{fd:yq}
theorem z9d(r:RI):Fine 2 (rowI r):=z2n fun d hd=>by
 simp only[yz,yt,or_false] at hd
 rcases hd with rfl | rfl
 ·exact z4k _
 ·exact zbc _ _
theorem q0x(a b:RI):PyData.eqv (rowI a).dat (rowI b).dat=decide (a=b):=by
 have e:PyData.eqv (rowI a).dat (rowI b).dat=(decide (a.1=b.1) && decide (a.2=b.2)):=by
  simp only[rowI,pathD,Dm.dat,zcj,PyData.eqv,PyData.eqvAll,zg4]
  by_cases h:a.2=b.2
  ·simp[h]
  ·simp[h]
 rw [e]
 obtain⟨a1,a2⟩:=a
 obtain⟨b1,b2⟩:=b
 by_cases h:a1=b1<;>by_cases h':a2=b2<;>simp[h,h']
def ztb:V->List V->Hp->VK->Prop:=fun x vs H Q=>∃(l:Addr) (us:List V) (rs:List RI) (y:V) (r:RI) (j:Nat),x=.ref l/\vs=[y]/\H l=some (.lst us)/\DtA H us (rs.map rowI)/\Dt H y (rowI r)/\rs[j]?=some r/\(∀m,m < j->rs[m]?≠some r)/\j < 1000/\Q (.int j) H
def RowAt(X:Cx)(h:Heap)(r:RI)(u:y4):Prop:=∃a o n p t,u=.ref a/\h.get? a=some o/\o.data=.seq #[.ref p,.int r.2 t] n/\IsTupleKey (intKind X.prog X.w) h r.1 p
theorem RowAt.one{X:Cx}{h:Heap}{r r':RI}{u:y4}(a:RowAt X h r u)(b:RowAt X h r' u):r=r':=by
 obtain⟨a,o,n,p,t,rfl,e1,e2,k⟩:=a
 obtain⟨a',o',n',p',t',z,e1',e2',k'⟩:=b
 cases z
 rw [e1] at e1'
 cases e1'
 rw [e2] at e2'
 injection e2' with e3 _
 have e3:[Value.ref p,.int r.2 t]=[Value.ref p',.int r'.2 t']:=congrArg Array.toList e3
 injection e3 with h1 h2
 injection h1 with h1
 injection h2 with h2 _
 injection h2 with h2 _
 subst h1
 exact Prod.ext (zuf k k') h2
theorem zuo{X:Cx}{pins:List (Addr×Obj)}{σ : St}{H:Hp}{s:y9}(I:Inv X pins σ H s){v:V}{r:RI}{u:y4}(d:Dt H v (rowI r))(rv:RelV v u):RowAt X s.heap r u:=by
 obtain⟨a,v0,v1,rfl,ha,d0,d1⟩:=zie d
 cases rv
 cases d1
 obtain⟨its,rv,⟨o,ho,hc,n,hd⟩,_⟩:=I.tuple (SqT.of ha)
 obtain⟨u0,u1,rfl,q0,q1⟩:=rv.two
 obtain⟨t,rfl⟩:=q1
 obtain⟨p,rfl,kp⟩:=I.path d0 q0
 exact⟨a,o,n,p,t,rfl,ho,hd,kp⟩
open Classical in
theorem zu2{X:Cx}(hu:X.A.units+64 < cLine):MtM X "list.index" ztb:=by
 intro pins s σ H x vs v us Q I rx rv h
 obtain⟨l,ws,rs,y,r,j,rfl,rfl,hH,dw,dy,hj,hno,hsm,q⟩:=h
 cases rx
 obtain⟨u,rfl,r1⟩:=rv.one
 obtain⟨z,its,n,rl,hl,e⟩:=I.lstM hH
 have hlen:its.length=rs.length:=by rw [<- rl.length,dw.length,y8]
 have hjl:j < rs.length:=(List.getElem?_eq_some_iff.mp hj).1
 have rat:∀m (hm:m < its.length),RowAt X s.heap (rs[m]'(by omega)) its[m]:=fun m hm=>by
  have hm2:m < ws.length:=by rw [rl.length]; exact hm
  obtain⟨r',hr',d'⟩:=z59 dw (yb hm2)
  have e2:r'=rs[m]'(by omega):=by
   rw [yb (by omega)] at hr'
   exact(y04 hr').symm
  subst e2
  obtain⟨u',hu',rel⟩:=Vals.get rl (yb hm2)
  rw [yb hm] at hu'
  cases hu'
  exact zuo I d' rel
 have ru:=zuo I dy r1
 have fr:∀m (hm:m < its.length),decide (RowAt X s.heap r its[m])=decide (rs[m]'(by omega)=r):=fun m hm=>by
  by_cases z:rs[m]'(by omega)=r
  ·rw [decide_eq_true z,decide_eq_true (z ▸ rat m hm)]
  ·rw [decide_eq_false z,decide_eq_false fun k=>z ((rat m hm).one k)]
 refine call_meets F.slot_list_index ⟨_,e,rfl⟩ F.entry_list_index (F.args_list_index_2 _ _) (SeqAt.list_indexAt l _ n _ _ u (fun w=>decide (RowAt X s.heap r w)) j (by simpa [hlen] using hjl) (by omega) ?_ fun m hm hlt=>?_) ⟨e,fun w hw=>?_,?_⟩
 ·have:=fr j (by omega)
  simp only[List.getElem_toArray]
  rw [this]
  exact decide_eq_true (List.getElem?_eq_some_iff.mp hj).2
 ·have hm':m < its.length:=by simpa using hm
  simp only[List.getElem_toArray]
  rw [fr m hm']
  exact decide_eq_false fun z=>hno m hlt (by rw [yb (by omega),z])
 ·obtain⟨m,hm,rfl⟩:=y0y (by simpa using hw:w∈its)
  show SeqAt.EqAt _ _ _ _ (decide (RowAt X s.heap r its[m]))
  rw [fr m hm]
  have hm2:m < ws.length:=by rw [rl.length]; exact hm
  obtain⟨r',hr',d'⟩:=z59 dw (yb hm2)
  have e2:r'=rs[m]'(by omega):=by
   rw [yb (by omega)] at hr'
   exact(y04 hr').symm
  subst e2
  obtain⟨u',hu',rel⟩:=Vals.get rl (yb hm2)
  rw [yb hm] at hu'
  cases hu'
  obtain⟨as,ra⟩:=Dt.reads I d' (z9d _).1 rel
  obtain⟨bs,rb⟩:=Dt.reads I dy (z9d r).1 r1
  have:=SeqAt.eqAt_reads _ _ X.A.in1 s its[m] u as bs ra rb (z9d _).2.1 (z9d r).2.1 (by
   have h1:=(z9d r).2.2
   have h2:=(z9d (rs[m]'(by omega))).2.2
   show X.A.units+1+_ < cLine
   omega)
  rw [q0x] at this
  exact this
 ·exact⟨.int j,H,I.kept (h':=s.heap) (t':=s.toks+1) fun b u e=>e,⟨_,rfl⟩,q⟩
end
section
variable{P:yf}{w:yr}{K:y3}{mg:Str->Option y4}{base:Heap}{f:Addr}{fd:yq}
theorem zp0(c:Cnt):∀(n:Nat) (t:T) (p:List Int),T.ok pool n t->(evT c t p).2.length+1<=2 ^ n
 | 0,_,_,h=>h.elim
 | n+1,.num i,p,_=>by
  rw [evT]
  have:1<=2 ^ n:=Nat.one_le_two_pow
  simp only[yh,y1g,Nat.pow_succ]
  omega
 | n+1,.nm x,p,_=>by
  rw [evT]
  have:1<=2 ^ n:=Nat.one_le_two_pow
  simp only[yh,y1g,Nat.pow_succ]
  omega
 | n+1,.op w a b,p,h=>by
  have h1:=zp0 c n a (p++[0]) h.1
  have h2:=zp0 c n b (p++[1]) h.2
  rw [Nat.pow_succ]
  rcases e1:evT c a (p++[0]) with⟨r1,w1⟩
  rcases e2:evT c b (p++[1]) with⟨r2,w2⟩
  rw [e1] at h1
  rw [e2] at h2
  cases r1 with
  | ref u q=>rw [ztr e1]; simp only at h1 |-; omega
  | had x=>
   cases r2 with
   | ref u q=>rw [zk5 e1 e2]; simp only[yd] at h1 h2 |-; omega
   | had y=>
    by_cases h3:w=.quo/\y=0
    ·obtain⟨rfl,rfl⟩:=h3
     rw [zk4 e1 e2]; simp only[yd] at h1 h2 |-; omega
    ·rw [zq1 e1 e2 h3]; simp only[yd,yh,y1g] at h1 h2 |-; omega
theorem zxa{cond:Cnt->Rs×List RI}{body:Cnt->Out}{p:List Int}{A B:Nat}(hc:∀c,(cond c).2.length<=A)(hb:∀c,(body c).2.2.length<=B):∀(k:Nat) (c:Cnt),(z4i cond body p k c).2.2.length<=(k+1) * A+k * B:=by
 intro k
 induction k with
 | zero=>
  intro c
  have h1:=hc c
  rcases e1:cond c with⟨r1,w1⟩
  rw [e1] at h1
  cases r1 with
  | ref u q=>rw [zd8 e1]; simpa using h1
  | had v=>
   by_cases hv:v=0
   ·subst hv; rw [zaj e1]; simpa using h1
   ·rw [zd9 e1 hv]; simpa using h1
 | succ k ih=>
  intro c
  have h1:=hc c
  have h2:=hb c
  have mA:(k+1+1) * A=A+(k+1) * A:=by rw [Nat.add_mul (k+1) 1 A,Nat.one_mul]; omega
  have mB:(k+1) * B=B+k * B:=by rw [Nat.add_mul k 1 B,Nat.one_mul]; omega
  rw [mA,mB]
  rcases e1:cond c with⟨r1,w1⟩
  rcases e2:body c with⟨o1,c1,v1⟩
  rw [e1] at h1
  rw [e2] at h2
  simp only at h1 h2
  cases r1 with
  | ref u q=>rw [zd8 e1]; simp only; omega
  | had v=>
   by_cases hv:v=0
   ·subst hv; rw [zaj e1]; simp only; omega
   ·cases o1 with
    | some u=>rw [zak e1 hv e2]; simp only[yd]; omega
    | none=>
     have h3:=ih c1
     rw [zal e1 hv e2]; simp only[znf,yd]; omega
theorem zhx{M:Nat}:∀(b:List D),(∀d∈b,∀(p:List Int) (c:Cnt),(evD p d c).2.2.length<=M)->∀(p:List Int) (k:Int) (c:Cnt),(evB p k b c).2.2.length<=b.length * M
 | [],_,p,k,c=>by rw [evB]; simp
 | d::r,h,p,k,c=>by
  have h1:=h d (.head _) (p++[k]) c
  rw [yh,Nat.add_mul,Nat.one_mul]
  rcases e1:evD (p++[k]) d c with⟨o1,c1,w1⟩
  rw [e1] at h1
  simp only at h1
  have h2:=zhx r (fun e he=>h e (.tail _ he)) p (k+1) c1
  cases o1 with
  | some u=>rw [zkn e1]; simp only; omega
  | none=>rw [zko e1]; simp only[znf,yd]; omega
def PD:Nat->Nat
 | 0=>31
 | n+1=>651+20 * (6 * PD n)
theorem t31(c:Cnt)(t:T)(p:List Int)(h:T.ok pool 5 t):(evT c t p).2.length<=31:=by
 have:=zp0 c 5 t p h
 omega
theorem zkm:∀(n:Nat) (d:D) (p:List Int) (c:Cnt),okD n d->(evD p d c).2.2.length<=PD n
 | n,.set x t,p,c,h=>by
  have h1:=t31 c t (p++[0]) h.2
  rw [zt4]
  cases n with
  | zero=>exact h1
  | succ n=>rw [PD]; omega
 | 0,.ite t b b2,p,c,h=>h.2.1.elim
 | 0,.whl t m b,p,c,h=>h.2.2.2.elim
 | n+1,.ite t b b2,p,c,h=>by
  have h1:=t31 c t (p++[0]) h.1
  have hb:=zhx b (fun d hd p c=>zkm n d p c (h.2.1.2 d hd)) (p++[1]) 0 c
  have hb2:=zhx b2 (fun d hd p c=>zkm n d p c (h.2.2.2 d hd)) (p++[2]) 0 c
  have l1:b.length * PD n<=6 * PD n:=y0t _ h.2.1.1
  have l2:b2.length * PD n<=6 * PD n:=y0t _ h.2.2.1
  rw [PD]
  rcases e1:evT c t (p++[0]) with⟨r1,w1⟩
  rw [e1] at h1
  simp only at h1
  cases r1 with
  | ref u q=>rw [zhi e1]; simp only; omega
  | had v=>
   by_cases hv:v=0
   ·subst hv
    rw [zmd e1]; simp only[yd]; omega
   ·rw [zhh e1 hv]; simp only[yd]; omega
 | n+1,.whl t m b,p,c,h=>by
  have l1:b.length * PD n<=6 * PD n:=y0t _ h.2.2.2.1
  have hl:=zxa (cond:=fun c=>evT c t (p++[0])) (body:=fun c=>evB (p++[1]) 0 b c) (p:=p) (A:=31) (B:=6 * PD n) (fun c=>t31 c t (p++[0]) h.1) (fun c=>y0b (zhx b (fun d hd p c=>zkm n d p c (h.2.2.2.2 d hd)) (p++[1]) 0 c) l1) m.toNat c
  rw [evD,PD]
  have hm:m.toNat<=20:=by have:=h.2.2.1; omega
  have l2:(m.toNat+1) * 31<=21 * 31:=y0t _ (by omega)
  have l3:m.toNat * (6 * PD n)<=20 * (6 * PD n):=y0t _ hm
  omega
theorem zgr{b:List D}(h:okB 3 b)(p:List Int)(k:Int)(c:Cnt):(evB p k b c).2.2.length+1 < sizeLine:=by
 have h1:=zhx b (fun d hd p c=>zkm 2 d p c (h.2 d hd)) p k c
 have h2:b.length * PD 2<=6 * PD 2:=y0t _ h.1
 have h3:6 * PD 2+1 < sizeLine:=by decide
 omega
theorem zql(c:Cnt):∀(t:T) (p:List Int),(evT c t p).2≠[]
 | .num i,p=>by rw [evT]; simp
 | .nm x,p=>by rw [evT]; simp
 | .op w a b,p=>by
  have h:=zql c a (p++[0])
  rw [evT]
  generalize evT c a (p++[0])=ra at h |-
  obtain⟨r,r1⟩:=ra
  have h:r1≠[]:=h
  cases r with
  | ref u q=>exact h
  | had x=>
   dsimp only
   generalize evT c b (p++[1])=rb
   obtain⟨s,r2⟩:=rb
   cases s with
   | ref u q=>simp[h]
   | had y=>simp only; split<;>simp[h]
theorem q0c{cond:Cnt->Rs×List RI}{body:Cnt->Out}{p:List Int}(h:∀c,(cond c).2≠[])(k:Nat)(c:Cnt):(z4i cond body p k c).2.2≠[]:=by
 have hc:=h c
 cases e:cond c with
 | mk rs r=>
  rw [e] at hc
  have hc:r≠[]:=hc
  cases rs with
  | ref u q=>rw [zd8 e]; exact hc
  | had v=>
   by_cases hv:v=0
   ·subst hv
    rw [zaj e]
    exact hc
   ·cases k with
    | zero=>rw [zd9 e hv]; exact hc
    | succ k=>
     cases eb:body c with
     | mk oe zjs=>
      obtain⟨c1,r1⟩:=zjs
      cases oe with
      | some e'=>rw [zak e hv eb]; simp[hc]
      | none=>rw [zal e hv eb]; unfold znf; simp[hc]
theorem q38(d:D)(p:List Int)(c:Cnt):(evD p d c).2.2≠[]:=by
 cases d with
 | set x t=>
  have h:=zql c t (p++[0])
  rw [evD]
  generalize evT c t (p++[0])=ra at h |-
  obtain⟨r,r1⟩:=ra
  cases r<;>exact h
 | ite t b b2=>
  have h:=zql c t (p++[0])
  rw [evD]
  generalize evT c t (p++[0])=ra at h |-
  obtain⟨r,r1⟩:=ra
  have h:r1≠[]:=h
  cases r with
  | ref u q=>exact h
  | had v=>
   simp only
   split<;>simp[h]
 | whl t m b=>
  rw [evD]
  exact q0c (fun c=>zql c t _) _ _
theorem q39{b:List D}(hb:b≠[])(p:List Int)(k:Int)(c:Cnt):(evB p k b c).2.2≠[]:=by
 cases b with
 | nil=>exact absurd rfl hb
 | cons d r=>
  have h:=q38 d (p++[k]) c
  rw [evB]
  generalize evD (p++[k]) d c=ra at h |-
  obtain⟨oe,c1,w⟩:=ra
  have h:w≠[]:=h
  cases oe with
  | some e=>exact h
  | none=>simp[h]
end
section
variable{P:yf}{w:yr}{K:y3}{mg:Str->Option y4}{base:Heap}{f:Addr}{fd:yq}
theorem zuv{i:Nat}{v:V}{σ : St}{H:Hp}{Q:St->Hp->Prop}:z7l i v σ H Q=Q (σ.set i (some v)) H:=by rw [z7l,zad]
theorem zqq{lo:Int}{n:Nat}{g:TG}{tt:TT}{te:TE}{Q:VK}{σ : St}{H:Hp}(Pv:Nat->List V->St->Hp->Prop)(h0:Pv 0 [] σ H)(hz:n < sizeLine)(hy:∀i zs σ H,Pv i zs σ H->zs.length<=i)
  (hs:∀i zs σ H,i < n->Pv i zs σ H->g (.int (lo+i)) σ H fun σ2 H2=>tt σ2 H2 fun b H3=>if b=true then te σ2 H3 (fun v H4=>Pv (i+1) (zs++[v]) σ2 H4) else Pv (i+1) zs σ2 H3)
  (hd:∀zs σ H,Pv n zs σ H->∀p,H p=none->Q (.ref p) (upd H p (.lst zs))):zb8 (Itr lo n) g tt te Q σ H:=by
 refine⟨fun i m zs σ H=>m=n - i/\i<=n/\Pv i zs σ H,⟨n,by simp,y05 _,h0⟩,?_⟩
 rintro i m zs σ H ⟨rfl,hi,p⟩
 have hyl:=hy i zs σ H p
 by_cases hlt:i < n
 ·refine .inr ⟨hlt,by omega,Pv (i+1),fun ys' σ' H' p'=>⟨n - (i+1),by omega,rfl,hlt,p'⟩,fun x H' y=>?_⟩
  obtain⟨e,y⟩:=y
  subst e y
  exact hs i zs σ _ hlt p
 ·have e:i=n:=by omega
  subst e
  exact .inl ⟨yg _,by omega,hd zs σ H p⟩
def SameN(H H':Hp):Prop:=∀a o,(∀s,o≠.tbl s)->H a=some o->H' a=some o
theorem SameN.refl(H:Hp):SameN H H:=fun _ _ _ e=>e
theorem SameN.trans{H H1 H2:Hp}(a:SameN H H1)(b:SameN H1 H2):SameN H H2:=fun x o n e=>b x o n (a x o n e)
theorem SameN.of{H H':Hp}(h:Same H H'):SameN H H':=fun a o _ e=>h a o e
theorem SameN.kp{H H':Hp}(h:SameN H H'):Kp H H':=⟨fun b xs e=>h _ _ (by intro s z; cases z) e,fun b xs e=>⟨xs,h _ _ (by intro s z; cases z) e⟩⟩
theorem SameN.ofB{pt:Addr}{H H':Hp}{ps:Array y4}(h:SameB pt H H')(e:H pt=some (.tbl ps)):SameN H H':=fun a o n z=>h a o (z4y z e (n ps)) z
theorem TabM.ne{p1 p2:Addr}{q:Str}{H H':Hp}(h:TabM p1 q H)(s:SameB p2 H H')(n:p1≠p2)(ht:∃ps,H p2=some (.tbl ps)):TabM p1 q H':=by
 obtain⟨ps,ht⟩:=ht
 obtain⟨qs,e,t,c⟩:=h
 refine⟨qs,s _ _ n e,t,fun pos v z=>?_⟩
 obtain⟨c',e1,e2⟩:=c pos v z
 exact⟨c',e1,s _ _ (z4y e2 ht (by intro z; unfold zb6 at z; cases z)) e2⟩
theorem zr7{ta:TA}{g:TG}{tt:TT}{te:TE}{mp:List (Option Nat)}{σ : St}{H:Hp}{Q:VK}:zjg (q0p ta) g tt te mp σ H Q=ta σ H fun vs H1=>∃j:Int,vs=[.int j]/\-(2 ^ 62)<=j/\j < 2 ^ 62/\zb8 (Itr 0 j.toNat) g tt te Q (subσ mp σ) H1:=rfl
theorem q1x{t:TT}{ta tb:TE}{σ : St}{H:Hp}{Q:VK}(h:∀N:VK,N=Q->t σ H fun c H1=>if c=true then ta σ H1 N else tb σ H1 N):tIf t ta tb σ H Q:=h _ rfl
theorem zga{t1 t2:TT}{a b:TS}{D:Ends}{σ : St}{H:Hp}(h:∀Y Z:Hp->Prop,(Y=fun H1=>a D σ H1)->(Z=fun H1=>znj t2 a b D σ H1)->t1 σ H (fun c H1=>if c=true then Y H1 else Z H1)):znj (tOr t1 t2) a b D σ H:=by
 have:=h _ _ rfl rfl
 unfold znj tOr
 refine cast (congrArg _ ?_) this
 funext c H1
 split<;>rfl
def q46(ds:List Dm):Prop:=zff ds=true/\SeqAt.shaped (.list (zcj ds))=true/\PyData.eqv (.list (zcj ds)) (.list (zcj ds))=true
theorem z8g(l:List (List Int)):q46 (l.map pathD):=⟨(zen l).1,(zen l).2.1,zkp (zen l).2.2⟩
theorem q0y{ds:List Dm}(h:∀d∈ds,Fine 3 d):q46 ds:=by
 obtain⟨a,b,c⟩:=zxo (ds:=ds) (n:=3) h
 have h0:PyData.canLay0 (.list (zcj ds))=true:=by simpa [PyData.canLay0] using b
 refine⟨a,?_,zkp h0⟩
 unfold SeqAt.shaped
 rw [h0,y1c,decide_eq_true_eq]
 simp only[PyData.depth]
 omega
theorem zb4(l:List RI):q46 (l.map rowI):=q0y fun d hd=>by
 obtain⟨r,_,rfl⟩:=List.mem_map.mp hd
 exact(z9d r).mono (by decide)
theorem z8f{H:Hp}{K:y3}{a c:Addr}{xs ys:List V}{ds:List Dm}(ok:q46 ds)(h1:SqL K H a xs)(h2:SqL K H c ys)(d1:DtA H xs ds)(d2:DtA H ys ds):q4u K H (.ref a) (.ref c) true:=⟨a,c,xs,ys,ds,ds,rfl,rfl,h1,h2,d1,d2,ok.1,ok.1,ok.2.1,ok.2.1,ok.2.2.symm⟩
theorem zkq{H:Hp}{x y:V}{d:Dm}{n:Nat}(f:Fine n d)(k:n<=64)(d1:Dt H x d)(d2:Dt H y d):EqD H x y true:=⟨d,d,d1,d2,f.eq k,f.eq k,(zkp f.2.1).symm⟩
theorem zu6:∀{x y:List Int},ltI x y=true->ltI y x=true->False
 | [],[],h,_=>by simp[ltI] at h
 | [],_::_,_,h=>by simp[ltI] at h
 | _::_,[],h,_=>by simp[ltI] at h
 | a::x,b::y,h,h'=>by
  rw [ltI] at h h'
  by_cases e:a=b
  ·rw [if_pos e] at h
   rw [if_pos e.symm] at h'
   exact zu6 h h'
  ·rw [if_neg e,decide_eq_true_eq] at h
   rw [if_neg (y1y e),decide_eq_true_eq] at h'
   omega
theorem zli{a b c:zng}(h1:a.Perm c)(h2:b.Perm c)(p1:a.Pairwise fun p q=>ltI p.1 q.1=true)(p2:b.Pairwise fun p q=>ltI p.1 q.1=true):a=b:=
 List.Perm.eq_of_pairwise (le:=fun p q:List Int×Int=>ltI p.1 q.1=true) (fun x y _ _ u v=>(zu6 u v).elim) p1 p2 (h1.trans h2.symm)
theorem zvn(xs:List V)(k:Nat):zpb xs none (some (k:Int))=xs.take k:=by
 unfold zpb
 rw [HT.zjr,HT.zo2,List.drop_zero,y1v]
 rcases Nat.le_total k xs.length with h | h
 ·rw [Nat.min_eq_left h]
 ·rw [Nat.min_eq_right h,y0j,y1a h]
theorem zvo{xs:List V}{k:Nat}(h:k<=xs.length):zpb xs (some (k:Int)) none=xs.drop k:=by
 unfold zpb
 rw [HT.zjr,HT.zo2,Nat.min_eq_left h,y1a (by rw [List.length_drop]; exact yg _)]
theorem zv6{H:Hp}:∀{xs:List V} {ds:List Dm},DtA H xs ds->DtA H xs.reverse ds.reverse
 | _,_,.nil=>.nil
 | _,_,.cons d r=>by
  rw [List.reverse_cons,List.reverse_cons]
  exact(zv6 r).append (.cons d .nil)
theorem zqk{p:List Int}:∀(l:List RI),(∃r∈l,r.1=p)->∃(j:Nat) (i:Int),l[j]?=some (p,i)/\(∀m,m < j->∀r,l[m]?=some r->r.1≠p)/\∃t,l.filter (fun r=>decide (r.1=p))=(p,i)::t
 | [],⟨r,h,_⟩=>by cases h
 | a::l,⟨r,h,e⟩=>by
  by_cases z:a.1=p
  ·refine⟨0,a.2,by rw [<- z]; rfl,fun m hm=>absurd hm (Nat.not_lt_zero _),l.filter (fun r=>decide (r.1=p)),?_⟩
   rw [y2e,if_pos (decide_eq_true z),<- z]
  ·have hr:r∈l:=by
    rcases List.mem_cons.mp h with rfl | h
    ·exact absurd e z
    ·exact h
   obtain⟨j,i,h1,h2,t,h3⟩:=zqk l ⟨r,hr,e⟩
   refine⟨j+1,i,h1,fun m hm r' hr'=>?_,t,?_⟩
   ·cases m with
    | zero=>
     cases hr'
     exact z
    | succ m=>exact h2 m (by omega) r' hr'
   ·rw [y2e,if_neg (by rw [decide_eq_true_eq]; exact z)]
    exact h3
def Ch(x:Addr)(o:HO)(H H':Hp):Prop:=H' x=some o/\∀a,a≠x->H' a=H a
theorem Ch.refl{x:Addr}{o:HO}{H:Hp}(h:H x=some o):Ch x o H H:=⟨h,fun _ _=>rfl⟩
theorem Ch.upd{x:Addr}{o o':HO}{H H':Hp}(h:Ch x o H H'):Ch x o' H (upd H' x o'):=⟨z00,fun a n=>by rw [z09 n]; exact h.2 a n⟩
theorem Ch.of{x:Addr}{o:HO}(H:Hp):Ch x o H (L2.upd H x o):=⟨z00,fun a n=>z09 n⟩
section
variable{x C dx:Addr}{fs:List (Str×V)}{o:HO}{H H':Hp}
theorem Ch.get(c:Ch x o H H')(hx:H x=some (.ins C dx fs)){a:Addr}{u:HO}(n:∀C dx fs,u≠.ins C dx fs)(e:H a=some u):H' a=some u:=by
 rw [c.2 a (z4y e hx (n _ _ _))]
 exact e
theorem Ch.kp(c:Ch x o H H')(hx:H x=some (.ins C dx fs)):Kp H H':=⟨fun b xs e=>c.get hx (by intro C dx fs z; cases z) e,fun b xs e=>⟨xs,c.get hx (by intro C dx fs z; cases z) e⟩⟩
theorem TabM.ch{pt:Addr}{q:Str}(h:TabM pt q H)(c:Ch x o H H')(hx:H x=some (.ins C dx fs)):TabM pt q H':=h.kp fun a u _ n e=>c.get hx n e
end
theorem zsx{K:y3}{H H':Hp}{a:Addr}{xs:List V}(h:SqL K H a xs)(s:∀o,(∀C dx fs,o≠.ins C dx fs)->(∀s,o≠.tbl s)->H a=some o->H' a=some o):SqL K H' a xs:=by
 rcases h with h | h
 ·rcases h with h | ⟨o,h⟩
  ·exact .inl (.inl (s _ (by intro C dx fs z; cases z) (by intro s z; cases z) h))
  ·exact .inl (.inr ⟨o,s _ (by intro C dx fs z; cases z) (by intro s z; cases z) h⟩)
 ·exact .inr h
structure TrA(C:Addr)(gv wv:V)(R:List RI)(x dx l:Addr)(ys:List V)(k:Nat)(H:Hp):Prop where
 hx:H x=some (.ins C dx (trF gv wv l k))
 hl:H l=some (.lst ys)
 dy:DtA H ys (R.map rowI)
structure L13(pt C:Addr)(gv wv:V)(rows:List Rw)(b:List D)(R:List RI)(lr:Addr)(us:List V)(lq:Addr)(qv:List V)(x dx l:Addr)(ys:List V)(k:Nat)(x' dx' l':Addr)(ys':List V)(k':Nat)(H:Hp):Prop where
 tm:TabM pt qL H
 ta:TrA C gv wv R x dx l ys k H
 tb:TrA C gv wv R x' dx' l' ys' k' H
 ne:x≠x'
 dg:Dt H gv (.tup [.tup (rows.map rowEnc),.tup (encB b)])
 hr:H lr=some (.lst us)
 dr:DtA H us ((R.take 60).map rowI)
 hq:H lq=some (.lst qv)
section
variable{pt C:Addr}{gv wv:V}{rows:List Rw}{b:List D}{R:List RI}{lr:Addr}{us:List V}{lq:Addr}{qv:List V}{x dx l:Addr}{ys:List V}{k:Nat}{x' dx' l':Addr}{ys':List V}{k':Nat}{H H':Hp}
theorem TrA.nn(h:TrA C gv wv R x dx l ys k H)(s:SameN H H'):TrA C gv wv R x dx l ys k H':=⟨s _ _ (by intro s z; cases z) h.hx,s _ _ (by intro s z; cases z) h.hl,h.dy.kp s.kp⟩
theorem TrA.ch{k2:Nat}(h:TrA C gv wv R x dx l ys k H)(c:Ch x (.ins C dx (trF gv wv l k2)) H H'):TrA C gv wv R x dx l ys k2 H':=⟨c.1,c.get h.hx (by intro C dx fs z; cases z) h.hl,h.dy.kp (c.kp h.hx)⟩
theorem TrA.len(h:TrA C gv wv R x dx l ys k H):ys.length=R.length:=by rw [h.dy.length,y8]
theorem L13.nn(h:L13 pt C gv wv rows b R lr us lq qv x dx l ys k x' dx' l' ys' k' H)(s:SameN H H')(t:TabM pt qL H'):L13 pt C gv wv rows b R lr us lq qv x dx l ys k x' dx' l' ys' k' H':=
 ⟨t,h.ta.nn s,h.tb.nn s,h.ne,h.dg.kp s.kp,s _ _ (by intro s z; cases z) h.hr,h.dr.kp s.kp,s _ _ (by intro s z; cases z) h.hq⟩
theorem L13.same(h:L13 pt C gv wv rows b R lr us lq qv x dx l ys k x' dx' l' ys' k' H)(s:Same H H'):L13 pt C gv wv rows b R lr us lq qv x dx l ys k x' dx' l' ys' k' H':=h.nn (SameN.of s) (h.tm.kp fun a o _ _ e=>s _ _ e)
theorem L13.told(h:L13 pt C gv wv rows b R lr us lq qv x dx l ys k x' dx' l' ys' k' H)(s:SameB pt H H')(t:TabM pt qL H'):L13 pt C gv wv rows b R lr us lq qv x dx l ys k x' dx' l' ys' k' H':=by
 obtain⟨_,e⟩:=h.tm.tb
 exact h.nn (SameN.ofB s e) t
theorem L13.swap(h:L13 pt C gv wv rows b R lr us lq qv x dx l ys k x' dx' l' ys' k' H):L13 pt C gv wv rows b R lr us lq qv x' dx' l' ys' k' x dx l ys k H:=⟨h.tm,h.tb,h.ta,h.ne.symm,h.dg,h.hr,h.dr,h.hq⟩
theorem L13.ch{k2:Nat}(h:L13 pt C gv wv rows b R lr us lq qv x dx l ys k x' dx' l' ys' k' H)(c:Ch x (.ins C dx (trF gv wv l k2)) H H'):L13 pt C gv wv rows b R lr us lq qv x dx l ys k2 x' dx' l' ys' k' H':=
 have g:=fun {a:Addr} {u:HO}=>c.get h.ta.hx (a:=a) (u:=u)
 ⟨h.tm.ch c h.ta.hx,h.ta.ch c,⟨by rw [c.2 _ h.ne.symm]; exact h.tb.hx,g (by intro C dx fs z; cases z) h.tb.hl,h.tb.dy.kp (c.kp h.ta.hx)⟩,h.ne,h.dg.kp (c.kp h.ta.hx),g (by intro C dx fs z; cases z) h.hr,h.dr.kp (c.kp h.ta.hx),g (by intro C dx fs z; cases z) h.hq⟩
theorem L13.ulen(h:L13 pt C gv wv rows b R lr us lq qv x dx l ys k x' dx' l' ys' k' H):us.length=min 60 R.length:=by rw [h.dr.length,y8,y0a]
end
theorem TabAt.ch{pt x C dx:Addr}{pos:Pos}{q:Str}{H H':Hp}{fs:List (Str×V)}{o:HO}(h:TabAt pt pos q H)(c:Ch x o H H')(hx:H x=some (.ins C dx fs)):TabAt pt pos q H':=by
 rcases h with h | ⟨c',h,hc⟩
 ·exact .inl (c.get hx (by intro C dx fs z; cases z) h)
 ·exact .inr ⟨c',c.get hx (by intro C dx fs z; cases z) h,c.get hx (by intro C dx fs z; unfold zb6 at z; cases z) hc⟩
structure L1(K:y3)(p2 pt C a:Addr)(ns:List Int)(gv wv:V)(rows:List Rw)(b:List D)(ws:List Int)(R:List RI)(lr:Addr)(us:List V)(x dx l:Addr)(ys:List V)(k:Nat)(H:Hp):Prop where
 sq:SqL K H a (ns.map V.int)
 ta:TabAt p2 posT dT.qual H
 tm:TabM pt qL H
 tr:TrA C gv wv R x dx l ys k H
 dg:Dt H gv (.tup [.tup (rows.map rowEnc),.tup (encB b)])
 dw:Dt H wv (pathD ws)
 hr:H lr=some (.lst us)
 dr:DtA H us ((R.take 60).map rowI)
section
variable{K:y3}{p2 pt C a:Addr}{ns:List Int}{gv wv:V}{rows:List Rw}{b:List D}{ws:List Int}{R:List RI}{lr:Addr}{us:List V}{x dx l:Addr}{ys:List V}{k:Nat}{H H':Hp}
theorem L1.nn(h:L1 K p2 pt C a ns gv wv rows b ws R lr us x dx l ys k H)(s:SameN H H')(t:TabAt p2 posT dT.qual H')(m:TabM pt qL H'):L1 K p2 pt C a ns gv wv rows b ws R lr us x dx l ys k H':=
 ⟨zsx h.sq fun o _ n e=>s _ _ n e,t,m,h.tr.nn s,h.dg.kp s.kp,h.dw.kp s.kp,s _ _ (by intro s z; cases z) h.hr,h.dr.kp s.kp⟩
theorem L1.same(h:L1 K p2 pt C a ns gv wv rows b ws R lr us x dx l ys k H)(s:Same H H'):L1 K p2 pt C a ns gv wv rows b ws R lr us x dx l ys k H':=h.nn (SameN.of s) (h.ta.kp fun a o _ e=>s _ _ e) (h.tm.kp fun a o _ _ e=>s _ _ e)
theorem L1.bb(h:L1 K p2 pt C a ns gv wv rows b ws R lr us x dx l ys k H)(n:p2≠pt)(s:SameB p2 H H')(t:TabAt p2 posT dT.qual H'):L1 K p2 pt C a ns gv wv rows b ws R lr us x dx l ys k H':=by
 obtain⟨_,e⟩:=h.ta.tb
 exact h.nn (SameN.ofB s e) t (h.tm.ne s n.symm h.ta.tb)
theorem L1.ch{k2:Nat}(h:L1 K p2 pt C a ns gv wv rows b ws R lr us x dx l ys k H)(c:Ch x (.ins C dx (trF gv wv l k2)) H H'):L1 K p2 pt C a ns gv wv rows b ws R lr us x dx l ys k2 H':=
 have g:=fun {a:Addr} {u:HO}=>c.get h.tr.hx (a:=a) (u:=u)
 ⟨zsx h.sq fun o n _ e=>g n e,h.ta.ch c h.tr.hx,h.tm.ch c h.tr.hx,h.tr.ch c,h.dg.kp (c.kp h.tr.hx),h.dw.kp (c.kp h.tr.hx),g (by intro C dx fs z; cases z) h.hr,h.dr.kp (c.kp h.tr.hx)⟩
end
theorem z3c{m:Str}{gv wv:V}{l:Addr}{k:Int} (h:(m == ("program" : Str))=false/\(m == ("worths" : Str))=false/\(m == ("rows" : Str))=false/\(m == ("done" : Str))=false):(trF gv wv l k).lookup m=none:=by
 simp only[trF,List.lookup,h.1,h.2.1,h.2.2.1,h.2.2.2]
def LpI(pt C:Addr)(gv wv:V)(rows:List Rw)(b:List D)(R:List RI)(lr:Addr)(us:List V)(lq:Addr)(o1 d1 m1:Addr)(w1:List V)(o2 d2 m2:Addr)(w2:List V)(ah e:Nat)(σ0:St)(i:Nat)(σ : St)(H:Hp):Prop:=(∃t10 t11 t12,σ = σ0++[t10,t11,t12])/\(i=0->L13 pt C gv wv rows b R lr us lq [.ref o1,.ref o2] o1 d1 m1 w1 ah o2 d2 m2 w2 ah H)/\(i=1->L13 pt C gv wv rows b R lr us lq [.ref o1,.ref o2] o1 d1 m1 w1 e o2 d2 m2 w2 ah H)/\(i=2->L13 pt C gv wv rows b R lr us lq [.ref o1,.ref o2] o1 d1 m1 w1 e o2 d2 m2 w2 e H)
theorem LpI.go{pt C:Addr}{gv wv:V}{rows:List Rw}{b:List D}{R:List RI}{lr:Addr}{us:List V}{lq:Addr}{o1 d1 m1:Addr}{w1:List V}{o2 d2 m2:Addr}{w2:List V}{ah e:Nat}{σ0:St}{i:Nat}{σ : St}{H:Hp}{xv:V}(h:LpI pt C gv wv rows b R lr us lq o1 d1 m1 w1 o2 d2 m2 w2 ah e σ0 i σ H)(hx:[V.ref o1,V.ref o2][i]?=some xv) :
  ∃(o od ol:Addr) (oy:List V) (z zd zl:Addr) (zy:List V) (kz:Nat),xv=.ref o/\L13 pt C gv wv rows b R lr us lq [.ref o1,.ref o2] o od ol oy ah z zd zl zy kz H/\∀ σ' H',(∃t10 t11 t12,σ' = σ0++[t10,t11,t12])->L13 pt C gv wv rows b R lr us lq [.ref o1,.ref o2] o od ol oy e z zd zl zy kz H'->LpI pt C gv wv rows b R lr us lq o1 d1 m1 w1 o2 d2 m2 w2 ah e σ0 (i+1) σ' H':=by
 obtain⟨_,h0,h1,_⟩:=h
 match i,hx with
 | 0,hx=>
  cases hx
  exact⟨o1,d1,m1,w1,o2,d2,m2,w2,ah,rfl,h0 rfl,fun σ' H' hs l=>⟨hs,fun z=>by omega,fun _=>l,fun z=>by omega⟩⟩
 | 1,hx=>
  cases hx
  exact⟨o2,d2,m2,w2,o1,d1,m1,w1,e,rfl,(h1 rfl).swap,fun σ' H' hs l=>⟨hs,fun z=>by omega,fun z=>by omega,fun _=>l.swap⟩⟩
end
local macro_rules | `(tactic| walk_at "rd15")=>`(tactic| simp only[↓zpj,↓zpi,↓zco,↓zcn,↓zgn,↓zgm,↓z8y,↓z8x,↓z90,↓z8z,↓zow,↓zez,↓zhk,zov,zhl,zhj,zph,zad,zza,zz9,zns,q09,q08,q0e,q0d,q1h,q1g,q4z,znq,zz3,zno,zo4,q4b,zr7,zjv,ztb,zwb,q43,zju,zjt,q21,q25,zgb,zr5,zgg,z7z,zr3,zr4,zgc,zev,q1t,ze9,zgd,z4u,znh,znj,zij,tOp,zif,tC,zwd,z7l,zuu,zfu,zw4,zy2,znm,zla,zl9,tCB,zcu,zni,zlc,tUn,rU,rI0,rI,zy5,tOr,zy3,tB,zld,zz4,zl8,tIf,zz6,znn,zgf,zlb,zge,zln,zet,znp,zct,znr,tSl,zaa,zl7,zzf,zc5,zgt,zo8,zls,z6b,z5v,z8t,z69,z6e,z6s,zi4,z33,z50,zck,z6t,z40,z34,z41,z9h,z6u,z42,z4s,zgh,zyd,tDX,zz7,zy1,zy4,tBM,
 qEq,qNe,qIn,zd0,zyi,zlr,zzk,zo5,zyh,zlt,zw3,zyg,zo6,zo7,zgu,rIx,zta,zpv,zye,zyf,zzg,zo3,zzi,zzh,zaf,zae,zes,zgj,zsu,
 z8u,z57,z6a,z6c,z4t,z6d,zi5,z51,z9i,Nat.reduceAdd,Nat.reduceSub,Nat.add_zero,y1v,y1r,
 y0p,y15,y1o,y1p,y1s,y1h,V.int.injEq,V.ref.injEq,V.str.injEq,V.bl.injEq,V.ty.injEq,
 reduceCtorEq,false_and,and_false,and_true,true_and,exists_false,exists_const,false_or,or_false,exists_eq_left,exists_eq_left',exists_eq_right,exists_eq_right',exists_and_left,decide_eq_true_eq,y09,y1m,exists_eq,true_or,or_true,y0h,if_true,if_false,y1q,y1w,y21,decide_true,decide_false,y1u,y1z,y1c,y1d,bne_self_eq_false,beq_self_eq_true])
section
variable{P:yf}{w:yr}{K:y3}{mg:Str->Option y4}{base:Heap}{f:Addr}{fd:yq}
def CgI(C o od ol:Addr)(gv wv:V)(R:List RI)(k:Nat)(H0:Hp)(i:Nat)(zs:List V)(σ : St)(H:Hp):Prop:=(∃t,σ = [t,some (.ref o)])/\zs.length<=i/\Ch o (.ins C od (trF gv wv ol ((k+i:Nat):Int))) H0 H/\DtA H zs (((R.drop k).take i).map rowI)
theorem q17{C o od ol:Addr}{gv wv:V}{oy:List V}{R:List RI}{k n:Nat}{Hc:Hp}{Q:VK}{σ : St}(hσ : σ = [none,some (.ref o)])(tr:TrA C gv wv R o od ol oy k Hc)(hn:k+n<=R.length)(hz:n < sizeLine)
  (q:∀H' zs p,Ch o (.ins C od (trF gv wv ol ((k+n:Nat):Int))) Hc H'->DtA H' zs (((R.drop k).take n).map rowI)->H' p=none->Q (.ref p) (upd H' p (.lst zs))):zb8 (Itr 0 n) (z7l 0) zsu (zgb C "go" (q4d C) [] E0 (zif 1) zni) Q σ Hc:=by
 subst hσ
 refine zqq (CgI C o od ol gv wv R k Hc) ⟨⟨_,rfl⟩,yg _,Ch.refl tr.hx,.nil⟩ hz (fun i zs σ H h=>h.2.1) ?_ ?_
 ·rintro i zs σ H hi ⟨⟨t,rfl⟩,hl,ch,dz⟩
  have tri:=tr.ch ch
  obtain⟨y,hy⟩:∃y,oy[k+i]?=some y:=⟨_,yb (by rw [tr.len]; omega)⟩
  obtain⟨r,hr,dyr⟩:=z59 tri.dy hy
  walk_at "rd15"
  refine⟨_,_,tri.hx,z3c (by decide+kernel),o,od,ol,_,_,oy,k+i,y,rfl,tri.hx,tri.hl,hy,⟨_,rfl⟩,?_,ch.upd,?_⟩
  ·rw [yd]
   exact Nat.succ_le_succ hl
  ·have kp:=zhe (o:=.ins C od (trF gv wv ol (((k+i:Nat):Int)+1))) tri.hx
   rw [z3n (x:=r) (by rw [List.getElem?_drop]; exact hr),y03]
   exact(dz.kp kp).append (.cons (dyr.kp kp) .nil)
 ·rintro zs σ H ⟨_,_,ch,dz⟩ p hp
  exact q H zs p ch dz hp
def CbI(C o od ol:Addr)(gv wv:V)(R:List RI)(k:Nat)(H0:Hp)(i:Nat)(zs:List V)(σ : St)(H:Hp):Prop:=(∃t,σ = [t,some (.ref o)])/\zs.length<=i/\Ch o (.ins C od (trF gv wv ol ((k - i:Nat):Int))) H0 H/\DtA H zs (((R.take k).reverse.take i).map rowI)
theorem zvs{C o od ol:Addr}{gv wv:V}{oy:List V}{R:List RI}{k:Nat}{Hc:Hp}{Q:VK}{σ : St}(hσ : σ = [none,some (.ref o)])(tr:TrA C gv wv R o od ol oy k Hc)(hn:k<=R.length)(hz:k < sizeLine)
  (q:∀H' zs p,Ch o (.ins C od (trF gv wv ol ((0:Nat):Int))) Hc H'->DtA H' zs ((R.take k).reverse.map rowI)->H' p=none->Q (.ref p) (upd H' p (.lst zs))):zb8 (Itr 0 k) (z7l 0) zsu (zgb C "back" (zt3 C) [] E0 (zif 1) zni) Q σ Hc:=by
 subst hσ
 have lk:(R.take k).reverse.length=k:=by rw [List.length_reverse,y0a]; omega
 refine zqq (CbI C o od ol gv wv R k Hc) ⟨⟨_,rfl⟩,yg _,Ch.refl tr.hx,.nil⟩ hz (fun i zs σ H h=>h.2.1) ?_ ?_
 ·rintro i zs σ H hi ⟨⟨t,rfl⟩,hl,ch,dz⟩
  have tri:=tr.ch ch
  obtain⟨m,hm⟩:∃m,k - i=m+1:=⟨k - i - 1,by omega⟩
  rw [hm] at tri
  obtain⟨y,hy⟩:∃y,oy[m]?=some y:=⟨_,yb (by rw [tr.len]; omega)⟩
  obtain⟨r,hr,dyr⟩:=z59 tri.dy hy
  walk_at "rd15"
  refine⟨_,_,tri.hx,z3c (by decide+kernel),o,od,ol,_,_,oy,m,y,rfl,tri.hx,tri.hl,hy,⟨_,rfl⟩,?_,?_,?_⟩
  ·rw [yd]
   exact Nat.succ_le_succ hl
  ·rw [show k - (i+1)=m by omega]
   exact ch.upd
  ·have kp:=zhe (o:=.ins C od (trF gv wv ol (m:Int))) tri.hx
   rw [z3n (x:=r) (by rw [List.getElem?_reverse (by rw [y0a]; omega),y0a,show min k R.length - 1 - i=m by omega,y2g (by omega)]; exact hr),y03]
   exact(dz.kp kp).append (.cons (dyr.kp kp) .nil)
 ·rintro zs σ H ⟨_,_,ch,dz⟩ p hp
  rw [Nat.sub_self] at ch
  rw [y1a (by omega)] at dz
  exact q H zs p ch dz hp
def CfI(U:Hp)(ps:List (List Int))(zjs:St)(i:Nat)(ys:List V)(σ':St)(H':Hp):Prop:=H'=U/\(∃t0 t1,σ'=t0::t1::zjs)/\ys.length<=i/\DtA U ys ((ps.take i).map pathD)
theorem zqr{α : Type}{f : α->Dm}{pth : α->List Int}(hf:∀a,∃d,f a=.tup [pathD (pth a),d]){K:y3}{l:Addr}{us:List V}{rs:List α}{H:Hp}{Q:VK}{σ : St}(hσ : σ = [none,none])(hl:H l=some (.lst us))(du:DtA H us (rs.map f))(hz:rs.length < sizeLine)
  (q:∀zs p,DtA H zs ((rs.map pth).map pathD)->H p=none->Q (.ref p) (upd H p (.lst zs))):zb8 (Itl K l) (zuu K 2 (zfu (z7l 0) (zfu (z7l 1) zw4))) zsu (zif 0) Q σ H:=by
 subst hσ
 have lu:us.length=rs.length:=by rw [du.length,y8]
 refine z6v (xs:=us) (CfI H (rs.map pth) []) ⟨rfl,⟨_,_,rfl⟩,yg _,by rw [y20]; exact .nil⟩ (by omega) ?_ ?_ ?_ ?_
 ·rintro i vs σ' H' ⟨_,_,h,_⟩
  exact h
 ·rintro i vs σ' H' _ ⟨rfl,_⟩
  exact SqL.of hl
 ·rintro i vs v σ' H' hv ⟨rfl,⟨t0,t1,rfl⟩,hle,dv⟩
  obtain⟨r,hri,dr⟩:=z59 du hv
  obtain⟨d,ed⟩:=hf r
  rw [ed] at dr
  obtain⟨va,v0,v1,rfl,hva,u0,u1⟩:=zie dr
  walk_at "rd15"
  refine⟨_,SqT.of hva,rfl,_,_,rfl,_,_,rfl,rfl,rfl,⟨_,_,rfl⟩,by rw [yd,y08]; omega,?_⟩
  rw [z3n (x:=pth r) (by rw [y00,hri]; rfl),y03]
  exact dv.append (.cons u0 .nil)
 ·rintro vs σ' H' ⟨rfl,_,_,dv⟩ p hp
  rw [lu,<- y8 (f:=pth),y0j] at dv
  exact q vs p dv hp
def CnI(U:Hp)(ps ss:List (List Int))(ls:Addr)(i:Nat)(ys:List V)(σ':St)(H':Hp):Prop:=H'=U/\(∃t0 t1,σ'=[t0,t1,some (.ref ls)])/\ys.length<=i/\DtA U ys (((ps.take i).filter fun p=>!ss.contains p).map pathD)
theorem zs9{α : Type}{f : α->Dm}{pth : α->List Int}(hf:∀a,∃d,f a=.tup [pathD (pth a),d]){K:y3}{l ls:Addr}{us sv:List V}{rs:List α}{ss:List (List Int)}{H:Hp}{Q:VK}{σ : St}(hσ : σ = [none,none,some (.ref ls)])(hl:H l=some (.lst us))(du:DtA H us (rs.map f))(hz:rs.length < sizeLine)(hs:H ls=some (.lst sv))(ds:DtA H sv (ss.map pathD))
  (q:∀zs p,DtA H zs (((rs.map pth).filter fun p=>!ss.contains p).map pathD)->H p=none->Q (.ref p) (upd H p (.lst zs))):zb8 (Itl K l) (zuu K 2 (zfu (z7l 0) (zfu (z7l 1) zw4))) (zij (tOp (zjv K) (zif 0) (zif 2))) (zif 0) Q σ H:=by
 subst hσ
 have lu:us.length=rs.length:=by rw [du.length,y8]
 refine z6v (xs:=us) (CnI H (rs.map pth) ss ls) ⟨rfl,⟨_,_,rfl⟩,yg _,by rw [y20]; exact .nil⟩ (by omega) ?_ ?_ ?_ ?_
 ·rintro i vs σ' H' ⟨_,_,h,_⟩
  exact h
 ·rintro i vs σ' H' _ ⟨rfl,_⟩
  exact SqL.of hl
 ·rintro i vs v σ' H' hv ⟨rfl,⟨t0,t1,rfl⟩,hle,dv⟩
  obtain⟨r,hri,dr⟩:=z59 du hv
  obtain⟨d,ed⟩:=hf r
  rw [ed] at dr
  obtain⟨va,v0,v1,rfl,hva,u0,u1⟩:=zie dr
  walk_at "rd15"
  refine⟨_,SqT.of hva,rfl,_,_,rfl,_,_,rfl,rfl,_,u0,_,_,SqL.of hs,ds,?_⟩
  have et:(rs.map pth).take (i+1)=(rs.map pth).take i++[pth r]:=z3n (by rw [y00,hri]; rfl)
  unfold CnI
  rw [et,y23]
  by_cases hc:ss.contains (pth r)=false
  ·rw [if_pos hc]
   refine⟨rfl,⟨_,_,rfl⟩,by rw [yd,y08]; omega,?_⟩
   rw [List.filter_cons_of_pos (by rw [hc]; rfl),y2k,y03]
   exact dv.append (.cons u0 .nil)
  ·rw [if_neg hc]
   refine⟨rfl,⟨_,_,rfl⟩,by omega,?_⟩
   rw [List.filter_cons_of_neg (by rw [Bool.not_eq_false] at hc; rw [hc]; decide),y2k,y06]
   exact dv
 ·rintro vs σ' H' ⟨rfl,_,_,dv⟩ p hp
  rw [lu,<- y8 (f:=pth),y0j] at dv
  exact q vs p dv hp
theorem q5t(r:RI):∃d,rowI r=.tup [pathD r.1,d]:=⟨_,rfl⟩
theorem q5b(r:RT):∃d,q1r r=.tup [pathD r.1,d]:=⟨_,rfl⟩
theorem zvy{xs:List V}{v:V}(h:xs[xs.length - 1]?=some v):atI xs (-1)=some v:=by
 have hl:=(List.getElem?_eq_some_iff.mp h).1
 have e:xs.dropLast++[v]=xs:=by
  have hn:xs≠[]:=fun z=>by rw [z] at hl; simp at hl
  have:=List.dropLast_concat_getLast hn
  rw [List.getLast_eq_getElem] at this
  rw [<- (List.getElem?_eq_some_iff.mp h).2]
  exact this
 have:=zxy xs.dropLast v
 rwa [e] at this
def CsI(U:Hp)(rs:List RI)(p:List Int)(l:Addr)(i:Nat)(ys:List V)(σ':St)(H':Hp):Prop:=H'=U/\(∃t0,σ'=[t0,some (.ref l)])/\ys.length<=i/\DtA U ys (((rs.take i).filter fun r=>decide (r.1=p)).map rowI)
theorem zvp{K:y3}{l:Addr}{us:List V}{rs:List RI}{lrow:RI}{H:Hp}{Q:VK}{σ : St}(hσ : σ = [none,some (.ref l)])(hl:H l=some (.lst us))(du:DtA H us (rs.map rowI))(hz:rs.length < sizeLine)(hlast:rs[rs.length - 1]?=some lrow)
  (q:∀zs p,DtA H zs ((rs.filter fun r=>decide (r.1=lrow.1)).map rowI)->H p=none->Q (.ref p) (upd H p (.lst zs))):zb8 (Itl K l) (z7l 0) (zij (tOp (zw3 K) (tOp (zpv K) (zif 0) (tC (V.int 0))) (tOp (zpv K) (tOp (zta K) (zif 1) (tUn (rU fun i=>V.int (-i)) (tC (V.int 1)))) (tC (V.int 0))))) (zif 0) Q σ H:=by
 subst hσ
 have lu:us.length=rs.length:=by rw [du.length,y8]
 have hpos:=(List.getElem?_eq_some_iff.mp hlast).1
 obtain⟨lv,hlv⟩:∃v,us[us.length - 1]?=some v:=⟨_,yb (by omega)⟩
 obtain⟨lr,hlr,dlr⟩:=z59 du hlv
 rw [lu,hlast] at hlr
 cases hlr
 obtain⟨la,l0,l1,rfl,hla,w0,_⟩:=zie dlr
 refine z6v (xs:=us) (CsI H rs lrow.1 l) ⟨rfl,⟨_,rfl⟩,yg _,by rw [y20]; exact .nil⟩ (by omega) ?_ ?_ ?_ ?_
 ·rintro i vs σ' H' ⟨_,_,h,_⟩
  exact h
 ·rintro i vs σ' H' _ ⟨rfl,_⟩
  exact SqL.of hl
 ·rintro i vs v σ' H' hv ⟨rfl,⟨t0,rfl⟩,hle,dv⟩
  obtain⟨r,hri,dr⟩:=z59 du hv
  obtain⟨va,v0,v1,rfl,hva,u0,u1⟩:=zie dr
  walk_at "rd15"
  refine⟨_,SqT.of hva,_,z1c,_,SqL.of hl,_,zvy hlv,_,rfl,_,SqT.of hla,_,z1c,_,⟨pathD r.1,pathD lrow.1,u0,w0,((z4k r.1).mono (m:=4) (by decide)).eq (by decide),((z4k lrow.1).mono (m:=4) (by decide)).eq (by decide),rfl⟩,?_⟩
  rw [show PyData.eqv (pathD r.1).dat (pathD lrow.1).dat=decide (r.1=lrow.1) from zg4 r.1 lrow.1]
  unfold CsI
  rw [z3n hri,y23]
  by_cases hc:r.1=lrow.1
  ·rw [if_pos (decide_eq_true hc)]
   refine⟨rfl,⟨_,rfl⟩,by rw [yd,y08]; omega,?_⟩
   rw [y2e,if_pos (decide_eq_true hc),y2k,y03]
   exact dv.append (.cons dr .nil)
  ·rw [if_neg (by rw [decide_eq_true_eq]; exact hc)]
   refine⟨rfl,⟨_,rfl⟩,by omega,?_⟩
   rw [y2e,if_neg (by rw [decide_eq_true_eq]; exact hc),y2k,y06]
   exact dv
 ·rintro vs σ' H' ⟨rfl,_,_,dv⟩ p hp
  rw [lu,y0j] at dv
  exact q vs p dv hp
end
section
variable{P:yf}{w:yr}{K:y3}{mg:Str->Option y4}{base:Heap}{f:Addr}{fd:yq}
def zwe(K:y3)(p2 p3:Addr):Sp:=fun vs H Q _=>∃(a:Addr) (ns:List Int),vs=[.ref a]/\SqL K H a (ns.map V.int)/\ns.length<=63/\H p2=some (.tbl #[])/\H p3=some (.tbl #[])/\∀H',Q (.bl true) H'
def GoI(C x dx l:Addr)(gv wv:V)(H0:Hp)(σ0:St)(i:Nat)(σ : St)(H:Hp):Prop:=(∃t7,σ = σ0++[t7,none,none,none,none,none])/\Ch x (.ins C dx (trF gv wv l i)) H0 H
theorem q2m{c p2 pt C N Rc:Addr}{as:List Addr}(h23:p2≠pt) (F:FunC K "law" "law" z2d f fd c) (hC:PySem.W.CodeHd base c pt) (hB:base.BuiltinsAt mg pt) (hgP:mainGlobals≠pt) (t:TrC K C) (m_Trace:mg "Trace" = some (.ref C)) (xN:zl3 K Rc as N "no step")
  (b_len:mg "len" = none) (b_min:mg "min" = none) (b_range:mg "range" = none) (c_law_program:Callee P w K mg base "_law_program" ["_law_script","_law_at"] 11 (zlg K)) (c_law_pick:Callee P w K mg base "_law_pick" ["_law_script","_law_k","_law_many"] 2 (zbx K)) (c_law_worths:Callee P w K mg base "_law_worths" ["_law_script","_law_at","_law_program_here"] 3 (q50 K))
  (c_law_told:Callee P w K mg base "_law_told" ["_law_deed"] 26 (zsz P w K mg base Rc as)) (c_traced:Callee P w K mg base "traced" ["program","worths"] 22 (zji p2)) (c_spots:Callee P w K mg base "spots" ["program"] 7 zjj) (c_Trace_init:CalleeI P w K mg base C ["self","program","worths"] 23 (zt0 p2 C))
  (cx_Trace_back:CalleeMX P w K mg base C "back" ["self"] 1 (zt2 C N)) (cx_Trace_go:CalleeMX P w K mg base C "go" ["self"] 1 (q23 C N)) (c_Trace_go:CalleeM P w K mg base C "go" ["self"] 1 (q4d C)) (c_Trace_back:CalleeM P w K mg base C "back" ["self"] 1 (zt3 C)) (c_Trace_to:CalleeM P w K mg base C "to" ["self","path"] 1 (q51 C)) (c_Trace_passed:CalleeM P w K mg base C "passed" ["self"] 1 (zps C))
  (c_Trace_tally:CalleeM P w K mg base C "tally" ["self"] 1 (zpr C)) (c_Trace_unseen:CalleeM P w K mg base C "unseen" ["self"] 8 (zpp C)) (c_Trace_ground:CalleeM P w K mg base C "ground" ["self"] 1 (zpt C)) (c_Trace_twin:CalleeM P w K mg base C "twin" ["self"] 25 (zy6 p2 C)):FnOk P w K mg base CX0 27 f fd ["_law_script"] (zwe K p2 pt):=by
 refine F.ok sc_law (fun vs H Q E h=>?_) (fun A outer s H vs Q E hr h=>?_)
 ·obtain⟨a,ns,rfl,_⟩:=h
  rfl
 obtain⟨a,ns,rfl,hS,_,hp2,hp3,q⟩:=h
 have k_Trace:=t.c
 refine⟨_,(z04 (z14 (i:=1) sc_law.nd rfl z7d (z19 c_law_program hr (by omega) (z08 (z06 0 rfl z3f) (z08 z03 z02)) zcc zi0) (z05 rfl))
 (z04 (z14 (i:=2) sc_law.nd rfl z8a (z19 c_law_worths hr (by omega) (z08 (z06 0 rfl z3f) (z08 z03 (z08 (z06 1 rfl z13) z02))) zdn ziy) (z05 rfl))
 (z04 (ztf (z12 (z08 (zg1 zjl (z19 c_traced hr (by omega) (z08 (z06 1 rfl z13) (z08 (z06 2 rfl z2z) z02)) zdj zhz) zjy (zea z03)) (z08 (q2a c_Trace_init hr (by omega) zmh m_Trace (z08 (z06 1 rfl z13) (z08 (z06 2 rfl z2z) z02)) zqo) z02))) (zbz (n:=2) rfl (z0x (z0s (i:=3) sc_law.nd rfl zeh) (z0x (z0s (i:=4) sc_law.nd rfl zdb) z3z))))
 (z04 (z14 (i:=5) sc_law.nd rfl zei (z4h zqg zbb b_len z74 (z08 (z19 c_traced hr (by omega) (z08 (z06 1 rfl z13) (z08 (z06 2 rfl z2z) z02)) zdj zhz) z02) z70 z71) (z05 rfl))
 (z04 (z14 (i:=6) sc_law.nd rfl zde (z19 c_law_pick hr (by omega) (z08 (z06 0 rfl z3f) (z08 z03 (z08 (z0n z1a (z4h (zn5 rfl) zry b_min zyy (z08 (z06 5 rfl z5d) (z08 z03 z02)) zyn zyx) z03) z02))) z9p z0p) (z05 rfl))
 (z04 (zag y0r rfl (zah zav b_range (z08 (z06 6 rfl z2r) z02)) (z0s (i:=7) sc_law.nd rfl zit)
 (z07 (z77 (z6i (z06 4 rfl z27) k_Trace c_Trace_go hr (by omega)) (z05 rfl))))
 (z04 (z14 (i:=8) sc_law.nd rfl zdd (z6i (z06 4 rfl z27) k_Trace c_Trace_twin hr (by omega)) (z05 rfl))
 (z04 (z1x (PW.pt (zgv (z0b (dNe hr.units) (z6i (z06 8 rfl z2q) k_Trace c_Trace_passed hr (by omega)) (z12 (z08 (z06 6 rfl z2r) (z08 (z0n z6k (z06 5 rfl z5d) (z06 6 rfl z2r)) z02))) (z0g _)) (zgv (z0b (q0z hr.units) (z6i (z06 8 rfl z2q) k_Trace c_Trace_tally hr (by omega)) (z6i (z06 4 rfl z27) k_Trace c_Trace_tally hr (by omega)) (z0g _)) (zd1 (z0b (dNe hr.units) (z6i (z06 8 rfl z2q) k_Trace c_Trace_ground hr (by omega)) (z6i (z06 4 rfl z27) k_Trace c_Trace_ground hr (by omega)) (z0g _)))))) (z07 (z0f zil)) z0k)
 (z04 (z14 (i:=9) sc_law.nd rfl zdc (z2v (z08 (z06 4 rfl z27) (z08 (z06 8 rfl z2q) z02))) (z05 rfl))
 (z04 (zag y0r rfl (z5i (zk1 (z0b z80 (z19 c_law_pick hr (by omega) (z08 (z06 0 rfl z3f) (z08 z03 (z08 z03 z02))) z9p z0p) z03 (z0g _)) (z06 9 rfl z7u) (zyk (z06 9 rfl z7u) (zea (zk0 zcs z03))))) (z0s (i:=10) sc_law.nd rfl zfm)
 (z04 (z1x (z0b (q0z hr.units) (z6j ["_law_k","_law_one"] [none,some 10] rfl (CompS.of (by rfl)) (zah zav b_range (z08 (z0n z6k (z4h zqg zbb b_len z74 (z08 (z06 3 rfl z15) z02) z70 z71) (z06 6 rfl z2r)) z02)) (fun _ _ _ _ _=>(z0s (i:=0) (show List.Nodup (["_law_k","_law_one"]:List Str) from by decide+kernel) rfl (Or.inl rfl))) (fun _ _ _ _ _=>zeb) (fun _ _ _ _ _=>(z6i (z1q (i:=1) rfl (by walk_at "vc") z3p z3q) k_Trace c_Trace_go hr (by omega)))) (zg1 zjl (z06 3 rfl z15) (zea (z06 6 rfl z2r)) zjy) (z0g _)) (z07 (z0f zil)) z0k)
 (z04 (z1x (PW.pt (ztd (z0b z80 (z06 5 rfl z5d) (z4h zqg zbb b_len z74 (z08 (z06 3 rfl z15) z02) z70 z71) (z0g _)) (zo9 (z0b (gNe hr.units) (ztj (c:=c) (pt:=pt) (q:=qL) (cs:=[(10,s.heap.objs.size+3)]) (fr:=["_law_one"]) c_law_told hr (by omega) rfl rfl rfl hC hB hgP rfl (List.forall_mem_cons.mpr ⟨⟨"_law_one",rfl,rfl,z8j,rfl⟩,(fun _ h=>nomatch h)⟩) (zhd rfl rfl rfl (by decide+kernel) (by decide+kernel) (by decide+kernel) (by decide+kernel) rfl (by simp)) rfl (by simp) (fun _ h1 h2 h3 h4=>q3r h1 h2 h3 h4) (fun _ _ _ _ _ _ _ _ hr hx=>(ztl (z1q (i:=0) rfl (by walk_at "vc") z3p z3q) k_Trace cx_Trace_go hx hr (by omega))) z9o zf4) z0i (z0g _))))) (z07 (z0f zil)) z0k)
 (z04 (z14 (i:=11) sc_law.nd rfl zeg (z6j ["_law_path","_law_worth"] [none,none] rfl (CompS.of (by rfl)) (z5i (z06 3 rfl z15)) (fun _ _ _ _ _=>(zec (n:=2) (K:=K) rfl rfl (z0x (z0s (i:=0) (show List.Nodup (["_law_path","_law_worth"]:List Str) from by decide+kernel) rfl (Or.inl rfl)) (z0x (z0s (i:=1) (show List.Nodup (["_law_path","_law_worth"]:List Str) from by decide+kernel) rfl (Or.inl rfl)) z3z)))) (fun _ _ _ _ _=>zeb) (fun _ _ _ _ _=>(z1q (i:=0) rfl (by walk_at "vc") z72 z73))) (zj2 zdx))
 (z04 (z1x (z0b (q0z hr.units) (z6i (z06 10 rfl z3k) k_Trace c_Trace_unseen hr (by omega)) (z6j ["_law_path","_law_expr","_law_seen"] [none,none,some 11] rfl (CompS.of (by rfl)) (z5i (z19 c_spots hr (by omega) (z08 (z06 1 rfl z13) z02) zf0 zks)) (fun _ _ _ _ _=>(zec (n:=2) (K:=K) rfl rfl (z0x (z0s (i:=0) (show List.Nodup (["_law_path","_law_expr","_law_seen"]:List Str) from by decide+kernel) rfl (Or.inl rfl)) (z0x (z0s (i:=1) (show List.Nodup (["_law_path","_law_expr","_law_seen"]:List Str) from by decide+kernel) rfl (Or.inl rfl)) z3z)))) (fun _ _ _ _ _=>(zgx (z0b (opK (r:=zjv) (K:=K) (q0t hr.units) rfl) (z1q (i:=0) rfl (by walk_at "vc") z72 z73) (z1q (i:=2) rfl (by walk_at "vc") zmu zn1) (by with_unfolding_all rfl)))) (fun _ _ _ _ _=>(z1q (i:=0) rfl (by walk_at "vc") z72 z73))) (z0g _)) (z07 (z0f zil)) z0k)
 (z04 (z1x (PW.pt (zgv (z0b (q0z hr.units) (z6j ["_law_k","_law_one"] [none,some 10] rfl (CompS.of (by rfl)) (zah zav b_range (z08 (z4h zqg zbb b_len z74 (z08 (z06 3 rfl z15) z02) z70 z71) z02)) (fun _ _ _ _ _=>(z0s (i:=0) (show List.Nodup (["_law_k","_law_one"]:List Str) from by decide+kernel) rfl (Or.inl rfl))) (fun _ _ _ _ _=>zeb) (fun _ _ _ _ _=>(z6i (z1q (i:=1) rfl (by walk_at "vc") z3p z3q) k_Trace c_Trace_back hr (by omega)))) (zyk (z06 3 rfl z15) (zea (zk0 zcs z03))) (z0g _)) (zd1 (z0b (gNe hr.units) (ztj (c:=c) (pt:=pt) (q:=qL) (cs:=[(10,s.heap.objs.size+3)]) (fr:=["_law_one"]) c_law_told hr (by omega) rfl rfl rfl hC hB hgP rfl (List.forall_mem_cons.mpr ⟨⟨"_law_one",rfl,rfl,z8j,rfl⟩,(fun _ h=>nomatch h)⟩) (zhd rfl rfl rfl (by decide+kernel) (by decide+kernel) (by decide+kernel) (by decide+kernel) rfl (by simp)) rfl (by simp) (fun _ h1 h2 h3 h4=>q3r h1 h2 h3 h4) (fun _ _ _ _ _ _ _ _ hr hx=>(ztl (z1q (i:=0) rfl (by walk_at "vc") z3p z3q) k_Trace cx_Trace_back hx hr (by omega))) z9o zf4) z0i (z0g _))))) (z07 (z0f zil)) z0k)
 (z04 (z1x (PW.pt (zgv (z0b (q0z hr.units) (z6i (z06 10 rfl z3k) k_Trace c_Trace_tally hr (by omega)) (z2v z02) (z0g _)) (zd1 (z0b (q0z hr.units) (z6i (z06 10 rfl z3k) k_Trace c_Trace_unseen hr (by omega)) (z6j ["_law_path","_law_expr"] [none,none] rfl (CompS.of (by rfl)) (z5i (z19 c_spots hr (by omega) (z08 (z06 1 rfl z13) z02) zf0 zks)) (fun _ _ _ _ _=>(zec (n:=2) (K:=K) rfl rfl (z0x (z0s (i:=0) (show List.Nodup (["_law_path","_law_expr"]:List Str) from by decide+kernel) rfl (Or.inl rfl)) (z0x (z0s (i:=1) (show List.Nodup (["_law_path","_law_expr"]:List Str) from by decide+kernel) rfl (Or.inl rfl)) z3z)))) (fun _ _ _ _ _=>zeb) (fun _ _ _ _ _=>(z1q (i:=0) rfl (by walk_at "vc") z72 z73))) (z0g _))))) (z07 (z0f zil)) z0k)
 (z07 (z1x (z0b (q0z hr.units) (z06 3 rfl z15) (z2v z02) (z0g _)) (z04 (z14 (i:=12) sc_law.nd rfl z9z (z0u z2t (z6j ["_law_row","_law_rows"] [none,some 3] rfl (CompS.of (by rfl)) (z5i (z06 3 rfl z15)) (fun _ _ _ _ _=>(z0s (i:=0) (show List.Nodup (["_law_row","_law_rows"]:List Str) from by decide+kernel) rfl (Or.inl rfl))) (fun _ _ _ _ _=>(zgx (z0b (opK (r:=zw3) (K:=K) (dEq hr.units) rfl) (z0u (ixK (r:=zpv) (K:=K) z0o rfl) (z1q (i:=0) rfl (by walk_at "vc") zci zcl) z03 (fun _ _=>rfl)) (z0u (ixK (r:=zpv) (K:=K) z0o rfl) (z0u (ixK (r:=zta) (K:=K) z2t rfl) (z1q (i:=1) rfl (by walk_at "vc") zmv zn2) (zk0 zcs z03) (fun _ _=>rfl)) z03 (fun _ _=>rfl)) (z0g _)))) (fun _ _ _ _ _=>(z1q (i:=0) rfl (by walk_at "vc") zci zcl))) z03 (fun _ _=>rfl)) (z05 rfl))
 (z07 (z1x (PW.pt (zgv (z0b zq2 (q4i (z06 10 rfl z3k) k_Trace c_Trace_to hr (by omega) (z08 (z0u z0o (z0u z2t (z06 3 rfl z15) (zk0 zcs z03) (fun _ _=>rfl)) z03 (fun _ _=>rfl)) z02)) (z0u z0o (z06 12 rfl z55) z03 (fun _ _=>rfl)) (z0g _)) (zd1 (z0b zq2 (z0u z0o (z6i (z06 10 rfl z3k) k_Trace c_Trace_passed hr (by omega)) z03 (fun _ _=>rfl)) (z0n z1a (zgy y0d PySem.F.slot_list_index PySem.F.type_list_index (zu2 hr.units) (z06 3 rfl z15) (z08 (z06 12 rfl z55) z02)) z03) (z0g _))))) (z07 (z0f zil)) z0k))) z0k)))))))))
 (z07 (z0f (zk2 (dEq hr.units) (z6i (z06 4 rfl z27) k_Trace c_Trace_passed hr (by omega)) (z6i (z06 8 rfl z2q) k_Trace c_Trace_passed hr (by omega)) (z0g _)))))))))))))),z0e fun N1 e1=>?_⟩
 walk_at "rd15"
 refine⟨a,ns,0,rfl,hS,by decide,fun r ri rb H1 rows b g0 s1 hr1 dri drb hrow hok hbl hbn hkn=>?_⟩
 have dr:Dt H1 (.ref r) (.tup [.tup (rows.map rowEnc),.tup (encB b)]):=.tup hr1 (.cons dri (.cons drb .nil))
 obtain⟨g,hkb,_,_⟩:=hkn _ (Sub.refl _)
 rw [e1]
 refine z0e fun N2 e2=>?_
 walk_at "rd15"
 refine⟨a,ns,910,.ref r,rows,_,rfl,s1.seq hS,by decide,dr,hrow,fun wv ws H2 s2 dw hfit=>?_⟩
 rw [e2]
 refine z0e fun N3 e3=>?_
 clear e1 e2
 walk_at "rd15"
 obtain⟨R,hR⟩:∃R,(evP rows b ws).2.2=R:=⟨_,rfl⟩
 have hRb:R.length+1 < sizeLine:=hR ▸ zgr hok [] 0 _
 have hRn:R≠[]:=hR ▸ q39 hbn _ _ _
 have dr2:=dr.kp s2.kp
 refine⟨.ref r,wv,rows,b,ws,g,rfl,dr2,dw,hrow,hfit,zex (zey hok),hkb,zgr hok [] 0 _,.inl (s2 _ _ (s1 _ _ hp2)),fun l0 ys0 H3 sB3 hl0n T3 hl0 dy0=>?_⟩
 refine⟨l0,rfl,ys0,SqL.of hl0,fun lr hlr=>?_⟩
 rw [show zpb ys0 none (some 60)=ys0.take 60 from zvn ys0 60]
 have s4:=z01 hlr (HO.lst (ys0.take 60))
 have hr4:upd H3 lr (HO.lst (ys0.take 60)) lr=some (.lst (ys0.take 60)):=z00
 generalize upd H3 lr (HO.lst (ys0.take 60))=H4 at s4 hr4 |-
 rw [hR] at dy0
 have du4:DtA H4 (ys0.take 60) ((R.take 60).map rowI):=by
  rw [List.map_take]
  exact zg5 60 (dy0.kp s4.kp)
 have sB4:SameB p2 H2 H4:=sB3.trans (SameB.of s4)
 have T4:=T3.kp fun a o _ e=>s4 _ _ e
 have hp22:H2 p2=some (.tbl #[]):=s2 _ _ (s1 _ _ hp2)
 have n24:=SameN.ofB sB4 hp22
 clear sB3 T3 hl0 hl0n hlr dy0 s4 H3
 intro x dx hx hdx hne
 have s00:Same H4 (upd (upd H4 dx (HO.own x)) x (HO.ins C dx [])):=fun a o e=>by rw [z09 (z0d e hx),z09 (z0d e hdx)]; exact e
 refine⟨x,dx,.ref r,wv,rows,b,ws,g,rfl,z00,(dr2.kp n24.kp).kp s00.kp,(dw.kp n24.kp).kp s00.kp,hrow,hfit,zex (zey hok),hkb,zgr hok [] 0 _,T4.kp fun a o _ e=>s00 _ _ e,fun l ys H5 sB5 T5 hx5 hln hl5 dy5=>⟨rfl,by decide,fun p6 hp6=>⟨_,SqT.of z00,rfl,_,_,rfl,_,_,rfl,rfl,?_⟩⟩⟩
 rw [hR] at dy5
 have sB45:SameB p2 H4 H5:=fun a o n e=>sB5 a o n (z0d e hx) (s00 _ _ e)
 have sB25:=sB4.trans sB45
 have n25:=SameN.ofB sB25 hp22
 obtain⟨_,ep2⟩:=T4.tb
 have lt5:L1 K p2 pt C a ns (.ref r) wv rows b ws R lr (ys0.take 60) x dx l ys 0 H5:=⟨zsx (s2.seq (s1.seq hS)) fun o _ n e=>n25 _ _ n e,T5,⟨#[],sB25 _ _ h23.symm (s2 _ _ (s1 _ _ hp3)),trivial,fun pos v z=>nomatch z⟩,⟨hx5,hl5,dy5⟩,dr2.kp n25.kp,dw.kp n25.kp,sB45 _ _ (z4y hr4 ep2 (by intro z; cases z)) hr4,du4.kp (SameN.ofB sB45 ep2).kp⟩
 replace lt5:=lt5.same (z01 hp6 (HO.tup [V.ref lr,V.ref x]))
 generalize upd H5 p6 (HO.tup [V.ref lr,V.ref x])=H6 at lt5 |-
 generalize ys0.take 60=us at lt5 |-
 clear sB45 sB25 n25 T4 T5 hx5 hln hl5 dy5 sB5 s00 hx hdx hne ep2 sB4 n24 du4 hr4 hp6 H5 H4 dr2 dw dr hS hp2 hp3 hp22 s1 s2 hr1 dri drb
 rw [e3]
 refine z0e fun N4 e4=>?_
 clear e3
 walk_at "rd15"
 refine⟨.ref r,wv,rows,b,ws,g,rfl,lt5.dg,lt5.dw,hrow,hfit,zex (zey hok),hkb,zgr hok [] 0 _,lt5.ta,fun l0 ys0 H7 sB7 hl0n T7 hl0 dy0=>?_⟩
 rw [hR] at dy0
 replace lt5:=lt5.bb h23 sB7 T7
 have hm:ys0.length=R.length:=by rw [dy0.length,y8]
 refine⟨_,zsi (SqL.of hl0),?_⟩
 rw [hm]
 clear hm hl0 dy0 T7 sB7 hl0n H6
 rw [e4]
 refine z0e fun N5 e5=>?_
 clear e4
 walk_at "rd15"
 refine⟨_,_,⟨rfl,rfl⟩,a,ns,920,_,rfl,lt5.sq,by decide,by split<;>omega,fun y H8 y0 y1 s8=>?_⟩
 obtain⟨ah,rfl⟩:=Int.eq_ofNat_of_zero_le y0
 have ah40:ah<=40:=by split at y1<;>omega
 have ahR:ah<=R.length:=by split at y1<;>omega
 have lt8:=lt5.same s8
 clear lt5 s8 y0 y1 H7
 rw [e5]
 refine z0e fun N6 e6=>?_
 clear e5
 walk_at "rd15"
 refine⟨by omega,by omega,?_⟩
 rw [show Int.toNat (ah:Int)=ah from y2s ah]
 refine zdr (GoI C x dx l (.ref r) wv H8 [some (.ref a),some (.ref r),some wv,some (.ref lr),some (.ref x),some (.int R.length),some (.int ah)]) ⟨⟨_,rfl⟩,Ch.refl lt8.tr.hx⟩ ?_ ?_
 ·rintro m σ Hc hm ⟨⟨t7,rfl⟩,ch⟩
  walk_at "rd15"
  have ltm:=lt8.ch ch
  obtain⟨y,hy⟩:∃y,ys[m]?=some y:=⟨_,yb (by rw [ltm.tr.len]; omega)⟩
  exact⟨_,_,ltm.tr.hx,z3c (by decide+kernel),x,dx,l,_,_,ys,m,y,rfl,ltm.tr.hx,ltm.tr.hl,hy,⟨_,rfl⟩,ch.upd⟩
 rintro σ Hc ⟨⟨t7,rfl⟩,ch⟩
 have lt9:=lt8.ch ch
 clear ch lt8 H8
 show N6 _ _
 rw [e6]
 refine z0e fun N7 e7=>?_
 clear e6
 walk_at "rd15"
 refine⟨_,_,lt9.tr.hx,z3c (by decide+kernel),x,dx,l,.ref r,wv,rows,b,ws,g,ah,rfl,lt9.tr.hx,lt9.dg,lt9.dw,hrow,hfit,zex (zey hok),hkb,zgr hok [] 0 _,lt9.ta,fun y dy l' ys' H10 sB T hyn hy hln hl' dy'=>?_⟩
 rw [hR] at dy'
 have nxy:=z0d lt9.tr.hx hyn
 replace lt9:=lt9.bb h23 sB T
 have lt:L13 pt C (.ref r) wv rows b R lr us lr us x dx l ys ah y dy l' ys' ah H10:=⟨lt9.tm,lt9.tr,⟨hy,hl',dy'⟩,nxy,lt9.dg,lt9.hr,lt9.dr,lt9.hr⟩
 have sq:=lt9.sq
 have dw:=lt9.dw
 clear sB T hyn hy hln hl' dy' nxy lt9 Hc hfit hkb hkn
 rw [e7]
 refine z0e fun N8 e8=>?_
 clear e7
 refine zga fun Y1 Z1 _ hZ1=>?_
 walk_at "rd15"
 refine⟨_,_,lt.tb.hx,z3c (by decide+kernel),y,dy,l',_,_,ys',ah,rfl,lt.tb.hx,lt.tb.hl,fun q1 hq1=>⟨by decide,fun q2 hq2=>⟨true,zkq (d:=pathD [ah,R.length - ah]) (z4k _) (by decide) (.tup (z01 hq2 _ _ _ z00) (.cons (.int _) (.cons (by rw [lt.tb.len]; exact .int _) .nil))) (.tup z00 (.cons (.int _) (.cons (.int _) .nil))),?_⟩⟩⟩
 have s1:=(z01 hq1 (HO.tup [V.int ah,V.int (ys'.length - ah)])).trans (z01 hq2 (HO.tup [V.int ah,V.int (R.length - ah)]))
 generalize upd (upd H10 q1 (HO.tup [V.int ah,V.int (ys'.length - ah)])) q2 (HO.tup [V.int ah,V.int (R.length - ah)])=H11 at s1 |-
 rw [if_neg (by decide),hZ1]
 replace lt:=lt.same s1
 replace sq:=s1.seq sq
 replace dw:=dw.kp s1.kp
 clear hZ1 s1 hq1 hq2 H10
 refine zga fun Y2 Z2 _ hZ2=>?_
 walk_at "rd15"
 refine⟨_,_,lt.tb.hx,z3c (by decide+kernel),y,dy,l',_,_,ys',R,ah,rfl,lt.tb.hx,lt.tb.hl,lt.tb.dy,ahR,by omega,fun q1 H12 v1 m1 s12 f12 hq1 dq1 pm1 pw1=>?_⟩
 replace lt:=lt.same s12
 refine⟨_,_,lt.ta.hx,z3c (by decide+kernel),x,dx,l,_,_,ys,R,ah,rfl,lt.ta.hx,lt.ta.hl,lt.ta.dy,ahR,by omega,fun q2 H13 v2 m2 s13 f13 hq2 dq2 pm2 pw2=>?_⟩
 obtain rfl:=zli pm1 pm2 pw1 pw2
 refine⟨true,z8f (zb4 m1) (SqL.of (s13 _ _ hq1)) (SqL.of hq2) (dq1.kp s13.kp) dq2,?_⟩
 have s1:=s12.trans s13
 rw [if_neg (by decide),hZ2]
 replace lt:=lt.same s13
 replace sq:=s1.seq sq
 replace dw:=dw.kp s1.kp
 clear f12 f13 hZ2 s1 hq1 hq2 dq1 dq2 pm1 pm2 pw1 pw2 s12 s13 H12 H11
 walk_at "rd15"
 refine⟨_,_,lt.tb.hx,z3c (by decide+kernel),y,dy,l',_,_,ah,rfl,lt.tb.hx,fun q1 hq1=>?_⟩
 have s1:=z01 hq1 (HO.tup [V.ref r,wv])
 refine⟨_,_,s1 _ _ lt.ta.hx,z3c (by decide+kernel),x,dx,l,_,_,ah,rfl,s1 _ _ lt.ta.hx,fun q2 hq2=>?_⟩
 have s2:=z01 hq2 (HO.tup [V.ref r,wv])
 have s3:=s1.trans s2
 have fd:Fine 21 (.tup [.tup [.tup (rows.map rowEnc),.tup (encB b)],pathD ws]):=z2n fun d hd=>by
  simp only[yz,yt,or_false] at hd
  rcases hd with rfl | rfl
  ·exact zuw hrow (zex (zey hok))
  ·exact(z4k _).mono (by decide)
 refine⟨true,zkq fd (by decide) (.tup (s2 _ _ z00) (.cons (lt.dg.kp s3.kp) (.cons (dw.kp s3.kp) .nil))) (.tup z00 (.cons (lt.dg.kp s3.kp) (.cons (dw.kp s3.kp) .nil))),?_⟩
 replace lt:=lt.same s3
 replace sq:=s3.seq sq
 generalize upd (upd H13 q1 (HO.tup [V.ref r,wv])) q2 (HO.tup [V.ref r,wv])=H14 at lt sq |-
 clear fd s1 s2 s3 hq1 hq2 dw H13
 rw [if_neg (by decide),e8]
 refine z0e fun N9 e9=>?_
 clear e8
 walk_at "rd15"
 refine⟨by decide,fun lp hlp=>?_⟩
 have s1:=z01 hlp (HO.lst [V.ref x,V.ref y])
 have hp15:upd H14 lp (HO.lst [V.ref x,V.ref y]) lp=some (.lst [V.ref x,V.ref y]):=z00
 replace lt:=lt.same s1
 replace sq:=s1.seq sq
 generalize upd H14 lp (HO.lst [V.ref x,V.ref y])=H15 at lt sq hp15 |-
 clear s1 hlp H14
 rw [e9]
 refine z0e fun N10 e10=>?_
 clear e9
 obtain⟨m60,hm60⟩:∃m,min 60 R.length=m:=⟨_,rfl⟩
 have hRl:R.length≠0:=fun z=>hRn (List.length_eq_zero_iff.mp z)
 obtain⟨lrow,hlast⟩:∃r,(R.take 60)[m60 - 1]?=some r:=⟨_,yb (by rw [y0a]; omega)⟩
 obtain⟨j,fi,hj,hjn,tl,hfil⟩:=zqk (p:=lrow.1) (R.take 60) ⟨lrow,yv hlast,rfl⟩
 rw [z57]
 refine q1x fun V1 hV1=>?_
 have key:∀(o1 d1 m1:Addr) (w1:List V) (o2 d2 m2:Addr) (w2:List V) (pp:Addr) (Hf:Hp),L13 pt C (.ref r) wv rows b R lr us pp [.ref o1,.ref o2] o1 d1 m1 w1 ah o2 d2 m2 w2 ah Hf->(∀k Hz,L13 pt C (.ref r) wv rows b R lr us pp [.ref o1,.ref o2] o1 d1 m1 w1 k o2 d2 m2 w2 k Hz->∃lq qv,L13 pt C (.ref r) wv rows b R lr us lq qv x dx l ys k y dy l' ys' k Hz)->V1 (.ref pp) Hf:=by
  intro o1 d1 m1 w1 o2 d2 m2 w2 pp Hf lf fin
  rw [hV1]
  clear hV1 V1 lt sq hp15
  walk_at "rd15"
  refine⟨⟨_,SqL.of lf.hq⟩,?_⟩
  refine zg3 (xs:=[.ref o1,.ref o2]) (LpI pt C (.ref r) wv rows b R lr us pp o1 d1 m1 w1 o2 d2 m2 w2 ah (j+1) [some (.ref a),some (.ref r),some wv,some (.ref lr),some (.ref x),some (.int R.length),some (.int ah),t7,some (.ref y),some (.ref lp)]) ⟨⟨_,_,_,rfl⟩,fun _=>lf,fun z=>by omega,fun z=>by omega⟩ ?_ ?_ ?_
  ·rintro i σ Hc hi ⟨_,h0,h1,h2⟩
   rcases(show i=0\/i=1\/i=2 by simp at hi; omega) with rfl | rfl | rfl
   ·exact SqL.of (h0 rfl).hq
   ·exact SqL.of (h1 rfl).hq
   ·exact SqL.of (h2 rfl).hq
  ·rintro i xv σ Hc hxv li
   obtain⟨o,od,ol,oy,z,zd,zl,zy,kz,rfl,lo,nxt⟩:=li.go hxv
   obtain⟨t10,t11,t12,rfl⟩:=li.1
   clear li hxv lf fin
   rw [zuv]
   show znh _ _ _ [some (V.ref a),some (V.ref r),some wv,some (V.ref lr),some (V.ref x),some (V.int R.length),some (V.int ah),t7,some (V.ref y),some (V.ref lp),some (V.ref o),t11,t12] Hc
   refine z0e fun M1 m1=>?_
   walk_at "rd15"
   have hul:=lo.ulen
   have hm0:ah<=m60:=by omega
   have m6s:m60 < sizeLine:=y0w (show m60<=60 by omega) (by decide)
   refine⟨_,zsi (SqL.of lo.hr),by omega,by omega,?_⟩
   rw [show((us.length:Int) - (ah:Int)).toNat=m60 - ah by omega]
   refine q17 rfl lo.ta (by omega) (by omega) fun H16 zs q1 ch dz hq1=>?_
   rw [show ah+(m60 - ah)=m60 by omega] at ch
   replace lo:=lo.ch ch
   have s1:=z01 hq1 (HO.lst zs)
   refine⟨_,SqL.of (s1 _ _ lo.hr),fun q2 hq2=>?_⟩
   rw [zvo (by omega)]
   have s2:=z01 hq2 (HO.lst (us.drop ah))
   have s3:=s1.trans s2
   have e1:((R.drop ah).take (m60 - ah)).map rowI=((R.take 60).map rowI).drop ah:=by
    rw [<- List.map_drop,List.drop_take]
    congr 1
    by_cases h6:60<=R.length
    ·rw [show m60=60 by omega]
    ·rw [y1a (by rw [List.length_drop]; omega),y1a (by rw [List.length_drop]; omega)]
   have d1:=zqn ah lo.dr
   rw [<- e1] at d1
   refine⟨true,z8f (zb4 _) (SqL.of (s2 _ _ z00)) (SqL.of z00) (dz.kp s3.kp) (d1.kp s3.kp),?_⟩
   rw [if_neg (by decide)]
   replace lo:=lo.same s3
   generalize upd (upd H16 q1 (HO.lst zs)) q2 (HO.lst (us.drop ah))=H17 at lo |-
   clear e1 d1 dz s1 s2 s3 hq1 hq2 ch H16
   rw [m1]
   refine z0e fun M2 m2=>?_
   clear m1
   walk_at "rd15"
   suffices goM:∀H18,L13 pt C (.ref r) wv rows b R lr us pp [.ref o1,.ref o2] o od ol oy m60 z zd zl zy kz H18->M2 [some (V.ref a),some (V.ref r),some wv,some (V.ref lr),some (V.ref x),some (V.int R.length),some (V.int ah),t7,some (V.ref y),some (V.ref lp),some (V.ref o),t11,t12] H18 by
    refine⟨_,zsi (SqL.of lo.hr),?_⟩
    by_cases hlen:(R.length:Int)=(us.length:Int)
    ·rw [if_pos hlen]
     refine⟨lo.tm,_,.cons rfl .nil,fun H0 sB T0 E' Q' kE kQ=>?_⟩
     have l0:=lo.told sB T0
     have hx0:=l0.ta.hx
     rw [show m60=oy.length by rw [l0.ta.len]; omega] at hx0
     exact⟨_,rfl,_,rfl,_,_,hx0,z3c (by decide+kernel),o,od,ol,_,_,oy,rfl,hx0,l0.ta.hl,kE _ _ _ ⟨N,rfl,_,xN,fun H11 s'=>⟨true,⟨rfl,(decide_eq_true rfl).symm⟩,by rw [if_neg (by decide)]; exact goM _ (l0.same s')⟩⟩⟩
    ·rw [if_neg hlen]
     exact goM _ lo
   clear lo H17
   intro H18 lo
   rw [m2]
   refine z0e fun M3 m3=>?_
   clear m2
   walk_at "rd15"
   have tkl:(R.take 60).length=m60:=by rw [y0a]; exact hm60
   refine⟨⟨_,SqL.of lo.hr⟩,zqr q5t rfl lo.hr lo.dr (by omega) fun sv ls dsv hls=>?_⟩
   have s1:=z01 hls (HO.lst sv)
   have hs19:upd H18 ls (HO.lst sv) ls=some (.lst sv):=z00
   replace lo:=lo.same s1
   replace dsv:=dsv.kp s1.kp
   generalize upd H18 ls (HO.lst sv)=H19 at lo dsv hs19 |-
   clear s1 hls H18
   rw [m3]
   refine z0e fun M4 m4=>?_
   clear m3
   walk_at "rd15"
   have hspl:(zab b).length<=942 * 64:=zle (n:=3) hok (by decide)
   have hspz:(zab b).length < sizeLine:=y0w hspl (by decide)
   refine⟨_,_,lo.ta.hx,z3c (by decide+kernel),o,od,ol,_,_,_,b,oy,R,m60,rfl,lo.ta.hx,lo.ta.hl,lo.dg,hok,lo.ta.dy,by omega,by omega,fun q1 v1 H20 s20 f20 hq1 dq1=>?_⟩
   replace lo:=lo.same s20
   have tk:R.take m60=R.take 60:=by
    by_cases h6:60<=R.length
    ·rw [show m60=60 by omega]
    ·rw [y1a (by omega),y1a (by omega)]
   rw [tk] at dq1
   refine⟨.ref r,_,b,rfl,lo.dg,hok,fun q2 H21 v2 s21 f21 hq2 dq2=>⟨q2,rfl,⟨_,SqL.of hq2⟩,zs9 q5b rfl hq2 dq2 hspz ((s20.trans s21) _ _ hs19) (dsv.kp (s20.trans s21).kp) fun zs q3 dz hq3=>?_⟩⟩
   have s3:=z01 hq3 (HO.lst zs)
   refine⟨true,z8f (z8g _) (SqL.of (s3 _ _ (s21 _ _ hq1))) (SqL.of z00) (dq1.kp (s21.trans s3).kp) (dz.kp s3.kp),?_⟩
   replace lo:=lo.same (s21.trans s3)
   generalize upd H21 q3 (HO.lst zs)=H22 at lo |-
   clear s3 s21 s20 f20 f21 hq1 hq2 hq3 dq1 dq2 dz hs19 dsv H21 H20
   rw [if_neg (by decide),m4]
   refine z0e fun M5 m5=>?_
   clear m4
   refine zga fun Y1 Z1 _ hZ1=>?_
   walk_at "rd15"
   refine⟨_,zsi (SqL.of lo.hr),by omega,by omega,?_⟩
   rw [show((us.length:Int)).toNat=m60 by omega]
   refine zvs rfl lo.ta (by omega) m6s fun H23 zs q1 ch dz hq1=>?_
   replace lo:=lo.ch ch
   have s1:=z01 hq1 (HO.lst zs)
   refine⟨_,SqL.of (s1 _ _ lo.hr),fun q2 hq2=>?_⟩
   have s2:=z01 hq2 (HO.lst us.reverse)
   have s3:=s1.trans s2
   rw [tk] at dz
   have d1:DtA H23 us.reverse ((R.take 60).reverse.map rowI):=by
    rw [List.map_reverse]
    exact zv6 lo.dr
   refine⟨true,z8f (zb4 _) (SqL.of (s2 _ _ z00)) (SqL.of z00) (dz.kp s3.kp) (d1.kp s3.kp),?_⟩
   rw [if_neg (by decide),hZ1]
   replace lo:=lo.same s3
   generalize upd (upd H23 q1 (HO.lst zs)) q2 (HO.lst us.reverse)=H24 at lo |-
   clear d1 dz s1 s2 s3 hq1 hq2 ch hZ1 H23 H22
   walk_at "rd15"
   refine⟨lo.tm,_,.cons rfl .nil,fun H0 sB T0 E' Q' kE kQ=>?_⟩
   have l0:=lo.told sB T0
   refine⟨_,rfl,_,rfl,_,_,l0.ta.hx,z3c (by decide+kernel),o,od,ol,_,_,rfl,l0.ta.hx,kE _ _ _ ⟨N,rfl,_,xN,fun H25 s'=>⟨true,⟨rfl,(decide_eq_true rfl).symm⟩,?_⟩⟩⟩
   rw [if_neg (by decide)]
   replace lo:=l0.same s'
   clear s' l0 kE kQ sB T0 H0 H24 E' Q'
   rw [m5]
   refine z0e fun M6 m6=>?_
   clear m5
   refine zga fun Y1 Z1 _ hZ1=>?_
   walk_at "rd15"
   refine⟨_,_,lo.ta.hx,z3c (by decide+kernel),o,od,ol,_,_,oy,R,0,rfl,lo.ta.hx,lo.ta.hl,lo.ta.dy,y05 _,by decide,fun q1 H26 v1 ms s26 f26 hq1 dq1 pm pw=>?_⟩
   obtain rfl:ms=[]:=pm.eq_nil
   refine⟨y05 _,fun q2 hq2=>?_⟩
   have s2:=z01 hq2 (HO.lst [])
   refine⟨true,z8f (ds:=[]) (z8g []) (SqL.of (s2 _ _ hq1)) (SqL.of z00) (dq1.kp s2.kp) .nil,?_⟩
   rw [if_neg (by decide),hZ1]
   replace lo:=lo.same (s26.trans s2)
   generalize upd H26 q2 (HO.lst [])=H27 at lo |-
   clear s2 s26 f26 hq1 hq2 dq1 pm pw hZ1 H26 H25
   walk_at "rd15"
   refine⟨_,_,lo.ta.hx,z3c (by decide+kernel),o,od,ol,_,_,_,b,oy,R,0,rfl,lo.ta.hx,lo.ta.hl,lo.dg,hok,lo.ta.dy,by omega,by omega,fun q1 v1 H28 s28 f28 hq1 dq1=>?_⟩
   replace lo:=lo.same s28
   refine⟨.ref r,_,b,rfl,lo.dg,hok,fun q2 H29 v2 s29 f29 hq2 dq2=>⟨q2,rfl,⟨_,SqL.of hq2⟩,zqr q5b rfl hq2 dq2 hspz fun zs q3 dz hq3=>?_⟩⟩
   have s3:=z01 hq3 (HO.lst zs)
   have e1:(((zab b).map (·.1)).filter fun p=>!((R.take 0).map (·.1)).contains p)=(zab b).map (·.1):=List.filter_eq_self.mpr fun _ _=>rfl
   rw [e1] at dq1
   refine⟨true,z8f (z8g _) (SqL.of (s3 _ _ (s29 _ _ hq1))) (SqL.of z00) (dq1.kp (s29.trans s3).kp) (dz.kp s3.kp),?_⟩
   replace lo:=lo.same (s29.trans s3)
   generalize upd H29 q3 (HO.lst zs)=H30 at lo |-
   clear s3 s28 s29 f28 f29 hq1 hq2 hq3 dq1 dq2 dz e1 H29 H28 H27
   rw [if_neg (by decide),m6]
   clear m6
   refine zst fun Y1 Z1 hY1 hZ1=>?_
   walk_at "rd15"
   refine⟨y05 _,fun q1 hq1=>?_⟩
   have s1:=z01 hq1 (HO.lst [])
   obtain⟨r0,rt,er0⟩:∃r0 rt,R.take 60=r0::rt:=by
    cases e:R.take 60 with
    | nil=>rw [e] at tkl; simp at tkl; omega
    | cons r0 rt=>exact⟨r0,rt,rfl⟩
   refine⟨false,⟨lr,q1,us,[],(R.take 60).map rowI,[],rfl,rfl,SqL.of (s1 _ _ lo.hr),SqL.of z00,lo.dr.kp s1.kp,.nil,(zb4 _).1,(z8g []).1,(zb4 _).2.1,(z8g []).2.1,?_⟩,?_⟩
   ·rw [er0]
    simp[zcj,PyData.eqv,PyData.eqvAll]
   replace lo:=lo.same s1
   generalize upd H30 q1 (HO.lst [])=H31 at lo |-
   rw [if_pos rfl,hY1]
   clear hY1 hZ1 Y1 Z1 s1 hq1 er0 H30
   refine z0e fun M7 m7=>?_
   walk_at "rd15"
   refine⟨⟨_,SqL.of lo.hr⟩,zvp rfl lo.hr lo.dr (by omega) (by rw [tkl]; exact hlast) fun zs q1 dz hq1=>?_⟩
   rw [hfil] at dz
   rw [yn] at dz
   obtain⟨fv,ft,rfl,dfv⟩:∃fv ft,zs=fv::ft/\Dt H31 fv (rowI (lrow.1,fi)):=by
    cases dz with
    | cons d _=>exact⟨_,_,rfl,d⟩
   have s1:=z01 hq1 (HO.lst (fv::ft))
   refine⟨q1,rfl,_,SqL.of z00,_,z1c,?_⟩
   replace lo:=lo.same s1
   replace dfv:=dfv.kp s1.kp
   generalize upd H31 q1 (HO.lst (fv::ft))=H32 at lo dfv |-
   rw [m7]
   clear m7 s1 dz hq1 H31
   refine zga fun Y1 Z1 _ hZ1=>?_
   walk_at "rd15"
   obtain⟨lv,hlv⟩:∃v,us[us.length - 1]?=some v:=⟨_,yb (by omega)⟩
   obtain⟨lr',hlr',dlr⟩:=z59 lo.dr hlv
   rw [show us.length - 1=m60 - 1 by omega,hlast] at hlr'
   cases hlr'
   obtain⟨la,l0,l1,rfl,hla,w0,wl⟩:=zie dlr
   obtain⟨fa,f0,f1,rfl,hfa,u0,u1⟩:=zie dfv
   cases u1
   have hj60:j < 60:=by
    have:=(List.getElem?_eq_some_iff.mp hj).1
    omega
   have hjR:R[j]?=some (lrow.1,fi):=by
    rw [y2g hj60] at hj
    exact hj
   have ch:=Ch.of (x:=o) (o:=.ins C od (trF (.ref r) wv ol ((j:Int)+1))) H32
   refine⟨_,_,lo.ta.hx,z3c (by decide+kernel),_,SqL.of lo.hr,_,zvy hlv,_,rfl,_,SqT.of hla,_,z1c,o,od,ol,_,_,l0,oy,R,0,j,lrow.1,fi,rfl,lo.ta.hx,lo.ta.hl,lo.ta.dy,w0,by omega,y05 _,hjR,fun m _ hm r' hr'=>hjn m hm r' (by rw [y2g (by omega)]; exact hr'),_,rfl,_,SqT.of (ch.get lo.ta.hx (by intro C dx fs z; cases z) hfa),_,z1b (j:=1) rfl,_,rfl,_,rfl,?_⟩
   rw [if_neg (by rw [decide_eq_true rfl]; decide),hZ1]
   replace dfv:=dfv.kp (ch.kp lo.ta.hx)
   replace lo:L13 pt C (.ref r) wv rows b R lr us pp [.ref o1,.ref o2] o od ol oy (j+1) z zd zl zy kz (upd H32 o (.ins C od (trF (.ref r) wv ol ((j:Int)+1)))):=lo.ch ch
   generalize upd H32 o (.ins C od (trF (.ref r) wv ol ((j:Int)+1)))=H33 at lo dfv |-
   clear ch hfa hla hlv w0 wl u0 dlr hZ1 H32
   walk_at "rd15"
   refine⟨_,_,lo.ta.hx,z3c (by decide+kernel),o,od,ol,_,_,oy,_,rfl,lo.ta.hx,lo.ta.hl,fun q1 hq1=>?_⟩
   have s1:=z01 hq1 (HO.tup [V.int ((j+1:Nat):Int),V.int (oy.length - ((j+1:Nat):Int))])
   replace lo:=lo.same s1
   refine⟨_,rfl,_,SqT.of z00,_,z1c,.inl ⟨rfl,_,SqL.of lo.hr⟩,_,lo.hr,_,lo.dr,_,dfv.kp s1.kp,j,hj,fun m hm hz=>hjn m hm _ hz rfl,by omega,_,rfl,?_⟩
   rw [if_neg (by rw [decide_eq_true (show((j+1:Nat):Int)=(j:Int)+1 from rfl)]; decide)]
   exact nxt _ _ ⟨_,_,_,rfl⟩ lo
  ·rintro σ Hc ⟨⟨t10,t11,t12,rfl⟩,_,_,h2⟩
   obtain⟨lq,qv,lz⟩:=fin _ _ (h2 rfl)
   show N10 _ _
   rw [e10]
   walk_at "rd15"
   refine⟨_,_,lz.ta.hx,z3c (by decide+kernel),x,dx,l,_,_,ys,_,rfl,lz.ta.hx,lz.ta.hl,fun q1 hq1=>?_⟩
   have s1:=z01 hq1 (HO.tup [V.int ((j+1:Nat):Int),V.int (ys.length - ((j+1:Nat):Int))])
   replace lz:=lz.same s1
   refine⟨_,_,lz.tb.hx,z3c (by decide+kernel),y,dy,l',_,_,ys',_,rfl,lz.tb.hx,lz.tb.hl,fun q2 hq2=>⟨true,zkq (d:=pathD [((j+1:Nat):Int),R.length - ((j+1:Nat):Int)]) (z4k _) (by decide) (.tup (z01 hq2 _ _ _ z00) (.cons (.int _) (.cons (by rw [lz.ta.len]; exact .int _) .nil))) (.tup z00 (.cons (.int _) (.cons (by rw [lz.tb.len]; exact .int _) .nil))),q _⟩⟩
 clear hV1
 walk_at "rd15"
 refine⟨a,ns,921,2,rfl,sq,by decide,by decide,fun i H16 i0 i1 s16=>⟨i,rfl,?_⟩⟩
 replace lt:=lt.same s16
 replace hp15:=s16 _ _ hp15
 by_cases hi:i=0
 ·rw [if_pos hi]
  exact key _ _ _ _ _ _ _ _ lp H16 ⟨lt.tm,lt.ta,lt.tb,lt.ne,lt.dg,lt.hr,lt.dr,hp15⟩ fun k Hz lz=>⟨_,_,lz⟩
 ·rw [if_neg hi]
  refine⟨_,SqL.of hp15,fun q1 hq1=>?_⟩
  replace lt:=(lt.same (z01 hq1 (HO.lst [V.ref x,V.ref y].reverse))).swap
  exact key _ _ _ _ _ _ _ _ q1 _ ⟨lt.tm,lt.ta,lt.tb,lt.ne,lt.dg,lt.hr,lt.dr,z00⟩ fun k Hz lz=>⟨_,_,lz.swap⟩
end
section
variable{P:yf}{w:yr}{K:y3}{mg:Str->Option y4}{base:Heap}{f:Addr}{fd:yq}
theorem q47{Rc a0 a1 a2 a3 a4 a5 C:Addr}{j:Nat}{wd:Str}(hx:PySem.W.exmOne K (.ref C) (.ref Rc)=some true)(e:ExcC K C)(h0:PySem.W.kitOne K (.ref C) (.ref a0)=some (decide (0=j)))(h1:PySem.W.kitOne K (.ref C) (.ref a1)=some (decide (1=j)))(h2:PySem.W.kitOne K (.ref C) (.ref a2)=some (decide (2=j)))(h3:PySem.W.kitOne K (.ref C) (.ref a3)=some (decide (3=j)))(h4:PySem.W.kitOne K (.ref C) (.ref a4)=some (decide (4=j)))(h5:PySem.W.kitOne K (.ref C) (.ref a5)=some (decide (5=j)))
  (hv:PySem.W.kitOne K (.ref C) (.type "ValueError")=some true) (hw:kinds6[j]?=some wd):zl3 K Rc [a0,a1,a2,a3,a4,a5] C wd:=by
 refine⟨hx,e,j,fun i a hi=>?_,hv,hw⟩
 match i,hi with
 | 0,hi=>cases hi; exact h0
 | 1,hi=>cases hi; exact h1
 | 2,hi=>cases hi; exact h2
 | 3,hi=>cases hi; exact h3
 | 4,hi=>cases hi; exact h4
 | 5,hi=>cases hi; exact h5
 | n+6,hi=>simp at hi
end
theorem q4c{K:y3}{a:Addr}{o:Option Addr}{its:Array y4}{n:Nat}{l:Array (Option y4)}{xs:List V} (h:K.lookup a=some ⟨.type "tuple",o,.seq its n,l⟩) (r:Vals xs its.toList) (hz:its.size<=sizeLine:=by decide):∀H,SqT K H a xs:=fun H=>.inr ⟨_,_,_,h,rfl,rfl,hz,r⟩
theorem us1{Pr:List y4->Prop}(h:∀a0,Pr [a0])(us:List y4)(l:us.length=1):Pr us:=by
 rcases us with _ | ⟨_,_ | ⟨_,_⟩⟩
 ·cases l
 ·exact h _
 ·cases l
theorem us2{Pr:List y4->Prop}(h:∀a0 a1,Pr [a0,a1])(us:List y4)(l:us.length=2):Pr us:=by
 rcases us with _ | ⟨_,_ | ⟨_,_ | ⟨_,_⟩⟩⟩
 ·cases l
 ·cases l
 ·exact h _ _
 ·cases l
theorem us3{Pr:List y4->Prop}(h:∀a0 a1 a2,Pr [a0,a1,a2])(us:List y4)(l:us.length=3):Pr us:=by
 rcases us with _ | ⟨_,_ | ⟨_,_ | ⟨_,_ | ⟨_,_⟩⟩⟩⟩
 ·cases l
 ·cases l
 ·cases l
 ·exact h _ _ _
 ·cases l
theorem us4{Pr:List y4->Prop}(h:∀a0 a1 a2 a3,Pr [a0,a1,a2,a3])(us:List y4)(l:us.length=4):Pr us:=by
 rcases us with _ | ⟨_,_ | ⟨_,_ | ⟨_,_ | ⟨_,_ | ⟨_,_⟩⟩⟩⟩⟩
 ·cases l
 ·cases l
 ·cases l
 ·cases l
 ·exact h _ _ _ _
 ·cases l
theorem us5{Pr:List y4->Prop}(h:∀a0 a1 a2 a3 a4,Pr [a0,a1,a2,a3,a4])(us:List y4)(l:us.length=5):Pr us:=by
 rcases us with _ | ⟨_,_ | ⟨_,_ | ⟨_,_ | ⟨_,_ | ⟨_,_ | ⟨_,_⟩⟩⟩⟩⟩⟩
 ·cases l
 ·cases l
 ·cases l
 ·cases l
 ·cases l
 ·exact h _ _ _ _ _
 ·cases l
def DfK(K:y3)(x:Str)(st:Stmt)(f:Addr):Prop:=∃oc od sl kV dc pm an cd ct,PySem.W.nsIn K mainGlobals x=some (some (.ref f))/\K.lookup f=some ⟨oc,od,.func (PySem.W.fnOf x x (defArgs st) (defBody st) (defScope st) .none kV dc pm an cd ct),sl⟩/\PySem.W.codeIn K cd x=true/\PySem.W.keepIn K (.ref f)=true
theorem DfK.df{K:y3}{h:Heap}{mg:Str->Option y4}{x:Str}{st:Stmt}{f:Addr}(D:DfK K x st f)(X:K.In h)(G:h.Ns mainGlobals mg)(ps:List Str)(hb:∀(kV doc pm:y4) (an:Option Addr) (cdv ct:y4) (us:List y4),us.length=ps.length->bindArgs (PySem.W.fnOf x x (defArgs st) (defBody st) (defScope st) .none kV doc pm an cdv ct) ⟨us,[]⟩=pure (ps.zip us)):∃fd,Df K mg x st ps f fd:=by
 obtain⟨_,_,_,_,_,_,_,_,_,a,l,c,k⟩:=D
 have F:=z9q l c k
 exact⟨_,F,y11 X G a,F.binds hb⟩
theorem q3u{l:PySem.W.OpenLaw}{w:yr}{K:y3}{h:Heap}{mg:Str->Option y4}{fa f0 f1 f2 f3 f4 f5 f6 f7 f8 f9 f10 f11 f12 f13 f14 f15 f16 f17 f18 f19 f20 f21 f22 f23 f24 f25 f26 f27 f28 f29:Addr}(X:K.In h)(G:h.Ns mainGlobals mg) (hfa:mg "law" = some (.ref fa))
  {od9 an9 od29 an29:Option Addr} {sl9 sl29:Array (Option y4)} {oc9 kV9 dc9 pm9 ct9 oc29 kV29 dc29 pm29 ct29:y4}
  {e9 e29:Addr} {t9 t29:Addr}
  {ai:Addr} {oi:Option Addr} {ni:Nat} {li:Array (Option y4)} {ti0 ti1:Tok} {a_RoomError a_NoWorths a_BadPaper a_BadPlan a_NoProgram a_NoText a_NoStep a_Trace:Addr}
  (d0:DfK K "spots" z4v f0)
  (d1:DfK K "is_whole" z4x f1)
  (d2:DfK K "is_whole_from" z29 f2)
  (d3:DfK K "is_tuple_of" z2i f3)
  (d4:DfK K "term_of" zcy f4)
  (d5:DfK K "blocks_of" z91 f5)
  (d6:DfK K "all_deeds" z6h f6)
  (d7:DfK K "deeds_of_block" z0c f7)
  (d8:DfK K "spots_of_term" z28 f8)
  (a9:PySem.W.nsIn K mainGlobals "traced" = some (some (.ref f9))) (l9:K.lookup f9=some ⟨oc9,od9,.func (PySem.W.fnOf "traced" "traced" (defArgs z2h) (defBody z2h) (defScope z2h) .none kV9 dc9 pm9 an9 (.ref e9) ct9),sl9⟩) (c9:PySem.W.codeIn K (.ref e9) "traced" = true) (k9:PySem.W.keepIn K (.ref f9)=true)
  (d10:DfK K "run_by" z3h f10)
  (d11:DfK K "settled" z6g f11)
  (d12:DfK K "names_at_first" z0j f12)
  (d13:DfK K "do_block" z1n f13)
  (d14:DfK K "do_deed" z3o f14)
  (d15:DfK K "do_set" z4g f15)
  (d16:DfK K "do_if" z5h f16)
  (d17:DfK K "do_while" z1m f17)
  (d18:DfK K "reckon" z30 f18)
  (d19:DfK K "worth_of" z45 f19)
  (d20:DfK K "_law_cell" z5w f20)
  (d21:DfK K "_law_pick" z3s f21)
  (d22:DfK K "_law_sum" z1w f22)
  (d23:DfK K "_law_counted" z0m f23)
  (d24:DfK K "_law_block" z0a f24)
  (d25:DfK K "_law_program" z0w f25)
  (d26:DfK K "_law_worths" z46 f26)
  (d27:DfK K "_law_class" z1k f27)
  (d28:DfK K "_law_told" z4w f28)
  (a29:PySem.W.nsIn K mainGlobals "law" = some (some (.ref f29))) (l29:K.lookup f29=some ⟨oc29,od29,.func (PySem.W.fnOf "law" "law" (defArgs z2d) (defBody z2d) (defScope z2d) .none kV29 dc29 pm29 an29 (.ref e29) ct29),sl29⟩) (c29:PySem.W.codeIn K (.ref e29) "law" = true) (k29:PySem.W.keepIn K (.ref f29)=true)
  (x_Trace:PySem.W.nsIn K mainGlobals "Trace" = some (some (.ref a_Trace)))
  {fm_Trace_init:Addr} {od_Trace_init an_Trace_init:Option Addr} {sl_Trace_init:Array (Option y4)} {oc_Trace_init kV_Trace_init dc_Trace_init pm_Trace_init cd_Trace_init ct_Trace_init:y4} (ma_Trace_init:PySem.W.findIn K (.ref a_Trace) "__init__" = some (some (.ref fm_Trace_init))) (ml_Trace_init:K.lookup fm_Trace_init=some ⟨oc_Trace_init,od_Trace_init,.func (PySem.W.fnOf "__init__" "Trace.__init__" (defArgs z26) (defBody z26) (defScope z26) .none kV_Trace_init dc_Trace_init pm_Trace_init an_Trace_init cd_Trace_init ct_Trace_init),sl_Trace_init⟩) (mc_Trace_init:PySem.W.codeIn K cd_Trace_init "Trace.__init__" = true) (mf_Trace_init:PySem.W.isFn K (.ref fm_Trace_init)=true) (mk_Trace_init:PySem.W.keepIn K (.ref fm_Trace_init)=true)
  {fm_Trace_go:Addr} {od_Trace_go an_Trace_go:Option Addr} {sl_Trace_go:Array (Option y4)} {oc_Trace_go kV_Trace_go dc_Trace_go pm_Trace_go cd_Trace_go ct_Trace_go:y4} (ma_Trace_go:PySem.W.findIn K (.ref a_Trace) "go" = some (some (.ref fm_Trace_go))) (ml_Trace_go:K.lookup fm_Trace_go=some ⟨oc_Trace_go,od_Trace_go,.func (PySem.W.fnOf "go" "Trace.go" (defArgs z38) (defBody z38) (defScope z38) .none kV_Trace_go dc_Trace_go pm_Trace_go an_Trace_go cd_Trace_go ct_Trace_go),sl_Trace_go⟩) (mc_Trace_go:PySem.W.codeIn K cd_Trace_go "Trace.go" = true) (mf_Trace_go:PySem.W.isFn K (.ref fm_Trace_go)=true) (mk_Trace_go:PySem.W.keepIn K (.ref fm_Trace_go)=true)
  {fm_Trace_back:Addr} {od_Trace_back an_Trace_back:Option Addr} {sl_Trace_back:Array (Option y4)} {oc_Trace_back kV_Trace_back dc_Trace_back pm_Trace_back cd_Trace_back ct_Trace_back:y4} (ma_Trace_back:PySem.W.findIn K (.ref a_Trace) "back" = some (some (.ref fm_Trace_back))) (ml_Trace_back:K.lookup fm_Trace_back=some ⟨oc_Trace_back,od_Trace_back,.func (PySem.W.fnOf "back" "Trace.back" (defArgs z2j) (defBody z2j) (defScope z2j) .none kV_Trace_back dc_Trace_back pm_Trace_back an_Trace_back cd_Trace_back ct_Trace_back),sl_Trace_back⟩) (mc_Trace_back:PySem.W.codeIn K cd_Trace_back "Trace.back" = true) (mf_Trace_back:PySem.W.isFn K (.ref fm_Trace_back)=true) (mk_Trace_back:PySem.W.keepIn K (.ref fm_Trace_back)=true)
  {fm_Trace_to:Addr} {od_Trace_to an_Trace_to:Option Addr} {sl_Trace_to:Array (Option y4)} {oc_Trace_to kV_Trace_to dc_Trace_to pm_Trace_to cd_Trace_to ct_Trace_to:y4} (ma_Trace_to:PySem.W.findIn K (.ref a_Trace) "to" = some (some (.ref fm_Trace_to))) (ml_Trace_to:K.lookup fm_Trace_to=some ⟨oc_Trace_to,od_Trace_to,.func (PySem.W.fnOf "to" "Trace.to" (defArgs z2e) (defBody z2e) (defScope z2e) .none kV_Trace_to dc_Trace_to pm_Trace_to an_Trace_to cd_Trace_to ct_Trace_to),sl_Trace_to⟩) (mc_Trace_to:PySem.W.codeIn K cd_Trace_to "Trace.to" = true) (mf_Trace_to:PySem.W.isFn K (.ref fm_Trace_to)=true) (mk_Trace_to:PySem.W.keepIn K (.ref fm_Trace_to)=true)
  {fm_Trace_passed:Addr} {od_Trace_passed an_Trace_passed:Option Addr} {sl_Trace_passed:Array (Option y4)} {oc_Trace_passed kV_Trace_passed dc_Trace_passed pm_Trace_passed cd_Trace_passed ct_Trace_passed:y4} (ma_Trace_passed:PySem.W.findIn K (.ref a_Trace) "passed" = some (some (.ref fm_Trace_passed))) (ml_Trace_passed:K.lookup fm_Trace_passed=some ⟨oc_Trace_passed,od_Trace_passed,.func (PySem.W.fnOf "passed" "Trace.passed" (defArgs z25) (defBody z25) (defScope z25) .none kV_Trace_passed dc_Trace_passed pm_Trace_passed an_Trace_passed cd_Trace_passed ct_Trace_passed),sl_Trace_passed⟩) (mc_Trace_passed:PySem.W.codeIn K cd_Trace_passed "Trace.passed" = true) (mf_Trace_passed:PySem.W.isFn K (.ref fm_Trace_passed)=true) (mk_Trace_passed:PySem.W.keepIn K (.ref fm_Trace_passed)=true)
  {fm_Trace_tally:Addr} {od_Trace_tally an_Trace_tally:Option Addr} {sl_Trace_tally:Array (Option y4)} {oc_Trace_tally kV_Trace_tally dc_Trace_tally pm_Trace_tally cd_Trace_tally ct_Trace_tally:y4} (ma_Trace_tally:PySem.W.findIn K (.ref a_Trace) "tally" = some (some (.ref fm_Trace_tally))) (ml_Trace_tally:K.lookup fm_Trace_tally=some ⟨oc_Trace_tally,od_Trace_tally,.func (PySem.W.fnOf "tally" "Trace.tally" (defArgs z16) (defBody z16) (defScope z16) .none kV_Trace_tally dc_Trace_tally pm_Trace_tally an_Trace_tally cd_Trace_tally ct_Trace_tally),sl_Trace_tally⟩) (mc_Trace_tally:PySem.W.codeIn K cd_Trace_tally "Trace.tally" = true) (mf_Trace_tally:PySem.W.isFn K (.ref fm_Trace_tally)=true) (mk_Trace_tally:PySem.W.keepIn K (.ref fm_Trace_tally)=true)
  {fm_Trace_unseen:Addr} {od_Trace_unseen an_Trace_unseen:Option Addr} {sl_Trace_unseen:Array (Option y4)} {oc_Trace_unseen kV_Trace_unseen dc_Trace_unseen pm_Trace_unseen cd_Trace_unseen ct_Trace_unseen:y4} (ma_Trace_unseen:PySem.W.findIn K (.ref a_Trace) "unseen" = some (some (.ref fm_Trace_unseen))) (ml_Trace_unseen:K.lookup fm_Trace_unseen=some ⟨oc_Trace_unseen,od_Trace_unseen,.func (PySem.W.fnOf "unseen" "Trace.unseen" (defArgs z1h) (defBody z1h) (defScope z1h) .none kV_Trace_unseen dc_Trace_unseen pm_Trace_unseen an_Trace_unseen cd_Trace_unseen ct_Trace_unseen),sl_Trace_unseen⟩) (mc_Trace_unseen:PySem.W.codeIn K cd_Trace_unseen "Trace.unseen" = true) (mf_Trace_unseen:PySem.W.isFn K (.ref fm_Trace_unseen)=true) (mk_Trace_unseen:PySem.W.keepIn K (.ref fm_Trace_unseen)=true)
  {fm_Trace_ground:Addr} {od_Trace_ground an_Trace_ground:Option Addr} {sl_Trace_ground:Array (Option y4)} {oc_Trace_ground kV_Trace_ground dc_Trace_ground pm_Trace_ground cd_Trace_ground ct_Trace_ground:y4} (ma_Trace_ground:PySem.W.findIn K (.ref a_Trace) "ground" = some (some (.ref fm_Trace_ground))) (ml_Trace_ground:K.lookup fm_Trace_ground=some ⟨oc_Trace_ground,od_Trace_ground,.func (PySem.W.fnOf "ground" "Trace.ground" (defArgs z2l) (defBody z2l) (defScope z2l) .none kV_Trace_ground dc_Trace_ground pm_Trace_ground an_Trace_ground cd_Trace_ground ct_Trace_ground),sl_Trace_ground⟩) (mc_Trace_ground:PySem.W.codeIn K cd_Trace_ground "Trace.ground" = true) (mf_Trace_ground:PySem.W.isFn K (.ref fm_Trace_ground)=true) (mk_Trace_ground:PySem.W.keepIn K (.ref fm_Trace_ground)=true)
  {fm_Trace_twin:Addr} {od_Trace_twin an_Trace_twin:Option Addr} {sl_Trace_twin:Array (Option y4)} {oc_Trace_twin kV_Trace_twin dc_Trace_twin pm_Trace_twin cd_Trace_twin ct_Trace_twin:y4} (ma_Trace_twin:PySem.W.findIn K (.ref a_Trace) "twin" = some (some (.ref fm_Trace_twin))) (ml_Trace_twin:K.lookup fm_Trace_twin=some ⟨oc_Trace_twin,od_Trace_twin,.func (PySem.W.fnOf "twin" "Trace.twin" (defArgs z24) (defBody z24) (defScope z24) .none kV_Trace_twin dc_Trace_twin pm_Trace_twin an_Trace_twin cd_Trace_twin ct_Trace_twin),sl_Trace_twin⟩) (mc_Trace_twin:PySem.W.codeIn K cd_Trace_twin "Trace.twin" = true) (mf_Trace_twin:PySem.W.isFn K (.ref fm_Trace_twin)=true) (mk_Trace_twin:PySem.W.keepIn K (.ref fm_Trace_twin)=true)
  (z_enumerate:PySem.W.nsIn K mainGlobals "enumerate" = some none)
  (z_sorted:PySem.W.nsIn K mainGlobals "sorted" = some none)
  (z_len:PySem.W.nsIn K mainGlobals "len" = some none)
  (z_max:PySem.W.nsIn K mainGlobals "max" = some none)
  (z_min:PySem.W.nsIn K mainGlobals "min" = some none)
  (z_dict:PySem.W.nsIn K mainGlobals "dict" = some none)
  (z_tuple:PySem.W.nsIn K mainGlobals "tuple" = some none)
  (z_range:PySem.W.nsIn K mainGlobals "range" = some none)
  (z_isinstance:PySem.W.nsIn K mainGlobals "isinstance" = some none)
  (z_int:PySem.W.nsIn K mainGlobals "int" = some none)
  (z_bool:PySem.W.nsIn K mainGlobals "bool" = some none)
  (z_zip:PySem.W.nsIn K mainGlobals "zip" = some none)
  (z_ValueError:PySem.W.nsIn K mainGlobals "ValueError" = some none)
  (pw:PySem.W.nsIn K mainGlobals "WIDE" = some (some (.ref ai)))
  (ph:K.lookup ai=some ⟨.type "tuple",oi,.seq #[.int (-32768) ti0,.int 32767 ti1] ni,li⟩)
  (x_RoomError:PySem.W.nsIn K mainGlobals "RoomError" = some (some (.ref a_RoomError)))
  (x_NoWorths:PySem.W.nsIn K mainGlobals "NoWorths" = some (some (.ref a_NoWorths)))
  (x_BadPaper:PySem.W.nsIn K mainGlobals "BadPaper" = some (some (.ref a_BadPaper)))
  (x_BadPlan:PySem.W.nsIn K mainGlobals "BadPlan" = some (some (.ref a_BadPlan)))
  (x_NoProgram:PySem.W.nsIn K mainGlobals "NoProgram" = some (some (.ref a_NoProgram)))
  (x_NoText:PySem.W.nsIn K mainGlobals "NoText" = some (some (.ref a_NoText)))
  (x_NoStep:PySem.W.nsIn K mainGlobals "NoStep" = some (some (.ref a_NoStep)))
  (q_NoStep:PySem.W.excIn K a_NoStep q4p "ValueError.__new__" = true)
  (xw_NoStep:zl3 K a_RoomError [a_BadPaper,a_BadPlan,a_NoProgram,a_NoStep,a_NoText,a_NoWorths] a_NoStep "no step")
  (t_Trace:TrC K a_Trace)
  (mk_Trace:PySem.W.makesIn K a_Trace=true)
  (kp_Trace:PySem.W.keepIn K (.ref a_Trace)=true)
  (n929:t9≠t29)
  : ∃fd:yq,(∀(s:y9) (v:y4),BindsTo s fd ⟨[v],[]⟩ [("_law_script",v)])/\∀base:Heap,K.In base->base.Ns mainGlobals mg->q3w mg base [(e9,t9),(e29,t29)]->FnOk l.prog w K mg base CX0 27 fa fd ["_law_script"] (zwe K t9 t29):=by
 have e:=hfa.symm.trans (y11 X G a29)
 cases e
 obtain⟨_,d_spots⟩:=d0.df X G ["program"] fun _ _ _ _ _ _=>us1 fun _=>rfl
 have F_spots:=d_spots.F
 obtain⟨_,d_is_whole⟩:=d1.df X G ["thing"] fun _ _ _ _ _ _=>us1 fun _=>rfl
 have F_is_whole:=d_is_whole.F
 obtain⟨_,d_is_whole_from⟩:=d2.df X G ["thing","low","high"] fun _ _ _ _ _ _=>us3 fun _ _ _=>rfl
 have F_is_whole_from:=d_is_whole_from.F
 obtain⟨_,d_is_tuple_of⟩:=d3.df X G ["thing","many"] fun _ _ _ _ _ _=>us2 fun _ _=>rfl
 have F_is_tuple_of:=d_is_tuple_of.F
 obtain⟨_,d_term_of⟩:=d4.df X G ["deed"] fun _ _ _ _ _ _=>us1 fun _=>rfl
 have F_term_of:=d_term_of.F
 obtain⟨_,d_blocks_of⟩:=d5.df X G ["deed"] fun _ _ _ _ _ _=>us1 fun _=>rfl
 have F_blocks_of:=d_blocks_of.F
 obtain⟨_,d_all_deeds⟩:=d6.df X G ["program"] fun _ _ _ _ _ _=>us1 fun _=>rfl
 have F_all_deeds:=d_all_deeds.F
 obtain⟨_,d_deeds_of_block⟩:=d7.df X G ["block","path"] fun _ _ _ _ _ _=>us2 fun _ _=>rfl
 have F_deeds_of_block:=d_deeds_of_block.F
 obtain⟨_,d_spots_of_term⟩:=d8.df X G ["term","path"] fun _ _ _ _ _ _=>us2 fun _ _=>rfl
 have F_spots_of_term:=d_spots_of_term.F
 have F_traced:=z9q (st:=z2h) l9 c9 k9
 have B_traced:=F_traced.binds (ps:=["program","worths"]) fun _ _ _ _ _ _=>us2 fun _ _=>rfl
 have d_traced:Df K mg "traced" z2h ["program","worths"] f9 _:=⟨F_traced,y11 X G a9,B_traced⟩
 obtain⟨_,d_run_by⟩:=d10.df X G ["program","worths","settle"] fun _ _ _ _ _ _=>us3 fun _ _ _=>rfl
 have F_run_by:=d_run_by.F
 obtain⟨_,d_settled⟩:=d11.df X G ["worth","path","rows"] fun _ _ _ _ _ _=>us3 fun _ _ _=>rfl
 have F_settled:=d_settled.F
 obtain⟨_,d_names_at_first⟩:=d12.df X G ["ins","worths"] fun _ _ _ _ _ _=>us2 fun _ _=>rfl
 have F_names_at_first:=d_names_at_first.F
 obtain⟨_,d_do_block⟩:=d13.df X G ["block","path","names","settle"] fun _ _ _ _ _ _=>us4 fun _ _ _ _=>rfl
 have F_do_block:=d_do_block.F
 obtain⟨_,d_do_deed⟩:=d14.df X G ["deed","path","names","settle"] fun _ _ _ _ _ _=>us4 fun _ _ _ _=>rfl
 have F_do_deed:=d_do_deed.F
 obtain⟨_,d_do_set⟩:=d15.df X G ["deed","path","names","settle"] fun _ _ _ _ _ _=>us4 fun _ _ _ _=>rfl
 have F_do_set:=d_do_set.F
 obtain⟨_,d_do_if⟩:=d16.df X G ["deed","path","names","settle"] fun _ _ _ _ _ _=>us4 fun _ _ _ _=>rfl
 have F_do_if:=d_do_if.F
 obtain⟨_,d_do_while⟩:=d17.df X G ["deed","path","names","settle"] fun _ _ _ _ _ _=>us4 fun _ _ _ _=>rfl
 have F_do_while:=d_do_while.F
 obtain⟨_,d_reckon⟩:=d18.df X G ["term","path","names","settle"] fun _ _ _ _ _ _=>us4 fun _ _ _ _=>rfl
 have F_reckon:=d_reckon.F
 obtain⟨_,d_worth_of⟩:=d19.df X G ["word","one","other"] fun _ _ _ _ _ _=>us3 fun _ _ _=>rfl
 have F_worth_of:=d_worth_of.F
 obtain⟨_,d_law_cell⟩:=d20.df X G ["_law_script","_law_k"] fun _ _ _ _ _ _=>us2 fun _ _=>rfl
 have F_law_cell:=d_law_cell.F
 obtain⟨_,d_law_pick⟩:=d21.df X G ["_law_script","_law_k","_law_many"] fun _ _ _ _ _ _=>us3 fun _ _ _=>rfl
 have F_law_pick:=d_law_pick.F
 obtain⟨_,d_law_sum⟩:=d22.df X G ["_law_script","_law_at","_law_known","_law_deep"] fun _ _ _ _ _ _=>us4 fun _ _ _ _=>rfl
 have F_law_sum:=d_law_sum.F
 obtain⟨_,d_law_counted⟩:=d23.df X G ["_law_script","_law_at","_law_known","_law_body","_law_deep"] fun _ _ _ _ _ _=>us5 fun _ _ _ _ _=>rfl
 have F_law_counted:=d_law_counted.F
 obtain⟨_,d_law_block⟩:=d24.df X G ["_law_script","_law_at","_law_known","_law_deep"] fun _ _ _ _ _ _=>us4 fun _ _ _ _=>rfl
 have F_law_block:=d_law_block.F
 obtain⟨_,d_law_program⟩:=d25.df X G ["_law_script","_law_at"] fun _ _ _ _ _ _=>us2 fun _ _=>rfl
 have F_law_program:=d_law_program.F
 obtain⟨_,d_law_worths⟩:=d26.df X G ["_law_script","_law_at","_law_program_here"] fun _ _ _ _ _ _=>us3 fun _ _ _=>rfl
 have F_law_worths:=d_law_worths.F
 obtain⟨_,d_law_class⟩:=d27.df X G ["_law_kept"] fun _ _ _ _ _ _=>us1 fun _=>rfl
 have F_law_class:=d_law_class.F
 obtain⟨_,d_law_told⟩:=d28.df X G ["_law_deed"] fun _ _ _ _ _ _=>us1 fun _=>rfl
 have F_law_told:=d_law_told.F
 have F_law:=z9q (st:=z2d) l29 c29 k29
 have F_Trace_init:=z9q (st:=z26) ml_Trace_init mc_Trace_init mk_Trace_init
 have B_Trace_init:=F_Trace_init.binds (ps:=["self","program","worths"]) fun _ _ _ _ _ _=>us3 fun _ _ _=>rfl
 have F_Trace_go:=z9q (st:=z38) ml_Trace_go mc_Trace_go mk_Trace_go
 have B_Trace_go:=F_Trace_go.binds (ps:=["self"]) fun _ _ _ _ _ _=>us1 fun _=>rfl
 have F_Trace_back:=z9q (st:=z2j) ml_Trace_back mc_Trace_back mk_Trace_back
 have B_Trace_back:=F_Trace_back.binds (ps:=["self"]) fun _ _ _ _ _ _=>us1 fun _=>rfl
 have F_Trace_to:=z9q (st:=z2e) ml_Trace_to mc_Trace_to mk_Trace_to
 have B_Trace_to:=F_Trace_to.binds (ps:=["self","path"]) fun _ _ _ _ _ _=>us2 fun _ _=>rfl
 have F_Trace_passed:=z9q (st:=z25) ml_Trace_passed mc_Trace_passed mk_Trace_passed
 have B_Trace_passed:=F_Trace_passed.binds (ps:=["self"]) fun _ _ _ _ _ _=>us1 fun _=>rfl
 have F_Trace_tally:=z9q (st:=z16) ml_Trace_tally mc_Trace_tally mk_Trace_tally
 have B_Trace_tally:=F_Trace_tally.binds (ps:=["self"]) fun _ _ _ _ _ _=>us1 fun _=>rfl
 have F_Trace_unseen:=z9q (st:=z1h) ml_Trace_unseen mc_Trace_unseen mk_Trace_unseen
 have B_Trace_unseen:=F_Trace_unseen.binds (ps:=["self"]) fun _ _ _ _ _ _=>us1 fun _=>rfl
 have F_Trace_ground:=z9q (st:=z2l) ml_Trace_ground mc_Trace_ground mk_Trace_ground
 have B_Trace_ground:=F_Trace_ground.binds (ps:=["self"]) fun _ _ _ _ _ _=>us1 fun _=>rfl
 have F_Trace_twin:=z9q (st:=z24) ml_Trace_twin mc_Trace_twin mk_Trace_twin
 have B_Trace_twin:=F_Trace_twin.binds (ps:=["self"]) fun _ _ _ _ _ _=>us1 fun _=>rfl
 have b_enumerate:=y0e X G z_enumerate
 have b_sorted:=y0e X G z_sorted
 have b_len:=y0e X G z_len
 have b_max:=y0e X G z_max
 have b_min:=y0e X G z_min
 have b_dict:=y0e X G z_dict
 have b_tuple:=y0e X G z_tuple
 have b_range:=y0e X G z_range
 have b_isinstance:=y0e X G z_isinstance
 have b_int:=y0e X G z_int
 have b_bool:=y0e X G z_bool
 have b_zip:=y0e X G z_zip
 have b_ValueError:=y0e X G z_ValueError
 refine⟨PySem.W.fnOf "law" "law" (defArgs z2d) (defBody z2d) (defScope z2d) .none kV29 dc29 pm29 an29 (.ref e29) ct29,fun s v=>.of_eq rfl,fun base _ _ hTB=>?_⟩
 have FC_traced:FunC K "traced" "traced" z2h f9 _ e9:=⟨⟨_,_,_,_,_,_,_,_,rfl,l9,c9⟩,k9⟩
 obtain⟨tc_traced,tb_traced,tg_traced⟩:=hTB (e9,t9) (.head _)
 have FC_law:FunC K "law" "law" z2d fa _ e29:=⟨⟨_,_,_,_,_,_,_,_,rfl,l29,c29⟩,k29⟩
 obtain⟨tc_law,tb_law,tg_law⟩:=hTB (e29,t29) (.tail _ (.head _))
 have g_WIDE:GC mg "WIDE" (.ref ai):=⟨_,y11 X G pw,rfl⟩
 have hI:∀H,SqT K H ai [.int (-32768),.int 32767]:=q4c ph (.cons ⟨_,rfl⟩ (.cons ⟨_,rfl⟩ .nil)) (show(2:Nat)<=sizeLine by decide)
 have c_iw:=d_is_whole.callee (zoj (P:=l.prog) (w:=w) (base:=base) F_is_whole b_isinstance b_int b_bool)
 have c_if:=d_is_whole_from.callee (zfj F_is_whole_from c_iw)
 have c_it:=d_is_tuple_of.callee (zim (P:=l.prog) (w:=w) (base:=base) F_is_tuple_of b_isinstance b_len b_tuple)
 have c_nf:=d_names_at_first.callee (zed F_names_at_first b_len b_zip c_it c_if)
 have c_se:=d_settled.callee (zrl (P:=l.prog) (w:=w) (base:=base) F_settled g_WIDE hI)
 have c_wo:=d_worth_of.callee (zoh (P:=l.prog) (w:=w) (base:=base) F_worth_of b_min b_max)
 have c_re:=zja d_reckon c_wo c_se 5
 have c_do:=zw1 d_do_block d_do_deed d_do_set d_do_if d_do_while b_enumerate c_re 4
 have c_rb:=d_run_by.callee (ztw F_run_by b_sorted b_tuple c_nf c_do)
 have c_tr:=d_traced.callee (ztv FC_traced tc_traced tb_traced tg_traced c_rb)
 have c_cell:=d_law_cell.callee (q04 (P:=l.prog) (w:=w) (base:=base) F_law_cell b_len)
 have c_pick:=d_law_pick.callee (q03 F_law_pick c_cell)
 have c_sum:=zw0 d_law_sum b_len c_pick 3
 have c_cnt:=d_law_counted.callee (zro F_law_counted b_len c_pick c_sum)
 have c_blk:=zne d_law_block b_range b_tuple c_pick c_sum c_cnt 3
 have c_prg:=d_law_program.callee (zrm F_law_program b_range b_tuple c_pick c_blk)
 have c_ws:=d_law_worths.callee (zk6 F_law_worths b_tuple b_enumerate c_pick)
 have c_to:=d_term_of.callee (zrk (P:=l.prog) (w:=w) (base:=base) F_term_of)
 have c_bo:=d_blocks_of.callee (zm1 (P:=l.prog) (w:=w) (base:=base) F_blocks_of)
 have c_st:=znd (P:=l.prog) (w:=w) (base:=base) d_spots_of_term 5
 have c_db:=zf5 d_deeds_of_block b_enumerate c_bo 3
 have c_ad:=d_all_deeds.callee (zm2 F_all_deeds c_db)
 have c_sp:=d_spots.callee (zwz F_spots c_ad c_st c_to)
 have ch:=(⟨_,_,zm0 (P:=l.prog) (w:=w) (base:=base) F_law_class b_isinstance b_ValueError (y11 X G x_NoWorths) (y11 X G x_BadPaper) (y11 X G x_BadPlan) (y11 X G x_NoProgram) (y11 X G x_NoText) (y11 X G x_NoStep),d_law_class.m,d_law_class.F.kp,d_law_class.b⟩:CalleeH l.prog w K mg base "_law_class" ["_law_kept"] 1 _)
 have c_td:=d_law_told.callee (zoi F_law_told (y11 X G x_RoomError) ch)
 have i_init:CalleeI l.prog w K mg base a_Trace _ 23 _:=⟨_,_,zk8 F_Trace_init t_Trace c_tr,⟨mk_Trace,ma_Trace_init,mf_Trace_init,kp_Trace⟩,B_Trace_init⟩
 have x_back:CalleeMX l.prog w K mg base a_Trace "back" _ 1 _:=⟨_,_,zin (P:=l.prog) (w:=w) (base:=base) F_Trace_back x_NoStep q_NoStep t_Trace,⟨ma_Trace_back,mf_Trace_back,mk_Trace_back⟩,B_Trace_back⟩
 have x_go:CalleeMX l.prog w K mg base a_Trace "go" _ 1 _:=⟨_,_,zm3 (P:=l.prog) (w:=w) (base:=base) F_Trace_go b_len x_NoStep q_NoStep t_Trace,⟨ma_Trace_go,mf_Trace_go,mk_Trace_go⟩,B_Trace_go⟩
 have n_back:CalleeM l.prog w K mg base a_Trace "back" _ 1 _:=⟨_,_,zk9 (P:=l.prog) (w:=w) (base:=base) F_Trace_back t_Trace,⟨ma_Trace_back,mf_Trace_back,mk_Trace_back⟩,B_Trace_back⟩
 have n_to:CalleeM l.prog w K mg base a_Trace "to" _ 1 _:=⟨_,_,zom (P:=l.prog) (w:=w) (base:=base) F_Trace_to b_len b_range t_Trace,⟨ma_Trace_to,mf_Trace_to,mk_Trace_to⟩,B_Trace_to⟩
 have n_passed:CalleeM l.prog w K mg base a_Trace "passed" _ 1 _:=⟨_,_,zh3 (P:=l.prog) (w:=w) (base:=base) F_Trace_passed b_len t_Trace,⟨ma_Trace_passed,mf_Trace_passed,mk_Trace_passed⟩,B_Trace_passed⟩
 have n_unseen:CalleeM l.prog w K mg base a_Trace "unseen" _ 8 _:=⟨_,_,zh1 F_Trace_unseen b_dict t_Trace c_sp,⟨ma_Trace_unseen,mf_Trace_unseen,mk_Trace_unseen⟩,B_Trace_unseen⟩
 have n_go:CalleeM l.prog w K mg base a_Trace "go" _ 1 _:=⟨_,_,zon (P:=l.prog) (w:=w) (base:=base) F_Trace_go b_len t_Trace,⟨ma_Trace_go,mf_Trace_go,mk_Trace_go⟩,B_Trace_go⟩
 have n_tally:CalleeM l.prog w K mg base a_Trace "tally" _ 1 _:=⟨_,_,zh2 (P:=l.prog) (w:=w) (base:=base) F_Trace_tally b_sorted t_Trace,⟨ma_Trace_tally,mf_Trace_tally,mk_Trace_tally⟩,B_Trace_tally⟩
 have n_ground:CalleeM l.prog w K mg base a_Trace "ground" _ 1 _:=⟨_,_,zh4 (P:=l.prog) (w:=w) (base:=base) F_Trace_ground t_Trace,⟨ma_Trace_ground,mf_Trace_ground,mk_Trace_ground⟩,B_Trace_ground⟩
 have n_twin:CalleeM l.prog w K mg base a_Trace "twin" _ 25 _:=⟨_,_,zk7 F_Trace_twin t_Trace (y11 X G x_Trace) i_init,⟨ma_Trace_twin,mf_Trace_twin,mk_Trace_twin⟩,B_Trace_twin⟩
 exact q2m n929 FC_law tc_law tb_law tg_law t_Trace (y11 X G x_Trace) xw_NoStep b_len b_min b_range c_prg c_pick c_ws c_td c_tr c_sp i_init x_back x_go n_go n_back n_to n_passed n_tally n_unseen n_ground n_twin
theorem q5f{l:PySem.W.OpenLaw}{q:yf}{loose:List Str}{XP:(Str->Option y4)->Heap->Prop}{YP:yr->Heap->Prop}{d:DefRec}{K:Params->y3}(e9 t9 e29 t29:Addr)(hn:l.most=some 63)(hdf:d.params.defaults=[])
  (hY:∀(w:yr) (h:Heap),YP w h->(K w.params).In h) (hK:∀w:yr,PySem.W.noTabs (K w.params)=true) (hrec:∀t∈([("traced",e9,t9),("law",e29,t29)]:List (Str×Addr×Addr)),∃e,(PyProof.Rows.recsOf q).find? (fun e=>e.name == t.1)=some e) (htab:∀(w:yr),∀t∈([("traced",e9,t9),("law",e29,t29)]:List (Str×Addr×Addr)),PySem.W.tabIn (K w.params) t.1=some (t.2.1,t.2.2))
  (F:∀(w:yr) (mg:Str->Option y4) (fa:Addr) (h:Heap),(K w.params).In h->h.Ns mainGlobals mg->mg d.name=some (.ref fa)->
   ∃fd:yq,(∀(s:y9) (u:y4),BindsTo s fd ⟨[u],[]⟩ [("_law_script",u)])/\∀base:Heap,(K w.params).In base->base.Ns mainGlobals mg->q3w mg base [(e9,t9),(e29,t29)]->FnOk l.prog w (K w.params) mg base CX0 27 fa fd ["_law_script"] (zwe (K w.params) t9 t29)) :
  PySem.W.WalkO q loose XP YP l.row.toRowW d [] (fun f vs=>PySem.call f vs):=
 L2.zw8 (n:=63) (k:=27) (x:="_law_script") (sp:=fun w=>zwe (K w.params) t9 t29) (tabs:=[("traced",e9,t9),("law",e29,t29)]) hn (by decide) hdf ⟨rfl,by decide,by decide⟩ hY hK hrec htab F (fun _ _ a ns hl hO hS=>⟨a,ns,rfl,hS,hl,hO _ (.head _),hO _ (.tail _ (.head _)),fun _=>rfl⟩)
end SR
namespace PySem.W.Fast
def tw13950666667944691746:=0
def tw4126576021527227571:=0
def tw6736686829331374211:=0
def tw7105566822364313624:=0
def tw17595139674534117323:=0
def tw8561511765899643916:=0
def tw6603548563198408738:=0
def tw17121349161127111281:=0
def tw11929114892425249346:=0
def tw12528378484613306595:=0
def tw16708081402749189950:=0
def tw10203058195771756650:=0
def tw12004094369362878847:=0
def tw6920506013385517413:=0
def tw3320582340949118444:=0
def tw4755166674905343254:=0
def tw934225042232286805:=0
def tw9224001119603361273:=0
def tw812054923964759340:=0
def tw17250046926513010719:=0
def tw8822372242461081429:=0
def tw13237998028480768006:=0
def tw3410358907742596780:=0
def tw3020365687937020693:=0
def tw1293075185449208383:=0
def tw17560403647667957591:=0
def tw16803627338742665937:=0
def tw6688365428855952612:=0
def tw15231686112545936576:=0
def tw10897341871591572805:=0
def tw13351139684983779355:=0
def tw17827714241339401813:=0
def tw4896440107305573185:=0
def tw4809097172708577171:=0
def tw2416272224522254946:=0
def tw12060592334141076275:=0
def tw15462594982672847079:=0
def tw14097443957030134836:=0
def tw11592585124888042817:=0
def tw4686172289425858366:=0
def tw4808090004331118913:=0
def tw15002931915834650285:=0
def tw17154192114369082483:=0
def tw15398134273101011622:=0
def tw6456341409372617077:=0
def tw11432888002986366989:=0
def tw6914447712569389179:=0
def tw12037041175439598950:=0
def tw17357096943965015263:=0
def tw10955740478937300430:=0
def tw6617877174454020932:=0
def tw3872627625387010154:=0
def tw13694476802945486290:=0
def tw17429201409154458746:=0
def tw2829946505022142115:=0
def tw13043704458688584835:=0
def tw5511335409352460683:=0
def tw2463340135406747414:=0
def tw13761175495776036725:=0
def tw8333155190943701127:=0
def tw8403188706918840353:=0
def tw13569347334422127476:=0
def tw15423445272663137699:=0
def tw4148826842892604064:=0
def tw8143183396873281731:=0
def tw16943351325499716144:=0
def tw4701804784046535888:=0
def tw4876973350351749073:=0
def tw17062275432834904195:=0
def tw14642598168627355107:=0
def tw3965464620175921404:=0
def tw13064108979137394122:=0
def tw10963942212853614581:=0
def tw11561359839173283944:=0
def tw12306919475115549553:=0
def tw15443377470969045339:=0
def tw3025267109322260624:=0
def tw13698287250943647959:=0
def tw6526400027887207467:=0
def tw12743617482045597146:=0
def tw15382913926792359278:=0
def tw7419705798149365977:=0
def tw2817135015874879296:=0
def tw5716873867458917303:=0
def tw18315042077356728462:=0
def tw4627951557840778582:=0
def tw11525199289444849634:=0
def tw3570229441486867134:=0
def tw12691265987513996744:=0
def tw9830876286581488723:=0
def tw2337539925580933602:=0
def tw7254694765861463261:=0
def tw11021932869304995210:=0
def tw8541591111348130360:=0
def tw8822991044439866326:=0
def tw5809412705800753918:=0
def tw957394445071160164:=0
def tw14100162919983293124:=0
def tw15010986774812703098:=0
def tw3612450495774527129:=0
def tw8006837794925981712:=0
def tw5446891105083062378:=0
def tw239684302395024682:=0
def tw12851448374859686731:=0
def tw1346473410678542599:=0
def tw14788424978137828158:=0
def tw8340692550135374895:=0
def tw2077110468254434438:=0
def tw15412835675272876336:=0
def tw1305323569444668496:=0
def tw7060333151598644655:=0
def tw12439852235641861661:=0
def tw15714264910228765421:=0
def tw16073850092456471256:=0
def tw807728133969613623:=0
def tw5256048546848102017:=0
def tw1311842410759275029:=0
def tw4389216664085229490:=0
def tw889219596700564487:=0
def tw6474043492173815138:=0
def tw4991156556839828737:=0
def tw7974646270025393488:=0
def tw1897502984949756033:=0
def tw302647028538615365:=0
def tw2225352396768308094:=0
def tw7646019950828573333:=0
def tw16846023228388007861:=0
def tw11529657610810615544:=0
def tw13202894782271954560:=0
def tw15164191241906740719:=0
def tw4293173640104025693:=0
def tw1925505072476752373:=0
def tw16707068489532820345:=0
def tw3520180987818099547:=0
def tw18435333540434454581:=0
def tw229105153885265774:=0
def tw14369950511992273487:=0
def tw14180629059247012383:=0
def tw16222194319595288595:=0
def tw16146878790115632701:=0
def tw14696206809154598035:=0
def tw4387804834691599869:=0
def tw14843983370116510143:=0
def tw4861950100180193126:=0
def tw6027581698778024054:=0
def tw10060004425979046606:=0
def tw7102352818202668403:=0
def tw17953530502855881357:=0
def tw13074240232267709136:=0
def tw7300841050316175248:=0
def tw8938732383178803540:=0
def tw14571950619115968987:=0
def tw6702543355661527369:=0
def tw17977953216069402993:=0
def tw10276755616248398191:=0
def tw7620390204011513842:=0
def tw13406428462018668823:=0
def tw1968450540303787774:=0
def tw3881834466652424548:=0
def tw6251225053788358056:=0
def tw6518961367820252646:=0
def tw4438670203573638178:=0
def tw5525623089825866250:=0
def tw11476753780134351807:=0
def tw15514313593884932452:=0
def tw3974334940821819249:=0
def tw5541193078824819998:=0
def tw15891999653684977241:=0
def tw1491819216585364035:=0
def tw13491300997518474931:=0
def tw15117846083843052183:=0
def tw7487497668060360192:=0
def tw13533655672115697304:=0
def tw8454216123306191881:=0
def tw13575664663785711783:=0
def tw14943879501266173997:=0
def tw16730421891813170782:=0
def tw2352968859569333959:=0
def tw7794267183195025906:=0
def tw6526712203624678869:=0
def tw8381070971170628492:=0
def tw11016641833377028702:=0
def tw4798743069674773802:=0
def tw13229931473362470494:=0
def tw14279465897413471759:=0
def tw15668156574498553826:=0
def tw12501079283618089915:=0
def tw17273158741654693049:=0
def tw17308286268451366566:=0
def tw9431983046161774352:=0
def tw2194860575697829721:=0
def tw9843272058168070309:=0
def tw2392628167558562430:=0
def tw8195453719887896954:=0
def tw3221654396273264528:=0
def tw11857756249214558459:=0
def tw14220832277612061452:=0
def tw18274944846548693719:=0
def tw12614553517603527765:=0
def tw2824450239676337057:=0
def tw5970753287797628716:=0
def tw10246492446310811249:=0
def tw16153315091597122535:=0
def tw13540173577681421350:=0
def tw16314880089137829075:=0
def tw6758337241679633670:=0
def tw11942509627306409026:=0
def tw17675338956559066537:=0
def tw17900411834376054508:=0
def tw11526533068162182958:=0
def tw12882225515296665043:=0
def tw12023019543262522527:=0
def tw4443844007101329116:=0
def tw611288587331395983:=0
def tw3431055817517859466:=0
def tw16774380850715202102:=0
def tw7959229540172407954:=0
def tw13198686635365832448:=0
def tw16534568803780681237:=0
def tw10295951772385482355:=0
def tw16491548638028122463:=0
def tw15207083697696921453:=0
def tw17726561820890639928:=0
def tw10859739669490524967:=0
def tw6553726415974442422:=0
def tw6942505322203721970:=0
def tw9787977252284481236:=0
def tw4404475527352745246:=0
def tw14583523385803732228:=0
def tw18087826524249685523:=0
def tw2578198982404270188:=0
def tw2738711348902734031:=0
def tw5104638305361291206:=0
def tw3965772798147810545:=0
def tw15784406509248335812:=0
def tw16360325176400161106:=0
def tw8156200582819143719:=0
def tw2909034879423168715:=0
def tw10076253441966544159:=0
def tw9062906724348088592:=0
def tw16733085758281535102:=0
def tw17543358420314567756:=0
def tw10229319015690435804:=0
def tw15321560181816965585:=0
def tw13590076287469124472:=0
def tw4772541460617352604:=0
def tw17377287444169758413:=0
def tw2382533027927475655:=0
def tw13713153706934335087:=0
def tw13933584243724305914:=0
def tw2560828107077527327:=0
def tw6715290556651930983:=0
def tw11075548799240016330:=0
def tw11819813548541178005:=0
def tw15887681365720736490:=0
def tw12206166482158480825:=0
def tw17285303696128415364:=0
def tw6650143169395433099:=0
def tw14290196249418504238:=0
def tw14622174472342608933:=0
def tw13801737875189879541:=0
def tw17539364745888840078:=0
def tw5508466963996789512:=0
def tw10744446756634239181:=0
def tw13886209837117821691:=0
def tw10954272008850488919:=0
def tw4588263628407332219:=0
def tw7196417297805975311:=0
def tw13878351666732541694:=0
def tw526917671726444934:=0
def tw1955020562180318495:=0
def tw2797065717097584692:=0
def tw7269131848330477559:=0
def tw5730316048641585109:=0
def tw76311679730216065:=0
def tw17448129678151215726:=0
def tw275252724115527294:=0
def tw2722651946548955550:=0
def tw8600302441980564830:=0
def tw12815985976756710800:=0
def tw4675387039681785450:=0
def tw5451337019977186262:=0
def tw1697895890051992441:=0
def tw7356978841271474110:=0
def tw14487009328184492037:=0
def tw13857776507223185312:=0
def tw12183807562973053479:=0
def tw6417922869035578218:=0
def tw17995630086490332503:=0
def tw5039714411696745971:=0
def tw14268016024806096842:=0
def tw1250813450367595766:=0
def tw2242354977802810462:=0
def tw13687748025685697222:=0
def tw18047671655187410240:=0
def tw13489537884133156099:=0
def tw1548573365928791072:=0
def tw18108370111981183148:=0
def tw11135297576835162971:=0
def tw18119240194457228240:=0
def tw17789510088359297752:=0
def tw2528888678645159420:=0
def tw7915158405063690807:=0
def tw10119700729093937018:=0
def tw7026367496141583230:=0
def tw11477223052656954972:=0
def tw8446378681714941053:=0
def tw11254117977071921879:=0
def tw14370266906933555133:=0
def tw11817770455388606058:=0
def tw15053364485167436101:=0
def tw7023813955257682355:=0
def tw15400766417722445783:=0
def tw12247059360574020860:=0
def tw3184588220322076791:=0
def tw10036736869816912152:=0
def tw4266412758458794300:=0
def tw11497699493183188367:=0
def tw14789707505345665400:=0
def tw11536705292672970230:=0
def tw1767260864029631356:=0
def tw15384475490614835581:=0
def tw7752598281649606120:=0
def tw4343591328623677360:=0
def tw2615910498378718954:=0
def tw14897369629256217810:=0
def tw6277946407038008895:=0
def tw7473597623413842161:=0
def tw5857019711042695547:=0
def tw17919615609142676103:=0
def tw4755849178358510761:=0
def tw13827643089430661501:=0
def tw4119504531382165565:=0
def tw5860756206825542604:=0
def tw15686106243351671254:=0
def tw919316391881507105:=0
def tw11252131211119023399:=0
def tw18167940537830835086:=0
def tw4874793312489407273:=0
def tw3302058430055965327:=0
def tw4926929478206817528:=0
def tw4573994708787367639:=0
def tw12965487223178798769:=0
def tw4932022490558522476:=0
def tw9266996523673398378:=0
def tw15057208315685708450:=0
def tw10861310420223327670:=0
def tw4199624057970716131:=0
def tw6419238797142664634:=0
def tw13985514280193907340:=0
def tw9173101520554729112:=0
def tw6077375000702932640:=0
def tw10874724581588850495:=0
def tw747094403874462430:=0
def tw16544584626285425807:=0
def tw10004679420537220195:=0
def tw8048697012777047972:=0
def tw8248244988908657193:=0
def tw1084569706515727184:=0
def tw16276581412472901238:=0
def tw1327254034462456211:=0
def tw4622426120604281492:=0
def tw2738975469716475595:=0
def tw692108629021073887:=0
def tw16678905634379214568:=0
def tw4659034047843847914:=0
def tw5935962673608427887:=0
def tw37630310882857326:=0
def tw11387158529084624758:=0
def tw3717686812637973495:=0
def tw3199499747960894561:=0
def tw7117420672682735161:=0
def tw10375633064287991422:=0
def tw5324747534685388880:=0
def tw12269291004901464121:=0
def tw851690040790566811:=0
def tw12178058934430712190:=0
def tw13612327852502121060:=0
def tw4888049699424484374:=0
def tw7795425156598156331:=0
def tw12291313415578939997:=0
def tw7013511013581040000:=0
def tw12432472795424535578:=0
def tw4215854596650851797:=0
end PySem.W.Fast
open PySem PySem.W PyProof.Rows
local macro_rules | `(tactic| walk_at "df")=>`(tactic| exact⟨_,_,_,_,_,_,_,_,_,by k_is,by k_is,by k_is,by k_is⟩)
set_option maxRecDepth 100000 in
set_option maxHeartbeats 0 in
theorem PySem.Challenge.cw_smallrooms_k13_whole_trace_twins_holds : PySem.Challenge.rw_smallrooms_k13_whole_trace_twins.Holds := by
 w_on; o_law; k_head; (case hw=>w_witness2)
 k_fill
 refine SR.q5f (l:=PySem.Challenge.rw_smallrooms_k13_whole_trace_twins) 176 172 397 395 rfl rfl (fun w h Y=>PySem.W.km_in_of Y) (fun w=>by kernel_rfl) ?hrec ?htab ?F
 case hrec=>exact List.forall_mem_cons.mpr ⟨Option.isSome_iff_exists.mp (by kernel_rfl),List.forall_mem_cons.mpr ⟨Option.isSome_iff_exists.mp (by kernel_rfl),fun _ h=>nomatch h⟩⟩
 case htab=>exact fun w=>List.forall_mem_cons.mpr ⟨by kernel_rfl,List.forall_mem_cons.mpr ⟨by kernel_rfl,fun _ h=>nomatch h⟩⟩
 case F=>
  intro w mg fa h KX G hmg
  refine' SR.q3u KX G hmg ?d0 ?d1 ?d2 ?d3 ?d4 ?d5 ?d6 ?d7 ?d8 ?a9 ?l9 ?c9 ?k9 ?d10 ?d11 ?d12 ?d13 ?d14 ?d15 ?d16 ?d17 ?d18 ?d19 ?d20 ?d21 ?d22 ?d23 ?d24 ?d25 ?d26 ?d27 ?d28 ?a29 ?l29 ?c29 ?k29 ?x_Trace ?ma_Trace_init ?ml_Trace_init ?mc_Trace_init ?mf_Trace_init ?mk_Trace_init ?ma_Trace_go ?ml_Trace_go ?mc_Trace_go ?mf_Trace_go ?mk_Trace_go ?ma_Trace_back ?ml_Trace_back ?mc_Trace_back ?mf_Trace_back ?mk_Trace_back ?ma_Trace_to ?ml_Trace_to ?mc_Trace_to ?mf_Trace_to ?mk_Trace_to ?ma_Trace_passed ?ml_Trace_passed ?mc_Trace_passed ?mf_Trace_passed ?mk_Trace_passed ?ma_Trace_tally ?ml_Trace_tally ?mc_Trace_tally ?mf_Trace_tally ?mk_Trace_tally ?ma_Trace_unseen ?ml_Trace_unseen ?mc_Trace_unseen ?mf_Trace_unseen ?mk_Trace_unseen ?ma_Trace_ground ?ml_Trace_ground ?mc_Trace_ground ?mf_Trace_ground ?mk_Trace_ground ?ma_Trace_twin ?ml_Trace_twin ?mc_Trace_twin ?mf_Trace_twin ?mk_Trace_twin ?z_enumerate ?z_sorted ?z_len ?z_max ?z_min ?z_dict ?z_tuple ?z_range ?z_isinstance ?z_int ?z_bool ?z_zip ?z_ValueError ?pw ?ph ?x_RoomError ?x_NoWorths ?x_BadPaper ?x_BadPlan ?x_NoProgram ?x_NoText ?x_NoStep ?q_NoStep ?xw_NoStep ?t_Trace ?mk_Trace ?kp_Trace ?n929
  (case d0=>walk_at "df"); (case d1=>walk_at "df"); (case d2=>walk_at "df"); (case d3=>walk_at "df")
  (case d4=>walk_at "df"); (case d5=>walk_at "df"); (case d6=>walk_at "df"); (case d7=>walk_at "df")
  (case d8=>walk_at "df"); (case a9=>k_is); (case l9=>k_is); (case c9=>k_is)
  (case k9=>k_is); (case d10=>walk_at "df"); (case d11=>walk_at "df"); (case d12=>walk_at "df")
  (case d13=>walk_at "df"); (case d14=>walk_at "df"); (case d15=>walk_at "df"); (case d16=>walk_at "df")
  (case d17=>walk_at "df"); (case d18=>walk_at "df"); (case d19=>walk_at "df"); (case d20=>walk_at "df")
  (case d21=>walk_at "df"); (case d22=>walk_at "df"); (case d23=>walk_at "df"); (case d24=>walk_at "df")
  (case d25=>walk_at "df"); (case d26=>walk_at "df"); (case d27=>walk_at "df"); (case d28=>walk_at "df")
  (case a29=>k_is); (case l29=>k_is); (case c29=>k_is); (case k29=>k_is)
  (case x_Trace=>k_is); (case ma_Trace_init=>k_is); (case ml_Trace_init=>k_is); (case mc_Trace_init=>k_is)
  (case mf_Trace_init=>k_is); (case mk_Trace_init=>k_is); (case ma_Trace_go=>k_is); (case ml_Trace_go=>k_is)
  (case mc_Trace_go=>k_is); (case mf_Trace_go=>k_is); (case mk_Trace_go=>k_is); (case ma_Trace_back=>k_is)
  (case ml_Trace_back=>k_is); (case mc_Trace_back=>k_is); (case mf_Trace_back=>k_is); (case mk_Trace_back=>k_is)
  (case ma_Trace_to=>k_is); (case ml_Trace_to=>k_is); (case mc_Trace_to=>k_is); (case mf_Trace_to=>k_is)
  (case mk_Trace_to=>k_is); (case ma_Trace_passed=>k_is); (case ml_Trace_passed=>k_is); (case mc_Trace_passed=>k_is)
  (case mf_Trace_passed=>k_is); (case mk_Trace_passed=>k_is); (case ma_Trace_tally=>k_is); (case ml_Trace_tally=>k_is)
  (case mc_Trace_tally=>k_is); (case mf_Trace_tally=>k_is); (case mk_Trace_tally=>k_is); (case ma_Trace_unseen=>k_is)
  (case ml_Trace_unseen=>k_is); (case mc_Trace_unseen=>k_is); (case mf_Trace_unseen=>k_is); (case mk_Trace_unseen=>k_is)
  (case ma_Trace_ground=>k_is); (case ml_Trace_ground=>k_is); (case mc_Trace_ground=>k_is); (case mf_Trace_ground=>k_is)
  (case mk_Trace_ground=>k_is); (case ma_Trace_twin=>k_is); (case ml_Trace_twin=>k_is); (case mc_Trace_twin=>k_is)
  (case mf_Trace_twin=>k_is); (case mk_Trace_twin=>k_is); (case z_enumerate=>k_is); (case z_sorted=>k_is)
  (case z_len=>k_is); (case z_max=>k_is); (case z_min=>k_is); (case z_dict=>k_is)
  (case z_tuple=>k_is); (case z_range=>k_is); (case z_isinstance=>k_is); (case z_int=>k_is)
  (case z_bool=>k_is); (case z_zip=>k_is); (case z_ValueError=>k_is); (case pw=>k_is)
  (case ph=>k_is); (case x_RoomError=>k_is); (case x_NoWorths=>k_is); (case x_BadPaper=>k_is)
  (case x_BadPlan=>k_is); (case x_NoProgram=>k_is); (case x_NoText=>k_is); (case x_NoStep=>k_is)
  (case q_NoStep=>kernel_rfl); (case xw_NoStep=>exact SR.q47 (j:=3) (by kernel_rfl) ⟨by kernel_rfl,by kernel_rfl,by kernel_rfl,by kernel_rfl,by kernel_rfl,by kernel_rfl,by kernel_rfl,by kernel_rfl⟩ (by kernel_rfl) (by kernel_rfl) (by kernel_rfl) (by kernel_rfl) (by kernel_rfl) (by kernel_rfl) (by kernel_rfl) rfl); (case t_Trace=>exact⟨⟨by kernel_rfl,by kernel_rfl,by kernel_rfl,by kernel_rfl⟩,by unfold L2.NoAttr; kernel_rfl,by unfold L2.NoAttr; kernel_rfl,by unfold L2.NoAttr; kernel_rfl,by unfold L2.NoAttr; kernel_rfl⟩); (case mk_Trace=>k_is)
  (case kp_Trace=>k_is); (case n929=>decide)
