import PyProof.Rows.All
import Wide.All
import OpenK.AllK
import Wide.FinOn
import Lean
import PyProof.EqAt
import PyProof.EqKinds
import PyProof.TupleCall
import PyProof.AttrMissHeap
import PySem.Challenge.RW_smallrooms_k60_whole_texts
set_option Elab.async false
set_option compiler.extract_closed false
set_option linter.all false
set_option maxRecDepth 100000
open Array renaming length_toList → y29
open Bool renaming and_eq_true → y8,false_ne_true → yg,false_and → yx,true_eq_false → y09,true_and → y0a,false_eq_true → y0o,not_eq_true' → y0p,and_false → y1s,eq_iff_iff → y1x,not_false → y2w,decide_eq_true → y31,or_false → y36,not_true → y37
open Int renaming emod_lt_of_pos → y39,toNat_natCast → y3c
open List renaming length_map → y4,length_cons → ya,mem_cons_of_mem → yb,map_append → yd,length_append → yj,size_toArray → yn,not_mem_nil → yo,mem_of_getElem? → yt,mem_cons → yu,map_cons → yv,length_take → yz,mem_append_right → y00,length_singleton → y01,mem_cons_self → y02,take_add_one → y03,getElem?_map → y0b,take_length → y0h,any_cons → y0k,lookup_cons → y0r,getElem?_eq_getElem → y0u,append_assoc → y0v,map_singleton → y0x,cons_append → y0y,mem_append_left → y10,all_eq_true → y16,mem_of_mem_take → y17,dropLast_concat → y18,reverse_cons → y19,append_nil → y1a,filter_append → y1j,map_nil → y1l,length_filter_le → y1m,length_reverse → y1u,take_of_length_le → y20,getElem?_set_self → y21,map_map → y23,all_cons → y28,length_nil → y2b,foldr_cons → y2c,getElem?_cons_zero → y2k,getElem?_cons_succ → y2l,filter_cons → y2m,lookup_cons_self → y2n,all_map → y2o,getElem?_set_ne → y2u,toList_toArray → y2z,filterMap_cons → y30,set_cons_zero → y34,set_cons_succ → y35,isEmpty_cons → y3a
open List.cons renaming inj → y1k
open Nat renaming le_refl → yf,lt_of_lt_of_le → yw,le_trans → y0d,zero_le → y0i,ne_of_lt → y0m,mul_le_mul_right → y11,lt_irrefl → y1o,le_of_lt → y2r,add_sub_cancel → y38
open Ne renaming symm → y2t
open Option renaming bind_some → yh,bind_eq_some_iff → y1b,toList_some → y1f,map_eq_some_iff → y2j,isNone_some → y2x,isNone_none → y2y
open Option.some renaming inj → y0n,injEq → y1g
open PyProof.Rows renaming slot_tuple_getitem → y15,callWith_type1 → y1c,split_le → y1v,split_pos → y2d,kindOf → y2s
open PySem renaming Shared → y6,Value → y9,wpAny_bind → yi,mainGlobals → yk,Program → yl,sizeLine → yr,wpAny_pure → yy,Around → y05,World → y08,compareOp → y0c,model → y0e,wpAny → y0j,mem_of_lookup → y12,wpAny_callSpecial?_slot → y13,FuncData → y14,wpAny_mono → y1d,wpAny_Call_Name_kw → y1n,wpAny_passesOwn → y1p,wpAny_call_entry → y1w,wpAny_execs_nil → y22,wpAny_truthy_bool → y24,wpAny_newObj_type → y25,call_meets → y26,wpAny_onRaise → y2p,wpAny_holding → y2q,codeAny_mono → y32,typeIs_str → y33,wpAny_pyIter_tuple → y3e,wpAny_attempt → y3f
open PySem.F renaming excBase_ValueError → yp,plainAttrs_list → yq,plainAttrs_str → y07,type_list_append → y0f,slot_list_append → y0g,type_str_join → y0s,slot_str_join → y0t,type_list_pop → y1h,slot_list_pop → y1i,slot_tuple_iterator_next → y1r,slot_zip_next → y1z,args_tuple_add_2 → y2e,entry_tuple_add → y2f,type_str_split → y2g,slot_tuple_add → y2h,slot_str_split → y2i,args_str_split_2 → y3d,entry_str_split → y3g
open PySem.Heap renaming get?_push_of_some → ye,lt_size → ym,get?_push_size → y04,get?_update_self → y0z,size_push → y1q
open PySem.Heap.SameBut renaming update → y0q
open PySem.PassesOwn renaming never → y1e,leaving → y2v
open PySem.Str renaming length_append → yc,append_assoc → y1t,append_empty → y27
open PySem.StrLaws renaming glued_eq_join → y1y
open PySem.W renaming Frag → y3,mg_of → y06,mg_none_of → y0l,kia_one → y0w,callWith_K → y2a,hideAll_get → y3b
noncomputable section
namespace L2
open PySem PySem.Spec PyProof.Rows
abbrev Key:=Sum Int Str
noncomputable def Lh:Key->y9->Bool
 |.inl k,v=>Value.isInt k v
 |.inr x,v=>Value.isStrOf x v
noncomputable def Py(w:y08):Key->Int
 |.inl k=>hashInt k
 |.inr x=>hashStr w x
theorem CZ:∀{k:Key} {v:y9},Lh k v=true->(∃i t,k=Sum.inl i/\v=Value.int i t)\/(∃x t,k=Sum.inr x/\v=Value.str x t)
 |.inl i,v,h=>by
  obtain⟨t,e⟩:=Value.isInt_shape (k:=i) (v:=v) h;exact .inl ⟨i,t,rfl,e⟩
 |.inr x,v,h=>by
  obtain⟨t,e⟩:=Value.isStrOf_shape (x:=x) (v:=v) h;exact .inr ⟨x,t,rfl,e⟩
theorem Pz(a b:Int):decide ((Sum.inl a:Key)=Sum.inl b)=(a==b):=by
 by_cases e:a=b
 ·subst e; simp
 ·have h:¬ (Sum.inl a:Key)=Sum.inl b:=fun q=>e (Sum.inl.inj q);rw[decide_eq_false h];exact(beq_eq_false_iff_ne.mpr e).symm
theorem Q0(a b:Str):decide ((Sum.inr a:Key)=Sum.inr b)=decide (a=b):=by
 by_cases e:a=b
 ·subst e; simp
 ·have h:¬ (Sum.inr a:Key)=Sum.inr b:=fun q=>e (Sum.inr.inj q);rw[decide_eq_false h,decide_eq_false e]
theorem Q1(a:Int)(b:Str):decide ((Sum.inl a:Key)=Sum.inr b)=false:=decide_eq_false (fun q=>nomatch q)
theorem Q2(a:Str)(b:Int):decide ((Sum.inr a:Key)=Sum.inl b)=false:=decide_eq_false (fun q=>nomatch q)
noncomputable def Li(prog:yl)(w:y08):PySem.KeyKind prog w Key where
 is:=Lh
 hash:=Py w
 inj:=fun v a b ha hb=>by
  rcases CZ ha with⟨i,t,rfl,rfl⟩|⟨x,t,rfl,rfl⟩
  ·rcases CZ hb with⟨j,u,rfl,e⟩|⟨y,u,rfl,e⟩
   ·injection e with q _; rw[q]
   ·exact nomatch e
  ·rcases CZ hb with⟨j,u,rfl,e⟩|⟨y,u,rfl,e⟩
   ·exact nomatch e
   ·injection e with q _; rw[q]
 byValue:=fun k v h=>by
  rcases CZ h with⟨i,t,rfl,rfl⟩|⟨x,t,rfl,rfl⟩<;>rfl
 pyHash:=fun z h=>by
  rcases CZ z with⟨i,t,rfl,rfl⟩|⟨x,t,rfl,rfl⟩
  ·exact wpAny_pyHash_int h
  ·exact wpAny_pyHash_str h
 eqBool:=fun hu z h=>by
  rcases CZ hu with⟨i,t,rfl,rfl⟩|⟨x,t,rfl,rfl⟩
  ·rcases CZ z with⟨j,u,rfl,rfl⟩|⟨y,u,rfl,rfl⟩
   ·rw[Pz] at h; exact wpAny_eqBool_int h
   ·rw[Q1] at h; exact SeqAt.EqAt.int_str i t y u _ _ _ _ h
  ·rcases CZ z with⟨j,u,rfl,rfl⟩|⟨y,u,rfl,rfl⟩
   ·rw[Q2] at h; exact SeqAt.EqAt.str_int x t j u _ _ _ _ h
   ·rw[Q0] at h; exact wpAny_eqBool_str h
 «strs»:=fun k x t v h=>by
  rcases CZ h with⟨i,u,rfl,e⟩|⟨y,u,rfl,e⟩
  ·exact nomatch e
  ·injection e with q _
   subst q
   cases v<;>rfl
inductive V where
 |non|bl (b:Bool)|int (i:Int)|str (x:Str)|byt (b:Array UInt8)|flt (b:UInt64)|ref (a:Addr)|ty (n:String)
 deriving DecidableEq
noncomputable def RelV:V->y9->Prop
 |.non,u=>u=Value.none
 |.bl b,u=>u=Value.bool b
 |.int i,u=>∃t,u=Value.int i t
 |.str x,u=>∃t,u=Value.str x t
 |.byt b,u=>∃t,u=Value.bytes b t
 |.flt b,u=>∃t,u=Value.float b t
 |.ref a,u=>u=Value.ref a
 |.ty n,u=>u=Value.type n
abbrev Vals:List V->List y9->Prop:=Paired RelV
theorem Vals.length(r:Vals xs us):xs.length=us.length:=Paired.length r
theorem Vals.get:∀{xs:List V} {us:List y9} {i:Nat} {x:V},Vals xs us->xs[i]?=some x->∃u,us[i]?=some u/\RelV x u
 |_,_,_,_,.nil,e=>by simp at e
 |_,_,0,_,.cons r _,e=>by simp at e; subst e; exact⟨_,rfl,r⟩
 |_,_,i+1,x,.cons _ t,e=>by
  obtain⟨u,h1,h2⟩:=Vals.get (i:=i) (x:=x) t (by simpa using e);exact⟨u,by simpa using h1,h2⟩
theorem Vals.append:∀{xs ys:List V} {us ws:List y9},Vals xs us->Vals ys ws->Vals (xs++ys) (us++ws)
 |_,_,_,_,.nil,s=>s
 |_,_,_,_,.cons r t,s=>.cons r (Vals.append t s)
theorem Vals.take:∀{xs:List V} {us:List y9} (n:Nat),Vals xs us->Vals (xs.take n) (us.take n)
 |_,_,0,_=>.nil
 |_,_,_+1,.nil=>.nil
 |_,_,n+1,.cons r t=>.cons r (Vals.take n t)
theorem Vals.drop:∀{xs:List V} {us:List y9} (n:Nat),Vals xs us->Vals (xs.drop n) (us.drop n)
 |_,_,0,r=>r
 |_,_,_+1,.nil=>.nil
 |_,_,n+1,.cons _ t=>Vals.drop n t
noncomputable def I0:Option V->Option y9->Prop
 |some v,some u=>RelV v u
 |none,none=>True
 |_,_=>False
noncomputable def KV{κ:Type}:List (κ×V)->List (κ×y9)->Prop:=Paired fun(p:κ×V) (q:κ×y9)=>p.1=q.1/\RelV p.2 q.2
noncomputable def kV:Key->V
 |.inl i=>.int i
 |.inr x=>.str x
inductive HO where
 |lst (xs:List V)
 |tup (xs:List V)
 |dK (kvs:List (Key×V))|dT (kvs:List (List Key×V))
 |set (S:Int->Bool) (n:Nat)
 |ins (C dx:Addr) (fs:List (Str×V))
 |own (x:Addr)
 |xd (fs:List (Str×V))
 |met (f x:Addr)
 |rng (lo hi:Int)
 |frz (o:Obj) (u:HO)
 |tbl (ps:Array y9)
 |ext (φ:Heap->Prop)
abbrev Hp:=Addr->Option HO
noncomputable def upd(H:Hp)(a:Addr)(o:HO):Hp:=fun b=>if b=a then some o else H b
theorem A4:upd H a o a=some o:=by unfold upd; rw[if_pos rfl]
theorem AQ(h:b≠a):upd H a o b=H b:=by unfold upd; rw[if_neg h]
theorem Q3{H:Hp}{a b:Addr}{o u:HO}(h:H a=some o)(h':H b=some u)(d:o≠u):a≠b:=by
 intro e; subst e; rw[h] at h'; exact d (y0n h')
theorem CL{H:Hp}{a b:Addr}{o:HO}(h:H a=some o)(h':H b=none):a≠b:=by
 intro e; subst e; rw[h] at h'; cases h'
section
variable(P:yl)(w:y08)
noncomputable def ObjOk(H:Hp)(h:Heap)(a:Addr):HO->Prop
 |.lst xs=>xs.length<=yr/\∃(z:List y9) (n:Nat),Vals xs z/\h.get? a=some {cls:=.type "list",data:=.seq z.toArray n}
 |.tup xs=>xs.length<=yr/\∃z:List y9,Vals xs z/\IsTup h a z.toArray
 |.dK kvs=>kvs.length<=yr/\(a==sysModules)=false/\∃vs,KV kvs vs/\h.DictOf (Li P w) a vs
 |.dT kvs=>kvs.length<=yr/\(a==sysModules)=false/\∃xs:List (List Key×Addr×y9),
   Paired (fun(p:List Key×V) (q:List Key×Addr×y9)=>p.1=q.1/\H q.2.1=some (.tup (p.1.map kV))/\RelV p.2 q.2.2) kvs xs/\
   ∃o es ep,h.get? a=some o/\o.ExactDict/\o.data=.dict es ep/\es.toList=xs.map (entryOfKey (tupleKind (Li P w)))/\(xs.map (·.1)).Nodup
 |.set S n=>h.SetOf (intKind P w) a S n
 |.ins C dx fs=>H dx=some (.own a)/\fs.length<=1000/\dx≠a/\h.get? a=some (PySem.W.instObj C dx)/\
   ∃mA,h.Ns1 dx mA/\(∀f,I0 (fs.lookup f) (mA f))/\PySem.Within mA (fs.map (·.1))
 |.own _=>∃o,h.get? a=some o
 |.xd fs=>∃mA,h.Ns1 a mA/\∀f,I0 (fs.lookup f) (mA f)
 |.rng lo hi=>∃t u v,h.get? a=some {cls:=.type "range",data:=.fields #[.int lo t,.int hi u,.int 1 v]}
 |.frz o u=>h.get? a=some o/\ObjOk H h a u
 |.tbl ps=>h.get? a=some {cls:=.none,data:=.fields ps}
 |.met f x=>h.get? a=some (PySem.W.methodObj (.ref f) (.ref x))
 |.ext B=>B h/\(∃o,h.get? a=some o)/\∀h1 h2:Heap,B h1->(∀o,h1.get? a=some o->h2.get? a=some o)->B h2
noncomputable def HOk(H:Hp)(h:Heap):Prop:=∀a o,H a=some o->ObjOk P w H h a o
end
section
variable{P:yl}{w:y08}{H H':Hp}{h h':Heap}{a:Addr}{o:HO}
theorem ObjOk.lt(x:ObjOk P w H h a o):a<h.objs.size:=by
 cases o with
 |lst xs=>obtain⟨_,_,_,_,e⟩:=x; exact ym e
 |tup xs=>obtain⟨_,_,_,p⟩:=x; exact p.lt
 |dK kvs=>obtain⟨_,_,_,_,o,_,_,e,_⟩:=x; exact ym e
 |dT kvs=>obtain⟨_,_,_,_,o,_,_,e,_⟩:=x; exact ym e
 |set S n=>obtain⟨o,_,_,_,e,_⟩:=x; exact ym e
 |ins C dx fs=>obtain⟨_,_,_,e,_⟩:=x; exact ym e
 |own y=>obtain⟨_,e⟩:=x; exact ym e
 |xd fs=>obtain⟨_,⟨_,_,_,e,_⟩,_⟩:=x; exact ym e
 |rng lo hi=>obtain⟨_,_,_,e⟩:=x; exact ym e
 |frz z u=>obtain⟨e,_⟩:=x; exact ym e
 |tbl ps=>exact ym (show h.get? a=some _ from x)
 |met f y=>exact ym (show h.get? a=some _ from x)
 |ext q=>obtain⟨_,⟨_,e⟩,_⟩:=x; exact ym e
theorem Paired.mapP{J B:Type}{F G:J->B->Prop}:∀{z:List J} {q:List B},Paired F z q->(∀a b,F a b->G a b)->Paired G z q
 |_,_,.nil,_=>.nil
 |_,_,.cons r t,f=>.cons (f _ _ r) (Paired.mapP t f)
theorem ObjOk.stay(x:ObjOk P w H h a o)(k:∀b u,(b=a\/H b=some (.own a))->h.get? b=some u->h'.get? b=some u)
  (U:∀b,H b=some (.own a)->H' b=some (.own a)) (O:∀b xs,H b=some (.tup xs)->H' b=some (.tup xs)):ObjOk P w H' h' a o:=by
 induction o with
 |lst xs=>obtain⟨z,F,n,r,e⟩:=x; exact⟨z,F,n,r,k _ _ (.inl rfl) e⟩
 |tup xs=>obtain⟨z,F,r,B,e,c⟩:=x; exact⟨z,F,r,B,k _ _ (.inl rfl) e,c⟩
 |dK kvs=>obtain⟨z,y,vs,r,B,es,ep,e,c⟩:=x; exact⟨z,y,vs,r,B,es,ep,k _ _ (.inl rfl) e,c⟩
 |dT kvs=>
  obtain⟨z,y,xs,r,B,es,ep,e,c⟩:=x;exact⟨z,y,xs,Paired.mapP r fun p q z=>⟨z.1,O _ _ z.2.1,z.2.2⟩,B,es,ep,k _ _ (.inl rfl) e,c⟩
 |set S n=>obtain⟨B,es,ep,t,e,c⟩:=x; exact⟨B,es,ep,t,k _ _ (.inl rfl) e,c⟩
 |ins C dx fs=>
  obtain⟨d,z,J,e,mA,⟨G,es,ep,Z,c⟩,r⟩:=x;exact⟨U _ d,z,J,k _ _ (.inl rfl) e,mA,⟨G,es,ep,k _ _ (.inr d) Z,c⟩,r⟩
 |own y=>obtain⟨B,e⟩:=x; exact⟨B,k _ _ (.inl rfl) e⟩
 |xd fs=>obtain⟨mA,⟨G,es,ep,e,c⟩,r⟩:=x; exact⟨mA,⟨G,es,ep,k _ _ (.inl rfl) e,c⟩,r⟩
 |rng lo hi=>obtain⟨t,u,v,e⟩:=x; exact⟨t,u,v,k _ _ (.inl rfl) e⟩
 |frz B u M=>obtain⟨e,q⟩:=x; exact⟨k _ _ (.inl rfl) e,M q⟩
 |tbl ps=>
  have e:h.get? a=some {cls:=.none,data:=.fields ps}:=x;show h'.get? a=some {cls:=.none,data:=.fields ps};exact k a _ (.inl rfl) e
 |met f y=>
  have e:h.get? a=some (PySem.W.methodObj (.ref f) (.ref y)):=x;show h'.get? a=some (PySem.W.methodObj (.ref f) (.ref y));exact k a _ (.inl rfl) e
 |ext φ=>obtain⟨p,⟨o,e⟩,st⟩:=x; exact⟨st _ _ p fun o q=>k _ _ (.inl rfl) q,⟨o,k _ _ (.inl rfl) e⟩,st⟩
theorem HOk.lt(x:HOk P w H h)(e:H a=some o):a<h.objs.size:=(x a o e).lt
theorem HOk.fresh(x:HOk P w H h)(e:h.objs.size<=a):H a=none:=by
 cases q:H a with
 |none=>rfl
 |some u=>exact absurd (yw (x.lt q) e) (y1o _)
theorem HOk.kept(x:HOk P w H h)(k:∀b u,h.get? b=some u->h'.get? b=some u):HOk P w H h':=fun a o e=>
 (x a o e).stay (fun b u _ q=>k b u q) (fun _ q=>q) fun _ _ q=>q
theorem HOk.laid(x:HOk P w H h)(k:∀b u,h.get? b=some u->h'.get? b=some u)(F:h.objs.size<=a)(z:ObjOk P w (upd H a o) h' a o):HOk P w (upd H a o) h':=fun b u e=>by
 have B:=x.fresh F;by_cases hb:b=a
 ·subst hb; rw[A4] at e; cases e; exact z
 ·rw[AQ hb] at e;exact(x b u e).stay (fun c v _ q=>k c v q) (fun c q=>by rw[AQ (CL q B)]; exact q) fun c xs q=>by rw[AQ (CL q B)]; exact q
end
noncomputable def Rd(H:Hp)(a:Addr)(u:HO):Prop:=H a=some u\/∃o,H a=some (.frz o u)
theorem Rd.ok(r:Rd H a u)(x:HOk P w H h):ObjOk P w H h a u:=by
 rcases r with r|⟨o,r⟩
 ·exact x a u r
 ·obtain⟨_,q⟩:=x a _ r;exact q
noncomputable def Mut:Option HO->Prop
 |some (.lst _)=>True
 |some (.dK _)=>True
 |some (.dT _)=>True
 |some (.set _ _)=>True
 |some (.ins _ _ _)=>True
 |some (.ext _)=>True
 |_=>False
section
variable{P:yl}{w:y08}{H:Hp}{h h':Heap}{x e:Addr}{o':HO}
theorem HOk.write(ok:HOk P w H h)(J:Mut (H x))(Z:e=x\/H e=some (.own x))(k:∀b u,b≠e->h.get? b=some u->h'.get? b=some u)(O:∃u,h'.get? e=some u)
  (M:ObjOk P w (upd H x o') h' x o'):HOk P w (upd H x o') h':=fun b u q=>by
 have F:∀c y,H c=some (.own y)->c≠x:=fun c y r z=>by subst z; rw[r] at J; exact J
 have G:∀c xs,H c=some (.tup xs)->c≠x:=fun c xs r z=>by subst z; rw[r] at J; exact J
 by_cases hb:b=x
 ·subst hb; rw[A4] at q; cases q; exact M
 ·rw[AQ hb] at q;by_cases B:b=e
  ·have U:H b=some (.own x):=by
    rcases Z with z|z
    ·exact absurd (B.trans z) hb
    ·rw[B]; exact z
   rw[q] at U; cases U;obtain⟨v,hv⟩:=O;exact⟨v,by rw[B]; exact hv⟩
  ·refine(ok b u q).stay (fun c v hc r=>k c v ?_ r) (fun c r=>by rw[AQ (F c b r)]; exact r) fun c xs r=>by rw[AQ (G c xs r)]; exact r
   rcases hc with rfl|hc
   ·exact B
   ·rintro rfl;rcases Z with z|z
    ·exact F c b hc z
    ·rw[hc] at z; cases z; exact hb rfl
end
structure Un(fs ex:List Addr)(H H':Hp)(h h':Heap):Prop where
 keep:∀b o,h.get? b=some o->H b=none->b∉fs->b∉ex->h'.get? b=some o
 slot:∀b o,h.get? b=some o->H b=none->b∈fs->b∉ex->∃sl,h'.get? b=some {o with slots:=sl}
 free:∀b o,h.get? b=some o->H b=none->b∉ex->H' b=none
 there:∀b o,h.get? b=some o->b∉ex->∃o',h'.get? b=some o'
 tups:∀b xs,H b=some (.tup xs)->H' b=some (.tup xs)
 frzs:∀b o u,H b=some (.frz o u)->H' b=some (.frz o u)
 tbls:∀b ps,H b=some (.tbl ps)->∃more,H' b=some (.tbl (ps++more))
section
variable{fs fs' ex ex':List Addr}{H H1 H2:Hp}{h h1 h2 h':Heap}{a x e:Addr}{o:HO}
theorem Un.any(u:Un fs ex H H1 h h1)(q:h.get? b=some ob)(n:H b=none)(hx:b∉ex):∃z,h1.get? b=some {ob with slots:=z}:=by
 by_cases hb:b∈fs
 ·exact u.slot b ob q n hb hx
 ·exact⟨ob.slots,u.keep b ob q n hb hx⟩
theorem Un.kept(k:∀b u,h.get? b=some u->h'.get? b=some u):Un fs ex H H h h':=
 ⟨fun b z q _ _ _=>k b z q,fun b z q _ _ _=>⟨z.slots,k b z q⟩,fun _ _ _ n _=>n,fun b z q _=>⟨z,k b z q⟩,fun _ _ q=>q,fun _ _ _ q=>q,fun _ ps q=>⟨#[],by rw[q]; simp⟩⟩
theorem Un.refl:Un fs ex H H h h:=Un.kept fun _ _ q=>q
theorem Un.laid(k:∀b u,h.get? b=some u->h'.get? b=some u)(B:h.objs.size<=a)(z:H a=none):Un fs ex H (upd H a o) h h' where
 keep:=fun b u q _ _ _=>k b u q
 slot:=fun b u q _ _ _=>⟨u.slots,k b u q⟩
 free:=fun b u q n _=>by rw[AQ (y0m (yw (ym q) B))]; exact n
 there:=fun b u q _=>⟨u,k b u q⟩
 tups:=fun b xs q=>by rw[AQ (CL q z)]; exact q
 frzs:=fun b u xs q=>by rw[AQ (CL q z)]; exact q
 tbls:=fun b ps q=>⟨#[],by rw[AQ (CL q z),q]; simp⟩
theorem Un.write(F:Mut (H x))(J:e=x\/H e=some (.own x))(k:∀b u,b≠e->h.get? b=some u->h'.get? b=some u)(G:∃u,h'.get? e=some u):Un fs ex H (upd H x o) h h':=by
 have hx:∀b,H b=none->b≠x:=fun b n z=>by subst z; rw[n] at F; exact F
 have hb:∀b,H b=none->b≠e:=fun b n z=>by
  subst z;rcases J with r|r
  ·exact hx b n r
  ·rw[n] at r; cases r
 have hm:∀b u,H b=some u->¬ Mut (some u)->b≠x:=fun b u q nm z=>by subst z; rw[q] at F; exact nm F
 refine⟨fun b u q n _ _=>k b u (hb b n) q,fun b u q n _ _=>⟨u.slots,k b u (hb b n) q⟩,fun b u q n _=>by rw[AQ (hx b n)]; exact n,fun b u q _=>?_,
  fun b xs q=>by rw[AQ (hm b _ q fun z=>z)]; exact q,fun b u xs q=>by rw[AQ (hm b _ q fun z=>z)]; exact q,fun b ps q=>⟨#[],by rw[AQ (hm b _ q fun z=>z),q]; simp⟩⟩
 by_cases B:b=e
 ·subst B; exact G
 ·exact⟨u,k b u B q⟩
end
noncomputable def trk(h:Heap)(H:Hp):List Addr:=(List.range h.objs.size).filter fun a=>(H a).isSome
noncomputable def Cc(h:Heap)(H:Hp):Heap:=PySem.W.hideAll h (trk h H)
theorem Q4(h:Heap)(H:Hp):(Cc h H).objs.size=h.objs.size:=PySem.W.hideAll_size _ _
theorem Q5(e:h.get? b=some o)(n:H b=none):(Cc h H).get? b=some o:=
 PySem.W.hideAll_get _ e fun hm=>by
  have q:(H b).isSome=true:=(List.mem_filter.mp hm).2;rw[n] at q; simp at q
theorem Q6(e:(Cc h H).get? b=some o):h.get? b=some o/\H b=none:=by
 have B:h.get? b=some o:=PySem.W.of_hideAll (trk h H) e;refine⟨B,?_⟩;cases q:H b with
 |none=>rfl
 |some x=>
  have hm:b∈trk h H:=List.mem_filter.mpr ⟨List.mem_range.mpr (ym B),by simp[q]⟩;have z:(Cc h H).get? b=none:=PySem.W.hideAll_none (trk h H) hm;rw[z] at e; cases e
noncomputable def Q7(g h:Heap)(L:Addr):List (Addr×Obj):=(List.range h.objs.size).filterMap fun a=>if a=L\/(g.get? a).isSome=true then none else(h.get? a).map fun o=>(a,o)
noncomputable def rest(g h:Heap)(L d:Addr):List (Addr×Obj):=(Q7 g h L).filter fun p=>decide (p.1≠d)
structure Mod(K:y3)(mg:Str->Option y9)(base:Heap):Prop where
 kin:K.In base
 glob:base.Ns yk mg
 blt:∃mb,base.Ns builtinsNs mb/\∀x:Str,x≠"__name__"->mb x=bootBuiltins x
 nolimit:base.NoLimit
structure Cx where
 prog:yl
 w:y08
 K:y3
 mg:Str->Option y9
 base:Heap
 A:y05
 N:List Str
 s₀:y6
 H₀:Hp
 env:Env
 outer:List Env
 stack:List Env
 ex:List Addr
 fn:Str->Bool
 calm:Bool
 pn:List (Addr×Obj)
 xe:y9->y6->Prop
noncomputable def frs(l:List Env):List Addr:=l.filterMap (·.frame)
abbrev Cx.fs(X:Cx):List Addr:=frs X.outer
noncomputable def Vis(sc:Scope)(x:Str):Prop:=sc.names.lookup x=some .local\/sc.names.lookup x=some .cell\/sc.names.lookup x=some .free
noncomputable def Loc(sc:Scope)(x:Str):Prop:=sc.names.lookup x=some .local\/sc.names.lookup x=some .cell
noncomputable def Look(env:Env)(h:Heap)(m:Str->Option y9)(x:Str)(u:y9):Prop:=
 (env.kindOf x=some .local/\m x=some u)\/((env.kindOf x=some .cell\/env.kindOf x=some .free)/\∃c,env.cells.lookup x=some c/\h.IsCell c (some u))
structure Cx.Ok(X:Cx):Prop where
 mod:Mod X.K X.mg X.base
 kind:X.env.scope.kind=.function
 glob:X.env.globals=yk
 blt:X.env.builtins=builtinsNs
 above:X.s₀.heap.objs.size<=X.env.locals
 inj:∀x y c,X.env.cells.lookup x=some c->X.env.cells.lookup y=some c->x=y
 has:∀x,(X.env.kindOf x=some .cell\/X.env.kindOf x=some .free)->∃c,X.env.cells.lookup x=some c
 cab:∀x c,X.fn x=true->X.env.cells.lookup x=some c->X.s₀.heap.objs.size<=c
 hd:X.calm=true->X.A.handled=none
 frames:X.A.frames=some X.stack
 stk:X.stack=X.outer\/(X.stack=X.env::X.outer/\X.env.frame=some X.env.locals)
 exf:∀b∈X.ex,b≠X.env.locals/\∀x c,X.env.cells.lookup x=some c->c≠b
 bs:∀b o,X.base.get? b=some o->X.s₀.heap.get? b=some o/\X.H₀ b=none
 bsz:X.base.objs.size<=X.s₀.heap.objs.size
 noex:∀b o,X.base.get? b=some o->b∉X.ex
 exfs:∀b∈X.ex,b∉X.fs
 funs:X.s₀.heap.FunFrames X.base X.outer
 frf:∀b∈X.fs,X.H₀ b=none
structure Inv(X:Cx)(pins:List (Addr×Obj))(σ:List (Option V))(H:Hp)(s:y6):Prop where
 ok:X.Ok
 os:s.os=X.s₀.os
 bare:AllBare s.gens
 base:Un X.fs X.ex X.H₀ H X.s₀.heap s.heap
 loc:∃m,s.heap.Ns X.env.locals m/\∀(i:Nat) (x:Str) (v:V),X.N[i]?=some x->σ[i]?=some (some v)->Vis X.env.scope x->∃u,RelV v u/\Look X.env s.heap m x u
 cell:∀x c,X.env.cells.lookup x=some c->∃v,s.heap.IsCell c v
 free:H X.env.locals=none
 freeC:∀x c,X.env.cells.lookup x=some c->H c=none
 pin:∀p∈X.pn++pins,s.heap.get? p.1=some p.2/\H p.1=none/\p.1≠X.env.locals/\p.1∉X.fs/\∀v,p.2.data≠.cell v
 hok:HOk X.prog X.w H s.heap
 len:σ.length=X.N.length
section
variable{X:Cx}{pins:List (Addr×Obj)}{σ:List (Option V)}{H H':Hp}{s:y6}{h':Heap}
theorem Cx.Ok.nofr(ok:X.Ok)(e:X.base.get? b=some o):b∉X.fs:=fun hb=>by
 have:=(ok.funs.mem hb).1;rw[e] at this; cases this
theorem Inv.bs(I:Inv X pins σ H s):∀b o,X.base.get? b=some o->s.heap.get? b=some o/\H b=none:=fun b o e=>
 ⟨I.base.keep b o (I.ok.bs b o e).1 (I.ok.bs b o e).2 (I.ok.nofr e) (I.ok.noex b o e),I.base.free b o (I.ok.bs b o e).1 (I.ok.bs b o e).2 (I.ok.noex b o e)⟩
theorem Inv.bk(I:Inv X pins σ H s):∀b o,X.base.get? b=some o->s.heap.get? b=some o:=fun b o e=>(I.bs b o e).1
theorem Inv.mod(I:Inv X pins σ H s):Mod X.K X.mg X.base:=I.ok.mod
theorem Inv.kIn(I:Inv X pins σ H s):X.K.In s.heap:=I.ok.mod.kin.keeps I.bk
theorem Inv.lt(I:Inv X pins σ H s):X.env.locals<s.heap.objs.size:=let ⟨_,hn,_⟩:=I.loc; hn.lt
theorem Inv.sz(I:Inv X pins σ H s):X.s₀.heap.objs.size<=s.heap.objs.size:=y0d I.ok.above (y2r I.lt)
theorem Inv.nofs(I:Inv X pins σ H s)(h:s.heap.objs.size<=a):a∉X.fs:=fun hb=>by
 obtain⟨_,o,q,_⟩:=I.ok.funs.mem hb;exact absurd (yw (ym q) (y0d I.sz h)) (y1o _)
theorem Inv.cne(I:Inv X pins σ H s):∀x c,X.env.cells.lookup x=some c->c≠X.env.locals:=fun x c e z=>by
 obtain⟨v,o,F,hd⟩:=I.cell x c e;obtain⟨m,⟨o',es,ep,q,B,_⟩,_⟩:=I.loc;rw[z,q] at F; cases F; rw[B] at hd; cases hd
theorem Inv.funs(I:Inv X pins σ H s):s.heap.FunFrames X.base X.outer:=by
 have F:∀(l:List Env),(∀b∈frs l,b∈X.fs)->X.s₀.heap.FunFrames X.base l->s.heap.FunFrames X.base l:=by
  intro l;induction l with
  |nil=>intro _ _; trivial
  |cons env r J=>
   intro G hl;obtain⟨hk,⟨L,o,q,U,O,hd⟩,M⟩:=hl;have B:L∈X.fs:=G L (by unfold frs; rw[y30,q]; exact y02);obtain⟨Z,e⟩:=I.base.slot L o O (I.ok.frf L B) B fun z=>I.ok.exfs L z B;exact⟨hk,⟨L,_,q,U,e,hd⟩,J (fun b hb=>G b (by unfold frs; rw[y30,q]; exact yb _ hb)) M⟩
 exact F X.outer (fun _ hb=>hb) I.ok.funs
theorem Inv.stack(I:Inv X pins σ H s):s.heap.FunFrames X.base X.stack:=by
 rcases I.ok.stk with e|⟨e,z⟩
 ·rw[e]; exact I.funs
 ·rw[e];obtain⟨m,q,_⟩:=I.loc;refine .cons (by rw[I.ok.kind]; decide) z q ?_ I.funs;exact Heap.get?_none_of_le (y0d I.ok.bsz I.ok.above)
theorem Inv.stkSub(I:Inv X pins σ H s):∀b∈frs X.stack,b∈X.env.locals::X.fs:=fun b hb=>by
 rcases I.ok.stk with e|⟨e,q⟩
 ·rw[e] at hb; exact yb _ hb
 ·rw[e] at hb;unfold frs at hb;rw[y30,q] at hb;exact hb
theorem Inv.stkFree(I:Inv X pins σ H s):∀b∈frs X.stack,H b=none:=fun b hb=>by
 rcases List.mem_cons.mp (I.stkSub b hb) with e|hb
 ·rw[e]; exact I.free
 ·obtain⟨_,o,q,_⟩:=I.ok.funs.mem hb;exact I.base.free b o q (I.ok.frf b hb) fun z=>I.ok.exfs b z hb
theorem Inv.step{g':Array GenState}{t':Nat}{d':Drawn}{ch:List Addr}(I:Inv X pins σ H s)
  (F:∀b∈ch,(b∈X.ex\/X.s₀.heap.objs.size<=b)/\b≠X.env.locals/\(∀x c,X.env.cells.lookup x=some c->c≠b)/\∀p∈X.pn++pins,p.1≠b)
  (keep:∀b o,b≠X.env.locals->b∉X.fs->b∉ch->s.heap.get? b=some o->H b=none->h'.get? b=some o)
  (slot:∀b o,b≠X.env.locals->b∈X.fs->b∉ch->s.heap.get? b=some o->H b=none->∃sl,h'.get? b=some {o with slots:=sl}) (free:∀b o,b∉ch->s.heap.get? b=some o->H b=none->H' b=none)
  (there:∀b o,b∉ch->s.heap.get? b=some o->∃o',h'.get? b=some o')
  (tups:∀b xs,H b=some (.tup xs)->H' b=some (.tup xs)) (frzs:∀b o u,H b=some (.frz o u)->H' b=some (.frz o u)) (tbls:∀b ps,H b=some (.tbl ps)->∃Z,H' b=some (.tbl (ps++Z)))
  (ns:∀m,s.heap.Ns X.env.locals m->h'.Ns X.env.locals m) (ac:HOk X.prog X.w H' h') (hg:AllBare g') :
  Inv X pins σ H' {s with heap:=h',gens:=g',drawn:=d',toks:=t'}:=by
 have U:∀b o,X.s₀.heap.get? b=some o->b≠X.env.locals:=fun b o e=>y0m (yw (ym e) I.ok.above);have J:∀b o,X.s₀.heap.get? b=some o->b∉X.ex->b∉ch:=fun b o e hx hb=>by
  rcases(F b hb).1 with z|z
  ·exact hx z
  ·exact absurd (yw (ym e) z) (y1o _)
 have G:∀x c,X.env.cells.lookup x=some c->∀v,s.heap.IsCell c v->h'.IsCell c v:=fun x c e v ⟨o,O,hd⟩=>by
  have B:c∉ch:=fun z=>(F c z).2.2.1 x c e rfl;by_cases hc:c∈X.fs
  ·obtain⟨sl,q⟩:=slot c o (I.cne x c e) hc B O (I.freeC x c e);exact⟨_,q,hd⟩
  ·exact⟨o,keep c o (I.cne x c e) hc B O (I.freeC x c e),hd⟩
 refine⟨I.ok,I.os,hg,⟨fun b o e n hb hx=>?_,fun b o e n hb hx=>?_,fun b o e n hx=>?_,fun b o e hx=>?_,fun b xs e=>tups b xs (I.base.tups b xs e),fun b o xs e=>frzs b o xs (I.base.frzs b o xs e),fun b ps e=>?_⟩,?_,fun x c e=>?_,?_,fun x c e=>?_,fun p hp=>?_,ac,I.len⟩
 ·exact keep b o (U b o e) hb (J b o e hx) (I.base.keep b o e n hb hx) (I.base.free b o e n hx)
 ·obtain⟨sl,M⟩:=I.base.slot b o e n hb hx;obtain⟨aa,e2⟩:=slot b _ (U b o e) hb (J b o e hx) M (I.base.free b o e n hx);exact⟨aa,e2⟩
 ·obtain⟨o',M⟩:=I.base.there b o e hx;exact free b o' (J b o e hx) M (I.base.free b o e n hx)
 ·obtain⟨o',M⟩:=I.base.there b o e hx;exact there b o' (J b o e hx) M
 ·obtain⟨m1,M⟩:=I.base.tbls b ps e;obtain⟨m2,e2⟩:=tbls b _ M;exact⟨m1++m2,by rw[e2,Array.append_assoc]⟩
 ·obtain⟨m,hn,hl⟩:=I.loc;refine⟨m,ns m hn,fun i x v M e2 e3=>?_⟩;obtain⟨u,r,l⟩:=hl i x v M e2 e3;refine⟨u,r,?_⟩;rcases l with l|⟨k,c,e,z⟩
  ·exact .inl l
  ·exact .inr ⟨k,c,e,G x c e _ z⟩
 ·obtain⟨v,z⟩:=I.cell x c e;exact⟨v,G x c e v z⟩
 ·obtain⟨m,⟨o,_,_,O,_⟩,_⟩:=I.loc;exact free _ o (fun z=>(F _ z).2.1 rfl) O I.free
 ·obtain⟨v,o,O,hd⟩:=I.cell x c e;exact free c o (fun z=>(F c z).2.2.1 x c e rfl) O (I.freeC x c e)
 ·obtain⟨e,n,ne,nf,d⟩:=I.pin p hp;have B:p.1∉ch:=fun z=>(F p.1 z).2.2.2 p hp rfl;exact⟨keep p.1 p.2 ne nf B e n,free p.1 p.2 B e n,ne,nf,d⟩
theorem Inv.un{t':Nat}(I:Inv X pins σ H s)(u:Un X.fs [] H H' s.heap h')(B:HOk X.prog X.w H' h'):Inv X pins σ H' {s with heap:=h',toks:=t'}:=by
 obtain⟨m,⟨o,es,ep,J,r⟩,_⟩:=id I.loc;obtain⟨U,O⟩:=u.any J I.free (by simp);exact I.step (g':=s.gens) (d':=s.drawn) (ch:=[]) (fun _ z=>nomatch z) (fun b o _ hb _ e n=>u.keep b o e n hb (by simp)) (fun b o _ hb _ e n=>u.slot b o e n hb (by simp)) (fun b o _ e n=>u.free b o e n (by simp)) (fun b o _ e=>u.there b o e (by simp)) u.tups u.frzs u.tbls (fun Z hm=>by
  obtain⟨o',F,G,q,M⟩:=hm
  rw[J] at q; cases q
  exact⟨_,F,G,O,M⟩) B I.bare
theorem Inv.call{g':Array GenState}{t':Nat}{d':Drawn}{ch:List Addr}(I:Inv X pins σ H s)(u:Un (frs X.stack) ch H H' s.heap h')(F:HOk X.prog X.w H' h')(Z:AllBare g')
  (B:∀b∈ch,(b∈X.ex\/X.s₀.heap.objs.size<=b)/\b≠X.env.locals/\(∀x c,X.env.cells.lookup x=some c->c≠b)/\∀p∈X.pn++pins,p.1≠b) :
  Inv X pins σ H' {s with heap:=h',gens:=g',drawn:=d',toks:=t'}:=by
 obtain⟨m,⟨o,es,ep,O,r⟩,_⟩:=id I.loc;obtain⟨sl,G⟩:=u.any O I.free fun z=>(B _ z).2.1 rfl;exact I.step (ch:=ch) B (fun b o G hb hc e n=>u.keep b o e n (fun z=>(List.mem_cons.mp (I.stkSub b z)).elim G hb) hc) (fun b o _ _ hc e n=>u.any e n hc) (fun b o hc e n=>u.free b o e n hc) (fun b o hc e=>u.there b o e hc) u.tups u.frzs u.tbls (fun m' hm=>by
  obtain⟨o',J,M,q,U⟩:=hm
  rw[O] at q; cases q
  exact⟨_,J,M,G,U⟩) F Z
theorem Inv.turned{t':Nat}{B:Addr}(I:Inv X pins σ H s)(k:∀b o,b≠B->s.heap.get? b=some o->h'.get? b=some o)(M:H B=none)(G:B≠X.env.locals)
  (h1:B∈X.ex\/X.s₀.heap.objs.size<=B) (h2:∀x c,X.env.cells.lookup x=some c->c≠B) (O:∀p∈X.pn++pins,p.1≠B):Inv X pins σ H {s with heap:=h',toks:=t'}:=by
 have F:∀b u,H b=some u->b≠B:=fun b u e z=>by rw[z,M] at e; cases e
 refine I.step (g':=s.gens) (d':=s.drawn) (ch:=[B]) (fun b hb=>?_) (fun b o _ _ hc e _=>k b o (fun z=>hc (by simp[z])) e) (fun b o _ _ hc e _=>⟨o.slots,k b o (fun z=>hc (by simp[z])) e⟩) (fun _ _ _ _ n=>n)
  (fun b o hc e=>⟨o,k b o (fun z=>hc (by simp[z])) e⟩) (fun _ _ e=>e) (fun _ _ _ e=>e) (fun b ps e=>⟨#[],by rw[e]; simp⟩) (fun m hm=>?_) (fun b u e=>?_) I.bare
 ·have e:b=B:=by simpa using hb
  subst e;exact⟨h1,G,h2,O⟩
 ·obtain⟨o,es,ep,J,r⟩:=hm;exact⟨o,es,ep,k _ o (y2t G) J,r⟩
 ·refine(I.hok b u e).stay (fun c v hc q=>k c v ?_ q) (fun _ q=>q) fun _ _ q=>q;rcases hc with z|z
  ·rw[z]; exact F b u e
  ·exact F c _ z
theorem Inv.tok(I:Inv X pins σ H s)(t:Nat):Inv X pins σ H {s with toks:=t}:=I.un (h':=s.heap) (t':=t) Un.refl I.hok
theorem Inv.kept{t':Nat}(I:Inv X pins σ H s)(k:∀b u,s.heap.get? b=some u->h'.get? b=some u):Inv X pins σ H {s with heap:=h',toks:=t'}:=I.un (Un.kept k) (I.hok.kept k)
theorem Inv.laid{t':Nat}(I:Inv X pins σ H s)(k:∀b u,s.heap.get? b=some u->h'.get? b=some u)(z:s.heap.objs.size<=a)(q:ObjOk X.prog X.w (upd H a o) h' a o) :
  Inv X pins σ (upd H a o) {s with heap:=h',toks:=t'}:=I.un (Un.laid k z (I.hok.fresh z)) (I.hok.laid k z q)
theorem Inv.write{t':Nat}(I:Inv X pins σ H s)(B:Mut (H x))(F:e=x\/H e=some (.own x))(k:∀b u,b≠e->s.heap.get? b=some u->h'.get? b=some u)(q:∃u,h'.get? e=some u)
  (z:ObjOk X.prog X.w (upd H x o) h' x o):Inv X pins σ (upd H x o) {s with heap:=h',toks:=t'}:=I.un (Un.write B F k q) (I.hok.write B F k q z)
theorem Inv.pins_of(I:Inv X pins σ H s)(h:∀p∈pins',s.heap.get? p.1=some p.2/\H p.1=none/\p.1≠X.env.locals/\p.1∉X.fs/\∀v,p.2.data≠.cell v):Inv X pins' σ H s:=
 ⟨I.ok,I.os,I.bare,I.base,I.loc,I.cell,I.free,I.freeC,fun p q=>(List.mem_append.mp q).elim (fun z=>I.pin p (y10 _ z)) (h p),I.hok,I.len⟩
theorem I9{N:List Str}(q:N.Nodup){i j:Nat}{x:Str}(a:N[i]?=some x)(b:N[j]?=some x):i=j:=by
 obtain⟨h1,B⟩:=List.getElem?_eq_some_iff.mp a;obtain⟨h2,z⟩:=List.getElem?_eq_some_iff.mp b;exact(List.getElem_inj q).mp (B.trans z.symm)
theorem Lj{M:Model}{A:y05}{E:y9->y6->Prop}{i:Nat}{x:Str}{v:V}{u:y9}{Q:Unit->y6->Prop}(I:Inv X pins σ H s)(hN:X.N.Nodup)(hi:X.N[i]?=some x)(hx:Loc X.env.scope x)(r:RelV v u)
  (h:∀s',Inv X pins (σ.set i (some v)) H s'->(∃a,Heap.SameBut a s.heap s'.heap/\(a=X.env.locals\/X.env.cells.lookup x=some a))->Q () s') (hf:X.fn x=true\/X.env.scope.names.lookup x=some .local:=by first|exact .inl rfl|exact .inr rfl|assumption):y0j M A (storeName X.env x u) Q E s:=by
 obtain⟨m,hn,hl⟩:=id I.loc;have af:(X.env.scope.kind==.class || (X.env.scope.kind==.module&&X.env.locals !=X.env.globals))=false:=by rw[I.ok.kind]; rfl
 have U:i<σ.length:=by rw[I.len]; exact(List.getElem?_eq_some_iff.mp hi).1
 have cne:=I.cne;have F:∀{a:Addr} {h':Heap},(∃o,s.heap.get? a=some o/\H a=none)->Heap.SameBut a s.heap h'->HOk X.prog X.w H h':=fun {a h'} ha B b ob e=>by
  obtain⟨_,_,J⟩:=ha;refine(I.hok b ob e).stay (fun c w' hc q=>(B.2 c ?_).trans q) (fun _ q=>q) fun _ _ q=>q;rintro rfl;rcases hc with rfl|hc
  ·rw[J] at e; cases e
  ·rw[J] at hc; cases hc
 rcases hx with hk|hk
 ·refine wpAny_storeName_local hk hn (fun h' ak B=>?_) af;obtain⟨oL,_,_,aj,_⟩:=id hn;refine h _ ⟨I.ok,I.os,I.bare,⟨fun b o e n hb hx=>?_,fun b o e n hb hx=>?_,I.base.free,fun b o e hx=>?_,I.base.tups,I.base.frzs,I.base.tbls⟩,⟨_,ak,fun j y v' G O e3=>?_⟩,fun y c e=>?_,I.free,I.freeC,fun p hp=>?_,F ⟨oL,aj,I.free⟩ B,by simpa using I.len⟩ ⟨_,B,.inl rfl⟩
  ·exact(B.2 b (y0m (yw (ym e) I.ok.above))).trans (I.base.keep b o e n hb hx)
  ·obtain⟨sl,G⟩:=I.base.slot b o e n hb hx;exact⟨sl,(B.2 b (y0m (yw (ym e) I.ok.above))).trans G⟩
  ·obtain⟨o',G⟩:=I.base.there b o e hx;exact⟨o',(B.2 b (y0m (yw (ym e) I.ok.above))).trans G⟩
  ·by_cases Z:j=i
   ·subst Z;rw[hi] at G; cases G;rw[y21 U] at O;cases O;exact⟨u,r,.inl ⟨hk,by simp⟩⟩
   ·rw[y2u (y2t Z)] at O;obtain⟨u',r',q⟩:=hl j y v' G O e3;refine⟨u',r',?_⟩;rcases q with⟨k,e⟩|⟨k,c,e,z⟩
    ·refine .inl ⟨k,?_⟩;have:y≠x:=fun e=>Z (I9 hN G (e ▸ hi));simp[this,e]
    ·exact .inr ⟨k,c,e,z.sameBut B (cne y c e)⟩
  ·obtain⟨w',z⟩:=I.cell y c e;exact⟨w',z.sameBut B (cne y c e)⟩
  ·obtain⟨e,n,ne,nf,d⟩:=I.pin p hp;exact⟨(B.2 p.1 ne).trans e,n,ne,nf,d⟩
 ·have aa:X.fn x=true:=by
   rcases hf with z|z
   ·exact z
   ·rw[z] at hk; cases hk
  obtain⟨c,hc⟩:=I.ok.has x (.inl hk);obtain⟨w',z⟩:=I.cell x c hc;refine wpAny_storeName_cell I.ok.kind hk hc z (fun h' ah B=>?_);obtain⟨oc,ae,ac⟩:=id z;refine h {s with heap:=h'} ⟨I.ok,I.os,I.bare,⟨fun b o e n hb hx=>?_,fun b o e n hb hx=>?_,I.base.free,fun b o e hx=>?_,I.base.tups,I.base.frzs,I.base.tbls⟩,⟨m,hn.sameBut B (y2t (cne x c hc)),fun j y v' G O e3=>?_⟩,fun y c' e=>?_,I.free,I.freeC,fun p hp=>?_,F ⟨oc,ae,I.freeC x c hc⟩ B,by simpa using I.len⟩ ⟨c,B,.inr hc⟩
  ·exact(B.2 b (y0m (yw (ym e) (I.ok.cab x c aa hc)))).trans (I.base.keep b o e n hb hx)
  ·obtain⟨sl,G⟩:=I.base.slot b o e n hb hx;exact⟨sl,(B.2 b (y0m (yw (ym e) (I.ok.cab x c aa hc)))).trans G⟩
  ·obtain⟨o',G⟩:=I.base.there b o e hx;exact⟨o',(B.2 b (y0m (yw (ym e) (I.ok.cab x c aa hc)))).trans G⟩
  ·by_cases Z:j=i
   ·subst Z;rw[hi] at G; cases G;rw[y21 U] at O;cases O;exact⟨u,r,.inr ⟨.inl hk,c,hc,ah⟩⟩
   ·rw[y2u (y2t Z)] at O;obtain⟨u',r',q⟩:=hl j y v' G O e3;refine⟨u',r',?_⟩;rcases q with q|⟨k,c',e,z'⟩
    ·exact .inl q
    ·refine .inr ⟨k,c',e,z'.sameBut B ?_⟩;rintro rfl;exact Z (I9 hN G (I.ok.inj _ _ _ e hc ▸ hi))
  ·by_cases ag:c'=c
   ·subst ag; exact⟨_,ah⟩
   ·obtain⟨w2,z2⟩:=I.cell y c' e;exact⟨w2,z2.sameBut B ag⟩
  ·obtain⟨e,n,ne,nf,d⟩:=I.pin p hp;refine⟨(B.2 p.1 ?_).trans e,n,ne,nf,d⟩;intro q;rw[q,ae] at e;have q':oc=p.2:=y0n e;exact d w' (by rw[<- q']; exact ac)
theorem Fs{E:y9->y6->Prop}{Q:Unit->y6->Prop}(I:Inv X pins σ H s)(z:X.N.Nodup)(hi:X.N[i]?=some x)(hx:Loc X.env.scope x)(r:RelV v u)
  (h:∀s',Inv X pins (σ.set i (some v)) H s'->Q () s') (q:X.fn x=true\/X.env.scope.names.lookup x=some .local:=by first|exact .inl rfl|exact .inr rfl|assumption):y0j M A (storeName X.env x u) Q E s:=
 Lj I z hi hx r (fun s' B _=>h s' B) q
theorem Inv.call'(I:Inv X pins σ H s)(B:s'.os=s.os)(u:Un (frs X.stack) ch H H' s.heap s'.heap)(q:HOk X.prog X.w H' s'.heap)(F:AllBare s'.gens)
  (z:∀b∈ch,(b∈X.ex\/X.s₀.heap.objs.size<=b)/\b≠X.env.locals/\(∀x c,X.env.cells.lookup x=some c->c≠b)/\∀p∈X.pn++pins,p.1≠b):Inv X pins σ H' s':=by
 obtain⟨h',g',d',t',o'⟩:=s';have e:o'=s.os:=B;subst e;exact I.call (g':=g') (t':=t') (d':=d') u q F z
end
abbrev XK:=y9->Option Addr->Hp->Prop
abbrev St:=List (Option V)
abbrev VK:=V->Hp->Prop
abbrev TE:=St->Hp->VK->Prop
abbrev TT:=St->Hp->(Bool->Hp->Prop)->Prop
abbrev TA:=St->Hp->(List V->Hp->Prop)->Prop
structure Ends where
 nx:St->Hp->Prop
 rt:VK
 bk:St->Hp->Prop:=fun _ _=>False
 ct:St->Hp->Prop:=fun _ _=>False
abbrev TS:=Ends->St->Hp->Prop
noncomputable def EP(X:Cx)(pins:List (Addr×Obj))(σ:St)(Q:VK)(u:y9)(s':y6):Prop:=∃v H',Inv X pins σ H' s'/\RelV v u/\Q v H'
noncomputable def TP(X:Cx)(pins:List (Addr×Obj))(σ:St)(Q:Bool->Hp->Prop)(b:Bool)(s':y6):Prop:=∃H',Inv X pins σ H' s'/\Q b H'
noncomputable def AP(X:Cx)(pins:List (Addr×Obj))(σ:St)(Q:List V->Hp->Prop)(us:List y9)(s':y6):Prop:=∃vs H',Inv X pins σ H' s'/\Vals vs us/\Q vs H'
noncomputable def SP(X:Cx)(pins:List (Addr×Obj))(D:Ends)(f:Flow)(s':y6):Prop:=
 match f with
 |.next=>∃ q H',Inv X pins q H' s'/\D.nx q H'
 |.brk=>∃ q H',Inv X pins q H' s'/\D.bk q H'
 |.cont=>∃ q H',Inv X pins q H' s'/\D.ct q H'
 |.ret u=>∃v q H',Inv X pins q H' s'/\RelV v u/\D.rt v H'
abbrev PEv(X:Cx)(e:Expr)(t:TE):Prop:=
 ∀(pins:List (Addr×Obj)) (s:y6) (σ:St) (H:Hp) (Q:VK),Inv X pins σ H s->t σ H Q->y0j (y0e X.prog X.w) X.A (eval e X.env) (EP X pins σ Q) X.xe s
structure PE(X:Cx)(e:Expr)(t:TE):Prop where
 run:PEv X e t
instance{X:Cx}{e:Expr}{t:TE}:CoeFun (PE X e t) (fun _=>PEv X e t):=⟨PE.run⟩
abbrev PTv(X:Cx)(e:Expr)(t:TT):Prop:=
 ∀(pins:List (Addr×Obj)) (s:y6) (σ:St) (H:Hp) (Q:Bool->Hp->Prop),Inv X pins σ H s->t σ H Q->y0j (y0e X.prog X.w) X.A (isTrue e X.env (eval e X.env)) (TP X pins σ Q) X.xe s
structure PT(X:Cx)(e:Expr)(t:TT):Prop where
 run:PTv X e t
instance{X:Cx}{e:Expr}{t:TT}:CoeFun (PT X e t) (fun _=>PTv X e t):=⟨PT.run⟩
abbrev PWv(X:Cx)(e:Expr)(t:TT):Prop:=
 ∀(q:Sem y9) (pins:List (Addr×Obj)) (s:y6) (σ:St) (H:Hp) (Q:Bool->Hp->Prop),Inv X pins σ H s->t σ H Q->y0j (y0e X.prog X.w) X.A (isTrue e X.env q) (TP X pins σ Q) X.xe s
structure PW(X:Cx)(e:Expr)(t:TT):Prop where
 run:PWv X e t
instance{X:Cx}{e:Expr}{t:TT}:CoeFun (PW X e t) (fun _=>PWv X e t):=⟨PW.run⟩
theorem PW.pt(h:PW X e t):PT X e t:=⟨h.run _⟩
abbrev PAv(X:Cx)(es:List Expr)(t:TA):Prop:=
 ∀(pos:Pos) (pins:List (Addr×Obj)) (s:y6) (σ:St) (H:Hp) (Q:List V->Hp->Prop),Inv X pins σ H s->t σ H Q->y0j (y0e X.prog X.w) X.A (spliced (backTo pos (starEach es X.env))) (AP X pins σ Q) X.xe s
structure PA(X:Cx)(es:List Expr)(t:TA):Prop where
 run:PAv X es t
instance{X:Cx}{es:List Expr}{t:TA}:CoeFun (PA X es t) (fun _=>PAv X es t):=⟨PA.run⟩
abbrev PSv(X:Cx)(st:Stmt)(t:TS):Prop:=
 ∀(pins:List (Addr×Obj)) (s:y6) (σ:St) (H:Hp) (D:Ends),Inv X pins σ H s->t D σ H->y0j (y0e X.prog X.w) X.A (exec st X.env) (SP X pins D) X.xe s
structure PS(X:Cx)(st:Stmt)(t:TS):Prop where
 run:PSv X st t
instance{X:Cx}{st:Stmt}{t:TS}:CoeFun (PS X st t) (fun _=>PSv X st t):=⟨PS.run⟩
abbrev PSsv(X:Cx)(st:List Stmt)(t:TS):Prop:=
 ∀(pins:List (Addr×Obj)) (s:y6) (σ:St) (H:Hp) (D:Ends),Inv X pins σ H s->t D σ H->y0j (y0e X.prog X.w) X.A (execs st X.env) (SP X pins D) X.xe s
structure PSs(X:Cx)(st:List Stmt)(t:TS):Prop where
 run:PSsv X st t
instance{X:Cx}{st:List Stmt}{t:TS}:CoeFun (PSs X st t) (fun _=>PSsv X st t):=⟨PSs.run⟩
theorem thn{q:Type}{t:Sem q}{Q z:q->y6->Prop}{M:Model}{A:y05}{E:y9->y6->Prop}{s:y6}(h:y0j M A t Q E s)(B:∀a s,Q a s->z a s):y0j M A t z E s:=y1d h B fun _ _ x=>x
section
variable{X:Cx}
noncomputable def isI(x:V)(P:Int->Prop):Prop:=match x with|.int i=>P i|_=>False
noncomputable def isBl(x:V)(P:Bool->Prop):Prop:=match x with|.bl i=>P i|_=>False
noncomputable def isRf(x:V)(P:Addr->Prop):Prop:=match x with|.ref i=>P i|_=>False
theorem IA{P:Int->Prop}:isI (.int i) P=P i:=rfl
theorem IB{P:Bool->Prop}:isBl (.bl i) P=P i:=rfl
theorem IC{P:Addr->Prop}:isRf (.ref i) P=P i:=rfl
theorem isI.o{x:V}{P:Int->Prop}(h:isI x P):∃i,x=.int i/\P i:=by
 cases x<;>first|exact h.elim|exact⟨_,rfl,h⟩
theorem isBl.o{P:Bool->Prop}(h:isBl x P):∃i,x=.bl i/\P i:=by
 cases x<;>first|exact h.elim|exact⟨_,rfl,h⟩
theorem isRf.o{x:V}{P:Addr->Prop}(h:isRf x P):∃i,x=.ref i/\P i:=by
 cases x<;>first|exact h.elim|exact⟨_,rfl,h⟩
theorem ID{P:Int->Prop}:isI x P=∃i,x=.int i/\P i:=propext ⟨isI.o,fun⟨i,e,h⟩=>by subst e; exact h⟩
theorem IE{P:Bool->Prop}:isBl x P=∃i,x=.bl i/\P i:=propext ⟨isBl.o,fun⟨i,e,h⟩=>by subst e; exact h⟩
theorem IF{P:Addr->Prop}:isRf x P=∃i,x=.ref i/\P i:=propext ⟨isRf.o,fun⟨i,e,h⟩=>by subst e; exact h⟩
noncomputable def atS:Nat->St->(V->Prop)->Prop
 |0,some v::_,P=>P v
 |i+1,_::σ,P=>atS i σ P
 |_,_,_=>False
theorem IG{P:V->Prop}:atS 0 (some v::σ) P=P v:=rfl
theorem IH{P:V->Prop}:atS (i+1) (x::σ) P=atS i σ P:=rfl
theorem isV.o:∀{i:Nat} {σ:St} {P:V->Prop},atS i σ P->∃v,σ[i]?=some (some v)/\P v
 |0,some v::_,_,h=>⟨v,rfl,h⟩
 |i+1,_::σ,P,h=>by
  obtain⟨v,e,h⟩:=isV.o (i:=i) (σ:=σ) h;exact⟨v,by simpa using e,h⟩
 |0,[],_,h=>h.elim
 |0,none::_,_,h=>h.elim
 |_+1,[],_,h=>h.elim
theorem isV.i:∀{i:Nat} {σ:St} {v:V} {P:V->Prop},σ[i]?=some (some v)->P v->atS i σ P
 |0,some v::_,_,_,e,h=>by
  have e:some (some v)=some (some _):=e;cases e; exact h
 |i+1,_::σ,v,P,e,h=>isV.i (i:=i) (σ:=σ) (by simpa using e) h
 |0,[],_,_,e,_=>by simp at e
 |0,none::_,_,_,e,_=>by simp at e
 |_+1,[],_,_,e,_=>by simp at e
theorem II{P:V->Prop}:atS i σ P=∃v,σ[i]?=some (some v)/\P v:=propext ⟨isV.o,fun⟨_,e,h⟩=>isV.i e h⟩
noncomputable def Bc:Nat->V->St->(St->Prop)->Prop
 |0,v,_::σ,Q=>Q (some v::σ)
 |i+1,v,x::σ,Q=>Bc i v σ fun q=>Q (x::q)
 |_,_,[],Q=>Q []
theorem IJ{Q:St->Prop}:Bc 0 v (x::σ) Q=Q (some v::σ):=rfl
theorem IK{Q:St->Prop}:Bc (i+1) v (x::σ) Q=Bc i v σ fun q=>Q (x::q):=rfl
theorem D5:∀{i:Nat} {v:V} {σ:St} {Q:St->Prop},Bc i v σ Q=Q (σ.set i (some v))
 |0,v,_::σ,Q=>rfl
 |i+1,v,x::σ,Q=>by rw[Bc,D5 (i:=i)]; rfl
 |0,_,[],Q=>rfl
 |i+1,_,[],Q=>rfl
theorem IL{q z:Type}{f:q->z}{a:q}{l:List q}:List.map f (a::l)=f a::List.map f l:=rfl
theorem IM{z q:Type}{f:z->q}:List.map f []=[]:=rfl
theorem IN{q:Type}:(a::l).length=l.length+1:=rfl
theorem IP{q:Type}:([]:List q).length=0:=rfl
theorem IQ{q:Type}:(a::l)++r=a::(l++r):=rfl
theorem IR{q:Type}:[]++r=r:=rfl
noncomputable def D6(i:Nat):TE:=fun σ H Q=>atS i σ fun v=>Q v H
noncomputable def tC(v:V):TE:=fun _ H Q=>Q v H
theorem AX(J:X.N[i]?=some x)(F:Vis X.env.scope x) (hd:(x==("__debug__" : Str))=false:=by decide) (B:(x==("__classdict__" : Str))=false:=by decide):PE X (.Name x pos) (D6 i):=by
 refine⟨?_⟩;intro pins s σ H Q I h;obtain⟨v,e,h⟩:=isV.o h;obtain⟨m,G,hl⟩:=I.loc;obtain⟨u,r,l⟩:=hl i x v J e F;have z:EP X pins σ Q u s:=⟨v,H,I,r,h⟩;rcases l with⟨hk,hm⟩|⟨hk,c,hc,q⟩
 ·exact wpAny_Name (wpAny_loadName_local I.ok.kind hk G hm z) hd
 ·rcases hk with hk|hk
  ·exact wpAny_Name (wpAny_loadName_cell I.ok.kind hk hc q z) hd
  ·exact wpAny_Name (wpAny_loadName_free I.ok.kind hk hc q z B) hd
theorem A3{i j pos}:PE X (.Constant (.int i) j pos) (tC (.int i)):=⟨fun _ _ _ H _ I h=>wpAny_Constant_int ⟨.int i,H,I.tok _,⟨_,rfl⟩,h⟩⟩
theorem B7{b j pos}:PE X (.Constant (.bool b) j pos) (tC (.bl b)):=⟨fun _ _ _ H _ I h=>Constant_bool ⟨.bl b,H,I,rfl,h⟩⟩
theorem Cd{j pos}:PE X (.Constant .none j pos) (tC .non):=⟨fun _ _ _ H _ I h=>Constant_none ⟨.non,H,I,rfl,h⟩⟩
theorem AA{x j pos}:PE X (.Constant (.str x) j pos) (tC (.str x)):=⟨fun _ _ _ H _ I h=>Calls.Constant_str ⟨.str x,H,I.tok _,⟨_,rfl⟩,h⟩⟩
noncomputable def Gl(X:Cx)(x:Str):Prop:=X.env.kindOf x=some .globalImplicit
theorem Dz{E:y9->y6->Prop}{Q:y9->y6->Prop}(I:Inv X pins σ H s)(q:Gl X x)(hm:X.mg x=some u)(h:Q u s)
  (hd:(x==("__debug__" : Str))=false:=by decide):y0j (y0e X.prog X.w) X.A (eval (.Name x pos) X.env) Q E s:=
 Calls.Name_function_global I.ok.kind q (Calls.loadGlobal_global (by rw[I.ok.glob]; exact I.mod.glob.keeps I.bk) hm h) hd
theorem E1{E:y9->y6->Prop}{Q:y9->y6->Prop}(I:Inv X pins σ H s)(B:Gl X x)(hm:X.mg x=none)(q:bootBuiltins x=some u)(h:Q u s)
  (z:x≠"__name__":=by decide) (hd:(x==("__debug__" : Str))=false:=by decide):y0j (y0e X.prog X.w) X.A (eval (.Name x pos) X.env) Q E s:=by
 obtain⟨F,h1,h2⟩:=I.mod.blt;exact Calls.Name_function_global I.ok.kind B (Calls.loadGlobal_builtin (by rw[I.ok.glob]; exact I.mod.glob.keeps I.bk) hm (by rw[I.ok.blt]; exact h1.keeps I.bk) ((h2 x z).trans q) h) hd
theorem E2(q:Gl X x)(hm:X.mg x=some u)(r:RelV v u) (hd:(x==("__debug__" : Str))=false:=by decide):PE X (.Name x pos) (tC v):=
 ⟨fun _ _ _ H _ I h=>Dz I q hm ⟨v,H,I,r,h⟩ hd⟩
theorem DU(B:Gl X x)(hm:X.mg x=none)(q:bootBuiltins x=some u)(r:RelV v u) (z:x≠"__name__":=by decide) (hd:(x==("__debug__" : Str))=false:=by decide):PE X (.Name x pos) (tC v):=
 ⟨fun _ _ _ H _ I h=>E1 I B hm q ⟨v,H,I,r,h⟩ z hd⟩
variable{a b:Expr}{ta tb:TE}{pos:Pos}
abbrev PCv(X:Cx)(op:CmpOp)(a b:Expr)(t:TE):Prop:=
 ∀(pins:List (Addr×Obj)) (s:y6) (σ:St) (H:Hp) (Q:VK),Inv X pins σ H s->t σ H Q->
  y0j (y0e X.prog X.w) X.A (eval a X.env) (fun v z=>y0j (y0e X.prog X.w) X.A (eval b X.env) (fun u q=>y0j (y0e X.prog X.w) X.A (y0c op v u) (EP X pins σ Q) X.xe q) X.xe z) X.xe s
structure PC(X:Cx)(op:CmpOp)(a b:Expr)(t:TE):Prop where
 run:PCv X op a b t
instance{X:Cx}{op:CmpOp}{a b:Expr}{t:TE}:CoeFun (PC X op a b t) (fun _=>PCv X op a b t):=⟨PC.run⟩
noncomputable def tB(t:TE):TT:=fun σ H Q=>t σ H fun x H1=>isBl x fun c=>Q c H1
theorem Ah{e:Expr}{t:TE}(h:PE X e t)(he:∀whole,isTrue e X.env whole=(do let v <- whole; standAt e.pos; holding [v] (truthy v)):=by intro _; rfl):PT X e (tB t):=by
 refine⟨?_⟩
 intro pins s σ H Q I hw
 refine isTrue_plain (thn (h pins s σ H _ I hw) fun v s1 ⟨x,H1,I1,r1,q1⟩=>?_) (he _)
 obtain⟨d,rfl,q⟩:=isBl.o q1
 cases r1
 exact y24 ⟨H1,I1,q⟩
variable{tA tB':TT}{rest:List Expr}
noncomputable def Ft(t u:TT):TT:=fun σ H Q=>t σ H fun c H1=>if c=true then u σ H1 Q else Q false H1
noncomputable def tOr(t u:TT):TT:=fun σ H Q=>t σ H fun c H1=>if c=true then Q true H1 else u σ H1 Q
noncomputable def Fu(t:TT):TT:=fun σ H Q=>t σ H fun c H1=>Q (!c) H1
theorem Q8(ha:PT X a tA):PW X (.BoolOp .And [a] pos) tA:=by
 refine⟨?_⟩;intro q pins s σ H Q I h;refine isTrue_and (thn (ha pins s σ H Q I h) fun c z e=>?_);cases c with
 |true=>exact isTrue_and_nil e
 |false=>exact e
theorem Br(ha:PT X a tA):PW X (.BoolOp .Or [a] pos) tA:=by
 refine⟨?_⟩;intro q pins s σ H Q I h;refine isTrue_or (thn (ha pins s σ H Q I h) fun c z e=>?_);cases c with
 |false=>exact isTrue_or_nil e
 |true=>exact e
theorem Q9(ha:PT X a tA)(hb:PW X (.BoolOp .And (b::rest) pos) tB'):PW X (.BoolOp .And (a::b::rest) pos) (Ft tA tB'):=by
 refine⟨?_⟩;intro B pins s σ H Q I h;refine isTrue_and (thn (ha pins s σ H _ I h) fun c F ⟨H1,z,q⟩=>?_);cases c with
 |true=>exact hb B pins F σ H1 Q z q
 |false=>exact⟨H1,z,q⟩
theorem BC(ha:PT X a tA)(hb:PW X (.BoolOp .Or (b::rest) pos) tB'):PW X (.BoolOp .Or (a::b::rest) pos) (tOr tA tB'):=by
 refine⟨?_⟩;intro B pins s σ H Q I h;refine isTrue_or (thn (ha pins s σ H _ I h) fun c F ⟨H1,z,q⟩=>?_);cases c with
 |true=>exact⟨H1,z,q⟩
 |false=>exact hb B pins F σ H1 Q z q
theorem Au(ha:PT X a tA):PT X (.UnaryOp .Not a pos) (Fu tA):=by
 refine⟨?_⟩;intro pins s σ H Q I h;exact isTrue_not (ha pins s σ H (fun c H1=>Q (!c) H1) I h)
noncomputable def Fv(ta tb:TE):TE:=fun σ H Q=>ta σ H fun x H1=>isBl x fun c=>if c=true then tb σ H1 Q else Q (.bl false) H1
noncomputable def IS(ta tb:TE):TE:=fun σ H Q=>ta σ H fun x H1=>isBl x fun c=>if c=true then Q (.bl true) H1 else tb σ H1 Q
noncomputable def Fw(ta:TE):TE:=fun σ H Q=>ta σ H fun x H1=>isBl x fun c=>Q (.bl (!c)) H1
theorem Bs{op}(h:PE X a t):PE X (.BoolOp op [a] pos) t:=⟨fun pins s σ H Q I hw=>BoolOp_one (h pins s σ H Q I hw)⟩
theorem BP(ha:PE X a ta)(hb:PE X (.BoolOp .And (b::rest) pos) tb):PE X (.BoolOp .And (a::b::rest) pos) (Fv ta tb):=by
 refine⟨?_⟩;intro pins s σ H Q I h;refine BoolOp_and (thn (ha pins s σ H _ I h) fun v B ⟨x,H1,z,F,q⟩=>?_);obtain⟨c,rfl,q⟩:=isBl.o q;cases F;refine y24 ?_;cases c with
 |true=>exact hb pins B σ H1 Q z q
 |false=>exact⟨.bl false,H1,z,rfl,q⟩
theorem QA(ha:PE X a ta):PE X (.UnaryOp .Not a pos) (Fw ta):=by
 refine⟨?_⟩;intro pins s σ H Q I h;refine UnaryOp_ (thn (ha pins s σ H _ I h) fun v F ⟨x,H1,B,z,q⟩=>?_);obtain⟨c,rfl,q⟩:=isBl.o q;cases z;exact not_of (y24 ⟨.bl (!c),H1,B,rfl,q⟩)
noncomputable def tIf(t:TT)(ta tb:TE):TE:=fun σ H Q=>t σ H fun c H1=>if c=true then ta σ H1 Q else tb σ H1 Q
theorem QB{c:Expr}(hc:PT X c tA)(ha:PE X a ta)(hb:PE X b tb):PE X (.IfExp c a b pos) (tIf tA ta tb):=by
 refine⟨?_⟩;intro pins s σ H Q I h;refine wpAny_IfExp (thn (hc pins s σ H _ I h) fun d q ⟨H1,B,z⟩=>?_);cases d with
 |true=>exact ha pins q σ H1 Q B z
 |false=>exact hb pins q σ H1 Q B z
noncomputable def SqL(K:y3)(H:Hp)(a:Addr)(xs:List V):Prop:=
 Rd H a (.lst xs)\/
  ∃(o:Obj) (q:Array y9) (n:Nat),K.lookup a=some o/\o.cls=.type "list"/\o.dict=none/\o.data=.seq q n/\q.size<=yr/\Vals xs q.toList
noncomputable def SqT(K:y3)(H:Hp)(a:Addr)(xs:List V):Prop:=
 Rd H a (.tup xs)\/
  ∃(o:Obj) (q:Array y9) (n:Nat),K.lookup a=some o/\o.cls=.type "tuple"/\o.data=.seq q n/\q.size<=yr/\Vals xs q.toList
noncomputable def QC:y9->Option V
 |.none=>some .non
 |.bool b=>some (.bl b)
 |.int i _=>some (.int i)
 |.str x _=>some (.str x)
 |.bytes b _=>some (.byt b)
 |.float b _=>some (.flt b)
 |.ref a=>some (.ref a)
 |.type n=>some (.ty n)
 |_=>none
theorem RelV.abs(r:RelV x u):QC u=some x:=by
 cases x with
 |non=>cases r; rfl
 |bl _=>cases r; rfl
 |int _=>obtain⟨t,rfl⟩:=r; rfl
 |str _=>obtain⟨t,rfl⟩:=r; rfl
 |byt _=>obtain⟨t,rfl⟩:=r; rfl
 |flt _=>obtain⟨t,rfl⟩:=r; rfl
 |ref _=>cases r; rfl
 |ty _=>cases r; rfl
theorem RelV.inj(r:RelV x u)(q:RelV y u):x=y:=y0n (r.abs.symm.trans q.abs)
theorem Vals.inj:∀{xs ys:List V} {us:List y9},Vals xs us->Vals ys us->xs=ys
 |_,_,_,.nil,.nil=>rfl
 |_,_,_,.cons r t,.cons q t'=>by rw[r.inj q,Vals.inj t t']
end
section
variable{X:Cx}{pins:List (Addr×Obj)}{σ:St}{H:Hp}{s:y6}{a:Addr}{xs ys:List V}
theorem SqL.of{K:y3}(h:H a=some (.lst xs)):SqL K H a xs:=.inl (.inl h)
theorem SqT.of{K:y3}(h:H a=some (.tup xs)):SqT K H a xs:=.inl (.inl h)
theorem Inv.list(I:Inv X pins σ H s)(h:SqL X.K H a xs):∃q:List y9,Vals xs q/\PlainL s.heap a q.toArray/\xs.length<=yr:=by
 rcases h with h|⟨o,q,n,hk,hc,hd,B,hz,r⟩
 ·obtain⟨z,q,n,r,e⟩:=h.ok I.hok;exact⟨q,r,⟨_,n,e,rfl,rfl,rfl⟩,z⟩
 ·refine⟨q.toList,r,⟨o,n,I.kIn a o hk,hc,hd,by simpa using B⟩,?_⟩;have e:=r.length;simp only[y29] at e;lia
theorem Inv.tuple(I:Inv X pins σ H s)(h:SqT X.K H a xs):∃q:List y9,Vals xs q/\IsTup s.heap a q.toArray/\xs.length<=yr:=by
 rcases h with h|⟨o,q,n,hk,hc,B,hz,r⟩
 ·obtain⟨z,q,r,p⟩:=h.ok I.hok;exact⟨q,r,p,z⟩
 ·refine⟨q.toList,r,⟨o,I.kIn a o hk,hc,n,by simpa using B⟩,?_⟩;have e:=r.length;simp only[y29] at e;lia
theorem Inv.list_inj(I:Inv X pins σ H s)(h:SqL X.K H a xs)(h':SqL X.K H a ys):xs=ys:=by
 obtain⟨q,r,⟨o,n,e,_,_,d⟩,_⟩:=I.list h;obtain⟨its',B,⟨o',F,z,_,_,d'⟩,_⟩:=I.list h';rw[e] at z; cases z;rw[d] at d';injection d' with d1 _;have:q=its':=by simpa using congrArg Array.toList d1
 subst this;exact r.inj B
theorem Inv.tuple_inj(I:Inv X pins σ H s)(h:SqT X.K H a xs)(h':SqT X.K H a ys):xs=ys:=by
 obtain⟨q,r,⟨o,e,_,n,d⟩,_⟩:=I.tuple h;obtain⟨its',B,⟨o',z,_,F,d'⟩,_⟩:=I.tuple h';rw[e] at z; cases z;rw[d] at d';injection d' with d1 _;have:q=its':=by simpa using congrArg Array.toList d1
 subst this;exact r.inj B
end
abbrev Cx.wish(X:Cx)(E:y9->y6->Prop):Cx:={X with xe:=E}
abbrev Cx.nox(X:Cx):Cx:=X.wish fun _ _=>False
theorem Cx.Ok.wish{X:Cx}(ok:X.Ok)(E:y9->y6->Prop):(X.wish E).Ok:=
 ⟨ok.mod,ok.kind,ok.glob,ok.blt,ok.above,ok.inj,ok.has,ok.cab,ok.hd,ok.frames,ok.stk,ok.exf,ok.bs,ok.bsz,ok.noex,ok.exfs,ok.funs,ok.frf⟩
theorem Cx.Ok.unwish{X:Cx}{E:y9->y6->Prop}(ok:(X.wish E).Ok):X.Ok:=
 ⟨ok.mod,ok.kind,ok.glob,ok.blt,ok.above,ok.inj,ok.has,ok.cab,ok.hd,ok.frames,ok.stk,ok.exf,ok.bs,ok.bsz,ok.noex,ok.exfs,ok.funs,ok.frf⟩
section
variable{X:Cx}{pins:List (Addr×Obj)}{σ:St}{H:Hp}{s:y6}{E:y9->y6->Prop}
theorem Inv.wish(I:Inv X pins σ H s)(E:y9->y6->Prop):Inv (X.wish E) pins σ H s:=⟨I.ok.wish E,I.os,I.bare,I.base,I.loc,I.cell,I.free,I.freeC,I.pin,I.hok,I.len⟩
theorem Inv.unwish(I:Inv (X.wish E) pins σ H s):Inv X pins σ H s:=⟨I.ok.unwish,I.os,I.bare,I.base,I.loc,I.cell,I.free,I.freeC,I.pin,I.hok,I.len⟩
theorem SP.unwish(h:SP (X.wish E) pins D f s'):SP X pins D f s':=by
 cases f with
 |next=>obtain⟨z,H',I,q⟩:=h; exact⟨z,H',I.unwish,q⟩
 |brk=>obtain⟨z,H',I,q⟩:=h; exact⟨z,H',I.unwish,q⟩
 |cont=>obtain⟨z,H',I,q⟩:=h; exact⟨z,H',I.unwish,q⟩
 |ret u=>obtain⟨v,z,H',I,r,q⟩:=h; exact⟨v,z,H',I.unwish,r,q⟩
theorem PSs.nox{st:List Stmt}{t:TS}(h:PSs X.nox st t):PSs X st t:=⟨fun pins s σ H D I hw=>
 y1d (h pins s σ H D (I.wish _) hw) (fun _ _ q=>q.unwish) fun _ _ z=>False.elim z⟩
end
section
variable{X:Cx}{st:Stmt}{rest:List Stmt}{t u:TS}{e:Expr}{te:TE}{pos:Pos}
noncomputable def Fx:TS:=fun D σ H=>D.nx σ H
noncomputable def C6(t u:TS):TS:=fun D σ H=>t {D with nx:=u D} σ H
theorem AJ:PSs X [] Fx:=⟨fun _ _ σ H _ I h=>y22 ⟨σ,H,I,h⟩⟩
theorem A7(h1:PS X st t)(h2:PSs X rest u):PSs X (st::rest) (C6 t u):=by
 refine⟨?_⟩;intro pins s σ H D I h;refine wpAny_execs_cons (thn (h1 pins s σ H {D with nx:=u D} I h) fun f B q=>?_);cases f with
 |next=>
  obtain⟨z,H',F,q⟩:=q;exact h2 pins B z H' D F q
 |ret v=>exact q
 |brk=>exact q
 |cont=>exact q
theorem A8(h1:PS X st t):PSs X [st] t:=by
 refine⟨?_⟩;intro pins s σ H D I h;refine wpAny_execs_cons (thn (h1 pins s σ H D I h) fun f z q=>?_);cases f with
 |next=>exact y22 q
 |ret v=>exact q
 |brk=>exact q
 |cont=>exact q
noncomputable def Fy:TS:=fun D σ H=>D.bk σ H
noncomputable def IT:TS:=fun D σ H=>D.ct σ H
theorem QD:PS X (.Break pos) Fy:=⟨fun _ _ σ H _ I h=>wpAny_Break ⟨σ,H,I,h⟩⟩
theorem Inv.quiet(I:Inv X pins σ H s):interactive X.env=false:=by simp[interactive,I.ok.kind]
noncomputable def Fz(te:TE):TS:=fun D σ H=>te σ H fun _ H1=>D.nx σ H1
theorem BQ(B:PE X e te)(z:swapsWith e none pos.line X.env=pure false:=by rfl):PS X (.Expr e pos) (Fz te):=by
 refine⟨?_⟩;intro pins s σ H D I h;exact wpAny_Expr_any (thn (B pins s σ H _ I h) fun v G ⟨x,H1,F,J,q⟩=>⟨σ,H1,F,q⟩) I.quiet z
noncomputable def G0(te:TE):TS:=fun D σ H=>te σ H D.rt
theorem AC(B:PE X e te):PS X (.Return (some e) pos) (G0 te):=by
 refine⟨?_⟩;intro pins s σ H D I h;exact wpAny_Return_some (thn (B pins s σ H _ I h) fun v G ⟨x,H1,F,q,z⟩=>⟨x,σ,H1,F,q,z⟩)
noncomputable def IU:TS:=fun D _ H=>D.rt .non H
noncomputable def Ce(c:TT)(t u:TS):TS:=fun D σ H=>c σ H fun b H1=>if b=true then t D σ H1 else u D σ H1
theorem AH{c:Expr}{a b:List Stmt}{tc:TT}(hc:PT X c tc)(ha:PSs X a t)(hb:PSs X b u):PS X (.If c a b pos) (Ce tc t u):=by
 refine⟨?_⟩;intro pins s σ H D I h;refine wpAny_If (thn (hc pins s σ H _ I h) fun d q ⟨H1,B,z⟩=>?_);cases d with
 |true=>exact ha pins q σ H1 D B z
 |false=>exact hb pins q σ H1 D B z
noncomputable def IV:TS:=fun _ _ _=>False
abbrev TG:=V->St->Hp->(St->Hp->Prop)->Prop
abbrev TGs:=List V->St->Hp->(St->Hp->Prop)->Prop
end
abbrev PGv(X:Cx)(q:Expr)(t:TG):Prop:=
 ∀(pins:List (Addr×Obj)) (s:y6) (σ:St) (H:Hp) (v:V) (u:y9) (Q:St->Hp->Prop),Inv X pins σ H s->RelV v u->t v σ H Q->
  y0j (y0e X.prog X.w) X.A (assign q X.env u) (fun _ s'=>∃ z H',Inv X pins z H' s'/\Q z H') X.xe s
structure PG(X:Cx)(target:Expr)(t:TG):Prop where
 run:PGv X target t
instance{X:Cx}{target:Expr}{t:TG}:CoeFun (PG X target t) (fun _=>PGv X target t):=⟨PG.run⟩
abbrev PGsv(X:Cx)(z:List Expr)(t:TGs):Prop:=
 ∀(pins:List (Addr×Obj)) (s:y6) (σ:St) (H:Hp) (vs:List V) (us:List y9) (Q:St->Hp->Prop),Inv X pins σ H s->Vals vs us->t vs σ H Q->
  y0j (y0e X.prog X.w) X.A (assignInOrder ((assignEach z X.env).map (·.2)) us) (fun _ s'=>∃ q H',Inv X pins q H' s'/\Q q H') X.xe s
structure PGs(X:Cx)(ts:List Expr)(t:TGs):Prop where
 run:PGsv X ts t
instance{X:Cx}{ts:List Expr}{t:TGs}:CoeFun (PGs X ts t) (fun _=>PGsv X ts t):=⟨PGs.run⟩
section
variable{X:Cx}{pos:Pos}
noncomputable def Bi(i:Nat):TG:=fun v σ H Q=>Bc i v σ fun q=>Q q H
theorem AZ(z:X.N.Nodup)(hi:X.N[i]?=some x)(hx:Loc X.env.scope x)(q:X.fn x=true\/X.env.scope.names.lookup x=some .local:=by first|exact .inl rfl|exact .inr rfl|assumption):PG X (.Name x pos) (Bi i):=by
 refine⟨?_⟩;intro pins s σ H v u Q I r h;rw[Bi,D5] at h;exact wpAny_assign_Name (Fs I z hi hx r (fun s' B=>⟨_,H,B,h⟩) q)
noncomputable def Eg:TGs:=fun vs σ H Q=>vs=[]/\Q σ H
noncomputable def E3(t:TG)(u:TGs):TGs:=fun vs σ H Q=>∃v r,vs=v::r/\t v σ H fun q H'=>u r q H' Q
theorem Eh:PGs X [] Eg:=by
 refine⟨?_⟩;intro pins s σ H vs us Q I r h;obtain⟨e,h⟩:=h;subst e;cases r;exact assignInOrder_nil ⟨σ,H,I,h⟩
theorem C7{e:Expr}{es:List Expr}{t:TG}{u:TGs}(h1:PG X e t)(h2:PGs X es u)
  (G:(assignEach (e::es) X.env).map (·.2)=assign e X.env::(assignEach es X.env).map (·.2):=by rfl):PGs X (e::es) (E3 t u):=by
 refine⟨?_⟩;intro pins s σ H vs us Q I r h;obtain⟨v,O,J,h⟩:=h;subst J;cases r with
 |cons r B=>
  rw[G];refine assignInOrder_cons (thn (h1 pins s σ H _ _ _ I r h) fun _ z ⟨q,H1,M,F⟩=>?_);exact h2 pins z q H1 _ _ Q M B F
noncomputable def E4(K:y3)(n:Nat)(t:TGs):TG:=fun v σ H Q=>isRf v fun a=>∃xs,SqT K H a xs/\xs.length=n/\t xs σ H Q
theorem IW(hc:X.calm=true)(h:PGs X es t)
  (G:(assignEach es X.env).length=n:=by rfl) (q:(assignEach es X.env).findIdx? (·.1)=none:=by rfl):PG X (.Tuple es k pos) (E4 X.K n t):=by
 refine⟨?_⟩;intro pins s σ H v u Q I r hw;obtain⟨a,M,xs,hq,hl,J⟩:=isRf.o hw;subst M;cases r;obtain⟨B,z,F,hz⟩:=I.tuple hq;refine assign_Tuple_tuple (I.ok.hd hc) F (by simp[G,<- hl,z.length]) q fun h' hx=>?_;have O:Inv X pins σ H {s with heap:=h'}:=I.kept (t':=s.toks) fun b o e=>hx b o (y0m (ym e)) e;exact h pins _ σ H xs _ Q O (by simpa using z) J
noncomputable def E5(te:TE)(g:TG):TS:=fun D σ H=>te σ H fun x H1=>g x σ H1 D.nx
theorem Lk{tg e:Expr}{te:TE}{g:TG}(M:PE X e te)(J:PG X tg g)(G:swapsWithSole [tg] e pos.line X.env=pure false:=by rfl)(hw:swappedStores [tg] e X.env=pure none:=by rfl)
  (h1:(assignEach [tg] X.env).map (·.2)=[assign tg X.env]:=by rfl):PS X (.Assign [tg] e pos) (E5 te g):=by
 refine⟨?_⟩;intro pins s σ H D I h;refine wpAny_Assign_stores (thn (M pins s σ H _ I h) fun v z ⟨x,H1,O,B,F⟩=>?_) G hw;rw[h1];exact thn (J pins z σ H1 x v _ O B F) fun _ U q=>q
theorem AK{i:Nat}{x:Str}{e:Expr}{te:TE}{pos':Pos}(J:X.N.Nodup)(hi:X.N[i]?=some x)(hx:Loc X.env.scope x)(G:PE X e te)(B:swapsWith e (some (.Name x pos')) pos.line X.env=pure false:=by rfl)(F:X.fn x=true\/X.env.scope.names.lookup x=some .local:=by first|exact .inl rfl|exact .inr rfl|assumption) :
  PS X (.Assign [.Name x pos'] e pos) (E5 te (Bi i)):=by
 refine⟨?_⟩;intro pins s σ H D I h;refine wpAny_Assign_Name (thn (G pins s σ H _ I h) fun v Z ⟨y,H1,O,z,q⟩=>?_) B;have q:Bi i y σ H1 D.nx:=q;rw[Bi,D5] at q;exact Fs O J hi hx z (fun U M=>⟨_,H1,M,q⟩) F
noncomputable def QE(c:TT)(tb:TS):TS:=fun D σ H=>∃W:Nat->St->Hp->Prop,(∃m,W m σ H)/\∀m σ H,W m σ H->
 c σ H fun b H1=>if b=true then ∃N:St->Hp->Prop,(∀ q H',N q H'->∃z,z<m/\W z q H')/\tb {D with nx:=N,ct:=N,bk:=D.nx} σ H1 else D.nx σ H1
theorem Ll{c:Expr}{B:List Stmt}{tc:TT}{tb:TS}(hp:PassesOwn (y0e X.prog X.w) X.A X.env X.xe)(hc:PT X c tc)(hb:PSs X B tb):PS X (.While c B [] pos) (QE tc tb):=by
 refine⟨?_⟩;intro pins s σ H D I h;obtain⟨W,⟨m0,w0⟩,G⟩:=h;refine wpAny_While (codeAny_whileLoop (fun n s'=>∃ F H',Inv X pins F H' s'/\W n F H') ?_ m0 ⟨σ,H,I,w0⟩);rintro n s1 ⟨z,H1,I1,w1⟩;refine y1p hp (thn (hc pins s1 z H1 _ I1 (G n z H1 w1)) fun b s2 ⟨H2,I2,O⟩=>?_);cases b with
 |true=>
  obtain⟨N,hN,O⟩:=O;rw[if_pos rfl];refine y1p hp (thn (hb pins s2 z H2 _ I2 O) fun f s3 M=>?_);cases f with
  |next=>
   obtain⟨q,J,I3,Z⟩:=M;obtain⟨m',hm,U⟩:=hN q J Z;exact⟨m',hm,q,J,I3,U⟩
  |cont=>
   obtain⟨q,J,I3,Z⟩:=M;obtain⟨m',hm,U⟩:=hN q J Z;exact⟨m',hm,q,J,I3,U⟩
  |brk=>exact M
  |ret v=>exact M
 |false=>
  rw[if_neg yg];exact y22 ⟨z,H2,I2,O⟩
structure It where
 go:Nat->Hp->Prop
 yld:Nat->Hp->V->Hp->Prop
 stop:Nat->Hp->Prop
end
noncomputable def FpOk(X:Cx)(pins:List (Addr×Obj))(H:Hp)(b:Addr):Prop:=
 H b=none/\b≠X.env.locals/\b∉X.fs/\(b∈X.ex\/X.s₀.heap.objs.size<=b)/\(∀x c,X.env.cells.lookup x=some c->c≠b)/\∀p∈X.pn++pins,p.1≠b
theorem Inv.fpOk(I:Inv X pins σ H s)(hb:s.heap.objs.size<=b)(F:H' b=none):FpOk X pins H' b:=by
 refine⟨F,Nat.ne_of_gt (yw I.lt hb),I.nofs hb,.inr (y0d I.sz hb),fun x c e z=>?_,fun p B z=>?_⟩
 ·obtain⟨v,q⟩:=I.cell x c e;exact absurd (yw q.lt (by rw[z]; exact hb)) (y1o _)
 ·exact absurd (yw (ym (I.pin p B).1) (by rw[z]; exact hb)) (y1o _)
structure Turn(P:yl)(w:y08)(K:y3)(tg:Expr)(J:It)(fp:List Addr)(it:Addr)(tn:Nat->Heap->Prop):Prop where
 mem:it∈fp
 obj:∀i h,tn i h->∀b∈fp,∃o,h.get? b=some o/\∀v,o.data≠.cell v
 keep:∀i h h',tn i h->(∀b∈fp,∀o,h.get? b=some o->h'.get? b=some o)->tn i h'
 item:∀(X:Cx),X.prog=P->X.w=w->X.K=K->X.calm=true->∀(i:Nat) (pins:List (Addr×Obj)) (s:y6) (σ:St) (H:Hp) (E:y9->y6->Prop),Inv X pins σ H s->(∀b∈fp,FpOk X pins H b)->tn i s.heap->J.go i H->
  y0j (y0e P w) X.A (pyNext (.ref it)) (fun r s1=>∃u,r=some u/\
   y0j (y0e P w) X.A (letOwnedTupleGo tg (.ref it) u) (fun _ s2=>∃x H',Inv X pins σ H' s2/\RelV x u/\J.yld i H x H'/\tn (i+1) s2.heap/\∀b∈fp,H' b=none) E s1) E s
 done:∀(X:Cx),X.prog=P->X.w=w->X.K=K->X.calm=true->∀(i:Nat) (pins:List (Addr×Obj)) (s:y6) (σ:St) (H:Hp) (E:y9->y6->Prop),Inv X pins σ H s->(∀b∈fp,FpOk X pins H b)->tn i s.heap->J.stop i H->
  y0j (y0e P w) X.A (pyNext (.ref it)) (fun r s1=>r=none/\Inv X pins σ H s1) E s
 self:∀(A:y05) (i:Nat) (s:y6) (Q:y9->y6->Prop) (E:y9->y6->Prop),tn i s.heap->Q (.ref it) s->y0j (y0e P w) A (pyIter (.ref it)) Q E s
abbrev TI:=St->Hp->(It->Hp->Prop)->Prop
noncomputable def PIE(X:Cx)(pins:List (Addr×Obj))(σ:St)(tg:Expr)(R:It->Hp->Prop)(q:y9)(B:y6):Prop:=
 ∃(F:Addr) (G:List Addr) (z:Nat->Heap->Prop) (J:It) (H':Hp),q=.ref F/\Inv X pins σ H' B/\Turn X.prog X.w X.K tg J G F z/\z 0 B.heap/\(∀b∈G,FpOk X pins H' b)/\R J H'
abbrev PIv(X:Cx)(tg q:Expr)(z:TI):Prop:=
 ∀(pins:List (Addr×Obj)) (s:y6) (σ:St) (H:Hp) (R:It->Hp->Prop),Inv X pins σ H s->z σ H R->
  y0j (y0e X.prog X.w) X.A (eval q X.env) (fun v B=>y0j (y0e X.prog X.w) X.A (pyIter v) (PIE X pins σ tg R) X.xe B) X.xe s
structure PI(X:Cx)(tg iter:Expr)(wi:TI):Prop where
 run:PIv X tg iter wi
instance{X:Cx}{tg iter:Expr}{wi:TI}:CoeFun (PI X tg iter wi) (fun _=>PIv X tg iter wi):=⟨PI.run⟩
theorem Ei{E:y9->y6->Prop}{Q:Unit->y6->Prop}(z:s.heap.get? it=some o)(hc:o.cls=.type n)(hd:o.data=.fields vs)
    (B:["enumerate","zip","dict_itemiterator","dict_reverseitemiterator","odict_iterator","itertools.zip_longest","itertools.pairwise"].contains n=false) (q:Q () s):y0j M A (letOwnedTupleGo tg (.ref it) u) Q E s:=by
  unfold letOwnedTupleGo;cases tg<;>first
    |exact yy q
    |(cases u<;>first
        |exact yy q
        |(refine yi (wpAny_load z ?_)
          rw[hc,hd]
          show y0j M A (if(["enumerate","zip","dict_itemiterator","dict_reverseitemiterator","odict_iterator","itertools.zip_longest","itertools.pairwise"].contains n&&vs[0]? == some (rawInt _))=true then _ else _) Q E s
          rw[if_neg (by intro h; rw[B,yx] at h; cases h)]
          exact yy q))
noncomputable def Itl(K:y3)(a:Addr):It:=
 ⟨fun i H=>∃xs x,SqL K H a xs/\xs[i]?=some x,fun i H x H'=>H'=H/\∀xs,SqL K H a xs->xs[i]?=some x,fun i H=>∃xs,SqL K H a xs/\xs.length<=i⟩
noncomputable def Itt(K:y3)(a:Addr):It:=
 ⟨fun i H=>∃xs x,SqT K H a xs/\xs[i]?=some x,fun i H x H'=>H'=H/\∀xs,SqT K H a xs->xs[i]?=some x,fun i H=>∃xs,SqT K H a xs/\xs.length<=i⟩
noncomputable def Itr(lo:Int)(n:Nat):It:=⟨fun i _=>i<n,fun i H x H'=>H'=H/\x=.int (lo+i),fun i _=>n<=i⟩
theorem QF{P:yl}{w:y08}{K:y3}{tg:Expr}(a q:Addr):Turn P w K tg (Itl K a) [q] q (fun i h=>h.IsListIter q a i) where
 mem:=by simp
 obj:=fun i h st b hb=>by
  have e:b=q:=by simpa using hb
  subst e;obtain⟨o,e,c,d⟩:=st;exact⟨o,e,fun v z=>by rw[d] at z; cases z⟩
 keep:=fun i h h' st k=>st.at fun o e=>k q (by simp) o e;item:=by
  intro X O hw U hc i pins s σ H E I F st M;subst O hw U;obtain⟨xs,x,hq,hx⟩:=M;obtain⟨J,G,p,hz⟩:=I.list hq;obtain⟨u,hu,ru⟩:=G.get hx;obtain⟨f0,f1,f2,f3,f4,Z⟩:=F q (by simp);refine wpAny_pyNext_list_item st p.isList (x:=u) (by simpa using hu) fun h' B sb=>?_;have I1:Inv X pins σ H {s with heap:=h'}:=I.turned (t':=s.toks) (fun b o hb e=>(sb.2 b hb).trans e) f0 f1 f3 f4 Z;obtain⟨o,e,c,d⟩:=id B;exact⟨u,rfl,Ei (s:={s with heap:=h'}) e c d (by decide) ⟨x,H,I1,ru,⟨rfl,fun ys hy=>by rw[I.list_inj hy hq]; exact hx⟩,B,fun b hb=>(F b hb).1⟩⟩
 done:=by
  intro X O hw U hc i pins s σ H E I F st M;subst O hw U;obtain⟨xs,hq,hx⟩:=M;obtain⟨J,G,p,hz⟩:=I.list hq;obtain⟨f0,f1,f2,f3,f4,Z⟩:=F q (by simp);have hl:=G.length;exact wpAny_pyNext_list_end (I.ok.hd hc) st p.isList (by simp; lia) fun h' eb=>⟨rfl,I.turned (t':=s.toks) (fun b o hb e=>eb b o hb e) f0 f1 f3 f4 Z⟩
 self:=fun _ _ _ _ _ st h=>wpAny_pyIter_listiter st h
theorem QG{P:yl}{w:y08}{K:y3}{tg:Expr}(a B:Addr):Turn P w K tg (Itt K a) [B] B (fun i h=>h.IsTupleIter B a i) where
 mem:=by simp
 obj:=fun i h st b hb=>by
  have e:b=B:=by simpa using hb
  subst e;obtain⟨o,e,c,d⟩:=st;exact⟨o,e,fun v z=>by rw[d] at z; cases z⟩
 keep:=fun i h h' st k=>st.at fun o e=>k B (by simp) o e;item:=by
  intro X O hw U hc i pins s σ H E I G st M;subst O hw U;obtain⟨xs,x,hq,hx⟩:=M;obtain⟨q,J,p,hz⟩:=I.tuple hq;obtain⟨u,hu,ru⟩:=J.get hx;obtain⟨f0,f1,f2,f3,f4,Z⟩:=G B (by simp);refine wpAny_pyNext_tuple_item st (show s.heap.IsTuple a q.toArray from p) (x:=u) (by simpa using hu) fun h' F sb=>?_;have I1:Inv X pins σ H {s with heap:=h'}:=I.turned (t':=s.toks) (fun b o hb e=>(sb.2 b hb).trans e) f0 f1 f3 f4 Z;obtain⟨o,e,c,d⟩:=id F;exact⟨u,rfl,Ei (s:={s with heap:=h'}) e c d (by decide) ⟨x,H,I1,ru,⟨rfl,fun ys hy=>by rw[I.tuple_inj hy hq]; exact hx⟩,F,fun b hb=>(G b hb).1⟩⟩
 done:=by
  intro X O hw U hc i pins s σ H E I G st M;subst O hw U;obtain⟨xs,hq,hx⟩:=M;obtain⟨q,J,p,hz⟩:=I.tuple hq;obtain⟨f0,f1,f2,f3,f4,Z⟩:=G B (by simp);have hl:=J.length;exact wpAny_pyNext_tuple_end (I.ok.hd hc) st (show s.heap.IsTuple a q.toArray from p) (by simp; lia) fun h' eb=>⟨rfl,I.turned (t':=s.toks) (fun b o hb e=>eb b o hb e) f0 f1 f3 f4 Z⟩
 self:=fun _ _ _ _ _ st h=>wpAny_pyIter_tupleiter st h
theorem QH{P:yl}{w:y08}{K:y3}{tg:Expr}(q:Addr)(lo:Int)(n:Nat):Turn P w K tg (Itr lo n) [q] q (fun i h=>IsRangeIter h q (lo+(i:Nat)*1) ((n:Int)-(i:Nat)) 1) where
 mem:=by simp
 obj:=fun i h st b hb=>by
  have e:b=q:=by simpa using hb
  subst e;exact⟨_,st,fun v z=>by
   have z':Data.fields _=Data.cell v:=z
   cases z'⟩
 keep:=fun i h h' st k=>k q (by simp) _ st;item:=by
  intro X J hw M hc i pins s σ H E I F st G;subst J hw M;obtain⟨f0,f1,f2,Z,U,O⟩:=F q (by simp);have W:=Walks.range (prog:=X.prog) (w:=X.w) (I.ok.hd hc) q lo 1 n;refine W.item i s _ _ G st fun v h' tk hv B kk=>?_;obtain⟨t,rfl⟩:=hv;have I1:Inv X pins σ H {s with heap:=h',toks:=tk}:=I.turned (fun b o hb e=>kk b o (by simpa using hb) e) f0 f1 Z U O;refine⟨_,rfl,Ei (s:={s with heap:=h',toks:=tk}) (n:="range_iterator") B rfl rfl (by decide) ⟨.int (lo+i),H,I1,⟨t,?_⟩,⟨rfl,rfl⟩,B,fun b hb=>(F b hb).1⟩⟩;rw[Int.mul_one]
 done:=by
  intro X J hw M hc i pins s σ H E I F st G;subst J hw M;obtain⟨f0,f1,f2,Z,U,O⟩:=F q (by simp);exact wpAny_pyNext_range_end (I.ok.hd hc) st (by have:n<=i:=G; lia) fun h' eb=>⟨rfl,I.turned (t':=s.toks) (fun b o hb e=>eb b o hb e) f0 f1 Z U O⟩
 self:=fun _ _ _ _ _ st h=>wpAny_pyIter_rangeiter st h
section
variable{X:Cx}{tg:Expr}
noncomputable def IX(K:y3)(tl:TE):TI:=fun σ H R=>tl σ H fun x H1=>isRf x fun a=>(∃xs,SqL K H1 a xs)/\R (Itl K a) H1
noncomputable def IY(K:y3)(tl:TE):TI:=fun σ H R=>tl σ H fun x H1=>isRf x fun a=>(∃xs,SqT K H1 a xs)/\R (Itt K a) H1
theorem DV{l:Expr}{tl:TE}(hl:PE X l tl):PI X tg l (IX X.K tl):=by
 refine⟨?_⟩;intro pins s σ H R I h;refine thn (hl pins s σ H _ I h) fun v z ⟨x,H1,B,F,G⟩=>?_;obtain⟨a,e,⟨xs,hq⟩,q⟩:=isRf.o G;subst e;cases F;obtain⟨J,M,p,hz⟩:=B.list hq;refine wpAny_pyIter_list p.isList ?_;refine⟨z.heap.objs.size,[z.heap.objs.size],_,_,H1,rfl,B.kept (t':=z.toks) fun b o e=>ye _ e,QF a _,⟨_,y04 _ rfl,rfl,rfl⟩,fun b hb=>?_,q⟩;have e:b=z.heap.objs.size:=by simpa using hb
 subst e;exact B.fpOk (yf _) (B.hok.fresh (yf _))
theorem Cf(hl:PE X l tl):PI X tg l (IY X.K tl):=by
 refine⟨?_⟩;intro pins s σ H R I h;refine thn (hl pins s σ H _ I h) fun v z ⟨x,H1,B,G,J⟩=>?_;obtain⟨a,e,⟨xs,hq⟩,q⟩:=isRf.o J;subst e;cases G;obtain⟨F,M,p,hz⟩:=B.tuple hq;refine y3e (show z.heap.IsTuple a F.toArray from p) ?_;refine⟨z.heap.objs.size,[z.heap.objs.size],_,_,H1,rfl,B.kept (t':=z.toks) fun b o e=>ye _ e,QG a _,⟨_,y04 _ rfl,rfl,rfl⟩,fun b hb=>?_,q⟩;have e:b=z.heap.objs.size:=by simpa using hb
 subst e;exact B.fpOk (yf _) (B.hok.fresh (yf _))
theorem QI{pins:List (Addr×Obj)}{σ:St}{H:Hp}{s:y6}{R:It->Hp->Prop}{E:y9->y6->Prop}{lo hi:Int}{t u v:Tok}{tk:Nat}(I:Inv X pins σ H s)(h1 : -(2^62)<=lo)(h2:lo<2^62)(F : -(2^62)<=hi)(B:hi<2^62)
  (q:R (Itr lo (hi-lo).toNat) H):y0j (y0e X.prog X.w) X.A (pyIter (.ref s.heap.objs.size)) (PIE X pins σ tg R) E {s with heap:=s.heap.push {cls:=.type "range",data:=.fields #[.int lo t,.int hi u,.int 1 v]},toks:=tk}:=by
 refine wpAny_pyIter_range (IsRange.new ..) (small_one h1 h2 F B) ?_;have z:Inv X pins σ H {s with heap:=s.heap.push {cls:=.type "range",data:=.fields #[.int lo t,.int hi u,.int 1 v]},toks:=tk}:=I.kept fun b o e=>ye _ e;refine⟨(s.heap.push {cls:=.type "range",data:=.fields #[.int lo t,.int hi u,.int 1 v]}).objs.size,[(s.heap.push {cls:=.type "range",data:=.fields #[.int lo t,.int hi u,.int 1 v]}).objs.size],_,_,H,rfl,
  z.kept (t':=tk) fun b o e=>ye _ e,QH _ lo (hi-lo).toNat,?_,fun b hb=>?_,q⟩
 ·have J:lo+((0:Nat):Int)*1=lo:=by simp
  have G:(((hi-lo).toNat:Nat):Int)-((0:Nat):Int)=Builtin.Range.rangeSize lo hi 1:=by rw[rangeSize_one]; split<;>lia
  show IsRangeIter _ _ (lo+((0:Nat):Int)*1) ((((hi-lo).toNat:Nat):Int)-((0:Nat):Int)) 1;rw[J,G];exact y04 _ rfl
 ·have e:b=(s.heap.push {cls:=.type "range",data:=.fields #[.int lo t,.int hi u,.int 1 v]}).objs.size:=by simpa using hb
  subst e;exact z.fpOk (yf _) (z.hok.fresh (yf _))
noncomputable def Lm(ta:TA):TI:=fun σ H R=>ta σ H fun vs H1=>∃j:Int,vs=[.int j]/\-(2^62)<=j/\j<2^62/\R (Itr 0 j.toNat) H1
noncomputable def Lo(ta:TA):TI:=fun σ H R=>ta σ H fun vs H1=>∃i j:Int,vs=[.int i,.int j]/\(-(2^62)<=i/\i<2^62/\-(2^62)<=j/\j<2^62)/\R (Itr i (j-i).toNat) H1
theorem G6{a:Expr}{ta:TA}{p pos:Pos} (M:Gl X "range") (hm:X.mg "range" = none) (ha:PA X [a] ta) (J:starEach [a] X.env=[(false,eval a X.env)]:=by rfl):PI X tg (.Call (.Name "range" p) [a] [] pos) (Lm ta):=by
 refine⟨?_⟩;intro pins s σ H R I h;refine Call_ (E1 I M hm boot_range (y1c (thn (ha pos pins s σ H _ I h) fun us U ⟨vs,H1,O,F,z⟩=>?_) J rfl));obtain⟨j,e,z,G,q⟩:=z;subst e;cases F with
 |cons r B=>
  cases B;obtain⟨t,rfl⟩:=r;exact call_range_1 (QI O (by lia) (by lia) z G (by simpa using q))
noncomputable def CM(F:TI)(g:TG)(tb:TS):TS:=fun D σ H=>F σ H fun J H1=>∃W:Nat->Nat->St->Hp->Prop,(∃m,W 0 m σ H1)/\∀i m σ H,W i m σ H->
 (J.stop i H/\D.nx σ H)\/(J.go i H/\∃N:St->Hp->Prop,(∀ q H',N q H'->∃B,B<m/\W (i+1) B q H')/\∀x H',J.yld i H x H'->g x σ H' fun z H2=>tb {D with nx:=N,ct:=N,bk:=D.nx} z H2)
noncomputable def Ej(q:List Addr)(h:Heap):List (Addr×Obj):=q.filterMap fun b=>(h.get? b).map fun o=>(b,o)
theorem G7(hb:b∈fp)(e:h.get? b=some o):(b,o)∈Ej fp h:=List.mem_filterMap.mpr ⟨b,hb,by rw[e]; rfl⟩
theorem QJ(z:p∈Ej fp h):p.1∈fp/\h.get? p.1=some p.2:=by
 obtain⟨b,hb,e⟩:=List.mem_filterMap.mp z;cases q:h.get? b with
 |none=>rw[q] at e; cases e
 |some o=>
  rw[q] at e;have B:(b,o)=p:=y0n e;subst B;exact⟨hb,q⟩
theorem Inv.pinned(I:Inv X pins σ H s)(G:∀b∈fp,FpOk X pins H b)(F:∀b∈fp,∃o,s.heap.get? b=some o/\∀v,o.data≠.cell v):Inv X (pins++Ej fp s.heap) σ H s:=
 I.pins_of fun p B=>(List.mem_append.mp B).elim (fun z=>I.pin p (y00 _ z)) fun z=>by
  obtain⟨hb,e⟩:=QJ z;obtain⟨O,M,J,_⟩:=G p.1 hb;obtain⟨o,q,d⟩:=F p.1 hb;rw[e] at q; cases q;exact⟨e,O,M,J,d⟩
theorem Inv.unpinned(I:Inv X (pins++pl) σ H s):Inv X pins σ H s:=I.pins_of fun p q=>I.pin p (y00 _ (y10 _ q))
theorem D7(hp:PassesOwn (y0e X.prog X.w) X.A X.env X.xe)(hc:X.calm=true)(hi:PI X tg iter wi)(hg:PG X tg g)(hb:PSs X body tb)
  (hs:∀x,foldedSetIterable iter X.env x=pure x:=by intro _; rfl):PS X (.For tg iter body [] pos) (CM wi g tb):=by
 refine⟨?_⟩;intro pins s σ H D I h;refine wpAny_For (thn (hi pins s σ H _ I h) fun v s1 h1=>thn h1 fun ak s2 h2=>?_) hs;obtain⟨it,fp,tn,J,H2,e,I2,T,ag,f2,W,⟨m0,w0⟩,Z⟩:=h2;subst e;have F:∀{H':Hp},(∀b∈fp,H' b=none)->∀b∈fp,FpOk X pins H' b:=fun hn b hb=>⟨hn b hb,(f2 b hb).2⟩;refine codeAny_forLoop_any (fun n s'=>∃i B H',Inv X pins B H' s'/\tn i s'.heap/\(∀b∈fp,H' b=none)/\W i n B H') ?_ m0 ⟨0,σ,H2,I2,ag,fun b hb=>(f2 b hb).1,w0⟩;rintro n s3 ⟨i,z,H3,I3,ac,ae,w3⟩;rcases Z i n z H3 w3 with⟨aa,qn⟩|⟨go,N,hN,step⟩
 ·refine y1p hp (thn (T.done X rfl rfl rfl hc i pins s3 z H3 X.xe I3 (F ae) ac aa) fun r s4 ⟨hr,I4⟩=>?_);subst hr;exact y22 ⟨z,H3,I4,qn⟩
 ·refine y1p hp (thn (T.item X rfl rfl rfl hc i pins s3 z H3 X.xe I3 (F ae) ac go) fun r s4 ⟨u,hr,h4⟩=>?_);subst hr;refine y1p hp (thn h4 fun _ s5 ⟨x,H5,I5,r5,y5,U,ah⟩=>?_);have aj:=I5.pinned (F ah) (T.obj _ _ U);refine y1p hp (thn (hg _ s5 z H5 x u _ aj r5 (step x H5 y5)) fun _ s6 ⟨af,H6,I6,q6⟩=>?_);refine y1p hp (thn (hb _ s6 af H6 _ I6 q6) fun f s7 O=>?_);have again:∀{q:St} {M:Hp},Inv X (pins++Ej fp s5.heap) q M s7->N q M->∃m,m<n/\∃i B H',Inv X pins B H' s7/\tn i s7.heap/\(∀b∈fp,H' b=none)/\W i m B H':=fun {q M} G n7=>by
   obtain⟨m',hm,w7⟩:=hN q M n7;refine⟨m',hm,i+1,q,M,G.unpinned,T.keep _ _ _ U fun b hb o e=>(G.pin (b,o) (y00 _ (y00 _ (G7 hb e)))).1,fun b hb=>?_,w7⟩;obtain⟨o,e,d⟩:=T.obj _ _ U b hb;exact(G.pin (b,o) (y00 _ (y00 _ (G7 hb e)))).2.1
  cases f with
  |next=>obtain⟨q,M,G,n7⟩:=O; exact again G n7
  |cont=>obtain⟨q,M,G,n7⟩:=O; exact again G n7
  |brk=>obtain⟨q,M,G,O⟩:=O; exact⟨q,M,G.unpinned,O⟩
  |ret v=>obtain⟨x7,q,M,G,r7,O⟩:=O; exact⟨x7,q,M,G.unpinned,r7,O⟩
theorem IZ{K:y3}{a:Addr}{xs:List V}{g:TG}{tb:TS}{D:Ends}{σ:St}{H:Hp}(z:Nat->St->Hp->Prop)(U:z 0 σ H)(hl:∀i σ H,i<=xs.length->z i σ H->SqT K H a xs)
  (O:∀i x σ H,xs[i]?=some x->z i σ H->g x σ H fun B H2=>tb {D with nx:=z (i+1),ct:=z (i+1),bk:=D.nx} B H2) (hd:∀ σ H,z xs.length σ H->D.nx σ H) :
  ∃W:Nat->Nat->St->Hp->Prop,(∃m,W 0 m σ H)/\∀i m σ H,W i m σ H->
   ((Itt K a).stop i H/\D.nx σ H)\/((Itt K a).go i H/\∃N:St->Hp->Prop,(∀ F H',N F H'->∃J,J<m/\W (i+1) J F H')/\∀x H',(Itt K a).yld i H x H'->g x σ H' fun B H2=>tb {D with nx:=N,ct:=N,bk:=D.nx} B H2):=by
 refine⟨fun i m σ H=>m=xs.length-i/\i<=xs.length/\z i σ H,⟨xs.length,by simp,y0i _,U⟩,?_⟩
 rintro i m σ H ⟨rfl,hi,p⟩
 have q:=hl i σ H hi p
 by_cases G:i<xs.length
 ·refine .inr ⟨⟨xs,xs[i],q,by simp[G]⟩,z (i+1),fun F H' M=>⟨xs.length-(i+1),by lia,rfl,G,M⟩,fun x H' y=>?_⟩
  obtain⟨e,y⟩:=y
  subst e
  exact O i x σ _ (y xs q) p
 ·have e:i=xs.length:=by lia
  subst e
  exact .inl ⟨⟨xs,q,yf _⟩,hd σ H p⟩
theorem G8{lo:Int}{n:Nat}{g:TG}{tb:TS}{D:Ends}{σ:St}{H:Hp}(F:Nat->St->Hp->Prop)(O:F 0 σ H)
  (M:∀i σ H,i<n->F i σ H->g (.int (lo+i)) σ H fun q H2=>tb {D with nx:=F (i+1),ct:=F (i+1),bk:=D.nx} q H2) (hd:∀ σ H,F n σ H->D.nx σ H) :
  ∃W:Nat->Nat->St->Hp->Prop,(∃m,W 0 m σ H)/\∀i m σ H,W i m σ H->
   ((Itr lo n).stop i H/\D.nx σ H)\/((Itr lo n).go i H/\∃N:St->Hp->Prop,(∀ z H',N z H'->∃G,G<m/\W (i+1) G z H')/\∀x H',(Itr lo n).yld i H x H'->g x σ H' fun q H2=>tb {D with nx:=N,ct:=N,bk:=D.nx} q H2):=by
 refine⟨fun i m σ H=>m=n-i/\i<=n/\F i σ H,⟨n,by simp,y0i _,O⟩,?_⟩
 rintro i m σ H ⟨rfl,hi,p⟩
 by_cases B:i<n
 ·refine .inr ⟨B,F (i+1),fun z H' J=>⟨n-(i+1),by lia,rfl,B,J⟩,fun x H' y=>?_⟩
  obtain⟨e,y⟩:=y
  subst e y
  exact M i σ _ B p
 ·have e:i=n:=by lia
  subst e
  exact .inl ⟨yf _,hd σ H p⟩
abbrev R2:=V->V->Hp->VK->Prop
end
noncomputable def OpR(X:Cx)(f:y9->y9->Sem y9)(r:R2):Prop:=
 ∀(pins:List (Addr×Obj)) (s:y6) (σ:St) (H:Hp) (x y:V) (v u:y9) (Q:VK),Inv X pins σ H s->RelV x v->RelV y u->r x y H Q->
  y0j (y0e X.prog X.w) X.A (f v u) (EP X pins σ Q) X.xe s
noncomputable def UnR(X:Cx)(f:y9->Sem y9)(r:V->Hp->VK->Prop):Prop:=
 ∀(pins:List (Addr×Obj)) (s:y6) (σ:St) (H:Hp) (x:V) (v:y9) (Q:VK),Inv X pins σ H s->RelV x v->r x H Q->
  y0j (y0e X.prog X.w) X.A (f v) (EP X pins σ Q) X.xe s
noncomputable def BR(X:Cx)(f:y9)(r:List V->Hp->VK->Prop):Prop:=
 ∀(pins:List (Addr×Obj)) (s:y6) (σ:St) (H:Hp) (xs:List V) (us:List y9) (Q:VK),Inv X pins σ H s->Vals xs us->r xs H Q->
  y0j (y0e X.prog X.w) X.A (call f us) (EP X pins σ Q) X.xe s
noncomputable def tOp(r:R2)(ta tb:TE):TE:=fun σ H Q=>ta σ H fun x H1=>tb σ H1 fun y H2=>r x y H2 Q
noncomputable def tUn(r:V->Hp->VK->Prop)(ta:TE):TE:=fun σ H Q=>ta σ H fun x H1=>r x H1 Q
noncomputable def rI(C:Int->Int->Prop)(g:Int->Int->V):R2:=fun x y H Q=>isI x fun i=>isI y fun j=>C i j/\Q (g i j) H
noncomputable def rI0(g:Int->Int->V):R2:=fun x y H Q=>isI x fun i=>isI y fun j=>Q (g i j) H
noncomputable def rU(g:Int->V):V->Hp->VK->Prop:=fun x H Q=>isI x fun i=>Q (g i) H
section
variable{X:Cx}{a b c:Expr}{ta tb tc:TE}{pos:Pos}
theorem Ia(ha:PE X a ta)(hb:PE X b tb){R:V->V->Hp->Prop}(I:Inv X pins σ H s)
  (h:ta σ H fun x H1=>tb σ H1 fun y H2=>R x y H2) {Q:y9->y6->Prop} {f:y9->y9->Sem y9}
  (U:∀v u B x y H2,Inv X pins σ H2 B->RelV x v->RelV y u->R x y H2->y0j (y0e X.prog X.w) X.A (f v u) Q X.xe B) :
  y0j (y0e X.prog X.w) X.A (eval a X.env) (fun v z=>y0j (y0e X.prog X.w) X.A (eval b X.env) (fun u q=>y0j (y0e X.prog X.w) X.A (f v u) Q X.xe q) X.xe z) X.xe s:=by
 refine thn (ha pins s σ H _ I h) fun v F ⟨x,H1,I1,J,O⟩=>?_;refine thn (hb pins F σ H1 _ I1 O) fun u B ⟨y,H2,Z,G,M⟩=>?_;exact U v u B x y H2 Z J G M
theorem A5(G:OpR X (binaryOp op) r)(ha:PE X a ta)(hb:PE X b tb):PE X (.BinOp a op b pos) (tOp r ta tb):=by
 refine⟨?_⟩;intro pins s σ H Q I h;exact wpAny_BinOp (Ia ha hb I h fun v u z x y H2 J F B q=>G pins z σ H2 x y v u Q J F B q)
theorem D8{r:V->Hp->VK->Prop}(F:UnR X (unaryOp op) r)(ha:PE X a ta):PE X (.UnaryOp op a pos) (tUn r ta):=by
 refine⟨?_⟩;intro pins s σ H Q I h;exact UnaryOp_ (thn (ha pins s σ H _ I h) fun v q ⟨x,H1,G,z,B⟩=>F pins q σ H1 x v Q G z B)
theorem opI{f:y9->y9->Sem y9}{C:Int->Int->Prop}{g:Int->Int->Int}
  (rule:∀(i j:Int) (t u:Tok) (s:y6) (Q:y9->y6->Prop) (E:y9->y6->Prop),C i j->Q (.int (g i j) s.toks) {s with toks:=s.toks+1}->y0j (y0e X.prog X.w) X.A (f (.int i t) (.int j u)) Q E s) :
  OpR X f (rI C fun i j=>.int (g i j)):=by
 intro pins s σ H x y v u Q I B z h;obtain⟨i,rfl,F⟩:=isI.o h;obtain⟨j,rfl,hc,q⟩:=isI.o F;obtain⟨t,rfl⟩:=B;obtain⟨t',rfl⟩:=z;exact rule i j t t' s _ _ hc ⟨.int (g i j),H,I.tok _,⟨_,rfl⟩,q⟩
theorem Lp{f:y9->y9->Sem y9}{g:Int->Int->Int}
  (rule:∀(i j:Int) (t u:Tok) (s:y6) (Q:y9->y6->Prop) (E:y9->y6->Prop),Q (.int (g i j) s.toks) {s with toks:=s.toks+1}->y0j (y0e X.prog X.w) X.A (f (.int i t) (.int j u)) Q E s) :
  OpR X f (rI0 fun i j=>.int (g i j)):=by
 intro pins s σ H x y v u Q I B z h;obtain⟨i,rfl,F⟩:=isI.o h;obtain⟨j,rfl,q⟩:=isI.o F;obtain⟨t,rfl⟩:=B;obtain⟨t',rfl⟩:=z;exact rule i j t t' s _ _ ⟨.int (g i j),H,I.tok _,⟨_,rfl⟩,q⟩
theorem Ib{f:y9->y9->Sem y9}{g:Int->Int->Bool}
  (rule:∀(i j:Int) (t u:Tok) (s:y6) (Q:y9->y6->Prop) (E:y9->y6->Prop),Q (.bool (g i j)) s->y0j (y0e X.prog X.w) X.A (f (.int i t) (.int j u)) Q E s) :
  OpR X f (rI0 fun i j=>.bl (g i j)):=by
 intro pins s σ H x y v u Q I B z h;obtain⟨i,rfl,F⟩:=isI.o h;obtain⟨j,rfl,q⟩:=isI.o F;obtain⟨t,rfl⟩:=B;obtain⟨t',rfl⟩:=z;exact rule i j t t' s _ _ ⟨.bl (g i j),H,I,rfl,q⟩
noncomputable def QK(i j:Int):Prop:=0<j/\j<1073741824
noncomputable def QL(i j:Int):Prop:=0<=j/\j<=1000000/\i.natAbs<2^64
noncomputable def CMul(i j:Int):Prop:=(-(2^64)<i/\i<2^64)\/(-(2^64)<j/\j<2^64)
theorem CMul.ok(h:CMul i j):IntMulOk i j:=by
 rcases h with⟨h1,h2⟩|⟨h1,h2⟩
 ·exact .of_left (intBits_le_64 h1 h2)
 ·exact .of_right (intBits_le_64 h1 h2)
theorem AR:OpR X (binaryOp .Add) (rI0 fun i j=>.int (i+j)):=Lp fun _ _ _ _ _ _ _ q=>add_int q
theorem Bt:OpR X (binaryOp .Sub) (rI0 fun i j=>.int (i-j)):=Lp fun _ _ _ _ _ _ _ q=>sub_int q
theorem C8:OpR X (binaryOp .Mult) (rI CMul fun i j=>.int (i*j)):=opI fun _ _ _ _ _ _ _ hc q=>mul_int q hc.ok
theorem G9:OpR X (binaryOp .FloorDiv) (rI QK fun i j=>.int (i / j)):=opI fun i j _ _ _ _ _ hc q=>by
 have h1:(0:Int)<j:=hc.1;have h2:j<1073741824:=hc.2;exact floordiv_int (by lia) (by rw[Int.fdiv_eq_ediv_of_nonneg i (by lia)]; exact q) (.inl (PyProof.noPylong_small (by lia)))
theorem CN:OpR X (binaryOp .Mod) (rI (fun _ j=>0<j) fun i j=>.int (i % j)):=opI fun i j _ _ _ _ _ hc q=>by
 have h1:(0:Int)<j:=hc;exact mod_int' (by lia) (by rw[Int.fmod_eq_emod_of_nonneg i (by lia)]; exact q)
theorem QM:OpR X (binaryOp .Pow) (rI QL fun i j=>.int (i^j.toNat)):=opI fun _ _ _ _ _ _ _ hc q=>pow_int_small hc.1 hc.2.1 hc.2.2 q
theorem unI{f:y9->Sem y9}{g:Int->Int}
  (rule:∀(i:Int) (t:Tok) (s:y6) (Q:y9->y6->Prop) (E:y9->y6->Prop),Q (.int (g i) s.toks) {s with toks:=s.toks+1}->y0j (y0e X.prog X.w) X.A (f (.int i t)) Q E s) :
  UnR X f (rU fun i=>.int (g i)):=by
 intro pins s σ H x v Q I z h;obtain⟨i,rfl,q⟩:=isI.o h;obtain⟨t,rfl⟩:=z;exact rule i t s _ _ ⟨.int (g i),H,I.tok _,⟨_,rfl⟩,q⟩
theorem D9:UnR X (unaryOp .USub) (rU fun i=>.int (-i)):=unI fun _ _ _ _ _ q=>neg_int q
noncomputable def GA:V->V->Bool
 |.non,.non=>true|.non,.int _=>true|.int _,.non=>true|.non,.bl _=>true|.bl _,.non=>true|.non,.str _=>true|.str _,.non=>true
 |.int _,.int _=>true|.bl _,.bl _=>true|.str _,.str _=>true|.byt _,.byt _=>true
 |.int _,.str _=>true|.str _,.int _=>true|.bl _,.str _=>true|.str _,.bl _=>true
 |_,_=>false
noncomputable def rEq:R2:=fun x y H Q=>GA x y=true/\Q (.bl (decide (x=y))) H
noncomputable def rNe:R2:=fun x y H Q=>GA x y=true/\Q (.bl (!decide (x=y))) H
theorem Lq:decide (V.int i=V.int j)=(i==j):=by
 rw[y1x];simp
theorem Lr:decide (V.bl i=V.bl j)=(i==j):=by
 rw[y1x];simp
theorem Ls:decide (V.str i=V.str j)=(i==j):=by
 rw[y1x];simp
theorem Lu:decide (V.byt i=V.byt j)=(i.toList==j.toList):=by
 rw[y1x];cases i;cases j;simp
theorem AY(I:Inv X pins σ H s)(q:Q (.bl k) H)(e:k=k'):EP X pins σ Q (.bool k') s:=by
 subst e;exact⟨.bl k,H,I,rfl,q⟩
theorem Lv:OpR X (y0c .Eq) rEq:=by
 intro pins s σ H x y v u Q I F z h;obtain⟨B,q⟩:=h;cases x with
 |non=>
  cases F;cases y with
  |non=>cases z; exact PySem.EqNone.eq_none_none (AY I q (by simp))
  |bl j=>cases z; exact PySem.EqNone.eq_none_bool (AY I q (by simp))
  |int j=>obtain⟨t',rfl⟩:=z; exact PySem.EqNone.eq_none_int (AY I q (by simp))
  |str j=>obtain⟨t',rfl⟩:=z; exact PySem.EqNone.eq_none_str (AY I q (by simp))
  |_=>exact absurd (show false=true from B) yg
 |bl i=>
  cases F;cases y with
  |non=>cases z; exact PySem.EqNone.eq_bool_none (AY I q (by simp))
  |bl j=>cases z; exact eq_bool (AY I q Lr)
  |str j=>obtain⟨t',rfl⟩:=z; exact PySem.EqMixed.eq_bool_str (AY I q (by simp))
  |_=>exact absurd (show false=true from B) yg
 |int i=>
  obtain⟨t,rfl⟩:=F;cases y with
  |non=>cases z; exact PySem.EqNone.eq_int_none (AY I q (by simp))
  |int j=>obtain⟨t',rfl⟩:=z; exact eq_int (AY I q Lq)
  |str j=>obtain⟨t',rfl⟩:=z; exact PySem.EqMixed.eq_int_str (AY I q (by simp))
  |_=>exact absurd (show false=true from B) yg
 |str i=>
  obtain⟨t,rfl⟩:=F;cases y with
  |non=>cases z; exact PySem.EqNone.eq_str_none (AY I q (by simp))
  |bl j=>cases z; exact PySem.EqMixed.eq_str_bool (AY I q (by simp))
  |int j=>obtain⟨t',rfl⟩:=z; exact PySem.EqMixed.eq_str_int (AY I q (by simp))
  |str j=>obtain⟨t',rfl⟩:=z; exact eq_str (AY I q Ls)
  |_=>exact absurd (show false=true from B) yg
 |byt i=>
  obtain⟨t,rfl⟩:=F;cases y with
  |byt j=>obtain⟨t',rfl⟩:=z; exact PySem.W.eq_bytes (AY I q Lu)
  |_=>exact absurd (show false=true from B) yg
 |_=>cases y<;>exact absurd (show false=true from B) yg
theorem Lw:OpR X (y0c .NotEq) rNe:=by
 intro pins s σ H x y v u Q I F z h;obtain⟨B,q⟩:=h;cases x with
 |non=>
  cases F;cases y with
  |non=>cases z; exact PySem.EqNone.ne_none_none (AY I q (by simp))
  |bl j=>cases z; exact PySem.EqNone.ne_none_bool (AY I q (by simp))
  |int j=>obtain⟨t',rfl⟩:=z; exact PySem.EqNone.ne_none_int (AY I q (by simp))
  |str j=>obtain⟨t',rfl⟩:=z; exact PySem.EqNone.ne_none_str (AY I q (by simp))
  |_=>exact absurd (show false=true from B) yg
 |bl i=>
  cases F;cases y with
  |non=>cases z; exact PySem.EqNone.ne_bool_none (AY I q (by simp))
  |bl j=>cases z; exact ne_bool (AY I q (congrArg not Lr))
  |str j=>obtain⟨t',rfl⟩:=z; exact PySem.EqMixed.ne_bool_str (AY I q (by simp))
  |_=>exact absurd (show false=true from B) yg
 |int i=>
  obtain⟨t,rfl⟩:=F;cases y with
  |non=>cases z; exact PySem.EqNone.ne_int_none (AY I q (by simp))
  |int j=>obtain⟨t',rfl⟩:=z; exact ne_int (AY I q (congrArg not Lq))
  |str j=>obtain⟨t',rfl⟩:=z; exact PySem.EqMixed.ne_int_str (AY I q (by simp))
  |_=>exact absurd (show false=true from B) yg
 |str i=>
  obtain⟨t,rfl⟩:=F;cases y with
  |non=>cases z; exact PySem.EqNone.ne_str_none (AY I q (by simp))
  |bl j=>cases z; exact PySem.EqMixed.ne_str_bool (AY I q (by simp))
  |int j=>obtain⟨t',rfl⟩:=z; exact PySem.EqMixed.ne_str_int (AY I q (by simp))
  |str j=>obtain⟨t',rfl⟩:=z; exact ne_str (AY I q (congrArg not Ls))
  |_=>exact absurd (show false=true from B) yg
 |byt i=>
  obtain⟨t,rfl⟩:=F;cases y with
  |byt j=>obtain⟨t',rfl⟩:=z; exact PySem.W.ne_bytes (AY I q (congrArg not Lu))
  |_=>exact absurd (show false=true from B) yg
 |_=>cases y<;>exact absurd (show false=true from B) yg
theorem Bd:OpR X (y0c .Lt) (rI0 fun i j=>.bl (decide (i<j))):=Ib fun _ _ _ _ _ _ _ q=>lt_int q
theorem Ic:OpR X (y0c .LtE) (rI0 fun i j=>.bl (decide (i<=j))):=Ib fun _ _ _ _ _ _ _ q=>le_int q
theorem GB:OpR X (y0c .Gt) (rI0 fun i j=>.bl (decide (j<i))):=Ib fun _ _ _ _ _ _ _ q=>gt_int q
theorem QN:OpR X (y0c .Lt) (fun x y H Q=>∃i j,x=.str i/\y=.str j/\Q (.bl (decide (i.cps.toList<j.cps.toList))) H):=by
 intro pins s σ H x y v u Q I B z h;obtain⟨i,j,rfl,rfl,q⟩:=h;obtain⟨t,rfl⟩:=B;obtain⟨t',rfl⟩:=z;exact lt_str (AY I q rfl)
theorem QO:OpR X (y0c .In) (fun x y H Q=>∃i j,x=.str i/\y=.str j/\Q (.bl (!(Builtin.Str.occurrences j i 0 j.length 1).isEmpty)) H):=by
 intro pins s σ H x y v u Q I B z h;obtain⟨i,j,rfl,rfl,q⟩:=h;obtain⟨t,rfl⟩:=B;obtain⟨t',rfl⟩:=z;exact in_str (AY I q rfl)
theorem QP:OpR X (y0c .Is) (fun x y H Q=>y=.non/\Q (.bl (decide (x=.non))) H):=by
 intro pins s σ H x y v u Q I z B h;obtain⟨rfl,q⟩:=h;cases B;refine is_none_gen (AY I q ?_);cases x<;>first
  |(cases z; rfl)
  |(obtain⟨t,rfl⟩:=z; rfl)
theorem QQ:OpR X (y0c .IsNot) (fun x y H Q=>y=.non/\Q (.bl (!decide (x=.non))) H):=by
 intro pins s σ H x y v u Q I z B h;obtain⟨rfl,q⟩:=h;cases B;refine isnot_none_gen (AY I q ?_);cases x<;>first
  |(cases z; rfl)
  |(obtain⟨t,rfl⟩:=z; rfl)
theorem AG(b:Expr)(h:op≠.In:=by decide)(h2:op≠.NotIn:=by decide):behindInMarks op b=false:=by
 have z:(op==CmpOp.In)=false:=by cases op<;>first|rfl|exact absurd rfl h
 have q:(op==CmpOp.NotIn)=false:=by cases op<;>first|rfl|exact absurd rfl h2
 cases b<;>simp[behindInMarks,z,q]
theorem BK(G:OpR X (y0c op) r)(ha:PE X a ta)(hb:PE X b tb)(hm:behindInMarks op b=false):PE X (.Compare a [op] [b] pos) (tOp r ta tb):=by
 refine⟨?_⟩;intro pins s σ H Q I h;exact wpAny_Compare1 (Ia ha hb I h fun v u z x y H2 J F B q=>G pins z σ H2 x y v u Q J F B q) hm
noncomputable def GD(t:TE):TT:=fun σ H Q=>t σ H fun x H'=>isBl x fun k=>Q k H'
theorem AI(Z:OpR X (y0c op) r)(ha:PE X a ta)(hb:PE X b tb)(hm:behindInMarks op b=false):PT X (.Compare a [op] [b] pos) (GD (tOp r ta tb)):=by
 refine⟨?_⟩;intro pins s σ H Q I h;refine wpAny_isTrue_Compare1 (thn (ha pins s σ H _ I h) fun v F ⟨x,H1,I1,M,U⟩=>thn (hb pins F σ H1 _ I1 U) fun u B ⟨y,H2,I2,J,O⟩=>
  thn (Z pins B σ H2 x y v u _ I2 M J O) fun c s3 ⟨z,H3,I3,G,q⟩=>?_) hm
 obtain⟨k,e,q⟩:=isBl.o q;subst e;cases G;exact y24 ⟨H3,I3,q⟩
noncomputable def Ie(r F:R2)(ta tb tc:TE):TE:=fun σ H Q=>ta σ H fun x H1=>tb σ H1 fun y H2=>r x y H2 fun z q=>∃k,z=.bl k/\
 (if k=true then tc σ q fun B G=>F y B G Q else Q (.bl false) q)
theorem Ek:(yr:Nat)<2^63:=by rw[sizeLine_eq]; decide
theorem AU:OpR X (binaryOp .Add) (fun x y H Q=>∃i j,x=.str i/\y=.str j/\i.length+j.length<=yr/\Q (.str (i++j)) H):=by
 intro pins s σ H x y v u Q I B z h;obtain⟨i,j,rfl,rfl,hz,q⟩:=h;obtain⟨t,rfl⟩:=B;obtain⟨t',rfl⟩:=z;exact add_str (fun t' tk=>⟨.str (i++j),H,I.tok _,⟨_,rfl⟩,q⟩) hz
theorem Bu(r:Vals [x] us):∃u,us=[u]/\RelV x u:=by
 cases r with
 |cons z q=>cases q; exact⟨_,rfl,z⟩
theorem QR(r:Vals [x,y] us):∃u q,us=[u,q]/\RelV x u/\RelV y q:=by
 cases r with
 |cons G F=>
  cases F with
  |cons B z=>cases z; exact⟨_,_,rfl,G,B⟩
theorem E6:BR X (.type "str") (fun xs H Q=>∃i,xs=[.int i]/\i.natAbs.log2<1920/\Q (.str (toString i)) H):=by
 intro pins s σ H xs us Q I r h;obtain⟨i,rfl,hz,q⟩:=h;obtain⟨u,rfl,t,rfl⟩:=Bu r;exact PySem.P.str_of_int hz ⟨.str _,H,I.tok _,⟨_,rfl⟩,q⟩
structure ObjM(h:Heap)(x dx C:Addr)(mA:Str->Option y9):Prop where
 obj:h.get? x=some (PySem.W.instObj C dx)
 ns:h.Ns1 dx mA
 ne:dx≠x
end
theorem QS{h:Heap}{dx:Addr}{mA:Str->Option y9}(n:h.Ns1 dx mA):∃F,h.get? dx=some F/\∀name,PySem.W.lookIn name F=some (mA name):=by
 obtain⟨o,es,ep,G,hd,hk,_,hm⟩:=n;refine⟨o,G,fun name=>?_⟩;have e:=hm name;unfold nsFind findBy at e;rw[<- Array.find?_toList] at e;unfold PySem.W.lookIn;rw[hd];dsimp only;split
 ·rename_i y q;rw[q] at e;exact congrArg some e
 ·rename_i q;rw[q] at e;have a:es.toList.any (·.refKey)=false:=by
   rw[List.any_eq_false];intro y hy;obtain⟨z,t,B⟩:=hk y (Array.mem_toList_iff.mp hy);simp[DictEntry.refKey,B]
  have J:¬ es.toList.any (·.refKey)=true:=by rw[a]; exact yg
  rw[if_neg J];exact congrArg some e
theorem ObjM.look{mA:Str->Option y9}(I:ObjM h x dx C mA):∃q,PySem.W.InstAt h x (PySem.W.instObj C dx) C (some q)/\∀name,PySem.W.lookIn name q=some (mA name):=
 let ⟨q,ho,hl⟩:=QS I.ns
 ⟨q,⟨I.obj,rfl,rfl,ho⟩,hl⟩
section
variable{prog:yl}{w:y08}{A:y05}{E:y9->y6->Prop}{s:y6}{K:y3}{x dx C f:Addr}{mA:Str->Option y9}{name:Str}{v:y9}
end
noncomputable def Lx(f:Str)(v:V):List (Str×V)->List (Str×V)
 |[]=>[(f,v)]
 |(g,x)::r=>if g=f then(g,v)::r else(g,x)::Lx f v r
section
variable{P:yl}{w:y08}{H H':Hp}{h h':Heap}{a C dx:Addr}{fs fs':List (Str×V)}
theorem QT(B:HOk P w H h)(e:H a=some (.ins C dx fs)):∃mA,ObjM h a dx C mA/\(∀f,I0 (fs.lookup f) (mA f))/\PySem.Within mA (fs.map (·.1))/\fs.length<=1000/\H dx=some (.own a):=by
 obtain⟨d,z,G,F,mA,n,r,q⟩:=(show ObjOk P w H h a (.ins C dx fs) from B a _ e);exact⟨mA,⟨F,n,G⟩,r,q,z,d⟩
end
structure Cls(K:y3)(C:Addr):Prop where
 pg:PySem.W.plainGet K C Str.empty=true
 hd:PySem.W.hasDictIn K C=true
 po:PySem.W.plainOver K C=true
 sa:PySem.W.findIn K (.ref C) "__setattr__" = some (some (.builtin "object.__setattr__"))
theorem Cls.get{K:y3}{C:Addr}(c:Cls K C)(f:Str):PySem.W.plainGet K C f=true:=c.pg
noncomputable def Ly(K:y3)(C:Addr)(f:Str):Prop:=PySem.W.findIn K (.ref C) f=some none
section
variable{X:Cx}{pins:List (Addr×Obj)}{σ:St}{H:Hp}{s:y6}{a C dx:Addr}{fs:List (Str×V)}{f:Str}{v:V}{A:y05}{E:y9->y6->Prop}
end
noncomputable def QU(K:y3)(ta:TE)(f:Str):TE:=fun σ H Q=>ta σ H fun x H1=>∃a C dx fs v,x=.ref a/\H1 a=some (.ins C dx fs)/\Cls K C/\Ly K C f/\fs.lookup f=some v/\Q v H1
noncomputable def QV(K:y3)(ta tv:TE)(f:Str):TS:=fun D σ H=>tv σ H fun y H1=>ta σ H1 fun x H2=>∃a C dx fs,x=.ref a/\H2 a=some (.ins C dx fs)/\Cls K C/\Ly K C f/\fs.length<1000/\
 D.nx σ (upd H2 a (.ins C dx (Lx f y fs)))
section
variable{X:Cx}{o e value:Expr}{f:Str}{pos pos' tpos:Pos}{ta tv:TE}
end
section
variable{X:Cx}{pins:List (Addr×Obj)}{σ:St}{H:Hp}{s:y6}{A:y05}{E:y9->y6->Prop}{Q:y9->y6->Prop}{c:y9}{b:Bool}
inductive TyOf (K:y3) (H:Hp):V->y9->Prop where
 |non:TyOf K H .non (.type "NoneType")
 |bl (x:Bool):TyOf K H (.bl x) (.type "bool")
 |int (i:Int):TyOf K H (.int i) (.type "int")
 |str (x:Str):TyOf K H (.str x) (.type "str")
 |flt (x:UInt64):TyOf K H (.flt x) (.type "float")
 |lst {a:Addr} {xs:List V} (e:H a=some (.lst xs)):TyOf K H (.ref a) (.type "list")
 |frz {a:Addr} {o:Obj} {xs:List V} (e:H a=some (.frz o (.lst xs))):TyOf K H (.ref a) (.type "list")
 |tup {a:Addr} {xs:List V} (e:H a=some (.tup xs)):TyOf K H (.ref a) (.type "tuple")
 |dK {a:Addr} {kvs:List (Key×V)} (e:H a=some (.dK kvs)):TyOf K H (.ref a) (.type "dict")
 |dT {a:Addr} {kvs:List (List Key×V)} (e:H a=some (.dT kvs)):TyOf K H (.ref a) (.type "dict")
 |ins {a C dx:Addr} {fs:List (Str×V)} (e:H a=some (.ins C dx fs)) (cl:Cls K C) (ha:PySem.W.findIn K (.ref C) "__class__" = some (some (.builtin "object.__class__")))
   (hn:PySem.W.specialIn K (.builtin "object.__class__") "__get__" = some (some (.builtin "getset_descriptor.__get__"))) (htk:PySem.W.takesIn K (.builtin "object.__class__")=some true)
   (hm:PySem.W.mroIn K C (.type "object")=some true):TyOf K H (.ref a) (.ref C)
theorem QW(I:Inv X pins σ H s)(B:RelV x u)(ty:TyOf X.K H x t)(e:PySem.W.kitOne X.K t c=some b)(h:∀tk,Q (.bool b) {s with toks:=tk}) :
  y0j (y0e X.prog X.w) A (call (.builtin "isinstance") [u,c]) Q E s:=by
 cases ty with
 |non=>cases (show u=Value.none from B); exact y0w PySem.W.kitx_none I.kIn True.intro e (fun z=>nomatch z) h
 |bl y=>cases (show u=Value.bool y from B); exact y0w PySem.W.kitx_bool I.kIn True.intro e (fun z=>nomatch z) h
 |int i=>obtain⟨t,q⟩:=(show ∃t,u=Value.int i t from B); cases q; exact y0w PySem.W.kitx_int I.kIn True.intro e (fun z=>nomatch z) h
 |str y=>obtain⟨t,q⟩:=(show ∃t,u=Value.str y t from B); cases q; exact y0w PySem.W.kitx_str I.kIn True.intro e (fun z=>nomatch z) h
 |flt y=>obtain⟨t,q⟩:=(show ∃t,u=Value.float y t from B); cases q; exact y0w PySem.W.kitx_float I.kIn True.intro e (fun z=>nomatch z) h
 |@lst a xs F=>
  cases (show u=Value.ref a from B);obtain⟨_,_,n,_,h1⟩:=(show ObjOk X.prog X.w H s.heap a (.lst xs) from I.hok a _ F);exact y0w PySem.W.kitx_list I.kIn ⟨_,h1,rfl⟩ e (fun z=>nomatch z) h
 |@frz a M xs F=>
  cases (show u=Value.ref a from B);obtain⟨_,_,_,n,_,h1⟩:=(show ObjOk X.prog X.w H s.heap a (.frz M (.lst xs)) from I.hok a _ F);exact y0w PySem.W.kitx_list I.kIn ⟨_,h1,rfl⟩ e (fun z=>nomatch z) h
 |@tup a xs F=>
  cases (show u=Value.ref a from B);obtain⟨_,_,_,p⟩:=(show ObjOk X.prog X.w H s.heap a (.tup xs) from I.hok a _ F);obtain⟨o,h1,h2,_⟩:=p;exact y0w PySem.W.kitx_tuple I.kIn ⟨o,h1,h2⟩ e (fun z=>nomatch z) h
 |@dK a kvs F=>
  cases (show u=Value.ref a from B);obtain⟨_,_,vs,_,p⟩:=(show ObjOk X.prog X.w H s.heap a (.dK kvs) from I.hok a _ F);obtain⟨o,es,ep,h1,h2,_⟩:=p;exact y0w PySem.W.kitx_dict I.kIn ⟨o,h1,h2.1⟩ e (fun z=>nomatch z) h
 |@dT a kvs F=>
  cases (show u=Value.ref a from B);obtain⟨_,_,xs,_,o,es,ep,h1,h2,_⟩:=(show ObjOk X.prog X.w H s.heap a (.dT kvs) from I.hok a _ F);exact y0w PySem.W.kitx_dict I.kIn ⟨o,h1,h2.1⟩ e (fun z=>nomatch z) h
 |@ins a C dx fs F cl ha U G hm=>
  cases (show u=Value.ref a from B);obtain⟨mA,O,_⟩:=QT I.hok F;obtain⟨Z,J,_⟩:=O.look;exact y0w (PySem.W.kitx_own (cl.get _) cl.hd ha U G hm) I.kIn J e (fun z=>nomatch z) h
end
structure Room(k:Nat)(A:y05):Prop where
 hd:A.handled=none
 dp:A.depth+3*k+5<recursionLimit
 un:A.units+16*k+200<cLine
theorem Room.mono(r:Room k A)(h:j<=k):Room j A:=⟨r.hd,by have:=r.dp; lia,by have:=r.un; lia⟩
theorem Room.deeper(r:Room (k+1) A)(env:Env):Room k (A.deeper env):=
 ⟨r.hd,by have:=r.dp; show A.depth+1+3*k+5<_; lia,by have:=r.un; show A.units+3+16*k+200<_; lia⟩
theorem Room.depth(r:Room k A):A.depth<recursionLimit:=by have:=r.dp; lia
theorem Room.units(r:Room k A):A.units+64<cLine:=by have:=r.un; lia
noncomputable def GE:TA:=fun _ H Q=>Q [] H
noncomputable def El(ta:TE)(q:TA):TA:=fun σ H Q=>ta σ H fun x H1=>q σ H1 fun xs H2=>Q (x::xs) H2
section
variable{X:Cx}{e:Expr}{es:List Expr}{te:TE}{t:TA}{pos:Pos}
theorem A2:PA X [] GE:=⟨fun _ _ _ _ H Q I h=>Calls.spliced_nil ⟨[],H,I,.nil,h⟩⟩
theorem QX(ha:PE X e te)(M:PA X es t)(J:starEach (e::es) X.env=(false,eval e X.env)::starEach es X.env:=by rfl):PA X (e::es) (El te t):=by
 refine⟨?_⟩;intro pos pins s σ H Q I h;rw[J];show y0j _ _ (spliced ((false,eval e X.env)::backTo pos (starEach es X.env))) _ _ s;refine Calls.spliced_cons (thn (ha pins s σ H _ I h) fun u q ⟨x,H1,U,B,G⟩=>?_);exact thn (M pos pins q σ H1 _ U G) fun us Z ⟨xs,H2,O,z,F⟩=>⟨x::xs,H2,O,.cons B z,F⟩
noncomputable def GF(t:TA):TE:=fun σ H Q=>t σ H fun xs H1=>xs.length<=yr/\∀p,H1 p=none->Q (.ref p) (upd H1 p (.tup xs))
noncomputable def GG(t:TA):TE:=fun σ H Q=>t σ H fun xs H1=>xs.length<=yr/\∀p,H1 p=none->Q (.ref p) (upd H1 p (.lst xs))
theorem Ac{x1}(h:PA X es t):PE X (.Tuple es x1 pos) (GF t):=by
 refine⟨?_⟩;intro pins s σ H Q I hq;refine wpAny_Tuple_spliced (thn (h pos pins s σ H _ I hq) fun us B ⟨xs,H1,F,r,z,q⟩=>⟨by rw[<- r.length]; exact z,?_⟩);have G:H1 B.heap.objs.size=none:=F.hok.fresh (yf _);refine⟨.ref B.heap.objs.size,upd H1 B.heap.objs.size (.tup xs),F.laid (t':=B.toks) (fun b u e=>ye _ e) (yf _) ?_,rfl,q _ G⟩;exact⟨z,us,r,⟨_,y04 _ rfl,rfl,_,rfl⟩⟩
theorem AT(h:PA X es t):PE X (.List es pos) (GG t):=by
 refine⟨?_⟩;intro pins s σ H Q I hq;refine wpAny_List_spliced (thn (h pos pins s σ H _ I hq) fun us B ⟨xs,H1,F,r,z,q⟩=>⟨by rw[<- r.length]; exact z,?_⟩);have G:H1 B.heap.objs.size=none:=F.hok.fresh (yf _);refine⟨.ref B.heap.objs.size,upd H1 B.heap.objs.size (.lst xs),F.laid (t':=B.toks) (fun b u e=>ye _ e) (yf _) ?_,rfl,q _ G⟩;exact⟨z,us,0,r,y04 _ rfl⟩
abbrev Sp:=List V->Hp->VK->XK->Prop
abbrev CXT:=List Env->Hp->y6->XK->y9->y6->Prop
structure Env0(P:yl)(w:y08)(K:y3)(mg:Str->Option y9)(base:Heap)(A:y05)(outer:List Env)(s:y6)(H:Hp):Prop where
 frames:A.frames=some outer
 mod:Mod K mg base
 bs:∀b o,base.get? b=some o->s.heap.get? b=some o/\H b=none
 bsz:base.objs.size<=s.heap.objs.size
 funs:s.heap.FunFrames base outer
 frf:∀b∈frs outer,H b=none
 hok:HOk P w H s.heap
 bare:AllBare s.gens
noncomputable def CE(outer:List Env)(P:yl)(w:y08)(H:Hp)(s:y6)(Q:VK)(u:y9)(s':y6):Prop:=
 ∃v H',s'.os=s.os/\AllBare s'.gens/\Un (frs outer) [] H H' s.heap s'.heap/\HOk P w H' s'.heap/\RelV v u/\Q v H'
end
noncomputable def CR(CX:CXT)(outer:List Env)(P:yl)(w:y08)(H:Hp)(s:y6)(Q:VK)(E:XK)(r:Result)(s':y6):Prop:=
 match r with
 |.ok (.ret u)=>CE outer P w H s Q u s'
 |.ok _=>False
 |.error e=>CX outer H s E e s'
structure FnOk(P:yl)(w:y08)(K:y3)(mg:Str->Option y9)(base:Heap)(CX:CXT)(k:Nat)(f:Addr)(fd:y14)(ps:List Str)(sp:Sp):Prop where
 len:∀vs H Q E,sp vs H Q E->vs.length=ps.length
 run:∀(A:y05) (outer:List Env) (s:y6) (H:Hp) (args:Args) (us:List y9) (vs:List V) (Q:VK) (E:XK),Room k A->Env0 P w K mg base A outer s H->BindsTo s fd args (ps.zip us)->Vals vs us->sp vs H Q E->
  codeAny (y0e P w) A (.call (.ref f) args) (CR CX outer P w H s Q E) s
section
variable{X:Cx}{pins:List (Addr×Obj)}{σ:St}{H:Hp}{s s':y6}
theorem Inv.env0(I:Inv X pins σ H s):Env0 X.prog X.w X.K X.mg X.base X.A X.stack s H:=
 ⟨I.ok.frames,I.ok.mod,I.bs,y0d I.ok.bsz I.sz,I.stack,I.stkFree,I.hok,I.bare⟩
theorem Inv.after(I:Inv X pins σ H s)(h:CE X.stack X.prog X.w H s Q u s'):EP X pins σ Q u s':=by
 obtain⟨v,H',os,B,J,G,r,q⟩:=h;obtain⟨M,g,d,t,F⟩:=s';obtain rfl:F=s.os:=os;exact⟨v,H',I.call (h':=M) (g':=g) (d':=d) (t':=t) (ch:=[]) J G B (fun b z=>absurd z (by simp)),r,q⟩
end
noncomputable def Em(sp:Sp)(dvs:List V)(E:XK)(t:TA):TE:=fun σ H Q=>t σ H fun vs H1=>sp (vs++dvs) H1 Q E
noncomputable def QY(C:Addr)(m:Str)(sp:Sp)(dvs:List V)(E:XK)(ta:TE)(t:TA):TE:=fun σ H Q=>ta σ H fun x H1=>∃a dx fs,x=.ref a/\H1 a=some (.ins C dx fs)/\fs.lookup m=none/\
 t σ H1 fun vs H2=>sp (x::(vs++dvs)) H2 Q E
noncomputable def QZ(C:Addr)(sp:Sp)(dvs:List V)(E:XK)(t:TA):TE:=fun σ H Q=>t σ H fun vs H1=>∀x dx,H1 x=none->H1 dx=none->dx≠x->
 sp (.ref x::(vs++dvs)) (upd (upd H1 dx (.own x)) x (.ins C dx [])) (fun v H2=>v=.non/\Q (.ref x) H2) E
noncomputable def Binds(K:y3)(fd:y14)(ps:List Str)(ds:List y9):Prop:=
 ∀(s:y6) (us:List y9),K.In s.heap->(us++ds).length=ps.length->BindsTo s fd ⟨us,[]⟩ (ps.zip (us++ds))
theorem Binds.all{K:y3}{fd:y14}{ps:List Str}(h:∀us:List y9,us.length=ps.length->bindArgs fd ⟨us,[]⟩=pure (ps.zip us)):Binds K fd ps []:=fun s us _ hl=>by
 rw[y1a] at hl |-;exact .of_eq (h us hl)
noncomputable def Ig(CX:CXT)(X:Cx)(E:XK):Prop:=∀(pins:List (Addr×Obj)) (σ:St) (H:Hp) (s:y6) (e:y9) (s':y6),Inv X pins σ H s->CX X.stack H s E e s'->X.xe e s'
section
variable{X:Cx}{CX:CXT}{k:Nat}{f C:Addr}{fd:y14}{ps:List Str}{sp:Sp}{dvs:List V}{ds:List y9}{E:XK}{x m:Str}{p pos apos:Pos}{e o:Expr}{es:List Expr}{ta:TE}{t:TA}
theorem Ih(F:FnOk X.prog X.w X.K X.mg X.base CX k f fd ps sp)(z:Room k X.A)(hb:Binds X.K fd ps ds)(hd:Vals dvs ds)(hx:Ig CX X E)
  (I:Inv X pins σ H s) (r:Vals vs us) (h:sp (vs++dvs) H Q E):y0j (y0e X.prog X.w) X.A (call (.ref f) us) (EP X pins σ Q) X.xe s:=by
 have q:Vals (vs++dvs) (us++ds):=r.append hd;have hl:(us++ds).length=ps.length:=by rw[<- q.length]; exact F.len _ _ _ _ h
 refine wpAny_call (y32 (F.run X.A X.stack s H ⟨us,[]⟩ (us++ds) (vs++dvs) Q E z I.env0 (hb s us I.kIn hl) q h) fun r s' hq=>?_);cases r with
 |error e=>exact hx pins σ H s e s' I hq
 |ok B=>
  cases B with
  |ret u=>exact I.after hq
  |next=>exact False.elim hq
  |brk=>exact False.elim hq
  |cont=>exact False.elim hq
end
section
variable{X:Cx}{CX:CXT}{k:Nat}{f C:Addr}{fd:y14}{ps ks:List Str}{sp:Sp}{E:XK}{x m:Str}{p pos apos kpos:Pos}{e o:Expr}{es:List Expr}{kws:List Keyword}{te ta:TE}{t tk:TA}{nm:Option Str}
variable{g:List y9->List y9->List y9}{gV:List V->List V->List V}
end
structure FnScope(N P:List Str)(sc:Scope):Prop where
 kind:sc.kind=.function
 co:sc.isCoroutine=false
 gen:sc.isGenerator=false
 nd:N.Nodup
 pre:N.take P.length=P
 par:∀x∈P,sc.names.lookup x=some .local\/sc.names.lookup x=some .cell
 nofree:∀y∈sc.names,y.2≠.free
theorem Lz{y2s:Str->Option NameKind}:∀{q:List (Str×y9)} {m:Str->Option y9},(∀v,(x,v)∉q)->bindL y2s q m x=m x
 |[],_,_=>rfl
 |(n,v)::r,m,h=>by
  unfold bindL;rw[Lz fun w hw=>h w (yb _ hw)];split
  ·have:x≠n:=by rintro rfl; exact h v y02
   simp[this]
  ·rfl
theorem M1{y2s:Str->Option NameKind}:∀{q:List (Str×y9)} {m:Str->Option y9},(∀v,(x,v)∉q)->bindC y2s q m x=m x
 |[],_,_=>rfl
 |(n,v)::r,m,h=>by
  unfold bindC;rw[M1 fun w hw=>h w (yb _ hw)];split
  ·rfl
  ·have:x≠n:=by rintro rfl; exact h v y02
   simp[this]
theorem M2{y2s:Str->Option NameKind}:∀{P:List Str} {vs:List y9} {i:Nat} {m:Str->Option y9},P.Nodup->P[i]?=some x->vs[i]?=some v->y2s x=some .local->
  bindL y2s (P.zip vs) m x=some v
 |[],_,_,_,_,h,_,_=>by simp at h
 |_::_,[],_,_,_,_,h,_=>by simp at h
 |p::P,w::vs,0,m,q,h1,h2,hk=>by
  simp at h1 h2; subst h1; subst h2;show bindL y2s ((p,w)::P.zip vs) m p=_;unfold bindL;rw[Lz fun v z=>(List.nodup_cons.mp q).1 (List.of_mem_zip z).1,if_pos hk];simp
 |p::P,w::vs,i+1,m,q,h1,h2,hk=>by
  show bindL y2s ((p,w)::P.zip vs) m x=_;unfold bindL;exact M2 (i:=i) (List.nodup_cons.mp q).2 (by simpa using h1) (by simpa using h2) hk
theorem M3{y2s:Str->Option NameKind}:∀{P:List Str} {vs:List y9} {i:Nat} {m:Str->Option y9},P.Nodup->P[i]?=some x->vs[i]?=some v->y2s x≠some .local->
  bindC y2s (P.zip vs) m x=some v
 |[],_,_,_,_,h,_,_=>by simp at h
 |_::_,[],_,_,_,_,h,_=>by simp at h
 |p::P,w::vs,0,m,q,h1,h2,hk=>by
  simp at h1 h2; subst h1; subst h2;show bindC y2s ((p,w)::P.zip vs) m p=_;unfold bindC;rw[M1 fun v z=>(List.nodup_cons.mp q).1 (List.of_mem_zip z).1,if_neg hk];simp
 |p::P,w::vs,i+1,m,q,h1,h2,hk=>by
  show bindC y2s ((p,w)::P.zip vs) m x=_;unfold bindC;exact M3 (i:=i) (List.nodup_cons.mp q).2 (by simpa using h1) (by simpa using h2) hk
noncomputable def start:List Str->List V->St
 |_::N,v::vs=>some v::start N vs
 |_::N,[]=>none::start N []
 |[],_=>[]
theorem Ii:start (n::N) (v::vs)=some v::start N vs:=rfl
theorem Ij:start (n::N) []=none::start N []:=rfl
theorem Ik:start [] []=[]:=rfl
theorem Il{P:V->Prop}:atS 0 (start (n::N) (v::vs)) P=P v:=rfl
theorem Im{P:V->Prop}:atS (i+1) (start (n::N) (v::vs)) P=atS i (start N vs) P:=rfl
theorem Io{Q:St->Prop}:Bc 0 v (start (n::N) (w::vs)) Q=Q (some v::start N vs):=rfl
theorem Ip{Q:St->Prop}:Bc (i+1) v (start (n::N) (w::vs)) Q=Bc i v (start N vs) fun q=>Q (some w::q):=rfl
theorem Iq{Q:St->Prop}:Bc 0 v (start (n::N) []) Q=Q (some v::start N []):=rfl
theorem Ir{Q:St->Prop}:Bc (i+1) v (start (n::N) []) Q=Bc i v (start N []) fun q=>Q (none::q):=rfl
theorem M4:∀N:List Str,start N []=List.replicate N.length none
 |[]=>rfl
 |_::N=>by rw[start,M4 N]; rfl
theorem GH:∀{N:List Str} {vs:List V},vs.length<=N.length->start N vs=vs.map some++List.replicate (N.length-vs.length) none
 |N,[],_=>by rw[M4]; simp
 |_::N,v::vs,h=>by
  rw[start,GH (by simpa using h)];simp
 |[],_::_,h=>absurd h (by simp)
noncomputable def AS(CX:CXT)(P:yl)(w:y08)(K:y3)(mg:Str->Option y9)(base:Heap)(N:List Str)(qual:Str)(scope:Scope)(f:Addr)(cd:y9)(A:y05)(outer:List Env)(s:y6)(H:Hp)(E:XK):Cx where
 prog:=P
 w:=w
 K:=K
 mg:=mg
 base:=base
 A:=A.deeper (envOfC qual scope s.heap.objs.size f cd)
 N:=N
 s₀:=s
 H₀:=H
 env:=envOfC qual scope s.heap.objs.size f cd
 outer:=outer
 stack:=envOfC qual scope s.heap.objs.size f cd::outer
 ex:=[]
 calm:=true
 fn:=fun _=>true
 pn:=[]
 xe:=fun e s'=>y0j (y0e P w) (A.deeper (envOfC qual scope s.heap.objs.size f cd)) (leaving (envOfC qual scope s.heap.objs.size f cd) e) (fun _ q=>CX outer H s E e q) (fun z q=>CX outer H s E z q) s'
theorem M5{sc:Scope}{n:Nat}{x:Str}(h:sc.names.lookup x=some .cell):∃c,(cellsFrom n sc.names []).lookup x=some c:=by
 have q:=PySem.W.cellsFrom_some sc.names n [] (.inl h);exact Option.isSome_iff_exists.mp q
theorem Qa{CX:CXT}{P:yl}{w:y08}{K:y3}{mg:Str->Option y9}{base:Heap}{N ps:List Str}{qual:Str}{scope:Scope}{f:Addr}{cd:y9}{A:y05}{outer:List Env}{s M:y6}{H:Hp}{E:XK}{us:List y9}{vs:List V}
  (S:FnScope N ps scope) (hd:A.handled=none) (B:Env0 P w K mg base A outer s H) (hl:vs.length=ps.length) (r:Vals vs us)
  (x:InCallC s s.heap.objs.size (bindL (envOfC qual scope s.heap.objs.size f cd).kindOf (ps.zip us) fun _=>none) (cellsFrom (s.heap.objs.size+1) scope.names []) (bindC (envOfC qual scope s.heap.objs.size f cd).kindOf (ps.zip us) fun _=>none) M) :
  Inv (AS CX P w K mg base N qual scope f cd A outer s H E) [] (start N vs) H M:=by
 have U:ps.length<=N.length:=by have:=congrArg List.length S.pre; rw[yz] at this; lia
 obtain⟨h1,tk,rfl,hk⟩:=x.done;have F:∀b:Addr,b∉(AS CX P w K mg base N qual scope f cd A outer s H E).ex:=fun b z=>absurd (show b∈([]:List Addr) from z) (by simp);refine⟨⟨B.mod,S.kind,rfl,rfl,yf _,fun y z c h1 h2=>?_,fun y hy=>?_,fun y c _ h=>?_,fun _=>hd,Around.frames_deeper B.frames,.inr ⟨rfl,rfl⟩,fun b z=>absurd z (F b),B.bs,B.bsz,fun b _ _=>F b,fun b z=>absurd z (F b),B.funs,B.frf⟩,
  rfl,B.bare,Un.kept hk,⟨_,x.toInCall.ns,fun i y v h1 h2 Z=>?_⟩,fun y c h=>⟨_,x.cell y c h⟩,B.hok.fresh (yf _),fun y c h=>?_,fun p J=>absurd (show p∈([]:List (Addr×Obj)) from J) (by simp),B.hok.kept hk,?_⟩
 ·exact name_of_addr x.apart (y12 h1) (y12 h2)
 ·have hy:scope.names.lookup y=some .cell\/scope.names.lookup y=some .free:=hy;rcases hy with hy|hy
  ·exact M5 hy
  ·exact absurd rfl (S.nofree _ (y12 hy))
 ·exact y2r (x.above y c (y12 h))
 ·have hi:i<vs.length:=by
   rw[GH (by lia)] at h2;by_cases hi:i<vs.length
   ·exact hi
   ·rw[List.getElem?_append_right (by simpa using hi)] at h2;rw[List.getElem?_replicate] at h2;split at h2<;>cases h2
  have ha:vs[i]?=some v:=by
   rw[GH (by lia)] at h2;rw[List.getElem?_append_left (by simpa using hi),y0b] at h2;cases e:vs[i]? with
   |none=>rw[e] at h2; cases h2
   |some a=>rw[e] at h2; cases h2; rfl
  obtain⟨u,hu,O⟩:=r.get ha;have J:ps[i]?=some y:=by
   rw[<- S.pre,List.getElem?_take_of_lt (by lia)]; exact h1
  have G:ps.Nodup:=by rw[<- S.pre]; exact S.nd.sublist (List.take_sublist _ _)
  refine⟨u,O,?_⟩;rcases S.par y (yt J) with k|k
  ·exact .inl ⟨k,M2 G J hu k⟩
  ·obtain⟨c,e⟩:=M5 (n:=s.heap.objs.size+1) k;refine .inr ⟨.inl k,c,e,?_⟩;have q:=x.cell y c e;rw[M3 G J hu (by show scope.names.lookup y≠_; rw[k]; decide)] at q;exact q
 ·exact B.hok.fresh (y2r (x.above y c (y12 h)))
 ·show(start N vs).length=N.length;rw[GH (by lia)];rw[yj,y4,List.length_replicate];lia
theorem M6{CX:CXT}{P:yl}{w:y08}{K:y3}{mg:Str->Option y9}{base:Heap}{k:Nat}{f:Addr}{name qual:Str}{B:Arguments}{F:List Stmt}{scope:Scope}{dV kV ac pm z ct oc:y9}{an od:Option Addr}
  {ae:Array (Option y9)} {N ps:List Str} {sp:Sp} (lk:K.lookup f=some ⟨oc,od,.func (PySem.W.fnOf name qual B F scope dV kV ac pm an z ct),ae⟩) (ag:PySem.W.codeIn K z qual=true) (S:FnScope N ps scope)
  (len:∀vs H Q E,sp vs H Q E->vs.length=ps.length)
  (O:∀(A:y05) (outer:List Env) (s:y6) (H:Hp) (vs:List V) (Q:VK) (E:XK),Room k (A.deeper (envOfC qual scope s.heap.objs.size f z))->sp vs H Q E->
   ∃t,PSs (AS CX P w K mg base N qual scope f z A outer s H E) F t/\t {nx:=fun _ H'=>Q .non H',rt:=Q} (start N vs) H) :
  FnOk P w K mg base CX (k+1) f (PySem.W.fnOf name qual B F scope dV kV ac pm an z ct) ps sp:=by
 refine⟨len,fun A outer s H args us vs Q E hr e0 hb r Z=>?_⟩;have hl:=len _ _ _ _ Z;have KX:K.In s.heap:=e0.mod.kin.keeps fun b o e=>(e0.bs b o e).1;have af:s.heap.NoLimit:=e0.mod.nolimit.keeps fun b o e=>(e0.bs b o e).1;have M:∀y∈ps.zip us,scope.names.lookup y.1=some .local\/(scope.names.lookup y.1=some .cell/\((cellsFrom (s.heap.objs.size+1) scope.names []).lookup y.1).isSome=true):=fun⟨n,v⟩ hy=>by
  rcases S.par n (List.of_mem_zip hy).1 with q|q
  ·exact .inl q
  ·exact .inr ⟨q,PySem.W.cellsFrom_some _ _ _ (.inl q)⟩
 refine codeAny_call_function hr.depth (KX _ _ lk) rfl S.co S.gen rfl (PySem.W.codeRec_of KX ag) (hb _ _ _ _ ?_);refine wpAny_newFunctionEnv_cells S.kind M fun env he s1 x=>?_;subst he;refine⟨af.keeps x.toInCall.keep,codeAny_func ?_⟩;obtain⟨t,ht,hq⟩:=O A outer s H vs Q E (hr.deeper _) Z;have I:Inv (AS CX P w K mg base N qual scope f z A outer s H E) [] (start N vs) H s1:=Qa S hr.hd e0 hl r x;refine y1d (ht [] s1 (start N vs) H _ I hq) (fun fl s' U=>?_) fun e s' U=>U;have aa:∀{G:St} {H':Hp} {v:V} {u:y9},Inv (AS CX P w K mg base N qual scope f z A outer s H E) [] G H' s'->RelV v u->Q v H'->CE outer P w H s Q u s':=
  fun {G H' v u} J rv q=>⟨v,H',J.os,J.bare,J.base,J.hok,rv,q⟩
 cases fl with
 |ret u=>
  obtain⟨v,G,H',J,rv,q⟩:=U;exact aa J rv q
 |next=>
  obtain⟨G,H',J,q⟩:=U;exact aa (v:=V.non) (u:=Value.none) J rfl q
 |brk=>
  obtain⟨_,_,_,q⟩:=U;exact False.elim q
 |cont=>
  obtain⟨_,_,_,q⟩:=U;exact False.elim q
section
variable{X:Cx}{x:Str}{p pos:Pos}{e:Expr}{es:List Expr}{t:TA}{id T:String}{r:List V->Hp->VK->Prop}
noncomputable def tCB(r:List V->Hp->VK->Prop)(t:TA):TE:=fun σ H Q=>t σ H fun vs H1=>r vs H1 Q
theorem Qb(hc:BR X (.builtin id) r)(O:Gl X x)(hm:X.mg x=none)(J:bootBuiltins x=some (.builtin id))(ha:PA X (e::es) t) (M:x≠"__name__":=by decide) (z:(x==("__debug__" : Str))=false:=by decide)
  (U:starEach (e::es) X.env=(false,eval e X.env)::starEach es X.env:=by rfl) (q:(backTo pos (starEach es X.env)).any (·.1)=false:=by rfl):PE X (.Call (.Name x p) (e::es) [] pos) (tCB r t):=by
 refine⟨?_⟩;intro pins s σ H Q I h;refine y1n (E1 I O hm J ?_ M z);exact PyProof.Rows.callWith_builtin1 (thn (ha pos pins s σ H _ I h) fun us B ⟨vs,H1,Z,F,G⟩=>hc pins B σ H1 vs us Q Z F G) U q
theorem Qc(hc:BR X (.type T) r)(O:Gl X x)(hm:X.mg x=none)(J:bootBuiltins x=some (.type T))(ha:PA X (e::es) t) (M:x≠"__name__":=by decide) (z:(x==("__debug__" : Str))=false:=by decide)
  (U:starEach (e::es) X.env=(false,eval e X.env)::starEach es X.env:=by rfl) (q:(backTo pos (starEach es X.env)).any (·.1)=false:=by rfl):PE X (.Call (.Name x p) (e::es) [] pos) (tCB r t):=by
 refine⟨?_⟩;intro pins s σ H Q I h;refine y1n (E1 I O hm J ?_ M z);exact y1c (thn (ha pos pins s σ H _ I h) fun us B ⟨vs,H1,Z,F,G⟩=>hc pins B σ H1 vs us Q Z F G) U q
end
end L2
namespace HT
open PySem PyProof.Rows
section
open PySem.SeqAt
open PySem.AutoSeq1 (wpAny_loadPart')
open PySem.MeetsSeq PySem.MeetsSeq2 PySem.MeetsSeq3
end
section
variable{prog:yl}{w:y08}{A:y05}{E:y9->y6->Prop}{s:y6}
theorem Qd{Q:y9->y6->Prop}(ht:IsTup s.heap t vs.toArray)(hb:IsTup s.heap b ws.toArray)(hv:vs≠[])
  (h1:ws=[]->Q (.ref t) s) (h2:ws≠[]->Q (.ref s.heap.objs.size) {s with heap:=s.heap.push {cls:=.type "tuple",data:=.seq (vs++ws).toArray}})
  (O:vs.length+ws.length<=yr):y0j (y0e prog w) A (binaryOp .Add (.ref t) (.ref b)) Q E s:=by
 obtain⟨⟨cls,dd,data,U⟩,M,hc,n,hd⟩:=id ht;obtain⟨⟨aa,J,data2,z⟩,q,G,Z,B⟩:=id hb;simp only at hc hd G B;subst hc hd G B;have e:vs.toArray++ws.toArray=(vs++ws).toArray:=by simp
 by_cases hw:ws=[]
 ·exact concat_meets ⟨_,M,rfl⟩ ⟨_,q,rfl⟩ noFill_tuple_add seq_tuple_add y2h y2f (y2e _ _)
   (tuple_addW1 t b vs.toArray ws.toArray n Z dd J U z (by simpa using hv) (by simp[hw])) ⟨M,q,h1 hw⟩
 ·refine concat_meets ⟨_,M,rfl⟩ ⟨_,q,rfl⟩ noFill_tuple_add seq_tuple_add y2h y2f (y2e _ _)
   (tuple_addW2 t b vs.toArray ws.toArray n Z dd J U z (by simpa using hv) (by simpa using hw) (by rw[yn,yn]; exact O)) ⟨M,q,?_⟩
  rw[e];exact h2 hw
noncomputable def sIx(n d:Nat):Option Int->Nat
 |none=>d
 |some v=>if v<0 then(v+(n:Int)).toNat else min v.toNat n
theorem Qf(n d:Nat):sIx n d none=d:=rfl
theorem M7(n d k:Nat):sIx n d (some (k:Int))=min k n:=by
 show(if(k:Int)<0 then((k:Int)+(n:Int)).toNat else min (k:Int).toNat n)=min k n;rw[if_neg (by lia),y3c]
theorem Qg(n d:Nat)(hd:d<=n)(o:Option Int):sIx n d o<=n:=by
 cases o with
 |none=>exact hd
 |some v=>
  show(if v<0 then(v+(n:Int)).toNat else min v.toNat n)<=n;by_cases q:v<0
  ·rw[if_pos q]; lia
  ·rw[if_neg q]; exact Nat.min_le_right _ _
theorem M8(v:Int)(n d:Nat):(if v<0 then max (v+(n:Int)) 0 else min v (n:Int))=((sIx n d (some v):Nat):Int):=by
 show(if v<0 then max (v+(n:Int)) 0 else min v (n:Int))=(((if v<0 then(v+(n:Int)).toNat else min v.toNat n):Nat):Int);by_cases q:v<0
 ·simp only[if_pos q]; lia
 ·simp only[if_neg q]; lia
theorem Qh(lo hi:Option Int)(n:Nat):Builtin.Slice.sliceAdjust lo hi 1 (n:Int)=(((sIx n 0 lo:Nat):Int),((sIx n n hi:Nat):Int)):=by
 have h1:¬ ((1:Int)<0):=by lia
 unfold Builtin.Slice.sliceAdjust;simp only[h1,if_false];refine Prod.ext ?_ ?_
 ·cases lo with
  |none=>rfl
  |some v=>exact M8 v n 0
 ·cases hi with
  |none=>rfl
  |some v=>exact M8 v n n
theorem Qi(i j:Nat):Builtin.Slice.slicePlaces (i:Int) (j:Int) 1=j-i:=by
 unfold Builtin.Slice.slicePlaces;have h1:(1:Int)>0:=by lia
 simp only[h1,if_true,Int.ediv_one];split<;>lia
theorem M9{Q:Option Int->y6->Prop}(p:IsPart v o)(h:Q o s):y0j (y0e prog w) A (Builtin.Slice.slicePartIndex v) Q E s:=by
 cases p with
 |none=>exact slicePart_none h
 |int i t=>exact slicePart_int h
theorem MA{G:Addr}{F B:y9}{lo hi:Option Int}{n:Nat}{Q:Int×Int×Nat->y6->Prop}(M:s.heap.IsSliceOf G F B .none)(pl:IsPart F lo)(J:IsPart B hi)
  (h:Q (((sIx n 0 lo:Nat):Int),1,sIx n n hi-sIx n 0 lo) s):y0j (y0e prog w) A (Builtin.Slice.sliceApplied (.ref G) (pure (n:Int))) Q E s:=by
 obtain⟨os,q,O,z⟩:=id M;unfold Builtin.Slice.sliceApplied Builtin.Slice.sliceFields;refine yi (yi (wpAny_field q z (x:=F) rfl (yi (wpAny_field q z (x:=B) rfl (yi (wpAny_field q z (x:=.none) rfl (yy ?_)))))));refine yi (slicePart_none ?_);show y0j _ _ (if((1:Int)==0)=true then _ else _) _ _ s;rw[if_neg (by decide)];refine yi (M9 pl (yi (M9 J (yi (yy ?_)))));show y0j _ _ (match Builtin.Slice.sliceAdjust lo hi 1 (n:Int) with|(lo,hi)=>pure (lo,(1:Int),Builtin.Slice.slicePlaces lo hi 1)) _ _ s;rw[Qh lo hi n];show y0j _ _ (pure (((sIx n 0 lo:Nat):Int),(1:Int),Builtin.Slice.slicePlaces ((sIx n 0 lo:Nat):Int) ((sIx n n hi:Nat):Int) 1)) _ _ s;rw[Qi];exact yy h
theorem Qj(xs:Array y9)(i k:Nat):((List.range k).filterMap fun(m:Nat)=>xs[((i:Int)+(m:Int)*1).toNat]?).toArray=((xs.toList.drop i).take k).toArray:=by
 have e:(fun(m:Nat)=>xs[((i:Int)+(m:Int)*1).toNat]?)=fun m=>xs[i+m]?:=by
  funext m;have:((i:Int)+(m:Int)*1).toNat=i+m:=by lia
  rw[this]
 rw[e];have:=pick_run xs i k;rw[List.filterMap_map] at this;have q:((fun x=>xs[x]?) ∘ fun x=>i+x)=fun m=>xs[i+m]?:=rfl;rw[q] at this;rw[this]
theorem Qk{t G:Addr}{z:Array y9}{vl Z:y9}{lo hi:Option Int}{Q:y9->y6->Prop}(F:IsTup s.heap t z)(hs:s.heap.IsSliceOf G vl Z .none)(pl:IsPart vl lo)(pu:IsPart Z hi)
  (hw:¬ (sIx z.size 0 lo=0/\sIx z.size z.size hi=z.size))
  (h:Q (.ref s.heap.objs.size) {s with heap:=s.heap.push {cls:=.type "tuple",data:=.seq ((z.toList.drop (sIx z.size 0 lo)).take (sIx z.size z.size hi-sIx z.size 0 lo)).toArray}})
  (aa:z.size<=yr):y0j (y0e prog w) A (getItem (.ref t) (.ref G)) Q E s:=by
 have B:sizeOk (.seq ((z.toList.drop (sIx z.size 0 lo)).take (sIx z.size z.size hi-sIx z.size 0 lo)).toArray):=by
  show((z.toList.drop (sIx z.size 0 lo)).take (sIx z.size z.size hi-sIx z.size 0 lo)).toArray.size<=yr;rw[yn,yz,List.length_drop,y29];lia
 have hj:sIx z.size z.size hi<=z.size:=Qg _ _ (yf _) hi;obtain⟨os,J,O,ac⟩:=id hs;have U:s.TypeIs (.ref G) "slice":=⟨os,J,O⟩;unfold getItem;try with_reducible refine y2q ?_
 first|refine yi (yy ?_)|skip
 refine yi (wpAny_sequenceKey F.typeIs (by decide) ?_);refine yi (y13 (name:=Str.ofString "__getitem__") F.typeIs y15
  (y1w y15 F.typeIs entry_tuple_getitem ?_ (args_tuple_getitem _ _)))
 show y0j _ _ (Builtin.Tuple.tupleItemsOf (.ref t) >>= _) _ _ s;refine yi (tupleItemsOf_ F ?_);refine yi (wpAny_typeOf U ?_);rw[if_pos (by decide)];refine yi (MA hs pl pu ?_);have M:¬ ((((sIx z.size 0 lo:Nat):Int)==0&&(1:Int)==1&&(sIx z.size z.size hi-sIx z.size 0 lo)==z.size)=true):=by
  intro q;rw[y8,y8] at q;have q1:((sIx z.size 0 lo:Nat):Int)=0:=eq_of_beq q.1.1;have q2:sIx z.size z.size hi-sIx z.size 0 lo=z.size:=eq_of_beq q.2;exact hw ⟨by lia,by lia⟩
 show y0j _ _ (if(((sIx z.size 0 lo:Nat):Int)==0&&(1:Int)==1&&(sIx z.size z.size hi-sIx z.size 0 lo)==z.size)=true then _ else _) _ _ s;rw[if_neg M,Qj];first
  |exact yi (m:=Builtin.Tuple.tupleExact _) (y25 (yy ⟨_,rfl,yy h⟩) B)
  |exact yi (m:=Builtin.Tuple.tupleExact _) (y25 (yi (yy (yy ⟨_,rfl,yy h⟩))) B)
  |exact yi (yi (m:=Builtin.Tuple.tupleExact _) (y25 (yy (yy ⟨_,rfl,yy h⟩)) B))
  |exact yi (yi (m:=Builtin.Tuple.tupleExact _) (y25 (yy ⟨_,rfl,yy h⟩) B))
end
end HT
namespace L2
open PySem PySem.Spec PyProof.Rows
abbrev TO:=St->Hp->(Option Int->Hp->Prop)->Prop
abbrev POv(X:Cx)(e:Option Expr)(t:TO):Prop:=
 ∀(pins:List (Addr×Obj)) (s:y6) (σ:St) (H:Hp) (Q:Option Int->Hp->Prop),Inv X pins σ H s->t σ H Q->
  y0j (y0e X.prog X.w) X.A (evalPart e X.env) (fun u s'=>∃o H',Inv X pins σ H' s'/\IsPart u o/\Q o H') X.xe s
structure PO(X:Cx)(e:Option Expr)(t:TO):Prop where
 run:POv X e t
instance{X:Cx}{e:Option Expr}{t:TO}:CoeFun (PO X e t) (fun _=>POv X e t):=⟨PO.run⟩
noncomputable def GI:TO:=fun _ H Q=>Q none H
noncomputable def GJ(t:TE):TO:=fun σ H Q=>t σ H fun x H1=>isI x fun i=>Q (some i) H1
section
variable{X:Cx}{e:Expr}{te:TE}{lo hi:Option Expr}{tl th:TO}{pos p2:Pos}
theorem Ar:PO X none GI:=by
 refine⟨?_⟩;intro pins s σ H Q I h;rw[evalPart_none];exact yy ⟨none,H,I,.none,h⟩
theorem As(h:PE X e te):PO X (some e) (GJ te):=by
 refine⟨?_⟩;intro pins s σ H Q I hw;rw[evalPart_some];refine thn (h pins s σ H _ I hw) fun u G ⟨x,H1,F,z,B⟩=>?_;obtain⟨i,rfl,q⟩:=isI.o B;obtain⟨t,rfl⟩:=z;exact⟨some i,H1,F,.int i t,q⟩
noncomputable def SlR(X:Cx)(r:V->Option Int->Option Int->Hp->VK->Prop):Prop:=
 ∀(pins:List (Addr×Obj)) (s:y6) (σ:St) (H:Hp) (x:V) (v z q:y9) (lo hi:Option Int) (B:Addr) (Q:VK),Inv X pins σ H s->RelV x v->s.heap.IsSliceOf B z q .none->IsPart z lo->IsPart q hi->r x lo hi H Q->
  ∃T id,typeLookup (.type T) "__getitem__" = pure (some (.builtin id))/\s.TypeIs v T/\y0j (y0e X.prog X.w) X.A (getItem v (.ref B)) (EP X pins σ Q) X.xe s
noncomputable def tSl(r:V->Option Int->Option Int->Hp->VK->Prop)(te:TE)(tl th:TO):TE:=fun σ H Q=>te σ H fun x H1=>tl σ H1 fun l H2=>th σ H2 fun u q=>r x l u q Q
theorem At{r:V->Option Int->Option Int->Hp->VK->Prop}(hr:SlR X r)(he:PE X e te)(hl:PO X lo tl)(hu:PO X hi th):PE X (.Subscript e (.Slice lo hi none p2) pos) (tSl r te tl th):=by
 refine⟨?_⟩;intro pins s σ H Q I h;refine Subscript_ (thn (he pins s σ H _ I h) fun v M ⟨x,H1,I1,O,q1⟩=>?_);refine wpAny_Slice (thn (hl pins M σ H1 _ I1 q1) fun F J ⟨l,H2,I2,pl,Z⟩=>thn (hu pins J σ H2 _ I2 Z) fun B z ⟨u,G,I3,pu,U⟩=>?_);rw[evalPart_none];refine yy ?_;have I4:Inv X pins σ G {z with heap:=z.heap.push {cls:=.type "slice",data:=.fields #[F,B,.none]}}:=I3.kept (t':=z.toks) fun b ob q=>ye _ q;obtain⟨T,id,hT,ht,hg⟩:=hr pins {z with heap:=z.heap.push {cls:=.type "slice",data:=.fields #[F,B,.none]}} σ G x v F B l u z.heap.objs.size Q I4 O (Heap.IsSliceOf.new ..) pl pu U;show y0j (y0e X.prog X.w) X.A (subscriptTail e (.Slice lo hi none p2) v (.ref z.heap.objs.size)) (EP X pins σ Q) X.xe {z with heap:=z.heap.push {cls:=.type "slice",data:=.fields #[F,B,.none]}};exact tail_any (ops:=[.ref z.heap.objs.size,v]) ht hT hg (by with_unfolding_all rfl)
noncomputable def BS(xs:List V)(lo hi:Option Int):List V:=(xs.drop (HT.sIx xs.length 0 lo)).take (HT.sIx xs.length xs.length hi-HT.sIx xs.length 0 lo)
theorem MB(xs:List V)(lo hi:Option Int):(BS xs lo hi).length<=xs.length:=by
 unfold BS;rw[yz,List.length_drop];lia
noncomputable def GK(K:y3):V->Option Int->Option Int->Hp->VK->Prop:=fun x lo hi H Q=>∃a xs,x=.ref a/\SqT K H a xs/\
 ¬ (HT.sIx xs.length 0 lo=0/\HT.sIx xs.length xs.length hi=xs.length)/\∀p,H p=none->Q (.ref p) (upd H p (.tup (BS xs lo hi)))
theorem Ql:SlR X (GK X.K):=by
 intro pins s σ H x v U O lo hi Z Q I G M pl J h;obtain⟨a,xs,rfl,hx,hw,q⟩:=h;cases G;obtain⟨B,r,F,hz⟩:=I.tuple hx;have z:B.toArray.size=xs.length:=by rw[yn]; exact r.length.symm
 refine⟨"tuple",_,PyProof.Rows.slot_tuple_getitem.lookup,F.typeIs,?_⟩;refine HT.Qk F M pl J (by rw[z]; exact hw) ?_ (by rw[z]; exact hz);rw[z];refine⟨.ref s.heap.objs.size,_,I.laid (t':=s.toks) (o:=.tup (BS xs lo hi)) (fun b ob q=>ye _ q) (yf _) ?_,rfl,q _ (I.hok.fresh (yf _))⟩;exact⟨y0d (MB xs lo hi) hz,_,(r.drop (HT.sIx xs.length 0 lo)).take (HT.sIx xs.length xs.length hi-HT.sIx xs.length 0 lo),IsTup.new _ _⟩
noncomputable def Qm(K:y3):R2:=fun x y H Q=>∃a b xs ys,x=.ref a/\y=.ref b/\SqT K H a xs/\SqT K H b ys/\xs≠[]/\xs.length+ys.length<=yr/\
 (ys=[]->Q (.ref a) H)/\(ys≠[]->∀p,H p=none->Q (.ref p) (upd H p (.tup (xs++ys))))
theorem Vals.nil_iff(r:Vals xs us):us=[]↔xs=[]:=by
 cases r with
 |nil=>simp
 |cons _ _=>simp
theorem Qn:OpR X (binaryOp .Add) (Qm X.K):=by
 intro pins s σ H x y v u Q I M J h;obtain⟨a,b,xs,ys,rfl,rfl,ha,hb,hx,hz,U,O⟩:=h;cases M;cases J;obtain⟨aa,F,Z,_⟩:=I.tuple ha;obtain⟨G,B,p2,_⟩:=I.tuple hb;refine HT.Qd Z p2 (fun z=>hx (F.nil_iff.mp z)) (fun z=>⟨.ref a,H,I,rfl,U (B.nil_iff.mp z)⟩) (fun z=>?_) (by rw[<- F.length,<- B.length]; exact hz);refine⟨.ref s.heap.objs.size,_,I.laid (t':=s.toks) (o:=.tup (xs++ys)) (fun b ob q=>ye _ q) (yf _) ?_,rfl,O (fun w=>z (B.nil_iff.mpr w)) _ (I.hok.fresh (yf _))⟩;exact⟨by rw[yj]; exact hz,_,F.append B,IsTup.new _ _⟩
noncomputable def ixN(n:Nat)(i:Int):Option Nat:=if 0<=i then(if i<n then some i.toNat else none) else if -(n:Int)<=i then some (i+n).toNat else none
noncomputable def atI{q:Type}(xs:List q)(i:Int):Option q:=(ixN xs.length i).bind fun j=>xs[j]?
end
theorem Qo(h:ixN n i=some j):seqIndex? i n=some j/\j<n/\-(n:Int)<=i/\i<n:=by
 unfold ixN at h;by_cases q:0<=i
 ·rw[if_pos q] at h;by_cases h1:i<n
  ·rw[if_pos h1] at h;have e:i.toNat=j:=y0n h;exact⟨by rw[seqIndex_of q h1,e],by lia,by lia,h1⟩
  ·rw[if_neg h1] at h; cases h
 ·rw[if_neg q] at h;by_cases h1 : -(n:Int)<=i
  ·rw[if_pos h1] at h;have e:(i+n).toNat=j:=y0n h;exact⟨by rw[seqIndex_neg (by lia) h1,e],by lia,h1,by lia⟩
  ·rw[if_neg h1] at h; cases h
theorem Iu{q:Type}{xs:List q}{i:Int}{v:q}(h:atI xs i=some v):∃j,seqIndex? i xs.length=some j/\xs[j]?=some v/\j<xs.length/\-(xs.length:Int)<=i/\i<xs.length:=by
 unfold atI at h;cases e:ixN xs.length i with
 |none=>rw[e] at h; cases h
 |some j=>
  rw[e] at h;obtain⟨h1,h2,B,z⟩:=Qo e;exact⟨j,h1,h,h2,B,z⟩
theorem DA{q:Type}{xs:List q}{j:Nat}{v:q}(h:xs[j]?=some v):atI xs (j:Int)=some v:=by
 have z:j<xs.length:=(List.getElem?_eq_some_iff.mp h).1;have e:ixN xs.length (j:Int)=some j:=by
  unfold ixN;rw[if_pos (by lia),if_pos (by lia)]; simp
 unfold atI; rw[e]; exact h
theorem Iv{q:Type}(xs:List q)(v:q):atI (xs++[v]) (-1)=some v:=by
 have hl:(xs++[v]).length=xs.length+1:=by simp
 have e:ixN (xs++[v]).length (-1)=some xs.length:=by
  unfold ixN;rw[hl,if_neg (by decide),if_pos (by lia)];congr 1;lia
 unfold atI;rw[e];show(xs++[v])[xs.length]?=some v;simp
noncomputable def Qp(b:Expr):Prop:=∀o i,subscripted b false o i=operate [o,i] (getItem o i)
noncomputable def IxR(X:Cx)(r:R2):Prop:=
 ∀(value q:Expr) (pins:List (Addr×Obj)) (s:y6) (σ:St) (H:Hp) (x y:V) (v u:y9) (Q:VK),Inv X pins σ H s->RelV x v->RelV y u->r x y H Q->
  subscripted q false v u=operate [v,u] (getItem v u)->y0j (y0e X.prog X.w) X.A (subscriptTail value q v u) (EP X pins σ Q) X.xe s
noncomputable def MtR(X:Cx)(id:String)(r:V->List V->Hp->VK->Prop):Prop:=
 ∀(pins:List (Addr×Obj)) (s:y6) (σ:St) (H:Hp) (x:V) (xs:List V) (v:y9) (us:List y9) (Q:VK),Inv X pins σ H s->RelV x v->Vals xs us->r x xs H Q->
  y0j (y0e X.prog X.w) X.A (call (.builtin id) (v::us)) (EP X pins σ Q) X.xe s
section
variable{X:Cx}{a b:Expr}{ta tb:TE}{pos:Pos}
theorem A9(J:IxR X r)(ha:PE X a ta)(hb:PE X b tb)(G:Qp b):PE X (.Subscript a b pos) (tOp r ta tb):=by
 refine⟨?_⟩;intro pins s σ H Q I h;exact Subscript_ (Ia ha hb I h fun v u z x y H2 M F B q=>J a b pins z σ H2 x y v u Q M F B q (G _ _))
noncomputable def E7(K:y3):R2:=fun x y H Q=>isRf x fun p=>∃xs,isI y fun i=>SqL K H p xs/\∃v,atI xs i=some v/\Q v H
noncomputable def Be(K:y3):R2:=fun x y H Q=>isRf x fun p=>∃xs,isI y fun i=>SqT K H p xs/\∃v,atI xs i=some v/\Q v H
noncomputable def En:R2:=fun x y H Q=>∃z i c,x=.str z/\y=.int i/\z.length<=yr/\atI z.cps.toList i=some c/\Q (.str ⟨#[c]⟩) H
theorem Ad:IxR X (E7 X.K):=by
 intro value F pins s σ H x y v u Q I rx ry h O;obtain⟨p,rfl,xs,hA⟩:=isRf.o h;obtain⟨i,rfl,hq,z,he,q⟩:=isI.o hA;cases rx;obtain⟨t,rfl⟩:=ry;obtain⟨J,r,pl,hz⟩:=I.list hq;obtain⟨j,h1,h2,h3,h4,h5⟩:=Iu he;obtain⟨w,Z,G⟩:=r.get h2;have hl:=r.length;have hn:=Ek;have B:EP X pins σ Q w s:=⟨z,H,I,G,q⟩;by_cases U:0<=i
 ·have M:i.toNat=j:=by
   rw[seqIndex_of U h5] at h1;exact y0n h1
  exact item_listR pl.isList U (by lia) (by rw[M]; simpa using Z) B O
 ·have M:(i+(J.toArray.size:Int)).toNat=j:=by
   rw[seqIndex_neg (by lia) h4] at h1;rw[yn,<- hl];exact y0n h1
  exact subscriptTail_builtinR (x:=w) pl.isList.typeIs slot_list_getitem.lookup
   (wpAny_getItem_list_neg (Q:=fun r s'=>r=w/\EP X pins σ Q r s') pl.isList (by lia) (by rw[yn]<;>lia) (by lia) (by rw[M]; simpa using Z) ⟨rfl,B⟩) O
theorem AD:IxR X (Be X.K):=by
 intro value B pins s σ H x y v u Q I M J h U;obtain⟨p,rfl,xs,hA⟩:=isRf.o h;obtain⟨i,rfl,hq,z,Z,q⟩:=isI.o hA;cases M;obtain⟨t,rfl⟩:=J;obtain⟨O,r,pl,hz⟩:=I.tuple hq;obtain⟨j,h1,h2,h3,h4,h5⟩:=Iu Z;obtain⟨w,ew,F⟩:=r.get h2;have hl:=r.length;have hn:=Ek;have G:EP X pins σ Q w s:=⟨z,H,I,F,q⟩;exact subscriptTail_builtinR (x:=w) pl.typeIs slot_tuple_getitem.lookup
  (getItem_tuple (j:=j) (Q:=fun r s'=>r=w/\EP X pins σ Q r s') pl (by lia) (by lia) (by rw[yn,<- hl]; exact h1) (by simpa using ew) ⟨rfl,G⟩) U
theorem Qq:IxR X En:=by
 intro value B pins s σ H x y v u Q I G F h J;obtain⟨z,i,c,rfl,rfl,hz,M,q⟩:=h;obtain⟨t,rfl⟩:=G;obtain⟨t',rfl⟩:=F;obtain⟨j,h1,h2,h3,U,O⟩:=Iu M;have hl:z.cps.toList.length=z.length:=by simp[Str.length]
 rw[hl] at h1 U O;have hn:=Ek;exact tail_any (y33 s z t) slot_str_getitem.lookup (getItem_str (c:=c) (by
  have e1:decide (i < -(2^63:Int))=false:=decide_eq_false (by lia)
  have Z:decide (i ≥ 2^63)=false:=decide_eq_false (by lia)
  rw[e1,Z,y36]) (by rw[h1]; simpa using h2) ⟨.str ⟨#[c]⟩,H,I.tok _,⟨_,rfl⟩,q⟩) J
noncomputable def rIx(K:y3):R2:=fun x y H Q=>E7 K x y H Q\/Be K x y H Q\/En x y H Q
theorem Qr(lo hi:Option Int)(n:Nat):(sliceBounds lo hi none n).1=((HT.sIx n 0 lo:Nat):Int)/\(sliceBounds lo hi none n).2.1=((HT.sIx n n hi:Nat):Int)/\(sliceBounds lo hi none n).2.2=1:=by
 refine⟨?_,?_,rfl⟩
 ·cases lo with
  |none=>simp[sliceBounds,HT.sIx]
  |some i=>
   simp only[sliceBounds,HT.sIx,Option.getD_none,show(1:Int)>0 by decide,if_true];by_cases h:i<0
   ·simp only[h,if_true]<;>lia
   ·simp only[h,if_false]<;>lia
 ·cases hi with
  |none=>simp[sliceBounds,HT.sIx]
  |some i=>
   simp only[sliceBounds,HT.sIx,Option.getD_none,show(1:Int)>0 by decide,if_true];by_cases h:i<0
   ·simp only[h,if_true]<;>lia
   ·simp only[h,if_false]<;>lia
theorem Qs(q:List y9)(lo hi:Option Int):slicePick q.toArray lo hi none=((q.drop (HT.sIx q.length 0 lo)).take (HT.sIx q.length q.length hi-HT.sIx q.length 0 lo)).toArray:=by
 obtain⟨h1,h2,z⟩:=Qr lo hi q.toArray.size;unfold slicePick;rw[h1,h2,z];simp only[sliceRange_one,pick_run,yn]<;>rfl
noncomputable def GL(K:y3):V->Option Int->Option Int->Hp->VK->Prop:=fun x lo hi H Q=>∃a xs,x=.ref a/\SqL K H a xs/\∀p,H p=none->Q (.ref p) (upd H p (.lst (BS xs lo hi)))
theorem DW:SlR X (GL X.K):=by
 intro pins s σ H x v U O lo hi Z Q I F M pl G h;obtain⟨a,xs,rfl,hx,q⟩:=h;cases F;obtain⟨J,r,B,hz⟩:=I.list hx;have z:=r.length;refine⟨"list",_,slot_list_getitem.lookup,B.isList.typeIs,?_⟩;refine wpAny_getItem_list_slice B.isList M pl G .none (by simp) ?_ (by rw[yn]<;>lia);rw[Qs,<- z];refine⟨.ref s.heap.objs.size,_,I.laid (t':=s.toks) (o:=.lst (BS xs lo hi)) (fun b ob q=>ye _ q) (yf _) ?_,rfl,q _ (I.hok.fresh (yf _))⟩;exact⟨y0d (MB xs lo hi) hz,_,0,(r.drop (HT.sIx xs.length 0 lo)).take (HT.sIx xs.length xs.length hi-HT.sIx xs.length 0 lo),y04 _ rfl⟩
noncomputable def Az:V->Bool
 |.non=>true
 |.bl _=>true
 |.int _=>true
 |.str _=>true
 |_=>false
noncomputable def eqV:V->V->Bool
 |.non,.non=>true
 |.bl a,.bl b=>a==b
 |.bl a,.int b=>(if a then 1 else 0)==b
 |.int a,.bl b=>a==(if b then 1 else 0)
 |.int a,.int b=>a==b
 |.str a,.str b=>a==b
 |_,_=>false
theorem Qt(z:RelV y u)(q:RelV x v)(F:Az y=true)(B:Az x=true):SeqAt.EqAt A s u v (eqV y x):=by
 cases y with
 |non=>
  cases z;cases x with
  |non=>cases q; exact SeqAt.EqAt.same _
  |bl b=>cases q; exact SeqAt.EqAt.none_bool b
  |int b=>obtain⟨t,rfl⟩:=q; exact SeqAt.EqAt.none_int b t
  |str b=>obtain⟨t,rfl⟩:=q; exact SeqAt.EqAt.none_str b t
  |_=>exact absurd (show false=true from B) yg
 |bl a=>
  cases z;cases x with
  |non=>cases q; exact SeqAt.EqAt.bool_none a
  |bl b=>cases q; exact SeqAt.EqAt.bool_bool a b
  |int b=>obtain⟨t,rfl⟩:=q; exact SeqAt.EqAt.bool_int a b t
  |str b=>obtain⟨t,rfl⟩:=q; exact SeqAt.EqAt.bool_str a b t
  |_=>exact absurd (show false=true from B) yg
 |int a=>
  obtain⟨t',rfl⟩:=z;cases x with
  |non=>cases q; exact SeqAt.EqAt.int_none a t'
  |bl b=>cases q; exact SeqAt.EqAt.int_bool a t' b
  |int b=>obtain⟨t,rfl⟩:=q; exact SeqAt.EqAt.int_int a t' b t
  |str b=>obtain⟨t,rfl⟩:=q; exact SeqAt.EqAt.int_str a t' b t
  |_=>exact absurd (show false=true from B) yg
 |str a=>
  obtain⟨t',rfl⟩:=z;cases x with
  |non=>cases q; exact SeqAt.EqAt.str_none a t'
  |bl b=>cases q; exact SeqAt.EqAt.str_bool a t' b
  |int b=>obtain⟨t,rfl⟩:=q; exact SeqAt.EqAt.str_int a t' b t
  |str b=>obtain⟨t,rfl⟩:=q; exact SeqAt.EqAt.str_str a t' b t
  |_=>exact absurd (show false=true from B) yg
 |_=>exact absurd (show false=true from F) yg
noncomputable def eqU(x:V)(u:y9):Bool:=match u with
 |.none=>eqV .non x
 |.bool b=>eqV (.bl b) x
 |.int i _=>eqV (.int i) x
 |.str z _=>eqV (.str z) x
 |_=>false
theorem MC(r:RelV y u)(f:Az y=true):eqU x u=eqV y x:=by
 cases y with
 |non=>cases r; rfl
 |bl b=>cases r; rfl
 |int i=>obtain⟨t,rfl⟩:=r; rfl
 |str z=>obtain⟨t,rfl⟩:=r; rfl
 |_=>exact absurd (show false=true from f) yg
theorem Eo:∀{xs:List V} {us:List y9},Vals xs us->xs.all Az=true->us.any (eqU x)=xs.any fun y=>eqV y x
 |_,_,.nil,_=>rfl
 |y::xs,u::us,.cons r t,f=>by
  rw[y28,y8] at f;rw[y0k,y0k,MC r f.1,Eo t f.2]
theorem Ep(q:RelV x v)(z:Az x=true):∀{xs:List V} {us:List y9},Vals xs us->xs.all Az=true->∀u∈us,SeqAt.EqAt A s u v (eqU x u)
 |_,_,.nil,_=>fun u hu=>by cases hu
 |y::xs,u::us,.cons r t,f=>fun B hu=>by
  rw[y28,y8] at f;rcases List.mem_cons.mp hu with rfl|hu
  ·rw[MC r f.1]; exact Qt r q f.1 z
  ·exact Ep q z t f.2 B hu
noncomputable def inV(x:V)(xs:List V):Bool:=xs.any fun y=>eqV y x
noncomputable def rIn(K:y3)(neg:Bool):R2:=fun x y H Q=>∃p xs,y=.ref p/\(SqL K H p xs\/SqT K H p xs)/\Az x=true/\xs.all Az=true/\Q (.bl (if neg then !inV x xs else inV x xs)) H
theorem Qu:OpR X (y0c .In) (rIn X.K false):=by
 intro pins s σ H x y v u Q I B G h;obtain⟨p,xs,rfl,hq,F,fs,q⟩:=h;cases G;rcases hq with hq|hq
 ·obtain⟨z,r,pl,hz⟩:=I.list hq;refine SeqAt.in_listAt (eqU x) pl.isList (fun w hw=>Ep B F r fs w (by simpa using hw)) ⟨.bl _,H,I,rfl,?_⟩;rw[show z.toArray.any (eqU x)=z.any (eqU x) by simp,Eo r fs];exact q
 ·obtain⟨z,r,pl,hz⟩:=I.tuple hq;refine SeqAt.in_tupleAt (eqU x) pl (fun w hw=>Ep B F r fs w (by simpa using hw)) ⟨.bl _,H,I,rfl,?_⟩;rw[show z.toArray.any (eqU x)=z.any (eqU x) by simp,Eo r fs];exact q
theorem Qv:OpR X (y0c .NotIn) (rIn X.K true):=by
 intro pins s σ H x y v u Q I B G h;obtain⟨p,xs,rfl,hq,F,fs,q⟩:=h;cases G;rcases hq with hq|hq
 ·obtain⟨z,r,pl,hz⟩:=I.list hq;refine SeqAt.notIn_listAt (eqU x) pl.isList (fun w hw=>Ep B F r fs w (by simpa using hw)) ⟨.bl _,H,I,rfl,?_⟩;rw[show z.toArray.any (eqU x)=z.any (eqU x) by simp,Eo r fs];exact q
 ·obtain⟨z,r,pl,hz⟩:=I.tuple hq;refine SeqAt.notIn_tupleAt (eqU x) pl (fun w hw=>Ep B F r fs w (by simpa using hw)) ⟨.bl _,H,I,rfl,?_⟩;rw[show z.toArray.any (eqU x)=z.any (eqU x) by simp,Eo r fs];exact q
theorem Qw:OpR X (y0c .NotIn) (fun x y H Q=>∃i j,x=.str i/\y=.str j/\Q (.bl (!(!(Builtin.Str.occurrences j i 0 j.length 1).isEmpty))) H):=by
 intro pins s σ H x y v u Q I B z h;obtain⟨i,j,rfl,rfl,q⟩:=h;obtain⟨t,rfl⟩:=B;obtain⟨t',rfl⟩:=z;exact notIn_str ⟨.bl _,H,I,rfl,q⟩
theorem Qx:BR X (.builtin "len") (fun xs H Q=>∃p ys,xs=[.ref p]/\(SqL X.K H p ys\/SqT X.K H p ys)/\Q (.int ys.length) H):=by
 intro pins s σ H xs us Q I r h;obtain⟨p,ys,rfl,hq,q⟩:=h;obtain⟨u,rfl,G⟩:=Bu r;cases G;have J:=Ek;rcases hq with hq|hq
 ·obtain⟨F,B,pl,hz⟩:=I.list hq;have z:=B.length;exact Calls.call_len_list pl.isList (by simp only[yn]<;>lia) ⟨.int ys.length,H,I.tok _,⟨s.toks+1,by rw[yn,z]⟩,q⟩
 ·obtain⟨F,B,pl,hz⟩:=I.tuple hq;have z:=B.length;exact len_tuple pl (by simp only[yn]<;>lia) ⟨.int ys.length,H,I.tok _,⟨s.toks+1,by rw[yn,z]⟩,q⟩
theorem Qy:BR X (.builtin "len") (fun xs H Q=>∃z,xs=[.str z]/\z.length<=yr/\Q (.int z.length) H):=by
 intro pins s σ H xs us Q I r h;obtain⟨z,rfl,hz,q⟩:=h;obtain⟨u,rfl,t,rfl⟩:=Bu r;have B:=Ek;exact len_str (by lia) ⟨.int z.length,H,I.tok _,⟨_,rfl⟩,q⟩
theorem E8:BR X (.type "tuple") (fun xs H Q=>∃p ys,xs=[.ref p]/\((SqL X.K H p ys/\∀l,H l=none->Q (.ref l) (upd H l (.tup ys)))\/(SqT X.K H p ys/\Q (.ref p) H))):=by
 intro pins s σ H xs us Q I r h;obtain⟨p,ys,rfl,h⟩:=h;obtain⟨u,rfl,J⟩:=Bu r;cases J;rcases h with⟨hq,q⟩|⟨hq,q⟩
 ·obtain⟨z,B,pl,hz⟩:=I.list hq;have F:=B.length;refine call_tuple_list pl.isList (fun h' M=>?_) (by simp only[yn]<;>lia);have G:Inv X pins σ H {s with heap:=h'}:=I.kept (t':=s.toks) M;have O:Inv X pins σ (upd H h'.objs.size (.tup ys)) {s with heap:=h'.push {cls:=.type "tuple",data:=.seq z.toArray}}:=
   G.laid (t':=s.toks) (fun b o e=>ye _ e) (yf _) (show ObjOk X.prog X.w _ _ _ (.tup ys) from⟨hz,z,B,IsTup.new _ _⟩)
  exact⟨.ref h'.objs.size,_,O,rfl,q _ (G.hok.fresh (yf _))⟩
 ·obtain⟨z,B,pl,hz⟩:=I.tuple hq;exact call_tuple_same pl ⟨.ref p,H,I,rfl,q⟩
noncomputable def tyV(K:y3)(T:String)(x:V)(H:Hp):Prop:=match x with
 |.str _=>T = "str"
 |.int _=>T = "int"
 |.ref p=>(T = "list"/\∃xs,SqL K H p xs)\/(T = "tuple"/\∃o,K.lookup p=some o/\o.cls=.type "tuple"/\o.dict=none)\/
   (T = "dict"/\((∃kvs,H p=some (.dK kvs))\/∃kvs,H p=some (.dT kvs)))\/(T = "set"/\∃S n,H p=some (.set S n))
 |_=>False
theorem MD(I:Inv X pins σ H s)(r:RelV x v)(ty:tyV X.K T x H) :
  s.TypeIs v T/\∀a,v=.ref a->∃B,s.heap.get? a=some B/\B.dict=none:=by
 cases x with
 |str z=>
  obtain⟨t,rfl⟩:=r;cases (show T = "str" from ty);exact⟨y33 s z t,fun _ e=>nomatch e⟩
 |int i=>
  obtain⟨t,rfl⟩:=r;cases (show T = "int" from ty);exact⟨typeIs_int s i t,fun _ e=>nomatch e⟩
 |ref p=>
  cases r;rcases ty with⟨rfl,xs,hq⟩|⟨rfl,o,hk,hc,hd⟩|⟨rfl,hk⟩|⟨rfl,S,n,hk⟩
  ·obtain⟨F,_,pl,_⟩:=I.list hq;refine⟨pl.isList.typeIs,fun a e=>?_⟩;cases e;obtain⟨o,n,e,c,hd,_⟩:=pl;exact⟨o,e,hd⟩
  ·refine⟨⟨o,I.kIn p o hk,hc⟩,fun a e=>?_⟩;cases e;exact⟨o,I.kIn _ o hk,hd⟩
  ·have z:∃o,s.heap.get? p=some o/\o.ExactDict:=by
    rcases hk with⟨kvs,hk⟩|⟨kvs,hk⟩
    ·obtain⟨_,_,_,_,o,_,_,e,ex,_⟩:=I.hok p _ hk;exact⟨o,e,ex⟩
    ·obtain⟨_,_,_,_,o,_,_,e,ex,_⟩:=I.hok p _ hk;exact⟨o,e,ex⟩
   obtain⟨o,e,ex⟩:=z;refine⟨⟨o,e,ex.1⟩,fun a q=>?_⟩;cases q;exact⟨o,e,ex.2.1⟩
  ·obtain⟨o,_,_,_,e,ex,_⟩:=I.hok p _ hk;refine⟨⟨o,e,ex.1⟩,fun a q=>?_⟩;cases q;exact⟨o,e,ex.2.1⟩
 |_=>exact False.elim ty
noncomputable def ME(K:y3)(T:String)(r:V->List V->Hp->VK->Prop)(to:TE):TE:=fun σ H Q=>to σ H fun x H1=>tyV K T x H1/\r x [] H1 Q
noncomputable def tBM(K:y3)(T:String)(r:V->List V->Hp->VK->Prop)(to:TE)(t:TA):TE:=fun σ H Q=>to σ H fun x H1=>tyV K T x H1/\t σ H1 fun xs H2=>r x xs H2 Q
variable{o e:Expr}{es:List Expr}{to:TE}{t:TA}{name:Str}{apos cpos:Pos}{T id:String}{r:V->List V->Hp->VK->Prop}
theorem E9(U:PlainAttrs T)(B:Slot T name id) (F:typeOf (.builtin id)=pure (.type "method_descriptor")) (hm:MtR X id r) (Z:PE X o to)
  (z:attributeBase o name X.env (eval o X.env)=eval o X.env:=by rfl) (q:(apos.endLine==cpos.line)=true:=by rfl):PE X (.Call (.Attribute o name apos) [] [] cpos) (ME X.K T r to):=by
 refine⟨?_⟩;intro pins s σ H Q I h;refine wpAny_Call_method0_late z q (thn (Z pins s σ H _ I h) fun v M ⟨x,H1,J,G,ty,O⟩=>?_);obtain⟨h1,h2⟩:=MD J G ty;exact⟨T,id,U,B,F,h1,h2,Calls.callWith_builtin rfl (PySem.evalArgs_none (hm pins M σ H1 x [] v [] Q J G .nil O))⟩
theorem Ak(pa:PlainAttrs T)(F:Slot T name id) (J:typeOf (.builtin id)=pure (.type "method_descriptor")) (hm:MtR X id r) (ho:PE X o to) (ha:PA X (e::es) t)
  (B:attributeBase o name X.env (eval o X.env)=eval o X.env:=by rfl)
  (G:((backTo cpos (starEach (e::es) X.env)).all (fun x=>!x.1)&&(backToKw cpos (keywordEach [] X.env)).all (fun x=>x.1.isSome)
   && decide ((e::es).length+([]:List Keyword).length+(if([]:List Keyword).isEmpty then 0 else 1)<30))=true:=by rfl)
  (z:(apos.endLine==cpos.line)=true:=by rfl) (hs:starEach (e::es) X.env=(false,eval e X.env)::starEach es X.env:=by rfl) (q:(backTo cpos (starEach es X.env)).any (·.1)=false:=by rfl) :
  PE X (.Call (.Attribute o name apos) (e::es) [] cpos) (tBM X.K T r to t):=by
 refine⟨?_⟩;intro pins s σ H Q I h;refine wpAny_Call_method_late B G z rfl (thn (ho pins s σ H _ I h) fun v s1 ⟨x,H1,U,M,ty,q1⟩=>?_);obtain⟨h1,h2⟩:=MD U M ty;refine⟨T,id,pa,F,J,h1,h2,?_⟩;have O:=ha cpos pins s1 σ H1 _ U q1;rw[hs] at O |-;refine Calls.callWith_builtin (by show(false || (backTo cpos (starEach es X.env)).any (·.1))=false; rw[q]<;>rfl) (Calls.evalArgs_plain ?_);exact thn O fun us Z ⟨vs,H2,I2,r2,q2⟩=>hm pins Z σ H2 x vs v us Q I2 M r2 q2
end
noncomputable def MtM(X:Cx)(id:String)(r:V->List V->Hp->VK->Prop):Prop:=
 ∀(pins:List (Addr×Obj)) (s:y6) (σ:St) (H:Hp) (x:V) (xs:List V) (v:y9) (us:List y9) (Q:VK),Inv X pins σ H s->RelV x v->Vals xs us->r x xs H Q->
  y0j (y0e X.prog X.w) X.A (call (.builtin id) (v::us)) (EP X pins σ Q) X.xe s
theorem Vals.one:∀{x:V} {us:List y9},Vals [x] us->∃u,us=[u]/\RelV x u:=Bu
theorem Vals.two:∀{x y:V} {us:List y9},Vals [x,y] us->∃u v,us=[u,v]/\RelV x u/\RelV y v:=QR
theorem Vals.zero:∀{us:List y9},Vals [] us->us=[]
 |_,.nil=>rfl
theorem Vals.dropLast(h:Vals xs us):Vals xs.dropLast us.dropLast:=by
 induction h with
 |nil=>exact .nil
 |cons r t z=>
  cases t with
  |nil=>exact .nil
  |cons q t'=>exact .cons r z
theorem Vals.reverse(h:Vals xs us):Vals xs.reverse us.reverse:=by
 induction h with
 |nil=>exact .nil
 |cons r t q=>rw[y19,y19]; exact Vals.append q (.cons r .nil)
theorem Qz{q:Type}(l:List q):l.eraseIdx (l.length-1)=l.dropLast:=by
 induction l with
 |nil=>rfl
 |cons a r z=>
  cases r with
  |nil=>rfl
  |cons b r=>
   have e:(a::b::r).length-1=((b::r).length-1)+1:=by
    have h1:(a::b::r).length=r.length+2:=rfl;have h2:(b::r).length=r.length+1:=rfl;lia
   rw[e,List.eraseIdx_cons_succ,z];all_goals rfl
section
variable{X:Cx}{pins:List (Addr×Obj)}{σ:St}{H:Hp}{s:y6}{l b:Addr}{xs ys zs:List V}
theorem Inv.lset{z its':List y9}{n:Nat}{f:Array y9->Array y9}{t':Nat}(I:Inv X pins σ H s)(G:H l=some (.lst xs))
  (e:s.heap.get? l=some {cls:=.type "list",data:=.seq z.toArray n}) (F:f z.toArray=its'.toArray) (B:Vals ys its') (hz:ys.length<=yr) :
  Inv X pins σ (upd H l (.lst ys)) {s with heap:=s.heap.update l (Obj.mapSeq f),toks:=t'}:=by
 have q:=PySem.IsL.update e f;rw[F] at q;refine I.write (x:=l) (e:=l) (by rw[G]; exact trivial) (.inl rfl) (fun J u hb hu=>(Heap.get?_update_other s.heap (Obj.mapSeq f) (y2t hb)).trans hu) ⟨_,q⟩ ?_;exact⟨hz,its',_,B,q⟩
theorem Inv.lnew{t':Nat}(I:Inv X pins σ H s)(z:Vals ys its)(hz:ys.length<=yr) :
  Inv X pins σ (upd H s.heap.objs.size (.lst ys)) {s with heap:=s.heap.push {cls:=.type "list",data:=.seq its.toArray},toks:=t'}:=
 I.laid (fun _ _ q=>ye _ q) (yf _) ⟨hz,its,0,z,y04 _ rfl⟩
theorem Inv.fresh(I:Inv X pins σ H s):H s.heap.objs.size=none:=I.hok.fresh (yf _)
theorem Inv.lstM(I:Inv X pins σ H s)(B:H l=some (.lst xs)):xs.length<=yr/\∃(q:List y9) (n:Nat),Vals xs q/\xs.length=q.length/\s.heap.get? l=some {cls:=.type "list",data:=.seq q.toArray n}:=by
 obtain⟨z,q,n,r,e⟩:=I.hok l _ B;exact⟨z,q,n,r,r.length,e⟩
theorem R3(h:n<=yr):Builtin.List.listTooLong n=false:=by
 unfold Builtin.List.listTooLong;exact decide_eq_false (by lia)
end
section
variable{X:Cx}
noncomputable def GM:V->List V->Hp->VK->Prop:=fun x vs H Q=>∃l xs y,x=.ref l/\vs=[y]/\H l=some (.lst xs)/\xs.length<yr/\Q .non (upd H l (.lst (xs++[y])))
theorem Cg:MtM X "list.append" GM:=by
 intro pins s σ H x vs v us Q I J M h;obtain⟨l,xs,y,rfl,rfl,G,hz,q⟩:=h;cases J;obtain⟨u,rfl,O⟩:=M.one;obtain⟨z,B,n,r,hl,e⟩:=I.lstM G;refine y26 F.slot_list_append ⟨_,e,rfl⟩ F.entry_list_append (F.args_list_append_2 _ _) (PySem.list_append l B.toArray n u (by rw[yn]; lia)) ⟨e,?_⟩;refine⟨.non,_,I.lset (its':=B++[u]) G e (by simp) (r.append (.cons O .nil)) ?_,rfl,q⟩;rw[yj,y01];lia
noncomputable def GN:V->List V->Hp->VK->Prop:=fun x vs H Q=>∃l b xs zs,x=.ref l/\vs=[.ref b]/\H l=some (.lst xs)/\H b=some (.lst zs)/\xs.length+zs.length<=yr/\Q .non (upd H l (.lst (xs++zs)))
theorem R4:MtM X "list.extend" GN:=by
 intro pins s σ H x vs v us Q I U Z h;obtain⟨l,b,xs,zs,rfl,rfl,O,hB,hz,q⟩:=h;cases U;obtain⟨u,rfl,ru⟩:=Z.one;cases ru;obtain⟨z,G,n,r,hl,e⟩:=I.lstM O;obtain⟨z2,B,n2,r2,aa,e2⟩:=I.lstM hB;have M:G.toArray.size+B.toArray.size<=yr:=by rw[yn,yn]; lia
 have J:¬ (!G.toArray.isEmpty&&Builtin.List.listTooLong (G.toArray.size+B.toArray.size))=true:=by
  rw[R3 M,y1s];exact yg
 refine y26 F.slot_list_extend ⟨_,e,rfl⟩ F.entry_list_extend (F.args_list_extend_2 _ _)
  (AutoSeq1.list_extend_list_list_0 l G.toArray n b B.toArray n2 J (by rw[yn]; lia) (by lia)) ⟨e,e2,?_⟩
 refine⟨.non,_,I.lset (its':=G++B) O e (by simp) (r.append r2) ?_,rfl,q⟩;rw[yj];lia
noncomputable def MF:V->List V->Hp->VK->Prop:=fun x vs H Q=>∃l xs y,x=.ref l/\vs=[]/\H l=some (.lst xs)/\xs[xs.length-1]?=some y/\Q y (upd H l (.lst xs.dropLast))
theorem Er:MtM X "list.pop" MF:=by
 intro pins s σ H x vs v us Q I O U h;obtain⟨l,xs,y,rfl,rfl,M,hy,q⟩:=h;cases O;have J:=U.zero;subst J;obtain⟨z,B,n,r,hl,e⟩:=I.lstM M;obtain⟨u,hu,Z⟩:=r.get hy;have G:B.toArray[B.toArray.size-1]?=some u:=by
  show B.toArray[B.length-1]?=some u;rw[<- Array.getElem?_toList,<- hl];exact hu
 refine y26 F.slot_list_pop ⟨_,e,rfl⟩ F.entry_list_pop (F.args_list_pop_1 _) (MeetsSeq.list_pop_last l B.toArray n u G (by rw[yn]; lia)) ⟨e,?_⟩;refine⟨y,_,I.lset (its':=B.dropLast) M e ?_ r.dropLast ?_,Z,q⟩
 ·show B.toArray.eraseIdxIfInBounds (B.toArray.size-1)=B.dropLast.toArray;rw[yn,List.eraseIdxIfInBounds_toArray,Qz]
 ·rw[List.length_dropLast];lia
noncomputable def MG:V->List V->Hp->VK->Prop:=fun x vs H Q=>∃l xs,x=.ref l/\vs=[]/\H l=some (.lst xs)/\Q .non (upd H l (.lst xs.reverse))
theorem R5:MtM X "list.reverse" MG:=by
 intro pins s σ H x vs v us Q I M O h;obtain⟨l,xs,rfl,rfl,J,q⟩:=h;cases M;have G:=O.zero;subst G;obtain⟨z,B,n,r,hl,e⟩:=I.lstM J;refine y26 F.slot_list_reverse ⟨_,e,rfl⟩ F.entry_list_reverse (F.args_list_reverse_1 _) (AutoSeq1.list_reverse_list_0 l B.toArray n (by rw[yn]; lia)) ⟨e,?_⟩;refine⟨.non,_,I.lset (its':=B.reverse) J e (by simp) r.reverse ?_,rfl,q⟩;rw[y1u];lia
noncomputable def GO:R2:=fun x y H Q=>∃l b xs zs,x=.ref l/\y=.ref b/\H l=some (.lst xs)/\H b=some (.lst zs)/\xs.length+zs.length<=yr/\∀p,H p=none->Q (.ref p) (upd H p (.lst (xs++zs)))
theorem BD:OpR X (binaryOp .Add) GO:=by
 intro pins s σ H x y v u Q I J G h;obtain⟨l,b,xs,zs,rfl,rfl,U,Z,hz,q⟩:=h;cases J;cases G;obtain⟨z,F,n,r,hl,e⟩:=I.lstM U;obtain⟨z2,B,n2,M,O,e2⟩:=I.lstM Z;refine PySem.P.add_list e e2 ?_ (by rw[yn,yn]; lia);have ea:F.toArray++B.toArray=(F++B).toArray:=by simp
 rw[ea];exact⟨.ref _,_,I.lnew (t':=s.toks) (r.append M) (by rw[yj]; lia),rfl,q _ I.fresh⟩
noncomputable def Iw:R2:=fun x y H Q=>∃l k xs,x=.ref l/\y=.int k/\H l=some (.lst xs)/\-(2^63)<=k/\k<2^63/\xs.length*k.toNat<=yr/\
 ∀p,H p=none->Q (.ref p) (upd H p (.lst (List.replicate k.toNat xs).flatten))
end
section
variable{prog:yl}{w:y08}{A:y05}{E:y9->y6->Prop}{s:y6}
end
section
variable{X:Cx}
end
end L2
namespace Att
open PySem PySem.W PySem.Calls PyProof.Rows
theorem R6:∀(ns:List Int) (vs:List y9),WellAll P h vs (ns.map WData.int)->IntsAre vs ns:=by
 intro ns;induction ns with
 |nil=>
  intro vs w;rw[y1l] at w;cases w;exact .nil
 |cons n ns q=>
  intro vs w;rw[yv] at w;cases w with
  |cons a b=>
   cases a;exact .cons _ _ (q _ b)
theorem R7{l:OpenLaw}{n:Nat}(hn:l.most=some n){P:Params}{h:Heap}{args:List WData}{z:List y9}
  (B:l.row.toRowW.claim.pre args=true) (O:WellAll P h z args) :
  ∃a vs ns,z=[Value.ref a]/\args=[WData.list (ns.map WData.int)]/\h.get? a=some {cls:=.type "list",data:=.seq vs.toArray}/\IntsAre vs ns/\ns.length<=n:=by
 have U:WShape.hasAll [] args [.list .int]=true:=(pre_splitW B).1;have hc:l.pre.holds [] {args:=args}=true:=(pre_splitW B).2;obtain⟨d,r,rfl,h1,h2⟩:=hasAllW_cons U;obtain rfl:=hasAllW_nil h2;obtain⟨xs,rfl,h3⟩:=hasW_list h1;obtain⟨ns,rfl⟩:=items_int h3;have F:ns.length<=n:=by
  unfold OpenLaw.pre at hc;have M:(WTm.not (.lt (.lit (.int (n:Int))) (.len (.arg 0)))).holds [] {args:=[.list (ns.map .int)]}=true:=by
   have M:=(holds_andW hc).1;rw[hn] at M;exact M
  have J:=condW_of M (w_not (w_lt w_lit (w_len_list (w_arg rfl))));rw[y4] at J;refine Nat.le_of_not_lt fun q=>?_;have q':(n:Int)<((ns.length:Nat):Int):=by lia
  first
   |(rw[decide_eq_true q'] at J; exact absurd J (by decide))
   |(simp at J; lia)
 cases O with
 |cons w1 Z=>
  cases Z;cases w1 with
  |list ho G=>exact⟨_,_,ns,rfl,rfl,ho,R6 ns _ G,F⟩
theorem R8(l:OpenLaw)(args:List WData):l.row.toRowW.claim.post args (.bool true) args=true:=
 postW_of (r:=l.row.toRowW) (X:=(true==true))
  (show WShape.has [] (.bool true) .bool=true by first|rfl|decide|simp[WShape.has,WShape.arms,WShape.armsAll])
  (show(WTm.eq .res (.lit (.bool true))).value [] {args:=args,res:=some (.bool true),after:=args}=some (.bool (true==true)) from w_eq_bool (w_res rfl) w_lit) rfl
theorem R9{l:OpenLaw}{n:Nat}{q:yl}{loose:List Str}{XP:(Str->Option y9)->Heap->Prop}{YP:y08->Heap->Prop}{d:DefRec}
  (hn:l.most=some n) (ae:d.params.defaults=[])
  (call:∀(w:y08) (s₀ z:y6) (mg mb:Str->Option y9) (U:Addr) (o:Obj) (Z cd F:y9) (a:Addr) (vs:List y9) (ns:List Int),
   Ground q loose [] XP w s₀ mg mb z.heap->YP w z.heap->
   z.heap.get? U=some o->o.data=.func (docDef d.name d.params d.body d.scope Z cd F)->z.heap.CodeRec cd d.name->mg d.name=some (.ref U)->
   z.heap.get? a=some {cls:=.type "list",data:=.seq vs.toArray}->IntsAre vs ns->ns.length<=n->z.gens = #[]->
   codeAny (y0e l.prog w) callerA (.call (.ref U) ⟨[.ref a],[]⟩) (fun r s'=>r=.ok (.ret (.bool true))/\OldK z.heap s'.heap/\s'.os=z.os/\AllBare s'.gens) z) :
  WalkO q loose XP YP l.row.toRowW d [] (fun f vs=>PySem.call f vs):=by
 intro w s₀ z mg mb G Y U o Z cd F dV kV ho hd af hD ac hg args ag as J ah aj aa ak;obtain rfl:dV=.none:=Dflts.none hD ae;obtain rfl:kV=.none:=Dflts.noKw hD;obtain⟨a,vs,ns,rfl,rfl,M,B,O⟩:=R7 hn J aa;refine enter_call (y32 (call w s₀ z mg mb U o Z cd F a vs ns G Y ho (fd_plain hd) af ac M B O hg) fun r s' hq=>?_);obtain⟨rfl,h2,h3,h4⟩:=hq;exact⟨.inl ⟨.bool true,.bool true,[],rfl,fun _=>rfl,.bool true,R8 l _,fun _=>⟨List.Pairwise.nil,fun _ hm=>(nomatch hm)⟩⟩,h2,h3,h4⟩
section
variable{prog:yl}{w:y08}{A:y05}{E:y9->y6->Prop}{s:y6}{K:Frag}
end
end Att
namespace L2
open PySem PySem.Spec PyProof.Rows
theorem MH:∀{vs:List y9} {ns:List Int},IntsAre vs ns->Vals (ns.map V.int) vs
 |_,_,.nil=>.nil
 |_,_,.cons n t h=>.cons ⟨t,rfl⟩ (MH h)
noncomputable def Ix(H:Hp):Prop:=∀b,H b=none\/∃o xs,H b=some (.frz o (.lst xs))
theorem RA{P:yl}{w:y08}{K:y3}{mg mb:Str->Option y9}{CX:CXT}{k:Nat}{fa a:Addr}{fd:y14}{x:Str}{sp:Sp}{B:y6}{vs:List y9}{ns:List Int}
  (KX:K.In B.heap) (ac:B.heap.Ns yk mg) (hb:B.heap.Ns builtinsNs mb) (ak:∀x:Str,x≠"__name__"->mb x=bootBuiltins x) (ae:B.heap.NoLimit) (hg:B.gens = #[])
  (ha:B.heap.get? a=some {cls:=.type "list",data:=.seq vs.toArray}) (hi:IntsAre vs ns) (hl:ns.length<=yr) (hr:Room k callerA)
  (F:∀base:Heap,K.In base->base.Ns yk mg->FnOk P w K mg base CX k fa fd [x] sp) (M:∀(s:y6) (u:y9),BindsTo s fd ⟨[u],[]⟩ [(x,u)])
  (aj:∀H:Hp,Ix H->SqL K H a (ns.map V.int)->sp [.ref a] H (fun v _=>v=.bl true) fun _ _ _=>False)
  (al:∀H e s',CX [] H B (fun _ _ _=>False) e s'->False) :
  codeAny (y0e P w) callerA (.call (.ref fa) ⟨[.ref a],[]⟩) (fun r s'=>r=.ok (.ret (.bool true))/\OldK B.heap s'.heap/\s'.os=B.os/\AllBare s'.gens) B:=by
 have rv:=MH hi;have U:=hi.length;have J:∀H:Hp,Ix H->SqL K H a (ns.map V.int)->HOk P w H B.heap->(∀b,H b≠none->b=a)->(H a≠none->K.lookup a=none)->
   codeAny (y0e P w) callerA (.call (.ref fa) ⟨[.ref a],[]⟩) (fun r s'=>r=.ok (.ret (.bool true))/\OldK B.heap s'.heap/\s'.os=B.os/\AllBare s'.gens) B:=by
  intro H hO hS aa hA hK
  have base_of:∀{b:Addr} {o:Obj},B.heap.get? b=some o->H b=none->(Cc B.heap H).get? b=some o:=fun e n=>Q5 e n
  have ah:∀{b:Addr} {o:Obj} {es:Array DictEntry} {ep:Nat},B.heap.get? b=some o->o.data=.dict es ep->H b=none:=fun {b o es ep} e d=>by
   cases q:H b with
   |none=>rfl
   |some u=>
    have e':b=a:=hA b (by rw[q]; simp)
    subst e'
    rw[ha] at e; cases e
    have d':Data.seq vs.toArray _=Data.dict es ep:=d
    cases d'
  have G:∀{b:Addr} {m:Str->Option y9},B.heap.Ns b m->(Cc B.heap H).Ns b m:=fun {b m} ⟨o,es,ep,e,d,r⟩=>⟨o,es,ep,base_of e (ah e d),d,r⟩
  have af:K.In (Cc B.heap H):=fun b o e=>base_of (KX b o e) (by
   cases q:H b with
   |none=>rfl
   |some u=>
    have e':b=a:=hA b (by rw[q]; simp)
    subst e'
    rw[hK (by rw[q]; simp)] at e; cases e)
  have hM:Mod K mg (Cc B.heap H):=⟨af,G ac,⟨mb,G hb,ak⟩,let ⟨mc,h1,h2⟩:=ae; ⟨mc,G h1,h2⟩⟩
  have e0:Env0 P w K mg (Cc B.heap H) callerA [] B H:=⟨rfl,hM,fun b o e=>Q6 e,Nat.le_of_eq (Q4 _ _),trivial,fun b hb=>absurd (show b∈([]:List Addr) from hb) (by simp),aa,.of_eq hg⟩
  refine y32 ((F _ af (G ac)).run callerA [] B H ⟨[.ref a],[]⟩ [.ref a] [.ref a] _ _ hr e0 (M B (.ref a)) (.cons rfl .nil) (aj H hO hS)) fun r s' h=>?_
  cases r with
  |error e=>exact(al H e s' h).elim
  |ok fl=>
   cases fl with
   |next=>exact False.elim h
   |brk=>exact False.elim h
   |cont=>exact False.elim h
   |ret u=>
    obtain⟨v,H',os,ag,un,Z,r',q⟩:=h
    have q':v=.bl true:=q
    subst q'
    obtain rfl:u=Value.bool true:=r'
    refine⟨rfl,OldK.of_keep fun b o e=>?_,os,ag⟩
    cases q:H b with
    |none=>exact un.keep b o e q (by intro z; exact absurd (show b∈([]:List Addr) from z) (by simp)) (by simp)
    |some u=>
     rcases hO b with z|⟨ob,xs,z⟩
     ·rw[q] at z; cases z
     ·have z2:=un.frzs b ob _ z
      obtain⟨e1,_⟩:=aa b _ z
      obtain⟨e2,_⟩:=Z b _ z2
      rw[e] at e1; cases e1
      exact e2
 cases hk:K.lookup a with
 |some o=>
  have e:=KX a o hk;rw[ha] at e;cases e;refine J (fun _=>none) (fun _=>.inl rfl) (.inr ⟨_,vs.toArray,_,hk,rfl,rfl,rfl,by rw[yn,U]; exact hl,by simpa using rv⟩) (fun b u z=>by have O:(none:Option HO)=some u:=z; cases O) (fun b z=>absurd rfl z) fun z=>absurd rfl z
 |none=>
  refine J (fun b=>if b=a then some (.frz {cls:=.type "list",data:=.seq vs.toArray} (.lst (ns.map V.int))) else none) (fun b=>?_) (.inl (.inr ⟨{cls:=.type "list",data:=.seq vs.toArray},if_pos rfl⟩)) (fun b u z=>?_) (fun b z=>?_) fun _=>hk
  ·by_cases hb:b=a
   ·exact .inr ⟨_,_,if_pos hb⟩
   ·exact .inl (if_neg hb)
  ·by_cases hb:b=a
   ·have O:=(if_pos hb).symm.trans z;cases O;subst hb;exact⟨ha,by rw[y4]; exact hl,vs,_,rv,ha⟩
   ·have O:=(if_neg hb).symm.trans z;cases O
  ·by_cases hb:b=a
   ·exact hb
   ·exact absurd (if_neg hb) z
theorem RB{l:PySem.W.OpenLaw}{n k:Nat}{q:yl}{loose:List Str}{XP:(Str->Option y9)->Heap->Prop}{YP:y08->Heap->Prop}{d:DefRec}{K:Params->y3}{CX:y08->CXT}{sp:y08->Sp}{x:Str}
  (hn:l.most=some n) (Z:n<=yr) (ac:d.params.defaults=[]) (hr:Room k callerA)
  (hY:∀(w:y08) (h:Heap),YP w h->(K w.params).In h)
  (F:∀(w:y08) (mg:Str->Option y9) (O:Addr) (h:Heap),(K w.params).In h->h.Ns yk mg->mg d.name=some (.ref O)->
   ∃fd:y14,(∀(s:y6) (u:y9),BindsTo s fd ⟨[u],[]⟩ [(x,u)])/\
    ∀base:Heap,(K w.params).In base->base.Ns yk mg->FnOk l.prog w (K w.params) mg base (CX w) k O fd [x] (sp w))
  (U:∀(w:y08) (H:Hp) (a:Addr) (ns:List Int),ns.length<=n->Ix H->SqL (K w.params) H a (ns.map V.int)->sp w [.ref a] H (fun v _=>v=.bl true) fun _ _ _=>False)
  (ae:∀(w:y08) (H:Hp) (s:y6) (e:y9) (s':y6),CX w [] H s (fun _ _ _=>False) e s'->False) :
  PySem.W.WalkO q loose XP YP l.row.toRowW d [] (fun f vs=>PySem.call f vs):=by
 refine Att.R9 hn ac fun w s₀ J mg mb O o pm cd ag a vs ns G Y ho hd af aa M B z hg=>?_;have KX:=hY w _ Y;obtain⟨fd,hb,hF⟩:=F w mg O _ KX G.T.g aa;exact RA KX G.T.g G.T.b G.T.builtins G.T.nolimit hg M B (y0d z Z) hr hF hb (fun H hO hS=>U w H a ns z hO hS) fun H e s'=>ae w H J e s'
noncomputable def defArgs(s:Stmt):Arguments:=match s with
 |.FunctionDef _ a _ _ _ _ _ _ _ _=>a
 |_=>{posonlyargs:=[],args:=[],vararg:=none,kwonlyargs:=[],kw_defaults:=[],kwarg:=none,defaults:=[]}
noncomputable def defBody(s:Stmt):List Stmt:=match s with
 |.FunctionDef _ _ b _ _ _ _ _ _ _=>b
 |_=>[]
noncomputable def defScope(s:Stmt):Scope:=match s with
 |.FunctionDef _ _ _ _ _ _ sc _ _ _=>sc
 |_=>{kind:=.function,names:=[],isGenerator:=false,isCoroutine:=false}
abbrev CX0:CXT:=fun _ _ _ _ _ _=>False
abbrev E0:XK:=fun _ _ _=>False
structure Fun(K:y3)(x qual:Str)(st:Stmt)(f:Addr)(fd:y14):Prop where
 ex:∃(oc:y9) (od:Option Addr) (kV doc pm:y9) (an:Option Addr) (cdv ct:y9) (osl:Array (Option y9)),
  fd=PySem.W.fnOf x qual (defArgs st) (defBody st) (defScope st) .none kV doc pm an cdv ct/\K.lookup f=some ⟨oc,od,.func fd,osl⟩/\PySem.W.codeIn K cdv qual=true
 kp:PySem.W.keepIn K (.ref f)=true
section
variable{P:yl}{w:y08}{K:y3}{mg:Str->Option y9}{base:Heap}
theorem Fun.ok{x qual:Str}{st:Stmt}{f:Addr}{fd:y14}{N ps:List Str}{k:Nat}{sp:Sp}(F:Fun K x qual st f fd)(S:FnScope N ps (defScope st))(len:∀vs H Q E,sp vs H Q E->vs.length=ps.length)
  (B:∀(z:y9) (A:y05) (outer:List Env) (s:y6) (H:Hp) (vs:List V) (Q:VK) (E:XK),Room k (A.deeper (envOfC qual (defScope st) s.heap.objs.size f z))->sp vs H Q E->
   ∃t,PSs (AS CX0 P w K mg base N qual (defScope st) f z A outer s H E).nox (defBody st) t/\t {nx:=fun _ H'=>Q .non H',rt:=Q} (start N vs) H):FnOk P w K mg base CX0 (k+1) f fd ps sp:=by
 obtain⟨oc,od,kV,Z,pm,an,z,ct,M,rfl,O,J⟩:=F.ex
 refine M6 O J S len fun A outer s H vs Q E U G=>?_
 obtain⟨t,h,q⟩:=B z A outer s H vs Q E U G
 exact⟨t,h.nox,q⟩
theorem Fun.binds{x qual:Str}{st:Stmt}{f:Addr}{fd:y14}{ps:List Str}(F:Fun K x qual st f fd)
  (h:∀(kV q B:y9) (G:Option Addr) (z ct:y9) (us:List y9),us.length=ps.length->bindArgs (PySem.W.fnOf x qual (defArgs st) (defBody st) (defScope st) .none kV q B G z ct) ⟨us,[]⟩=pure (ps.zip us)):Binds K fd ps []:=by
 obtain⟨U,O,kV,q,B,G,z,ct,J,rfl,Z,M⟩:=F.ex;exact .all (h kV q B G z ct)
theorem MI{x qual:Str}{st:Stmt}{f:Addr}{M:y9}{J G:Option Addr}{B:Array (Option y9)}{kV z F q ct:y9}(l:K.lookup f=some ⟨M,J,.func (PySem.W.fnOf x qual (defArgs st) (defBody st) (defScope st) .none kV z F G q ct),B⟩)
  (c:PySem.W.codeIn K q qual=true) (k:PySem.W.keepIn K (.ref f)=true):Fun K x qual st f (PySem.W.fnOf x qual (defArgs st) (defBody st) (defScope st) .none kV z F G q ct):=⟨⟨M,J,kV,z,F,G,q,ct,B,rfl,l,c⟩,k⟩
theorem C9(h:n<=1000):n<yr:=Nat.lt_of_le_of_lt h (by decide)
end
section
variable{X:Cx}
theorem pv(i:Nat)(B:X.N[i]?=some x:=by rfl)(z:Vis X.env.scope x:=by first|exact Or.inl rfl|exact Or.inr (Or.inl rfl)|exact Or.inr (Or.inr rfl)) (hd:(x==("__debug__" : Str))=false:=by decide)
  (q:(x==("__classdict__" : Str))=false:=by decide):PE X (.Name x pos) (D6 i):=AX B z hd q
noncomputable def Same(H H':Hp):Prop:=∀b o,H b=some o->H' b=some o
theorem Same.refl(H:Hp):Same H H:=fun _ _ h=>h
theorem Same.trans(a:Same H H1)(b:Same H1 H2):Same H H2:=fun c o h=>b c o (a c o h)
theorem Same.free(e:Same H H')(h:H' l=Option.none):H l=Option.none:=by
 cases q:H l with
 |none=>rfl
 |some o=>
  rw[e l o q] at h;cases h
theorem Same.seq{K:y3}{H H':Hp}{a:Addr}{xs:List V}(e:Same H H')(h:SqL K H a xs):SqL K H' a xs:=by
 rcases h with(h|⟨o,h⟩)|h
 ·exact .inl (.inl (e _ _ h))
 ·exact .inl (.inr ⟨o,e _ _ h⟩)
 ·exact .inr h
theorem Iy(env:Env):∀(names:List (Str×NameKind)) (acc:List (Str×Addr)),(∀y∈names,y.2=.free->∃c,env.cells.lookup y.1=some c)->(∀x c,acc.lookup x=some c->env.cells.lookup x=some c)->
  ∃cl,(forIn names acc fun(p:Str×NameKind) (r:List (Str×Addr))=>(match p with|(name,kind)=>if(kind==NameKind.free)=true then(do let c <- cellOf env name; pure (ForInStep.yield ((name,c)::r))) else pure (ForInStep.yield r)):Sem (List (Str×Addr)))=pure cl/\
   (∀x c,cl.lookup x=some c->env.cells.lookup x=some c)/\(∀x,(∃c,acc.lookup x=some c)->∃c,cl.lookup x=some c)/\(∀y∈names,y.2=.free->∃c,cl.lookup y.1=some c)
 |[],acc,_,ha=>⟨acc,by simp,ha,fun _ h=>h,fun _ h=>absurd h (by simp)⟩
 |(n,k)::r,acc,hn,ha=>by
  by_cases hk:k=.free
  ·obtain⟨c,hc⟩:=hn (n,k) y02 hk
   have ha':∀x c',((n,c)::acc).lookup x=some c'->env.cells.lookup x=some c':=fun x c' h=>by
    by_cases hx:x=n
    ·subst hx
     rw[y2n] at h
     cases h; exact hc
    ·have hx':(x==n)=false:=by simpa using hx
     simp only[y0r,hx'] at h
     exact ha x c' h
   obtain⟨cl,e,p1,p2,p3⟩:=Iy env r ((n,c)::acc) (fun y hy=>hn y (yb _ hy)) ha'
   refine⟨cl,?_,p1,fun x ⟨c',hc'⟩=>p2 x ?_,fun y hy hf=>?_⟩
   ·have hco:cellOf env n=pure c:=by unfold cellOf; rw[hc]
    rw[List.forIn_cons]
    subst hk
    simp only[beq_self_eq_true,if_true,hco,pure_bind]
    exact e
   ·by_cases hx:x=n
    ·exact⟨c,by subst hx; rw[y2n]⟩
    ·have hx':(x==n)=false:=by simpa using hx
     exact⟨c',by simp only[y0r,hx']; exact hc'⟩
   ·rcases List.mem_cons.mp hy with rfl|hy
    ·exact p2 _ ⟨c,by rw[y2n]⟩
    ·exact p3 y hy hf
  ·obtain⟨cl,e,p1,p2,p3⟩:=Iy env r acc (fun y hy=>hn y (yb _ hy)) ha
   refine⟨cl,?_,p1,p2,fun y hy hf=>?_⟩
   ·have hb:(k==NameKind.free)=false:=by simpa using hk
    rw[List.forIn_cons]
    simp only[hb,y0o,if_false,pure_bind]
    exact e
   ·rcases List.mem_cons.mp hy with rfl|hy
    ·exact absurd hf hk
    ·exact p3 y hy hf
theorem MJ(h:∀y∈scope.names,y.2=.free->∃c,env.cells.lookup y.1=some c) :
  ∃cl,closureFor scope env=pure cl/\(∀x c,cl.lookup x=some c->env.cells.lookup x=some c)/\(∀y∈scope.names,y.2=.free->∃c,cl.lookup y.1=some c):=by
 obtain⟨cl,e,B,_,z⟩:=Iy env scope.names [] h (fun x c q=>by simp at q);refine⟨cl,?_,B,z⟩;unfold closureFor;simp only[bind_pure];exact e
theorem Iz{env:Env}:∀{names:List (Str×NameKind)} {x:Str} {k:NameKind},(names.map fun(n,k)=>if(k==NameKind.free&&env.scope.kind==.function&&env.kindOf n==some .cell) then(n,NameKind.cell) else(n,k)).lookup x=some k->
  (∀y∈names,y.2≠.cell)->k=.cell\/k=.free->names.lookup x=some .free
 |[],_,_,h,_,_=>by simp at h
 |(n,k0)::r,x,k,h,hc,hk=>by
  have z:=@Iz env r x k;rw[yv] at h;cases hx:x==n with
  |true=>
   have B:k0≠.cell:=hc (n,k0) y02;simp only[y0r,hx];by_cases q:(k0==NameKind.free&&env.scope.kind==.function&&env.kindOf n==some .cell)=true
   ·have:k0=.free:=by
     simp only[y8,beq_iff_eq] at q;exact q.1.1
    rw[this]
   ·dsimp only at h;rw[if_neg q] at h;simp only[y0r,hx] at h;have h:k0=k:=by simpa using h
    subst h;rcases hk with hk|hk
    ·exact absurd hk B
    ·rw[hk]
  |false=>
   simp only[y0r,hx];refine z ?_ (fun y hy=>hc y (yb _ hy)) hk;by_cases q:(k0==NameKind.free&&env.scope.kind==.function&&env.kindOf n==some .cell)=true
   ·dsimp only at h;rw[if_pos q] at h;simp only[y0r,hx] at h; exact h
   ·dsimp only at h;rw[if_neg q] at h;simp only[y0r,hx] at h; exact h
end
noncomputable def Av(X:Cx)(q:List Str)(scope:Scope)(cl:List (Str×Addr))(C:Addr)(s₀:y6)(H₀:Hp)(ex:List Addr):Cx:=
 {X with N:=q,s₀:=s₀,H₀:=H₀,env:=compEnvC scope cl C X.env,outer:=X.stack,stack:=X.stack,ex:=ex,fn:=fun _=>false,pn:=[],xe:=fun _ _=>False}
noncomputable def subσ(q:List (Option Nat))(σ:St):St:=q.map fun o=>match o with|none=>none|some i=>(σ[i]?).getD none
noncomputable def compOk(N:List Str)(on q:List (Str×NameKind))(B:List Str)(z:List (Option Nat)):Bool:=
 z.length==B.length&&(B.zip z).all fun p=>match p.2 with
  |none=>true
  |some i=>N[i]? == some p.1&&q.lookup p.1==some .free&&on.lookup p.1==some .cell
abbrev PIfv(X:Cx)(ifs:List Expr)(t:TT):Prop:=
 ∀(pins:List (Addr×Obj)) (s:y6) (σ:St) (H:Hp) (Q:Bool->Hp->Prop),Inv X pins σ H s->t σ H Q->
  y0j (y0e X.prog X.w) X.A (forIn ifs true fun c r=>if r=true then do let ok <- isTrue c X.env (eval c X.env); pure (ForInStep.yield ok) else pure (ForInStep.yield r)) (TP X pins σ Q) X.xe s
structure PIf(X:Cx)(ifs:List Expr)(t:TT):Prop where
 run:PIfv X ifs t
instance{X:Cx}{ifs:List Expr}{t:TT}:CoeFun (PIf X ifs t) (fun _=>PIfv X ifs t):=⟨PIf.run⟩
noncomputable def Es:TT:=fun _ H Q=>Q true H
theorem Bj:PIf X [] Es:=⟨fun pins s σ H Q I h=>wpAny_tests_nil ⟨H,I,h⟩⟩
theorem J0(h:PT X c t):PIf X [c] t:=⟨fun pins s σ H Q I q=>wpAny_tests_one (h pins s σ H Q I q)⟩
theorem RC{R:Result->y6->Prop}(I:Nat->y6->Prop)
  (turn:∀n s,I n s->y0j (y0e prog w) A (pyNext it) (fun r s₁=>match r with
   |none=>R (.ok .next) s₁
   |some v=>y0j (y0e prog w) A (letOwnedTupleGo target it v) (fun _ s₀=>y0j (y0e prog w) A (assign target env v) (fun _ s₂=>
     y0j (y0e prog w) A (forIn ifs true fun c r=>if r=true then do let ok <- isTrue c env (eval c env); pure (ForInStep.yield ok) else pure (ForInStep.yield r)) (fun ok s₃=>if ok=true then y0j (y0e prog w) A (eval elt env) (fun x s₄=>
      y0j (y0e prog w) A (call (.builtin "list.append") [acc,x]) (fun _ s₅=>∃m,m<n/\I m s₅) (fun _ _=>False) s₄) (fun _ _=>False) s₃
      else ∃m,m<n/\I m s₃) (fun _ _=>False) s₂)
     (fun _ _=>False) s₀) (fun _ _=>False) s₁) (fun _ _=>False) s)
  (n:Nat) (h:I n s):codeAny (y0e prog w) A (.compLoop (.ListComp elt [⟨target,iter,ifs,0⟩] scope pos) 0 it acc env) R s:=by
 refine codeAny_loop rfl I (fun n s hI=>?_) n h
 show y0j _ A ((compTurn (.ListComp elt [⟨target,iter,ifs,0⟩] scope pos) 0 it acc env).onRaise (fun x=>do noteFrame x env; theTreesLotGoes x)) _ _ s
 refine wpAny_noted ?_
 rw[compTurn_list]
 refine yi (wpAny_standAt (yi (y1d (turn n s hI) (fun r s₁ h₁=>?_) fun _ _ h'=>h'.elim)))
 cases r with
 |none=>exact yy h₁
 |some v=>
  refine yi (y1d h₁ (fun _ s₀ h₀'=>?_) fun _ _ h'=>h'.elim)
  refine yi (y1d h₀' (fun _ s₂ h₂=>?_) fun _ _ h'=>h'.elim)
  refine yi (y1d h₂ (fun okb s₃ h₃=>?_) fun _ _ h'=>h'.elim)
  cases okb with
  |false=>exact yy ⟨rfl,h₃⟩
  |true=>exact yi (yi (y1d h₃ (fun x s₄ h₄=>yi (y1d h₄ (fun _ s₅ h₅=>yy (yy ⟨rfl,h₅⟩)) fun _ _ h'=>h'.elim)) fun _ _ h'=>h'.elim))
theorem Inv.track(I:Inv X pins σ H s)(F:H a=none)(f:FpOk X pins H a)(B:ObjOk X.prog X.w (upd H a o) s.heap a o):Inv X pins σ (upd H a o) s:=by
 obtain⟨_,U,Z,O,M,G⟩:=f;have z:∀b u,H b=some u->b≠a:=fun b u e=>CL e F;have J:=I.step (g':=s.gens) (t':=s.toks) (d':=s.drawn) (ch:=[a]) (h':=s.heap) (H':=upd H a o) (fun b hb=>by
   have e:b=a:=by simpa using hb
   subst e
   exact⟨O,U,M,G⟩) (fun b o _ _ _ e _=>e) (fun b o _ _ _ e _=>⟨o.slots,e⟩) (fun b o hb _ n=>by rw[AQ (by simpa using hb)]; exact n) (fun b o _ e=>⟨o,e⟩)
  (fun b xs e=>by rw[AQ (z b _ e)]; exact e) (fun b o u e=>by rw[AQ (z b _ e)]; exact e) (fun b ps e=>⟨#[],by rw[AQ (z b _ e),e]; simp⟩) (fun m hm=>hm) (fun b u e=>by
   by_cases hb:b=a
   ·subst hb; rw[A4] at e; cases e; exact B
   ·rw[AQ hb] at e
    exact(I.hok b u e).stay (fun c v _ q=>q) (fun c q=>by rw[AQ (z c _ q)]; exact q) fun c xs q=>by rw[AQ (z c _ q)]; exact q) I.bare
 exact J
noncomputable def Ch(M:TI)(g:TG)(tt:TT)(te:TE)(O:List (Option Nat)):TE:=fun σ H Q=>M σ H fun J H1=>∃W:Nat->Nat->List V->St->Hp->Prop,(∃m,W 0 m [] (subσ O σ) H1)/\∀i m ys σ H,W i m ys σ H->
 (J.stop i H/\ys.length<=yr/\∀p,H p=none->Q (.ref p) (upd H p (.lst ys)))\/(J.go i H/\ys.length<yr/\∃N:List V->St->Hp->Prop,(∀B z H',N B z H'->∃F,F<m/\W (i+1) F B z H')/\∀x H',J.yld i H x H'->g x σ H' fun q H2=>tt q H2 fun b G=>
  if b=true then te q G (fun v U=>N (ys++[v]) q U) else N ys q G)
structure CompS(X:Cx)(N':List Str)(scope:Scope)(mp:List (Option Nat)):Prop where
 kind:scope.kind=.function
 nocell:∀y∈scope.names,y.2≠.cell
 locs:∀y∈scope.names,y.2=.local->scope.names.lookup y.1=some .local
 frees:∀y∈scope.names,y.2=.free->X.env.scope.names.lookup y.1=some .cell
 ok:compOk X.N X.env.scope.names scope.names N' mp=true
theorem RD(h:compOk N on inn N' mp=true):mp.length=N'.length/\∀(j:Nat) (x:Str) (i:Nat),N'[j]?=some x->mp[j]?=some (some i)->N[i]?=some x/\inn.lookup x=some .free/\on.lookup x=some .cell:=by
 unfold compOk at h;rw[y8] at h;obtain⟨h1,h2⟩:=h;refine⟨by simpa using h1,fun j x i B z=>?_⟩;have hm:(x,some i)∈N'.zip mp:=by
  refine yt (i:=j) ?_;rw[List.getElem?_zip_eq_some];exact⟨B,z⟩
 have q:=List.all_eq_true.mp h2 _ hm;simp only[y8,beq_iff_eq] at q;exact⟨q.1.1,q.1.2,q.2⟩
theorem subσ_get{q:List (Option Nat)}{σ:St}{j:Nat}{v:V}(h:(subσ q σ)[j]?=some (some v)):∃i,q[j]?=some (some i)/\σ[i]?=some (some v):=by
 unfold subσ at h;rw[y0b] at h;cases e:q[j]? with
 |none=>rw[e] at h; cases h
 |some o=>
  rw[e] at h;cases o with
  |none=>simp at h
  |some i=>
   refine⟨i,rfl,?_⟩;cases B:σ[i]? with
   |none=>simp[B] at h
   |some z=>
    simp[B] at h;rw[h]
section
variable{X:Cx}{pins:List (Addr×Obj)}{σ:St}{H:Hp}
theorem MK{aE tg ar:Expr}{aA:List Expr}{scope:Scope}{pos:Pos}{N':List Str}{mp:List (Option Nat)}{g:TG}{tt:TT}{te:TE}{q:y6}{it:Addr}{O:List Addr}{tn:Nat->Heap->Prop}{J:It}{cl:List (Str×Addr)}
  {Qe:V->Hp->Prop} {RR:y9->Addr->Result->y6->Prop} {E:y9->y6->Prop} (hc:X.calm=true) (S:CompS X N' scope mp)
  (ag:∀x c,cl.lookup x=some c->X.env.cells.lookup x=some c) (aK:∀y∈scope.names,y.2=.free->∃c,cl.lookup y.1=some c)
  (hg:∀C s₀ H₀ ex,PG (Av X N' scope cl C s₀ H₀ ex) tg g) (ht:∀C s₀ H₀ ex,PIf (Av X N' scope cl C s₀ H₀ ex) aA tt) (he:∀C s₀ H₀ ex,PE (Av X N' scope cl C s₀ H₀ ex) aE te)
  (I:Inv X pins σ H q) (T:Turn X.prog X.w X.K tg J O it tn) (st:tn 0 q.heap) (hf:∀b∈O,FpOk X pins H b)
  (hw:∃W:Nat->Nat->List V->St->Hp->Prop,(∃m,W 0 m [] (subσ mp σ) H)/\∀i m ys σ H,W i m ys σ H->
   (J.stop i H/\ys.length<=yr/\∀p,H p=none->Qe (.ref p) (upd H p (.lst ys)))\/(J.go i H/\ys.length<yr/\∃N:List V->St->Hp->Prop,(∀aF G H',N aF G H'->∃m',m'<m/\W (i+1) m' aF G H')/\∀x H',J.yld i H x H'->g x σ H' fun ao H2=>tt ao H2 fun b H3=>
  if b=true then te ao H3 (fun v H4=>N (ys++[v]) ao H4) else N ys ao H3))
  (hR:∀(D C:Addr) (H':Hp) (s':y6),Inv X pins σ H' s'->Qe (.ref D) H'->(∃m,s'.heap.Ns C m)->FpOk X pins H' C->RR (.ref D) C (.ok .next) s') :
  y0j (y0e X.prog X.w) X.A (newList []) (fun aQ ae=>y0j (y0e X.prog X.w) X.A (newFunctionEnv scope X.env.globals cl [] X.env.qual none .none (some X.env)) (fun ax aH=>
   codeAny (y0e X.prog X.w) X.A (.compStart (.ListComp aE [⟨tg,ar,aA,0⟩] scope pos) 0 (.ref it) aQ {ax with scope:=relabel scope X.env}) (RR aQ ax.locals) aH) E ae) E q:=by
 obtain⟨W,⟨m0,w0⟩,aG⟩:=hw;refine y25 (wpAny_newFunctionEnv S.nocell (by intro y hy; simp at hy) (fun af Z U=>?_) S.kind);dsimp only at Z U |-;generalize hH2:q.heap.push {cls:=.type "list",dict:=none,data:=.seq ([]:List y9).toArray}=H2 at Z U |-;have aL:H2.objs.size=q.heap.objs.size+1:=by rw[<- hH2,y1q]
 have I3:Inv X pins σ H {q with heap:=H2}:=by
  rw[<- hH2];exact I.kept (t':=q.toks) fun b o e=>ye _ e
 have k1:∀b u,H2.get? b=some u->af.get? b=some u:=fun b u e=>U.extBut b u (y0m (ym e)) (ye _ e);have M:FpOk X pins H q.heap.objs.size:=I.fpOk (yf _) (I.hok.fresh (yf _));have aS:FpOk X pins H H2.objs.size:=I3.fpOk (yf _) (I3.hok.fresh (yf _));have au:∀b∈O,b<q.heap.objs.size:=fun b hb=>let ⟨o,e,_⟩:=T.obj 0 _ st b hb; ym e;have ak:q.heap.objs.size∉O:=fun z=>absurd (au _ z) (y1o _);have ac:q.heap.objs.size≠H2.objs.size:=by rw[aL]; exact y0m (Nat.lt_succ_self _)
 have aa:∀b∈q.heap.objs.size::O,FpOk X pins H b:=fun b hb=>(List.mem_cons.mp hb).elim (fun e=>e ▸ M) (hf b);have av:∀b∈q.heap.objs.size::O,b≠H2.objs.size:=fun b hb=>(List.mem_cons.mp hb).elim (fun e=>e ▸ ac) fun z=>y0m (Nat.lt_trans (au b z) (by rw[aL]; exact Nat.lt_succ_self _));have ah:∀b,FpOk X pins H b->b∉frs X.stack:=fun b f z=>(List.mem_cons.mp (I.stkSub b z)).elim f.2.1 f.2.2.1;have aV:(Av X N' scope cl H2.objs.size {q with heap:=H2} H (q.heap.objs.size::O)).Ok:=by
  refine⟨I.ok.mod,S.kind,I.ok.glob,I.ok.blt,yf _,fun x y c h1 h2=>I.ok.inj x y c (ag x c h1) (ag y c h2),fun x hx=>?_,fun x c hx=>absurd hx (by show ¬ false=true; decide),I.ok.hd,I.ok.frames,.inl rfl,
   fun b hb=>⟨av b hb,fun x c e=>(aa b hb).2.2.2.2.1 x c (ag x c e)⟩,fun b o e=>I3.bs b o e,y0d I.ok.bsz I3.sz,fun b o e hb=>?_,fun b hb=>ah b (aa b hb),I3.stack,I3.stkFree⟩
  ·have aX:(relabel scope X.env).names.lookup x=some .cell\/(relabel scope X.env).names.lookup x=some .free:=hx;have aC:scope.names.lookup x=some .free:=by
    rcases aX with z|z
    ·exact Iz z S.nocell (.inl rfl)
    ·exact Iz z S.nocell (.inr rfl)
   exact aK (x,.free) (y12 aC) rfl
  ·rcases(aa b hb).2.2.2.1 with z|z
   ·exact I.ok.noex b o e z
   ·exact absurd (yw (ym e) (y0d I.ok.bsz z)) (y1o _)
 obtain⟨a7,aZ⟩:=RD S.ok;let XC:=Av X N' scope cl H2.objs.size {q with heap:=H2} H (q.heap.objs.size::O)
 have J4:Inv (Av X N' scope cl H2.objs.size {q with heap:=H2} H (q.heap.objs.size::O)) [] (subσ mp σ) H {q with heap:=af,toks:=q.toks+([]:List (Str×y9)).length}:=by
  refine⟨aV,rfl,I.bare,Un.kept k1,⟨_,Z,fun j x v e1 e2 e3=>?_⟩,fun x c e=>?_,aS.1,fun x c e=>I.freeC x c (ag x c e),fun p hp=>absurd (show p∈([]:List (Addr×Obj)) from hp) (by simp),I3.hok.kept k1,by show(subσ mp σ).length=N'.length; unfold subσ; rw[y4,a7]⟩
  ·obtain⟨i,q1,q2⟩:=subσ_get e2;obtain⟨n1,n2,n3⟩:=aZ j x i e1 q1;obtain⟨m,hn,hl⟩:=I3.loc;obtain⟨u,ru,lk⟩:=hl i x v n1 q2 (.inr (.inl n3));refine⟨u,ru,?_⟩;rcases lk with⟨z,_⟩|⟨_,c,ec,z⟩
   ·have z':X.env.scope.names.lookup x=some .local:=z;rw[n3] at z'; cases z'
   ·obtain⟨c',aN⟩:=aK (x,.free) (y12 n2) rfl;have e4:=ag x c' aN;rw[ec] at e4; cases e4;refine .inr ⟨?_,c,aN,?_⟩
    ·have z3:(relabel scope X.env).names.lookup x=some .local\/(relabel scope X.env).names.lookup x=some .cell\/(relabel scope X.env).names.lookup x=some .free:=e3;rcases z3 with z3|z3|z3
     ·exfalso;have:∀(names:List (Str×NameKind)),names.lookup x=some .free->(names.map fun(n,k)=>if(k==NameKind.free&&X.env.scope.kind==.function&&X.env.kindOf n==some .cell) then(n,NameKind.cell) else(n,k)).lookup x≠some .local:=by
       intro names;induction names with
       |nil=>intro h; simp at h
       |cons p r ih=>
        obtain⟨n,k⟩:=p;intro h;cases hx:x==n with
        |true=>
         simp only[y0r,hx] at h;cases h;rw[yv];dsimp only;split<;>simp[y0r,hx]
        |false=>
         simp only[y0r,hx] at h;rw[yv];dsimp only;split<;>(simp only[y0r,hx]; exact ih h)
      exact this scope.names n2 z3
     ·exact .inl z3
     ·exact .inr z3
    ·obtain⟨o,ho,hd⟩:=z;exact⟨o,k1 _ _ ho,hd⟩
  ·obtain⟨v,o,ho,hd⟩:=I3.cell x c (ag x c e);exact⟨v,o,k1 _ _ ho,hd⟩
 have aP:af.get? q.heap.objs.size=some {cls:=.type "list",data:=.seq ([]:List y9).toArray 0}:=k1 _ _ (by rw[<- hH2]; exact y04 _ rfl);have aJ:tn 0 af:=T.keep _ _ _ st fun b _ o e=>k1 b o (by rw[<- hH2]; exact ye _ e);have a9:∀{H':Hp},(∀b∈O,H' b=none)->∀b∈O,FpOk (Av X N' scope cl H2.objs.size {q with heap:=H2} H (q.heap.objs.size::O)) [] H' b:=fun hn b hb=>
  ⟨hn b hb,av b (yb _ hb),ah b (hf b hb),.inl (yb _ hb),fun x c e=>(hf b hb).2.2.2.2.1 x c (ag x c e),fun p hp=>absurd (show p∈([]:List (Addr×Obj)) from hp) (by simp)⟩
 have aO:∀{H':Hp},H' q.heap.objs.size=none->FpOk (Av X N' scope cl H2.objs.size {q with heap:=H2} H (q.heap.objs.size::O)) [] H' q.heap.objs.size:=fun hn=>
  ⟨hn,ac,ah _ M,.inl y02,fun x c e=>M.2.2.2.2.1 x c (ag x c e),fun p hp=>absurd (show p∈([]:List (Addr×Obj)) from hp) (by simp)⟩
 have aq:∀ae:y6,ae = {q with heap:=af,toks:=q.toks+([]:List (Str×y9)).length}->
   codeAny (y0e X.prog X.w) X.A (.compLoop (.ListComp aE [⟨tg,ar,aA,0⟩] scope pos) 0 (.ref it) (.ref q.heap.objs.size) (compEnvC scope cl H2.objs.size X.env)) (RR (.ref q.heap.objs.size) H2.objs.size) ae:=by
  rintro ae rfl
  refine RC (fun n s'=>∃i G H' ys B k,Inv (Av X N' scope cl H2.objs.size {q with heap:=H2} H (q.heap.objs.size::O)) [] G H' s'/\tn i s'.heap/\(∀b∈O,H' b=none)/\H' q.heap.objs.size=none/\
   Vals ys B/\s'.heap.get? q.heap.objs.size=some {cls:=.type "list",data:=.seq B.toArray k}/\W i n ys G H') ?_ m0 ⟨0,subσ mp σ,H,[],[],0,J4,aJ,fun b hb=>(hf b hb).1,M.1,.nil,aP,w0⟩
  rintro n s5 ⟨i,am,H5,ys,B,k,J5,aI,aM,ap,vy,ea,w5⟩
  have zv:B.length=ys.length:=vy.length.symm
  have az:∀{G:St} {H':Hp} {s':y6} {o:Obj},Inv XC [] G H' s'->H' q.heap.objs.size=none->s'.heap.get? q.heap.objs.size=some o->(∀v,o.data≠.cell v)->Inv XC [(q.heap.objs.size,o)] G H' s':=fun {G H' s' o} J a1 a2 a3=>J.pins_of fun p hp=>by
   have e:p=(q.heap.objs.size,o):=by simpa using hp
   subst e
   exact⟨a2,a1,ac,ah _ M,a3⟩
  have aD:∀{H':Hp} {o:Obj},(∀b∈O,H' b=none)->∀b∈O,FpOk XC [(q.heap.objs.size,o)] H' b:=fun {H' o} hn b hb=>by
   obtain⟨c1,c2,c3,c4,c5,_⟩:=a9 hn b hb
   refine⟨c1,c2,c3,c4,c5,fun p hp=>?_⟩
   have e:p=(q.heap.objs.size,o):=by
    have aY:p∈([]++[(q.heap.objs.size,o)]:List (Addr×Obj)):=hp
    simpa using aY
   subst e
   intro z
   exact ak (by rw[show q.heap.objs.size=b from z]; exact hb)
  have aW:∀(us:List y9) (k:Nat) (v:Option y9),({cls:=.type "list",data:=.seq us.toArray k}:Obj).data≠.cell v:=fun us k v z=>by
   have z':Data.seq us.toArray k=Data.cell v:=z
   cases z'
  have aR:=az J5 ap ea (aW B k)
  rcases aG i n ys am H5 w5 with⟨stop,zl,qn⟩|⟨go,zl,N,hN,step⟩
  ·refine thn (T.done XC rfl rfl rfl hc i _ s5 am H5 _ aR (aD aM) aI stop) fun r s6 ⟨hr,J6⟩=>?_
   subst hr
   have I6:Inv X pins σ H5 s6:=I3.call' (ch:=q.heap.objs.size::O) (show s6.os=_ from J6.os) J6.base J6.hok J6.bare fun b hb=>let ⟨_,a1,_,a3,a4,a5⟩:=aa b hb; ⟨a3,a1,a4,a5⟩
   have bb:s6.heap.get? q.heap.objs.size=some {cls:=.type "list",data:=.seq B.toArray k}:=(J6.pin _ (y00 _ (List.mem_singleton.mpr rfl))).1
   have I7:Inv X pins σ (upd H5 q.heap.objs.size (.lst ys)) s6:=I6.track ap ⟨ap,M.2⟩ ⟨zl,B,k,vy,bb⟩
   obtain⟨m,hm,_⟩:=J6.loc
   exact hR _ _ _ s6 I7 (qn _ ap) ⟨m,hm⟩ ⟨by rw[AQ (y2t ac)]; exact J6.free,aS.2⟩
  ·refine thn (T.item XC rfl rfl rfl hc i _ s5 am H5 _ aR (aD aM) aI go) fun r s6 ⟨u,hr,h6⟩=>?_
   subst hr
   refine thn h6 fun _ s7 ⟨x,H7,J7,r7,y7,ay,a8⟩=>?_
   have bg:H7 q.heap.objs.size=none:=(J7.pin _ (y00 _ (List.mem_singleton.mpr rfl))).2.1
   have bd:=J7.pinned (aD a8) (T.obj _ _ ay)
   refine thn (hg _ _ _ _ _ s7 am H7 x u _ bd r7 (step x H7 y7)) fun _ s8 ⟨al,H8,J8,q8⟩=>?_
   refine thn (ht _ _ _ _ _ s8 al H8 _ J8 q8) fun b s9 ⟨H9,J9,q9⟩=>?_
   have J1:∀{G:St} {H':Hp} {s':y6},Inv XC ([(q.heap.objs.size,({cls:=.type "list",data:=.seq B.toArray k}:Obj))]++Ej O s7.heap) G H' s'->
     Inv XC [] G H' s'/\tn (i+1) s'.heap/\(∀b∈O,H' b=none)/\H' q.heap.objs.size=none/\s'.heap.get? q.heap.objs.size=some {cls:=.type "list",data:=.seq B.toArray k}:=fun {G H' s'} K=>by
    have pa:=K.pin (q.heap.objs.size,{cls:=.type "list",data:=.seq B.toArray k}) (y00 _ (y10 _ (List.mem_singleton.mpr rfl)))
    refine⟨K.pins_of (fun p hp=>absurd hp (by simp)),T.keep _ _ _ ay fun b hb o e=>(K.pin (b,o) (y00 _ (y00 _ (G7 hb e)))).1,fun b hb=>?_,pa.2.1,pa.1⟩
    obtain⟨o,e,d⟩:=T.obj _ _ ay b hb
    exact(K.pin (b,o) (y00 _ (y00 _ (G7 hb e)))).2.1
   cases b with
   |false=>
    rw[if_neg yg] at q9
    rw[if_neg yg]
    obtain⟨m',aB,w'⟩:=hN _ _ _ q9
    obtain⟨K1,K2,K3,K4,K5⟩:=J1 J9
    exact⟨m',aB,i+1,al,H9,ys,B,k,K1,K2,K3,K4,vy,K5,w'⟩
   |true=>
    rw[if_pos rfl] at q9
    rw[if_pos rfl]
    refine thn (he _ _ _ _ _ s9 al H9 _ J9 q9) fun z aj ⟨v,bf,be,aT,aU⟩=>?_
    obtain⟨m',aB,w'⟩:=hN _ _ _ aU
    obtain⟨K1,K2,K3,K4,K5⟩:=J1 be
    refine y26 F.slot_list_append ⟨_,K5,rfl⟩ F.entry_list_append (F.args_list_append_2 _ _) (PySem.list_append q.heap.objs.size B.toArray k z (by rw[yn]; lia)) ⟨K5,?_⟩
    have qa:=PySem.IsL.update K5 (fun x_1=>x_1.push z)
    have ba:B.toArray.push z=(B++[z]).toArray:=by simp
    rw[ba] at qa
    have kk:∀b o,b≠q.heap.objs.size->aj.heap.get? b=some o->(aj.heap.update q.heap.objs.size (Obj.mapSeq fun x_1=>x_1.push z)).get? b=some o:=fun b o hb hu=>(Heap.get?_update_other aj.heap (Obj.mapSeq fun x_1=>x_1.push z) (y2t hb)).trans hu
    obtain⟨d0,d1,d2,d3,d4,d5⟩:=aO K4
    have bc:=K1.turned (h':=aj.heap.update q.heap.objs.size (Obj.mapSeq fun x_1=>x_1.push z)) (t':=aj.toks) kk d0 d1 d3 d4 d5
    exact⟨m',aB,i+1,al,bf,ys++[v],B++[z],_,bc,T.keep _ _ _ K2 (fun b hb o e=>kk b o (fun y=>ak (by rw[<- y]; exact hb)) e),K3,K4,vy.append (.cons aT .nil),qa,w'⟩
 exact codeAny_compStart_list (aq _ rfl) (T.self _ _ _ _ _ aJ (aq _ rfl))
theorem BT(z:List Str)(G:List (Option Nat))(hc:X.calm=true)(S:CompS X z scope G)(hi:PI X tg iter wi)
  (hg:∀cl C s₀ H₀ ex,PG (Av X z scope cl C s₀ H₀ ex) tg g) (U:∀cl C s₀ H₀ ex,PIf (Av X z scope cl C s₀ H₀ ex) ifs tt) (he:∀cl C s₀ H₀ ex,PE (Av X z scope cl C s₀ H₀ ex) elt te)
  (Z:∀x,foldedSetIterable iter X.env x=pure x:=by intro _; rfl):PE X (.ListComp elt [⟨tg,iter,ifs,0⟩] scope pos) (Ch wi g tt te G):=by
 refine⟨?_⟩;intro pins s σ H Q I h;obtain⟨cl,e0,e1,e2⟩:=MJ (scope:=scope) (env:=X.env) fun y hy hf=>I.ok.has y.1 (.inl (S.frees y hy hf));rw[eval_ListComp];refine wpAny_comprehension_free (use:=none) rfl Z e0 S.kind S.locs (thn (hi pins s σ H _ I h) fun v s1 h1=>thn h1 fun O s2 h2=>?_);obtain⟨it,fp,tn,J,H2,e,I2,T,B,f2,hw⟩:=h2;subst e;refine MK (Qe:=Q) (RR:=fun F C=>compPost (y0e X.prog X.w) X.A X.xe none (EP X pins σ Q) F C) hc S e1 e2 (hg cl) (U cl) (he cl) I2 T B f2 hw fun D C H' s' I' q ⟨m,hm⟩ ⟨f0,f1,_,f3,f4,f5⟩=>?_;exact⟨m,hm,fun h' M=>⟨.ref D,H',I'.turned (t':=s'.toks) (fun b o hb e=>(M.2 b hb).trans e) f0 f1 f3 f4 f5,rfl,q⟩⟩
theorem RE(N':List Str)(mp:List (Option Nat))(hN:X.N.Nodup)(hxi:X.N[i]?=some x)(hx:Loc X.env.scope x)
  (hc:X.calm=true) (S:CompS X N' scope mp) (hi:PI X tg iter wi)
  (hg:∀cl C s₀ H₀ ex,PG (Av X N' scope cl C s₀ H₀ ex) tg g) (ht:∀cl C s₀ H₀ ex,PIf (Av X N' scope cl C s₀ H₀ ex) ifs tt) (he:∀cl C s₀ H₀ ex,PE (Av X N' scope cl C s₀ H₀ ex) elt te)
  (hsw:swapsWith (.ListComp elt [⟨tg,iter,ifs,0⟩] scope cpos) (some (.Name x pos')) pos.line X.env=pure true:=by rfl)
  (hs:∀x,foldedSetIterable iter X.env x=pure x:=by intro _; rfl) (hf:X.fn x=true\/X.env.scope.names.lookup x=some .local:=by first|exact .inl rfl|exact .inr rfl|assumption) :
  PS X (.Assign [.Name x pos'] (.ListComp elt [⟨tg,iter,ifs,0⟩] scope cpos) pos) (E5 (Ch wi g tt te mp) (Bi i)):=by
 refine⟨?_⟩
 intro pins s σ H D I h
 obtain⟨cl,e0,e1,e2⟩:=MJ (scope:=scope) (env:=X.env) fun y hy hf=>I.ok.has y.1 (.inl (S.frees y hy hf))
 rw[exec_Assign_Name_used _ _ _ _ hsw]
 refine yi (wpAny_standAt (yi ?_))
 show y0j _ X.A (do let _ <- comprehension (.ListComp elt [⟨tg,iter,ifs,0⟩] scope cpos) scope X.env _ (newList []) false (eval iter X.env) (some (assign (.Name x pos') X.env))) _ _ s
 refine yi (y1d (wpAny_comprehension_free (use:=some (assign (.Name x pos') X.env)) (Q:=fun _ s'=>SP X pins D .next s') rfl hs e0 S.kind S.locs
  (thn (hi pins s σ H _ I h) fun v s1 h1=>thn h1 fun itv s2 h2=>?_)) (fun _ s' hq=>yy (yy hq)) fun _ _ e=>e)
 obtain⟨it,fp,tn,J,H2,e,I2,T,st2,f2,hw⟩:=h2
 subst e
 refine MK (Qe:=fun x H1=>Bi i x σ H1 D.nx) (RR:=fun acc C=>compPost (y0e X.prog X.w) X.A X.xe (some (assign (.Name x pos') X.env)) (fun _ s'=>SP X pins D .next s') acc C) hc S e1 e2 (hg cl) (ht cl) (he cl) I2 T st2 f2 hw fun D' C H' s' I' q ⟨m,hm⟩ ⟨f0,f1,_,f3,f4,f5⟩=>?_
 show y0j _ X.A (assign (.Name x pos') X.env (.ref D')) _ _ _
 refine wpAny_assign_Name (Lj I' hN hxi hx (v:=.ref D') rfl (fun s'' I'' ⟨a,sb,ha⟩=>?_) hf)
 have hCa:C≠a:=by
  rcases ha with ha|ha
  ·rw[ha]; exact f1
  ·exact fun z=>f4 x a ha z.symm
 refine⟨m,hm.sameBut sb hCa,fun h' sb'=>?_⟩
 rw[Bi,D5] at q
 exact⟨_,H',I''.turned (t':=s''.toks) (fun b o hb e=>(sb'.2 b hb).trans e) f0 f1 f3 f4 f5,q⟩
end
section
variable{K:y3}{a:Addr}{xs:List V}{g:TG}{tt:TT}{te:TE}{σ:St}{H:Hp}{Q:VK}
abbrev Bf(J:It)(g:TG)(tt:TT)(te:TE)(Q:VK)(σ:St)(H:Hp):Prop:=∃W:Nat->Nat->List V->St->Hp->Prop,(∃m,W 0 m [] σ H)/\∀i m ys σ H,W i m ys σ H->
 (J.stop i H/\ys.length<=yr/\∀p,H p=none->Q (.ref p) (upd H p (.lst ys)))\/(J.go i H/\ys.length<yr/\∃N:List V->St->Hp->Prop,(∀B z H',N B z H'->∃F,F<m/\W (i+1) F B z H')/\∀x H',J.yld i H x H'->g x σ H' fun q H2=>tt q H2 fun b G=>
  if b=true then te q G (fun v M=>N (ys++[v]) q M) else N ys q G)
theorem DY(B:Nat->List V->St->Hp->Prop)(h0:B 0 [] σ H)(hz:xs.length<yr)(hy:∀i ys σ H,B i ys σ H->ys.length<=i)(hl:∀i ys σ H,i<=xs.length->B i ys σ H->SqL K H a xs)
  (Z:∀i ys x σ H,xs[i]?=some x->B i ys σ H->g x σ H fun z H2=>tt z H2 fun b G=>if b=true then te z G (fun v H4=>B (i+1) (ys++[v]) z H4) else B (i+1) ys z G)
  (hd:∀ys σ H,B xs.length ys σ H->∀p,H p=none->Q (.ref p) (upd H p (.lst ys))):Bf (Itl K a) g tt te Q σ H:=by
 refine⟨fun i m ys σ H=>m=xs.length-i/\i<=xs.length/\B i ys σ H,⟨xs.length,by simp,y0i _,h0⟩,?_⟩;rintro i m ys σ H ⟨rfl,hi,p⟩;have q:=hl i ys σ H hi p;have U:=hy i ys σ H p;by_cases F:i<xs.length
 ·refine .inr ⟨⟨xs,xs[i],q,by simp[F]⟩,by lia,B (i+1),fun M J H' O=>⟨xs.length-(i+1),by lia,rfl,F,O⟩,fun x H' y=>?_⟩;obtain⟨e,y⟩:=y;subst e;exact Z i ys x σ _ (y xs q) p
 ·have e:i=xs.length:=by lia
  subst e;exact .inl ⟨⟨xs,q,yf _⟩,by lia,hd ys σ H p⟩
theorem EA(B:Nat->List V->St->Hp->Prop)(h0:B 0 [] σ H)(hz:xs.length<yr)(hy:∀i ys σ H,B i ys σ H->ys.length<=i)(hl:∀i ys σ H,i<=xs.length->B i ys σ H->SqT K H a xs)
  (Z:∀i ys x σ H,xs[i]?=some x->B i ys σ H->g x σ H fun z H2=>tt z H2 fun b G=>if b=true then te z G (fun v H4=>B (i+1) (ys++[v]) z H4) else B (i+1) ys z G)
  (hd:∀ys σ H,B xs.length ys σ H->∀p,H p=none->Q (.ref p) (upd H p (.lst ys))):Bf (Itt K a) g tt te Q σ H:=by
 refine⟨fun i m ys σ H=>m=xs.length-i/\i<=xs.length/\B i ys σ H,⟨xs.length,by simp,y0i _,h0⟩,?_⟩;rintro i m ys σ H ⟨rfl,hi,p⟩;have q:=hl i ys σ H hi p;have U:=hy i ys σ H p;by_cases F:i<xs.length
 ·refine .inr ⟨⟨xs,xs[i],q,by simp[F]⟩,by lia,B (i+1),fun M J H' O=>⟨xs.length-(i+1),by lia,rfl,F,O⟩,fun x H' y=>?_⟩;obtain⟨e,y⟩:=y;subst e;exact Z i ys x σ _ (y xs q) p
 ·have e:i=xs.length:=by lia
  subst e;exact .inl ⟨⟨xs,q,yf _⟩,by lia,hd ys σ H p⟩
end
section
variable{X:Cx}
noncomputable def ML(K:y3):R2:=fun x y H Q=>∃a b xs ys,x=.ref a/\y=.ref b/\SqT K H a xs/\SqT K H b ys/\xs.length+ys.length<=yr/\
 (xs=[]->Q (.ref b) H)/\(xs≠[]->ys=[]->Q (.ref a) H)/\(xs≠[]->ys≠[]->∀p,H p=none->Q (.ref p) (upd H p (.tup (xs++ys))))
theorem MM:OpR X (binaryOp .Add) (ML X.K):=by
 intro pins s σ H x y v u Q I Z U h;obtain⟨a,b,xs,ys,rfl,rfl,ha,hb,hz,q0,q1,q2⟩:=h;by_cases hx:xs=[]
 ·cases Z;cases U;obtain⟨z,r1,p1,_⟩:=I.tuple ha;obtain⟨q,r2,p2,_⟩:=I.tuple hb;obtain⟨⟨cls,dd,data,sl⟩,ho,hc,n,hd⟩:=id p1;obtain⟨⟨aa,O,data2,M⟩,B,J,n2,G⟩:=id p2;simp only at hc hd J G;subst hc hd J G;have he:z=[]:=r1.nil_iff.mpr hx;exact concat_meets ⟨_,ho,rfl⟩ ⟨_,B,rfl⟩ noFill_tuple_add seq_tuple_add y2h y2f (y2e _ _)
   (tuple_addW0 a b z.toArray q.toArray n n2 dd O sl M (by simp[he])) ⟨ho,B,⟨.ref b,H,I,rfl,q0 hx⟩⟩
 ·exact Qn pins s σ H _ _ v u Q I Z U ⟨a,b,xs,ys,rfl,rfl,ha,hb,hx,hz,q1 hx,q2 hx⟩
noncomputable def BE:V->PyData
 |.bl b=>.bool b
 |.int i=>.int i
 |.str x=>.str x
 |_=>.none
theorem RF(r:RelV x u)(f:Az x=true):Reads h u (BE x) []:=by
 cases x with
 |non=>cases r; exact .none
 |bl b=>cases r; exact .bool b
 |int i=>obtain⟨t,rfl⟩:=r; exact .int i t
 |str z=>obtain⟨t,rfl⟩:=r; exact .str z t
 |_=>exact absurd (show false=true from f) yg
theorem MN:∀{xs:List V} {us:List y9},Vals xs us->xs.all Az=true->ReadsAll h us (xs.map BE) []
 |_,_,.nil,_=>.nil
 |_::_,_::_,.cons r t,f=>by
  rw[y28,y8] at f;exact .cons (RF r f.1) (MN t f.2)
noncomputable def okV:V->Bool
 |.non=>true
 |.bl _=>true
 |.int _=>true
 |.str z=>PyData.strOk z
 |_=>false
theorem okV.flat(h:okV x=true):Az x=true:=by
 cases x<;>first|rfl|exact absurd (show false=true from h) yg
theorem okV.all{xs:List V}(h:xs.all okV=true):xs.all Az=true:=List.all_eq_true.mpr fun x hx=>okV.flat (List.all_eq_true.mp h x hx)
theorem MO:∀(xs:List V),xs.all okV=true->PyData.canLayAll0 (xs.map BE)=true/\PyData.depthAll (xs.map BE)<=1
 |[],_=>by simp[PyData.canLayAll0,PyData.depthAll]
 |x::xs,hz=>by
  rw[y28,y8] at hz;have h1:(BE x).canLay0=true/\(BE x).depth<=1:=by
   cases x with
   |str z=>exact⟨by simpa [BE,PyData.canLay0,okV] using hz.1,by simp[BE,PyData.depth]⟩
   |_=>exact⟨by simp[BE,PyData.canLay0],by simp[BE,PyData.depth]⟩
  have h2:=MO xs hz.2;simp only[yv,PyData.canLayAll0,PyData.depthAll,h1.1,h2.1,Bool.and_self,true_and];have B:=h1.2;have q:=h2.2;lia
theorem GP{xs:List V}(h:xs.all okV=true):SeqAt.shaped (.list (xs.map BE))=true:=by
 have q:=MO xs h;unfold SeqAt.shaped;simp only[PyData.canLay0,PyData.depth,q.1,y0a];have:=q.2;exact decide_eq_true (by lia)
theorem Inv.readsL(I:Inv X pins σ H s)(h:SqL X.K H a xs)(f:xs.all okV=true):∃z,Reads s.heap (.ref a) (.list (xs.map BE)) z:=by
 obtain⟨q,r,⟨o,n,e,c,_,d⟩,_⟩:=I.list h;exact⟨_,.list e c d (by simpa using MN r (okV.all f))⟩
noncomputable def eqL(xs ys:List V):Bool:=PyData.eqv (.list (xs.map BE)) (.list (ys.map BE))
noncomputable def MP(K:y3)(neg:Bool):R2:=fun x y H Q=>∃a b xs ys,x=.ref a/\y=.ref b/\SqL K H a xs/\SqL K H b ys/\xs.all okV=true/\ys.all okV=true/\Q (.bl (if neg then !eqL xs ys else eqL xs ys)) H
theorem RG(hu:X.A.units+64<cLine):OpR X (y0c .Eq) (MP X.K false):=by
 intro pins s σ H x y v u Q I G F h;obtain⟨a,b,xs,ys,rfl,rfl,ha,hb,B,z,q⟩:=h;cases G; cases F;obtain⟨O,M⟩:=I.readsL ha B;obtain⟨bs,J⟩:=I.readsL hb z;exact eq_dataH M J (GP B) (GP z) hu ⟨.bl _,H,I,rfl,q⟩
theorem RH(hu:X.A.units+64<cLine):OpR X (y0c .NotEq) (MP X.K true):=by
 intro pins s σ H x y v u Q I G F h;obtain⟨a,b,xs,ys,rfl,rfl,ha,hb,B,z,q⟩:=h;cases G; cases F;obtain⟨O,M⟩:=I.readsL ha B;obtain⟨bs,J⟩:=I.readsL hb z;exact ne_dataH M J (GP B) (GP z) hu ⟨.bl _,H,I,rfl,q⟩
theorem MQ(xs:List V):eqL xs []=xs.isEmpty:=by
 cases xs<;>simp[eqL,PyData.eqv,PyData.eqvAll]
theorem RI:OpR X (y0c .Is) (fun x y H Q=>∃a b,x=.bl a/\y=.bl b/\Q (.bl (a==b)) H):=by
 intro pins s σ H x y v u Q I B z h;obtain⟨i,j,rfl,rfl,q⟩:=h;cases B; cases z;exact is_bool ⟨.bl _,H,I,rfl,q⟩
theorem RJ:BR X (.builtin "isinstance") (fun xs H Q=>∃x n t b,xs=[x,.ty n]/\TyOf X.K H x t/\PySem.W.kitOne X.K t (.type n)=some b/\Q (.bl b) H):=by
 intro pins s σ H xs us Q I r h;obtain⟨x,n,t,b,rfl,ty,e,q⟩:=h;obtain⟨u,F,rfl,B,z⟩:=r.two;cases z;exact QW I B ty e fun tk=>⟨.bl b,H,I.tok tk,rfl,q⟩
theorem J2:∀{bs:List Bool} {us:List y9},Vals (bs.map V.bl) us->us=bs.map Value.bool
 |[],_,.nil=>rfl
 |b::bs,_::_,.cons r t=>by
  cases r;rw[J2 t]; rfl
theorem Et(Z:X.calm=true):BR X (.builtin "all") (fun xs H Q=>∃(p:Addr) (bs:List Bool),xs=[.ref p]/\SqL X.K H p (bs.map V.bl)/\Q (.bl (bs.all id)) H):=by
 intro pins s σ H xs us Q I r h;obtain⟨p,bs,rfl,hq,q⟩:=h;obtain⟨u,rfl,O⟩:=r.one;cases O;obtain⟨U,M,pl,hz⟩:=I.list hq;have F:=J2 M;subst F;have hl:=pl.isList;have G:p<s.heap.objs.size:=by obtain⟨_,e,_⟩:=hl; exact ym e
 refine call_all_walk (wpAny_pyIter_list hl ?_);refine⟨s.heap.objs.size,[s.heap.objs.size,p],[s.heap.objs.size],(bs.map Value.bool).toArray.size,_,_,fun i=>(bs[i]?).getD true,rfl,Walks.list (A:=X.A.in1) (I.ok.hd Z) _ p (y0m G) (bs.map Value.bool).toArray,
  ⟨⟨_,y04 _ rfl,rfl,rfl⟩,hl.push _⟩,fun i v s' Q' E' hP J=>?_,fun h' tk hk=>?_⟩
 ·have e:(bs.map Value.bool)[i]?=some v:=by simpa using hP
  rw[y0b] at e;cases F:bs[i]? with
  |none=>rw[F] at e; cases e
  |some b=>
   rw[F] at e;have e':Value.bool b=v:=y0n e;subst e';simp only[F,Option.getD_some] at J;exact y24 J
 ·have e:((List.range (bs.map Value.bool).toArray.size).all fun i=>(bs[i]?).getD true)=bs.all id:=by
   have z:(bs.map Value.bool).toArray.size=bs.length:=by simp
   rw[z,y1x,y16,y16];constructor
   ·intro h b hb;obtain⟨i,hi,rfl⟩:=List.getElem_of_mem hb;have:=h i (List.mem_range.mpr hi);simpa [y0u hi] using this
   ·intro h i hi;have B:=List.mem_range.mp hi;simp only[y0u B,Option.getD_some];exact h _ (List.getElem_mem B)
  rw[e];exact⟨.bl _,H,I.kept (fun b o e=>hk b o (fun hm=>by rw[List.mem_singleton.mp hm] at e; exact y1o _ (ym e)) (ye _ e)),rfl,q⟩
noncomputable def Its(z:Str):It:=⟨fun i _=>i<z.cps.size,fun i H x H'=>H'=H/\∃c,z.cps[i]?=some c/\x=.str ⟨#[c]⟩,fun i _=>i=z.cps.size⟩
noncomputable def MR(tl:TE):TI:=fun σ H R=>tl σ H fun x H1=>∃z,x=.str z/\R (Its z) H1
theorem MS{P:yl}{w:y08}{K:y3}{tg:Expr}(q:Addr)(z:Str)(t:Tok)(ty:String) (G:["enumerate","zip","dict_itemiterator","dict_reverseitemiterator","odict_iterator","itertools.zip_longest","itertools.pairwise"].contains ty=false)
  (W:∀A':y05,A'.handled=none->Walks P w A' q [q] [q] z.cps.size (SignAt z) (fun i h=>h.IsStrIter q ty z t i))
  (self:∀(A:y05) (i:Nat) (s:y6) (Q:y9->y6->Prop) (E:y9->y6->Prop),s.heap.IsStrIter q ty z t i->Q (.ref q) s->y0j (y0e P w) A (pyIter (.ref q)) Q E s) :
  Turn P w K tg (Its z) [q] q (fun i h=>h.IsStrIter q ty z t i) where
 mem:=by simp
 obj:=fun i h st b hb=>by
  have e:b=q:=by simpa using hb
  subst e;obtain⟨o,e,c,d⟩:=st;exact⟨o,e,fun v z=>by rw[d] at z; cases z⟩
 keep:=fun i h h' st k=>let ⟨o,ho,r⟩:=st; ⟨o,k q (by simp) o ho,r⟩;item:=by
  intro X U hw Z hc i pins s σ H E I F st M;subst U hw Z;obtain⟨f0,f1,f2,f3,f4,f5⟩:=F q (by simp);refine(W X.A (I.ok.hd hc)).item i s _ _ M st fun v h' tk hv B kk=>?_;obtain⟨c,u,O,rfl⟩:=hv;have I1:Inv X pins σ H {s with heap:=h',toks:=tk}:=I.turned (fun b o hb e=>kk b o (by simpa using hb) e) f0 f1 f3 f4 f5;obtain⟨o,e,cc,d⟩:=id B;exact⟨_,rfl,Ei (s:={s with heap:=h',toks:=tk}) e cc d G ⟨.str ⟨#[c]⟩,H,I1,⟨u,rfl⟩,⟨rfl,c,O,rfl⟩,B,fun b hb=>(F b hb).1⟩⟩
 done:=by
  intro X U hw Z hc i pins s σ H E I F st M;subst U hw Z;obtain⟨f0,f1,f2,f3,f4,f5⟩:=F q (by simp);have J:i=z.cps.size:=M;subst J;exact(W X.A (I.ok.hd hc)).done s _ _ st fun h' tk kk=>⟨rfl,I.turned (fun b o hb e=>kk b o (by simpa using hb) e) f0 f1 f3 f4 f5⟩
 self:=self
theorem MT{tg l:Expr}{tl:TE}(hl:PE X l tl):PI X tg l (MR tl):=by
 refine⟨?_⟩;intro pins s σ H R I h;refine thn (hl pins s σ H _ I h) fun v B ⟨x,H1,F,M,O⟩=>?_;obtain⟨z,e,q⟩:=O;subst e;obtain⟨t,rfl⟩:=M;have J:∀b∈[B.heap.objs.size],FpOk X pins H1 b:=fun b hb=>by
  have e:b=B.heap.objs.size:=by simpa using hb
  subst e;exact F.fpOk (yf _) (F.hok.fresh (yf _))
 cases ha:z.cps.all (· < 128)
 ·exact wpAny_pyIter_wide ha ⟨_,_,_,_,H1,rfl,F.kept (t':=B.toks) (fun b o e=>ye _ e),MS B.heap.objs.size z t "str_iterator" (by decide) (fun U G=>Walks.strWide G _ z t) (fun _ _ _ _ _ st h=>wpAny_pyIter_striter_wide st h),⟨_,y04 _ rfl,rfl,rfl⟩,J,q⟩
 ·exact wpAny_pyIter_ascii ha ⟨_,_,_,_,H1,rfl,F.kept (t':=B.toks) (fun b o e=>ye _ e),MS B.heap.objs.size z t "str_ascii_iterator" (by decide) (fun U G=>Walks.strAscii G _ z t) (fun _ _ _ _ _ st h=>wpAny_pyIter_striter_ascii st h),⟨_,y04 _ rfl,rfl,rfl⟩,J,q⟩
open PySem.AutoSeq1 (wpAny_loadPart') in
noncomputable def J3(K:y3):R2:=fun x y H Q=>∃l k xs,x=.ref l/\y=.int k/\SqT K H l xs/\2<=k/\k<2^62/\xs≠[]/\xs.length*k.toNat<=yr/\
 ∀p,H p=none->Q (.ref p) (upd H p (.tup (List.replicate k.toNat xs).flatten))
noncomputable def Seq(K:y3)(H:Hp)(a:Addr):Prop:=(∃xs,SqL K H a xs)\/∃xs,SqT K H a xs
theorem RK(hu:X.A.units+64<cLine):OpR X (y0c .Eq) (fun x y H Q=>∃a z,x=.ref a/\y=.str z/\Seq X.K H a/\Q (.bl false) H):=by
 intro pins s σ H x y v u Q I G F h;obtain⟨a,z,rfl,rfl,hq,q⟩:=h;cases G;obtain⟨t,rfl⟩:=F;show y0j _ _ (richCompare .Eq _ _) _ _ _;rcases hq with⟨xs,hq⟩|⟨xs,hq⟩
 ·obtain⟨B,r,pl,hz⟩:=I.list hq;exact SeqAt.RcAt.list_str z t pl.isList (by lia) _ _ _ _ ⟨.bl false,H,I,rfl,q⟩
 ·obtain⟨B,r,pl,hz⟩:=I.tuple hq;exact SeqAt.RcAt.tuple_str z t (show s.heap.IsTuple a B.toArray from pl) (by lia) _ _ _ _ ⟨.bl false,H,I,rfl,q⟩
noncomputable def isN:V->Bool
 |.non=>true
 |_=>false
noncomputable def Eu:y9->Bool
 |.none=>true
 |_=>false
theorem RL(hu:X.A.units+64<cLine):OpR X (y0c .In) (fun x y H Q=>∃p xs,x=.non/\y=.ref p/\SqL X.K H p xs/\(∀v∈xs,v=.non\/∃a ys,v=.ref a/\SqT X.K H a ys)/\Q (.bl (xs.any isN)) H):=by
 intro pins s σ H x y v u Q I Z U h;obtain⟨p,xs,rfl,rfl,hq,G,q⟩:=h;cases Z; cases U;obtain⟨z,r,pl,hz⟩:=I.list hq;have F:∀(xs:List V) (us:List y9),Vals xs us->(∀v∈xs,v=.non\/∃a ys,v=.ref a/\SqT X.K H a ys)->(∀u∈us,SeqAt.EqAt X.A.in1 s u .none (Eu u))/\us.any Eu=xs.any isN:=by
  intro xs us rv;induction rv with
  |nil=>intro _; exact⟨fun u hu=>(by cases hu),rfl⟩
  |cons J _ ih=>
   intro ha;obtain⟨O,M⟩:=ih fun v hv=>ha v (yb _ hv);rcases ha _ y02 with e|⟨a,ys,e,hs⟩
   ·subst e;cases J;refine⟨fun u B=>?_,by rw[y0k,y0k,M]; rfl⟩;rcases List.mem_cons.mp B with rfl|h'
    ·exact SeqAt.EqAt.same _
    ·exact O u h'
   ·subst e;cases J;refine⟨fun u B=>?_,by rw[y0k,y0k,M]; rfl⟩;rcases List.mem_cons.mp B with rfl|h'
    ·obtain⟨z,_,ht,_⟩:=I.tuple hs;exact SeqAt.EqAt.tuple_none (show s.heap.IsTuple a z.toArray from ht) (by show X.A.units+1<_; lia)
    ·exact O u h'
 obtain⟨h1,h2⟩:=F xs z r G;refine SeqAt.in_listAt Eu pl.isList (fun w hw=>h1 w (by simpa using hw)) ⟨.bl _,H,I,rfl,?_⟩;rw[show z.toArray.any Eu=z.any Eu by simp,h2];exact q
noncomputable def JA:R2:=fun x y H Q=>∃i j,x=.str i/\y=.str j/\Q (.bl (!decide (j.cps.toList<i.cps.toList))) H
noncomputable def Ev:R2:=fun x y H Q=>∃i j,x=.str i/\y=.str j/\Q (.bl (decide (i.cps.toList<j.cps.toList))) H
noncomputable def JB(K:y3)(x y:V)(H:Hp)(b:Bool):Prop:=(GA x y=true/\b=decide (x=y))\/
 (∃a c xs ys,x=.ref a/\y=.ref c/\SqL K H a xs/\SqL K H c ys/\xs.all okV=true/\ys.all okV=true/\b=eqL xs ys)\/(∃a z,x=.ref a/\y=.str z/\Seq K H a/\b=false)
noncomputable def qEq(K:y3):R2:=fun x y H Q=>∃b,JB K x y H b/\Q (.bl b) H
noncomputable def qNe(K:y3):R2:=fun x y H Q=>∃b,((GA x y=true/\b=decide (x=y))\/(∃a c xs ys,x=.ref a/\y=.ref c/\SqL K H a xs/\SqL K H c ys/\xs.all okV=true/\ys.all okV=true/\b=eqL xs ys))/\Q (.bl (!b)) H
noncomputable def RM(K:y3)(x y:V)(H:Hp)(b:Bool):Prop:=(∃p xs,y=.ref p/\(SqL K H p xs\/SqT K H p xs)/\Az x=true/\xs.all Az=true/\b=inV x xs)\/
 (∃i j,x=.str i/\y=.str j/\b = !(Builtin.Str.occurrences j i 0 j.length 1).isEmpty)\/
 (∃p xs,x=.non/\y=.ref p/\SqL K H p xs/\(∀v∈xs,v=.non\/∃a ys,v=.ref a/\SqT K H a ys)/\b=xs.any isN)
noncomputable def qIn(K:y3):R2:=fun x y H Q=>∃b,RM K x y H b/\Q (.bl b) H
noncomputable def MU(K:y3)(x y:V)(H:Hp)(b:Bool):Prop:=(∃p xs,y=.ref p/\(SqL K H p xs\/SqT K H p xs)/\Az x=true/\xs.all Az=true/\b = !inV x xs)\/
 (∃i j,x=.str i/\y=.str j/\b = !(!(Builtin.Str.occurrences j i 0 j.length 1).isEmpty))\/
 (∃a p xs,x=.ref a/\y=.ref p/\Seq K H a/\SqT K H p xs/\(∀v∈xs,∃z,v=.str z)/\b=true)
noncomputable def Ew(K:y3):R2:=fun x y H Q=>∃b,MU K x y H b/\Q (.bl b) H
noncomputable def Ci(K:y3)(x:V)(H:Hp)(n:Nat):Prop:=(∃p ys,x=.ref p/\(SqL K H p ys\/SqT K H p ys)/\n=ys.length)\/∃z,x=.str z/\z.length<=yr/\n=z.length
noncomputable def GQ(K:y3):List V->Hp->VK->Prop:=fun xs H Q=>∃x n,xs=[x]/\Ci K x H n/\Q (.int n) H
noncomputable def GR:R2:=fun x y H Q=>y=.non/\Q (.bl (decide (x=.non))) H
noncomputable def GS:R2:=fun x y H Q=>y=.non/\Q (.bl (!decide (x=.non))) H
noncomputable def GT:R2:=fun x y H Q=>∃a b,x=.bl a/\y=.bl b/\Q (.bl (a==b)) H
noncomputable def JC:R2:=fun x y H Q=>∃a b,x=.bl a/\y=.bl b/\Q (.bl (a !=b)) H
theorem RN(hu:X.A.units+64<cLine):OpR X (y0c .NotIn) (fun x y H Q=>∃a p xs,x=.ref a/\y=.ref p/\Seq X.K H a/\SqT X.K H p xs/\(∀v∈xs,∃z,v=.str z)/\Q (.bl true) H):=by
 intro pins s σ H x y v u Q I O M h;obtain⟨a,p,xs,rfl,rfl,hq,hp,G,q⟩:=h;cases O; cases M;obtain⟨B,r,pl,hz⟩:=I.tuple hp;have F:∀(xs:List V) (us:List y9),Vals xs us->(∀v∈xs,∃z,v=.str z)->∀u∈us,SeqAt.EqAt X.A.in1 s u (.ref a) ((fun _=>false) u):=by
  intro xs us U;induction U with
  |nil=>intro _ u hu; cases hu
  |cons Z _ ih=>
   intro ha u J;rcases List.mem_cons.mp J with rfl|h'
   ·obtain⟨z,e⟩:=ha _ y02;subst e;obtain⟨t,rfl⟩:=Z;rcases hq with⟨ys,hq⟩|⟨ys,hq⟩
    ·obtain⟨B,_,pl,_⟩:=I.list hq;exact SeqAt.EqAt.str_list z t pl.isList (by show X.A.units+1<_; lia)
    ·obtain⟨B,_,pl,_⟩:=I.tuple hq;exact SeqAt.EqAt.str_tuple z t (show s.heap.IsTuple a B.toArray from pl) (by show X.A.units+1<_; lia)
   ·exact ih (fun v hv=>ha v (yb _ hv)) u h'
 refine SeqAt.notIn_tupleAt (fun _=>false) pl (fun w hw=>F xs B r G w (by simpa using hw)) ⟨.bl _,H,I,rfl,?_⟩;have e:(!B.toArray.any fun _=>false)=true:=by simp
 rw[e];exact q
theorem gEq(hu:X.A.units+64<cLine):OpR X (y0c .Eq) (qEq X.K):=by
 intro pins s σ H x y v u Q I F B h;obtain⟨b,h,q⟩:=h;rcases h with⟨h,rfl⟩|⟨a,c,xs,ys,h1,h2,G,O,M,J,rfl⟩|⟨a,z,h1,h2,G,rfl⟩
 ·exact Lv pins s σ H x y v u Q I F B ⟨h,q⟩
 ·exact RG hu pins s σ H x y v u Q I F B ⟨a,c,xs,ys,h1,h2,G,O,M,J,q⟩
 ·exact RK hu pins s σ H x y v u Q I F B ⟨a,z,h1,h2,G,q⟩
theorem gNe(hu:X.A.units+64<cLine):OpR X (y0c .NotEq) (qNe X.K):=by
 intro pins s σ H x y v u Q I B z h;obtain⟨b,h,q⟩:=h;rcases h with⟨h,rfl⟩|⟨a,c,xs,ys,h1,h2,M,J,G,F,rfl⟩
 ·exact Lw pins s σ H x y v u Q I B z ⟨h,q⟩
 ·exact RH hu pins s σ H x y v u Q I B z ⟨a,c,xs,ys,h1,h2,M,J,G,F,q⟩
theorem gIn(hu:X.A.units+64<cLine):OpR X (y0c .In) (qIn X.K):=by
 intro pins s σ H x y v u Q I B z h;obtain⟨b,h,q⟩:=h;rcases h with⟨p,xs,h1,h2,G,F,rfl⟩|⟨i,j,h1,h2,rfl⟩|⟨p,xs,h1,h2,G,F,rfl⟩
 ·exact Qu pins s σ H x y v u Q I B z ⟨p,xs,h1,h2,G,F,q⟩
 ·exact QO pins s σ H x y v u Q I B z ⟨i,j,h1,h2,q⟩
 ·exact RL hu pins s σ H x y v u Q I B z ⟨p,xs,h1,h2,G,F,q⟩
theorem JD(hu:X.A.units+64<cLine):OpR X (y0c .NotIn) (Ew X.K):=by
 intro pins s σ H x y v u Q I B z h;obtain⟨b,h,q⟩:=h;rcases h with⟨p,xs,h1,h2,G,F,rfl⟩|⟨i,j,h1,h2,rfl⟩|⟨a,p,xs,h1,h2,G,F,J,rfl⟩
 ·exact Qv pins s σ H x y v u Q I B z ⟨p,xs,h1,h2,G,F,q⟩
 ·exact Qw pins s σ H x y v u Q I B z ⟨i,j,h1,h2,q⟩
 ·exact RN hu pins s σ H x y v u Q I B z ⟨a,p,xs,h1,h2,G,F,J,q⟩
theorem B0:BR X (.builtin "len") (GQ X.K):=by
 intro pins s σ H xs us Q I r h;obtain⟨x,n,rfl,h,q⟩:=h;rcases h with⟨p,ys,rfl,h,rfl⟩|⟨z,rfl,hz,rfl⟩
 ·exact Qx pins s σ H _ us Q I r ⟨p,ys,rfl,h,q⟩
 ·exact Qy pins s σ H _ us Q I r ⟨z,rfl,hz,q⟩
theorem DB:OpR X (y0c .Eq) (rI0 fun i j=>.bl (decide (i=j))):=by
 intro pins s σ H x y v u Q I B z h;obtain⟨i,rfl,F⟩:=isI.o h;obtain⟨j,rfl,q⟩:=isI.o F;refine Lv pins s σ H _ _ v u Q I B z ⟨rfl,?_⟩;have e:decide (V.int i=V.int j)=decide (i=j):=by simp
 rw[e]; exact q
theorem MV:OpR X (y0c .NotEq) (rI0 fun i j=>.bl (!decide (i=j))):=by
 intro pins s σ H x y v u Q I B z h;obtain⟨i,rfl,F⟩:=isI.o h;obtain⟨j,rfl,q⟩:=isI.o F;refine Lw pins s σ H _ _ v u Q I B z ⟨rfl,?_⟩;have e:decide (V.int i=V.int j)=decide (i=j):=by simp
 rw[e]; exact q
theorem MW:OpR X (y0c .Is) GR:=QP
theorem RO:OpR X (y0c .IsNot) GS:=QQ
theorem RP:OpR X (y0c .Is) GT:=RI
theorem RQ:OpR X (y0c .Lt) Ev:=QN
noncomputable def GU(K:y3):List V->Hp->VK->Prop:=fun xs H Q=>∃x n b,xs=[x,.ty n]/\(∃t,TyOf K H x t/\PySem.W.kitOne K t (.type n)=some b)/\Q (.bl b) H
theorem EB:BR X (.builtin "isinstance") (GU X.K):=by
 intro pins s σ H xs us Q I r h;obtain⟨x,n,b,rfl,⟨t,h1,h2⟩,q⟩:=h;exact RJ pins s σ H _ us Q I r ⟨x,n,t,b,rfl,h1,h2,q⟩
noncomputable def EC:Expr->Bool
 |.Starred ..=>true
 |_=>false
noncomputable def Aw:List Expr->Bool
 |[]=>true
 |e::r=>!EC e&&Aw r
theorem CA(h:EC e=false):starEach (e::es) env=(false,eval e env)::starEach es env:=by
 cases e<;>first|rfl|exact absurd (show true=false from h) (by decide)
theorem Cj:∀{es:List Expr},Aw es=true->(backTo pos (starEach es env)).any (·.1)=false
 |[],_=>rfl
 |e::r,h=>by
  rw[Aw,y8,y0p] at h;rw[CA h.1];have q:=Cj (pos:=pos) (env:=env) h.2;show(false || (backTo pos (starEach r env)).any (·.1))=false;rw[q]; rfl
end
theorem A0(ha:PE X e te)(q:PA X es t)(h:EC e=false:=by rfl):PA X (e::es) (El te t):=QX ha q (CA h)
structure Callee(P:yl)(w:y08)(K:y3)(mg:Str->Option y9)(base:Heap)(x:Str)(ps:List Str)(k:Nat)(sp:Sp):Prop where
 ex:∃f fd,FnOk P w K mg base CX0 k f fd ps sp/\mg x=some (.ref f)/\PySem.W.keepIn K (.ref f)=true/\Binds K fd ps []
theorem AB(C:Callee X.prog X.w X.K X.mg X.base x ps k sp)(Z:Room j X.A)(hk:k<=j)(ha:PA X (e::es) t)(hg:Gl X x:=by rfl)
  (O:(x==("__debug__" : Str))=false:=by decide) (G:Aw (e::es)=true:=by rfl) :
  PE X (.Call (.Name x p) (e::es) [] pos) (Em sp [] E0 t):=by
 have B:=G;rw[Aw,y8,y0p] at B;have he:=CA (es:=es) (env:=X.env) B.1;have J:=Cj (pos:=pos) (env:=X.env) B.2;obtain⟨f,fd,F,hm,M,hb⟩:=C;refine⟨?_⟩;intro pins s σ H Q I h;refine y1n (Dz I hg hm ?_ O);refine y2a (h₀:=X.base) I.ok.mod.kin M (thn (ha pos pins s σ H _ I h) fun us s1 ⟨vs,H1,U,r,q⟩=>⟨U.kIn,?_⟩) he J;exact Ih F (Z.mono hk) hb .nil (fun _ _ _ _ _ _ _ z=>z.elim) U r q
theorem AV{X:Cx}{x:Str}{p pos:Pos}{e:Expr}{es:List Expr}{t:TA}{id:String}{r:List V->Hp->VK->Prop}(hc:BR X (.builtin id) r)(J:Gl X x)(hm:X.mg x=none)(F:bootBuiltins x=some (.builtin id))(ha:PA X (e::es) t) (G:x≠"__name__") (B:(x==("__debug__" : Str))=false)
  (z:Aw (e::es)=true:=by rfl):PE X (.Call (.Name x p) (e::es) [] pos) (tCB r t):=by
 have q:=z;rw[Aw,y8,y0p] at q;exact Qb hc J hm F ha G B (CA q.1) (Cj q.2)
theorem BL{r:List V->Hp->VK->Prop}(hc:BR X (.type T) r)(J:Gl X x)(hm:X.mg x=none)(F:bootBuiltins x=some (.type T))(ha:PA X (e::es) t) (G:x≠"__name__") (B:(x==("__debug__" : Str))=false)
  (z:Aw (e::es)=true:=by rfl):PE X (.Call (.Name x p) (e::es) [] pos) (tCB r t):=by
 have q:=z;rw[Aw,y8,y0p] at q;exact Qc hc J hm F ha G B (CA q.1) (Cj q.2)
structure GC(mg:Str->Option y9)(x:Str)(v:V):Prop where
 ex:∃u,mg x=some u/\RelV v u
theorem Ax(h:GC X.mg x v)(q:Gl X x:=by rfl) (hd:(x==("__debug__" : Str))=false:=by decide):PE X (.Name x pos) (tC v):=by
 obtain⟨u,hm,r⟩:=h;exact E2 q hm r hd
noncomputable def MX(N:List Str)(on:List (Str×NameKind))(sc:Scope)(z:List Str)(q:List (Option Nat)):Bool:=
 sc.kind==.function&&sc.names.all (fun y=>y.2 !=.cell)&&sc.names.all (fun y=>y.2 !=.local || sc.names.lookup y.1==some .local)&&sc.names.all (fun y=>y.2 !=.free || on.lookup y.1==some .cell)&&compOk N on sc.names z q
theorem CompS.of(h:MX X.N X.env.scope.names sc N' mp=true):CompS X N' sc mp:=by
 unfold MX at h;simp only[y8,beq_iff_eq] at h;obtain⟨⟨⟨⟨h1,h2⟩,F⟩,B⟩,q⟩:=h;refine⟨h1,fun y hy=>?_,fun y hy e=>?_,fun y hy e=>?_,q⟩
 ·have:=List.all_eq_true.mp h2 y hy;simpa using this
 ·have:=List.all_eq_true.mp F y hy;simp only[e,Bool.or_eq_true,beq_iff_eq] at this;rcases this with z|z
  ·exact absurd z (by decide)
  ·exact z
 ·have:=List.all_eq_true.mp B y hy;simp only[e,Bool.or_eq_true,beq_iff_eq] at this;rcases this with z|z
  ·exact absurd z (by decide)
  ·exact z
theorem opK{X:Cx}{K:y3}{f:y9->y9->Sem y9}{r:y3->R2}(h:OpR X f (r X.K))(q:X.K=K):OpR X f (r K):=q ▸ h
theorem ixK{X:Cx}{K:y3}{r:y3->R2}(h:IxR X (r X.K))(q:X.K=K):IxR X (r K):=q ▸ h
theorem JE{X:Cx}{K:y3}{es:List Expr}{k:Nat}{t:TGs}{n:Nat}{pos:Pos}(B:X.K=K)(hc:X.calm=true)(h:PGs X es t)(z:(assignEach es X.env).length=n:=by rfl)(q:(assignEach es X.env).findIdx? (·.1)=none:=by rfl):PG X (.Tuple es k pos) (E4 K n t):=B ▸ IW hc h z q
noncomputable def RS:Expr->Bool
 |.ListComp ..=>true
 |.SetComp ..=>true
 |.DictComp ..=>true
 |_=>false
theorem AF(h:RS e=false):swapsWith e t l env=pure false:=by
 cases e<;>first|rfl|exact absurd (show true=false from h) (by decide)
theorem MY(h:env.scope.names.lookup x=some .cell):swapsWith (.ListComp elt gs sc cp) (some (.Name x p)) l env=pure false:=by
 unfold swapsWith;have e:(env.kindOf x==some NameKind.local)=false:=by
  unfold Env.kindOf;rw[h]; rfl
 simp only[e,y1s,yx]
inductive Dm where
 |non|bl (b:Bool)|int (i:Int)|str (x:Str)|tup (ds:List Dm)|lst
mutual
inductive Dt (H:Hp):V->Dm->Prop where
 |non:Dt H .non .non
 |bl (b:Bool):Dt H (.bl b) (.bl b)
 |int (i:Int):Dt H (.int i) (.int i)
 |str (x:Str):Dt H (.str x) (.str x)
 |tup {a:Addr} {xs:List V} {ds:List Dm}:H a=some (.tup xs)->DtA H xs ds->Dt H (.ref a) (.tup ds)
 |lst {a:Addr} {xs:List V}:H a=some (.lst xs)->Dt H (.ref a) .lst
inductive DtA (H:Hp):List V->List Dm->Prop where
 |nil:DtA H [] []
 |cons {x:V} {xs:List V} {d:Dm} {ds:List Dm}:Dt H x d->DtA H xs ds->DtA H (x::xs) (d::ds)
end
structure Kp(H H':Hp):Prop where
 t:∀b xs,H b=some (.tup xs)->H' b=some (.tup xs)
 l:∀b xs,H b=some (.lst xs)->∃ys,H' b=some (.lst ys)
theorem Kp.trans(a:Kp H H1)(b:Kp H1 H2):Kp H H2:=⟨fun c xs h=>b.t c xs (a.t c xs h),fun c xs h=>let ⟨ys,e⟩:=a.l c xs h; b.l c ys e⟩
theorem Same.kp(s:Same H H'):Kp H H':=⟨fun b xs h=>s b _ h,fun b xs h=>⟨xs,s b _ h⟩⟩
theorem A6(h:H p=none)(o:HO):Same H (upd H p o):=fun b u q=>by rw[AQ (CL q h)]; exact q
theorem Kp.set(h:H p=some (.lst xs)):Kp H (upd H p (.lst ys)):=
 ⟨fun b zs e=>by rw[AQ (Q3 e h (by intro z; cases z))]; exact e,fun b zs e=>by
  by_cases hb:b=p
  ·subst hb; exact⟨ys,A4⟩
  ·exact⟨zs,by rw[AQ hb]; exact e⟩⟩
mutual
theorem Dt.kp(k:Kp H H'):∀{v:V} {d:Dm},Dt H v d->Dt H' v d
 |_,_,.non=>.non
 |_,_,.bl b=>.bl b
 |_,_,.int i=>.int i
 |_,_,.str x=>.str x
 |_,_,.tup e r=>.tup (k.t _ _ e) (DtA.kp k r)
 |_,_,.lst e=>let ⟨_,e'⟩:=k.l _ _ e; .lst e'
theorem DtA.kp(k:Kp H H'):∀{xs:List V} {ds:List Dm},DtA H xs ds->DtA H' xs ds
 |_,_,.nil=>.nil
 |_,_,.cons r t=>.cons (Dt.kp k r) (DtA.kp k t)
end
theorem DtA.length:∀{xs:List V} {ds:List Dm},DtA H xs ds->xs.length=ds.length
 |_,_,.nil=>rfl
 |_,_,.cons _ t=>by rw[ya,ya,DtA.length t]
theorem DtA.append:∀{xs ys:List V} {ds es:List Dm},DtA H xs ds->DtA H ys es->DtA H (xs++ys) (ds++es)
 |_,_,_,_,.nil,h=>h
 |_,_,_,_,.cons r t,h=>.cons r (DtA.append t h)
theorem DtA.get:∀{xs:List V} {ds:List Dm} {i:Nat} {x:V},DtA H xs ds->xs[i]?=some x->∃d,ds[i]?=some d/\Dt H x d
 |_,_,_,_,.nil,e=>by simp at e
 |_,_,0,_,.cons r _,e=>by simp at e; subst e; exact⟨_,rfl,r⟩
 |_,_,i+1,x,.cons _ t,e=>by
  obtain⟨d,h1,h2⟩:=DtA.get (i:=i) (x:=x) t (by simpa using e);exact⟨d,by simpa using h1,h2⟩
theorem Dt.tupI(h:Dt H v (.tup ds)):∃a xs,v=.ref a/\H a=some (.tup xs)/\DtA H xs ds:=by
 cases h with
 |tup e r=>exact⟨_,_,rfl,e,r⟩
section
variable{X:Cx}
noncomputable def JF(K:y3):List V->Hp->VK->Prop:=fun xs H Q=>∃(a:Addr) (ns:List Int),xs=[.ref a]/\SqL K H a (ns.map V.int)/\0<ns.length/\∀M,M∈ns->(∀a∈ns,M<=a)->Q (.int M) H
noncomputable def JG(K:y3):List V->Hp->VK->Prop:=fun xs H Q=>∃(a:Addr) (ns:List Int),xs=[.ref a]/\SqL K H a (ns.map V.int)/\0<ns.length/\∀M,M∈ns->(∀a∈ns,a<=M)->Q (.int M) H
noncomputable def JH(K:y3):List V->Hp->VK->Prop:=fun xs H Q=>∃(a:Addr) (ns:List Int),xs=[.ref a]/\SqL K H a (ns.map V.int)/\ns.length<64/\∀(l:Addr) (q:List Int),H l=none->q.Perm ns->q.Pairwise (· <= ·)->Q (.ref l) (upd H l (.lst (q.map V.int)))
noncomputable def JI(t ta tb:TT):TT:=fun σ H Q=>t σ H fun c H1=>if c=true then ta σ H1 Q else tb σ H1 Q
mutual
noncomputable def Dm.dat:Dm->PyData
 |.non=>.none
 |.bl b=>.bool b
 |.int i=>.int i
 |.str x=>.str x
 |.tup ds=>.tuple (BU ds)
 |.lst=>.none
noncomputable def BU:List Dm->List PyData
 |[]=>[]
 |d::ds=>d.dat::BU ds
end
mutual
noncomputable def Dm.shut:Dm->Bool
 |.tup ds=>Ck ds
 |.lst=>false
 |.str x=>PyData.strOk x
 |_=>true
noncomputable def Ck:List Dm->Bool
 |[]=>true
 |d::ds=>d.shut&&Ck ds
end
mutual
theorem Dt.reads(I:Inv X pins σ H s):∀{x:V} {d:Dm} {u:y9},Dt H x d->d.shut=true->RelV x u->∃B,Reads s.heap u d.dat B
 |_,_,_,.non,_,r=>by cases r; exact⟨_,.none⟩
 |_,_,_,.bl b,_,r=>by cases r; exact⟨_,.bool b⟩
 |_,_,_,.int i,_,r=>by obtain⟨t,rfl⟩:=r; exact⟨_,.int i t⟩
 |_,_,_,.str x,_,r=>by obtain⟨t,rfl⟩:=r; exact⟨_,.str x t⟩
 |_,_,_,.tup e G,z,r=>by
  cases r;obtain⟨J,F,⟨o,M,hc,n,hd⟩,_⟩:=I.tuple (SqT.of e);obtain⟨B,q⟩:=DtA.reads I G (by simpa [Dm.shut] using z) F;exact⟨B,by rw[Dm.dat]; exact .tuple M hc hd (by simpa using q)⟩
 |_,_,_,.lst _,z,_=>absurd z (by simp[Dm.shut])
theorem DtA.reads(I:Inv X pins σ H s):∀{xs:List V} {ds:List Dm} {us:List y9},DtA H xs ds->Ck ds=true->Vals xs us->∃z,ReadsAll s.heap us (BU ds) z
 |_,_,_,.nil,_,.nil=>⟨[],by rw[BU]; exact .nil⟩
 |_,_,_,.cons r t,q,.cons B rt=>by
  rw[Ck,y8] at q;obtain⟨z,G⟩:=Dt.reads I r q.1 B;obtain⟨bs,F⟩:=DtA.reads I t q.2 rt;exact⟨z++bs,by rw[BU]; exact .cons G F⟩
end
noncomputable def EqD(H:Hp)(x y:V)(b:Bool):Prop:=∃d e,Dt H x d/\Dt H y e/\(d.shut=true/\SeqAt.shaped d.dat=true)/\(e.shut=true/\SeqAt.shaped e.dat=true)/\b=PyData.eqv d.dat e.dat
noncomputable def JJ(_:y3):R2:=fun x y H Q=>∃b,EqD H x y b/\Q (.bl b) H
noncomputable def GV(_:y3):R2:=fun x y H Q=>∃b,EqD H x y b/\Q (.bl (!b)) H
theorem dNe(hu:X.A.units+64<cLine):OpR X (y0c .NotEq) (GV X.K):=by
 intro pins s σ H x y v u Q I M J h;obtain⟨b,⟨d,e,dx,Z,⟨G,F⟩,⟨B,z⟩,rfl⟩,q⟩:=h;obtain⟨as,U⟩:=Dt.reads I dx G M;obtain⟨bs,O⟩:=Dt.reads I Z B J;exact ne_dataH U O F z hu ⟨.bl _,H,I,rfl,q⟩
end
section
variable{κ:Type} [DecidableEq κ]
noncomputable def MZ(kvs:List (κ×V))(k:κ):Option V:=(kvs.find? fun q=>decide (q.1=k)).map (·.2)
noncomputable def JK(kvs:List (κ×V))(k:κ)(v:V):List (κ×V):=
 if(kvs.any fun q=>decide (q.1=k))=true then kvs.map (fun q=>if q.1=k then(q.1,v) else q) else kvs++[(k,v)]
end
section
variable{P:yl}{w:y08}{H:Hp}{h:Heap}{a:Addr}
end
noncomputable def Ma(H:Hp)(a:Addr)(y:V)(r:Option V):Prop:=
 (∃kvs k,Rd H a (.dK kvs)/\y=kV k/\r=MZ kvs k)\/∃kvs k b,Rd H a (.dT kvs)/\y=.ref b/\H b=some (.tup (k.map kV))/\r=MZ kvs k
noncomputable def RT(H:Hp)(a:Addr)(y v:V)(H':Hp):Prop:=
 (∃kvs k,H a=some (.dK kvs)/\y=kV k/\kvs.length<yr/\H'=upd H a (.dK (JK kvs k v)))\/
 ∃kvs k b,H a=some (.dT kvs)/\y=.ref b/\H b=some (.tup (k.map kV))/\kvs.length<yr/\H'=upd H a (.dT (JK kvs k v))
section
variable{X:Cx}{pins:List (Addr×Obj)}{σ:St}{H:Hp}{s:y6}{a:Addr}{y v:V}{u r:y9}{o:Option V}{A:y05}{E:y9->y6->Prop}
end
section
variable{X:Cx}{pins:List (Addr×Obj)}{σ:St}{H:Hp}{s:y6}{a:Addr}{kvs:List (Key×V)}{k:Key}{u:y9}{A:y05}{E:y9->y6->Prop}
end
noncomputable def JL(td ty:TE):TE:=fun σ H Q=>td σ H fun x H1=>ty σ H1 fun y H2=>∃a v,x=.ref a/\Ma H2 a y (some v)/\Q v H2
noncomputable def JM(td ty tv:TE):TS:=fun D σ H=>tv σ H fun v H1=>td σ H1 fun x H2=>ty σ H2 fun y z=>∃a q,x=.ref a/\RT z a y v q/\D.nx σ q
section
variable{X:Cx}{o i e value:Expr}{pos pos' tpos:Pos}{td ty tv:TE}
noncomputable def JN:TE:=fun _ H Q=>∀p,H p=none->Q (.ref p) (upd H p (.dK []))
end
section
variable{X:Cx}{pos:Pos}
noncomputable def Ex:List (TE×TE)->St->Hp->(List (V×V)->Hp->Prop)->Prop
 |[],_,H,Q=>Q [] H
 |(tk,tv)::r,σ,H,Q=>tk σ H fun x H1=>tv σ H1 fun y H2=>Ex r σ H2 fun ps q=>Q ((x,y)::ps) q
noncomputable def RU(kvs q:List (Key×V)):List (Key×V):=q.foldl (fun z B=>JK z B.1 B.2) kvs
noncomputable def JO(q:List (TE×TE)):TE:=fun σ H Q=>∀p,H p=none->Ex q σ (upd H p (.dK [])) fun ps H2=>H2 p=some (.dK [])/\∃kvs:List (Key×V),ps=kvs.map (fun z=>(kV z.1,z.2))/\kvs.length<=15/\Q (.ref p) (upd H2 p (.dK (RU [] kvs)))
noncomputable def IsD(H:Hp)(a:Addr):Prop:=(∃kvs,Rd H a (.dK kvs))\/∃kvs,Rd H a (.dT kvs)
end
section
variable{X:Cx}{pins:List (Addr×Obj)}{σ:St}{H:Hp}{s:y6}{a:Addr}{y d:V}{u r:y9}{o:Option V}{A:y05}{E:y9->y6->Prop}
end
noncomputable def JP(td ty:TE):TE:=fun σ H Q=>td σ H fun x H1=>∃a,x=.ref a/\IsD H1 a/\ty σ H1 fun y H2=>∃o,Ma H2 a y o/\Q (o.getD .non) H2
section
variable{X:Cx}{o e f:Expr}{apos cpos:Pos}{td ty tx:TE}
end
section
variable{X:Cx}{pins:List (Addr×Obj)}{σ:St}{H:Hp}{s:y6}{a:Addr}{kvs:List (Key×V)}{A:y05}{E:y9->y6->Prop}
end
section
variable{X:Cx}{pins:List (Addr×Obj)}{σ:St}{H:Hp}{s:y6}{a:Addr}{y:V}{u:y9}{A:y05}{E:y9->y6->Prop}
end
section
variable{X:Cx}
end
section
variable{κ:Type} [DecidableEq κ]
end
section
variable{X:Cx}
noncomputable def RV(K:y3)(a:Addr)(f:Int->Option y9):Prop:=∃o es ep,K.lookup a=some o/\o.ExactDict/\o.data=.dict es ep/\(∀e∈es,∃k,Value.isInt k e.key=true/\e.hash=hashInt k)/\∀k,findBy Value.isInt es k=f k
noncomputable def JQ(K:y3)(td ty:TE):TE:=fun σ H Q=>td σ H fun x H1=>ty σ H1 fun y H2=>∃a k u v f,x=.ref a/\y=.int k/\RV K a f/\f k=some u/\RelV v u/\Q v H2
end
section
variable{X:Cx}{pins:List (Addr×Obj)}{σ:List (Option V)}{H:Hp}{s:y6}{h':Heap}
theorem Inv.turnedL{t':Nat}{ch:List Addr}(I:Inv X pins σ H s)(k:∀b o,b∉ch->s.heap.get? b=some o->h'.get? b=some o)(F:∀b∈ch,FpOk X pins H b):Inv X pins σ H {s with heap:=h',toks:=t'}:=by
 have B:∀b u,H b=some u->b∉ch:=fun b u e z=>by rw[(F b z).1] at e; cases e
 refine I.step (g':=s.gens) (d':=s.drawn) (ch:=ch) (fun b hb=>?_) (fun b o _ _ hc e _=>k b o hc e) (fun b o _ _ hc e _=>⟨o.slots,k b o hc e⟩) (fun _ _ _ _ n=>n)
  (fun b o hc e=>⟨o,k b o hc e⟩) (fun _ _ e=>e) (fun _ _ _ e=>e) (fun b ps e=>⟨#[],by rw[e]; simp⟩) (fun m hm=>?_) (fun b u e=>?_) I.bare
 ·obtain⟨_,U,_,O,M,J⟩:=F b hb;exact⟨O,U,M,J⟩
 ·obtain⟨o,es,ep,G,r⟩:=hm;exact⟨o,es,ep,k _ o (fun z=>(F _ z).2.1 rfl) G,r⟩
 ·refine(I.hok b u e).stay (fun c v hc q=>k c v ?_ q) (fun _ q=>q) fun _ _ q=>q;rcases hc with z|z
  ·rw[z]; exact B b u e
  ·exact B c _ z
end
noncomputable def Ite(K:y3)(a:Addr):It:=
 ⟨fun i H=>∃xs x,SqL K H a xs/\xs[i]?=some x,fun i H x H'=>∃T v,x=.ref T/\H T=none/\H'=upd H T (.tup [.int i,v])/\∀xs,SqL K H a xs->xs[i]?=some v,fun i H=>∃xs,SqL K H a xs/\xs.length<=i⟩
noncomputable def Itz(K:y3)(a b:Addr):It:=
 ⟨fun i H=>∃xs ys x y,SqL K H a xs/\SqL K H b ys/\xs[i]?=some x/\ys[i]?=some y,fun i H x H'=>∃T u v,x=.ref T/\H T=none/\H'=upd H T (.tup [u,v])/\(∀xs,SqL K H a xs->xs[i]?=some u)/\∀ys,SqL K H b ys->ys[i]?=some v,
  fun i H=>∃xs ys,SqL K H a xs/\SqL K H b ys/\(xs.length<=i\/ys.length<=i)⟩
theorem RW:(2:Nat)<=yr:=by decide
section
variable{X:Cx}
noncomputable def RX(K:y3)(ta:TA):TI:=fun σ H R=>ta σ H fun vs H1=>∃a,vs=[.ref a]/\(∃xs,SqL K H1 a xs)/\R (Ite K a) H1
noncomputable def RY(K:y3)(ta:TA):TI:=fun σ H R=>ta σ H fun vs H1=>∃a b,vs=[.ref a,.ref b]/\(∃xs,SqL K H1 a xs)/\(∃ys,SqL K H1 b ys)/\R (Itz K a b) H1
noncomputable def JR(K:y3):List V->Hp->VK->Prop:=fun xs H Q=>∃(a:Addr) (ns:List Str),xs=[.ref a]/\SqL K H a (ns.map V.str)/\ns.length<64/\∀(l:Addr) (q:List Str),H l=none->q.Perm ns->sortedS q=true->Q (.ref l) (upd H l (.lst (q.map V.str)))
noncomputable def JS(r G q:R2)(ta tb tc td:TE):TT:=fun σ H Q=>ta σ H fun x H1=>tb σ H1 fun y H2=>r x y H2 fun z F=>∃k,z=.bl k/\(if k=true then tc σ F fun w O=>G y w O fun z B=>∃k,z=.bl k/\
 (if k=true then td σ B fun v M=>q w v M fun z J=>∃k,z=.bl k/\Q k J else Q false B) else Q false F)
noncomputable def RZ(K:y3)(tl:TE):TI:=fun σ H R=>tl σ H fun x H1=>∃a,x=.ref a/\(((∃xs,SqL K H1 a xs)/\R (Itl K a) H1)\/((∃xs,SqT K H1 a xs)/\R (Itt K a) H1))
noncomputable def Mb(K:y3)(H:Hp)(x y:V)(b:Bool):Prop:=∃a c xs ys ds es,x=.ref a/\y=.ref c/\SqL K H a xs/\SqL K H c ys/\DtA H xs ds/\DtA H ys es/\Ck ds=true/\Ck es=true/\SeqAt.shaped (.list (BU ds))=true/\SeqAt.shaped (.list (BU es))=true/\b=PyData.eqv (.list (BU ds)) (.list (BU es))
noncomputable def JT(K:y3):R2:=fun x y H Q=>∃b,Mb K H x y b/\Q (.bl b) H
noncomputable def JU(K:y3):R2:=fun x y H Q=>∃b,Mb K H x y b/\Q (.bl (!b)) H
noncomputable def Ris(xs:Array Nat):Prop:=xs.toList.Pairwise (· < ·)
end
section
variable{prog:yl}{w:y08}{κ:Type} [DecidableEq κ] (knd:PySem.KeyKind prog w κ) (key:y9->κ)
noncomputable def Ra(a:Addr)(L:Bool)(ks:List κ)(h:Heap):Prop:=
 ∃o es ep t,h.get? a=some o/\o.ExactSet/\o.data=.set es ep t/\ElemsOf knd es.toList/\ks=es.toList.map (fun e=>key e.2)/\ks.Nodup/\es.size<scanBound/\t.fits es.size=true/\Ris t.place/\t.led=L
variable{knd key}{A:y05}{E:y9->y6->Prop}{s:y6}{a:Addr}{L:Bool}{ks:List κ}
abbrev Rb(w:y08):Bool:=w.params.followText "set-order"
end
section
variable{prog:yl}{w:y08}{A:y05}{E:y9->y6->Prop}{s:y6}{S I:Addr}{es:Array (Int×y9)}{ep:Nat}{t:SetTable}{o:Obj}
noncomputable def Re:y9->Int
 |.int k _=>k
 |_=>0
end
noncomputable def Mc(P:yl)(w:y08)(p:Addr)(ks:List Int):HO:=.ext (Ra (intKind P w) Re p (!Rb w) ks)
noncomputable def Rf(P:yl)(w:y08)(K:y3):List V->Hp->VK->Prop:=fun xs H Q=>∃(a:Addr) (ns:List Int),xs=[.ref a]/\SqL K H a (ns.map V.int)/\ns.length<=1000/\
 ∀(p:Addr) (ks:List Int),H p=none->ks.Nodup->(∀x,x∈ks↔x∈ns)->ks.length<=ns.length->Q (.ref p) (upd H p (Mc P w p ks))
noncomputable def Rg(P:yl)(w:y08):List V->Hp->VK->Prop:=fun xs H Q=>∃(a:Addr) (ks:List Int),xs=[.ref a]/\H a=some (Mc P w a ks)/\ks.length<64/\
 ∀(l:Addr) (q:List Int),H l=none->q.Perm ks->q.Pairwise (· <= ·)->Q (.ref l) (upd H l (.lst (q.map V.int)))
section
variable{X:Cx}
end
end L2
namespace L2
open PySem PyProof.Rows
noncomputable def GW(P:yl)(w:y08)(K:y3)(mg:Str->Option y9)(base:Heap)(k:Nat)(f:Addr)(sp:Sp):Prop:=∃fd ps,FnOk P w K mg base CX0 k f fd ps sp/\PySem.W.keepIn K (.ref f)=true/\Binds K fd ps []
noncomputable def Ey(L:Addr->Sp->Prop)(i:Nat)(t:TA):TE:=fun σ H Q=>∃f,σ[i]?=some (some (.ref f))/\∃sp,L f sp/\t σ H fun vs H1=>sp vs H1 Q E0
theorem Rh(hN:X.N[i]?=some x)(hv:Vis X.env.scope x)(hr:Room j X.A)(hk:k<=j)(ha:PA X (e::es) t)
  (hd:(x==("__debug__" : Str))=false:=by decide) (O:(x==("__classdict__" : Str))=false:=by decide) (G:Aw (e::es)=true:=by rfl) :
  PE X (.Call (.Name x p) (e::es) [] pos) (Ey (GW X.prog X.w X.K X.mg X.base k) i t):=by
 have B:=G;rw[Aw,y8,y0p] at B;have he:=CA (es:=es) (env:=X.env) B.1;have J:=Cj (pos:=pos) (env:=X.env) B.2;refine⟨?_⟩;intro pins s σ H Q I h;obtain⟨f,ei,sp,⟨fd,ps,F,M,hb⟩,h⟩:=h;refine y1n (thn (AX (pos:=p) hN hv hd O pins s σ H (fun U H'=>U=.ref f/\t σ H' fun vs H1=>sp vs H1 Q E0) I (isV.i ei ⟨rfl,h⟩)) fun u s0 ⟨U,H',I',r',ex,h'⟩=>?_);subst ex;cases r';refine y2a (h₀:=X.base) I'.ok.mod.kin M (thn (ha pos pins s0 σ H' _ I' h') fun us s1 ⟨vs,H1,Z,r,q⟩=>⟨Z.kIn,?_⟩) he J;exact Ih F (hr.mono hk) hb .nil (fun _ _ _ _ _ _ _ z=>z.elim) Z r (by rw[y1a]; exact q)
section
variable{P:yl}{w:y08}{A:y05}{E:y9->y6->Prop}{s:y6}
theorem JV{Q:y9->y6->Prop}(a:s.heap.IsTupleIter it t i)(b:s.heap.IsTuple t its)(c:its[i]?=some x)
  (q:∀h',h'.IsTupleIter it t (i+1)->Heap.SameBut it s.heap h'->Q x {s with heap:=h'}):y0j (y0e P w) A (Builtin.SmallTypes.nextOf (.ref it)) Q E s:=by
 have ty:=a.typeIs;obtain⟨⟨_,O,_,B⟩,z,rfl,rfl⟩:=a;obtain⟨⟨_,dl,_,J⟩,M,rfl,G,rfl⟩:=b;rw[Builtin.SmallTypes.nextOf];refine yi (y13 (name:="__next__") ty y1r (y1w y1r ty F.entry_tuple_iterator_next ?_ (F.args_tuple_iterator_next_1 _)));wp_walk;simp only[y3c,c];wp_walk;exact⟨_,rfl,yy (q _ ⟨_,y0z _ z rfl,rfl,by simp[Obj.mapFields,rawInt]⟩ (y0q ..))⟩
theorem Md{Q:y9->y6->Prop}(B:A.handled=none)(a:s.heap.IsTupleIter it t i)(b:s.heap.IsTuple t its)(c:its[i]?=none)
  (q:∀h' e,Heap.ExtBut it s.heap h'->(∃o,h'.get? e=some o/\o.cls=.type "StopIteration")->E (.ref e) {s with heap:=h'}):y0j (y0e P w) A (Builtin.SmallTypes.nextOf (.ref it)) Q E s:=by
 have ty:=a.typeIs;obtain⟨⟨_,Z,_,G⟩,O,rfl,rfl⟩:=a;obtain⟨⟨_,dl,_,M⟩,U,rfl,J,rfl⟩:=b;rw[Builtin.SmallTypes.nextOf];refine yi (y13 (name:="__next__") ty y1r (y1w y1r ty F.entry_tuple_iterator_next ?_ (F.args_tuple_iterator_next_1 _)));wp_walk;simp only[y3c,c];have z:A.in1.handled=none:=B;wp_walk;rw[raiseNew];wp_walk;exact q _ _ (((y0q ..).extBut.push _).push _) ⟨_,y04 _ rfl,rfl⟩
theorem Ri(t u:Addr)(xs ys:Array y9):Meets (Builtin.«zip.__new__» ⟨[.type "zip",.ref t,.ref u],[]⟩) (fun _ R s=>s.heap.IsTuple t xs/\s.heap.IsTuple u ys/\
  ∀h',IsZip h' (s.heap.objs.size+4) (s.heap.objs.size+2) (s.heap.objs.size+3) .none->IsPair h' (s.heap.objs.size+2) (.ref s.heap.objs.size) (.ref (s.heap.objs.size+1))->IsPair h' (s.heap.objs.size+3) .none .none->
   h'.IsTupleIter s.heap.objs.size t 0->h'.IsTupleIter (s.heap.objs.size+1) u 0->h'.objs.size=s.heap.objs.size+5->(∀c o,s.heap.get? c=some o->h'.get? c=some o)->R (.ok (.ret (.ref (s.heap.objs.size+4)))) {s with heap:=h'}):=by
 refine .of_wp fun prog w A R s h=>?_
 obtain⟨B,g,d,tk,os⟩:=s
 obtain⟨h1,h2,h⟩:=h
 have J:=sub_zip
 have G:Heap.IsTuple (Shared.heap ⟨B,g,d,tk,os⟩) t xs:=h1
 have F:Heap.IsTuple (Shared.heap ⟨B.push {cls:=.type "tuple_iterator",data:=.fields #[.ref t,.int 0 0]},g,d,tk,os⟩) u ys:=Heap.IsTuple.push h2 _
 wp_walk using y3e G,y3e F
 refine⟨_,rfl,?_⟩
 have z:∀{k:Heap} {o:Obj} {n:Nat},n=k.objs.size->o.isFreed=false->(k.push o).get? n=some o:=fun e f=>by subst e; exact y04 _ f
 have q:∀{k:Heap} {o o':Obj} {n:Nat},k.get? n=some o->(k.push o').get? n=some o:=fun e=>ye _ e
 simp only[y1q,Nat.add_assoc,Nat.reduceAdd]
 refine h _ ?_ ?_ ?_ ⟨_,q (q (q (q (z rfl rfl)))),rfl,rfl⟩ ⟨_,q (q (q (z (by simp[y1q]) rfl))),rfl,rfl⟩ (by simp[y1q]) fun c o x=>q (q (q (q (q x))))
 ·exact z (by simp[y1q]) rfl
 ·exact q (q (z (by simp[y1q]) rfl))
 ·exact q (z (by simp[y1q]) rfl)
noncomputable def Nx(P:yl)(w:y08)(A:y05)(q:Addr)(Q:y9->y6->Prop)(E:y9->y6->Prop)(s:y6):Prop:=y0j (y0e P w) A (Builtin.SmallTypes.nextOf (.ref q)) Q E s
theorem Ez{Q:y9->y6->Prop}(h:Nx P w A it Q E s):y0j (y0e P w) A (Builtin.SmallTypes.nextOf (.ref it)) Q E s:=h
set_option maxHeartbeats 8000000 in
theorem Rj{Q:y9->y6->Prop}(D:ZipApart z I O i1 i2 t u)(hz:IsZip s.heap z I O .none)(hI:IsPair s.heap I (.ref i1) (.ref i2))(hO:IsPair s.heap O a b)
  (h1:s.heap.IsTupleIter i1 t k) (h2:s.heap.IsTupleIter i2 u k) (ht:s.heap.IsTuple t xs) (hu:s.heap.IsTuple u ys) (hx:xs[k]?=some x) (hy:ys[k]?=some y)
  (q:∀h',IsZip h' z I O (rawInt s.heap.objs.size)->IsPair h' O x y->h'.IsTupleIter i1 t (k+1)->h'.IsTupleIter i2 u (k+1)->IsPair h' s.heap.objs.size x y->h'.objs.size=s.heap.objs.size+1->
   (∀c o,c≠z->c≠O->c≠i1->c≠i2->s.heap.get? c=some o->h'.get? c=some o)->Q (.ref s.heap.objs.size) {s with heap:=h'}) :
  y0j (y0e P w) A (Builtin.«zip.__next__» ⟨[.ref z],[]⟩) (fun aa s'=>∃v,aa=.done (.ret v)/\Q v s') E s:=by
 wp_walk using y2p,Ez;have B:Heap.SameBut z s.heap (s.heap.update z (Obj.mapFields fun x=>x.setIfInBounds 0 Value.ellipsis)):=y0q ..;have z0:IsZip (s.heap.update z (Obj.mapFields fun x=>x.setIfInBounds 0 Value.ellipsis)) z I O .ellipsis:=y0z _ hz rfl;generalize s.heap.update z (Obj.mapFields fun x=>x.setIfInBounds 0 Value.ellipsis)=g0 at B z0 |-;refine JV (h1.extBut B.extBut D.i1z) (ht.extBut B.extBut D.l1z) hx fun g1 j1 M=>?_;have o1:IsPair g1 O a b:=M.extBut _ _ D.TOi1 (B.extBut _ _ D.TOz hO);wp_walk using y2p,Ez;have F:Heap.SameBut O g1 (g1.update O (Obj.mapSeq fun v=>v.setIfInBounds 0 x)):=y0q ..;have o2:IsPair (g1.update O (Obj.mapSeq fun v=>v.setIfInBounds 0 x)) O x b:=y0z _ o1 rfl;generalize g1.update O (Obj.mapSeq fun v=>v.setIfInBounds 0 x)=g2 at F o2 |-;refine JV (((h2.extBut B.extBut D.i2z).extBut M.extBut D.i12.symm).extBut F.extBut D.TOi2.symm) (((hu.extBut B.extBut D.l2z).extBut M.extBut D.l2i1).extBut F.extBut D.l2TO) hy fun U j3 Z=>?_;have o3:IsPair U O x b:=Z.extBut _ _ D.TOi2 o2;have z3:IsZip U z I O .ellipsis:=Z.extBut _ _ D.i2z.symm (F.extBut _ _ D.TOz.symm (M.extBut _ _ D.i1z.symm z0));wp_walk using y2p,Ez;have J:Heap.SameBut O U (U.update O (Obj.mapSeq fun v=>v.setIfInBounds (0+1) y)):=y0q ..;have o4:IsPair (U.update O (Obj.mapSeq fun v=>v.setIfInBounds (0+1) y)) O x y:=y0z _ o3 rfl;generalize U.update O (Obj.mapSeq fun v=>v.setIfInBounds (0+1) y)=g4 at J o4 |-;have n4:g4.objs.size=s.heap.objs.size:=J.1.trans (Z.1.trans (F.1.trans (M.1.trans B.1)));rw[show((fun v:Array y9=>v.setIfInBounds (0+1) y) #[x,b]).toList.toArray = #[x,y] from rfl];have e5:IsPair (g4.push {cls:=.type "tuple",data:=.seq #[x,y]}) g4.objs.size x y:=y04 _ rfl;have z4:IsZip (g4.push {cls:=.type "tuple",data:=.seq #[x,y]}) z I O .ellipsis:=ye _ (J.extBut _ _ D.TOz.symm z3);have k5:∀c o,c≠z->c≠O->c≠i1->c≠i2->s.heap.get? c=some o->(g4.push {cls:=.type "tuple",data:=.seq #[x,y]}).get? c=some o:=fun c o c1 c2 c3 c4 h=>ye _ (J.extBut _ _ c2 (Z.extBut _ _ c4 (F.extBut _ _ c2 (M.extBut _ _ c3 (B.extBut _ _ c1 h)))));have o5:IsPair (g4.push {cls:=.type "tuple",data:=.seq #[x,y]}) O x y:=ye _ o4;have y1:(g4.push {cls:=.type "tuple",data:=.seq #[x,y]}).IsTupleIter i1 t (k+1):=(((j1.extBut F.extBut D.TOi1.symm).extBut Z.extBut D.i12).extBut J.extBut D.TOi1.symm).at fun o h=>ye _ h;have y2:(g4.push {cls:=.type "tuple",data:=.seq #[x,y]}).IsTupleIter i2 u (k+1):=(j3.extBut J.extBut D.TOi2.symm).at fun o h=>ye _ h;have s5:(g4.push {cls:=.type "tuple",data:=.seq #[x,y]}).objs.size=s.heap.objs.size+1:=by rw[size_push',n4]
 rw[n4] at e5;rw[n4];generalize g4.push {cls:=.type "tuple",data:=.seq #[x,y]}=g5 at e5 z4 k5 o5 y1 y2 s5 |-;wp_walk;have G:Heap.SameBut z g5 ((g5.update z (Obj.mapFields fun v=>v.setIfInBounds 0 (rawInt s.heap.objs.size))).update z (Obj.mapFields fun v=>v.setIfInBounds 1 (Value.bool false))):=(y0q ..).trans (y0q ..);refine⟨_,rfl,q _ (y0z _ (y0z _ z4 rfl) rfl) (G.extBut _ _ D.TOz o5) (y1.extBut G.extBut D.i1z) (y2.extBut G.extBut D.i2z) (G.extBut _ _ (Nat.ne_of_gt (ym hz)) e5) (G.1.trans s5) fun c o c1 c2 c3 c4 h=>G.extBut _ _ c1 (k5 c o c1 c2 c3 c4 h)⟩
set_option maxHeartbeats 8000000 in
theorem Rk{Q:Fin->y6->Prop}(hh:A.handled=none)(D:ZipApart z I O i1 i2 t u)(hz:IsZip s.heap z I O .none)(hI:IsPair s.heap I (.ref i1) (.ref i2))(hO:IsPair s.heap O a b)
  (h1:s.heap.IsTupleIter i1 t k) (h2:s.heap.IsTupleIter i2 u k) (ht:s.heap.IsTuple t xs) (hu:s.heap.IsTuple u ys) (Z:xs[k]?=none\/ys[k]?=none)
  (q:∀h' e,(∀c o,c≠z->c≠O->c≠i1->c≠i2->s.heap.get? c=some o->h'.get? c=some o)->(∃o,h'.get? e=some o/\o.cls=.type "StopIteration")->E (.ref e) {s with heap:=h'}) :
  y0j (y0e P w) A (Builtin.«zip.__next__» ⟨[.ref z],[]⟩) Q E s:=by
 wp_walk using y2p,Ez;have B:Heap.SameBut z s.heap (s.heap.update z (Obj.mapFields fun x=>x.setIfInBounds 0 Value.ellipsis)):=y0q ..;have z0:IsZip (s.heap.update z (Obj.mapFields fun x=>x.setIfInBounds 0 Value.ellipsis)) z I O .ellipsis:=y0z _ hz rfl;generalize s.heap.update z (Obj.mapFields fun x=>x.setIfInBounds 0 Value.ellipsis)=g0 at B z0 |-;cases hx:xs[k]? with
 |none=>
  refine Md hh (h1.extBut B.extBut D.i1z) (ht.extBut B.extBut D.l1z) hx fun J e1 F he=>?_;have z1:IsZip J z I O .ellipsis:=F _ _ D.i1z.symm z0;obtain⟨oe,G,hc⟩:=he;have ne:e1≠z:=fun x=>by subst x; rw[z1] at G; cases G; simp at hc
  exact wpAny_setField_rec z1 (by simp) fun h5 _ M=>q h5 e1 (fun c o c1 c2 c3 c4 h=>M.extBut _ _ c1 (F _ _ c3 (B.extBut _ _ c1 h))) ⟨oe,M.extBut _ _ ne G,hc⟩
 |some x=>
  have hy:ys[k]?=none:=Z.resolve_left (by rw[hx]; simp);refine JV (h1.extBut B.extBut D.i1z) (ht.extBut B.extBut D.l1z) hx fun J j1 F=>?_;have o1:IsPair J O a b:=F.extBut _ _ D.TOi1 (B.extBut _ _ D.TOz hO);wp_walk using y2p,Ez;have U:Heap.SameBut O J (J.update O (Obj.mapSeq fun v=>v.setIfInBounds 0 x)):=y0q ..;generalize J.update O (Obj.mapSeq fun v=>v.setIfInBounds 0 x)=g2 at U |-;refine Md hh (((h2.extBut B.extBut D.i2z).extBut F.extBut D.i12.symm).extBut U.extBut D.TOi2.symm) (((hu.extBut B.extBut D.l2z).extBut F.extBut D.l2i1).extBut U.extBut D.l2TO) hy fun g3 e3 m3 he=>?_;have z3:IsZip g3 z I O .ellipsis:=m3 _ _ D.i2z.symm (U.extBut _ _ D.TOz.symm (F.extBut _ _ D.i1z.symm z0));obtain⟨oe,G,hc⟩:=he;have ne:e3≠z:=fun x=>by subst x; rw[z3] at G; cases G; simp at hc
  exact wpAny_setField_rec z3 (by simp) fun h5 _ M=>q h5 e3 (fun c o c1 c2 c3 c4 h=>M.extBut _ _ c1 (m3 _ _ c4 (U.extBut _ _ c2 (F.extBut _ _ c3 (B.extBut _ _ c1 h))))) ⟨oe,M.extBut _ _ ne G,hc⟩
end
end L2
namespace L2
open PySem PySem.Spec PyProof.Rows
section
variable{P:yl}{w:y08}{A:y05}{E:y9->y6->Prop}{s:y6}
theorem Rl{Q:Option y9->y6->Prop}(D:ZipApart z I O i1 i2 t u)(hz:IsZip s.heap z I O .none)(J:IsPair s.heap I (.ref i1) (.ref i2))(G:IsPair s.heap O a b)
  (h1:s.heap.IsTupleIter i1 t k) (h2:s.heap.IsTupleIter i2 u k) (B:s.heap.IsTuple t xs) (hu:s.heap.IsTuple u ys) (hx:xs[k]?=some x) (hy:ys[k]?=some y)
  (q:∀h',IsZip h' z I O (rawInt s.heap.objs.size)->IsPair h' O x y->h'.IsTupleIter i1 t (k+1)->h'.IsTupleIter i2 u (k+1)->IsPair h' s.heap.objs.size x y->h'.objs.size=s.heap.objs.size+1->
   (∀c o,c≠z->c≠O->c≠i1->c≠i2->s.heap.get? c=some o->h'.get? c=some o)->Q (some (.ref s.heap.objs.size)) {s with heap:=h'}):y0j (y0e P w) A (pyNext (.ref z)) Q E s:=by
 have ty:s.TypeIs (.ref z) "zip":=⟨_,hz,rfl⟩
 rw[pyNext]
 refine yi (y3f (y13 (name:="__next__") ty y1z (y1w y1z ty PySem.F.entry_zip_next ?_ (PySem.F.args_zip_next_1 _))))
 exact Rj D hz J G h1 h2 B hu hx hy fun h' b1 b2 b3 b4 Z U M=>yy (q h' b1 b2 b3 b4 Z U M)
theorem Rm{Q:Option y9->y6->Prop}(M:A.handled=none)(D:ZipApart z I O i1 i2 t u)(hz:IsZip s.heap z I O .none)(hI:IsPair s.heap I (.ref i1) (.ref i2))(Z:IsPair s.heap O a b)
  (h1:s.heap.IsTupleIter i1 t k) (h2:s.heap.IsTupleIter i2 u k) (G:s.heap.IsTuple t xs) (hu:s.heap.IsTuple u ys) (B:xs[k]?=none\/ys[k]?=none)
  (q:∀h',(∀c o,c≠z->c≠O->c≠i1->c≠i2->s.heap.get? c=some o->h'.get? c=some o)->Q none {s with heap:=h'}):y0j (y0e P w) A (pyNext (.ref z)) Q E s:=by
 have ty:s.TypeIs (.ref z) "zip":=⟨_,hz,rfl⟩;rw[pyNext];refine yi (y3f (y13 (name:="__next__") ty y1z (y1w y1z ty PySem.F.entry_zip_next (Rk (by simpa using M) D hz hI Z h1 h2 G hu B fun h' e hk U=>?_) (PySem.F.args_zip_next_1 _))));obtain⟨o,J,hc⟩:=U;exact yi (wpAny_isInstance (b:=true) ⟨o,J,hc⟩ isSubtype_stop (yy (q _ hk)))
theorem Rn{Q:y9->y6->Prop}(B:s.heap.IsTuple t xs)(hu:s.heap.IsTuple u ys)
  (h:∀h',IsZip h' (s.heap.objs.size+4) (s.heap.objs.size+2) (s.heap.objs.size+3) .none->IsPair h' (s.heap.objs.size+2) (.ref s.heap.objs.size) (.ref (s.heap.objs.size+1))->IsPair h' (s.heap.objs.size+3) .none .none->
   h'.IsTupleIter s.heap.objs.size t 0->h'.IsTupleIter (s.heap.objs.size+1) u 0->h'.objs.size=s.heap.objs.size+5->(∀c o,s.heap.get? c=some o->h'.get? c=some o)->Q (.ref (s.heap.objs.size+4)) {s with heap:=h'}) :
  y0j (y0e P w) A (call (.type "zip") [.ref t,.ref u]) Q E s:=by
 refine callType_new PySem.F.called_zip (by decide) (PySem.F.typeCall_zip_2 _ _) (PySem.F.newCall_zip_2 _ _) (fun q=>PySem.F.args_object_init_3 q _ _) PySem.F.entry_zip_new (Ri t u xs ys) ⟨B,hu,fun h' z Z U O M J G=>?_⟩;exact⟨⟨_,z,rfl⟩,h h' z Z U O M J G⟩
noncomputable def ED(K:y3)(a b:Addr):It:=
 ⟨fun i H=>∃xs ys x y,SqT K H a xs/\SqT K H b ys/\xs[i]?=some x/\ys[i]?=some y,fun i H x H'=>∃T u v,x=.ref T/\H T=none/\H'=upd H T (.tup [u,v])/\(∀xs,SqT K H a xs->xs[i]?=some u)/\∀ys,SqT K H b ys->ys[i]?=some v,
  fun i H=>∃xs ys,SqT K H a xs/\SqT K H b ys/\(xs.length<=i\/ys.length<=i)⟩
end
theorem Ro{P:yl}{w:y08}{K:y3}{ah:List Expr}{kt:Nat}{pt:Pos}(a b z TI TO Z U:Addr)(D:ZipApart z TI TO Z U a b) :
  Turn P w K (.Tuple ah kt pt) (ED K a b) [z,TI,TO,Z,U] z (fun i h=>IsZip h z TI TO .none/\IsPair h TI (.ref Z) (.ref U)/\(∃u v,IsPair h TO u v)/\h.IsTupleIter Z a i/\h.IsTupleIter U b i) where
 mem:=by simp
 obj:=fun i h st c hc=>by
  obtain⟨hz,G,⟨u,v,J⟩,h1,h2⟩:=st;simp only[yu,yo,or_false] at hc;rcases hc with rfl|rfl|rfl|rfl|rfl
  ·exact⟨_,hz,fun v z=>by cases z⟩
  ·exact⟨_,G,fun v z=>by cases z⟩
  ·exact⟨_,J,fun v z=>by cases z⟩
  ·obtain⟨o,e',c,d⟩:=h1;exact⟨o,e',fun v z=>by rw[d] at z; cases z⟩
  ·obtain⟨o,e',c,d⟩:=h2;exact⟨o,e',fun v z=>by rw[d] at z; cases z⟩
 keep:=fun i h h' st k=>by
  obtain⟨hz,G,⟨u,v,J⟩,h1,h2⟩:=st;exact⟨k z (by simp) _ hz,k TI (by simp) _ G,⟨u,v,k TO (by simp) _ J⟩,h1.at fun o q=>k Z (by simp) o q,h2.at fun o q=>k U (by simp) o q⟩
 item:=by
  intro X hP hw hK hc i pins s σ H E I hf st hg;subst hP hw hK;obtain⟨hz,G,⟨u0,v0,J⟩,h1,h2⟩:=st;obtain⟨xs,ys,x,y,hq,M,hx,hy⟩:=hg;obtain⟨ak,rv,p,_⟩:=I.tuple hq;obtain⟨ae,O,p2,_⟩:=I.tuple M;obtain⟨u,hu,ru⟩:=rv.get hx;obtain⟨u2,am,aj⟩:=O.get hy;refine Rl D hz G J h1 h2 p p2 (x:=u) (y:=u2) (by simpa using hu) (by simpa using am) fun h3 a1 a2 a3 a4 a5 a6 hk=>?_;refine⟨_,rfl,wpAny_letOwnedTupleGo_zip a1 fun h4 al ao=>?_⟩;have F:Heap.SameBut z h3 h4:=ao;have af:z<s.heap.objs.size:=ym hz;have kk:∀c o,c∉[z,TI,TO,Z,U]->s.heap.get? c=some o->h4.get? c=some o:=fun c o B q=>
   F.extBut c o (fun e=>B (by simp[e])) (hk c o (fun e=>B (by simp[e])) (fun e=>B (by simp[e])) (fun e=>B (by simp[e])) (fun e=>B (by simp[e])) q)
  have I1:Inv X pins σ H {s with heap:=h4,toks:=s.toks}:=I.turnedL kk hf;have ac:H s.heap.objs.size=none:=I.hok.fresh (yf _);have aq:h4.get? s.heap.objs.size=some {cls:=.type "tuple",data:=.seq #[u,u2]}:=F.extBut _ _ (Nat.ne_of_gt af) a5;have I2:Inv X pins σ (upd H s.heap.objs.size (.tup [x,y])) {s with heap:=h4,toks:=s.toks}:=
   I1.track ac (I.fpOk (yf _) ac) (show ObjOk X.prog X.w _ h4 _ (.tup [x,y]) from⟨RW,[u,u2],.cons ru (.cons aj .nil),⟨_,aq,rfl,_,rfl⟩⟩)
  refine⟨.ref s.heap.objs.size,_,I2,rfl,⟨s.heap.objs.size,x,y,rfl,ac,rfl,fun zs aa=>by rw[I.tuple_inj aa hq]; exact hx,fun zs aa=>by rw[I.tuple_inj aa M]; exact hy⟩,
   ⟨al,F.extBut _ _ D.TIz (hk _ _ D.TIz D.TITO D.TIi1 D.TIi2 G),⟨_,_,F.extBut _ _ D.TOz a2⟩,a3.at fun o q=>(F.2 Z D.i1z).trans q,a4.at fun o q=>(F.2 U D.i2z).trans q⟩,fun c B=>?_⟩
  have ap:c<s.heap.objs.size:=by
   simp only[yu,yo,or_false] at B;rcases B with rfl|rfl|rfl|rfl|rfl
   ·exact af
   ·exact ym G
   ·exact ym J
   ·obtain⟨o,e',_⟩:=h1; exact ym e'
   ·obtain⟨o,e',_⟩:=h2; exact ym e'
  rw[AQ (y0m ap)];exact(hf c B).1
 done:=by
  intro X hP hw hK hc i pins s σ H E I hf st hg;subst hP hw hK;obtain⟨hz,G,⟨u0,v0,J⟩,h1,h2⟩:=st;obtain⟨xs,ys,hq,M,ag⟩:=hg;obtain⟨ak,rv,p,_⟩:=I.tuple hq;obtain⟨ae,O,p2,_⟩:=I.tuple M;have e1:=rv.length;have e2:=O.length;refine Rm (I.ok.hd hc) D hz G J h1 h2 p p2 ?_ fun h' hk=>⟨rfl,I.turnedL (t':=s.toks) (fun c o B q=>hk c o (fun e=>B (by simp[e])) (fun e=>B (by simp[e])) (fun e=>B (by simp[e])) (fun e=>B (by simp[e])) q) hf⟩;rcases ag with z|z
  ·exact .inl (by simp; lia)
  ·exact .inr (by simp; lia)
 self:=fun _ _ _ _ _ st h=>wpAny_pyIter_zip st.1 h
section
variable{X:Cx}
noncomputable def JW(K:y3)(ta:TA):TI:=fun σ H R=>ta σ H fun vs H1=>∃a b,vs=[.ref a,.ref b]/\(∃xs,SqT K H1 a xs)/\(∃ys,SqT K H1 b ys)/\R (ED K a b) H1
theorem Rp{J:List Expr}{kt:Nat}{pt p pos:Pos}{l O:Expr}{ta:TA} (hg:Gl X "zip") (hm:X.mg "zip" = none) (ha:PA X [l,O] ta) (Z:EC l=false:=by rfl) (F:EC O=false:=by rfl):PI X (.Tuple J kt pt) (.Call (.Name "zip" p) [l,O] [] pos) (JW X.K ta):=by
 refine⟨?_⟩;intro pins s σ H R I h;have ac:=Cj (pos:=pos) (env:=X.env) (es:=[O]) (by simp[Aw,F]);refine Call_ (E1 I hg hm boot_zip (y1c (thn (ha pos pins s σ H _ I h) fun us z ⟨vs,H1,M,r1,q1⟩=>?_) (CA Z) ac));obtain⟨a,b,e,⟨xs,hq⟩,⟨ys,aa⟩,q⟩:=q1;subst e;cases r1 with
 |cons r U=>
  cases U with
  |cons r2 U=>
   cases U;cases r;cases r2;obtain⟨al,rv,pl,_⟩:=M.tuple hq;obtain⟨aj,ak,B,_⟩:=M.tuple aa;have af:a<z.heap.objs.size:=by obtain⟨_,e,_⟩:=pl; exact ym e
   have ae:b<z.heap.objs.size:=by obtain⟨_,e,_⟩:=B; exact ym e
   refine Rn pl B fun h' hz ah ag h1 h2 am hk=>?_;have I2:Inv X pins σ H1 {z with heap:=h'}:=M.kept (t':=z.toks) hk;refine wpAny_pyIter_zip hz ?_;refine⟨z.heap.objs.size+4,[z.heap.objs.size+4,z.heap.objs.size+2,z.heap.objs.size+3,z.heap.objs.size,z.heap.objs.size+1],_,_,H1,rfl,I2,Ro a b _ _ _ _ _ (zipApart_new af ae),⟨hz,ah,⟨_,_,ag⟩,h1,h2⟩,fun c hc=>?_,q⟩;have G:z.heap.objs.size<=c:=by
    simp only[yu,yo,or_false] at hc;rcases hc with rfl|rfl|rfl|rfl|rfl<;>first|exact yf _|exact Nat.le_add_right _ _
   exact M.fpOk G (M.hok.fresh G)
end
section
variable{prog:yl}{w:y08}{A:y05}{E:y9->y6->Prop}{s:y6}
theorem Rq{t B:Addr}{q:Array y9}{M J:y9}{lo hi:Option Int}{Q:y9->y6->Prop}(z:IsTup s.heap t q)(O:s.heap.IsSliceOf B M J .none)(pl:IsPart M lo)(Z:IsPart J hi)
  (hw:HT.sIx q.size 0 lo=0/\HT.sIx q.size q.size hi=q.size) (h:Q (.ref t) s):y0j (y0e prog w) A (getItem (.ref t) (.ref B)) Q E s:=by
 obtain⟨os,F,G,aa⟩:=id O;have U:s.TypeIs (.ref B) "slice":=⟨os,F,G⟩;unfold getItem;try with_reducible refine y2q ?_
 first|refine yi (yy ?_)|skip
 refine yi (wpAny_sequenceKey z.typeIs (by decide) ?_);refine yi (y13 (name:=Str.ofString "__getitem__") z.typeIs y15 (y1w y15 z.typeIs entry_tuple_getitem ?_ (args_tuple_getitem _ _)));show y0j _ _ (Builtin.Tuple.tupleItemsOf (.ref t) >>= _) _ _ s;refine yi (PyProof.Rows.tupleItemsOf_ z (yi (wpAny_typeOf U ?_)));rw[if_pos (by decide)];refine yi (HT.MA O pl Z ?_);refine wpAny_ite_split (fun _=>?_) (fun c=>absurd ?_ c)
 ·unfold Builtin.Tuple.tupleIsExact;refine yi (yi (wpAny_typeOf z.typeIs (yy ?_)));refine wpAny_ite_split (fun _=>?_) (fun c=>absurd (by decide) c);exact yi (wpAny_rule (yy ⟨_,rfl,yy h⟩))
 ·rw[hw.1,hw.2];simp
end
section
variable{X:Cx}
noncomputable def GX(K:y3):V->Option Int->Option Int->Hp->VK->Prop:=fun x lo hi H Q=>∃a xs,x=.ref a/\SqT K H a xs/\
 (((HT.sIx xs.length 0 lo=0/\HT.sIx xs.length xs.length hi=xs.length)/\Q (.ref a) H)\/(¬ (HT.sIx xs.length 0 lo=0/\HT.sIx xs.length xs.length hi=xs.length)/\∀p,H p=none->Q (.ref p) (upd H p (.tup (BS xs lo hi)))))
theorem Rr:SlR X (GX X.K):=by
 intro pins s σ H x v U O lo hi Z Q I F M pl G h;obtain⟨a,xs,rfl,hx,⟨hw,q⟩|⟨hw,q⟩⟩:=h
 ·cases F;obtain⟨B,r,J,hz⟩:=I.tuple hx;have z:B.toArray.size=xs.length:=by rw[yn]; exact r.length.symm
  exact⟨"tuple",_,PyProof.Rows.slot_tuple_getitem.lookup,J.typeIs,Rq J M pl G (by rw[z]; exact hw) ⟨.ref a,H,I,rfl,q⟩⟩
 ·exact Ql pins s σ H (.ref a) v U O lo hi Z Q I F M pl G ⟨a,xs,rfl,hx,hw,q⟩
theorem Rs{K:y3}{a b:Addr}{xs ys:List V}{g:TG}{tt:TT}{te:TE}{Q:VK}{σ:St}{H:Hp}(ac:ys.length<=xs.length)(B:Nat->List V->St->Hp->Prop)(h0:B 0 [] σ H)(hz:ys.length<yr)(hy:∀i zs σ H,B i zs σ H->zs.length<=i)(hl:∀i zs σ H,i<=ys.length->B i zs σ H->SqT K H a xs/\SqT K H b ys)
  (hs:∀i zs x y σ H T,xs[i]?=some x->ys[i]?=some y->B i zs σ H->H T=none->g (.ref T) σ (upd H T (.tup [x,y])) fun z H2=>tt z H2 fun b G=>if b=true then te z G (fun v H4=>B (i+1) (zs++[v]) z H4) else B (i+1) zs z G)
  (hd:∀zs σ H,B ys.length zs σ H->∀p,H p=none->Q (.ref p) (upd H p (.lst zs))):Bf (ED K a b) g tt te Q σ H:=by
 refine⟨fun i m zs σ H=>m=ys.length-i/\i<=ys.length/\B i zs σ H,⟨ys.length,by simp,y0i _,h0⟩,?_⟩;rintro i m zs σ H ⟨rfl,hi,p⟩;have q:=hl i zs σ H hi p;have aa:=hy i zs σ H p;by_cases F:i<ys.length
 ·refine .inr ⟨⟨xs,ys,xs[i]'(by lia),ys[i],q.1,q.2,by simp,by simp⟩,by lia,B (i+1),fun M J H' Z=>⟨ys.length-(i+1),by lia,rfl,F,Z⟩,fun x H' y=>?_⟩;obtain⟨T,u,v,rfl,hT,rfl,U,O⟩:=y;exact hs i zs u v σ H T (U xs q.1) (O ys q.2) p hT
 ·have e:i=ys.length:=by lia
  subst e;exact .inl ⟨⟨xs,ys,q.1,q.2,.inr (yf _)⟩,by lia,hd zs σ H p⟩
end
theorem Rt{P:yl}{w:y08}{K:y3}{mg:Str->Option y9}{base:Heap}{X:Cx}{x:Str}{i k j:Nat}{e:Expr}{es:List Expr}{t:TA}{p pos:Pos}(U:X.prog=P)(J:X.w=w)(Z:X.K=K)(M:X.mg=mg)(O:X.base=base)
  (G:X.N[i]?=some x) (B:Vis X.env.scope x) (F:Room j X.A) (hk:k<=j) (ha:PA X (e::es) t)
  (hd:(x==("__debug__" : Str))=false:=by decide) (z:(x==("__classdict__" : Str))=false:=by decide) (q:Aw (e::es)=true:=by rfl) :
  PE X (.Call (.Name x p) (e::es) [] pos) (Ey (GW P w K mg base k) i t):=by
 subst U J Z M O;exact Rh G B F hk ha hd z q
inductive DX where
 |c (d:Dm)|var (i:Nat)|tup (l:List DX)|lst (l:List DX)|cat (a b:DX)|lof (a:DX)
noncomputable def Ru:Dm->Dm->Dm
 |.tup x,.tup y=>.tup (x++y)
 |_,_=>.non
mutual
noncomputable def DX.val(q:Nat->Dm):DX->Dm
 |.c d=>d
 |.var i=>q i
 |.tup l=>.tup (EE q l)
 |.lst _=>.lst
 |.cat a b=>Ru (a.val q) (b.val q)
 |.lof _=>.lst
noncomputable def EE(q:Nat->Dm):List DX->List Dm
 |[]=>[]
 |x::r=>x.val q::EE q r
end
mutual
noncomputable def DX.Fit(q:Nat->Dm)(σ:St)(H:Hp):DX->Prop
 |.c _=>True
 |.var i=>∃v,σ[i]?=some (some v)/\Dt H v (q i)
 |.tup l=>l.length<=1000/\DZ q σ H l
 |.lst l=>l.length<=1000/\DZ q σ H l
 |.cat a b=>a.Fit q σ H/\b.Fit q σ H/\∃x y,a.val q=.tup x/\b.val q=.tup y/\x.length+y.length<=1000
 |.lof a=>a.Fit q σ H/\∃x,a.val q=.tup x
noncomputable def DZ(q:Nat->Dm)(σ:St)(H:Hp):List DX->Prop
 |[]=>True
 |x::r=>x.Fit q σ H/\DZ q σ H r
end
noncomputable def Me(q:List Nat):DX->DX->Bool
 |.var i,.tup l=>q.contains i&&decide (l.length<=100)
 |_,_=>false
noncomputable def Mf(q:List Nat):DX->Bool
 |.var i=>q.contains i
 |_=>false
mutual
noncomputable def DX.chk(z q:List Nat):DX->Bool
 |.c _=>true
 |.var i=>z.contains i
 |.tup l=>decide (l.length<=100)&&F0 z q l
 |.lst l=>decide (l.length<=100)&&F0 z q l
 |.cat a b=>Me q a b&&a.chk z q&&b.chk z q
 |.lof a=>Mf q a&&a.chk z q
noncomputable def F0(z q:List Nat):List DX->Bool
 |[]=>true
 |x::r=>x.chk z q&&F0 z q r
end
structure Env(ρ:Nat->Dm)(σ:St)(H:Hp)(vo vt:List Nat):Prop where
 o:∀i∈vo,∃v,σ[i]?=some (some v)/\Dt H v (ρ i)
 t:∀i∈vt,∃ds,ρ i=.tup ds/\ds.length<=100
theorem Mg(q:Nat->Dm):∀l:List DX,(EE q l).length=l.length
 |[]=>rfl
 |_::r=>by rw[EE,ya,ya,Mg q r]
mutual
theorem Env.fit{z:Nat->Dm}(e:Env z σ H vo vt):∀{x:DX},x.chk vo vt=true->x.Fit z σ H
 |.c _,_=>by rw[DX.Fit]; trivial
 |.var i,h=>by
  rw[DX.chk] at h;rw[DX.Fit];exact e.o i (List.contains_iff_mem.mp h)
 |.tup l,h=>by
  rw[DX.chk,y8,decide_eq_true_eq] at h;rw[DX.Fit];exact⟨by lia,e.fitA h.2⟩
 |.lst l,h=>by
  rw[DX.chk,y8,decide_eq_true_eq] at h;rw[DX.Fit];exact⟨by lia,e.fitA h.2⟩
 |.cat a b,h=>by
  rw[DX.chk,y8,y8] at h;obtain⟨⟨q,h1⟩,h2⟩:=h;rw[DX.Fit];refine⟨e.fit h1,e.fit h2,?_⟩;unfold Me at q;split at q
  ·rename_i i l;rw[y8,decide_eq_true_eq] at q;obtain⟨ds,B,hl⟩:=e.t i (List.contains_iff_mem.mp q.1);exact⟨ds,EE z l,by rw[DX.val]; exact B,by rw[DX.val],by rw[Mg]; lia⟩
  ·cases q
 |.lof a,h=>by
  rw[DX.chk,y8] at h;rw[DX.Fit];refine⟨e.fit h.2,?_⟩;have q:=h.1;unfold Mf at q;split at q
  ·rename_i i;obtain⟨ds,B,hl⟩:=e.t i (List.contains_iff_mem.mp q);exact⟨ds,by rw[DX.val]; exact B⟩
  ·cases q
theorem Env.fitA{q:Nat->Dm}(e:Env q σ H vo vt):∀{l:List DX},F0 vo vt l=true->DZ q σ H l
 |[],_=>by rw[DZ]; trivial
 |x::r,h=>by
  rw[F0,y8] at h;rw[DZ];exact⟨e.fit h.1,e.fitA h.2⟩
end
noncomputable def tDX(x:DX):TE:=fun σ H Q=>∃ q,x.Fit q σ H/\∀v H',Same H H'->Dt H' v (x.val q)->Q v H'
noncomputable def JX(l:List DX):TA:=fun σ H Q=>∃ q,DZ q σ H l/\∀vs H',Same H H'->DtA H' vs (EE q l)->Q vs H'
section
variable{X:Cx}
end
end L2
namespace L2
open PySem PySem.Spec PyProof.Rows PySem.W
section
variable{prog:yl}{w:y08}{A:y05}{E:y9->y6->Prop}{s:y6}
variable{k:SortKind}{vs:List y9}{st:SortSt}
end
section
variable{prog:yl}{w:y08}{A:y05}{E:y9->y6->Prop}{s:y6}
end
section
variable{X:Cx}{pins:List (Addr×Obj)}{σ:St}{H:Hp}{s:y6}
end
end L2
namespace L2
open PySem PyProof.Rows
open AutoSeq1 (wpAny_loadPart')
section
variable{prog:yl}{w:y08}{A:y05}{E:y9->y6->Prop}{s:y6}
noncomputable def JY(K:y3)(a:Addr):It:=
 ⟨fun i H=>∃xs x,SqT K H a xs/\xs[i]?=some x,fun i H x H'=>∃T v,x=.ref T/\H T=none/\H'=upd H T (.tup [.int i,v])/\∀xs,SqT K H a xs->xs[i]?=some v,fun i H=>∃xs,SqT K H a xs/\xs.length<=i⟩
end
section
variable{X:Cx}
noncomputable def Mh(K:y3)(ta:TA):TI:=fun σ H R=>ta σ H fun vs H1=>∃a,vs=[.ref a]/\(∃xs,SqT K H1 a xs)/\R (JY K a) H1
end
end L2
namespace L2
open PySem PySem.Spec PyProof.Rows
section
variable{prog:yl}{w:y08}{A:y05}{E:y9->y6->Prop}{s:y6}{S:Addr}
end
section
variable{X:Cx}
end
end L2
namespace L2
open PySem PySem.Spec PyProof.Rows PySem.W
section
variable{r:Nat->Nat}{n:Nat}{s:y6}
noncomputable def rk(r:Nat->Nat)(p:Array Nat)(i:Nat):Nat:=r (p.getD i 0)
noncomputable def q2i(q:Nat):Prop:=q∈[7,31,127,511,2047]
end
section
variable{prog:yl}{w:y08}{A:y05}{E:y9->y6->Prop}{s:y6}{a:Addr}{L:Bool}
end
section
variable{prog:yl}{w:y08}
end
section
variable{X:Cx}{pins:List (Addr×Obj)}{σ:St}{H:Hp}{s:y6}
end
section
variable{prog:yl}{w:y08}{A:y05}{E:y9->y6->Prop}{s:y6}
noncomputable def Mi(K:y3)(ta:TA)(tc:TE):TE:=fun σ H Q=>ta σ H fun vs H1=>tc σ H1 fun y H2=>∃(a:Addr) (ns:List Int) (d:Int),vs=[.ref a]/\y=.int d/\SqL K H2 a (ns.map V.int)/\∀M,((ns=[]/\M=d)\/(M∈ns/\∀a∈ns,a<=M))->Q (.int M) H2
end
section
variable{X:Cx}
theorem Mj{K:y3}{ta:TA}{g:TG}{tt:TT}{te:TE}{q:List (Option Nat)}{σ:St}{H:Hp}{Q:VK}:Ch (Mh K ta) g tt te q σ H Q=ta σ H fun vs H1=>∃a,vs=[.ref a]/\(∃xs,SqT K H1 a xs)/\Bf (JY K a) g tt te Q (subσ q σ) H1:=rfl
end
section
variable{prog:yl}{w:y08}{A:y05}{E:y9->y6->Prop}{s:y6}{κ:SortKind}{rk:Keyed->Nat}{S:Keyed->Prop}
noncomputable def CmpL(prog:yl)(w:y08)(A:y05)(s:y6)(κ:SortKind)(rk:Keyed->Nat)(S:Keyed->Prop):Prop:=∀x y:Keyed,S x->S y->∀Q:Bool->y6->Prop,Q (decide (rk x<rk y)) s->y0j (y0e prog w) A (keyLt' κ x.1 y.1) Q (fun _ _=>False) s
end
section
variable{rk:Keyed->Nat}{X Y o:List Keyed}{i j k:Nat}
noncomputable def Up(rk:Keyed->Nat)(l:List Keyed):Prop:=l.Pairwise fun x y=>rk x<=rk y
end
section
variable{prog:yl}{w:y08}{A:y05}{E:y9->y6->Prop}{s:y6}{κ:SortKind}{rk:Keyed->Nat}{S:Keyed->Prop}
structure LoH(prog:yl)(w:y08)(A:y05)(s:y6)(κ:SortKind)(rk:Keyed->Nat)(S:Keyed->Prop)(a b:Array Keyed):Prop where
 C:CmpL prog w A s κ rk S
 sa:∀x∈a.toList,S x
 sb:∀x∈b.toList,S x
 ua:Up rk a.toList
 ub:Up rk b.toList
 hl:∀x,a.toList[a.size-1]?=some x->∀y∈b.toList,rk y<=rk x
section
variable{a b o:Array Keyed}{i j g u v m:Nat}{st st0:SortSt}(h:LoH prog w A s κ rk S a b)
include h
end
end
section
variable{rk:Keyed->Nat}{X Y o:List Keyed}{i j k:Nat}
end
section
variable{prog:yl}{w:y08}{A:y05}{E:y9->y6->Prop}{s:y6}{κ:SortKind}{rk:Keyed->Nat}{S:Keyed->Prop}
structure HiH(prog:yl)(w:y08)(A:y05)(s:y6)(κ:SortKind)(rk:Keyed->Nat)(S:Keyed->Prop)(a b:Array Keyed):Prop where
 C:CmpL prog w A s κ rk S
 sa:∀x∈a.toList,S x
 sb:∀x∈b.toList,S x
 ua:Up rk a.toList
 ub:Up rk b.toList
 h0:∀y,b.toList[0]?=some y->∀x∈a.toList,rk y<=rk x
section
variable{a b o:Array Keyed}{i j g u v m:Nat}{st st0:SortSt}(h:HiH prog w A s κ rk S a b)
include h
end
end
section
variable{prog:yl}{w:y08}{A:y05}{E:y9->y6->Prop}{s:y6}{κ:SortKind}{rk:Keyed->Nat}{S:Keyed->Prop}{a0:Array Keyed}
end
section
variable{rk:Keyed->Nat}{xs ys:Array Keyed}
end
section
variable{prog:yl}{w:y08}{A:y05}{E:y9->y6->Prop}{s:y6}{κ:SortKind}{rk:Keyed->Nat}{S:Keyed->Prop}{a0:Array Keyed}
end
section
variable{prog:yl}{w:y08}{A:y05}{E:y9->y6->Prop}{s:y6}
open Classical in
noncomputable def ixV (vs:List y9) (v:y9):Nat:=if h:∃i:Nat,vs[i]?=some v then Classical.choose h else 0
end
section
variable{X:Cx}
end
section
variable{prog:yl}{w:y08}{A:y05}{E:y9->y6->Prop}{s:y6}
end
section
variable{prog:yl}{w:y08}{A:y05}{E:y9->y6->Prop}{s:y6}{K:Type} [DecidableEq K] {knd:PySem.KeyKind prog w K}
end
section
variable{X:Cx}
end
section
variable{prog:yl}{w:y08}{A:y05}{E:y9->y6->Prop}{s:y6}{a:Addr}
structure Prw where
 r:Addr
 k:Addr
 x:V
 u:y9
instance:Inhabited Prw:=⟨⟨0,0,.non,.none⟩⟩
end
section
variable{X:Cx}{pins:List (Addr×Obj)}{σ:St}{H:Hp}{s:y6}
end
theorem Rv{X:Cx}{K:y3}{T id:String}{name:Str}{r:V->List V->Hp->VK->Prop}{o e:Expr}{es:List Expr}{to:TE}{t:TA}{apos cpos:Pos}(Z:X.K=K)(M:PlainAttrs T)(F:Slot T name id) (J:typeOf (.builtin id)=pure (.type "method_descriptor")) (hm:MtR X id r) (U:PE X o to) (ha:PA X (e::es) t)
  (B:attributeBase o name X.env (eval o X.env)=eval o X.env:=by rfl)
  (G:((backTo cpos (starEach (e::es) X.env)).all (fun x=>!x.1)&&(backToKw cpos (keywordEach [] X.env)).all (fun x=>x.1.isSome)
   && decide ((e::es).length+([]:List Keyword).length+(if([]:List Keyword).isEmpty then 0 else 1)<30))=true:=by rfl)
  (z:(apos.endLine==cpos.line)=true:=by rfl) (O:starEach (e::es) X.env=(false,eval e X.env)::starEach es X.env:=by rfl) (q:(backTo cpos (starEach es X.env)).any (·.1)=false:=by rfl) :
  PE X (.Call (.Attribute o name apos) (e::es) [] cpos) (tBM K T r to t):=by
 subst Z;exact Ak M F J hm U ha B G z O q
noncomputable def Mk(i j k:Nat)(ta:TA):TS:=fun D σ H=>ta σ H fun vs H1=>∃u v w,vs=[u,v,w]/\D.nx (((σ.set i (some u)).set j (some v)).set k (some w)) H1
end L2
namespace L2
open PySem PySem.Spec PyProof.Rows
structure LamD where
 qual:Str
 params:Arguments
 body:Expr
 scope:Scope
noncomputable def Rx(D:LamD)(cl:List (Str×Addr))(f c':Addr):HO:=.ext fun h=>∃z q,h.get? f=some (PySem.W.kla_obj "<lambda>" D.qual D.params D.body D.scope cl z c' q)
section
variable{X:Cx}
noncomputable def J1(q:List Addr)(H H':Hp):Hp:=fun b=>if b∈q then H b else H' b
noncomputable def Ml(H:Hp)(f:Addr):Prop:=∃D cl c',H f=some (Rx D cl f c')
noncomputable def Mm(R:Addr->Hp->List V->VK->Prop)(i:Nat)(t:TA):TE:=fun σ H Q=>∃f,σ[i]?=some (some (.ref f))/\Ml H f/\t σ H fun vs H1=>Ml H1 f/\R f H1 vs Q
end
end L2
namespace L2
open PySem PySem.Spec PyProof.Rows PySem.W
section
variable{prog:yl}{w:y08}{A:y05}{E:y9->y6->Prop}{s:y6}{a:Addr}
end
section
variable{X:Cx}{pins:List (Addr×Obj)}{σ:St}{H:Hp}{s:y6}
structure Pkw where
 r:Addr
 k:y9
 u:y9
instance:Inhabited Pkw:=⟨⟨0,.none,.none⟩⟩
end
theorem ObjOk.obj(x:ObjOk P w H h a o):∃u,h.get? a=some u:=by
 cases o with
 |lst xs=>obtain⟨_,_,_,_,e⟩:=x; exact⟨_,e⟩
 |tup xs=>obtain⟨_,_,_,o,e,_⟩:=x; exact⟨_,e⟩
 |dK kvs=>obtain⟨_,_,_,_,o,_,_,e,_⟩:=x; exact⟨_,e⟩
 |dT kvs=>obtain⟨_,_,_,_,o,_,_,e,_⟩:=x; exact⟨_,e⟩
 |set S n=>obtain⟨o,_,_,_,e,_⟩:=x; exact⟨_,e⟩
 |ins C dx fs=>obtain⟨_,_,_,e,_⟩:=x; exact⟨_,e⟩
 |own y=>exact x
 |xd fs=>obtain⟨_,⟨o,_,_,e,_⟩,_⟩:=x; exact⟨_,e⟩
 |rng lo hi=>obtain⟨_,_,_,e⟩:=x; exact⟨_,e⟩
 |frz z u=>exact⟨_,x.1⟩
 |tbl ps=>exact⟨_,(show h.get? a=some {cls:=.none,data:=.fields ps} from x)⟩
 |met f y=>exact⟨_,(show h.get? a=some (PySem.W.methodObj (.ref f) (.ref y)) from x)⟩
 |ext q=>exact x.2.1
noncomputable def FlyAt(h:Heap)(l:List PySem.Env)(x T:Addr)(C:y9):Prop:=(∃B:Heap,h.FunFrames B l)/\x∉frs l/\T∉frs l/\T≠x/\∃(q:Obj) (vs:Array y9) (F:Obj) (z:Array y9) (a0:y9),h.get? x=some q/\q.cls=C/\vs[0]?=some a0/\q.data=.fields vs/\vs[1]?=some (.ref T)/\h.get? T=some F/\F.data=.fields z/\z[3]?=some .none
noncomputable def F1(h:Heap)(l:List PySem.Env)(x T:Addr):Heap:=hideAll h (x::T::frs l)
theorem FlyAt.flying(f:FlyAt h l x T C):∃a0,Heap.FlyingW (F1 h l x T) l x C a0 h:=by
 obtain⟨⟨B,ff⟩,n1,n2,O,J,vs,M,G,a0,z,hc,h0,hd,h1,U,F,Z⟩:=f;refine⟨a0,fun b o q=>of_hideAll _ q,hideAll_none _ (.head _),funFrames_hide ff fun env z a ha=>?_,J,vs,T,M,G,z,⟨hc,h0⟩,hd,h1,hideAll_none _ (.tail _ (.head _)),O,U,F,Z⟩;exact .tail _ (.tail _ (List.mem_filterMap.mpr ⟨env,z,ha⟩))
theorem FlyAt.of(f:Heap.FlyingW B l x C a0 h):∃T,B.get? T=none/\FlyAt h l x T C:=by
 obtain⟨f1,f2,J,Z,vs,T,oT,M,O,⟨hc,h0⟩,hd,h1,hn,ne,U,G,h3⟩:=f;refine⟨T,hn,⟨B,J⟩,fun z=>?_,fun z=>?_,ne,Z,vs,oT,M,a0,O,hc,h0,hd,h1,U,G,h3⟩
 ·obtain⟨_,o,F,q⟩:=J.mem z;rw[O] at F; cases F;exact q vs hd
 ·obtain⟨_,o,F,q⟩:=J.mem z;rw[U] at F; cases F;exact q M G
section
variable{P:yl}{w:y08}{h h':Heap}{l:List PySem.Env}{x T:Addr}{H:Hp}
theorem Mn(st:(F1 h l x T).StaysIn h')(Z:h.UpToSlots h')(M:∃B:Heap,h.FunFrames B l):Un (frs l) [x,T] H H h h':=by
 have O:∀b o,h.get? b=some o->b∉frs l->b∉[x,T]->h'.get? b=some o:=fun b o q z F=>st b o (y3b _ q (by
  simp only[yu,yo,or_false,not_or] at F |-
  exact⟨F.1,F.2,z⟩))
 have G:∀b o,h.get? b=some o->b∈frs l->∃G,h'.get? b=some {o with slots:=G}:=fun b o q z=>by
  obtain⟨B,M⟩:=M;obtain⟨_,o',U,J⟩:=M.mem z;rw[q] at U; cases U;exact Z b o q J
 refine⟨fun b o q _ z F=>O b o q z F,fun b o q _ z _=>G b o q z,fun _ _ _ n _=>n,fun b o q F=>?_,fun _ _ q=>q,fun _ _ _ q=>q,fun _ ps q=>⟨#[],by rw[q]; simp⟩⟩;by_cases z:b∈frs l
 ·obtain⟨_,e⟩:=G b o q z;exact⟨_,e⟩
 ·exact⟨_,O b o q z F⟩
theorem Mo(ok:HOk P w H h)(st:(F1 h l x T).StaysIn h')(nx:H x=none)(G:H T=none)(F:∀b∈frs l,H b=none):HOk P w H h':=fun a o e=>by
 have B:∀b u,H b=some u->b∉x::T::frs l:=fun b u q z=>by
  rcases List.mem_cons.mp z with rfl|z
  ·rw[nx] at q; cases q
  ·rcases List.mem_cons.mp z with rfl|z
   ·rw[G] at q; cases q
   ·rw[F b z] at q; cases q
 refine(ok a o e).stay (fun b u hb q=>st b u (y3b _ q ?_)) (fun _ q=>q) fun _ _ q=>q;rcases hb with rfl|hb
 ·exact B _ _ e
 ·exact B _ _ hb
end
noncomputable def CX1(P:yl)(w:y08):CXT:=fun outer H s E e s'=>∃(x T C:Addr) (H':Hp),e=.ref x/\s'.os=s.os/\AllBare s'.gens/\Un (frs outer) [] H H' s.heap s'.heap/\HOk P w H' s'.heap/\FlyAt s'.heap outer x T (.ref C)/\s.heap.get? x=none/\s.heap.get? T=none/\H' x=none/\H' T=none/\E (.ref C) none H'
section
variable{P:yl}{w:y08}{K:y3}{mg:Str->Option y9}{base:Heap}{N:List Str}{qual:Str}{scope:Scope}{f:Addr}{cd:y9}{A:y05}{outer:List PySem.Env}{s₀:y6}{H₀:Hp}{E:XK}
theorem BV:Ig (CX1 P w) (AS (CX1 P w) P w K mg base N qual scope f cd A outer s₀ H₀ E) E:=by
 intro pins σ H s e s' I h;obtain⟨x,T,C,H',rfl,os,aa,un,ac,ae,nx,nT,hx,hT,q⟩:=h;have M:=I.call' os un ac aa (fun b z=>absurd z (by simp));obtain⟨a0,fl⟩:=ae.flying;refine wpAny_leaves_onW I.ok.frames rfl fl fun h' af up=>?_;obtain⟨T',am,O⟩:=FlyAt.of af;have J:∀b,s.heap.get? b=none->s₀.heap.get? b=none:=fun b z=>by
  cases F:s₀.heap.get? b with
  |none=>rfl
  |some o=>
   obtain⟨o',Z⟩:=I.base.there b o F (by intro z; exact absurd (show b∈([]:List Addr) from z) (by simp));rw[z] at Z; cases Z
 have ag:∀b,s'.heap.get? b=none->s₀.heap.get? b=none:=fun b z=>by
  cases F:s₀.heap.get? b with
  |none=>rfl
  |some o=>
   obtain⟨o',Z⟩:=M.base.there b o F (by intro z; exact absurd (show b∈([]:List Addr) from z) (by simp));rw[z] at Z; cases Z
 have hL:∀b o,s₀.heap.get? b=some o->b≠s₀.heap.objs.size:=fun b o F=>y0m (ym F);have tT:s₀.heap.get? T'=none/\H' T'=none:=by
  cases q1:s'.heap.get? T' with
  |none=>
   refine⟨ag _ q1,?_⟩;cases q2:H' T' with
   |none=>rfl
   |some u=>obtain⟨o,Z⟩:=(ac _ _ q2).obj; rw[q1] at Z; cases Z
  |some o=>
   have hm:T'∈x::T::frs (AS (CX1 P w) P w K mg base N qual scope f cd A outer s₀ H₀ E).stack:=by
    refine Classical.byContradiction fun z=>?_;have:=y3b _ q1 z;rw[show hideAll s'.heap _=F1 s'.heap _ x T from rfl,am] at this;cases this
   rcases List.mem_cons.mp hm with rfl|hm
   ·exact absurd rfl O.2.2.2.1
   ·rcases List.mem_cons.mp hm with rfl|hm
    ·exact⟨J _ nT,hT⟩
    ·obtain⟨⟨B,ff⟩,_⟩:=ae;obtain⟨_,o',ho,ah⟩:=ff.mem hm;obtain⟨sl,hs⟩:=up _ _ ho ah;obtain⟨_,_,_,_,_,_,oT,ts,_,_,_,_,_,_,aj,ao,_⟩:=O;rw[hs] at aj;cases aj;exact absurd ao (ah ts)
 have US:=Mn (H:=H') af.1 up ae.1;have al:∀b o,s₀.heap.get? b=some o->b∉frs outer->b∉frs (AS (CX1 P w) P w K mg base N qual scope f cd A outer s₀ H₀ E).stack:=fun b o F n z=>by
  rcases List.mem_cons.mp (I.stkSub b z) with z|z
  ·exact hL b o F z
  ·exact n z
 have U:∀b o,s₀.heap.get? b=some o->b∉[x,T]:=fun b o F z=>by
  simp only[yu,yo,or_false] at z;rcases z with rfl|rfl
  ·rw[J _ nx] at F; cases F
  ·rw[J _ nT] at F; cases F
 have G:∀b,b∉(AS (CX1 P w) P w K mg base N qual scope f cd A outer s₀ H₀ E).ex:=fun b z=>absurd (show b∈([]:List Addr) from z) (by simp);refine⟨x,T',C,H',rfl,os.trans I.os,aa,?_,Mo ac af.1 hx hT M.stkFree,O,J _ nx,tT.1,hx,tT.2,q⟩;refine⟨fun b o F n n1 _=>?_,fun b o F n n1 _=>?_,fun b o F n _=>M.base.free b o F n (G b),fun b o F _=>?_,M.base.tups,M.base.frzs,M.base.tbls⟩
 ·exact US.keep b o (M.base.keep b o F n n1 (G b)) (M.base.free b o F n (G b)) (al b o F n1) (U b o F)
 ·obtain⟨sl,e1⟩:=M.base.slot b o F n n1 (G b);by_cases z:b∈frs (AS (CX1 P w) P w K mg base N qual scope f cd A outer s₀ H₀ E).stack
  ·obtain⟨ak,e2⟩:=US.slot b _ e1 (M.base.free b o F n (G b)) z (U b o F);exact⟨ak,e2⟩
  ·exact⟨sl,US.keep b _ e1 (M.base.free b o F n (G b)) z (U b o F)⟩
 ·obtain⟨o',e1⟩:=M.base.there b o F (G b);exact US.there b o' e1 (U b o F)
theorem Ry(I:Inv (AS (CX1 P w) P w K mg base N qual scope f cd A outer s₀ H₀ E) pins σ H s)(hx:Heap.MadeExcOf s.heap h' x (.ref C) vs)(q:E (.ref C) none H) :
  (AS (CX1 P w) P w K mg base N qual scope f cd A outer s₀ H₀ E).xe (.ref x) {s with heap:=h'}:=by
 have ff:=I.stack;have F:∀b,b∉(AS (CX1 P w) P w K mg base N qual scope f cd A outer s₀ H₀ E).ex:=fun b z=>absurd (show b∈([]:List Addr) from z) (by simp);refine wpAny_leaves_madeW (base:=hideAll s.heap (frs (AS (CX1 P w) P w K mg base N qual scope f cd A outer s₀ H₀ E).stack)) (h:=s.heap) I.ok.frames rfl (fun b o z=>of_hideAll _ z) (funFrames_hide ff fun env he a ha=>List.mem_filterMap.mpr ⟨env,he,ha⟩) hx fun Z t fl _ _ up=>?_;obtain⟨T,nT,aa⟩:=FlyAt.of fl;have kp:∀b o,s.heap.get? b=some o->b∉frs (AS (CX1 P w) P w K mg base N qual scope f cd A outer s₀ H₀ E).stack->Z.get? b=some o:=fun b o z n=>fl.1 b o (y3b _ z n);have M:∀b o,s.heap.get? b=some o->b∈frs (AS (CX1 P w) P w K mg base N qual scope f cd A outer s₀ H₀ E).stack->∃M,Z.get? b=some {o with slots:=M}:=fun b o z n=>by
  obtain⟨_,o',ho,J⟩:=ff.mem n;rw[z] at ho; cases ho;exact up b o (hx.keeps b o z) J
 have sT:s.heap.get? T=none:=by
  cases q1:s.heap.get? T with
  |none=>rfl
  |some o=>
   have hm:T∈frs (AS (CX1 P w) P w K mg base N qual scope f cd A outer s₀ H₀ E).stack:=by
    refine Classical.byContradiction fun z=>?_;have:=y3b _ q1 z;rw[nT] at this;cases this
   obtain⟨_,o',ho,J⟩:=ff.mem hm;obtain⟨af,hs⟩:=M _ _ ho hm;obtain⟨_,_,_,_,_,_,oT,ts,_,_,_,_,_,_,U,ae,_⟩:=aa;rw[hs] at U;cases U;exact absurd ae (J ts)
 have G:∀b,s.heap.get? b=none->s₀.heap.get? b=none:=fun b z=>by
  cases B:s₀.heap.get? b with
  |none=>rfl
  |some o=>
   obtain⟨o',e'⟩:=I.base.there b o B (F b);rw[z] at e'; cases e'
 have O:∀b,s.heap.get? b=none->H b=none:=fun b z=>by
  cases q2:H b with
  |none=>rfl
  |some u=>obtain⟨o,e'⟩:=(I.hok _ _ q2).obj; rw[z] at e'; cases e'
 have ac:∀b o,s₀.heap.get? b=some o->b∉frs outer->b∉frs (AS (CX1 P w) P w K mg base N qual scope f cd A outer s₀ H₀ E).stack:=fun b o B n z=>by
  rcases List.mem_cons.mp (I.stkSub b z) with z|z
  ·exact y0m (ym B) z
  ·exact n z
 refine⟨x,T,C,H,rfl,I.os,I.bare,?_,fun a o e=>?_,aa,G _ hx.new,G _ sT,O _ hx.new,O _ sT,q⟩
 ·refine⟨fun b o B n n1 _=>kp b o (I.base.keep b o B n n1 (F b)) (ac b o B n1),fun b o B n n1 _=>?_,fun b o B n _=>I.base.free b o B n (F b),fun b o B _=>?_,I.base.tups,I.base.frzs,I.base.tbls⟩
  ·obtain⟨s1,e1⟩:=I.base.slot b o B n n1 (F b);by_cases z:b∈frs (AS (CX1 P w) P w K mg base N qual scope f cd A outer s₀ H₀ E).stack
   ·obtain⟨s2,e2⟩:=M b _ e1 z;exact⟨s2,e2⟩
   ·exact⟨s1,kp b _ e1 z⟩
  ·obtain⟨o',e1⟩:=I.base.there b o B (F b);by_cases z:b∈frs (AS (CX1 P w) P w K mg base N qual scope f cd A outer s₀ H₀ E).stack
   ·obtain⟨s2,e2⟩:=M b _ e1 z;exact⟨_,e2⟩
   ·exact⟨_,kp b _ e1 z⟩
 ·have tr:∀b u,H b=some u->b∉frs (AS (CX1 P w) P w K mg base N qual scope f cd A outer s₀ H₀ E).stack:=fun b u z n=>by
   rw[I.stkFree b n] at z; cases z
  refine(I.hok a o e).stay (fun b u hb z=>kp b u z ?_) (fun _ z=>z) fun _ _ z=>z;rcases hb with rfl|hb
  ·exact tr _ _ e
  ·exact tr _ _ hb
theorem Rz(O:OwnCls x C bm newId mg base)(Fn:ExcBaseFacts Bn newId inN bmN)(U:bm.contains (.type Bn)=true)(FB:ExcBaseFacts B nid initId bm)
  (ha:PA (AS (CX1 P w) P w K mg base N qual scope f cd A outer s₀ H₀ E) (e::es) t) (hg:Gl (AS (CX1 P w) P w K mg base N qual scope f cd A outer s₀ H₀ E) x) (M:(x==("__debug__" : Str))=false:=by decide) (F:Aw (e::es)=true:=by rfl) :
  PS (AS (CX1 P w) P w K mg base N qual scope f cd A outer s₀ H₀ E) (.Raise (some (.Call (.Name x np) (e::es) [] cpos)) none pos) (fun D σ H=>t σ H fun vs H1=>vs.length<=yr/\E (.ref C) none H1):=by
 refine⟨?_⟩;intro pins s σ H D I h;obtain⟨tl,Nn,nm,qq,bs,hdct,sn,sub,ab,col,dd,k0,k1,k2,k3,k5,mN,hC,hN,J,TT⟩:=O.obj;refine wpAny_Raise_call_subU (C:=C) (nm:=nm) (q:=qq) (N:=Nn) (bs:=bs) (bm:=tl) (hdct:=hdct) (sn:=sn) (sub:=sub) (ab:=ab) (col:=col) (dd:=dd) (k0:=k0) (k1:=k1) (k2:=k2) (k3:=k3) (k5:=k5) Fn U FB (mN:=mN) (TT.hasType FB.hasBase) (I.ok.hd rfl) (Cj F) J (Dz I hg O.bound ⟨rfl,?_⟩ M);have z:=F;rw[Aw,y8,y0p] at z;have he:=CA (es:=es) (env:=(AS (CX1 P w) P w K mg base N qual scope f cd A outer s₀ H₀ E).env) z.1;have Z:=ha cpos pins s σ H _ I h;rw[he] at Z |-;refine Calls.evalArgs_plain (y1d Z (fun us s2 h2=>?_) fun _ _ y=>y);obtain⟨vs,H1,G,r,hz,q⟩:=h2;exact⟨rfl,by rw[<- r.length]; exact hz,G.bk _ _ hC,hN.keeps G.bk,TT.keeps G.bk,fun h' x' mx=>Ry G mx q⟩
theorem S0{v:y9}{a b:Str}(ha:v.isStr a=true)(hb:v.isStr b=true):a=b:=by
 unfold Value.isStr at ha hb;split at ha<;>simp_all
end
theorem S1{K:y3}{mg:Str->Option y9}{base:Heap}{x:Str}{C:Addr}{bm:List y9}{B:String}(M:Mod K mg base)(e:nsIn K yk x=some (some (.ref C)))(q:excIn K C bm B=true):OwnCls x C bm B mg base:=by
 obtain⟨G,hb,F⟩:=M.blt;obtain⟨o,es,ep,J,hd,hk,hm⟩:=M.glob;open Classical in
 refine own_of_in (p:=default) (loose:=es.toList.filterMap fun y=>if h:∃z,y.key.isStr z=true then some (Classical.choose h) else none) M.kin ⟨M.glob,hb,M.nolimit,F,fun z _ hl _ _ _=>?_⟩ e q;rw[<- hm z];unfold nsFind findBy;rw[Option.map_eq_none_iff,Array.find?_eq_none];intro y hy hz;refine hl (List.mem_filterMap.mpr ⟨y,Array.mem_toList_iff.mpr hy,?_⟩);have h:∃z,y.key.isStr z=true:=⟨z,hz⟩;rw[dif_pos h];exact congrArg some (S0 (Classical.choose_spec h) hz)
structure CalleeX(P:yl)(w:y08)(K:y3)(mg:Str->Option y9)(base:Heap)(x:Str)(ps:List Str)(k:Nat)(sp:Sp):Prop where
 ex:∃f fd,FnOk P w K mg base (CX1 P w) k f fd ps sp/\mg x=some (.ref f)/\PySem.W.keepIn K (.ref f)=true/\Binds K fd ps []
theorem BW(C:CalleeX X.prog X.w X.K X.mg X.base x ps k sp)(hx:Ig (CX1 X.prog X.w) X E)(U:Room j X.A)(hk:k<=j)(ha:PA X (e::es) t)(Z:Gl X x:=by rfl)
  (M:(x==("__debug__" : Str))=false:=by decide) (B:Aw (e::es)=true:=by rfl) :
  PE X (.Call (.Name x p) (e::es) [] pos) (Em sp [] E t):=by
 have z:=B;rw[Aw,y8,y0p] at z;have he:=CA (es:=es) (env:=X.env) z.1;have G:=Cj (pos:=pos) (env:=X.env) z.2;obtain⟨f,fd,F,hm,J,hb⟩:=C;refine⟨?_⟩;intro pins s σ H Q I h;refine y1n (Dz I Z hm ?_ M);refine y2a (h₀:=X.base) I.ok.mod.kin J (thn (ha pos pins s σ H _ I h) fun us s1 ⟨vs,H1,O,r,q⟩=>⟨O.kIn,?_⟩) he G;exact Ih F (U.mono hk) hb .nil hx O r q
section
variable{P:yl}{w:y08}{K:y3}{mg:Str->Option y9}{base:Heap}
theorem Fun.okx{x qual:Str}{st:Stmt}{f:Addr}{fd:y14}{N ps:List Str}{k:Nat}{sp:Sp}(F:Fun K x qual st f fd)(S:FnScope N ps (defScope st))(len:∀vs H Q E,sp vs H Q E->vs.length=ps.length)
  (z:∀(q:y9) (A:y05) (outer:List PySem.Env) (s:y6) (H:Hp) (vs:List V) (Q:VK) (E:XK),Room k (A.deeper (envOfC qual (defScope st) s.heap.objs.size f q))->sp vs H Q E->
   ∃t,PSs (AS (CX1 P w) P w K mg base N qual (defScope st) f q A outer s H E) (defBody st) t/\t {nx:=fun _ H'=>Q .non H',rt:=Q} (start N vs) H):FnOk P w K mg base (CX1 P w) (k+1) f fd ps sp:=by
 obtain⟨oc,od,kV,U,Z,an,q,ct,J,rfl,M,G⟩:=F.ex
 exact M6 M G S len fun A outer s H vs Q E O B=>z q A outer s H vs Q E O B
end
section
variable{X:Cx}{pins:List (Addr×Obj)}{σ:St}{H:Hp}{s:y6}{h':Heap}{x T:Addr}
structure Strange(X:Cx)(pins:List (Addr×Obj))(x:Addr):Prop where
 new:X.s₀.heap.get? x=none
 loc:x≠X.env.locals
 cell:∀y c,X.env.cells.lookup y=some c->c≠x
 pin:∀p∈X.pn++pins,p.1≠x
theorem Inv.strange(I:Inv X pins σ H s)(F:X.ex=[])(n:s.heap.get? x=none):Strange X pins x:=by
 refine⟨?_,?_,fun y c e z=>?_,fun p G z=>?_⟩
 ·cases q:X.s₀.heap.get? x with
  |none=>rfl
  |some o=>
   obtain⟨o',e⟩:=I.base.there x o q (by rw[F]; simp);rw[n] at e; cases e
 ·rintro rfl;obtain⟨m,⟨o,_,_,B,_⟩,_⟩:=I.loc;rw[n] at B; cases B
 ·obtain⟨v,o,B,_⟩:=I.cell y c e;rw[z,n] at B; cases B
 ·obtain⟨e,_⟩:=I.pin p G;rw[z,n] at e; cases e
theorem Inv.fly(I:Inv X pins σ H s)(Z:X.ex=[])(st:(F1 s.heap X.stack x T).StaysIn h')(M:s.heap.UpToSlots h')(sx:Strange X pins x)(sT:Strange X pins T)(nx:H x=none)(nT:H T=none) :
  Inv X pins σ H {s with heap:=h'}:=by
 have G:=Mn (H:=H) st M ⟨_,I.stack⟩;have F:∀b,(b≠x)->(b≠T)->b∉[x,T]:=fun b h1 h2 z=>by
  simp only[yu,yo,or_false] at z;exact z.elim h1 h2
 have J:∀b o,X.s₀.heap.get? b=some o->b∉[x,T]:=fun b o e=>F b (fun z=>by rw[z,sx.new] at e; cases e) fun z=>by rw[z,sT.new] at e; cases e
 have aa:∀b,b∉X.ex:=fun b=>by rw[Z]; simp
 have O:∀b o,X.s₀.heap.get? b=some o->b∉X.fs->b∉frs X.stack:=fun b o e n z=>by
  rcases List.mem_cons.mp (I.stkSub b z) with z|z
  ·exact y0m (yw (ym e) I.ok.above) z
  ·exact n z
 have q:∀c v,s.heap.IsCell c v->Heap.IsCell h' c v:=fun c v ⟨o,ho,hd⟩=>by
  obtain⟨sl,e⟩:=M c o ho fun vs z=>by rw[hd] at z; cases z
  exact⟨_,e,hd⟩
 refine⟨I.ok,I.os,I.bare,⟨fun b o e n hb hx=>?_,fun b o e n hb hx=>?_,I.base.free,fun b o e hx=>?_,I.base.tups,I.base.frzs,I.base.tbls⟩,?_,fun y c e=>?_,I.free,I.freeC,fun p U=>?_,Mo I.hok st nx nT I.stkFree,I.len⟩
 ·exact G.keep b o (I.base.keep b o e n hb hx) (I.base.free b o e n hx) (O b o e hb) (J b o e)
 ·obtain⟨s1,B⟩:=I.base.slot b o e n hb hx;by_cases z:b∈frs X.stack
  ·obtain⟨s2,e2⟩:=G.slot b _ B (I.base.free b o e n hx) z (J b o e);exact⟨s2,e2⟩
  ·exact⟨s1,G.keep b _ B (I.base.free b o e n hx) z (J b o e)⟩
 ·obtain⟨o',B⟩:=I.base.there b o e hx;exact G.there b o' B (J b o e)
 ·obtain⟨m,hn,hl⟩:=I.loc;refine⟨m,M.ns hn,fun i y v B e2 e3=>?_⟩;obtain⟨u,r,l⟩:=hl i y v B e2 e3;refine⟨u,r,?_⟩;rcases l with l|⟨k,c,e,z⟩
  ·exact .inl l
  ·exact .inr ⟨k,c,e,q c _ z⟩
 ·obtain⟨v,z⟩:=I.cell y c e;exact⟨v,q c v z⟩
 ·obtain⟨e,n,ne,nf,d⟩:=I.pin p U;have ns:p.1∉frs X.stack:=fun z=>(List.mem_cons.mp (I.stkSub _ z)).elim ne nf;exact⟨G.keep p.1 p.2 e n ns (F _ (sx.pin p U) (sT.pin p U)),n,ne,nf,d⟩
noncomputable def HO.exc(x C:Addr):HO:=.ext fun h=>∃o,h.get? x=some o/\o.cls=.ref C
theorem Inv.shown(I:Inv X pins σ H s)(G:Strange X pins x)(nx:H x=none)(M:∃o,s.heap.get? x=some o/\o.cls=.ref C):Inv X pins σ (upd H x (HO.exc x C)) s:=by
 have B:∀b,b≠x->upd H x (HO.exc x C) b=H b:=fun b n=>AQ n;have F:∀b u,H b=some u->upd H x (HO.exc x C) b=some u:=fun b u e=>by
  rw[B b fun z=>by rw[z,nx] at e; cases e]; exact e
 refine⟨I.ok,I.os,I.bare,⟨I.base.keep,I.base.slot,fun b o e n hx=>?_,I.base.there,fun b xs e=>F _ _ (I.base.tups b xs e),fun b o u e=>F _ _ (I.base.frzs b o u e),fun b ps e=>?_⟩,I.loc,I.cell,?_,fun y c e=>?_,fun p J=>?_,fun b u e=>?_,I.len⟩
 ·rw[B b fun z=>by rw[z,G.new] at e; cases e];exact I.base.free b o e n hx
 ·obtain⟨m,q⟩:=I.base.tbls b ps e;exact⟨m,F _ _ q⟩
 ·rw[B _ fun z=>G.loc z.symm]; exact I.free
 ·rw[B _ (G.cell y c e)]; exact I.freeC y c e
 ·obtain⟨e,n,r⟩:=I.pin p J;exact⟨e,by rw[B _ (G.pin p J)]; exact n,r⟩
 ·by_cases hb:b=x
  ·subst hb;rw[A4] at e;cases e;obtain⟨o,h1,h2⟩:=M;exact⟨⟨o,h1,h2⟩,⟨o,h1⟩,fun U O ⟨o,a,b⟩ k=>⟨o,k _ a,b⟩⟩
  ·rw[B b hb] at e;exact(I.hok b u e).stay (fun _ _ _ q=>q) (fun c q=>F _ _ q) fun _ _ q=>F _ _ q
theorem Inv.gone{m:Str->Option y9}{t':Nat}(I:Inv X pins σ H s)(hN:X.N.Nodup)(hi:X.N[i]?=some n)(hn:Heap.Ns h' X.env.locals (fun y=>if y=n then v else m y))(hm:s.heap.Ns X.env.locals m)(F:Heap.SameBut X.env.locals s.heap h') :
  Inv X pins (σ.set i none) H {s with heap:=h',toks:=t'}:=by
 obtain⟨m0,M,hl⟩:=I.loc;have em:m0=m:=M.eq_nsMap.trans hm.eq_nsMap.symm;subst em;have cne:=I.cne;have B:∀b o,X.s₀.heap.get? b=some o->b≠X.env.locals:=fun b o e=>y0m (yw (ym e) I.ok.above);refine⟨I.ok,I.os,I.bare,⟨fun b o e n hb hx=>(F.2 b (B b o e)).trans (I.base.keep b o e n hb hx),fun b o e n hb hx=>?_,I.base.free,fun b o e hx=>?_,I.base.tups,I.base.frzs,I.base.tbls⟩,⟨_,hn,fun j y v' e1 J e3=>?_⟩,fun y c e=>?_,I.free,I.freeC,fun p hp=>?_,fun b u e=>?_,by simpa using I.len⟩
 ·obtain⟨sl,q⟩:=I.base.slot b o e n hb hx;exact⟨sl,(F.2 b (B b o e)).trans q⟩
 ·obtain⟨o',q⟩:=I.base.there b o e hx;exact⟨o',(F.2 b (B b o e)).trans q⟩
 ·by_cases O:j=i
  ·subst O;have G:j<σ.length:=by rw[I.len]; exact(List.getElem?_eq_some_iff.mp hi).1
   rw[y21 G] at J;cases J
  ·rw[y2u (y2t O)] at J;obtain⟨u,r,q⟩:=hl j y v' e1 J e3;refine⟨u,r,?_⟩;rcases q with⟨k,e⟩|⟨k,c,e,z⟩
   ·refine .inl ⟨k,?_⟩;have:y≠n:=fun e=>O (I9 hN e1 (e ▸ hi));simp[this,e]
   ·exact .inr ⟨k,c,e,z.sameBut F (cne y c e)⟩
 ·obtain⟨U,z⟩:=I.cell y c e;exact⟨U,z.sameBut F (cne y c e)⟩
 ·obtain⟨e,n,Z,nf,d⟩:=I.pin p hp;exact⟨(F.2 p.1 Z).trans e,n,Z,nf,d⟩
 ·refine(I.hok b u e).stay (fun c U hc q=>(F.2 c ?_).trans q) (fun _ q=>q) fun _ _ q=>q;rintro rfl;rcases hc with rfl|hc
  ·rw[I.free] at e; cases e
  ·rw[I.free] at hc; cases hc
end
abbrev Cx.marked(X:Cx)(e:y9):Cx:={X with A:=X.A.mark (some e),calm:=false,xe:=fun _ _=>False}
theorem Cx.Ok.marked{X:Cx}{e:y9}(ok:X.Ok):(X.marked e).Ok:=
 ⟨ok.mod,ok.kind,ok.glob,ok.blt,ok.above,ok.inj,ok.has,ok.cab,(fun z=>nomatch z),ok.frames,ok.stk,ok.exf,ok.bs,ok.bsz,ok.noex,ok.exfs,ok.funs,ok.frf⟩
section
variable{X:Cx}{pins:List (Addr×Obj)}{σ:St}{H:Hp}{s:y6}{e:y9}
theorem Inv.marked(I:Inv X pins σ H s)(ok:(X.marked e).Ok):Inv (X.marked e) pins σ H s:=⟨ok,I.os,I.bare,I.base,I.loc,I.cell,I.free,I.freeC,I.pin,I.hok,I.len⟩
theorem Inv.unmarked(I:Inv (X.marked e) pins σ H s)(ok:X.Ok):Inv X pins σ H s:=⟨ok,I.os,I.bare,I.base,I.loc,I.cell,I.free,I.freeC,I.pin,I.hok,I.len⟩
end
end L2
namespace L2
open PySem PySem.Spec PyProof.Rows PySem.W PySem.Builtin PySem.Builtin.ObjectAttr PySem.Builtin.Getset_descriptor PySem.Calls
section
variable{prog:yl}{w:y08}{A:y05}{E:y9->y6->Prop}{s:y6}{K:y3}{x C:Addr}
theorem S2{R:Result->y6->Prop}(X:K.In s.heap)(F:Looks (y0e prog w) s.heap (typeOf (.ref x)) (.ref C)) (hm:mroIn K C (.type "object")=some true)
  (h:R (.ok (.ret (.ref C))) s):codeAny (y0e prog w) A (.call (.builtin "getset_descriptor.__get__") ⟨[.builtin "object.__class__",.ref x,tp],[]⟩) R s:=by
 obtain⟨q,g,z,t,os⟩:=s;have B:=looks_mroIn (M:=y0e prog w) X hm;refine codeAny_call_builtin KF.slot_gs.plain KF.entry_gs (KF.slot_gs.check _ _ _ _ _ _ _ _ KF.type_class (KF.args_gs _ _ _) ?_);unfold Builtin.«getset_descriptor.__get__» descrGet;rw[dga_obj];refine yi (yy ?_);unfold descrGetter descrCheckInstance descrNameAndClass isInstance;simp only[KF.owner_class];repeat lk
 refine⟨Code.quiet_builtin _ (by decide+kernel),codeAny_builtin KF.entry_class ?_⟩;unfold Builtin.«object.__class__» shownTypeOf;repeat lk
 exact h
theorem S3(X:K.In h) (ha:findIn K (.ref C) "__class__" = some (some (.builtin "object.__class__"))) (z:specialIn K (.builtin "object.__class__") "__get__" = some (some (.builtin "getset_descriptor.__get__"))) (q:takesIn K (.builtin "object.__class__")=some true) :
  Looks M h (find (.ref x) (.ref C) "__class__") (.bind (.builtin "getset_descriptor.__get__") (.builtin "object.__class__")):=by
 have B:=looks_takesIn (M:=M) X q;exact(looks_findIn X ha).andThen ((show Looks M h (getOf (some (.builtin "object.__class__"))) (some (.builtin "getset_descriptor.__get__")) from looks_specialIn X z).andThen ((show Looks M h (dataDescriptor? (some (.builtin "object.__class__")) (some (.builtin "getset_descriptor.__get__"))) (some (_,_)) from B.andThen .now).andThen (Looks.tag .now)))
theorem S4{Q:Fin->y6->Prop}(X:K.In s.heap)(z:Looks (y0e prog w) s.heap (typeOf (.ref x)) (.ref C)) (ha:findIn K (.ref C) "__class__" = some (some (.builtin "object.__class__"))) (B:specialIn K (.builtin "object.__class__") "__get__" = some (some (.builtin "getset_descriptor.__get__"))) (q:takesIn K (.builtin "object.__class__")=some true) (hm:mroIn K C (.type "object")=some true)
  (h:Q (.done (.ret (.ref C))) s):y0j (y0e prog w) A (Builtin.«object.__getattribute__» ⟨[.ref x,.str "__class__" tk],[]⟩) Q E s:=by
 obtain⟨G,g,J,t,os⟩:=s;have F:=S3 (M:=y0e prog w) (x:=x) X ha B q;unfold Builtin.«object.__getattribute__»;refine yi (yy (yi (yy (yi (z.at (yi (F.at ?_)))))));exact yi (y2q (wpAny_call (S2 X z hm (yy h))))
theorem S5{Q:Unit->y6->Prop}(G:Looks M s.heap (typeOf (.ref x)) (.ref C)) (B:Looks M s.heap (isSubtype (.ref C) (.type "BaseException")) true) (hq:Q () s) :
  y0j M A (checkBuiltinCall "BaseException.__getattribute__" ⟨[.ref x,nameV],[]⟩) Q E s:=by
 obtain⟨z,g,J,t,os⟩:=s;have hk:builtinKind "BaseException.__getattribute__" = some .slot:=by decide+kernel
 have q:splitId "BaseException.__getattribute__" = some ("BaseException","__getattribute__"):=by decide+kernel
 have LI:Looks M z (isInstance (.ref x) (.type "BaseException")) true:=G.andThen B;have ha:=F.args_bexc_ga (.ref x) nameV;simp only[checkBuiltinCall,hk,q];refine yi (LI.at ?_);repeat (first|assumption|wp_step)
theorem S6{R:Result->y6->Prop}(X:K.In s.heap)(z:Looks (y0e prog w) s.heap (typeOf (.ref x)) (.ref C)) (hb:subIn K (.ref C) (.type "BaseException")=some true) (ha:findIn K (.ref C) "__class__" = some (some (.builtin "object.__class__"))) (B:specialIn K (.builtin "object.__class__") "__get__" = some (some (.builtin "getset_descriptor.__get__"))) (q:takesIn K (.builtin "object.__class__")=some true) (hm:mroIn K C (.type "object")=some true)
  (h:R (.ok (.ret (.ref C))) s):codeAny (y0e prog w) A (.call (.builtin "BaseException.__getattribute__") ⟨[.ref x,.str "__class__" tk],[]⟩) R s:=
 codeAny_call_builtin F.excAttr_ValueError.ga.plain F.entry_bexc_ga (S5 z (looks_subIn X hb) (S4 X z ha B q hm h))
theorem S7{Q:Option y9->y6->Prop}(X:K.In s.heap)(O:Looks (y0e prog w) s.heap (typeOf (.ref x)) (.ref C)) (hb:subIn K (.ref C) (.type "BaseException")=some true) (J:findIn K (.ref C) "__getattribute__" = some (some (.builtin "BaseException.__getattribute__"))) (G:findIn K (.ref C) "__getattr__" = some none)
  (ha:findIn K (.ref C) "__class__" = some (some (.builtin "object.__class__"))) (U:specialIn K (.builtin "object.__class__") "__get__" = some (some (.builtin "getset_descriptor.__get__"))) (B:takesIn K (.builtin "object.__class__")=some true) (hm:mroIn K C (.type "object")=some true)
  (h:Q (some (.ref C)) {s with toks:=s.toks+1}):y0j (y0e prog w) A (getAttr? (.ref x) "__class__") Q E s:=by
 obtain⟨Z,g,dr,t,os⟩:=s;have L1:=looks_findIn (M:=y0e prog w) X J;have L2:=looks_findIn (M:=y0e prog w) X G;have q:(Value.builtin "BaseException.__getattribute__" == Value.builtin "object.__getattribute__")=false:=by decide+kernel
 have z:(onTheHeap (Value.ref C)&&Value.builtin "BaseException.__getattribute__" == Value.builtin "object.__getattribute__")=false:=by rw[q]; rfl
 have f3:=F.excAttr_ValueError.ga.bind (.ref x);unfold getAttr? getAttrBy? getAttrBy;refine yi (wpAny_mkText (yi (y3f (y2q (yi (O.at (yi (L1.at ?_))))))));dsimp only;rw[z,if_neg yg];unfold getAttrByItsOwn hookBefore callGetattribute boundAndCalled;refine yi (L2.at (yi (y3f (y2q ?_))));rw[yx,if_neg yg,f3];refine yi (yy (wpAny_call (S6 (s:=⟨Z,g,dr,t+1,os⟩) X O hb ha U B hm ?_)));exact handed_on rfl (yy h)
structure ExcC(K:y3)(C:Addr):Prop where
 cl:(clsIn K C).isSome=true
 hb:subIn K (.ref C) (.type "BaseException")=some true
 hga:findIn K (.ref C) "__getattribute__" = some (some (.builtin "BaseException.__getattribute__"))
 hgh:findIn K (.ref C) "__getattr__" = some none
 ha:findIn K (.ref C) "__class__" = some (some (.builtin "object.__class__"))
 hn:specialIn K (.builtin "object.__class__") "__get__" = some (some (.builtin "getset_descriptor.__get__"))
 htk:takesIn K (.builtin "object.__class__")=some true
 hm:mroIn K C (.type "object")=some true
theorem S8(c:ExcC K C):KitX K (.ref x) (.ref C) (fun h=>∃o,h.get? x=some o/\o.cls=.ref C) where
 ty:=fun M h _ ⟨o,F,hc⟩=>hc ▸ (Looks.ld F).andThen .now
 it:=fun _ _ X _=>by
  obtain⟨cd,B⟩:=Option.isSome_iff_exists.mp c.cl;unfold clsIn at B;split at B
  ·rename_i c' d' O G F;intro A' Q' E' s' k q;unfold isType loadHead;exact yi (wpAny_loadPart (k _ _ (X _ _ F)) (yy q))
  ·cases B
 ne:=fun h U dd Z n sl X J=>by
  obtain⟨cd,B⟩:=Option.isSome_iff_exists.mp c.cl;refine Bool.eq_false_iff.mpr fun q=>?_;have e:C=U:=Value.ref.inj (beq_iff_eq.mp q);subst e;unfold clsIn at B;split at B
  ·rename_i c' d' O G F;have z:=(X _ _ F).symm.trans J;cases z
  ·cases B
 ca:=fun X ⟨o,F,hc⟩ k=>S7 X (hc ▸ (Looks.ld F).andThen .now) c.hb c.hga c.hgh c.ha c.hn c.htk c.hm k
end
section
variable{X:Cx}
noncomputable def Mp(K:y3):List V->Hp->VK->Prop:=fun xs H Q=>∃(x C:Addr) (y:V) (d:y9) (b:Bool),xs=[.ref x,y]/\H x=some (HO.exc x C)/\RelV y d/\(∀u,RelV y u->u=d)/\ExcC K C/\kitOne K (.ref C) d=some b/\Q (.bl b) H
theorem EF:BR X (.builtin "isinstance") (Mp X.K):=by
 intro pins s σ H xs us Q I r h;obtain⟨x,C,y,d,b,rfl,hx,O,B,c,e,q⟩:=h;obtain⟨u,M,rfl,G,F⟩:=r.two;cases G;cases B _ F;obtain⟨J,_⟩:=(show ObjOk X.prog X.w H s.heap x (HO.exc x C) from I.hok x _ hx);exact kia_one (S8 c) I.kIn J e (fun z=>nomatch z) fun tk=>⟨.bl b,H,I.tok tk,rfl,q⟩
noncomputable def Mq:V->List V->Hp->VK->Prop:=fun x vs H Q=>∃(l:Addr) (bs:List Bool) (y:Bool),x=.ref l/\vs=[.bl y]/\H l=some (.lst (bs.map V.bl))/\Q (.int (bs.count y:Nat)) H
theorem S9:MtM X "list.count" Mq:=by
 intro pins s σ H x vs v us Q I B G h;obtain⟨l,bs,y,rfl,rfl,O,q⟩:=h;cases B;obtain⟨u,rfl,J⟩:=G.one;cases J;obtain⟨z,M,n,r,hl,e⟩:=I.lstM O;obtain rfl:=J2 r;refine y26 F.slot_list_count ⟨_,e,rfl⟩ F.entry_list_count (F.args_list_count_2 _ _) (SeqAt.list_countAt l _ n _ _ (.bool y) fun u=>u==Value.bool y) ⟨e,fun u hu=>?_,?_⟩
 ·rw[List.mem_toArray] at hu;obtain⟨b,hb,rfl⟩:=List.mem_map.mp hu;intro prog w E Q hq;refine SeqAt.EqAt.bool_bool b y prog w E Q ?_;cases b<;>cases y<;>exact hq
 ·refine⟨.int _,H,I.kept (h':=s.heap) (t':=s.toks+1) fun b u e=>e,⟨_,rfl⟩,?_⟩;rw[y2z,show(bs.map Value.bool).countP (fun u=>u==Value.bool y)=bs.count y by
   rw[List.countP_map]; exact congrArg (fun f=>bs.countP f) (funext fun b=>by cases b<;>cases y<;>rfl)]
  exact q
end
section
variable{P:yl}{w:y08}{K:y3}{mg:Str->Option y9}{base:Heap}{N:List Str}{qual:Str}{scope:Scope}{f:Addr}{cd:y9}{A:y05}{outer:List PySem.Env}{s₀:y6}{H₀:Hp}{E:XK}
theorem DC(hx:nsIn K yk x=some (some (.ref C)))(hq:excIn K C bm newId=true)(J:ExcBaseFacts Bn newId inN bmN)(F:bm.contains (.type Bn)=true)(M:ExcBaseFacts B nid initId bm)
  (ha:PA (AS (CX1 P w) P w K mg base N qual scope f cd A outer s₀ H₀ E) (e::es) t) (G:Gl (AS (CX1 P w) P w K mg base N qual scope f cd A outer s₀ H₀ E) x) (z:(x==("__debug__" : Str))=false:=by decide) (q:Aw (e::es)=true:=by rfl) :
  PS (AS (CX1 P w) P w K mg base N qual scope f cd A outer s₀ H₀ E) (.Raise (some (.Call (.Name x np) (e::es) [] cpos)) none pos) (fun D σ H=>t σ H fun vs H1=>vs.length<=yr/\E (.ref C) none H1):=
 ⟨fun pins s σ H D I h=>Rz (S1 I.mod hx hq) J F M ha G z q pins s σ H D I h⟩
end
end L2
namespace L2
open PySem PySem.Spec PyProof.Rows PySem.W
section
variable{X:Cx}{C:Addr}{m x:Str}{ps:List Str}{k j:Nat}{sp:Sp}{o e:Expr}{es:List Expr}{ta:TE}{t:TA}{p apos pos:Pos}{pl:Sem Bool}
end
section
variable{P:yl}{w:y08}{K:y3}{mg:Str->Option y9}{base:Heap}{k:Nat}{ps fr N:List Str}{D:LamD}{cl:List (Str×Addr)}{f c':Addr}{A:y05}{outer:List PySem.Env}{s:y6}{H:Hp}{us:List y9}{vs ws:List V}{Q:VK}{E:XK}
end
noncomputable def SA:V->List V->Hp->VK->Prop:=fun x vs H Q=>∃(l:Addr) (bs:List Bool) (y:Bool) (j:Nat),x=.ref l/\vs=[.bl y]/\H l=some (.lst (bs.map V.bl))/\bs[j]?=some y/\(∀m,m<j->bs[m]?≠some y)/\j<1000/\Q (.int j) H
section
variable{X:Cx}{C:Addr}{m x:Str}{ps:List Str}{k j:Nat}{sp:Sp}{o e:Expr}{es:List Expr}{ta:TE}{t:TA}{p apos pos:Pos}{pl:Sem Bool}{E:XK}
end
section
variable{prog:yl}{w:y08}{A:y05}{E:y9->y6->Prop}{s:y6}{d I:Addr}{es:Array DictEntry}{ep i:Nat}{o:Obj}
end
section
variable{X:Cx}{pins:List (Addr×Obj)}{σ:St}{H:Hp}{s:y6}
end
section
variable{d:Addr}{o:Obj}{u:HO}{ks:List V}{g:TG}{tb:TS}{D:Ends}{σ:St}{H:Hp}{tt:TT}{te:TE}{Q:VK}
end
section
variable{prog:yl}{w:y08}{A:y05}{E:y9->y6->Prop}{s:y6}{d:Addr}{es:Array DictEntry}{ep:Nat}{o:Obj}
end
section
variable{prog:yl}{w:y08}{A:y05}{E:y9->y6->Prop}{s:y6}{d I:Addr}{en:DictEntry}{ep:Nat}{o:Obj}
end
section
variable{prog:yl}{w:y08}{A:y05}{E:y9->y6->Prop}{s:y6}{d I S:Addr}{en:DictEntry}{ep:Nat}{o:Obj}{R:Result->y6->Prop}
abbrev q2o(en:DictEntry):Obj:={cls:=.type "tuple",data:=.seq #[en.key,en.val]}
end
section
variable{X:Cx}
end
section
variable{prog:yl}{w:y08}{A:y05}{E:y9->y6->Prop}{s:y6}{d I a:Addr}{es:Array DictEntry}{en:DictEntry}{ep i:Nat}{o oa:Obj}{f:Bool}{k v:y9}
end
section
variable{prog:yl}{w:y08}{A:y05}{E:y9->y6->Prop}{s:y6}{d I S:Addr}{es:Array DictEntry}{ep:Nat}{o:Obj}{R:Result->y6->Prop}
end
section
variable{prog:yl}{w:y08}{A:y05}{E:y9->y6->Prop}{s:y6}
end
section
variable{X:Cx}
end
section
variable{X:Cx}{e:Expr}{te:TE}
end
section
variable{X:Cx}
open Classical in
end
section
variable{prog:yl}{w:y08}{A:y05}{E:y9->y6->Prop}{s:y6}{a:Addr}
end
section
variable{X:Cx}{pins:List (Addr×Obj)}{σ:St}{H:Hp}{s:y6}
end
section
variable{prog:yl}{w:y08}{A:y05}{E:y9->y6->Prop}{s:y6}{S:Addr}
end
section
variable{X:Cx}{pins:List (Addr×Obj)}{σ:St}{H:Hp}{s:y6}
end
section
variable{prog:yl}{w:y08}{A:y05}{E:y9->y6->Prop}{s:y6}{d:Addr}
end
section
variable{X:Cx}
end
section
variable{X:Cx}{pins:List (Addr×Obj)}{σ:St}{H:Hp}{s:y6}
structure PkV where
 r:Addr
 k:y9
 u:y9
instance:Inhabited PkV:=⟨⟨0,.none,.none⟩⟩
end
end L2
namespace L2
open PySem PySem.Spec PyProof.Rows
section
variable{X:Cx}
noncomputable def Mr:V->List V->Hp->VK->Prop:=fun x vs H Q=>∃z y,x=.str z/\vs=[.str y]/\Q (.bl (Txt.startswith z y)) H
theorem mt_starts:MtM X "str.startswith" Mr:=by
 intro pins s σ H x vs v us Q I B F h;obtain⟨z,y,rfl,rfl,q⟩:=h;obtain⟨u,rfl,t,rfl⟩:=Bu F;obtain⟨G,rfl⟩:=B;exact SC.startswith ⟨.bl _,H,I,rfl,q⟩
theorem Ms:∀{q:List Str} {us:List y9},Vals (q.map V.str) us->∃l:List (Str×Tok),us=strValues l/\l.map (·.1)=q
 |[],_,.nil=>⟨[],rfl,rfl⟩
 |t::q,_,.cons r h=>by
  obtain⟨l,B,z⟩:=Ms h;obtain⟨k,rfl⟩:=r;exact⟨(t,k)::l,by rw[B]; rfl,by rw[yv,z]⟩
theorem Mt:∀(l:List (Str×Tok)),Vals ((l.map (·.1)).map V.str) (strValues l)
 |[]=>.nil
 |(t,k)::l=>.cons ⟨k,rfl⟩ (Mt l)
noncomputable def Mu:V->List V->Hp->VK->Prop:=fun x vs H Q=>∃z l q,x=.str z/\vs=[.ref l]/\H l=some (.lst (q.map V.str))/\JoinOk z q=true/\Q (.str (Txt.join z q)) H
theorem DD:MtM X "str.join" Mu:=by
 intro pins s σ H x vs v us Q I F G h;obtain⟨z,l,ts,rfl,rfl,hl,O,q⟩:=h;obtain⟨u,rfl,r⟩:=Bu G;cases r;obtain⟨t2,rfl⟩:=F;obtain⟨Z,M,n,r,B,e⟩:=I.lstM hl;obtain⟨J,rfl,U⟩:=Ms r;exact SC.join (l:=J) ⟨_,e,rfl,_,rfl⟩ U O fun t' k=>⟨.str _,H,I.tok _,⟨_,rfl⟩,q⟩
noncomputable def Mv:V->List V->Hp->VK->Prop:=fun x vs H Q=>∃z c,x=.str z/\vs=[.str ⟨#[c]⟩]/\z.length+2<=yr/\∀p,H p=none->Q (.ref p) (upd H p (.lst ((Txt.split z ⟨#[c]⟩).map V.str)))
theorem JZ:MtM X "str.split" Mv:=by
 intro pins s σ H x vs v us Q I M O h;obtain⟨z,c,rfl,rfl,hz,q⟩:=h;obtain⟨u,rfl,t,rfl⟩:=Bu O;obtain⟨G,rfl⟩:=M;have B:∀(l:List (Str×Tok)) (tk:Nat),l.map (·.1)=Txt.split z ⟨#[c]⟩->EP X pins σ Q (.ref s.heap.objs.size) {s with heap:=s.heap.push {cls:=.type "list",data:=.seq (strValues l).toArray},toks:=tk}:=by
  intro l tk e;have n:=split_le z ⟨#[c]⟩;refine⟨.ref _,_,I.lnew (t':=tk) (Mt l) (by rw[e,y4]; lia),rfl,?_⟩;rw[e];exact q _ I.fresh
 have hx:z.length<=yr:=by lia
 have hy:((⟨#[c]⟩:Str).length==0)=false:=rfl;have U:(Builtin.Str.partsBetween z (Builtin.Str.occurrences z ⟨#[c]⟩ 0 z.length (z.length+1)) (⟨#[c]⟩:Str).length).length<=yr:=by
  rw[len_partsBetween];have:=StrLaws.occ_length_le z ⟨#[c]⟩ 0 z.length (z.length+1);lia
 cases h1:(decide (z.length<(⟨#[c]⟩:Str).length) || decide (Builtin.Str.strKind z<Builtin.Str.strKind ⟨#[c]⟩))
 ·cases J:(Builtin.Str.occurrences z ⟨#[c]⟩ 0 z.length (z.length+1)).isEmpty
  ·refine y26 F.slot_str_split (y33 _ _ _) y3g (y3d _ _) (meets_str_split_sep z ⟨#[c]⟩ G t h1 hy J hx U) ?_;have e:=B (numbered s.toks _) (s.toks+(Builtin.Str.partsBetween z (Builtin.Str.occurrences z ⟨#[c]⟩ 0 z.length (z.length+1)) (⟨#[c]⟩:Str).length).length) ((numbered_texts _ _).trans ((if_neg (ne_true_of_eq_false h1)).trans (if_neg (ne_true_of_eq_false J))).symm);rw[<- strsFrom_eq] at e;exact e
  ·exact y26 F.slot_str_split (y33 _ _ _) y3g (y3d _ _) (meets_str_split_not_found z ⟨#[c]⟩ G t h1 hy J)
    (B [(z,G)] s.toks ((if_neg (ne_true_of_eq_false h1)).trans (if_pos J)).symm)
 ·exact y26 F.slot_str_split (y33 _ _ _) y3g (y3d _ _) (meets_str_split_cannot_occur z ⟨#[c]⟩ G t h1)
   (B [(z,G)] s.toks (if_pos h1).symm)
noncomputable def Mw:V->Option Int->Option Int->Hp->VK->Prop:=fun x lo hi H Q=>∃z,x=.str z/\z.length<=yr/\Q (.str (Txt.slice z lo hi)) H
theorem Mx{v:y9}{o:Option Int}(p:IsPart v o):∃l:Option (Int×Tok),v=partValue l/\l.map (·.1)=o:=by
 cases p with
 |none=>exact⟨none,rfl,rfl⟩
 |int i t=>exact⟨some (i,t),rfl,rfl⟩
theorem Bk:SlR X Mw:=by
 intro pins s σ H x v O M lo hi U Q I B J pl G h;obtain⟨z,rfl,hz,q⟩:=h;obtain⟨t,rfl⟩:=B;obtain⟨l,rfl,rfl⟩:=Mx pl;obtain⟨u,rfl,rfl⟩:=Mx G;refine⟨"str",_,F.slot_str_getitem.lookup,y33 _ _ _,?_⟩;refine wpAny_getItem_str_slice (l:=l) (u:=u) (st:=none) J rfl ?_;exact post_val_or_str ⟨y0d (Txt.slice_le z _ _) hz,fun t' k=>⟨.str _,H,I.tok _,⟨_,rfl⟩,q⟩⟩
theorem Ja:BR X (.type "int") (fun xs H Q=>∃z n,xs=[.str z]/\intText? z=some n/\z.length<=640/\Q (.int n) H):=by
 intro pins s σ H xs us Q I r h;obtain⟨z,n,rfl,B,hz,q⟩:=h;obtain⟨u,rfl,t,rfl⟩:=Bu r;exact PySem.W.KIN.call_text B hz ⟨.int n,H,I.tok _,⟨_,rfl⟩,q⟩
noncomputable def Jb(x:V)(P:Str->Prop):Prop:=match x with
 |.str z=>z.length<=yr/\P z
 |.int i=>i.natAbs.log2<1920/\P (toString i)
 |_=>False
theorem SB{z:Str}{P:Str->Prop}:Jb (.str z) P=(z.length<=yr/\P z):=rfl
theorem SD{i:Int}{P:Str->Prop}:Jb (.int i) P=(i.natAbs.log2<1920/\P (toString i)):=rfl
noncomputable def My(te:TE):TE:=fun σ H Q=>te σ H fun x H1=>Jb x fun z=>Q (.str z) H1
theorem Jc{e:Expr}{te:TE}{pos:Pos}(h:PE X e te):PE X (.FormattedValue e (-1) none pos) (My te):=by
 refine⟨?_⟩;intro pins s σ H Q I hw;refine wpAny_FormattedValue_plain (thn (h pins s σ H _ I hw) fun v G ⟨x,H1,B,F,q⟩=>?_);cases x with
 |str z=>
  obtain⟨t,rfl⟩:=F;exact wpAny_formatField_str ⟨.str z,H1,B,⟨_,rfl⟩,q.2⟩ ⟨.str z,H1,B.tok _,⟨_,rfl⟩,q.2⟩ q.1
 |int i=>
  obtain⟨t,rfl⟩:=F;exact wpAny_formatField_int q.1 ⟨.str _,H1,B.tok _,⟨_,rfl⟩,q.2⟩
 |_=>exact False.elim q
abbrev TJ:=St->Hp->Str->(Str->Hp->Prop)->Prop
structure PJ(X:Cx)(es:List Expr)(t:TJ):Prop where
 run:∀(pins:List (Addr×Obj)) (s:y6) (σ:St) (H:Hp) (z:Str) (Q:VK),Inv X pins σ H s->t σ H z (fun z H=>Q (.str z) H)->
  Joins (y0e X.prog X.w) X.A X.xe (evalEach es X.env) z (fun out s1=>out.length<=yr/\EP X pins σ Q (.str out s1.toks) {s1 with toks:=s1.toks+1}) s
noncomputable def tJn:TJ:=fun _ H z Q=>z.length<=yr/\Q z H
noncomputable def Mz(x:V)(P:Str->Prop):Prop:=match x with
 |.str z=>P z
 |_=>False
theorem SE{z:Str}{P:Str->Prop}:Mz (.str z) P=P z:=rfl
noncomputable def tJc(te:TE)(t:TJ):TJ:=fun σ H z Q=>te σ H fun x H1=>Mz x fun y=>(z++y).length<=yr/\t σ H1 (z++y) Q
theorem SF:PJ X [] tJn:=⟨fun pins s σ H z Q I h=>⟨h.1,.str z,H,I.tok _,⟨_,rfl⟩,h.2⟩⟩
theorem EG{e:Expr}{es:List Expr}{te:TE}{t:TJ}(h:PE X e te)(G:PJ X es t):PJ X (e::es) (tJc te t):=by
 refine⟨fun pins s σ H z Q I hw=>?_⟩;show y0j _ _ (eval e X.env) _ _ s;refine thn (h pins s σ H _ I hw) fun v B ⟨x,H1,J,F,q⟩=>?_;cases x with
 |str y=>
  obtain⟨tk,rfl⟩:=F;exact⟨y,tk,rfl,q.1,G.run pins B σ H1 (z++y) Q J q.2⟩
 |_=>exact False.elim q
noncomputable def tJs(t:TJ):TE:=fun σ H Q=>t σ H Str.empty fun z H1=>Q (.str z) H1
theorem SG{e q:Expr}{es:List Expr}{t:TJ}{pos:Pos}(h:PJ X (e::q::es) t):PE X (.JoinedStr (e::q::es) pos) (tJs t):=
 ⟨fun pins s σ H Q I hw=>wpAny_JoinedStr (h.run pins s σ H Str.empty Q I hw)⟩
noncomputable def Itv(K:y3)(a:Addr)(n:Nat):It:=
 ⟨fun i H=>i<n/\∃xs x,SqL K H a xs/\xs[n-1-i]?=some x,fun i H x H'=>H'=H/\∀xs,SqL K H a xs->xs[n-1-i]?=some x,fun i _=>i=n⟩
theorem SH{P:yl}{w:y08}{K:y3}{tg:Expr}(a q:Addr)(n:Nat):Turn P w K tg (Itv K a n) [q] q (fun i h=>h.IsRevIter q a ((n:Int)-1-(i:Nat))) where
 mem:=by simp
 obj:=fun i h st b hb=>by
  have e:b=q:=by simpa using hb
  subst e;obtain⟨o,e,c,d⟩:=st;exact⟨o,e,fun v z=>by rw[d] at z; cases z⟩
 keep:=fun i h h' st k=>st.at fun o e=>k q (by simp) o e;item:=by
  intro X J hw M hc i pins s σ H E I G st F;subst J hw M;obtain⟨hi,xs,x,hq,hx⟩:=F;obtain⟨aa,rv,p,hz⟩:=I.list hq;obtain⟨u,hu,ru⟩:=rv.get hx;obtain⟨f0,f1,f2,Z,U,O⟩:=G q (by simp);have e:(n:Int)-1-(i:Nat)=((n-1-i:Nat):Int):=by lia
  replace st:s.heap.IsRevIter q a ((n-1-i:Nat):Int):=e ▸ st;refine wpAny_pyNext_rev_item st p.isList (x:=u) (by simpa using hu) fun h' B sb=>?_;have e2:((n-1-i:Nat):Int)-1=(n:Int)-1-((i+1:Nat):Int):=by lia
  rw[e2] at B;have I1:Inv X pins σ H {s with heap:=h'}:=I.turned (t':=s.toks) (fun b o hb e=>(sb.2 b hb).trans e) f0 f1 Z U O;obtain⟨o,e,c,d⟩:=id B;exact⟨u,rfl,Ei (s:={s with heap:=h'}) e c d (by decide) ⟨x,H,I1,ru,⟨rfl,fun ys hy=>by rw[I.list_inj hy hq]; exact hx⟩,B,fun b hb=>(G b hb).1⟩⟩
 done:=by
  intro X J hw M hc i pins s σ H E I G st F;subst J hw M;obtain⟨f0,f1,f2,Z,U,O⟩:=G q (by simp);have F:i=n:=F;have e:(n:Int)-1-(i:Nat) = -1:=by lia
  replace st:s.heap.IsRevIter q a (-1):=e ▸ st;exact wpAny_pyNext_rev_end (I.ok.hd hc) st fun h' eb=>⟨rfl,I.turned (t':=s.toks) (fun b o hb e=>eb b o hb e) f0 f1 Z U O⟩
 self:=fun _ _ _ _ _ st h=>wpAny_pyIter_revIter st h
noncomputable def N0(K:y3)(ta:TA):TI:=fun σ H R=>ta σ H fun vs H1=>∃a xs,vs=[.ref a]/\SqL K H1 a xs/\R (Itv K a xs.length) H1
theorem SI{tg l:Expr}{ta:TA}{p pos:Pos} (Z:Gl X "reversed") (hm:X.mg "reversed" = none) (ha:PA X [l] ta) (G:EC l=false:=by rfl):PI X tg (.Call (.Name "reversed" p) [l] [] pos) (N0 X.K ta):=by
 refine⟨?_⟩;intro pins s σ H R I h;refine Call_ (E1 I Z hm boot_reversed (y1c (thn (ha pos pins s σ H _ I h) fun us z ⟨vs,H1,F,O,U⟩=>?_) (CA G) rfl));obtain⟨a,xs,e,hq,q⟩:=U;subst e;obtain⟨u,rfl,r⟩:=Bu O;cases r;obtain⟨B,M,p,hz⟩:=F.list hq;have hl:=M.length;refine call_reversed_list p.isList ?_;have I2:Inv X pins σ H1 {z with heap:=z.heap.push (revObj a ((B.toArray.size:Int)-1))}:=F.kept (t':=z.toks) fun b o e=>ye _ e;have J:(z.heap.push (revObj a ((B.toArray.size:Int)-1))).IsRevIter z.heap.objs.size a ((xs.length:Int)-1-((0:Nat):Int)):=by
  have e:(xs.length:Int)-1-((0:Nat):Int)=(B.toArray.size:Int)-1:=by
   rw[yn]; lia
  rw[e];exact⟨_,y04 _ rfl,rfl,rfl⟩
 refine wpAny_pyIter_revIter J ?_;refine⟨z.heap.objs.size,[z.heap.objs.size],_,_,H1,rfl,I2,SH a _ xs.length,J,fun b hb=>?_,q⟩;have e:b=z.heap.objs.size:=by simpa using hb
 subst e;exact F.fpOk (yf _) (F.hok.fresh (yf _))
end
end L2
namespace L2
open PySem PySem.Spec PyProof.Rows PySem.W
noncomputable def NA(K:y3)(z:Addr)(i q a:Nat)(sp:Sp)(t:TA):TS:=fun D σ H=>t σ H fun vs H1=>sp vs H1 (fun v H2=>D.nx (σ.set a (some v)) H2)
 (fun cls _ H2=>∃C,cls=.ref C/\exmOne K (.ref C) (.ref z)=some true/\∀x,H2 x=none->D.nx (((σ.set i (some (.ref x))).set q (some (.ref x))).set i none) (upd H2 x (HO.exc x C)))
theorem SJ{X:Cx}{f R n kp an:Str}{ps:List Str}{k j i q a:Nat}{sp:Sp}{e:Expr}{es:List Expr}{t:TA}{Rc:Addr}{p cpos aa av rp kpos B apos ag pos:Pos}
  (C:CalleeX X.prog X.w X.K X.mg X.base f ps k sp) (hr:Room j X.A) (hk:k<=j) (ha:PA X.nox (e::es) t) (U:X.ex=[]) (af:X.stack=X.env::X.outer) (aO:X.env.frame=some X.env.locals)
  (hR:X.mg R=some (.ref Rc)) (aM:Gl X R) (hN:X.N.Nodup) (hn:X.N[i]?=some n) (O:X.env.kindOf n=some .local) (hq:X.N[q]?=some kp) (al:X.env.scope.names.lookup kp=some .local) (aY:i≠q) (aV:X.N[a]?=some an) (aq:X.env.scope.names.lookup an=some .local)
  (hg:Gl X f:=by rfl) (aQ:(f==("__debug__" : Str))=false:=by decide) (aR:(R==("__debug__" : Str))=false:=by decide) (aP:(n==("__debug__" : Str))=false:=by decide) (aS:(n==("__classdict__" : Str))=false:=by decide) (aD:Aw (e::es)=true:=by rfl)
  (aC:swapsWith (.Call (.Name f p) (e::es) [] cpos) (some (.Name an av)) aa.line X.env=pure false:=by rfl) (aF:swapsWith (.Name n B) (some (.Name kp kpos)) apos.line X.env=pure false:=by rfl) :
  PS X (.Try [.Assign [.Name an av] (.Call (.Name f p) (e::es) [] cpos) aa] [.ExceptHandler (some (.Name R rp)) (some n) [.Assign [.Name kp kpos] (.Name n B) apos] ag] [] [] pos) (NA X.K Rc i q a sp t):=by
 refine⟨?_⟩;intro pins s σ H D I h;have G:=aD;rw[Aw,y8,y0p] at G;have he:=CA (es:=es) (env:=X.env) G.1;have aG:=Cj (pos:=cpos) (env:=X.env) G.2;obtain⟨g,fd,F,hm,aK,hb⟩:=C;refine wpAny_Try_except (wpAny_execs_cons (wpAny_Assign_Name (y1n (Dz I hg hm ?_ aQ)) aC));refine y2a (h₀:=X.base) I.ok.mod.kin aK (y1d (ha cpos pins s σ H _ (I.wish _) h) (fun us s1 ⟨vs,H1,I1,r,qq⟩=>⟨I1.kIn,?_⟩) fun _ _ z=>False.elim z) he aG;have J:=I1.unwish;have hl:us.length=ps.length:=by rw[<- r.length]; exact F.len _ _ _ _ qq
 have ap:=hb s1 us J.kIn (by rw[y1a]; exact hl);rw[y1a] at ap;refine wpAny_call (y32 (F.run X.A X.stack s1 H1 ⟨us,[]⟩ us vs _ _ (hr.mono hk) J.env0 ap r qq) fun rs s' M=>?_);cases rs with
 |ok fl=>
  cases fl with
  |ret u=>
   obtain⟨v,H2,I2,r2,q2⟩:=J.after M;exact Fs I2 hN aV (.inl aq) r2 (fun s3 I3=>y22 (y22 ⟨_,H2,I3,q2⟩)) (.inr aq)
  |next=>exact False.elim M
  |brk=>exact False.elim M
  |cont=>exact False.elim M
 |error ev=>
  obtain⟨x,T,Ca,H2,rfl,os,au,un,aH,fly,nx,nT,hx,hT,Cb,aU,ak,aW⟩:=M;cases aU;have I2:=J.call' os un aH au (fun b z=>absurd z (by simp));have sx:=J.strange U nx;have sT:=J.strange U nT;obtain⟨a0,fl⟩:=fly.flying;have aN:X.A.frames=some (X.env::X.outer):=by rw[<- af]; exact I.ok.frames
  refine wpAny_looks_onW (env:=X.env) (outer:=X.outer) aN aO (by rw[<- af]; exact fl) fun h3 am aA=>?_;refine wpAny_landsW am fun h4 ac az=>?_;have Z:=aA.trans az;have I4:=I2.fly U ac.1 Z sx sT hx hT;have ae:(X.marked (.ref x)).Ok:=I.ok.marked;refine wpAny_handleBy_cons (codeAny_handlers_test (Dz (I4.marked ae) aM hR ?_ aR)) (by intro z; cases z);obtain⟨ob,aI,aT⟩:=ac.there;refine(exm_one I4.kIn (aT ▸ (Looks.ld aI).andThen .now) ak).here ?_;refine codeAny_handlers_suite_as (lands_againW ac fun h5 ar ay=>?_);have I5:=I2.fly U ar.1 (Z.trans ay) sx sT hx hT;obtain⟨aB,ah,ao⟩:=ar.there;have I6:=(I5.shown sx hx ⟨aB,ah,ao⟩).marked ae;refine Fs (X:=X.marked (.ref x)) I6 hN hn (.inl O) (v:=.ref x) rfl (fun s7 I7=>?_) (.inr O);have pa:=A8 (AK (X:=X.marked (.ref x)) (pos:=apos) (pos':=kpos) hN hq (.inl al) (AX (pos:=B) hn (.inl O) aP aS) aF (.inr al));have aL:i<σ.length:=by rw[I.len]; exact(List.getElem?_eq_some_iff.mp hn).1
  have w7:=pa pins s7 _ _ {nx:=fun ax H'=>ax=((σ.set i (some (.ref x))).set q (some (.ref x)))/\H'=upd H2 x (HO.exc x Ca),rt:=fun _ _=>False} I7 (isV.i (v:=.ref x) (by rw[y21 aL]) (by show Bc _ _ _ _; rw[D5]; exact⟨rfl,rfl⟩));refine y1d w7 (fun fl s8 q8=>?_) fun _ _ z=>False.elim z;cases fl with
  |ret u=>obtain⟨_,_,_,_,_,z⟩:=q8; exact z.elim
  |brk=>obtain⟨_,_,_,z⟩:=q8; exact z.elim
  |cont=>obtain⟨_,_,_,z⟩:=q8; exact z.elim
  |next=>
   obtain⟨aX,H8,I8,rfl,rfl⟩:=q8;have I8:=I8.unmarked I.ok;obtain⟨m,aj,_⟩:=id I8.loc;refine wpAny_nameGoes_keeps O aj (by rw[I.ok.kind]; rfl) fun h9 v9 aJ aE=>?_;exact⟨_,_,I8.gone hN hn aJ aj aE,aW x hx⟩
end L2
set_option maxHeartbeats 0
namespace SR
open PySem L2
abbrev CDF(x:Str):Prop:=(x==("__classdict__" : Str))=false
abbrev DBF(x:Str):Prop:=(x==("__debug__" : Str))=false
abbrev GLF(s:Stmt)(x:Str):Prop:=(defScope s).names.lookup x=some NameKind.globalImplicit
noncomputable def VD(s:Scope)(x:Str):Prop:=Vis s x/\(x==("__debug__" : Str))=false/\(x==("__classdict__" : Str))=false
abbrev VE(s:Stmt)(x:Str):Prop:=VD (defScope s) x
theorem ve1{s:Stmt}{x:Str} (h:(defScope s).names.lookup x=some NameKind.local/\(x==("__debug__" : Str))=false/\(x==("__classdict__" : Str))=false):VE s x:=⟨.inl h.1,h.2⟩
theorem ve2{s:Stmt}{x:Str} (h:(defScope s).names.lookup x=some NameKind.cell/\(x==("__debug__" : Str))=false/\(x==("__classdict__" : Str))=false):VE s x:=⟨.inr (.inl h.1),h.2⟩
theorem A1{X:Cx}{x:Str}{pos:Pos}(i:Nat)(q:X.N[i]?=some x)(h:VD X.env.scope x):PE X (.Name x pos) (D6 i):=AX q h.1 h.2.1 h.2.2
local macro_rules | `(tactic| walk_at "vc")=>`(tactic| first | exact Or.inl rfl | exact Or.inr (Or.inl rfl) | exact Or.inr (Or.inr rfl))
noncomputable def top(i:Nat):Stmt:=PySem.Challenge.pw_smallrooms_k60_whole_texts.main.body.getD i (.Pass ⟨0,0,0,0⟩)
theorem SK:bootBuiltins "ValueError" = some (.type "ValueError"):=by decide+kernel
theorem F2:bootBuiltins "all" = some (.builtin "all"):=by decide+kernel
theorem SL:bootBuiltins "bool" = some (.type "bool"):=by decide+kernel
theorem GY:bootBuiltins "int" = some (.type "int"):=by decide+kernel
theorem Bv:bootBuiltins "isinstance" = some (.builtin "isinstance"):=by decide+kernel
theorem B1:bootBuiltins "len" = some (.builtin "len"):=by decide+kernel
theorem DE:bootBuiltins "str" = some (.type "str"):=by decide+kernel
theorem Cl:bootBuiltins "tuple" = some (.type "tuple"):=by decide+kernel
theorem SM:CDF "_law_cell_here":=by decide+kernel
theorem SN:CDF "_law_known":=by decide+kernel
theorem GZ:CDF "_law_one":=by decide+kernel
theorem Ga:CDF "_law_row":=by decide+kernel
theorem SO:CDF "_law_turn":=by decide+kernel
theorem SQ:CDF "_law_yours":=by decide+kernel
theorem SS:CDF "block":=by decide+kernel
theorem ST:CDF "deed":=by decide+kernel
theorem SU:CDF "e":=by decide+kernel
theorem SV:CDF "ends":=by decide+kernel
theorem SW:CDF "high":=by decide+kernel
theorem SX:CDF "is_row":=by decide+kernel
theorem SY:CDF "known":=by decide+kernel
theorem SZ:CDF "levels":=by decide+kernel
theorem NB:CDF "line":=by decide+kernel
theorem Sa:CDF "low":=by decide+kernel
theorem Jd:CDF "name":=by decide+kernel
theorem Sb:CDF "one":=by decide+kernel
theorem Sc:CDF "other":=by decide+kernel
theorem NC:CDF "row":=by decide+kernel
theorem ND:CDF "sign":=by decide+kernel
theorem Sd:DBF "BadPaper":=by decide+kernel
theorem Se:DBF "BadPlan":=by decide+kernel
theorem Sf:DBF "DEEDS":=by decide+kernel
theorem NE:DBF "DEEPEST_BLOCK":=by decide+kernel
theorem NF:DBF "DEEPEST_TERM":=by decide+kernel
theorem Sg:DBF "FIGURES":=by decide+kernel
theorem NG:DBF "GREATEST_IN":=by decide+kernel
theorem Sh:DBF "LEAST_IN":=by decide+kernel
theorem Si:DBF "LETTERS":=by decide+kernel
theorem Sj:DBF "MOST_DEEDS":=by decide+kernel
theorem Sk:DBF "MOST_FIGURES":=by decide+kernel
theorem Sl:DBF "MOST_INS":=by decide+kernel
theorem Sm:DBF "MOST_LETTERS":=by decide+kernel
theorem Sn:DBF "MOST_ROUNDS":=by decide+kernel
theorem So:DBF "NoProgram":=by decide+kernel
theorem Cm:DBF "NoText":=by decide+kernel
theorem Sq:DBF "NoWorths":=by decide+kernel
theorem Sr:DBF "RoomError":=by decide+kernel
theorem Ss:DBF "ValueError":=by decide+kernel
theorem NH:DBF "WIDE":=by decide+kernel
theorem NI:DBF "WORDS":=by decide+kernel
theorem Gb:DBF "_law_block":=by decide+kernel
theorem Gc:DBF "_law_block_text":=by decide+kernel
theorem Su:DBF "_law_cell":=by decide+kernel
theorem Sv:DBF "_law_cell_here":=by decide+kernel
theorem Sw:DBF "_law_counted":=by decide+kernel
theorem Je:DBF "_law_holds":=by decide+kernel
theorem Sx:DBF "_law_known":=by decide+kernel
theorem Sy:DBF "_law_once":=by decide+kernel
theorem Gd:DBF "_law_one":=by decide+kernel
theorem B2:DBF "_law_pick":=by decide+kernel
theorem Sz:DBF "_law_program":=by decide+kernel
theorem Ge:DBF "_law_row":=by decide+kernel
theorem T0:DBF "_law_spoilt":=by decide+kernel
theorem F3:DBF "_law_sum":=by decide+kernel
theorem F4:DBF "_law_sum_text":=by decide+kernel
theorem NJ:DBF "_law_text":=by decide+kernel
theorem T1:DBF "_law_turn":=by decide+kernel
theorem T2:DBF "_law_yours":=by decide+kernel
theorem F5:DBF "all":=by decide+kernel
theorem T3:DBF "are_ins":=by decide+kernel
theorem T4:DBF "are_rising_rows":=by decide+kernel
theorem T5:DBF "block":=by decide+kernel
theorem Jf:DBF "block_from":=by decide+kernel
theorem T6:DBF "blocks_of":=by decide+kernel
theorem T7:DBF "bool":=by decide+kernel
theorem T8:DBF "deed":=by decide+kernel
theorem T9:DBF "deed_from":=by decide+kernel
theorem TB:DBF "e":=by decide+kernel
theorem TC:DBF "ends":=by decide+kernel
theorem Jg:DBF "has_known_names":=by decide+kernel
theorem TD:DBF "high":=by decide+kernel
theorem TF:DBF "in_from":=by decide+kernel
theorem Gf:DBF "int":=by decide+kernel
theorem Jh:DBF "is_block":=by decide+kernel
theorem TH:DBF "is_deed":=by decide+kernel
theorem TK:DBF "is_in":=by decide+kernel
theorem Ji:DBF "is_name":=by decide+kernel
theorem NK:DBF "is_number":=by decide+kernel
theorem NL:DBF "is_program":=by decide+kernel
theorem TL:DBF "is_row":=by decide+kernel
theorem Gg:DBF "is_term":=by decide+kernel
theorem EH:DBF "is_tuple_of":=by decide+kernel
theorem TM:DBF "is_whole":=by decide+kernel
theorem Gh:DBF "is_whole_from":=by decide+kernel
theorem Bw:DBF "isinstance":=by decide+kernel
theorem TN:DBF "known":=by decide+kernel
theorem NM:DBF "known_behind_block":=by decide+kernel
theorem TQ:DBF "known_behind_deed":=by decide+kernel
theorem TR:DBF "leaf_from":=by decide+kernel
theorem B3:DBF "len":=by decide+kernel
theorem TU:DBF "levels":=by decide+kernel
theorem NN:DBF "line":=by decide+kernel
theorem Gi:DBF "lines_of_block":=by decide+kernel
theorem TV:DBF "lines_of_deed":=by decide+kernel
theorem TW:DBF "low":=by decide+kernel
theorem Jj:DBF "name":=by decide+kernel
theorem Jk:DBF "number_from":=by decide+kernel
theorem TX:DBF "one":=by decide+kernel
theorem TY:DBF "other":=by decide+kernel
theorem NO:DBF "read":=by decide+kernel
theorem TZ:DBF "read_loosely":=by decide+kernel
theorem NP:DBF "row":=by decide+kernel
theorem NQ:DBF "sign":=by decide+kernel
theorem DF:DBF "str":=by decide+kernel
theorem Jl:DBF "take_word":=by decide+kernel
theorem Jm:DBF "term_from":=by decide+kernel
theorem Ta:DBF "term_of":=by decide+kernel
theorem Cn:DBF "tuple":=by decide+kernel
theorem F6:DBF "words_of_term":=by decide+kernel
theorem NR:DBF "written":=by decide+kernel
theorem Tb:("ValueError" : Str)≠"__name__":=by decide+kernel
theorem F7:("all" : Str)≠"__name__":=by decide+kernel
theorem Tc:("bool" : Str)≠"__name__":=by decide+kernel
theorem Gj:("int" : Str)≠"__name__":=by decide+kernel
theorem Bx:("isinstance" : Str)≠"__name__":=by decide+kernel
theorem B4:("len" : Str)≠"__name__":=by decide+kernel
theorem DG:("str" : Str)≠"__name__":=by decide+kernel
theorem Co:("tuple" : Str)≠"__name__":=by decide+kernel
abbrev By:Stmt:=top 20
theorem sc_is_program:FnScope ["thing","known"] ["thing"] (defScope By):=⟨rfl,rfl,rfl,by decide+kernel,rfl,by decide+kernel,by decide+kernel⟩
theorem Td:GLF By "DEEPEST_BLOCK":=by decide+kernel
theorem Te:GLF By "are_ins":=by decide+kernel
theorem Tf:GLF By "is_block":=by decide+kernel
theorem Tg:GLF By "is_tuple_of":=by decide+kernel
theorem Th:GLF By "known_behind_block":=by decide+kernel
theorem Ti:GLF By "tuple":=by decide+kernel
theorem Tj:Loc (defScope By) "known":=Or.inl (by decide+kernel)
theorem Tk:VE By "known":=ve1 (by decide+kernel)
theorem F8:VE By "thing":=ve1 (by decide+kernel)
abbrev Da:Stmt:=top 21
theorem Tl:FnScope ["thing"] ["thing"] (defScope Da):=⟨rfl,rfl,rfl,by decide+kernel,rfl,by decide+kernel,by decide+kernel⟩
theorem Tm:GLF Da "bool":=by decide+kernel
theorem Tn:GLF Da "int":=by decide+kernel
theorem NS:GLF Da "isinstance":=by decide+kernel
theorem NT:VE Da "thing":=ve1 (by decide+kernel)
abbrev Db:Stmt:=top 22
theorem To:FnScope ["thing","low","high"] ["thing","low","high"] (defScope Db):=⟨rfl,rfl,rfl,by decide+kernel,rfl,by decide+kernel,by decide+kernel⟩
theorem Tp:GLF Db "is_whole":=by decide+kernel
theorem Tq:VE Db "high":=ve1 (by decide+kernel)
theorem Tr:VE Db "low":=ve1 (by decide+kernel)
theorem Jn:VE Db "thing":=ve1 (by decide+kernel)
abbrev DH:Stmt:=top 23
theorem Ts:FnScope ["thing","many"] ["thing","many"] (defScope DH):=⟨rfl,rfl,rfl,by decide+kernel,rfl,by decide+kernel,by decide+kernel⟩
theorem Tt:GLF DH "isinstance":=by decide+kernel
theorem Tu:GLF DH "len":=by decide+kernel
theorem Tv:GLF DH "tuple":=by decide+kernel
theorem Tw:VE DH "many":=ve1 (by decide+kernel)
theorem NU:VE DH "thing":=ve1 (by decide+kernel)
abbrev Cp:Stmt:=top 24
theorem Tx:FnScope ["thing"] ["thing"] (defScope Cp):=⟨rfl,rfl,rfl,by decide+kernel,rfl,by decide+kernel,by decide+kernel⟩
theorem Ty:GLF Cp "MOST_LETTERS":=by decide+kernel
theorem Tz:GLF Cp "all":=by decide+kernel
theorem U0:GLF Cp "isinstance":=by decide+kernel
theorem NV:GLF Cp "len":=by decide+kernel
theorem U4:GLF Cp "str":=by decide+kernel
theorem Gk:VE Cp "thing":=ve1 (by decide+kernel)
abbrev DI:Stmt:=top 25
theorem U5:FnScope ["thing","is_row"] ["thing","is_row"] (defScope DI):=⟨rfl,rfl,rfl,by decide+kernel,rfl,by decide+kernel,by decide+kernel⟩
theorem NW:GLF DI "all":=by decide+kernel
theorem U6:GLF DI "isinstance":=by decide+kernel
theorem U7:GLF DI "tuple":=by decide+kernel
theorem U8:GLF DI "zip":=by decide+kernel
theorem Gm:VE DI "thing":=ve1 (by decide+kernel)
abbrev DJ:Stmt:=top 26
theorem U9:FnScope ["thing"] ["thing"] (defScope DJ):=⟨rfl,rfl,rfl,by decide+kernel,rfl,by decide+kernel,by decide+kernel⟩
theorem UA:GLF DJ "MOST_INS":=by decide+kernel
theorem UB:GLF DJ "are_rising_rows":=by decide+kernel
theorem UC:GLF DJ "is_in":=by decide+kernel
theorem UD:GLF DJ "len":=by decide+kernel
theorem NX:VE DJ "thing":=ve1 (by decide+kernel)
abbrev Cq:Stmt:=top 27
theorem UE:FnScope ["thing"] ["thing"] (defScope Cq):=⟨rfl,rfl,rfl,by decide+kernel,rfl,by decide+kernel,by decide+kernel⟩
theorem NY:GLF Cq "GREATEST_IN":=by decide+kernel
theorem UF:GLF Cq "LEAST_IN":=by decide+kernel
theorem UG:GLF Cq "is_name":=by decide+kernel
theorem UH:GLF Cq "is_tuple_of":=by decide+kernel
theorem NZ:GLF Cq "is_whole_from":=by decide+kernel
theorem F9:VE Cq "thing":=ve1 (by decide+kernel)
abbrev CO:Stmt:=top 28
theorem UI:FnScope ["thing","levels"] ["thing","levels"] (defScope CO):=⟨rfl,rfl,rfl,by decide+kernel,rfl,by decide+kernel,by decide+kernel⟩
theorem UJ:GLF CO "MOST_DEEDS":=by decide+kernel
theorem UK:GLF CO "all":=by decide+kernel
theorem UL:GLF CO "isinstance":=by decide+kernel
theorem UM:GLF CO "len":=by decide+kernel
theorem UN:GLF CO "tuple":=by decide+kernel
theorem UO:VE CO "levels":=ve2 (by decide+kernel)
theorem Jo:VE CO "thing":=ve1 (by decide+kernel)
abbrev Bz:Stmt:=top 29
theorem UP:FnScope ["thing","levels"] ["thing","levels"] (defScope Bz):=⟨rfl,rfl,rfl,by decide+kernel,rfl,by decide+kernel,by decide+kernel⟩
theorem Na:GLF Bz "DEEPEST_TERM":=by decide+kernel
theorem UQ:GLF Bz "MOST_ROUNDS":=by decide+kernel
theorem Nb:GLF Bz "is_block":=by decide+kernel
theorem UR:GLF Bz "is_name":=by decide+kernel
theorem Nc:GLF Bz "is_term":=by decide+kernel
theorem Nd:GLF Bz "is_tuple_of":=by decide+kernel
theorem UT:GLF Bz "is_whole_from":=by decide+kernel
theorem Nf:VE Bz "levels":=ve1 (by decide+kernel)
theorem CB:VE Bz "thing":=ve1 (by decide+kernel)
abbrev C0:Stmt:=top 30
theorem UU:FnScope ["thing","levels"] ["thing","levels"] (defScope C0):=⟨rfl,rfl,rfl,by decide+kernel,rfl,by decide+kernel,by decide+kernel⟩
theorem Ng:GLF C0 "WIDE":=by decide+kernel
theorem UV:GLF C0 "WORDS":=by decide+kernel
theorem UW:GLF C0 "is_name":=by decide+kernel
theorem Nh:GLF C0 "is_term":=by decide+kernel
theorem Ni:GLF C0 "is_tuple_of":=by decide+kernel
theorem UX:GLF C0 "is_whole_from":=by decide+kernel
theorem Jp:VE C0 "levels":=ve1 (by decide+kernel)
theorem Cr:VE C0 "thing":=ve1 (by decide+kernel)
abbrev Cs:Stmt:=top 31
theorem sc_known_behind_block:FnScope ["block","known","deed"] ["block","known"] (defScope Cs):=⟨rfl,rfl,rfl,by decide+kernel,rfl,by decide+kernel,by decide+kernel⟩
theorem UY:GLF Cs "known_behind_deed":=by decide+kernel
theorem UZ:Loc (defScope Cs) "deed":=Or.inl (by decide+kernel)
theorem Ua:Loc (defScope Cs) "known":=Or.inl (by decide+kernel)
theorem Ub:VE Cs "block":=ve1 (by decide+kernel)
theorem Uc:VE Cs "deed":=ve1 (by decide+kernel)
theorem Jq:VE Cs "known":=ve1 (by decide+kernel)
abbrev C1:Stmt:=top 32
theorem sc_known_behind_deed:FnScope ["deed","known","ends"] ["deed","known"] (defScope C1):=⟨rfl,rfl,rfl,by decide+kernel,rfl,by decide+kernel,by decide+kernel⟩
theorem Ud:(defScope C1).names.lookup ("ends" : Str)=some NameKind.cell:=by decide+kernel
theorem Ue:GLF C1 "blocks_of":=by decide+kernel
theorem Uf:GLF C1 "has_known_names":=by decide+kernel
theorem Ug:GLF C1 "term_of":=by decide+kernel
theorem Uh:GLF C1 "tuple":=by decide+kernel
theorem Ui:Loc (defScope C1) "ends":=Or.inr (by decide+kernel)
theorem FA:VE C1 "deed":=ve1 (by decide+kernel)
theorem Nj:VE C1 "ends":=ve2 (by decide+kernel)
theorem Jr:VE C1 "known":=ve2 (by decide+kernel)
abbrev Dc:Stmt:=top 33
theorem Uj:FnScope ["term","known"] ["term","known"] (defScope Dc):=⟨rfl,rfl,rfl,by decide+kernel,rfl,by decide+kernel,by decide+kernel⟩
theorem Nk:GLF Dc "has_known_names":=by decide+kernel
theorem Js:VE Dc "known":=ve1 (by decide+kernel)
theorem FC:VE Dc "term":=ve1 (by decide+kernel)
abbrev Gn:Stmt:=top 34
theorem Uk:FnScope ["deed"] ["deed"] (defScope Gn):=⟨rfl,rfl,rfl,by decide+kernel,rfl,by decide+kernel,by decide+kernel⟩
theorem Jt:VE Gn "deed":=ve1 (by decide+kernel)
abbrev Go:Stmt:=top 35
theorem Ul:FnScope ["deed"] ["deed"] (defScope Go):=⟨rfl,rfl,rfl,by decide+kernel,rfl,by decide+kernel,by decide+kernel⟩
theorem FD:VE Go "deed":=ve1 (by decide+kernel)
abbrev Dd:Stmt:=top 39
theorem sc_written:FnScope ["program","lines"] ["program"] (defScope Dd):=⟨rfl,rfl,rfl,by decide+kernel,rfl,by decide+kernel,by decide+kernel⟩
theorem Um:GLF Dd "lines_of_block":=by decide+kernel
theorem Uo:Loc (defScope Dd) "lines":=Or.inl (by decide+kernel)
theorem Uq:VE Dd "lines":=ve1 (by decide+kernel)
theorem Nl:VE Dd "program":=ve1 (by decide+kernel)
abbrev CP:Stmt:=top 40
theorem sc_lines_of_block:FnScope ["block","lines","deed"] ["block"] (defScope CP):=⟨rfl,rfl,rfl,by decide+kernel,rfl,by decide+kernel,by decide+kernel⟩
theorem Ur:GLF CP "lines_of_deed":=by decide+kernel
theorem Us:Loc (defScope CP) "deed":=Or.inl (by decide+kernel)
theorem Ut:Loc (defScope CP) "lines":=Or.inl (by decide+kernel)
theorem Uu:VE CP "block":=ve1 (by decide+kernel)
theorem Uv:VE CP "deed":=ve1 (by decide+kernel)
theorem Nm:VE CP "lines":=ve1 (by decide+kernel)
abbrev CQ:Stmt:=top 41
theorem sc_lines_of_deed:FnScope ["deed","first"] ["deed"] (defScope CQ):=⟨rfl,rfl,rfl,by decide+kernel,rfl,by decide+kernel,by decide+kernel⟩
theorem Ju:GLF CQ "lines_of_block":=by decide+kernel
theorem Uw:GLF CQ "str":=by decide+kernel
theorem Jv:GLF CQ "words_of_term":=by decide+kernel
theorem No:Loc (defScope CQ) "first":=Or.inl (by decide+kernel)
theorem CS:VE CQ "deed":=ve1 (by decide+kernel)
theorem Np:VE CQ "first":=ve1 (by decide+kernel)
abbrev De:Stmt:=top 42
theorem Ux:FnScope ["term"] ["term"] (defScope De):=⟨rfl,rfl,rfl,by decide+kernel,rfl,by decide+kernel,by decide+kernel⟩
theorem Uy:GLF De "str":=by decide+kernel
theorem Nq:GLF De "words_of_term":=by decide+kernel
theorem Dg:VE De "term":=ve1 (by decide+kernel)
abbrev CT:Stmt:=top 43
theorem sc_read:FnScope ["text","program"] ["text"] (defScope CT):=⟨rfl,rfl,rfl,by decide+kernel,rfl,by decide+kernel,by decide+kernel⟩
theorem Uz:GLF CT "NoText":=by decide+kernel
theorem V0:GLF CT "is_program":=by decide+kernel
theorem V1:GLF CT "read_loosely":=by decide+kernel
theorem V2:GLF CT "written":=by decide+kernel
theorem V3:Loc (defScope CT) "program":=Or.inl (by decide+kernel)
theorem Jw:VE CT "program":=ve1 (by decide+kernel)
theorem Nr:VE CT "text":=ve1 (by decide+kernel)
abbrev C2:Stmt:=top 44
theorem sc_read_loosely:FnScope ["text","lines","ins"] ["text"] (defScope C2):=⟨rfl,rfl,rfl,by decide+kernel,rfl,by decide+kernel,by decide+kernel⟩
theorem V4:GLF C2 "DEEPEST_BLOCK":=by decide+kernel
theorem V5:GLF C2 "block_from":=by decide+kernel
theorem V6:GLF C2 "in_from":=by decide+kernel
theorem V7:GLF C2 "tuple":=by decide+kernel
theorem V8:Loc (defScope C2) "ins":=Or.inl (by decide+kernel)
theorem V9:Loc (defScope C2) "lines":=Or.inl (by decide+kernel)
theorem Nt:VE C2 "ins":=ve1 (by decide+kernel)
theorem Gp:VE C2 "lines":=ve1 (by decide+kernel)
theorem VA:VE C2 "text":=ve1 (by decide+kernel)
abbrev Dh:Stmt:=top 45
theorem VB:FnScope ["words"] ["words"] (defScope Dh):=⟨rfl,rfl,rfl,by decide+kernel,rfl,by decide+kernel,by decide+kernel⟩
theorem VC:GLF Dh "NoText":=by decide+kernel
theorem VF:GLF Dh "len":=by decide+kernel
theorem Nu:GLF Dh "number_from":=by decide+kernel
theorem Gq:VE Dh "words":=ve1 (by decide+kernel)
abbrev C3:Stmt:=top 46
theorem sc_block_from:FnScope ["lines","levels","deeds"] ["lines","levels"] (defScope C3):=⟨rfl,rfl,rfl,by decide+kernel,rfl,by decide+kernel,by decide+kernel⟩
theorem VG:GLF C3 "DEEDS":=by decide+kernel
theorem VH:GLF C3 "NoText":=by decide+kernel
theorem VI:GLF C3 "deed_from":=by decide+kernel
theorem VJ:GLF C3 "tuple":=by decide+kernel
theorem VL:Loc (defScope C3) "deeds":=Or.inl (by decide+kernel)
theorem Nv:VE C3 "deeds":=ve1 (by decide+kernel)
theorem Nw:VE C3 "levels":=ve1 (by decide+kernel)
theorem Ny:VE C3 "lines":=ve1 (by decide+kernel)
abbrev B8:Stmt:=top 47
theorem sc_deed_from:FnScope ["lines","levels","words","first","second"] ["lines","levels"] (defScope B8):=⟨rfl,rfl,rfl,by decide+kernel,rfl,by decide+kernel,by decide+kernel⟩
theorem VM:GLF B8 "NoText":=by decide+kernel
theorem Nz:GLF B8 "block_from":=by decide+kernel
theorem VN:GLF B8 "len":=by decide+kernel
theorem VO:GLF B8 "number_from":=by decide+kernel
theorem Jx:GLF B8 "take_word":=by decide+kernel
theorem Jy:GLF B8 "term_from":=by decide+kernel
theorem VP:Loc (defScope B8) "first":=Or.inl (by decide+kernel)
theorem VQ:Loc (defScope B8) "second":=Or.inl (by decide+kernel)
theorem VR:Loc (defScope B8) "words":=Or.inl (by decide+kernel)
theorem O0:VE B8 "first":=ve1 (by decide+kernel)
theorem O1:VE B8 "levels":=ve1 (by decide+kernel)
theorem EI:VE B8 "lines":=ve1 (by decide+kernel)
theorem VS:VE B8 "second":=ve1 (by decide+kernel)
theorem DK:VE B8 "words":=ve1 (by decide+kernel)
abbrev EJ:Stmt:=top 48
theorem VT:FnScope ["lines","word"] ["lines","word"] (defScope EJ):=⟨rfl,rfl,rfl,by decide+kernel,rfl,by decide+kernel,by decide+kernel⟩
theorem VU:GLF EJ "NoText":=by decide+kernel
theorem O2:VE EJ "lines":=ve1 (by decide+kernel)
theorem VV:VE EJ "word":=ve1 (by decide+kernel)
abbrev BF:Stmt:=top 49
theorem sc_term_from:FnScope ["words","ready","word","one","other"] ["words"] (defScope BF):=⟨rfl,rfl,rfl,by decide+kernel,rfl,by decide+kernel,by decide+kernel⟩
theorem O3:GLF BF "NoText":=by decide+kernel
theorem VW:GLF BF "WORDS":=by decide+kernel
theorem VX:GLF BF "leaf_from":=by decide+kernel
theorem O4:GLF BF "len":=by decide+kernel
theorem VY:GLF BF "reversed":=by decide+kernel
theorem VZ:Loc (defScope BF) "one":=Or.inl (by decide+kernel)
theorem Va:Loc (defScope BF) "other":=Or.inl (by decide+kernel)
theorem Vb:Loc (defScope BF) "ready":=Or.inl (by decide+kernel)
theorem Vc:Loc (defScope BF) "word":=Or.inl (by decide+kernel)
theorem Vd:VE BF "one":=ve1 (by decide+kernel)
theorem Ve:VE BF "other":=ve1 (by decide+kernel)
theorem Di:VE BF "ready":=ve1 (by decide+kernel)
theorem Jz:VE BF "word":=ve1 (by decide+kernel)
theorem Vf:VE BF "words":=ve1 (by decide+kernel)
abbrev EK:Stmt:=top 50
theorem Vg:FnScope ["word"] ["word"] (defScope EK):=⟨rfl,rfl,rfl,by decide+kernel,rfl,by decide+kernel,by decide+kernel⟩
theorem Vh:GLF EK "int":=by decide+kernel
theorem Vi:GLF EK "is_number":=by decide+kernel
theorem K0:VE EK "word":=ve1 (by decide+kernel)
abbrev Dj:Stmt:=top 51
theorem Vj:FnScope ["word"] ["word"] (defScope Dj):=⟨rfl,rfl,rfl,by decide+kernel,rfl,by decide+kernel,by decide+kernel⟩
theorem Vk:GLF Dj "NoText":=by decide+kernel
theorem Vl:GLF Dj "int":=by decide+kernel
theorem Vm:GLF Dj "is_number":=by decide+kernel
theorem O5:VE Dj "word":=ve1 (by decide+kernel)
abbrev CC:Stmt:=top 52
theorem sc_is_number:FnScope ["word","figures"] ["word"] (defScope CC):=⟨rfl,rfl,rfl,by decide+kernel,rfl,by decide+kernel,by decide+kernel⟩
theorem Vn:GLF CC "MOST_FIGURES":=by decide+kernel
theorem Vo:GLF CC "all":=by decide+kernel
theorem Vp:GLF CC "int":=by decide+kernel
theorem O6:GLF CC "len":=by decide+kernel
theorem Vq:GLF CC "str":=by decide+kernel
theorem Vr:Loc (defScope CC) "figures":=Or.inl (by decide+kernel)
theorem K6:VE CC "figures":=ve1 (by decide+kernel)
theorem FE:VE CC "word":=ve1 (by decide+kernel)
abbrev EL:Stmt:=top 54
theorem Vs:FnScope ["_law_script","_law_k"] ["_law_script","_law_k"] (defScope EL):=⟨rfl,rfl,rfl,by decide+kernel,rfl,by decide+kernel,by decide+kernel⟩
theorem O7:GLF EL "len":=by decide+kernel
theorem Gr:VE EL "_law_k":=ve1 (by decide+kernel)
theorem FF:VE EL "_law_script":=ve1 (by decide+kernel)
abbrev Ct:Stmt:=top 55
theorem sc_law_pick:FnScope ["_law_script","_law_k","_law_many","_law_drawn"] ["_law_script","_law_k","_law_many"] (defScope Ct):=⟨rfl,rfl,rfl,by decide+kernel,rfl,by decide+kernel,by decide+kernel⟩
theorem Vt:GLF Ct "_law_cell":=by decide+kernel
theorem Vu:Loc (defScope Ct) "_law_drawn":=Or.inl (by decide+kernel)
theorem K7:VE Ct "_law_drawn":=ve1 (by decide+kernel)
theorem O8:VE Ct "_law_k":=ve1 (by decide+kernel)
theorem Vv:VE Ct "_law_many":=ve1 (by decide+kernel)
theorem Vw:VE Ct "_law_script":=ve1 (by decide+kernel)
abbrev BG:Stmt:=top 56
theorem sc_law_sum:FnScope ["_law_script","_law_at","_law_known","_law_deep","_law_way","_law_words","_law_one"] ["_law_script","_law_at","_law_known","_law_deep"] (defScope BG):=⟨rfl,rfl,rfl,by decide+kernel,rfl,by decide+kernel,by decide+kernel⟩
theorem FG:GLF BG "_law_pick":=by decide+kernel
theorem O9:GLF BG "_law_sum":=by decide+kernel
theorem Vx:GLF BG "len":=by decide+kernel
theorem Vy:Loc (defScope BG) "_law_one":=Or.inl (by decide+kernel)
theorem Vz:Loc (defScope BG) "_law_way":=Or.inl (by decide+kernel)
theorem W0:Loc (defScope BG) "_law_words":=Or.inl (by decide+kernel)
theorem Dk:VE BG "_law_at":=ve1 (by decide+kernel)
theorem K8:VE BG "_law_deep":=ve1 (by decide+kernel)
theorem FH:VE BG "_law_known":=ve1 (by decide+kernel)
theorem W1:VE BG "_law_one":=ve1 (by decide+kernel)
theorem Dl:VE BG "_law_script":=ve1 (by decide+kernel)
theorem W2:VE BG "_law_way":=ve1 (by decide+kernel)
theorem W3:VE BG "_law_words":=ve1 (by decide+kernel)
abbrev B5:Stmt:=top 57
theorem sc_law_counted:FnScope ["_law_script","_law_at","_law_known","_law_body","_law_deep","_law_most","_law_name","_law_goal","_law_more"] ["_law_script","_law_at","_law_known","_law_body","_law_deep"] (defScope B5):=⟨rfl,rfl,rfl,by decide+kernel,rfl,by decide+kernel,by decide+kernel⟩
theorem FI:GLF B5 "_law_pick":=by decide+kernel
theorem W4:GLF B5 "_law_sum":=by decide+kernel
theorem W5:GLF B5 "len":=by decide+kernel
theorem W6:Loc (defScope B5) "_law_goal":=Or.inl (by decide+kernel)
theorem W7:Loc (defScope B5) "_law_more":=Or.inl (by decide+kernel)
theorem OA:Loc (defScope B5) "_law_most":=Or.inl (by decide+kernel)
theorem W8:Loc (defScope B5) "_law_name":=Or.inl (by decide+kernel)
theorem EM:VE B5 "_law_at":=ve1 (by decide+kernel)
theorem OB:VE B5 "_law_body":=ve1 (by decide+kernel)
theorem W9:VE B5 "_law_deep":=ve1 (by decide+kernel)
theorem WA:VE B5 "_law_goal":=ve1 (by decide+kernel)
theorem K9:VE B5 "_law_known":=ve1 (by decide+kernel)
theorem WB:VE B5 "_law_more":=ve1 (by decide+kernel)
theorem KA:VE B5 "_law_most":=ve1 (by decide+kernel)
theorem KB:VE B5 "_law_name":=ve1 (by decide+kernel)
theorem EN:VE B5 "_law_script":=ve1 (by decide+kernel)
abbrev AW:Stmt:=top 58
theorem sc_law_block:FnScope ["_law_script","_law_at","_law_known","_law_deep","_law_deeds","_law_k","_law_base","_law_way","_law_name","_law_first","_law_mine","_law_second","_law_yours","_law_body"] ["_law_script","_law_at","_law_known","_law_deep"] (defScope AW):=⟨rfl,rfl,rfl,by decide+kernel,rfl,by decide+kernel,by decide+kernel⟩
theorem WC:(defScope AW).names.lookup ("_law_known" : Str)=some NameKind.cell:=by decide+kernel
theorem KC:GLF AW "_law_block":=by decide+kernel
theorem WD:GLF AW "_law_counted":=by decide+kernel
theorem KD:GLF AW "_law_pick":=by decide+kernel
theorem OC:GLF AW "_law_sum":=by decide+kernel
theorem WE:GLF AW "range":=by decide+kernel
theorem WF:GLF AW "tuple":=by decide+kernel
theorem WG:Loc (defScope AW) "_law_base":=Or.inl (by decide+kernel)
theorem WH:Loc (defScope AW) "_law_body":=Or.inl (by decide+kernel)
theorem WI:Loc (defScope AW) "_law_deeds":=Or.inl (by decide+kernel)
theorem WJ:Loc (defScope AW) "_law_first":=Or.inl (by decide+kernel)
theorem WK:Loc (defScope AW) "_law_k":=Or.inl (by decide+kernel)
theorem OD:Loc (defScope AW) "_law_known":=Or.inr (by decide+kernel)
theorem WL:Loc (defScope AW) "_law_mine":=Or.inl (by decide+kernel)
theorem WM:Loc (defScope AW) "_law_name":=Or.inl (by decide+kernel)
theorem WN:Loc (defScope AW) "_law_second":=Or.inl (by decide+kernel)
theorem WO:Loc (defScope AW) "_law_way":=Or.inl (by decide+kernel)
theorem WP:Loc (defScope AW) "_law_yours":=Or.inr (by decide+kernel)
theorem OE:VE AW "_law_at":=ve1 (by decide+kernel)
theorem DL:VE AW "_law_base":=ve1 (by decide+kernel)
theorem WQ:VE AW "_law_body":=ve1 (by decide+kernel)
theorem Gs:VE AW "_law_deeds":=ve1 (by decide+kernel)
theorem EO:VE AW "_law_deep":=ve1 (by decide+kernel)
theorem WR:VE AW "_law_first":=ve1 (by decide+kernel)
theorem WS:VE AW "_law_k":=ve1 (by decide+kernel)
theorem Cu:VE AW "_law_known":=ve2 (by decide+kernel)
theorem WT:VE AW "_law_mine":=ve1 (by decide+kernel)
theorem OF:VE AW "_law_name":=ve1 (by decide+kernel)
theorem Cv:VE AW "_law_script":=ve1 (by decide+kernel)
theorem WU:VE AW "_law_second":=ve1 (by decide+kernel)
theorem OG:VE AW "_law_way":=ve1 (by decide+kernel)
abbrev BX:Stmt:=top 59
theorem sc_law_program:FnScope ["_law_script","_law_at","_law_ins","_law_k","_law_low"] ["_law_script","_law_at"] (defScope BX):=⟨rfl,rfl,rfl,by decide+kernel,rfl,by decide+kernel,by decide+kernel⟩
theorem WV:GLF BX "_law_block":=by decide+kernel
theorem KE:GLF BX "_law_pick":=by decide+kernel
theorem WW:GLF BX "range":=by decide+kernel
theorem WX:GLF BX "tuple":=by decide+kernel
theorem WY:Loc (defScope BX) "_law_ins":=Or.inl (by decide+kernel)
theorem WZ:Loc (defScope BX) "_law_k":=Or.inl (by decide+kernel)
theorem Wa:Loc (defScope BX) "_law_low":=Or.inl (by decide+kernel)
theorem Gu:VE BX "_law_at":=ve1 (by decide+kernel)
theorem KG:VE BX "_law_ins":=ve1 (by decide+kernel)
theorem KH:VE BX "_law_k":=ve1 (by decide+kernel)
theorem OH:VE BX "_law_low":=ve1 (by decide+kernel)
theorem Gv:VE BX "_law_script":=ve1 (by decide+kernel)
abbrev BY:Stmt:=top 61
theorem sc_law_spoilt:FnScope ["_law_text_here","_law_cell_here","_law_signs","_law_at","_law_sign","_law_on","_law_way"] ["_law_text_here","_law_cell_here","_law_signs"] (defScope BY):=⟨rfl,rfl,rfl,by decide+kernel,rfl,by decide+kernel,by decide+kernel⟩
theorem OI:GLF BY "len":=by decide+kernel
theorem Wb:Loc (defScope BY) "_law_at":=Or.inl (by decide+kernel)
theorem Wc:Loc (defScope BY) "_law_on":=Or.inl (by decide+kernel)
theorem We:Loc (defScope BY) "_law_sign":=Or.inl (by decide+kernel)
theorem Wf:Loc (defScope BY) "_law_way":=Or.inl (by decide+kernel)
theorem CD:VE BY "_law_at":=ve1 (by decide+kernel)
theorem FJ:VE BY "_law_cell_here":=ve1 (by decide+kernel)
theorem OJ:VE BY "_law_on":=ve1 (by decide+kernel)
theorem OK:VE BY "_law_sign":=ve1 (by decide+kernel)
theorem OL:VE BY "_law_signs":=ve1 (by decide+kernel)
theorem BH:VE BY "_law_text_here":=ve1 (by decide+kernel)
theorem FK:VE BY "_law_way":=ve1 (by decide+kernel)
abbrev Dn:Stmt:=top 62
theorem Wg:FnScope ["_law_expr"] ["_law_expr"] (defScope Dn):=⟨rfl,rfl,rfl,by decide+kernel,rfl,by decide+kernel,by decide+kernel⟩
theorem OM:GLF Dn "_law_sum_text":=by decide+kernel
theorem Wh:GLF Dn "str":=by decide+kernel
theorem FL:VE Dn "_law_expr":=ve1 (by decide+kernel)
abbrev C4:Stmt:=top 63
theorem sc_law_block_text:FnScope ["_law_block_here","_law_text_here","_law_deed"] ["_law_block_here"] (defScope C4):=⟨rfl,rfl,rfl,by decide+kernel,rfl,by decide+kernel,by decide+kernel⟩
theorem KI:GLF C4 "_law_block_text":=by decide+kernel
theorem KJ:GLF C4 "_law_sum_text":=by decide+kernel
theorem Wi:GLF C4 "str":=by decide+kernel
theorem Wj:Loc (defScope C4) "_law_deed":=Or.inl (by decide+kernel)
theorem Do:Loc (defScope C4) "_law_text_here":=Or.inl (by decide+kernel)
theorem Wk:VE C4 "_law_block_here":=ve1 (by decide+kernel)
theorem CU:VE C4 "_law_deed":=ve1 (by decide+kernel)
theorem Dp:VE C4 "_law_text_here":=ve1 (by decide+kernel)
abbrev Dq:Stmt:=top 64
theorem sc_law_text:FnScope ["_law_program_here","_law_rows"] ["_law_program_here"] (defScope Dq):=⟨rfl,rfl,rfl,by decide+kernel,rfl,by decide+kernel,by decide+kernel⟩
theorem Wl:GLF Dq "_law_block_text":=by decide+kernel
theorem Wm:Loc (defScope Dq) "_law_rows":=Or.inl (by decide+kernel)
theorem ON:VE Dq "_law_program_here":=ve1 (by decide+kernel)
theorem Wn:VE Dq "_law_rows":=ve1 (by decide+kernel)
abbrev Ai:Stmt:=top 65
theorem sc_law_holds:FnScope ["_law_text_here","_law_kept","_law_answer","e","_law_kinds"] ["_law_text_here"] (defScope Ai):=⟨rfl,rfl,rfl,by decide+kernel,rfl,by decide+kernel,by decide+kernel⟩
theorem Wo:GLF Ai "BadPaper":=by decide+kernel
theorem Wp:GLF Ai "BadPlan":=by decide+kernel
theorem Wq:GLF Ai "NoProgram":=by decide+kernel
theorem Wr:GLF Ai "NoText":=by decide+kernel
theorem Ws:GLF Ai "NoWorths":=by decide+kernel
theorem Wt:GLF Ai "RoomError":=by decide+kernel
theorem Wu:GLF Ai "ValueError":=by decide+kernel
theorem Wv:GLF Ai "_law_text":=by decide+kernel
theorem Ww:GLF Ai "is_program":=by decide+kernel
theorem EQ:GLF Ai "isinstance":=by decide+kernel
theorem Wx:GLF Ai "read":=by decide+kernel
theorem Wy:(defScope Ai).names.lookup ("_law_answer" : Str)=some NameKind.local:=by decide+kernel
theorem Wz:(defScope Ai).names.lookup ("_law_kept" : Str)=some NameKind.local:=by decide+kernel
theorem X0:(defScope Ai).names.lookup ("e" : Str)=some NameKind.local:=by decide+kernel
theorem X1:Loc (defScope Ai) "_law_answer":=Or.inl (by decide+kernel)
theorem X2:Loc (defScope Ai) "_law_kept":=Or.inl (by decide+kernel)
theorem X3:Loc (defScope Ai) "_law_kinds":=Or.inl (by decide+kernel)
theorem OO:VE Ai "_law_answer":=ve1 (by decide+kernel)
theorem Dr:VE Ai "_law_kept":=ve1 (by decide+kernel)
theorem OP:VE Ai "_law_kinds":=ve1 (by decide+kernel)
theorem OQ:VE Ai "_law_text_here":=ve1 (by decide+kernel)
abbrev Ag:Stmt:=top 66
theorem sc_law_once:FnScope ["_law_script","_law_program_here","_law_text_here","_law_k","_law_lines","_law_place","_law_other"] ["_law_script"] (defScope Ag):=⟨rfl,rfl,rfl,by decide+kernel,rfl,by decide+kernel,by decide+kernel⟩
theorem KK:GLF Ag "_law_holds":=by decide+kernel
theorem KL:GLF Ag "_law_pick":=by decide+kernel
theorem X4:GLF Ag "_law_program":=by decide+kernel
theorem X5:GLF Ag "_law_spoilt":=by decide+kernel
theorem X6:GLF Ag "_law_text":=by decide+kernel
theorem OR:GLF Ag "len":=by decide+kernel
theorem X7:GLF Ag "range":=by decide+kernel
theorem X8:GLF Ag "read":=by decide+kernel
theorem X9:GLF Ag "written":=by decide+kernel
theorem XA:Loc (defScope Ag) "_law_k":=Or.inl (by decide+kernel)
theorem XB:Loc (defScope Ag) "_law_lines":=Or.inl (by decide+kernel)
theorem XD:Loc (defScope Ag) "_law_other":=Or.inl (by decide+kernel)
theorem XE:Loc (defScope Ag) "_law_place":=Or.inl (by decide+kernel)
theorem XF:Loc (defScope Ag) "_law_program_here":=Or.inl (by decide+kernel)
theorem XG:Loc (defScope Ag) "_law_text_here":=Or.inl (by decide+kernel)
theorem XH:VE Ag "_law_k":=ve1 (by decide+kernel)
theorem Ds:VE Ag "_law_lines":=ve1 (by decide+kernel)
theorem XI:VE Ag "_law_other":=ve1 (by decide+kernel)
theorem Gw:VE Ag "_law_place":=ve1 (by decide+kernel)
theorem KM:VE Ag "_law_program_here":=ve1 (by decide+kernel)
theorem Gx:VE Ag "_law_script":=ve1 (by decide+kernel)
theorem Gy:VE Ag "_law_text_here":=ve1 (by decide+kernel)
abbrev Bl:Stmt:=top 67
theorem sc_law:FnScope ["_law_script","_law_turn"] ["_law_script"] (defScope Bl):=⟨rfl,rfl,rfl,by decide+kernel,rfl,by decide+kernel,by decide+kernel⟩
theorem XJ:GLF Bl "_law_once":=by decide+kernel
theorem XL:GLF Bl "range":=by decide+kernel
theorem XM:Loc (defScope Bl) "_law_turn":=Or.inr (by decide+kernel)
theorem OS:VE Bl "_law_script":=ve1 (by decide+kernel)
abbrev CV(J:It)(g:TG)(tb:TS)(D:Ends)(σ:St)(H:Hp):Prop:=∃W:Nat->Nat->St->Hp->Prop,(∃m,W 0 m σ H)/\∀i m σ H,W i m σ H->
 (J.stop i H/\D.nx σ H)\/(J.go i H/\∃N:St->Hp->Prop,(∀ q H',N q H'->∃B,B<m/\W (i+1) B q H')/\∀x H',J.yld i H x H'->g x σ H' fun z H2=>tb {D with nx:=N,ct:=N,bk:=D.nx} z H2)
theorem KN:CM (IY K tl) g tb D σ H=tl σ H fun x H1=>isRf x fun a=>(∃xs,SqT K H1 a xs)/\CV (Itt K a) g tb D σ H1:=rfl
theorem KO:CM (IX K tl) g tb D σ H=tl σ H fun x H1=>isRf x fun a=>(∃xs,SqL K H1 a xs)/\CV (Itl K a) g tb D σ H1:=rfl
theorem KP:CM (Lm ta) g tb D σ H=ta σ H fun vs H1=>∃j:Int,vs=[.int j]/\-(2^62)<=j/\j<2^62/\CV (Itr 0 j.toNat) g tb D σ H1:=rfl
theorem KQ:Ch (IY K tl) g tt te mp σ H Q=tl σ H fun x H1=>isRf x fun a=>(∃xs,SqT K H1 a xs)/\Bf (Itt K a) g tt te Q (subσ mp σ) H1:=rfl
theorem KR:Ch (IX K tl) g tt te mp σ H Q=tl σ H fun x H1=>isRf x fun a=>(∃xs,SqL K H1 a xs)/\Bf (Itl K a) g tt te Q (subσ mp σ) H1:=rfl
theorem KS:Ch (MR tl) g tt te mp σ H Q=tl σ H fun x H1=>∃z,x=.str z/\Bf (Its z) g tt te Q (subσ mp σ) H1:=rfl
theorem OT(B:Nat->List V->St->Hp->Prop)(h0:B 0 [] σ H)(hz:z.cps.size<yr)(hy:∀i ys σ H,B i ys σ H->ys.length<=i)
  (Z:∀i ys c σ H,z.cps[i]?=some c->B i ys σ H->g (.str ⟨#[c]⟩) σ H fun q H2=>tt q H2 fun b G=>if b=true then te q G (fun v H4=>B (i+1) (ys++[v]) q H4) else B (i+1) ys q G)
  (hd:∀ys σ H,B z.cps.size ys σ H->∀p,H p=none->Q (.ref p) (upd H p (.lst ys))):Bf (Its z) g tt te Q σ H:=by
 refine⟨fun i m ys σ H=>m=z.cps.size-i/\i<=z.cps.size/\B i ys σ H,⟨z.cps.size,by simp,y0i _,h0⟩,?_⟩;rintro i m ys σ H ⟨rfl,hi,p⟩;have U:=hy i ys σ H p;by_cases F:i<z.cps.size
 ·refine .inr ⟨F,by lia,B (i+1),fun M J H' O=>⟨z.cps.size-(i+1),by lia,rfl,F,O⟩,fun x H' y=>?_⟩;obtain⟨e,c,hc,y⟩:=y;subst e y;exact Z i ys c σ _ hc p
 ·have e:i=z.cps.size:=by lia
  subst e;exact .inl ⟨rfl,by lia,hd ys σ H p⟩
inductive Wd where
 |add|sub|mul|quo|less|same|min|max
 deriving DecidableEq
noncomputable def Wd.str:Wd->Str
 |.add=>"add" | .sub=>"sub" | .mul=>"mul" | .quo=>"quo" | .less=>"less" | .same=>"same" | .min=>"min" | .max=>"max"
inductive T where
 |num (i:Int)|nm (x:Str)|op (w:Wd) (a b:T)
noncomputable def T.enc:T->Dm
 |.num i=>.tup [.str "num",.int i]
 |.nm x=>.tup [.str "name",.str x]
 |.op w a b=>.tup [.str w.str,a.enc,b.enc]
noncomputable def T.ok(g:List Str):Nat->T->Prop
 |0,_=>False
 |_+1,.num i=>-32768<=i/\i<=32767
 |_+1,.nm x=>x∈g
 |n+1,.op _ a b=>T.ok g n a/\T.ok g n b
theorem T.ok.mono(q:∀x∈g,x∈g'):∀{n m:Nat} {t:T},T.ok g n t->n<=m->T.ok g' m t
 |0,_,_,h,_=>h.elim
 |n+1,0,_,_,h=>absurd h (by lia)
 |n+1,m+1,.num i,h,_=>h
 |n+1,m+1,.nm x,h,_=>q x h
 |n+1,m+1,.op w a b,h,hm=>⟨T.ok.mono q h.1 (by lia),T.ok.mono q h.2 (by lia)⟩
inductive D where
 |set (x:Str) (t:T)|ite (t:T) (b c:List D)|whl (t:T) (m:Int) (b:List D)
mutual
noncomputable def D.enc:D->Dm
 |.set x t=>.tup [.str "set",.str x,t.enc]
 |.ite t b c=>.tup [.str "if",t.enc,.tup (AM b),.tup (AM c)]
 |.whl t m b=>.tup [.str "while",t.enc,.int m,.tup (AM b)]
noncomputable def AM:List D->List Dm
 |[]=>[]
 |d::r=>d.enc::AM r
end
theorem FM:∀(b c:List D),AM (b++c)=AM b++AM c
 |[],c=>by simp[AM]
 |d::b,c=>by rw[y0y,AM,AM,FM b c,y0y]
theorem Cw:∀b:List D,(AM b).length=b.length
 |[]=>by simp[AM]
 |d::b=>by rw[AM,ya,ya,Cw b]
noncomputable def Aj:List Str:=["a","b","c","dd"]
noncomputable def okB:Nat->List D->Prop
 |0,_=>False
 |n+1,b=>b.length<=6/\∀d∈b,match d with
  |.set x t=>x∈Aj/\t.ok Aj 5
  |.ite t b c=>t.ok Aj 5/\okB n b/\okB n c
  |.whl t m b=>t.ok Aj 5/\0<=m/\m<=20/\okB n b
abbrev okD(n:Nat)(d:D):Prop:=match d with
 |.set x t=>x∈Aj/\t.ok Aj 5
 |.ite t b c=>t.ok Aj 5/\okB n b/\okB n c
 |.whl t m b=>t.ok Aj 5/\0<=m/\m<=20/\okB n b
noncomputable def T.knows(p:List Str):T->Bool
 |.num _=>true
 |.nm x=>p.contains x
 |.op _ a b=>a.knows p&&b.knows p
mutual
noncomputable def kbD(p:List Str):D->Option (List Str)
 |.set x t=>if t.knows p then some (p++[x]) else none
 |.ite t b c=>if t.knows p then(match kbB p b,kbB p c with|some q,some r=>some (q.filter fun x=>r.contains x)|_,_=>none) else none
 |.whl t _ b=>if t.knows p then(match kbB p b with|some _=>some p|none=>none) else none
noncomputable def kbB(p:List Str):List D->Option (List Str)
 |[]=>some p
 |d::r=>match kbD p d with
  |some q=>kbB q r
  |none=>none
end
theorem OU(p:List Str):∀(b c:List D),kbB p (b++c)=match kbB p b with|some q=>kbB q c|none=>none
 |[],c=>by simp[kbB]
 |d::b,c=>by
  rw[y0y,kbB,kbB];cases kbD p d with
  |none=>rfl
  |some q=>exact OU q b c
noncomputable def Sub(g p:List Str):Prop:=∀x∈g,x∈p
theorem Sub.refl(g:List Str):Sub g g:=fun _ h=>h
theorem Sub.trans(h:Sub a b)(k:Sub b c):Sub a c:=fun x hx=>k x (h x hx)
theorem T.ok.knows(q:Sub g p):∀{n:Nat} {t:T},T.ok g n t->t.knows p=true
 |0,_,h=>h.elim
 |n+1,.num i,_=>rfl
 |n+1,.nm x,h=>by simpa [T.knows] using q x h
 |n+1,.op w a b,h=>by simp[T.knows,T.ok.knows q h.1,T.ok.knows q h.2]
noncomputable def Knows(g:List Str)(b:List D)(g':List Str):Prop:=∀p,Sub g p->∃q,kbB p b=some q/\Sub g' q/\Sub p q
noncomputable def KnowsD(g:List Str)(d:D)(g':List Str):Prop:=∀p,Sub g p->∃q,kbD p d=some q/\Sub g' q/\Sub p q
theorem Knows.nil(g:List Str):Knows g [] g:=fun p h=>⟨p,by simp[kbB],h,Sub.refl p⟩
theorem Knows.snoc(h:Knows g b g1)(k:KnowsD g1 d g2):Knows g (b++[d]) g2:=fun p J=>by
 obtain⟨q,e,G,F⟩:=h p J;obtain⟨r,M,B,z⟩:=k q G;refine⟨r,?_,B,F.trans z⟩;rw[OU,e];simp[kbB,M]
theorem KnowsD.set(B:t.ok g n)(F:∀y∈g',y∈g\/y=x):KnowsD g (.set x t) g':=fun p q=>by
 refine⟨p++[x],by simp[kbD,B.knows q],fun y hy=>?_,fun y hy=>y10 _ hy⟩;rcases F y hy with z|z
 ·exact y10 _ (q y z)
 ·exact y00 _ (by simp[z])
theorem KnowsD.ite(O:t.ok g n)(hb:Knows g b m)(hc:Knows g c y)(B:∀x∈g',x∈m/\x∈y):KnowsD g (.ite t b c) g':=fun p z=>by
 obtain⟨q,e,M,J⟩:=hb p z;obtain⟨r,U,G,F⟩:=hc p z;refine⟨q.filter fun x=>r.contains x,by simp[kbD,O.knows z,e,U],fun x hx=>?_,fun x hx=>?_⟩
 ·exact List.mem_filter.mpr ⟨M x (B x hx).1,by simpa using G x (B x hx).2⟩
 ·exact List.mem_filter.mpr ⟨J x hx,by simpa using F x hx⟩
theorem KnowsD.whl(B:t.ok g n)(hb:Knows g b g1):KnowsD g (.whl t m b) g:=fun p z=>by
 obtain⟨q,e,G,F⟩:=hb p z;exact⟨p,by simp[kbD,B.knows z,e],z,Sub.refl p⟩
theorem Knows.sub(h:Knows g b g1):Knows g b g:=fun p B=>by
 obtain⟨q,e,F,z⟩:=h p B;exact⟨q,e,B.trans z,z⟩
theorem XN(B:0<=k)(h:k<(xs.length:Int)):∃v,xs[k.toNat]?=some v/\atI xs k=some v:=by
 have hk:k.toNat<xs.length:=by lia
 have z:k=((k.toNat:Nat):Int):=by lia
 refine⟨xs[k.toNat],y0u hk,?_⟩;have q:atI xs ((k.toNat:Nat):Int)=some xs[k.toNat]:=DA (y0u hk);rw[<- z] at q;exact q
theorem CF{z:Type}{c:z->V}{ns:List z}{k:Int}(B:0<=k)(h:k<(ns.length:Int)):∃v∈ns,atI (ns.map c) k=some (c v):=by
 obtain⟨v,q,F⟩:=XN (xs:=ns.map c) B (by rw[y4]; exact h);rw[y0b] at q;cases e:ns[k.toNat]? with
 |none=>rw[e] at q; cases q
 |some i=>rw[e] at q; cases q; exact⟨i,yt e,F⟩
theorem OV(ns:List Int):(ns.map V.int).all okV=true:=by simp[okV]
theorem OW(h:Sub g Aj):(g.map V.str).all okV=true:=by
 simp only[y2o,y16];intro x hx;have:=h x hx;simp only[Aj,yu,yo,or_false] at this;rcases this with rfl|rfl|rfl|rfl<;>decide+kernel
theorem sm6{n:Nat}(h:n<=4000000):n<yr:=Nat.lt_of_le_of_lt h (by decide)
theorem zl(n:Nat)(h:n<=4000000):n<=yr:=y2r (sm6 h)
theorem Gz(h:SqL K H a xs):Ci K (.ref a) H xs.length:=.inl ⟨a,xs,rfl,.inl h,rfl⟩
theorem KT(h:SqT K H a xs):Ci K (.ref a) H xs.length:=.inl ⟨a,xs,rfl,.inr h,rfl⟩
theorem KU(h:SqL K H a xs)(z:xs.all okV=true)(q:SqL K H p []):JB K (.ref a) (.ref p) H xs.isEmpty:=.inr (.inl ⟨a,p,xs,[],rfl,rfl,h,q,z,rfl,(MQ xs).symm⟩)
theorem KW(CX:CXT)(P:yl)(w:y08)(K:y3)(mg:Str->Option y9)(base:Heap)(N:List Str)(qual:Str)(scope:Scope)(f:Addr)(cd:y9)(A:y05)(outer:List Env)(s:y6)(H:Hp)(E:XK):(AS CX P w K mg base N qual scope f cd A outer s H E).K=K:=rfl
theorem KY(CX:CXT)(P:yl)(w:y08)(K:y3)(mg:Str->Option y9)(base:Heap)(N:List Str)(qual:Str)(scope:Scope)(f:Addr)(cd:y9)(A:y05)(outer:List Env)(s:y6)(H:Hp)(E:XK):(AS CX P w K mg base N qual scope f cd A outer s H E).nox.K=K:=rfl
theorem KZ(X:Cx)(q:List Str)(scope:Scope)(cl:List (Str×Addr))(C:Addr)(s₀:y6)(H₀:Hp)(ex:List Addr):(Av X q scope cl C s₀ H₀ ex).K=X.K:=rfl
theorem Ka{K:y3}{ta:TA}{g:TG}{tb:TS}{D:Ends}{σ:St}{H:Hp}:CM (RX K ta) g tb D σ H=ta σ H fun vs H1=>∃a,vs=[.ref a]/\(∃xs,SqL K H1 a xs)/\CV (Ite K a) g tb D σ H1:=rfl
theorem Kb{K:y3}{ta:TA}{g:TG}{tb:TS}{D:Ends}{σ:St}{H:Hp}:CM (RY K ta) g tb D σ H=ta σ H fun vs H1=>∃a b,vs=[.ref a,.ref b]/\(∃xs,SqL K H1 a xs)/\(∃ys,SqL K H1 b ys)/\CV (Itz K a b) g tb D σ H1:=rfl
theorem Kc{ta:TA}{g:TG}{tb:TS}{D:Ends}{σ:St}{H:Hp}:CM (Lo ta) g tb D σ H=ta σ H fun vs H1=>∃i j:Int,vs=[.int i,.int j]/\(-(2^62)<=i/\i<2^62/\-(2^62)<=j/\j<2^62)/\CV (Itr i (j-i).toNat) g tb D σ H1:=rfl
theorem Kd:Ch (RZ K tl) g tt te mp σ H Q=tl σ H fun x H1=>∃a,x=.ref a/\(((∃xs,SqL K H1 a xs)/\Bf (Itl K a) g tt te Q (subσ mp σ) H1)\/((∃xs,SqT K H1 a xs)/\Bf (Itt K a) g tt te Q (subσ mp σ) H1)):=rfl
theorem Ke(CX:CXT)(P:yl)(w:y08)(K:y3)(mg:Str->Option y9)(base:Heap)(N:List Str)(qual:Str)(scope:Scope)(f:Addr)(cd:y9)(A:y05)(outer:List Env)(s:y6)(H:Hp)(E:XK):(AS CX P w K mg base N qual scope f cd A outer s H E).prog=P:=rfl
theorem Kf(CX:CXT)(P:yl)(w:y08)(K:y3)(mg:Str->Option y9)(base:Heap)(N:List Str)(qual:Str)(scope:Scope)(f:Addr)(cd:y9)(A:y05)(outer:List Env)(s:y6)(H:Hp)(E:XK):(AS CX P w K mg base N qual scope f cd A outer s H E).w=w:=rfl
theorem Kg(CX:CXT)(P:yl)(w:y08)(K:y3)(mg:Str->Option y9)(base:Heap)(N:List Str)(qual:Str)(scope:Scope)(f:Addr)(cd:y9)(A:y05)(outer:List Env)(s:y6)(H:Hp)(E:XK):(AS CX P w K mg base N qual scope f cd A outer s H E).nox.prog=P:=rfl
theorem Kh(CX:CXT)(P:yl)(w:y08)(K:y3)(mg:Str->Option y9)(base:Heap)(N:List Str)(qual:Str)(scope:Scope)(f:Addr)(cd:y9)(A:y05)(outer:List Env)(s:y6)(H:Hp)(E:XK):(AS CX P w K mg base N qual scope f cd A outer s H E).nox.w=w:=rfl
theorem Ki(CX:CXT)(P:yl)(w:y08)(K:y3)(mg:Str->Option y9)(base:Heap)(N:List Str)(qual:Str)(scope:Scope)(f:Addr)(cd:y9)(A:y05)(outer:List Env)(s:y6)(H:Hp)(E:XK):(AS CX P w K mg base N qual scope f cd A outer s H E).mg=mg:=rfl
theorem Kj(CX:CXT)(P:yl)(w:y08)(K:y3)(mg:Str->Option y9)(base:Heap)(N:List Str)(qual:Str)(scope:Scope)(f:Addr)(cd:y9)(A:y05)(outer:List Env)(s:y6)(H:Hp)(E:XK):(AS CX P w K mg base N qual scope f cd A outer s H E).nox.mg=mg:=rfl
theorem Kk(CX:CXT)(P:yl)(w:y08)(K:y3)(mg:Str->Option y9)(base:Heap)(N:List Str)(qual:Str)(scope:Scope)(f:Addr)(cd:y9)(A:y05)(outer:List Env)(s:y6)(H:Hp)(E:XK):(AS CX P w K mg base N qual scope f cd A outer s H E).base=base:=rfl
theorem Kl(CX:CXT)(P:yl)(w:y08)(K:y3)(mg:Str->Option y9)(base:Heap)(N:List Str)(qual:Str)(scope:Scope)(f:Addr)(cd:y9)(A:y05)(outer:List Env)(s:y6)(H:Hp)(E:XK):(AS CX P w K mg base N qual scope f cd A outer s H E).nox.base=base:=rfl
theorem Km(X:Cx)(q:List Str)(scope:Scope)(cl:List (Str×Addr))(C:Addr)(s₀:y6)(H₀:Hp)(ex:List Addr):(Av X q scope cl C s₀ H₀ ex).prog=X.prog:=rfl
theorem Kn(X:Cx)(q:List Str)(scope:Scope)(cl:List (Str×Addr))(C:Addr)(s₀:y6)(H₀:Hp)(ex:List Addr):(Av X q scope cl C s₀ H₀ ex).w=X.w:=rfl
theorem Ko(X:Cx)(q:List Str)(scope:Scope)(cl:List (Str×Addr))(C:Addr)(s₀:y6)(H₀:Hp)(ex:List Addr):(Av X q scope cl C s₀ H₀ ex).mg=X.mg:=rfl
theorem Kq(X:Cx)(q:List Str)(scope:Scope)(cl:List (Str×Addr))(C:Addr)(s₀:y6)(H₀:Hp)(ex:List Addr):(Av X q scope cl C s₀ H₀ ex).base=X.base:=rfl
theorem Kr:Ch (JW K ta) g tt te mp σ H Q=ta σ H fun vs H1=>∃a b,vs=[.ref a,.ref b]/\(∃xs,SqT K H1 a xs)/\(∃ys,SqT K H1 b ys)/\Bf (ED K a b) g tt te Q (subσ mp σ) H1:=rfl
def rdA:="IG IH Il Im IJ IK Io Ip Iq Ir IA IB IC"
def rdB:="ID IE IF II D5 Ii Ij Ik IL IM IN IP IQ IR C6 Ce GD tOp D6 tC E5 Bi E4 E3 Eg G0 IU Fz Fx tCB El GE Em tUn rU rI0 rI Ft tOr Fu tB Fv IS Fw tIf JI JQ Ie JL JP JM JN JO Ex IT tSl GI GJ GK JS JR JT JU Ka Kb Kc Kd Ke Kf Kg Kh Ki Kk Kj Kl Km Kn Ko Kq Kr Ey GX GL tDX JX GF GG tBM qEq qNe qIn Ew GR GS GT JC GQ GU JJ GV JF JG JH rIx E7 Be En GO Iw J3 JA Ev GM GN IV Fy Es KN KO KP KQ KR KS KW KY KZ Nat.reduceAdd Nat.reduceSub Nat.add_zero Nat.sub_zero y38 y2k y2l y34 y35 List.cons.injEq y1g V.int.injEq V.ref.injEq V.str.injEq V.bl.injEq V.ty.injEq reduceCtorEq false_and and_false and_true true_and exists_false exists_const false_or or_false exists_eq_left exists_eq_left' exists_eq_right exists_eq_right' exists_and_left decide_eq_true_eq y0p y31 exists_eq true_or or_true y0o if_true if_false y09 y37 y2w decide_true decide_false y3a List.isEmpty_nil y0a yx bne_self_eq_false beq_self_eq_true"
def rdS(a b:String):Lean.MacroM (Lean.TSyntax `tactic):=do
 let f:=fun(s:String)=>(s.splitOn " ").toArray.map fun n=>Lean.mkIdent n.toName
 let a<-(f a).mapM fun i=>`(Lean.Parser.Tactic.simpLemma|↓$i)
 let b<-(f b).mapM fun i=>`(Lean.Parser.Tactic.simpLemma|$i:term)
 `(tactic|simp only[$(a++b),*])
local macro_rules|`(tactic|walk_at "rd")=>rdS rdA (rdB++" Rf Rg ML")
section
variable{P:yl}{w:y08}{K:y3}{mg:Str->Option y9}{base:Heap}{f:Addr}{fd:y14}
noncomputable def OX(K:y3):Sp:=fun vs H Q _=>∃(a:Addr) (ns:List Int) (k:Int),vs=[.ref a,.int k]/\SqL K H a (ns.map V.int)/\0<=k/\∀(i:Int) (H':Hp),Same H H'->Q (.int i) H'
theorem XO(F:Fun K "_law_cell" "_law_cell" EL f fd) (b_len:mg "len" = none):FnOk P w K mg base CX0 1 f fd ["_law_script","_law_k"] (OX K):=by
 refine F.ok Vs (fun vs H Q E h=>?_) (fun U A outer s H vs Q E J h=>?_)
 ·obtain⟨a,ns,k,rfl,_⟩:=h;rfl
 obtain⟨a,ns,k,rfl,B,O,q⟩:=h;refine⟨_,(A7 (AH (AI Bd (A1 1 rfl Gr) (AV B0 O7 b_len B1 (A0 (A1 0 rfl FF) A2) B4 B3) (AG _)) (A8 (AC (A9 Ad (A1 0 rfl FF) (A1 1 rfl Gr) (fun _ _=>rfl)))) AJ)
 (A7 (AH (AI (gEq J.units) (A1 0 rfl FF) (AT A2) (AG _)) (A8 (AC A3)) AJ)
 (A8 (AC (A5 AR (A5 C8 (A9 Ad (A1 0 rfl FF) (A5 CN (A1 1 rfl Gr) (AV B0 O7 b_len B1 (A0 (A1 0 rfl FF) A2) B4 B3)) (fun _ _=>rfl)) A3) (A1 1 rfl Gr)))))),?_⟩
 walk_at "rd";refine⟨_,Gz B,?_⟩;rw[y4];split
 ·rename_i hk;obtain⟨i,_,e⟩:=CF (c:=V.int) O hk;exact⟨_,B,_,e,q i H (Same.refl _)⟩
 ·refine⟨y0i _,fun p M=>?_⟩;have z:=A6 M (.lst []);refine⟨_,KU (z.seq B) (OV ns) (SqL.of A4),?_⟩;split
  ·exact q 0 _ z
  ·rename_i G;have hl:0<(ns.length:Int):=by
    cases ns with
    |nil=>exact absurd rfl G
    |cons a r=>simp only[ya]; lia
   obtain⟨i,_,e⟩:=CF (c:=V.int) (ns:=ns) (k:=k % (ns.length:Int)) (Int.emod_nonneg _ (by lia)) (y39 _ hl);exact⟨_,Gz (z.seq B),by rw[y4]; exact hl,_,z.seq B,_,by rw[y4]; exact e,i,rfl,.inr ⟨by decide,by decide⟩,q _ _ z⟩
noncomputable def Cy(K:y3):Sp:=fun vs H Q _=>∃(a:Addr) (ns:List Int) (k m:Int),vs=[.ref a,.int k,.int m]/\SqL K H a (ns.map V.int)/\0<=k/\0<m/\∀(i:Int) (H':Hp),0<=i->i<m->Same H H'->Q (.int i) H'
theorem XQ(F:Fun K "_law_pick" "_law_pick" Ct f fd) (c_law_cell:Callee P w K mg base "_law_cell" ["_law_script","_law_k"] 1 (OX K)):FnOk P w K mg base CX0 2 f fd ["_law_script","_law_k","_law_many"] (Cy K):=by
 refine F.ok sc_law_pick (fun vs H Q E h=>?_) (fun M A outer s H vs Q E B h=>?_)
 ·obtain⟨a,ns,k,m,rfl,_⟩:=h;rfl
 obtain⟨a,ns,k,m,rfl,G,J,hm,q⟩:=h;refine⟨_,(A7 (AK (i:=3) sc_law_pick.nd rfl Vu (A5 CN (A5 C8 (A5 AR (AB c_law_cell B (by lia) (A0 (A1 0 rfl Vw) (A0 (A1 1 rfl O8) A2)) Vt Su) (A5 C8 A3 (A5 AR (A1 1 rfl O8) A3))) A3) A3) (AF rfl))
 (A8 (AC (A5 CN (A5 CN (A5 AR (A5 C8 (A1 3 rfl K7) (A1 3 rfl K7)) (A5 G9 (A1 3 rfl K7) A3)) A3) (A1 2 rfl Vv))))),?_⟩
 walk_at "rd";refine⟨a,ns,k,rfl,G,J,fun i H' z=>?_⟩;walk_at "rd";refine⟨.inl ⟨by decide,by decide⟩,.inr ⟨by decide,by decide⟩,by decide,?_⟩;have U:0<=(i+6151*(k+1))*40692 % 2147483399:=Int.emod_nonneg _ (by decide);have O:(i+6151*(k+1))*40692 % 2147483399<2147483399:=y39 _ (by decide);refine⟨.inl ⟨by lia,by lia⟩,⟨by decide,by decide⟩,by decide,hm,q _ _ (Int.emod_nonneg _ (by lia)) (y39 _ hm) z⟩
structure Df(K:y3)(mg:Str->Option y9)(x:Str)(st:Stmt)(ps:List Str)(f:Addr)(fd:y14):Prop where
 F:Fun K x x st f fd
 m:mg x=some (.ref f)
 b:Binds K fd ps []
theorem Df.callee(d:Df K mg x st ps f fd)(h:FnOk P w K mg base CX0 k f fd ps sp):Callee P w K mg base x ps k sp:=⟨f,fd,h,d.m,d.F.kp,d.b⟩
theorem Cz(x:Str):∀g:List Str,inV (.str x) (g.map V.str)=g.contains x
 |[]=>rfl
 |y::g=>by
  have q:=Cz x g;unfold inV at q |-;rw[yv,y0k,q,List.contains_cons];have e:eqV (.str y) (.str x)=(x==y):=by
   show(y==x)=(x==y);rw[y1x,beq_iff_eq,beq_iff_eq];exact eq_comm
  rw[e]
theorem CW(g:List Str):(g.map V.str).all Az=true:=by simp[Az]
theorem HA(s:Same H H')(h:H p=none):Same H (upd H' p o):=fun b u q=>by rw[AQ (CL q h)]; exact s b u q
end
theorem XR{K:y3}{ta:TA}{g:TG}{tb:TS}{D:Ends}{σ:St}{H:Hp}:CM (Mh K ta) g tb D σ H=ta σ H fun vs H1=>∃a,vs=[.ref a]/\(∃xs,SqT K H1 a xs)/\CV (JY K a) g tb D σ H1:=rfl
theorem XS{K:y3}{ta:TA}{g:TG}{tb:TS}{D:Ends}{σ:St}{H:Hp}:CM (JW K ta) g tb D σ H=ta σ H fun vs H1=>∃a b,vs=[.ref a,.ref b]/\(∃xs,SqT K H1 a xs)/\(∃ys,SqT K H1 b ys)/\CV (ED K a b) g tb D σ H1:=rfl
theorem XT:Ch (Lo ta) g tt te mp σ H Q=ta σ H fun vs H1=>∃i j:Int,vs=[.int i,.int j]/\(-(2^62)<=i/\i<2^62/\-(2^62)<=j/\j<2^62)/\Bf (Itr i (j-i).toNat) g tt te Q (subσ mp σ) H1:=rfl
local macro_rules|`(tactic|walk_at "rd7")=>rdS rdA (rdB++" XT Mm XS Mk Mi tItems rItems qSum rCountL tDGet2 Mj XR")
section
variable{P:yl}{w:y08}{K:y3}{mg:Str->Option y9}{base:Heap}{f:Addr}{fd:y14}
theorem Ks{g:TG}{x:V}{σ:St}{H:Hp}{b:St->Hp->Prop}(h:∀N:St->Hp->Prop,N=b->g x σ H N):g x σ H b:=h _ rfl
theorem AE{a b:TS}{D:Ends}{σ:St}{H:Hp}(h:∀N:St->Hp->Prop,N=b D->a {D with nx:=N} σ H):C6 a b D σ H:=h _ rfl
theorem FN{c:TT}{a b:TS}{D:Ends}{σ:St}{H:Hp}(h:∀Y Z:St->Hp->Prop,Y=a D->Z=b D->Ce c (fun _=>Y) (fun _=>Z) D σ H):Ce c a b D σ H:=h _ _ rfl rfl
theorem XU{z q:TS}{c:TT}{a b:TS}{D:Ends}{σ:St}{H:Hp}(h:∀Y Z:St->Hp->Prop,Y=a D->Z=b D->C6 z (C6 q (Ce c (fun _=>Y) (fun _=>Z))) D σ H):C6 z (C6 q (Ce c a b)) D σ H:=h _ _ rfl rfl
noncomputable def DM(K:y3)(n:Nat):Sp:=fun vs H Q _=>∃(a:Addr) (ns:List Int) (k:Int) (q:Addr) (g:List Str) (d:Nat),vs=[.ref a,.int k,.ref q,.int d]/\SqL K H a (ns.map V.int)/\0<=k/\H q=some (.lst (g.map V.str))/\Sub g Aj/\1<=d/\d<=n/\
 ∀(r:V) (H':Hp) (t:T),Same H H'->Dt H' r t.enc->t.ok g d->Q r H'
theorem XV(F:Fun K "_law_sum" "_law_sum" BG f fd) (b_len:mg "len" = none) (c_law_pick:Callee P w K mg base "_law_pick" ["_law_script","_law_k","_law_many"] 2 (Cy K))
  (c_law_sum:Callee P w K mg base "_law_sum" ["_law_script","_law_at","_law_known","_law_deep"] (n+3) (DM K n)):FnOk P w K mg base CX0 (n+4) f fd ["_law_script","_law_at","_law_known","_law_deep"] (DM K (n+1)):=by
 refine F.ok sc_law_sum (fun vs H Q E h=>?_) (fun ao A outer s H vs Q E U h=>?_)
 ·obtain⟨a,ns,k,kn,g,d,rfl,_⟩:=h;rfl
 obtain⟨a,ns,k,kn,g,d,rfl,hS,h0,hk,hg,am,al,q⟩:=h;refine⟨_,(A7 (AK (i:=4) sc_law_sum.nd rfl Vz (AB c_law_pick U (by lia) (A0 (A1 0 rfl Dl) (A0 (A1 1 rfl Dk) (A0 A3 A2))) FG B2) (AF rfl))
 (A7 (AH (PW.pt (BC (AI DB (A1 3 rfl K8) A3 (AG _)) (Br (AI Bd (A1 4 rfl W2) A3 (AG _))))) (A7 (AH (PW.pt (Q9 (AI (gNe U.units) (A1 2 rfl FH) (AT A2) (AG _)) (Q8 (AI GB (AB c_law_pick U (by lia) (A0 (A1 0 rfl Dl) (A0 (A5 AR (A1 1 rfl Dk) A3) (A0 A3 A2))) FG B2) A3 (AG _))))) (A8 (AC (Ac (A0 AA (A0 (A9 Ad (A1 2 rfl FH) (AB c_law_pick U (by lia) (A0 (A1 0 rfl Dl) (A0 (A5 AR (A1 1 rfl Dk) A3) (A0 (AV B0 Vx b_len B1 (A0 (A1 2 rfl FH) A2) B4 B3) A2))) FG B2) (fun _ _=>rfl)) A2))))) AJ)
 (A8 (AC (Ac (A0 AA (A0 (A9 Ad (AT (A0 A3 (A0 A3 (A0 (D8 D9 A3) (A0 A3 (A0 A3 (A0 A3 (A0 (D8 D9 A3) (A0 A3 (A0 (D8 D9 A3) (A0 A3 (A0 A3 (A0 (D8 D9 A3) A2))))))))))))) (AB c_law_pick U (by lia) (A0 (A1 0 rfl Dl) (A0 (A5 AR (A1 1 rfl Dk) A3) (A0 A3 A2))) FG B2) (fun _ _=>rfl)) A2)))))) AJ)
 (A7 (AK (i:=5) sc_law_sum.nd rfl W0 (AT (A0 AA (A0 AA (A0 AA (A0 AA (A0 AA (A0 AA (A0 AA (A0 AA (A0 AA (A0 AA A2))))))))))) (AF rfl))
 (A7 (AK (i:=6) sc_law_sum.nd rfl Vy (AB c_law_sum U (by lia) (A0 (A1 0 rfl Dl) (A0 (A5 AR (A5 C8 A3 (A1 1 rfl Dk)) A3) (A0 (A1 2 rfl FH) (A0 (A5 Bt (A1 3 rfl K8) A3) A2)))) O9 F3) (AF rfl))
 (A8 (AC (Ac (A0 (A9 Ad (A1 5 rfl W3) (AB c_law_pick U (by lia) (A0 (A1 0 rfl Dl) (A0 (A5 AR (A1 1 rfl Dk) A3) (A0 A3 A2))) FG B2) (fun _ _=>rfl)) (A0 (A1 6 rfl W1) (A0 (AB c_law_sum U (by lia) (A0 (A1 0 rfl Dl) (A0 (A5 AR (A5 C8 A3 (A1 1 rfl Dk)) A3) (A0 (A1 2 rfl FH) (A0 (A5 Bt (A1 3 rfl K8) A3) A2)))) O9 F3) A2)))))))))),AE fun N1 e1=>?_⟩
 walk_at "rd";refine⟨a,ns,k,10,rfl,hS,h0,by decide,fun i H1 i0 i1 M=>?_⟩;rw[e1];refine AE fun N2 e2=>FN fun Y Z eY eZ=>?_;walk_at "rd";have O:∀(H1:Hp),Same H H1->Y [some (.ref a),some (.int k),some (.ref kn),some (.int d),some (.int i),none,none] H1:=by
  intro H1 M;rw[eY];walk_at "rd";have num:∀(H2:Hp) (p:Addr),Same H H2->H2 p=none->Cy K [V.ref a,V.int (k+3),V.int 12] (upd H2 p (HO.lst [V.int 0,V.int 1,V.int (-1),V.int 2,V.int 3,V.int 7,V.int (-8),V.int 100,V.int (-129),V.int 300,V.int 32767,V.int (-32768)])) (fun y H2=>∃x x_1,y=V.int x_1/\SqL K H2 p x/\∃x_2,atI x x_1=some x_2/\2<=yr/\∀(p:Addr),H2 p=none->Q (V.ref p) (upd H2 p (HO.tup [V.str (Str.ofString "num"),x_2]))) E0:=by
   intro H2 p G hp;have J:=A6 hp (HO.lst [V.int 0,V.int 1,V.int (-1),V.int 2,V.int 3,V.int 7,V.int (-8),V.int 100,V.int (-129),V.int 300,V.int 32767,V.int (-32768)]);refine⟨a,ns,k+3,12,rfl,(G.trans J).seq hS,by lia,by decide,fun j H3 j0 j1 B=>?_⟩;obtain⟨v,hv,e⟩:=CF (c:=V.int) (ns:=[0,1,-1,2,3,7,-8,100,-129,300,32767,-32768]) (k:=j) j0 j1;refine⟨_,_,rfl,SqL.of (B _ _ A4),_,e,zl 2 (by decide),fun r hr'=>?_⟩;refine q _ _ (.num v) ((G.trans J).trans (B.trans (A6 hr' _))) (.tup A4 (.cons (.str _) (.cons (.int _) .nil))) ?_;obtain⟨d',rfl⟩:∃d',d=d'+1:=⟨d-1,by lia⟩;show -32768<=v/\v<=32767;simp only[yu,yo,or_false] at hv;omega
  refine⟨y0i _,fun p hp=>?_⟩;have G:=A6 hp (HO.lst []);have ag:(upd H1 p (HO.lst [])) kn=some (.lst (g.map V.str)):=G _ _ (M _ _ hk);refine⟨_,.inr ⟨_,SqL.of ag,_,SqL.of A4,OW hg,rfl,(MQ _).symm⟩,?_⟩;split
  ·rename_i aj;refine⟨a,ns,k+1,3,rfl,(M.trans G).seq hS,by lia,by decide,fun j H3 j0 j1 J=>?_⟩;refine⟨_,rfl,?_⟩;have z:=(M.trans G).trans J;split
   ·have af:=J _ _ ag;refine⟨_,Gz (SqL.of af),?_⟩;have hl:0<((g.map V.str).length:Int):=by
     cases g with
     |nil=>exact absurd rfl (Bool.eq_false_iff.mp aj)
     |cons x r=>simp only[yv,ya]; lia
    refine⟨a,ns,k+2,_,rfl,z.seq hS,by lia,hl,fun m H4 m0 m1 B=>?_⟩;obtain⟨v,hv,e⟩:=CF (c:=V.str) (ns:=g) (k:=m) m0 (by rw[y4] at m1; exact m1);refine⟨_,_,rfl,SqL.of (B _ _ af),_,e,zl 2 (by decide),fun r hr'=>?_⟩;refine q _ _ (.nm v) (z.trans (B.trans (A6 hr' _))) (.tup A4 (.cons (.str _) (.cons (.str _) .nil))) ?_;obtain⟨d',rfl⟩:∃d',d=d'+1:=⟨d-1,by lia⟩;exact hv
   ·exact⟨zl 12 (by decide),fun p2 ae=>num _ p2 z ae⟩
  ·exact⟨zl 12 (by decide),fun p2 ae=>num _ p2 (M.trans G) ae⟩
 split
 ·exact O H1 M
 ·split
  ·exact O H1 M
  ·rename_i hd _;rw[eZ];show N2 _ _;rw[e2];refine AE fun N3 e3=>?_;walk_at "rd";refine⟨zl 10 (by decide),fun p hp=>?_⟩;rw[e3];refine AE fun N4 e4=>?_;walk_at "rd";refine⟨.inl ⟨by decide,by decide⟩,?_⟩;have G:=A6 hp (HO.lst [V.str "add",V.str "sub",V.str "mul",V.str "quo",V.str "less",V.str "same",V.str "min",V.str "max",V.str "add",V.str "less"]);have ac:=M.trans G;have ed:((d:Int)-1)=((d-1:Nat):Int):=by lia
   have ak:2<=d:=by lia
   rw[ed];refine⟨a,ns,_,kn,g,d-1,rfl,ac.seq hS,by lia,ac _ _ hk,hg,by lia,by lia,fun r1 H2 t1 J d1 k1=>?_⟩;have z:=ac.trans J;rw[e4];walk_at "rd";refine⟨a,ns,k+4,10,rfl,z.seq hS,by lia,by decide,fun j H3 j0 j1 B=>?_⟩;have aa:=z.trans B;obtain⟨v,hv,e⟩:=CF (c:=fun w:Wd=>V.str w.str) (ns:=[.add,.sub,.mul,.quo,.less,.same,.min,.max,.add,.less]) (k:=j) j0 j1;refine⟨_,_,rfl,SqL.of (B _ _ (J _ _ A4)),_,e,.inl ⟨by decide,by decide⟩,?_⟩;rw[ed];refine⟨a,ns,_,kn,g,d-1,rfl,aa.seq hS,by lia,aa _ _ hk,hg,by lia,by lia,fun r2 H4 t2 s5 d2 k2=>?_⟩;refine⟨zl 3 (by decide),fun p3 ah=>?_⟩;have s6:=A6 ah (HO.tup [V.str v.str,r1,r2]);refine q _ _ (.op v t1 t2) (aa.trans (s5.trans s6)) (.tup A4 (.cons (.str _) (.cons (d1.kp (B.trans (s5.trans s6)).kp) (.cons (d2.kp s6.kp) .nil)))) ?_;obtain⟨d',rfl⟩:∃d',d=d'+1:=⟨d-1,by lia⟩;exact⟨k1,k2⟩
theorem XW:FnOk P w K mg base CX0 k f fd ["_law_script","_law_at","_law_known","_law_deep"] (DM K 0):=by
 have q:∀vs H Q E,¬ DM K 0 vs H Q E:=fun vs H Q E h=>by
  obtain⟨a,ns,k,z,g,d,_,_,_,_,_,h1,h2,_⟩:=h;lia
 exact⟨fun vs H Q E h=>absurd h (q vs H Q E),fun A outer s H args us vs Q E _ _ _ _ h=>absurd h (q vs H Q E)⟩
theorem OY(d:Df K mg "_law_sum" BG ["_law_script","_law_at","_law_known","_law_deep"] f fd) (b_len:mg "len" = none) (c_law_pick:Callee P w K mg base "_law_pick" ["_law_script","_law_k","_law_many"] 2 (Cy K)) :
  ∀n:Nat,Callee P w K mg base "_law_sum" ["_law_script","_law_at","_law_known","_law_deep"] (n+3) (DM K n)
 |0=>d.callee XW
 |n+1=>d.callee (XV d.F b_len c_law_pick (OY d b_len c_law_pick n))
noncomputable def Kt(K:y3):Sp:=fun vs H Q _=>∃(a:Addr) (ns:List Int) (k:Int) (z:Addr) (g B:List Str) (q:V) (b:List D) (d:Nat) (F:Int),vs=[.ref a,.int k,.ref z,q,.int F]/\SqL K H a (ns.map V.int)/\0<=k/\H z=some (.lst (g.map V.str))/\Sub g Aj/\g≠[]/\
 Dt H q (.tup (AM b))/\okB d b/\b.length<=4/\b≠[]/\Knows g b B/\1<=d/\∀(r:V) (H':Hp) (e:D),Same H H'->Dt H' r e.enc->okD d e->KnowsD g e g->Q r H'
theorem XX(F:Fun K "_law_counted" "_law_counted" B5 f fd) (b_len:mg "len" = none) (c_law_pick:Callee P w K mg base "_law_pick" ["_law_script","_law_k","_law_many"] 2 (Cy K))
  (c_law_sum:Callee P w K mg base "_law_sum" ["_law_script","_law_at","_law_known","_law_deep"] 6 (DM K 3)):FnOk P w K mg base CX0 7 f fd ["_law_script","_law_at","_law_known","_law_body","_law_deep"] (Kt K):=by
 refine F.ok sc_law_counted (fun vs H Q E h=>?_) (fun aD A outer s H vs Q E hr h=>?_)
 ·obtain⟨a,ns,k,kn,g,g1,rb,b,d,di,rfl,_⟩:=h;rfl
 obtain⟨a,ns,k,kn,g,g1,rb,b,d,di,rfl,hS,h0,hk,hg,av,hb,af,aC,ay,ag,aB,q⟩:=h;refine⟨_,(A7 (AK (i:=5) sc_law_counted.nd rfl OA (A9 Ad (AT (A0 A3 (A0 A3 (A0 A3 (A0 A3 (A0 A3 A2)))))) (AB c_law_pick hr (by lia) (A0 (A1 0 rfl EN) (A0 (A1 1 rfl EM) (A0 A3 A2))) FI B2) (fun _ _=>rfl)) (AF rfl))
 (A7 (AH (AI Bd (A1 4 rfl W9) A3 (AG _)) (A8 (AK (i:=5) sc_law_counted.nd rfl OA (A5 CN (A1 5 rfl KA) A3) (AF rfl))) AJ)
 (A7 (AH (AI DB (AB c_law_pick hr (by lia) (A0 (A1 0 rfl EN) (A0 (A5 AR (A1 1 rfl EM) A3) (A0 A3 A2))) FI B2) A3 (AG _)) (A8 (AC (Ac (A0 AA (A0 (AB c_law_sum hr (by lia) (A0 (A1 0 rfl EN) (A0 (A5 AR (A1 1 rfl EM) A3) (A0 (A1 2 rfl K9) (A0 A3 A2)))) W4 F3) (A0 (A1 5 rfl KA) (A0 (A1 3 rfl OB) A2))))))) AJ)
 (A7 (AK (i:=6) sc_law_counted.nd rfl W8 (Ac (A0 AA (A0 (A9 Ad (A1 2 rfl K9) (AB c_law_pick hr (by lia) (A0 (A1 0 rfl EN) (A0 (A5 AR (A1 1 rfl EM) A3) (A0 (AV B0 W5 b_len B1 (A0 (A1 2 rfl K9) A2) B4 B3) A2))) FI B2) (fun _ _=>rfl)) A2))) (AF rfl))
 (A7 (AK (i:=7) sc_law_counted.nd rfl W6 (Ac (A0 AA (A0 (A9 Ad (AT (A0 (D8 D9 A3) (A0 A3 (A0 A3 (A0 A3 A2))))) (AB c_law_pick hr (by lia) (A0 (A1 0 rfl EN) (A0 (A5 AR (A1 1 rfl EM) A3) (A0 A3 A2))) FI B2) (fun _ _=>rfl)) A2))) (AF rfl))
 (A7 (AK (i:=8) sc_law_counted.nd rfl W7 (Ac (A0 AA (A0 (A9 AD (A1 6 rfl KB) A3 (fun _ _=>rfl)) (A0 (Ac (A0 AA (A0 (A1 6 rfl KB) (A0 (Ac (A0 AA (A0 (A5 AR A3 (AB c_law_pick hr (by lia) (A0 (A1 0 rfl EN) (A0 (A5 AR (A1 1 rfl EM) A3) (A0 A3 A2))) FI B2)) A2))) A2)))) A2)))) (AF rfl))
 (A8 (AC (Ac (A0 AA (A0 (Ac (A0 AA (A0 (A1 6 rfl KB) (A0 (A1 7 rfl WA) A2)))) (A0 (A1 5 rfl KA) (A0 (A5 MM (A1 3 rfl OB) (Ac (A0 (A1 8 rfl WB) A2))) A2))))))))))))),AE fun N1 e1=>?_⟩
 walk_at "rd";have hl:0<((g.map V.str).length:Int):=by
  cases g with
  |nil=>exact absurd rfl av
  |cons x r=>simp only[yv,ya]; lia
 refine⟨zl 5 (by decide),fun p hp=>?_⟩;have s1:=A6 hp (HO.lst [V.int 0,V.int 1,V.int 3,V.int 6,V.int 20]);refine⟨a,ns,k,5,rfl,s1.seq hS,h0,by decide,fun i H2 i0 i1 s2=>?_⟩;have ae:=s1.trans s2;obtain⟨v,hv,e⟩:=CF (c:=V.int) (ns:=[0,1,3,6,20]) (k:=i) i0 i1;have ap:0<=v/\v<=20:=by
  simp only[yu,yo,or_false] at hv;omega
 refine⟨_,_,rfl,SqL.of (s2 _ _ A4),_,e,?_⟩;obtain⟨ab,xs,rfl,az,aj⟩:=hb.tupI;have ao:xs.length=b.length:=by rw[aj.length,Cw]
 have am:xs≠[]:=fun z=>ay (List.length_eq_zero_iff.mp (by rw[<- ao,z]; rfl));rw[e1];refine AE fun N2 e2=>?_;walk_at "rd";suffices key:∀mv:Int,0<=mv/\mv<=20->N2 [some (.ref a),some (.int k),some (.ref kn),some (.ref ab),some (.int di),some (.int mv),none,none,none] H2 by
  split
  ·exact⟨by decide,key (v % 4) (by lia)⟩
  ·exact key v ap
 intro mv aA;rw[e2];refine AE fun N3 e3=>?_;walk_at "rd";refine⟨a,ns,k+1,4,rfl,ae.seq hS,by lia,by decide,fun j H3 j0 j1 s3=>?_⟩;refine⟨_,rfl,?_⟩;have B:=ae.trans s3;split
 ·refine⟨a,ns,k+2,kn,g,2,rfl,B.seq hS,by lia,B _ _ hk,hg,by decide,by decide,fun r1 H4 t1 s4 d1 k1=>?_⟩;refine⟨zl 4 (by decide),fun p2 U=>?_⟩;exact q _ _ (.whl t1 _ b) (B.trans (s4.trans (A6 U _))) (.tup A4 (.cons (.str _) (.cons (d1.kp (A6 U _).kp) (.cons (.int _) (.cons (hb.kp (B.trans (s4.trans (A6 U _))).kp) .nil))))) ⟨k1.mono hg (by decide),by lia,by lia,af⟩ (KnowsD.whl k1 ag)
 ·have ah:=B _ _ hk;rw[e3];refine AE fun N4 e4=>?_;walk_at "rd";refine⟨_,Gz (SqL.of ah),?_⟩;refine⟨a,ns,k+3,_,rfl,B.seq hS,by lia,hl,fun m H4 m0 m1 s4=>?_⟩;obtain⟨x,hx,e⟩:=CF (c:=V.str) (ns:=g) (k:=m) m0 (by rw[y4] at m1; exact m1);refine⟨_,_,rfl,SqL.of (s4 _ _ ah),_,e,zl 2 (by decide),fun pn aq=>?_⟩;have s5:=A6 aq (HO.tup [V.str "name",V.str x]);rw[e4];refine AE fun N5 e5=>?_;walk_at "rd";refine⟨zl 4 (by decide),fun pg au=>?_⟩;have s6:=A6 au (HO.lst [V.int (-2),V.int 1,V.int 3,V.int 5]);have al:=B.trans (s4.trans (s5.trans s6));refine⟨a,ns,k+4,4,rfl,al.seq hS,by lia,by decide,fun l H5 l0 l1 s7=>?_⟩;obtain⟨Z,ax,e2⟩:=CF (c:=V.int) (ns:=[-2,1,3,5]) (k:=l) l0 l1;have J : -32768<=Z/\Z<=32767:=by
   simp only[yu,yo,or_false] at ax;lia
  refine⟨_,_,rfl,SqL.of (s7 _ _ A4),_,e2,zl 2 (by decide),fun pl ar=>?_⟩;have s8:=A6 ar (HO.tup [V.str "num",V.int Z]);have G:=s6.trans (s7.trans s8);have ac:=B.trans (s4.trans (s5.trans G));rw[e5];refine AE fun N6 e6=>?_;walk_at "rd";refine⟨_,SqT.of (G _ _ A4),V.str x,rfl,?_⟩;refine⟨a,ns,k+5,3,rfl,ac.seq hS,by lia,by decide,fun z H6 z0 z1 s9=>?_⟩;refine⟨_,rfl,zl 2 (by decide),fun p1 h1=>⟨zl 3 (by decide),fun p2 h2=>⟨zl 3 (by decide),fun p3 h3=>?_⟩⟩⟩;rw[e6];walk_at "rd";refine⟨zl 3 (by decide),fun p4 h4=>⟨zl 1 (by decide),fun p5 h5=>?_⟩⟩;have u1:=A6 h1 (HO.tup [V.str "num",V.int (1+z)]);have u2:=A6 h2 (HO.tup [V.str "add",V.ref pn,V.ref p1]);have u3:=A6 h3 (HO.tup [V.str "set",V.str x,V.ref p2]);have u4:=A6 h4 (HO.tup [V.str "less",V.ref pn,V.ref pl]);have u5:=A6 h5 (HO.tup [V.ref p3]);have M:=ac.trans (s9.trans (u1.trans (u2.trans (u3.trans (u4.trans u5)))));refine⟨xs,SqT.of (M _ _ az),[V.ref p3],SqT.of A4,by rw[y01]; exact zl _ (by lia),fun h=>absurd h am,fun _ h=>absurd h (by simp),fun _ _ p6 h6=>⟨zl 4 (by decide),fun p7 h7=>?_⟩⟩;have u6:=A6 h6 (HO.tup (xs++[V.ref p3]));have aa:=u6.trans (A6 h7 (HO.tup [V.str "while",V.ref p4,V.int mv,V.ref p6]));have ak:=u5.trans aa;have dn:Dt (upd H4 pn (HO.tup [V.str "name",V.str x])) (.ref pn) (T.nm x).enc:=.tup A4 (.cons (.str _) (.cons (.str _) .nil));have dl:Dt (upd H5 pl (HO.tup [V.str "num",V.int Z])) (.ref pl) (T.num Z).enc:=.tup A4 (.cons (.str _) (.cons (.int _) .nil));have dz:Dt (upd H6 p1 (HO.tup [V.str "num",V.int (1+z)])) (.ref p1) (T.num (1+z)).enc:=.tup A4 (.cons (.str _) (.cons (.int _) .nil));have O:=s9.trans u1;have da:Dt _ (.ref p2) (T.op .add (.nm x) (.num (1+z))).enc:=.tup (A4 (H:=upd H6 p1 (HO.tup [V.str "num",V.int (1+z)]))) (.cons (.str _) (.cons (dn.kp (G.trans (O.trans u2)).kp) (.cons (dz.kp u2.kp) .nil)));have ds:Dt _ (.ref p3) (D.set x (T.op .add (.nm x) (.num (1+z)))).enc:=.tup A4 (.cons (.str _) (.cons (.str _) (.cons (da.kp u3.kp) .nil)));have de:Dt _ (.ref p4) (T.op .less (.nm x) (.num Z)).enc:=.tup A4 (.cons (.str _) (.cons (dn.kp (G.trans (O.trans (u2.trans (u3.trans u4)))).kp) (.cons (dl.kp (O.trans (u2.trans (u3.trans u4))).kp) .nil)));have dB:Dt _ (.ref p6) (.tup (AM b++[(D.set x (T.op .add (.nm x) (.num (1+z)))).enc])):=.tup A4 ((aj.kp (M.trans u6).kp).append (.cons (ds.kp (u4.trans (u5.trans u6)).kp) .nil));rw[show AM b++[(D.set x (T.op .add (.nm x) (.num (1+z)))).enc]=AM (b++[D.set x (T.op .add (.nm x) (.num (1+z)))]) by rw[FM,AM,AM]] at dB;have hz : -32768<=1+z/\1+z<=32767:=by lia
  refine q _ _ (.whl (.op .less (.nm x) (.num Z)) _ (b++[D.set x (T.op .add (.nm x) (.num (1+z)))])) (M.trans aa) (.tup A4 (.cons (.str _) (.cons (de.kp ak.kp) (.cons (.int _) (.cons (dB.kp (A6 h7 _).kp) .nil))))) ⟨⟨hg x hx,J⟩,by lia,by lia,?_⟩ (KnowsD.whl (n:=2) ⟨hx,J⟩ (ag.sub.snoc (KnowsD.set (n:=2) (g':=g) ⟨hx,hz⟩ fun y hy=>.inl hy)));obtain⟨d',rfl⟩:∃d',d=d'+1:=⟨d-1,by lia⟩;refine⟨by rw[yj,y01]; lia,fun c hc=>?_⟩;rcases List.mem_append.mp hc with hc|hc
  ·exact af.2 c hc
  ·have ec:c=D.set x (T.op .add (.nm x) (.num (1+z))):=by simpa using hc
   subst ec;exact⟨hg x hx,⟨hg x hx,hz⟩⟩
noncomputable def ER:Nat->Nat
 |1=>1|2=>2|3=>6|_=>0
noncomputable def ES:Nat->Nat
 |3=>2|_=>1
theorem pg1(d:Nat):1<=ES d:=by unfold ES; split<;>decide
theorem pgc(h1:1<=d)(z:d<=3)(q:j<=d):j*ES d<=ER d:=by
 have:d=1\/d=2\/d=3:=by lia
 rcases this with rfl|rfl|rfl<;>simp only[ES,ER]<;>lia
theorem cgp(h1:2<=d)(q:d<=3):ER (d-1)<=ES d:=by
 have:d=2\/d=3:=by lia
 rcases this with rfl|rfl<;>decide
theorem cg6(d:Nat):ER d<=6:=by unfold ER; split<;>decide
theorem XY{Hy C:Hp->Prop}{G:Prop}(h1:(∀q,Hy q->C q)->G)(h2:∀q,Hy q->C q):G:=h1 h2
noncomputable def ET(K:y3)(n:Nat):Sp:=fun vs H Q _=>∃(a:Addr) (ns:List Int) (k:Int) (q:Addr) (g:List Str) (d:Nat),vs=[.ref a,.int k,.ref q,.int d]/\SqL K H a (ns.map V.int)/\0<=k/\H q=some (.lst (g.map V.str))/\Sub g Aj/\1<=d/\d<=n/\d<=3/\g.length+100*d<=900/\
 ∀(r z rk:Addr) (H':Hp) (b:List D) (g':List Str),Same H H'->H' r=some (.tup [.ref z,.ref rk])->Dt H' (.ref z) (.tup (AM b))->H' rk=some (.lst (g'.map V.str))->okB d b->b.length<=d->b≠[]->Knows g b g'->Sub g' Aj->g'.length<=g.length+ER d->(rk=q\/H rk=none)->Q (.ref r) H'
noncomputable def XZ(B:Hp)(z:Addr)(g':List Str)(x:Str)(i:Nat)(ys:List V)(q:St)(H':Hp):Prop:=H'=B/\(∃t,q=[t,some (.ref z)])/\((i=0/\ys=[])\/(i=1/\ys=(if g'.contains x then [] else [x]).map V.str))
noncomputable def Xa(G:Hp)(z:Addr)(F B:List Str)(i:Nat)(ys:List V)(q:St)(H':Hp):Prop:=H'=G/\(∃t,q=[t,some (.ref z)])/\ys=((F.take i).filter fun x=>B.contains x).map V.str
noncomputable def Xb(H:Hp)(kn a:Addr)(k:Int)(d:Nat)(pd:Addr)(g:List Str)(j:Nat)(σ:St)(z:Hp):Prop:=
 ∃(q:Addr) (vs:List V) (b:List D) (g':List Str) (x5 Z U O M J G F B:Option V),σ=[some (.ref a),some (.int k),some (.ref q),some (.int d),some (.ref pd),x5,Z,U,O,M,J,G,F,B]/\
  Same H z/\z pd=some (.lst vs)/\DtA z vs (AM b)/\z q=some (.lst (g'.map V.str))/\q≠pd/\Knows g b g'/\Sub g' Aj/\b.length=j/\(∀e∈b,okD (d-1) e)/\g'.length<=g.length+j*ES d/\(q=kn\/H q=none)
theorem Xc{n:Nat} (F:Fun K "_law_block" "_law_block" AW f fd) (b_range:mg "range" = none) (b_tuple:mg "tuple" = none) (c_law_pick:Callee P w K mg base "_law_pick" ["_law_script","_law_k","_law_many"] 2 (Cy K))
  (c_law_sum:Callee P w K mg base "_law_sum" ["_law_script","_law_at","_law_known","_law_deep"] 6 (DM K 3)) (c_law_counted:Callee P w K mg base "_law_counted" ["_law_script","_law_at","_law_known","_law_body","_law_deep"] 7 (Kt K))
  (c_law_block:Callee P w K mg base "_law_block" ["_law_script","_law_at","_law_known","_law_deep"] (n+7) (ET K n)):FnOk P w K mg base CX0 (n+8) f fd ["_law_script","_law_at","_law_known","_law_deep"] (ET K (n+1)):=by
 refine F.ok sc_law_block (fun vs H Q E h=>?_) (fun bF A outer s H vs Q E hr h=>?_)
 ·obtain⟨a,ns,k,kn,g,d,rfl,_⟩:=h;rfl
 obtain⟨a,ns,k,kn,g,d,rfl,hS,h0,hk,hg,aT,bD,aI,bA,q⟩:=h;refine⟨_,(A7 (AK (i:=4) sc_law_block.nd rfl WI (AT A2) (AF rfl))
 (A7 (D7 y1e rfl (G6 WE b_range (A0 (A5 AR A3 (AB c_law_pick hr (by lia) (A0 (A1 0 rfl Cv) (A0 (A1 1 rfl OE) (A0 (A1 3 rfl EO) A2))) KD B2)) A2)) (AZ (i:=5) sc_law_block.nd rfl WK)
 (A7 (AK (i:=6) sc_law_block.nd rfl WG (A5 AR (A5 C8 A3 (A1 1 rfl OE)) (A5 C8 A3 (A5 AR (A1 5 rfl WS) A3))) (AF rfl))
 (A7 (AK (i:=7) sc_law_block.nd rfl WO (AB c_law_pick hr (by lia) (A0 (A1 0 rfl Cv) (A0 (A1 6 rfl DL) (A0 A3 A2))) KD B2) (AF rfl))
 (A8 (AH (PW.pt (BC (AI Bd (A1 7 rfl OG) A3 (AG _)) (BC (AI DB (A1 3 rfl EO) A3 (AG _)) (Br (AI (gEq hr.units) (A1 2 rfl Cu) (AT A2) (AG _)))))) (A7 (AK (i:=8) sc_law_block.nd rfl WM (A9 Ad (AT (A0 AA (A0 AA (A0 AA (A0 AA A2))))) (AB c_law_pick hr (by lia) (A0 (A1 0 rfl Cv) (A0 (A5 AR (A1 6 rfl DL) A3) (A0 A3 A2))) KD B2) (fun _ _=>rfl)) (AF rfl))
 (A7 (BQ (Ak yq y0g y0f Cg (A1 4 rfl Gs) (A0 (Ac (A0 AA (A0 (A1 8 rfl OF) (A0 (AB c_law_sum hr (by lia) (A0 (A1 0 rfl Cv) (A0 (A5 AR (A1 6 rfl DL) A3) (A0 (A1 2 rfl Cu) (A0 A3 A2)))) OC F3) A2)))) A2)) (AF rfl))
 (A8 (AK (i:=2) sc_law_block.nd rfl OD (A5 BD (A1 2 rfl Cu) (BT ["_law_one","_law_known"] [none,some 2] rfl (CompS.of (by rfl)) (DV (AT (A0 (A1 8 rfl OF) A2))) (fun _ _ _ _ _=>(AZ (i:=0) (show List.Nodup (["_law_one","_law_known"]:List Str) from by decide+kernel) rfl (Or.inl rfl))) (fun _ _ _ _ _=>(J0 (AI (opK (r:=Ew) (K:=K) (JD hr.units) rfl) (AX (i:=0) rfl (by walk_at "vc") Gd GZ) (AX (i:=1) rfl (by walk_at "vc") Sx SN) (by with_unfolding_all rfl)))) (fun _ _ _ _ _=>(AX (i:=0) rfl (by walk_at "vc") Gd GZ)))) (AF rfl))))) (A8 (AH (AI Bd (A1 7 rfl OG) A3 (AG _)) (A7 (Lk (AB c_law_block hr (by lia) (A0 (A1 0 rfl Cv) (A0 (A5 AR (A1 6 rfl DL) A3) (A0 (A1 2 rfl Cu) (A0 (A5 Bt (A1 3 rfl EO) A3) A2)))) KC Gb) (IW (n:=2) rfl (C7 (AZ (i:=9) sc_law_block.nd rfl WJ) (C7 (AZ (i:=10) sc_law_block.nd rfl WL) Eh))))
 (A7 (Lk (AB c_law_block hr (by lia) (A0 (A1 0 rfl Cv) (A0 (A5 AR (A1 6 rfl DL) A3) (A0 (A1 2 rfl Cu) (A0 (A5 Bt (A1 3 rfl EO) A3) A2)))) KC Gb) (IW (n:=2) rfl (C7 (AZ (i:=11) sc_law_block.nd rfl WN) (C7 (AZ (i:=12) sc_law_block.nd rfl WP) Eh))))
 (A7 (BQ (Ak yq y0g y0f Cg (A1 4 rfl Gs) (A0 (Ac (A0 AA (A0 (AB c_law_sum hr (by lia) (A0 (A1 0 rfl Cv) (A0 (A5 AR (A1 6 rfl DL) A3) (A0 (A1 2 rfl Cu) (A0 A3 A2)))) OC F3) (A0 (A1 9 rfl WR) (A0 (A1 11 rfl WU) A2))))) A2)) (AF rfl))
 (A8 (AK (i:=2) sc_law_block.nd rfl OD (BT ["_law_one","_law_yours"] [none,some 12] rfl (CompS.of (by rfl)) (DV (A1 10 rfl WT)) (fun _ _ _ _ _=>(AZ (i:=0) (show List.Nodup (["_law_one","_law_yours"]:List Str) from by decide+kernel) rfl (Or.inl rfl))) (fun _ _ _ _ _=>(J0 (AI (opK (r:=qIn) (K:=K) (gIn hr.units) rfl) (AX (i:=0) rfl (by walk_at "vc") Gd GZ) (AX (i:=1) rfl (by walk_at "vc") T2 SQ) (by with_unfolding_all rfl)))) (fun _ _ _ _ _=>(AX (i:=0) rfl (by walk_at "vc") Gd GZ))) (MY WC)))))) (A7 (AK (i:=13) sc_law_block.nd rfl WH (A9 AD (AB c_law_block hr (by lia) (A0 (A1 0 rfl Cv) (A0 (A5 AR (A1 6 rfl DL) A3) (A0 (A1 2 rfl Cu) (A0 (A5 Bt (A1 3 rfl EO) A3) A2)))) KC Gb) A3 (fun _ _=>rfl)) (AF rfl))
 (A8 (BQ (Ak yq y0g y0f Cg (A1 4 rfl Gs) (A0 (AB c_law_counted hr (by lia) (A0 (A1 0 rfl Cv) (A0 (A5 AR (A1 6 rfl DL) A3) (A0 (A1 2 rfl Cu) (A0 (A1 13 rfl WQ) (A0 (A1 3 rfl EO) A2))))) WD Sw) A2)) (AF rfl)))))))))))
 (A8 (AC (Ac (A0 (BL E8 WF b_tuple Cl (A0 (A1 4 rfl Gs) A2) Co Cn) (A0 (A1 2 rfl Cu) A2))))))),?_⟩
 walk_at "rd";refine⟨y0i _,fun pd al=>?_⟩;have s1:=A6 al (HO.lst []);refine⟨a,ns,k,d,rfl,s1.seq hS,h0,by lia,fun i H2 i0 i1 s2=>?_⟩;have bh:kn≠pd:=CL hk al;refine⟨_,rfl,by lia,by lia,?_⟩;refine G8 (lo:=0) (n:=(1+i).toNat) (Xb H kn a k d pd g) ?s ?t ?d
 case s=>exact⟨kn,[],[],g,none,none,none,none,none,none,none,none,none,rfl,s1.trans s2,s2 _ _ A4,.nil,(s1.trans s2) _ _ hk,bh,Knows.nil g,hg,rfl,fun e he=>absurd he (by simp),by lia,.inl rfl⟩
 case d=>
  rintro σ Hc ⟨kc,vs,b,g',x5,x6,x7,x8,x9,aY,aX,aW,aV,rfl,sc,hv,dv,J,aj,ao,G,ag,am,aH,aG⟩;walk_at "rd";refine⟨vs,.inl ⟨SqL.of hv,fun pb bg=>⟨zl 2 (by decide),fun pr bd=>?_⟩⟩⟩;have sa:=A6 bg (HO.tup vs);have sb:=A6 bd (HO.tup [V.ref pb,V.ref kc]);refine q pr pb kc _ b g' (sc.trans (sa.trans sb)) A4 (.tup (sb _ _ A4) (dv.kp (sa.trans sb).kp)) (sb _ _ (sa _ _ J)) ?_ (by lia) (fun z=>by rw[z] at ag; simp at ag; lia) ao G (y0d aH (Nat.add_le_add_left (pgc aT aI (by lia)) _)) aG;obtain⟨d',rfl⟩:∃d',d=d'+1:=⟨d-1,by lia⟩;exact⟨by lia,fun e he=>am e he⟩
 case t=>
  rintro j σ Hc hj ⟨kc,vs,b,g',x5,x6,x7,x8,x9,aY,aX,aW,aV,rfl,sc,hv,dv,J,aj,ao,G,ag,am,aH,aG⟩;have bj:j<d:=by lia
  have bB:g'.length<=g.length+6:=y0d aH (Nat.add_le_add_left (y0d (pgc aT aI (y2r bj)) (cg6 d)) _);have aB:vs.length=j:=by rw[dv.length,Cw,ag]
  refine Ks fun M0 f0=>?_;walk_at "rd";rw[f0];show C6 _ (C6 _ (Ce _ _ _)) _ _ _;refine XU fun Y Z eY eZ=>?_;walk_at "rd";refine⟨.inl ⟨by decide,by decide⟩,.inl ⟨by decide,by decide⟩,?_⟩;refine⟨a,ns,_,7,rfl,sc.seq hS,by lia,by decide,fun wy H3 w0 w1 s3=>?_⟩;walk_at "rd";refine XY (Hy:=fun Hx=>Same H3 Hx) (C:=?cc) ?kk ?_
  case kk=>
   intro key;split
   ·generalize hH:H3=H3n;exact key H3n (hH ▸ Same.refl _)
   ·split
    ·exact key H3 (Same.refl _)
    ·rename_i aU;refine⟨y0i _,fun pe bf=>?_⟩;have se:=A6 bf (HO.lst []);refine⟨_,KU (SqL.of (se _ _ (s3 _ _ J))) (OW G) (SqL.of A4),?_⟩;replace s3:=s3.trans se;generalize upd H3 pe (HO.lst [])=H3e at s3 se |-;split
     ·exact key H3e se
     ·rename_i aQ;rw[eZ];refine FN fun Y2 Z2 bq bp=>?_;walk_at "rd";split
      ·rw[bq];refine AE fun N1 e1=>?_;walk_at "rd";have aS:2<=d:=by
        have:¬ (d:Int)=1:=aU;lia
       have ed:((d:Int)-1)=((d-1:Nat):Int):=by lia
       rw[ed];refine⟨a,ns,_,kc,g',d-1,rfl,(sc.trans s3).seq hS,by lia,s3 _ _ J,G,by lia,by lia,by lia,by lia,fun r1 ax au H4 b1 g1 s4 aC aK aR ay a8 aN az aL bo aO=>?_⟩;refine⟨_,rfl,_,SqT.of aC,rfl,_,_,rfl,_,_,rfl,rfl,?_⟩;have O:=s3.trans s4;rw[e1];refine AE fun N2 e2=>?_;walk_at "rd";rw[ed];refine⟨a,ns,_,kc,g',d-1,rfl,(sc.trans O).seq hS,by lia,O _ _ J,G,by lia,by lia,by lia,by lia,fun r2 aM ar H5 b2 g2 s5 bc bt bi a7 bw bv a9 bu bE ba=>?_⟩;have B:=O.trans s5;refine⟨_,rfl,_,SqT.of bc,rfl,_,_,rfl,_,_,rfl,rfl,?_⟩;rw[e2];refine AE fun N3 e3=>?_;walk_at "rd";refine⟨.inl ⟨rfl,_,SqL.of (B _ _ hv)⟩,?_⟩;refine⟨a,ns,_,kc,g',2,rfl,(sc.trans B).seq hS,by lia,B _ _ J,G,by decide,by decide,fun r3 H6 t3 s6 d3 k3=>?_⟩;refine⟨zl 4 (by decide),fun pt aD=>?_⟩;have s7:=A6 aD (HO.tup [V.str "if",r3,V.ref ax,V.ref aM]);have aq:=s5.trans (s6.trans s7);have av:=s6.trans s7;have dt:Dt _ (.ref pt) (D.ite t3 b1 b2).enc:=.tup A4 (.cons (.str _) (.cons (d3.kp s7.kp) (.cons (aK.kp aq.kp) (.cons (bt.kp av.kp) .nil))));have M:=O.trans aq;have n1:au≠pd:=by
        rcases aO with z|z
        ·rw[z]; exact aj
        ·intro y; rw[y,s3 _ _ hv] at z; cases z
       have n2:ar≠pd:=by
        rcases ba with z|z
        ·rw[z]; exact aj
        ·intro y; rw[y,O _ _ hv] at z; cases z
       have m1:=aq _ _ aR;have m2:=av _ _ bi;generalize upd H6 pt (HO.tup [V.str "if",r3,V.ref ax,V.ref aM])=U at s7 aq av dt M m1 m2 |-;have ak:=M _ _ hv;refine⟨vs,ak,by rw[aB]; exact C9 (by lia),?_⟩;have k8:Kp U (upd U pd (HO.lst (vs++[V.ref pt]))):=Kp.set ak;have w1:(upd U pd (HO.lst (vs++[V.ref pt]))) au=some (.lst (g1.map V.str)):=by rw[AQ n1]; exact m1
       have w2:(upd U pd (HO.lst (vs++[V.ref pt]))) ar=some (.lst (g2.map V.str)):=by rw[AQ n2]; exact m2
       have ae:(upd U pd (HO.lst (vs++[V.ref pt]))) pd=some (.lst (vs++[V.ref pt])):=A4;have af:Same H (upd U pd (HO.lst (vs++[V.ref pt]))):=HA (sc.trans M) al;generalize upd U pd (HO.lst (vs++[V.ref pt]))=U2 at k8 w1 w2 ae af |-;rw[e3];walk_at "rd";refine⟨⟨_,SqL.of w1⟩,?_⟩;have bC:g1.length<=900:=by
        have:=cg6 (d-1);lia
       refine DY (K:=K) (a:=au) (xs:=g1.map V.str) (Xa U2 ar g1 g2) ⟨rfl,⟨none,rfl⟩,by simp⟩ (by rw[y4]; exact C9 (by lia)) ?_ ?_ ?_ ?_
       ·rintro i ys ac H' ⟨_,_,rfl⟩;rw[y4];exact y0d (y1m _ _) (by rw[yz]; lia)
       ·rintro i ys ac H' _ ⟨rfl,_,_⟩;exact SqL.of w1
       ·rintro i ys v ac H' aa ⟨rfl,⟨t,rfl⟩,rfl⟩;rw[y0b] at aa;cases hx:g1[i]? with
        |none=>rw[hx] at aa; cases aa
        |some x=>
         rw[hx] at aa;have ev:V.str x=v:=by simpa using aa
         subst ev;walk_at "rd";refine⟨inV (.str x) (g2.map V.str),.inl ⟨ar,_,rfl,.inl (SqL.of w2),rfl,CW g2,rfl⟩,?_⟩;rw[Cz];have et:g1.take (i+1)=g1.take i++[x]:=by rw[y03,hx]; rfl
         cases hc:g2.contains x with
         |true=>exact⟨rfl,⟨_,rfl⟩,by rw[et,y1j,yd,y2m,hc]; rfl⟩
         |false=>exact⟨rfl,⟨_,rfl⟩,by rw[et,y1j,yd,y2m,hc]; simp⟩
       ·rintro ys ac H' ⟨rfl,_,rfl⟩ pc ah;rw[y4,y0h];have sa:=A6 ah (HO.lst ((g1.filter fun x=>g2.contains x).map V.str));have aF:pc≠pd:=fun z=>by rw[z,ae] at ah; cases ah
        have bz:(g1.filter fun x=>g2.contains x).length<=g1.length:=y1m _ _;refine⟨pc,vs++[V.ref pt],b++[D.ite t3 b1 b2],g1.filter fun x=>g2.contains x,_,_,_,_,_,_,_,_,_,rfl,af.trans sa,sa _ _ ae,?_,A4,aF,ao.snoc (KnowsD.ite k3 az a9 ?_),?_,by rw[yj,y01,ag],?_,?_,.inr (af.free ah)⟩
        ·rw[FM];exact(dv.kp (M.kp.trans (k8.trans sa.kp))).append (.cons (dt.kp (k8.trans sa.kp)) .nil)
        ·intro y hy;have:=List.mem_filter.mp hy;exact⟨this.1,by simpa using this.2⟩
        ·exact fun y hy=>aL y (List.mem_filter.mp hy).1
        ·intro c hc;rcases List.mem_append.mp hc with hc|hc
         ·exact am c hc
         ·have ec:c=D.ite t3 b1 b2:=by simpa using hc
          subst ec;exact⟨k3.mono G (by decide),ay,a7⟩
        ·rw[Nat.succ_mul];have:=cgp aS aI;lia
      ·rw[bp];refine AE fun N1 e1=>?_;walk_at "rd";have aS:2<=d:=by
        have:¬ (d:Int)=1:=aU;lia
       have ed:((d:Int)-1)=((d-1:Nat):Int):=by lia
       rw[ed];have bn:g'≠[]:=fun z=>aQ (by rw[z]; rfl);refine⟨a,ns,_,kc,g',d-1,rfl,(sc.trans s3).seq hS,by lia,s3 _ _ J,G,by lia,by lia,by lia,by lia,fun r1 ax au H4 b1 g1 s4 aC aK aR ay a8 aN az aL bo aO=>?_⟩;have O:=s3.trans s4;refine⟨_,rfl,_,SqT.of aC,_,rfl,?_⟩;rw[e1];walk_at "rd";refine⟨.inl ⟨rfl,_,SqL.of (O _ _ hv)⟩,?_⟩;refine⟨a,ns,_,kc,g',g1,_,b1,d-1,d,rfl,(sc.trans O).seq hS,by lia,O _ _ J,G,bn,aK,ay,by lia,aN,az,by lia,fun r2 H5 e2 s5 br aZ bb=>?_⟩;have B:=O.trans s5;refine⟨vs,B _ _ hv,by rw[aB]; exact C9 (by lia),?_⟩;have k8:Kp H5 (upd H5 pd (HO.lst (vs++[r2]))):=Kp.set (B _ _ hv);refine⟨kc,vs++[r2],b++[e2],g',_,_,_,_,_,_,_,_,_,rfl,HA (sc.trans B) al,A4,?_,by rw[AQ aj]; exact B _ _ J,aj,ao.snoc bb,G,by rw[yj,y01,ag],?_,?_,aG⟩
       ·rw[FM];exact(dv.kp (B.kp.trans k8)).append (.cons (br.kp k8) .nil)
       ·intro c hc;rcases List.mem_append.mp hc with hc|hc
        ·exact am c hc
        ·have ec:c=e2:=by simpa using hc
         subst ec;exact aZ
       ·rw[Nat.succ_mul];lia
  intro Hx sx;replace s3:=s3.trans sx;rw[eY];refine AE fun N1 e1=>?_;walk_at "rd";refine⟨zl 4 (by decide),fun pm be=>?_⟩;have s4:=A6 be (HO.lst [V.str "a",V.str "b",V.str "c",V.str "dd"]);refine⟨a,ns,_,4,rfl,((sc.trans s3).trans s4).seq hS,by lia,by decide,fun m H4 m0 m1 s5=>?_⟩;obtain⟨x,hx,e⟩:=CF (c:=V.str) (ns:=Aj) (k:=m) m0 m1;have B:=s3.trans (s4.trans s5);refine⟨_,_,rfl,SqL.of (s5 _ _ A4),_,e,?_⟩;rw[e1];refine AE fun N2 e2=>?_;walk_at "rd";refine⟨.inl ⟨rfl,_,SqL.of (B _ _ hv)⟩,?_⟩;refine⟨a,ns,_,kc,g',3,rfl,(sc.trans B).seq hS,by lia,B _ _ J,G,by decide,by decide,fun r1 H5 t1 s6 d1 k1=>?_⟩;refine⟨zl 3 (by decide),fun pt aD=>?_⟩;have s7:=A6 aD (HO.tup [V.str "set",V.str x,r1]);have dt:Dt _ (.ref pt) (D.set x t1).enc:=.tup A4 (.cons (.str _) (.cons (.str _) (.cons (d1.kp s7.kp) .nil)));have M:=B.trans (s6.trans s7);generalize upd H5 pt (HO.tup [V.str "set",V.str x,r1])=U at s7 dt M |-;have ak:=M _ _ hv;refine⟨vs,ak,by rw[aB]; exact C9 (by lia),?_⟩;rw[e2];walk_at "rd";refine⟨zl 1 (by decide),fun pl aP=>?_⟩;have k8:Kp U (upd U pd (HO.lst (vs++[V.ref pt]))):=Kp.set ak;have aA:(upd U pd (HO.lst (vs++[V.ref pt]))) kc=some (.lst (g'.map V.str)):=by rw[AQ aj]; exact M _ _ J
  have ae:(upd U pd (HO.lst (vs++[V.ref pt]))) pd=some (.lst (vs++[V.ref pt])):=A4;have af:Same H (upd U pd (HO.lst (vs++[V.ref pt]))):=HA (sc.trans M) al;generalize upd U pd (HO.lst (vs++[V.ref pt]))=U2 at k8 aA ae af aP |-;have s9:=A6 aP (HO.lst [V.str x]);have aJ:(upd U2 pl (HO.lst [V.str x])) pl=some (.lst [V.str x]):=A4;generalize upd U2 pl (HO.lst [V.str x])=U3 at s9 aJ |-;refine⟨⟨_,SqL.of aJ⟩,?_⟩;refine DY (K:=K) (a:=pl) (xs:=[V.str x]) (XZ U3 kc g' x) ⟨rfl,⟨none,rfl⟩,.inl ⟨rfl,rfl⟩⟩ (C9 (by show 1<=1000; decide)) ?_ ?_ ?_ ?_
  ·rintro i ys ac H' ⟨_,_,h⟩;rcases h with⟨rfl,rfl⟩|⟨rfl,rfl⟩
   ·exact yf _
   ·split<;>simp
  ·rintro i ys ac H' _ ⟨rfl,_,_⟩;exact SqL.of aJ
  ·rintro i ys v ac H' aa ⟨rfl,⟨t,rfl⟩,h⟩;rcases h with⟨rfl,rfl⟩|⟨rfl,rfl⟩
   ·have ev:V.str x=v:=by simpa using aa
    subst ev;walk_at "rd";refine⟨!inV (.str x) (g'.map V.str),.inl ⟨kc,_,rfl,.inl (SqL.of (s9 _ _ aA)),rfl,CW g',rfl⟩,?_⟩;rw[Cz];cases hc:g'.contains x with
    |true=>exact⟨rfl,⟨_,rfl⟩,.inr ⟨rfl,by rw[hc]; rfl⟩⟩
    |false=>exact⟨rfl,⟨_,rfl⟩,.inr ⟨rfl,by rw[hc]; rfl⟩⟩
   ·simp at aa
  ·rintro ys ac H' ⟨rfl,_,h⟩ pc ah;rcases h with⟨h,_⟩|⟨_,rfl⟩
   ·exact absurd h (by simp)
   have sa:=A6 ah (HO.lst ((if g'.contains x then [] else [x]).map V.str));refine⟨_,rfl,_,sa _ _ (s9 _ _ aA),_,A4,?_,fun pk aE=>?_⟩
   ·have e1:((if g'.contains x then [] else [x]).map V.str).length<=1:=by split<;>simp
    rw[y4];exact zl _ (by lia)
   ·have sb:=A6 aE (HO.lst (g'.map V.str++(if g'.contains x then [] else [x]).map V.str));have ap:=s9.trans (sa.trans sb);have aF:pk≠pd:=fun z=>by
     have:=(s9.trans sa) _ _ ae;rw[<- z,aE] at this;cases this
    refine⟨pk,vs++[V.ref pt],b++[D.set x t1],g'++(if g'.contains x then [] else [x]),_,_,_,_,_,_,_,_,_,rfl,af.trans ap,ap _ _ ae,?_,?_,aF,ao.snoc (KnowsD.set k1 ?_),?_,by rw[yj,y01,ag],?_,?_,.inr ((af.trans (s9.trans sa)).free aE)⟩
    ·rw[FM];exact(dv.kp (M.kp.trans (k8.trans ap.kp))).append (.cons (dt.kp (k8.trans ap.kp)) .nil)
    ·rw[A4,yd]
    ·intro y hy;rcases List.mem_append.mp hy with hy|hy
     ·exact .inl hy
     ·cases hc:g'.contains x with
      |true=>rw[hc] at hy; simp at hy
      |false=>rw[hc] at hy; simp at hy; exact .inr hy
    ·intro y hy;rcases List.mem_append.mp hy with hy|hy
     ·exact G y hy
     ·cases hc:g'.contains x with
      |true=>rw[hc] at hy; simp at hy
      |false=>rw[hc] at hy; simp at hy; rw[hy]; exact hx
    ·intro c hc;rcases List.mem_append.mp hc with hc|hc
     ·exact am c hc
     ·have ec:c=D.set x t1:=by simpa using hc
      subst ec;exact⟨hx,k1.mono G (by decide)⟩
    ·have e1:(if g'.contains x then [] else [x]).length<=1:=by split<;>simp
     rw[yj,Nat.succ_mul];have:=pg1 d;lia
theorem Xd:FnOk P w K mg base CX0 k f fd ["_law_script","_law_at","_law_known","_law_deep"] (ET K 0):=by
 have q:∀vs H Q E,¬ ET K 0 vs H Q E:=fun vs H Q E h=>by
  obtain⟨a,ns,k,z,g,d,_,_,_,_,_,h1,h2,_⟩:=h;lia
 exact⟨fun vs H Q E h=>absurd h (q vs H Q E),fun A outer s H args us vs Q E _ _ _ _ h=>absurd h (q vs H Q E)⟩
theorem OZ(dd:Df K mg "_law_block" AW ["_law_script","_law_at","_law_known","_law_deep"] f fd) (b_range:mg "range" = none) (b_tuple:mg "tuple" = none) (c_law_pick:Callee P w K mg base "_law_pick" ["_law_script","_law_k","_law_many"] 2 (Cy K))
  (c_law_sum:Callee P w K mg base "_law_sum" ["_law_script","_law_at","_law_known","_law_deep"] 6 (DM K 3)) (c_law_counted:Callee P w K mg base "_law_counted" ["_law_script","_law_at","_law_known","_law_body","_law_deep"] 7 (Kt K)) :
  ∀n:Nat,Callee P w K mg base "_law_block" ["_law_script","_law_at","_law_known","_law_deep"] (n+7) (ET K n)
 |0=>dd.callee Xd
 |n+1=>dd.callee (Xc dd.F b_range b_tuple c_law_pick c_law_sum c_law_counted (OZ dd b_range b_tuple c_law_pick c_law_sum c_law_counted n))
abbrev Rw:=Str×Int×Int
noncomputable def Al(r:Rw):Dm:=.tup [.str r.1,.int r.2.1,.int r.2.2]
noncomputable def pair:List Str:=["a","b"]
noncomputable def Xe(H:Hp)(a:Addr)(k:Int)(B:Addr)(j:Nat)(σ:St)(z:Hp):Prop:=∃(vs:List V) (q:List Rw) (G F:Option V),σ=[some (.ref a),some (.int k),some (.ref B),G,F]/\Same H z/\z B=some (.lst vs)/\DtA z vs (q.map Al)/\q.length=j/\q.map (·.1)=pair.take j/\∀r∈q,-6<=r.2.1/\r.2.1<=r.2.2/\r.2.2<=8
noncomputable def Xf(U:Hp)(q:List Rw)(i:Nat)(ys:List V)(z:St)(H':Hp):Prop:=H'=U/\(∃t,z=[t])/\ys=(q.take i).map fun r=>V.str r.1
structure okRows(rows:List Rw):Prop where
 len:rows.length<=2
 nm:rows.map (·.1)=pair.take rows.length
 lo:∀r∈rows,-6<=r.2.1/\r.2.1<=r.2.2/\r.2.2<=8
noncomputable def Oa(K:y3):Sp:=fun vs H Q _=>∃(a:Addr) (ns:List Int) (k:Int),vs=[.ref a,.int k]/\SqL K H a (ns.map V.int)/\0<=k/\
 ∀(r z B:Addr) (H':Hp) (q:List Rw) (b:List D) (g':List Str),Same H H'->H' r=some (.tup [.ref z,.ref B])->Dt H' (.ref z) (.tup (q.map Al))->Dt H' (.ref B) (.tup (AM b))->okRows q->okB 3 b->b.length<=3->b≠[]->Knows (q.map (·.1)) b g'->Q (.ref r) H'
theorem Xg(F:Fun K "_law_program" "_law_program" BX f fd) (b_range:mg "range" = none) (b_tuple:mg "tuple" = none) (c_law_pick:Callee P w K mg base "_law_pick" ["_law_script","_law_k","_law_many"] 2 (Cy K))
  (c_law_block:Callee P w K mg base "_law_block" ["_law_script","_law_at","_law_known","_law_deep"] 10 (ET K 3)):FnOk P w K mg base CX0 11 f fd ["_law_script","_law_at"] (Oa K):=by
 refine F.ok sc_law_program (fun vs H Q E h=>?_) (fun av A outer s H vs Q E hr h=>?_)
 ·obtain⟨a,ns,k,rfl,_⟩:=h;rfl
 obtain⟨a,ns,k,rfl,hS,h0,q⟩:=h;refine⟨_,(A7 (AK (i:=2) sc_law_program.nd rfl WY (AT A2) (AF rfl))
 (A7 (D7 y1e rfl (G6 WW b_range (A0 (AB c_law_pick hr (by lia) (A0 (A1 0 rfl Gv) (A0 (A1 1 rfl Gu) (A0 A3 A2))) KE B2) A2)) (AZ (i:=3) sc_law_program.nd rfl WZ)
 (A7 (AK (i:=4) sc_law_program.nd rfl Wa (A5 Bt (AB c_law_pick hr (by lia) (A0 (A1 0 rfl Gv) (A0 (A5 AR (A5 AR (A1 1 rfl Gu) A3) (A5 C8 A3 (A1 3 rfl KH))) (A0 A3 A2))) KE B2) A3) (AF rfl))
 (A8 (BQ (Ak yq y0g y0f Cg (A1 2 rfl KG) (A0 (Ac (A0 (A9 Ad (AT (A0 AA (A0 AA A2))) (A1 3 rfl KH) (fun _ _=>rfl)) (A0 (A1 4 rfl OH) (A0 (A5 AR (A1 4 rfl OH) (AB c_law_pick hr (by lia) (A0 (A1 0 rfl Gv) (A0 (A5 AR (A5 AR (A1 1 rfl Gu) A3) (A5 C8 A3 (A1 3 rfl KH))) (A0 A3 A2))) KE B2)) A2)))) A2)) (AF rfl)))))
 (A8 (AC (Ac (A0 (BL E8 WX b_tuple Cl (A0 (A1 2 rfl KG) A2) Co Cn) (A0 (A9 AD (AB c_law_block hr (by lia) (A0 (A1 0 rfl Gv) (A0 (A5 AR (A1 1 rfl Gu) A3) (A0 (BT ["_law_row"] [none] rfl (CompS.of (by rfl)) (DV (A1 2 rfl KG)) (fun _ _ _ _ _=>(AZ (i:=0) (show List.Nodup (["_law_row"]:List Str) from by decide+kernel) rfl (Or.inl rfl))) (fun _ _ _ _ _=>Bj) (fun _ _ _ _ _=>(A9 (ixK (r:=Be) (K:=K) AD rfl) (AX (i:=0) rfl (by walk_at "vc") Ge Ga) A3 (fun _ _=>rfl)))) (A0 A3 A2)))) WV Gb) A3 (fun _ _=>rfl)) A2))))))),?_⟩
 walk_at "rd";refine⟨y0i _,fun pi af=>?_⟩;have s1:=A6 af (HO.lst []);refine⟨a,ns,k,3,rfl,s1.seq hS,h0,by decide,fun i H2 i0 i1 s2=>?_⟩;refine⟨_,rfl,by lia,by lia,?_⟩;refine G8 (lo:=0) (n:=i.toNat) (Xe H a k pi) ?s ?t ?d
 case s=>exact⟨[],[],none,none,rfl,s1.trans s2,s2 _ _ A4,.nil,rfl,rfl,fun r hr=>absurd hr (by simp)⟩
 case t=>
  rintro j σ Hc hj ⟨vs,B,x3,x4,rfl,sc,hv,dv,hl,M,ac⟩;have J:vs.length=j:=by rw[dv.length,y4,hl]
  walk_at "rd";refine⟨.inl ⟨by decide,by decide⟩,?_⟩;refine⟨a,ns,_,13,rfl,sc.seq hS,by lia,by decide,fun lo H3 l0 l1 s3=>?_⟩;walk_at "rd";refine⟨.inl ⟨rfl,_,SqL.of (s3 _ _ hv)⟩,zl 2 (by decide),fun pm am=>?_⟩;have s4:=A6 am (HO.lst [V.str "a",V.str "b"]);have ar:j=0\/j=1:=by lia
  obtain⟨x,ex,et⟩:∃x:Str,atI (pair.map V.str) (0+(j:Int))=some (V.str x)/\pair.take (j+1)=pair.take j++[x]:=by
   rcases ar with rfl|rfl
   ·exact⟨"a",rfl,rfl⟩
   ·exact⟨"b",rfl,rfl⟩
  refine⟨_,SqL.of A4,_,ex,.inl ⟨by decide,by decide⟩,?_⟩;refine⟨a,ns,_,3,rfl,((sc.trans s3).trans s4).seq hS,by lia,by decide,fun z H4 z0 z1 s5=>?_⟩;refine⟨_,rfl,zl 3 (by decide),fun pt ak=>?_⟩;have s6:=A6 ak (HO.tup [V.str x,V.int (lo-6),V.int (lo-6+z)]);have dt:Dt (upd H4 pt (HO.tup [V.str x,V.int (lo-6),V.int (lo-6+z)])) (.ref pt) (Al (x,lo-6,lo-6+z)):=.tup A4 (.cons (.str _) (.cons (.int _) (.cons (.int _) .nil)));have G:=s3.trans (s4.trans (s5.trans s6));generalize upd H4 pt (HO.tup [V.str x,V.int (lo-6),V.int (lo-6+z)])=U at s6 dt G |-;refine⟨vs,G _ _ hv,by rw[J]; exact C9 (by lia),?_⟩;have k8:Kp U (upd U pi (HO.lst (vs++[V.ref pt]))):=Kp.set (G _ _ hv);refine⟨vs++[V.ref pt],B++[(x,lo-6,lo-6+z)],_,_,rfl,HA (sc.trans G) af,A4,?_,by rw[yj,y01,hl],?_,?_⟩
  ·rw[yd];exact(dv.kp (G.kp.trans k8)).append (.cons (dt.kp k8) .nil)
  ·rw[yd,M,et]; rfl
  ·intro r hr';rcases List.mem_append.mp hr' with hr'|hr'
   ·exact ac r hr'
   ·have er:r=(x,lo-6,lo-6+z):=by simpa using hr'
    subst er;show -6<=lo-6/\lo-6<=lo-6+z/\lo-6+z<=8;lia
 case d=>
  rintro σ Hc ⟨vs,B,x3,x4,rfl,sc,hv,dv,hl,M,ac⟩;walk_at "rd";have J:vs.length=i.toNat:=by rw[dv.length,y4,hl]
  refine⟨vs,.inl ⟨SqL.of hv,fun pb ap=>?_⟩⟩;have sa:=A6 ap (HO.tup vs);have ah:Dt _ (.ref pb) (.tup (B.map Al)):=.tup A4 (dv.kp sa.kp);have aa:=sa _ _ hv;have ag:=dv.kp sa.kp;generalize upd Hc pb (HO.tup vs)=U at sa ah aa ag |-;refine⟨⟨_,SqL.of aa⟩,?_⟩;refine DY (K:=K) (a:=pi) (xs:=vs) (Xf U B) ⟨rfl,⟨none,rfl⟩,rfl⟩ (by rw[J]; exact C9 (by lia)) ?_ ?_ ?_ ?_
  ·rintro i ys O H' ⟨_,_,rfl⟩;rw[y4,yz];lia
  ·rintro i ys O H' _ ⟨rfl,_,_⟩;exact SqL.of aa
  ·rintro i' ys v O H' aj ⟨rfl,⟨t,rfl⟩,rfl⟩;obtain⟨d,hd,dd⟩:=ag.get aj;rw[y0b] at hd;cases hr':B[i']? with
   |none=>rw[hr'] at hd; cases hd
   |some r=>
    rw[hr'] at hd;have ed:Al r=d:=by simpa using hd
    subst ed;obtain⟨pa,xs,rfl,aq,da⟩:=dd.tupI;rcases da with _|⟨d1,_|⟨d3,_|⟨d5,_|_⟩⟩⟩
    ·cases d1;walk_at "rd";refine⟨_,SqT.of aq,_,rfl,rfl,⟨_,rfl⟩,?_⟩;rw[y03,hr',yd];rfl
  ·rintro ys O H' ⟨rfl,_,rfl⟩ pc ao;rw[show vs.length=B.length by rw[J,hl],y0h];have sb:=A6 ao (HO.lst (B.map fun r=>V.str r.1));have ae:Sub (B.map (·.1)) Aj:=by
    rw[M];intro y hy;have:=y17 hy;simp only[pair,yu,yo,or_false] at this;rcases this with rfl|rfl<;>decide+kernel
   refine⟨a,ns,k+9,pc,B.map (·.1),3,rfl,(sc.trans (sa.trans sb)).seq hS,by lia,?_,ae,by decide,by decide,by decide,by rw[y4]; lia,fun r rb rk H5 b g' s5 hr' db au ob lb nb kn sp gl kf=>?_⟩
   ·rw[A4,y23]; rfl
   ·refine⟨_,rfl,_,SqT.of hr',_,rfl,zl 2 (by decide),fun pr al=>?_⟩;have Z:=A6 al (HO.tup [V.ref pb,V.ref rb]);exact q pr pb rb _ B b g' (sc.trans (sa.trans (sb.trans (s5.trans Z)))) A4 (ah.kp (sb.trans (s5.trans Z)).kp) (db.kp Z.kp) ⟨by lia,by rw[M,hl],ac⟩ ob lb nb kn
noncomputable def tyD:Dm->String
 |.non=>"NoneType" | .bl _=>"bool" | .int _=>"int" | .str _=>"str" | .tup _=>"tuple" | .lst=>"list"
theorem HB(h:Dt H v d):TyOf K H v (.type (tyD d)):=by
 cases h with
 |non=>exact .non
 |bl b=>exact .bl b
 |int i=>exact .int i
 |str x=>exact .str x
 |tup e _=>exact .tup e
 |lst e=>exact .lst e
noncomputable def isT:Dm->Bool
 |.tup _=>true
 |_=>false
noncomputable def isI:Dm->Bool
 |.int _=>true
 |.bl _=>true
 |_=>false
noncomputable def isB:Dm->Bool
 |.bl _=>true
 |_=>false
noncomputable def isS:Dm->Bool
 |.str _=>true
 |_=>false
theorem Ku(h:Dt H v d):∃t,TyOf K H v t/\PySem.W.kitOne K t (.type "tuple")=some (isT d):=⟨_,HB h,by cases d<;>rfl⟩
theorem Xh(h:Dt H v d):∃t,TyOf K H v t/\PySem.W.kitOne K t (.type "int")=some (isI d):=⟨_,HB h,by cases d<;>rfl⟩
theorem Ob(h:Dt H v d):∃t,TyOf K H v t/\PySem.W.kitOne K t (.type "bool")=some (isB d):=⟨_,HB h,by cases d<;>rfl⟩
theorem Xi{H:Hp}{v:V}{d:Dm}(h:Dt H v d):∃t,TyOf K H v t/\PySem.W.kitOne K t (.type "str")=some (isS d):=⟨_,HB h,by cases d<;>rfl⟩
noncomputable def Kv:Dm->Bool
 |.int _=>true
 |_=>false
noncomputable def Am(d:Dm)(lo hi:Int):Bool:=match d with
 |.int i=>decide (lo<=i)&&decide (i<=hi)
 |_=>false
noncomputable def Bm(d:Dm)(n:Int):Bool:=match d with
 |.tup ds=>decide ((ds.length:Int)=n)
 |_=>false
noncomputable def Oc(g:Dm->Bool):Sp:=fun vs H Q _=>∃v d,vs=[v]/\Dt H v d/\∀H',Same H H'->Q (.bl (g d)) H'
theorem Xj(F:Fun K "is_whole" "is_whole" Da f fd) (b_isinstance:mg "isinstance" = none) (b_int:mg "int" = none) (b_bool:mg "bool" = none):FnOk P w K mg base CX0 1 f fd ["thing"] (Oc Kv):=by
 refine F.ok Tl (fun vs H Q E h=>?_) (fun B A outer s H vs Q E G h=>?_)
 ·obtain⟨v,d,rfl,_⟩:=h;rfl
 obtain⟨v,d,rfl,hd,q⟩:=h;refine⟨_,(A8 (AC (BP (AV EB NS b_isinstance Bv (A0 (A1 0 rfl NT) (A0 (DU (v:=V.ty "int") Tn b_int GY rfl Gj Gf) A2)) Bx Bw) (Bs (QA (AV EB NS b_isinstance Bv (A0 (A1 0 rfl NT) (A0 (DU (v:=V.ty "bool") Tm b_bool SL rfl Tc T7) A2)) Bx Bw)))))),?_⟩;walk_at "rd";refine⟨_,_,⟨rfl,rfl⟩,_,Xh hd,?_⟩;have z:=q H (Same.refl _);cases d with
 |int i=>exact⟨_,_,⟨rfl,rfl⟩,_,Ob hd,z⟩
 |bl b=>exact⟨_,_,⟨rfl,rfl⟩,_,Ob hd,z⟩
 |non=>exact z
 |str x=>exact z
 |tup ds=>exact z
 |lst=>exact z
noncomputable def FO:Sp:=fun vs H Q _=>∃v d lo hi,vs=[v,.int lo,.int hi]/\Dt H v d/\∀H',Same H H'->Q (.bl (Am d lo hi)) H'
theorem Xk(F:Fun K "is_whole_from" "is_whole_from" Db f fd) (c_is_whole:Callee P w K mg base "is_whole" ["thing"] 1 (Oc Kv)):FnOk P w K mg base CX0 2 f fd ["thing","low","high"] FO:=by
 refine F.ok To (fun vs H Q E h=>?_) (fun M A outer s H vs Q E J h=>?_)
 ·obtain⟨v,d,lo,hi,rfl,_⟩:=h;rfl
 obtain⟨v,d,lo,hi,rfl,hd,q⟩:=h;refine⟨_,(A8 (AC (BP (AB c_is_whole J (by lia) (A0 (A1 0 rfl Jn) A2) Tp TM) (BP (BK Ic (A1 1 rfl Tr) (A1 0 rfl Jn) (AG _)) (Bs (BK Ic (A1 0 rfl Jn) (A1 2 rfl Tq) (AG _))))))),?_⟩;walk_at "rd";refine⟨v,d,rfl,hd,fun H1 G=>?_⟩;have z:=q H1 G;cases hd with
 |int i=>
  walk_at "rd";simp only[Kv,if_true];replace z:Q (.bl (decide (lo<=i)&&decide (i<=hi))) H1:=z;split
  ·rename_i B;rw[decide_eq_true B,y0a] at z;exact z
  ·rename_i B;rw[decide_eq_false B,yx] at z;exact z
 |_=>exact⟨_,rfl,z⟩
noncomputable def EU:Sp:=fun vs H Q _=>∃v d n,vs=[v,.int n]/\Dt H v d/\∀H',Same H H'->Q (.bl (Bm d n)) H'
theorem Xl(F:Fun K "is_tuple_of" "is_tuple_of" DH f fd) (b_isinstance:mg "isinstance" = none) (b_len:mg "len" = none) (b_tuple:mg "tuple" = none):FnOk P w K mg base CX0 1 f fd ["thing","many"] EU:=by
 refine F.ok Ts (fun vs H Q E h=>?_) (fun B A outer s H vs Q E G h=>?_)
 ·obtain⟨v,d,n,rfl,_⟩:=h;rfl
 obtain⟨v,d,n,rfl,hd,q⟩:=h;refine⟨_,(A8 (AC (BP (AV EB Tt b_isinstance Bv (A0 (A1 0 rfl NU) (A0 (DU (v:=V.ty "tuple") Tv b_tuple Cl rfl Co Cn) A2)) Bx Bw) (Bs (BK DB (AV B0 Tu b_len B1 (A0 (A1 0 rfl NU) A2) B4 B3) (A1 1 rfl Tw) (AG _)))))),?_⟩;walk_at "rd";refine⟨_,_,⟨rfl,rfl⟩,_,Ku hd,?_⟩;have z:=q H (Same.refl _);cases hd with
 |tup e r=>
  refine⟨_,KT (SqT.of e),?_⟩;rw[r.length];exact z
 |_=>exact z
noncomputable def DN(c:Nat):Bool:=!(Builtin.Str.occurrences ("abcdefghijklmnopqrstuvwxyz" : Str) ⟨#[c]⟩ 0 ("abcdefghijklmnopqrstuvwxyz" : Str).length 1).isEmpty
noncomputable def Ao(z:Str):Bool:=decide (1<=z.length)&&decide (z.length<=2)&&z.cps.toList.all DN
noncomputable def B6:Dm->Bool
 |.str z=>Ao z
 |_=>false
noncomputable def Xm(H:Hp)(z:Str)(i:Nat)(ys:List V)(q:St)(H':Hp):Prop:=H'=H/\(∃t,q=[t])/\ys=((z.cps.toList.take i).map DN).map V.bl
mutual
noncomputable def AL:Dm->Prop
 |.str z=>z.length<=4000000
 |.tup ds=>smallA ds/\ds.length<=4000000
 |_=>True
noncomputable def smallA:List Dm->Prop
 |[]=>True
 |d::r=>AL d/\smallA r
end
theorem smallA.get:∀{ds:List Dm} {i:Nat} {d:Dm},smallA ds->ds[i]?=some d->AL d
 |[],_,_,_,e=>by simp at e
 |x::r,0,d,h,e=>by
  simp at e; subst e;rw[smallA] at h;exact h.1
 |x::r,i+1,d,h,e=>by
  rw[smallA] at h;exact smallA.get h.2 (by simpa using e)
noncomputable def FP:Sp:=fun vs H Q _=>∃v d,vs=[v]/\Dt H v d/\AL d/\∀H',Same H H'->Q (.bl (B6 d)) H'
theorem Xn(F:Fun K "is_name" "is_name" Cp f fd) (b_isinstance:mg "isinstance" = none) (b_len:mg "len" = none) (b_str:mg "str" = none) (b_all:mg "all" = none) (g_MOST_LETTERS:GC mg "MOST_LETTERS" (.int 2)) (g_LETTERS:GC mg "LETTERS" (.str "abcdefghijklmnopqrstuvwxyz")) :
  FnOk P w K mg base CX0 1 f fd ["thing"] FP:=by
 refine F.ok Tx (fun vs H Q E h=>?_) (fun aa A outer s H vs Q E O h=>?_)
 ·obtain⟨v,d,rfl,_⟩:=h;rfl
 obtain⟨v,d,rfl,hd,hz,q⟩:=h;refine⟨_,(A7 (AH (PW.pt (BC (Au (Ah (AV EB U0 b_isinstance Bv (A0 (A1 0 rfl Gk) (A0 (DU (v:=V.ty "str") U4 b_str DE rfl DG DF) A2)) Bx Bw))) (BC (AI Bd (AV B0 NV b_len B1 (A0 (A1 0 rfl Gk) A2) B4 B3) A3 (AG _)) (Br (AI GB (AV B0 NV b_len B1 (A0 (A1 0 rfl Gk) A2) B4 B3) (Ax g_MOST_LETTERS Ty Sm) (AG _)))))) (A8 (AC B7)) AJ)
 (A8 (AC (AV (Et rfl) Tz b_all F2 (A0 (BT ["sign"] [none] rfl (CompS.of (by rfl)) (MT (A1 0 rfl Gk)) (fun _ _ _ _ _=>(AZ (i:=0) (show List.Nodup (["sign"]:List Str) from by decide+kernel) rfl (Or.inl rfl))) (fun _ _ _ _ _=>Bj) (fun _ _ _ _ _=>(BK (opK (r:=qIn) (K:=K) (gIn O.units) rfl) (AX (i:=0) rfl (by walk_at "vc") NQ ND) (Ax g_LETTERS rfl Si) (by with_unfolding_all rfl)))) A2) F7 F5)))),?_⟩
 walk_at "rd";refine⟨_,_,⟨rfl,rfl⟩,_,Xi hd,?_⟩;cases hd with
 |str z=>
  have J:z.length<=4000000:=by rw[AL] at hz; exact hz
  have G:∀H',Same H H'->Q (.bl (Ao z)) H':=q;have hl:Ci K (.str z) H z.length:=.inr ⟨z,rfl,zl _ J,rfl⟩;refine⟨_,hl,?_⟩;split
  ·rename_i h1;have e:Ao z=false:=by
    unfold Ao;rw[decide_eq_false (by lia),yx,yx]
   exact e ▸ G H (Same.refl _)
  ·rename_i h1;refine⟨_,hl,?_⟩;split
   ·rename_i h2;have e:Ao z=false:=by
     unfold Ao;rw[decide_eq_false (p:=z.length<=2) (by lia),y1s,yx]
    exact e ▸ G H (Same.refl _)
   ·rename_i h2;have e:Ao z=z.cps.toList.all DN:=by
     unfold Ao;rw[decide_eq_true (by lia),decide_eq_true (by lia),y0a,y0a]
    have Z:z.cps.size=z.length:=rfl;refine⟨_,rfl,?_⟩;refine OT (z:=z) (Xm H z) ⟨rfl,⟨none,rfl⟩,rfl⟩ (sm6 (by lia)) ?_ ?_ ?_
    ·rintro i ys B H' ⟨_,_,rfl⟩;rw[y4,y4,yz];lia
    ·rintro i ys c B H' hc ⟨rfl,⟨t,rfl⟩,rfl⟩;walk_at "rd";refine⟨DN c,.inr (.inl ⟨_,_,rfl,rfl,rfl⟩),rfl,⟨_,rfl⟩,?_⟩;have M:z.cps.toList[i]?=some c:=by simpa using hc
     rw[y03,M,yd,yd];rfl
    ·rintro ys B H' ⟨rfl,_,rfl⟩ p U;walk_at "rd";have et:z.cps.toList.take z.cps.size=z.cps.toList:=y20 (by simp);rw[et];refine⟨z.cps.toList.map DN,SqL.of A4,?_⟩;have e2:(z.cps.toList.map DN).all id=Ao z:=by
      rw[e,y2o]; rfl
     rw[e2];exact G _ (A6 U _)
 |_=>exact q H (Same.refl _)
theorem EV{d:Dm}{n:Nat}(h:Bm d (n:Int)=true):∃ds,d=.tup ds/\ds.length=n:=by
 cases d with
 |tup ds=>
  have:=of_decide_eq_true (show decide ((ds.length:Int)=n)=true from h);exact⟨ds,rfl,by lia⟩
 |_=>exact absurd (show false=true from h) yg
theorem Od{ds:List Dm}(h:ds.length=2):∃a b,ds=[a,b]:=by
 match ds,h with
 |[a,b],_=>exact⟨a,b,rfl⟩
theorem Kw{ds:List Dm}(h:ds.length=3):∃a b c,ds=[a,b,c]:=by
 match ds,h with
 |[a,b,c],_=>exact⟨a,b,c,rfl⟩
theorem Xo{ds:List Dm}(h:ds.length=4):∃a b c d,ds=[a,b,c,d]:=by
 match ds,h with
 |[a,b,c,d],_=>exact⟨a,b,c,d,rfl⟩
theorem CG(h:Dt H v (.tup [a,b])):∃p x y,v=.ref p/\H p=some (.tup [x,y])/\Dt H x a/\Dt H y b:=by
 obtain⟨p,xs,rfl,e,r⟩:=h.tupI;rcases r with _|⟨z,_|⟨q,_|_⟩⟩;exact⟨p,_,_,rfl,e,z,q⟩
theorem BM(h:Dt H v (.tup [a,b,c])):∃p x y z,v=.ref p/\H p=some (.tup [x,y,z])/\Dt H x a/\Dt H y b/\Dt H z c:=by
 obtain⟨p,xs,rfl,e,r⟩:=h.tupI;rcases r with _|⟨F,_|⟨B,_|⟨q,_|_⟩⟩⟩;exact⟨p,_,_,_,rfl,e,F,B,q⟩
theorem CH(h:Dt H v (.tup [a,b,c,d])):∃p x y z u,v=.ref p/\H p=some (.tup [x,y,z,u])/\Dt H x a/\Dt H y b/\Dt H z c/\Dt H u d:=by
 obtain⟨p,xs,rfl,e,r⟩:=h.tupI;rcases r with _|⟨G,_|⟨F,_|⟨B,_|⟨q,_|_⟩⟩⟩⟩;exact⟨p,_,_,_,_,rfl,e,G,F,B,q⟩
noncomputable def Aa(d:Dm):Bool:=match d with
 |.tup [x,.int l,h]=>B6 x&&Am (.int l) (-99) 99&&Am h l 99
 |_=>false
noncomputable def HC:Sp:=fun vs H Q _=>∃v d,vs=[v]/\Dt H v d/\AL d/\∀H',Same H H'->Q (.bl (Aa d)) H'
theorem Xp{d:Dm}(h:Bm d 3=false):Aa d=false:=by
 unfold Aa;split
 ·exact absurd (show true=false from h) (by decide)
 ·rfl
theorem Xq(F:Fun K "is_in" "is_in" Cq f fd) (c_is_tuple_of:Callee P w K mg base "is_tuple_of" ["thing","many"] 1 EU) (c_is_name:Callee P w K mg base "is_name" ["thing"] 1 FP) (c_is_whole_from:Callee P w K mg base "is_whole_from" ["thing","low","high"] 2 FO)
  (g_LEAST_IN:GC mg "LEAST_IN" (.int (-99))) (g_GREATEST_IN:GC mg "GREATEST_IN" (.int 99)):FnOk P w K mg base CX0 3 f fd ["thing"] HC:=by
 refine F.ok UE (fun vs H Q E h=>?_) (fun aa A outer s H vs Q E O h=>?_)
 ·obtain⟨v,d,rfl,_⟩:=h;rfl
 obtain⟨v,d,rfl,hd,hz,q⟩:=h;refine⟨_,(A7 (AH (PW.pt (BC (Au (Ah (AB c_is_tuple_of O (by lia) (A0 (A1 0 rfl F9) (A0 A3 A2)) UH EH))) (Br (Au (Ah (AB c_is_name O (by lia) (A0 (A9 AD (A1 0 rfl F9) A3 (fun _ _=>rfl)) A2) UG Ji)))))) (A8 (AC B7)) AJ)
 (A8 (AC (BP (AB c_is_whole_from O (by lia) (A0 (A9 AD (A1 0 rfl F9) A3 (fun _ _=>rfl)) (A0 (Ax g_LEAST_IN UF Sh) (A0 (Ax g_GREATEST_IN NY NG) A2))) NZ Gh) (Bs (AB c_is_whole_from O (by lia) (A0 (A9 AD (A1 0 rfl F9) A3 (fun _ _=>rfl)) (A0 (A9 AD (A1 0 rfl F9) A3 (fun _ _=>rfl)) (A0 (Ax g_GREATEST_IN NY NG) A2))) NZ Gh)))))),?_⟩
 walk_at "rd";refine⟨v,d,3,rfl,hd,fun H1 M=>?_⟩;walk_at "rd";cases ht:Bm d 3 with
 |false=>
  simp only[if_true];exact Xp ht ▸ q H1 M
 |true=>
  obtain⟨ds,rfl,hl⟩:=EV (n:=3) ht;obtain⟨G,e1,B,rfl⟩:=Kw hl;simp only[y09,if_false];simp only[AL,smallA] at hz;replace hz:=hz.1;obtain⟨p,x0,x1,x2,rfl,U,t0,t1,t2⟩:=BM (hd.kp M.kp);refine⟨_,rfl,_,SqT.of U,_,rfl,x0,G,rfl,t0,hz.1,fun H2 z=>⟨_,rfl,?_⟩⟩;have q2:=q H2 (M.trans z);cases hn:B6 G with
  |false=>
   simp only[if_true];have e:Aa (.tup [G,e1,B])=false:=by
    unfold Aa;split
    ·rename_i Z;cases Z;rw[hn]; rfl
    ·rfl
   exact e ▸ q2
  |true=>
   simp only[y09,if_false];refine⟨_,rfl,_,SqT.of (z _ _ U),_,rfl,x1,e1,_,_,rfl,t1.kp z.kp,fun H3 J=>⟨_,rfl,?_⟩⟩;have q3:=q H3 (M.trans (z.trans J));cases t1 with
   |int l=>
    cases hf:Am (.int l) (-99) 99 with
    |false=>
     simp only[y0o,if_false];have e:Aa (.tup [G,.int l,B])=false:=by
      show(B6 G&&Am (.int l) (-99) 99&&Am B l 99)=false;rw[hf,y1s,yx]
     exact e ▸ q3
    |true=>
     simp only[if_true];refine⟨_,rfl,_,SqT.of (J _ _ (z _ _ U)),_,rfl,_,rfl,_,SqT.of (J _ _ (z _ _ U)),_,rfl,x2,B,l,99,rfl,t2.kp (z.trans J).kp,fun H4 s4=>?_⟩;have e:Aa (.tup [G,.int l,B])=Am B l 99:=by
      show(B6 G&&Am (.int l) (-99) 99&&Am B l 99)=_;rw[hf,hn]; rfl
     exact e ▸ q H4 (M.trans (z.trans (J.trans s4)))
   |_=>
    simp only[Am,y0o,if_false];exact q3
noncomputable def eqS(d:Dm)(z:Str):Bool:=match d with
 |.str x=>decide (x=z)
 |_=>false
theorem AN(h:Dt H x d):JB K x (.str z) H (eqS d z):=by
 cases h with
 |str y=>exact .inl ⟨rfl,by show decide (y=z)=decide (V.str y=V.str z); simp⟩
 |tup e _=>exact .inr (.inr ⟨_,_,rfl,rfl,.inr ⟨_,SqT.of e⟩,rfl⟩)
 |lst e=>exact .inr (.inr ⟨_,_,rfl,rfl,.inl ⟨_,SqL.of e⟩,rfl⟩)
 |non=>exact .inl ⟨rfl,by simp[eqS]⟩
 |bl b=>exact .inl ⟨rfl,by simp[eqS]⟩
 |int i=>exact .inl ⟨rfl,by simp[eqS]⟩
noncomputable def words:List Str:=["add","sub","mul","quo","less","same","min","max"]
noncomputable def inW(d:Dm):Bool:=match d with
 |.str x=>words.contains x
 |_=>false
theorem Xr{H:Hp}{x:V}{d:Dm}{a:Addr}(h:Dt H x d)(hw:SqT K H a (words.map V.str)):MU K x (.ref a) H (!inW d):=by
 have F:∀(z:Str) (g:List Str),inV (.str z) (g.map V.str)=g.contains z:=Cz;have q:∀(v:V),(∀z,v≠.str z)->Az v=true->∀g:List Str,inV v (g.map V.str)=false:=by
  intro v B J g;induction g with
  |nil=>rfl
  |cons y g G=>
   unfold inV at G |-;rw[yv,y0k,G,y36];cases v with
   |str z=>exact absurd rfl (B z)
   |_=>first|rfl|exact absurd J (by decide)
 cases h with
 |str z=>exact .inl ⟨a,_,rfl,.inr hw,rfl,CW words,by rw[F]; rfl⟩
 |non=>exact .inl ⟨a,_,rfl,.inr hw,rfl,CW words,by rw[q _ (fun z y=>by cases y) rfl]; rfl⟩
 |bl b=>exact .inl ⟨a,_,rfl,.inr hw,rfl,CW words,by rw[q _ (fun z y=>by cases y) rfl]; rfl⟩
 |int i=>exact .inl ⟨a,_,rfl,.inr hw,rfl,CW words,by rw[q _ (fun z y=>by cases y) rfl]; rfl⟩
 |tup e _=>exact .inr (.inr ⟨_,a,_,rfl,rfl,.inr ⟨_,SqT.of e⟩,hw,fun v B=>by obtain⟨z,_,rfl⟩:=List.mem_map.mp B; exact⟨z,rfl⟩,rfl⟩)
 |lst e=>exact .inr (.inr ⟨_,a,_,rfl,rfl,.inl ⟨_,SqL.of e⟩,hw,fun v B=>by obtain⟨z,_,rfl⟩:=List.mem_map.mp B; exact⟨z,rfl⟩,rfl⟩)
noncomputable def Ap:Nat->Dm->Bool
 |0,_=>false
 |n+1,d=>match d with
  |.tup [h,x]=>if eqS h "num" then Am x (-32768) 32767 else eqS h "name" && B6 x
  |.tup [h,a,b]=>inW h&&Ap n a&&Ap n b
  |_=>false
noncomputable def EW(n:Nat):Sp:=fun vs H Q _=>∃v d,∃m:Nat,vs=[v,.int m]/\Dt H v d/\AL d/\m<n/\∀H',Same H H'->Q (.bl (Ap m d)) H'
theorem Xs{n:Nat}{d:Dm}(h2:Bm d 2=false)(q:Bm d 3=false):Ap (n+1) d=false:=by
 unfold Ap;split
 ·exact absurd (show true=false from h2) (by decide)
 ·exact absurd (show true=false from q) (by decide)
 ·rfl
theorem Xt{n:Nat} (F:Fun K "is_term" "is_term" C0 f fd) (c_is_tuple_of:Callee P w K mg base "is_tuple_of" ["thing","many"] 1 EU) (c_is_name:Callee P w K mg base "is_name" ["thing"] 1 FP) (c_is_whole_from:Callee P w K mg base "is_whole_from" ["thing","low","high"] 2 FO)
  (c_is_term:Callee P w K mg base "is_term" ["thing","levels"] (n+2) (EW n)) {aw:Addr} {ai:Addr} (g_WIDE:GC mg "WIDE" (.ref ai)) (hI:∀H,SqT K H ai [.int (-32768),.int 32767]) (g_WORDS:GC mg "WORDS" (.ref aw)) (hW:∀H,SqT K H aw (words.map V.str)) :
  FnOk P w K mg base CX0 (n+3) f fd ["thing","levels"] (EW (n+1)):=by
 refine F.ok UU (fun vs H Q E h=>?_) (fun aa A outer s H vs Q E J h=>?_)
 ·obtain⟨v,d,m,rfl,_⟩:=h;rfl
 obtain⟨v,d,m,rfl,hd,hz,hm,q⟩:=h;refine⟨_,(A7 (AH (AI Bd (A1 1 rfl Jp) A3 (AG _)) (A8 (AC B7)) AJ)
 (A7 (AH (Ah (AB c_is_tuple_of J (by lia) (A0 (A1 0 rfl Cr) (A0 A3 A2)) Ni EH)) (A7 (AH (AI (gEq J.units) (A9 AD (A1 0 rfl Cr) A3 (fun _ _=>rfl)) AA (AG _)) (A8 (AC (AB c_is_whole_from J (by lia) (A0 (A9 AD (A1 0 rfl Cr) A3 (fun _ _=>rfl)) (A0 (A9 AD (Ax g_WIDE Ng NH) A3 (fun _ _=>rfl)) (A0 (A9 AD (Ax g_WIDE Ng NH) A3 (fun _ _=>rfl)) A2))) UX Gh))) AJ)
 (A8 (AC (BP (BK (gEq J.units) (A9 AD (A1 0 rfl Cr) A3 (fun _ _=>rfl)) AA (AG _)) (Bs (AB c_is_name J (by lia) (A0 (A9 AD (A1 0 rfl Cr) A3 (fun _ _=>rfl)) A2) UW Ji)))))) AJ)
 (A7 (AH (PW.pt (BC (Au (Ah (AB c_is_tuple_of J (by lia) (A0 (A1 0 rfl Cr) (A0 A3 A2)) Ni EH))) (Br (AI (JD J.units) (A9 AD (A1 0 rfl Cr) A3 (fun _ _=>rfl)) (Ax g_WORDS UV NI) (by with_unfolding_all rfl))))) (A8 (AC B7)) AJ)
 (A8 (AC (BP (AB c_is_term J (by lia) (A0 (A9 AD (A1 0 rfl Cr) A3 (fun _ _=>rfl)) (A0 (A5 Bt (A1 1 rfl Jp) A3) A2)) Nh Gg) (Bs (AB c_is_term J (by lia) (A0 (A9 AD (A1 0 rfl Cr) A3 (fun _ _=>rfl)) (A0 (A5 Bt (A1 1 rfl Jp) A3) A2)) Nh Gg)))))))),?_⟩
 walk_at "rd";split
 ·rename_i h1;have e:m=0:=by lia
  subst e;exact q H (Same.refl _)
 ·rename_i h1;obtain⟨k,rfl⟩:∃k,m=k+1:=⟨m-1,by lia⟩;refine⟨v,d,2,rfl,hd,fun H1 B=>⟨_,rfl,?_⟩⟩;cases h2:Bm d 2 with
  |true=>
   obtain⟨ds,rfl,hl⟩:=EV (n:=2) h2;obtain⟨Z,U,rfl⟩:=Od hl;simp only[if_true];simp only[AL,smallA] at hz;replace hz:=hz.1;obtain⟨p,x0,x1,rfl,M,t0,t1⟩:=CG (hd.kp B.kp);refine⟨_,rfl,_,SqT.of M,_,rfl,_,AN t0,?_⟩;have z:∀H',Same H H'->Q (.bl (if eqS Z "num" then Am U (-32768) 32767 else eqS Z "name" && B6 U)) H':=q;split
   ·rename_i hn;rw[hn] at z;exact⟨_,rfl,_,SqT.of M,_,rfl,_,hI _,_,rfl,_,hI _,_,rfl,x1,U,_,_,rfl,t1,fun H2 G=>z H2 (B.trans G)⟩
   ·rename_i hn;rw[if_neg hn] at z;refine⟨_,rfl,_,SqT.of M,_,rfl,_,AN t0,?_⟩;split
    ·rename_i O;rw[O,y0a] at z;exact⟨_,rfl,_,SqT.of M,_,rfl,x1,U,rfl,t1,hz.2.1,fun H2 G=>z H2 (B.trans G)⟩
    ·rename_i O;rw[Bool.eq_false_iff.mpr O,yx] at z;exact z H1 B
  |false=>
   simp only[y0o,if_false];refine⟨v,d,3,rfl,hd.kp B.kp,fun H2 G=>⟨_,rfl,?_⟩⟩;cases h3:Bm d 3 with
   |false=>
    simp only[y2w,if_true];exact Xs (n:=k) h2 h3 ▸ q H2 (B.trans G)
   |true=>
    obtain⟨ds,rfl,hl⟩:=EV (n:=3) h3;obtain⟨Z,U,e2,rfl⟩:=Kw hl;simp only[y09,if_false];simp only[AL,smallA] at hz;replace hz:=hz.1;obtain⟨p,x0,x1,x2,rfl,M,t0,t1,t2⟩:=BM (hd.kp (B.trans G).kp);have z:∀H',Same H H'->Q (.bl (inW Z&&Ap k U&&Ap k e2)) H':=q;refine⟨_,rfl,_,SqT.of M,_,rfl,_,Xr t0 (hW _),?_⟩;cases hw:inW Z with
    |false=>
     rw[hw,yx,yx] at z;exact z H2 (B.trans G)
    |true=>
     rw[hw,y0a] at z;simp only[y37,y0o,if_false];have ek:(((k+1:Nat):Int)-1)=(k:Int):=by lia
     rw[ek];refine⟨_,rfl,_,SqT.of M,_,rfl,x1,U,k,rfl,t1,hz.2.1,by lia,fun H3 s3=>⟨_,rfl,?_⟩⟩;split
     ·rename_i h4;rw[h4,y0a] at z;exact⟨_,rfl,_,SqT.of (s3 _ _ M),_,rfl,x2,e2,k,rfl,t2.kp s3.kp,hz.2.2.1,by lia,fun H4 s4=>z H4 (B.trans (G.trans (s3.trans s4)))⟩
     ·rename_i h4;rw[Bool.eq_false_iff.mpr h4,yx] at z;exact z H3 (B.trans (G.trans s3))
noncomputable def FQ(q:Dm->Bool)(d:Dm):Bool:=match d with
 |.tup [h,x,t]=>eqS h "set" && B6 x&&Ap 5 t
 |.tup [h,t,x,b]=>Ap 5 t&&q b&&(if eqS h "if" then q x else eqS h "while" && Am x 0 20)
 |_=>false
noncomputable def An:Nat->Dm->Bool
 |0,_=>false
 |n+1,d=>match d with
  |.tup ds=>decide (ds.length<=6)&&ds.all (FQ (An n))
  |_=>false
noncomputable def D0(m:Nat)(d:Dm):Bool:=FQ (An m) d
noncomputable def FR(n:Nat):Sp:=fun vs H Q _=>∃v d,∃m:Nat,vs=[v,.int m]/\Dt H v d/\AL d/\m<n/\∀H',Same H H'->Q (.bl (An m d)) H'
noncomputable def Oe(n:Nat):Sp:=fun vs H Q _=>∃v d,∃m:Nat,vs=[v,.int ((m:Int)+1)]/\Dt H v d/\AL d/\m<n/\∀H',Same H H'->Q (.bl (D0 m d)) H'
theorem Xu(m:Nat)(h x t:Dm):D0 m (.tup [h,x,t])=(eqS h "set" && B6 x&&Ap 5 t):=rfl
theorem Xv(m:Nat)(h t x b:Dm):D0 m (.tup [h,t,x,b])=(Ap 5 t&&An m b&&(if eqS h "if" then An m x else eqS h "while" && Am x 0 20)):=rfl
theorem Xw{m:Nat}{d:Dm}(z:Bm d 3=false)(q:Bm d 4=false):D0 m d=false:=by
 cases d with
 |tup ds=>
  match ds,z,q with
  |[],_,_=>rfl
  |[_],_,_=>rfl
  |[_,_],_,_=>rfl
  |[_,_,_],z,_=>exact absurd (show true=false from z) (by decide)
  |[_,_,_,_],_,q=>exact absurd (show true=false from q) (by decide)
  |_::_::_::_::_::_,_,_=>rfl
 |_=>rfl
theorem HD{n:Nat} (F:Fun K "is_deed" "is_deed" Bz f fd) (c_is_tuple_of:Callee P w K mg base "is_tuple_of" ["thing","many"] 1 EU) (c_is_name:Callee P w K mg base "is_name" ["thing"] 1 FP) (c_is_whole_from:Callee P w K mg base "is_whole_from" ["thing","low","high"] 2 FO)
  (c_is_term:Callee P w K mg base "is_term" ["thing","levels"] 8 (EW 6)) (c_is_block:Callee P w K mg base "is_block" ["thing","levels"] (2*n+8) (FR n)) (g_DEEPEST_TERM:GC mg "DEEPEST_TERM" (.int 5)) (g_MOST_ROUNDS:GC mg "MOST_ROUNDS" (.int 20)) :
  FnOk P w K mg base CX0 (2*n+9) f fd ["thing","levels"] (Oe n):=by
 refine F.ok UP (fun vs H Q E h=>?_) (fun ac A outer s H vs Q E B h=>?_)
 ·obtain⟨v,d,m,rfl,_⟩:=h;rfl
 obtain⟨v,d,m,rfl,hd,hz,hm,q⟩:=h;refine⟨_,(A7 (AH (Ah (AB c_is_tuple_of B (by lia) (A0 (A1 0 rfl CB) (A0 A3 A2)) Nd EH)) (A8 (AC (BP (BK (gEq B.units) (A9 AD (A1 0 rfl CB) A3 (fun _ _=>rfl)) AA (AG _)) (BP (AB c_is_name B (by lia) (A0 (A9 AD (A1 0 rfl CB) A3 (fun _ _=>rfl)) A2) UR Ji) (Bs (AB c_is_term B (by lia) (A0 (A9 AD (A1 0 rfl CB) A3 (fun _ _=>rfl)) (A0 (Ax g_DEEPEST_TERM Na NF) A2)) Nc Gg)))))) AJ)
 (A7 (AH (PW.pt (BC (Au (Ah (AB c_is_tuple_of B (by lia) (A0 (A1 0 rfl CB) (A0 A3 A2)) Nd EH))) (BC (Au (Ah (AB c_is_term B (by lia) (A0 (A9 AD (A1 0 rfl CB) A3 (fun _ _=>rfl)) (A0 (Ax g_DEEPEST_TERM Na NF) A2)) Nc Gg))) (Br (Au (Ah (AB c_is_block B (by lia) (A0 (A9 AD (A1 0 rfl CB) A3 (fun _ _=>rfl)) (A0 (A5 Bt (A1 1 rfl Nf) A3) A2)) Nb Jh))))))) (A8 (AC B7)) AJ)
 (A7 (AH (AI (gEq B.units) (A9 AD (A1 0 rfl CB) A3 (fun _ _=>rfl)) AA (AG _)) (A8 (AC (AB c_is_block B (by lia) (A0 (A9 AD (A1 0 rfl CB) A3 (fun _ _=>rfl)) (A0 (A5 Bt (A1 1 rfl Nf) A3) A2)) Nb Jh))) AJ)
 (A8 (AC (BP (BK (gEq B.units) (A9 AD (A1 0 rfl CB) A3 (fun _ _=>rfl)) AA (AG _)) (Bs (AB c_is_whole_from B (by lia) (A0 (A9 AD (A1 0 rfl CB) A3 (fun _ _=>rfl)) (A0 A3 (A0 (Ax g_MOST_ROUNDS UQ Sn) A2))) UT Gh)))))))),?_⟩
 walk_at "rd";refine⟨v,d,3,rfl,hd,fun H1 Z=>⟨_,rfl,?_⟩⟩;have em:((m:Int)+1-1)=(m:Int):=by lia
 cases h3:Bm d 3 with
 |true=>
  obtain⟨ds,rfl,hl⟩:=EV (n:=3) h3;obtain⟨e0,e1,O,rfl⟩:=Kw hl;simp only[if_true];simp only[AL,smallA] at hz;replace hz:=hz.1;obtain⟨p,x0,x1,x2,rfl,hp,t0,t1,t2⟩:=BM (hd.kp Z.kp);have z:∀H',Same H H'->Q (.bl (eqS e0 "set" && B6 e1&&Ap 5 O)) H':=fun H' s'=>Xu m e0 e1 O ▸ q H' s';refine⟨_,rfl,_,SqT.of hp,_,rfl,_,AN t0,?_⟩;split
  ·rename_i h4;rw[h4,y0a] at z;refine⟨_,rfl,_,SqT.of hp,_,rfl,x1,e1,rfl,t1,hz.2.1,fun H2 U=>⟨_,rfl,?_⟩⟩;split
   ·rename_i h5;rw[h5,y0a] at z;exact⟨_,rfl,_,SqT.of (U _ _ hp),_,rfl,x2,O,5,rfl,t2.kp U.kp,hz.2.2.1,by decide,fun H3 G=>z H3 (Z.trans (U.trans G))⟩
   ·rename_i h5;rw[Bool.eq_false_iff.mpr h5,yx] at z;exact z H2 (Z.trans U)
  ·rename_i h4;rw[Bool.eq_false_iff.mpr h4,yx,yx] at z;exact z H1 Z
 |false=>
  simp only[y0o,if_false];refine⟨v,d,4,rfl,hd.kp Z.kp,fun H2 U=>⟨_,rfl,?_⟩⟩;cases h4:Bm d 4 with
  |false=>
   simp only[if_true];exact Xw (m:=m) h3 h4 ▸ q H2 (Z.trans U)
  |true=>
   obtain⟨ds,rfl,hl⟩:=EV (n:=4) h4;obtain⟨e0,e1,O,e3,rfl⟩:=Xo hl;simp only[y09,if_false];simp only[AL,smallA] at hz;replace hz:=hz.1;obtain⟨p,x0,x1,x2,x3,rfl,hp,t0,t1,t2,t3⟩:=CH (hd.kp (Z.trans U).kp);have z:∀H',Same H H'->Q (.bl (Ap 5 e1&&An m e3&&(if eqS e0 "if" then An m O else eqS e0 "while" && Am O 0 20))) H':=fun H' s'=>Xv m e0 e1 O e3 ▸ q H' s';rw[em];refine⟨_,rfl,_,SqT.of hp,_,rfl,x1,e1,5,rfl,t1,hz.2.1,by decide,fun H3 G=>⟨_,rfl,?_⟩⟩;have aa:=Z.trans (U.trans G);cases h5:Ap 5 e1 with
   |false=>
    rw[h5,yx,yx] at z;exact z H3 aa
   |true=>
    rw[h5,y0a] at z;simp only[y09,if_false];refine⟨_,rfl,_,SqT.of (G _ _ hp),_,rfl,x3,e3,m,rfl,t3.kp G.kp,hz.2.2.2.1,hm,fun H4 s4=>⟨_,rfl,?_⟩⟩;have J:=aa.trans s4;have M:=s4 _ _ (G _ _ hp);cases h6:An m e3 with
    |false=>
     rw[h6,yx] at z;exact z H4 J
    |true=>
     rw[h6,y0a] at z;simp only[y09,if_false];refine⟨_,rfl,_,SqT.of M,_,rfl,_,AN (t0.kp (G.trans s4).kp),?_⟩;split
     ·rename_i h7;rw[if_pos h7] at z;exact⟨_,rfl,_,SqT.of M,_,rfl,x2,O,m,rfl,t2.kp (G.trans s4).kp,hz.2.2.1,hm,fun H5 s5=>z H5 (J.trans s5)⟩
     ·rename_i h7;rw[if_neg h7] at z;refine⟨_,rfl,_,SqT.of M,_,rfl,_,AN (t0.kp (G.trans s4).kp),?_⟩;split
      ·rename_i h8;rw[h8,y0a] at z;exact⟨_,rfl,_,SqT.of M,_,rfl,x2,O,_,_,rfl,t2.kp (G.trans s4).kp,fun H5 s5=>z H5 (J.trans s5)⟩
      ·rename_i h8;rw[Bool.eq_false_iff.mpr h8,yx] at z;exact z H4 J
noncomputable def Xx(H:Hp)(m:Nat)(ds:List Dm)(i:Nat)(ys:List V)(q:St)(H':Hp):Prop:=Same H H'/\(∃t,q=[t,some (.int ((m:Int)+1))])/\ys=((ds.take i).map (D0 m)).map V.bl
theorem HE{n:Nat} (F:Fun K "is_block" "is_block" CO f fd) (b_isinstance:mg "isinstance" = none) (b_len:mg "len" = none) (b_tuple:mg "tuple" = none) (b_all:mg "all" = none) (g_MOST_DEEDS:GC mg "MOST_DEEDS" (.int 6))
  (c_is_deed:Callee P w K mg base "is_deed" ["thing","levels"] (2*n+9) (Oe n)):FnOk P w K mg base CX0 (2*n+10) f fd ["thing","levels"] (FR (n+1)):=by
 refine F.ok UI (fun vs H Q E h=>?_) (fun aa A outer s H vs Q E Z h=>?_)
 ·obtain⟨v,d,m,rfl,_⟩:=h;rfl
 obtain⟨v,d,m,rfl,hd,hz,hm,q⟩:=h;refine⟨_,(A7 (AH (PW.pt (BC (AI Bd (A1 1 rfl UO) A3 (AG _)) (BC (Au (Ah (AV EB UL b_isinstance Bv (A0 (A1 0 rfl Jo) (A0 (DU (v:=V.ty "tuple") UN b_tuple Cl rfl Co Cn) A2)) Bx Bw))) (Br (AI GB (AV B0 UM b_len B1 (A0 (A1 0 rfl Jo) A2) B4 B3) (Ax g_MOST_DEEDS UJ Sj) (AG _)))))) (A8 (AC B7)) AJ)
 (A8 (AC (AV (Et rfl) UK b_all F2 (A0 (BT ["deed","levels"] [none,some 1] rfl (CompS.of (by rfl)) (Cf (A1 0 rfl Jo)) (fun _ _ _ _ _=>(AZ (i:=0) (show List.Nodup (["deed","levels"]:List Str) from by decide+kernel) rfl (Or.inl rfl))) (fun _ _ _ _ _=>Bj) (fun _ _ _ _ _=>(AB c_is_deed Z (by lia) (A0 (AX (i:=0) rfl (by walk_at "vc") T8 ST) (A0 (AX (i:=1) rfl (by walk_at "vc") TU SZ) A2)) rfl TH))) A2) F7 F5)))),?_⟩
 walk_at "rd";split
 ·rename_i h1;have e:m=0:=by lia
  subst e;exact q H (Same.refl _)
 ·rename_i h1;obtain⟨k,rfl⟩:∃k,m=k+1:=⟨m-1,by lia⟩;refine⟨_,_,⟨rfl,rfl⟩,_,Ku hd,?_⟩;cases hd with
  |@tup U xs ds e r=>
   simp only[isT,y09,if_false];refine⟨_,KT (SqT.of e),?_⟩;rw[r.length];have G:∀H',Same H H'->Q (.bl (decide (ds.length<=6)&&ds.all (D0 k))) H':=q;split
   ·rename_i h6;rw[decide_eq_false (by lia),yx] at G;exact G H (Same.refl _)
   ·rename_i h6;rw[decide_eq_true (by lia),y0a] at G;have M:smallA ds:=by rw[AL] at hz; exact hz.1
    refine⟨_,rfl,⟨_,SqT.of e⟩,?_⟩;refine EA (K:=K) (a:=U) (xs:=xs) (Xx H k ds) ⟨Same.refl _,⟨none,rfl⟩,rfl⟩ (by rw[r.length]; exact sm6 (by lia)) ?_ ?_ ?_ ?_
    ·rintro i ys z H' ⟨_,_,rfl⟩;rw[y4,y4,yz];lia
    ·rintro i ys z H' _ ⟨B,_,_⟩;exact SqT.of (B _ _ e)
    ·rintro i ys v z H' J ⟨B,⟨t,rfl⟩,rfl⟩;obtain⟨d,hd,dd⟩:=r.get J;walk_at "rd";refine⟨v,d,k,rfl,dd.kp B.kp,M.get hd,by lia,fun H2 O=>⟨B.trans O,⟨_,rfl⟩,?_⟩⟩;rw[y03,hd,yd,yd];rfl
    ·rintro ys z H' ⟨B,_,rfl⟩ p hp;have et:ds.take xs.length=ds:=by rw[r.length,y0h]
     rw[et];refine⟨_,rfl,ds.map (D0 k),SqL.of A4,?_⟩;have e2:(ds.map (D0 k)).all id=ds.all (D0 k):=by rw[y2o]; rfl
     rw[e2];exact G _ (B.trans (A6 hp _))
  |_=>exact q H (Same.refl _)
noncomputable def BN:Dm->Str
 |.tup (.str x::_)=>x
 |_=>""
noncomputable def ris:Str->List Dm->Bool
 |_,[]=>true
 |b,r::rest=>Aa r&&decide (b.cps.toList<(BN r).cps.toList)&&ris (BN r) rest
noncomputable def CI(d:Dm):Bool:=match d with
 |.tup q=>decide (q.length<=4)&&ris "" q
 |_=>false
theorem HF{d:Dm}(h:Aa d=true):∃(x:Str) (l:Int) (y:Dm),d=.tup [.str x,.int l,y]:=by
 unfold Aa at h;split at h
 ·rename_i x l y;cases x with
  |str z=>exact⟨z,l,y,rfl⟩
  |_=>exact absurd (show false=true by simpa [B6] using h) yg
 ·cases h
noncomputable def CY:List Dm->Bool
 |r::q::rest=>decide ((BN r).cps.toList<(BN q).cps.toList)&&CY (q::rest)
 |_=>true
noncomputable def Kx(d:Dm):Bool:=match d with
 |.tup q=>q.all Aa&&CY q
 |_=>false
theorem Ky:∀{b:Str} {q:List Dm},ris b q=true->∀r∈q,Aa r=true
 |_,[],_,r,h=>by cases h
 |b,x::rest,z,r,h=>by
  rw[ris,y8,y8] at z;rcases List.mem_cons.mp h with rfl|h
  ·exact z.1.1
  ·exact Ky z.2 r h
noncomputable def Du(ds:List Dm):List Bool:=List.zipWith (fun r q=>decide ((BN r).cps.toList<(BN q).cps.toList)) ds ds.tail
theorem Of:∀ds:List Dm,CY ds=(Du ds).all id
 |[]=>rfl
 |[_]=>rfl
 |r::q::rest=>by
  have:=Of (q::rest);rw[CY,this];rfl
theorem Og:∀{b:Str} {ds:List Dm},(∀r∈ds,Aa r=true)->ris b ds=((match ds with|[]=>true|r::_=>decide (b.cps.toList<(BN r).cps.toList))&&CY ds)
 |b,[],_=>rfl
 |b,[r],h=>by
  rw[ris,h r (by simp)];simp[ris,CY]
 |b,r::q::rest,h=>by
  have i:=Og (b:=BN r) (ds:=q::rest) fun x hx=>h x (yb _ hx);rw[ris,h r (by simp),i,CY];simp
theorem Xy{r:Dm}(h:Aa r=true):decide (("" : Str).cps.toList<(BN r).cps.toList)=true:=by
 obtain⟨x,l,y,rfl⟩:=HF h;have hx:Ao x=true:=by
  have h':(B6 (.str x)&&Am (.int l) (-99) 99&&Am y l 99)=true:=h;rw[y8,y8] at h';exact h'.1.1
 have hl:1<=x.length:=by
  unfold Ao at hx;rw[y8,y8] at hx;exact of_decide_eq_true hx.1.1
 show decide (([]:List Nat)<x.cps.toList)=true;rw[decide_eq_true_eq];have:0<x.cps.toList.length:=by rw[y29]; exact hl
 cases hc:x.cps.toList with
 |nil=>rw[hc] at this; cases this
 |cons a l=>exact List.nil_lt_cons a l
theorem Kz(q:List Dm):CI (.tup q)=(Kx (.tup q)&&decide (q.length<=4)):=by
 show(decide (q.length<=4)&&ris "" q)=(q.all Aa&&CY q&&decide (q.length<=4));cases ha:q.all Aa with
 |true=>
  have all:∀r∈q,Aa r=true:=List.all_eq_true.mp ha;rw[Og all];cases q with
  |nil=>rfl
  |cons r rest=>
   dsimp only;rw[Xy (all r (by simp))];cases decide ((r::rest).length<=4)<;>cases CY (r::rest)<;>rfl
 |false=>
  have:ris "" q=false:=by
   cases z:ris "" q with
   |false=>rfl
   |true=>
    have:=List.all_eq_true.mpr (fun r hr'=>Ky z r hr');rw[ha] at this;cases this
  rw[this];cases decide (q.length<=4)<;>rfl
noncomputable def Xz(H:Hp)(z:Addr)(ds:List Dm)(i:Nat)(ys:List V)(q:St)(H':Hp):Prop:=Same H H'/\(∃t,q=[t,some (.ref z)])/\ys=((ds.take i).map Aa).map V.bl
noncomputable def Y0(H:Hp)(ds:List Dm)(i:Nat)(ys:List V)(q:St)(H':Hp):Prop:=Same H H'/\(∃t u,q=[t,u])/\ys=((Du ds).take i).map V.bl
noncomputable def Oh(P:yl)(w:y08)(K:y3)(mg:Str->Option y9)(base:Heap):Sp:=fun vs H Q _=>∃v d q,vs=[v,.ref q]/\Dt H v d/\AL d/\GW P w K mg base 3 q HC/\∀H',Same H H'->Q (.bl (Kx d)) H'
theorem Y1(F:Fun K "are_rising_rows" "are_rising_rows" DI f fd) (b_isinstance:mg "isinstance" = none) (b_tuple:mg "tuple" = none) (b_all:mg "all" = none) (b_zip:mg "zip" = none):FnOk P w K mg base CX0 4 f fd ["thing","is_row"] (Oh P w K mg base):=by
 refine F.ok U5 (fun vs H Q E h=>?_) (fun ap A outer s H vs Q E hr h=>?_)
 ·obtain⟨v,d,fi,rfl,_⟩:=h;rfl
 obtain⟨v,d,fi,rfl,hd,hz,hH,q⟩:=h;refine⟨_,(A7 (AH (PW.pt (BC (Au (Ah (AV EB U6 b_isinstance Bv (A0 (A1 0 rfl Gm) (A0 (DU (v:=V.ty "tuple") U7 b_tuple Cl rfl Co Cn) A2)) Bx Bw))) (Br (Au (Ah (AV (Et rfl) NW b_all F2 (A0 (BT ["row","is_row"] [none,some 1] rfl (CompS.of (by rfl)) (Cf (A1 0 rfl Gm)) (fun _ _ _ _ _=>(AZ (i:=0) (show List.Nodup (["row","is_row"]:List Str) from by decide+kernel) rfl (Or.inl rfl))) (fun _ _ _ _ _=>Bj) (fun _ _ _ _ _=>(Rt (P:=P) (w:=w) (K:=K) (mg:=mg) (base:=base) (i:=1) (k:=3) rfl rfl rfl rfl rfl rfl (by walk_at "vc") hr (by lia) (A0 (AX (i:=0) rfl (by walk_at "vc") NP NC) A2) TL SX))) A2) F7 F5)))))) (A8 (AC B7)) AJ)
 (A8 (AC (AV (Et rfl) NW b_all F2 (A0 (BT ["one","other"] [none,none] rfl (CompS.of (by rfl)) (Rp U8 b_zip (A0 (A1 0 rfl Gm) (A0 (At Rr (A1 0 rfl Gm) (As A3) Ar) A2))) (fun _ _ _ _ _=>(JE (n:=2) (K:=K) rfl rfl (C7 (AZ (i:=0) (show List.Nodup (["one","other"]:List Str) from by decide+kernel) rfl (Or.inl rfl)) (C7 (AZ (i:=1) (show List.Nodup (["one","other"]:List Str) from by decide+kernel) rfl (Or.inl rfl)) Eh)))) (fun _ _ _ _ _=>Bj) (fun _ _ _ _ _=>(BK RQ (A9 (ixK (r:=Be) (K:=K) AD rfl) (AX (i:=0) rfl (by walk_at "vc") TX Sb) A3 (fun _ _=>rfl)) (A9 (ixK (r:=Be) (K:=K) AD rfl) (AX (i:=1) rfl (by walk_at "vc") TY Sc) A3 (fun _ _=>rfl)) (AG _)))) A2) F7 F5)))),?_⟩
 walk_at "rd";refine⟨_,_,⟨rfl,rfl⟩,_,Ku hd,?_⟩;cases hd with
 |@tup pa xs ds e r=>
  simp only[isT,y09,if_false];have Z:=hz;rw[AL] at Z;obtain⟨al,ao⟩:=Z;have aa:xs.length=ds.length:=r.length;refine⟨_,rfl,⟨_,SqT.of e⟩,?_⟩;refine EA (K:=K) (a:=pa) (xs:=xs) (Xz H fi ds) ⟨Same.refl _,⟨none,rfl⟩,rfl⟩ (sm6 (by lia)) ?_ ?_ ?_ ?_
  ·rintro i ys B H' ⟨_,_,rfl⟩;rw[y4,y4,yz];lia
  ·rintro i ys B H' _ ⟨J,_,_⟩;exact SqT.of (J _ _ e)
  ·rintro i ys v B H' ah ⟨J,⟨t,rfl⟩,rfl⟩;obtain⟨d,G,dd⟩:=r.get ah;walk_at "rd";refine⟨HC,hH,v,d,rfl,dd.kp J.kp,al.get G,fun H2 M=>⟨J.trans M,⟨_,rfl⟩,?_⟩⟩;rw[y03,G,yd,yd];rfl
  rintro ys B H1 ⟨J,_,rfl⟩ pl aj;rw[aa,y0h];have O:=J.trans (A6 aj (HO.lst ((ds.map Aa).map V.bl)));have e1:upd H1 pl (HO.lst ((ds.map Aa).map V.bl)) pl=_:=A4;generalize upd H1 pl (HO.lst ((ds.map Aa).map V.bl))=U1 at O e1 |-;refine⟨_,rfl,ds.map Aa,SqL.of e1,?_⟩;have ae:(ds.map Aa).all id=ds.all Aa:=by rw[y2o]; rfl
  have q0:∀H',Same H H'->Q (.bl (ds.all Aa&&CY ds)) H':=q;rw[ae];cases ha:ds.all Aa with
  |false=>
   rw[if_pos rfl];rw[ha,yx] at q0;exact q0 _ O
  |true=>
   rw[if_neg (by decide)];rw[ha,y0a,Of] at q0;have all:∀r∈ds,Aa r=true:=List.all_eq_true.mp ha;have zc:∀(H1:Hp) (b:Addr),Same H H1->H1 b=some (.tup xs.tail)->Bf (ED K pa b) (E4 K 2 (E3 (Bi 0) (E3 (Bi 1) Eg))) Es (tOp Ev (tOp (Be K) (D6 0) (tC (V.int 0))) (tOp (Be K) (D6 1) (tC (V.int 0)))) (fun x H1=>∃p,x=V.ref p/\∃x,SqL K H1 p (List.map V.bl x)/\Q (V.bl (x.all id)) H1) (subσ [none,none] [some (V.ref pa),some (V.ref fi)]) H1:=by
    intro H1 b J eb;have af:(Du ds).length=xs.tail.length:=by
     unfold Du;rw[List.length_zipWith,List.length_tail,List.length_tail,aa];lia
    refine Rs (xs:=xs) (ys:=xs.tail) (by simp) (Y0 H1 ds) ⟨Same.refl _,⟨none,none,rfl⟩,rfl⟩ (sm6 (by rw[List.length_tail]; lia)) ?_ ?_ ?_ ?_
    ·rintro i ys B H' ⟨_,_,rfl⟩;rw[y4,yz];lia
    ·rintro i ys B H' _ ⟨M,_,_⟩;exact⟨SqT.of (M _ _ (J _ _ e)),SqT.of (M _ _ eb)⟩
    ·rintro i zs x y B H' T hx hy ⟨M,⟨t,u,rfl⟩,rfl⟩ hT;have ag:xs[i+1]?=some y:=by rw[List.getElem?_tail] at hy; exact hy
     obtain⟨d,G,dd⟩:=r.get hx;obtain⟨d2,ac,am⟩:=r.get ag;obtain⟨x',l,y',rfl⟩:=HF (all d (yt G));obtain⟨x2,l2,y2,rfl⟩:=HF (all d2 (yt ac));have U:=J.trans (M.trans (A6 hT (HO.tup [x,y])));obtain⟨p,v0,v1,v2,rfl,hp,t0,t1,t2⟩:=BM (dd.kp U.kp);obtain⟨p',w0,w1,w2,rfl,ak,r0,r1,r2⟩:=BM (am.kp U.kp);cases t0;cases r0;walk_at "rd";refine⟨_,SqT.of A4,rfl,_,_,rfl,_,_,rfl,rfl,_,rfl,_,SqT.of hp,_,rfl,_,rfl,_,SqT.of ak,_,rfl,_,rfl,_,rfl,M.trans (A6 hT _),⟨_,_,rfl⟩,?_⟩;have ez:(Du ds)[i]?=some (decide (x'.cps.toList<x2.cps.toList)):=by
      unfold Du;rw[List.getElem?_zipWith,G,List.getElem?_tail,ac];rfl
     rw[y03,ez,yd];rfl
    ·rintro zs B H' ⟨M,_,rfl⟩ p hp;rw[<- af,y0h];exact⟨_,rfl,Du ds,SqL.of A4,q0 _ (J.trans (M.trans (A6 hp _)))⟩
   have e2:=O _ _ e;refine⟨_,rfl,xs,SqT.of e2,?_⟩;cases xs with
   |nil=>exact .inl ⟨⟨rfl,rfl⟩,_,_,⟨rfl,rfl⟩,⟨_,SqT.of e2⟩,⟨_,SqT.of e2⟩,zc _ _ O e2⟩
   |cons x0 xr=>
    refine .inr ⟨fun z=>?_,fun p hp=>?_⟩
    ·have:=z.1;rw[show(some (1:Int))=some ((1:Nat):Int) from rfl,HT.M7,ya] at this;lia
    ·have ec:BS (x0::xr) (some 1) none=xr:=by
      unfold BS;rw[show(some (1:Int))=some ((1:Nat):Int) from rfl,HT.M7,HT.Qf,ya,show min 1 (xr.length+1)=1 by lia];simp
     rw[ec];have U:=O.trans (A6 hp (HO.tup xr));exact⟨_,_,⟨rfl,rfl⟩,⟨_,SqT.of (U _ _ e)⟩,⟨_,SqT.of A4⟩,zc _ _ U A4⟩
 |_=>exact q H (Same.refl _)
noncomputable def Oi:Sp:=fun vs H Q _=>∃v d,vs=[v]/\Dt H v d/\AL d/\∀H',Same H H'->Q (.bl (CI d)) H'
theorem Y3{B:Addr} (F:Fun K "are_ins" "are_ins" DJ f fd) (b_len:mg "len" = none) (g_MOST_INS:GC mg "MOST_INS" (.int 4)) (g_is_in:GC mg "is_in" (.ref B)) (M:GW P w K mg base 3 B HC) (c_are_rising_rows:Callee P w K mg base "are_rising_rows" ["thing","is_row"] 4 (Oh P w K mg base)):FnOk P w K mg base CX0 5 f fd ["thing"] Oi:=by
 refine F.ok U9 (fun vs H Q E h=>?_) (fun U A outer s H vs Q E J h=>?_)
 ·obtain⟨v,d,rfl,_⟩:=h;rfl
 obtain⟨v,d,rfl,hd,hz,q⟩:=h;refine⟨_,(A8 (AC (BP (AB c_are_rising_rows J (by lia) (A0 (A1 0 rfl NX) (A0 (Ax g_is_in UC TK) A2)) UB T4) (Bs (BK Ic (AV B0 UD b_len B1 (A0 (A1 0 rfl NX) A2) B4 B3) (Ax g_MOST_INS UA Sl) (AG _)))))),?_⟩;walk_at "rd";refine⟨v,d,B,rfl,hd,hz,M,fun H1 z=>⟨_,rfl,?_⟩⟩;cases hk:Kx d with
 |false=>
  rw[if_neg (by decide)];have e:CI d=false:=by
   cases d with
   |tup G=>rw[Kz,hk]; rfl
   |_=>rfl
  rw[e] at q;exact q H1 z
 |true=>
  rw[if_pos rfl];cases hd with
  |@tup Z xs ds e r=>
   refine⟨_,KT (SqT.of (z _ _ e)),?_⟩;rw[Kz,hk,y0a] at q;rw[r.length];have O:decide (((ds.length:Nat):Int)<=4)=decide (ds.length<=4):=by
    by_cases h:ds.length<=4
    ·rw[decide_eq_true h,decide_eq_true (by lia)]
    ·rw[decide_eq_false h,decide_eq_false (by lia)]
   rw[O];exact q H1 z
  |_=>cases hk
noncomputable def D.term:D->T
 |.set _ t=>t
 |.ite t _ _=>t
 |.whl t _ _=>t
noncomputable def Oj:Sp:=fun vs H Q _=>∃v e,vs=[v]/\Dt H v (D.enc e)/\∀x,Dt H x e.term.enc->Q x H
theorem Y4(F:Fun K "term_of" "term_of" Gn f fd):FnOk P w K mg base CX0 1 f fd ["deed"] Oj:=by
 refine F.ok Uk (fun vs H Q E h=>?_) (fun aa A outer s H vs Q E hr h=>?_)
 ·obtain⟨v,d,rfl,_⟩:=h;rfl
 obtain⟨v,e,rfl,hd,q⟩:=h;refine⟨_,(A7 (AH (AI (gEq hr.units) (A9 AD (A1 0 rfl Jt) A3 (fun _ _=>rfl)) AA (AG _)) (A8 (AC (A9 AD (A1 0 rfl Jt) A3 (fun _ _=>rfl)))) AJ)
 (A8 (AC (A9 AD (A1 0 rfl Jt) A3 (fun _ _=>rfl))))),?_⟩
 walk_at "rd";cases e with
 |set x t=>
  rw[D.enc] at hd;obtain⟨p,O,M,J,rfl,z,t0,B,G⟩:=BM hd;refine⟨_,rfl,_,SqT.of z,_,rfl,_,AN t0,?_⟩;rw[if_pos (show eqS (.str "set") "set" = true from by decide+kernel)];exact⟨_,rfl,_,SqT.of z,_,rfl,q _ G⟩
 |ite t b c=>
  rw[D.enc] at hd;obtain⟨p,O,M,J,U,rfl,z,t0,B,G,Z⟩:=CH hd;refine⟨_,rfl,_,SqT.of z,_,rfl,_,AN t0,?_⟩;rw[if_neg (show ¬ eqS (.str "if") "set" = true from by decide+kernel)];exact⟨_,rfl,_,SqT.of z,_,rfl,q _ B⟩
 |whl t m b=>
  rw[D.enc] at hd;obtain⟨p,O,M,J,U,rfl,z,t0,B,G,Z⟩:=CH hd;refine⟨_,rfl,_,SqT.of z,_,rfl,_,AN t0,?_⟩;rw[if_neg (show ¬ eqS (.str "while") "set" = true from by decide+kernel)];exact⟨_,rfl,_,SqT.of z,_,rfl,q _ B⟩
noncomputable def D.isIte:D->Bool
 |.ite _ _ _=>true
 |_=>false
noncomputable def D.blocks:D->List (Int×List D)
 |.set _ _=>[]
 |.ite _ b c=>[(1,b),(2,c)]
 |.whl _ _ b=>[(1,b)]
noncomputable def Ol(p:Int×List D):Dm:=.tup [.int p.1,.tup (AM p.2)]
noncomputable def Om:Sp:=fun vs H Q _=>∃v e,vs=[v]/\Dt H v (D.enc e)/\∀(r:Addr) (H':Hp) (xs:List V),Same H H'->H' r=some (.lst xs)->DtA H' xs (e.blocks.map Ol)->Q (.ref r) H'
theorem Y5(F:Fun K "blocks_of" "blocks_of" Go f fd):FnOk P w K mg base CX0 1 f fd ["deed"] Om:=by
 refine F.ok Ul (fun vs H Q E h=>?_) (fun aa A outer s H vs Q E hr h=>?_)
 ·obtain⟨v,d,rfl,_⟩:=h;rfl
 obtain⟨v,e,rfl,hd,q⟩:=h;refine⟨_,(A7 (AH (AI (gEq hr.units) (A9 AD (A1 0 rfl FD) A3 (fun _ _=>rfl)) AA (AG _)) (A8 (AC (AT (A0 (Ac (A0 A3 (A0 (A9 AD (A1 0 rfl FD) A3 (fun _ _=>rfl)) A2))) (A0 (Ac (A0 A3 (A0 (A9 AD (A1 0 rfl FD) A3 (fun _ _=>rfl)) A2))) A2))))) AJ)
 (A7 (AH (AI (gEq hr.units) (A9 AD (A1 0 rfl FD) A3 (fun _ _=>rfl)) AA (AG _)) (A8 (AC (AT (A0 (Ac (A0 A3 (A0 (A9 AD (A1 0 rfl FD) A3 (fun _ _=>rfl)) A2))) A2)))) AJ)
 (A8 (AC (AT A2))))),?_⟩
 walk_at "rd";cases e with
 |set x t=>
  rw[D.enc] at hd;obtain⟨p,x0,x1,O,rfl,z,t0,t1,Z⟩:=BM hd;refine⟨_,rfl,_,SqT.of z,_,rfl,_,AN t0,?_⟩;rw[if_neg (show ¬ eqS (.str "set") "if" = true from by decide+kernel)];refine⟨_,rfl,_,SqT.of z,_,rfl,_,AN t0,?_⟩;rw[if_neg (show ¬ eqS (.str "set") "while" = true from by decide+kernel)];exact⟨y0i _,fun r hr'=>q r _ [] (A6 hr' _) A4 .nil⟩
 |ite t b c=>
  rw[D.enc] at hd;obtain⟨p,x0,x1,O,M,rfl,z,t0,t1,Z,U⟩:=CH hd;refine⟨_,rfl,_,SqT.of z,_,rfl,_,AN t0,?_⟩;rw[if_pos (show eqS (.str "if") "if" = true from by decide+kernel)];refine⟨_,rfl,_,SqT.of z,_,rfl,zl 2 (by decide),fun p1 h1=>?_⟩;have G:=A6 h1 (HO.tup [V.int 1,O]);refine⟨_,rfl,_,SqT.of (G _ _ z),_,rfl,zl 2 (by decide),fun p2 h2=>⟨zl 2 (by decide),fun r hr'=>?_⟩⟩;have J:=A6 h2 (HO.tup [V.int 2,M]);have B:=A6 hr' (HO.lst [V.ref p1,V.ref p2]);refine q r _ _ (G.trans (J.trans B)) A4 (.cons (.tup (B _ _ (J _ _ A4)) (.cons (.int 1) (.cons (Z.kp (G.trans (J.trans B)).kp) .nil))) (.cons (.tup (B _ _ A4) (.cons (.int 2) (.cons (U.kp (G.trans (J.trans B)).kp) .nil))) .nil))
 |whl t m b=>
  rw[D.enc] at hd;obtain⟨p,x0,x1,O,M,rfl,z,t0,t1,Z,U⟩:=CH hd;refine⟨_,rfl,_,SqT.of z,_,rfl,_,AN t0,?_⟩;rw[if_neg (show ¬ eqS (.str "while") "if" = true from by decide+kernel)];refine⟨_,rfl,_,SqT.of z,_,rfl,_,AN t0,?_⟩;rw[if_pos (show eqS (.str "while") "while" = true from by decide+kernel)];refine⟨_,rfl,_,SqT.of z,_,rfl,zl 2 (by decide),fun p1 h1=>⟨zl 1 (by decide),fun r hr'=>?_⟩⟩;have G:=A6 h1 (HO.tup [V.int 1,M]);have B:=A6 hr' (HO.lst [V.ref p1]);exact q r _ _ (G.trans B) A4 (.cons (.tup (B _ _ A4) (.cons (.int 1) (.cons (U.kp (G.trans B).kp) .nil))) .nil)
noncomputable def T.deep:T->Nat
 |.op _ a b=>max a.deep b.deep+1
 |_=>1
theorem Wd.ne(w:Wd):eqS (.str w.str) "num" = false/\eqS (.str w.str) "name" = false:=by cases w<;>decide+kernel
noncomputable def EX(n:Nat):Sp:=fun vs H Q _=>∃(v:V) (t:T) (k:Addr) (p:List Str),vs=[v,.ref k]/\Dt H v t.enc/\H k=some (.tup (p.map V.str))/\t.deep<=n/\Q (.bl (t.knows p)) H
theorem Y6{n:Nat} (F:Fun K "has_known_names" "has_known_names" Dc f fd) (c_has_known_names:Callee P w K mg base "has_known_names" ["term","known"] (n+1) (EX n)):FnOk P w K mg base CX0 (n+2) f fd ["term","known"] (EX (n+1)):=by
 refine F.ok Uj (fun vs H Q E h=>?_) (fun aa A outer s H vs Q E B h=>?_)
 ·obtain⟨v,t,k,p,rfl,_⟩:=h;rfl
 obtain⟨v,t,k,p,rfl,hd,hk,hn,q⟩:=h;refine⟨_,(A7 (AH (AI (gEq B.units) (A9 AD (A1 0 rfl FC) A3 (fun _ _=>rfl)) AA (AG _)) (A8 (AC B7)) AJ)
 (A7 (AH (AI (gEq B.units) (A9 AD (A1 0 rfl FC) A3 (fun _ _=>rfl)) AA (AG _)) (A8 (AC (BK (gIn B.units) (A9 AD (A1 0 rfl FC) A3 (fun _ _=>rfl)) (A1 1 rfl Js) (by with_unfolding_all rfl)))) AJ)
 (A8 (AC (BP (AB c_has_known_names B (by lia) (A0 (A9 AD (A1 0 rfl FC) A3 (fun _ _=>rfl)) (A0 (A1 1 rfl Js) A2)) Nk Jg) (Bs (AB c_has_known_names B (by lia) (A0 (A9 AD (A1 0 rfl FC) A3 (fun _ _=>rfl)) (A0 (A1 1 rfl Js) A2)) Nk Jg))))))),?_⟩
 walk_at "rd";cases t with
 |num i=>
  rw[T.enc] at hd;obtain⟨a,U,O,rfl,z,t0,J⟩:=CG hd;refine⟨_,rfl,_,SqT.of z,_,rfl,_,AN t0,?_⟩;rw[if_pos (show eqS (.str "num") "num" = true from by decide+kernel)];exact q
 |nm x=>
  rw[T.enc] at hd;obtain⟨a,U,O,rfl,z,t0,J⟩:=CG hd;refine⟨_,rfl,_,SqT.of z,_,rfl,_,AN t0,?_⟩;rw[if_neg (show ¬ eqS (.str "name") "num" = true from by decide+kernel)];refine⟨_,rfl,_,SqT.of z,_,rfl,_,AN t0,?_⟩;rw[if_pos (show eqS (.str "name") "name" = true from by decide+kernel)];cases J;refine⟨_,rfl,_,SqT.of z,_,rfl,inV (.str x) (p.map V.str),.inl ⟨k,_,rfl,.inr (SqT.of hk),rfl,CW p,rfl⟩,?_⟩;rw[Cz];exact q
 |op w a b=>
  rw[T.enc] at hd;obtain⟨ad,U,O,Z,rfl,z,t0,J,t2⟩:=BM hd;refine⟨_,rfl,_,SqT.of z,_,rfl,_,AN t0,?_⟩;rw[if_neg (by rw[w.ne.1]; decide)];refine⟨_,rfl,_,SqT.of z,_,rfl,_,AN t0,?_⟩;rw[if_neg (by rw[w.ne.2]; decide)];have G:a.deep<=n/\b.deep<=n:=by
   simp only[T.deep] at hn;lia
  have M:Q (.bl (a.knows p&&b.knows p)) H:=q;refine⟨_,rfl,_,SqT.of z,_,rfl,O,a,k,p,rfl,J,hk,G.1,_,rfl,?_⟩;cases ha:a.knows p with
  |true=>
   rw[ha,y0a] at M;exact⟨_,rfl,_,SqT.of z,_,rfl,Z,b,k,p,rfl,t2,hk,G.2,M⟩
  |false=>
   rw[ha,yx] at M;exact M
mutual
noncomputable def D.sz:D->Nat
 |.set _ _=>1
 |.ite _ b c=>szB b+szB c
 |.whl _ _ b=>szB b
noncomputable def szB:List D->Nat
 |[]=>0
 |d::r=>d.sz+szB r
end
mutual
noncomputable def D.dp:D->Nat
 |.set _ _=>0
 |.ite _ b c=>max (dpB b) (dpB c)+1
 |.whl _ _ b=>dpB b+1
noncomputable def dpB:List D->Nat
 |[]=>0
 |d::r=>max d.dp (dpB r)
end
mutual
noncomputable def D.tm:D->Nat
 |.set _ t=>t.deep
 |.ite t b c=>max t.deep (max (tmB b) (tmB c))
 |.whl t _ b=>max t.deep (tmB b)
noncomputable def tmB:List D->Nat
 |[]=>0
 |d::r=>max d.tm (tmB r)
end
mutual
theorem On{p q:List Str}:∀{e:D},kbD p e=some q->q.length<=p.length+e.sz
 |.set x t,h=>by
  rw[kbD] at h;split at h
  ·cases h; simp[D.sz]
  ·cases h
 |.ite t b c,h=>by
  rw[kbD] at h;split at h
  ·cases hb:kbB p b with
   |none=>rw[hb] at h; cases h
   |some z=>
    cases hc:kbB p c with
    |none=>rw[hb,hc] at h; cases h
    |some B=>
     rw[hb,hc] at h;cases h;have:=L4 hb;have h2:=y1m (fun x=>B.contains x) z;simp only[D.sz];lia
  ·cases h
 |.whl t m b,h=>by
  rw[kbD] at h;split at h
  ·cases hb:kbB p b with
   |none=>rw[hb] at h; cases h
   |some z=>rw[hb] at h; cases h; lia
  ·cases h
theorem L4{p q:List Str}:∀{b:List D},kbB p b=some q->q.length<=p.length+szB b
 |[],h=>by rw[kbB] at h; cases h; lia
 |d::r,h=>by
  rw[kbB] at h;cases hd:kbD p d with
  |none=>rw[hd] at h; cases h
  |some z=>
   rw[hd] at h;have h1:=On hd;have h2:=L4 h;simp only[szB];lia
end
noncomputable def Res(H:Hp)(y:V)(o:Option (List Str)):Prop:=match o with
 |none=>y=.non
 |some q=>∃r,y=.ref r/\H r=some (.tup (q.map V.str))
theorem Res.kp{H H':Hp}{y:V}{o:Option (List Str)}(h:Res H y o)(k:Kp H H'):Res H' y o:=by
 cases o with
 |none=>exact h
 |some q=>obtain⟨r,e,z⟩:=h; exact⟨r,e,k.t _ _ z⟩
noncomputable def Oo(n:Nat):Sp:=fun vs H Q _=>∃(v:V) (e:D) (k:Addr) (p:List Str),vs=[v,.ref k]/\Dt H v e.enc/\H k=some (.tup (p.map V.str))/\e.dp<=n/\e.tm<=5/\p.length+e.sz<=900/\∀(y:V) (H':Hp),Same H H'->Res H' y (kbD p e)->Q y H'
noncomputable def FS(n:Nat):Sp:=fun vs H Q _=>∃(v:V) (b:List D) (k:Addr) (p:List Str),vs=[v,.ref k]/\Dt H v (.tup (AM b))/\H k=some (.tup (p.map V.str))/\dpB b<n/\tmB b<=5/\p.length+szB b<=900/\∀(y:V) (H':Hp),Same H H'->Res H' y (kbB p b)->Q y H'
noncomputable def Y7(H:Hp)(B:Addr)(F:List Str)(b:List D)(i:Nat)(σ:St)(z:Hp):Prop:=Same H z/\∃(q:Addr) (p:List Str) (t:Option V),σ=[some (.ref B),some (.ref q),t]/\z q=some (.tup (p.map V.str))/\kbB F b=kbB p (b.drop i)/\p.length+szB (b.drop i)<=900
theorem L5{b:List D}:∀{i:Nat} {d:Dm},(AM b)[i]?=some d->∃e,b[i]?=some e/\d=e.enc:=by
 induction b with
 |nil=>intro i d h; simp[AM] at h
 |cons e r q=>
  intro i d h;rw[AM] at h;cases i with
  |zero=>simp at h; exact⟨e,rfl,h.symm⟩
  |succ i=>simp at h; obtain⟨z,h1,h2⟩:=q h; exact⟨z,by simpa using h1,h2⟩
theorem Y8{b:List D}{e:D}(h:e∈b):e.dp<=dpB b/\e.tm<=tmB b:=by
 induction b with
 |nil=>cases h
 |cons d r q=>
  simp only[dpB,tmB];rcases List.mem_cons.mp h with rfl|h
  ·lia
  ·have:=q h;lia
theorem HG{n:Nat} (F:Fun K "known_behind_block" "known_behind_block" Cs f fd) (c_known_behind_deed:Callee P w K mg base "known_behind_deed" ["deed","known"] (2*n+9) (Oo n)):FnOk P w K mg base CX0 (2*n+10) f fd ["block","known"] (FS (n+1)):=by
 refine F.ok sc_known_behind_block (fun vs H Q E h=>?_) (fun am A outer s H vs Q E hr h=>?_)
 ·obtain⟨v,b,k,p,rfl,_⟩:=h;rfl
 obtain⟨v,b,k,p,rfl,hd,hk,al,ak,ag,q⟩:=h;refine⟨_,(A7 (D7 y1e rfl (Cf (A1 0 rfl Ub)) (AZ (i:=2) sc_known_behind_block.nd rfl UZ)
 (A7 (AK (i:=1) sc_known_behind_block.nd rfl Ua (AB c_known_behind_deed hr (by lia) (A0 (A1 2 rfl Uc) (A0 (A1 1 rfl Jq) A2)) UY TQ) (AF rfl))
 (A8 (AH (AI MW (A1 1 rfl Jq) Cd (AG _)) (A8 (AC Cd)) AJ))))
 (A8 (AC (A1 1 rfl Jq)))),?_⟩
 walk_at "rd";obtain⟨pb,xs,rfl,aa,ac⟩:=hd.tupI;have ae:xs.length=b.length:=by rw[ac.length,Cw]
 refine⟨_,rfl,⟨_,SqT.of aa⟩,?_⟩;refine IZ (K:=K) (a:=pb) (xs:=xs) (Y7 H pb p b) ⟨Same.refl _,k,p,none,rfl,hk,rfl,ag⟩ ?_ ?_ ?_
 ·rintro i σ H' _ ⟨M,_⟩;exact SqT.of (M _ _ aa)
 ·rintro i x σ H' af ⟨M,kc,p1,t,rfl,U,B,O⟩;obtain⟨d,hd,dd⟩:=ac.get af;obtain⟨e,he,rfl⟩:=L5 hd;have Z:b.drop i=e::b.drop (i+1):=by
   have hi:i<b.length:=(List.getElem?_eq_some_iff.mp he).1;have ah:b[i]=e:=(List.getElem?_eq_some_iff.mp he).2;rw[List.drop_eq_getElem_cons hi,ah]
  rw[Z] at B O;simp only[szB] at O;have aj:=Y8 (yt he);walk_at "rd";refine⟨x,e,kc,p1,rfl,dd.kp M.kp,U,by lia,by lia,by lia,fun y H2 s2 G=>?_⟩;walk_at "rd";cases J:kbD p1 e with
  |none=>
   rw[J] at G;have hy:y=.non:=G;subst hy;simp only[if_true];rw[kbB,J] at B;exact q _ _ (M.trans s2) (by rw[B]; rfl)
  |some q1=>
   rw[J] at G;obtain⟨r,rfl,hr'⟩:=G;rw[kbB,J] at B;have hl:=On J;rw[if_neg (fun z=>by cases z)];exact⟨M.trans s2,r,q1,_,rfl,hr',B,by lia⟩
 ·rintro σ H' ⟨M,kc,p1,t,rfl,U,B,O⟩;walk_at "rd";rw[ae,List.drop_length,kbB] at B;exact q _ _ M (by rw[B]; exact⟨kc,rfl,U⟩)
theorem Y9{k:Nat}:FnOk P w K mg base CX0 k f fd ["block","known"] (FS 0):=by
 have q:∀vs H Q E,¬ FS 0 vs H Q E:=fun vs H Q E h=>by
  obtain⟨v,b,k,p,_,_,_,h1,_⟩:=h;lia
 exact⟨fun vs H Q E h=>absurd h (q vs H Q E),fun A outer s H args us vs Q E _ _ _ _ h=>absurd h (q vs H Q E)⟩
noncomputable def Bo(p:List Str)(e:D):List (Option (List Str)):=e.blocks.map fun x=>kbB p x.2
inductive ResA (H:Hp):List V->List (Option (List Str))->Prop where
 |nil:ResA H [] []
 |cons {y:V} {ys:List V} {o:Option (List Str)} {os:List (Option (List Str))}:Res H y o->ResA H ys os->ResA H (y::ys) (o::os)
theorem ResA.kp{H H':Hp}(k:Kp H H'):∀{ys:List V} {os:List (Option (List Str))},ResA H ys os->ResA H' ys os
 |_,_,.nil=>.nil
 |_,_,.cons r t=>.cons (r.kp k) (ResA.kp k t)
theorem ResA.snoc{H:Hp}{y:V}{o:Option (List Str)}(h:Res H y o):∀{ys:List V} {os:List (Option (List Str))},ResA H ys os->ResA H (ys++[y]) (os++[o])
 |_,_,.nil=>.cons h .nil
 |_,_,.cons r t=>.cons r (ResA.snoc h t)
theorem ResA.length{H:Hp}:∀{ys:List V} {os:List (Option (List Str))},ResA H ys os->ys.length=os.length
 |_,_,.nil=>rfl
 |_,_,.cons _ t=>by rw[ya,ya,ResA.length t]
theorem ResA.mem{H:Hp}:∀{ys:List V} {os:List (Option (List Str))},ResA H ys os->(∀v∈ys,v=.non\/∃a zs,v=.ref a/\SqT K H a zs)/\ys.any isN=os.any Option.isNone
 |_,_,.nil=>⟨fun v B=>(by cases B),rfl⟩
 |y::ys,o::os,.cons r t=>by
  obtain⟨h1,h2⟩:=ResA.mem t;cases o with
  |none=>
   have e:y=.non:=r;subst e;exact⟨fun v B=>(List.mem_cons.mp B).elim (fun z=>.inl z) (h1 v),by rw[y0k,y0k,h2]; rfl⟩
  |some q=>
   obtain⟨a,rfl,ha⟩:=r;exact⟨fun v B=>(List.mem_cons.mp B).elim (fun z=>.inr ⟨a,_,z,SqT.of ha⟩) (h1 v),by rw[y0k,y0k,h2]; rfl⟩
noncomputable def YA(H:Hp)(z:Addr)(p:List Str)(e:D)(i:Nat)(ys:List V)(q:St)(H':Hp):Prop:=Same H H'/\(∃t u,q=[t,u,some (.ref z)])/\ResA H' ys ((Bo p e).take i)
noncomputable def YB(H:Hp)(F:Addr)(B z:List Str)(i:Nat)(ys:List V)(q:St)(H':Hp):Prop:=H'=H/\(∃t,q=[t,some (.ref F)])/\ys=((B.take i).filter fun x=>z.contains x).map V.str
theorem YC{e:D}{x:Int×List D}(h:x∈e.blocks):dpB x.2<e.dp/\tmB x.2<=e.tm/\szB x.2<=e.sz:=by
 cases e with
 |set y t=>cases h
 |ite t b c=>
  simp only[D.blocks,yu,yo,or_false] at h;simp only[D.dp,D.tm,D.sz];rcases h with rfl|rfl<;>(dsimp only; lia)
 |whl t m b=>
  simp only[D.blocks,yu,yo,or_false] at h;simp only[D.dp,D.tm,D.sz];subst h;dsimp only;lia
theorem YD(e:D):e.term.deep<=e.tm:=by
 cases e<;>simp only[D.term,D.tm]<;>lia
theorem HH{n:Nat} (F:Fun K "known_behind_deed" "known_behind_deed" C1 f fd) (b_tuple:mg "tuple" = none) (c_has_known_names:Callee P w K mg base "has_known_names" ["term","known"] 6 (EX 5)) (c_term_of:Callee P w K mg base "term_of" ["deed"] 1 Oj)
  (c_blocks_of:Callee P w K mg base "blocks_of" ["deed"] 1 Om) (c_known_behind_block:Callee P w K mg base "known_behind_block" ["block","known"] (2*n+8) (FS n)):FnOk P w K mg base CX0 (2*n+9) f fd ["deed","known"] (Oo n):=by
 refine F.ok sc_known_behind_deed (fun vs H Q E h=>?_) (fun aD A outer s H vs Q E hr h=>?_)
 ·obtain⟨v,b,k,p,rfl,_⟩:=h;rfl
 obtain⟨v,e,k,p,rfl,hd,hk,aB,ao,ah,q⟩:=h;refine⟨_,(A7 (AH (Au (Ah (AB c_has_known_names hr (by lia) (A0 (AB c_term_of hr (by lia) (A0 (A1 0 rfl FA) A2) Ug Ta) (A0 (A1 1 rfl Jr) A2)) Uf Jg))) (A8 (AC Cd)) AJ)
 (A7 (AH (AI (gEq hr.units) (A9 AD (A1 0 rfl FA) A3 (fun _ _=>rfl)) AA (AG _)) (A8 (AC (A5 MM (A1 1 rfl Jr) (Ac (A0 (A9 AD (A1 0 rfl FA) A3 (fun _ _=>rfl)) A2))))) AJ)
 (A7 (AK (i:=2) sc_known_behind_deed.nd rfl Ui (BT ["number","block","known"] [none,none,some 1] rfl (CompS.of (by rfl)) (DV (AB c_blocks_of hr (by lia) (A0 (A1 0 rfl FA) A2) Ue T6)) (fun _ _ _ _ _=>(JE (n:=2) (K:=K) rfl rfl (C7 (AZ (i:=0) (show List.Nodup (["number","block","known"]:List Str) from by decide+kernel) rfl (Or.inl rfl)) (C7 (AZ (i:=1) (show List.Nodup (["number","block","known"]:List Str) from by decide+kernel) rfl (Or.inl rfl)) Eh)))) (fun _ _ _ _ _=>Bj) (fun _ _ _ _ _=>(AB c_known_behind_block hr (by lia) (A0 (AX (i:=1) rfl (by walk_at "vc") T5 SS) (A0 (AX (i:=2) rfl (by walk_at "vc") TN SY) A2)) rfl NM))) (MY Ud))
 (A7 (AH (AI (gIn hr.units) Cd (A1 2 rfl Nj) (by with_unfolding_all rfl)) (A8 (AC Cd)) AJ)
 (A7 (AH (AI (gEq hr.units) (A9 AD (A1 0 rfl FA) A3 (fun _ _=>rfl)) AA (AG _)) (A8 (AC (BL E8 Uh b_tuple Cl (A0 (BT ["name","ends"] [none,some 2] rfl (CompS.of (by rfl)) (Cf (A9 Ad (A1 2 rfl Nj) A3 (fun _ _=>rfl))) (fun _ _ _ _ _=>(AZ (i:=0) (show List.Nodup (["name","ends"]:List Str) from by decide+kernel) rfl (Or.inl rfl))) (fun _ _ _ _ _=>(J0 (AI (opK (r:=qIn) (K:=K) (gIn hr.units) rfl) (AX (i:=0) rfl (by walk_at "vc") Jj Jd) (A9 (ixK (r:=E7) (K:=K) Ad rfl) (AX (i:=1) rfl (by walk_at "vc") TC SV) A3 (fun _ _=>rfl)) (by with_unfolding_all rfl)))) (fun _ _ _ _ _=>(AX (i:=0) rfl (by walk_at "vc") Jj Jd))) A2) Co Cn))) AJ)
 (A8 (AC (A1 1 rfl Jr)))))))),?_⟩
 walk_at "rd";refine⟨v,e,rfl,hd,fun x dx=>?_⟩;refine⟨x,e.term,k,p,rfl,dx,hk,y0d (YD e) ao,_,rfl,?_⟩;cases B:e.term.knows p with
 |false=>
  simp only[if_true];refine q _ _ (Same.refl _) ?_;have:kbD p e=none:=by
   cases e<;>(rw[kbD]; simp only[D.term] at B; rw[B]; rfl)
  rw[this]; rfl
 |true=>
  simp only[y09,if_false];by_cases aa:∃x t,e=.set x t
  ·obtain⟨x',t',rfl⟩:=aa;have ac:kbD p (.set x' t')=some (p++[x']):=by
    rw[kbD]; simp only[D.term] at B; rw[B]; rfl
   rw[ac] at q;rw[D.enc] at hd;simp only[D.sz] at ah;obtain⟨pv,x0,x1,x2,rfl,hp,t0,t1,t2⟩:=BM hd;cases t1;refine⟨_,rfl,_,SqT.of hp,_,rfl,_,AN t0,?_⟩;rw[if_pos (show eqS (.str "set") "set" = true from by decide+kernel)];refine⟨_,rfl,_,SqT.of hp,_,rfl,zl 1 (by decide),fun r hr'=>?_⟩;have s1:=A6 hr' (HO.tup [V.str x']);refine⟨_,SqT.of (s1 _ _ hk),_,SqT.of A4,by rw[y4,y01]; exact zl _ (by lia),fun h=>?_,fun _ h=>absurd h (by simp),fun _ _ r2 h2=>?_⟩
   ·have au:p=[]:=by simpa using h
    subst au;exact q _ _ s1 ⟨r,rfl,A4⟩
   ·refine q _ _ (s1.trans (A6 h2 _)) ⟨r2,rfl,?_⟩;rw[A4,yd]; rfl
  ·have av:∃(pv:Addr) (xs:List V) (x0:V) (w0:Str),v=.ref pv/\H pv=some (.tup xs)/\atI xs 0=some x0/\Dt H x0 (.str w0)/\eqS (.str w0) "set" = false/\eqS (.str w0) "if" = e.isIte:=by
    cases e with
    |set x t=>exact absurd ⟨x,t,rfl⟩ aa
    |ite t b c=>
     rw[D.enc] at hd;obtain⟨pv,x0,x1,x2,x3,rfl,hp,t0,_⟩:=CH hd;exact⟨pv,_,x0,"if",rfl,hp,rfl,t0,by decide+kernel,(show eqS (.str "if") "if" = true from by decide+kernel)⟩
    |whl t m b=>
     rw[D.enc] at hd;obtain⟨pv,x0,x1,x2,x3,rfl,hp,t0,_⟩:=CH hd;exact⟨pv,_,x0,"while",rfl,hp,rfl,t0,by decide+kernel,(show eqS (.str "while") "if" = false from by decide+kernel)⟩
   obtain⟨pv,vs,x0,w0,rfl,hp,af,t0,w1,w2⟩:=av;refine⟨_,rfl,_,SqT.of hp,_,af,_,AN t0,?_⟩;rw[if_neg (by rw[w1]; decide)];refine⟨_,e,rfl,hd,fun r H1 xs s1 ak am=>⟨_,rfl,⟨_,SqL.of ak⟩,?_⟩⟩;have ag:xs.length=e.blocks.length:=by rw[am.length,y4]
   have aC:e.blocks.length<=2:=by cases e<;>simp[D.blocks]
   refine DY (K:=K) (a:=r) (xs:=xs) (YA H1 k p e) ⟨Same.refl _,⟨none,none,rfl⟩,by rw[List.take_zero]; exact .nil⟩ (by rw[ag]; exact C9 (by lia)) ?_ ?_ ?_ ?_
   ·rintro i ys G H' ⟨_,_,Z⟩;rw[Z.length,yz];lia
   ·rintro i ys G H' _ ⟨s2,_,_⟩;exact SqL.of (s2 _ _ ak)
   ·rintro i ys v' G H' J ⟨s2,⟨t,u,rfl⟩,Z⟩;obtain⟨d,ae,dd⟩:=am.get J;rw[y0b] at ae;cases hb:e.blocks[i]? with
    |none=>rw[hb] at ae; cases ae
    |some bx=>
     rw[hb] at ae;have ed:Ol bx=d:=by simpa using ae
     subst ed;obtain⟨pp,y0,y1,rfl,ap,u0,u1⟩:=CG (dd.kp s2.kp);have az:=YC (yt hb);walk_at "rd";refine⟨_,SqT.of ap,rfl,_,_,rfl,_,_,rfl,rfl,?_⟩;refine⟨y1,bx.2,k,p,rfl,u1,s2 _ _ (s1 _ _ hk),by lia,by lia,by lia,fun y H3 s3 aj=>⟨s2.trans s3,⟨_,_,rfl⟩,?_⟩⟩;have et:(Bo p e).take (i+1)=(Bo p e).take i++[kbB p bx.2]:=by
      rw[y03];unfold Bo;rw[y0b,hb]; rfl
     rw[et];exact(Z.kp s3.kp).snoc aj
   ·rintro ys G H' ⟨s2,_,Z⟩ pe aq;have et:(Bo p e).take xs.length=Bo p e:=by
     rw[ag];exact y20 (by unfold Bo; rw[y4]; lia)
    rw[et] at Z;have s3:=A6 aq (HO.lst ys);have z:=s1.trans (s2.trans s3);have O:(upd H' pe (HO.lst ys)) pe=some (.lst ys):=A4;have M:=Z.kp s3.kp;generalize upd H' pe (HO.lst ys)=U at s3 z O M |-;obtain⟨ay,ax⟩:=ResA.mem (K:=K) M;refine⟨_,.inr (.inr ⟨pe,ys,rfl,rfl,SqL.of O,ay,rfl⟩),?_⟩;rw[ax];cases e with
    |set x t=>exact absurd ⟨x,t,rfl⟩ aa
    |whl t m b=>
     have ac:kbD p (.whl t m b)=match kbB p b with|some _=>some p|none=>none:=by
      rw[kbD]; simp only[D.term] at B; rw[B]; rfl
     rw[ac] at q;cases hb:kbB p b with
     |none=>
      rw[hb] at q;simp only[Bo,D.blocks,yv,y1l,hb,y0k,y2y,Bool.true_or,if_true];exact q _ _ z rfl
     |some q1=>
      rw[hb] at q;simp only[Bo,D.blocks,yv,y1l,hb,y0k,List.any_nil,y2x,y36,y0o,if_false];refine⟨_,rfl,_,SqT.of (z _ _ hp),_,af,_,AN (t0.kp z.kp),?_⟩;rw[if_neg (by rw[w2]; exact yg)];exact q _ _ z ⟨k,rfl,z _ _ hk⟩
    |ite t b c=>
     have ac:kbD p (.ite t b c)=match kbB p b,kbB p c with|some q,some r=>some (q.filter fun x=>r.contains x)|_,_=>none:=by
      rw[kbD]; simp only[D.term] at B; rw[B]; rfl
     rw[ac] at q;cases hb:kbB p b with
     |none=>
      rw[hb] at q;simp only[Bo,D.blocks,yv,y1l,hb,y0k,y2y,Bool.true_or,if_true];exact q _ _ z rfl
     |some q1=>
      cases hc:kbB p c with
      |none=>
       rw[hb,hc] at q;simp only[Bo,D.blocks,yv,y1l,hb,hc,y0k,y2y,y2x,Bool.true_or,Bool.or_true,if_true];exact q _ _ z rfl
      |some q2=>
       rw[hb,hc] at q;simp only[Bo,D.blocks,yv,y1l,hb,hc] at M;simp only[Bo,D.blocks,yv,y1l,hb,hc,y0k,List.any_nil,y2x,y36,y0o,if_false];rcases M with _|⟨r1,_|⟨r2,_|_⟩⟩;obtain⟨a1,rfl,m1⟩:=r1;obtain⟨a2,rfl,m2⟩:=r2;refine⟨_,rfl,_,SqT.of (z _ _ hp),_,af,_,AN (t0.kp z.kp),?_⟩;rw[if_pos (by rw[w2]; rfl)];refine⟨_,rfl,_,SqL.of O,_,rfl,_,rfl,⟨_,SqT.of m1⟩,?_⟩;have aA:q1.length<=900:=by
        have:=L4 hb;simp only[D.sz] at ah;lia
       refine EA (K:=K) (a:=a1) (xs:=q1.map V.str) (YB U pe q1 q2) ⟨rfl,⟨none,rfl⟩,rfl⟩ (by rw[y4]; exact C9 (by lia)) ?_ ?_ ?_ ?_
       ·rintro i ys G H' ⟨_,_,rfl⟩;rw[y4];exact y0d (y1m _ _) (by rw[yz]; lia)
       ·rintro i ys G H' _ ⟨rfl,_,_⟩;exact SqT.of m1
       ·rintro i ys v G H' J ⟨rfl,⟨t,rfl⟩,rfl⟩;rw[y0b] at J;cases hx:q1[i]? with
        |none=>rw[hx] at J; cases J
        |some x=>
         rw[hx] at J;have ev:V.str x=v:=by simpa using J
         subst ev;walk_at "rd";refine⟨_,SqL.of O,_,rfl,inV (.str x) (q2.map V.str),.inl ⟨a2,_,rfl,.inr (SqT.of m2),rfl,CW q2,rfl⟩,?_⟩;rw[Cz];have et:q1.take (i+1)=q1.take i++[x]:=by rw[y03,hx]; rfl
         cases al:q2.contains x with
         |true=>exact⟨rfl,⟨_,rfl⟩,by rw[et,y1j,yd,y2m,al]; rfl⟩
         |false=>exact⟨rfl,⟨_,rfl⟩,by rw[et,y1j,yd,y2m,al]; simp⟩
       ·rintro ys G H' ⟨rfl,_,rfl⟩ pc ar;rw[y4,y0h];have s4:=A6 ar (HO.lst ((q1.filter fun x=>q2.contains x).map V.str));refine⟨_,rfl,_,.inl ⟨SqL.of A4,fun l hl=>?_⟩⟩;exact q _ _ (z.trans (s4.trans (A6 hl _))) ⟨l,rfl,A4⟩
noncomputable def CJ(d:Dm):Bool:=match d with
 |.tup [i,b]=>CI i&&An 3 b
 |_=>false
noncomputable def Dv(d:Dm)(r:Bool):Prop:=(CJ d=false/\r=false)\/
 ∃q b,d=.tup [.tup q,.tup (AM b)]/\CJ d=true/\dpB b<4/\tmB b<=5/\szB b<=890/\r=(kbB (q.map BN) b).isSome
noncomputable def L6:Sp:=fun vs H Q _=>∃v d r,vs=[v]/\Dt H v d/\AL d/\Dv d r/\∀H',Same H H'->Q (.bl r) H'
noncomputable def YE(H:Hp)(q:List Dm)(i:Nat)(ys:List V)(z:St)(H':Hp):Prop:=H'=H/\(∃t,z=[t])/\ys=((q.take i).map BN).map V.str
theorem YF(F:Fun K "is_program" "is_program" By f fd) (b_tuple:mg "tuple" = none) (c_is_tuple_of:Callee P w K mg base "is_tuple_of" ["thing","many"] 1 EU) (c_are_ins:Callee P w K mg base "are_ins" ["thing"] 5 Oi) (c_is_block:Callee P w K mg base "is_block" ["thing","levels"] 16 (FR 4))
  (c_known_behind_block:Callee P w K mg base "known_behind_block" ["block","known"] 16 (FS 4)) (g_DEEPEST_BLOCK:GC mg "DEEPEST_BLOCK" (.int 3)):FnOk P w K mg base CX0 17 f fd ["thing"] L6:=by
 refine F.ok sc_is_program (fun vs H Q E h=>?_) (fun ax A outer s H vs Q E hr h=>?_)
 ·obtain⟨v,d,r,rfl,_⟩:=h;rfl
 obtain⟨v,d,r,rfl,hd,hz,ag,q⟩:=h;refine⟨_,(A7 (AH (Au (Ah (AB c_is_tuple_of hr (by lia) (A0 (A1 0 rfl F8) (A0 A3 A2)) Tg EH))) (A8 (AC B7)) AJ)
 (A7 (AH (PW.pt (BC (Au (Ah (AB c_are_ins hr (by lia) (A0 (A9 AD (A1 0 rfl F8) A3 (fun _ _=>rfl)) A2) Te T3))) (Br (Au (Ah (AB c_is_block hr (by lia) (A0 (A9 AD (A1 0 rfl F8) A3 (fun _ _=>rfl)) (A0 (Ax g_DEEPEST_BLOCK Td NE) A2)) Tf Jh)))))) (A8 (AC B7)) AJ)
 (A7 (AK (i:=1) sc_is_program.nd rfl Tj (BL E8 Ti b_tuple Cl (A0 (BT ["row"] [none] rfl (CompS.of (by rfl)) (Cf (A9 AD (A1 0 rfl F8) A3 (fun _ _=>rfl))) (fun _ _ _ _ _=>(AZ (i:=0) (show List.Nodup (["row"]:List Str) from by decide+kernel) rfl (Or.inl rfl))) (fun _ _ _ _ _=>Bj) (fun _ _ _ _ _=>(A9 (ixK (r:=Be) (K:=K) AD rfl) (AX (i:=0) rfl (by walk_at "vc") NP NC) A3 (fun _ _=>rfl)))) A2) Co Cn) (AF rfl))
 (A8 (AC (BK RO (AB c_known_behind_block hr (by lia) (A0 (A9 AD (A1 0 rfl F8) A3 (fun _ _=>rfl)) (A0 (A1 1 rfl Tk) A2)) Th NM) Cd (AG _))))))),?_⟩
 walk_at "rd";have ac:CJ d=false->r=false:=fun J=>by
  rcases ag with⟨_,e⟩|⟨_,_,_,e,_⟩
  ·exact e
  ·rw[J] at e; cases e
 refine⟨v,d,2,rfl,hd,fun H1 s1=>⟨_,rfl,?_⟩⟩;cases h2:Bm d 2 with
 |false=>
  simp only[if_true];have J:CJ d=false:=by
   unfold CJ;split
   ·exact absurd (show true=false from h2) (by decide)
   ·rfl
  exact ac J ▸ q H1 s1
 |true=>
  obtain⟨ds,rfl,hl⟩:=EV (n:=2) h2;obtain⟨U,O,rfl⟩:=Od hl;simp only[y09,if_false];simp only[AL,smallA] at hz;replace hz:=hz.1;obtain⟨p,x0,x1,rfl,hp,t0,t1⟩:=CG (hd.kp s1.kp);refine⟨_,rfl,_,SqT.of hp,_,rfl,x0,U,rfl,t0,hz.1,fun H2 s2=>⟨_,rfl,?_⟩⟩;cases ha:CI U with
  |false=>
   simp only[if_true];have J:CJ (.tup [U,O])=false:=by show(CI U&&An 3 O)=false; rw[ha]; rfl
   exact ac J ▸ q H2 (s1.trans s2)
  |true=>
   simp only[y09,if_false];refine⟨_,rfl,_,SqT.of (s2 _ _ hp),_,rfl,x1,O,3,rfl,t1.kp s2.kp,hz.2.1,by decide,fun H3 s3=>⟨_,rfl,?_⟩⟩;have af:=s1.trans (s2.trans s3);cases hb:An 3 O with
   |false=>
    simp only[if_true];have J:CJ (.tup [U,O])=false:=by show(CI U&&An 3 O)=false; rw[hb,y1s]
    exact ac J ▸ q H3 af
   |true=>
    simp only[y09,if_false];have J:CJ (.tup [U,O])=true:=by show(CI U&&An 3 O)=true; rw[ha,hb]; rfl
    rcases ag with⟨e,_⟩|⟨z,b,e,_,av,am,ar,hr'⟩
    ·rw[J] at e; cases e
    cases e;have ah:=s3 _ _ (s2 _ _ hp);obtain⟨pr,xs,rfl,M,ae⟩:=(t0.kp (s2.trans s3).kp).tupI;have ak:decide (z.length<=4)=true/\ris "" z=true:=by
     have:(decide (z.length<=4)&&ris "" z)=true:=ha;rwa [y8] at this
    have au:z.length<=4:=of_decide_eq_true ak.1;refine⟨_,rfl,_,SqT.of ah,_,rfl,_,rfl,⟨_,SqT.of M⟩,?_⟩;refine EA (K:=K) (a:=pr) (xs:=xs) (YE H3 z) ⟨rfl,⟨none,rfl⟩,rfl⟩ (by rw[ae.length]; exact C9 (by lia)) ?_ ?_ ?_ ?_
    ·rintro i ys Z H' ⟨_,_,rfl⟩;rw[y4,y4,yz];lia
    ·rintro i ys Z H' _ ⟨rfl,_,_⟩;exact SqT.of M
    ·rintro i ys v Z H' al ⟨rfl,⟨t,rfl⟩,rfl⟩;obtain⟨d,aj,dd⟩:=ae.get al;obtain⟨x',l,y,rfl⟩:=HF (Ky ak.2 d (yt aj));obtain⟨pq,v0,v1,v2,rfl,ao,u0,u1,u2⟩:=BM dd;cases u0;walk_at "rd";refine⟨_,SqT.of ao,_,rfl,rfl,⟨_,rfl⟩,?_⟩;rw[y03,aj,yd,yd];rfl
    ·rintro ys Z H' ⟨rfl,_,rfl⟩ pc ap;rw[ae.length,y0h];have s4:=A6 ap (HO.lst ((z.map BN).map V.str));refine⟨_,rfl,_,.inl ⟨SqL.of A4,fun l aq=>?_⟩⟩;have s5:=A6 aq (HO.tup ((z.map BN).map V.str));have aa:=s4.trans s5;refine⟨_,rfl,_,SqT.of (aa _ _ ah),_,rfl,x1,b,l,z.map BN,rfl,t1.kp (s2.trans (s3.trans aa)).kp,A4,by lia,am,by rw[y4]; lia,fun y H4 s6 B=>?_⟩;have G:Q (.bl r) H4:=q H4 (af.trans (aa.trans s6));show Q (.bl (!decide (y=V.non))) H4;rw[hr'] at G;cases hk:kbB (z.map BN) b with
     |none=>
      rw[hk] at B G;have hy:y=.non:=B;subst hy;exact G
     |some q'=>
      rw[hk] at B G;obtain⟨r',rfl,_⟩:=B;exact G
end
section
theorem DO:∀x∈Aj,B6 (.str x)=true/\x.length<=4000000:=by
 intro x hx;simp only[Aj,yu,yo,or_false] at hx;rcases hx with rfl|rfl|rfl|rfl<;>exact⟨by decide+kernel,by decide+kernel⟩
theorem Wd.in_(w:Wd):inW (.str w.str)=true/\w.str.length<=4000000:=by cases w<;>exact⟨by decide+kernel,by decide+kernel⟩
theorem FT:∀{n:Nat} {t:T},T.ok Aj n t->Ap n t.enc=true
 |0,_,h=>h.elim
 |n+1,.num i,h=>by
  show(if eqS (.str "num") "num" then Am (.int i) (-32768) 32767 else eqS (.str "num") "name" && B6 (.int i))=true;rw[if_pos (by decide+kernel)];show(decide (-32768<=i)&&decide (i<=32767))=true;rw[decide_eq_true h.1,decide_eq_true h.2];rfl
 |n+1,.nm x,h=>by
  show(if eqS (.str "name") "num" then Am (.str x) (-32768) 32767 else eqS (.str "name") "name" && B6 (.str x))=true;rw[if_neg (by decide+kernel),(DO x h).1];decide+kernel
 |n+1,.op w a b,h=>by
  show(inW (.str w.str)&&Ap n a.enc&&Ap n b.enc)=true;rw[w.in_.1,FT h.1,FT h.2];rfl
theorem FU:∀{n:Nat} {t:T},T.ok Aj n t->t.deep<=n
 |0,_,h=>h.elim
 |n+1,.num i,h=>by show 1<=n+1; lia
 |n+1,.nm x,h=>by show 1<=n+1; lia
 |n+1,.op w a b,h=>by
  have:=FU h.1;have:=FU h.2;rw[T.deep]; lia
theorem FV:∀{n:Nat} {t:T},T.ok Aj n t->AL t.enc
 |0,_,h=>h.elim
 |n+1,.num i,h=>by
  simp only[T.enc,AL,smallA];exact⟨⟨by decide+kernel,trivial,trivial⟩,by simp⟩
 |n+1,.nm x,h=>by
  simp only[T.enc,AL,smallA];exact⟨⟨by decide+kernel,(DO x h).2,trivial⟩,by simp⟩
 |n+1,.op w a b,h=>by
  simp only[T.enc,AL,smallA];exact⟨⟨w.in_.2,FV h.1,FV h.2,trivial⟩,by simp⟩
theorem HI:∀{b:List D} {x:Dm},x∈AM b->∃d∈b,x=d.enc
 |[],x,h=>by rw[AM] at h; cases h
 |d::b,x,h=>by
  rw[AM] at h;rcases List.mem_cons.mp h with rfl|h
  ·exact⟨d,by simp,rfl⟩
  ·obtain⟨e,q,r⟩:=HI h;exact⟨e,yb _ q,r⟩
theorem FW:∀{ds:List Dm},(∀d∈ds,AL d)->smallA ds
 |[],_=>by rw[smallA]; trivial
 |d::r,h=>by
  rw[smallA];exact⟨h d (by simp),FW fun x hx=>h x (yb _ hx)⟩
theorem HJ:∀{n:Nat} {b:List D},okB n b->An n (.tup (AM b))=true/\dpB b<n/\tmB b<=5/\AL (.tup (AM b))
 |0,_,h=>h.elim
 |n+1,b,h=>by
  obtain⟨hl,hd⟩:=h;have q:∀d∈b,FQ (An n) d.enc=true/\d.dp<=n/\d.tm<=5/\AL d.enc:=by
   intro d hm;have hd:=hd d hm;match d,hd with
   |.set x t,hd=>
    refine⟨?_,?_,?_,?_⟩
    ·show(eqS (.str "set") "set" && B6 (.str x)&&Ap 5 t.enc)=true;rw[(DO x hd.1).1,FT hd.2];decide+kernel
    ·rw[D.dp]; lia
    ·rw[D.tm]; exact FU hd.2
    ·simp only[D.enc,AL,smallA];exact⟨⟨by decide+kernel,(DO x hd.1).2,FV hd.2,trivial⟩,by simp⟩
   |.ite t B Z,hd=>
    obtain⟨G,U,O,z⟩:=HJ hd.2.1;obtain⟨M,j2,j3,J⟩:=HJ hd.2.2;have td:=FU hd.1;refine⟨?_,?_,?_,?_⟩
    ·show(Ap 5 t.enc&&An n (.tup (AM Z))&&(if eqS (.str "if") "if" then An n (.tup (AM B)) else eqS (.str "if") "while" && Am (.tup (AM B)) 0 20))=true;rw[FT hd.1,M,if_pos (by decide+kernel),G];rfl
    ·rw[D.dp]; lia
    ·rw[D.tm]; lia
    ·simp only[D.enc,AL,smallA] at z J |-;exact⟨⟨by decide+kernel,FV hd.1,z,J,trivial⟩,by simp⟩
   |.whl t m B,hd=>
    obtain⟨G,U,O,z⟩:=HJ hd.2.2.2;have td:=FU hd.1;refine⟨?_,?_,?_,?_⟩
    ·show(Ap 5 t.enc&&An n (.tup (AM B))&&(if eqS (.str "while") "if" then An n (.int m) else eqS (.str "while") "while" && Am (.int m) 0 20))=true;rw[FT hd.1,G,if_neg (by decide+kernel)];show(eqS (.str "while") "while" && (decide (0<=m)&&decide (m<=20)))=true;rw[decide_eq_true hd.2.1,decide_eq_true hd.2.2.1];decide+kernel
    ·rw[D.dp]; lia
    ·rw[D.tm]; lia
    ·simp only[D.enc,AL,smallA] at z |-;exact⟨⟨by decide+kernel,FV hd.1,trivial,z,trivial⟩,by simp⟩
  refine⟨?_,?_,?_,?_⟩
  ·show(decide ((AM b).length<=6)&&(AM b).all (FQ (An n)))=true;rw[Cw,decide_eq_true hl,y0a,y16];intro x hx;obtain⟨d,hm,rfl⟩:=HI hx;exact(q d hm).1
  ·have:∀{b:List D},(∀d∈b,d.dp<=n)->dpB b<=n:=by
    intro b;induction b with
    |nil=>intro _; rw[dpB]; lia
    |cons d r F=>
     intro h;have h1:=h d (by simp);have h2:=F fun x hx=>h x (yb _ hx);rw[dpB]; lia
   have:=this fun d hm=>(q d hm).2.1;lia
  ·have:∀{b:List D},(∀d∈b,d.tm<=5)->tmB b<=5:=by
    intro b;induction b with
    |nil=>intro _; rw[tmB]; lia
    |cons d r F=>
     intro h;have h1:=h d (by simp);have h2:=F fun x hx=>h x (yb _ hx);rw[tmB]; lia
   exact this fun d hm=>(q d hm).2.2.1
  ·rw[AL];refine⟨FW fun x hx=>?_,by rw[Cw]; lia⟩;obtain⟨d,hm,rfl⟩:=HI hx;exact(q d hm).2.2.2
noncomputable def bnd:Nat->Nat
 |0=>0
 |1=>1
 |n+2=>12*bnd (n+1)
theorem FX{k:Nat}:∀{b:List D},(∀d∈b,d.sz<=k)->szB b<=b.length*k
 |[],_=>by rw[szB]; lia
 |d::r,h=>by
  have h1:=h d (by simp);have h2:=FX (b:=r) fun x hx=>h x (yb _ hx);rw[szB,ya,Nat.succ_mul];lia
theorem HK:∀{n:Nat} {b:List D},okB (n+1) b->∀d∈b,d.sz<=bnd (n+1)
 |0,b,h,d,hm=>by
  have hd:=h.2 d hm;match d,hd with
  |.set x t,_=>rw[D.sz]; decide
  |.ite t q F,hd=>exact hd.2.1.elim
  |.whl t m q,hd=>exact hd.2.2.2.elim
 |n+1,b,h,d,hm=>by
  have hd:=h.2 d hm;have G:1<=bnd (n+1):=by
   have:∀n,1<=bnd (n+1):=by
    intro n;induction n with
    |zero=>decide
    |succ n M=>rw[bnd]; lia
   exact this n
  match d,hd with
  |.set x t,_=>rw[D.sz,bnd]; lia
  |.ite t q F,hd=>
   have B:=FX (HK hd.2.1);have O:=FX (HK hd.2.2);have z:=y11 (bnd (n+1)) hd.2.1.1;have J:=y11 (bnd (n+1)) hd.2.2.1;rw[D.sz,bnd]; lia
  |.whl t m q,hd=>
   have B:=FX (HK hd.2.2.2);have z:=y11 (bnd (n+1)) hd.2.2.2.1;rw[D.sz,bnd]; lia
theorem HL{r:Rw}(q:r.1∈Aj)(h : -6<=r.2.1/\r.2.1<=r.2.2/\r.2.2<=8):Aa (Al r)=true/\AL (Al r):=by
 constructor
 ·show(B6 (.str r.1)&&(decide (-99<=r.2.1)&&decide (r.2.1<=99))&&(decide (r.2.1<=r.2.2)&&decide (r.2.2<=99)))=true;rw[(DO _ q).1,decide_eq_true (show -99<=r.2.1 by lia),decide_eq_true (show r.2.1<=99 by lia),decide_eq_true h.2.1,decide_eq_true (show r.2.2<=99 by lia)];rfl
 ·simp only[Al,AL,smallA];exact⟨⟨(DO _ q).2,trivial,trivial,trivial⟩,by simp⟩
theorem YG{q:List Rw}(h:okRows q):CI (.tup (q.map Al))=true/\AL (.tup (q.map Al))/\(q.map Al).map BN=q.map (·.1)/\(q.map Al).length<=2:=by
 obtain⟨hl,B,z⟩:=h;refine⟨?_,?_,by rw[y23]; rfl,by rw[y4]; exact hl⟩
 ·rw[Kz];match q,hl,B,z with
  |[],_,_,_=>rfl
  |[r],_,B,z=>
   have e:r.1 = "a":=by simpa [pair] using B
   have:=(HL (by rw[e]; decide+kernel) (z r (by simp))).1;show([Al r].all Aa&&true&&decide (1<=4))=true;simp[this]
  |[r,F],_,B,z=>
   have e:r.1 = "a"/\F.1 = "b":=by simpa [pair] using B
   have h1:=(HL (by rw[e.1]; decide+kernel) (z r (by simp))).1;have h2:=(HL (by rw[e.2]; decide+kernel) (z F (by simp))).1;show([Al r,Al F].all Aa&&(decide (r.1.cps.toList<F.1.cps.toList)&&true)&&decide (2<=4))=true;rw[e.1,e.2];simp only[y28,List.all_nil,h1,h2];rw[show decide (("a" : Str).cps.toList<("b" : Str).cps.toList)=true from by decide+kernel];rfl
 ·rw[AL];refine⟨FW fun x hx=>?_,by rw[y4]; lia⟩;obtain⟨r,G,rfl⟩:=List.mem_map.mp hx;have hm:r.1∈pair:=by
   have:r.1∈q.map (·.1):=List.mem_map.mpr ⟨r,G,rfl⟩;rw[B] at this;exact y17 this
  refine(HL ?_ (z r G)).2;simp only[pair,yu,yo,or_false] at hm;rcases hm with e|e<;>(rw[e]; decide+kernel)
theorem YH{z:List Rw}{b:List D}{g':List Str}(Z:okRows z)(hb:okB 3 b)(hl:b.length<=3)(hk:Knows (z.map (·.1)) b g'):Dv (.tup [.tup (z.map Al),.tup (AM b)]) true/\AL (.tup [.tup (z.map Al),.tup (AM b)]):=by
 obtain⟨O,F,M,_⟩:=YG Z;obtain⟨J,j2,G,B⟩:=HJ hb;have U:szB b<=890:=by
  have e1:szB b<=b.length*bnd 3:=FX (HK hb);have e2:=y11 (bnd 3) hl;have e3:3*bnd 3=432:=by decide
  lia
 obtain⟨q,eq,_⟩:=hk _ (Sub.refl _);refine⟨.inr ⟨_,b,rfl,?_,by lia,G,U,by rw[M,eq]; rfl⟩,?_⟩
 ·show(CI (.tup (z.map Al))&&An 3 (.tup (AM b)))=true;rw[O,J];rfl
 ·simp only[AL,smallA] at F B |-;exact⟨⟨F,B,trivial⟩,by simp⟩
end
section
variable{P:yl}{w:y08}{K:y3}{mg:Str->Option y9}{base:Heap}{f:Addr}{fd:y14}
section
theorem L7{a b:Str}(h:a.cps.toList=b.cps.toList):a=b:=Str.ext' (Array.toList_inj.mp h)
theorem FY(a b:Str):(a++b).cps.toList=a.cps.toList++b.cps.toList:=by rw[Str.cps_append,Array.toList_append]
theorem Op{c:Nat}:∀{p q r s:List Nat},c∉p->c∉q->p++c::r=q++c::s->p=q/\r=s
 |[],[],_,_,_,_,h=>⟨rfl,(y1k h).2⟩
 |[],x::q,_,_,_,h2,h=>absurd (List.mem_cons.mpr (Or.inl (y1k h).1)) h2
 |x::p,[],_,_,h1,_,h=>absurd (List.mem_cons.mpr (Or.inl (y1k h).1.symm)) h1
 |x::p,y::q,r,s,h1,h2,h=>by
  obtain⟨e,h⟩:=y1k h;obtain⟨F,B⟩:=Op (fun z=>h1 (yb _ z)) (fun z=>h2 (yb _ z)) h;exact⟨by rw[e,F],B⟩
theorem EY(c:Nat)(x y:Str)(r:List Str):(Str.join ⟨#[c]⟩ (x::y::r)).cps.toList=x.cps.toList++c::(Str.join ⟨#[c]⟩ (y::r)).cps.toList:=by
 show(x++⟨#[c]⟩++Str.join ⟨#[c]⟩ (y::r)).cps.toList=_;rw[FY,FY,y0v];rfl
theorem Oq{c:Nat}:∀{xs ys:List Str},xs≠[]->ys≠[]->(∀x∈xs,c∉x.cps.toList)->(∀x∈ys,c∉x.cps.toList)->Str.join ⟨#[c]⟩ xs=Str.join ⟨#[c]⟩ ys->xs=ys
 |[],_,h,_,_,_,_=>absurd rfl h
 |_::_,[],_,h,_,_,_=>absurd rfl h
 |[x],[y],_,_,_,_,e=>by rw[show x=y from e]
 |[x],y::z::r,_,_,h1,_,e=>by
  have e:x.cps.toList=_:=(congrArg (fun s:Str=>s.cps.toList) e).trans (EY c y z r);exact absurd (by rw[e]; simp) (h1 x (by simp))
 |x::z::r,[y],_,_,_,h2,e=>by
  have e:y.cps.toList=_:=(congrArg (fun s:Str=>s.cps.toList) e).symm.trans (EY c x z r);exact absurd (by rw[e]; simp) (h2 y (by simp))
 |x::B::r,y::q::s,_,_,h1,h2,e=>by
  have e:(Str.join ⟨#[c]⟩ (x::B::r)).cps.toList=(Str.join ⟨#[c]⟩ (y::q::s)).cps.toList:=by rw[e]
  rw[EY,EY] at e;obtain⟨G,F⟩:=Op (h1 x (by simp)) (h2 y (by simp)) e;rw[L7 G,Oq (by simp) (by simp) (fun z hz=>h1 z (yb _ hz)) (fun z hz=>h2 z (yb _ hz)) (L7 F)]
theorem HM{c:Nat}{xs:List Str}(h:xs≠[])(q:∀x∈xs,c∉x.cps.toList):Txt.split (Str.join ⟨#[c]⟩ xs) ⟨#[c]⟩=xs:=
 Oq (by intro e; have:=y2d (Str.join ⟨#[c]⟩ xs) ⟨#[c]⟩; rw[e] at this; exact absurd this (by decide)) h (StrLaws.split_free _ _) q (StrLaws.join_split _ _)
noncomputable def Pl(z:Str):Prop:=∀c∈z.cps.toList,33<=c
theorem Pl.no{z:Str}(h:Pl z){c:Nat}(hc:c<33):c∉z.cps.toList:=fun m=>absurd (h c m) (by lia)
noncomputable def BZ(c:Nat):Bool:=!(Builtin.Str.occurrences ("0123456789" : Str) ⟨#[c]⟩ 0 ("0123456789" : Str).length 1).isEmpty
theorem L8(c:Nat):BZ c=true↔48<=c/\c<=57:=by
 rw[BZ,StrLaws.found_one,decide_eq_true_iff,show("0123456789" : Str).cps.toList=[48,49,50,51,52,53,54,55,56,57] from by decide+kernel];simp only[yu,yo,or_false];omega
theorem YI(c:Nat)(h:DN c=true):97<=c/\c<=122:=by
 rw[DN,StrLaws.found_one,decide_eq_true_iff,show("abcdefghijklmnopqrstuvwxyz" : Str).cps.toList=[97,98,99,100,101,102,103,104,105,106,107,108,109,110,111,112,113,114,115,116,117,118,119,120,121,122] from by decide+kernel] at h;simp only[yu,yo,or_false] at h;omega
noncomputable def AO(z:Str):Str:=if Txt.startswith z "-" = true then Txt.slice z (some 1) none else z
noncomputable def B9(z:Str):Int:=(intText? z).getD 0
noncomputable def Aq(z:Str):Bool:=decide (1<=(AO z).length)&&decide ((AO z).length<=6)&&(AO z).cps.toList.all BZ&&decide ((Str.ofString (toString (B9 z)):Str)=z)
end
section
open PySem.NumText PyProof.Rows
theorem Os(z:Str):Txt.startswith z "-" = true↔∃q,z.cps.toList=45::q:=by
 rw[Txt.startswith,y8,decide_eq_true_iff,Builtin.Str.subAt,show("-" : Str)=⟨#[45]⟩ from by decide+kernel];show(0+1<=z.length/\(z.cps.extract 0 (0+1) == #[45])=true)↔_;have e:(z.cps.extract 0 (0+1)).toList=z.cps.toList.take 1:=by simp
 have hl:z.length=z.cps.toList.length:=by simp[Str.length]
 rw[beq_iff_eq,<- Array.toList_inj,e,hl];cases z.cps.toList with
 |nil=>simp
 |cons a r=>simp
theorem HN(m:Nat):AllDigits ((Nat.toDigits 10 m).map Char.toNat):=by
 intro c hc;obtain⟨ch,q,e⟩:=List.mem_map.mp hc;rw[<- e];exact PyProof.Rows.digit_range (Nat.isDigit_of_mem_toDigits (by decide) (by decide) q)
theorem HP(m:Nat):(Nat.toDigits 10 m).map Char.toNat≠[]:=by
 intro e;have h:=toDigits_len_ge 10 m;rw[List.map_eq_nil_iff.mp e] at h;exact absurd h (by decide)
theorem L9(m:Nat):(Str.ofString (toString ((m:Nat):Int))).cps.toList=(Nat.toDigits 10 m).map Char.toNat:=PySem.W.KIN.signs_num m
theorem Ot(m:Nat):(Str.ofString (toString (Int.negSucc m))).cps.toList=45::(Nat.toDigits 10 (m+1)).map Char.toNat:=by
 rw[PyProof.Rows.signs_ofString];show("-" ++ Nat.repr (m+1)).toList.map Char.toNat=_;rw[String.toList_append,yd,Nat.toList_repr];rfl
theorem LA{z:Str}{q:List Nat}(h:z.cps.toList=45::q):(AO z).cps.toList=q:=by
 rw[AO,if_pos ((Os z).mpr ⟨q,h⟩)];show(StrLaws.sliceText z (some 1) none).cps.toList=q;rw[StrLaws.sliceText_from (by rw[h,ya]; lia),h];show(List.take _ ((45::q).drop (1:Int).toNat)).toArray.toList=q;rw[y2z,show(1:Int).toNat=1 from rfl,List.drop_succ_cons,List.drop_zero,y20 (by rw[ya]; lia)]
theorem HQ{z:Str}(h:∀B,z.cps.toList≠45::B):AO z=z:=by
 rw[AO,if_neg (fun e=>by obtain⟨B,q⟩:=(Os z).mp e; exact h B q)]
theorem Ba(z:Str):z.length=z.cps.toList.length:=by simp[Str.length]
theorem all_fig{l:List Nat}:l.all BZ=true↔AllDigits l:=by
 rw[y16];exact⟨fun h c hc=>(L8 c).mp (h c hc),fun h c hc=>(L8 c).mpr (h c hc)⟩
theorem LC{z:Str}(h1:1<=(AO z).length)(h2:(AO z).length<=6)(G:(AO z).cps.toList.all BZ=true):intText? z=some (B9 z)/\z.length<=7:=by
 have hd:=all_fig.mp G;have k:∀{n:Int},intText? z=some n->intText? z=some (B9 z):=fun {n} e=>by rw[B9,e]; rfl
 rw[Ba] at h1 h2;by_cases F:∃B,z.cps.toList=45::B
 ·obtain⟨B,e⟩:=F;rw[LA e] at h1 h2 hd;have hl:z.length<=7:=by rw[Ba,e,ya]; lia
  exact⟨k (intText_neg e hd (by intro q; rw[q] at h1; exact absurd h1 (by decide)) (by lia)),hl⟩
 ·rw[HQ (fun B e=>F ⟨B,e⟩)] at h1 h2 hd;have hl:z.length<=7:=by rw[Ba]; lia
  exact⟨k (intText_digits hd (by intro q; rw[q] at h1; exact absurd h1 (by decide)) (by lia)),hl⟩
theorem LD{m:Nat}(h:m<10^6):((Nat.toDigits 10 m).map Char.toNat).length<=6:=by
 have:=toString_length_le (v:=(m:Int)) (by lia) (k:=6) (by decide) (by lia);rw[Ba,L9] at this;exact this
theorem C5{i:Int}(h1 : -999999<=i)(h2:i<=999999):Aq (Str.ofString (toString i))=true/\B9 (Str.ofString (toString i))=i/\Pl (Str.ofString (toString i))/\(Str.ofString (toString i)).length<=7:=by
 have F:∀z:Str,(∃B,(AO z).cps.toList=B/\AllDigits B/\B≠[]/\B.length<=6)->B9 z=i->z=Str.ofString (toString i)->Pl z->Aq z=true/\B9 z=i/\Pl z/\z.length<=7:=by
  rintro z ⟨B,e,hd,hn,hl⟩ O hz Z;have M:1<=(AO z).length:=by rw[Ba,e]; exact List.length_pos_iff.mpr hn
  have J:(AO z).length<=6:=by rw[Ba,e]; exact hl
  have G:(AO z).cps.toList.all BZ=true:=by rw[e]; exact all_fig.mpr hd
  refine⟨?_,O,Z,(LC M J G).2⟩;rw[Aq,decide_eq_true M,decide_eq_true J,G,O,decide_eq_true hz.symm];rfl
 cases i with
 |ofNat m=>
  have e:=L9 m;have hd:=HN m;have U:∀B,(Str.ofString (toString (Int.ofNat m))).cps.toList≠45::B:=fun B q=>by
   have q:(Nat.toDigits 10 m).map Char.toNat=45::B:=e.symm.trans q;have:=hd 45 (by rw[q]; simp);lia
  have hm:m<10^6:=by have:(Int.ofNat m)=(m:Int):=rfl; lia
  refine F _ ⟨_,(by rw[HQ U]; exact e),hd,HP m,LD hm⟩ ?_ rfl ?_
  ·show(intText? (Str.ofString (toString ((m:Nat):Int)))).getD 0=_;rw[PySem.W.KIN.num_reads (by lia) (by have:(Int.ofNat m)=(m:Int):=rfl; lia)];rfl
  ·intro c hc;have hc:c∈(Nat.toDigits 10 m).map Char.toNat:=e ▸ hc;have:=hd c hc;lia
 |negSucc m=>
  have e:=Ot m;have hd:=HN (m+1);have hm:m+1<10^6:=by lia
  refine F _ ⟨_,LA e,hd,HP _,LD hm⟩ ?_ rfl ?_
  ·rw[B9,intText_neg e hd (HP _) (by rw[Ba,e,ya]; have:=LD hm; lia),PySem.W.KIN.val_back];show -((m+1:Nat):Int)=Int.negSucc m;lia
  ·intro c hc;rw[e] at hc;rcases List.mem_cons.mp hc with rfl|hc
   ·decide
   ·have:=hd c hc;lia
end
section
noncomputable def T.fit:Nat->T->Prop
 |0,_=>False
 |_+1,.num i=>-32768<=i/\i<=32767
 |_+1,.nm x=>Ao x=true
 |n+1,.op _ a b=>T.fit n a/\T.fit n b
noncomputable def fitB:Nat->List D->Prop
 |0,_=>False
 |n+1,b=>b.length<=6/\∀d∈b,match d with
  |.set x t=>Ao x=true/\t.fit 5
  |.ite t b c=>t.fit 5/\fitB n b/\fitB n c
  |.whl t m b=>t.fit 5/\0<=m/\m<=20/\fitB n b
noncomputable def fitR(r:Rw):Prop:=Ao r.1=true/\-99<=r.2.1/\r.2.1<=r.2.2/\r.2.2<=99
structure FitP(rs:List Rw)(b:List D):Prop where
 len:rs.length<=4
 rows:∀r∈rs,fitR r
 blk:fitB 3 b
theorem FZ{d:Dm}{z:Str}(h:eqS d z=true):d=.str z:=by
 unfold eqS at h;split at h
 ·rw[of_decide_eq_true h]
 ·cases h
theorem LE{d:Dm}(h:B6 d=true):∃x,d=.str x/\Ao x=true:=by
 unfold B6 at h;split at h
 ·exact⟨_,rfl,h⟩
 ·cases h
theorem HR{d:Dm}{lo hi:Int}(h:Am d lo hi=true):∃i,d=.int i/\lo<=i/\i<=hi:=by
 unfold Am at h;split at h
 ·rw[y8,decide_eq_true_iff,decide_eq_true_iff] at h;exact⟨_,rfl,h⟩
 ·cases h
theorem LF{x:Str}(h:words.contains x=true):∃w:Wd,x=w.str:=by
 rw[List.contains_iff_mem,words] at h;simp only[yu,yo,or_false] at h;rcases h with rfl|rfl|rfl|rfl|rfl|rfl|rfl|rfl
 ·exact⟨.add,rfl⟩
 ·exact⟨.sub,rfl⟩
 ·exact⟨.mul,rfl⟩
 ·exact⟨.quo,rfl⟩
 ·exact⟨.less,rfl⟩
 ·exact⟨.same,rfl⟩
 ·exact⟨.min,rfl⟩
 ·exact⟨.max,rfl⟩
theorem YJ{d:Dm}(h:inW d=true):∃w:Wd,d=.str w.str:=by
 unfold inW at h;split at h
 ·obtain⟨w,e⟩:=LF h;exact⟨w,by rw[e]⟩
 ·cases h
theorem HS:∀{n:Nat} {d:Dm},Ap n d=true->∃t:T,d=t.enc/\t.fit n
 |0,_,h=>by cases h
 |n+1,d,h=>by
  unfold Ap at h;split at h
  ·split at h
   ·rename_i c;obtain⟨i,rfl,hi⟩:=HR h;exact⟨.num i,by rw[FZ c]; rfl,hi⟩
   ·rw[y8] at h;obtain⟨x,rfl,hx⟩:=LE h.2;exact⟨.nm x,by rw[FZ h.1]; rfl,hx⟩
  ·rw[y8,y8] at h;obtain⟨w,rfl⟩:=YJ h.1.1;obtain⟨a,rfl,ha⟩:=HS h.1.2;obtain⟨b,rfl,hb⟩:=HS h.2;exact⟨.op w a b,rfl,ha,hb⟩
  ·cases h
theorem Ou{p:Dm->Bool}{P:D->Prop}(q:∀d,p d=true->∃e:D,d=e.enc/\P e):∀{ds:List Dm},ds.all p=true->∃b:List D,ds=AM b/\∀e∈b,P e
 |[],_=>⟨[],rfl,fun _ h=>nomatch h⟩
 |d::r,h=>by
  rw[y28,y8] at h;obtain⟨e,rfl,z⟩:=q d h.1;obtain⟨b,rfl,hb⟩:=Ou q h.2;exact⟨e::b,rfl,List.forall_mem_cons.mpr ⟨z,hb⟩⟩
theorem LG:∀{n:Nat} {d:Dm},An n d=true->∃b:List D,d=.tup (AM b)/\fitB n b
 |0,_,h=>by cases h
 |n+1,d,h=>by
  unfold An at h;split at h
  ·rename_i ds;rw[y8,decide_eq_true_iff] at h;obtain⟨b,rfl,hb⟩:=Ou (P:=fun d=>match d with
    |.set x t=>Ao x=true/\t.fit 5
    |.ite t b c=>t.fit 5/\fitB n b/\fitB n c
    |.whl t m b=>t.fit 5/\0<=m/\m<=20/\fitB n b) (fun d hd=>by
     unfold FQ at hd
     split at hd
     ·rw[y8,y8] at hd
      obtain⟨x,rfl,hx⟩:=LE hd.1.2
      obtain⟨t,rfl,q⟩:=HS hd.2
      exact⟨.set x t,by rw[FZ hd.1.1]; rfl,hx,q⟩
     ·rw[y8,y8] at hd
      obtain⟨t,rfl,q⟩:=HS hd.1.1
      obtain⟨c,rfl,hc⟩:=LG hd.1.2
      obtain⟨_,hd⟩:=hd
      split at hd
      ·rename_i e
       obtain⟨b,rfl,hb⟩:=LG hd
       exact⟨.ite t b c,by rw[FZ e]; rfl,q,hb,hc⟩
      ·rw[y8] at hd
       obtain⟨m,rfl,hm⟩:=HR hd.2
       exact⟨.whl t m c,by rw[FZ hd.1]; rfl,q,hm.1,hm.2,hc⟩
     ·cases hd) h.2
   exact⟨b,rfl,by rw[<- Cw]; exact h.1,hb⟩
  ·cases h
theorem YK{d:Dm}(h:Aa d=true):∃r:Rw,d=Al r/\fitR r:=by
 unfold Aa at h;split at h
 ·rw[y8,y8] at h;obtain⟨x,rfl,hx⟩:=LE h.1.1;obtain⟨i,e,hi⟩:=HR h.1.2;cases e;obtain⟨j,rfl,q⟩:=HR h.2;exact⟨(x,_,j),rfl,hx,hi.1,q.1,q.2⟩
 ·cases h
theorem Ov:∀{z:Str} {ds:List Dm},ris z ds=true->∃q:List Rw,ds=q.map Al/\∀r∈q,fitR r
 |_,[],_=>⟨[],rfl,fun _ h=>nomatch h⟩
 |z,d::r,h=>by
  rw[ris,y8,y8] at h;obtain⟨e,rfl,B⟩:=YK h.1.1;obtain⟨b,rfl,hb⟩:=Ov h.2;exact⟨e::b,rfl,List.forall_mem_cons.mpr ⟨B,hb⟩⟩
noncomputable def BO(q:List Rw)(b:List D):Dm:=.tup [.tup (q.map Al),.tup (AM b)]
theorem YL{d:Dm}(h:CJ d=true):∃q b,d=BO q b/\FitP q b:=by
 unfold CJ at h;split at h
 ·rw[y8] at h;obtain⟨h1,h2⟩:=h;obtain⟨b,rfl,hb⟩:=LG h2;unfold CI at h1;split at h1
  ·rw[y8,decide_eq_true_iff] at h1;obtain⟨q,rfl,z⟩:=Ov h1.2;exact⟨q,b,rfl,by rw[<- y4 (f:=Al)]; exact h1.1,z,hb⟩
  ·cases h1
 ·cases h
theorem Fa:∀{n:Nat} {t:T},t.fit n->t.deep<=n
 |0,_,h=>h.elim
 |n+1,.num i,h=>by show 1<=n+1; lia
 |n+1,.nm x,h=>by show 1<=n+1; lia
 |n+1,.op w a b,h=>by
  have:=Fa h.1;have:=Fa h.2;rw[T.deep]; lia
theorem Ow{k:Nat}:∀{b:List D},(∀d∈b,d.sz<=k)->szB b<=b.length*k
 |[],_=>by rw[szB]; lia
 |d::r,h=>by
  have h1:=h d (by simp);have h2:=Ow (k:=k) fun e q=>h e (yb _ q);rw[szB,ya,Nat.add_mul]; lia
theorem Ox{k:Nat}:∀{b:List D},(∀d∈b,d.dp<=k)->dpB b<=k
 |[],_=>by rw[dpB]; lia
 |d::r,h=>by
  have h1:=h d (by simp);have h2:=Ox (k:=k) fun e q=>h e (yb _ q);rw[dpB]; lia
theorem Oy{k:Nat}:∀{b:List D},(∀d∈b,d.tm<=k)->tmB b<=k
 |[],_=>by rw[tmB]; lia
 |d::r,h=>by
  have h1:=h d (by simp);have h2:=Oy (k:=k) fun e q=>h e (yb _ q);rw[tmB]; lia
noncomputable def Fb:Nat->Nat
 |0=>0
 |n+1=>6*max 1 (2*Fb n)
theorem HU:∀{n:Nat} {b:List D},fitB n b->dpB b<=n-1/\tmB b<=5/\szB b<=Fb n
 |0,_,h=>h.elim
 |n+1,b,h=>by
  obtain⟨hl,hd⟩:=h;have q:∀d∈b,d.dp<=n/\d.tm<=5/\d.sz<=max 1 (2*Fb n):=by
   intro d hm;have hd:=hd d hm;match d,hd with
   |.set x t,hd=>
    have:=Fa hd.2;exact⟨by rw[D.dp]; lia,by rw[D.tm]; lia,by rw[D.sz]; lia⟩
   |.ite t J c1,hd=>
    have:=Fa hd.1;obtain⟨F,B,z⟩:=HU hd.2.1;obtain⟨U,O,M⟩:=HU hd.2.2;have G:n≠0:=fun e=>by subst e; exact hd.2.1.elim
    exact⟨by rw[D.dp]; lia,by rw[D.tm]; lia,by rw[D.sz]; lia⟩
   |.whl t m J,hd=>
    have:=Fa hd.1;obtain⟨F,B,z⟩:=HU hd.2.2.2;have G:n≠0:=fun e=>by subst e; exact hd.2.2.2.elim
    exact⟨by rw[D.dp]; lia,by rw[D.tm]; lia,by rw[D.sz]; lia⟩
  have e:=Ow fun d hm=>(q d hm).2.2;have Z:=y11 (max 1 (2*Fb n)) hl;exact⟨Ox fun d hm=>(q d hm).1,Oy fun d hm=>(q d hm).2.1,by rw[Fb]; lia⟩
theorem YM(d:Dm):∃r,Dv d r/\(r=true->∃q b,d=BO q b/\FitP q b):=by
 cases h:CJ d with
 |false=>exact⟨false,.inl ⟨h,rfl⟩,fun z=>nomatch z⟩
 |true=>
  obtain⟨q,b,rfl,B⟩:=YL h;obtain⟨h1,h2,F⟩:=HU B.blk;have F:szB b<=864:=F;exact⟨_,.inr ⟨_,b,rfl,h,by lia,h2,by lia,rfl⟩,fun _=>⟨q,b,rfl,B⟩⟩
theorem Fc:∀{n:Nat} {t:T},T.ok Aj n t->t.fit n
 |0,_,h=>h.elim
 |_+1,.num _,h=>h
 |_+1,.nm x,h=>(DO x h).1
 |_+1,.op _ _ _,h=>⟨Fc h.1,Fc h.2⟩
theorem HV:∀{n:Nat} {b:List D},okB n b->fitB n b
 |0,_,h=>h.elim
 |n+1,b,h=>by
  refine⟨h.1,fun d hm=>?_⟩;have hd:=h.2 d hm;match d,hd with
  |.set x t,hd=>exact⟨(DO x hd.1).1,Fc hd.2⟩
  |.ite t q z,hd=>exact⟨Fc hd.1,HV hd.2.1,HV hd.2.2⟩
  |.whl t m q,hd=>exact⟨Fc hd.1,hd.2.1,hd.2.2.1,HV hd.2.2.2⟩
theorem YN{q:List Rw}(h:okRows q):∀r∈q,fitR r:=by
 intro r z;have B:r.1∈pair:=y17 (h.nm ▸ List.mem_map.mpr ⟨r,z,rfl⟩);have hl:=h.lo r z;refine⟨?_,by lia,by lia,by lia⟩;simp only[pair,yu,yo,or_false] at B;rcases B with e|e<;>rw[e]<;>decide+kernel
theorem YO{q:List Rw}{b:List D}(z:okRows q)(hb:okB 3 b):FitP q b:=⟨by have:=z.len; lia,YN z,HV hb⟩
end
section
abbrev Ln:=List Str
noncomputable def Ab(i:Int):Str:=Str.ofString (toString i)
noncomputable def wT:T->List Str
 |.num i=>[Ab i]
 |.nm x=>[x]
 |.op w a b=>w.str::(wT a++wT b)
mutual
noncomputable def wlD:D->List Ln
 |.set x t=>["set"::x::wT t]
 |.ite t b c=>("if"::wT t)::(wlB b++(["else"]:Ln)::(wlB c++[(["end"]:Ln)]))
 |.whl t m b=>("while"::Ab m::wT t)::(wlB b++[(["end"]:Ln)])
noncomputable def wlB:List D->List Ln
 |[]=>[]
 |d::r=>wlD d++wlB r
end
noncomputable def jw(ws:Ln):Str:=Str.join ⟨#[32]⟩ ws
noncomputable def BI(r:Rw):Ln:=["in",r.1,Ab r.2.1,Ab r.2.2]
noncomputable def wlP(q:List Rw)(b:List D):List Ln:=q.map BI++wlB b
noncomputable def nlT:List Str->Str
 |[]=>Str.empty
 |l::r=>l++⟨#[10]⟩++nlT r
noncomputable def Ae(q:List Rw)(b:List D):Str:=nlT ((wlP q b).map jw)
theorem LH:∀ls:List Str,nlT ls=Str.join ⟨#[10]⟩ (ls++[Str.empty])
 |[]=>rfl
 |[l]=>rfl
 |l::m::r=>by
  rw[nlT,LH (m::r)];rfl
noncomputable def deeds3:List Str:=["set","if","while"]
noncomputable def Dw(z:Str):Dm:=if Aq z=true then .tup [.str "num",.int (B9 z)] else .tup [.str "name",.str z]
noncomputable def Oz(w:Str):List Dm->Option (List Dm)
 |a::b::r=>some (.tup [.str w,a,b]::r)
 |_=>none
noncomputable def Ay(w:Str):Option (List Dm)->Option (List Dm)
 |none=>none
 |some r=>if words.contains w=true then Oz w r else some (Dw w::r)
noncomputable def YQ:Option (List Dm)->Option Dm
 |some [d]=>some d
 |_=>none
noncomputable def BA(ws:Ln):Option Dm:=YQ (ws.foldr Ay (some []))
noncomputable def Bg(z:Str):Option Int:=if Aq z=true then some (B9 z) else none
noncomputable def inF:Ln->Option Dm
 |[_,x,a,b]=>(Bg a).bind fun i=>(Bg b).bind fun j=>some (.tup [.str x,.int i,.int j])
 |_=>none
noncomputable def BJ:List Ln->Option (List Dm×List Ln)
 |[]=>none
 |l::r=>if l.headD "" = "in" then(inF l).bind fun d=>(BJ r).bind fun p=>some (d::p.1,p.2) else some ([],l::r)
noncomputable def BB(w:Str):List Ln->Option (List Ln)
 |[]=>none
 |l::r=>if l=[w] then some r else none
noncomputable def deF(B:List Ln->Option (Dm×List Ln)):List Ln->Option (Dm×List Ln)
 |(h::x::ws)::r=>
  if h = "set" then(BA ws).bind fun t=>some (.tup [.str "set",.str x,t],r)
  else(B r).bind fun p=>if h = "while" then(BB "end" p.2).bind fun z=>(BA ws).bind fun t=>(Bg x).bind fun m=>some (.tup [.str "while",t,.int m,p.1],z)
   else(BB "else" p.2).bind fun z=>(B z).bind fun q=>(BB "end" q.2).bind fun F=>(BA (x::ws)).bind fun t=>some (.tup [.str "if",t,p.1,q.1],F)
 |_=>none
noncomputable def dsF(L:List Ln->Option (Dm×List Ln)):Nat->List Ln->Option (List Dm×List Ln)
 |0,ls=>some ([],ls)
 |k+1,ls=>if deeds3.contains ((ls.headD []).headD "")=true then(L ls).bind fun p=>(dsF L k p.2).bind fun q=>some (p.1::q.1,q.2) else some ([],ls)
noncomputable def blF:Nat->List Ln->Option (Dm×List Ln)
 |0,_=>none
 |n+1,ls=>(dsF (deF (blF n)) ls.length ls).bind fun p=>some (.tup p.1,p.2)
noncomputable def EZ(ls:List Ln):Option Dm:=(BJ ls).bind fun p=>(blF 3 p.2).bind fun q=>some (.tup [.tup p.1,q.1])
noncomputable def Bp(z:Str):List Ln:=((Txt.split z ⟨#[10]⟩).map fun l=>Txt.split l ⟨#[32]⟩)++[[Str.empty]]
noncomputable def DP(z:Str):Option Dm:=EZ (Bp z)
theorem Fd(w:Wd):(∀c∈w.str.cps.toList,97<=c)/\3<=w.str.length/\w.str.length<=4/\Pl w.str:=by
 have h:w.str.cps.toList.all (fun c=>decide (97<=c))=true/\3<=w.str.length/\w.str.length<=4:=by cases w<;>exact⟨by decide+kernel,by decide+kernel,by decide+kernel⟩
 have h1:∀c∈w.str.cps.toList,97<=c:=fun c hc=>of_decide_eq_true (List.all_eq_true.mp h.1 c hc);exact⟨h1,h.2.1,h.2.2,fun c hc=>by have:=h1 c hc; lia⟩
theorem DQ{x:Str}(h:Ao x=true):1<=x.length/\x.length<=2/\(∀c∈x.cps.toList,97<=c/\c<=122):=by
 rw[Ao,y8,y8,decide_eq_true_iff,decide_eq_true_iff,y16] at h;exact⟨h.1.1,h.1.2,fun c hc=>YI c (h.2 c hc)⟩
theorem HW{x:Str}(h:Ao x=true):words.contains x=false/\Aq x=false/\Pl x:=by
 obtain⟨h1,h2,z⟩:=DQ h;refine⟨?_,?_,fun c hc=>by have:=z c hc; lia⟩
 ·cases e:words.contains x with
  |false=>rfl
  |true=>
   obtain⟨w,rfl⟩:=LF e;have:=(Fd w).2.1;lia
 ·have B:AO x=x:=HQ fun F e=>by
   have:=z 45 (by rw[e]; simp);lia
  cases e:Aq x with
  |false=>rfl
  |true=>
   rw[Aq,y8,y8,y8,B,y16] at e;have hl:=h1;rw[Ba] at hl;cases q:x.cps.toList with
   |nil=>rw[q] at hl; exact absurd hl (by decide)
   |cons c r=>
    have a:=(L8 c).mp (e.1.2 c (by rw[q]; simp));have b:=z c (by rw[q]; simp);lia
theorem P0(i:Int):Ab i≠Str.empty/\∀c∈(Ab i).cps.toList,c<97:=by
 have key:∀l:List Nat,(Ab i).cps.toList=l->l≠[]->(∀c∈l,c<97)->Ab i≠Str.empty/\∀c∈(Ab i).cps.toList,c<97:=fun l e h1 h2=>by
  refine⟨fun q=>h1 (e.symm.trans (by rw[q]; rfl)),fun c hc=>h2 c (e ▸ hc)⟩
 cases i with
 |ofNat m=>exact key _ (L9 m) (HP m) fun c hc=>by have:=HN m c hc; lia
 |negSucc m=>
  refine key _ (Ot m) (by simp) fun c hc=>?_;rcases List.mem_cons.mp hc with rfl|hc
  ·decide
  ·have:=HN (m+1) c hc;lia
theorem YR(i:Int):words.contains (Ab i)=false:=by
 obtain⟨h1,h2⟩:=P0 i;cases e:words.contains (Ab i) with
 |false=>rfl
 |true=>
  obtain⟨w,q⟩:=LF e;have z:=Fd w;rw[<- q] at z;cases r:(Ab i).cps.toList with
  |nil=>exact absurd (L7 (r.trans rfl)) h1
  |cons c l=>
   have a:=h2 c (by rw[r]; simp);have b:=z.1 c (by rw[r]; simp);lia
theorem LJ:∀{n:Nat} {t:T},t.fit n->∀r,(wT t).foldr Ay (some r)=some (t.enc::r)
 |0,_,h,_=>h.elim
 |n+1,.num i,h,r=>by
  obtain⟨z,q,_⟩:=C5 (i:=i) (by have:=h.1; lia) (by have:=h.2; lia);show Ay (Ab i) (some r)=_;rw[Ay,if_neg (by rw[YR]; decide),Dw,if_pos (show Aq (Ab i)=true from z),show B9 (Ab i)=i from q];rfl
 |n+1,.nm x,h,r=>by
  obtain⟨z,q,_⟩:=HW h;show Ay x (some r)=_;rw[Ay,if_neg (by rw[z]; decide),Dw,if_neg (by rw[q]; decide)];rfl
 |n+1,.op w a b,h,r=>by
  show Ay w.str ((wT a++wT b).foldr Ay (some r))=_;rw[List.foldr_append,LJ h.2,LJ h.1,Ay,if_pos (show words.contains w.str=true from w.in_.1)];rfl
theorem LK{n:Nat}{t:T}(h:t.fit n):BA (wT t)=some t.enc:=by
 rw[BA,LJ h]; rfl
theorem LL{i:Int}(h1 : -999999<=i)(h2:i<=999999):Bg (Ab i)=some i:=by
 obtain⟨z,q,_⟩:=C5 h1 h2;rw[Bg,if_pos (show Aq (Ab i)=true from z),show B9 (Ab i)=i from q]
noncomputable def LM(rest:List Ln):Prop:=rest≠[]/\deeds3.contains ((rest.headD []).headD "")=false
theorem HX:∀t:T,∃x r,wT t=x::r
 |.num i=>⟨_,_,rfl⟩
 |.nm x=>⟨_,_,rfl⟩
 |.op w a b=>⟨_,_,rfl⟩
theorem P1:∀d:D,∃l r,wlD d=l::r/\deeds3.contains (l.headD "")=true
 |.set x t=>⟨"set"::x::wT t,_,by rw[wlD],show deeds3.contains "set" = true by decide+kernel⟩
 |.ite t b c=>⟨"if"::wT t,_,by rw[wlD],show deeds3.contains "if" = true by decide+kernel⟩
 |.whl t m b=>⟨"while"::Ab m::wT t,_,by rw[wlD],show deeds3.contains "while" = true by decide+kernel⟩
theorem YS(r:List Ln):LM ((["else"]:Ln)::r):=⟨by simp,show deeds3.contains "else" = false by decide+kernel⟩
theorem P2(r:List Ln):LM ((["end"]:Ln)::r):=⟨by simp,show deeds3.contains "end" = false by decide+kernel⟩
theorem LN(w:Str)(r:List Ln):BB w ([w]::r)=some r:=by rw[BB,if_pos rfl]
theorem HY:∀{n:Nat} {b:List D},fitB n b->∀rest,LM rest->blF n (wlB b++rest)=some (.tup (AM b),rest)
 |0,_,h,_,_=>h.elim
 |n+1,b,h,rest,B=>by
  have key:∀(b:List D),(∀d∈b,match d with
    |.set x t=>Ao x=true/\t.fit 5
    |.ite t b c=>t.fit 5/\fitB n b/\fitB n c
    |.whl t m b=>t.fit 5/\0<=m/\m<=20/\fitB n b)->∀k,(wlB b++rest).length<=k->dsF (deF (blF n)) k (wlB b++rest)=some (AM b,rest):=by
   intro b;induction b with
   |nil=>
    intro _ k hk;have hk:rest.length<=k:=hk;cases k with
    |zero=>exact absurd (List.length_eq_zero_iff.mp (Nat.le_zero.mp hk)) B.1
    |succ k=>
     rw[dsF];exact if_neg (by show ¬ deeds3.contains ((rest.headD []).headD "")=true; rw[B.2]; decide)
   |cons d b F=>
    intro hb k hk;obtain⟨l,r,e,hd⟩:=P1 d;have hl:(wlB (d::b)++rest).length=(wlD d).length+(wlB b++rest).length:=by rw[wlB]; simp only[yj]; lia
    have J:1<=(wlD d).length:=by rw[e]; simp
    cases k with
    |zero=>lia
    |succ k=>
     have G:deF (blF n) (wlB (d::b)++rest)=some (d.enc,wlB b++rest):=by
      have hd:=hb d (by simp);rw[wlB,y0v];match d,hd with
      |.set x t,hd=>
       rw[wlD];show deF (blF n) (("set"::x::wT t)::(wlB b++rest))=_;rw[deF,if_pos rfl,LK hd.2];rfl
      |.ite t U Z,hd=>
       obtain⟨x,ws,O⟩:=HX t;have z:=LK hd.1;rw[wlD,y0y,y0v,y0y,y0v];rw[O] at z |-;rw[deF,if_neg (by decide+kernel),HY hd.2.1 _ (YS _),yh];dsimp only;rw[if_neg (by decide+kernel),LN,yh,List.singleton_append,HY hd.2.2 _ (P2 _),yh];dsimp only;rw[LN,z];rfl
      |.whl t m U,hd=>
       rw[wlD,y0y,y0v,deF,if_neg (by decide+kernel),List.singleton_append,HY hd.2.2.2 _ (P2 _),yh];dsimp only;rw[if_pos rfl,LN,LK hd.1,LL (by lia) (by lia)];rfl
     rw[dsF,if_pos (by rw[wlB,e]; exact hd),G];show((dsF (deF (blF n)) k (wlB b++rest)).bind fun q=>some (d.enc::q.1,q.2))=_;rw[F (fun e M=>hb e (yb _ M)) k (by lia)];rfl
  rw[blF,key b h.2 _ (yf _)];rfl
end
section
theorem DR:∀{n:Nat} {t:T},t.fit n->∀w∈wT t,Pl w/\w.length<=7
 |0,_,h=>h.elim
 |n+1,.num i,h=>by
  intro w hw;rw[List.mem_singleton.mp hw];exact(C5 (i:=i) (by have:=h.1; lia) (by have:=h.2; lia)).2.2
 |n+1,.nm x,h=>by
  intro w hw;rw[List.mem_singleton.mp hw];exact⟨(HW h).2.2,by have:=(DQ h).2.1; lia⟩
 |n+1,.op w a b,h=>by
  intro z hz;rcases List.mem_cons.mp hz with rfl|hz
  ·exact⟨(Fd w).2.2.2,by have:=(Fd w).2.2.1; lia⟩
  ·exact(List.mem_append.mp hz).elim (DR h.1 z) (DR h.2 z)
theorem Ea:∀{n:Nat} {t:T},t.fit n->(wT t).length<2^n
 |0,_,h=>h.elim
 |n+1,.num i,h=>by show 1<_; have:=Nat.one_le_two_pow (n:=n); lia
 |n+1,.nm x,h=>by show 1<_; have:=Nat.one_le_two_pow (n:=n); lia
 |n+1,.op w a b,h=>by
  have:=Ea h.1;have:=Ea h.2;rw[wT,ya,yj]; lia
noncomputable def okL(l:Ln):Prop:=l≠[]/\l.length<=33/\∀w∈l,Pl w/\w.length<=7
theorem P3{z:Str}(h:Pl z)(hl:z.length<=7):okL [z]:=⟨by simp,by simp,fun w hw=>by rw[List.mem_singleton.mp hw]; exact⟨h,hl⟩⟩
theorem DS{z:Str}(h:z.cps.toList.all (fun c=>decide (33<=c))=true):Pl z:=fun c hc=>of_decide_eq_true (List.all_eq_true.mp h c hc)
theorem Eb{z:Str}{l:Ln}(h:Pl z)(hl:z.length<=7)(q:l.length<=32)(hw:∀w∈l,Pl w/\w.length<=7):okL (z::l):=⟨by simp,by rw[ya]; lia,fun w hm=>(List.mem_cons.mp hm).elim (fun e=>e ▸ ⟨h,hl⟩) (hw w)⟩
noncomputable def lnN:Nat->Nat
 |0=>0
 |n+1=>6*(3+2*lnN n)
theorem LO{k:Nat}{P:Ln->Prop}:∀{b:List D},(∀d∈b,(wlD d).length<=k/\∀l∈wlD d,P l)->(wlB b).length<=b.length*k/\∀l∈wlB b,P l
 |[],_=>⟨by rw[wlB]; simp,by rw[wlB]; exact fun _ h=>nomatch h⟩
 |d::r,h=>by
  obtain⟨G,z⟩:=h d (by simp);obtain⟨F,q⟩:=LO (k:=k) (P:=P) fun e B=>h e (yb _ B);rw[wlB];refine⟨by rw[yj,ya,Nat.add_mul]; lia,fun l hl=>(List.mem_append.mp hl).elim (z l) (q l)⟩
theorem CK:∀{n:Nat} {b:List D},fitB n b->(wlB b).length<=lnN n/\∀l∈wlB b,okL l
 |0,_,h=>h.elim
 |n+1,b,h=>by
  have B:Pl "if":=DS (by decide+kernel);have z:okL ["else"]:=P3 (DS (by decide+kernel)) (by decide+kernel);have q:okL ["end"]:=P3 (DS (by decide+kernel)) (by decide+kernel);have key:=LO (k:=3+2*lnN n) (P:=okL) (b:=b) fun d hm=>by
   have hd:=h.2 d hm;match d,hd with
   |.set x t,hd=>
    have a:=DR hd.2;have e:(wT t).length<32:=Ea hd.2;rw[wlD];refine⟨by rw[y01]; lia,fun l hl=>?_⟩;rw[List.mem_singleton.mp hl];refine Eb (DS (by decide+kernel)) (by decide+kernel) (by rw[ya]; lia) (List.forall_mem_cons.mpr ⟨⟨(HW hd.1).2.2,by have:=(DQ hd.1).2.1; lia⟩,a⟩)
   |.ite t M U,hd=>
    have a:=DR hd.1;have e:(wT t).length<32:=Ea hd.1;obtain⟨J,F⟩:=CK hd.2.1;obtain⟨O,G⟩:=CK hd.2.2;rw[wlD];refine⟨by simp only[ya,yj,y2b]; lia,List.forall_mem_cons.mpr ⟨Eb B (by decide+kernel) (by lia) a,fun l hl=>?_⟩⟩;rcases List.mem_append.mp hl with hl|hl
    ·exact F l hl
    rcases List.mem_cons.mp hl with rfl|hl
    ·exact z
    rcases List.mem_append.mp hl with hl|hl
    ·exact G l hl
    ·rw[List.mem_singleton.mp hl]; exact q
   |.whl t m M,hd=>
    have a:=DR hd.1;have e:(wT t).length<32:=Ea hd.1;obtain⟨J,F⟩:=CK hd.2.2.2;have hm:=(C5 (i:=m) (by have:=hd.2.1; lia) (by have:=hd.2.2.1; lia)).2.2;rw[wlD];refine⟨by simp only[ya,yj,y2b]; lia,List.forall_mem_cons.mpr ⟨Eb (DS (by decide+kernel)) (by decide+kernel) (by rw[ya]; lia) (List.forall_mem_cons.mpr ⟨hm,a⟩),fun l hl=>?_⟩⟩;rcases List.mem_append.mp hl with hl|hl
    ·exact F l hl
    ·rw[List.mem_singleton.mp hl]; exact q
  have e:=y11 (3+2*lnN n) h.1;exact⟨by rw[lnN]; lia,key.2⟩
theorem P4{r:Rw}(h:fitR r):okL (BI r):=by
 obtain⟨h1,h2,z,q⟩:=h;refine Eb (DS (by decide+kernel)) (by decide+kernel) (by simp) ?_;refine List.forall_mem_cons.mpr ⟨⟨(HW h1).2.2,by have:=(DQ h1).2.1; lia⟩,List.forall_mem_cons.mpr ⟨(C5 (by lia) (by lia)).2.2,List.forall_mem_cons.mpr ⟨(C5 (by lia) (by lia)).2.2,fun _ h=>nomatch h⟩⟩⟩
theorem Fe{q:List Rw}{b:List D}(h:FitP q b):(wlP q b).length<=2830/\∀l∈wlP q b,okL l:=by
 obtain⟨z,B⟩:=CK h.blk;have z:(wlB b).length<=2826:=z;have:=h.len;refine⟨by rw[wlP,yj,y4]; lia,fun l hl=>?_⟩;rcases List.mem_append.mp hl with hl|hl
 ·obtain⟨r,F,rfl⟩:=List.mem_map.mp hl;exact P4 (h.rows r F)
 ·exact B l hl
theorem HZ{c B:Nat}:∀{ws:List Str},(∀w∈ws,w.length<=B)->(Str.join ⟨#[c]⟩ ws).length<=ws.length*(B+1)
 |[],_=>y0i _
 |[x],h=>by
  have:=h x (by simp);show x.length<=1*_;lia
 |x::y::r,h=>by
  have h1:=h x (by simp);have h2:=HZ (c:=c) (ws:=y::r) fun w hw=>h w (yb _ hw);rw[Ba,EY,yj,ya,<- Ba,<- Ba,ya,Nat.add_mul];lia
theorem Ec{l:Ln}(h:okL l):(jw l).length<=264:=by
 have e:=HZ (c:=32) fun w hw=>(h.2.2 w hw).2;have:=h.2.1;rw[jw]; lia
theorem He{B:Nat}:∀{ls:List Str},(∀l∈ls,l.length<=B)->(nlT ls).length<=ls.length*(B+1)
 |[],_=>y0i _
 |x::r,h=>by
  have h1:=h x (by simp);have h2:=He (ls:=r) fun w hw=>h w (yb _ hw);rw[nlT,yc,yc,ya,Nat.add_mul];show x.length+1+_<=_;lia
theorem YT{q:List Rw}{b:List D}(h:FitP q b):(Ae q b).length<=1000000:=by
 obtain⟨F,z⟩:=Fe h;have e:=He (B:=264) (ls:=(wlP q b).map jw) fun l hl=>by
  obtain⟨w,hw,rfl⟩:=List.mem_map.mp hl;exact Ec (z w hw)
 rw[y4] at e;rw[Ae]; lia
theorem LP{c:Nat}(hc:32<=c):∀{ws:List Str},(∀w∈ws,Pl w)->∀d∈(Str.join ⟨#[c]⟩ ws).cps.toList,32<=d
 |[],_,d,hd=>by cases hd
 |[x],h,d,hd=>by have:=h x (by simp) d hd; lia
 |x::y::r,h,d,hd=>by
  rw[EY] at hd;rcases List.mem_append.mp hd with hd|hd
  ·have:=h x (by simp) d hd; lia
  rcases List.mem_cons.mp hd with rfl|hd
  ·exact hc
  ·exact LP hc (fun w hw=>h w (yb _ hw)) d hd
theorem YU{l:Ln}(h:okL l):Txt.split (jw l) ⟨#[32]⟩=l:=HM h.1 fun w hw=>(h.2.2 w hw).1.no (by decide)
theorem YV{q:List Rw}{b:List D}(h:FitP q b):Bp (Ae q b)=wlP q b++[[Str.empty],[Str.empty]]:=by
 obtain⟨G,z⟩:=Fe h;have e:Txt.split (Ae q b) ⟨#[10]⟩=(wlP q b).map jw++[Str.empty]:=by
  rw[Ae,LH];refine HM (by simp) fun x hx=>?_;rcases List.mem_append.mp hx with hx|hx
  ·obtain⟨l,hl,rfl⟩:=List.mem_map.mp hx;intro m;have:=LP (yf 32) (fun w hw=>((z l hl).2.2 w hw).1) 10 m;lia
  ·rw[List.mem_singleton.mp hx];exact fun m=>nomatch m
 have F:Txt.split Str.empty ⟨#[32]⟩=[Str.empty]:=HM (c:=32) (xs:=[Str.empty]) (by simp) (fun x hx=>by rw[List.mem_singleton.mp hx]; exact fun m=>nomatch m);rw[Bp,e,yd,y23,y0x,F,y0v];have B:((wlP q b).map ((fun l=>Txt.split l ⟨#[32]⟩) ∘ jw))=wlP q b:=by
  conv=>rhs; rw[<- List.map_id (wlP q b)]
  exact List.map_congr_left fun l hl=>YU (z l hl)
 rw[B];rfl
theorem P5{rest:List Ln} (z:rest≠[]/\(rest.headD []).headD "" ≠ "in"):∀{q:List Rw},(∀r∈q,fitR r)->BJ (q.map BI++rest)=some (q.map Al,rest)
 |[],_=>by
  cases rest with
  |nil=>exact absurd rfl z.1
  |cons l r=>
   show BJ (l::r)=_;rw[BJ,if_neg (show ¬ l.headD "" = "in" from z.2)];rfl
 |r::q,h=>by
  obtain⟨h1,h2,G,F⟩:=h r (by simp);show BJ (BI r::(q.map BI++rest))=_;rw[BJ,if_pos (show(BI r).headD "" = "in" from rfl),BI,inF,LL (by lia) (by lia),LL (by lia) (by lia),P5 z fun s B=>h s (yb _ B)];rfl
theorem LQ{B:List Rw}{b:List D}(h:FitP B b):DP (Ae B b)=some (BO B b):=by
 rw[DP,YV h,EZ,wlP,y0v];have F:(wlB b++[[Str.empty],[Str.empty]])≠[]/\((wlB b++[[Str.empty],[Str.empty]]).headD []).headD "" ≠ "in":=by
  refine⟨by simp,?_⟩;cases b with
  |nil=>rw[wlB]; show(Str.empty:Str)≠"in"; decide+kernel
  |cons d r=>
   obtain⟨l,q,e,hd⟩:=P1 d;rw[wlB,e];intro z;have z:l.headD "" = "in":=z;rw[z] at hd;exact absurd hd (by decide+kernel)
 rw[P5 F h.rows,yh];dsimp only;rw[HY h.blk _ ⟨by simp,by show deeds3.contains Str.empty=false; decide+kernel⟩];rfl
end
end
section
theorem P6{z:Type}{f:z->Dm}{H:Hp}{xs:List V}{b:List z}{i:Nat}{x:V}(h:DtA H xs (b.map f))(hx:xs[i]?=some x):∃d,b[i]?=some d/\Dt H x (f d):=by
 obtain⟨e,q,B⟩:=h.get hx;rw[y0b] at q;cases hb:b[i]? with
 |none=>rw[hb] at q; cases q
 |some d=>
  rw[hb] at q;have:f d=e:=by simpa using q
  subst this;exact⟨d,rfl,B⟩
theorem YW{K:y3}{ta:TA}{g:TG}{tb:TS}{D:Ends}{σ:St}{H:Hp}:CM (N0 K ta) g tb D σ H=ta σ H fun vs H1=>∃a xs,vs=[.ref a]/\SqL K H1 a xs/\CV (Itv K a xs.length) g tb D σ H1:=rfl
theorem YX{K:y3}{a:Addr}{xs:List V}{g:TG}{tb:TS}{D:Ends}{σ:St}{H:Hp}(z:Nat->St->Hp->Prop)(O:z 0 σ H)(hl:∀i σ H,i<=xs.length->z i σ H->SqL K H a xs)
  (M:∀i x σ H,i<xs.length->xs[xs.length-1-i]?=some x->z i σ H->g x σ H fun F H2=>tb {D with nx:=z (i+1),ct:=z (i+1),bk:=D.nx} F H2) (hd:∀ σ H,z xs.length σ H->D.nx σ H):CV (Itv K a xs.length) g tb D σ H:=by
 refine⟨fun i m σ H=>m=xs.length-i/\i<=xs.length/\z i σ H,⟨xs.length,by simp,y0i _,O⟩,?_⟩;rintro i m σ H ⟨rfl,hi,p⟩;have q:=hl i σ H hi p;by_cases B:i<xs.length
 ·refine .inr ⟨⟨B,xs,xs[xs.length-1-i]'(by lia),q,y0u (by lia)⟩,z (i+1),fun G H' J=>⟨xs.length-(i+1),by lia,rfl,B,J⟩,fun x H' y=>?_⟩;obtain⟨e,y⟩:=y;subst e;exact M i x σ _ B (y xs q) p
 ·have e:i=xs.length:=by lia
  subst e;exact .inl ⟨rfl,hd σ H p⟩
end
local macro_rules|`(tactic|walk_at "rdt")=>rdS (rdA++" SB SD SE") (rdB++" ME MF MG Mu Mv Mr Mw tJs tJn tJc My NA YW Mp Mq SA QU QV QY QZ Mm Mk Mi Mj")
section
variable{P:yl}{w:y08}{K:y3}{mg:Str->Option y9}{base:Heap}{f:Addr}{fd:y14}
noncomputable def Ff(n:Nat):Sp:=fun vs H Q _=>∃(v:V) (t:T),vs=[v]/\Dt H v t.enc/\t.fit n/\n<=5/\∀(r:Addr) (H':Hp),Same H H'->H r=none->H' r=some (.lst ((wT t).map V.str))->Q (.ref r) H'
theorem Dx{n:Nat}{t:T}(h:t.fit n)(q:n<=5):(wT t).length<32:=yw (Ea h) (Nat.pow_le_pow_right (by decide) q)
theorem D1{i:Int}(h1 : -999999<=i)(h2:i<=999999):i.natAbs.log2<1920:=by
 have:i.natAbs<2^20:=by lia
 by_cases h:i.natAbs=0
 ·rw[h]; decide
 ·have:=(Nat.log2_lt h).mpr this;lia
theorem YY{n:Nat} (F:Fun K "words_of_term" "words_of_term" De f fd) (b_str:mg "str" = none) (c_words_of_term:Callee P w K mg base "words_of_term" ["term"] (n+1) (Ff n)):FnOk P w K mg base CX0 (n+2) f fd ["term"] (Ff (n+1)):=by
 refine F.ok Ux (fun vs H Q E h=>?_) (fun aa A outer s H vs Q E M h=>?_)
 ·obtain⟨v,t,rfl,_⟩:=h;rfl
 obtain⟨v,t,rfl,hd,G,hn,q⟩:=h;refine⟨_,(A7 (AH (AI (gEq M.units) (A9 AD (A1 0 rfl Dg) A3 (fun _ _=>rfl)) AA (AG _)) (A8 (AC (AT (A0 (BL E6 Uy b_str DE (A0 (A9 AD (A1 0 rfl Dg) A3 (fun _ _=>rfl)) A2) DG DF) A2)))) AJ)
 (A7 (AH (AI (gEq M.units) (A9 AD (A1 0 rfl Dg) A3 (fun _ _=>rfl)) AA (AG _)) (A8 (AC (AT (A0 (A9 AD (A1 0 rfl Dg) A3 (fun _ _=>rfl)) A2)))) AJ)
 (A8 (AC (A5 BD (A5 BD (AT (A0 (A9 AD (A1 0 rfl Dg) A3 (fun _ _=>rfl)) A2)) (AB c_words_of_term M (by lia) (A0 (A9 AD (A1 0 rfl Dg) A3 (fun _ _=>rfl)) A2) Nq F6)) (AB c_words_of_term M (by lia) (A0 (A9 AD (A1 0 rfl Dg) A3 (fun _ _=>rfl)) A2) Nq F6)))))),?_⟩
 walk_at "rdt";cases t with
 |num i=>
  rw[T.enc] at hd;obtain⟨a,x0,O,rfl,z,t0,J⟩:=CG hd;refine⟨_,rfl,_,SqT.of z,_,rfl,_,AN t0,?_⟩;rw[if_pos (show eqS (.str "num") "num" = true from by decide+kernel)];cases J;exact⟨_,rfl,_,SqT.of z,_,rfl,_,rfl,D1 (by have:=G.1; lia) (by have:=G.2; lia),zl 1 (by decide),fun r hr'=>q r _ (A6 hr' _) hr' A4⟩
 |nm x=>
  rw[T.enc] at hd;obtain⟨a,x0,O,rfl,z,t0,J⟩:=CG hd;refine⟨_,rfl,_,SqT.of z,_,rfl,_,AN t0,?_⟩;rw[if_neg (show ¬ eqS (.str "name") "num" = true from by decide+kernel)];refine⟨_,rfl,_,SqT.of z,_,rfl,_,AN t0,?_⟩;rw[if_pos (show eqS (.str "name") "name" = true from by decide+kernel)];cases J;exact⟨_,rfl,_,SqT.of z,_,rfl,zl 1 (by decide),fun r hr'=>q r _ (A6 hr' _) hr' A4⟩
 |op w a b=>
  rw[T.enc] at hd;obtain⟨ad,x0,O,x2,rfl,z,t0,J,t2⟩:=BM hd;refine⟨_,rfl,_,SqT.of z,_,rfl,_,AN t0,?_⟩;rw[if_neg (by rw[w.ne.1]; decide)];refine⟨_,rfl,_,SqT.of z,_,rfl,_,AN t0,?_⟩;rw[if_neg (by rw[w.ne.2]; decide)];cases t0;have la:=Dx G.1 (by lia);have lb:=Dx G.2 (by lia);refine⟨_,rfl,_,SqT.of z,_,rfl,zl 1 (by decide),fun r0 h0=>?_⟩;have Z:=A6 h0 (HO.lst [V.str w.str]);refine⟨_,rfl,_,SqT.of (Z _ _ z),_,rfl,O,a,rfl,J.kp Z.kp,G.1,by lia,fun r1 H1 s1 n1 e1=>?_⟩;refine⟨_,rfl,_,s1 _ _ A4,_,e1,zl _ (by simp; lia),fun p2 h2=>?_⟩;have s2:=A6 h2 (HO.lst ([V.str w.str]++(wT a).map V.str));have B:=Z.trans (s1.trans s2);refine⟨_,rfl,_,SqT.of (B _ _ z),_,rfl,x2,b,rfl,t2.kp B.kp,G.2,by lia,fun r3 H3 U n3 e3=>?_⟩;refine⟨_,rfl,_,U _ _ A4,_,e3,zl _ (by simp; lia),fun p4 h4=>?_⟩;have s4:=A6 h4 (HO.lst ([V.str w.str]++(wT a).map V.str++(wT b).map V.str));refine q p4 _ (B.trans (U.trans s4)) ((B.trans U).free h4) ?_;rw[A4,wT,yv,yd];rfl
theorem Hf{ps:List Str}{k:Nat}{sp:Sp}(h:∀vs H Q E,¬ sp vs H Q E):FnOk P w K mg base CX0 k f fd ps sp:=⟨fun vs H Q E z=>(h vs H Q E z).elim,fun _ _ _ H _ _ vs Q E _ _ _ _ z=>(h vs H Q E z).elim⟩
theorem P7(d:Df K mg "words_of_term" De ["term"] f fd) (b_str:mg "str" = none):∀n:Nat,Callee P w K mg base "words_of_term" ["term"] (n+1) (Ff n)
 |0=>d.callee (Hf fun vs H Q E h=>by obtain⟨v,t,rfl,_,q,_⟩:=h; exact q.elim)
 |n+1=>d.callee (YY d.F b_str (P7 d b_str n))
abbrev YZ(n:Nat)(d:D):Prop:=match d with
  |.set x t=>Ao x=true/\t.fit 5
  |.ite t b c=>t.fit 5/\fitB n b/\fitB n c
  |.whl t m b=>t.fit 5/\0<=m/\m<=20/\fitB n b
noncomputable def lnV(ls:List Ln):List V:=(ls.map jw).map V.str
noncomputable def P8(n:Nat):Sp:=fun vs H Q _=>∃(v:V) (d:D),vs=[v]/\Dt H v d.enc/\YZ n d/\n<=2/\∀(r:Addr) (H':Hp),Same H H'->H r=none->H' r=some (.lst (lnV (wlD d)))->Q (.ref r) H'
noncomputable def Hg(n:Nat):Sp:=fun vs H Q _=>∃(v:V) (b:List D),vs=[v]/\Dt H v (.tup (AM b))/\fitB n b/\n<=3/\∀(r:Addr) (H':Hp),Same H H'->H r=none->H' r=some (.lst (lnV (wlB b)))->Q (.ref r) H'
theorem Hh{n:Nat}(h:n<=3):lnN n<=2826:=by
 rcases(by lia:n=0\/n=1\/n=2\/n=3) with rfl|rfl|rfl|rfl<;>decide
theorem D2(ls:List Ln):(lnV ls).length=ls.length:=by rw[lnV,y4,y4]
theorem Ya(a b:List Ln):lnV (a++b)=lnV a++lnV b:=by rw[lnV,yd,yd]; rfl
theorem Hi(ws:Ln):Txt.join " " ws=jw ws:=by
 show Builtin.Str.glued " " ws=_;rw[y1y,jw,show(" " : Str)=⟨#[32]⟩ from by decide+kernel]
theorem Fg{q:Str}{ws:List Str}{B:Nat}(h:∀w∈ws,w.length<=B)(z:ws.length*(B+q.length)<=16000000):JoinOk q ws=true:=by
 rw[JoinOk,StrLaws.joinFits h (by rw[<- Nat.mul_add]; lia)];rfl
theorem LR{l:Ln}(h:okL l):JoinOk " " l=true:=by
 refine Fg (B:=7) (fun w hw=>(h.2.2 w hw).2) ?_;have:=h.2.1;have e:(" " : Str).length=1:=by decide+kernel
 rw[e]; lia
theorem Yb{n:Nat} (F:Fun K "lines_of_deed" "lines_of_deed" CQ f fd) (b_str:mg "str" = none) (c_words_of_term:Callee P w K mg base "words_of_term" ["term"] 6 (Ff 5)) (c_lines_of_block:Callee P w K mg base "lines_of_block" ["block"] (2*n+7) (Hg n)):FnOk P w K mg base CX0 (2*n+8) f fd ["deed"] (P8 n):=by
 refine F.ok sc_lines_of_deed (fun vs H Q E h=>?_) (fun af A outer s H vs Q E hr h=>?_)
 ·obtain⟨v,t,rfl,_⟩:=h;rfl
 obtain⟨v,d,rfl,hd,z,hn,q⟩:=h;refine⟨_,(A7 (AH (AI (gEq hr.units) (A9 AD (A1 0 rfl CS) A3 (fun _ _=>rfl)) AA (AG _)) (A8 (AC (AT (A0 (Ak y07 y0t y0s DD AA (A0 (A5 BD (AT (A0 AA (A0 (A9 AD (A1 0 rfl CS) A3 (fun _ _=>rfl)) A2))) (AB c_words_of_term hr (by lia) (A0 (A9 AD (A1 0 rfl CS) A3 (fun _ _=>rfl)) A2) Jv F6)) A2)) A2)))) AJ)
 (A7 (AH (AI (gEq hr.units) (A9 AD (A1 0 rfl CS) A3 (fun _ _=>rfl)) AA (AG _)) (A7 (AK (i:=1) sc_lines_of_deed.nd rfl No (Ak y07 y0t y0s DD AA (A0 (A5 BD (AT (A0 AA A2)) (AB c_words_of_term hr (by lia) (A0 (A9 AD (A1 0 rfl CS) A3 (fun _ _=>rfl)) A2) Jv F6)) A2)) (AF rfl))
 (A8 (AC (A5 BD (A5 BD (A5 BD (A5 BD (AT (A0 (A1 1 rfl Np) A2)) (AB c_lines_of_block hr (by lia) (A0 (A9 AD (A1 0 rfl CS) A3 (fun _ _=>rfl)) A2) Ju Gi)) (AT (A0 AA A2))) (AB c_lines_of_block hr (by lia) (A0 (A9 AD (A1 0 rfl CS) A3 (fun _ _=>rfl)) A2) Ju Gi)) (AT (A0 AA A2)))))) AJ)
 (A7 (AK (i:=1) sc_lines_of_deed.nd rfl No (Ak y07 y0t y0s DD AA (A0 (A5 BD (AT (A0 AA (A0 (BL E6 Uw b_str DE (A0 (A9 AD (A1 0 rfl CS) A3 (fun _ _=>rfl)) A2) DG DF) A2))) (AB c_words_of_term hr (by lia) (A0 (A9 AD (A1 0 rfl CS) A3 (fun _ _=>rfl)) A2) Jv F6)) A2)) (AF rfl))
 (A8 (AC (A5 BD (A5 BD (AT (A0 (A1 1 rfl Np) A2)) (AB c_lines_of_block hr (by lia) (A0 (A9 AD (A1 0 rfl CS) A3 (fun _ _=>rfl)) A2) Ju Gi)) (AT (A0 AA A2)))))))),?_⟩
 cases d with
 |set x t=>
  rw[D.enc] at hd;obtain⟨p,x0,x1,x2,rfl,J,t0,t1,t2⟩:=BM hd;refine AE fun N1 e1=>?_;walk_at "rdt";refine⟨_,SqT.of J,_,rfl,_,AN t0,?_⟩;rw[if_pos (show eqS (.str "set") "set" = true from by decide+kernel)];cases t1;have ok:=(CK (n:=1) (b:=[.set x t]) ⟨by simp,fun d hd=>by rw[List.mem_singleton.mp hd]; exact z⟩).2 ("set"::x::wT t) (by rw[wlB,wlD]; simp);have lt:=Dx z.2 (yf _);refine⟨rfl,_,SqT.of J,_,rfl,zl 2 (by decide),fun p1 h1=>?_⟩;have M:=A6 h1 (HO.lst [V.str "set",V.str x]);refine⟨_,SqT.of (M _ _ J),_,rfl,x2,t,rfl,t2.kp M.kp,z.2,by lia,fun r2 H2 s2 n2 e2=>?_⟩;refine⟨_,rfl,_,s2 _ _ A4,_,e2,zl _ (by simp; lia),fun p3 h3=>?_⟩;have s3:=A6 h3 (HO.lst ([V.str "set",V.str x]++(wT t).map V.str));refine⟨"set"::x::wT t,A4,LR ok,zl 1 (by decide),fun Z h4=>?_⟩;rw[Hi];have G:=M.trans (s2.trans s3);exact q Z _ (G.trans (A6 h4 _)) (G.free h4) (by rw[A4,wlD]; rfl)
 |ite t b c=>
  rw[D.enc] at hd;obtain⟨p,x0,x1,x2,x3,rfl,J,t0,t1,t2,t3⟩:=CH hd;refine AE fun N1 e1=>?_;walk_at "rdt";refine⟨_,SqT.of J,_,rfl,_,AN t0,?_⟩;rw[if_neg (show ¬ eqS (.str "if") "set" = true from by decide+kernel),e1];refine AE fun N2 e2=>?_;walk_at "rdt";refine⟨_,SqT.of J,_,rfl,_,AN t0,?_⟩;rw[if_pos (show eqS (.str "if") "if" = true from by decide+kernel)];have ok:okL ("if"::wT t):=Eb (DS (by decide+kernel)) (by decide+kernel) (by have:=Dx z.1 (yf _); lia) (DR z.1);have lt:=Dx z.1 (yf _);have lb:=(CK z.2.1).1;have lc:=(CK z.2.2).1;have ln:=Hh (n:=n) (by lia);refine⟨rfl,zl 1 (by decide),fun p1 h1=>?_⟩;have M:=A6 h1 (HO.lst [V.str "if"]);refine⟨_,SqT.of (M _ _ J),_,rfl,x1,t,rfl,t1.kp M.kp,z.1,by lia,fun r2 H2 s2 n2 e2=>?_⟩;refine⟨_,rfl,_,s2 _ _ A4,_,e2,zl _ (by simp; lia),fun p3 h3=>?_⟩;have s3:=A6 h3 (HO.lst ([V.str "if"]++(wT t).map V.str));refine⟨"if"::wT t,A4,LR ok,?_⟩;rw[Hi];have G:=M.trans (s2.trans s3);generalize upd H2 p3 _=H3 at s3 G |-;refine⟨zl 1 (by decide),fun Z h4=>?_⟩;have s4:=A6 h4 (HO.lst [V.str (jw ("if"::wT t))]);have O:upd H3 Z (HO.lst [V.str (jw ("if"::wT t))]) Z=_:=A4;have B:=G.trans s4;generalize upd H3 Z _=H4 at s4 B O |-;refine⟨_,SqT.of (B _ _ J),_,rfl,x2,b,rfl,t2.kp B.kp,z.2.1,by lia,fun r5 H5 s5 n5 e5=>?_⟩;refine⟨_,rfl,_,s5 _ _ O,_,e5,zl _ (by rw[D2]; simp; lia),fun p6 h6=>⟨zl 1 (by decide),fun p7 h7=>?_⟩⟩;have s6:=A6 h6 (HO.lst ([V.str (jw ("if"::wT t))]++lnV (wlB b)));have s7:=A6 h7 (HO.lst [V.str "else"]);refine⟨_,s7 _ _ A4,_,A4,zl _ (by simp[D2]; lia),fun p8 h8=>?_⟩;have s8:=A6 h8 (HO.lst ([V.str (jw ("if"::wT t))]++lnV (wlB b)++[V.str "else"]));have U:=B.trans (s5.trans (s6.trans (s7.trans s8)));have ae:upd (upd (upd H5 p6 (HO.lst ([V.str (jw ("if"::wT t))]++lnV (wlB b)))) p7 (HO.lst [V.str "else"])) p8 (HO.lst ([V.str (jw ("if"::wT t))]++lnV (wlB b)++[V.str "else"])) p8=_:=A4;generalize upd (upd (upd H5 p6 _) p7 _) p8 _=H8 at s8 U ae |-;refine⟨_,SqT.of (U _ _ J),_,rfl,x3,c,rfl,t3.kp U.kp,z.2.2,by lia,fun r9 H9 s9 n9 e9=>?_⟩;refine⟨_,rfl,_,s9 _ _ ae,_,e9,zl _ (by simp[D2]; lia),fun pa ha=>⟨zl 1 (by decide),fun pb hb=>?_⟩⟩;have sa:=A6 ha (HO.lst ([V.str (jw ("if"::wT t))]++lnV (wlB b)++[V.str "else"]++lnV (wlB c)));have sb:=A6 hb (HO.lst [V.str "end"]);refine⟨_,sb _ _ A4,_,A4,zl _ (by simp[D2]; lia),fun pc hc=>?_⟩;have aa:=U.trans (s9.trans (sa.trans sb));refine q pc _ (aa.trans (A6 hc _)) (aa.free hc) ?_;rw[A4,wlD];simp only[lnV,yv,yd,y1l,y0v,y0y,List.nil_append];rfl
 |whl t m b=>
  rw[D.enc] at hd;obtain⟨p,x0,x1,x2,x3,rfl,J,t0,t1,t2,t3⟩:=CH hd;cases t2;refine AE fun N1 e1=>?_;walk_at "rdt";refine⟨_,SqT.of J,_,rfl,_,AN t0,?_⟩;rw[if_neg (show ¬ eqS (.str "while") "set" = true from by decide+kernel),e1];refine AE fun N2 e2=>?_;walk_at "rdt";refine⟨_,SqT.of J,_,rfl,_,AN t0,?_⟩;rw[if_neg (show ¬ eqS (.str "while") "if" = true from by decide+kernel),e2];walk_at "rdt";have hm:=C5 (i:=m) (by have:=z.2.1; lia) (by have:=z.2.2.1; lia);have lt:=Dx z.1 (yf _);have ok:okL ("while"::Ab m::wT t):=Eb (DS (by decide+kernel)) (by decide+kernel) (by rw[ya]; lia) (List.forall_mem_cons.mpr ⟨hm.2.2,DR z.1⟩);have lb:=(CK z.2.2.2).1;have ln:=Hh (n:=n) (by lia);refine⟨rfl,_,SqT.of J,_,rfl,_,rfl,D1 (by have:=z.2.1; lia) (by have:=z.2.2.1; lia),zl 2 (by decide),fun p1 h1=>?_⟩;have M:=A6 h1 (HO.lst [V.str "while",V.str (Str.ofString (toString m))]);refine⟨_,SqT.of (M _ _ J),_,rfl,x1,t,rfl,t1.kp M.kp,z.1,by lia,fun r2 H2 s2 n2 e2=>?_⟩;refine⟨_,rfl,_,s2 _ _ A4,_,e2,zl _ (by simp; lia),fun p3 h3=>?_⟩;have s3:=A6 h3 (HO.lst ([V.str "while",V.str (Str.ofString (toString m))]++(wT t).map V.str));refine⟨"while"::Ab m::wT t,A4,LR ok,?_⟩;rw[Hi];have G:=M.trans (s2.trans s3);generalize upd H2 p3 _=H3 at s3 G |-;refine⟨zl 1 (by decide),fun Z h4=>?_⟩;have s4:=A6 h4 (HO.lst [V.str (jw ("while"::Ab m::wT t))]);have O:upd H3 Z (HO.lst [V.str (jw ("while"::Ab m::wT t))]) Z=_:=A4;have B:=G.trans s4;generalize upd H3 Z _=H4 at s4 B O |-;refine⟨_,SqT.of (B _ _ J),_,rfl,x3,b,rfl,t3.kp B.kp,z.2.2.2,by lia,fun r5 H5 s5 n5 e5=>?_⟩;refine⟨_,rfl,_,s5 _ _ O,_,e5,zl _ (by rw[D2]; simp; lia),fun p6 h6=>⟨zl 1 (by decide),fun p7 h7=>?_⟩⟩;have s6:=A6 h6 (HO.lst ([V.str (jw ("while"::Ab m::wT t))]++lnV (wlB b)));have s7:=A6 h7 (HO.lst [V.str "end"]);refine⟨_,s7 _ _ A4,_,A4,zl _ (by simp[D2]; lia),fun p8 h8=>?_⟩;have ac:=B.trans (s5.trans (s6.trans s7));refine q p8 _ (ac.trans (A6 h8 _)) (ac.free h8) ?_;rw[A4,wlD];simp only[lnV,yv,yd,y1l,y0v,y0y,List.nil_append];rfl
noncomputable def LbI(H:Hp)(B q:Addr)(b:List D)(i:Nat)(σ:St)(z:Hp):Prop:=Same H z/\(∃t,σ=[some (.ref B),some (.ref q),t])/\z q=some (.lst (lnV (wlB (b.take i))))
theorem Dy{H q:Hp}{r:Addr}{o:HO}(s:Same H q)(h:H r=none):Same H (upd q r o):=fun c u hc=>by
 rw[AQ (fun e=>by rw[e,h] at hc; cases hc)];exact s c u hc
theorem Fh:∀(a b:List D),wlB (a++b)=wlB a++wlB b
 |[],b=>by rw[wlB]; rfl
 |d::a,b=>by rw[y0y,wlB,wlB,Fh a b,y0v]
theorem Yc{n:Nat} (F:Fun K "lines_of_block" "lines_of_block" CP f fd) (c_lines_of_deed:Callee P w K mg base "lines_of_deed" ["deed"] (2*n+8) (P8 n)):FnOk P w K mg base CX0 (2*n+9) f fd ["block"] (Hg (n+1)):=by
 refine F.ok sc_lines_of_block (fun vs H Q E h=>?_) (fun aa A outer s H vs Q E hr h=>?_)
 ·obtain⟨v,t,rfl,_⟩:=h;rfl
 obtain⟨v,b,rfl,hd,B,hn,q⟩:=h;refine⟨_,(A7 (AK (i:=1) sc_lines_of_block.nd rfl Ut (AT A2) (AF rfl))
 (A7 (D7 y1e rfl (Cf (A1 0 rfl Uu)) (AZ (i:=2) sc_lines_of_block.nd rfl Us)
 (A8 (BQ (Ak yq PySem.F.slot_list_extend PySem.F.type_list_extend R4 (A1 1 rfl Nm) (A0 (AB c_lines_of_deed hr (by lia) (A0 (A1 2 rfl Uv) A2) Ur TV) A2)) (AF rfl))))
 (A8 (AC (A1 1 rfl Nm))))),?_⟩
 obtain⟨U,xs,rfl,Z,da⟩:=hd.tupI;refine AE fun N1 G=>?_;walk_at "rdt";refine⟨y0i _,fun O h1=>?_⟩;rw[G];refine AE fun N2 e2=>?_;walk_at "rdt";have M:=A6 h1 (HO.lst []);refine⟨⟨_,SqT.of (M _ _ Z)⟩,?_⟩;refine IZ (K:=K) (a:=U) (xs:=xs) (LbI H U O b) ⟨M,⟨none,rfl⟩,A4⟩ ?_ ?_ ?_
 ·rintro i σ Hc _ ⟨sc,_⟩;exact SqT.of (sc _ _ Z)
 ·rintro i x σ Hc hx ⟨sc,⟨t,rfl⟩,hl⟩;obtain⟨d,hd,dx⟩:=da.get hx;obtain⟨e,J,rfl⟩:=L5 hd;have hm:=yt J;have l1:(wlB (b.take i++[e])).length<=2826:=y0d (CK (n:=n+1) (b:=b.take i++[e]) ⟨by
   have:=(List.getElem?_eq_some_iff.mp J).1
   have:=B.1
   rw[yj,yz,y01]; lia,fun d hd=>(List.mem_append.mp hd).elim (fun z=>B.2 d (y17 z)) fun z=>by rw[List.mem_singleton.mp z]; exact B.2 e hm⟩).1 (Hh hn)
  have G:wlB [e]=wlD e:=by rw[wlB,wlB,y1a]
  rw[Fh,G,yj] at l1;walk_at "rdt";refine⟨.inl ⟨rfl,_,SqL.of hl⟩,x,e,rfl,dx.kp sc.kp,B.2 e hm,by lia,fun r H' s' nr er=>?_⟩;refine⟨_,rfl,_,s' _ _ hl,_,er,zl _ (by rw[D2,D2]; lia),Dy (sc.trans s') h1,⟨_,rfl⟩,?_⟩;rw[A4,y03,J,y1f,Fh,G,Ya]
 ·rintro σ Hc ⟨sc,⟨t,rfl⟩,hl⟩;rw[e2];walk_at "rdt";refine q O _ sc h1 ?_;rw[hl,da.length,Cw,y0h]
theorem P9(d:Df K mg "lines_of_block" CP ["block"] f fd) {B:Addr} {q:y14} (d2:Df K mg "lines_of_deed" CQ ["deed"] B q) (b_str:mg "str" = none) (c_words_of_term:Callee P w K mg base "words_of_term" ["term"] 6 (Ff 5)):∀n:Nat,Callee P w K mg base "lines_of_block" ["block"] (2*n+7) (Hg n)
 |0=>d.callee (Hf fun vs H Q E h=>by obtain⟨v,t,rfl,_,z,_⟩:=h; exact z.elim)
 |n+1=>d.callee (Yc d.F (d2.callee (Yb d2.F b_str c_words_of_term (P9 d d2 b_str c_words_of_term n))))
noncomputable def Ed:Sp:=fun vs H Q _=>∃(v:V) (q:List Rw) (b:List D),vs=[v]/\Dt H v (BO q b)/\FitP q b/\∀H',Same H H'->Q (.str (Ae q b)) H'
noncomputable def Hj(r:Rw):V:=.str (jw (BI r))
noncomputable def WrI(H:Hp)(z:List Rw)(i:Nat)(ys:List V)(q:St)(H':Hp):Prop:=H'=H/\(∃a b c,q=[a,b,c])/\ys=(z.take i).map Hj
noncomputable def WnI(H:Hp)(ls:List Str)(i:Nat)(ys:List V)(q:St)(H':Hp):Prop:=H'=H/\(∃a,q=[a])/\ys=((ls.take i).map (· ++ ("\n" : Str))).map V.str
theorem LS:∀ls:List Str,Str.join Str.empty (ls.map (· ++ ("\n" : Str)))=nlT ls
 |[]=>rfl
 |[l]=>by
  show l++("\n" : Str)=l++⟨#[10]⟩++Str.empty;rw[y27,show("\n" : Str)=⟨#[10]⟩ from by decide+kernel]
 |l::m::r=>by
  have q:=LS (m::r);show l++("\n" : Str)++Str.empty++Str.join Str.empty ((m::r).map (· ++ ("\n" : Str)))=_;rw[q,y27,show("\n" : Str)=⟨#[10]⟩ from by decide+kernel];rfl
theorem PB(r:Rw):Str.empty++("in " : Str)++r.1++(" " : Str)++Ab r.2.1++(" " : Str)++Ab r.2.2=jw (BI r):=by
 rw[Str.empty_append,show("in " : Str)=("in" : Str)++⟨#[32]⟩ from by decide+kernel,show(" " : Str)=⟨#[32]⟩ from by decide+kernel];show _=("in" : Str)++⟨#[32]⟩++(r.1++⟨#[32]⟩++(Ab r.2.1++⟨#[32]⟩++Ab r.2.2));simp only[y1t]
theorem Yd(F:Fun K "written" "written" Dd f fd) (c_lines_of_block:Callee P w K mg base "lines_of_block" ["block"] 13 (Hg 3)):FnOk P w K mg base CX0 14 f fd ["program"] Ed:=by
 refine F.ok sc_written (fun vs H Q E h=>?_) (fun ae A outer s H vs Q E hr h=>?_)
 ·obtain⟨v,z,b,rfl,_⟩:=h;rfl
 obtain⟨v,z,b,rfl,hd,U,q⟩:=h;refine⟨_,(A7 (AK (i:=1) sc_written.nd rfl Uo (A5 BD (BT ["name","low","high"] [none,none,none] rfl (CompS.of (by rfl)) (Cf (A9 AD (A1 0 rfl Nl) A3 (fun _ _=>rfl))) (fun _ _ _ _ _=>(JE (n:=3) (K:=K) rfl rfl (C7 (AZ (i:=0) (show List.Nodup (["name","low","high"]:List Str) from by decide+kernel) rfl (Or.inl rfl)) (C7 (AZ (i:=1) (show List.Nodup (["name","low","high"]:List Str) from by decide+kernel) rfl (Or.inl rfl)) (C7 (AZ (i:=2) (show List.Nodup (["name","low","high"]:List Str) from by decide+kernel) rfl (Or.inl rfl)) Eh))))) (fun _ _ _ _ _=>Bj) (fun _ _ _ _ _=>(SG (EG AA (EG (Jc (AX (i:=0) rfl (by walk_at "vc") Jj Jd)) (EG AA (EG (Jc (AX (i:=1) rfl (by walk_at "vc") TW Sa)) (EG AA (EG (Jc (AX (i:=2) rfl (by walk_at "vc") TD SW)) SF))))))))) (AB c_lines_of_block hr (by lia) (A0 (A9 AD (A1 0 rfl Nl) A3 (fun _ _=>rfl)) A2) Um Gi)) (AF rfl))
 (A8 (AC (Ak y07 y0t y0s DD AA (A0 (BT ["line"] [none] rfl (CompS.of (by rfl)) (DV (A1 1 rfl Uq)) (fun _ _ _ _ _=>(AZ (i:=0) (show List.Nodup (["line"]:List Str) from by decide+kernel) rfl (Or.inl rfl))) (fun _ _ _ _ _=>Bj) (fun _ _ _ _ _=>(A5 AU (AX (i:=0) rfl (by walk_at "vc") NN NB) AA))) A2))))),?_⟩
 rw[BO] at hd;obtain⟨p,x0,x1,rfl,hp,t0,t1⟩:=CG hd;obtain⟨pr,xs,rfl,hr',da⟩:=t0.tupI;refine AE fun N1 e1=>?_;walk_at "rdt";refine⟨_,SqT.of hp,_,rfl,_,rfl,⟨_,SqT.of hr'⟩,?_⟩;have lx:xs.length=z.length:=by rw[da.length,y4]
 have l4:=U.len;refine EA (K:=K) (a:=pr) (xs:=xs) (WrI H z) ⟨rfl,⟨_,_,_,rfl⟩,rfl⟩ (sm6 (by lia)) ?_ ?_ ?_ ?_
 ·rintro i ys σ J ⟨_,_,rfl⟩;rw[y4,yz]; lia
 ·rintro i ys σ J _ ⟨rfl,_⟩;exact SqT.of hr'
 ·rintro i ys x σ J hx ⟨rfl,⟨a,b1,c,rfl⟩,rfl⟩;obtain⟨r,O,dr⟩:=P6 da hx;obtain⟨ra,r0,r1,r2,rfl,aa,u0,u1,u2⟩:=BM dr;cases u0; cases u1; cases u2;obtain⟨f1,f2,f3,f4⟩:=U.rows r (yt O);have n1:=(DQ f1).2.1;obtain⟨_,_,_,k1⟩:=C5 (i:=r.2.1) (by lia) (by lia);obtain⟨_,_,_,k2⟩:=C5 (i:=r.2.2) (by lia) (by lia);walk_at "rdt";have z0:Str.empty.length=0:=rfl;have z1:("in " : Str).length=3:=by decide+kernel
  have z2:(" " : Str).length=1:=by decide+kernel
  refine⟨_,SqT.of aa,rfl,_,_,rfl,_,_,rfl,_,_,rfl,rfl,zl _ (by simp only[yc]; lia),zl _ (by lia),zl _ (by simp only[yc]; lia),zl _ (by simp only[yc]; lia),D1 (by lia) (by lia),zl _ (by simp only[yc]; lia),zl _ (by simp only[yc]; lia),D1 (by lia) (by lia),zl _ (by simp only[yc]; lia),zl _ (by simp only[yc]; lia),rfl,⟨_,_,_,rfl⟩,?_⟩;rw[y03,O,y1f,yd,y0x,Hj,<- PB];rfl
 ·rintro ys σ J ⟨rfl,_,rfl⟩ p1 h1;rw[lx,y0h];have s1:=A6 h1 (HO.lst (z.map Hj));have lb:=(CK U.blk).1;have lb:(wlB b).length<=2826:=lb;refine⟨_,SqT.of (s1 _ _ hp),_,rfl,x1,b,rfl,t1.kp s1.kp,U.blk,by lia,fun r2 H2 s2 n2 e2=>?_⟩;refine⟨_,rfl,_,rfl,_,s2 _ _ A4,_,e2,zl _ (by rw[D2,y4]; lia),fun Z h3=>?_⟩;have el:z.map Hj++lnV (wlB b)=((wlP z b).map jw).map V.str:=by
   rw[wlP,yd,yd,y23,y23]; rfl
  rw[el,e1];have M:=s1.trans (s2.trans (A6 h3 (HO.lst (((wlP z b).map jw).map V.str))));have G:upd H2 Z (HO.lst (((wlP z b).map jw).map V.str)) Z=_:=A4;generalize upd H2 Z _=H3 at M G |-;obtain⟨w1,w2⟩:=Fe U;walk_at "rdt";refine⟨rfl,⟨_,SqL.of G⟩,?_⟩;have zn:("\n" : Str).length=1:=by decide+kernel
  have ll:(((wlP z b).map jw).map V.str).length=(wlP z b).length:=by rw[y4,y4]
  refine DY (K:=K) (a:=Z) (xs:=((wlP z b).map jw).map V.str) (WnI H3 ((wlP z b).map jw)) ⟨rfl,⟨_,rfl⟩,rfl⟩ (sm6 (by lia)) ?_ ?_ ?_ ?_
  ·rintro i ys σ J ⟨_,_,rfl⟩;rw[y4,y4,yz]; lia
  ·rintro i ys σ J _ ⟨rfl,_⟩;exact SqL.of G
  ·rintro i ys x σ J hx ⟨rfl,⟨a,rfl⟩,rfl⟩;rw[y0b,y2j] at hx;obtain⟨l,hl,rfl⟩:=hx;have ac:l.length<=264:=by
    obtain⟨u,hu,rfl⟩:=List.mem_map.mp (yt hl);exact Ec (w2 u hu)
   walk_at "rdt";refine⟨zl _ (by lia),rfl,⟨_,rfl⟩,?_⟩;rw[y03,hl,y1f,yd,yd];rfl
  ·rintro ys σ J ⟨rfl,_,rfl⟩ p4 h4;rw[ll,show(wlP z b).length=((wlP z b).map jw).length from by rw[y4],y0h];refine⟨_,rfl,_,A4,?_,?_⟩
   ·refine Fg (B:=265) (fun l hl=>?_) ?_
    ·obtain⟨u,hu,rfl⟩:=List.mem_map.mp hl;obtain⟨v,hv,rfl⟩:=List.mem_map.mp hu;have:=Ec (w2 v hv);rw[yc]; lia
    ·have ze:("" : Str).length=0:=by decide+kernel
     rw[y4,y4,ze]; lia
   ·have e:Txt.join "" (((wlP z b).map jw).map (· ++ ("\n" : Str)))=Ae z b:=by
     show Builtin.Str.glued "" _=_;rw[y1y,Ae,<- LS,show("" : Str)=Str.empty from by decide+kernel]
    rw[e];exact q _ (M.trans (A6 h4 _))
abbrev D3:List y9:=[.type "ValueError",.type "Exception",.type "BaseException",.type "object"]
theorem Df.calleeX(d:Df K mg x st ps f fd)(h:FnOk P w K mg base (CX1 P w) k f fd ps sp):CalleeX P w K mg base x ps k sp:=⟨f,fd,h,d.m,d.F.kp,d.b⟩
section
open PySem.NumText
theorem PD:∀(q:List Nat) (a:Nat),AllDigits q->q.foldl (fun z c=>z*10+(c-48)) a<(a+1)*10^q.length
 |[],a,_=>by simp
 |c::r,a,h=>by
  have h1:=h.head;have B:=PD r (a*10+(c-48)) h.tail;rw[List.foldl_cons,ya,Nat.pow_succ,Nat.mul_comm (10^r.length) 10,<- Nat.mul_assoc];exact yw B (y11 _ (by lia))
theorem PF{q:List Nat}(h:AllDigits q)(hl:q.length<=6):digitsVal q<1000000:=by
 have:=PD q 0 h;have e:=Nat.pow_le_pow_right (n:=10) (by decide) hl;have z:10^6=1000000:=by decide
 rw[digitsVal]; lia
theorem Ye{z:Str}(h1:1<=(AO z).length)(h2:(AO z).length<=6)(J:(AO z).cps.toList.all BZ=true) : -999999<=B9 z/\B9 z<=999999:=by
 have hd:=all_fig.mp J;rw[Ba] at h1 h2;by_cases G:∃F,z.cps.toList=45::F
 ·obtain⟨F,e⟩:=G;rw[LA e] at h1 h2 hd;have hl:z.length<=7:=by rw[Ba,e,ya]; lia
  rw[B9,intText_neg e hd (by intro q; rw[q] at h1; exact absurd h1 (by decide)) (by lia)];have:=PF hd h2;show -999999 <= -((digitsVal F:Nat):Int)/\-((digitsVal F:Nat):Int)<=999999;lia
 ·rw[HQ (fun F e=>G ⟨F,e⟩)] at h1 h2 hd;have hl:z.length<=7:=by rw[Ba]; lia
  rw[B9,intText_digits hd (by intro q; rw[q] at h1; exact absurd h1 (by decide)) (by lia)];have:=PF hd h2;show -999999<=((digitsVal z.cps.toList:Nat):Int)/\((digitsVal z.cps.toList:Nat):Int)<=999999;lia
theorem PH{z:Str}(h:Aq z=true):intText? z=some (B9 z)/\z.length<=7:=by
 rw[Aq,y8,y8,y8,decide_eq_true_iff,decide_eq_true_iff] at h;exact LC h.1.1.1 h.1.1.2 h.1.2
end
noncomputable def LT:Sp:=fun vs H Q _=>∃z:Str,vs=[.str z]/\z.length<=4000000/\∀H',Same H H'->Q (.bl (Aq z)) H'
noncomputable def FgI(H:Hp)(z:Str)(i:Nat)(ys:List V)(q:St)(H':Hp):Prop:=H'=H/\(∃t,q=[t])/\ys=((z.cps.toList.take i).map BZ).map V.bl
theorem Yf(z:Str):(AO z).length<=z.length:=by
 rw[AO];split
 ·exact Txt.slice_le z _ _
 ·exact yf _
theorem Yg(F:Fun K "is_number" "is_number" CC f fd) (g_MOST_FIGURES:GC mg "MOST_FIGURES" (.int 6)) (g_FIGURES:GC mg "FIGURES" (.str "0123456789")) (b_len:mg "len" = none) (b_all:mg "all" = none) (b_str:mg "str" = none) (b_int:mg "int" = none):FnOk P w K mg base CX0 1 f fd ["word"] LT:=by
 refine F.ok sc_is_number (fun vs H Q E h=>?_) (fun aa A outer s H vs Q E Z h=>?_)
 ·obtain⟨v,rfl,_⟩:=h;rfl
 obtain⟨z,rfl,hz,q⟩:=h;refine⟨_,(A7 (AK (i:=1) sc_is_number.nd rfl Vr (QB (Ah (Ak y07 PySem.F.slot_str_startswith PySem.F.type_str_startswith mt_starts (A1 0 rfl FE) (A0 AA A2))) (At Bk (A1 0 rfl FE) (As A3) Ar) (A1 0 rfl FE)) (AF rfl))
 (A7 (AH (PW.pt (BC (AI Bd (AV B0 O6 b_len B1 (A0 (A1 1 rfl K6) A2) B4 B3) A3 (AG _)) (BC (AI GB (AV B0 O6 b_len B1 (A0 (A1 1 rfl K6) A2) B4 B3) (Ax g_MOST_FIGURES Vn Sk) (AG _)) (Br (Au (Ah (AV (Et rfl) Vo b_all F2 (A0 (BT ["sign"] [none] rfl (CompS.of (by rfl)) (MT (A1 1 rfl K6)) (fun _ _ _ _ _=>(AZ (i:=0) (show List.Nodup (["sign"]:List Str) from by decide+kernel) rfl (Or.inl rfl))) (fun _ _ _ _ _=>Bj) (fun _ _ _ _ _=>(BK (opK (r:=qIn) (K:=K) (gIn Z.units) rfl) (AX (i:=0) rfl (by walk_at "vc") NQ ND) (Ax g_FIGURES rfl Sg) (by with_unfolding_all rfl)))) A2) F7 F5))))))) (A8 (AC B7)) AJ)
 (A8 (AC (BK (gEq Z.units) (BL E6 Vq b_str DE (A0 (BL Ja Vp b_int GY (A0 (A1 0 rfl FE) A2) Gj Gf) A2) DG DF) (A1 0 rfl FE) (AG _)))))),?_⟩
 refine AE fun J e1=>?_;walk_at "rdt";have hN:J [some (V.str z),some (V.str (AO z))] H->(tyV K "str" (V.str z) H/\
  if Txt.startswith z "-" = true then z.length<=yr/\J [some (V.str z),some (V.str (Txt.slice z (some 1) none))] H else J [some (V.str z),some (V.str z)] H):=fun h=>by
  refine⟨rfl,?_⟩
  rw[AO] at h
  split
  ·rename_i c
   rw[if_pos c] at h
   exact⟨zl _ hz,h⟩
  ·rename_i c
   rw[if_neg c] at h
   exact h
 apply hN;clear hN;have hl:=Yf z;have U:Ci K (.str (AO z)) H (AO z).length:=.inr ⟨_,rfl,zl _ (by lia),rfl⟩;have hf:Aq z=false->Q (.bl false) H:=fun e=>e ▸ q H (Same.refl _);rw[e1];refine AE fun N2 e2=>?_;walk_at "rdt";refine⟨_,U,?_⟩;split
 ·rename_i h1;refine hf ?_;rw[Aq,decide_eq_false (p:=1<=(AO z).length) (by lia)]; rfl
 rename_i h1;refine⟨_,U,?_⟩;split
 ·rename_i h2;refine hf ?_;rw[Aq,decide_eq_false (p:=(AO z).length<=6) (by lia),y1s]; rfl
 rename_i h2;refine OT (z:=AO z) (FgI H (AO z)) ⟨rfl,⟨none,rfl⟩,rfl⟩ (sm6 (by show(AO z).length<=_; lia)) ?_ ?_ ?_
 ·rintro i ys σ Hc ⟨_,_,rfl⟩;rw[y4,y4,yz]; lia
 ·rintro i ys c σ Hc hc ⟨rfl,⟨t,rfl⟩,rfl⟩;walk_at "rdt";refine⟨BZ c,.inr (.inl ⟨_,_,rfl,rfl,rfl⟩),rfl,⟨_,rfl⟩,?_⟩;have G:(AO z).cps.toList[i]?=some c:=by simpa using hc
  rw[y03,G,yd,yd];rfl
 ·rintro ys σ Hc ⟨rfl,_,rfl⟩ p1 h3;have et:(AO z).cps.toList.take (AO z).cps.size=(AO z).cps.toList:=y20 (by simp);rw[et];refine⟨_,rfl,(AO z).cps.toList.map BZ,SqL.of A4,?_⟩;have M:=A6 h3 (HO.lst (((AO z).cps.toList.map BZ).map V.bl));have ea:((AO z).cps.toList.map BZ).all id=(AO z).cps.toList.all BZ:=by rw[y2o]; rfl
  rw[ea];split
  ·rename_i B;have e:Aq z=false:=by rw[Aq,B,y1s]; rfl
   exact e ▸ q _ M
  rename_i B;have B:(AO z).cps.toList.all BZ=true:=by
   cases h:(AO z).cps.toList.all BZ with
   |true=>rfl
   |false=>exact absurd h B
  obtain⟨k1,k2⟩:=LC (by lia) (by lia) B;have e:Aq z=decide ((Str.ofString (toString (B9 z)):Str)=z):=by
   rw[Aq,decide_eq_true (p:=1<=(AO z).length) (by lia),decide_eq_true (p:=(AO z).length<=6) (by lia),B]; rfl
  rw[e2];walk_at "rdt";obtain⟨k3,k4⟩:=Ye (by lia) (by lia) B;refine⟨_,k1,by lia,D1 k3 k4,_,AN (.str _),?_⟩;have O:=q _ M;rw[e] at O;exact O
noncomputable def Hk(C:Addr):Sp:=fun vs H Q E=>∃z:Str,vs=[.str z]/\z.length<=4000000/\∀H',Same H H'->match Bg z with
 |some i=>Q (.int i) H'
 |none=>E (.ref C) none H'
theorem Yh{a_NoText:Addr} (F:Fun K "number_from" "number_from" Dj f fd) (x_NoText:PySem.W.nsIn K yk "NoText" = some (some (.ref a_NoText))) (q_NoText:PySem.W.excIn K a_NoText D3 "ValueError.__new__" = true) (b_int:mg "int" = none) (c_is_number:Callee P w K mg base "is_number" ["word"] 1 LT):FnOk P w K mg base (CX1 P w) 2 f fd ["word"] (Hk a_NoText):=by
 refine F.okx Vj (fun vs H Q E h=>?_) (fun O A outer s H vs Q E J h=>?_)
 ·obtain⟨v,rfl,_⟩:=h;rfl
 obtain⟨z,rfl,hz,q⟩:=h;refine⟨_,(A7 (AH (Au (Ah (AB c_is_number J (by lia) (A0 (A1 0 rfl O5) A2) Vm NK))) (A8 (DC x_NoText q_NoText yp (by decide+kernel) yp (A0 AA A2) Vk Cm)) AJ)
 (A8 (AC (BL Ja Vl b_int GY (A0 (A1 0 rfl O5) A2) Gj Gf)))),?_⟩
 refine AE fun U M=>?_;walk_at "rdt";refine⟨z,rfl,hz,fun H1 G=>?_⟩;have B:=q H1 G;refine⟨_,rfl,?_⟩;cases e:Aq z with
 |false=>
  rw[Bg,e,if_neg (by decide)] at B;exact⟨zl 1 (by decide),B⟩
 |true=>
  rw[Bg,if_pos e] at B;rw[if_neg (by decide),M];obtain⟨k1,k2⟩:=PH e;walk_at "rdt";exact⟨_,k1,by lia,B⟩
noncomputable def PK:Sp:=fun vs H Q _=>∃z:Str,vs=[.str z]/\z.length<=4000000/\∀v H',Same H H'->Dt H' v (Dw z)->Q v H'
theorem Yi(F:Fun K "leaf_from" "leaf_from" EK f fd) (b_int:mg "int" = none) (c_is_number:Callee P w K mg base "is_number" ["word"] 1 LT):FnOk P w K mg base CX0 2 f fd ["word"] PK:=by
 refine F.ok Vg (fun vs H Q E h=>?_) (fun O A outer s H vs Q E J h=>?_)
 ·obtain⟨v,rfl,_⟩:=h;rfl
 obtain⟨z,rfl,hz,q⟩:=h;refine⟨_,(A7 (AH (Ah (AB c_is_number J (by lia) (A0 (A1 0 rfl K0) A2) Vi NK)) (A8 (AC (Ac (A0 AA (A0 (BL Ja Vh b_int GY (A0 (A1 0 rfl K0) A2) Gj Gf) A2))))) AJ)
 (A8 (AC (Ac (A0 AA (A0 (A1 0 rfl K0) A2)))))),?_⟩
 refine AE fun U M=>?_;walk_at "rdt";refine⟨z,rfl,hz,fun H1 G=>?_⟩;refine⟨_,rfl,?_⟩;rw[Dw] at q;cases e:Aq z with
 |false=>
  rw[e,if_neg (by decide)] at q;rw[if_neg (by decide),M];walk_at "rdt";exact⟨zl 2 (by decide),fun p B=>q _ _ (G.trans (A6 B _)) (.tup A4 (.cons (.str _) (.cons (.str _) .nil)))⟩
 |true=>
  rw[if_pos e] at q;rw[if_pos rfl];obtain⟨k1,k2⟩:=PH e;refine⟨_,k1,by lia,zl 2 (by decide),fun p B=>q _ _ (G.trans (A6 B _)) (.tup A4 (.cons (.str _) (.cons (.int _) .nil)))⟩
noncomputable def smS(w:Str):Prop:=w.length<=4000000/\PyData.strOk w=true
noncomputable def smW(ws:Ln):Prop:=ws.length<=4000000/\∀w∈ws,smS w
noncomputable def LU(C:Addr):Sp:=fun vs H Q E=>∃(a:Addr) (ws:Ln),vs=[.ref a]/\H a=some (.lst (ws.map V.str))/\smW ws/\∀H',Same H H'->match BA ws with
 |some d=>∀v,Dt H' v d->Q v H'
 |none=>E (.ref C) none H'
noncomputable def TfI(H:Hp)(a z:Addr)(ws:Ln)(i:Nat)(σ:St)(q:Hp):Prop:=Same H q/\∃(us:List V) (st:List Dm) (G F B:Option V),σ=[some (.ref a),some (.ref z),G,F,B]/\q z=some (.lst us.reverse)/\DtA q us st/\us.length<=i/\(ws.drop (ws.length-i)).foldr Ay (some [])=some st
theorem PL:∀ws:Ln,ws.foldr Ay none=none
 |[]=>rfl
 |w::ws=>by rw[y2c,PL ws]; rfl
theorem Yj{ws:Ln}{i:Nat}{x:Str}(hi:i<ws.length)(hx:ws[ws.length-1-i]?=some x):ws.drop (ws.length-(i+1))=x::ws.drop (ws.length-i):=by
 have h1:ws.length-(i+1)<ws.length:=by lia
 have e:ws.length-1-i=ws.length-(i+1):=by lia
 rw[e,y0u h1] at hx;rw[List.drop_eq_getElem_cons h1,y0n hx,show ws.length-(i+1)+1=ws.length-i from by lia]
theorem Yk{ws:Ln}{k:Nat}(h:(ws.drop k).foldr Ay (some [])=none):BA ws=none:=by
 rw[BA,<- List.take_append_drop k ws,List.foldr_append,h,PL];rfl
theorem Yl{a_NoText:Addr} (F:Fun K "term_from" "term_from" BF f fd) (x_NoText:PySem.W.nsIn K yk "NoText" = some (some (.ref a_NoText))) (q_NoText:PySem.W.excIn K a_NoText D3 "ValueError.__new__" = true) (b_len:mg "len" = none) (b_reversed:mg "reversed" = none) {aw:Addr} (g_WORDS:GC mg "WORDS" (.ref aw)) (hW:∀H,SqT K H aw (words.map V.str)) (c_leaf_from:Callee P w K mg base "leaf_from" ["word"] 2 PK):FnOk P w K mg base (CX1 P w) 3 f fd ["words"] (LU a_NoText):=by
 refine F.okx sc_term_from (fun vs H Q E h=>?_) (fun am A outer s H vs Q E hr h=>?_)
 ·obtain⟨v,ws,rfl,_⟩:=h;rfl
 obtain⟨a,ws,rfl,ha,hw,q⟩:=h;refine⟨_,(A7 (AK (i:=1) sc_term_from.nd rfl Vb (AT A2) (AF rfl))
 (A7 (D7 y2v rfl (SI VY b_reversed (A0 (A1 0 rfl Vf) A2)) (AZ (i:=2) sc_term_from.nd rfl Vc)
 (A8 (AH (AI (JD hr.units) (A1 2 rfl Jz) (Ax g_WORDS VW NI) (by with_unfolding_all rfl)) (A8 (BQ (Ak yq y0g y0f Cg (A1 1 rfl Di) (A0 (AB c_leaf_from hr (by lia) (A0 (A1 2 rfl Jz) A2) VX TR) A2)) (AF rfl))) (A8 (AH (AI Bd (AV B0 O4 b_len B1 (A0 (A1 1 rfl Di) A2) B4 B3) A3 (AG _)) (A8 (DC x_NoText q_NoText yp (by decide+kernel) yp (A0 AA A2) O3 Cm)) (A7 (AK (i:=3) sc_term_from.nd rfl VZ (E9 yq y1i y1h Er (A1 1 rfl Di)) (AF rfl))
 (A7 (AK (i:=4) sc_term_from.nd rfl Va (E9 yq y1i y1h Er (A1 1 rfl Di)) (AF rfl))
 (A8 (BQ (Ak yq y0g y0f Cg (A1 1 rfl Di) (A0 (Ac (A0 (A1 2 rfl Jz) (A0 (A1 3 rfl Vd) (A0 (A1 4 rfl Ve) A2)))) A2)) (AF rfl))))))))))
 (A7 (AH (AI MV (AV B0 O4 b_len B1 (A0 (A1 1 rfl Di) A2) B4 B3) A3 (AG _)) (A8 (DC x_NoText q_NoText yp (by decide+kernel) yp (A0 AA A2) O3 Cm)) AJ)
 (A8 (AC (A9 Ad (A1 1 rfl Di) A3 (fun _ _=>rfl))))))),?_⟩
 refine AE fun N1 e1=>?_;walk_at "rdt";refine⟨y0i _,fun B h1=>?_⟩;rw[e1];refine AE fun N2 e2=>?_;walk_at "rdt";have s1:=A6 h1 (HO.lst []);refine⟨_,SqL.of (s1 _ _ ha),?_⟩;have ll:(ws.map V.str).length=ws.length:=y4 ..;refine YX (K:=K) (a:=a) (xs:=ws.map V.str) (TfI H a B ws) ⟨s1,[],[],none,none,none,rfl,A4,.nil,y0i _,by rw[Nat.sub_zero,List.drop_length]; rfl⟩ ?_ ?_ ?_
 ·rintro i σ Hc _ ⟨sc,_⟩;exact SqL.of (sc _ _ ha)
 ·rintro i x σ Hc hi hx ⟨sc,us,st,x2,x3,x4,rfl,hl,du,af,M⟩;rw[ll] at hi hx;rw[y0b,y2j] at hx;obtain⟨z,hz,rfl⟩:=hx;have ak:=(hw.2 z (yt hz)).1;have ae:=Yj hi hz;walk_at "rdt";refine⟨!(inV (.str z) (words.map V.str)),.inl ⟨aw,_,rfl,.inr (hW _),rfl,CW words,rfl⟩,?_⟩;rw[Cz];have Z:∀{G:Hp} {l:List V},G B=some (.lst l)->tyV K "list" (V.ref B) G:=fun h=>.inl ⟨rfl,_,SqL.of h⟩;have aa:us.length<yr:=sm6 (by have:=hw.1; lia);cases hc:words.contains z with
  |false=>
   rw[if_pos (by rfl)];refine⟨Z hl,z,rfl,ak,fun v H1 U dv=>⟨_,U _ _ hl,by rw[y1u]; exact aa,Dy (sc.trans U) h1,v::us,Dw z::st,_,_,_,rfl,?_,?_,?_,?_⟩⟩
   ·rw[A4,y19]
   ·have k:=Kp.set (U _ _ hl) (ys:=us.reverse++[v]);exact .cons (dv.kp k) ((du.kp U.kp).kp k)
   ·rw[ya]; lia
   ·rw[ae,y2c,M,Ay,if_neg (by rw[hc]; decide)]
  |true=>
   rw[if_neg (by decide)];refine⟨us.length,.inl ⟨B,us.reverse,rfl,.inl (SqL.of hl),(y1u ..).symm⟩,?_⟩;have O:Oz z st=none->E (.ref a_NoText) none Hc:=fun e=>by
    have q':=q Hc sc;rw[Yk (k:=ws.length-(i+1)) (by rw[ae,y2c,M,Ay,if_pos hc,e])] at q';exact q'
   have ag:∀{d1 d2:Dm} {ac:List Dm},st=d1::d2::ac->(ws.drop (ws.length-(i+1))).foldr Ay (some [])=some (.tup [.str z,d1,d2]::ac):=fun {d1 d2 ac} e=>by
    rw[ae,y2c,M,Ay,if_pos hc,e]; rfl
   cases du with
   |nil=>exact⟨zl 1 (by decide),O rfl⟩
   |cons v1 r1=>
    cases r1 with
    |nil=>exact⟨zl 1 (by decide),O rfl⟩
    |cons v2 r2=>
     rename_i u1 d1 J us d2 st;rw[if_neg (by simp only[ya]; lia)];rw[y19] at hl;have g1:((J::us).reverse++[u1])[((J::us).reverse++[u1]).length-1]?=some u1:=by simp
     have g2:(us.reverse++[J])[(us.reverse++[J]).length-1]?=some J:=by simp
     refine⟨Z hl,_,hl,u1,g1,Z A4,us.reverse++[J],by rw[A4,y18,y19],J,g2,Z A4,zl 3 (by decide),fun p hp=>?_⟩;rw[y18,y18] at hp |-;have k1:=Kp.set hl (ys:=(J::us).reverse);have al:upd Hc B (HO.lst (J::us).reverse) B=some (HO.lst (J::us).reverse):=A4;have k2:=k1.trans (Kp.set al (ys:=us.reverse));have s2:Same H (upd (upd Hc B (HO.lst (J::us).reverse)) B (HO.lst us.reverse)):=Dy (Dy sc h1) h1;have aj:upd (upd Hc B (HO.lst (J::us).reverse)) B (HO.lst us.reverse) B=some (HO.lst us.reverse):=A4;generalize upd (upd Hc B _) B _=H2 at hp k2 s2 aj |-;have s3:=A6 hp (HO.tup [V.str z,u1,J]);have ah:=s3 _ _ aj;have k3:=k2.trans s3.kp;have k4:=Kp.set ah (ys:=us.reverse++[V.ref p]);have ht:=k4.t p _ A4;refine⟨_,ah,by rw[y1u]; simp only[ya] at aa; lia,Dy (s2.trans s3) h1,V.ref p::us,.tup [.str z,d1,d2]::st,_,_,_,rfl,by rw[A4,y19],?_,by simp only[ya] at af |-; lia,ag rfl⟩;exact .cons (.tup ht (.cons (.str z) (.cons ((v1.kp k3).kp k4) (.cons ((v2.kp k3).kp k4) .nil)))) ((r2.kp k3).kp k4)
 ·rintro σ Hc ⟨sc,us,st,x2,x3,x4,rfl,hl,du,af,M⟩;rw[ll,Nat.sub_self,List.drop_zero] at M;rw[e2];walk_at "rdt";have q':=q Hc sc;rw[BA,M] at q';refine⟨us.length,.inl ⟨B,us.reverse,rfl,.inl (SqL.of hl),(y1u ..).symm⟩,?_⟩;cases du with
  |nil=>exact⟨zl 1 (by decide),q'⟩
  |cons v1 r1=>
   cases r1 with
   |nil=>exact⟨_,SqL.of hl,_,rfl,q' _ v1⟩
   |cons v2 r2=>
    rw[if_pos (by rw[decide_eq_false_iff_not]; simp only[ya]; lia)];exact⟨zl 1 (by decide),q'⟩
section
structure Sen(ls:List Ln):Prop where
 last:ls.getLast?=some [Str.empty]
 all:∀l∈ls,l≠[]/\smW l
 len:ls.length<=4000000
theorem Sen.ne{ls:List Ln}(h:Sen ls):ls≠[]:=fun e=>by have:=h.last; rw[e] at this; cases this
theorem Sen.tail{l:Ln}{r:List Ln}(h:Sen (l::r))(hl:l≠[Str.empty]):Sen r:=by
 cases r with
 |nil=>exact absurd (y0n (show some l=some [Str.empty] from h.last)) hl
 |cons m r=>
  refine⟨?_,fun x hx=>h.all x (yb _ hx),by have:=h.len; rw[ya] at this; lia⟩;have:=h.last;rw[List.getLast?_cons_cons] at this;exact this
theorem Hl{w:Str}{ls r:List Ln}(h:Sen ls)(hw:w≠Str.empty)(e:BB w ls=some r):Sen r/\ls=[w]::r:=by
 cases ls with
 |nil=>cases e
 |cons l q=>
  rw[BB] at e;split at e
  ·rename_i c;cases e;subst c;exact⟨h.tail fun z=>hw (y1k z).1,rfl⟩
  ·cases e
theorem PM:∀{ws:Ln} {st:List Dm},(∀w∈ws,w.length<=4000000)->ws.foldr Ay (some [])=some st->∀d∈st,AL d
 |[],st,_,e=>by cases e; exact fun _ h=>nomatch h
 |w::ws,st,h,e=>by
  rw[y2c] at e;cases q:ws.foldr Ay (some []) with
  |none=>rw[q] at e; cases e
  |some r=>
   have z:=PM (fun x hx=>h x (yb _ hx)) q;have hw:=h w (by simp);rw[q,Ay] at e;split at e
   ·cases r with
    |nil=>cases e
    |cons a r=>
     cases r with
     |nil=>cases e
     |cons b r=>
      cases e;refine List.forall_mem_cons.mpr ⟨?_,fun d hd=>z d (by simp[hd])⟩;simp only[AL,smallA];exact⟨⟨hw,z a (by simp),z b (by simp),trivial⟩,by simp⟩
   ·cases e;refine List.forall_mem_cons.mpr ⟨?_,z⟩;rw[Dw];split<;>simp only[AL,smallA]
    ·exact⟨⟨by decide+kernel,trivial,trivial⟩,by simp⟩
    ·exact⟨⟨by decide+kernel,hw,trivial⟩,by simp⟩
theorem LV{ws:Ln}{d:Dm}(h:smW ws)(e:BA ws=some d):AL d:=by
 rw[BA] at e;cases q:ws.foldr Ay (some []) with
 |none=>rw[q] at e; cases e
 |some st=>
  have z:=PM (fun w hw=>(h.2 w hw).1) q;rw[q] at e;match st,e with
  |[x],e=>cases e; exact z _ (List.mem_singleton.mpr rfl)
noncomputable def LW(B:List Ln->Option (Dm×List Ln)):Prop:=∀ls d r,Sen ls->B ls=some (d,r)->Sen r/\r.length<=ls.length/\AL d
theorem smW.sub{ws vs:Ln}(h:smW ws)(hl:vs.length<=ws.length)(q:∀w∈vs,w∈ws):smW vs:=⟨by have:=h.1; lia,fun w hw=>h.2 w (q w hw)⟩
theorem PN{B:List Ln->Option (Dm×List Ln)}(hB:LW B){ls r:List Ln}{d:Dm}(h:Sen ls)(e:deF B ls=some (d,r)):Sen r/\r.length<ls.length/\AL d:=by
 cases ls with
 |nil=>cases e
 |cons l q=>
  cases l with
  |nil=>cases e
  |cons w l=>
   cases l with
   |nil=>cases e
   |cons x ws=>
    have hq:=h.tail (fun z=>by cases (y1k z).2);have G:=(h.all _ y02).2;have sx:=(G.2 x (by simp)).1;have sw:smW ws:=G.sub (by simp; lia) fun y hy=>by simp[hy]
    have M:smW (x::ws):=G.sub (by simp) fun y hy=>yb _ hy;rw[deF] at e;split at e
    ·cases t:BA ws with
     |none=>rw[t] at e; cases e
     |some dt=>
      rw[t] at e;cases e;refine⟨hq,by simp,?_⟩;simp only[AL,smallA];exact⟨⟨by decide+kernel,sx,LV sw t,trivial⟩,by simp⟩
    ·cases b1:B q with
     |none=>rw[b1] at e; cases e
     |some p=>
      obtain⟨f1,U⟩:=p;obtain⟨k1,k2,k3⟩:=hB q f1 U hq b1;rw[b1,yh] at e;dsimp only at e;split at e
      ·cases F:BB "end" U with
       |none=>rw[F] at e; cases e
       |some O=>
        obtain⟨m1,Z⟩:=Hl k1 (by decide+kernel) F;cases t:BA ws with
        |none=>rw[F,t] at e; cases e
        |some dt=>
         cases nx:Bg x with
         |none=>rw[F,t,nx] at e; cases e
         |some m=>
          rw[F,t,nx] at e;cases e;rw[Z,ya] at k2;refine⟨m1,by rw[ya]; lia,?_⟩;simp only[AL,smallA];exact⟨⟨by decide+kernel,LV sw t,trivial,k3,trivial⟩,by simp⟩
      ·cases F:BB "else" U with
       |none=>rw[F] at e; cases e
       |some O=>
        obtain⟨m1,Z⟩:=Hl k1 (by decide+kernel) F;rw[F,yh] at e;cases b2:B O with
        |none=>rw[b2] at e; cases e
        |some p=>
         obtain⟨f2,r3⟩:=p;obtain⟨j1,j2,j3⟩:=hB O f2 r3 m1 b2;rw[b2,yh] at e;dsimp only at e;cases J:BB "end" r3 with
         |none=>rw[J] at e; cases e
         |some r4=>
          obtain⟨i1,i2⟩:=Hl j1 (by decide+kernel) J;cases t:BA (x::ws) with
          |none=>rw[J,t] at e; cases e
          |some dt=>
           rw[J,t] at e;cases e;rw[Z,ya] at k2;rw[i2,ya] at j2;refine⟨i1,by rw[ya]; lia,?_⟩;simp only[AL,smallA];exact⟨⟨by decide+kernel,LV M t,k3,j3,trivial⟩,by simp⟩
theorem PP{B:List Ln->Option (Dm×List Ln)}(F:LW B):∀{k:Nat} {ls r:List Ln} {ds:List Dm},Sen ls->dsF (deF B) k ls=some (ds,r)->Sen r/\r.length+ds.length<=ls.length/\∀d∈ds,AL d
 |0,ls,r,ds,h,e=>by cases e; exact⟨h,by simp,fun _ h=>nomatch h⟩
 |k+1,ls,r,ds,h,e=>by
  rw[dsF] at e;split at e
  ·cases q:deF B ls with
   |none=>rw[q] at e; cases e
   |some p=>
    obtain⟨d,G⟩:=p;obtain⟨h1,h2,O⟩:=PN F h q;cases z:dsF (deF B) k G with
    |none=>rw[q,yh,z] at e; cases e
    |some p=>
     obtain⟨U,Z⟩:=p;obtain⟨M,i2,J⟩:=PP F h1 z;rw[q,yh,z,yh] at e;simp only[y1g,Prod.mk.injEq] at e;obtain⟨rfl,rfl⟩:=e;exact⟨M,by rw[ya]; lia,List.forall_mem_cons.mpr ⟨O,J⟩⟩
  ·cases e;exact⟨h,by simp,fun _ h=>nomatch h⟩
theorem Fi:∀n,LW (blF n)
 |0,_,_,_,_,e=>by cases e
 |n+1,ls,d,r,h,e=>by
  rw[blF] at e;cases q:dsF (deF (blF n)) ls.length ls with
  |none=>rw[q] at e; cases e
  |some p=>
   obtain⟨ds,F⟩:=p;obtain⟨B,G,z⟩:=PP (Fi n) h q;rw[q,yh] at e;simp only[y1g,Prod.mk.injEq] at e;obtain⟨rfl,rfl⟩:=e;refine⟨B,by lia,?_⟩;have:=h.len;simp only[AL];exact⟨FW z,by lia⟩
theorem PQ:∀{ls r:List Ln} {ds:List Dm},Sen ls->BJ ls=some (ds,r)->Sen r/\r.length+ds.length<=ls.length/\∀d∈ds,AL d
 |[],_,_,_,e=>by cases e
 |l::q,r,ds,h,e=>by
  rw[BJ] at e;split at e
  ·cases a:inF l with
   |none=>rw[a] at e; cases e
   |some d=>
    cases b:BJ q with
    |none=>rw[a,yh,b] at e; cases e
    |some p=>
     obtain⟨O,U⟩:=p;rename_i B;have hl:l≠[Str.empty]:=fun z=>by rw[z] at B; exact absurd B (by decide+kernel)
     obtain⟨M,Z,J⟩:=PQ (h.tail hl) b;rw[a,yh,b,yh] at e;simp only[y1g,Prod.mk.injEq] at e;obtain⟨rfl,rfl⟩:=e;refine⟨M,by rw[ya,ya]; lia,List.forall_mem_cons.mpr ⟨?_,J⟩⟩;have hw:=(h.all l (by simp)).2;match l,a with
     |[_,x,y,z],a=>
      rw[inF] at a;cases F:Bg y with
      |none=>rw[F] at a; cases a
      |some i=>
       cases G:Bg z with
       |none=>rw[F,G] at a; cases a
       |some j=>
        rw[F,G] at a;cases a;simp only[AL,smallA];exact⟨⟨(hw.2 x (by simp)).1,trivial,trivial,trivial⟩,by simp⟩
  ·cases e;exact⟨h,by simp,fun _ h=>nomatch h⟩
theorem PR{ls:List Ln}{d:Dm}(h:Sen ls)(e:EZ ls=some d):AL d:=by
 rw[EZ] at e;cases a:BJ ls with
 |none=>rw[a] at e; cases e
 |some p=>
  obtain⟨ds,r⟩:=p;obtain⟨F,O,B⟩:=PQ h a;rw[a,yh] at e;dsimp only at e;cases b:blF 3 r with
  |none=>rw[b] at e; cases e
  |some p=>
   obtain⟨G,q⟩:=p;obtain⟨M,J,z⟩:=Fi 3 r G q F b;rw[b] at e;cases e;have:=h.len;simp only[AL,smallA];exact⟨⟨⟨FW B,by lia⟩,z,trivial⟩,by simp⟩
theorem PU{y:Str}{c:Nat}:∀{ps:List Str} {p:Str},p∈ps->c∈p.cps.toList->c∈(Str.join y ps).cps.toList
 |[],_,h,_=>nomatch h
 |[x],p,h,hc=>by rw[List.mem_singleton.mp h] at hc; exact hc
 |x::z::r,p,h,hc=>by
  show c∈(x++y++Str.join y (z::r)).cps.toList;rw[FY];rcases List.mem_cons.mp h with rfl|h
  ·exact y10 _ (by rw[FY]; exact y10 _ hc)
  ·exact y00 _ (PU h hc)
theorem strOk_iff{z:Str}:PyData.strOk z=true↔∀c∈z.cps.toList,c<1114112:=by
 rw[PyData.strOk,<- Array.all_toList,y16];exact⟨fun h c hc=>of_decide_eq_true (h c hc),fun h c hc=>decide_eq_true (h c hc)⟩
theorem LX{z p:Str}{c:Nat}(h:PyData.strOk z=true)(q:p∈Txt.split z ⟨#[c]⟩):PyData.strOk p=true:=
 strOk_iff.mpr fun d hd=>strOk_iff.mp h d (by rw[<- StrLaws.join_split z ⟨#[c]⟩]; exact PU q hd)
theorem LY{z:Str}(h:z.length<=3000000)(hk:PyData.strOk z=true):Sen (Bp z):=by
 have B:∀{x:Str} {c:Nat} {p:Str},p∈Txt.split x ⟨#[c]⟩->p.length<=x.length:=fun h=>PyProof.Rows.part_short h;refine⟨by rw[Bp,List.getLast?_append]; rfl,fun l hl=>?_,?_⟩
 ·rcases List.mem_append.mp hl with hl|hl
  ·obtain⟨p,q,rfl⟩:=List.mem_map.mp hl;have h1:=B q;have h2:=y1v p ⟨#[32]⟩;have F:=y2d p ⟨#[32]⟩;exact⟨fun e=>by rw[e] at F; exact absurd F (by decide),by lia,fun w hw=>⟨by have:=B hw; lia,LX (LX hk q) hw⟩⟩
  ·rw[List.mem_singleton.mp hl];exact⟨by simp,by simp,fun w hw=>by rw[List.mem_singleton.mp hw]; exact⟨by decide+kernel,by decide+kernel⟩⟩
 ·have:=y1v z ⟨#[10]⟩;rw[Bp,yj,y4,y01]; lia
end
noncomputable def LnR(q:Addr)(H:Hp)(x:V)(l:Ln):Prop:=∃a,x=.ref a/\a≠q/\H a=some (.lst (l.map V.str))
inductive LnsR (la:Addr) (H:Hp):List V->List Ln->Prop where
 |nil:LnsR la H [] []
 |cons {x:V} {l:Ln} {xs:List V} {ls:List Ln} (h:LnR la H x l) (t:LnsR la H xs ls):LnsR la H (x::xs) (l::ls)
noncomputable def Sbut(q:Addr)(H H':Hp):Prop:=∀b o,b≠q->H b=some o->H' b=some o
theorem Sbut.refl(q:Addr)(H:Hp):Sbut q H H:=fun _ _ _ h=>h
theorem Sbut.trans{q:Addr}{H H1 H2:Hp}(a:Sbut q H H1)(b:Sbut q H1 H2):Sbut q H H2:=fun c o n h=>b c o n (a c o n h)
theorem Sbut.of{q:Addr}{H H':Hp}(s:Same H H'):Sbut q H H':=fun b o _ h=>s b o h
theorem Sbut.put(q:Addr)(H:Hp)(o:HO):Sbut q H (upd H q o):=fun b u n h=>by rw[AQ n]; exact h
theorem Sbut.kp{q:Addr}{H H':Hp}(s:Sbut q H H'){xs ys:List V}(h:H q=some (.lst xs))(h':H' q=some (.lst ys)):Kp H H':=⟨fun b us e=>s b _ (fun c=>by subst c; rw[h] at e; cases e) e,fun b us e=>by
 by_cases c:b=q
 ·subst c; exact⟨ys,h'⟩
 ·exact⟨us,s b _ c e⟩⟩
theorem LnR.sb{q:Addr}{H H':Hp}{x:V}{l:Ln}(h:LnR q H x l)(s:Sbut q H H'):LnR q H' x l:=by
 obtain⟨a,e,n,ha⟩:=h;exact⟨a,e,n,s a _ n ha⟩
theorem LnsR.sb{q:Addr}{H H':Hp}{xs:List V}{ls:List Ln}(h:LnsR q H xs ls)(s:Sbut q H H'):LnsR q H' xs ls:=by
 induction h with
 |nil=>exact .nil
 |cons h _ z=>exact .cons (h.sb s) z
theorem LnsR.length{q:Addr}{H:Hp}{xs:List V}{ls:List Ln}(h:LnsR q H xs ls):xs.length=ls.length:=by
 induction h with
 |nil=>rfl
 |cons _ _ z=>rw[ya,ya,z]
noncomputable def LnsAt(H:Hp)(q:Addr)(ls:List Ln):Prop:=∃xs,H q=some (.lst xs.reverse)/\LnsR q H xs ls
theorem LnsAt.lst{H:Hp}{q:Addr}{ls:List Ln}(h:LnsAt H q ls):∃xs,H q=some (.lst xs):=let ⟨_,e,_⟩:=h; ⟨_,e⟩
theorem LnsAt.same{H H':Hp}{q:Addr}{ls:List Ln}(h:LnsAt H q ls)(s:Same H H'):LnsAt H' q ls:=let ⟨xs,e,r⟩:=h; ⟨xs,s _ _ e,r.sb (Sbut.of s)⟩
theorem LnsAt.top{H:Hp}{q:Addr}{l:Ln}{r:List Ln}(h:LnsAt H q (l::r)):∃(a:Addr) (xs:List V),H q=some (.lst (xs.reverse++[.ref a]))/\a≠q/\H a=some (.lst (l.map V.str))/\LnsR q H xs r:=by
 obtain⟨xs,e,t⟩:=h;cases t with
 |cons h t=>
  obtain⟨a,rfl,n,ha⟩:=h;exact⟨a,_,by rw[e,y19],n,ha,t⟩
theorem PV:∀l m:List Str,eqL (l.map V.str) (m.map V.str)=decide (l=m)
 |[],[]=>rfl
 |[],_::_=>by simp[eqL,BE,PyData.eqv,PyData.eqvAll]
 |_::_,[]=>by simp[eqL,BE,PyData.eqv,PyData.eqvAll]
 |x::l,y::m=>by
  have q:=PV l m;unfold eqL at q |-;simp only[yv,BE,PyData.eqv,PyData.eqvAll] at q |-;rw[q];by_cases e:x=y
  ·subst e;simp
  ·simp[e]
theorem PX{l:Ln}(h:∀w∈l,PyData.strOk w=true):(l.map V.str).all okV=true:=List.all_eq_true.mpr fun v q=>by
 obtain⟨w,hw,rfl⟩:=List.mem_map.mp q;exact h w hw
noncomputable def LZ(C:Addr):Sp:=fun vs H Q E=>∃(q:Addr) (ls:List Ln) (w:Str),vs=[.ref q,.str w]/\LnsAt H q ls/\Sen ls/\PyData.strOk w=true/\∀H',Sbut q H H'->match BB w ls with
 |some r=>LnsAt H' q r->Q .non H'
 |none=>E (.ref C) none H'
theorem Ym{a_NoText:Addr} (F:Fun K "take_word" "take_word" EJ f fd) (x_NoText:PySem.W.nsIn K yk "NoText" = some (some (.ref a_NoText))) (q_NoText:PySem.W.excIn K a_NoText D3 "ValueError.__new__" = true):FnOk P w K mg base (CX1 P w) 1 f fd ["lines","word"] (LZ a_NoText):=by
 refine F.okx VT (fun vs H Q E h=>?_) (fun ac A outer s H vs Q E hr h=>?_)
 ·obtain⟨v,ws,z,rfl,_⟩:=h;rfl
 obtain⟨la,ls,z,rfl,ha,hs,hk,q⟩:=h;refine⟨_,(A7 (AH (AI (gNe hr.units) (A9 Ad (A1 0 rfl O2) (D8 D9 A3) (fun _ _=>rfl)) (AT (A0 (A1 1 rfl VV) A2)) (AG _)) (A8 (DC x_NoText q_NoText yp (by decide+kernel) yp (A0 AA A2) VU Cm)) AJ)
 (A8 (BQ (E9 yq y1i y1h Er (A1 0 rfl O2)) (AF rfl)))),?_⟩
 cases ls with
 |nil=>exact absurd rfl hs.ne
 |cons l r=>
  obtain⟨a,xs,M,aa,Z,U⟩:=ha.top;refine AE fun N1 e1=>?_;walk_at "rdt";refine⟨_,SqL.of M,_,Iv _ _,zl 1 (by decide),fun p hp=>?_⟩;have G:=A6 hp (HO.lst [V.str z]);refine⟨decide (l=[z]),.inr ⟨a,rfl,_,SqL.of (G _ _ Z),_,SqL.of A4,PX (fun w hw=>((hs.all l y02).2.2 w hw).2),PX (l:=[z]) (fun w hw=>by rw[List.mem_singleton.mp hw]; exact hk),(PV l [z]).symm⟩,?_⟩;have O:=q;cases hd:decide (l=[z]) with
  |false=>
   have e:BB z (l::r)=none:=by rw[BB,if_neg (of_decide_eq_false hd)]
   rw[e] at O;exact⟨zl 1 (by decide),O _ (Sbut.of G)⟩
  |true=>
   have e:BB z (l::r)=some r:=by rw[BB,if_pos (of_decide_eq_true hd)]
   rw[e] at O;rw[if_neg (by decide),e1];have B:=G _ _ M;have J:=U.sb (Sbut.of G);generalize upd H p _=H1 at G B J |-;walk_at "rdt";have g1:(xs.reverse++[V.ref a])[(xs.reverse++[V.ref a]).length-1]?=some (V.ref a):=by simp
   refine⟨.inl ⟨rfl,_,SqL.of B⟩,_,B,_,g1,?_⟩;rw[y18];have sb:Sbut la H1 (upd H1 la (HO.lst xs.reverse)):=Sbut.put _ _ _;exact O _ ((Sbut.of G).trans sb) ⟨xs,A4,J.sb sb⟩
noncomputable def PY(C:Addr):Sp:=fun vs H Q E=>∃(a:Addr) (ws:Ln),vs=[.ref a]/\H a=some (.lst (ws.map V.str))/\smW ws/\∀H',Same H H'->match inF ws with
 |some d=>∀v,Dt H' v d->Q v H'
 |none=>E (.ref C) none H'
theorem Yn{ws:Ln}(h:ws.length≠4):inF ws=none:=by
 match ws,h with
 |[],_=>rfl
 |[_],_=>rfl
 |[_,_],_=>rfl
 |[_,_,_],_=>rfl
 |[_,_,_,_],h=>exact absurd rfl h
 |_::_::_::_::_::_,_=>rfl
theorem Yo{a_NoText:Addr} (F:Fun K "in_from" "in_from" Dh f fd) (x_NoText:PySem.W.nsIn K yk "NoText" = some (some (.ref a_NoText))) (q_NoText:PySem.W.excIn K a_NoText D3 "ValueError.__new__" = true) (b_len:mg "len" = none) (cx_number_from:CalleeX P w K mg base "number_from" ["word"] 2 (Hk a_NoText)):FnOk P w K mg base (CX1 P w) 3 f fd ["words"] (PY a_NoText):=by
 refine F.okx VB (fun vs H Q E h=>?_) (fun aa A outer s H vs Q E U h=>?_)
 ·obtain⟨v,ws,rfl,_⟩:=h;rfl
 obtain⟨a,ws,rfl,ha,hw,q⟩:=h;refine⟨_,(A7 (AH (AI MV (AV B0 VF b_len B1 (A0 (A1 0 rfl Gq) A2) B4 B3) A3 (AG _)) (A8 (DC x_NoText q_NoText yp (by decide+kernel) yp (A0 AA A2) VC Cm)) AJ)
 (A8 (AC (Ac (A0 (A9 Ad (A1 0 rfl Gq) A3 (fun _ _=>rfl)) (A0 (BW cx_number_from BV U (by lia) (A0 (A9 Ad (A1 0 rfl Gq) A3 (fun _ _=>rfl)) A2) Nu Jk) (A0 (BW cx_number_from BV U (by lia) (A0 (A9 Ad (A1 0 rfl Gq) A3 (fun _ _=>rfl)) A2) Nu Jk) A2))))))),?_⟩
 refine AE fun N1 e1=>?_;walk_at "rdt";refine⟨ws.length,.inl ⟨a,_,rfl,.inl (SqL.of ha),(y4 ..).symm⟩,?_⟩;by_cases Z:ws.length=4
 case neg=>
  have B:=q H (Same.refl _);rw[Yn Z] at B;rw[if_pos (by rw[decide_eq_false_iff_not]; lia)];exact⟨zl 1 (by decide),B⟩
 rw[if_neg (by rw[decide_eq_false_iff_not]; lia),e1];match ws,Z with
 |[w0,x,y,z],_=>
  have sy:=(hw.2 y (by simp)).1;have sz:=(hw.2 z (by simp)).1;walk_at "rdt";refine⟨_,SqL.of ha,_,rfl,_,SqL.of ha,_,rfl,y,rfl,sy,fun H1 G=>?_⟩;cases J:Bg y with
  |none=>
   have B:=q H1 G;rw[inF,J] at B;exact B
  |some i=>
   refine⟨_,SqL.of (G _ _ ha),_,rfl,z,rfl,sz,fun H2 M=>?_⟩;cases O:Bg z with
   |none=>
    have B:=q H2 (G.trans M);rw[inF,J,O] at B;exact B
   |some j=>
    refine⟨zl 3 (by decide),fun p hp=>?_⟩;have B:=q _ (G.trans (M.trans (A6 hp (HO.tup [V.str x,V.int i,V.int j]))));rw[inF,J,O] at B;exact B _ (.tup A4 (.cons (.str x) (.cons (.int i) (.cons (.int j) .nil))))
noncomputable def Hm(C:Addr)(n:Nat):Sp:=fun vs H Q E=>∃(q:Addr) (ls:List Ln) (m:Nat),vs=[.ref q,.int m]/\LnsAt H q ls/\Sen ls/\m<n/\∀H',Sbut q H H'->match blF m ls with
 |some p=>LnsAt H' q p.2->∀v,Dt H' v p.1->Q v H'
 |none=>E (.ref C) none H'
noncomputable def PZ(C:Addr)(n:Nat):Sp:=fun vs H Q E=>∃(q:Addr) (ls:List Ln) (m:Nat),vs=[.ref q,.int ((m:Int)+1)]/\LnsAt H q ls/\Sen ls/\m<n/\deeds3.contains ((ls.headD []).headD "")=true/\∀H',Sbut q H H'->match deF (blF m) ls with
 |some p=>LnsAt H' q p.2->∀v,Dt H' v p.1->Q v H'
 |none=>E (.ref C) none H'
theorem Pa(x y:V)(r:List V):BS (x::y::r) (some 2) none=r:=by
 simp[BS,HT.sIx]
theorem Yp(x:V)(r:List V):BS (x::r) (some 1) none=r:=by
 simp[BS,HT.sIx]
theorem Yq{n:Nat}{a_NoText:Addr} (F:Fun K "deed_from" "deed_from" B8 f fd) (x_NoText:PySem.W.nsIn K yk "NoText" = some (some (.ref a_NoText))) (q_NoText:PySem.W.excIn K a_NoText D3 "ValueError.__new__" = true) (b_len:mg "len" = none) (cx_number_from:CalleeX P w K mg base "number_from" ["word"] 2 (Hk a_NoText)) (cx_term_from:CalleeX P w K mg base "term_from" ["words"] 3 (LU a_NoText)) (cx_take_word:CalleeX P w K mg base "take_word" ["lines","word"] 1 (LZ a_NoText)) (cx_block_from:CalleeX P w K mg base "block_from" ["lines","levels"] (2*n+3) (Hm a_NoText n)):FnOk P w K mg base (CX1 P w) (2*n+4) f fd ["lines","levels"] (PZ a_NoText n):=by
 refine F.okx sc_deed_from (fun vs H Q E h=>?_) (fun aU A outer s H vs Q E hr h=>?_)
 ·obtain⟨v,ls,m,rfl,_⟩:=h;rfl
 obtain⟨la,ls,m,rfl,ha,hs,hm,hd,q⟩:=h;refine⟨_,(A7 (AK (i:=2) sc_deed_from.nd rfl VR (E9 yq y1i y1h Er (A1 0 rfl EI)) (AF rfl))
 (A7 (AH (AI Bd (AV B0 VN b_len B1 (A0 (A1 2 rfl DK) A2) B4 B3) A3 (AG _)) (A8 (DC x_NoText q_NoText yp (by decide+kernel) yp (A0 AA A2) VM Cm)) AJ)
 (A7 (AH (AI (gEq hr.units) (A9 Ad (A1 2 rfl DK) A3 (fun _ _=>rfl)) AA (AG _)) (A8 (AC (Ac (A0 AA (A0 (A9 Ad (A1 2 rfl DK) A3 (fun _ _=>rfl)) (A0 (BW cx_term_from BV hr (by lia) (A0 (At DW (A1 2 rfl DK) (As A3) Ar) A2) Jy Jm) A2)))))) AJ)
 (A7 (AK (i:=3) sc_deed_from.nd rfl VP (BW cx_block_from BV hr (by lia) (A0 (A1 0 rfl EI) (A0 (A5 Bt (A1 1 rfl O1) A3) A2)) Nz Jf) (AF rfl))
 (A7 (AH (AI (gEq hr.units) (A9 Ad (A1 2 rfl DK) A3 (fun _ _=>rfl)) AA (AG _)) (A7 (BQ (BW cx_take_word BV hr (by lia) (A0 (A1 0 rfl EI) (A0 AA A2)) Jx Jl) (AF rfl))
 (A8 (AC (Ac (A0 AA (A0 (BW cx_term_from BV hr (by lia) (A0 (At DW (A1 2 rfl DK) (As A3) Ar) A2) Jy Jm) (A0 (BW cx_number_from BV hr (by lia) (A0 (A9 Ad (A1 2 rfl DK) A3 (fun _ _=>rfl)) A2) VO Jk) (A0 (A1 3 rfl O0) A2)))))))) AJ)
 (A7 (BQ (BW cx_take_word BV hr (by lia) (A0 (A1 0 rfl EI) (A0 AA A2)) Jx Jl) (AF rfl))
 (A7 (AK (i:=4) sc_deed_from.nd rfl VQ (BW cx_block_from BV hr (by lia) (A0 (A1 0 rfl EI) (A0 (A5 Bt (A1 1 rfl O1) A3) A2)) Nz Jf) (AF rfl))
 (A7 (BQ (BW cx_take_word BV hr (by lia) (A0 (A1 0 rfl EI) (A0 AA A2)) Jx Jl) (AF rfl))
 (A8 (AC (Ac (A0 AA (A0 (BW cx_term_from BV hr (by lia) (A0 (At DW (A1 2 rfl DK) (As A3) Ar) A2) Jy Jm) (A0 (A1 3 rfl O0) (A0 (A1 4 rfl VS) A2))))))))))))))),?_⟩
 cases ls with
 |nil=>exact absurd rfl hs.ne
 |cons l r=>
  obtain⟨a,xs,aI,af,aQ,aN⟩:=ha.top;have aa:=(hs.all l y02).2;refine AE fun N1 e1=>?_;walk_at "rdt";have g1:(xs.reverse++[V.ref a])[(xs.reverse++[V.ref a]).length-1]?=some (V.ref a):=by simp
  refine⟨.inl ⟨rfl,_,SqL.of aI⟩,_,aI,_,g1,?_⟩;rw[y18];have Z:Sbut la H (upd H la (HO.lst xs.reverse)):=Sbut.put _ _ _;have ay:LnsAt (upd H la (HO.lst xs.reverse)) la r:=⟨xs,A4,aN.sb Z⟩;have O:=Z _ _ af aQ;generalize upd H la _=H0 at Z ay O |-;rw[e1];refine AE fun N2 e2=>?_;walk_at "rdt";refine⟨l.length,.inl ⟨a,_,rfl,.inl (SqL.of O),(y4 ..).symm⟩,?_⟩;match l,hs,hd,aa,O with
  |[],hs,hd,aa,O=>exact⟨zl 1 (by decide),q _ Z⟩
  |[_],hs,hd,aa,O=>exact⟨zl 1 (by decide),q _ Z⟩
  |h::x::ws,hs,hd,aa,O=>
   rw[if_neg (by simp only[ya]; lia),e2];have aH:=hs.tail (fun z=>by cases (y1k z).2);have sx:=(aa.2 x (by simp)).1;have sw:smW ws:=aa.sub (by simp; lia) fun y hy=>by simp[hy]
   have aL:smW (x::ws):=aa.sub (by simp) fun y hy=>yb _ hy;refine AE fun N3 e3=>?_;walk_at "rdt";refine⟨_,SqL.of O,_,DA (j:=0) rfl,_,AN (.str h),?_⟩;have es:eqS (.str h) "set" = decide (h = "set"):=rfl;rw[es];by_cases G:h = "set"
   ·subst G;rw[if_pos (by decide+kernel)];refine⟨_,SqL.of O,_,DA (j:=1) rfl,_,SqL.of O,fun p hp=>?_⟩;rw[yv,yv,Pa];have s1:=A6 hp (HO.lst (ws.map V.str));refine⟨p,ws,rfl,A4,sw,fun H2 s2=>?_⟩;have J:Sbut la H H2:=Z.trans (Sbut.of (s1.trans s2));cases ht:BA ws with
    |none=>
     have B:=q H2 J;rw[deF,if_pos rfl,ht] at B;exact B
    |some dt=>
     intro v dv;refine⟨zl 3 (by decide),fun p3 h3=>?_⟩;have s3:=A6 h3 (HO.tup [V.str "set",V.str x,v]);have B:=q _ (J.trans (Sbut.of s3));rw[deF,if_pos rfl,ht] at B;exact B ((ay.same (s1.trans s2)).same s3) _ (.tup A4 (.cons (.str _) (.cons (.str x) (.cons (dv.kp s3.kp) .nil))))
   ·rw[if_neg (by rw[decide_eq_true_iff]; exact G),e3];refine AE fun N4 e4=>?_;walk_at "rdt";refine⟨la,r,m,by rw[show((m:Int)+1-1)=m from by lia],ay,aH,hm,fun H1 ar=>?_⟩;cases hb:blF m r with
    |none=>
     have B:=q H1 (Z.trans ar);rw[deF,if_neg G,hb] at B;exact B
    |some p1=>
     obtain⟨f1,r1⟩:=p1;intro av v1 d1;obtain⟨k1,_,_⟩:=Fi m r f1 r1 aH hb;have ax:=ar _ _ af O;have ac:=Z.trans ar;rw[e4];refine AE fun N5 e5=>?_;walk_at "rdt";refine⟨_,SqL.of ax,_,DA (j:=0) rfl,_,AN (.str h),?_⟩;rw[show eqS (.str h) "while" = decide (h = "while") from rfl];obtain⟨aT,aF⟩:=av.lst;by_cases M:h = "while"
     ·rw[if_pos (decide_eq_true M)];refine⟨la,r1,"end",rfl,av,k1,by decide+kernel,fun H2 J=>?_⟩;cases ht:BB "end" r1 with
      |none=>
       have B:=q H2 (ac.trans J);rw[deF,if_neg G,hb,yh] at B;dsimp only at B;rw[if_pos M,ht] at B;exact B
      |some r2=>
       intro ag;obtain⟨aK,ak⟩:=ag.lst;have d2:=d1.kp (J.kp aF ak);have al:=J _ _ af ax;refine⟨_,SqL.of al,fun p hp=>?_⟩;rw[yv,yv,Pa];have s3:=A6 hp (HO.lst (ws.map V.str));refine⟨p,ws,rfl,A4,sw,fun H4 s4=>?_⟩;have U:=(ac.trans J).trans (Sbut.of (s3.trans s4));cases ae:BA ws with
       |none=>
        have B:=q H4 U;rw[deF,if_neg G,hb,yh] at B;dsimp only at B;rw[if_pos M,ht,ae] at B;exact B
       |some dt=>
        intro vt az;refine⟨_,SqL.of ((s3.trans s4) _ _ al),_,DA (j:=1) rfl,x,rfl,sx,fun H5 s5=>?_⟩;cases hn:Bg x with
        |none=>
         have B:=q H5 (U.trans (Sbut.of s5));rw[deF,if_neg G,hb,yh] at B;dsimp only at B;rw[if_pos M,ht,ae,hn] at B;exact B
        |some i=>
         refine⟨zl 4 (by decide),fun p6 h6=>?_⟩;have s6:=A6 h6 (HO.tup [V.str "while",vt,V.int i,v1]);have B:=q _ ((U.trans (Sbut.of s5)).trans (Sbut.of s6));rw[deF,if_neg G,hb,yh] at B;dsimp only at B;rw[if_pos M,ht,ae,hn] at B;have aA:=s3.trans (s4.trans (s5.trans s6));exact B (ag.same aA) _ (.tup A4 (.cons (.str _) (.cons ((az.kp s5.kp).kp s6.kp) (.cons (.int i) (.cons (d2.kp aA.kp) .nil)))))
     ·rw[if_neg (by rw[decide_eq_true_iff]; exact M),e5];refine AE fun N6 e6=>?_;walk_at "rdt";refine⟨la,r1,"else",rfl,av,k1,by decide+kernel,fun H2 J=>?_⟩;cases ht:BB "else" r1 with
      |none=>
       have B:=q H2 (ac.trans J);rw[deF,if_neg G,hb,yh] at B;dsimp only at B;rw[if_neg M,ht] at B;exact B
      |some r2=>
       intro ag;obtain⟨m1,_⟩:=Hl k1 (by decide+kernel) ht;obtain⟨aK,ak⟩:=ag.lst;have d2:=d1.kp (J.kp aF ak);have al:=J _ _ af ax;have aq:=ac.trans J;rw[e6];refine AE fun N7 e7=>?_;walk_at "rdt";refine⟨la,r2,m,by rw[show((m:Int)+1-1)=m from by lia],ag,m1,hm,fun H3 aj=>?_⟩;cases am:blF m r2 with
       |none=>
        have B:=q H3 (aq.trans aj);rw[deF,if_neg G,hb,yh] at B;dsimp only at B;rw[if_neg M,ht,yh,am] at B;exact B
       |some p3=>
        obtain⟨f3,r3⟩:=p3;intro aC v3 d3;obtain⟨k3,_,_⟩:=Fi m r2 f3 r3 m1 am;obtain⟨aS,aE⟩:=aC.lst;have d23:=d2.kp (aj.kp ak aE);have aP:=aj _ _ af al;have ap:=aq.trans aj;rw[e7];refine AE fun N8 e8=>?_;walk_at "rdt";refine⟨la,r3,"end",rfl,aC,k3,by decide+kernel,fun H4 ah=>?_⟩;cases aG:BB "end" r3 with
        |none=>
         have B:=q H4 (ap.trans ah);rw[deF,if_neg G,hb,yh] at B;dsimp only at B;rw[if_neg M,ht,yh,am,yh] at B;dsimp only at B;rw[aG] at B;exact B
        |some r4=>
         intro aB;obtain⟨aR,aM⟩:=aB.lst;have aD:=ah.kp aE aM;have d24:=d23.kp aD;have d34:=d3.kp aD;have aO:=ah _ _ af aP;have U:=ap.trans ah;rw[e8];walk_at "rdt";refine⟨_,SqL.of aO,fun p hp=>?_⟩;rw[yv,Yp];have s5:=A6 hp (HO.lst ((x::ws).map V.str));refine⟨p,x::ws,rfl,A4,aL,fun H6 s6=>?_⟩;have aJ:deF (blF m) ((h::x::ws)::r)=(BA (x::ws)).bind fun t=>some (.tup [.str "if",t,f1,f3],r4):=by
          rw[deF,if_neg G,hb,yh];dsimp only;rw[if_neg M,ht,yh,am,yh];dsimp only;rw[aG,yh]
         have ao:=U.trans (Sbut.of (s5.trans s6));cases ae:BA (x::ws) with
         |none=>
          have B:=q H6 ao;rw[aJ,ae] at B;exact B
         |some dt=>
          intro vt az;refine⟨zl 4 (by decide),fun p7 h7=>?_⟩;have s7:=A6 h7 (HO.tup [V.str "if",vt,v1,v3]);have B:=q _ (ao.trans (Sbut.of s7));rw[aJ,ae] at B;have au:=s5.trans (s6.trans s7);exact B (aB.same au) _ (.tup A4 (.cons (.str _) (.cons (az.kp s7.kp) (.cons (d24.kp au.kp) (.cons (d34.kp au.kp) .nil)))))
theorem Yr{B:List Ln->Option (Dm×List Ln)}{ls r:List Ln}{d:Dm}(e:deF B ls=some (d,r)):∃es,d=.tup es:=by
 unfold deF at e;split at e
 ·split at e
  ·rw[y1b] at e;obtain⟨t,_,e⟩:=e;cases e; exact⟨_,rfl⟩
  ·rw[y1b] at e;obtain⟨p,_,e⟩:=e;split at e
   ·simp only[y1b] at e;obtain⟨_,_,_,_,_,_,e⟩:=e;cases e; exact⟨_,rfl⟩
   ·simp only[y1b] at e;obtain⟨_,_,_,_,_,_,_,_,e⟩:=e;cases e; exact⟨_,rfl⟩
 ·cases e
theorem LnsR.put{B z:Addr}{H:Hp}{vs:List V}{o:HO}(q:H z=some (.lst vs)):∀{xs:List V} {ls:List Ln},LnsR B H xs ls->(∀l∈ls,l.map V.str≠vs)->LnsR B (upd H z o) xs ls
 |_,_,.nil,_=>.nil
 |_,_,.cons h t,k=>by
  obtain⟨a,e,n,ha⟩:=h;refine .cons ⟨a,e,n,?_⟩ (LnsR.put q t fun l hl=>k l (yb _ hl));rw[AQ (fun c=>by subst c; rw[q] at ha; exact k _ y02 (HO.lst.inj (y0n ha)).symm)];exact ha
theorem Pb{H:Hp}{vs:List V}{ds:List Dm}{l:Ln}(h:DtA H vs ds)(q:∀d∈ds,∃es,d=.tup es)(hl:l≠[]):l.map V.str≠vs:=by
 intro e;cases l with
 |nil=>exact hl rfl
 |cons w l=>
  subst e;cases h with
  |cons h _=>
   obtain⟨es,rfl⟩:=q _ y02;cases h
noncomputable def BfI(H:Hp)(B F:Addr)(n:Nat)(ls:List Ln)(k:Nat)(σ:St)(z:Hp):Prop:=Sbut B H z/\∃(q:List Ln) (vs:List V) (ds:List Dm),σ=[some (.ref B),some (.int ((n:Int)+1)),some (.ref F)]/\LnsAt z B q/\Sen q/\z F=some (.lst vs)/\DtA z vs ds/\(∀d∈ds,∃es,d=.tup es)/\q.length<=k/\ds.length+q.length<=ls.length/\
 dsF (deF (blF n)) ls.length ls=(dsF (deF (blF n)) k q).bind fun p=>some (ds++p.1,p.2)
theorem La{H:Hp}{v:V}{d:Dm}(q:Dt H v d):∀{vs:List V} {ds:List Dm},DtA H vs ds->DtA H (vs++[v]) (ds++[d])
 |_,_,.nil=>.cons q .nil
 |_,_,.cons h t=>.cons h (La q t)
theorem Ys{n:Nat}{a_NoText:Addr} (F:Fun K "block_from" "block_from" C3 f fd) (x_NoText:PySem.W.nsIn K yk "NoText" = some (some (.ref a_NoText))) (q_NoText:PySem.W.excIn K a_NoText D3 "ValueError.__new__" = true) (b_tuple:mg "tuple" = none) {ad:Addr} (g_DEEDS:GC mg "DEEDS" (.ref ad)) (hD:∀H,SqT K H ad (deeds3.map V.str)) (cx_deed_from:CalleeX P w K mg base "deed_from" ["lines","levels"] (2*n+4) (PZ a_NoText n)):FnOk P w K mg base (CX1 P w) (2*n+5) f fd ["lines","levels"] (Hm a_NoText (n+1)):=by
 refine F.okx sc_block_from (fun vs H Q E h=>?_) (fun aE A outer s H vs Q E hr h=>?_)
 ·obtain⟨v,ls,m,rfl,_⟩:=h;rfl
 obtain⟨la,ls,m,rfl,ha,hs,hm,q⟩:=h;refine⟨_,(A7 (AH (AI Bd (A1 1 rfl Nw) A3 (AG _)) (A8 (DC x_NoText q_NoText yp (by decide+kernel) yp (A0 AA A2) VH Cm)) AJ)
 (A7 (AK (i:=2) sc_block_from.nd rfl VL (AT A2) (AF rfl))
 (A7 (Ll y2v (AI (gIn hr.units) (A9 Ad (A9 Ad (A1 0 rfl Ny) (D8 D9 A3) (fun _ _=>rfl)) A3 (fun _ _=>rfl)) (Ax g_DEEDS VG Sf) (by with_unfolding_all rfl))
 (A8 (BQ (Ak yq y0g y0f Cg (A1 2 rfl Nv) (A0 (BW cx_deed_from BV hr (by lia) (A0 (A1 0 rfl Ny) (A0 (A1 1 rfl Nw) A2)) VI T9) A2)) (AF rfl))))
 (A8 (AC (BL E8 VJ b_tuple Cl (A0 (A1 2 rfl Nv) A2) Co Cn)))))),?_⟩
 refine AE fun N1 e1=>?_;walk_at "rdt";cases m with
 |zero=>exact⟨zl 1 (by decide),q H (Sbut.refl _ _)⟩
 |succ k0=>
  rw[if_neg (by lia),e1];refine AE fun N2 e2=>?_;walk_at "rdt";refine⟨y0i _,fun Z h1=>?_⟩;have s1:=A6 h1 (HO.lst []);obtain⟨aA,ao⟩:=ha.lst;have ae:Z≠la:=fun e=>by subst e; rw[ao] at h1; cases h1
  rw[e2];refine AE fun N3 e3=>?_;rw[show(((k0+1:Nat):Nat):Int)=(k0:Int)+1 from by lia];refine⟨BfI H la Z k0 ls,⟨ls.length,Sbut.of s1,ls,[],[],rfl,ha.same s1,hs,A4,.nil,(fun _ h=>nomatch h),yf _,by simp,by
   cases dsF (deF (blF k0)) ls.length ls<;>rfl⟩,?_⟩
  ·rintro k σ Hc ⟨sc,qs,vs,ds,rfl,J,hq,M,dd,af,hk,ax,O⟩;cases qs with
   |nil=>exact absurd rfl hq.ne
   |cons l r=>
    obtain⟨a,xs,ar,aC,av,aB⟩:=J.top;cases k with
    |zero=>simp at hk
    |succ k=>
     cases l with
     |nil=>exact absurd rfl (hq.all _ y02).1
     |cons h ws=>
      walk_at "rdt";refine⟨_,SqL.of ar,_,Iv _ _,_,rfl,_,SqL.of av,_,DA (j:=0) rfl,inV (.str h) (deeds3.map V.str),.inl ⟨ad,_,rfl,.inr (hD _),rfl,CW deeds3,rfl⟩,?_⟩;rw[Cz];cases hc:deeds3.contains h with
      |false=>
       rw[if_neg (by decide),e3];have hb:blF (k0+1) ls=some (.tup ds,(h::ws)::r):=by
        rw[blF,O,dsF,if_neg (by show ¬ deeds3.contains h=true; rw[hc]; decide)];show some (Dm.tup (ds++[]),(h::ws)::r)=_;rw[y1a]
       walk_at "rdt";refine⟨_,.inl ⟨SqL.of M,fun p U=>?_⟩⟩;have s2:=A6 U (HO.tup vs);have q':=q _ (sc.trans (Sbut.of s2));rw[hb] at q';exact q' (J.same s2) _ (.tup A4 (dd.kp s2.kp))
      |true=>
       rw[if_pos rfl];refine⟨fun ah H'=>∃m',m'<k+1/\BfI H la Z k0 ls m' ah H',fun _ _ h=>h,?_⟩;have ag:dsF (deF (blF k0)) (k+1) ((h::ws)::r)=(deF (blF k0) ((h::ws)::r)).bind fun p=>(dsF (deF (blF k0)) k p.2).bind fun q=>some (p.1::q.1,q.2):=by
        rw[dsF,if_pos (by exact hc)]
       obtain⟨az,am⟩:=J.lst;refine⟨.inl ⟨rfl,_,SqL.of M⟩,la,(h::ws)::r,k0,rfl,J,hq,by lia,hc,fun H2 G=>?_⟩;cases U:deF (blF k0) ((h::ws)::r) with
       |none=>
        have q':=q H2 (sc.trans G);rw[blF,O,ag,U] at q';exact q'
       |some p=>
        obtain⟨d,r1⟩:=p;intro aa v dv;obtain⟨j1,j2,j3⟩:=PN (Fi k0) hq U;obtain⟨ay,al⟩:=aa.lst;have ac:=G.kp am al;have B:=G _ _ ae M;have k3:=Kp.set B (ys:=vs++[v]);have l1:=dd.length;have aD:=hs.len;have ak:Sbut la H (upd H2 Z (HO.lst (vs++[v]))):=fun b o hb ho=>by
         have au:b≠Z:=fun e=>by subst e; rw[h1] at ho; cases ho
         rw[AQ au];exact(sc.trans G) b o hb ho
        refine⟨_,B,sm6 (by lia),k,Nat.lt_succ_self _,ak,r1,vs++[v],ds++[d],rfl,?_,j1,A4,La (dv.kp k3) ((dd.kp ac).kp k3),fun e he=>(List.mem_append.mp he).elim (af e) (fun z=>by rw[List.mem_singleton.mp z]; exact Yr U),by lia,by rw[yj,y01]; lia,?_⟩
        ·obtain⟨aj,ap,aq⟩:=aa;refine⟨aj,by rw[AQ (y2t ae)]; exact ap,?_⟩;exact aq.put B fun l hl=>Pb (dd.kp ac) af (j1.all l hl).1
        ·rw[O,ag,U,yh];cases dsF (deF (blF k0)) k r1 with
         |none=>rfl
         |some p=>simp
theorem Yt{ps:List Str}{k:Nat}{sp:Sp}(h:∀vs H Q E,¬ sp vs H Q E):FnOk P w K mg base (CX1 P w) k f fd ps sp:=⟨fun vs H Q E z=>(h vs H Q E z).elim,fun _ _ _ H _ _ vs Q E _ _ _ _ z=>(h vs H Q E z).elim⟩
theorem Pc{a_NoText:Addr} (d:Df K mg "block_from" C3 ["lines","levels"] f fd) {B:Addr} {q:y14} (d2:Df K mg "deed_from" B8 ["lines","levels"] B q) (x_NoText:PySem.W.nsIn K yk "NoText" = some (some (.ref a_NoText))) (q_NoText:PySem.W.excIn K a_NoText D3 "ValueError.__new__" = true) (b_len:mg "len" = none) (b_tuple:mg "tuple" = none) {ad:Addr} (g_DEEDS:GC mg "DEEDS" (.ref ad)) (z:∀H,SqT K H ad (deeds3.map V.str))
  (cx_number_from:CalleeX P w K mg base "number_from" ["word"] 2 (Hk a_NoText)) (cx_term_from:CalleeX P w K mg base "term_from" ["words"] 3 (LU a_NoText)) (cx_take_word:CalleeX P w K mg base "take_word" ["lines","word"] 1 (LZ a_NoText)):∀n:Nat,CalleeX P w K mg base "block_from" ["lines","levels"] (2*n+3) (Hm a_NoText n)
 |0=>d.calleeX (Yt fun vs H Q E h=>by obtain⟨v,ls,m,_,_,_,hm,_⟩:=h; lia)
 |n+1=>d.calleeX (Ys d.F x_NoText q_NoText b_tuple g_DEEDS z (d2.calleeX (Yq d2.F x_NoText q_NoText b_len cx_number_from cx_term_from cx_take_word (Pc d d2 x_NoText q_NoText b_len b_tuple g_DEEDS z cx_number_from cx_term_from cx_take_word n))))
noncomputable def Pd(C:Addr):Sp:=fun vs H Q E=>∃z:Str,vs=[.str z]/\z.length<=3000000/\PyData.strOk z=true/\∀H',Same H H'->match DP z with
 |some d=>∀v,Dt H' v d->Q v H'
 |none=>E (.ref C) none H'
noncomputable def CmI(H:Hp)(z:Addr)(ls:List Str)(i:Nat)(ys:List V)(q:St)(H':Hp):Prop:=Same H H'/\(∃t,q=[t])/\LnsR z H' ys ((ls.take i).map fun l=>Txt.split l ⟨#[32]⟩)
theorem LnsR.re{q lb:Addr}{H:Hp}(hb:H lb=none):∀{xs:List V} {ls:List Ln},LnsR q H xs ls->LnsR lb H xs ls
 |_,_,.nil=>.nil
 |_,_,.cons h t=>by
  obtain⟨a,e,n,ha⟩:=h;exact .cons ⟨a,e,(fun c=>by subst c; rw[hb] at ha; cases ha),ha⟩ (LnsR.re hb t)
theorem LnsR.app{q:Addr}{H:Hp}{x:V}{l:Ln}(h:LnR q H x l):∀{xs:List V} {ls:List Ln},LnsR q H xs ls->LnsR q H (xs++[x]) (ls++[l])
 |_,_,.nil=>.cons h .nil
 |_,_,.cons h' t=>.cons h' (LnsR.app h t)
theorem Fj{H H1 H2:Hp}{q:Addr}(s:Same H H1)(h:H q=none)(b:Sbut q H1 H2):Same H H2:=fun c o hc=>b c o (fun e=>by subst e; rw[h] at hc; cases hc) (s c o hc)
noncomputable def RlI(H H1:Hp)(z:Str)(F G:Addr)(ls:List Ln)(k:Nat)(σ:St)(B:Hp):Prop:=Sbut F H1 B/\∃(q:List Ln) (vs:List V) (ds:List Dm),σ=[some (.str z),some (.ref F),some (.ref G)]/\LnsAt B F q/\Sen q/\B G=some (.lst vs)/\DtA B vs ds/\(∀d∈ds,∃es,d=.tup es)/\q.length=k/\ds.length+q.length<=ls.length/\BJ ls=(BJ q).bind fun p=>some (ds++p.1,p.2)
theorem Yu{l:Ln}{d:Dm}(e:inF l=some d):∃es,d=.tup es:=by
 unfold inF at e;split at e
 ·simp only[y1b] at e;obtain⟨_,_,_,_,e⟩:=e;cases e; exact⟨_,rfl⟩
 ·cases e
theorem Yv{a_NoText:Addr} (F:Fun K "read_loosely" "read_loosely" C2 f fd) (b_tuple:mg "tuple" = none) (g_DEEPEST_BLOCK:GC mg "DEEPEST_BLOCK" (.int 3)) (cx_in_from:CalleeX P w K mg base "in_from" ["words"] 3 (PY a_NoText)) (cx_block_from:CalleeX P w K mg base "block_from" ["lines","levels"] 11 (Hm a_NoText 4)):FnOk P w K mg base (CX1 P w) 12 f fd ["text"] (Pd a_NoText):=by
 refine F.okx sc_read_loosely (fun vs H Q E h=>?_) (fun bj A outer s H vs Q E hr h=>?_)
 ·obtain⟨v,rfl,_⟩:=h;rfl
 obtain⟨z,rfl,hz,hk,q⟩:=h;refine⟨_,(A7 (AK (i:=1) sc_read_loosely.nd rfl V9 (A5 BD (BT ["line"] [none] rfl (CompS.of (by rfl)) (DV (Ak y07 y2i y2g JZ (A1 0 rfl VA) (A0 AA A2))) (fun _ _ _ _ _=>(AZ (i:=0) (show List.Nodup (["line"]:List Str) from by decide+kernel) rfl (Or.inl rfl))) (fun _ _ _ _ _=>Bj) (fun _ _ _ _ _=>(Rv (K:=K) rfl y07 y2i y2g JZ (AX (i:=0) rfl (by walk_at "vc") NN NB) (A0 AA A2)))) (AT (A0 (AT (A0 AA A2)) A2))) (AF rfl))
 (A7 (BQ (E9 yq PySem.F.slot_list_reverse PySem.F.type_list_reverse R5 (A1 1 rfl Gp)) (AF rfl))
 (A7 (AK (i:=2) sc_read_loosely.nd rfl V8 (AT A2) (AF rfl))
 (A7 (Ll y2v (AI (gEq hr.units) (A9 Ad (A9 Ad (A1 1 rfl Gp) (D8 D9 A3) (fun _ _=>rfl)) A3 (fun _ _=>rfl)) AA (AG _))
 (A8 (BQ (Ak yq y0g y0f Cg (A1 2 rfl Nt) (A0 (BW cx_in_from BV hr (by lia) (A0 (E9 yq y1i y1h Er (A1 1 rfl Gp)) A2) V6 TF) A2)) (AF rfl))))
 (A8 (AC (Ac (A0 (BL E8 V7 b_tuple Cl (A0 (A1 2 rfl Nt) A2) Co Cn) (A0 (BW cx_block_from BV hr (by lia) (A0 (A1 1 rfl Gp) (A0 (Ax g_DEEPEST_BLOCK V4 NE) A2)) V5 Jf) A2))))))))),?_⟩
 refine AE fun N1 e1=>?_;walk_at "rdt";refine⟨rfl,10,by decide+kernel,zl _ (by lia),fun p0 h0=>⟨⟨_,SqL.of A4⟩,?_⟩⟩;have bi:=y1v z ⟨#[10]⟩;have s0:=A6 h0 (HO.lst ((Txt.split z ⟨#[10]⟩).map V.str));have ae:upd H p0 (HO.lst ((Txt.split z ⟨#[10]⟩).map V.str)) p0=_:=A4;generalize upd H p0 _=H0 at s0 ae |-;have a9:((Txt.split z ⟨#[10]⟩).map V.str).length=(Txt.split z ⟨#[10]⟩).length:=y4 ..;refine DY (K:=K) (a:=p0) (xs:=(Txt.split z ⟨#[10]⟩).map V.str) (CmI H0 p0 (Txt.split z ⟨#[10]⟩)) ⟨Same.refl _,⟨_,rfl⟩,.nil⟩ (sm6 (by lia)) ?_ ?_ ?_ ?_
 ·rintro i ys σ O ⟨_,_,h⟩;rw[h.length,y4,yz]; lia
 ·rintro i ys σ O _ ⟨sc,_⟩;exact SqL.of (sc _ _ ae)
 ·rintro i ys x σ O hx ⟨sc,⟨t,rfl⟩,hy⟩;rw[y0b,y2j] at hx;obtain⟨l,hl,rfl⟩:=hx;have ba:l.length<=z.length:=PyProof.Rows.part_short (yt hl);walk_at "rdt";refine⟨rfl,32,by decide+kernel,zl _ (by lia),fun p hp=>⟨sc.trans (A6 hp _),⟨_,rfl⟩,?_⟩⟩;have s1:=A6 hp (HO.lst ((Txt.split l ⟨#[32]⟩).map V.str));have a7:p≠p0:=fun e=>by subst e; rw[sc _ _ ae] at hp; cases hp
  rw[y03,hl,y1f,yd,y0x];exact LnsR.app ⟨p,rfl,a7,A4⟩ (hy.sb (Sbut.of s1))
 ·rintro ys σ O ⟨sc,_,hy⟩ p1 h1;rw[a9,y0h] at hy;have s1:=A6 h1 (HO.lst ys);have aJ:upd O p1 (HO.lst ys) p1=_:=A4;have ac:=hy.sb (Sbut.of s1);have aj:=s0.trans (sc.trans s1);generalize upd O p1 _=H1 at s1 aJ ac aj |-;refine⟨zl 1 (by decide),fun p2 h2=>⟨zl 1 (by decide),fun p3 h3=>?_⟩⟩;have s2:=A6 h2 (HO.lst [V.str ""]);have s3:=A6 h3 (HO.lst [V.ref p2]);have ly:ys.length=(Txt.split z ⟨#[10]⟩).length:=by rw[hy.length,y4]
  refine⟨_,rfl,_,(s2.trans s3) _ _ aJ,_,A4,zl _ (by simp; lia),fun B h4=>?_⟩;have s4:=A6 h4 (HO.lst (ys++[V.ref p2]));have ap:upd (upd (upd H1 p2 (HO.lst [V.str ""])) p3 (HO.lst [V.ref p2])) B (HO.lst (ys++[V.ref p2])) B=_:=A4;have aI:LnR p0 (upd H1 p2 (HO.lst [V.str ""])) (V.ref p2) [Str.empty]:=⟨p2,rfl,(fun e=>by
   subst e
   rw[(sc.trans s1) _ _ ae] at h2
   cases h2),by rw[A4,show("" : Str)=Str.empty from by decide+kernel]; rfl⟩
  have J:=(LnsR.app aI (ac.sb (Sbut.of s2))).sb (Sbut.of s3);have J:=(J.re (lb:=B) h4).sb (Sbut.of s4);have ay:=aj.trans (s2.trans (s3.trans s4));have G:H B=none:=(aj.trans (s2.trans s3)).free h4;rw[show((Txt.split z ⟨#[10]⟩).map fun l=>Txt.split l ⟨#[32]⟩)++[[Str.empty]]=Bp z from rfl] at J;generalize upd (upd (upd H1 p2 _) p3 _) B _=H4 at s4 ap J ay |-;have af:=LY hz hk;rw[e1];refine AE fun N2 e2=>?_;walk_at "rdt";refine⟨.inl ⟨rfl,_,SqL.of ap⟩,_,ap,?_⟩;have al:Sbut B H4 (upd H4 B (HO.lst (ys++[V.ref p2]).reverse)):=Sbut.put _ _ _;have av:LnsAt (upd H4 B (HO.lst (ys++[V.ref p2]).reverse)) B (Bp z):=⟨_,A4,J.sb al⟩;have ah:=Fj ay G al;generalize upd H4 B _=H5 at al av ah |-;rw[e2];refine AE fun N3 e3=>?_;walk_at "rdt";refine⟨y0i _,fun ri h6=>?_⟩;have s6:=A6 h6 (HO.lst []);have aF:ri≠B:=fun e=>by
   obtain⟨_,h⟩:=av.lst;subst e; rw[h] at h6; cases h6
  rw[e3];refine AE fun N4 e4=>?_;refine⟨RlI H H5 z B ri (Bp z),⟨(Bp z).length,Sbut.of s6,Bp z,[],[],rfl,av.same s6,af,A4,.nil,(fun _ h=>nomatch h),rfl,by simp,by
   cases BJ (Bp z)<;>rfl⟩,?_⟩
  rintro k σ O ⟨az,qs,vs,ds,rfl,ao,hq,am,dd,aM,bb,aK,ar⟩;have ax:=Fj ah G az;have bd:H ri=none:=ah.free h6;cases qs with
  |nil=>exact absurd rfl hq.ne
  |cons l r=>
   obtain⟨a,xs,aq,a8,aN,aX⟩:=ao.top;cases l with
   |nil=>exact absurd rfl (hq.all _ y02).1
   |cons h ws=>
    walk_at "rdt";refine⟨_,SqL.of aq,_,Iv _ _,_,rfl,_,SqL.of aN,_,DA (j:=0) rfl,_,AN (.str h),?_⟩;rw[show eqS (.str h) "in" = decide (h = "in") from rfl];have aa:BJ ((h::ws)::r)=if h = "in" then(inF (h::ws)).bind fun d=>(BJ r).bind fun p=>some (d::p.1,p.2) else some ([],(h::ws)::r):=rfl;obtain⟨bh,ac⟩:=ao.lst;by_cases hi:h = "in"
    ·rw[if_pos (decide_eq_true hi)];rw[if_pos hi] at aa;refine⟨fun aR H'=>∃m',m'<k/\RlI H H5 z B ri (Bp z) m' aR H',fun _ _ h=>h,?_⟩;have g1:(xs.reverse++[V.ref a])[(xs.reverse++[V.ref a]).length-1]?=some (V.ref a):=by simp
     refine⟨.inl ⟨rfl,_,SqL.of am⟩,.inl ⟨rfl,_,SqL.of aq⟩,_,aq,_,g1,?_⟩;rw[y18];have M:Sbut B O (upd O B (HO.lst xs.reverse)):=Sbut.put _ _ _;have aQ:LnsAt (upd O B (HO.lst xs.reverse)) B r:=⟨xs,A4,aX.sb M⟩;have aL:=M _ _ a8 aN;have ag:=M _ _ aF am;generalize upd O B _=Hd at M aQ aL ag |-;have aG:=hq.tail (l:=h::ws) (fun z=>by
      have:=(y1k z).1
      rw[hi] at this
      exact absurd this (by decide+kernel))
     refine⟨a,h::ws,rfl,aL,(hq.all _ y02).2,fun H2 s2=>?_⟩;cases hf:inF (h::ws) with
     |none=>
      have q':=q H2 (Fj ax G (M.trans (Sbut.of s2)));rw[DP,EZ,ar,aa,hf] at q';exact q'
     |some d=>
      intro v dv;have aP:=aQ.same s2;obtain⟨bg,aW⟩:=aP.lst;have aA:=M.trans (Sbut.of s2);have aC:=aA.kp ac aW;have Z:=s2 _ _ ag;have k3:=Kp.set Z (ys:=vs++[v]);have l1:=dd.length;have ba:=af.len;rw[ya] at bb aK;have aT:Sbut B H5 (upd H2 ri (HO.lst (vs++[v]))):=fun b o hb ho=>by
       have bc:b≠ri:=fun e=>by subst e; rw[h6] at ho; cases ho
       rw[AQ bc];exact(az.trans aA) b o hb ho
      refine⟨_,Z,sm6 (by lia),r.length,by lia,aT,r,vs++[v],ds++[d],rfl,?_,aG,A4,La (dv.kp k3) ((dd.kp aC).kp k3),fun e he=>(List.mem_append.mp he).elim (aM e) (fun z=>by rw[List.mem_singleton.mp z]; exact Yu hf),rfl,by rw[yj,y01]; lia,?_⟩
      ·obtain⟨aS,aY,aZ⟩:=aP;exact⟨aS,by rw[AQ (y2t aF)]; exact aY,aZ.put Z fun l hl=>Pb (dd.kp aC) aM (aG.all l hl).1⟩
      ·rw[ar,aa,hf,yh];cases BJ r with
       |none=>rfl
       |some p=>simp
    ·rw[if_neg (by rw[decide_eq_true_iff]; exact hi),e4];rw[if_neg hi] at aa;have aH:DP z=(blF 3 ((h::ws)::r)).bind fun q=>some (.tup [.tup ds,q.1]):=by
      rw[DP,EZ,ar,aa,yh,yh];dsimp only;rw[y1a]
     walk_at "rdt";refine⟨_,.inl ⟨SqL.of am,fun p7 h7=>?_⟩⟩;have s7:=A6 h7 (HO.tup vs);have aE:upd O p7 (HO.tup vs) p7=_:=A4;have au:=ao.same s7;obtain⟨bf,aD⟩:=au.lst;have U:=ax.trans s7;have aO:=dd.kp s7.kp;generalize upd O p7 _=H7 at s7 aE au aD U aO |-;refine⟨B,(h::ws)::r,3,rfl,au,hq,by lia,fun H8 ak=>?_⟩;cases hb:blF 3 ((h::ws)::r) with
     |none=>
      have q':=q H8 (Fj U G ak);rw[aH,hb] at q';exact q'
     |some p=>
      intro aU v dv;obtain⟨be,aV⟩:=aU.lst;have aB:=ak.kp aD aV;refine⟨zl 2 (by decide),fun p9 h9=>?_⟩;have s9:=A6 h9 (HO.tup [V.ref p7,v]);have q':=q _ ((Fj U G ak).trans s9);rw[aH,hb] at q';exact q' _ (.tup A4 (.cons (.tup ((aB.trans s9.kp).t _ _ aE) ((aO.kp aB).kp s9.kp)) (.cons (dv.kp s9.kp) .nil)))
noncomputable def Hn(z:Str):Prop:=∃q b,FitP q b/\Dv (BO q b) true/\Ae q b=z
noncomputable def Lb(C:Addr):Sp:=fun vs H Q E=>∃z:Str,vs=[.str z]/\z.length<=3000000/\PyData.strOk z=true/\(∀H',Same H H'->¬ Hn z->E (.ref C) none H')/\∀H' v q b,Same H H'->Dt H' v (BO q b)->FitP q b->Dv (BO q b) true->Ae q b=z->DP z=some (BO q b)->Q v H'
theorem Yw{a_NoText:Addr} (F:Fun K "read" "read" CT f fd) (x_NoText:PySem.W.nsIn K yk "NoText" = some (some (.ref a_NoText))) (q_NoText:PySem.W.excIn K a_NoText D3 "ValueError.__new__" = true) (cx_read_loosely:CalleeX P w K mg base "read_loosely" ["text"] 12 (Pd a_NoText)) (c_is_program:Callee P w K mg base "is_program" ["thing"] 17 L6) (c_written:Callee P w K mg base "written" ["program"] 14 Ed):FnOk P w K mg base (CX1 P w) 18 f fd ["text"] (Lb a_NoText):=by
 refine F.okx sc_read (fun vs H Q E h=>?_) (fun af A outer s H vs Q E hr h=>?_)
 ·obtain⟨v,rfl,_⟩:=h;rfl
 obtain⟨z,rfl,hz,hk,qE,q⟩:=h;refine⟨_,(A7 (AK (i:=1) sc_read.nd rfl V3 (BW cx_read_loosely BV hr (by lia) (A0 (A1 0 rfl Nr) A2) V1 TZ) (AF rfl))
 (A7 (AH (PW.pt (BC (Au (Ah (AB c_is_program hr (by lia) (A0 (A1 1 rfl Jw) A2) V0 NL))) (Br (AI (gNe hr.units) (AB c_written hr (by lia) (A0 (A1 1 rfl Jw) A2) V2 NR) (A1 0 rfl Nr) (AG _))))) (A8 (DC x_NoText q_NoText yp (by decide+kernel) yp (A0 AA A2) Uz Cm)) AJ)
 (A8 (AC (A1 1 rfl Jw))))),?_⟩
 refine AE fun N1 e1=>?_;walk_at "rdt";refine⟨z,rfl,hz,hk,fun H1 s1=>?_⟩;cases O:DP z with
 |none=>exact qE H1 s1 fun⟨G,b,M,_,e⟩=>by rw[<- e,LQ M] at O; cases O
 |some d=>
  intro v dv;have ac:∃r,Dv d r/\(r=true->∃G b,d=BO G b/\FitP G b/\(Hn z->Ae G b=z))/\(r=false->¬ Hn z):=by
   by_cases hx:Hn z
   ·obtain⟨G,b,M,B,e⟩:=id hx;rw[<- e,LQ M] at O;cases O;exact⟨true,B,fun _=>⟨G,b,rfl,M,fun _=>e⟩,fun z=>nomatch z⟩
   ·obtain⟨r,B,J⟩:=YM d;exact⟨r,B,fun h=>let ⟨G,b,e,M⟩:=J h; ⟨G,b,e,M,fun h=>absurd h hx⟩,fun _=>hx⟩
  obtain⟨r,B,J,ae⟩:=ac;rw[e1];refine AE fun N2 e2=>?_;walk_at "rdt";refine⟨v,d,r,rfl,dv,PR (LY hz hk) O,B,fun H2 Z=>⟨_,rfl,?_⟩⟩;cases r with
  |false=>exact⟨zl 1 (by decide),qE _ (s1.trans Z) (ae rfl)⟩
  |true=>
   obtain⟨G,b,rfl,M,aa⟩:=J rfl;rw[if_neg (by decide)];refine⟨v,G,b,rfl,dv.kp Z.kp,M,fun H3 s3=>⟨_,⟨rfl,rfl⟩,?_⟩⟩;have U:=s1.trans (Z.trans s3);by_cases ht:Ae G b=z
   ·rw[if_neg (by rw[ht]; simp),e2];walk_at "rdt";exact q H3 v G b U (dv.kp (Z.trans s3).kp) M B ht O
   ·rw[if_pos (by rw[decide_eq_false_iff_not]; intro e; exact ht (V.str.inj e))];exact⟨zl 1 (by decide),qE _ U fun hx=>ht (aa hx)⟩
section
theorem Yx{X:Cx}:BR X (.type "str") (fun xs H Q=>(∃i,xs=[.int i]/\i.natAbs.log2<1920/\Q (.str (toString i)) H)\/∃z,xs=[.str z]/\Q (.str z) H):=by
 intro pins s σ H xs us Q I r h;rcases h with⟨i,rfl,hz,q⟩|⟨z,rfl,q⟩
 ·obtain⟨u,rfl,t,rfl⟩:=Bu r;exact PySem.P.str_of_int hz ⟨.str _,H,I.tok _,⟨_,rfl⟩,q⟩
 ·obtain⟨u,rfl,t,rfl⟩:=Bu r;exact PySem.P.str_of_str ⟨.str _,H,I,⟨_,rfl⟩,q⟩
theorem CalleeX.noX{P:yl}{w:y08}{K:y3}{mg:Str->Option y9}{base:Heap}{x:Str}{ps:List Str}{k:Nat}{sp:Sp}(C:CalleeX P w K mg base x ps k sp):Callee P w K mg base x ps k (fun vs H Q _=>sp vs H Q E0):=by
 obtain⟨f,fd,F,a,b,c⟩:=C;refine⟨f,fd,⟨fun vs H Q E h=>F.len vs H Q E0 h,fun A outer s H args us vs Q E G M hb q B=>y32 (F.run A outer s H args us vs Q E0 G M hb q B) fun r s' hq=>?_⟩,a,b,c⟩;cases r with
 |error e=>
  obtain⟨_,_,_,_,_,_,_,_,_,_,_,_,_,_,z⟩:=hq;exact z
 |ok J=>cases J<;>exact hq
theorem Pe{c:Nat}:∀{xs ys:List Str},xs≠[]->ys≠[]->Str.join ⟨#[c]⟩ (xs++ys)=Str.join ⟨#[c]⟩ xs++⟨#[c]⟩++Str.join ⟨#[c]⟩ ys
 |[],_,h,_=>absurd rfl h
 |[x],[],_,h=>absurd rfl h
 |[x],y::ys,_,_=>rfl
 |x::z::xs,ys,_,h=>by
  have q:=Pe (c:=c) (xs:=z::xs) (by simp) h;show x++⟨#[c]⟩++Str.join ⟨#[c]⟩ (z::xs++ys)=x++⟨#[c]⟩++Str.join ⟨#[c]⟩ (z::xs)++⟨#[c]⟩++Str.join ⟨#[c]⟩ ys;rw[q];simp only[y1t]
theorem Pf(t:T):wT t≠[]:=by obtain⟨x,r,e⟩:=HX t; rw[e]; simp
theorem Yy(z:Str)(a b:T):jw [z,jw (wT a),jw (wT b)]=jw (z::(wT a++wT b)):=by
 show z++⟨#[32]⟩++(jw (wT a)++⟨#[32]⟩++jw (wT b))=_;have e:jw (z::(wT a++wT b))=z++⟨#[32]⟩++jw (wT a++wT b):=by
  obtain⟨x,r,e⟩:=HX a;rw[e]; rfl
 rw[e,show jw (wT a++wT b)=jw (wT a)++⟨#[32]⟩++jw (wT b) from Pe (Pf a) (Pf b)]
theorem Lc(z:Str)(t:T):jw (z::wT t)=z++⟨#[32]⟩++jw (wT t):=by
 obtain⟨x,r,e⟩:=HX t;rw[e]; rfl
theorem Fk{n:Nat}{t:T}(h:t.fit n)(q:n<=5):(jw (wT t)).length<=256:=by
 have e:=HZ (c:=32) fun w hw=>(DR h w hw).2;have:=Dx h q;rw[jw]; lia
theorem Ee:∀a b:List Str,nlT (a++b)=nlT a++nlT b
 |[],b=>(Str.empty_append _).symm
 |x::a,b=>by
  rw[y0y,nlT,nlT,Ee a b];simp only[y1t]
noncomputable def tBk(b:List D):Str:=nlT ((wlB b).map jw)
theorem Fl{n:Nat}{b:List D}(h:fitB n b)(z:n<=3):(tBk b).length<=750000:=by
 obtain⟨F,q⟩:=CK h;have:=Hh z;have e:=He (B:=264) (ls:=(wlB b).map jw) fun l hl=>by
  obtain⟨w,hw,rfl⟩:=List.mem_map.mp hl;exact Ec (q w hw)
 rw[y4] at e;rw[tBk]; lia
theorem Yz(b:List D)(d:D):tBk (b++[d])=tBk b++nlT ((wlD d).map jw):=by
 rw[tBk,Fh,yd,Ee];rw[show wlB [d]=wlD d from by rw[wlB,wlB,y1a]];rfl
theorem Ho:("\n" : Str)=⟨#[10]⟩:=by decide+kernel
theorem Pg:(" " : Str)=⟨#[32]⟩:=by decide+kernel
theorem Z0(x:Str)(t:T)(z:Str):z++("set " : Str)++x++(" " : Str)++jw (wT t)++("\n" : Str)=z++nlT ((wlD (.set x t)).map jw):=by
 rw[wlD,y0x,nlT,nlT,y27,show jw ("set"::x::wT t)=("set" : Str)++⟨#[32]⟩++jw (x::wT t) from rfl,Lc,Ho,Pg,show("set " : Str)=("set" : Str)++⟨#[32]⟩ from by decide+kernel];simp only[y1t]
theorem Fm(l:Str)(r:List Str):nlT (l::r)=l++⟨#[10]⟩++nlT r:=rfl
theorem Z1(t:T)(b c:List D)(z:Str):z++("if " : Str)++jw (wT t)++("\n" : Str)++tBk b++("else\n" : Str)++tBk c++("end\n" : Str)=z++nlT ((wlD (.ite t b c)).map jw):=by
 rw[wlD,yv,yd,yv,yd,y0x,Fm,Ee,Fm,Ee,Fm,Lc,Ho,show("if " : Str)=("if" : Str)++⟨#[32]⟩ from by decide+kernel,show("else\n" : Str)=jw ["else"]++⟨#[10]⟩ from by decide+kernel,show("end\n" : Str)=jw ["end"]++⟨#[10]⟩ from by decide+kernel,show nlT []=Str.empty from rfl,y27];simp only[y1t,tBk]
theorem Z3(t:T)(m:Int)(b:List D)(z:Str):z++("while " : Str)++Ab m++(" " : Str)++jw (wT t)++("\n" : Str)++tBk b++("end\n" : Str)=z++nlT ((wlD (.whl t m b)).map jw):=by
 rw[wlD,yv,yd,y0x,Fm,Ee,Fm,show jw ("while"::Ab m::wT t)=("while" : Str)++⟨#[32]⟩++jw (Ab m::wT t) from rfl,Lc,Ho,Pg,show("while " : Str)=("while" : Str)++⟨#[32]⟩ from by decide+kernel,show("end\n" : Str)=jw ["end"]++⟨#[10]⟩ from by decide+kernel,show nlT []=Str.empty from rfl,y27];simp only[y1t,tBk]
end
noncomputable def Fo(n:Nat):Sp:=fun vs H Q _=>∃(v:V) (t:T),vs=[v]/\Dt H v t.enc/\t.fit n/\n<=5/\∀H',Same H H'->Q (.str (jw (wT t))) H'
theorem Z4{n:Nat} (F:Fun K "_law_sum_text" "_law_sum_text" Dn f fd) (b_str:mg "str" = none) (c_law_sum_text:Callee P w K mg base "_law_sum_text" ["_law_expr"] (n+1) (Fo n)):FnOk P w K mg base CX0 (n+2) f fd ["_law_expr"] (Fo (n+1)):=by
 refine F.ok Wg (fun vs H Q E h=>?_) (fun aa A outer s H vs Q E hr h=>?_)
 ·obtain⟨v,t,rfl,_⟩:=h;rfl
 obtain⟨v,t,rfl,hd,U,hn,q⟩:=h;refine⟨_,(A7 (AH (AI (gIn hr.units) (A9 AD (A1 0 rfl FL) A3 (fun _ _=>rfl)) (Ac (A0 AA (A0 AA A2))) (by with_unfolding_all rfl)) (A8 (AC (BL Yx Wh b_str DE (A0 (A9 AD (A1 0 rfl FL) A3 (fun _ _=>rfl)) A2) DG DF))) AJ)
 (A8 (AC (Ak y07 y0t y0s DD AA (A0 (AT (A0 (A9 AD (A1 0 rfl FL) A3 (fun _ _=>rfl)) (A0 (AB c_law_sum_text hr (by lia) (A0 (A9 AD (A1 0 rfl FL) A3 (fun _ _=>rfl)) A2) OM F4) (A0 (AB c_law_sum_text hr (by lia) (A0 (A9 AD (A1 0 rfl FL) A3 (fun _ _=>rfl)) A2) OM F4) A2)))) A2))))),?_⟩
 have key:∀(z:Str),inV (.str z) [V.str "num",V.str "name"]=(decide (z = "num") || decide (z = "name")):=fun z=>by
  rw[show [V.str "num",V.str "name"]=(["num","name"]:List Str).map V.str from rfl,Cz];simp
 cases t with
 |num i=>
  rw[T.enc] at hd;obtain⟨a,x0,x1,rfl,M,t0,Z⟩:=CG hd;cases t0; cases Z;refine AE fun N1 e1=>?_;walk_at "rdt";refine⟨_,SqT.of M,_,rfl,zl 2 (by decide),fun p J=>?_⟩;have G:=A6 J (HO.tup [V.str "num",V.str "name"]);refine⟨_,.inl ⟨p,_,rfl,.inr (SqT.of A4),rfl,rfl,rfl⟩,?_⟩;rw[key,if_pos (by decide+kernel)];exact⟨_,SqT.of (G _ _ M),_,rfl,.inl ⟨_,rfl,D1 (by have:=U.1; lia) (by have:=U.2; lia),q _ G⟩⟩
 |nm x=>
  rw[T.enc] at hd;obtain⟨a,x0,x1,rfl,M,t0,Z⟩:=CG hd;cases t0; cases Z;refine AE fun N1 e1=>?_;walk_at "rdt";refine⟨_,SqT.of M,_,rfl,zl 2 (by decide),fun p J=>?_⟩;have G:=A6 J (HO.tup [V.str "num",V.str "name"]);refine⟨_,.inl ⟨p,_,rfl,.inr (SqT.of A4),rfl,rfl,rfl⟩,?_⟩;rw[key,if_pos (by decide+kernel)];exact⟨_,SqT.of (G _ _ M),_,rfl,.inr ⟨_,rfl,q _ G⟩⟩
 |op w a b=>
  rw[T.enc] at hd;obtain⟨ad,x0,x1,x2,rfl,M,t0,Z,t2⟩:=BM hd;cases t0;refine AE fun N1 e1=>?_;walk_at "rdt";refine⟨_,SqT.of M,_,rfl,zl 2 (by decide),fun p J=>?_⟩;have G:=A6 J (HO.tup [V.str "num",V.str "name"]);refine⟨_,.inl ⟨p,_,rfl,.inr (SqT.of A4),rfl,rfl,rfl⟩,?_⟩;rw[key,if_neg (by cases w<;>decide+kernel),e1];generalize upd H p _=H1 at G |-;walk_at "rdt";refine⟨rfl,_,SqT.of (G _ _ M),_,rfl,_,SqT.of (G _ _ M),_,rfl,x1,a,rfl,Z.kp G.kp,U.1,by lia,fun H2 s2=>?_⟩;have O:=G.trans s2;refine⟨_,SqT.of (O _ _ M),_,rfl,x2,b,rfl,t2.kp O.kp,U.2,by lia,fun H3 s3=>?_⟩;refine⟨zl 3 (by decide),fun p4 h4=>⟨[w.str,jw (wT a),jw (wT b)],A4,?_,?_⟩⟩
  ·have la:=Fk U.1 (by lia);have lb:=Fk U.2 (by lia);have lw:=(Fd w).2.2.1;refine Fg (B:=256) (List.forall_mem_cons.mpr ⟨by lia,List.forall_mem_cons.mpr ⟨la,List.forall_mem_cons.mpr ⟨lb,fun _ h=>nomatch h⟩⟩⟩) (by show 3*(256+(" " : Str).length)<=16000000; decide+kernel)
  ·rw[Hi,Yy];exact q _ (O.trans (s3.trans (A6 h4 _)))
theorem Ph(d:Df K mg "_law_sum_text" Dn ["_law_expr"] f fd) (b_str:mg "str" = none):∀n:Nat,Callee P w K mg base "_law_sum_text" ["_law_expr"] (n+1) (Fo n)
 |0=>d.callee (Hf fun vs H Q E h=>by obtain⟨v,t,rfl,_,q,_⟩:=h; exact q.elim)
 |n+1=>d.callee (Z4 d.F b_str (Ph d b_str n))
noncomputable def Hq(n:Nat):Sp:=fun vs H Q _=>∃(v:V) (b:List D),vs=[v]/\Dt H v (.tup (AM b))/\fitB n b/\n<=3/\∀H',Same H H'->Q (.str (tBk b)) H'
noncomputable def BtI(H:Hp)(q:Addr)(b:List D)(i:Nat)(σ:St)(z:Hp):Prop:=Same H z/\∃t,σ=[some (.ref q),some (.str (tBk (b.take i))),t]
theorem Z5{n:Nat} (F:Fun K "_law_block_text" "_law_block_text" C4 f fd) (b_str:mg "str" = none) (c_law_sum_text:Callee P w K mg base "_law_sum_text" ["_law_expr"] 6 (Fo 5)) (c_law_block_text:Callee P w K mg base "_law_block_text" ["_law_block_here"] (n+7) (Hq n)):FnOk P w K mg base CX0 (n+8) f fd ["_law_block_here"] (Hq (n+1)):=by
 refine F.ok sc_law_block_text (fun vs H Q E h=>?_) (fun ag A outer s H vs Q E J h=>?_)
 ·obtain⟨v,t,rfl,_⟩:=h;rfl
 obtain⟨v,b,rfl,hd,hf,hn,q⟩:=h;refine⟨_,(A7 (AK (i:=1) sc_law_block_text.nd rfl Do AA (AF rfl))
 (A7 (D7 y1e rfl (Cf (A1 0 rfl Wk)) (AZ (i:=2) sc_law_block_text.nd rfl Wj)
 (A8 (AH (AI (gEq J.units) (A9 AD (A1 2 rfl CU) A3 (fun _ _=>rfl)) AA (AG _)) (A8 (AK (i:=1) sc_law_block_text.nd rfl Do (A5 AU (A5 AU (A5 AU (A5 AU (A5 AU (A1 1 rfl Dp) AA) (A9 AD (A1 2 rfl CU) A3 (fun _ _=>rfl))) AA) (AB c_law_sum_text J (by lia) (A0 (A9 AD (A1 2 rfl CU) A3 (fun _ _=>rfl)) A2) KJ F4)) AA) (AF rfl))) (A8 (AH (AI (gEq J.units) (A9 AD (A1 2 rfl CU) A3 (fun _ _=>rfl)) AA (AG _)) (A7 (AK (i:=1) sc_law_block_text.nd rfl Do (A5 AU (A5 AU (A5 AU (A1 1 rfl Dp) AA) (AB c_law_sum_text J (by lia) (A0 (A9 AD (A1 2 rfl CU) A3 (fun _ _=>rfl)) A2) KJ F4)) AA) (AF rfl))
 (A7 (AK (i:=1) sc_law_block_text.nd rfl Do (A5 AU (A5 AU (A1 1 rfl Dp) (AB c_law_block_text J (by lia) (A0 (A9 AD (A1 2 rfl CU) A3 (fun _ _=>rfl)) A2) KI Gc)) AA) (AF rfl))
 (A8 (AK (i:=1) sc_law_block_text.nd rfl Do (A5 AU (A5 AU (A1 1 rfl Dp) (AB c_law_block_text J (by lia) (A0 (A9 AD (A1 2 rfl CU) A3 (fun _ _=>rfl)) A2) KI Gc)) AA) (AF rfl))))) (A7 (AK (i:=1) sc_law_block_text.nd rfl Do (A5 AU (A5 AU (A5 AU (A5 AU (A5 AU (A1 1 rfl Dp) AA) (BL E6 Wi b_str DE (A0 (A9 AD (A1 2 rfl CU) A3 (fun _ _=>rfl)) A2) DG DF)) AA) (AB c_law_sum_text J (by lia) (A0 (A9 AD (A1 2 rfl CU) A3 (fun _ _=>rfl)) A2) KJ F4)) AA) (AF rfl))
 (A8 (AK (i:=1) sc_law_block_text.nd rfl Do (A5 AU (A5 AU (A1 1 rfl Dp) (AB c_law_block_text J (by lia) (A0 (A9 AD (A1 2 rfl CU) A3 (fun _ _=>rfl)) A2) KI Gc)) AA) (AF rfl)))))))))
 (A8 (AC (A1 1 rfl Dp))))),?_⟩
 obtain⟨pb,xs,rfl,hp,da⟩:=hd.tupI;refine AE fun N1 e1=>?_;walk_at "rdt";rw[e1];refine AE fun N2 e2=>?_;walk_at "rdt";refine⟨⟨_,SqT.of hp⟩,?_⟩;refine IZ (K:=K) (a:=pb) (xs:=xs) (BtI H pb b) ⟨Same.refl _,none,?_⟩ ?_ ?_ ?_
 ·rw[List.take_zero,show("" : Str)=Str.empty from by decide+kernel]; rfl
 ·rintro i σ Hc _ ⟨sc,_⟩;exact SqT.of (sc _ _ hp)
 ·rintro i x σ Hc hx ⟨sc,t,rfl⟩;obtain⟨d,hd,dx⟩:=da.get hx;obtain⟨e,he,rfl⟩:=L5 hd;have hm:=yt he;have z:=hf.2 e hm;replace dx:=dx.kp sc.kp;have aa:∀j,(tBk (b.take j)).length<=750000:=fun j=>Fl (n:=n+1) ⟨by have:=hf.1; rw[yz]; lia,fun d hd=>hf.2 d (y17 hd)⟩ hn;have h0:=aa i;have h1:=aa (i+1);have O:tBk (b.take (i+1))=tBk (b.take i)++nlT ((wlD e).map jw):=by rw[y03,he,y1f,Yz]
  have z1:("set " : Str).length=4:=by decide+kernel
  have z2:(" " : Str).length=1:=by decide+kernel
  have z3:("\n" : Str).length=1:=by decide+kernel
  have z4:("if " : Str).length=3:=by decide+kernel
  have z5:("else\n" : Str).length=5:=by decide+kernel
  have z6:("end\n" : Str).length=4:=by decide+kernel
  have z7:("while " : Str).length=6:=by decide+kernel
  refine Ks fun M0 f0=>?_;walk_at "rdt";rw[f0];refine FN fun Y Z eY eZ=>?_;walk_at "rdt";cases e with
  |set y u=>
   rw[D.enc] at dx;obtain⟨p,x0,x1,x2,rfl,B,t0,t1,U⟩:=BM dx;cases t1;have ly:=(DQ z.1).2.1;have lu:=Fk z.2 (yf _);refine⟨_,rfl,_,SqT.of B,_,rfl,_,AN t0,?_⟩;rw[if_pos (show eqS (.str "set") "set" = true from by decide+kernel),eY];walk_at "rdt";refine⟨zl _ (by lia),_,SqT.of B,_,rfl,_,rfl,zl _ (by simp only[yc]; lia),zl _ (by simp only[yc]; lia),_,SqT.of B,_,rfl,x2,u,rfl,U,z.2,yf _,fun H2 G=>?_⟩;refine⟨_,rfl,zl _ (by simp only[yc]; lia),zl _ (by simp only[yc]; lia),sc.trans G,some (V.ref p),?_⟩;rw[O,<- Z0]
  |ite u c d=>
   rw[D.enc] at dx;obtain⟨p,x0,x1,x2,x3,rfl,B,t0,t1,U,t3⟩:=CH dx;have lu:=Fk z.1 (yf _);have lc:=Fl z.2.1 (by lia);have ld:=Fl z.2.2 (by lia);refine⟨_,rfl,_,SqT.of B,_,rfl,_,AN t0,?_⟩;rw[if_neg (show ¬ eqS (.str "if") "set" = true from by decide+kernel),eZ];refine FN fun Y2 Z2 ae ac=>?_;walk_at "rdt";refine⟨_,SqT.of B,_,rfl,_,AN t0,?_⟩;rw[if_pos (show eqS (.str "if") "if" = true from by decide+kernel),ae];refine AE fun N3 e3=>?_;walk_at "rdt";refine⟨zl _ (by lia),_,SqT.of B,_,rfl,x1,u,rfl,t1,z.1,yf _,fun H2 G=>?_⟩;refine⟨_,rfl,zl _ (by simp only[yc]; lia),zl _ (by simp only[yc]; lia),?_⟩;rw[e3];refine AE fun N4 e4=>?_;walk_at "rdt";refine⟨_,SqT.of (G _ _ B),_,rfl,x2,c,rfl,U.kp G.kp,z.2.1,by lia,fun H3 s3=>?_⟩;refine⟨_,rfl,zl _ (by simp only[yc]; lia),zl _ (by simp only[yc]; lia),?_⟩;rw[e4];walk_at "rdt";have M:=G.trans s3;refine⟨_,SqT.of (M _ _ B),_,rfl,x3,d,rfl,t3.kp M.kp,z.2.2,by lia,fun H4 s4=>?_⟩;refine⟨_,rfl,zl _ (by simp only[yc]; lia),zl _ (by simp only[yc]; lia),sc.trans (M.trans s4),some (V.ref p),?_⟩;rw[O,<- Z1]
  |whl u m c=>
   rw[D.enc] at dx;obtain⟨p,x0,x1,x2,x3,rfl,B,t0,t1,U,t3⟩:=CH dx;cases U;have lu:=Fk z.1 (yf _);have lc:=Fl z.2.2.2 (by lia);have af:=C5 (i:=m) (by have:=z.2.1; lia) (by have:=z.2.2.1; lia);have lm:=af.2.2.2;refine⟨_,rfl,_,SqT.of B,_,rfl,_,AN t0,?_⟩;rw[if_neg (show ¬ eqS (.str "while") "set" = true from by decide+kernel),eZ];refine FN fun Y2 Z2 ae ac=>?_;walk_at "rdt";refine⟨_,SqT.of B,_,rfl,_,AN t0,?_⟩;rw[if_neg (show ¬ eqS (.str "while") "if" = true from by decide+kernel),ac];refine AE fun N3 e3=>?_;walk_at "rdt";refine⟨zl _ (by lia),_,SqT.of B,_,rfl,_,rfl,D1 (by have:=z.2.1; lia) (by have:=z.2.2.1; lia),zl _ (by simp only[yc]; lia),zl _ (by simp only[yc]; lia),_,SqT.of B,_,rfl,x1,u,rfl,t1,z.1,yf _,fun H2 G=>?_⟩;refine⟨_,rfl,zl _ (by simp only[yc]; lia),zl _ (by simp only[yc]; lia),?_⟩;rw[e3];walk_at "rdt";refine⟨_,SqT.of (G _ _ B),_,rfl,x3,c,rfl,t3.kp G.kp,z.2.2.2,by lia,fun H3 s3=>?_⟩;refine⟨_,rfl,zl _ (by simp only[yc]; lia),zl _ (by simp only[yc]; lia),sc.trans (G.trans s3),some (V.ref p),?_⟩;rw[O,<- Z3];rfl
 ·rintro σ Hc ⟨sc,t,rfl⟩;rw[e2];walk_at "rdt";rw[da.length,Cw,y0h];exact q _ sc
theorem Pj(d:Df K mg "_law_block_text" C4 ["_law_block_here"] f fd) (b_str:mg "str" = none) (c_law_sum_text:Callee P w K mg base "_law_sum_text" ["_law_expr"] 6 (Fo 5)):∀n:Nat,Callee P w K mg base "_law_block_text" ["_law_block_here"] (n+7) (Hq n)
 |0=>d.callee (Hf fun vs H Q E h=>by obtain⟨v,t,rfl,_,q,_⟩:=h; exact q.elim)
 |n+1=>d.callee (Z5 d.F b_str c_law_sum_text (Pj d b_str c_law_sum_text n))
noncomputable def LtI(H:Hp)(z:List Rw)(i:Nat)(ys:List V)(q:St)(H':Hp):Prop:=H'=H/\(∃a,q=[a])/\ys=((z.take i).map fun r=>jw (BI r)++("\n" : Str)).map V.str
theorem Z6(F:Fun K "_law_text" "_law_text" Dq f fd) (b_str:mg "str" = none) (c_law_block_text:Callee P w K mg base "_law_block_text" ["_law_block_here"] 10 (Hq 3)):FnOk P w K mg base CX0 11 f fd ["_law_program_here"] Ed:=by
 refine F.ok sc_law_text (fun vs H Q E h=>?_) (fun ac A outer s H vs Q E M h=>?_)
 ·obtain⟨v,z,b,rfl,_⟩:=h;rfl
 obtain⟨v,z,b,rfl,hd,U,q⟩:=h;refine⟨_,(A7 (RE (i:=1) ["_law_row"] [none] sc_law_text.nd rfl Wm rfl (CompS.of (by rfl)) (Cf (A9 AD (A1 0 rfl ON) A3 (fun _ _=>rfl))) (fun _ _ _ _ _=>(AZ (i:=0) (show List.Nodup (["_law_row"]:List Str) from by decide+kernel) rfl (Or.inl rfl))) (fun _ _ _ _ _=>Bj) (fun _ _ _ _ _=>(A5 AU (A5 AU (A5 AU (A5 AU (A5 AU (A5 AU AA (A9 (ixK (r:=Be) (K:=K) AD rfl) (AX (i:=0) rfl (by walk_at "vc") Ge Ga) A3 (fun _ _=>rfl))) AA) (BL E6 rfl b_str DE (A0 (A9 (ixK (r:=Be) (K:=K) AD rfl) (AX (i:=0) rfl (by walk_at "vc") Ge Ga) A3 (fun _ _=>rfl)) A2) DG DF)) AA) (BL E6 rfl b_str DE (A0 (A9 (ixK (r:=Be) (K:=K) AD rfl) (AX (i:=0) rfl (by walk_at "vc") Ge Ga) A3 (fun _ _=>rfl)) A2) DG DF)) AA)))
 (A8 (AC (A5 AU (Ak y07 y0t y0s DD AA (A0 (A1 1 rfl Wn) A2)) (AB c_law_block_text M (by lia) (A0 (A9 AD (A1 0 rfl ON) A3 (fun _ _=>rfl)) A2) Wl Gc))))),?_⟩
 rw[BO] at hd;obtain⟨p,x0,x1,rfl,hp,t0,t1⟩:=CG hd;obtain⟨pr,xs,rfl,hr',da⟩:=t0.tupI;refine AE fun N1 e1=>?_;walk_at "rdt";refine⟨_,SqT.of hp,_,rfl,_,rfl,⟨_,SqT.of hr'⟩,?_⟩;have lx:xs.length=z.length:=by rw[da.length,y4]
 have l4:=U.len;refine EA (K:=K) (a:=pr) (xs:=xs) (LtI H z) ⟨rfl,⟨_,rfl⟩,rfl⟩ (sm6 (by lia)) ?_ ?_ ?_ ?_
 ·rintro i ys σ Hc ⟨_,_,rfl⟩;rw[y4,y4,yz]; lia
 ·rintro i ys σ Hc _ ⟨rfl,_⟩;exact SqT.of hr'
 ·rintro i ys x σ Hc hx ⟨rfl,⟨a,rfl⟩,rfl⟩;obtain⟨r,O,dr⟩:=P6 da hx;obtain⟨ra,r0,r1,r2,rfl,J,u0,u1,u2⟩:=BM dr;cases u0; cases u1; cases u2;obtain⟨f1,f2,f3,f4⟩:=U.rows r (yt O);have n1:=(DQ f1).2.1;obtain⟨_,_,_,k1⟩:=C5 (i:=r.2.1) (by lia) (by lia);obtain⟨_,_,_,k2⟩:=C5 (i:=r.2.2) (by lia) (by lia);walk_at "rdt";have z1:("in " : Str).length=3:=by decide+kernel
  have z2:(" " : Str).length=1:=by decide+kernel
  have z3:("\n" : Str).length=1:=by decide+kernel
  refine⟨_,SqT.of J,_,rfl,_,rfl,zl _ (by lia),zl _ (by simp only[yc]; lia),_,SqT.of J,_,rfl,_,rfl,D1 (by lia) (by lia),zl _ (by simp only[yc]; lia),zl _ (by simp only[yc]; lia),_,SqT.of J,_,rfl,_,rfl,D1 (by lia) (by lia),zl _ (by simp only[yc]; lia),zl _ (by simp only[yc]; lia),rfl,⟨_,rfl⟩,?_⟩;have er:=PB r;rw[Str.empty_append] at er;rw[y03,O,y1f,yd,yd,y0x,y0x,<- er];rfl
 ·rintro ys σ Hc ⟨rfl,_,rfl⟩ p1 h1;rw[lx,y0h];have Z:=A6 h1 (HO.lst ((z.map fun r=>jw (BI r)++("\n" : Str)).map V.str));have aa:=Fl U.blk (yf _);rw[e1];walk_at "rdt";have G:∀r∈z,(jw (BI r)).length<=264:=fun r M=>Ec (P4 (U.rows r M));have ej:Txt.join "" (z.map fun r=>jw (BI r)++("\n" : Str))=nlT (z.map fun r=>jw (BI r)):=by
   show Builtin.Str.glued "" _=_;rw[y1y,<- LS,y23,show("" : Str)=Str.empty from by decide+kernel];rfl
  have ln:=He (B:=264) (ls:=z.map fun r=>jw (BI r)) fun l hl=>by
   obtain⟨r,M,rfl⟩:=List.mem_map.mp hl;exact G r M
  rw[y4] at ln;refine⟨rfl,z.map fun r=>jw (BI r)++("\n" : Str),A4,?_,_,SqT.of (Z _ _ hp),_,rfl,x1,b,rfl,t1.kp Z.kp,U.blk,yf _,fun H2 s2=>?_⟩
  ·refine Fg (B:=265) (fun l hl=>?_) ?_
   ·obtain⟨r,M,rfl⟩:=List.mem_map.mp hl;have:=G r M;have z3:("\n" : Str).length=1:=by decide+kernel
    rw[yc]; lia
   ·have ze:("" : Str).length=0:=by decide+kernel
    rw[y4,ze]; lia
  ·rw[ej];refine⟨_,rfl,zl _ (by lia),?_⟩;have e:nlT (z.map fun r=>jw (BI r))++tBk b=Ae z b:=by
    rw[Ae,wlP,yd,Ee,y23]; rfl
   rw[e];exact q _ (Z.trans s2)
noncomputable def Pk:Sp:=fun vs H Q _=>∃z:Str,vs=[.str z]/\z.length<=3000000/\PyData.strOk z=true/\∀H',Same H H'->Q (.bl true) H'
theorem Z7{a_RoomError a_NoWorths a_BadPaper a_BadPlan a_NoProgram a_NoText:Addr} (F:Fun K "_law_holds" "_law_holds" Ai f fd) (b_isinstance:mg "isinstance" = none) (b_ValueError:mg "ValueError" = none)
  (m_RoomError:mg "RoomError" = some (.ref a_RoomError)) (m_NoWorths:mg "NoWorths" = some (.ref a_NoWorths)) (m_BadPaper:mg "BadPaper" = some (.ref a_BadPaper)) (m_BadPlan:mg "BadPlan" = some (.ref a_BadPlan)) (m_NoProgram:mg "NoProgram" = some (.ref a_NoProgram)) (m_NoText:mg "NoText" = some (.ref a_NoText))
  (J:ExcC K a_NoText) (xm:PySem.W.exmOne K (.ref a_NoText) (.ref a_RoomError)=some true) (k1:PySem.W.kitOne K (.ref a_NoText) (.ref a_BadPaper)=some false) (k2:PySem.W.kitOne K (.ref a_NoText) (.ref a_BadPlan)=some false) (k3:PySem.W.kitOne K (.ref a_NoText) (.ref a_NoProgram)=some false) (k4:PySem.W.kitOne K (.ref a_NoText) (.ref a_NoWorths)=some false)
  (k5:PySem.W.kitOne K (.ref a_NoText) (.ref a_NoText)=some true) (k6:PySem.W.kitOne K (.ref a_NoText) (.type "ValueError")=some true) (cx_read:CalleeX P w K mg base "read" ["text"] 18 (Lb a_NoText)) (c_is_program:Callee P w K mg base "is_program" ["thing"] 17 L6) (c_law_text:Callee P w K mg base "_law_text" ["_law_program_here"] 11 Ed):FnOk P w K mg base CX0 19 f fd ["_law_text_here"] Pk:=by
 refine F.ok sc_law_holds (fun vs H Q E h=>?_) (fun ae A outer s H vs Q E Z h=>?_)
 ·obtain⟨z,rfl,_⟩:=h;rfl
 obtain⟨z,rfl,hz,hk,q⟩:=h;refine⟨_,(A7 (AK (i:=1) sc_law_holds.nd rfl X2 Cd (AF rfl))
 (A7 (AK (i:=2) sc_law_holds.nd rfl X1 Cd (AF rfl))
 (A7 (SJ (i:=3) (q:=1) (a:=2) cx_read Z (by lia) (A0 (A1 0 rfl OQ) A2) rfl rfl rfl m_RoomError Wt sc_law_holds.nd rfl X0 rfl Wz (by decide) rfl Wy Wx NO Sr TB SU rfl (AF rfl) (AF rfl))
 (A7 (AH (AI MW (A1 1 rfl Dr) Cd (AG _)) (A8 (AC (BP (BK RP (AB c_is_program Z (by lia) (A0 (A1 2 rfl OO) A2) Ww NL) B7 (AG _)) (Bs (BK (gEq Z.units) (AB c_law_text Z (by lia) (A0 (A1 2 rfl OO) A2) Wv NJ) (A1 0 rfl OQ) (AG _)))))) AJ)
 (A7 (AK (i:=4) sc_law_holds.nd rfl X3 (AT (A0 (AV EF EQ b_isinstance Bv (A0 (A1 1 rfl Dr) (A0 (E2 (v:=V.ref a_BadPaper) Wo m_BadPaper rfl Sd) A2)) Bx Bw) (A0 (AV EF EQ b_isinstance Bv (A0 (A1 1 rfl Dr) (A0 (E2 (v:=V.ref a_BadPlan) Wp m_BadPlan rfl Se) A2)) Bx Bw) (A0 (AV EF EQ b_isinstance Bv (A0 (A1 1 rfl Dr) (A0 (E2 (v:=V.ref a_NoProgram) Wq m_NoProgram rfl So) A2)) Bx Bw) A2)))) (AF rfl))
 (A7 (BQ (Ak yq y0g y0f Cg (A1 4 rfl OP) (A0 (AV EF EQ b_isinstance Bv (A0 (A1 1 rfl Dr) (A0 (E2 (v:=V.ref a_NoWorths) Ws m_NoWorths rfl Sq) A2)) Bx Bw) A2)) (AF rfl))
 (A8 (AC (BP (AV EF EQ b_isinstance Bv (A0 (A1 1 rfl Dr) (A0 (E2 (v:=V.ref a_NoText) Wr m_NoText rfl Cm) A2)) Bx Bw) (BP (AV EF EQ b_isinstance Bv (A0 (A1 1 rfl Dr) (A0 (DU (v:=V.ty "ValueError") Wu b_ValueError SK rfl Tb Ss) A2)) Bx Bw) (Bs (BK DB (Ak yq PySem.F.slot_list_count PySem.F.type_list_count S9 (A1 4 rfl OP) (A0 B7 A2)) A3 (AG _))))))))))))),AE fun N1 e1=>?_⟩
 walk_at "rdt";rw[e1];refine AE fun N2 e2=>?_;walk_at "rdt";rw[e2];refine AE fun N3 e3=>?_;walk_at "rdt";refine⟨z,rfl,hz,hk,fun H2 s2 _=>⟨_,rfl,xm,fun x hx=>?_⟩,fun H2 v rs b s2 dv hf aa ht hp=>?_⟩
 ·have G:=s2.trans (A6 hx (HO.exc x a_NoText));have B:(upd H2 x (HO.exc x a_NoText)) x=some (HO.exc x a_NoText):=A4;generalize upd H2 x (HO.exc x a_NoText)=H3 at B G |-;rw[e3];refine AE fun N4 e4=>?_;walk_at "rdt";rw[e4];refine AE fun N5 e5=>?_;walk_at "rdt";refine⟨_,_,_,⟨rfl,rfl⟩,B,_,rfl,fun _ z=>z,J,_,k1,_,_,_,⟨rfl,rfl⟩,B,_,rfl,fun _ z=>z,J,_,k2,_,_,_,⟨rfl,rfl⟩,B,_,rfl,fun _ z=>z,J,_,k3,by decide,fun l hl=>?_⟩;have s4:=A6 hl (HO.lst [V.bl false,V.bl false,V.bl false]);have O:=s4 _ _ B;have ac:x≠l:=CL B hl;have U:H l=none:=G.free hl;rw[e5];refine AE fun N6 e6=>?_;walk_at "rdt";refine⟨.inl ⟨rfl,_,SqL.of A4⟩,_,_,_,⟨rfl,rfl⟩,O,_,rfl,fun _ z=>z,J,_,k4,_,A4,by decide,?_⟩;rw[e6];have M:(upd (upd H3 l (HO.lst [V.bl false,V.bl false,V.bl false])) l (HO.lst ([V.bl false,V.bl false,V.bl false]++[V.bl false]))) x=some (HO.exc x a_NoText):=by rw[AQ ac]; exact O
  walk_at "rdt";refine⟨_,_,_,⟨rfl,rfl⟩,M,_,rfl,fun _ z=>z,J,_,k5,?_⟩;rw[if_pos rfl];refine⟨_,_,_,⟨rfl,rfl⟩,M,_,rfl,fun _ z=>z,J,_,k6,?_⟩;rw[if_pos rfl];exact⟨.inl ⟨rfl,_,SqL.of A4⟩,[false,false,false,false],A4,q _ (Dy (Dy G U) U)⟩
 ·rw[e3];refine AE fun N4 e4=>?_;walk_at "rdt";refine⟨v,_,true,rfl,dv,PR (LY hz hk) hp,aa,fun H3 G=>⟨_,rfl,?_⟩⟩;rw[if_pos (show(true==true)=true from rfl)];refine⟨v,rs,b,rfl,dv.kp G.kp,hf,fun H4 s4=>⟨_,AN (.str _),?_⟩⟩;have e:eqS (.str (Ae rs b)) z=true:=decide_eq_true ht;rw[e];exact q _ (s2.trans (G.trans s4))
noncomputable def sgn:Str:=" 0123-abifsetwhilend\n"
noncomputable def Pm:Sp:=fun vs H Q _=>∃(z:Str) (c:Int),vs=[.str z,.int c,.str sgn]/\0<=c/\z.length<=1000000/\PyData.strOk z=true/\∀q H',Same H H'->q.length<=2000002->PyData.strOk q=true->Q (.str q) H'
theorem Bb{a b:Str}(h:PyData.strOk a=true)(k:PyData.strOk b=true):PyData.strOk (a++b)=true:=strOk_iff.mpr fun c hc=>by
 rw[FY] at hc;exact(List.mem_append.mp hc).elim (strOk_iff.mp h c) (strOk_iff.mp k c)
theorem Z8{z:Str}{l u:Option Int}(h:PyData.strOk z=true):PyData.strOk (Txt.slice z l u)=true:=by
 refine strOk_iff.mpr fun c hc=>?_;show c<_;have hc:c∈(StrLaws.sliceText z l u).cps.toList:=hc;unfold StrLaws.sliceText at hc;split at hc
 ·exact strOk_iff.mp h c hc
 ·rw[y2z,List.mem_filterMap] at hc;obtain⟨i,_,e⟩:=hc;exact strOk_iff.mp h c (Array.mem_toList_iff.mpr (Array.mem_of_getElem? e))
theorem Z9(F:Fun K "_law_spoilt" "_law_spoilt" BY f fd) (b_len:mg "len" = none):FnOk P w K mg base CX0 1 f fd ["_law_text_here","_law_cell_here","_law_signs"] Pm:=by
 refine F.ok sc_law_spoilt (fun vs H Q E h=>?_) (fun ac A outer s H vs Q E hr h=>?_)
 ·obtain⟨z,c,rfl,_⟩:=h;rfl
 obtain⟨z,c,rfl,c0,hz,hk,q⟩:=h;refine⟨_,(A7 (AK (i:=3) sc_law_spoilt.nd rfl Wb (A5 CN (A1 1 rfl FJ) (A5 AR (AV B0 OI b_len B1 (A0 (A1 0 rfl BH) A2) B4 B3) A3)) (AF rfl))
 (A7 (AK (i:=4) sc_law_spoilt.nd rfl We (A9 Qq (A1 2 rfl OL) (A5 CN (A5 G9 (A1 1 rfl FJ) A3) (AV B0 OI b_len B1 (A0 (A1 2 rfl OL) A2) B4 B3)) (fun _ _=>rfl)) (AF rfl))
 (A7 (AK (i:=5) sc_law_spoilt.nd rfl Wc (A5 AR (A5 AR (A1 3 rfl CD) A3) (A5 CN (A5 G9 (A1 1 rfl FJ) A3) A3)) (AF rfl))
 (A7 (AK (i:=6) sc_law_spoilt.nd rfl Wf (A5 CN (A5 G9 (A1 1 rfl FJ) A3) A3) (AF rfl))
 (A7 (AH (AI Bd (A1 6 rfl FK) A3 (AG _)) (A8 (AC (A5 AU (A5 AU (At Bk (A1 0 rfl BH) Ar (As (A1 3 rfl CD))) (A1 4 rfl OK)) (At Bk (A1 0 rfl BH) (As (A1 3 rfl CD)) Ar)))) AJ)
 (A7 (AH (AI DB (A1 6 rfl FK) A3 (AG _)) (A8 (AC (A5 AU (At Bk (A1 0 rfl BH) Ar (As (A1 3 rfl CD))) (At Bk (A1 0 rfl BH) (As (A5 AR (A1 3 rfl CD) A3)) Ar)))) AJ)
 (A7 (AH (AI Bd (A1 6 rfl FK) A3 (AG _)) (A8 (AC (A5 AU (A5 AU (At Bk (A1 0 rfl BH) Ar (As (A1 3 rfl CD))) (A1 4 rfl OK)) (At Bk (A1 0 rfl BH) (As (A5 AR (A1 3 rfl CD) A3)) Ar)))) AJ)
 (A7 (AH (AI DB (A1 6 rfl FK) A3 (AG _)) (A8 (AC (A5 AU (At Bk (A1 0 rfl BH) Ar (As (A1 3 rfl CD))) (At Bk (A1 0 rfl BH) (As (A1 5 rfl OJ)) Ar)))) AJ)
 (A7 (AH (AI DB (A1 6 rfl FK) A3 (AG _)) (A8 (AC (A5 AU (At Bk (A1 0 rfl BH) Ar (As (A1 5 rfl OJ))) (At Bk (A1 0 rfl BH) (As (A1 3 rfl CD)) Ar)))) AJ)
 (A8 (AC (A9 Ad (AT (A0 (A5 AU (A1 0 rfl BH) AA) (A0 (A5 AU AA (A1 0 rfl BH)) (A0 (A5 AU (At Bk (A1 0 rfl BH) (As (A1 3 rfl CD)) Ar) (At Bk (A1 0 rfl BH) Ar (As (A1 3 rfl CD)))) (A0 AA (A0 (A5 AU (A1 0 rfl BH) (A1 0 rfl BH)) A2)))))) (A5 CN (A1 1 rfl FJ) A3) (fun _ _=>rfl))))))))))))),AE fun N1 e1=>?_⟩
 have lz:Ci K (.str z) H z.length:=.inr ⟨_,rfl,zl _ (by lia),rfl⟩;have ls:sgn.length=21:=by decide+kernel
 have lg:Ci K (.str sgn) H 21:=.inr ⟨_,rfl,by rw[ls]; decide,ls.symm⟩;walk_at "rdt";refine⟨_,lz,by lia,?_⟩;rw[e1];refine AE fun N2 e2=>?_;walk_at "rdt";have hs:0<=c / 1000 % 21/\c / 1000 % 21<21:=by lia
 obtain⟨g,hg⟩:∃g,sgn.cps.toList[(c / 1000 % 21).toNat]?=some g:=⟨_,y0u (by rw[<- Ba,ls]; lia)⟩;have aa:atI sgn.cps.toList (c / 1000 % ((21:Nat):Int))=some g:=by
  have:=DA hg;rw[show(((c / 1000 % 21).toNat:Nat):Int)=c / 1000 % ((21:Nat):Int) from by lia] at this;exact this
 have M:PyData.strOk ⟨#[g]⟩=true:=by
  have hm:=yt hg;have:sgn.cps.toList.all (fun c=>decide (c<1114112))=true:=by decide+kernel
  have:=of_decide_eq_true (List.all_eq_true.mp this g hm);exact strOk_iff.mpr fun d hd=>by rw[List.mem_singleton.mp hd]; exact this
 have g1:(⟨#[g]⟩:Str).length=1:=rfl;refine⟨⟨by decide,by decide⟩,_,lg,by decide,by rw[ls]; decide,g,aa,?_⟩;rw[e2];generalize (⟨#[g]⟩:Str)=gs at M g1 |-;refine AE fun N3 e3=>?_;walk_at "rdt";refine⟨⟨by decide,by decide⟩,by decide,?_⟩;rw[e3];refine AE fun N4 e4=>?_;walk_at "rdt";refine⟨⟨by decide,by decide⟩,by decide,?_⟩;have G:∀l u,(Txt.slice z l u).length<=z.length:=fun l u=>Txt.slice_le z l u;have B:=zl z.length (by lia);generalize c % ((z.length:Int)+1)=at_;generalize c / 100000 % 8=way;generalize at_+1+c / 7 % 9=on;rw[e4];refine AE fun N5 e5=>?_;walk_at "rdt";have S:=fun l u=>G l u;have U:∀O,O.length<=2000002->PyData.strOk O=true->Q (.str O) H:=fun O=>q O H (Same.refl _);have J:∀l u,PyData.strOk (Txt.slice z l u)=true:=fun l u=>Z8 hk;split
 ·have a1:=G none (some at_);have a2:=G (some at_) none;exact⟨B,zl _ (by lia),B,zl _ (by rw[yc]; lia),U _ (by simp only[yc]; lia) (Bb (Bb (J _ _) M) (J _ _))⟩
 rw[e5];refine AE fun N6 e6=>?_;walk_at "rdt";split
 ·have a1:=G none (some at_);have a2:=G (some (at_+1)) none;exact⟨B,B,zl _ (by lia),U _ (by simp only[yc]; lia) (Bb (J _ _) (J _ _))⟩
 rw[e6];refine AE fun N7 e7=>?_;walk_at "rdt";split
 ·have a1:=G none (some at_);have a2:=G (some (at_+1)) none;exact⟨B,zl _ (by lia),B,zl _ (by rw[yc]; lia),U _ (by simp only[yc]; lia) (Bb (Bb (J _ _) M) (J _ _))⟩
 rw[e7];refine AE fun N8 e8=>?_;walk_at "rdt";split
 ·have a1:=G none (some at_);have a2:=G (some on) none;exact⟨B,B,zl _ (by lia),U _ (by simp only[yc]; lia) (Bb (J _ _) (J _ _))⟩
 rw[e8];refine AE fun N9 e9=>?_;walk_at "rdt";split
 ·have a1:=G none (some on);have a2:=G (some at_) none;exact⟨B,B,zl _ (by lia),U _ (by simp only[yc]; lia) (Bb (J _ _) (J _ _))⟩
 rw[e9];walk_at "rdt";have z1:(" " : Str).length=1:=by decide+kernel
 have z0:("" : Str).length=0:=by decide+kernel
 have a1:=G none (some at_);have a2:=G (some at_) none;refine⟨zl _ (by lia),zl _ (by lia),B,B,zl _ (by lia),zl _ (by lia),zl 5 (by decide),fun p hp=>⟨by decide,_,SqL.of A4,?_⟩⟩;obtain⟨v,hv,ev⟩:=CF (c:=V.str) (ns:=[z++(" " : Str),(" " : Str)++z,Txt.slice z (some at_) none++Txt.slice z none (some at_),("" : Str),z++z]) (k:=c % 5) (by lia) (by show c % 5<5; lia);refine⟨V.str v,ev,?_⟩;have s5:PyData.strOk " " = true:=by decide+kernel
 have Z:v.length<=2000002/\PyData.strOk v=true:=by
  simp only[yu,yo,or_false] at hv;rcases hv with rfl|rfl|rfl|rfl|rfl
  ·exact⟨by rw[yc]; lia,Bb hk s5⟩
  ·exact⟨by rw[yc]; lia,Bb s5 hk⟩
  ·exact⟨by rw[yc]; lia,Bb (J _ _) (J _ _)⟩
  ·exact⟨by lia,by decide+kernel⟩
  ·exact⟨by rw[yc]; lia,Bb hk hk⟩
 exact q v _ (A6 hp _) Z.1 Z.2
section
noncomputable def Fine(n:Nat)(d:Dm):Prop:=d.shut=true/\d.dat.canLay0=true/\d.dat.depth<=n
theorem Fine.mono(h:Fine n d)(k:n<=m):Fine m d:=⟨h.1,h.2.1,y0d h.2.2 k⟩
theorem Pn:∀{ds:List Dm},(∀d∈ds,Fine n d)->Ck ds=true/\PyData.canLayAll0 (BU ds)=true/\PyData.depthAll (BU ds)<=n
 |[],_=>⟨by simp[Ck],by simp[BU,PyData.canLayAll0],by simp[BU,PyData.depthAll]⟩
 |d::ds,h=>by
  obtain⟨a,b,c⟩:=Pn (ds:=ds) fun e q=>h e (.tail _ q);obtain⟨x,y,z⟩:=h d (.head _);refine⟨by simp[Ck,x,a],by simp[BU,PyData.canLayAll0,y,b],?_⟩;simp only[BU,PyData.depthAll];lia
theorem Bq(h:∀d∈ds,Fine n d):Fine (n+1) (.tup ds):=by
 obtain⟨a,b,c⟩:=Pn h;exact⟨by simpa [Dm.shut] using a,by simpa [Dm.dat,PyData.canLay0] using b,by simp only[Dm.dat,PyData.depth]; lia⟩
theorem Hr(n:Nat)(i:Int):Fine n (.int i):=⟨by simp[Dm.shut],by simp[Dm.dat,PyData.canLay0],by simp[Dm.dat,PyData.depth]⟩
theorem D4(n:Nat)(h:PyData.strOk x=true):Fine n (.str x):=⟨by simpa [Dm.shut] using h,by simpa [Dm.dat,PyData.canLay0] using h,by simp[Dm.dat,PyData.depth]⟩
theorem Fine.eq(h:Fine n d)(k:n<=64):d.shut=true/\SeqAt.shaped d.dat=true:=⟨h.1,by
 unfold SeqAt.shaped
 rw[h.2.1,y0a,decide_eq_true_eq]
 exact y0d h.2.2 k⟩
theorem Po(w:Wd):PyData.strOk w.str=true:=by cases w<;>decide+kernel
theorem ZA(h:d.canLay0=true):PyData.eqv d d=true:=SeqAt.eqv_refl d h
theorem ZB(f:Fine n d)(k:n<=64)(d1:Dt H x d)(d2:Dt H y d):EqD H x y true:=⟨d,d,d1,d2,f.eq k,f.eq k,(ZA f.2.1).symm⟩
theorem Ef{x:Str}(h:Ao x=true):PyData.strOk x=true:=strOk_iff.mpr fun c hc=>by have:=(DQ h).2.2 c hc; lia
theorem Fp:∀{n:Nat} {t:T},t.fit n->Fine n t.enc
 |0,_,h=>h.elim
 |n+1,.num i,h=>by
  rw[T.enc];refine Bq fun d hd=>?_;simp only[yu,yo,or_false] at hd;rcases hd with rfl|rfl
  ·exact D4 _ (by decide+kernel)
  ·exact Hr _ _
 |n+1,.nm x,h=>by
  rw[T.enc];refine Bq fun d hd=>?_;simp only[yu,yo,or_false] at hd;rcases hd with rfl|rfl
  ·exact D4 _ (by decide+kernel)
  ·exact D4 _ (Ef h)
 |n+1,.op w a b,h=>by
  rw[T.enc];refine Bq fun d hd=>?_;simp only[yu,yo,or_false] at hd;rcases hd with rfl|rfl|rfl
  ·exact D4 _ (Po w)
  ·exact Fp h.1
  ·exact Fp h.2
theorem Hs:∀{n:Nat} {b:List D},fitB n b->∀e∈AM b,Fine (5+2*n) e
 |0,_,h=>h.elim
 |n+1,b,h=>fun e z=>by
  obtain⟨d,hd,rfl⟩:=HI z;have q:=h.2 d hd;match d,q with
  |.set x t,q=>
   rw[D.enc];refine(Bq (n:=5) fun e z=>?_).mono (by lia);simp only[yu,yo,or_false] at z;rcases z with rfl|rfl|rfl
   ·exact D4 _ (by decide+kernel)
   ·exact D4 _ (Ef q.1)
   ·exact Fp q.2
  |.ite t b c,q=>
   rw[D.enc];refine(Bq (n:=5+2*n+1) fun e z=>?_).mono (by lia);simp only[yu,yo,or_false] at z;rcases z with rfl|rfl|rfl|rfl
   ·exact D4 _ (by decide+kernel)
   ·exact(Fp q.1).mono (by lia)
   ·exact Bq (Hs q.2.1)
   ·exact Bq (Hs q.2.2)
  |.whl t m b,q=>
   rw[D.enc];refine(Bq (n:=5+2*n+1) fun e z=>?_).mono (by lia);simp only[yu,yo,or_false] at z;rcases z with rfl|rfl|rfl|rfl
   ·exact D4 _ (by decide+kernel)
   ·exact(Fp q.1).mono (by lia)
   ·exact Hr _ _
   ·exact Bq (Hs q.2.2.2)
theorem ZC{q:List Rw}{b:List D}(h:FitP q b):Fine 20 (BO q b):=by
 refine(Bq (n:=15) fun d hd=>?_).mono (by decide);simp only[yu,yo,or_false] at hd;rcases hd with rfl|rfl
 ·refine(Bq (n:=1) fun d hd=>?_).mono (by decide);obtain⟨r,hr',rfl⟩:=List.mem_map.mp hd;refine Bq fun d hd=>?_;simp only[yu,yo,or_false] at hd;rcases hd with rfl|rfl|rfl
  ·exact D4 _ (Ef (h.rows r hr').1)
  ·exact Hr _ _
  ·exact Hr _ _
 ·exact(Bq (Hs h.blk)).mono (by decide)
theorem Ld{y:Str}(hy:PyData.strOk y=true):∀{ws:List Str},(∀w∈ws,PyData.strOk w=true)->PyData.strOk (Str.join y ws)=true
 |[],_=>show PyData.strOk Str.empty=true by decide+kernel
 |[x],h=>h x (by simp)
 |x::z::r,h=>Bb (Bb (h x (by simp)) hy) (Ld hy fun w hw=>h w (yb _ hw))
theorem Ht(i:Int):PyData.strOk (Ab i)=true:=strOk_iff.mpr fun c hc=>by have:=(P0 i).2 c hc; lia
noncomputable def DT(l:Ln):Prop:=∀w∈l,PyData.strOk w=true
theorem Bh{z:Str}{l:Ln}(h:PyData.strOk z=true)(k:DT l):DT (z::l):=List.forall_mem_cons.mpr ⟨h,k⟩
theorem Fq:DT []:=fun _ h=>nomatch h
theorem Fr:∀{n:Nat} {t:T},t.fit n->DT (wT t)
 |0,_,h=>h.elim
 |n+1,.num i,h=>Bh (Ht i) Fq
 |n+1,.nm x,h=>Bh (Ef h) Fq
 |n+1,.op w a b,h=>Bh (Po w) fun z hz=>(List.mem_append.mp hz).elim (Fr h.1 z) (Fr h.2 z)
theorem Hu:∀{n:Nat} {b:List D},fitB n b->∀l∈wlB b,DT l
 |0,_,h=>h.elim
 |n+1,b,h=>by
  have z:DT ["else"]:=Bh (by decide+kernel) Fq;have q:DT ["end"]:=Bh (by decide+kernel) Fq;refine(LO (k:=2827+6*2827+(wlB b).length) (P:=fun l=>DT l) (b:=b) fun d hm=>?_).2;have hd:=h.2 d hm;have B:(wlD d).length<=(wlB b).length:=by
   obtain⟨s,t,e⟩:=List.append_of_mem hm;rw[e,Fh,yj,wlB,yj]; lia
  refine⟨by lia,?_⟩;match d,hd with
  |.set x t,hd=>
   rw[wlD];exact fun l hl=>by rw[List.mem_singleton.mp hl]; exact Bh (by decide+kernel) (Bh (Ef hd.1) (Fr hd.2))
  |.ite t F G,hd=>
   rw[wlD];refine List.forall_mem_cons.mpr ⟨Bh (by decide+kernel) (Fr hd.1),fun l hl=>?_⟩;rcases List.mem_append.mp hl with hl|hl
   ·exact Hu hd.2.1 l hl
   rcases List.mem_cons.mp hl with rfl|hl
   ·exact z
   rcases List.mem_append.mp hl with hl|hl
   ·exact Hu hd.2.2 l hl
   ·rw[List.mem_singleton.mp hl]; exact q
  |.whl t m F,hd=>
   rw[wlD];refine List.forall_mem_cons.mpr ⟨Bh (by decide+kernel) (Bh (Ht m) (Fr hd.1)),fun l hl=>?_⟩;rcases List.mem_append.mp hl with hl|hl
   ·exact Hu hd.2.2.2 l hl
   ·rw[List.mem_singleton.mp hl]; exact q
theorem Pp:∀{ls:List Str},(∀l∈ls,PyData.strOk l=true)->PyData.strOk (nlT ls)=true
 |[],_=>show PyData.strOk Str.empty=true by decide+kernel
 |l::r,h=>Bb (Bb (h l (by simp)) (by decide+kernel)) (Pp fun x hx=>h x (yb _ hx))
theorem Pq{q:List Rw}{b:List D}(h:FitP q b):PyData.strOk (Ae q b)=true:=by
 refine Pp fun l hl=>?_;obtain⟨w,hw,rfl⟩:=List.mem_map.mp hl;refine Ld (by decide+kernel) ?_;rcases List.mem_append.mp hw with hw|hw
 ·obtain⟨r,z,rfl⟩:=List.mem_map.mp hw;exact Bh (by decide+kernel) (Bh (Ef (h.rows r z).1) (Bh (Ht _) (Bh (Ht _) Fq)))
 ·exact Hu h.blk w hw
theorem Ps{q:List Rw}{b:List D}(h:FitP q b):Txt.split (Ae q b) ⟨#[10]⟩=(wlP q b).map jw++[Str.empty]:=by
 obtain⟨B,z⟩:=Fe h;rw[Ae,LH];refine HM (by simp) fun x hx=>?_;rcases List.mem_append.mp hx with hx|hx
 ·obtain⟨l,hl,rfl⟩:=List.mem_map.mp hx;intro m;have:=LP (yf 32) (fun w hw=>((z l hl).2.2 w hw).1) 10 m;lia
 ·rw[List.mem_singleton.mp hx];exact fun m=>nomatch m
theorem ZD{q:List Rw}{b:List D}(h:FitP q b):(Txt.split (Ae q b) ⟨#[10]⟩).length<=2831/\∀l∈Txt.split (Ae q b) ⟨#[10]⟩,l.length<=264/\PyData.strOk l=true:=by
 obtain⟨B,z⟩:=Fe h;refine⟨by rw[Ps h,yj,y4,y01]; lia,fun l hl=>⟨?_,LX (Pq h) hl⟩⟩;rw[Ps h] at hl;rcases List.mem_append.mp hl with hl|hl
 ·obtain⟨w,hw,rfl⟩:=List.mem_map.mp hl;exact Ec (z w hw)
 ·rw[List.mem_singleton.mp hl];exact y0i _
noncomputable def Af(L:List Str)(lo hi:Option Int):List Str:=(L.drop (HT.sIx L.length 0 lo)).take (HT.sIx L.length L.length hi-HT.sIx L.length 0 lo)
theorem Hv(L:List Str)(lo hi:Option Int):BS (L.map V.str) lo hi=(Af L lo hi).map V.str:=by
 rw[BS,Af,y4,List.map_take,List.map_drop]
theorem Hw{L:List Str}{lo hi:Option Int}{l:Str}(h:l∈Af L lo hi):l∈L:=List.mem_of_mem_drop (y17 h)
theorem Le(L:List Str)(lo hi:Option Int):(Af L lo hi).length<=L.length:=by
 rw[Af,yz,List.length_drop]; lia
theorem Pt{ws:List Str}(z:ws.length<=6000)(h:∀l∈ws,l.length<=264/\PyData.strOk l=true):JoinOk "\n" ws=true/\(Txt.join "\n" ws).length<=3000000/\PyData.strOk (Txt.join "\n" ws)=true:=by
 have q:("\n" : Str).length=1:=by decide+kernel
 have e:Txt.join "\n" ws=Str.join ⟨#[10]⟩ ws:=by
  show Builtin.Str.glued "\n" ws=_;rw[y1y,Ho]
 refine⟨Fg (B:=264) (fun l hl=>(h l hl).1) (by rw[q]; lia),?_,?_⟩
 ·rw[e];have:=HZ (c:=10) fun l hl=>(h l hl).1;lia
 ·rw[e];exact Ld (by decide+kernel) fun l hl=>(h l hl).2
end
noncomputable def Pu(K:y3):Sp:=fun vs H Q _=>∃(a:Addr) (ns:List Int),vs=[.ref a]/\SqL K H a (ns.map V.int)/\∀H',Same H H'->Q (.bl true) H'
noncomputable def OnI(H:Hp)(a r:Addr)(z:Str)(i:Nat)(σ:St)(G:Hp):Prop:=Same H G/\∃t F B q,σ=[some (.ref a),some (.ref r),some (.str z),t,F,B,q]
theorem ZE{a_NoText:Addr} (F:Fun K "_law_once" "_law_once" Ag f fd) (b_range:mg "range" = none) (b_len:mg "len" = none) (c_law_program:Callee P w K mg base "_law_program" ["_law_script","_law_at"] 11 (Oa K)) (c_law_pick:Callee P w K mg base "_law_pick" ["_law_script","_law_k","_law_many"] 2 (Cy K)) (c_law_text:Callee P w K mg base "_law_text" ["_law_program_here"] 11 Ed) (c_written:Callee P w K mg base "written" ["program"] 14 Ed) (c_read:Callee P w K mg base "read" ["text"] 18 (fun vs H Q _=>Lb a_NoText vs H Q E0)) (c_law_holds:Callee P w K mg base "_law_holds" ["_law_text_here"] 19 Pk) (c_law_spoilt:Callee P w K mg base "_law_spoilt" ["_law_text_here","_law_cell_here","_law_signs"] 1 Pm):FnOk P w K mg base CX0 20 f fd ["_law_script"] (Pu K):=by
 refine F.ok sc_law_once (fun vs H Q E h=>?_) (fun aY A outer s H vs Q E J h=>?_)
 ·obtain⟨a,ns,rfl,_⟩:=h;rfl
 obtain⟨a,ns,rfl,hS,q⟩:=h;refine⟨_,(A7 (AK (i:=1) sc_law_once.nd rfl XF (AB c_law_program J (by lia) (A0 (A1 0 rfl Gx) (A0 A3 A2)) X4 Sz) (AF rfl))
 (A7 (AK (i:=2) sc_law_once.nd rfl XG (AB c_law_text J (by lia) (A0 (A1 1 rfl KM) A2) X6 NJ) (AF rfl))
 (A7 (AH (PW.pt (BC (AI (gNe J.units) (AB c_written J (by lia) (A0 (A1 1 rfl KM) A2) X9 NR) (A1 2 rfl Gy) (AG _)) (Br (AI (dNe J.units) (AB c_read J (by lia) (A0 (A1 2 rfl Gy) A2) X8 NO) (A1 1 rfl KM) (AG _))))) (A8 (AC B7)) AJ)
 (A7 (D7 y1e rfl (G6 X7 b_range (A0 A3 A2)) (AZ (i:=3) sc_law_once.nd rfl XA)
 (A8 (AH (Au (Ah (AB c_law_holds J (by lia) (A0 (AB c_law_spoilt J (by lia) (A0 (A1 2 rfl Gy) (A0 (AB c_law_pick J (by lia) (A0 (A1 0 rfl Gx) (A0 (A5 AR A3 (A1 3 rfl XH)) (A0 (A5 QM A3 A3) A2))) KL B2) (A0 AA A2))) X5 T0) A2) KK Je))) (A8 (AC B7)) AJ)))
 (A7 (AK (i:=4) sc_law_once.nd rfl XB (Ak y07 y2i y2g JZ (A1 2 rfl Gy) (A0 AA A2)) (AF rfl))
 (A7 (AK (i:=5) sc_law_once.nd rfl XE (AB c_law_pick J (by lia) (A0 (A1 0 rfl Gx) (A0 A3 (A0 (AV B0 OR b_len B1 (A0 (A1 4 rfl Ds) A2) B4 B3) A2))) KL B2) (AF rfl))
 (A7 (AK (i:=6) sc_law_once.nd rfl XD (AB c_law_pick J (by lia) (A0 (A1 0 rfl Gx) (A0 A3 (A0 (AV B0 OR b_len B1 (A0 (A1 4 rfl Ds) A2) B4 B3) A2))) KL B2) (AF rfl))
 (A7 (AH (Au (Ah (AB c_law_holds J (by lia) (A0 (Ak y07 y0t y0s DD AA (A0 (A5 BD (At DW (A1 4 rfl Ds) Ar (As (A1 5 rfl Gw))) (At DW (A1 4 rfl Ds) (As (A5 AR (A1 5 rfl Gw) A3)) Ar)) A2)) A2) KK Je))) (A8 (AC B7)) AJ)
 (A8 (AC (AB c_law_holds J (by lia) (A0 (Ak y07 y0t y0s DD AA (A0 (A5 BD (A5 BD (At DW (A1 4 rfl Ds) Ar (As (A1 5 rfl Gw))) (AT (A0 (A9 Ad (A1 4 rfl Ds) (A1 6 rfl XI) (fun _ _=>rfl)) A2))) (At DW (A1 4 rfl Ds) (As (A1 5 rfl Gw)) Ar)) A2)) A2) KK Je))))))))))),AE fun N1 e1=>?_⟩
 walk_at "rdt";refine⟨a,ns,0,rfl,hS,by decide,fun r ri rb H1 B b g' s1 aJ di db am ao hl aW hk=>?_⟩;have dv:Dt H1 (.ref r) (BO B b):=.tup aJ (.cons di (.cons db .nil));have U:=YO am ao;have aK:Dv (BO B b) true:=(YH am ao hl hk).1;have hz:=YT U;have ap:=Pq U;have aO:=s1.seq hS;rw[e1];refine AE fun N2 e2=>?_;walk_at "rdt";refine⟨_,B,b,rfl,dv,U,fun H2 s2=>?_⟩;rw[e2];refine AE fun N3 e3=>?_;walk_at "rdt";refine⟨_,B,b,rfl,dv.kp s2.kp,U,fun H3 s3=>?_⟩;have aC:=s2.trans s3;refine⟨true,⟨rfl,by simp⟩,?_⟩;rw[if_neg (by decide)];refine⟨Ae B b,rfl,by lia,ap,fun H4 s4 hn=>absurd ⟨B,b,U,aK,rfl⟩ hn,fun H4 v aD b' s4 az aX aQ aV ax=>?_⟩;rw[LQ U] at ax;have he:BO B b=BO aD b':=y0n ax;rw[<- he] at az;have ac:=aC.trans s4;refine⟨true,ZB (ZC U) (by decide) az (dv.kp ac.kp),?_⟩;rw[if_neg (by decide),e3];have aj:=ac.seq aO;refine AE fun N4 e4=>?_;walk_at "rdt";refine⟨by decide,by decide,?_⟩;refine G8 (lo:=0) (n:=3) (OnI H4 a r (Ae B b)) ⟨Same.refl _,_,_,_,_,rfl⟩ ?_ ?_
 ·rintro i σ Hc hi ⟨sc,t,x4,x5,x6,rfl⟩;refine Ks fun M0 f0=>?_;walk_at "rdt";rw[f0];walk_at "rdt";have ay:=sc.seq aj;rw[show(10:Int)^Int.toNat 9=1000000000 from by decide+kernel];refine⟨⟨by decide,by decide,by decide⟩,a,ns,_,_,rfl,ay,by lia,by decide,fun c H5 c0 c1 s5=>?_⟩;refine⟨Ae B b,c,rfl,c0,hz,ap,fun z' H6 s6 aU aF=>?_⟩;refine⟨z',rfl,by lia,aF,fun H7 s7=>⟨_,rfl,?_⟩⟩;rw[if_neg (by decide)];exact⟨sc.trans (s5.trans (s6.trans s7)),_,_,_,_,rfl⟩
 ·rintro σ Hc ⟨sc,t,x4,x5,x6,rfl⟩;rw[e4];have ay:=sc.seq aj;refine AE fun N5 e5=>?_;walk_at "rdt";rw[e5];refine AE fun N6 e6=>?_;walk_at "rdt";have aI:=y1v (Ae B b) ⟨#[10]⟩;have aH:=y2d (Ae B b) ⟨#[10]⟩;obtain⟨aM,G⟩:=ZD U;refine⟨rfl,10,by decide+kernel,zl _ (by lia),fun p hp=>?_⟩;generalize Txt.split (Ae B b) ⟨#[10]⟩=L at aI aH G aM |-;have sp:=A6 hp (HO.lst (L.map V.str));have ae:upd Hc p (HO.lst (L.map V.str)) p=_:=A4;have aa:=sc.trans sp;have ah:=aa.seq aj;generalize upd Hc p _=H6 at sp ae aa ah |-;have lp:Ci K (.ref p) H6 L.length:=.inl ⟨p,_,rfl,.inl (SqL.of ae),(y4 ..).symm⟩;rw[e6];refine AE fun N7 e7=>?_;walk_at "rdt";refine⟨_,lp,a,ns,_,_,rfl,ah,by decide,by lia,fun pl H7 aT aS s7=>?_⟩;have O:=s7 _ _ ae;have aN:=s7.seq ah;have aG:Ci K (.ref p) H7 L.length:=.inl ⟨p,_,rfl,.inl (SqL.of O),(y4 ..).symm⟩;rw[e7];refine AE fun N8 e8=>?_;walk_at "rdt";refine⟨_,aG,a,ns,_,_,rfl,aN,by decide,by lia,fun po H8 aE aR s8=>?_⟩;have M:=s8 _ _ O;have aB:=aa.trans (s7.trans s8);rw[e8];refine AE fun N9 e9=>?_;walk_at "rdt";refine⟨rfl,_,SqL.of M,fun p9 h9=>?_⟩;rw[Hv];have s9:=A6 h9 (HO.lst ((Af L none (some pl)).map V.str));refine⟨_,SqL.of (s9 _ _ M),fun pa ha=>?_⟩;rw[Hv];have sa:=A6 ha (HO.lst ((Af L (some (pl+1)) none).map V.str));have l1:=Le L none (some pl);have l2:=Le L (some (pl+1)) none;have l3:=Le L (some pl) none;refine⟨_,sa _ _ A4,_,A4,zl _ (by rw[y4,y4]; lia),fun pb hb=>?_⟩;have sb:=A6 hb (HO.lst ((Af L none (some pl)).map V.str++(Af L (some (pl+1)) none).map V.str));rw[<- yd];obtain⟨j1,j2,j3⟩:=Pt (ws:=Af L none (some pl)++Af L (some (pl+1)) none) (by rw[yj]; lia) fun l hl=>(List.mem_append.mp hl).elim (fun z=>G l (Hw z)) fun z=>G l (Hw z);have Z:=aB.trans (s9.trans (sa.trans sb));have af:=(s9.trans (sa.trans sb)) _ _ M;rw[<- yd] at Z af;have aq:upd (upd (upd H8 p9 (HO.lst ((Af L none (some pl)).map V.str))) pa (HO.lst ((Af L (some (pl+1)) none).map V.str))) pb (HO.lst ((Af L none (some pl)++Af L (some (pl+1)) none).map V.str)) pb=_:=A4;generalize upd (upd (upd H8 p9 _) pa _) pb _=Hb at Z af aq |-;refine⟨_,aq,j1,_,rfl,j2,j3,fun Hd sd=>⟨_,rfl,?_⟩⟩;rw[if_neg (by decide),e9];have ar:=sd _ _ af;have aA:=Z.trans sd;walk_at "rdt";refine⟨rfl,_,SqL.of ar,fun q1 k1=>?_⟩;rw[Hv];have t1:=A6 k1 (HO.lst ((Af L none (some pl)).map V.str));have u1:upd Hd q1 (HO.lst ((Af L none (some pl)).map V.str)) q1=_:=A4;have ag:=t1 _ _ ar;generalize upd Hd q1 _=G1 at t1 u1 ag |-;obtain⟨lo,aL,aP⟩:=CF (c:=V.str) (ns:=L) (k:=po) aE (by lia);refine⟨_,SqL.of ag,_,aP,zl 1 (by decide),fun q2 k2=>?_⟩;have t2:=A6 k2 (HO.lst [V.str lo]);have u2:upd G1 q2 (HO.lst [V.str lo]) q2=_:=A4;have al:=t2 _ _ u1;have av:=t2 _ _ ag;generalize upd G1 q2 _=G2 at t2 u2 al av |-;refine⟨_,al,_,u2,zl _ (by rw[y4]; simp only[ya,y2b]; lia),fun q3 k3=>?_⟩;have t3:=A6 k3 (HO.lst ((Af L none (some pl)).map V.str++[V.str lo]));have u3:upd G2 q3 (HO.lst ((Af L none (some pl)).map V.str++[V.str lo])) q3=_:=A4;have au:=t3 _ _ av;generalize upd G2 q3 _=G3 at t3 u3 au |-;refine⟨_,SqL.of au,fun q4 k4=>?_⟩;rw[Hv];have t4:=A6 k4 (HO.lst ((Af L (some pl) none).map V.str));have u4:upd G3 q4 (HO.lst ((Af L (some pl) none).map V.str)) q4=_:=A4;have ak:=t4 _ _ u3;generalize upd G3 q4 _=G4 at t4 u4 ak |-;refine⟨_,ak,_,u4,zl _ (by simp only[yj,y4,ya,y2b]; lia),fun q5 k5=>?_⟩;have t5:=A6 k5 (HO.lst ((Af L none (some pl)).map V.str++[V.str lo]++(Af L (some pl) none).map V.str));obtain⟨j1,j2,j3⟩:=Pt (ws:=Af L none (some pl)++[lo]++Af L (some pl) none) (by simp only[yj,ya,y2b]; lia) fun l hl=>(List.mem_append.mp hl).elim (fun z=>(List.mem_append.mp z).elim (fun z=>G l (Hw z)) fun z=>by rw[List.mem_singleton.mp z]; exact G lo aL) fun z=>G l (Hw z);refine⟨Af L none (some pl)++[lo]++Af L (some pl) none,by rw[A4,yd,yd,y0x],j1,_,rfl,j2,j3,fun G5 s5=>?_⟩;exact q _ (s1.trans (ac.trans (aA.trans (t1.trans (t2.trans (t3.trans (t4.trans (t5.trans s5))))))))
theorem ZF{k:Nat}:FnOk P w K mg base CX0 k f fd ["thing","levels"] (EW 0):=by
 have q:∀vs H Q E,¬ EW 0 vs H Q E:=fun vs H Q E h=>by
  obtain⟨v,d,m,_,_,_,h1,_⟩:=h;lia
 exact⟨fun vs H Q E h=>absurd h (q vs H Q E),fun A outer s H args us vs Q E _ _ _ _ h=>absurd h (q vs H Q E)⟩
theorem Pw(d:Df K mg "is_term" C0 ["thing","levels"] f fd) (c_is_tuple_of:Callee P w K mg base "is_tuple_of" ["thing","many"] 1 EU) (c_is_name:Callee P w K mg base "is_name" ["thing"] 1 FP) (c_is_whole_from:Callee P w K mg base "is_whole_from" ["thing","low","high"] 2 FO)
  {B G:Addr} (g_WIDE:GC mg "WIDE" (.ref G)) (z:∀H,SqT K H G [.int (-32768),.int 32767]) (g_WORDS:GC mg "WORDS" (.ref B)) (q:∀H,SqT K H B (words.map V.str)):∀n:Nat,Callee P w K mg base "is_term" ["thing","levels"] (n+2) (EW n)
 |0=>d.callee ZF
 |n+1=>d.callee (Xt d.F c_is_tuple_of c_is_name c_is_whole_from (Pw d c_is_tuple_of c_is_name c_is_whole_from g_WIDE z g_WORDS q n) g_WIDE z g_WORDS q)
theorem ZG{k:Nat}:FnOk P w K mg base CX0 k f fd ["thing","levels"] (FR 0):=by
 have q:∀vs H Q E,¬ FR 0 vs H Q E:=fun vs H Q E h=>by
  obtain⟨v,d,m,_,_,_,h1,_⟩:=h;lia
 exact⟨fun vs H Q E h=>absurd h (q vs H Q E),fun A outer s H args us vs Q E _ _ _ _ h=>absurd h (q vs H Q E)⟩
theorem ZH{k:Nat}:FnOk P w K mg base CX0 k f fd ["term","known"] (EX 0):=by
 have q:∀vs H Q E,¬ EX 0 vs H Q E:=fun vs H Q E h=>by
  obtain⟨v,t,k,p,_,_,_,h1,_⟩:=h;cases t with
  |num i=>exact absurd (show 1<=0 from h1) (by decide)
  |nm x=>exact absurd (show 1<=0 from h1) (by decide)
  |op w a b=>rw[T.deep] at h1; lia
 exact⟨fun vs H Q E h=>absurd h (q vs H Q E),fun A outer s H args us vs Q E _ _ _ _ h=>absurd h (q vs H Q E)⟩
theorem Px(d:Df K mg "has_known_names" Dc ["term","known"] f fd):∀n:Nat,Callee P w K mg base "has_known_names" ["term","known"] (n+1) (EX n)
 |0=>d.callee ZH
 |n+1=>d.callee (Y6 d.F (Px d n))
end
noncomputable def Lf(H:Hp)(rest:St)(ns:List Int)(p:Int->Bool)(f:Int->Int)(i:Nat)(ys:List V)(q:St)(H':Hp):Prop:=Same H H'/\(∃t,q=t::rest)/\ys=(((ns.take i).filter p).map f).map V.int
theorem ZI{K:y3}{a:Addr}{ns:List Int}{g:TG}{tt:TT}{te:TE}{H:Hp}{Q:VK}{t0:Option V}{rest:St}(p:Int->Bool)(f:Int->Int)(hS:SqL K H a (ns.map V.int))(hn:ns.length<=1000)
  (hs:∀(n:Int) (t:Option V) (H':Hp) (M:V->St->Hp->Prop) (O:St->Hp->Prop),n∈ns->Same H H'->(p n=true->∀t G,Same H G->M (.int (f n)) (t::rest) G)->(p n=false->∀t B,Same H B->O (t::rest) B)->
   g (.int n) (t::rest) H' fun q H2=>tt q H2 fun b B=>if b=true then te q B (fun v G=>M v q G) else O q B)
  (hd:∀(H':Hp) (l:Addr),Same H H'->H' l=none->Q (.ref l) (upd H' l (.lst (((ns.filter p).map f).map V.int)))):Bf (Itl K a) g tt te Q (t0::rest) H:=by
 refine DY (K:=K) (a:=a) (xs:=ns.map V.int) (Lf H rest ns p f) ⟨Same.refl _,⟨_,rfl⟩,rfl⟩ (C9 (by rw[y4]; exact hn)) ?_ ?_ ?_ ?_
 ·rintro i ys F H' ⟨_,_,rfl⟩;rw[y4,y4];exact y0d (y1m _ _) (by rw[yz]; lia)
 ·rintro i ys F H' _ ⟨s,_,_⟩;exact s.seq hS
 ·rintro i ys v F H' z ⟨s,⟨t,rfl⟩,rfl⟩;rw[y0b] at z;cases hr':ns[i]? with
  |none=>rw[hr'] at z; cases z
  |some x=>
   rw[hr'] at z;have ev:V.int x=v:=by simpa using z
   subst ev;have J:ns.take (i+1)=ns.take i++[x]:=by rw[y03,hr']; rfl
   refine hs x t H' (fun v q G=>Lf H rest ns p f (i+1) ((((ns.take i).filter p).map f).map V.int++[v]) q G) (fun q B=>Lf H rest ns p f (i+1) ((((ns.take i).filter p).map f).map V.int) q B) (yt hr') s (fun e t G U=>⟨U,⟨t,rfl⟩,?_⟩) (fun e t B Z=>⟨Z,⟨t,rfl⟩,?_⟩)
   ·rw[J,y1j,yd,yd];simp[e]
   ·rw[J,y1j,yd,yd];simp[e]
 ·rintro ys F H' ⟨s,_,rfl⟩ l hl;have:=hd H' l s hl;rw[y4,y0h];exact this
section
variable{P:yl}{w:y08}{K:y3}{mg:Str->Option y9}{base:Heap}{f:Addr}{fd:y14}
noncomputable def LI(H:Hp)(a:Addr)(j:Nat)(σ:St)(z:Hp):Prop:=∃q:Option V,σ=[some (.ref a),q]/\Same H z
noncomputable def Hz(K:y3):Sp:=fun vs H Q _=>∃(a:Addr) (ns:List Int),vs=[.ref a]/\SqL K H a (ns.map V.int)/\ns.length<=63/\∀H',Q (.bl true) H'
theorem ZJ(F:Fun K "law" "law" Bl f fd) (b_range:mg "range" = none) (c_law_once:Callee P w K mg base "_law_once" ["_law_script"] 20 (Pu K)):FnOk P w K mg base CX0 21 f fd ["_law_script"] (Hz K):=by
 refine F.ok sc_law (fun vs H Q E h=>?_) (fun ae A outer s H vs Q E J h=>?_)
 ·obtain⟨a,ns,rfl,_⟩:=h;rfl
 obtain⟨a,ns,rfl,G,ac,q⟩:=h;refine⟨_,(A7 (D7 y1e rfl (G6 XL b_range (A0 A3 A2)) (AZ (i:=1) sc_law.nd rfl XM)
 (A7 (AH (Au (Ah (AB c_law_once J (by lia) (A0 (BT ["_law_cell_here","_law_turn"] [none,some 1] rfl (CompS.of (by rfl)) (DV (A1 0 rfl OS)) (fun _ _ _ _ _=>(AZ (i:=0) (show List.Nodup (["_law_cell_here","_law_turn"]:List Str) from by decide+kernel) rfl (Or.inl rfl))) (fun _ _ _ _ _=>Bj) (fun _ _ _ _ _=>(A5 AR (AX (i:=0) rfl (by walk_at "vc") Sv SM) (A5 C8 A3 (AX (i:=1) rfl (by walk_at "vc") T1 SO))))) A2) XJ Sy))) (A8 (AC B7)) AJ)
 (A8 (AH (AI (gEq J.units) (A1 0 rfl OS) (AT A2) (AG _)) (A8 QD) AJ))))
 (A8 (AC B7))),?_⟩
 walk_at "rd";refine⟨by decide,by decide,?_⟩;refine G8 (lo:=0) (n:=5) (LI H a) ?s ?t ?d
 case s=>exact⟨_,rfl,Same.refl _⟩
 case d=>
  rintro σ Hc ⟨O,rfl,sc⟩;exact q _
 case t=>
  rintro j σ Hc hj ⟨O,rfl,sc⟩;walk_at "rd";refine⟨⟨_,sc.seq G⟩,?_⟩;refine ZI (t0:=none) (rest:=[some (V.int (0+(j:Int)))]) (fun _=>true) (fun y=>y+7919*(0+(j:Int))) (sc.seq G) (by lia) ?_ ?_
  ·intro y t H' R1 R0 hy s B aa;walk_at "rd";exact⟨.inl ⟨by decide,by decide⟩,B rfl _ _ s⟩
  ·intro Ha pl t1 z;have Z:=A6 z (HO.lst (((ns.filter fun _=>true).map fun y=>y+7919*(0+(j:Int))).map V.int));refine⟨pl,_,rfl,SqL.of A4,fun Hb U=>⟨_,rfl,?_⟩⟩;have t0:=sc.trans (t1.trans (Z.trans U));walk_at "rd";refine⟨y0i _,fun p M=>⟨_,KU ((t0.trans (A6 M _)).seq G) (OV ns) (SqL.of A4),?_⟩⟩;split
   ·exact q _
   ·exact⟨_,rfl,t0.trans (A6 M _)⟩
end
theorem Lg(h:K.lookup a=some ⟨.type "tuple",o,.seq its n,l⟩) (r:Vals xs its.toList) (hz:its.size<=yr:=by decide):∀H,SqT K H a xs:=fun H=>.inr ⟨_,_,_,h,rfl,rfl,hz,r⟩
theorem us1{q:List y9->Prop}(h:∀a0,q [a0])(us:List y9)(l:us.length=1):q us:=by
 rcases us with _|⟨_,_|⟨_,_⟩⟩
 ·cases l
 ·exact h _
 ·cases l
theorem us2{q:List y9->Prop}(h:∀a0 z,q [a0,z])(us:List y9)(l:us.length=2):q us:=by
 rcases us with _|⟨_,_|⟨_,_|⟨_,_⟩⟩⟩
 ·cases l
 ·cases l
 ·exact h _ _
 ·cases l
theorem us3{q:List y9->Prop}(h:∀a0 B z,q [a0,B,z])(us:List y9)(l:us.length=3):q us:=by
 rcases us with _|⟨_,_|⟨_,_|⟨_,_|⟨_,_⟩⟩⟩⟩
 ·cases l
 ·cases l
 ·cases l
 ·exact h _ _ _
 ·cases l
theorem us4{q:List y9->Prop}(h:∀a0 F B z,q [a0,F,B,z])(us:List y9)(l:us.length=4):q us:=by
 rcases us with _|⟨_,_|⟨_,_|⟨_,_|⟨_,_|⟨_,_⟩⟩⟩⟩⟩
 ·cases l
 ·cases l
 ·cases l
 ·cases l
 ·exact h _ _ _ _
 ·cases l
theorem us5{q:List y9->Prop}(h:∀a0 G F B z,q [a0,G,F,B,z])(us:List y9)(l:us.length=5):q us:=by
 rcases us with _|⟨_,_|⟨_,_|⟨_,_|⟨_,_|⟨_,_|⟨_,_⟩⟩⟩⟩⟩⟩
 ·cases l
 ·cases l
 ·cases l
 ·cases l
 ·cases l
 ·exact h _ _ _ _ _
 ·cases l
noncomputable def DfK(K:y3)(x:Str)(st:Stmt)(f:Addr):Prop:=∃F B q kV G z J cd ct,PySem.W.nsIn K yk x=some (some (.ref f))/\K.lookup f=some ⟨F,B,.func (PySem.W.fnOf x x (defArgs st) (defBody st) (defScope st) .none kV G z J cd ct),q⟩/\PySem.W.codeIn K cd x=true/\PySem.W.keepIn K (.ref f)=true
theorem DfK.df{mg:Str->Option y9}(D:DfK K x st f)(X:K.In h)(G:h.Ns yk mg)(ps:List Str)(hb:∀(kV q B:y9) (J:Option Addr) (z ct:y9) (us:List y9),us.length=ps.length->bindArgs (PySem.W.fnOf x x (defArgs st) (defBody st) (defScope st) .none kV q B J z ct) ⟨us,[]⟩=pure (ps.zip us)):∃fd,Df K mg x st ps f fd:=by
 obtain⟨_,_,_,_,_,_,_,_,_,a,l,c,k⟩:=D;have F:=MI l c k;exact⟨_,F,y06 X G a,F.binds hb⟩
theorem ZK{l:PySem.W.OpenLaw}{w:y08}{K:y3}{h:Heap}{mg:Str->Option y9}{fa f0 f1 f2 f3 f4 f5 f6 f7 f8 f9 bj bi bh bg bf be bd bc bb ba a9 a8 a7 aZ aY aX aW aV aU aT aS aR aQ aP aO aN aM aL aK aJ aI aH U:Addr}(X:K.In h)(G:h.Ns yk mg) (aG:mg "law" = some (.ref fa))
  {aa O:Option Addr} {Z:Array (Option y9)} {ac B J z M q:y9}
  {aw ai:Addr} {ow oi:Option Addr} {nw ni:Nat} {lw li:Array (Option y9)} {ay ax av au ar aq ap ao tl am al ak aj ah ag af ae aF aE:Tok} {ad:Addr} {od:Option Addr} {nd:Nat} {ld:Array (Option y9)} {aD aC aB aA az:Tok} {a_RoomError a_NoWorths a_BadPaper a_BadPlan a_NoProgram a_NoText:Addr}
  (d0:DfK K "is_program" By f0)
  (d1:DfK K "is_whole" Da f1)
  (d2:DfK K "is_whole_from" Db f2)
  (d3:DfK K "is_tuple_of" DH f3)
  (d4:DfK K "is_name" Cp f4)
  (d5:DfK K "are_rising_rows" DI f5)
  (d6:DfK K "are_ins" DJ f6)
  (d7:DfK K "is_in" Cq f7)
  (d8:DfK K "is_block" CO f8)
  (d9:DfK K "is_deed" Bz f9)
  (d10:DfK K "is_term" C0 bj)
  (d11:DfK K "known_behind_block" Cs bi)
  (d12:DfK K "known_behind_deed" C1 bh)
  (d13:DfK K "has_known_names" Dc bg)
  (d14:DfK K "term_of" Gn bf)
  (d15:DfK K "blocks_of" Go be)
  (d16:DfK K "written" Dd bd)
  (d17:DfK K "lines_of_block" CP bc)
  (d18:DfK K "lines_of_deed" CQ bb)
  (d19:DfK K "words_of_term" De ba)
  (d20:DfK K "read" CT a9)
  (d21:DfK K "read_loosely" C2 a8)
  (d22:DfK K "in_from" Dh a7)
  (d23:DfK K "block_from" C3 aZ)
  (d24:DfK K "deed_from" B8 aY)
  (d25:DfK K "take_word" EJ aX)
  (d26:DfK K "term_from" BF aW)
  (d27:DfK K "leaf_from" EK aV)
  (d28:DfK K "number_from" Dj aU)
  (d29:DfK K "is_number" CC aT)
  (d30:DfK K "_law_cell" EL aS)
  (d31:DfK K "_law_pick" Ct aR)
  (d32:DfK K "_law_sum" BG aQ)
  (d33:DfK K "_law_counted" B5 aP)
  (d34:DfK K "_law_block" AW aO)
  (d35:DfK K "_law_program" BX aN)
  (d36:DfK K "_law_spoilt" BY aM)
  (d37:DfK K "_law_sum_text" Dn aL)
  (d38:DfK K "_law_block_text" C4 aK)
  (d39:DfK K "_law_text" Dq aJ)
  (d40:DfK K "_law_holds" Ai aI)
  (d41:DfK K "_law_once" Ag aH)
  (a42:PySem.W.nsIn K yk "law" = some (some (.ref U))) (l42:K.lookup U=some ⟨ac,aa,.func (PySem.W.fnOf "law" "law" (defArgs Bl) (defBody Bl) (defScope Bl) .none B J z O q M),Z⟩) (c42:PySem.W.codeIn K q "law" = true) (k42:PySem.W.keepIn K (.ref U)=true)
  (z_isinstance:PySem.W.nsIn K yk "isinstance" = some none)
  (z_int:PySem.W.nsIn K yk "int" = some none)
  (z_bool:PySem.W.nsIn K yk "bool" = some none)
  (z_len:PySem.W.nsIn K yk "len" = some none)
  (z_tuple:PySem.W.nsIn K yk "tuple" = some none)
  (z_str:PySem.W.nsIn K yk "str" = some none)
  (z_all:PySem.W.nsIn K yk "all" = some none)
  (z_zip:PySem.W.nsIn K yk "zip" = some none)
  (z_range:PySem.W.nsIn K yk "range" = some none)
  (z_reversed:PySem.W.nsIn K yk "reversed" = some none)
  (z_ValueError:PySem.W.nsIn K yk "ValueError" = some none)
  (pi0:PySem.W.nsIn K yk "MOST_LETTERS" = some (some (.int 2 ay)))
  (pi1:PySem.W.nsIn K yk "MOST_INS" = some (some (.int 4 ax)))
  (pi2:PySem.W.nsIn K yk "LEAST_IN" = some (some (.int (-99) av)))
  (pi3:PySem.W.nsIn K yk "GREATEST_IN" = some (some (.int 99 au)))
  (pi4:PySem.W.nsIn K yk "MOST_DEEDS" = some (some (.int 6 ar)))
  (pi5:PySem.W.nsIn K yk "MOST_ROUNDS" = some (some (.int 20 aq)))
  (pi6:PySem.W.nsIn K yk "DEEPEST_BLOCK" = some (some (.int 3 ap)))
  (pi7:PySem.W.nsIn K yk "DEEPEST_TERM" = some (some (.int 5 ao)))
  (pl:PySem.W.nsIn K yk "LETTERS" = some (some (.str "abcdefghijklmnopqrstuvwxyz" tl)))
  (pw:PySem.W.nsIn K yk "WORDS" = some (some (.ref aw)))
  (ph:K.lookup aw=some ⟨.type "tuple",ow,.seq #[.str "add" am,.str "sub" al,.str "mul" ak,.str "quo" aj,.str "less" ah,.str "same" ag,.str "min" af,.str "max" ae] nw,lw⟩)
  (pd:PySem.W.nsIn K yk "WIDE" = some (some (.ref ai)))
  (pg:K.lookup ai=some ⟨.type "tuple",oi,.seq #[.int (-32768) aF,.int 32767 aE] ni,li⟩)
  (pdD:PySem.W.nsIn K yk "DEEDS" = some (some (.ref ad)))
  (pgD:K.lookup ad=some ⟨.type "tuple",od,.seq #[.str "set" aD,.str "if" aC,.str "while" aB] nd,ld⟩)
  (pf0:PySem.W.nsIn K yk "FIGURES" = some (some (.str "0123456789" aA)))
  (pf1:PySem.W.nsIn K yk "MOST_FIGURES" = some (some (.int 6 az)))
  (x_RoomError:PySem.W.nsIn K yk "RoomError" = some (some (.ref a_RoomError)))
  (x_NoWorths:PySem.W.nsIn K yk "NoWorths" = some (some (.ref a_NoWorths)))
  (x_BadPaper:PySem.W.nsIn K yk "BadPaper" = some (some (.ref a_BadPaper)))
  (x_BadPlan:PySem.W.nsIn K yk "BadPlan" = some (some (.ref a_BadPlan)))
  (x_NoProgram:PySem.W.nsIn K yk "NoProgram" = some (some (.ref a_NoProgram)))
  (x_NoText:PySem.W.nsIn K yk "NoText" = some (some (.ref a_NoText)))
  (q_NoText:PySem.W.excIn K a_NoText D3 "ValueError.__new__" = true)
  (y_hcl:(PySem.W.clsIn K a_NoText).isSome=true)
  (y_hb:PySem.W.subIn K (.ref a_NoText) (.type "BaseException")=some true)
  (y_hga:PySem.W.findIn K (.ref a_NoText) "__getattribute__" = some (some (.builtin "BaseException.__getattribute__")))
  (y_hgh:PySem.W.findIn K (.ref a_NoText) "__getattr__" = some none)
  (y_ha:PySem.W.findIn K (.ref a_NoText) "__class__" = some (some (.builtin "object.__class__")))
  (y_hn:PySem.W.specialIn K (.builtin "object.__class__") "__get__" = some (some (.builtin "getset_descriptor.__get__")))
  (y_htk:PySem.W.takesIn K (.builtin "object.__class__")=some true)
  (y_hm:PySem.W.mroIn K a_NoText (.type "object")=some true)
  (y_xm:PySem.W.exmOne K (.ref a_NoText) (.ref a_RoomError)=some true)
  (y_k1:PySem.W.kitOne K (.ref a_NoText) (.ref a_BadPaper)=some false)
  (y_k2:PySem.W.kitOne K (.ref a_NoText) (.ref a_BadPlan)=some false)
  (y_k3:PySem.W.kitOne K (.ref a_NoText) (.ref a_NoProgram)=some false)
  (y_k4:PySem.W.kitOne K (.ref a_NoText) (.ref a_NoWorths)=some false)
  (y_k5:PySem.W.kitOne K (.ref a_NoText) (.ref a_NoText)=some true)
  (y_k6:PySem.W.kitOne K (.ref a_NoText) (.type "ValueError")=some true)
  : ∃fd:y14,(∀(s:y6) (v:y9),BindsTo s fd ⟨[v],[]⟩ [("_law_script",v)])/\∀base:Heap,K.In base->base.Ns yk mg->FnOk l.prog w K mg base CX0 21 fa fd ["_law_script"] (Hz K):=by
 have e:=aG.symm.trans (y06 X G a42);cases e;obtain⟨_,d_is_program⟩:=d0.df X G ["thing"] fun _ _ _ _ _ _=>us1 fun _=>rfl;have F_is_program:=d_is_program.F;obtain⟨_,d_is_whole⟩:=d1.df X G ["thing"] fun _ _ _ _ _ _=>us1 fun _=>rfl;have F_is_whole:=d_is_whole.F;obtain⟨_,d_is_whole_from⟩:=d2.df X G ["thing","low","high"] fun _ _ _ _ _ _=>us3 fun _ _ _=>rfl;have F_is_whole_from:=d_is_whole_from.F;obtain⟨_,d_is_tuple_of⟩:=d3.df X G ["thing","many"] fun _ _ _ _ _ _=>us2 fun _ _=>rfl;have F_is_tuple_of:=d_is_tuple_of.F;obtain⟨_,d_is_name⟩:=d4.df X G ["thing"] fun _ _ _ _ _ _=>us1 fun _=>rfl;have F_is_name:=d_is_name.F;obtain⟨_,d_are_rising_rows⟩:=d5.df X G ["thing","is_row"] fun _ _ _ _ _ _=>us2 fun _ _=>rfl;have F_are_rising_rows:=d_are_rising_rows.F;obtain⟨_,d_are_ins⟩:=d6.df X G ["thing"] fun _ _ _ _ _ _=>us1 fun _=>rfl;have F_are_ins:=d_are_ins.F;obtain⟨_,d_is_in⟩:=d7.df X G ["thing"] fun _ _ _ _ _ _=>us1 fun _=>rfl;have F_is_in:=d_is_in.F;obtain⟨_,d_is_block⟩:=d8.df X G ["thing","levels"] fun _ _ _ _ _ _=>us2 fun _ _=>rfl;have F_is_block:=d_is_block.F;obtain⟨_,d_is_deed⟩:=d9.df X G ["thing","levels"] fun _ _ _ _ _ _=>us2 fun _ _=>rfl;have F_is_deed:=d_is_deed.F;obtain⟨_,d_is_term⟩:=d10.df X G ["thing","levels"] fun _ _ _ _ _ _=>us2 fun _ _=>rfl;have F_is_term:=d_is_term.F;obtain⟨_,d_known_behind_block⟩:=d11.df X G ["block","known"] fun _ _ _ _ _ _=>us2 fun _ _=>rfl;have F_known_behind_block:=d_known_behind_block.F;obtain⟨_,d_known_behind_deed⟩:=d12.df X G ["deed","known"] fun _ _ _ _ _ _=>us2 fun _ _=>rfl;have F_known_behind_deed:=d_known_behind_deed.F;obtain⟨_,d_has_known_names⟩:=d13.df X G ["term","known"] fun _ _ _ _ _ _=>us2 fun _ _=>rfl;have F_has_known_names:=d_has_known_names.F;obtain⟨_,d_term_of⟩:=d14.df X G ["deed"] fun _ _ _ _ _ _=>us1 fun _=>rfl;have F_term_of:=d_term_of.F;obtain⟨_,d_blocks_of⟩:=d15.df X G ["deed"] fun _ _ _ _ _ _=>us1 fun _=>rfl;have F_blocks_of:=d_blocks_of.F;obtain⟨_,d_written⟩:=d16.df X G ["program"] fun _ _ _ _ _ _=>us1 fun _=>rfl;have F_written:=d_written.F;obtain⟨_,d_lines_of_block⟩:=d17.df X G ["block"] fun _ _ _ _ _ _=>us1 fun _=>rfl;have F_lines_of_block:=d_lines_of_block.F;obtain⟨_,d_lines_of_deed⟩:=d18.df X G ["deed"] fun _ _ _ _ _ _=>us1 fun _=>rfl;have F_lines_of_deed:=d_lines_of_deed.F;obtain⟨_,d_words_of_term⟩:=d19.df X G ["term"] fun _ _ _ _ _ _=>us1 fun _=>rfl;have F_words_of_term:=d_words_of_term.F;obtain⟨_,d_read⟩:=d20.df X G ["text"] fun _ _ _ _ _ _=>us1 fun _=>rfl;have F_read:=d_read.F;obtain⟨_,d_read_loosely⟩:=d21.df X G ["text"] fun _ _ _ _ _ _=>us1 fun _=>rfl;have F_read_loosely:=d_read_loosely.F;obtain⟨_,d_in_from⟩:=d22.df X G ["words"] fun _ _ _ _ _ _=>us1 fun _=>rfl;have F_in_from:=d_in_from.F;obtain⟨_,d_block_from⟩:=d23.df X G ["lines","levels"] fun _ _ _ _ _ _=>us2 fun _ _=>rfl;have F_block_from:=d_block_from.F;obtain⟨_,d_deed_from⟩:=d24.df X G ["lines","levels"] fun _ _ _ _ _ _=>us2 fun _ _=>rfl;have F_deed_from:=d_deed_from.F;obtain⟨_,d_take_word⟩:=d25.df X G ["lines","word"] fun _ _ _ _ _ _=>us2 fun _ _=>rfl;have F_take_word:=d_take_word.F;obtain⟨_,d_term_from⟩:=d26.df X G ["words"] fun _ _ _ _ _ _=>us1 fun _=>rfl;have F_term_from:=d_term_from.F;obtain⟨_,d_leaf_from⟩:=d27.df X G ["word"] fun _ _ _ _ _ _=>us1 fun _=>rfl;have F_leaf_from:=d_leaf_from.F;obtain⟨_,d_number_from⟩:=d28.df X G ["word"] fun _ _ _ _ _ _=>us1 fun _=>rfl;have F_number_from:=d_number_from.F;obtain⟨_,d_is_number⟩:=d29.df X G ["word"] fun _ _ _ _ _ _=>us1 fun _=>rfl;have F_is_number:=d_is_number.F;obtain⟨_,d_law_cell⟩:=d30.df X G ["_law_script","_law_k"] fun _ _ _ _ _ _=>us2 fun _ _=>rfl;have F_law_cell:=d_law_cell.F;obtain⟨_,d_law_pick⟩:=d31.df X G ["_law_script","_law_k","_law_many"] fun _ _ _ _ _ _=>us3 fun _ _ _=>rfl;have F_law_pick:=d_law_pick.F;obtain⟨_,d_law_sum⟩:=d32.df X G ["_law_script","_law_at","_law_known","_law_deep"] fun _ _ _ _ _ _=>us4 fun _ _ _ _=>rfl;have F_law_sum:=d_law_sum.F;obtain⟨_,d_law_counted⟩:=d33.df X G ["_law_script","_law_at","_law_known","_law_body","_law_deep"] fun _ _ _ _ _ _=>us5 fun _ _ _ _ _=>rfl;have F_law_counted:=d_law_counted.F;obtain⟨_,d_law_block⟩:=d34.df X G ["_law_script","_law_at","_law_known","_law_deep"] fun _ _ _ _ _ _=>us4 fun _ _ _ _=>rfl;have F_law_block:=d_law_block.F;obtain⟨_,d_law_program⟩:=d35.df X G ["_law_script","_law_at"] fun _ _ _ _ _ _=>us2 fun _ _=>rfl;have F_law_program:=d_law_program.F;obtain⟨_,d_law_spoilt⟩:=d36.df X G ["_law_text_here","_law_cell_here","_law_signs"] fun _ _ _ _ _ _=>us3 fun _ _ _=>rfl;have F_law_spoilt:=d_law_spoilt.F;obtain⟨_,d_law_sum_text⟩:=d37.df X G ["_law_expr"] fun _ _ _ _ _ _=>us1 fun _=>rfl;have F_law_sum_text:=d_law_sum_text.F;obtain⟨_,d_law_block_text⟩:=d38.df X G ["_law_block_here"] fun _ _ _ _ _ _=>us1 fun _=>rfl;have F_law_block_text:=d_law_block_text.F;obtain⟨_,d_law_text⟩:=d39.df X G ["_law_program_here"] fun _ _ _ _ _ _=>us1 fun _=>rfl;have F_law_text:=d_law_text.F;obtain⟨_,d_law_holds⟩:=d40.df X G ["_law_text_here"] fun _ _ _ _ _ _=>us1 fun _=>rfl;have F_law_holds:=d_law_holds.F;obtain⟨_,d_law_once⟩:=d41.df X G ["_law_script"] fun _ _ _ _ _ _=>us1 fun _=>rfl;have F_law_once:=d_law_once.F;have F_law:=MI (st:=Bl) l42 c42 k42;have b_isinstance:=y0l X G z_isinstance;have b_int:=y0l X G z_int;have b_bool:=y0l X G z_bool;have b_len:=y0l X G z_len;have b_tuple:=y0l X G z_tuple;have b_str:=y0l X G z_str;have b_all:=y0l X G z_all;have b_zip:=y0l X G z_zip;have b_range:=y0l X G z_range;have b_reversed:=y0l X G z_reversed;have b_ValueError:=y0l X G z_ValueError;refine⟨PySem.W.fnOf "law" "law" (defArgs Bl) (defBody Bl) (defScope Bl) .none B J z O q M,fun s v=>.of_eq rfl,fun base _ _=>?_⟩;have g_MOST_LETTERS:GC mg "MOST_LETTERS" (.int 2):=⟨_,y06 X G pi0,⟨_,rfl⟩⟩;have g_MOST_INS:GC mg "MOST_INS" (.int 4):=⟨_,y06 X G pi1,⟨_,rfl⟩⟩;have g_LEAST_IN:GC mg "LEAST_IN" (.int (-99)):=⟨_,y06 X G pi2,⟨_,rfl⟩⟩;have g_GREATEST_IN:GC mg "GREATEST_IN" (.int 99):=⟨_,y06 X G pi3,⟨_,rfl⟩⟩;have g_MOST_DEEDS:GC mg "MOST_DEEDS" (.int 6):=⟨_,y06 X G pi4,⟨_,rfl⟩⟩;have g_MOST_ROUNDS:GC mg "MOST_ROUNDS" (.int 20):=⟨_,y06 X G pi5,⟨_,rfl⟩⟩;have g_DEEPEST_BLOCK:GC mg "DEEPEST_BLOCK" (.int 3):=⟨_,y06 X G pi6,⟨_,rfl⟩⟩;have g_DEEPEST_TERM:GC mg "DEEPEST_TERM" (.int 5):=⟨_,y06 X G pi7,⟨_,rfl⟩⟩;have g_LETTERS:GC mg "LETTERS" (.str "abcdefghijklmnopqrstuvwxyz"):=⟨_,y06 X G pl,⟨_,rfl⟩⟩;have g_WORDS:GC mg "WORDS" (.ref aw):=⟨_,y06 X G pw,rfl⟩;have g_WIDE:GC mg "WIDE" (.ref ai):=⟨_,y06 X G pd,rfl⟩;have hW:∀H,SqT K H aw (words.map V.str):=Lg ph (.cons ⟨_,rfl⟩ (.cons ⟨_,rfl⟩ (.cons ⟨_,rfl⟩ (.cons ⟨_,rfl⟩ (.cons ⟨_,rfl⟩ (.cons ⟨_,rfl⟩ (.cons ⟨_,rfl⟩ (.cons ⟨_,rfl⟩ .nil)))))))) (show(8:Nat)<=yr by decide);have hI:∀H,SqT K H ai [.int (-32768),.int 32767]:=Lg pg (.cons ⟨_,rfl⟩ (.cons ⟨_,rfl⟩ .nil)) (show(2:Nat)<=yr by decide);have c_whole:=d_is_whole.callee (Xj (P:=l.prog) (w:=w) (base:=base) F_is_whole b_isinstance b_int b_bool);have c_from:=d_is_whole_from.callee (Xk F_is_whole_from c_whole);have c_tup:=d_is_tuple_of.callee (Xl (P:=l.prog) (w:=w) (base:=base) F_is_tuple_of b_isinstance b_len b_tuple);have c_name:=d_is_name.callee (Xn (P:=l.prog) (w:=w) (base:=base) F_is_name b_isinstance b_len b_str b_all g_MOST_LETTERS g_LETTERS);have o_in:=Xq F_is_in c_tup c_name c_from g_LEAST_IN g_GREATEST_IN;have c_rows:=d_are_rising_rows.callee (Y1 (P:=l.prog) (w:=w) (base:=base) F_are_rising_rows b_isinstance b_tuple b_all b_zip);have c_ins:=d_are_ins.callee (Y3 F_are_ins b_len g_MOST_INS ⟨_,d_is_in.m,rfl⟩ ⟨_,_,o_in,F_is_in.kp,d_is_in.b⟩ c_rows);have c_term:=Pw d_is_term c_tup c_name c_from g_WIDE hI g_WORDS hW 6;have b0:=d_is_block.callee (ZG (P:=l.prog) (w:=w) (base:=base) (k:=8));have e0:=d_is_deed.callee (HD (n:=0) F_is_deed c_tup c_name c_from c_term b0 g_DEEPEST_TERM g_MOST_ROUNDS);have b1:=d_is_block.callee (HE (n:=0) F_is_block b_isinstance b_len b_tuple b_all g_MOST_DEEDS e0);have e1:=d_is_deed.callee (HD (n:=1) F_is_deed c_tup c_name c_from c_term b1 g_DEEPEST_TERM g_MOST_ROUNDS);have b2:=d_is_block.callee (HE (n:=1) F_is_block b_isinstance b_len b_tuple b_all g_MOST_DEEDS e1);have e2:=d_is_deed.callee (HD (n:=2) F_is_deed c_tup c_name c_from c_term b2 g_DEEPEST_TERM g_MOST_ROUNDS);have b3:=d_is_block.callee (HE (n:=2) F_is_block b_isinstance b_len b_tuple b_all g_MOST_DEEDS e2);have e3:=d_is_deed.callee (HD (n:=3) F_is_deed c_tup c_name c_from c_term b3 g_DEEPEST_TERM g_MOST_ROUNDS);have b4:=d_is_block.callee (HE (n:=3) F_is_block b_isinstance b_len b_tuple b_all g_MOST_DEEDS e3);have c_has:=Px (P:=l.prog) (w:=w) (base:=base) d_has_known_names 5;have c_to:=d_term_of.callee (Y4 (P:=l.prog) (w:=w) (base:=base) F_term_of);have c_bo:=d_blocks_of.callee (Y5 (P:=l.prog) (w:=w) (base:=base) F_blocks_of);have k0:=d_known_behind_block.callee (Y9 (P:=l.prog) (w:=w) (base:=base) (k:=8));have m0:=d_known_behind_deed.callee (HH (n:=0) F_known_behind_deed b_tuple c_has c_to c_bo k0);have k1:=d_known_behind_block.callee (HG (n:=0) F_known_behind_block m0);have m1:=d_known_behind_deed.callee (HH (n:=1) F_known_behind_deed b_tuple c_has c_to c_bo k1);have k2:=d_known_behind_block.callee (HG (n:=1) F_known_behind_block m1);have m2:=d_known_behind_deed.callee (HH (n:=2) F_known_behind_deed b_tuple c_has c_to c_bo k2);have k3:=d_known_behind_block.callee (HG (n:=2) F_known_behind_block m2);have m3:=d_known_behind_deed.callee (HH (n:=3) F_known_behind_deed b_tuple c_has c_to c_bo k3);have k4:=d_known_behind_block.callee (HG (n:=3) F_known_behind_block m3);have c_isp:=d_is_program.callee (YF F_is_program b_tuple c_tup c_ins b4 k4 g_DEEPEST_BLOCK);have c_cell:=d_law_cell.callee (XO (P:=l.prog) (w:=w) (base:=base) F_law_cell b_len);have c_pick:=d_law_pick.callee (XQ F_law_pick c_cell);have c_sum:=OY d_law_sum b_len c_pick 3;have c_cnt:=d_law_counted.callee (XX F_law_counted b_len c_pick c_sum);have c_blk:=OZ d_law_block b_range b_tuple c_pick c_sum c_cnt 3;have c_prg:=d_law_program.callee (Xg F_law_program b_range b_tuple c_pick c_blk);have g_DEEDS:GC mg "DEEDS" (.ref ad):=⟨_,y06 X G pdD,rfl⟩;have hD:∀H,SqT K H ad (deeds3.map V.str):=Lg pgD (.cons ⟨_,rfl⟩ (.cons ⟨_,rfl⟩ (.cons ⟨_,rfl⟩ .nil))) (show(3:Nat)<=yr by decide);have g_FIGURES:GC mg "FIGURES" (.str "0123456789"):=⟨_,y06 X G pf0,⟨_,rfl⟩⟩;have g_MOST_FIGURES:GC mg "MOST_FIGURES" (.int 6):=⟨_,y06 X G pf1,⟨_,rfl⟩⟩;have c_wt:=P7 (P:=l.prog) (w:=w) (base:=base) d_words_of_term b_str 5;have c_lb:=P9 d_lines_of_block d_lines_of_deed b_str c_wt 3;have c_wr:=d_written.callee (Yd F_written c_lb);have c_nu:=d_is_number.callee (Yg (P:=l.prog) (w:=w) (base:=base) F_is_number g_MOST_FIGURES g_FIGURES b_len b_all b_str b_int);have cx_nf:=d_number_from.calleeX (Yh F_number_from x_NoText q_NoText b_int c_nu);have c_lf:=d_leaf_from.callee (Yi F_leaf_from b_int c_nu);have cx_tf:=d_term_from.calleeX (Yl F_term_from x_NoText q_NoText b_len b_reversed g_WORDS hW c_lf);have cx_tw:=d_take_word.calleeX (Ym (P:=l.prog) (w:=w) (base:=base) F_take_word x_NoText q_NoText);have cx_if:=d_in_from.calleeX (Yo F_in_from x_NoText q_NoText b_len cx_nf);have cx_bf:=Pc d_block_from d_deed_from x_NoText q_NoText b_len b_tuple g_DEEDS hD cx_nf cx_tf cx_tw 4;have cx_rl:=d_read_loosely.calleeX (Yv F_read_loosely b_tuple g_DEEPEST_BLOCK cx_if cx_bf);have cx_rd:=d_read.calleeX (Yw F_read x_NoText q_NoText cx_rl c_isp c_wr);have c_st:=Ph (P:=l.prog) (w:=w) (base:=base) d_law_sum_text b_str 5;have c_bt:=Pj d_law_block_text b_str c_st 3;have c_lt:=d_law_text.callee (Z6 F_law_text b_str c_bt);have c_ho:=d_law_holds.callee (Z7 F_law_holds b_isinstance b_ValueError (y06 X G x_RoomError) (y06 X G x_NoWorths) (y06 X G x_BadPaper) (y06 X G x_BadPlan) (y06 X G x_NoProgram) (y06 X G x_NoText) ⟨y_hcl,y_hb,y_hga,y_hgh,y_ha,y_hn,y_htk,y_hm⟩ y_xm y_k1 y_k2 y_k3 y_k4 y_k5 y_k6 cx_rd c_isp c_lt);have c_sp:=d_law_spoilt.callee (Z9 (P:=l.prog) (w:=w) (base:=base) F_law_spoilt b_len);have c_on:=d_law_once.callee (ZE F_law_once b_range b_len c_prg c_pick c_lt c_wr (SR.CalleeX.noX cx_rd) c_ho c_sp);exact ZJ F_law b_range c_on
theorem ZL{l:PySem.W.OpenLaw}{q:yl}{loose:List Str}{Z:(Str->Option y9)->Heap->Prop}{J:y08->Heap->Prop}{d:DefRec}{K:Params->y3}(M:l.most=some 63)(B:d.params.defaults=[])
  (O:∀(w:y08) (h:Heap),J w h->(K w.params).In h)
  (F:∀(w:y08) (mg:Str->Option y9) (G:Addr) (h:Heap),(K w.params).In h->h.Ns yk mg->mg d.name=some (.ref G)->
   ∃fd:y14,(∀(s:y6) (u:y9),BindsTo s fd ⟨[u],[]⟩ [("_law_script",u)])/\∀base:Heap,(K w.params).In base->base.Ns yk mg->FnOk l.prog w (K w.params) mg base CX0 21 G fd ["_law_script"] (Hz (K w.params))) :
  PySem.W.WalkO q loose Z J l.row.toRowW d [] (fun f vs=>PySem.call f vs):=
 L2.RB (n:=63) (k:=21) (x:="_law_script") (CX:=fun _=>CX0) (sp:=fun w=>Hz (K w.params)) M (by decide) B ⟨rfl,by decide,by decide⟩ O F (fun _ _ a ns hl _ U=>⟨a,ns,rfl,U,hl,fun _=>rfl⟩) fun _ _ _ _ _ z=>z
end SR
namespace PySem.W.Fast
def tw16919427181128817979:=Nat
def tw338164527390794082:=Nat
def tw7885502361613560399:=Nat
def tw17668899305664125930:=Nat
def tw11852387774153791098:=Nat
def tw14135816361029505001:=Nat
def tw14752196079590303903:=Nat
def tw2946892756681284044:=Nat
def tw10891097990895250002:=Nat
def tw17222883665272977396:=Nat
def tw12611318155423886597:=Nat
def tw4774019790510038666:=Nat
def tw1714818732053087612:=Nat
def tw3130604136816332704:=Nat
def tw12740486722481417798:=Nat
def tw17001059836570735612:=Nat
def tw1832151352154615694:=Nat
def tw15064612389911491715:=Nat
def tw2886437716187541001:=Nat
def tw14589081655120042508:=Nat
def tw11548606889819212449:=Nat
def tw18363734026378628980:=Nat
def tw14425173500641764168:=Nat
def tw5325611722267393653:=Nat
def tw8150502735047209106:=Nat
def tw3591408994654719992:=Nat
def tw721753188366052349:=Nat
def tw13509353870369947613:=Nat
def tw12067392501100707722:=Nat
def tw18424890460441646540:=Nat
def tw15676619525836388449:=Nat
def tw2221885383681915749:=Nat
def tw15604214090383108631:=Nat
def tw4390007733601464519:=Nat
def tw5158198039890554764:=Nat
def tw2748195332068070227:=Nat
def tw13250143531211597024:=Nat
def tw6841992494627824365:=Nat
def tw370618847571585450:=Nat
def tw15007956051079304835:=Nat
def tw17009847403408220099:=Nat
def tw18346994379324679075:=Nat
def tw7542291432008926199:=Nat
def tw17134758656230895675:=Nat
def tw2401524492820400701:=Nat
def tw3544406054363606485:=Nat
def tw10170339176470556459:=Nat
def tw1972757687821472566:=Nat
def tw15975137534052793908:=Nat
def tw6809368769239577302:=Nat
def tw13902931063776563761:=Nat
def tw3752025394373917694:=Nat
def tw12366925034643148600:=Nat
def tw13551559882139654899:=Nat
def tw18215682214287251881:=Nat
def tw14627111920851838883:=Nat
def tw15932454403291210731:=Nat
def tw16460315346199373515:=Nat
def tw15951108484431587102:=Nat
def tw4369971567609945139:=Nat
def tw14870074802500331081:=Nat
def tw15527929586916493019:=Nat
def tw4618737409439616360:=Nat
def tw12577826004735637118:=Nat
def tw4189514498129061437:=Nat
def tw4837813851250565659:=Nat
def tw134873982969163341:=Nat
def tw7452661779109511116:=Nat
def tw2788643461140900203:=Nat
def tw7428850743470207342:=Nat
def tw3458826935916973144:=Nat
def tw12017855937919937019:=Nat
def tw15771524089349071267:=Nat
def tw17285218594413806826:=Nat
def tw8174385405482321896:=Nat
def tw8851020550967023326:=Nat
def tw3347049386417077301:=Nat
def tw13411141305004077599:=Nat
def tw9472572265910691307:=Nat
def tw6035970340715937477:=Nat
def tw13777414286944982618:=Nat
def tw10147807153535433130:=Nat
def tw2338021057908145637:=Nat
def tw7073250184213002748:=Nat
def tw14864079739028395153:=Nat
def tw14701342188585271844:=Nat
def tw12337943066805675872:=Nat
def tw2039038052921084767:=Nat
def tw16982486207001873294:=Nat
def tw11324801415989317421:=Nat
def tw3918338525665318619:=Nat
def tw17650130293640588114:=Nat
def tw8382555289156411904:=Nat
def tw14153326735148708974:=Nat
def tw16184287389710192868:=Nat
def tw15979178621620970468:=Nat
def tw9144834143603411169:=Nat
def tw1767964704491754080:=Nat
def tw4975085742274007073:=Nat
def tw16184214023033576557:=Nat
def tw4981171273785610978:=Nat
def tw10346567777255741887:=Nat
def tw18144766267993258772:=Nat
def tw16683618232076795998:=Nat
def tw18392987583258020941:=Nat
def tw8151825391518045867:=Nat
def tw2329688852425051148:=Nat
def tw10685331512860157991:=Nat
def tw15594132194911027560:=Nat
def tw4590195181961546651:=Nat
def tw12198001342597740011:=Nat
def tw7516834670008351252:=Nat
def tw15894669556215616376:=Nat
def tw17153959262590966289:=Nat
def tw200499465583756381:=Nat
def tw4597505980112276220:=Nat
def tw6382455871805186404:=Nat
def tw16128466784997927324:=Nat
def tw11212016774231408571:=Nat
def tw18387398851608143171:=Nat
def tw14389609090284889702:=Nat
def tw4496058268162863274:=Nat
def tw8304368266042142225:=Nat
def tw2190569574838427357:=Nat
def tw5397539001994563213:=Nat
def tw13583526393750328204:=Nat
def tw14930228076661416986:=Nat
def tw8819699116770119124:=Nat
def tw558632262287278066:=Nat
def tw17844932304581782003:=Nat
def tw12497760584559795307:=Nat
def tw13962029135167762937:=Nat
def tw5812938104304789024:=Nat
def tw1777305948298193029:=Nat
def tw10617149880726135062:=Nat
def tw7686257095114038661:=Nat
def tw8692194346539789312:=Nat
def tw7913596016683951074:=Nat
def tw763886209026319473:=Nat
def tw3042887183563937363:=Nat
def tw2070887335159346413:=Nat
def tw18307136442014668959:=Nat
def tw8520201815533501907:=Nat
def tw3815100029754133771:=Nat
def tw11353433850318491026:=Nat
def tw12095322692513227230:=Nat
def tw14630642916610005111:=Nat
def tw6998746188815801445:=Nat
def tw4172303190580167712:=Nat
def tw12065024113807114570:=Nat
def tw1317670825885445727:=Nat
def tw17242546347856839769:=Nat
def tw12775026321148954328:=Nat
def tw8756544328715516979:=Nat
def tw7681833128220966552:=Nat
def tw12932253747946852538:=Nat
def tw1271208862284384070:=Nat
def tw3634035414816186497:=Nat
def tw12826552420743461488:=Nat
def tw6785458770016604131:=Nat
def tw14512364803704063507:=Nat
def tw12051780820123505800:=Nat
def tw1586527765780831902:=Nat
def tw3020859583456771441:=Nat
def tw8549319923952057739:=Nat
def tw15960388443235455626:=Nat
def tw1544493989412789968:=Nat
def tw633172260324677938:=Nat
def tw11692944343664550962:=Nat
def tw14680617866180784230:=Nat
def tw2338512858444811095:=Nat
def tw4284225793410134217:=Nat
def tw7702961479000896395:=Nat
def tw12079600287903418832:=Nat
def tw15871229430840270039:=Nat
def tw11682095898680703498:=Nat
def tw18111379440784968946:=Nat
def tw726829723253426885:=Nat
def tw14110918714766965932:=Nat
def tw8652891012994238677:=Nat
def tw2993910953505283042:=Nat
def tw16353721743366136772:=Nat
def tw463481292160902883:=Nat
def tw2623528854141354189:=Nat
def tw9381776178595359934:=Nat
def tw13360687294673755767:=Nat
def tw15420474903066802085:=Nat
def tw508400018637790818:=Nat
def tw9376282691918830835:=Nat
def tw5951265013994364374:=Nat
def tw16145760414543357226:=Nat
def tw10759239062505865727:=Nat
def tw543516408119414176:=Nat
def tw15682064138789808694:=Nat
def tw6183349318255632733:=Nat
def tw12834470247996074881:=Nat
def tw7981189061825999476:=Nat
def tw8301395444357476161:=Nat
def tw7674435947933749890:=Nat
def tw362587378263004533:=Nat
def tw15575054234512667887:=Nat
def tw8601334945633397489:=Nat
def tw10702505779781987136:=Nat
def tw3463716704978861738:=Nat
def tw12969881443585585047:=Nat
def tw9221583990810674572:=Nat
def tw14485530562230172456:=Nat
def tw13310813705871460850:=Nat
def tw1379429793079904901:=Nat
def tw11467828992398803518:=Nat
def tw12550604327540310594:=Nat
def tw15380305616568431251:=Nat
def tw17610815865655598874:=Nat
def tw8563310382488419629:=Nat
def tw608742485198379141:=Nat
def tw13151684411844944656:=Nat
def tw16949279954455126144:=Nat
def tw367119619870576213:=Nat
def tw13672965633921805525:=Nat
def tw1152906399326138800:=Nat
def tw13161685100045441982:=Nat
def tw734889658591020705:=Nat
def tw16316183610799098669:=Nat
def tw11139905069034880482:=Nat
def tw122528556332203247:=Nat
def tw12135791327375579642:=Nat
def tw6528510383067169145:=Nat
def tw9075030805997471210:=Nat
def tw10873036123173975404:=Nat
def tw13612303536100144639:=Nat
def tw11083550155916817461:=Nat
def tw7555496383816782961:=Nat
def tw7773842827163211083:=Nat
def tw4976125615605496755:=Nat
def tw2394966306302328022:=Nat
def tw15763374167882454134:=Nat
def tw7659653539991537113:=Nat
def tw9772243736722675825:=Nat
def tw17786577082986225139:=Nat
def tw9110368050731338696:=Nat
def tw11850818138177149182:=Nat
def tw16669648138527428264:=Nat
def tw10751864020117479621:=Nat
def tw11536231236060378813:=Nat
def tw6108074629859172390:=Nat
def tw14119179896497493089:=Nat
def tw14121889126665324258:=Nat
def tw11780664434207537779:=Nat
def tw8390331144596607996:=Nat
def tw4181914618224602479:=Nat
def tw13785623709684029134:=Nat
def tw5338651905391619091:=Nat
def tw8903446147525485248:=Nat
def tw12303935439211189141:=Nat
def tw9408112364770762904:=Nat
def tw11210502877831112714:=Nat
def tw11163200321237475845:=Nat
def tw6749233411879636212:=Nat
def tw2331230996419296607:=Nat
def tw7565378011119205408:=Nat
def tw7554978667466527352:=Nat
def tw18240846563286439685:=Nat
def tw1436810544049351106:=Nat
def tw17240884729143283315:=Nat
def tw15260436183570729434:=Nat
def tw11816962806108146990:=Nat
def tw1286974059913085399:=Nat
def tw14454511986935121147:=Nat
def tw17468095371966386969:=Nat
def tw12904229769526099173:=Nat
def tw1894137740928706115:=Nat
def tw11460357453170458909:=Nat
def tw9826317029675487169:=Nat
def tw15531302249092423566:=Nat
def tw8961974821304302810:=Nat
def tw6017067658419617025:=Nat
def tw4809154018426211968:=Nat
def tw16334050754020993246:=Nat
def tw3899958186809045843:=Nat
def tw7223363294727221377:=Nat
def tw12246492798442117020:=Nat
def tw1613440616601059242:=Nat
def tw9182609895113973134:=Nat
def tw4944230001688041791:=Nat
def tw4821822567455304836:=Nat
def tw17079287257506669125:=Nat
def tw15286635452147500366:=Nat
def tw161911748452857433:=Nat
def tw18161341673164239486:=Nat
def tw2321816741465793133:=Nat
def tw1322455635898076699:=Nat
def tw13744718880473211438:=Nat
def tw18263211490673410146:=Nat
def tw6070365354626908127:=Nat
def tw6407879148017067698:=Nat
def tw5409225864748774042:=Nat
def tw5856634291186952366:=Nat
def tw1170176808518066451:=Nat
def tw17101075555300786692:=Nat
def tw13757480011334909638:=Nat
def tw10185408801129964510:=Nat
def tw4953178569563952142:=Nat
def tw8212503898140064245:=Nat
def tw2600908142745962298:=Nat
def tw2249875912527935201:=Nat
def tw14682063065941935947:=Nat
def tw13639410495095376196:=Nat
def tw1952903835555595272:=Nat
def tw16726070334387426310:=Nat
def tw12604584199214268231:=Nat
def tw7231483622817952939:=Nat
def tw64487120523710015:=Nat
def tw4789614982669019135:=Nat
def tw15535034407447347803:=Nat
def tw18378844973657454060:=Nat
def tw3002430105948687694:=Nat
def tw5903859263938950027:=Nat
def tw14783961374288731366:=Nat
def tw6302784632259084770:=Nat
def tw12312023561565077045:=Nat
def tw8885183217872063211:=Nat
def tw6559969885484064751:=Nat
def tw3666274210379894408:=Nat
def tw11084146174823378603:=Nat
def tw12025936734409862097:=Nat
def tw17100176017171063920:=Nat
def tw306050186165619821:=Nat
def tw1327499367342750697:=Nat
def tw16738506944601929258:=Nat
def tw18123217812128884640:=Nat
def tw17480383355610588558:=Nat
def tw10841289551641895052:=Nat
def tw3018649154481935008:=Nat
def tw15374548072634993978:=Nat
def tw13168247863280957146:=Nat
def tw17730763132423940941:=Nat
def tw16919032904146944163:=Nat
def tw9538603098054528837:=Nat
def tw7417225763436023218:=Nat
def tw12580350714444867990:=Nat
def tw3160632608675734687:=Nat
def tw9598300697998655126:=Nat
def tw2178508088702109570:=Nat
def tw12593070531325417622:=Nat
def tw18207273601975332959:=Nat
def tw124155761154121348:=Nat
def tw7705263870695511648:=Nat
def tw9845735521354011653:=Nat
def tw6665953936687799008:=Nat
def tw511938059212665344:=Nat
def tw6052651469820048571:=Nat
def tw8878057119933455174:=Nat
def tw1880642166621540819:=Nat
end PySem.W.Fast
open PySem PySem.W PyProof.Rows
local macro_rules | `(tactic| walk_at "df")=>`(tactic| exact⟨_,_,_,_,_,_,_,_,_,by k_is,by k_is,by k_is,by k_is⟩)
set_option maxRecDepth 100000 in
set_option maxHeartbeats 0 in
theorem PySem.Challenge.cw_smallrooms_k60_whole_texts_holds : PySem.Challenge.rw_smallrooms_k60_whole_texts.Holds := by
 w_on; o_law; k_head; (case hw=>w_witness2)
 k_fill
 refine SR.ZL (l:=PySem.Challenge.rw_smallrooms_k60_whole_texts) rfl rfl (fun w h Y=>PySem.W.kIn_of Y) ?F
 case F=>
  intro w mg fa h KX G hmg
  refine' SR.ZK KX G hmg ?d0 ?d1 ?d2 ?d3 ?d4 ?d5 ?d6 ?d7 ?d8 ?d9 ?d10 ?d11 ?d12 ?d13 ?d14 ?d15 ?d16 ?d17 ?d18 ?d19 ?d20 ?d21 ?d22 ?d23 ?d24 ?d25 ?d26 ?d27 ?d28 ?d29 ?d30 ?d31 ?d32 ?d33 ?d34 ?d35 ?d36 ?d37 ?d38 ?d39 ?d40 ?d41 ?a42 ?l42 ?c42 ?k42 ?z_isinstance ?z_int ?z_bool ?z_len ?z_tuple ?z_str ?z_all ?z_zip ?z_range ?z_reversed ?z_ValueError ?pi0 ?pi1 ?pi2 ?pi3 ?pi4 ?pi5 ?pi6 ?pi7 ?pl ?pw ?ph ?pd ?pg ?pdD ?pgD ?pf0 ?pf1 ?x_RoomError ?x_NoWorths ?x_BadPaper ?x_BadPlan ?x_NoProgram ?x_NoText ?q_NoText ?y_hcl ?y_hb ?y_hga ?y_hgh ?y_ha ?y_hn ?y_htk ?y_hm ?y_xm ?y_k1 ?y_k2 ?y_k3 ?y_k4 ?y_k5 ?y_k6
  (case d0=>walk_at "df"); (case d1=>walk_at "df"); (case d2=>walk_at "df"); (case d3=>walk_at "df")
  (case d4=>walk_at "df"); (case d5=>walk_at "df"); (case d6=>walk_at "df"); (case d7=>walk_at "df")
  (case d8=>walk_at "df"); (case d9=>walk_at "df"); (case d10=>walk_at "df"); (case d11=>walk_at "df")
  (case d12=>walk_at "df"); (case d13=>walk_at "df"); (case d14=>walk_at "df"); (case d15=>walk_at "df")
  (case d16=>walk_at "df"); (case d17=>walk_at "df"); (case d18=>walk_at "df"); (case d19=>walk_at "df")
  (case d20=>walk_at "df"); (case d21=>walk_at "df"); (case d22=>walk_at "df"); (case d23=>walk_at "df")
  (case d24=>walk_at "df"); (case d25=>walk_at "df"); (case d26=>walk_at "df"); (case d27=>walk_at "df")
  (case d28=>walk_at "df"); (case d29=>walk_at "df"); (case d30=>walk_at "df"); (case d31=>walk_at "df")
  (case d32=>walk_at "df"); (case d33=>walk_at "df"); (case d34=>walk_at "df"); (case d35=>walk_at "df")
  (case d36=>walk_at "df"); (case d37=>walk_at "df"); (case d38=>walk_at "df"); (case d39=>walk_at "df")
  (case d40=>walk_at "df"); (case d41=>walk_at "df"); (case a42=>k_is); (case l42=>k_is)
  (case c42=>k_is); (case k42=>k_is); (case z_isinstance=>k_is); (case z_int=>k_is)
  (case z_bool=>k_is); (case z_len=>k_is); (case z_tuple=>k_is); (case z_str=>k_is)
  (case z_all=>k_is); (case z_zip=>k_is); (case z_range=>k_is); (case z_reversed=>k_is)
  (case z_ValueError=>k_is); (case pi0=>k_is); (case pi1=>k_is); (case pi2=>k_is)
  (case pi3=>k_is); (case pi4=>k_is); (case pi5=>k_is); (case pi6=>k_is)
  (case pi7=>k_is); (case pl=>k_is); (case pw=>k_is); (case ph=>k_is)
  (case pd=>k_is); (case pg=>k_is); (case pdD=>k_is); (case pgD=>k_is)
  (case pf0=>k_is); (case pf1=>k_is); (case x_RoomError=>k_is); (case x_NoWorths=>k_is)
  (case x_BadPaper=>k_is); (case x_BadPlan=>k_is); (case x_NoProgram=>k_is); (case x_NoText=>k_is)
  (case q_NoText=>kernel_rfl); (case y_hcl=>kernel_rfl); (case y_hb=>kernel_rfl); (case y_hga=>kernel_rfl)
  (case y_hgh=>kernel_rfl); (case y_ha=>kernel_rfl); (case y_hn=>kernel_rfl); (case y_htk=>kernel_rfl)
  (case y_hm=>kernel_rfl); (case y_xm=>kernel_rfl); (case y_k1=>kernel_rfl); (case y_k2=>kernel_rfl)
  (case y_k3=>kernel_rfl); (case y_k4=>kernel_rfl); (case y_k5=>kernel_rfl); (case y_k6=>kernel_rfl)
