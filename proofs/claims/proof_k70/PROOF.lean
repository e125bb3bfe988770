import PyProof.Rows.All
import Wide.All
import OpenK.AllK
import Wide.FinOn
import Lean
import PyProof.EqAt
import PyProof.EqKinds
import PyProof.TupleCall
import PyProof.AttrMissHeap
import PySem.Challenge.RW_smallrooms_k70_all_runs
set_option Elab.async false
set_option linter.all false
set_option compiler.extract_closed false
set_option maxRecDepth 100000
open Array renaming length_toList → yi,toList_append → y0y,getElem?_toList → y15,toList_push → y1p,getElem?_eq_getElem → y2u,getElem?_eq_none → y36,toList_reverse → y52,forIn_toList → y5c
open Bool renaming false_ne_true → yx,and_eq_true → y05,false_eq_true → y0e,not_eq_true' → y1g,true_and → y2i,not_true → y2j,or_eq_true → y35,false_and → y3e,eq_iff_iff → y3s,not_false → y55,decide_eq_true → y57,true_eq_false → y5h
open Int renaming emod_lt_of_pos → y5j
open List renaming length_map → y4,length_append → yc,map_cons → yj,getElem?_eq_getElem → yk,append_assoc → yn,map_append → yp,length_cons → yu,getD_eq_getElem?_getD → yv,mem_of_getElem? → yw,not_mem_nil → y00,length_take → y04,size_toArray → y07,mem_append_right → y08,map_map → y09,length_singleton → y0d,mem_cons → y0f,take_length → y0i,getElem?_map → y0k,find?_cons → y0o,mem_append_left → y0s,mem_cons_of_mem → y0v,append_nil → y0x,mem_cons_self → y10,mem_singleton → y13,map_congr_left → y16,getElem_mem → y18,lookup_cons → y1d,cons_append → y1e,take_append_drop → y1f,mem_of_mem_take → y1n,ext_getElem → y1o,getElem_of_mem → y1q,pairwise_iff_getElem → y1r,zip_cons_cons → y1t,length_drop → y1v,pairwise_map → y1x,getElem?_append_right → y22,any_cons → y24,take_zero → y26,getElem?_append_left → y27,drop_eq_getElem_cons → y28,getElem?_take_of_lt → y2d,map_nil → y2f,pairwise_singleton → y2g,getElem?_cons_zero → y2h,nil_append → y2m,length_nil → y2n,mem_of_mem_drop → y2r,drop_zero → y2v,getElem_inj → y2x,mem_append → y33,getElem?_cons_succ → y34,perm_append_comm → y3f,all_eq_true → y3h,reverse_reverse → y3k,reverse_append → y3o,nodup_cons → y3p,set_cons_zero → y3w,getElem?_drop → y3x,nodup_nil → y43,take_sublist → y49,nodup_append → y4a,length_range → y4b,getElem_take → y4c,getElem_drop → y4d,find?_append → y4e,ext_getElem? → y4f,map_snd_zip → y4p,of_mem_zip → y4t,lookup_cons_self → y4u,length_filter_le → y4v,drop_drop → y54,filterMap_cons → y56,set_cons_succ → y5e,pairwise_cons → y5f,all_cons → y5g,take_add_one → y5k,isEmpty_cons → y5l
open List.Pairwise renaming sublist → y31
open List.Perm renaming eq_of_pairwise → y2s,append_right → y48,append_left → y4l
open List.cons renaming injEq → y4k
open Nat renaming le_refl → yf,zero_le → yo,ne_of_lt → yz,lt_of_lt_of_le → y0c,le_trans → y0j,mul_le_mul_right → y0z,lt_of_le_of_lt → y11,le_of_lt → y12,lt_irrefl → y1b,lt_trans → y1i,sub_add_cancel → y1m,ne_of_gt → y25,lt_succ_of_lt → y2p,le_succ → y3d,pow_le_pow_right → y3l,sub_zero → y41,pow_succ → y42,le_succ_of_le → y4j,add_assoc → y4o,max_eq_right → y4q,succ_mul → y50,min_eq_left → y51,add_le_add_left → y5b,add_sub_cancel → y5i
open Ne renaming symm → y1k
open Option renaming map_eq_none_iff → y4n,isSome_map → y5d
open Option.some renaming inj → y0l,injEq → y30
open Prod renaming ext → y4z
open PyProof.Rows renaming wpS_bind → yr,wpS_pure → y01,arrOf → y02,pendingOf → y03,seqObj → y19,wpS_forRange → y1a,wpS_mono → y1h,kindOf → y1s,callWith_type1 → y1u,slot_tuple_getitem → y20,listUpdate_at → y3u,size_push' → y40,seqEpoch_at → y4y,wpS_get → y58,wpS_modify → y5n
open PySem renaming wpAny_bind → yb,Shared → ye,Value → yg,wpAny_pure → yh,sizeLine → ym,Program → yq,model → y06,wpAny → y0b,mainGlobals → y0g,World → y0h,Around → y0n,compareOp → y0t,wpAny_call_entry → y0u,mem_of_lookup → y14,wpAny_callSpecial?_slot → y1c,wpAny_mono → y1l,wpAny_holding → y1z,FuncData → y2c,wpAny_truthy_bool → y2k,wpAny_pyIter_tuple → y2o,wpAny_passesOwn → y2t,wpAny_isInstance → y32,wpAny_tupleItemsOf → y39,wpAny_newList → y3a,wpAny_Call_Name_kw → y3b,codeAny_builtin → y3c,wpAny_newObj_type → y3i,wpAny_Call_method → y3j,isSubtype_tuple_tuple → y3m,codeAny_mono → y3n,wpAny_forIn_list → y3t,wpAny_rule → y3z,wpAny_specialOf → y44,tupleKind_room_in1 → y4m,wpAny_dictEntries → y4r,atKey_none_of_get → y4s,wpAny_onRaise → y4w,wpAny_attempt → y4x,wpAny_eqBool_str → y53,wpAny_typeOf → y59,wpAny_execs_nil → y5a,plainId_quiet → y5m
open PySem.Around renaming under_plainId → y2b
open PySem.Calls renaming callWith_builtin → y1y,spliced_cons → y23,evalArgs_plain → y2q,spliced_nil → y38,call_function_entry → y3y
open PySem.F renaming plainAttrs_list → y0a,type_list_append → y0q,slot_list_append → y0r,type_list_extend → y29,slot_list_extend → y2a,plainAttrs_dict → y2e,slot_dict_get → y2l,slot_tuple_iterator_next → y2w,plain_list_iadd → y2z,slot_zip_next → y37,slot_dict_setdefault → y3g,args_tuple_add_2 → y3v,entry_tuple_add → y46,args_dict_get_2 → y47,slot_tuple_add → y4h,entry_dict_get → y4i
open PySem.Heap renaming get?_push_of_some → yd,lt_size → yl,get?_push_size → yt,get?_update_self → y17,size_push → y1w,size_update → y2y,get?_update_ne → y3r,get?_push_ne → y4g
open PySem.Heap.SameBut renaming update → y0p
open PySem.Paired renaming length → y21
open PySem.PassesOwn renaming never → y0m
open PySem.W renaming Frag → ya,mg_none_of → y0w,kia_one → y1j,mg_of → y45
open PySem.W.KasT renaming kasWp_bind → y3q
noncomputable section
namespace L2
open PySem PySem.Spec PyProof.Rows
def zzS{α:Type u}{l:List α}{i:Nat}{a:α}(h:l[i]?=some a):=List.getElem?_eq_some_iff.mp h
abbrev Key:=Sum Int Str
noncomputable def C8:Key->yg->Bool
 |.inl k,v=>Value.isInt k v
 |.inr x,v=>Value.isStrOf x v
noncomputable def Si(w:y0h):Key->Int
 |.inl k=>hashInt k
 |.inr x=>hashStr w x
theorem BW:∀{k:Key} {v:yg},C8 k v=true->(∃i t,k=Sum.inl i/\v=Value.int i t)\/(∃x t,k=Sum.inr x/\v=Value.str x t)
 |.inl i,v,h=>by
  obtain⟨t,e⟩:=Value.isInt_shape (k:=i) (v:=v) h;exact .inl ⟨i,t,rfl,e⟩
 |.inr x,v,h=>by
  obtain⟨t,e⟩:=Value.isStrOf_shape (x:=x) (v:=v) h;exact .inr ⟨x,t,rfl,e⟩
theorem Sj(i:Int)(t:Tok):C8 (.inl i) (.int i t)=true:=by simp[C8,Value.isInt]
theorem Sk(x:Str)(t:Tok):C8 (.inr x) (.str x t)=true:=by simp[C8,Value.isStrOf]
theorem Sl(a b:Int):decide ((Sum.inl a:Key)=Sum.inl b)=(a==b):=by
 by_cases e:a=b
 ·subst e; simp
 ·have h:¬ (Sum.inl a:Key)=Sum.inl b:=fun q=>e (Sum.inl.inj q);rw[decide_eq_false h];exact(beq_eq_false_iff_ne.mpr e).symm
theorem Sm(a b:Str):decide ((Sum.inr a:Key)=Sum.inr b)=decide (a=b):=by
 by_cases e:a=b
 ·subst e; simp
 ·have h:¬ (Sum.inr a:Key)=Sum.inr b:=fun q=>e (Sum.inr.inj q);rw[decide_eq_false h,decide_eq_false e]
theorem Sn(a:Int)(b:Str):decide ((Sum.inl a:Key)=Sum.inr b)=false:=decide_eq_false (fun q=>nomatch q)
theorem So(a:Str)(b:Int):decide ((Sum.inr a:Key)=Sum.inl b)=false:=decide_eq_false (fun q=>nomatch q)
noncomputable def AQ(prog:yq)(w:y0h):PySem.KeyKind prog w Key where
 is:=C8
 hash:=Si w
 inj:=fun v a b ha hb=>by
  rcases BW ha with⟨i,t,rfl,rfl⟩|⟨x,t,rfl,rfl⟩
  ·rcases BW hb with⟨j,u,rfl,e⟩|⟨y,u,rfl,e⟩
   ·injection e with q _; rw[q]
   ·exact nomatch e
  ·rcases BW hb with⟨j,u,rfl,e⟩|⟨y,u,rfl,e⟩
   ·exact nomatch e
   ·injection e with q _; rw[q]
 byValue:=fun k v h=>by
  rcases BW h with⟨i,t,rfl,rfl⟩|⟨x,t,rfl,rfl⟩<;>rfl
 pyHash:=fun z h=>by
  rcases BW z with⟨i,t,rfl,rfl⟩|⟨x,t,rfl,rfl⟩
  ·exact wpAny_pyHash_int h
  ·exact wpAny_pyHash_str h
 eqBool:=fun hu z h=>by
  rcases BW hu with⟨i,t,rfl,rfl⟩|⟨x,t,rfl,rfl⟩
  ·rcases BW z with⟨j,u,rfl,rfl⟩|⟨y,u,rfl,rfl⟩
   ·rw[Sl] at h; exact wpAny_eqBool_int h
   ·rw[Sn] at h; exact SeqAt.EqAt.int_str i t y u _ _ _ _ h
  ·rcases BW z with⟨j,u,rfl,rfl⟩|⟨y,u,rfl,rfl⟩
   ·rw[So] at h; exact SeqAt.EqAt.str_int x t j u _ _ _ _ h
   ·rw[Sm] at h; exact y53 h
 «strs»:=fun k x t v h=>by
  rcases BW h with⟨i,u,rfl,e⟩|⟨y,u,rfl,e⟩
  ·exact nomatch e
  ·injection e with q _
   subst q
   cases v<;>rfl
theorem Sq(prog:yq)(w:y0h)(i:Int)(t:Tok):(AQ prog w).is (.inl i) (.int i t)=true:=Sj i t
theorem Sr(prog:yq)(w:y0h)(x:Str)(t:Tok):(AQ prog w).is (.inr x) (.str x t)=true:=Sk x t
inductive V where
 |non|bl (b:Bool)|int (i:Int)|str (x:Str)|byt (b:Array UInt8)|flt (b:UInt64)|ref (a:Addr)|ty (n:String)
 deriving DecidableEq
def RelV:V->yg->Prop
 |.non,u=>u=Value.none
 |.bl b,u=>u=Value.bool b
 |.int i,u=>∃t,u=Value.int i t
 |.str x,u=>∃t,u=Value.str x t
 |.byt b,u=>∃t,u=Value.bytes b t
 |.flt b,u=>∃t,u=Value.float b t
 |.ref a,u=>u=Value.ref a
 |.ty n,u=>u=Value.type n
abbrev Vals:List V->List yg->Prop:=Paired RelV
theorem Vals.length(r:Vals xs us):xs.length=us.length:=y21 r
theorem Vals.get:∀{xs:List V} {us:List yg} {i:Nat} {x:V},Vals xs us->xs[i]?=some x->∃u,us[i]?=some u/\RelV x u
 |_,_,_,_,.nil,e=>by simp at e
 |_,_,0,_,.cons r _,e=>by simp at e; subst e; exact⟨_,rfl,r⟩
 |_,_,i+1,x,.cons _ t,e=>by
  obtain⟨u,h1,h2⟩:=Vals.get (i:=i) (x:=x) t (by simpa using e);exact⟨u,by simpa using h1,h2⟩
theorem Vals.append:∀{xs ys:List V} {us ws:List yg},Vals xs us->Vals ys ws->Vals (xs++ys) (us++ws)
 |_,_,_,_,.nil,s=>s
 |_,_,_,_,.cons r t,s=>.cons r (Vals.append t s)
theorem Vals.take:∀{xs:List V} {us:List yg} (n:Nat),Vals xs us->Vals (xs.take n) (us.take n)
 |_,_,0,_=>.nil
 |_,_,_+1,.nil=>.nil
 |_,_,n+1,.cons r t=>.cons r (Vals.take n t)
theorem Vals.drop:∀{xs:List V} {us:List yg} (n:Nat),Vals xs us->Vals (xs.drop n) (us.drop n)
 |_,_,0,r=>r
 |_,_,_+1,.nil=>.nil
 |_,_,n+1,.cons _ t=>Vals.drop n t
def RelO:Option V->Option yg->Prop
 |some v,some u=>RelV v u
 |none,none=>True
 |_,_=>False
def KV{κ:Type}:List (κ×V)->List (κ×yg)->Prop:=Paired fun(p:κ×V) (q:κ×yg)=>p.1=q.1/\RelV p.2 q.2
noncomputable def kV:Key->V
 |.inl i=>.int i
 |.inr x=>.str x
inductive HO where
 |lst (xs:List V)
 |tup (xs:List V)
 |dK (kvs:List (Key×V))|dT (kvs:List (List Key×V))
 |set (S:Int->Bool) (n:Nat)
 |ins (C dx:Addr) (fs:List (Str×V))
 |own (x:Addr)
 |xd (fs:List (Str×V))
 |met (f x:Addr)
 |rng (lo hi:Int)
 |frz (o:Obj) (u:HO)
 |tbl (ps:Array yg)
 |ext (φ:Heap->Prop)
abbrev Hp:=Addr->Option HO
noncomputable def upd(H:Hp)(a:Addr)(o:HO):Hp:=fun b=>if b=a then some o else H b
theorem A4:upd H a o a=some o:=by unfold upd; rw[if_pos rfl]
theorem A8(h:b≠a):upd H a o b=H b:=by unfold upd; rw[if_neg h]
theorem AM{H:Hp}{a b:Addr}{o u:HO}(h:H a=some o)(h':H b=some u)(d:o≠u):a≠b:=by
 intro e; subst e; rw[h] at h'; exact d (y0l h')
theorem AS{H:Hp}{a b:Addr}{o:HO}(h:H a=some o)(h':H b=none):a≠b:=by
 intro e; subst e; rw[h] at h'; cases h'
section
variable(P:yq)(w:y0h)
def ObjOk(H:Hp)(h:Heap)(a:Addr):HO->Prop
 |.lst xs=>xs.length<=ym/\∃(z:List yg) (n:Nat),Vals xs z/\h.get? a=some {cls:=.type "list",data:=.seq z.toArray n}
 |.tup xs=>xs.length<=ym/\∃z:List yg,Vals xs z/\IsTup h a z.toArray
 |.dK kvs=>kvs.length<=ym/\(a==sysModules)=false/\∃vs,KV kvs vs/\h.DictOf (AQ P w) a vs
 |.dT kvs=>kvs.length<=ym/\(a==sysModules)=false/\∃xs:List (List Key×Addr×yg),
   Paired (fun(p:List Key×V) (q:List Key×Addr×yg)=>p.1=q.1/\H q.2.1=some (.tup (p.1.map kV))/\RelV p.2 q.2.2) kvs xs/\
   ∃o es ep,h.get? a=some o/\o.ExactDict/\o.data=.dict es ep/\es.toList=xs.map (entryOfKey (tupleKind (AQ P w)))/\(xs.map (·.1)).Nodup
 |.set S n=>h.SetOf (intKind P w) a S n
 |.ins C dx fs=>H dx=some (.own a)/\fs.length<=1000/\dx≠a/\h.get? a=some (PySem.W.instObj C dx)/\
   ∃mA,h.Ns1 dx mA/\(∀f,RelO (fs.lookup f) (mA f))/\PySem.Within mA (fs.map (·.1))
 |.own _=>∃o,h.get? a=some o
 |.xd fs=>∃mA,h.Ns1 a mA/\∀f,RelO (fs.lookup f) (mA f)
 |.rng lo hi=>∃t u v,h.get? a=some {cls:=.type "range",data:=.fields #[.int lo t,.int hi u,.int 1 v]}
 |.frz o u=>h.get? a=some o/\ObjOk H h a u
 |.tbl ps=>h.get? a=some {cls:=.none,data:=.fields ps}
 |.met f x=>h.get? a=some (PySem.W.methodObj (.ref f) (.ref x))
 |.ext B=>B h/\(∃o,h.get? a=some o)/\∀h1 h2:Heap,B h1->(∀o,h1.get? a=some o->h2.get? a=some o)->B h2
def HOk(H:Hp)(h:Heap):Prop:=∀a o,H a=some o->ObjOk P w H h a o
end
section
variable{P:yq}{w:y0h}{H H':Hp}{h h':Heap}{a:Addr}{o:HO}
theorem ObjOk.lt(x:ObjOk P w H h a o):a<h.objs.size:=by
 cases o with
 |lst xs=>obtain⟨_,_,_,_,e⟩:=x; exact yl e
 |tup xs=>obtain⟨_,_,_,p⟩:=x; exact p.lt
 |dK kvs=>obtain⟨_,_,_,_,o,_,_,e,_⟩:=x; exact yl e
 |dT kvs=>obtain⟨_,_,_,_,o,_,_,e,_⟩:=x; exact yl e
 |set S n=>obtain⟨o,_,_,_,e,_⟩:=x; exact yl e
 |ins C dx fs=>obtain⟨_,_,_,e,_⟩:=x; exact yl e
 |own y=>obtain⟨_,e⟩:=x; exact yl e
 |xd fs=>obtain⟨_,⟨_,_,_,e,_⟩,_⟩:=x; exact yl e
 |rng lo hi=>obtain⟨_,_,_,e⟩:=x; exact yl e
 |frz z u=>obtain⟨e,_⟩:=x; exact yl e
 |tbl ps=>exact yl (show h.get? a=some _ from x)
 |met f y=>exact yl (show h.get? a=some _ from x)
 |ext q=>obtain⟨_,⟨_,e⟩,_⟩:=x; exact yl e
theorem Paired.mapP{α B:Type}{F G:α->B->Prop}:∀{z:List α} {q:List B},Paired F z q->(∀a b,F a b->G a b)->Paired G z q
 |_,_,.nil,_=>.nil
 |_,_,.cons r t,f=>.cons (f _ _ r) (Paired.mapP t f)
theorem ObjOk.stay(x:ObjOk P w H h a o)(k:∀b u,(b=a\/H b=some (.own a))->h.get? b=some u->h'.get? b=some u)
  (R:∀b,H b=some (.own a)->H' b=some (.own a)) (O:∀b xs,H b=some (.tup xs)->H' b=some (.tup xs)):ObjOk P w H' h' a o:=by
 induction o with
 |lst xs=>obtain⟨z,F,n,r,e⟩:=x; exact⟨z,F,n,r,k _ _ (.inl rfl) e⟩
 |tup xs=>obtain⟨z,F,r,B,e,c⟩:=x; exact⟨z,F,r,B,k _ _ (.inl rfl) e,c⟩
 |dK kvs=>obtain⟨z,y,vs,r,B,es,ep,e,c⟩:=x; exact⟨z,y,vs,r,B,es,ep,k _ _ (.inl rfl) e,c⟩
 |dT kvs=>
  obtain⟨z,y,xs,r,B,es,ep,e,c⟩:=x;exact⟨z,y,xs,Paired.mapP r fun p q z=>⟨z.1,O _ _ z.2.1,z.2.2⟩,B,es,ep,k _ _ (.inl rfl) e,c⟩
 |set S n=>obtain⟨B,es,ep,t,e,c⟩:=x; exact⟨B,es,ep,t,k _ _ (.inl rfl) e,c⟩
 |ins C dx fs=>
  obtain⟨d,z,J,e,mA,⟨G,es,ep,e2,c⟩,r⟩:=x;exact⟨R _ d,z,J,k _ _ (.inl rfl) e,mA,⟨G,es,ep,k _ _ (.inr d) e2,c⟩,r⟩
 |own y=>obtain⟨B,e⟩:=x; exact⟨B,k _ _ (.inl rfl) e⟩
 |xd fs=>obtain⟨mA,⟨G,es,ep,e,c⟩,r⟩:=x; exact⟨mA,⟨G,es,ep,k _ _ (.inl rfl) e,c⟩,r⟩
 |rng lo hi=>obtain⟨t,u,v,e⟩:=x; exact⟨t,u,v,k _ _ (.inl rfl) e⟩
 |frz B u M=>obtain⟨e,q⟩:=x; exact⟨k _ _ (.inl rfl) e,M q⟩
 |tbl ps=>
  have e:h.get? a=some {cls:=.none,data:=.fields ps}:=x;show h'.get? a=some {cls:=.none,data:=.fields ps};exact k a _ (.inl rfl) e
 |met f y=>
  have e:h.get? a=some (PySem.W.methodObj (.ref f) (.ref y)):=x;show h'.get? a=some (PySem.W.methodObj (.ref f) (.ref y));exact k a _ (.inl rfl) e
 |ext U=>obtain⟨p,⟨o,e⟩,st⟩:=x; exact⟨st _ _ p fun o q=>k _ _ (.inl rfl) q,⟨o,k _ _ (.inl rfl) e⟩,st⟩
theorem HOk.lt(x:HOk P w H h)(e:H a=some o):a<h.objs.size:=(x a o e).lt
theorem HOk.fresh(x:HOk P w H h)(e:h.objs.size<=a):H a=none:=by
 cases q:H a with
 |none=>rfl
 |some u=>exact absurd (y0c (x.lt q) e) (y1b _)
theorem HOk.kept(x:HOk P w H h)(k:∀b u,h.get? b=some u->h'.get? b=some u):HOk P w H h':=fun a o e=>
 (x a o e).stay (fun b u _ q=>k b u q) (fun _ q=>q) fun _ _ q=>q
theorem HOk.laid(x:HOk P w H h)(k:∀b u,h.get? b=some u->h'.get? b=some u)(F:h.objs.size<=a)(z:ObjOk P w (upd H a o) h' a o):HOk P w (upd H a o) h':=fun b u e=>by
 have B:=x.fresh F;by_cases hb:b=a
 ·subst hb; rw[A4] at e; cases e; exact z
 ·rw[A8 hb] at e;exact(x b u e).stay (fun c v _ q=>k c v q) (fun c q=>by rw[A8 (AS q B)]; exact q) fun c xs q=>by rw[A8 (AS q B)]; exact q
end
def Rd(H:Hp)(a:Addr)(u:HO):Prop:=H a=some u\/∃o,H a=some (.frz o u)
theorem Rd.ok(r:Rd H a u)(x:HOk P w H h):ObjOk P w H h a u:=by
 rcases r with r|⟨o,r⟩
 ·exact x a u r
 ·obtain⟨_,q⟩:=x a _ r;exact q
def Mut:Option HO->Prop
 |some (.lst _)=>True
 |some (.dK _)=>True
 |some (.dT _)=>True
 |some (.set _ _)=>True
 |some (.ins _ _ _)=>True
 |some (.ext _)=>True
 |_=>False
section
variable{P:yq}{w:y0h}{H:Hp}{h h':Heap}{x e:Addr}{o':HO}
theorem HOk.write(ok:HOk P w H h)(J:Mut (H x))(U:e=x\/H e=some (.own x))(k:∀b u,b≠e->h.get? b=some u->h'.get? b=some u)(O:∃u,h'.get? e=some u)
  (M:ObjOk P w (upd H x o') h' x o'):HOk P w (upd H x o') h':=fun b u q=>by
 have F:∀c y,H c=some (.own y)->c≠x:=fun c y r z=>by subst z; rw[r] at J; exact J
 have G:∀c xs,H c=some (.tup xs)->c≠x:=fun c xs r z=>by subst z; rw[r] at J; exact J
 by_cases hb:b=x
 ·subst hb; rw[A4] at q; cases q; exact M
 ·rw[A8 hb] at q;by_cases B:b=e
  ·have R:H b=some (.own x):=by
    rcases U with z|z
    ·exact absurd (B.trans z) hb
    ·rw[B]; exact z
   rw[q] at R; cases R;obtain⟨v,Z⟩:=O;exact⟨v,by rw[B]; exact Z⟩
  ·refine(ok b u q).stay (fun c v hc r=>k c v ?_ r) (fun c r=>by rw[A8 (F c b r)]; exact r) fun c xs r=>by rw[A8 (G c xs r)]; exact r
   rcases hc with rfl|hc
   ·exact B
   ·rintro rfl;rcases U with z|z
    ·exact F c b hc z
    ·rw[hc] at z; cases z; exact hb rfl
end
structure Un(fs ex:List Addr)(H H':Hp)(h h':Heap):Prop where
 keep:∀b o,h.get? b=some o->H b=none->b∉fs->b∉ex->h'.get? b=some o
 slot:∀b o,h.get? b=some o->H b=none->b∈fs->b∉ex->∃sl,h'.get? b=some {o with slots:=sl}
 free:∀b o,h.get? b=some o->H b=none->b∉ex->H' b=none
 there:∀b o,h.get? b=some o->b∉ex->∃o',h'.get? b=some o'
 tups:∀b xs,H b=some (.tup xs)->H' b=some (.tup xs)
 frzs:∀b o u,H b=some (.frz o u)->H' b=some (.frz o u)
 tbls:∀b ps,H b=some (.tbl ps)->∃more,H' b=some (.tbl (ps++more))
section
variable{fs fs' ex ex':List Addr}{H H1 H2:Hp}{h h1 h2 h':Heap}{a x e:Addr}{o:HO}
theorem Un.any(u:Un fs ex H H1 h h1)(q:h.get? b=some ob)(n:H b=none)(hx:b∉ex):∃z,h1.get? b=some {ob with slots:=z}:=by
 by_cases hb:b∈fs
 ·exact u.slot b ob q n hb hx
 ·exact⟨ob.slots,u.keep b ob q n hb hx⟩
theorem Un.kept(k:∀b u,h.get? b=some u->h'.get? b=some u):Un fs ex H H h h':=
 ⟨fun b z q _ _ _=>k b z q,fun b z q _ _ _=>⟨z.slots,k b z q⟩,fun _ _ _ n _=>n,fun b z q _=>⟨z,k b z q⟩,fun _ _ q=>q,fun _ _ _ q=>q,fun _ ps q=>⟨#[],by rw[q]; simp⟩⟩
theorem Un.refl:Un fs ex H H h h:=Un.kept fun _ _ q=>q
theorem Un.laid(k:∀b u,h.get? b=some u->h'.get? b=some u)(B:h.objs.size<=a)(z:H a=none):Un fs ex H (upd H a o) h h' where
 keep:=fun b u q _ _ _=>k b u q
 slot:=fun b u q _ _ _=>⟨u.slots,k b u q⟩
 free:=fun b u q n _=>by rw[A8 (yz (y0c (yl q) B))]; exact n
 there:=fun b u q _=>⟨u,k b u q⟩
 tups:=fun b xs q=>by rw[A8 (AS q z)]; exact q
 frzs:=fun b u xs q=>by rw[A8 (AS q z)]; exact q
 tbls:=fun b ps q=>⟨#[],by rw[A8 (AS q z),q]; simp⟩
theorem Un.write(F:Mut (H x))(J:e=x\/H e=some (.own x))(k:∀b u,b≠e->h.get? b=some u->h'.get? b=some u)(G:∃u,h'.get? e=some u):Un fs ex H (upd H x o) h h':=by
 have hx:∀b,H b=none->b≠x:=fun b n z=>by subst z; rw[n] at F; exact F
 have hb:∀b,H b=none->b≠e:=fun b n z=>by
  subst z;rcases J with r|r
  ·exact hx b n r
  ·rw[n] at r; cases r
 have hm:∀b u,H b=some u->¬ Mut (some u)->b≠x:=fun b u q nm z=>by subst z; rw[q] at F; exact nm F
 refine⟨fun b u q n _ _=>k b u (hb b n) q,fun b u q n _ _=>⟨u.slots,k b u (hb b n) q⟩,fun b u q n _=>by rw[A8 (hx b n)]; exact n,fun b u q _=>?_,
  fun b xs q=>by rw[A8 (hm b _ q fun z=>z)]; exact q,fun b u xs q=>by rw[A8 (hm b _ q fun z=>z)]; exact q,fun b ps q=>⟨#[],by rw[A8 (hm b _ q fun z=>z),q]; simp⟩⟩
 by_cases B:b=e
 ·subst B; exact G
 ·exact⟨u,k b u B q⟩
end
noncomputable def trk(h:Heap)(H:Hp):List Addr:=(List.range h.objs.size).filter fun a=>(H a).isSome
noncomputable def CL(h:Heap)(H:Hp):Heap:=PySem.W.hideAll h (trk h H)
theorem Ss(h:Heap)(H:Hp):(CL h H).objs.size=h.objs.size:=PySem.W.hideAll_size _ _
theorem Su(e:h.get? b=some o)(n:H b=none):(CL h H).get? b=some o:=
 PySem.W.hideAll_get _ e fun hm=>by
  have q:(H b).isSome=true:=(List.mem_filter.mp hm).2;rw[n] at q; simp at q
theorem Sv(e:(CL h H).get? b=some o):h.get? b=some o/\H b=none:=by
 have B:h.get? b=some o:=PySem.W.of_hideAll (trk h H) e;refine⟨B,?_⟩;cases q:H b with
 |none=>rfl
 |some x=>
  have hm:b∈trk h H:=List.mem_filter.mpr ⟨List.mem_range.mpr (yl B),by simp[q]⟩;have z:(CL h H).get? b=none:=PySem.W.hideAll_none (trk h H) hm;rw[z] at e; cases e
noncomputable def Sw(g h:Heap)(L:Addr):List (Addr×Obj):=(List.range h.objs.size).filterMap fun a=>if a=L\/(g.get? a).isSome=true then none else(h.get? a).map fun o=>(a,o)
noncomputable def Ai(g h:Heap)(L d:Addr):List (Addr×Obj):=(Sw g h L).filter fun p=>decide (p.1≠d)
structure Mod(K:ya)(mg:Str->Option yg)(base:Heap):Prop where
 kin:K.In base
 glob:base.Ns y0g mg
 blt:∃mb,base.Ns builtinsNs mb/\∀x:Str,x≠"__name__"->mb x=bootBuiltins x
 nolimit:base.NoLimit
structure Cx where
 prog:yq
 w:y0h
 K:ya
 mg:Str->Option yg
 base:Heap
 A:y0n
 N:List Str
 s₀:ye
 H₀:Hp
 env:Env
 outer:List Env
 stack:List Env
 ex:List Addr
 fn:Str->Bool
 calm:Bool
 pn:List (Addr×Obj)
 xe:yg->ye->Prop
noncomputable def frs(l:List Env):List Addr:=l.filterMap (·.frame)
abbrev Cx.fs(X:Cx):List Addr:=frs X.outer
def Vis(sc:Scope)(x:Str):Prop:=sc.names.lookup x=some .local\/sc.names.lookup x=some .cell\/sc.names.lookup x=some .free
def Loc(sc:Scope)(x:Str):Prop:=sc.names.lookup x=some .local\/sc.names.lookup x=some .cell
def Look(env:Env)(h:Heap)(m:Str->Option yg)(x:Str)(u:yg):Prop:=
 (env.kindOf x=some .local/\m x=some u)\/((env.kindOf x=some .cell\/env.kindOf x=some .free)/\∃c,env.cells.lookup x=some c/\h.IsCell c (some u))
structure Cx.Ok(X:Cx):Prop where
 mod:Mod X.K X.mg X.base
 kind:X.env.scope.kind=.function
 glob:X.env.globals=y0g
 blt:X.env.builtins=builtinsNs
 above:X.s₀.heap.objs.size<=X.env.locals
 inj:∀x y c,X.env.cells.lookup x=some c->X.env.cells.lookup y=some c->x=y
 has:∀x,(X.env.kindOf x=some .cell\/X.env.kindOf x=some .free)->∃c,X.env.cells.lookup x=some c
 cab:∀x c,X.fn x=true->X.env.cells.lookup x=some c->X.s₀.heap.objs.size<=c
 hd:X.calm=true->X.A.handled=none
 frames:X.A.frames=some X.stack
 stk:X.stack=X.outer\/(X.stack=X.env::X.outer/\X.env.frame=some X.env.locals)
 exf:∀b∈X.ex,b≠X.env.locals/\∀x c,X.env.cells.lookup x=some c->c≠b
 bs:∀b o,X.base.get? b=some o->X.s₀.heap.get? b=some o/\X.H₀ b=none
 bsz:X.base.objs.size<=X.s₀.heap.objs.size
 noex:∀b o,X.base.get? b=some o->b∉X.ex
 exfs:∀b∈X.ex,b∉X.fs
 funs:X.s₀.heap.FunFrames X.base X.outer
 frf:∀b∈X.fs,X.H₀ b=none
structure Inv(X:Cx)(pins:List (Addr×Obj))(σ:List (Option V))(H:Hp)(s:ye):Prop where
 ok:X.Ok
 os:s.os=X.s₀.os
 bare:AllBare s.gens
 base:Un X.fs X.ex X.H₀ H X.s₀.heap s.heap
 loc:∃m,s.heap.Ns X.env.locals m/\∀(i:Nat) (x:Str) (v:V),X.N[i]?=some x->σ[i]?=some (some v)->Vis X.env.scope x->∃u,RelV v u/\Look X.env s.heap m x u
 cell:∀x c,X.env.cells.lookup x=some c->∃v,s.heap.IsCell c v
 free:H X.env.locals=none
 freeC:∀x c,X.env.cells.lookup x=some c->H c=none
 pin:∀p∈X.pn++pins,s.heap.get? p.1=some p.2/\H p.1=none/\p.1≠X.env.locals/\p.1∉X.fs/\∀v,p.2.data≠.cell v
 hok:HOk X.prog X.w H s.heap
 len:σ.length=X.N.length
section
variable{X:Cx}{pins:List (Addr×Obj)}{σ:List (Option V)}{H H':Hp}{s:ye}{h':Heap}
theorem Cx.Ok.nofr(ok:X.Ok)(e:X.base.get? b=some o):b∉X.fs:=fun hb=>by
 have:=(ok.funs.mem hb).1;rw[e] at this; cases this
theorem Inv.bs(I:Inv X pins σ H s):∀b o,X.base.get? b=some o->s.heap.get? b=some o/\H b=none:=fun b o e=>
 ⟨I.base.keep b o (I.ok.bs b o e).1 (I.ok.bs b o e).2 (I.ok.nofr e) (I.ok.noex b o e),I.base.free b o (I.ok.bs b o e).1 (I.ok.bs b o e).2 (I.ok.noex b o e)⟩
theorem Inv.bk(I:Inv X pins σ H s):∀b o,X.base.get? b=some o->s.heap.get? b=some o:=fun b o e=>(I.bs b o e).1
theorem Inv.mod(I:Inv X pins σ H s):Mod X.K X.mg X.base:=I.ok.mod
theorem Inv.kIn(I:Inv X pins σ H s):X.K.In s.heap:=I.ok.mod.kin.keeps I.bk
theorem Inv.lt(I:Inv X pins σ H s):X.env.locals<s.heap.objs.size:=let ⟨_,hn,_⟩:=I.loc; hn.lt
theorem Inv.sz(I:Inv X pins σ H s):X.s₀.heap.objs.size<=s.heap.objs.size:=y0j I.ok.above (y12 I.lt)
theorem Inv.nofs(I:Inv X pins σ H s)(h:s.heap.objs.size<=a):a∉X.fs:=fun hb=>by
 obtain⟨_,o,q,_⟩:=I.ok.funs.mem hb;exact absurd (y0c (yl q) (y0j I.sz h)) (y1b _)
theorem Inv.cne(I:Inv X pins σ H s):∀x c,X.env.cells.lookup x=some c->c≠X.env.locals:=fun x c e z=>by
 obtain⟨v,o,F,hd⟩:=I.cell x c e;obtain⟨m,⟨o',es,ep,q,B,_⟩,_⟩:=I.loc;rw[z,q] at F; cases F; rw[B] at hd; cases hd
theorem Inv.funs(I:Inv X pins σ H s):s.heap.FunFrames X.base X.outer:=by
 have B:∀(l:List Env),(∀b∈frs l,b∈X.fs)->X.s₀.heap.FunFrames X.base l->s.heap.FunFrames X.base l:=by
  intro l;induction l with
  |nil=>intro _ _; trivial
  |cons env r G=>
   intro F O;obtain⟨hk,⟨L,o,hf,M,J,hd⟩,hr⟩:=O;have q:L∈X.fs:=F L (by unfold frs; rw[y56,hf]; exact y10);obtain⟨R,e⟩:=I.base.slot L o J (I.ok.frf L q) q fun z=>I.ok.exfs L z q;exact⟨hk,⟨L,_,hf,M,e,hd⟩,G (fun b hb=>F b (by unfold frs; rw[y56,hf]; exact y0v _ hb)) hr⟩
 exact B X.outer (fun _ hb=>hb) I.ok.funs
theorem Inv.stack(I:Inv X pins σ H s):s.heap.FunFrames X.base X.stack:=by
 rcases I.ok.stk with e|⟨e,hf⟩
 ·rw[e]; exact I.funs
 ·rw[e];obtain⟨m,q,_⟩:=I.loc;refine .cons (by rw[I.ok.kind]; decide) hf q ?_ I.funs;exact Heap.get?_none_of_le (y0j I.ok.bsz I.ok.above)
theorem Inv.stkSub(I:Inv X pins σ H s):∀b∈frs X.stack,b∈X.env.locals::X.fs:=fun b hb=>by
 rcases I.ok.stk with e|⟨e,hf⟩
 ·rw[e] at hb; exact y0v _ hb
 ·rw[e] at hb;unfold frs at hb;rw[y56,hf] at hb;exact hb
theorem Inv.stkFree(I:Inv X pins σ H s):∀b∈frs X.stack,H b=none:=fun b hb=>by
 rcases List.mem_cons.mp (I.stkSub b hb) with e|hb
 ·rw[e]; exact I.free
 ·obtain⟨_,o,q,_⟩:=I.ok.funs.mem hb;exact I.base.free b o q (I.ok.frf b hb) fun z=>I.ok.exfs b z hb
theorem Inv.step{g':Array GenState}{t':Nat}{d':Drawn}{ch:List Addr}(I:Inv X pins σ H s)
  (F:∀b∈ch,(b∈X.ex\/X.s₀.heap.objs.size<=b)/\b≠X.env.locals/\(∀x c,X.env.cells.lookup x=some c->c≠b)/\∀p∈X.pn++pins,p.1≠b)
  (keep:∀b o,b≠X.env.locals->b∉X.fs->b∉ch->s.heap.get? b=some o->H b=none->h'.get? b=some o)
  (slot:∀b o,b≠X.env.locals->b∈X.fs->b∉ch->s.heap.get? b=some o->H b=none->∃sl,h'.get? b=some {o with slots:=sl}) (free:∀b o,b∉ch->s.heap.get? b=some o->H b=none->H' b=none)
  (there:∀b o,b∉ch->s.heap.get? b=some o->∃o',h'.get? b=some o')
  (tups:∀b xs,H b=some (.tup xs)->H' b=some (.tup xs)) (frzs:∀b o u,H b=some (.frz o u)->H' b=some (.frz o u)) (tbls:∀b ps,H b=some (.tbl ps)->∃U,H' b=some (.tbl (ps++U)))
  (ns:∀m,s.heap.Ns X.env.locals m->h'.Ns X.env.locals m) (fc:HOk X.prog X.w H' h') (hg:AllBare g') :
  Inv X pins σ H' {s with heap:=h',gens:=g',drawn:=d',toks:=t'}:=by
 have R:∀b o,X.s₀.heap.get? b=some o->b≠X.env.locals:=fun b o e=>yz (y0c (yl e) I.ok.above);have J:∀b o,X.s₀.heap.get? b=some o->b∉X.ex->b∉ch:=fun b o e hx hb=>by
  rcases(F b hb).1 with z|z
  ·exact hx z
  ·exact absurd (y0c (yl e) z) (y1b _)
 have G:∀x c,X.env.cells.lookup x=some c->∀v,s.heap.IsCell c v->h'.IsCell c v:=fun x c e v ⟨o,O,hd⟩=>by
  have B:c∉ch:=fun z=>(F c z).2.2.1 x c e rfl;by_cases hc:c∈X.fs
  ·obtain⟨sl,q⟩:=slot c o (I.cne x c e) hc B O (I.freeC x c e);exact⟨_,q,hd⟩
  ·exact⟨o,keep c o (I.cne x c e) hc B O (I.freeC x c e),hd⟩
 refine⟨I.ok,I.os,hg,⟨fun b o e n hb hx=>?_,fun b o e n hb hx=>?_,fun b o e n hx=>?_,fun b o e hx=>?_,fun b xs e=>tups b xs (I.base.tups b xs e),fun b o xs e=>frzs b o xs (I.base.frzs b o xs e),fun b ps e=>?_⟩,?_,fun x c e=>?_,?_,fun x c e=>?_,fun p hp=>?_,fc,I.len⟩
 ·exact keep b o (R b o e) hb (J b o e hx) (I.base.keep b o e n hb hx) (I.base.free b o e n hx)
 ·obtain⟨sl,M⟩:=I.base.slot b o e n hb hx;obtain⟨Z,e2⟩:=slot b _ (R b o e) hb (J b o e hx) M (I.base.free b o e n hx);exact⟨Z,e2⟩
 ·obtain⟨o',M⟩:=I.base.there b o e hx;exact free b o' (J b o e hx) M (I.base.free b o e n hx)
 ·obtain⟨o',M⟩:=I.base.there b o e hx;exact there b o' (J b o e hx) M
 ·obtain⟨m1,M⟩:=I.base.tbls b ps e;obtain⟨m2,e2⟩:=tbls b _ M;exact⟨m1++m2,by rw[e2,Array.append_assoc]⟩
 ·obtain⟨m,hn,hl⟩:=I.loc;refine⟨m,ns m hn,fun i x v M e2 e3=>?_⟩;obtain⟨u,r,l⟩:=hl i x v M e2 e3;refine⟨u,r,?_⟩;rcases l with l|⟨k,c,e,z⟩
  ·exact .inl l
  ·exact .inr ⟨k,c,e,G x c e _ z⟩
 ·obtain⟨v,z⟩:=I.cell x c e;exact⟨v,G x c e v z⟩
 ·obtain⟨m,⟨o,_,_,O,_⟩,_⟩:=I.loc;exact free _ o (fun z=>(F _ z).2.1 rfl) O I.free
 ·obtain⟨v,o,O,hd⟩:=I.cell x c e;exact free c o (fun z=>(F c z).2.2.1 x c e rfl) O (I.freeC x c e)
 ·obtain⟨e,n,ne,nf,d⟩:=I.pin p hp;have B:p.1∉ch:=fun z=>(F p.1 z).2.2.2 p hp rfl;exact⟨keep p.1 p.2 ne nf B e n,free p.1 p.2 B e n,ne,nf,d⟩
theorem Inv.un{t':Nat}(I:Inv X pins σ H s)(u:Un X.fs [] H H' s.heap h')(B:HOk X.prog X.w H' h'):Inv X pins σ H' {s with heap:=h',toks:=t'}:=by
 obtain⟨m,⟨o,es,ep,J,r⟩,_⟩:=id I.loc;obtain⟨R,O⟩:=u.any J I.free (by simp);exact I.step (g':=s.gens) (d':=s.drawn) (ch:=[]) (fun _ z=>nomatch z) (fun b o _ hb _ e n=>u.keep b o e n hb (by simp)) (fun b o _ hb _ e n=>u.slot b o e n hb (by simp)) (fun b o _ e n=>u.free b o e n (by simp)) (fun b o _ e=>u.there b o e (by simp)) u.tups u.frzs u.tbls (fun U hm=>by
  obtain⟨o',F,G,q,M⟩:=hm
  rw[J] at q; cases q
  exact⟨_,F,G,O,M⟩) B I.bare
theorem Inv.call{g':Array GenState}{t':Nat}{d':Drawn}{ch:List Addr}(I:Inv X pins σ H s)(u:Un (frs X.stack) ch H H' s.heap h')(F:HOk X.prog X.w H' h')(hg:AllBare g')
  (B:∀b∈ch,(b∈X.ex\/X.s₀.heap.objs.size<=b)/\b≠X.env.locals/\(∀x c,X.env.cells.lookup x=some c->c≠b)/\∀p∈X.pn++pins,p.1≠b) :
  Inv X pins σ H' {s with heap:=h',gens:=g',drawn:=d',toks:=t'}:=by
 obtain⟨m,⟨o,es,ep,O,r⟩,_⟩:=id I.loc;obtain⟨U,G⟩:=u.any O I.free fun z=>(B _ z).2.1 rfl;exact I.step (ch:=ch) B (fun b o G hb hc e n=>u.keep b o e n (fun z=>(List.mem_cons.mp (I.stkSub b z)).elim G hb) hc) (fun b o _ _ hc e n=>u.any e n hc) (fun b o hc e n=>u.free b o e n hc) (fun b o hc e=>u.there b o e hc) u.tups u.frzs u.tbls (fun Z hm=>by
  obtain⟨o',J,M,q,R⟩:=hm
  rw[O] at q; cases q
  exact⟨_,J,M,G,R⟩) F hg
theorem Inv.turned{t':Nat}{B:Addr}(I:Inv X pins σ H s)(k:∀b o,b≠B->s.heap.get? b=some o->h'.get? b=some o)(M:H B=none)(G:B≠X.env.locals)
  (h1:B∈X.ex\/X.s₀.heap.objs.size<=B) (h2:∀x c,X.env.cells.lookup x=some c->c≠B) (O:∀p∈X.pn++pins,p.1≠B):Inv X pins σ H {s with heap:=h',toks:=t'}:=by
 have F:∀b u,H b=some u->b≠B:=fun b u e z=>by rw[z,M] at e; cases e
 refine I.step (g':=s.gens) (d':=s.drawn) (ch:=[B]) (fun b hb=>?_) (fun b o _ _ hc e _=>k b o (fun z=>hc (by simp[z])) e) (fun b o _ _ hc e _=>⟨o.slots,k b o (fun z=>hc (by simp[z])) e⟩) (fun _ _ _ _ n=>n)
  (fun b o hc e=>⟨o,k b o (fun z=>hc (by simp[z])) e⟩) (fun _ _ e=>e) (fun _ _ _ e=>e) (fun b ps e=>⟨#[],by rw[e]; simp⟩) (fun m hm=>?_) (fun b u e=>?_) I.bare
 ·have e:b=B:=by simpa using hb
  subst e;exact⟨h1,G,h2,O⟩
 ·obtain⟨o,es,ep,J,r⟩:=hm;exact⟨o,es,ep,k _ o (y1k G) J,r⟩
 ·refine(I.hok b u e).stay (fun c v hc q=>k c v ?_ q) (fun _ q=>q) fun _ _ q=>q;rcases hc with z|z
  ·rw[z]; exact F b u e
  ·exact F c _ z
theorem Inv.tok(I:Inv X pins σ H s)(t:Nat):Inv X pins σ H {s with toks:=t}:=I.un (h':=s.heap) (t':=t) Un.refl I.hok
theorem Inv.kept{t':Nat}(I:Inv X pins σ H s)(k:∀b u,s.heap.get? b=some u->h'.get? b=some u):Inv X pins σ H {s with heap:=h',toks:=t'}:=I.un (Un.kept k) (I.hok.kept k)
theorem Inv.laid{t':Nat}(I:Inv X pins σ H s)(k:∀b u,s.heap.get? b=some u->h'.get? b=some u)(z:s.heap.objs.size<=a)(q:ObjOk X.prog X.w (upd H a o) h' a o) :
  Inv X pins σ (upd H a o) {s with heap:=h',toks:=t'}:=I.un (Un.laid k z (I.hok.fresh z)) (I.hok.laid k z q)
theorem Inv.write{t':Nat}(I:Inv X pins σ H s)(B:Mut (H x))(F:e=x\/H e=some (.own x))(k:∀b u,b≠e->s.heap.get? b=some u->h'.get? b=some u)(q:∃u,h'.get? e=some u)
  (z:ObjOk X.prog X.w (upd H x o) h' x o):Inv X pins σ (upd H x o) {s with heap:=h',toks:=t'}:=I.un (Un.write B F k q) (I.hok.write B F k q z)
theorem Inv.pins_of(I:Inv X pins σ H s)(h:∀p∈pins',s.heap.get? p.1=some p.2/\H p.1=none/\p.1≠X.env.locals/\p.1∉X.fs/\∀v,p.2.data≠.cell v):Inv X pins' σ H s:=
 ⟨I.ok,I.os,I.bare,I.base,I.loc,I.cell,I.free,I.freeC,fun p q=>(List.mem_append.mp q).elim (fun z=>I.pin p (y0s _ z)) (h p),I.hok,I.len⟩
theorem Mq{N:List Str}(q:N.Nodup){i j:Nat}{x:Str}(a:N[i]?=some x)(b:N[j]?=some x):i=j:=by
 obtain⟨h1,z⟩:=zzS a;obtain⟨h2,e2⟩:=zzS b;exact(y2x q).mp (z.trans e2.symm)
theorem Mr{M:Model}{A:y0n}{E:yg->ye->Prop}{i:Nat}{x:Str}{v:V}{u:yg}{Q:Unit->ye->Prop}(I:Inv X pins σ H s)(hN:X.N.Nodup)(hi:X.N[i]?=some x)(hx:Loc X.env.scope x)(r:RelV v u)
  (h:∀s',Inv X pins (σ.set i (some v)) H s'->(∃a,Heap.SameBut a s.heap s'.heap/\(a=X.env.locals\/X.env.cells.lookup x=some a))->Q () s') (hf:X.fn x=true\/X.env.scope.names.lookup x=some .local:=by first|exact .inl rfl|exact .inr rfl|assumption):y0b M A (storeName X.env x u) Q E s:=by
 obtain⟨m,hn,hl⟩:=id I.loc;have fe:(X.env.scope.kind==.class || (X.env.scope.kind==.module&&X.env.locals !=X.env.globals))=false:=by rw[I.ok.kind]; rfl
 have O:i<σ.length:=by rw[I.len]; exact(zzS hi).1
 have cne:=I.cne;have F:∀{a:Addr} {h':Heap},(∃o,s.heap.get? a=some o/\H a=none)->Heap.SameBut a s.heap h'->HOk X.prog X.w H h':=fun {a h'} ha B b ob e=>by
  obtain⟨_,_,J⟩:=ha;refine(I.hok b ob e).stay (fun c w' hc q=>(B.2 c ?_).trans q) (fun _ q=>q) fun _ _ q=>q;rintro rfl;rcases hc with rfl|hc
  ·rw[J] at e; cases e
  ·rw[J] at hc; cases hc
 rcases hx with hk|hk
 ·refine wpAny_storeName_local hk hn (fun h' fq B=>?_) fe;obtain⟨oL,_,_,fk,_⟩:=id hn;refine h _ ⟨I.ok,I.os,I.bare,⟨fun b o e n hb hx=>?_,fun b o e n hb hx=>?_,I.base.free,fun b o e hx=>?_,I.base.tups,I.base.frzs,I.base.tbls⟩,⟨_,fq,fun j y v' G e2 e3=>?_⟩,fun y c e=>?_,I.free,I.freeC,fun p hp=>?_,F ⟨oL,fk,I.free⟩ B,by simpa using I.len⟩ ⟨_,B,.inl rfl⟩
  ·exact(B.2 b (yz (y0c (yl e) I.ok.above))).trans (I.base.keep b o e n hb hx)
  ·obtain⟨sl,G⟩:=I.base.slot b o e n hb hx;exact⟨sl,(B.2 b (yz (y0c (yl e) I.ok.above))).trans G⟩
  ·obtain⟨o',G⟩:=I.base.there b o e hx;exact⟨o',(B.2 b (yz (y0c (yl e) I.ok.above))).trans G⟩
  ·by_cases R:j=i
   ·subst R;rw[hi] at G; cases G;rw[List.getElem?_set_self O] at e2;cases e2;exact⟨u,r,.inl ⟨hk,by simp⟩⟩
   ·rw[List.getElem?_set_ne (y1k R)] at e2;obtain⟨u',r',q⟩:=hl j y v' G e2 e3;refine⟨u',r',?_⟩;rcases q with⟨k,e⟩|⟨k,c,e,z⟩
    ·refine .inl ⟨k,?_⟩;have:y≠x:=fun e=>R (Mq hN G (e ▸ hi));simp[this,e]
    ·exact .inr ⟨k,c,e,z.sameBut B (cne y c e)⟩
  ·obtain⟨w',z⟩:=I.cell y c e;exact⟨w',z.sameBut B (cne y c e)⟩
  ·obtain⟨e,n,ne,nf,d⟩:=I.pin p hp;exact⟨(B.2 p.1 ne).trans e,n,ne,nf,d⟩
 ·have U:X.fn x=true:=by
   rcases hf with z|z
   ·exact z
   ·rw[z] at hk; cases hk
  obtain⟨c,hc⟩:=I.ok.has x (.inl hk);obtain⟨w',z⟩:=I.cell x c hc;refine wpAny_storeName_cell I.ok.kind hk hc z (fun h' fh B=>?_);obtain⟨oc,fc,Z⟩:=id z;refine h {s with heap:=h'} ⟨I.ok,I.os,I.bare,⟨fun b o e n hb hx=>?_,fun b o e n hb hx=>?_,I.base.free,fun b o e hx=>?_,I.base.tups,I.base.frzs,I.base.tbls⟩,⟨m,hn.sameBut B (y1k (cne x c hc)),fun j y v' G e2 e3=>?_⟩,fun y c' e=>?_,I.free,I.freeC,fun p hp=>?_,F ⟨oc,fc,I.freeC x c hc⟩ B,by simpa using I.len⟩ ⟨c,B,.inr hc⟩
  ·exact(B.2 b (yz (y0c (yl e) (I.ok.cab x c U hc)))).trans (I.base.keep b o e n hb hx)
  ·obtain⟨sl,G⟩:=I.base.slot b o e n hb hx;exact⟨sl,(B.2 b (yz (y0c (yl e) (I.ok.cab x c U hc)))).trans G⟩
  ·obtain⟨o',G⟩:=I.base.there b o e hx;exact⟨o',(B.2 b (yz (y0c (yl e) (I.ok.cab x c U hc)))).trans G⟩
  ·by_cases R:j=i
   ·subst R;rw[hi] at G; cases G;rw[List.getElem?_set_self O] at e2;cases e2;exact⟨u,r,.inr ⟨.inl hk,c,hc,fh⟩⟩
   ·rw[List.getElem?_set_ne (y1k R)] at e2;obtain⟨u',r',q⟩:=hl j y v' G e2 e3;refine⟨u',r',?_⟩;rcases q with q|⟨k,c',e,z'⟩
    ·exact .inl q
    ·refine .inr ⟨k,c',e,z'.sameBut B ?_⟩;rintro rfl;exact R (Mq hN G (I.ok.inj _ _ _ e hc ▸ hi))
  ·by_cases fg:c'=c
   ·subst fg; exact⟨_,fh⟩
   ·obtain⟨w2,z2⟩:=I.cell y c' e;exact⟨w2,z2.sameBut B fg⟩
  ·obtain⟨e,n,ne,nf,d⟩:=I.pin p hp;refine⟨(B.2 p.1 ?_).trans e,n,ne,nf,d⟩;intro q;rw[q,fc] at e;have q':oc=p.2:=y0l e;exact d w' (by rw[<- q']; exact Z)
theorem Ms{E:yg->ye->Prop}{Q:Unit->ye->Prop}(I:Inv X pins σ H s)(q:X.N.Nodup)(hi:X.N[i]?=some x)(hx:Loc X.env.scope x)(r:RelV v u)
  (h:∀s',Inv X pins (σ.set i (some v)) H s'->Q () s') (hf:X.fn x=true\/X.env.scope.names.lookup x=some .local:=by first|exact .inl rfl|exact .inr rfl|assumption):y0b M A (storeName X.env x u) Q E s:=
 Mr I q hi hx r (fun s' z _=>h s' z) hf
theorem Inv.call'(I:Inv X pins σ H s)(B:s'.os=s.os)(u:Un (frs X.stack) ch H H' s.heap s'.heap)(q:HOk X.prog X.w H' s'.heap)(hg:AllBare s'.gens)
  (z:∀b∈ch,(b∈X.ex\/X.s₀.heap.objs.size<=b)/\b≠X.env.locals/\(∀x c,X.env.cells.lookup x=some c->c≠b)/\∀p∈X.pn++pins,p.1≠b):Inv X pins σ H' s':=by
 obtain⟨h',g',d',t',o'⟩:=s';have e:o'=s.os:=B;subst e;exact I.call (g':=g') (t':=t') (d':=d') u q hg z
end
abbrev XK:=yg->Option Addr->Hp->Prop
abbrev St:=List (Option V)
abbrev VK:=V->Hp->Prop
abbrev TE:=St->Hp->VK->Prop
abbrev TT:=St->Hp->(Bool->Hp->Prop)->Prop
abbrev TA:=St->Hp->(List V->Hp->Prop)->Prop
structure Ends where
 nx:St->Hp->Prop
 rt:VK
 bk:St->Hp->Prop:=fun _ _=>False
 ct:St->Hp->Prop:=fun _ _=>False
abbrev TS:=Ends->St->Hp->Prop
def EP(X:Cx)(pins:List (Addr×Obj))(σ:St)(Q:VK)(u:yg)(s':ye):Prop:=∃v H',Inv X pins σ H' s'/\RelV v u/\Q v H'
def TP(X:Cx)(pins:List (Addr×Obj))(σ:St)(Q:Bool->Hp->Prop)(b:Bool)(s':ye):Prop:=∃H',Inv X pins σ H' s'/\Q b H'
def AP(X:Cx)(pins:List (Addr×Obj))(σ:St)(Q:List V->Hp->Prop)(us:List yg)(s':ye):Prop:=∃vs H',Inv X pins σ H' s'/\Vals vs us/\Q vs H'
def SP(X:Cx)(pins:List (Addr×Obj))(D:Ends)(f:Flow)(s':ye):Prop:=
 match f with
 |.next=>∃ q H',Inv X pins q H' s'/\D.nx q H'
 |.brk=>∃ q H',Inv X pins q H' s'/\D.bk q H'
 |.cont=>∃ q H',Inv X pins q H' s'/\D.ct q H'
 |.ret u=>∃v q H',Inv X pins q H' s'/\RelV v u/\D.rt v H'
abbrev PEv(X:Cx)(e:Expr)(t:TE):Prop:=
 ∀(pins:List (Addr×Obj)) (s:ye) (σ:St) (H:Hp) (Q:VK),Inv X pins σ H s->t σ H Q->y0b (y06 X.prog X.w) X.A (eval e X.env) (EP X pins σ Q) X.xe s
structure PE(X:Cx)(e:Expr)(t:TE):Prop where
 run:PEv X e t
instance{X:Cx}{e:Expr}{t:TE}:CoeFun (PE X e t) (fun _=>PEv X e t):=⟨PE.run⟩
abbrev PTv(X:Cx)(e:Expr)(t:TT):Prop:=
 ∀(pins:List (Addr×Obj)) (s:ye) (σ:St) (H:Hp) (Q:Bool->Hp->Prop),Inv X pins σ H s->t σ H Q->y0b (y06 X.prog X.w) X.A (isTrue e X.env (eval e X.env)) (TP X pins σ Q) X.xe s
structure PT(X:Cx)(e:Expr)(t:TT):Prop where
 run:PTv X e t
instance{X:Cx}{e:Expr}{t:TT}:CoeFun (PT X e t) (fun _=>PTv X e t):=⟨PT.run⟩
abbrev PWv(X:Cx)(e:Expr)(t:TT):Prop:=
 ∀(q:Sem yg) (pins:List (Addr×Obj)) (s:ye) (σ:St) (H:Hp) (Q:Bool->Hp->Prop),Inv X pins σ H s->t σ H Q->y0b (y06 X.prog X.w) X.A (isTrue e X.env q) (TP X pins σ Q) X.xe s
structure PW(X:Cx)(e:Expr)(t:TT):Prop where
 run:PWv X e t
instance{X:Cx}{e:Expr}{t:TT}:CoeFun (PW X e t) (fun _=>PWv X e t):=⟨PW.run⟩
theorem PW.pt(h:PW X e t):PT X e t:=⟨h.run _⟩
abbrev PAv(X:Cx)(es:List Expr)(t:TA):Prop:=
 ∀(pos:Pos) (pins:List (Addr×Obj)) (s:ye) (σ:St) (H:Hp) (Q:List V->Hp->Prop),Inv X pins σ H s->t σ H Q->y0b (y06 X.prog X.w) X.A (spliced (backTo pos (starEach es X.env))) (AP X pins σ Q) X.xe s
structure PA(X:Cx)(es:List Expr)(t:TA):Prop where
 run:PAv X es t
instance{X:Cx}{es:List Expr}{t:TA}:CoeFun (PA X es t) (fun _=>PAv X es t):=⟨PA.run⟩
abbrev PSv(X:Cx)(st:Stmt)(t:TS):Prop:=
 ∀(pins:List (Addr×Obj)) (s:ye) (σ:St) (H:Hp) (D:Ends),Inv X pins σ H s->t D σ H->y0b (y06 X.prog X.w) X.A (exec st X.env) (SP X pins D) X.xe s
structure PS(X:Cx)(st:Stmt)(t:TS):Prop where
 run:PSv X st t
instance{X:Cx}{st:Stmt}{t:TS}:CoeFun (PS X st t) (fun _=>PSv X st t):=⟨PS.run⟩
abbrev PSsv(X:Cx)(st:List Stmt)(t:TS):Prop:=
 ∀(pins:List (Addr×Obj)) (s:ye) (σ:St) (H:Hp) (D:Ends),Inv X pins σ H s->t D σ H->y0b (y06 X.prog X.w) X.A (execs st X.env) (SP X pins D) X.xe s
structure PSs(X:Cx)(st:List Stmt)(t:TS):Prop where
 run:PSsv X st t
instance{X:Cx}{st:List Stmt}{t:TS}:CoeFun (PSs X st t) (fun _=>PSsv X st t):=⟨PSs.run⟩
theorem thn{α:Type}{t:Sem α}{Q q:α->ye->Prop}{M:Model}{A:y0n}{E:yg->ye->Prop}{s:ye}(h:y0b M A t Q E s)(z:∀a s,Q a s->q a s):y0b M A t q E s:=y1l h z fun _ _ x=>x
section
variable{X:Cx}
noncomputable def isI(x:V)(P:Int->Prop):Prop:=match x with|.int i=>P i|_=>False
def isBl(x:V)(P:Bool->Prop):Prop:=match x with|.bl i=>P i|_=>False
def isRf(x:V)(P:Addr->Prop):Prop:=match x with|.ref i=>P i|_=>False
theorem J1{P:Int->Prop}:isI (.int i) P=P i:=rfl
theorem GV{P:Bool->Prop}:isBl (.bl i) P=P i:=rfl
theorem J2{P:Addr->Prop}:isRf (.ref i) P=P i:=rfl
theorem isI.o{x:V}{P:Int->Prop}(h:isI x P):∃i,x=.int i/\P i:=by
 cases x<;>first|exact h.elim|exact⟨_,rfl,h⟩
theorem isBl.o{P:Bool->Prop}(h:isBl x P):∃i,x=.bl i/\P i:=by
 cases x<;>first|exact h.elim|exact⟨_,rfl,h⟩
theorem isRf.o{x:V}{P:Addr->Prop}(h:isRf x P):∃i,x=.ref i/\P i:=by
 cases x<;>first|exact h.elim|exact⟨_,rfl,h⟩
theorem J3{P:Int->Prop}:isI x P=∃i,x=.int i/\P i:=propext ⟨isI.o,fun⟨i,e,h⟩=>by subst e; exact h⟩
theorem JA{P:Bool->Prop}:isBl x P=∃i,x=.bl i/\P i:=propext ⟨isBl.o,fun⟨i,e,h⟩=>by subst e; exact h⟩
theorem JB{P:Addr->Prop}:isRf x P=∃i,x=.ref i/\P i:=propext ⟨isRf.o,fun⟨i,e,h⟩=>by subst e; exact h⟩
def atS:Nat->St->(V->Prop)->Prop
 |0,some v::_,P=>P v
 |i+1,_::σ,P=>atS i σ P
 |_,_,_=>False
theorem JC{P:V->Prop}:atS 0 (some v::σ) P=P v:=rfl
theorem JD{P:V->Prop}:atS (i+1) (x::σ) P=atS i σ P:=rfl
theorem isV.o:∀{i:Nat} {σ:St} {P:V->Prop},atS i σ P->∃v,σ[i]?=some (some v)/\P v
 |0,some v::_,_,h=>⟨v,rfl,h⟩
 |i+1,_::σ,P,h=>by
  obtain⟨v,e,h⟩:=isV.o (i:=i) (σ:=σ) h;exact⟨v,by simpa using e,h⟩
 |0,[],_,h=>h.elim
 |0,none::_,_,h=>h.elim
 |_+1,[],_,h=>h.elim
theorem isV.i:∀{i:Nat} {σ:St} {v:V} {P:V->Prop},σ[i]?=some (some v)->P v->atS i σ P
 |0,some v::_,_,_,e,h=>by
  have e:some (some v)=some (some _):=e;cases e; exact h
 |i+1,_::σ,v,P,e,h=>isV.i (i:=i) (σ:=σ) (by simpa using e) h
 |0,[],_,_,e,_=>by simp at e
 |0,none::_,_,_,e,_=>by simp at e
 |_+1,[],_,_,e,_=>by simp at e
theorem JE{P:V->Prop}:atS i σ P=∃v,σ[i]?=some (some v)/\P v:=propext ⟨isV.o,fun⟨_,e,h⟩=>isV.i e h⟩
noncomputable def Bo:Nat->V->St->(St->Prop)->Prop
 |0,v,_::σ,Q=>Q (some v::σ)
 |i+1,v,x::σ,Q=>Bo i v σ fun q=>Q (x::q)
 |_,_,[],Q=>Q []
theorem JF{Q:St->Prop}:Bo 0 v (x::σ) Q=Q (some v::σ):=rfl
theorem JG{Q:St->Prop}:Bo (i+1) v (x::σ) Q=Bo i v σ fun q=>Q (x::q):=rfl
theorem DV:∀{i:Nat} {v:V} {σ:St} {Q:St->Prop},Bo i v σ Q=Q (σ.set i (some v))
 |0,v,_::σ,Q=>rfl
 |i+1,v,x::σ,Q=>by rw[Bo,DV (i:=i)]; rfl
 |0,_,[],Q=>rfl
 |i+1,_,[],Q=>rfl
theorem JH{α q:Type}{f:α->q}{a:α}{l:List α}:List.map f (a::l)=f a::List.map f l:=rfl
theorem JI{α q:Type}{f:α->q}:List.map f []=[]:=rfl
theorem JJ{α:Type}:(a::l).length=l.length+1:=rfl
theorem JK{α:Type}:([]:List α).length=0:=rfl
theorem JL{α:Type}:(a::l)++r=a::(l++r):=rfl
theorem JM{α:Type}:[]++r=r:=rfl
def B4(i:Nat):TE:=fun σ H Q=>atS i σ fun v=>Q v H
def tC(v:V):TE:=fun _ H Q=>Q v H
theorem Ae(J:X.N[i]?=some x)(B:Vis X.env.scope x) (hd:(x==("__debug__" : Str))=false:=by decide) (z:(x==("__classdict__" : Str))=false:=by decide):PE X (.Name x pos) (B4 i):=by
 refine⟨?_⟩;intro pins s σ H Q I h;obtain⟨v,e,h⟩:=isV.o h;obtain⟨m,F,G⟩:=I.loc;obtain⟨u,r,l⟩:=G i x v J e B;have fin:EP X pins σ Q u s:=⟨v,H,I,r,h⟩;rcases l with⟨hk,hm⟩|⟨hk,c,hc,q⟩
 ·exact wpAny_Name (wpAny_loadName_local I.ok.kind hk F hm fin) hd
 ·rcases hk with hk|hk
  ·exact wpAny_Name (wpAny_loadName_cell I.ok.kind hk hc q fin) hd
  ·exact wpAny_Name (wpAny_loadName_free I.ok.kind hk hc q fin z) hd
theorem A3{i j pos}:PE X (.Constant (.int i) j pos) (tC (.int i)):=⟨fun _ _ _ H _ I h=>wpAny_Constant_int ⟨.int i,H,I.tok _,⟨_,rfl⟩,h⟩⟩
theorem EL{b j pos}:PE X (.Constant (.bool b) j pos) (tC (.bl b)):=⟨fun _ _ _ H _ I h=>Constant_bool ⟨.bl b,H,I,rfl,h⟩⟩
theorem Bp{j pos}:PE X (.Constant .none j pos) (tC .non):=⟨fun _ _ _ H _ I h=>Constant_none ⟨.non,H,I,rfl,h⟩⟩
theorem AD{x j pos}:PE X (.Constant (.str x) j pos) (tC (.str x)):=⟨fun _ _ _ H _ I h=>Calls.Constant_str ⟨.str x,H,I.tok _,⟨_,rfl⟩,h⟩⟩
def Gl(X:Cx)(x:Str):Prop:=X.env.kindOf x=some .globalImplicit
theorem JN{E:yg->ye->Prop}{Q:yg->ye->Prop}(I:Inv X pins σ H s)(hg:Gl X x)(hm:X.mg x=some u)(h:Q u s)
  (hd:(x==("__debug__" : Str))=false:=by decide):y0b (y06 X.prog X.w) X.A (eval (.Name x pos) X.env) Q E s:=
 Calls.Name_function_global I.ok.kind hg (Calls.loadGlobal_global (by rw[I.ok.glob]; exact I.mod.glob.keeps I.bk) hm h) hd
theorem DW{E:yg->ye->Prop}{Q:yg->ye->Prop}(I:Inv X pins σ H s)(hg:Gl X x)(hm:X.mg x=none)(q:bootBuiltins x=some u)(h:Q u s)
  (z:x≠"__name__":=by decide) (hd:(x==("__debug__" : Str))=false:=by decide):y0b (y06 X.prog X.w) X.A (eval (.Name x pos) X.env) Q E s:=by
 obtain⟨B,h1,h2⟩:=I.mod.blt;exact Calls.Name_function_global I.ok.kind hg (Calls.loadGlobal_builtin (by rw[I.ok.glob]; exact I.mod.glob.keeps I.bk) hm (by rw[I.ok.blt]; exact h1.keeps I.bk) ((h2 x z).trans q) h) hd
theorem Sx(hg:Gl X x)(hm:X.mg x=some u)(r:RelV v u) (hd:(x==("__debug__" : Str))=false:=by decide):PE X (.Name x pos) (tC v):=
 ⟨fun _ _ _ H _ I h=>JN I hg hm ⟨v,H,I,r,h⟩ hd⟩
theorem JO(hg:Gl X x)(hm:X.mg x=none)(q:bootBuiltins x=some u)(r:RelV v u) (z:x≠"__name__":=by decide) (hd:(x==("__debug__" : Str))=false:=by decide):PE X (.Name x pos) (tC v):=
 ⟨fun _ _ _ H _ I h=>DW I hg hm q ⟨v,H,I,r,h⟩ z hd⟩
variable{a b:Expr}{ta tb:TE}{pos:Pos}
abbrev PCv(X:Cx)(op:CmpOp)(a b:Expr)(t:TE):Prop:=
 ∀(pins:List (Addr×Obj)) (s:ye) (σ:St) (H:Hp) (Q:VK),Inv X pins σ H s->t σ H Q->
  y0b (y06 X.prog X.w) X.A (eval a X.env) (fun v z=>y0b (y06 X.prog X.w) X.A (eval b X.env) (fun u q=>y0b (y06 X.prog X.w) X.A (y0t op v u) (EP X pins σ Q) X.xe q) X.xe z) X.xe s
structure PC(X:Cx)(op:CmpOp)(a b:Expr)(t:TE):Prop where
 run:PCv X op a b t
instance{X:Cx}{op:CmpOp}{a b:Expr}{t:TE}:CoeFun (PC X op a b t) (fun _=>PCv X op a b t):=⟨PC.run⟩
def tB(t:TE):TT:=fun σ H Q=>t σ H fun x H1=>isBl x fun c=>Q c H1
theorem JP{e:Expr}{t:TE}(h:PE X e t)(he:∀whole,isTrue e X.env whole=(do let v <- whole; standAt e.pos; holding [v] (truthy v)):=by intro _; rfl):PT X e (tB t):=by
 refine⟨?_⟩
 intro pins s σ H Q I hw
 refine isTrue_plain (thn (h pins s σ H _ I hw) fun v s1 ⟨x,H1,I1,r1,q1⟩=>?_) (he _)
 obtain⟨d,rfl,q⟩:=isBl.o q1
 cases r1
 exact y2k ⟨H1,I1,q⟩
variable{tA tB':TT}{Ai:List Expr}
def EM(t u:TT):TT:=fun σ H Q=>t σ H fun c H1=>if c=true then u σ H1 Q else Q false H1
def tOr(t u:TT):TT:=fun σ H Q=>t σ H fun c H1=>if c=true then Q true H1 else u σ H1 Q
def GW(t:TT):TT:=fun σ H Q=>t σ H fun c H1=>Q (!c) H1
theorem EN(ha:PT X a tA):PW X (.BoolOp .And [a] pos) tA:=by
 refine⟨?_⟩;intro q pins s σ H Q I h;refine isTrue_and (thn (ha pins s σ H Q I h) fun c z e=>?_);cases c with
 |true=>exact isTrue_and_nil e
 |false=>exact e
theorem GX(ha:PT X a tA):PW X (.BoolOp .Or [a] pos) tA:=by
 refine⟨?_⟩;intro q pins s σ H Q I h;refine isTrue_or (thn (ha pins s σ H Q I h) fun c z e=>?_);cases c with
 |false=>exact isTrue_or_nil e
 |true=>exact e
theorem DY(ha:PT X a tA)(hb:PW X (.BoolOp .And (b::Ai) pos) tB'):PW X (.BoolOp .And (a::b::Ai) pos) (EM tA tB'):=by
 refine⟨?_⟩;intro B pins s σ H Q I h;refine isTrue_and (thn (ha pins s σ H _ I h) fun c F ⟨H1,z,q⟩=>?_);cases c with
 |true=>exact hb B pins F σ H1 Q z q
 |false=>exact⟨H1,z,q⟩
theorem FE(ha:PT X a tA)(hb:PW X (.BoolOp .Or (b::Ai) pos) tB'):PW X (.BoolOp .Or (a::b::Ai) pos) (tOr tA tB'):=by
 refine⟨?_⟩;intro B pins s σ H Q I h;refine isTrue_or (thn (ha pins s σ H _ I h) fun c F ⟨H1,z,q⟩=>?_);cases c with
 |true=>exact⟨H1,z,q⟩
 |false=>exact hb B pins F σ H1 Q z q
theorem JQ(ha:PT X a tA):PT X (.UnaryOp .Not a pos) (GW tA):=by
 refine⟨?_⟩;intro pins s σ H Q I h;exact isTrue_not (ha pins s σ H (fun c H1=>Q (!c) H1) I h)
def GY(ta tb:TE):TE:=fun σ H Q=>ta σ H fun x H1=>isBl x fun c=>if c=true then tb σ H1 Q else Q (.bl false) H1
def JR(ta tb:TE):TE:=fun σ H Q=>ta σ H fun x H1=>isBl x fun c=>if c=true then Q (.bl true) H1 else tb σ H1 Q
def GZ(ta:TE):TE:=fun σ H Q=>ta σ H fun x H1=>isBl x fun c=>Q (.bl (!c)) H1
theorem JS{op}(h:PE X a t):PE X (.BoolOp op [a] pos) t:=⟨fun pins s σ H Q I hw=>BoolOp_one (h pins s σ H Q I hw)⟩
theorem Ga(ha:PE X a ta)(hb:PE X (.BoolOp .And (b::Ai) pos) tb):PE X (.BoolOp .And (a::b::Ai) pos) (GY ta tb):=by
 refine⟨?_⟩;intro pins s σ H Q I h;refine BoolOp_and (thn (ha pins s σ H _ I h) fun v B ⟨x,H1,z,F,q⟩=>?_);obtain⟨c,rfl,q⟩:=isBl.o q;cases F;refine y2k ?_;cases c with
 |true=>exact hb pins B σ H1 Q z q
 |false=>exact⟨.bl false,H1,z,rfl,q⟩
theorem Sy(ha:PE X a ta):PE X (.UnaryOp .Not a pos) (GZ ta):=by
 refine⟨?_⟩;intro pins s σ H Q I h;refine UnaryOp_ (thn (ha pins s σ H _ I h) fun v F ⟨x,H1,B,z,q⟩=>?_);obtain⟨c,rfl,q⟩:=isBl.o q;cases z;exact not_of (y2k ⟨.bl (!c),H1,B,rfl,q⟩)
def tIf(t:TT)(ta tb:TE):TE:=fun σ H Q=>t σ H fun c H1=>if c=true then ta σ H1 Q else tb σ H1 Q
theorem CY{c:Expr}(hc:PT X c tA)(ha:PE X a ta)(hb:PE X b tb):PE X (.IfExp c a b pos) (tIf tA ta tb):=by
 refine⟨?_⟩;intro pins s σ H Q I h;refine wpAny_IfExp (thn (hc pins s σ H _ I h) fun d q ⟨H1,B,z⟩=>?_);cases d with
 |true=>exact ha pins q σ H1 Q B z
 |false=>exact hb pins q σ H1 Q B z
def SqL(K:ya)(H:Hp)(a:Addr)(xs:List V):Prop:=
 Rd H a (.lst xs)\/
  ∃(o:Obj) (q:Array yg) (n:Nat),K.lookup a=some o/\o.cls=.type "list"/\o.dict=none/\o.data=.seq q n/\q.size<=ym/\Vals xs q.toList
def SqT(K:ya)(H:Hp)(a:Addr)(xs:List V):Prop:=
 Rd H a (.tup xs)\/
  ∃(o:Obj) (q:Array yg) (n:Nat),K.lookup a=some o/\o.cls=.type "tuple"/\o.data=.seq q n/\q.size<=ym/\Vals xs q.toList
noncomputable def Sz:yg->Option V
 |.none=>some .non
 |.bool b=>some (.bl b)
 |.int i _=>some (.int i)
 |.str x _=>some (.str x)
 |.bytes b _=>some (.byt b)
 |.float b _=>some (.flt b)
 |.ref a=>some (.ref a)
 |.type n=>some (.ty n)
 |_=>none
theorem RelV.abs(r:RelV x u):Sz u=some x:=by
 cases x with
 |non=>cases r; rfl
 |bl _=>cases r; rfl
 |int _=>obtain⟨t,rfl⟩:=r; rfl
 |str _=>obtain⟨t,rfl⟩:=r; rfl
 |byt _=>obtain⟨t,rfl⟩:=r; rfl
 |flt _=>obtain⟨t,rfl⟩:=r; rfl
 |ref _=>cases r; rfl
 |ty _=>cases r; rfl
theorem RelV.inj(r:RelV x u)(q:RelV y u):x=y:=y0l (r.abs.symm.trans q.abs)
theorem Vals.inj:∀{xs ys:List V} {us:List yg},Vals xs us->Vals ys us->xs=ys
 |_,_,_,.nil,.nil=>rfl
 |_,_,_,.cons r t,.cons q t'=>by rw[r.inj q,Vals.inj t t']
end
section
variable{X:Cx}{pins:List (Addr×Obj)}{σ:St}{H:Hp}{s:ye}{a:Addr}{xs ys:List V}
theorem SqL.of{K:ya}(h:H a=some (.lst xs)):SqL K H a xs:=.inl (.inl h)
theorem SqT.of{K:ya}(h:H a=some (.tup xs)):SqT K H a xs:=.inl (.inl h)
theorem Inv.list(I:Inv X pins σ H s)(h:SqL X.K H a xs):∃q:List yg,Vals xs q/\PlainL s.heap a q.toArray/\xs.length<=ym:=by
 rcases h with h|⟨o,q,n,hk,hc,hd,B,hz,r⟩
 ·obtain⟨z,q,n,r,e⟩:=h.ok I.hok;exact⟨q,r,⟨_,n,e,rfl,rfl,rfl⟩,z⟩
 ·refine⟨q.toList,r,⟨o,n,I.kIn a o hk,hc,hd,by simpa using B⟩,?_⟩;have e:=r.length;simp only[yi] at e;lia
theorem Inv.tuple(I:Inv X pins σ H s)(h:SqT X.K H a xs):∃q:List yg,Vals xs q/\IsTup s.heap a q.toArray/\xs.length<=ym:=by
 rcases h with h|⟨o,q,n,hk,hc,B,hz,r⟩
 ·obtain⟨z,q,r,p⟩:=h.ok I.hok;exact⟨q,r,p,z⟩
 ·refine⟨q.toList,r,⟨o,I.kIn a o hk,hc,n,by simpa using B⟩,?_⟩;have e:=r.length;simp only[yi] at e;lia
theorem Inv.list_inj(I:Inv X pins σ H s)(h:SqL X.K H a xs)(h':SqL X.K H a ys):xs=ys:=by
 obtain⟨q,r,⟨o,n,e,_,_,d⟩,_⟩:=I.list h;obtain⟨its',B,⟨o',F,z,_,_,d'⟩,_⟩:=I.list h';rw[e] at z; cases z;rw[d] at d';injection d' with d1 _;have:q=its':=by simpa using congrArg Array.toList d1
 subst this;exact r.inj B
theorem Inv.tuple_inj(I:Inv X pins σ H s)(h:SqT X.K H a xs)(h':SqT X.K H a ys):xs=ys:=by
 obtain⟨q,r,⟨o,e,_,n,d⟩,_⟩:=I.tuple h;obtain⟨its',B,⟨o',z,_,F,d'⟩,_⟩:=I.tuple h';rw[e] at z; cases z;rw[d] at d';injection d' with d1 _;have:q=its':=by simpa using congrArg Array.toList d1
 subst this;exact r.inj B
end
abbrev Cx.wish(X:Cx)(E:yg->ye->Prop):Cx:={X with xe:=E}
abbrev Cx.nox(X:Cx):Cx:=X.wish fun _ _=>False
theorem Cx.Ok.wish{X:Cx}(ok:X.Ok)(E:yg->ye->Prop):(X.wish E).Ok:=
 ⟨ok.mod,ok.kind,ok.glob,ok.blt,ok.above,ok.inj,ok.has,ok.cab,ok.hd,ok.frames,ok.stk,ok.exf,ok.bs,ok.bsz,ok.noex,ok.exfs,ok.funs,ok.frf⟩
theorem Cx.Ok.unwish{X:Cx}{E:yg->ye->Prop}(ok:(X.wish E).Ok):X.Ok:=
 ⟨ok.mod,ok.kind,ok.glob,ok.blt,ok.above,ok.inj,ok.has,ok.cab,ok.hd,ok.frames,ok.stk,ok.exf,ok.bs,ok.bsz,ok.noex,ok.exfs,ok.funs,ok.frf⟩
section
variable{X:Cx}{pins:List (Addr×Obj)}{σ:St}{H:Hp}{s:ye}{E:yg->ye->Prop}
theorem Inv.wish(I:Inv X pins σ H s)(E:yg->ye->Prop):Inv (X.wish E) pins σ H s:=⟨I.ok.wish E,I.os,I.bare,I.base,I.loc,I.cell,I.free,I.freeC,I.pin,I.hok,I.len⟩
theorem Inv.unwish(I:Inv (X.wish E) pins σ H s):Inv X pins σ H s:=⟨I.ok.unwish,I.os,I.bare,I.base,I.loc,I.cell,I.free,I.freeC,I.pin,I.hok,I.len⟩
theorem SP.unwish(h:SP (X.wish E) pins D f s'):SP X pins D f s':=by
 cases f with
 |next=>obtain⟨z,H',I,q⟩:=h; exact⟨z,H',I.unwish,q⟩
 |brk=>obtain⟨z,H',I,q⟩:=h; exact⟨z,H',I.unwish,q⟩
 |cont=>obtain⟨z,H',I,q⟩:=h; exact⟨z,H',I.unwish,q⟩
 |ret u=>obtain⟨v,z,H',I,r,q⟩:=h; exact⟨v,z,H',I.unwish,r,q⟩
theorem PSs.nox{st:List Stmt}{t:TS}(h:PSs X.nox st t):PSs X st t:=⟨fun pins s σ H D I hw=>
 y1l (h pins s σ H D (I.wish _) hw) (fun _ _ q=>q.unwish) fun _ _ z=>False.elim z⟩
end
section
variable{X:Cx}{st:Stmt}{Ai:List Stmt}{t u:TS}{e:Expr}{te:TE}{pos:Pos}
def Gb:TS:=fun D σ H=>D.nx σ H
def BX(t u:TS):TS:=fun D σ H=>t {D with nx:=u D} σ H
theorem AL:PSs X [] Gb:=⟨fun _ _ σ H _ I h=>y5a ⟨σ,H,I,h⟩⟩
theorem A6(h1:PS X st t)(h2:PSs X Ai u):PSs X (st::Ai) (BX t u):=by
 refine⟨?_⟩;intro pins s σ H D I h;refine wpAny_execs_cons (thn (h1 pins s σ H {D with nx:=u D} I h) fun f B q=>?_);cases f with
 |next=>
  obtain⟨z,H',F,q⟩:=q;exact h2 pins B z H' D F q
 |ret v=>exact q
 |brk=>exact q
 |cont=>exact q
theorem A7(h1:PS X st t):PSs X [st] t:=by
 refine⟨?_⟩;intro pins s σ H D I h;refine wpAny_execs_cons (thn (h1 pins s σ H D I h) fun f z q=>?_);cases f with
 |next=>exact y5a q
 |ret v=>exact q
 |brk=>exact q
 |cont=>exact q
def JT:TS:=fun D σ H=>D.bk σ H
def JU:TS:=fun D σ H=>D.ct σ H
theorem Inv.quiet(I:Inv X pins σ H s):interactive X.env=false:=by simp[interactive,I.ok.kind]
def FF(te:TE):TS:=fun D σ H=>te σ H fun _ H1=>D.nx σ H1
theorem Az(B:PE X e te)(z:swapsWith e none pos.line X.env=pure false:=by rfl):PS X (.Expr e pos) (FF te):=by
 refine⟨?_⟩;intro pins s σ H D I h;exact wpAny_Expr_any (thn (B pins s σ H _ I h) fun v G ⟨x,H1,F,J,q⟩=>⟨σ,H1,F,q⟩) I.quiet z
def FG(te:TE):TS:=fun D σ H=>te σ H D.rt
theorem AG(B:PE X e te):PS X (.Return (some e) pos) (FG te):=by
 refine⟨?_⟩;intro pins s σ H D I h;exact wpAny_Return_some (thn (B pins s σ H _ I h) fun v G ⟨x,H1,F,q,z⟩=>⟨x,σ,H1,F,q,z⟩)
def JV:TS:=fun D _ H=>D.rt .non H
def CZ(c:TT)(t u:TS):TS:=fun D σ H=>c σ H fun b H1=>if b=true then t D σ H1 else u D σ H1
theorem AK{c:Expr}{a b:List Stmt}{tc:TT}(hc:PT X c tc)(ha:PSs X a t)(hb:PSs X b u):PS X (.If c a b pos) (CZ tc t u):=by
 refine⟨?_⟩;intro pins s σ H D I h;refine wpAny_If (thn (hc pins s σ H _ I h) fun d q ⟨H1,B,z⟩=>?_);cases d with
 |true=>exact ha pins q σ H1 D B z
 |false=>exact hb pins q σ H1 D B z
def Gc:TS:=fun _ _ _=>False
theorem Mt:PS X st Gc:=⟨fun _ _ _ _ _ _ h=>h.elim⟩
abbrev TG:=V->St->Hp->(St->Hp->Prop)->Prop
abbrev TGs:=List V->St->Hp->(St->Hp->Prop)->Prop
end
abbrev PGv(X:Cx)(q:Expr)(t:TG):Prop:=
 ∀(pins:List (Addr×Obj)) (s:ye) (σ:St) (H:Hp) (v:V) (u:yg) (Q:St->Hp->Prop),Inv X pins σ H s->RelV v u->t v σ H Q->
  y0b (y06 X.prog X.w) X.A (assign q X.env u) (fun _ s'=>∃ z H',Inv X pins z H' s'/\Q z H') X.xe s
structure PG(X:Cx)(target:Expr)(t:TG):Prop where
 run:PGv X target t
instance{X:Cx}{target:Expr}{t:TG}:CoeFun (PG X target t) (fun _=>PGv X target t):=⟨PG.run⟩
abbrev PGsv(X:Cx)(z:List Expr)(t:TGs):Prop:=
 ∀(pins:List (Addr×Obj)) (s:ye) (σ:St) (H:Hp) (vs:List V) (us:List yg) (Q:St->Hp->Prop),Inv X pins σ H s->Vals vs us->t vs σ H Q->
  y0b (y06 X.prog X.w) X.A (assignInOrder ((assignEach z X.env).map (·.2)) us) (fun _ s'=>∃ q H',Inv X pins q H' s'/\Q q H') X.xe s
structure PGs(X:Cx)(ts:List Expr)(t:TGs):Prop where
 run:PGsv X ts t
instance{X:Cx}{ts:List Expr}{t:TGs}:CoeFun (PGs X ts t) (fun _=>PGsv X ts t):=⟨PGs.run⟩
section
variable{X:Cx}{pos:Pos}
def B8(i:Nat):TG:=fun v σ H Q=>Bo i v σ fun q=>Q q H
theorem AO(q:X.N.Nodup)(hi:X.N[i]?=some x)(hx:Loc X.env.scope x)(hf:X.fn x=true\/X.env.scope.names.lookup x=some .local:=by first|exact .inl rfl|exact .inr rfl|assumption):PG X (.Name x pos) (B8 i):=by
 refine⟨?_⟩;intro pins s σ H v u Q I r h;rw[B8,DV] at h;exact wpAny_assign_Name (Ms I q hi hx r (fun s' z=>⟨_,H,z,h⟩) hf)
def FH:TGs:=fun vs σ H Q=>vs=[]/\Q σ H
def DZ(t:TG)(u:TGs):TGs:=fun vs σ H Q=>∃v r,vs=v::r/\t v σ H fun q H'=>u r q H' Q
theorem BP:PGs X [] FH:=by
 refine⟨?_⟩;intro pins s σ H vs us Q I r h;obtain⟨e,h⟩:=h;subst e;cases r;exact assignInOrder_nil ⟨σ,H,I,h⟩
theorem Aa{e:Expr}{es:List Expr}{t:TG}{u:TGs}(h1:PG X e t)(h2:PGs X es u)
  (G:(assignEach (e::es) X.env).map (·.2)=assign e X.env::(assignEach es X.env).map (·.2):=by rfl):PGs X (e::es) (DZ t u):=by
 refine⟨?_⟩;intro pins s σ H vs us Q I r h;obtain⟨v,O,J,h⟩:=h;subst J;cases r with
 |cons r B=>
  rw[G];refine assignInOrder_cons (thn (h1 pins s σ H _ _ _ I r h) fun _ z ⟨q,H1,M,F⟩=>?_);exact h2 pins z q H1 _ _ Q M B F
def EO(K:ya)(n:Nat)(t:TGs):TG:=fun v σ H Q=>isRf v fun a=>∃xs,SqT K H a xs/\xs.length=n/\t xs σ H Q
theorem BY(hc:X.calm=true)(h:PGs X es t)
  (G:(assignEach es X.env).length=n:=by rfl) (q:(assignEach es X.env).findIdx? (·.1)=none:=by rfl):PG X (.Tuple es k pos) (EO X.K n t):=by
 refine⟨?_⟩;intro pins s σ H v u Q I r hw;obtain⟨a,O,xs,hq,J,M⟩:=isRf.o hw;subst O;cases r;obtain⟨B,z,F,hz⟩:=I.tuple hq;refine assign_Tuple_tuple (I.ok.hd hc) F (by simp[G,<- J,z.length]) q fun h' hx=>?_;have R:Inv X pins σ H {s with heap:=h'}:=I.kept (t':=s.toks) fun b o e=>hx b o (yz (yl e)) e;exact h pins _ σ H xs _ Q R (by simpa using z) M
def Ca(te:TE)(g:TG):TS:=fun D σ H=>te σ H fun x H1=>g x σ H1 D.nx
theorem FI{tg e:Expr}{te:TE}{g:TG}(J:PE X e te)(hg:PG X tg g)(G:swapsWithSole [tg] e pos.line X.env=pure false:=by rfl)(hw:swappedStores [tg] e X.env=pure none:=by rfl)
  (h1:(assignEach [tg] X.env).map (·.2)=[assign tg X.env]:=by rfl):PS X (.Assign [tg] e pos) (Ca te g):=by
 refine⟨?_⟩;intro pins s σ H D I h;refine wpAny_Assign_stores (thn (J pins s σ H _ I h) fun v z ⟨x,H1,M,B,F⟩=>?_) G hw;rw[h1];exact thn (hg pins z σ H1 x v _ M B F) fun _ O q=>q
theorem AN{i:Nat}{x:Str}{e:Expr}{te:TE}{pos':Pos}(G:X.N.Nodup)(hi:X.N[i]?=some x)(hx:Loc X.env.scope x)(F:PE X e te)(B:swapsWith e (some (.Name x pos')) pos.line X.env=pure false:=by rfl)(hf:X.fn x=true\/X.env.scope.names.lookup x=some .local:=by first|exact .inl rfl|exact .inr rfl|assumption) :
  PS X (.Assign [.Name x pos'] e pos) (Ca te (B8 i)):=by
 refine⟨?_⟩;intro pins s σ H D I h;refine wpAny_Assign_Name (thn (F pins s σ H _ I h) fun v R ⟨y,H1,M,z,q⟩=>?_) B;have q:B8 i y σ H1 D.nx:=q;rw[B8,DV] at q;exact Ms M G hi hx z (fun O J=>⟨_,H1,J,q⟩) hf
def Ge(c:TT)(tb:TS):TS:=fun D σ H=>∃W:Nat->St->Hp->Prop,(∃m,W m σ H)/\∀m σ H,W m σ H->
 c σ H fun b H1=>if b=true then ∃N:St->Hp->Prop,(∀ q H',N q H'->∃z,z<m/\W z q H')/\tb {D with nx:=N,ct:=N,bk:=D.nx} σ H1 else D.nx σ H1
theorem Mu{c:Expr}{body:List Stmt}{tc:TT}{tb:TS}(hp:PassesOwn (y06 X.prog X.w) X.A X.env X.xe)(hc:PT X c tc)(hb:PSs X body tb):PS X (.While c body [] pos) (Ge tc tb):=by
 refine⟨?_⟩;intro pins s σ H D I h;obtain⟨W,⟨m0,w0⟩,F⟩:=h;refine wpAny_While (codeAny_whileLoop (fun n s'=>∃ B H',Inv X pins B H' s'/\W n B H') ?_ m0 ⟨σ,H,I,w0⟩);rintro n s1 ⟨z,H1,I1,w1⟩;refine y2t hp (thn (hc pins s1 z H1 _ I1 (F n z H1 w1)) fun b s2 ⟨H2,I2,M⟩=>?_);cases b with
 |true=>
  obtain⟨N,hN,M⟩:=M;rw[if_pos rfl];refine y2t hp (thn (hb pins s2 z H2 _ I2 M) fun f s3 J=>?_);cases f with
  |next=>
   obtain⟨q,G,Z,R⟩:=J;obtain⟨U,hm,O⟩:=hN q G R;exact⟨U,hm,q,G,Z,O⟩
  |cont=>
   obtain⟨q,G,Z,R⟩:=J;obtain⟨U,hm,O⟩:=hN q G R;exact⟨U,hm,q,G,Z,O⟩
  |brk=>exact J
  |ret v=>exact J
 |false=>
  rw[if_neg yx];exact y5a ⟨z,H2,I2,M⟩
structure It where
 go:Nat->Hp->Prop
 yld:Nat->Hp->V->Hp->Prop
 stop:Nat->Hp->Prop
end
def FpOk(X:Cx)(pins:List (Addr×Obj))(H:Hp)(b:Addr):Prop:=
 H b=none/\b≠X.env.locals/\b∉X.fs/\(b∈X.ex\/X.s₀.heap.objs.size<=b)/\(∀x c,X.env.cells.lookup x=some c->c≠b)/\∀p∈X.pn++pins,p.1≠b
theorem Inv.fpOk(I:Inv X pins σ H s)(hb:s.heap.objs.size<=b)(F:H' b=none):FpOk X pins H' b:=by
 refine⟨F,y25 (y0c I.lt hb),I.nofs hb,.inr (y0j I.sz hb),fun x c e z=>?_,fun p B z=>?_⟩
 ·obtain⟨v,q⟩:=I.cell x c e;exact absurd (y0c q.lt (by rw[z]; exact hb)) (y1b _)
 ·exact absurd (y0c (yl (I.pin p B).1) (by rw[z]; exact hb)) (y1b _)
structure Turn(P:yq)(w:y0h)(K:ya)(tg:Expr)(J:It)(fp:List Addr)(it:Addr)(tn:Nat->Heap->Prop):Prop where
 mem:it∈fp
 obj:∀i h,tn i h->∀b∈fp,∃o,h.get? b=some o/\∀v,o.data≠.cell v
 keep:∀i h h',tn i h->(∀b∈fp,∀o,h.get? b=some o->h'.get? b=some o)->tn i h'
 item:∀(X:Cx),X.prog=P->X.w=w->X.K=K->X.calm=true->∀(i:Nat) (pins:List (Addr×Obj)) (s:ye) (σ:St) (H:Hp) (E:yg->ye->Prop),Inv X pins σ H s->(∀b∈fp,FpOk X pins H b)->tn i s.heap->J.go i H->
  y0b (y06 P w) X.A (pyNext (.ref it)) (fun r s1=>∃u,r=some u/\
   y0b (y06 P w) X.A (letOwnedTupleGo tg (.ref it) u) (fun _ s2=>∃x H',Inv X pins σ H' s2/\RelV x u/\J.yld i H x H'/\tn (i+1) s2.heap/\∀b∈fp,H' b=none) E s1) E s
 done:∀(X:Cx),X.prog=P->X.w=w->X.K=K->X.calm=true->∀(i:Nat) (pins:List (Addr×Obj)) (s:ye) (σ:St) (H:Hp) (E:yg->ye->Prop),Inv X pins σ H s->(∀b∈fp,FpOk X pins H b)->tn i s.heap->J.stop i H->
  y0b (y06 P w) X.A (pyNext (.ref it)) (fun r s1=>r=none/\Inv X pins σ H s1) E s
 self:∀(A:y0n) (i:Nat) (s:ye) (Q:yg->ye->Prop) (E:yg->ye->Prop),tn i s.heap->Q (.ref it) s->y0b (y06 P w) A (pyIter (.ref it)) Q E s
abbrev TI:=St->Hp->(It->Hp->Prop)->Prop
def PIE(X:Cx)(pins:List (Addr×Obj))(σ:St)(tg:Expr)(R:It->Hp->Prop)(q:yg)(B:ye):Prop:=
 ∃(F:Addr) (G:List Addr) (z:Nat->Heap->Prop) (J:It) (H':Hp),q=.ref F/\Inv X pins σ H' B/\Turn X.prog X.w X.K tg J G F z/\z 0 B.heap/\(∀b∈G,FpOk X pins H' b)/\R J H'
abbrev PIv(X:Cx)(tg q:Expr)(z:TI):Prop:=
 ∀(pins:List (Addr×Obj)) (s:ye) (σ:St) (H:Hp) (R:It->Hp->Prop),Inv X pins σ H s->z σ H R->
  y0b (y06 X.prog X.w) X.A (eval q X.env) (fun v B=>y0b (y06 X.prog X.w) X.A (pyIter v) (PIE X pins σ tg R) X.xe B) X.xe s
structure PI(X:Cx)(tg iter:Expr)(wi:TI):Prop where
 run:PIv X tg iter wi
instance{X:Cx}{tg iter:Expr}{wi:TI}:CoeFun (PI X tg iter wi) (fun _=>PIv X tg iter wi):=⟨PI.run⟩
theorem Gf{E:yg->ye->Prop}{Q:Unit->ye->Prop}(z:s.heap.get? it=some o)(hc:o.cls=.type n)(hd:o.data=.fields vs)
    (B:["enumerate","zip","dict_itemiterator","dict_reverseitemiterator","odict_iterator","itertools.zip_longest","itertools.pairwise"].contains n=false) (q:Q () s):y0b M A (letOwnedTupleGo tg (.ref it) u) Q E s:=by
  unfold letOwnedTupleGo;cases tg<;>first
    |exact yh q
    |(cases u<;>first
        |exact yh q
        |(refine yb (wpAny_load z ?_)
          rw[hc,hd]
          show y0b M A (if(["enumerate","zip","dict_itemiterator","dict_reverseitemiterator","odict_iterator","itertools.zip_longest","itertools.pairwise"].contains n&&vs[0]? == some (rawInt _))=true then _ else _) Q E s
          rw[if_neg (by intro h; rw[B,y3e] at h; cases h)]
          exact yh q))
noncomputable def Itl(K:ya)(a:Addr):It:=
 ⟨fun i H=>∃xs x,SqL K H a xs/\xs[i]?=some x,fun i H x H'=>H'=H/\∀xs,SqL K H a xs->xs[i]?=some x,fun i H=>∃xs,SqL K H a xs/\xs.length<=i⟩
noncomputable def Itt(K:ya)(a:Addr):It:=
 ⟨fun i H=>∃xs x,SqT K H a xs/\xs[i]?=some x,fun i H x H'=>H'=H/\∀xs,SqT K H a xs->xs[i]?=some x,fun i H=>∃xs,SqT K H a xs/\xs.length<=i⟩
noncomputable def Itr(lo:Int)(n:Nat):It:=⟨fun i _=>i<n,fun i H x H'=>H'=H/\x=.int (lo+i),fun i _=>n<=i⟩
theorem T0{P:yq}{w:y0h}{K:ya}{tg:Expr}(a q:Addr):Turn P w K tg (Itl K a) [q] q (fun i h=>h.IsListIter q a i) where
 mem:=by simp
 obj:=fun i h st b hb=>by
  have e:b=q:=by simpa using hb
  subst e;obtain⟨o,e,c,d⟩:=st;exact⟨o,e,fun v z=>by rw[d] at z; cases z⟩
 keep:=fun i h h' st k=>st.at fun o e=>k q (by simp) o e;item:=by
  intro X J hw M hc i pins s σ H E I hf st hg;subst J hw M;obtain⟨xs,x,hq,hx⟩:=hg;obtain⟨G,F,p,hz⟩:=I.list hq;obtain⟨u,hu,ru⟩:=F.get hx;obtain⟨f0,Z,f2,U,R,O⟩:=hf q (by simp);refine wpAny_pyNext_list_item st p.isList (x:=u) (by simpa using hu) fun h' B sb=>?_;have I1:Inv X pins σ H {s with heap:=h'}:=I.turned (t':=s.toks) (fun b o hb e=>(sb.2 b hb).trans e) f0 Z U R O;obtain⟨o,e,c,d⟩:=id B;exact⟨u,rfl,Gf (s:={s with heap:=h'}) e c d (by decide) ⟨x,H,I1,ru,⟨rfl,fun ys hy=>by rw[I.list_inj hy hq]; exact hx⟩,B,fun b hb=>(hf b hb).1⟩⟩
 done:=by
  intro X J hw M hc i pins s σ H E I hf st hg;subst J hw M;obtain⟨xs,hq,hx⟩:=hg;obtain⟨G,F,p,hz⟩:=I.list hq;obtain⟨f0,Z,f2,U,R,O⟩:=hf q (by simp);have hl:=F.length;exact wpAny_pyNext_list_end (I.ok.hd hc) st p.isList (by simp; lia) fun h' eb=>⟨rfl,I.turned (t':=s.toks) (fun b o hb e=>eb b o hb e) f0 Z U R O⟩
 self:=fun _ _ _ _ _ st h=>wpAny_pyIter_listiter st h
theorem T3{P:yq}{w:y0h}{K:ya}{tg:Expr}(a B:Addr):Turn P w K tg (Itt K a) [B] B (fun i h=>h.IsTupleIter B a i) where
 mem:=by simp
 obj:=fun i h st b hb=>by
  have e:b=B:=by simpa using hb
  subst e;obtain⟨o,e,c,d⟩:=st;exact⟨o,e,fun v z=>by rw[d] at z; cases z⟩
 keep:=fun i h h' st k=>st.at fun o e=>k B (by simp) o e;item:=by
  intro X J hw M hc i pins s σ H E I hf st hg;subst J hw M;obtain⟨xs,x,hq,hx⟩:=hg;obtain⟨q,G,p,hz⟩:=I.tuple hq;obtain⟨u,hu,ru⟩:=G.get hx;obtain⟨f0,Z,f2,U,R,O⟩:=hf B (by simp);refine wpAny_pyNext_tuple_item st (show s.heap.IsTuple a q.toArray from p) (x:=u) (by simpa using hu) fun h' F sb=>?_;have I1:Inv X pins σ H {s with heap:=h'}:=I.turned (t':=s.toks) (fun b o hb e=>(sb.2 b hb).trans e) f0 Z U R O;obtain⟨o,e,c,d⟩:=id F;exact⟨u,rfl,Gf (s:={s with heap:=h'}) e c d (by decide) ⟨x,H,I1,ru,⟨rfl,fun ys hy=>by rw[I.tuple_inj hy hq]; exact hx⟩,F,fun b hb=>(hf b hb).1⟩⟩
 done:=by
  intro X J hw M hc i pins s σ H E I hf st hg;subst J hw M;obtain⟨xs,hq,hx⟩:=hg;obtain⟨q,G,p,hz⟩:=I.tuple hq;obtain⟨f0,Z,f2,U,R,O⟩:=hf B (by simp);have hl:=G.length;exact wpAny_pyNext_tuple_end (I.ok.hd hc) st (show s.heap.IsTuple a q.toArray from p) (by simp; lia) fun h' eb=>⟨rfl,I.turned (t':=s.toks) (fun b o hb e=>eb b o hb e) f0 Z U R O⟩
 self:=fun _ _ _ _ _ st h=>wpAny_pyIter_tupleiter st h
theorem T4{P:yq}{w:y0h}{K:ya}{tg:Expr}(q:Addr)(lo:Int)(n:Nat):Turn P w K tg (Itr lo n) [q] q (fun i h=>IsRangeIter h q (lo+(i:Nat)*1) ((n:Int)-(i:Nat)) 1) where
 mem:=by simp
 obj:=fun i h st b hb=>by
  have e:b=q:=by simpa using hb
  subst e;exact⟨_,st,fun v z=>by
   have Z:Data.fields _=Data.cell v:=z
   cases Z⟩
 keep:=fun i h h' st k=>k q (by simp) _ st;item:=by
  intro X F hw G hc i pins s σ H E I hf st hg;subst F hw G;obtain⟨U,R,f2,O,M,J⟩:=hf q (by simp);have W:=Walks.range (prog:=X.prog) (w:=X.w) (I.ok.hd hc) q lo 1 n;refine W.item i s _ _ hg st fun v h' tk hv B kk=>?_;obtain⟨t,rfl⟩:=hv;have I1:Inv X pins σ H {s with heap:=h',toks:=tk}:=I.turned (fun b o hb e=>kk b o (by simpa using hb) e) U R O M J;refine⟨_,rfl,Gf (s:={s with heap:=h',toks:=tk}) (n:="range_iterator") B rfl rfl (by decide) ⟨.int (lo+i),H,I1,⟨t,?_⟩,⟨rfl,rfl⟩,B,fun b hb=>(hf b hb).1⟩⟩;rw[Int.mul_one]
 done:=by
  intro X F hw G hc i pins s σ H E I hf st hg;subst F hw G;obtain⟨U,R,f2,O,M,J⟩:=hf q (by simp);exact wpAny_pyNext_range_end (I.ok.hd hc) st (by have:n<=i:=hg; lia) fun h' eb=>⟨rfl,I.turned (t':=s.toks) (fun b o hb e=>eb b o hb e) U R O M J⟩
 self:=fun _ _ _ _ _ st h=>wpAny_pyIter_rangeiter st h
section
variable{X:Cx}{tg:Expr}
def Gg(K:ya)(tl:TE):TI:=fun σ H R=>tl σ H fun x H1=>isRf x fun a=>(∃xs,SqL K H1 a xs)/\R (Itl K a) H1
def Gh(K:ya)(tl:TE):TI:=fun σ H R=>tl σ H fun x H1=>isRf x fun a=>(∃xs,SqT K H1 a xs)/\R (Itt K a) H1
theorem BZ{l:Expr}{tl:TE}(M:PE X l tl):PI X tg l (Gg X.K tl):=by
 refine⟨?_⟩;intro pins s σ H R I h;refine thn (M pins s σ H _ I h) fun v z ⟨x,H1,B,F,G⟩=>?_;obtain⟨a,e,⟨xs,hq⟩,q⟩:=isRf.o G;subst e;cases F;obtain⟨J,O,p,hz⟩:=B.list hq;refine wpAny_pyIter_list p.isList ?_;refine⟨z.heap.objs.size,[z.heap.objs.size],_,_,H1,rfl,B.kept (t':=z.toks) fun b o e=>yd _ e,T0 a _,⟨_,yt _ rfl,rfl,rfl⟩,fun b hb=>?_,q⟩;have e:b=z.heap.objs.size:=by simpa using hb
 subst e;exact B.fpOk (yf _) (B.hok.fresh (yf _))
theorem Mv(M:PE X l tl):PI X tg l (Gh X.K tl):=by
 refine⟨?_⟩;intro pins s σ H R I h;refine thn (M pins s σ H _ I h) fun v z ⟨x,H1,B,G,J⟩=>?_;obtain⟨a,e,⟨xs,hq⟩,q⟩:=isRf.o J;subst e;cases G;obtain⟨F,O,p,hz⟩:=B.tuple hq;refine y2o (show z.heap.IsTuple a F.toArray from p) ?_;refine⟨z.heap.objs.size,[z.heap.objs.size],_,_,H1,rfl,B.kept (t':=z.toks) fun b o e=>yd _ e,T3 a _,⟨_,yt _ rfl,rfl,rfl⟩,fun b hb=>?_,q⟩;have e:b=z.heap.objs.size:=by simpa using hb
 subst e;exact B.fpOk (yf _) (B.hok.fresh (yf _))
theorem Mw{pins:List (Addr×Obj)}{σ:St}{H:Hp}{s:ye}{R:It->Hp->Prop}{E:yg->ye->Prop}{lo hi:Int}{t u v:Tok}{tk:Nat}(I:Inv X pins σ H s)(h1 : -(2^62)<=lo)(h2:lo<2^62)(F : -(2^62)<=hi)(B:hi<2^62)
  (q:R (Itr lo (hi-lo).toNat) H):y0b (y06 X.prog X.w) X.A (pyIter (.ref s.heap.objs.size)) (PIE X pins σ tg R) E {s with heap:=s.heap.push {cls:=.type "range",data:=.fields #[.int lo t,.int hi u,.int 1 v]},toks:=tk}:=by
 refine wpAny_pyIter_range (IsRange.new ..) (small_one h1 h2 F B) ?_;have z:Inv X pins σ H {s with heap:=s.heap.push {cls:=.type "range",data:=.fields #[.int lo t,.int hi u,.int 1 v]},toks:=tk}:=I.kept fun b o e=>yd _ e;refine⟨(s.heap.push {cls:=.type "range",data:=.fields #[.int lo t,.int hi u,.int 1 v]}).objs.size,[(s.heap.push {cls:=.type "range",data:=.fields #[.int lo t,.int hi u,.int 1 v]}).objs.size],_,_,H,rfl,
  z.kept (t':=tk) fun b o e=>yd _ e,T4 _ lo (hi-lo).toNat,?_,fun b hb=>?_,q⟩
 ·have G:lo+((0:Nat):Int)*1=lo:=by simp
  have e2:(((hi-lo).toNat:Nat):Int)-((0:Nat):Int)=Builtin.Range.rangeSize lo hi 1:=by rw[rangeSize_one]; split<;>lia
  show IsRangeIter _ _ (lo+((0:Nat):Int)*1) ((((hi-lo).toNat:Nat):Int)-((0:Nat):Int)) 1;rw[G,e2];exact yt _ rfl
 ·have e:b=(s.heap.push {cls:=.type "range",data:=.fields #[.int lo t,.int hi u,.int 1 v]}).objs.size:=by simpa using hb
  subst e;exact z.fpOk (yf _) (z.hok.fresh (yf _))
def Mx(ta:TA):TI:=fun σ H R=>ta σ H fun vs H1=>∃j:Int,vs=[.int j]/\-(2^62)<=j/\j<2^62/\R (Itr 0 j.toNat) H1
def Gi(ta:TA):TI:=fun σ H R=>ta σ H fun vs H1=>∃i j:Int,vs=[.int i,.int j]/\(-(2^62)<=i/\i<2^62/\-(2^62)<=j/\j<2^62)/\R (Itr i (j-i).toNat) H1
theorem JW{a:Expr}{ta:TA}{p pos:Pos} (hg:Gl X "range") (hm:X.mg "range" = none) (ha:PA X [a] ta) (J:starEach [a] X.env=[(false,eval a X.env)]:=by rfl):PI X tg (.Call (.Name "range" p) [a] [] pos) (Mx ta):=by
 refine⟨?_⟩;intro pins s σ H R I h;refine Call_ (DW I hg hm boot_range (y1u (thn (ha pos pins s σ H _ I h) fun us O ⟨vs,H1,M,F,z⟩=>?_) J rfl));obtain⟨j,e,z,G,q⟩:=z;subst e;cases F with
 |cons r B=>
  cases B;obtain⟨t,rfl⟩:=r;exact call_range_1 (Mw M (by lia) (by lia) z G (by simpa using q))
theorem My(hg:Gl X "range") (hm:X.mg "range" = none) (ha:PA X [a,b] ta) (Z:starEach [a,b] X.env=[(false,eval a X.env),(false,eval b X.env)]:=by rfl) (z:starEach [b] X.env=[(false,eval b X.env)]:=by rfl) :
  PI X tg (.Call (.Name "range" p) [a,b] [] pos) (Gi ta):=by
 refine⟨?_⟩;intro pins s σ H R I h;refine Call_ (DW I hg hm boot_range (y1u (thn (ha pos pins s σ H _ I h) fun us s1 ⟨vs,H1,I1,G,F⟩=>?_) (by rw[Z,z]) (by rw[z]; rfl)));obtain⟨i,j,e,⟨F,U,O,M⟩,q⟩:=F;subst e;cases G with
 |cons r B=>
  cases B with
  |cons J B=>
   cases B;obtain⟨t,rfl⟩:=r;obtain⟨t',rfl⟩:=J;exact call_range_2 (Mw I1 F U O M q)
def Bx(F:TI)(g:TG)(tb:TS):TS:=fun D σ H=>F σ H fun J H1=>∃W:Nat->Nat->St->Hp->Prop,(∃m,W 0 m σ H1)/\∀i m σ H,W i m σ H->
 (J.stop i H/\D.nx σ H)\/(J.go i H/\∃N:St->Hp->Prop,(∀ q H',N q H'->∃B,B<m/\W (i+1) B q H')/\∀x H',J.yld i H x H'->g x σ H' fun z H2=>tb {D with nx:=N,ct:=N,bk:=D.nx} z H2)
noncomputable def FJ(q:List Addr)(h:Heap):List (Addr×Obj):=q.filterMap fun b=>(h.get? b).map fun o=>(b,o)
theorem Gj(hb:b∈fp)(e:h.get? b=some o):(b,o)∈FJ fp h:=List.mem_filterMap.mpr ⟨b,hb,by rw[e]; rfl⟩
theorem T5(z:p∈FJ fp h):p.1∈fp/\h.get? p.1=some p.2:=by
 obtain⟨b,hb,e⟩:=List.mem_filterMap.mp z;cases q:h.get? b with
 |none=>rw[q] at e; cases e
 |some o=>
  rw[q] at e;have B:(b,o)=p:=y0l e;subst B;exact⟨hb,q⟩
theorem Inv.pinned(I:Inv X pins σ H s)(hf:∀b∈fp,FpOk X pins H b)(F:∀b∈fp,∃o,s.heap.get? b=some o/\∀v,o.data≠.cell v):Inv X (pins++FJ fp s.heap) σ H s:=
 I.pins_of fun p B=>(List.mem_append.mp B).elim (fun z=>I.pin p (y08 _ z)) fun z=>by
  obtain⟨hb,e⟩:=T5 z;obtain⟨M,J,G,_⟩:=hf p.1 hb;obtain⟨o,q,d⟩:=F p.1 hb;rw[e] at q; cases q;exact⟨e,M,J,G,d⟩
theorem Inv.unpinned(I:Inv X (pins++pl) σ H s):Inv X pins σ H s:=I.pins_of fun p q=>I.pin p (y08 _ (y0s _ q))
theorem BD(hp:PassesOwn (y06 X.prog X.w) X.A X.env X.xe)(hc:X.calm=true)(hi:PI X tg iter wi)(hg:PG X tg g)(hb:PSs X body tb)
  (hs:∀x,foldedSetIterable iter X.env x=pure x:=by intro _; rfl):PS X (.For tg iter body [] pos) (Bx wi g tb):=by
 refine⟨?_⟩;intro pins s σ H D I h;refine wpAny_For (thn (hi pins s σ H _ I h) fun v s1 h1=>thn h1 fun fq s2 h2=>?_) hs;obtain⟨it,fp,tn,J,H2,e,I2,T,st2,f2,W,⟨m0,w0⟩,U⟩:=h2;subst e;have F:∀{H':Hp},(∀b∈fp,H' b=none)->∀b∈fp,FpOk X pins H' b:=fun hn b hb=>⟨hn b hb,(f2 b hb).2⟩;refine codeAny_forLoop_any (fun n s'=>∃i B H',Inv X pins B H' s'/\tn i s'.heap/\(∀b∈fp,H' b=none)/\W i n B H') ?_ m0 ⟨0,σ,H2,I2,st2,fun b hb=>(f2 b hb).1,w0⟩;rintro n s3 ⟨i,z,H3,I3,fc,fe,w3⟩;rcases U i n z H3 w3 with⟨Z,qn⟩|⟨go,N,hN,step⟩
 ·refine y2t hp (thn (T.done X rfl rfl rfl hc i pins s3 z H3 X.xe I3 (F fe) fc Z) fun r s4 ⟨hr,I4⟩=>?_);subst hr;exact y5a ⟨z,H3,I4,qn⟩
 ·refine y2t hp (thn (T.item X rfl rfl rfl hc i pins s3 z H3 X.xe I3 (F fe) fc go) fun r s4 ⟨u,hr,h4⟩=>?_);subst hr;refine y2t hp (thn h4 fun _ s5 ⟨x,H5,I5,r5,y5,R,fh⟩=>?_);have fk:=I5.pinned (F fh) (T.obj _ _ R);refine y2t hp (thn (hg _ s5 z H5 x u _ fk r5 (step x H5 y5)) fun _ s6 ⟨fg,H6,I6,q6⟩=>?_);refine y2t hp (thn (hb _ s6 fg H6 _ I6 q6) fun f s7 O=>?_);have again:∀{q:St} {M:Hp},Inv X (pins++FJ fp s5.heap) q M s7->N q M->∃m,m<n/\∃i B H',Inv X pins B H' s7/\tn i s7.heap/\(∀b∈fp,H' b=none)/\W i m B H':=fun {q M} G n7=>by
   obtain⟨m',hm,w7⟩:=hN q M n7;refine⟨m',hm,i+1,q,M,G.unpinned,T.keep _ _ _ R fun b hb o e=>(G.pin (b,o) (y08 _ (y08 _ (Gj hb e)))).1,fun b hb=>?_,w7⟩;obtain⟨o,e,d⟩:=T.obj _ _ R b hb;exact(G.pin (b,o) (y08 _ (y08 _ (Gj hb e)))).2.1
  cases f with
  |next=>obtain⟨q,M,G,n7⟩:=O; exact again G n7
  |cont=>obtain⟨q,M,G,n7⟩:=O; exact again G n7
  |brk=>obtain⟨q,M,G,O⟩:=O; exact⟨q,M,G.unpinned,O⟩
  |ret v=>obtain⟨x7,q,M,G,r7,O⟩:=O; exact⟨x7,q,M,G.unpinned,r7,O⟩
theorem Da{K:ya}{a:Addr}{xs:List V}{g:TG}{tb:TS}{D:Ends}{σ:St}{H:Hp}(z:Nat->St->Hp->Prop)(U:z 0 σ H)(R:∀i σ H,i<=xs.length->z i σ H->SqL K H a xs)
  (O:∀i x σ H,xs[i]?=some x->z i σ H->g x σ H fun B H2=>tb {D with nx:=z (i+1),ct:=z (i+1),bk:=D.nx} B H2) (hd:∀ σ H,z xs.length σ H->D.nx σ H) :
  ∃W:Nat->Nat->St->Hp->Prop,(∃m,W 0 m σ H)/\∀i m σ H,W i m σ H->
   ((Itl K a).stop i H/\D.nx σ H)\/((Itl K a).go i H/\∃N:St->Hp->Prop,(∀ F H',N F H'->∃J,J<m/\W (i+1) J F H')/\∀x H',(Itl K a).yld i H x H'->g x σ H' fun B H2=>tb {D with nx:=N,ct:=N,bk:=D.nx} B H2):=by
 refine⟨fun i m σ H=>m=xs.length-i/\i<=xs.length/\z i σ H,⟨xs.length,by simp,yo _,U⟩,?_⟩
 rintro i m σ H ⟨rfl,hi,p⟩
 have q:=R i σ H hi p
 by_cases G:i<xs.length
 ·refine .inr ⟨⟨xs,xs[i],q,by simp[G]⟩,z (i+1),fun F H' M=>⟨xs.length-(i+1),by lia,rfl,G,M⟩,fun x H' y=>?_⟩
  obtain⟨e,y⟩:=y
  subst e
  exact O i x σ _ (y xs q) p
 ·have e:i=xs.length:=by lia
  subst e
  exact .inl ⟨⟨xs,q,yf _⟩,hd σ H p⟩
theorem T6{K:ya}{a:Addr}{xs:List V}{g:TG}{tb:TS}{D:Ends}{σ:St}{H:Hp}(z:Nat->St->Hp->Prop)(U:z 0 σ H)(R:∀i σ H,i<=xs.length->z i σ H->SqT K H a xs)
  (O:∀i x σ H,xs[i]?=some x->z i σ H->g x σ H fun B H2=>tb {D with nx:=z (i+1),ct:=z (i+1),bk:=D.nx} B H2) (hd:∀ σ H,z xs.length σ H->D.nx σ H) :
  ∃W:Nat->Nat->St->Hp->Prop,(∃m,W 0 m σ H)/\∀i m σ H,W i m σ H->
   ((Itt K a).stop i H/\D.nx σ H)\/((Itt K a).go i H/\∃N:St->Hp->Prop,(∀ F H',N F H'->∃J,J<m/\W (i+1) J F H')/\∀x H',(Itt K a).yld i H x H'->g x σ H' fun B H2=>tb {D with nx:=N,ct:=N,bk:=D.nx} B H2):=by
 refine⟨fun i m σ H=>m=xs.length-i/\i<=xs.length/\z i σ H,⟨xs.length,by simp,yo _,U⟩,?_⟩
 rintro i m σ H ⟨rfl,hi,p⟩
 have q:=R i σ H hi p
 by_cases G:i<xs.length
 ·refine .inr ⟨⟨xs,xs[i],q,by simp[G]⟩,z (i+1),fun F H' M=>⟨xs.length-(i+1),by lia,rfl,G,M⟩,fun x H' y=>?_⟩
  obtain⟨e,y⟩:=y
  subst e
  exact O i x σ _ (y xs q) p
 ·have e:i=xs.length:=by lia
  subst e
  exact .inl ⟨⟨xs,q,yf _⟩,hd σ H p⟩
theorem JX{lo:Int}{n:Nat}{g:TG}{tb:TS}{D:Ends}{σ:St}{H:Hp}(F:Nat->St->Hp->Prop)(O:F 0 σ H)
  (M:∀i σ H,i<n->F i σ H->g (.int (lo+i)) σ H fun q H2=>tb {D with nx:=F (i+1),ct:=F (i+1),bk:=D.nx} q H2) (hd:∀ σ H,F n σ H->D.nx σ H) :
  ∃W:Nat->Nat->St->Hp->Prop,(∃m,W 0 m σ H)/\∀i m σ H,W i m σ H->
   ((Itr lo n).stop i H/\D.nx σ H)\/((Itr lo n).go i H/\∃N:St->Hp->Prop,(∀ z H',N z H'->∃G,G<m/\W (i+1) G z H')/\∀x H',(Itr lo n).yld i H x H'->g x σ H' fun q H2=>tb {D with nx:=N,ct:=N,bk:=D.nx} q H2):=by
 refine⟨fun i m σ H=>m=n-i/\i<=n/\F i σ H,⟨n,by simp,yo _,O⟩,?_⟩
 rintro i m σ H ⟨rfl,hi,p⟩
 by_cases B:i<n
 ·refine .inr ⟨B,F (i+1),fun z H' J=>⟨n-(i+1),by lia,rfl,B,J⟩,fun x H' y=>?_⟩
  obtain⟨e,y⟩:=y
  subst e y
  exact M i σ _ B p
 ·have e:i=n:=by lia
  subst e
  exact .inl ⟨yf _,hd σ H p⟩
abbrev R2:=V->V->Hp->VK->Prop
end
def OpR(X:Cx)(f:yg->yg->Sem yg)(r:R2):Prop:=
 ∀(pins:List (Addr×Obj)) (s:ye) (σ:St) (H:Hp) (x y:V) (v u:yg) (Q:VK),Inv X pins σ H s->RelV x v->RelV y u->r x y H Q->
  y0b (y06 X.prog X.w) X.A (f v u) (EP X pins σ Q) X.xe s
def UnR(X:Cx)(f:yg->Sem yg)(r:V->Hp->VK->Prop):Prop:=
 ∀(pins:List (Addr×Obj)) (s:ye) (σ:St) (H:Hp) (x:V) (v:yg) (Q:VK),Inv X pins σ H s->RelV x v->r x H Q->
  y0b (y06 X.prog X.w) X.A (f v) (EP X pins σ Q) X.xe s
def Al(X:Cx)(f:yg)(r:List V->Hp->VK->Prop):Prop:=
 ∀(pins:List (Addr×Obj)) (s:ye) (σ:St) (H:Hp) (xs:List V) (us:List yg) (Q:VK),Inv X pins σ H s->Vals xs us->r xs H Q->
  y0b (y06 X.prog X.w) X.A (call f us) (EP X pins σ Q) X.xe s
def tOp(r:R2)(ta tb:TE):TE:=fun σ H Q=>ta σ H fun x H1=>tb σ H1 fun y H2=>r x y H2 Q
def tUn(r:V->Hp->VK->Prop)(ta:TE):TE:=fun σ H Q=>ta σ H fun x H1=>r x H1 Q
def rI(C:Int->Int->Prop)(g:Int->Int->V):R2:=fun x y H Q=>isI x fun i=>isI y fun j=>C i j/\Q (g i j) H
def rI0(g:Int->Int->V):R2:=fun x y H Q=>isI x fun i=>isI y fun j=>Q (g i j) H
def rU(g:Int->V):V->Hp->VK->Prop:=fun x H Q=>isI x fun i=>Q (g i) H
section
variable{X:Cx}{a b c:Expr}{ta tb tc:TE}{pos:Pos}
theorem JY(ha:PE X a ta)(hb:PE X b tb){R:V->V->Hp->Prop}(I:Inv X pins σ H s)
  (h:ta σ H fun x H1=>tb σ H1 fun y H2=>R x y H2) {Q:yg->ye->Prop} {f:yg->yg->Sem yg}
  (hf:∀v u B x y H2,Inv X pins σ H2 B->RelV x v->RelV y u->R x y H2->y0b (y06 X.prog X.w) X.A (f v u) Q X.xe B) :
  y0b (y06 X.prog X.w) X.A (eval a X.env) (fun v z=>y0b (y06 X.prog X.w) X.A (eval b X.env) (fun u q=>y0b (y06 X.prog X.w) X.A (f v u) Q X.xe q) X.xe z) X.xe s:=by
 refine thn (ha pins s σ H _ I h) fun v F ⟨x,H1,Z,J,O⟩=>?_;refine thn (hb pins F σ H1 _ Z O) fun u B ⟨y,H2,U,G,M⟩=>?_;exact hf v u B x y H2 U J G M
theorem AA(G:OpR X (binaryOp op) r)(ha:PE X a ta)(hb:PE X b tb):PE X (.BinOp a op b pos) (tOp r ta tb):=by
 refine⟨?_⟩;intro pins s σ H Q I h;exact wpAny_BinOp (JY ha hb I h fun v u z x y H2 J F B q=>G pins z σ H2 x y v u Q J F B q)
theorem EQ{r:V->Hp->VK->Prop}(F:UnR X (unaryOp op) r)(ha:PE X a ta):PE X (.UnaryOp op a pos) (tUn r ta):=by
 refine⟨?_⟩;intro pins s σ H Q I h;exact UnaryOp_ (thn (ha pins s σ H _ I h) fun v q ⟨x,H1,G,z,B⟩=>F pins q σ H1 x v Q G z B)
theorem opI{f:yg->yg->Sem yg}{C:Int->Int->Prop}{g:Int->Int->Int}
  (rule:∀(i j:Int) (t u:Tok) (s:ye) (Q:yg->ye->Prop) (E:yg->ye->Prop),C i j->Q (.int (g i j) s.toks) {s with toks:=s.toks+1}->y0b (y06 X.prog X.w) X.A (f (.int i t) (.int j u)) Q E s) :
  OpR X f (rI C fun i j=>.int (g i j)):=by
 intro pins s σ H x y v u Q I B z h;obtain⟨i,rfl,F⟩:=isI.o h;obtain⟨j,rfl,hc,q⟩:=isI.o F;obtain⟨t,rfl⟩:=B;obtain⟨t',rfl⟩:=z;exact rule i j t t' s _ _ hc ⟨.int (g i j),H,I.tok _,⟨_,rfl⟩,q⟩
theorem Mz{f:yg->yg->Sem yg}{g:Int->Int->Int}
  (rule:∀(i j:Int) (t u:Tok) (s:ye) (Q:yg->ye->Prop) (E:yg->ye->Prop),Q (.int (g i j) s.toks) {s with toks:=s.toks+1}->y0b (y06 X.prog X.w) X.A (f (.int i t) (.int j u)) Q E s) :
  OpR X f (rI0 fun i j=>.int (g i j)):=by
 intro pins s σ H x y v u Q I B z h;obtain⟨i,rfl,F⟩:=isI.o h;obtain⟨j,rfl,q⟩:=isI.o F;obtain⟨t,rfl⟩:=B;obtain⟨t',rfl⟩:=z;exact rule i j t t' s _ _ ⟨.int (g i j),H,I.tok _,⟨_,rfl⟩,q⟩
theorem Gk{f:yg->yg->Sem yg}{g:Int->Int->Bool}
  (rule:∀(i j:Int) (t u:Tok) (s:ye) (Q:yg->ye->Prop) (E:yg->ye->Prop),Q (.bool (g i j)) s->y0b (y06 X.prog X.w) X.A (f (.int i t) (.int j u)) Q E s) :
  OpR X f (rI0 fun i j=>.bl (g i j)):=by
 intro pins s σ H x y v u Q I B z h;obtain⟨i,rfl,F⟩:=isI.o h;obtain⟨j,rfl,q⟩:=isI.o F;obtain⟨t,rfl⟩:=B;obtain⟨t',rfl⟩:=z;exact rule i j t t' s _ _ ⟨.bl (g i j),H,I,rfl,q⟩
def T7(i j:Int):Prop:=0<j/\j<1073741824
def T8(i j:Int):Prop:=j≠0/\j.natAbs<1073741824
def CMul(i j:Int):Prop:=(-(2^64)<i/\i<2^64)\/(-(2^64)<j/\j<2^64)
theorem CMul.ok(h:CMul i j):IntMulOk i j:=by
 rcases h with⟨h1,h2⟩|⟨h1,h2⟩
 ·exact .of_left (intBits_le_64 h1 h2)
 ·exact .of_right (intBits_le_64 h1 h2)
theorem AY:OpR X (binaryOp .Add) (rI0 fun i j=>.int (i+j)):=Mz fun _ _ _ _ _ _ _ q=>add_int q
theorem Cy:OpR X (binaryOp .Sub) (rI0 fun i j=>.int (i-j)):=Mz fun _ _ _ _ _ _ _ q=>sub_int q
theorem By:OpR X (binaryOp .Mult) (rI CMul fun i j=>.int (i*j)):=opI fun _ _ _ _ _ _ _ hc q=>mul_int q hc.ok
theorem T9:OpR X (binaryOp .FloorDiv) (rI T7 fun i j=>.int (i / j)):=opI fun i j _ _ _ _ _ hc q=>by
 have h1:(0:Int)<j:=hc.1;have h2:j<1073741824:=hc.2;exact floordiv_int (by lia) (by rw[Int.fdiv_eq_ediv_of_nonneg i (by lia)]; exact q) (.inl (PyProof.noPylong_small (by lia)))
theorem N0:OpR X (binaryOp .FloorDiv) (rI T8 fun i j=>.int (i.fdiv j)):=opI fun _ _ _ _ _ _ _ hc q=>floordiv_int hc.1 q (.inl (PyProof.noPylong_small hc.2))
theorem FK:OpR X (binaryOp .Mod) (rI (fun _ j=>0<j) fun i j=>.int (i % j)):=opI fun i j _ _ _ _ _ hc q=>by
 have h1:(0:Int)<j:=hc;exact mod_int' (by lia) (by rw[Int.fmod_eq_emod_of_nonneg i (by lia)]; exact q)
theorem unI{f:yg->Sem yg}{g:Int->Int}
  (rule:∀(i:Int) (t:Tok) (s:ye) (Q:yg->ye->Prop) (E:yg->ye->Prop),Q (.int (g i) s.toks) {s with toks:=s.toks+1}->y0b (y06 X.prog X.w) X.A (f (.int i t)) Q E s) :
  UnR X f (rU fun i=>.int (g i)):=by
 intro pins s σ H x v Q I z h;obtain⟨i,rfl,q⟩:=isI.o h;obtain⟨t,rfl⟩:=z;exact rule i t s _ _ ⟨.int (g i),H,I.tok _,⟨_,rfl⟩,q⟩
theorem ER:UnR X (unaryOp .USub) (rU fun i=>.int (-i)):=unI fun _ _ _ _ _ q=>neg_int q
noncomputable def Gm:V->V->Bool
 |.non,.non=>true|.non,.int _=>true|.int _,.non=>true|.non,.bl _=>true|.bl _,.non=>true|.non,.str _=>true|.str _,.non=>true
 |.int _,.int _=>true|.bl _,.bl _=>true|.str _,.str _=>true|.byt _,.byt _=>true
 |.int _,.str _=>true|.str _,.int _=>true|.bl _,.str _=>true|.str _,.bl _=>true
 |_,_=>false
def rEq:R2:=fun x y H Q=>Gm x y=true/\Q (.bl (decide (x=y))) H
def rNe:R2:=fun x y H Q=>Gm x y=true/\Q (.bl (!decide (x=y))) H
theorem NA:decide (V.int i=V.int j)=(i==j):=by
 rw[y3s];simp
theorem NB:decide (V.bl i=V.bl j)=(i==j):=by
 rw[y3s];simp
theorem NC:decide (V.str i=V.str j)=(i==j):=by
 rw[y3s];simp
theorem ND:decide (V.byt i=V.byt j)=(i.toList==j.toList):=by
 rw[y3s];cases i;cases j;simp
theorem Af(I:Inv X pins σ H s)(q:Q (.bl k) H)(e:k=k'):EP X pins σ Q (.bool k') s:=by
 subst e;exact⟨.bl k,H,I,rfl,q⟩
theorem NF:OpR X (y0t .Eq) rEq:=by
 intro pins s σ H x y v u Q I F z h;obtain⟨B,q⟩:=h;cases x with
 |non=>
  cases F;cases y with
  |non=>cases z; exact PySem.EqNone.eq_none_none (Af I q (by simp))
  |bl j=>cases z; exact PySem.EqNone.eq_none_bool (Af I q (by simp))
  |int j=>obtain⟨t',rfl⟩:=z; exact PySem.EqNone.eq_none_int (Af I q (by simp))
  |str j=>obtain⟨t',rfl⟩:=z; exact PySem.EqNone.eq_none_str (Af I q (by simp))
  |_=>exact absurd (show false=true from B) yx
 |bl i=>
  cases F;cases y with
  |non=>cases z; exact PySem.EqNone.eq_bool_none (Af I q (by simp))
  |bl j=>cases z; exact eq_bool (Af I q NB)
  |str j=>obtain⟨t',rfl⟩:=z; exact PySem.EqMixed.eq_bool_str (Af I q (by simp))
  |_=>exact absurd (show false=true from B) yx
 |int i=>
  obtain⟨t,rfl⟩:=F;cases y with
  |non=>cases z; exact PySem.EqNone.eq_int_none (Af I q (by simp))
  |int j=>obtain⟨t',rfl⟩:=z; exact eq_int (Af I q NA)
  |str j=>obtain⟨t',rfl⟩:=z; exact PySem.EqMixed.eq_int_str (Af I q (by simp))
  |_=>exact absurd (show false=true from B) yx
 |str i=>
  obtain⟨t,rfl⟩:=F;cases y with
  |non=>cases z; exact PySem.EqNone.eq_str_none (Af I q (by simp))
  |bl j=>cases z; exact PySem.EqMixed.eq_str_bool (Af I q (by simp))
  |int j=>obtain⟨t',rfl⟩:=z; exact PySem.EqMixed.eq_str_int (Af I q (by simp))
  |str j=>obtain⟨t',rfl⟩:=z; exact eq_str (Af I q NC)
  |_=>exact absurd (show false=true from B) yx
 |byt i=>
  obtain⟨t,rfl⟩:=F;cases y with
  |byt j=>obtain⟨t',rfl⟩:=z; exact PySem.W.eq_bytes (Af I q ND)
  |_=>exact absurd (show false=true from B) yx
 |_=>cases y<;>exact absurd (show false=true from B) yx
theorem NG:OpR X (y0t .NotEq) rNe:=by
 intro pins s σ H x y v u Q I F z h;obtain⟨B,q⟩:=h;cases x with
 |non=>
  cases F;cases y with
  |non=>cases z; exact PySem.EqNone.ne_none_none (Af I q (by simp))
  |bl j=>cases z; exact PySem.EqNone.ne_none_bool (Af I q (by simp))
  |int j=>obtain⟨t',rfl⟩:=z; exact PySem.EqNone.ne_none_int (Af I q (by simp))
  |str j=>obtain⟨t',rfl⟩:=z; exact PySem.EqNone.ne_none_str (Af I q (by simp))
  |_=>exact absurd (show false=true from B) yx
 |bl i=>
  cases F;cases y with
  |non=>cases z; exact PySem.EqNone.ne_bool_none (Af I q (by simp))
  |bl j=>cases z; exact ne_bool (Af I q (congrArg not NB))
  |str j=>obtain⟨t',rfl⟩:=z; exact PySem.EqMixed.ne_bool_str (Af I q (by simp))
  |_=>exact absurd (show false=true from B) yx
 |int i=>
  obtain⟨t,rfl⟩:=F;cases y with
  |non=>cases z; exact PySem.EqNone.ne_int_none (Af I q (by simp))
  |int j=>obtain⟨t',rfl⟩:=z; exact ne_int (Af I q (congrArg not NA))
  |str j=>obtain⟨t',rfl⟩:=z; exact PySem.EqMixed.ne_int_str (Af I q (by simp))
  |_=>exact absurd (show false=true from B) yx
 |str i=>
  obtain⟨t,rfl⟩:=F;cases y with
  |non=>cases z; exact PySem.EqNone.ne_str_none (Af I q (by simp))
  |bl j=>cases z; exact PySem.EqMixed.ne_str_bool (Af I q (by simp))
  |int j=>obtain⟨t',rfl⟩:=z; exact PySem.EqMixed.ne_str_int (Af I q (by simp))
  |str j=>obtain⟨t',rfl⟩:=z; exact ne_str (Af I q (congrArg not NC))
  |_=>exact absurd (show false=true from B) yx
 |byt i=>
  obtain⟨t,rfl⟩:=F;cases y with
  |byt j=>obtain⟨t',rfl⟩:=z; exact PySem.W.ne_bytes (Af I q (congrArg not ND))
  |_=>exact absurd (show false=true from B) yx
 |_=>cases y<;>exact absurd (show false=true from B) yx
theorem Cz:OpR X (y0t .Lt) (rI0 fun i j=>.bl (decide (i<j))):=Gk fun _ _ _ _ _ _ _ q=>lt_int q
theorem Go:OpR X (y0t .LtE) (rI0 fun i j=>.bl (decide (i<=j))):=Gk fun _ _ _ _ _ _ _ q=>le_int q
theorem NH:OpR X (y0t .Gt) (rI0 fun i j=>.bl (decide (j<i))):=Gk fun _ _ _ _ _ _ _ q=>gt_int q
theorem TB:OpR X (y0t .GtE) (rI0 fun i j=>.bl (decide (j<=i))):=Gk fun _ _ _ _ _ _ _ q=>ge_int q
theorem TC:OpR X (y0t .In) (fun x y H Q=>∃i j,x=.str i/\y=.str j/\Q (.bl (!(Builtin.Str.occurrences j i 0 j.length 1).isEmpty)) H):=by
 intro pins s σ H x y v u Q I B z h;obtain⟨i,j,rfl,rfl,q⟩:=h;obtain⟨t,rfl⟩:=B;obtain⟨t',rfl⟩:=z;exact in_str (Af I q rfl)
theorem TD:OpR X (y0t .Is) (fun x y H Q=>y=.non/\Q (.bl (decide (x=.non))) H):=by
 intro pins s σ H x y v u Q I z B h;obtain⟨rfl,q⟩:=h;cases B;refine is_none_gen (Af I q ?_);cases x<;>first
  |(cases z; rfl)
  |(obtain⟨t,rfl⟩:=z; rfl)
theorem TF:OpR X (y0t .IsNot) (fun x y H Q=>y=.non/\Q (.bl (!decide (x=.non))) H):=by
 intro pins s σ H x y v u Q I z B h;obtain⟨rfl,q⟩:=h;cases B;refine isnot_none_gen (Af I q ?_);cases x<;>first
  |(cases z; rfl)
  |(obtain⟨t,rfl⟩:=z; rfl)
theorem AE(b:Expr)(h:op≠.In:=by decide)(h2:op≠.NotIn:=by decide):behindInMarks op b=false:=by
 have q:(op==CmpOp.In)=false:=by cases op<;>first|rfl|exact absurd rfl h
 have e2:(op==CmpOp.NotIn)=false:=by cases op<;>first|rfl|exact absurd rfl h2
 cases b<;>simp[behindInMarks,q,e2]
theorem Gp(G:OpR X (y0t op) r)(ha:PE X a ta)(hb:PE X b tb)(hm:behindInMarks op b=false):PE X (.Compare a [op] [b] pos) (tOp r ta tb):=by
 refine⟨?_⟩;intro pins s σ H Q I h;exact wpAny_Compare1 (JY ha hb I h fun v u z x y H2 J F B q=>G pins z σ H2 x y v u Q J F B q) hm
def D0(t:TE):TT:=fun σ H Q=>t σ H fun x H'=>isBl x fun k=>Q k H'
theorem AC(U:OpR X (y0t op) r)(ha:PE X a ta)(hb:PE X b tb)(hm:behindInMarks op b=false):PT X (.Compare a [op] [b] pos) (D0 (tOp r ta tb)):=by
 refine⟨?_⟩;intro pins s σ H Q I h;refine wpAny_isTrue_Compare1 (thn (ha pins s σ H _ I h) fun v F ⟨x,H1,I1,M,R⟩=>thn (hb pins F σ H1 _ I1 R) fun u B ⟨y,H2,I2,J,O⟩=>
  thn (U pins B σ H2 x y v u _ I2 M J O) fun c s3 ⟨z,H3,Z,G,q⟩=>?_) hm
 obtain⟨k,e,q⟩:=isBl.o q;subst e;cases G;exact y2k ⟨H3,Z,q⟩
def Gq(r F:R2)(ta tb tc:TE):TE:=fun σ H Q=>ta σ H fun x H1=>tb σ H1 fun y H2=>r x y H2 fun z q=>∃k,z=.bl k/\
 (if k=true then tc σ q fun B G=>F y B G Q else Q (.bl false) q)
theorem TH(ho:OpR X (y0t op) r)(F:OpR X (y0t op') r')(ha:PE X a ta)(hb:PE X b tb)(hc:PE X c tc)
  (hm:lastMarks [op,op'] [b,c]=false:=by with_unfolding_all rfl):PT X (.Compare a [op,op'] [b,c] pos) (D0 (Gq r r' ta tb tc)):=by
 refine⟨?_⟩;intro pins s σ H Q I h;refine isTrue_chain (thn (ha pins s σ H _ I h) fun v s1 ⟨x,H1,I1,r1,q1⟩=>test_link (thn (hb pins s1 σ H1 _ I1 q1) fun u s2 ⟨y,H2,I2,J,q2⟩=>
  thn (ho pins s2 σ H2 x y v u _ I2 r1 J q2) fun d Z ⟨z,G,M,r3,k,e,q⟩=>?_)) hm
 subst e;cases r3;refine y2k ?_;cases k with
 |false=>
  have q:isBl (V.bl false) (fun k=>Q k G):=q;obtain⟨k',e',q'⟩:=isBl.o q;cases e';exact ite_ff ⟨G,M,q'⟩
 |true=>
  refine ite_tt (test_last (thn (hc pins Z σ G _ M q) fun R U ⟨O,H4,I4,r4,q4⟩=>thn (F pins U σ H4 y O u R _ I4 J r4 q4) fun d' s5 ⟨z2,H5,I5,r5,B⟩=>?_));obtain⟨k2,e2,B⟩:=isBl.o B;subst e2;cases r5;exact y2k ⟨H5,I5,B⟩
theorem FL:(ym:Nat)<2^63:=by rw[sizeLine_eq]; decide
theorem JZ(r:Vals [x] us):∃u,us=[u]/\RelV x u:=by
 cases r with
 |cons z q=>cases q; exact⟨_,rfl,z⟩
theorem NI(r:Vals [x,y] us):∃u q,us=[u,q]/\RelV x u/\RelV y q:=by
 cases r with
 |cons G F=>
  cases F with
  |cons B z=>cases z; exact⟨_,_,rfl,G,B⟩
theorem NJ(hc:X.calm=true):Al X (.builtin "max") (fun xs H Q=>∃i j,xs=[.int i,.int j]/\Q (.int (if j>i then j else i)) H):=by
 intro pins s σ H xs us Q I r h;obtain⟨i,j,rfl,q⟩:=h;obtain⟨u,B,rfl,⟨t,rfl⟩,⟨t',rfl⟩⟩:=NI r;refine max_two_ints (I.ok.hd hc) fun h' tk k=>⟨_,H,I.kept k,?_,q⟩;by_cases z:j>i
 ·rw[if_pos z,if_pos z]; exact⟨_,rfl⟩
 ·rw[if_neg z,if_neg z]; exact⟨_,rfl⟩
theorem NK(hc:X.calm=true):Al X (.builtin "min") (fun xs H Q=>∃i j,xs=[.int i,.int j]/\Q (.int (if j<i then j else i)) H):=by
 intro pins s σ H xs us Q I r h;obtain⟨i,j,rfl,q⟩:=h;obtain⟨u,B,rfl,⟨t,rfl⟩,⟨t',rfl⟩⟩:=NI r;refine min_two_ints (I.ok.hd hc) fun h' tk k=>⟨_,H,I.kept k,?_,q⟩;by_cases z:j<i
 ·rw[if_pos z,if_pos z]; exact⟨_,rfl⟩
 ·rw[if_neg z,if_neg z]; exact⟨_,rfl⟩
structure ObjM(h:Heap)(x dx C:Addr)(mA:Str->Option yg):Prop where
 obj:h.get? x=some (PySem.W.instObj C dx)
 ns:h.Ns1 dx mA
 ne:dx≠x
end
theorem TJ{h:Heap}{dx:Addr}{mA:Str->Option yg}(n:h.Ns1 dx mA):∃F,h.get? dx=some F/\∀name,PySem.W.lookIn name F=some (mA name):=by
 obtain⟨o,es,ep,G,hd,hk,_,hm⟩:=n;refine⟨o,G,fun name=>?_⟩;have e:=hm name;unfold nsFind findBy at e;rw[<- Array.find?_toList] at e;unfold PySem.W.lookIn;rw[hd];dsimp only;split
 ·rename_i y q;rw[q] at e;exact congrArg some e
 ·rename_i q;rw[q] at e;have a:es.toList.any (·.refKey)=false:=by
   rw[List.any_eq_false];intro y hy;obtain⟨z,t,B⟩:=hk y (Array.mem_toList_iff.mp hy);simp[DictEntry.refKey,B]
  have J:¬ es.toList.any (·.refKey)=true:=by rw[a]; exact yx
  rw[if_neg J];exact congrArg some e
theorem ObjM.look{mA:Str->Option yg}(I:ObjM h x dx C mA):∃q,PySem.W.InstAt h x (PySem.W.instObj C dx) C (some q)/\∀name,PySem.W.lookIn name q=some (mA name):=
 let ⟨q,ho,hl⟩:=TJ I.ns
 ⟨q,⟨I.obj,rfl,rfl,ho⟩,hl⟩
section
variable{prog:yq}{w:y0h}{A:y0n}{E:yg->ye->Prop}{s:ye}{K:ya}{x dx C f:Addr}{mA:Str->Option yg}{name:Str}{v:yg}
end
theorem RelO.some_of(r:RelO (some v) o):∃u,o=some u/\RelV v u:=by
 cases o with
 |none=>exact(show False from r).elim
 |some u=>exact⟨u,rfl,r⟩
section
variable{P:yq}{w:y0h}{H H':Hp}{h h':Heap}{a C dx:Addr}{fs fs':List (Str×V)}
theorem TK(B:HOk P w H h)(e:H a=some (.ins C dx fs)):∃mA,ObjM h a dx C mA/\(∀f,RelO (fs.lookup f) (mA f))/\PySem.Within mA (fs.map (·.1))/\fs.length<=1000/\H dx=some (.own a):=by
 obtain⟨d,z,G,F,mA,n,r,q⟩:=(show ObjOk P w H h a (.ins C dx fs) from B a _ e);exact⟨mA,⟨F,n,G⟩,r,q,z,d⟩
end
structure Cls(K:ya)(C:Addr):Prop where
 pg:PySem.W.plainGet K C Str.empty=true
 hd:PySem.W.hasDictIn K C=true
 po:PySem.W.plainOver K C=true
 sa:PySem.W.findIn K (.ref C) "__setattr__" = some (some (.builtin "object.__setattr__"))
theorem Cls.get{K:ya}{C:Addr}(c:Cls K C)(f:Str):PySem.W.plainGet K C f=true:=c.pg
section
variable{X:Cx}{pins:List (Addr×Obj)}{σ:St}{H:Hp}{s:ye}{a C dx:Addr}{fs:List (Str×V)}{f:Str}{v:V}{A:y0n}{E:yg->ye->Prop}
end
section
variable{X:Cx}{o e value:Expr}{f:Str}{pos pos' tpos:Pos}{ta tv:TE}
end
section
variable{X:Cx}{pins:List (Addr×Obj)}{σ:St}{H:Hp}{s:ye}{A:y0n}{E:yg->ye->Prop}{Q:yg->ye->Prop}{c:yg}{b:Bool}
inductive TyOf (K:ya) (H:Hp):V->yg->Prop where
 |non:TyOf K H .non (.type "NoneType")
 |bl (x:Bool):TyOf K H (.bl x) (.type "bool")
 |int (i:Int):TyOf K H (.int i) (.type "int")
 |str (x:Str):TyOf K H (.str x) (.type "str")
 |flt (x:UInt64):TyOf K H (.flt x) (.type "float")
 |lst {a:Addr} {xs:List V} (e:H a=some (.lst xs)):TyOf K H (.ref a) (.type "list")
 |frz {a:Addr} {o:Obj} {xs:List V} (e:H a=some (.frz o (.lst xs))):TyOf K H (.ref a) (.type "list")
 |tup {a:Addr} {xs:List V} (e:H a=some (.tup xs)):TyOf K H (.ref a) (.type "tuple")
 |dK {a:Addr} {kvs:List (Key×V)} (e:H a=some (.dK kvs)):TyOf K H (.ref a) (.type "dict")
 |dT {a:Addr} {kvs:List (List Key×V)} (e:H a=some (.dT kvs)):TyOf K H (.ref a) (.type "dict")
 |ins {a C dx:Addr} {fs:List (Str×V)} (e:H a=some (.ins C dx fs)) (cl:Cls K C) (ha:PySem.W.findIn K (.ref C) "__class__" = some (some (.builtin "object.__class__")))
   (hn:PySem.W.specialIn K (.builtin "object.__class__") "__get__" = some (some (.builtin "getset_descriptor.__get__"))) (htk:PySem.W.takesIn K (.builtin "object.__class__")=some true)
   (hm:PySem.W.mroIn K C (.type "object")=some true):TyOf K H (.ref a) (.ref C)
theorem TM(I:Inv X pins σ H s)(B:RelV x u)(ty:TyOf X.K H x t)(e:PySem.W.kitOne X.K t c=some b)(h:∀tk,Q (.bool b) {s with toks:=tk}) :
  y0b (y06 X.prog X.w) A (call (.builtin "isinstance") [u,c]) Q E s:=by
 cases ty with
 |non=>cases (show u=Value.none from B); exact y1j PySem.W.kitx_none I.kIn True.intro e (fun z=>nomatch z) h
 |bl y=>cases (show u=Value.bool y from B); exact y1j PySem.W.kitx_bool I.kIn True.intro e (fun z=>nomatch z) h
 |int i=>obtain⟨t,q⟩:=(show ∃t,u=Value.int i t from B); cases q; exact y1j PySem.W.kitx_int I.kIn True.intro e (fun z=>nomatch z) h
 |str y=>obtain⟨t,q⟩:=(show ∃t,u=Value.str y t from B); cases q; exact y1j PySem.W.kitx_str I.kIn True.intro e (fun z=>nomatch z) h
 |flt y=>obtain⟨t,q⟩:=(show ∃t,u=Value.float y t from B); cases q; exact y1j PySem.W.kitx_float I.kIn True.intro e (fun z=>nomatch z) h
 |@lst a xs F=>
  cases (show u=Value.ref a from B);obtain⟨_,_,n,_,h1⟩:=(show ObjOk X.prog X.w H s.heap a (.lst xs) from I.hok a _ F);exact y1j PySem.W.kitx_list I.kIn ⟨_,h1,rfl⟩ e (fun z=>nomatch z) h
 |@frz a M xs F=>
  cases (show u=Value.ref a from B);obtain⟨_,_,_,n,_,h1⟩:=(show ObjOk X.prog X.w H s.heap a (.frz M (.lst xs)) from I.hok a _ F);exact y1j PySem.W.kitx_list I.kIn ⟨_,h1,rfl⟩ e (fun z=>nomatch z) h
 |@tup a xs F=>
  cases (show u=Value.ref a from B);obtain⟨_,_,_,p⟩:=(show ObjOk X.prog X.w H s.heap a (.tup xs) from I.hok a _ F);obtain⟨o,h1,h2,_⟩:=p;exact y1j PySem.W.kitx_tuple I.kIn ⟨o,h1,h2⟩ e (fun z=>nomatch z) h
 |@dK a kvs F=>
  cases (show u=Value.ref a from B);obtain⟨_,_,vs,_,p⟩:=(show ObjOk X.prog X.w H s.heap a (.dK kvs) from I.hok a _ F);obtain⟨o,es,ep,h1,h2,_⟩:=p;exact y1j PySem.W.kitx_dict I.kIn ⟨o,h1,h2.1⟩ e (fun z=>nomatch z) h
 |@dT a kvs F=>
  cases (show u=Value.ref a from B);obtain⟨_,_,xs,_,o,es,ep,h1,h2,_⟩:=(show ObjOk X.prog X.w H s.heap a (.dT kvs) from I.hok a _ F);exact y1j PySem.W.kitx_dict I.kIn ⟨o,h1,h2.1⟩ e (fun z=>nomatch z) h
 |@ins a C dx fs F cl ha R G hm=>
  cases (show u=Value.ref a from B);obtain⟨mA,O,_⟩:=TK I.hok F;obtain⟨U,J,_⟩:=O.look;exact y1j (PySem.W.kitx_own (cl.get _) cl.hd ha R G hm) I.kIn J e (fun z=>nomatch z) h
end
structure Room(k:Nat)(A:y0n):Prop where
 hd:A.handled=none
 dp:A.depth+3*k+5<recursionLimit
 un:A.units+16*k+200<cLine
theorem Room.mono(r:Room k A)(h:j<=k):Room j A:=⟨r.hd,by have:=r.dp; lia,by have:=r.un; lia⟩
theorem Room.deeper(r:Room (k+1) A)(env:Env):Room k (A.deeper env):=
 ⟨r.hd,by have:=r.dp; show A.depth+1+3*k+5<_; lia,by have:=r.un; show A.units+3+16*k+200<_; lia⟩
theorem Room.depth(r:Room k A):A.depth<recursionLimit:=by have:=r.dp; lia
theorem Room.units(r:Room k A):A.units+64<cLine:=by have:=r.un; lia
def Bz:TA:=fun _ H Q=>Q [] H
def Bq(ta:TE)(q:TA):TA:=fun σ H Q=>ta σ H fun x H1=>q σ H1 fun xs H2=>Q (x::xs) H2
section
variable{X:Cx}{e:Expr}{es:List Expr}{te:TE}{t:TA}{pos:Pos}
theorem A2:PA X [] Bz:=⟨fun _ _ _ _ H Q I h=>y38 ⟨[],H,I,.nil,h⟩⟩
theorem TN(ha:PE X e te)(hr:PA X es t)(J:starEach (e::es) X.env=(false,eval e X.env)::starEach es X.env:=by rfl):PA X (e::es) (Bq te t):=by
 refine⟨?_⟩;intro pos pins s σ H Q I h;rw[J];show y0b _ _ (spliced ((false,eval e X.env)::backTo pos (starEach es X.env))) _ _ s;refine y23 (thn (ha pins s σ H _ I h) fun u q ⟨x,H1,O,B,G⟩=>?_);exact thn (hr pos pins q σ H1 _ O G) fun us R ⟨xs,H2,M,z,F⟩=>⟨x::xs,H2,M,.cons B z,F⟩
def ES(t:TA):TE:=fun σ H Q=>t σ H fun xs H1=>xs.length<=ym/\∀p,H1 p=none->Q (.ref p) (upd H1 p (.tup xs))
def Db(t:TA):TE:=fun σ H Q=>t σ H fun xs H1=>xs.length<=ym/\∀p,H1 p=none->Q (.ref p) (upd H1 p (.lst xs))
theorem AI{x1}(h:PA X es t):PE X (.Tuple es x1 pos) (ES t):=by
 refine⟨?_⟩;intro pins s σ H Q I hq;refine wpAny_Tuple_spliced (thn (h pos pins s σ H _ I hq) fun us B ⟨xs,H1,F,r,z,q⟩=>⟨by rw[<- r.length]; exact z,?_⟩);have hf:H1 B.heap.objs.size=none:=F.hok.fresh (yf _);refine⟨.ref B.heap.objs.size,upd H1 B.heap.objs.size (.tup xs),F.laid (t':=B.toks) (fun b u e=>yd _ e) (yf _) ?_,rfl,q _ hf⟩;exact⟨z,us,r,⟨_,yt _ rfl,rfl,_,rfl⟩⟩
theorem Ab(h:PA X es t):PE X (.List es pos) (Db t):=by
 refine⟨?_⟩;intro pins s σ H Q I hq;refine wpAny_List_spliced (thn (h pos pins s σ H _ I hq) fun us B ⟨xs,H1,F,r,z,q⟩=>⟨by rw[<- r.length]; exact z,?_⟩);have hf:H1 B.heap.objs.size=none:=F.hok.fresh (yf _);refine⟨.ref B.heap.objs.size,upd H1 B.heap.objs.size (.lst xs),F.laid (t':=B.toks) (fun b u e=>yd _ e) (yf _) ?_,rfl,q _ hf⟩;exact⟨z,us,0,r,yt _ rfl⟩
abbrev Sp:=List V->Hp->VK->XK->Prop
abbrev CXT:=List Env->Hp->ye->XK->yg->ye->Prop
structure Env0(P:yq)(w:y0h)(K:ya)(mg:Str->Option yg)(base:Heap)(A:y0n)(outer:List Env)(s:ye)(H:Hp):Prop where
 frames:A.frames=some outer
 mod:Mod K mg base
 bs:∀b o,base.get? b=some o->s.heap.get? b=some o/\H b=none
 bsz:base.objs.size<=s.heap.objs.size
 funs:s.heap.FunFrames base outer
 frf:∀b∈frs outer,H b=none
 hok:HOk P w H s.heap
 bare:AllBare s.gens
def CE(outer:List Env)(P:yq)(w:y0h)(H:Hp)(s:ye)(Q:VK)(u:yg)(s':ye):Prop:=
 ∃v H',s'.os=s.os/\AllBare s'.gens/\Un (frs outer) [] H H' s.heap s'.heap/\HOk P w H' s'.heap/\RelV v u/\Q v H'
end
def CR(CX:CXT)(outer:List Env)(P:yq)(w:y0h)(H:Hp)(s:ye)(Q:VK)(E:XK)(r:Result)(s':ye):Prop:=
 match r with
 |.ok (.ret u)=>CE outer P w H s Q u s'
 |.ok _=>False
 |.error e=>CX outer H s E e s'
structure FnOk(P:yq)(w:y0h)(K:ya)(mg:Str->Option yg)(base:Heap)(CX:CXT)(k:Nat)(f:Addr)(fd:y2c)(ps:List Str)(sp:Sp):Prop where
 len:∀vs H Q E,sp vs H Q E->vs.length=ps.length
 run:∀(A:y0n) (outer:List Env) (s:ye) (H:Hp) (args:Args) (us:List yg) (vs:List V) (Q:VK) (E:XK),Room k A->Env0 P w K mg base A outer s H->BindsTo s fd args (ps.zip us)->Vals vs us->sp vs H Q E->
  codeAny (y06 P w) A (.call (.ref f) args) (CR CX outer P w H s Q E) s
section
variable{X:Cx}{pins:List (Addr×Obj)}{σ:St}{H:Hp}{s s':ye}
theorem Inv.env0(I:Inv X pins σ H s):Env0 X.prog X.w X.K X.mg X.base X.A X.stack s H:=
 ⟨I.ok.frames,I.ok.mod,I.bs,y0j I.ok.bsz I.sz,I.stack,I.stkFree,I.hok,I.bare⟩
theorem Inv.after(I:Inv X pins σ H s)(h:CE X.stack X.prog X.w H s Q u s'):EP X pins σ Q u s':=by
 obtain⟨v,H',os,B,J,G,r,q⟩:=h;obtain⟨M,g,d,t,F⟩:=s';obtain rfl:F=s.os:=os;exact⟨v,H',I.call (h':=M) (g':=g) (d':=d) (t':=t) (ch:=[]) J G B (fun b z=>absurd z (by simp)),r,q⟩
end
def Gu(sp:Sp)(dvs:List V)(E:XK)(t:TA):TE:=fun σ H Q=>t σ H fun vs H1=>sp (vs++dvs) H1 Q E
def Binds(K:ya)(fd:y2c)(ps:List Str)(ds:List yg):Prop:=
 ∀(s:ye) (us:List yg),K.In s.heap->(us++ds).length=ps.length->BindsTo s fd ⟨us,[]⟩ (ps.zip (us++ds))
theorem Binds.all{K:ya}{fd:y2c}{ps:List Str}(h:∀us:List yg,us.length=ps.length->bindArgs fd ⟨us,[]⟩=pure (ps.zip us)):Binds K fd ps []:=fun s us _ q=>by
 rw[y0x] at q |-;exact .of_eq (h us q)
def TQ(CX:CXT)(X:Cx)(E:XK):Prop:=∀(pins:List (Addr×Obj)) (σ:St) (H:Hp) (s:ye) (e:yg) (s':ye),Inv X pins σ H s->CX X.stack H s E e s'->X.xe e s'
section
variable{X:Cx}{CX:CXT}{k:Nat}{f C:Addr}{fd:y2c}{ps:List Str}{sp:Sp}{dvs:List V}{ds:List yg}{E:XK}{x m:Str}{p pos apos:Pos}{e o:Expr}{es:List Expr}{ta:TE}{t:TA}
theorem TR(F:FnOk X.prog X.w X.K X.mg X.base CX k f fd ps sp)(hr:Room k X.A)(hb:Binds X.K fd ps ds)(hd:Vals dvs ds)(hx:TQ CX X E)
  (I:Inv X pins σ H s) (r:Vals vs us) (h:sp (vs++dvs) H Q E):y0b (y06 X.prog X.w) X.A (call (.ref f) us) (EP X pins σ Q) X.xe s:=by
 have q:Vals (vs++dvs) (us++ds):=r.append hd;have z:(us++ds).length=ps.length:=by rw[<- q.length]; exact F.len _ _ _ _ h
 refine wpAny_call (y3n (F.run X.A X.stack s H ⟨us,[]⟩ (us++ds) (vs++dvs) Q E hr I.env0 (hb s us I.kIn z) q h) fun r s' hq=>?_);cases r with
 |error e=>exact hx pins σ H s e s' I hq
 |ok B=>
  cases B with
  |ret u=>exact I.after hq
  |next=>exact False.elim hq
  |brk=>exact False.elim hq
  |cont=>exact False.elim hq
end
section
variable{X:Cx}{CX:CXT}{k:Nat}{f C:Addr}{fd:y2c}{ps ks:List Str}{sp:Sp}{E:XK}{x m:Str}{p pos apos kpos:Pos}{e o:Expr}{es:List Expr}{kws:List Keyword}{te ta:TE}{t tk:TA}{nm:Option Str}
variable{g:List yg->List yg->List yg}{gV:List V->List V->List V}
end
structure FnScope(N P:List Str)(sc:Scope):Prop where
 kind:sc.kind=.function
 co:sc.isCoroutine=false
 gen:sc.isGenerator=false
 nd:N.Nodup
 pre:N.take P.length=P
 par:∀x∈P,sc.names.lookup x=some .local\/sc.names.lookup x=some .cell
 nofree:∀y∈sc.names,y.2≠.free
theorem NL{y1s:Str->Option NameKind}:∀{q:List (Str×yg)} {m:Str->Option yg},(∀v,(x,v)∉q)->bindL y1s q m x=m x
 |[],_,_=>rfl
 |(n,v)::r,m,h=>by
  unfold bindL;rw[NL fun w hw=>h w (y0v _ hw)];split
  ·have:x≠n:=by rintro rfl; exact h v y10
   simp[this]
  ·rfl
theorem NM{y1s:Str->Option NameKind}:∀{q:List (Str×yg)} {m:Str->Option yg},(∀v,(x,v)∉q)->bindC y1s q m x=m x
 |[],_,_=>rfl
 |(n,v)::r,m,h=>by
  unfold bindC;rw[NM fun w hw=>h w (y0v _ hw)];split
  ·rfl
  ·have:x≠n:=by rintro rfl; exact h v y10
   simp[this]
theorem NN{y1s:Str->Option NameKind}:∀{P:List Str} {vs:List yg} {i:Nat} {m:Str->Option yg},P.Nodup->P[i]?=some x->vs[i]?=some v->y1s x=some .local->
  bindL y1s (P.zip vs) m x=some v
 |[],_,_,_,_,h,_,_=>by simp at h
 |_::_,[],_,_,_,_,h,_=>by simp at h
 |p::P,w::vs,0,m,q,h1,h2,hk=>by
  simp at h1 h2; subst h1; subst h2;show bindL y1s ((p,w)::P.zip vs) m p=_;unfold bindL;rw[NL fun v z=>(List.nodup_cons.mp q).1 (y4t z).1,if_pos hk];simp
 |p::P,w::vs,i+1,m,q,h1,h2,hk=>by
  show bindL y1s ((p,w)::P.zip vs) m x=_;unfold bindL;exact NN (i:=i) (List.nodup_cons.mp q).2 (by simpa using h1) (by simpa using h2) hk
theorem NO{y1s:Str->Option NameKind}:∀{P:List Str} {vs:List yg} {i:Nat} {m:Str->Option yg},P.Nodup->P[i]?=some x->vs[i]?=some v->y1s x≠some .local->
  bindC y1s (P.zip vs) m x=some v
 |[],_,_,_,_,h,_,_=>by simp at h
 |_::_,[],_,_,_,_,h,_=>by simp at h
 |p::P,w::vs,0,m,q,h1,h2,hk=>by
  simp at h1 h2; subst h1; subst h2;show bindC y1s ((p,w)::P.zip vs) m p=_;unfold bindC;rw[NM fun v z=>(List.nodup_cons.mp q).1 (y4t z).1,if_neg hk];simp
 |p::P,w::vs,i+1,m,q,h1,h2,hk=>by
  show bindC y1s ((p,w)::P.zip vs) m x=_;unfold bindC;exact NO (i:=i) (List.nodup_cons.mp q).2 (by simpa using h1) (by simpa using h2) hk
noncomputable def start:List Str->List V->St
 |_::N,v::vs=>some v::start N vs
 |_::N,[]=>none::start N []
 |[],_=>[]
theorem Ja:start (n::N) (v::vs)=some v::start N vs:=rfl
theorem Jb:start (n::N) []=none::start N []:=rfl
theorem Jc:start [] []=[]:=rfl
theorem Jd{P:V->Prop}:atS 0 (start (n::N) (v::vs)) P=P v:=rfl
theorem Je{P:V->Prop}:atS (i+1) (start (n::N) (v::vs)) P=atS i (start N vs) P:=rfl
theorem Jf{Q:St->Prop}:Bo 0 v (start (n::N) (w::vs)) Q=Q (some v::start N vs):=rfl
theorem Jg{Q:St->Prop}:Bo (i+1) v (start (n::N) (w::vs)) Q=Bo i v (start N vs) fun q=>Q (some w::q):=rfl
theorem Jh{Q:St->Prop}:Bo 0 v (start (n::N) []) Q=Q (some v::start N []):=rfl
theorem Ji{Q:St->Prop}:Bo (i+1) v (start (n::N) []) Q=Bo i v (start N []) fun q=>Q (none::q):=rfl
theorem NP:∀N:List Str,start N []=List.replicate N.length none
 |[]=>rfl
 |_::N=>by rw[start,NP N]; rfl
theorem Gv:∀{N:List Str} {vs:List V},vs.length<=N.length->start N vs=vs.map some++List.replicate (N.length-vs.length) none
 |N,[],_=>by rw[NP]; simp
 |_::N,v::vs,h=>by
  rw[start,Gv (by simpa using h)];simp
 |[],_::_,h=>absurd h (by simp)
noncomputable def BE(CX:CXT)(P:yq)(w:y0h)(K:ya)(mg:Str->Option yg)(base:Heap)(N:List Str)(qual:Str)(scope:Scope)(f:Addr)(cd:yg)(A:y0n)(outer:List Env)(s:ye)(H:Hp)(E:XK):Cx where
 prog:=P
 w:=w
 K:=K
 mg:=mg
 base:=base
 A:=A.deeper (envOfC qual scope s.heap.objs.size f cd)
 N:=N
 s₀:=s
 H₀:=H
 env:=envOfC qual scope s.heap.objs.size f cd
 outer:=outer
 stack:=envOfC qual scope s.heap.objs.size f cd::outer
 ex:=[]
 calm:=true
 fn:=fun _=>true
 pn:=[]
 xe:=fun e s'=>y0b (y06 P w) (A.deeper (envOfC qual scope s.heap.objs.size f cd)) (leaving (envOfC qual scope s.heap.objs.size f cd) e) (fun _ q=>CX outer H s E e q) (fun z q=>CX outer H s E z q) s'
theorem NQ{sc:Scope}{n:Nat}{x:Str}(h:sc.names.lookup x=some .cell):∃c,(cellsFrom n sc.names []).lookup x=some c:=by
 have q:=PySem.W.cellsFrom_some sc.names n [] (.inl h);exact Option.isSome_iff_exists.mp q
theorem TU{CX:CXT}{P:yq}{w:y0h}{K:ya}{mg:Str->Option yg}{base:Heap}{N ps:List Str}{qual:Str}{scope:Scope}{f:Addr}{cd:yg}{A:y0n}{outer:List Env}{s M:ye}{H:Hp}{E:XK}{us:List yg}{vs:List V}
  (S:FnScope N ps scope) (hd:A.handled=none) (B:Env0 P w K mg base A outer s H) (U:vs.length=ps.length) (r:Vals vs us)
  (x:InCallC s s.heap.objs.size (bindL (envOfC qual scope s.heap.objs.size f cd).kindOf (ps.zip us) fun _=>none) (cellsFrom (s.heap.objs.size+1) scope.names []) (bindC (envOfC qual scope s.heap.objs.size f cd).kindOf (ps.zip us) fun _=>none) M) :
  Inv (BE CX P w K mg base N qual scope f cd A outer s H E) [] (start N vs) H M:=by
 have R:ps.length<=N.length:=by have:=congrArg List.length S.pre; rw[y04] at this; lia
 obtain⟨h1,tk,rfl,hk⟩:=x.done;have F:∀b:Addr,b∉(BE CX P w K mg base N qual scope f cd A outer s H E).ex:=fun b z=>absurd (show b∈([]:List Addr) from z) (by simp);refine⟨⟨B.mod,S.kind,rfl,rfl,yf _,fun y z c h1 h2=>?_,fun y hy=>?_,fun y c _ h=>?_,fun _=>hd,Around.frames_deeper B.frames,.inr ⟨rfl,rfl⟩,fun b z=>absurd z (F b),B.bs,B.bsz,fun b _ _=>F b,fun b z=>absurd z (F b),B.funs,B.frf⟩,
  rfl,B.bare,Un.kept hk,⟨_,x.toInCall.ns,fun i y v h1 h2 Z=>?_⟩,fun y c h=>⟨_,x.cell y c h⟩,B.hok.fresh (yf _),fun y c h=>?_,fun p J=>absurd (show p∈([]:List (Addr×Obj)) from J) (by simp),B.hok.kept hk,?_⟩
 ·exact name_of_addr x.apart (y14 h1) (y14 h2)
 ·have hy:scope.names.lookup y=some .cell\/scope.names.lookup y=some .free:=hy;rcases hy with hy|hy
  ·exact NQ hy
  ·exact absurd rfl (S.nofree _ (y14 hy))
 ·exact y12 (x.above y c (y14 h))
 ·have hi:i<vs.length:=by
   rw[Gv (by lia)] at h2;by_cases hi:i<vs.length
   ·exact hi
   ·rw[y22 (by simpa using hi)] at h2;rw[List.getElem?_replicate] at h2;split at h2<;>cases h2
  have ha:vs[i]?=some v:=by
   rw[Gv (by lia)] at h2;rw[y27 (by simpa using hi),y0k] at h2;cases e:vs[i]? with
   |none=>rw[e] at h2; cases h2
   |some a=>rw[e] at h2; cases h2; rfl
  obtain⟨u,hu,O⟩:=r.get ha;have J:ps[i]?=some y:=by
   rw[<- S.pre,y2d (by lia)]; exact h1
  have G:ps.Nodup:=by rw[<- S.pre]; exact S.nd.sublist (y49 _ _)
  refine⟨u,O,?_⟩;rcases S.par y (yw J) with k|k
  ·exact .inl ⟨k,NN G J hu k⟩
  ·obtain⟨c,e⟩:=NQ (n:=s.heap.objs.size+1) k;refine .inr ⟨.inl k,c,e,?_⟩;have q:=x.cell y c e;rw[NO G J hu (by show scope.names.lookup y≠_; rw[k]; decide)] at q;exact q
 ·exact B.hok.fresh (y12 (x.above y c (y14 h)))
 ·show(start N vs).length=N.length;rw[Gv (by lia)];rw[yc,y4,List.length_replicate];lia
theorem NR{CX:CXT}{P:yq}{w:y0h}{K:ya}{mg:Str->Option yg}{base:Heap}{k:Nat}{f:Addr}{name qual:Str}{B:Arguments}{body:List Stmt}{scope:Scope}{dV kV Z pm z ct oc:yg}{an od:Option Addr}
  {fc:Array (Option yg)} {N ps:List Str} {sp:Sp} (lk:K.lookup f=some ⟨oc,od,.func (PySem.W.fnOf name qual B body scope dV kV Z pm an z ct),fc⟩) (fg:PySem.W.codeIn K z qual=true) (S:FnScope N ps scope)
  (len:∀vs H Q E,sp vs H Q E->vs.length=ps.length)
  (M:∀(A:y0n) (outer:List Env) (s:ye) (H:Hp) (vs:List V) (Q:VK) (E:XK),Room k (A.deeper (envOfC qual scope s.heap.objs.size f z))->sp vs H Q E->
   ∃t,PSs (BE CX P w K mg base N qual scope f z A outer s H E) body t/\t {nx:=fun _ H'=>Q .non H',rt:=Q} (start N vs) H) :
  FnOk P w K mg base CX (k+1) f (PySem.W.fnOf name qual B body scope dV kV Z pm an z ct) ps sp:=by
 refine⟨len,fun A outer s H args us vs Q E hr U hb r R=>?_⟩;have hl:=len _ _ _ _ R;have KX:K.In s.heap:=U.mod.kin.keeps fun b o e=>(U.bs b o e).1;have fe:s.heap.NoLimit:=U.mod.nolimit.keeps fun b o e=>(U.bs b o e).1;have G:∀y∈ps.zip us,scope.names.lookup y.1=some .local\/(scope.names.lookup y.1=some .cell/\((cellsFrom (s.heap.objs.size+1) scope.names []).lookup y.1).isSome=true):=fun⟨n,v⟩ hy=>by
  rcases S.par n (y4t hy).1 with q|q
  ·exact .inl q
  ·exact .inr ⟨q,PySem.W.cellsFrom_some _ _ _ (.inl q)⟩
 refine codeAny_call_function hr.depth (KX _ _ lk) rfl S.co S.gen rfl (PySem.W.codeRec_of KX fg) (hb _ _ _ _ ?_);refine wpAny_newFunctionEnv_cells S.kind G fun env he s1 x=>?_;subst he;refine⟨fe.keeps x.toInCall.keep,codeAny_func ?_⟩;obtain⟨t,ht,hq⟩:=M A outer s H vs Q E (hr.deeper _) R;have I:Inv (BE CX P w K mg base N qual scope f z A outer s H E) [] (start N vs) H s1:=TU S hr.hd U hl r x;refine y1l (ht [] s1 (start N vs) H _ I hq) (fun fl s' O=>?_) fun e s' O=>O;have fin:∀{F:St} {H':Hp} {v:V} {u:yg},Inv (BE CX P w K mg base N qual scope f z A outer s H E) [] F H' s'->RelV v u->Q v H'->CE outer P w H s Q u s':=
  fun {F H' v u} J rv q=>⟨v,H',J.os,J.bare,J.base,J.hok,rv,q⟩
 cases fl with
 |ret u=>
  obtain⟨v,F,H',J,rv,q⟩:=O;exact fin J rv q
 |next=>
  obtain⟨F,H',J,q⟩:=O;exact fin (v:=V.non) (u:=Value.none) J rfl q
 |brk=>
  obtain⟨_,_,_,q⟩:=O;exact False.elim q
 |cont=>
  obtain⟨_,_,_,q⟩:=O;exact False.elim q
section
variable{X:Cx}{x:Str}{p pos:Pos}{e:Expr}{es:List Expr}{t:TA}{id T:String}{r:List V->Hp->VK->Prop}
def tCB(r:List V->Hp->VK->Prop)(t:TA):TE:=fun σ H Q=>t σ H fun vs H1=>r vs H1 Q
theorem TV(hc:Al X (.builtin id) r)(hg:Gl X x)(hm:X.mg x=none)(J:bootBuiltins x=some (.builtin id))(ha:PA X (e::es) t) (M:x≠"__name__":=by decide) (z:(x==("__debug__" : Str))=false:=by decide)
  (O:starEach (e::es) X.env=(false,eval e X.env)::starEach es X.env:=by rfl) (q:(backTo pos (starEach es X.env)).any (·.1)=false:=by rfl):PE X (.Call (.Name x p) (e::es) [] pos) (tCB r t):=by
 refine⟨?_⟩;intro pins s σ H Q I h;refine y3b (DW I hg hm J ?_ M z);exact PyProof.Rows.callWith_builtin1 (thn (ha pos pins s σ H _ I h) fun us B ⟨vs,H1,R,F,G⟩=>hc pins B σ H1 vs us Q R F G) O q
theorem TW(hc:Al X (.type T) r)(hg:Gl X x)(hm:X.mg x=none)(J:bootBuiltins x=some (.type T))(ha:PA X (e::es) t) (M:x≠"__name__":=by decide) (z:(x==("__debug__" : Str))=false:=by decide)
  (O:starEach (e::es) X.env=(false,eval e X.env)::starEach es X.env:=by rfl) (q:(backTo pos (starEach es X.env)).any (·.1)=false:=by rfl):PE X (.Call (.Name x p) (e::es) [] pos) (tCB r t):=by
 refine⟨?_⟩;intro pins s σ H Q I h;refine y3b (DW I hg hm J ?_ M z);exact y1u (thn (ha pos pins s σ H _ I h) fun us B ⟨vs,H1,R,F,G⟩=>hc pins B σ H1 vs us Q R F G) O q
end
end L2
namespace HT
open PySem PyProof.Rows
section
open PySem.SeqAt
open PySem.AutoSeq1 (wpAny_loadPart')
open PySem.MeetsSeq PySem.MeetsSeq2 PySem.MeetsSeq3
end
section
variable{prog:yq}{w:y0h}{A:y0n}{E:yg->ye->Prop}{s:ye}
theorem TX{Q:yg->ye->Prop}(ht:IsTup s.heap t vs.toArray)(hb:IsTup s.heap b ws.toArray)(U:vs≠[])
  (h1:ws=[]->Q (.ref t) s) (h2:ws≠[]->Q (.ref s.heap.objs.size) {s with heap:=s.heap.push {cls:=.type "tuple",data:=.seq (vs++ws).toArray}})
  (hsz:vs.length+ws.length<=ym):y0b (y06 prog w) A (binaryOp .Add (.ref t) (.ref b)) Q E s:=by
 obtain⟨⟨cls,Z,data,O⟩,M,hc,n,hd⟩:=id ht;obtain⟨⟨fc,J,data2,z⟩,q,G,R,B⟩:=id hb;simp only at hc hd G B;subst hc hd G B;have e:vs.toArray++ws.toArray=(vs++ws).toArray:=by simp
 by_cases hw:ws=[]
 ·exact concat_meets ⟨_,M,rfl⟩ ⟨_,q,rfl⟩ noFill_tuple_add seq_tuple_add y4h y46 (y3v _ _)
   (tuple_addW1 t b vs.toArray ws.toArray n R Z J O z (by simpa using U) (by simp[hw])) ⟨M,q,h1 hw⟩
 ·refine concat_meets ⟨_,M,rfl⟩ ⟨_,q,rfl⟩ noFill_tuple_add seq_tuple_add y4h y46 (y3v _ _)
   (tuple_addW2 t b vs.toArray ws.toArray n R Z J O z (by simpa using U) (by simpa using hw) (by rw[y07,y07]; exact hsz)) ⟨M,q,?_⟩
  rw[e];exact h2 hw
noncomputable def sIx(n d:Nat):Option Int->Nat
 |none=>d
 |some v=>if v<0 then(v+(n:Int)).toNat else min v.toNat n
theorem TY(n d:Nat)(hd:d<=n)(o:Option Int):sIx n d o<=n:=by
 cases o with
 |none=>exact hd
 |some v=>
  show(if v<0 then(v+(n:Int)).toNat else min v.toNat n)<=n;by_cases q:v<0
  ·rw[if_pos q]; lia
  ·rw[if_neg q]; exact Nat.min_le_right _ _
theorem NS(v:Int)(n d:Nat):(if v<0 then max (v+(n:Int)) 0 else min v (n:Int))=((sIx n d (some v):Nat):Int):=by
 show(if v<0 then max (v+(n:Int)) 0 else min v (n:Int))=(((if v<0 then(v+(n:Int)).toNat else min v.toNat n):Nat):Int);by_cases q:v<0
 ·simp only[if_pos q]; lia
 ·simp only[if_neg q]; lia
theorem TZ(lo hi:Option Int)(n:Nat):Builtin.Slice.sliceAdjust lo hi 1 (n:Int)=(((sIx n 0 lo:Nat):Int),((sIx n n hi:Nat):Int)):=by
 have h1:¬ ((1:Int)<0):=by lia
 unfold Builtin.Slice.sliceAdjust;simp only[h1,if_false];refine y4z ?_ ?_
 ·cases lo with
  |none=>rfl
  |some v=>exact NS v n 0
 ·cases hi with
  |none=>rfl
  |some v=>exact NS v n n
theorem Ta(i j:Nat):Builtin.Slice.slicePlaces (i:Int) (j:Int) 1=j-i:=by
 unfold Builtin.Slice.slicePlaces;have h1:(1:Int)>0:=by lia
 simp only[h1,if_true,Int.ediv_one];split<;>lia
theorem NU{Q:Option Int->ye->Prop}(p:IsPart v o)(h:Q o s):y0b (y06 prog w) A (Builtin.Slice.slicePartIndex v) Q E s:=by
 cases p with
 |none=>exact slicePart_none h
 |int i t=>exact slicePart_int h
theorem NV{G:Addr}{F B:yg}{lo hi:Option Int}{n:Nat}{Q:Int×Int×Nat->ye->Prop}(M:s.heap.IsSliceOf G F B .none)(pl:IsPart F lo)(J:IsPart B hi)
  (h:Q (((sIx n 0 lo:Nat):Int),1,sIx n n hi-sIx n 0 lo) s):y0b (y06 prog w) A (Builtin.Slice.sliceApplied (.ref G) (pure (n:Int))) Q E s:=by
 obtain⟨os,q,O,z⟩:=id M;unfold Builtin.Slice.sliceApplied Builtin.Slice.sliceFields;refine yb (yb (wpAny_field q z (x:=F) rfl (yb (wpAny_field q z (x:=B) rfl (yb (wpAny_field q z (x:=.none) rfl (yh ?_)))))));refine yb (slicePart_none ?_);show y0b _ _ (if((1:Int)==0)=true then _ else _) _ _ s;rw[if_neg (by decide)];refine yb (NU pl (yb (NU J (yb (yh ?_)))));show y0b _ _ (match Builtin.Slice.sliceAdjust lo hi 1 (n:Int) with|(lo,hi)=>pure (lo,(1:Int),Builtin.Slice.slicePlaces lo hi 1)) _ _ s;rw[TZ lo hi n];show y0b _ _ (pure (((sIx n 0 lo:Nat):Int),(1:Int),Builtin.Slice.slicePlaces ((sIx n 0 lo:Nat):Int) ((sIx n n hi:Nat):Int) 1)) _ _ s;rw[Ta];exact yh h
theorem Tb(xs:Array yg)(i k:Nat):((List.range k).filterMap fun(m:Nat)=>xs[((i:Int)+(m:Int)*1).toNat]?).toArray=((xs.toList.drop i).take k).toArray:=by
 have e:(fun(m:Nat)=>xs[((i:Int)+(m:Int)*1).toNat]?)=fun m=>xs[i+m]?:=by
  funext m;have:((i:Int)+(m:Int)*1).toNat=i+m:=by lia
  rw[this]
 rw[e];have:=pick_run xs i k;rw[List.filterMap_map] at this;have e2:((fun x=>xs[x]?) ∘ fun x=>i+x)=fun m=>xs[i+m]?:=rfl;rw[e2] at this;rw[this]
theorem Tc{t G:Addr}{z:Array yg}{Z U:yg}{lo hi:Option Int}{Q:yg->ye->Prop}(F:IsTup s.heap t z)(hs:s.heap.IsSliceOf G Z U .none)(pl:IsPart Z lo)(pu:IsPart U hi)
  (hw:¬ (sIx z.size 0 lo=0/\sIx z.size z.size hi=z.size))
  (h:Q (.ref s.heap.objs.size) {s with heap:=s.heap.push {cls:=.type "tuple",data:=.seq ((z.toList.drop (sIx z.size 0 lo)).take (sIx z.size z.size hi-sIx z.size 0 lo)).toArray}})
  (hsz:z.size<=ym):y0b (y06 prog w) A (getItem (.ref t) (.ref G)) Q E s:=by
 have B:sizeOk (.seq ((z.toList.drop (sIx z.size 0 lo)).take (sIx z.size z.size hi-sIx z.size 0 lo)).toArray):=by
  show((z.toList.drop (sIx z.size 0 lo)).take (sIx z.size z.size hi-sIx z.size 0 lo)).toArray.size<=ym;rw[y07,y04,y1v,yi];lia
 have hj:sIx z.size z.size hi<=z.size:=TY _ _ (yf _) hi;obtain⟨os,J,O,fc⟩:=id hs;have R:s.TypeIs (.ref G) "slice":=⟨os,J,O⟩;unfold getItem;try with_reducible refine y1z ?_
 first|refine yb (yh ?_)|skip
 refine yb (wpAny_sequenceKey F.typeIs (by decide) ?_);refine yb (y1c (name:=Str.ofString "__getitem__") F.typeIs y20
  (y0u y20 F.typeIs entry_tuple_getitem ?_ (args_tuple_getitem _ _)))
 show y0b _ _ (Builtin.Tuple.tupleItemsOf (.ref t) >>= _) _ _ s;refine yb (tupleItemsOf_ F ?_);refine yb (y59 R ?_);rw[if_pos (by decide)];refine yb (NV hs pl pu ?_);have M:¬ ((((sIx z.size 0 lo:Nat):Int)==0&&(1:Int)==1&&(sIx z.size z.size hi-sIx z.size 0 lo)==z.size)=true):=by
  intro q;rw[y05,y05] at q;have q1:((sIx z.size 0 lo:Nat):Int)=0:=eq_of_beq q.1.1;have q2:sIx z.size z.size hi-sIx z.size 0 lo=z.size:=eq_of_beq q.2;exact hw ⟨by lia,by lia⟩
 show y0b _ _ (if(((sIx z.size 0 lo:Nat):Int)==0&&(1:Int)==1&&(sIx z.size z.size hi-sIx z.size 0 lo)==z.size)=true then _ else _) _ _ s;rw[if_neg M,Tb];first
  |exact yb (m:=Builtin.Tuple.tupleExact _) (y3i (yh ⟨_,rfl,yh h⟩) B)
  |exact yb (m:=Builtin.Tuple.tupleExact _) (y3i (yb (yh (yh ⟨_,rfl,yh h⟩))) B)
  |exact yb (yb (m:=Builtin.Tuple.tupleExact _) (y3i (yh (yh ⟨_,rfl,yh h⟩)) B))
  |exact yb (yb (m:=Builtin.Tuple.tupleExact _) (y3i (yh ⟨_,rfl,yh h⟩) B))
end
end HT
namespace L2
open PySem PySem.Spec PyProof.Rows
abbrev TO:=St->Hp->(Option Int->Hp->Prop)->Prop
abbrev POv(X:Cx)(e:Option Expr)(t:TO):Prop:=
 ∀(pins:List (Addr×Obj)) (s:ye) (σ:St) (H:Hp) (Q:Option Int->Hp->Prop),Inv X pins σ H s->t σ H Q->
  y0b (y06 X.prog X.w) X.A (evalPart e X.env) (fun u s'=>∃o H',Inv X pins σ H' s'/\IsPart u o/\Q o H') X.xe s
structure PO(X:Cx)(e:Option Expr)(t:TO):Prop where
 run:POv X e t
instance{X:Cx}{e:Option Expr}{t:TO}:CoeFun (PO X e t) (fun _=>POv X e t):=⟨PO.run⟩
def Gx:TO:=fun _ H Q=>Q none H
def Gy(t:TE):TO:=fun σ H Q=>t σ H fun x H1=>isI x fun i=>Q (some i) H1
theorem Jj:∀{us:List yg},Vals (ns.map V.int) us->IntsAre us ns:=by
 induction ns with
 |nil=>intro us r; rw[y2f] at r; cases r; exact .nil
 |cons n ns B=>
  intro us r;rw[yj] at r;cases r with
  |cons z q=>
   obtain⟨t,e⟩:=z;subst e;exact .cons n t (B q)
section
variable{X:Cx}{e:Expr}{te:TE}{lo hi:Option Expr}{tl th:TO}{pos p2:Pos}
theorem NW:PO X none Gx:=by
 refine⟨?_⟩;intro pins s σ H Q I h;rw[evalPart_none];exact yh ⟨none,H,I,.none,h⟩
theorem NX(h:PE X e te):PO X (some e) (Gy te):=by
 refine⟨?_⟩;intro pins s σ H Q I hw;rw[evalPart_some];refine thn (h pins s σ H _ I hw) fun u G ⟨x,H1,F,z,B⟩=>?_;obtain⟨i,rfl,q⟩:=isI.o B;obtain⟨t,rfl⟩:=z;exact⟨some i,H1,F,.int i t,q⟩
def SlR(X:Cx)(r:V->Option Int->Option Int->Hp->VK->Prop):Prop:=
 ∀(pins:List (Addr×Obj)) (s:ye) (σ:St) (H:Hp) (x:V) (v z q:yg) (lo hi:Option Int) (B:Addr) (Q:VK),Inv X pins σ H s->RelV x v->s.heap.IsSliceOf B z q .none->IsPart z lo->IsPart q hi->r x lo hi H Q->
  ∃T id,typeLookup (.type T) "__getitem__" = pure (some (.builtin id))/\s.TypeIs v T/\y0b (y06 X.prog X.w) X.A (getItem v (.ref B)) (EP X pins σ Q) X.xe s
def tSl(r:V->Option Int->Option Int->Hp->VK->Prop)(te:TE)(tl th:TO):TE:=fun σ H Q=>te σ H fun x H1=>tl σ H1 fun l H2=>th σ H2 fun u q=>r x l u q Q
theorem NY{r:V->Option Int->Option Int->Hp->VK->Prop}(hr:SlR X r)(he:PE X e te)(hl:PO X lo tl)(hu:PO X hi th):PE X (.Subscript e (.Slice lo hi none p2) pos) (tSl r te tl th):=by
 refine⟨?_⟩;intro pins s σ H Q I h;refine Subscript_ (thn (he pins s σ H _ I h) fun v M ⟨x,H1,I1,O,Z⟩=>?_);refine wpAny_Slice (thn (hl pins M σ H1 _ I1 Z) fun F J ⟨l,H2,I2,pl,U⟩=>thn (hu pins J σ H2 _ I2 U) fun B z ⟨u,G,I3,pu,R⟩=>?_);rw[evalPart_none];refine yh ?_;have I4:Inv X pins σ G {z with heap:=z.heap.push {cls:=.type "slice",data:=.fields #[F,B,.none]}}:=I3.kept (t':=z.toks) fun b ob q=>yd _ q;obtain⟨T,id,hT,ht,hg⟩:=hr pins {z with heap:=z.heap.push {cls:=.type "slice",data:=.fields #[F,B,.none]}} σ G x v F B l u z.heap.objs.size Q I4 O (Heap.IsSliceOf.new ..) pl pu R;show y0b (y06 X.prog X.w) X.A (subscriptTail e (.Slice lo hi none p2) v (.ref z.heap.objs.size)) (EP X pins σ Q) X.xe {z with heap:=z.heap.push {cls:=.type "slice",data:=.fields #[F,B,.none]}};exact tail_any (ops:=[.ref z.heap.objs.size,v]) ht hT hg (by with_unfolding_all rfl)
noncomputable def D1(xs:List V)(lo hi:Option Int):List V:=(xs.drop (HT.sIx xs.length 0 lo)).take (HT.sIx xs.length xs.length hi-HT.sIx xs.length 0 lo)
theorem Td(xs:List V)(lo hi:Option Int):(D1 xs lo hi).length<=xs.length:=by
 unfold D1;rw[y04,y1v];lia
def Gz(K:ya):V->Option Int->Option Int->Hp->VK->Prop:=fun x lo hi H Q=>∃a xs,x=.ref a/\SqT K H a xs/\
 ¬ (HT.sIx xs.length 0 lo=0/\HT.sIx xs.length xs.length hi=xs.length)/\∀p,H p=none->Q (.ref p) (upd H p (.tup (D1 xs lo hi)))
theorem Te:SlR X (Gz X.K):=by
 intro pins s σ H x v R O lo hi U Q I G M pl J h;obtain⟨a,xs,rfl,hx,hw,q⟩:=h;cases G;obtain⟨B,r,F,hz⟩:=I.tuple hx;have z:B.toArray.size=xs.length:=by rw[y07]; exact r.length.symm
 refine⟨"tuple",_,PyProof.Rows.slot_tuple_getitem.lookup,F.typeIs,?_⟩;refine HT.Tc F M pl J (by rw[z]; exact hw) ?_ (by rw[z]; exact hz);rw[z];refine⟨.ref s.heap.objs.size,_,I.laid (t':=s.toks) (o:=.tup (D1 xs lo hi)) (fun b Z q=>yd _ q) (yf _) ?_,rfl,q _ (I.hok.fresh (yf _))⟩;exact⟨y0j (Td xs lo hi) hz,_,(r.drop (HT.sIx xs.length 0 lo)).take (HT.sIx xs.length xs.length hi-HT.sIx xs.length 0 lo),IsTup.new _ _⟩
def Tf(K:ya):R2:=fun x y H Q=>∃a b xs ys,x=.ref a/\y=.ref b/\SqT K H a xs/\SqT K H b ys/\xs≠[]/\xs.length+ys.length<=ym/\
 (ys=[]->Q (.ref a) H)/\(ys≠[]->∀p,H p=none->Q (.ref p) (upd H p (.tup (xs++ys))))
theorem Vals.nil_iff(r:Vals xs us):us=[]↔xs=[]:=by
 cases r with
 |nil=>simp
 |cons _ _=>simp
theorem Tg:OpR X (binaryOp .Add) (Tf X.K):=by
 intro pins s σ H x y v u Q I M J h;obtain⟨a,b,xs,ys,rfl,rfl,ha,hb,hx,hz,R,O⟩:=h;cases M;cases J;obtain⟨Z,F,U,_⟩:=I.tuple ha;obtain⟨G,B,p2,_⟩:=I.tuple hb;refine HT.TX U p2 (fun z=>hx (F.nil_iff.mp z)) (fun z=>⟨.ref a,H,I,rfl,R (B.nil_iff.mp z)⟩) (fun z=>?_) (by rw[<- F.length,<- B.length]; exact hz);refine⟨.ref s.heap.objs.size,_,I.laid (t':=s.toks) (o:=.tup (xs++ys)) (fun b ob q=>yd _ q) (yf _) ?_,rfl,O (fun w=>z (B.nil_iff.mpr w)) _ (I.hok.fresh (yf _))⟩;exact⟨by rw[yc]; exact hz,_,F.append B,IsTup.new _ _⟩
noncomputable def ixN(n:Nat)(i:Int):Option Nat:=if 0<=i then(if i<n then some i.toNat else none) else if -(n:Int)<=i then some (i+n).toNat else none
noncomputable def atI{α:Type}(xs:List α)(i:Int):Option α:=(ixN xs.length i).bind fun j=>xs[j]?
end
theorem Th(h:ixN n i=some j):seqIndex? i n=some j/\j<n/\-(n:Int)<=i/\i<n:=by
 unfold ixN at h;by_cases q:0<=i
 ·rw[if_pos q] at h;by_cases h1:i<n
  ·rw[if_pos h1] at h;have e:i.toNat=j:=y0l h;exact⟨by rw[seqIndex_of q h1,e],by lia,by lia,h1⟩
  ·rw[if_neg h1] at h; cases h
 ·rw[if_neg q] at h;by_cases h1 : -(n:Int)<=i
  ·rw[if_pos h1] at h;have e:(i+n).toNat=j:=y0l h;exact⟨by rw[seqIndex_neg (by lia) h1,e],by lia,h1,by lia⟩
  ·rw[if_neg h1] at h; cases h
theorem Jk{α:Type}{xs:List α}{i:Int}{v:α}(h:atI xs i=some v):∃j,seqIndex? i xs.length=some j/\xs[j]?=some v/\j<xs.length/\-(xs.length:Int)<=i/\i<xs.length:=by
 unfold atI at h;cases e:ixN xs.length i with
 |none=>rw[e] at h; cases h
 |some j=>
  rw[e] at h;obtain⟨h1,h2,z,q⟩:=Th e;exact⟨j,h1,h,h2,z,q⟩
theorem AV{α:Type}{xs:List α}{j:Nat}{v:α}(h:xs[j]?=some v):atI xs (j:Int)=some v:=by
 have q:j<xs.length:=(zzS h).1;have e:ixN xs.length (j:Int)=some j:=by
  unfold ixN;rw[if_pos (by lia),if_pos (by lia)]; simp
 unfold atI; rw[e]; exact h
def Ti(b:Expr):Prop:=∀o i,subscripted b false o i=operate [o,i] (getItem o i)
def IxR(X:Cx)(r:R2):Prop:=
 ∀(value q:Expr) (pins:List (Addr×Obj)) (s:ye) (σ:St) (H:Hp) (x y:V) (v u:yg) (Q:VK),Inv X pins σ H s->RelV x v->RelV y u->r x y H Q->
  subscripted q false v u=operate [v,u] (getItem v u)->y0b (y06 X.prog X.w) X.A (subscriptTail value q v u) (EP X pins σ Q) X.xe s
def MtR(X:Cx)(id:String)(r:V->List V->Hp->VK->Prop):Prop:=
 ∀(pins:List (Addr×Obj)) (s:ye) (σ:St) (H:Hp) (x:V) (xs:List V) (v:yg) (us:List yg) (Q:VK),Inv X pins σ H s->RelV x v->Vals xs us->r x xs H Q->
  y0b (y06 X.prog X.w) X.A (call (.builtin id) (v::us)) (EP X pins σ Q) X.xe s
section
variable{X:Cx}{a b:Expr}{ta tb:TE}{pos:Pos}
theorem IxR.or(h:IxR X r)(h':IxR X r'):IxR X (fun x y H Q=>r x y H Q\/r' x y H Q):=by
 intro value z pins s σ H x y v u Q I F B q G;rcases q with q|q
 ·exact h value z pins s σ H x y v u Q I F B q G
 ·exact h' value z pins s σ H x y v u Q I F B q G
theorem A9(hr:IxR X r)(ha:PE X a ta)(hb:PE X b tb)(G:Ti b):PE X (.Subscript a b pos) (tOp r ta tb):=by
 refine⟨?_⟩;intro pins s σ H Q I h;exact Subscript_ (JY ha hb I h fun v u z x y H2 J F B q=>hr a b pins z σ H2 x y v u Q J F B q (G _ _))
def FM(K:ya):R2:=fun x y H Q=>isRf x fun p=>∃xs,isI y fun i=>SqL K H p xs/\∃v,atI xs i=some v/\Q v H
def CM(K:ya):R2:=fun x y H Q=>isRf x fun p=>∃xs,isI y fun i=>SqT K H p xs/\∃v,atI xs i=some v/\Q v H
def FN:R2:=fun x y H Q=>∃z i c,x=.str z/\y=.int i/\z.length<=ym/\atI z.cps.toList i=some c/\Q (.str ⟨#[c]⟩) H
theorem ix_list:IxR X (FM X.K):=by
 intro value B pins s σ H x y v u Q I Z U h M;obtain⟨p,rfl,xs,hA⟩:=isRf.o h;obtain⟨i,rfl,hq,z,he,q⟩:=isI.o hA;cases Z;obtain⟨t,rfl⟩:=U;obtain⟨G,r,pl,hz⟩:=I.list hq;obtain⟨j,h1,h2,h3,h4,h5⟩:=Jk he;obtain⟨w,R,F⟩:=r.get h2;have hl:=r.length;have hn:=FL;have fin:EP X pins σ Q w s:=⟨z,H,I,F,q⟩;by_cases O:0<=i
 ·have J:i.toNat=j:=by
   rw[seqIndex_of O h5] at h1;exact y0l h1
  exact item_listR pl.isList O (by lia) (by rw[J]; simpa using R) fin M
 ·have J:(i+(G.toArray.size:Int)).toNat=j:=by
   rw[seqIndex_neg (by lia) h4] at h1;rw[y07,<- hl];exact y0l h1
  exact subscriptTail_builtinR (x:=w) pl.isList.typeIs slot_list_getitem.lookup
   (wpAny_getItem_list_neg (Q:=fun r s'=>r=w/\EP X pins σ Q r s') pl.isList (by lia) (by rw[y07]<;>lia) (by lia) (by rw[J]; simpa using R) ⟨rfl,fin⟩) M
theorem ix_tup:IxR X (CM X.K):=by
 intro value B pins s σ H x y v u Q I J G h O;obtain⟨p,rfl,xs,Z⟩:=isRf.o h;obtain⟨i,rfl,hq,z,U,q⟩:=isI.o Z;cases J;obtain⟨t,rfl⟩:=G;obtain⟨M,r,pl,hz⟩:=I.tuple hq;obtain⟨j,h1,h2,h3,h4,h5⟩:=Jk U;obtain⟨w,ew,F⟩:=r.get h2;have R:=r.length;have hn:=FL;have fin:EP X pins σ Q w s:=⟨z,H,I,F,q⟩;exact subscriptTail_builtinR (x:=w) pl.typeIs slot_tuple_getitem.lookup
  (getItem_tuple (j:=j) (Q:=fun r s'=>r=w/\EP X pins σ Q r s') pl (by lia) (by lia) (by rw[y07,<- R]; exact h1) (by simpa using ew) ⟨rfl,fin⟩) O
theorem Tj:IxR X FN:=by
 intro value B pins s σ H x y v u Q I G F h J;obtain⟨z,i,c,rfl,rfl,hz,O,q⟩:=h;obtain⟨t,rfl⟩:=G;obtain⟨t',rfl⟩:=F;obtain⟨j,h1,h2,h3,U,R⟩:=Jk O;have M:z.cps.toList.length=z.length:=by simp[Str.length]
 rw[M] at h1 U R;have hn:=FL;exact tail_any (typeIs_str s z t) slot_str_getitem.lookup (getItem_str (c:=c) (by
  have Z:decide (i < -(2^63:Int))=false:=decide_eq_false (by lia)
  have e2:decide (i ≥ 2^63)=false:=decide_eq_false (by lia)
  rw[Z,e2,Bool.or_false]) (by rw[h1]; simpa using h2) ⟨.str ⟨#[c]⟩,H,I.tok _,⟨_,rfl⟩,q⟩) J
def rIx(K:ya):R2:=fun x y H Q=>FM K x y H Q\/CM K x y H Q\/FN x y H Q
theorem Tk:IxR X (rIx X.K):=ix_list.or (ix_tup.or Tj)
def Jl(K:ya):V->Option Int->Option Int->Hp->VK->Prop:=fun x lo hi H Q=>∃a xs,x=.ref a/\SqL K H a xs/\∀p,H p=none->Q (.ref p) (upd H p (.lst (D1 xs lo hi)))
noncomputable def BF:V->Bool
 |.non=>true
 |.bl _=>true
 |.int _=>true
 |.str _=>true
 |_=>false
noncomputable def eqV:V->V->Bool
 |.non,.non=>true
 |.bl a,.bl b=>a==b
 |.bl a,.int b=>(if a then 1 else 0)==b
 |.int a,.bl b=>a==(if b then 1 else 0)
 |.int a,.int b=>a==b
 |.str a,.str b=>a==b
 |_,_=>false
theorem Tl(z:RelV y u)(q:RelV x v)(F:BF y=true)(B:BF x=true):SeqAt.EqAt A s u v (eqV y x):=by
 cases y with
 |non=>
  cases z;cases x with
  |non=>cases q; exact SeqAt.EqAt.same _
  |bl b=>cases q; exact SeqAt.EqAt.none_bool b
  |int b=>obtain⟨t,rfl⟩:=q; exact SeqAt.EqAt.none_int b t
  |str b=>obtain⟨t,rfl⟩:=q; exact SeqAt.EqAt.none_str b t
  |_=>exact absurd (show false=true from B) yx
 |bl a=>
  cases z;cases x with
  |non=>cases q; exact SeqAt.EqAt.bool_none a
  |bl b=>cases q; exact SeqAt.EqAt.bool_bool a b
  |int b=>obtain⟨t,rfl⟩:=q; exact SeqAt.EqAt.bool_int a b t
  |str b=>obtain⟨t,rfl⟩:=q; exact SeqAt.EqAt.bool_str a b t
  |_=>exact absurd (show false=true from B) yx
 |int a=>
  obtain⟨t',rfl⟩:=z;cases x with
  |non=>cases q; exact SeqAt.EqAt.int_none a t'
  |bl b=>cases q; exact SeqAt.EqAt.int_bool a t' b
  |int b=>obtain⟨t,rfl⟩:=q; exact SeqAt.EqAt.int_int a t' b t
  |str b=>obtain⟨t,rfl⟩:=q; exact SeqAt.EqAt.int_str a t' b t
  |_=>exact absurd (show false=true from B) yx
 |str a=>
  obtain⟨t',rfl⟩:=z;cases x with
  |non=>cases q; exact SeqAt.EqAt.str_none a t'
  |bl b=>cases q; exact SeqAt.EqAt.str_bool a t' b
  |int b=>obtain⟨t,rfl⟩:=q; exact SeqAt.EqAt.str_int a t' b t
  |str b=>obtain⟨t,rfl⟩:=q; exact SeqAt.EqAt.str_str a t' b t
  |_=>exact absurd (show false=true from B) yx
 |_=>exact absurd (show false=true from F) yx
noncomputable def eqU(x:V)(u:yg):Bool:=match u with
 |.none=>eqV .non x
 |.bool b=>eqV (.bl b) x
 |.int i _=>eqV (.int i) x
 |.str z _=>eqV (.str z) x
 |_=>false
theorem NZ(r:RelV y u)(f:BF y=true):eqU x u=eqV y x:=by
 cases y with
 |non=>cases r; rfl
 |bl b=>cases r; rfl
 |int i=>obtain⟨t,rfl⟩:=r; rfl
 |str z=>obtain⟨t,rfl⟩:=r; rfl
 |_=>exact absurd (show false=true from f) yx
theorem FO:∀{xs:List V} {us:List yg},Vals xs us->xs.all BF=true->us.any (eqU x)=xs.any fun y=>eqV y x
 |_,_,.nil,_=>rfl
 |y::xs,u::us,.cons r t,f=>by
  rw[y5g,y05] at f;rw[y24,y24,NZ r f.1,FO t f.2]
theorem FP(q:RelV x v)(z:BF x=true):∀{xs:List V} {us:List yg},Vals xs us->xs.all BF=true->∀u∈us,SeqAt.EqAt A s u v (eqU x u)
 |_,_,.nil,_=>fun u hu=>by cases hu
 |y::xs,u::us,.cons r t,f=>fun B hu=>by
  rw[y5g,y05] at f;rcases List.mem_cons.mp hu with rfl|hu
  ·rw[NZ r f.1]; exact Tl r q f.1 z
  ·exact FP q z t f.2 B hu
noncomputable def inV(x:V)(xs:List V):Bool:=xs.any fun y=>eqV y x
def rIn(K:ya)(neg:Bool):R2:=fun x y H Q=>∃p xs,y=.ref p/\(SqL K H p xs\/SqT K H p xs)/\BF x=true/\xs.all BF=true/\Q (.bl (if neg then !inV x xs else inV x xs)) H
theorem Tm:OpR X (y0t .In) (rIn X.K false):=by
 intro pins s σ H x y v u Q I B G h;obtain⟨p,xs,rfl,hq,F,fs,q⟩:=h;cases G;rcases hq with hq|hq
 ·obtain⟨z,r,pl,hz⟩:=I.list hq;refine SeqAt.in_listAt (eqU x) pl.isList (fun w hw=>FP B F r fs w (by simpa using hw)) ⟨.bl _,H,I,rfl,?_⟩;rw[show z.toArray.any (eqU x)=z.any (eqU x) by simp,FO r fs];exact q
 ·obtain⟨z,r,pl,hz⟩:=I.tuple hq;refine SeqAt.in_tupleAt (eqU x) pl (fun w hw=>FP B F r fs w (by simpa using hw)) ⟨.bl _,H,I,rfl,?_⟩;rw[show z.toArray.any (eqU x)=z.any (eqU x) by simp,FO r fs];exact q
theorem Tn:OpR X (y0t .NotIn) (rIn X.K true):=by
 intro pins s σ H x y v u Q I B G h;obtain⟨p,xs,rfl,hq,F,fs,q⟩:=h;cases G;rcases hq with hq|hq
 ·obtain⟨z,r,pl,hz⟩:=I.list hq;refine SeqAt.notIn_listAt (eqU x) pl.isList (fun w hw=>FP B F r fs w (by simpa using hw)) ⟨.bl _,H,I,rfl,?_⟩;rw[show z.toArray.any (eqU x)=z.any (eqU x) by simp,FO r fs];exact q
 ·obtain⟨z,r,pl,hz⟩:=I.tuple hq;refine SeqAt.notIn_tupleAt (eqU x) pl (fun w hw=>FP B F r fs w (by simpa using hw)) ⟨.bl _,H,I,rfl,?_⟩;rw[show z.toArray.any (eqU x)=z.any (eqU x) by simp,FO r fs];exact q
theorem To:OpR X (y0t .NotIn) (fun x y H Q=>∃i j,x=.str i/\y=.str j/\Q (.bl (!(!(Builtin.Str.occurrences j i 0 j.length 1).isEmpty))) H):=by
 intro pins s σ H x y v u Q I B z h;obtain⟨i,j,rfl,rfl,q⟩:=h;obtain⟨t,rfl⟩:=B;obtain⟨t',rfl⟩:=z;exact notIn_str ⟨.bl _,H,I,rfl,q⟩
theorem Tp:Al X (.builtin "len") (fun xs H Q=>∃p ys,xs=[.ref p]/\(SqL X.K H p ys\/SqT X.K H p ys)/\Q (.int ys.length) H):=by
 intro pins s σ H xs us Q I r h;obtain⟨p,ys,rfl,hq,q⟩:=h;obtain⟨u,rfl,G⟩:=JZ r;cases G;have J:=FL;rcases hq with hq|hq
 ·obtain⟨F,B,pl,hz⟩:=I.list hq;have z:=B.length;exact Calls.call_len_list pl.isList (by simp only[y07]<;>lia) ⟨.int ys.length,H,I.tok _,⟨s.toks+1,by rw[y07,z]⟩,q⟩
 ·obtain⟨F,B,pl,hz⟩:=I.tuple hq;have z:=B.length;exact len_tuple pl (by simp only[y07]<;>lia) ⟨.int ys.length,H,I.tok _,⟨s.toks+1,by rw[y07,z]⟩,q⟩
theorem Tq:Al X (.builtin "len") (fun xs H Q=>∃z,xs=[.str z]/\z.length<=ym/\Q (.int z.length) H):=by
 intro pins s σ H xs us Q I r h;obtain⟨z,rfl,hz,q⟩:=h;obtain⟨u,rfl,t,rfl⟩:=JZ r;have B:=FL;exact len_str (by lia) ⟨.int z.length,H,I.tok _,⟨_,rfl⟩,q⟩
theorem HA:Al X (.type "tuple") (fun xs H Q=>∃p ys,xs=[.ref p]/\((SqL X.K H p ys/\∀l,H l=none->Q (.ref l) (upd H l (.tup ys)))\/(SqT X.K H p ys/\Q (.ref p) H))):=by
 intro pins s σ H xs us Q I r h;obtain⟨p,ys,rfl,h⟩:=h;obtain⟨u,rfl,J⟩:=JZ r;cases J;rcases h with⟨hq,q⟩|⟨hq,q⟩
 ·obtain⟨z,B,pl,hz⟩:=I.list hq;have F:=B.length;refine call_tuple_list pl.isList (fun h' M=>?_) (by simp only[y07]<;>lia);have G:Inv X pins σ H {s with heap:=h'}:=I.kept (t':=s.toks) M;have O:Inv X pins σ (upd H h'.objs.size (.tup ys)) {s with heap:=h'.push {cls:=.type "tuple",data:=.seq z.toArray}}:=
   G.laid (t':=s.toks) (fun b o e=>yd _ e) (yf _) (show ObjOk X.prog X.w _ _ _ (.tup ys) from⟨hz,z,B,IsTup.new _ _⟩)
  exact⟨.ref h'.objs.size,_,O,rfl,q _ (G.hok.fresh (yf _))⟩
 ·obtain⟨z,B,pl,hz⟩:=I.tuple hq;exact call_tuple_same pl ⟨.ref p,H,I,rfl,q⟩
def tyV(K:ya)(T:String)(x:V)(H:Hp):Prop:=match x with
 |.str _=>T = "str"
 |.int _=>T = "int"
 |.ref p=>(T = "list"/\∃xs,SqL K H p xs)\/(T = "tuple"/\∃o,K.lookup p=some o/\o.cls=.type "tuple"/\o.dict=none)\/
   (T = "dict"/\((∃kvs,H p=some (.dK kvs))\/∃kvs,H p=some (.dT kvs)))\/(T = "set"/\∃S n,H p=some (.set S n))
 |_=>False
theorem Tr(I:Inv X pins σ H s)(r:RelV x v)(ty:tyV X.K T x H) :
  s.TypeIs v T/\∀a,v=.ref a->∃q,s.heap.get? a=some q/\q.dict=none:=by
 cases x with
 |str z=>
  obtain⟨t,rfl⟩:=r;cases (show T = "str" from ty);exact⟨typeIs_str s z t,fun _ e=>nomatch e⟩
 |int i=>
  obtain⟨t,rfl⟩:=r;cases (show T = "int" from ty);exact⟨typeIs_int s i t,fun _ e=>nomatch e⟩
 |ref p=>
  cases r;rcases ty with⟨rfl,xs,hq⟩|⟨rfl,o,hk,hc,hd⟩|⟨rfl,hk⟩|⟨rfl,S,n,hk⟩
  ·obtain⟨B,_,pl,_⟩:=I.list hq;refine⟨pl.isList.typeIs,fun a e=>?_⟩;cases e;obtain⟨o,n,e,c,hd,_⟩:=pl;exact⟨o,e,hd⟩
  ·refine⟨⟨o,I.kIn p o hk,hc⟩,fun a e=>?_⟩;cases e;exact⟨o,I.kIn _ o hk,hd⟩
  ·have z:∃o,s.heap.get? p=some o/\o.ExactDict:=by
    rcases hk with⟨kvs,hk⟩|⟨kvs,hk⟩
    ·obtain⟨_,_,_,_,o,_,_,e,ex,_⟩:=I.hok p _ hk;exact⟨o,e,ex⟩
    ·obtain⟨_,_,_,_,o,_,_,e,ex,_⟩:=I.hok p _ hk;exact⟨o,e,ex⟩
   obtain⟨o,e,ex⟩:=z;refine⟨⟨o,e,ex.1⟩,fun a e2=>?_⟩;cases e2;exact⟨o,e,ex.2.1⟩
  ·obtain⟨o,_,_,_,e,ex,_⟩:=I.hok p _ hk;refine⟨⟨o,e,ex.1⟩,fun a e2=>?_⟩;cases e2;exact⟨o,e,ex.2.1⟩
 |_=>exact False.elim ty
def tBM(K:ya)(T:String)(r:V->List V->Hp->VK->Prop)(to:TE)(t:TA):TE:=fun σ H Q=>to σ H fun x H1=>tyV K T x H1/\t σ H1 fun xs H2=>r x xs H2 Q
variable{o e:Expr}{es:List Expr}{to:TE}{t:TA}{name:Str}{apos cpos:Pos}{T id:String}{r:V->List V->Hp->VK->Prop}
theorem BQ(pa:PlainAttrs T)(F:Slot T name id) (J:typeOf (.builtin id)=pure (.type "method_descriptor")) (hm:MtR X id r) (ho:PE X o to) (ha:PA X (e::es) t)
  (B:attributeBase o name X.env (eval o X.env)=eval o X.env:=by rfl)
  (G:((backTo cpos (starEach (e::es) X.env)).all (fun x=>!x.1)&&(backToKw cpos (keywordEach [] X.env)).all (fun x=>x.1.isSome)
   && decide ((e::es).length+([]:List Keyword).length+(if([]:List Keyword).isEmpty then 0 else 1)<30))=true:=by rfl)
  (z:(apos.endLine==cpos.line)=true:=by rfl) (hs:starEach (e::es) X.env=(false,eval e X.env)::starEach es X.env:=by rfl) (q:(backTo cpos (starEach es X.env)).any (·.1)=false:=by rfl) :
  PE X (.Call (.Attribute o name apos) (e::es) [] cpos) (tBM X.K T r to t):=by
 refine⟨?_⟩;intro pins s σ H Q I h;refine wpAny_Call_method_late B G z rfl (thn (ho pins s σ H _ I h) fun v Z ⟨x,H1,R,M,ty,q1⟩=>?_);obtain⟨h1,h2⟩:=Tr R M ty;refine⟨T,id,pa,F,J,h1,h2,?_⟩;have O:=ha cpos pins Z σ H1 _ R q1;rw[hs] at O |-;refine y1y (by show(false || (backTo cpos (starEach es X.env)).any (·.1))=false; rw[q]<;>rfl) (y2q ?_);exact thn O fun us U ⟨vs,H2,I2,r2,q2⟩=>hm pins U σ H2 x vs v us Q I2 M r2 q2
end
def MtM(X:Cx)(id:String)(r:V->List V->Hp->VK->Prop):Prop:=
 ∀(pins:List (Addr×Obj)) (s:ye) (σ:St) (H:Hp) (x:V) (xs:List V) (v:yg) (us:List yg) (Q:VK),Inv X pins σ H s->RelV x v->Vals xs us->r x xs H Q->
  y0b (y06 X.prog X.w) X.A (call (.builtin id) (v::us)) (EP X pins σ Q) X.xe s
theorem Vals.one:∀{x:V} {us:List yg},Vals [x] us->∃u,us=[u]/\RelV x u
 |_,_,h=>by
  rcases h with _|⟨r,t⟩;cases t;exact⟨_,rfl,r⟩
theorem Vals.two:∀{x y:V} {us:List yg},Vals [x,y] us->∃u v,us=[u,v]/\RelV x u/\RelV y v
 |_,_,_,h=>by
  rcases h with _|⟨r,t⟩;rcases t with _|⟨q,t⟩;cases t;exact⟨_,_,rfl,r,q⟩
section
variable{X:Cx}{pins:List (Addr×Obj)}{σ:St}{H:Hp}{s:ye}{l b:Addr}{xs ys zs:List V}
theorem Inv.lset{z its':List yg}{n:Nat}{f:Array yg->Array yg}{t':Nat}(I:Inv X pins σ H s)(F:H l=some (.lst xs))
  (e:s.heap.get? l=some {cls:=.type "list",data:=.seq z.toArray n}) (hf:f z.toArray=its'.toArray) (B:Vals ys its') (hz:ys.length<=ym) :
  Inv X pins σ (upd H l (.lst ys)) {s with heap:=s.heap.update l (Obj.mapSeq f),toks:=t'}:=by
 have q:=PySem.IsL.update e f;rw[hf] at q;refine I.write (x:=l) (e:=l) (by rw[F]; exact trivial) (.inl rfl) (fun G u hb hu=>(Heap.get?_update_other s.heap (Obj.mapSeq f) (y1k hb)).trans hu) ⟨_,q⟩ ?_;exact⟨hz,its',_,B,q⟩
theorem Inv.lnew{t':Nat}(I:Inv X pins σ H s)(z:Vals ys its)(hz:ys.length<=ym) :
  Inv X pins σ (upd H s.heap.objs.size (.lst ys)) {s with heap:=s.heap.push {cls:=.type "list",data:=.seq its.toArray},toks:=t'}:=
 I.laid (fun _ _ q=>yd _ q) (yf _) ⟨hz,its,0,z,yt _ rfl⟩
theorem Inv.fresh(I:Inv X pins σ H s):H s.heap.objs.size=none:=I.hok.fresh (yf _)
theorem Inv.lstM(I:Inv X pins σ H s)(B:H l=some (.lst xs)):xs.length<=ym/\∃(q:List yg) (n:Nat),Vals xs q/\xs.length=q.length/\s.heap.get? l=some {cls:=.type "list",data:=.seq q.toArray n}:=by
 obtain⟨z,q,n,r,e⟩:=I.hok l _ B;exact⟨z,q,n,r,r.length,e⟩
theorem Ts(h:n<=ym):Builtin.List.listTooLong n=false:=by
 unfold Builtin.List.listTooLong;exact decide_eq_false (by lia)
end
section
variable{X:Cx}
def HB:V->List V->Hp->VK->Prop:=fun x vs H Q=>∃l xs y,x=.ref l/\vs=[y]/\H l=some (.lst xs)/\xs.length<ym/\Q .non (upd H l (.lst (xs++[y])))
theorem C9:MtM X "list.append" HB:=by
 intro pins s σ H x vs v us Q I J M h;obtain⟨l,xs,y,rfl,rfl,G,hz,q⟩:=h;cases J;obtain⟨u,rfl,O⟩:=M.one;obtain⟨z,B,n,r,R,e⟩:=I.lstM G;refine call_meets F.slot_list_append ⟨_,e,rfl⟩ F.entry_list_append (F.args_list_append_2 _ _) (PySem.list_append l B.toArray n u (by rw[y07]; lia)) ⟨e,?_⟩;refine⟨.non,_,I.lset (its':=B++[u]) G e (by simp) (r.append (.cons O .nil)) ?_,rfl,q⟩;rw[yc,y0d];lia
def FQ:V->List V->Hp->VK->Prop:=fun x vs H Q=>∃l b xs zs,x=.ref l/\vs=[.ref b]/\H l=some (.lst xs)/\H b=some (.lst zs)/\xs.length+zs.length<=ym/\Q .non (upd H l (.lst (xs++zs)))
theorem FR:MtM X "list.extend" FQ:=by
 intro pins s σ H x vs v us Q I O R h;obtain⟨l,b,xs,zs,rfl,rfl,M,hB,hz,q⟩:=h;cases O;obtain⟨u,rfl,U⟩:=R.one;cases U;obtain⟨z,G,n,r,hl,e⟩:=I.lstM M;obtain⟨z2,B,n2,Z,fc,e2⟩:=I.lstM hB;have hsz:G.toArray.size+B.toArray.size<=ym:=by rw[y07,y07]; lia
 have J:¬ (!G.toArray.isEmpty&&Builtin.List.listTooLong (G.toArray.size+B.toArray.size))=true:=by
  rw[Ts hsz,Bool.and_false];exact yx
 refine call_meets F.slot_list_extend ⟨_,e,rfl⟩ F.entry_list_extend (F.args_list_extend_2 _ _)
  (AutoSeq1.list_extend_list_list_0 l G.toArray n b B.toArray n2 J (by rw[y07]; lia) (by lia)) ⟨e,e2,?_⟩
 refine⟨.non,_,I.lset (its':=G++B) M e (by simp) (r.append Z) ?_,rfl,q⟩;rw[yc];lia
def HC:R2:=fun x y H Q=>∃l b xs zs,x=.ref l/\y=.ref b/\H l=some (.lst xs)/\H b=some (.lst zs)/\xs.length+zs.length<=ym/\∀p,H p=none->Q (.ref p) (upd H p (.lst (xs++zs)))
theorem HD:OpR X (binaryOp .Add) HC:=by
 intro pins s σ H x y v u Q I J G h;obtain⟨l,b,xs,zs,rfl,rfl,R,U,hz,q⟩:=h;cases J;cases G;obtain⟨z,F,n,r,hl,e⟩:=I.lstM R;obtain⟨z2,B,n2,M,O,e2⟩:=I.lstM U;refine PySem.P.add_list e e2 ?_ (by rw[y07,y07]; lia);have Z:F.toArray++B.toArray=(F++B).toArray:=by simp
 rw[Z];exact⟨.ref _,_,I.lnew (t':=s.toks) (r.append M) (by rw[yc]; lia),rfl,q _ I.fresh⟩
def Jm:R2:=fun x y H Q=>∃l k xs,x=.ref l/\y=.int k/\H l=some (.lst xs)/\-(2^63)<=k/\k<2^63/\xs.length*k.toNat<=ym/\
 ∀p,H p=none->Q (.ref p) (upd H p (.lst (List.replicate k.toNat xs).flatten))
end
section
variable{prog:yq}{w:y0h}{A:y0n}{E:yg->ye->Prop}{s:ye}
end
section
variable{X:Cx}
end
end L2
namespace Att
open PySem PySem.W PySem.Calls PyProof.Rows
theorem Tt:∀(ns:List Int) (vs:List yg),WellAll P h vs (ns.map WData.int)->IntsAre vs ns:=by
 intro ns;induction ns with
 |nil=>
  intro vs w;rw[y2f] at w;cases w;exact .nil
 |cons n ns q=>
  intro vs w;rw[yj] at w;cases w with
  |cons a b=>
   cases a;exact .cons _ _ (q _ b)
theorem Tv{l:OpenLaw}{n:Nat}(hn:l.most=some n){P:Params}{h:Heap}{args:List WData}{z:List yg}
  (B:l.row.toRowW.claim.pre args=true) (O:WellAll P h z args) :
  ∃a vs ns,z=[Value.ref a]/\args=[WData.list (ns.map WData.int)]/\h.get? a=some {cls:=.type "list",data:=.seq vs.toArray}/\IntsAre vs ns/\ns.length<=n:=by
 have R:WShape.hasAll [] args [.list .int]=true:=(pre_splitW B).1;have hc:l.pre.holds [] {args:=args}=true:=(pre_splitW B).2;obtain⟨d,r,rfl,h1,h2⟩:=hasAllW_cons R;obtain rfl:=hasAllW_nil h2;obtain⟨xs,rfl,h3⟩:=hasW_list h1;obtain⟨ns,rfl⟩:=items_int h3;have F:ns.length<=n:=by
  unfold OpenLaw.pre at hc;have M:(WTm.not (.lt (.lit (.int (n:Int))) (.len (.arg 0)))).holds [] {args:=[.list (ns.map .int)]}=true:=by
   have M:=(holds_andW hc).1;rw[hn] at M;exact M
  have J:=condW_of M (w_not (w_lt w_lit (w_len_list (w_arg rfl))));rw[y4] at J;refine Nat.le_of_not_lt fun q=>?_;have q':(n:Int)<((ns.length:Nat):Int):=by lia
  first
   |(rw[decide_eq_true q'] at J; exact absurd J (by decide))
   |(simp at J; lia)
 cases O with
 |cons Z U=>
  cases U;cases Z with
  |list ho G=>exact⟨_,_,ns,rfl,rfl,ho,Tt ns _ G,F⟩
theorem Tw(l:OpenLaw)(args:List WData):l.row.toRowW.claim.post args (.bool true) args=true:=
 postW_of (r:=l.row.toRowW) (X:=(true==true))
  (show WShape.has [] (.bool true) .bool=true by first|rfl|decide|simp[WShape.has,WShape.arms,WShape.armsAll])
  (show(WTm.eq .res (.lit (.bool true))).value [] {args:=args,res:=some (.bool true),after:=args}=some (.bool (true==true)) from w_eq_bool (w_res rfl) w_lit) rfl
theorem Tx{l:OpenLaw}{n:Nat}{q:yq}{B:List Str}{XP:(Str->Option yg)->Heap->Prop}{YP:y0h->Heap->Prop}{d:DefRec}
  (hn:l.most=some n) (fg:d.params.defaults=[])
  (call:∀(w:y0h) (s₀ z:ye) (mg mb:Str->Option yg) (U:Addr) (o:Obj) (Z cd J:yg) (a:Addr) (vs:List yg) (ns:List Int),
   Ground q B [] XP w s₀ mg mb z.heap->YP w z.heap->
   z.heap.get? U=some o->o.data=.func (docDef d.name d.params d.body d.scope Z cd J)->z.heap.CodeRec cd d.name->mg d.name=some (.ref U)->
   z.heap.get? a=some {cls:=.type "list",data:=.seq vs.toArray}->IntsAre vs ns->ns.length<=n->z.gens = #[]->
   codeAny (y06 l.prog w) callerA (.call (.ref U) ⟨[.ref a],[]⟩) (fun r s'=>r=.ok (.ret (.bool true))/\OldK z.heap s'.heap/\s'.os=z.os/\AllBare s'.gens) z) :
  WalkO q B XP YP l.row.toRowW d [] (fun f vs=>PySem.call f vs):=by
 intro w s₀ z mg mb G Y U o Z cd J dV kV ho hd fh hD fe hg args fk as M fq ft fc fu;obtain rfl:dV=.none:=Dflts.none hD fg;obtain rfl:kV=.none:=Dflts.noKw hD;obtain⟨a,vs,ns,rfl,rfl,O,F,R⟩:=Tv hn M fc;refine enter_call (y3n (call w s₀ z mg mb U o Z cd J a vs ns G Y ho (fd_plain hd) fh fe O F R hg) fun r s' hq=>?_);obtain⟨rfl,h2,h3,h4⟩:=hq;exact⟨.inl ⟨.bool true,.bool true,[],rfl,fun _=>rfl,.bool true,Tw l _,fun _=>⟨List.Pairwise.nil,fun _ hm=>(nomatch hm)⟩⟩,h2,h3,h4⟩
section
variable{prog:yq}{w:y0h}{A:y0n}{E:yg->ye->Prop}{s:ye}{K:Frag}
end
end Att
namespace L2
open PySem PySem.Spec PyProof.Rows
theorem Na:∀{vs:List yg} {ns:List Int},IntsAre vs ns->Vals (ns.map V.int) vs
 |_,_,.nil=>.nil
 |_,_,.cons n t h=>.cons ⟨t,rfl⟩ (Na h)
noncomputable def defArgs(s:Stmt):Arguments:=match s with
 |.FunctionDef _ a _ _ _ _ _ _ _ _=>a
 |_=>{posonlyargs:=[],args:=[],vararg:=none,kwonlyargs:=[],kw_defaults:=[],kwarg:=none,defaults:=[]}
noncomputable def defBody(s:Stmt):List Stmt:=match s with
 |.FunctionDef _ _ b _ _ _ _ _ _ _=>b
 |_=>[]
noncomputable def defScope(s:Stmt):Scope:=match s with
 |.FunctionDef _ _ _ _ _ _ sc _ _ _=>sc
 |_=>{kind:=.function,names:=[],isGenerator:=false,isCoroutine:=false}
abbrev CX0:CXT:=fun _ _ _ _ _ _=>False
abbrev E0:XK:=fun _ _ _=>False
structure Fun(K:ya)(x qual:Str)(st:Stmt)(f:Addr)(fd:y2c):Prop where
 ex:∃(oc:yg) (od:Option Addr) (kV doc pm:yg) (an:Option Addr) (cdv ct:yg) (osl:Array (Option yg)),
  fd=PySem.W.fnOf x qual (defArgs st) (defBody st) (defScope st) .none kV doc pm an cdv ct/\K.lookup f=some ⟨oc,od,.func fd,osl⟩/\PySem.W.codeIn K cdv qual=true
 kp:PySem.W.keepIn K (.ref f)=true
section
variable{P:yq}{w:y0h}{K:ya}{mg:Str->Option yg}{base:Heap}
theorem Fun.ok{x qual:Str}{st:Stmt}{f:Addr}{fd:y2c}{N ps:List Str}{k:Nat}{sp:Sp}(F:Fun K x qual st f fd)(S:FnScope N ps (defScope st))(len:∀vs H Q E,sp vs H Q E->vs.length=ps.length)
  (B:∀(z:yg) (A:y0n) (outer:List Env) (s:ye) (H:Hp) (vs:List V) (Q:VK) (E:XK),Room k (A.deeper (envOfC qual (defScope st) s.heap.objs.size f z))->sp vs H Q E->
   ∃t,PSs (BE CX0 P w K mg base N qual (defScope st) f z A outer s H E).nox (defBody st) t/\t {nx:=fun _ H'=>Q .non H',rt:=Q} (start N vs) H):FnOk P w K mg base CX0 (k+1) f fd ps sp:=by
 obtain⟨oc,Z,kV,R,U,an,z,ct,M,rfl,O,J⟩:=F.ex
 refine NR O J S len fun A outer s H vs Q E hr G=>?_
 obtain⟨t,h,q⟩:=B z A outer s H vs Q E hr G
 exact⟨t,h.nox,q⟩
theorem Fun.binds{x qual:Str}{st:Stmt}{f:Addr}{fd:y2c}{ps:List Str}(F:Fun K x qual st f fd)
  (h:∀(kV q B:yg) (G:Option Addr) (z ct:yg) (us:List yg),us.length=ps.length->bindArgs (PySem.W.fnOf x qual (defArgs st) (defBody st) (defScope st) .none kV q B G z ct) ⟨us,[]⟩=pure (ps.zip us)):Binds K fd ps []:=by
 obtain⟨R,O,kV,q,B,G,z,ct,J,rfl,U,M⟩:=F.ex;exact .all (h kV q B G z ct)
theorem HE{x qual:Str}{st:Stmt}{f:Addr}{M:yg}{J G:Option Addr}{B:Array (Option yg)}{kV z F q ct:yg}(l:K.lookup f=some ⟨M,J,.func (PySem.W.fnOf x qual (defArgs st) (defBody st) (defScope st) .none kV z F G q ct),B⟩)
  (c:PySem.W.codeIn K q qual=true) (k:PySem.W.keepIn K (.ref f)=true):Fun K x qual st f (PySem.W.fnOf x qual (defArgs st) (defBody st) (defScope st) .none kV z F G q ct):=⟨⟨M,J,kV,z,F,G,q,ct,B,rfl,l,c⟩,k⟩
theorem BH(h:n<=1000):n<ym:=y11 h (by decide)
end
section
variable{X:Cx}
theorem pv(i:Nat)(B:X.N[i]?=some x:=by rfl)(z:Vis X.env.scope x:=by first|exact Or.inl rfl|exact Or.inr (Or.inl rfl)|exact Or.inr (Or.inr rfl)) (hd:(x==("__debug__" : Str))=false:=by decide)
  (q:(x==("__classdict__" : Str))=false:=by decide):PE X (.Name x pos) (B4 i):=Ae B z hd q
def Same(H H':Hp):Prop:=∀b o,H b=some o->H' b=some o
theorem Same.refl(H:Hp):Same H H:=fun _ _ h=>h
theorem Same.trans(a:Same H H1)(b:Same H1 H2):Same H H2:=fun c o h=>b c o (a c o h)
theorem Same.free(e:Same H H')(h:H' l=Option.none):H l=Option.none:=by
 cases q:H l with
 |none=>rfl
 |some o=>
  rw[e l o q] at h;cases h
theorem Same.seq{K:ya}{H H':Hp}{a:Addr}{xs:List V}(e:Same H H')(h:SqL K H a xs):SqL K H' a xs:=by
 rcases h with(h|⟨o,h⟩)|h
 ·exact .inl (.inl (e _ _ h))
 ·exact .inl (.inr ⟨o,e _ _ h⟩)
 ·exact .inr h
theorem Jn(env:Env):∀(names:List (Str×NameKind)) (acc:List (Str×Addr)),(∀y∈names,y.2=.free->∃c,env.cells.lookup y.1=some c)->(∀x c,acc.lookup x=some c->env.cells.lookup x=some c)->
  ∃cl,(forIn names acc fun(p:Str×NameKind) (r:List (Str×Addr))=>(match p with|(name,kind)=>if(kind==NameKind.free)=true then(do let c <- cellOf env name; pure (ForInStep.yield ((name,c)::r))) else pure (ForInStep.yield r)):Sem (List (Str×Addr)))=pure cl/\
   (∀x c,cl.lookup x=some c->env.cells.lookup x=some c)/\(∀x,(∃c,acc.lookup x=some c)->∃c,cl.lookup x=some c)/\(∀y∈names,y.2=.free->∃c,cl.lookup y.1=some c)
 |[],acc,_,ha=>⟨acc,by simp,ha,fun _ h=>h,fun _ h=>absurd h (by simp)⟩
 |(n,k)::r,acc,hn,ha=>by
  by_cases hk:k=.free
  ·obtain⟨c,hc⟩:=hn (n,k) y10 hk
   have ha':∀x c',((n,c)::acc).lookup x=some c'->env.cells.lookup x=some c':=fun x c' h=>by
    by_cases hx:x=n
    ·subst hx
     rw[y4u] at h
     cases h; exact hc
    ·have hx':(x==n)=false:=by simpa using hx
     simp only[y1d,hx'] at h
     exact ha x c' h
   obtain⟨cl,e,p1,p2,p3⟩:=Jn env r ((n,c)::acc) (fun y hy=>hn y (y0v _ hy)) ha'
   refine⟨cl,?_,p1,fun x ⟨c',hc'⟩=>p2 x ?_,fun y hy hf=>?_⟩
   ·have hco:cellOf env n=pure c:=by unfold cellOf; rw[hc]
    rw[List.forIn_cons]
    subst hk
    simp only[beq_self_eq_true,if_true,hco,pure_bind]
    exact e
   ·by_cases hx:x=n
    ·exact⟨c,by subst hx; rw[y4u]⟩
    ·have hx':(x==n)=false:=by simpa using hx
     exact⟨c',by simp only[y1d,hx']; exact hc'⟩
   ·rcases List.mem_cons.mp hy with rfl|hy
    ·exact p2 _ ⟨c,by rw[y4u]⟩
    ·exact p3 y hy hf
  ·obtain⟨cl,e,p1,p2,p3⟩:=Jn env r acc (fun y hy=>hn y (y0v _ hy)) ha
   refine⟨cl,?_,p1,p2,fun y hy hf=>?_⟩
   ·have hb:(k==NameKind.free)=false:=by simpa using hk
    rw[List.forIn_cons]
    simp only[hb,y0e,if_false,pure_bind]
    exact e
   ·rcases List.mem_cons.mp hy with rfl|hy
    ·exact absurd hf hk
    ·exact p3 y hy hf
theorem Nb(h:∀y∈scope.names,y.2=.free->∃c,env.cells.lookup y.1=some c) :
  ∃cl,closureFor scope env=pure cl/\(∀x c,cl.lookup x=some c->env.cells.lookup x=some c)/\(∀y∈scope.names,y.2=.free->∃c,cl.lookup y.1=some c):=by
 obtain⟨cl,e,B,_,z⟩:=Jn env scope.names [] h (fun x c q=>by simp at q);refine⟨cl,?_,B,z⟩;unfold closureFor;simp only[bind_pure];exact e
theorem Jo{env:Env}:∀{names:List (Str×NameKind)} {x:Str} {k:NameKind},(names.map fun(n,k)=>if(k==NameKind.free&&env.scope.kind==.function&&env.kindOf n==some .cell) then(n,NameKind.cell) else(n,k)).lookup x=some k->
  (∀y∈names,y.2≠.cell)->k=.cell\/k=.free->names.lookup x=some .free
 |[],_,_,h,_,_=>by simp at h
 |(n,z)::r,x,k,h,hc,hk=>by
  have B:=@Jo env r x k;rw[yj] at h;cases hx:x==n with
  |true=>
   have F:z≠.cell:=hc (n,z) y10;simp only[y1d,hx];by_cases q:(z==NameKind.free&&env.scope.kind==.function&&env.kindOf n==some .cell)=true
   ·have:z=.free:=by
     simp only[y05,beq_iff_eq] at q;exact q.1.1
    rw[this]
   ·dsimp only at h;rw[if_neg q] at h;simp only[y1d,hx] at h;have h:z=k:=by simpa using h
    subst h;rcases hk with hk|hk
    ·exact absurd hk F
    ·rw[hk]
  |false=>
   simp only[y1d,hx];refine B ?_ (fun y hy=>hc y (y0v _ hy)) hk;by_cases q:(z==NameKind.free&&env.scope.kind==.function&&env.kindOf n==some .cell)=true
   ·dsimp only at h;rw[if_pos q] at h;simp only[y1d,hx] at h; exact h
   ·dsimp only at h;rw[if_neg q] at h;simp only[y1d,hx] at h; exact h
end
noncomputable def B5(X:Cx)(q:List Str)(scope:Scope)(cl:List (Str×Addr))(C:Addr)(s₀:ye)(H₀:Hp)(ex:List Addr):Cx:=
 {X with N:=q,s₀:=s₀,H₀:=H₀,env:=compEnvC scope cl C X.env,outer:=X.stack,stack:=X.stack,ex:=ex,fn:=fun _=>false,pn:=[],xe:=fun _ _=>False}
noncomputable def subσ(q:List (Option Nat))(σ:St):St:=q.map fun o=>match o with|none=>none|some i=>(σ[i]?).getD none
noncomputable def compOk(N:List Str)(on q:List (Str×NameKind))(B:List Str)(z:List (Option Nat)):Bool:=
 z.length==B.length&&(B.zip z).all fun p=>match p.2 with
  |none=>true
  |some i=>N[i]? == some p.1&&q.lookup p.1==some .free&&on.lookup p.1==some .cell
abbrev PIfv(X:Cx)(ifs:List Expr)(t:TT):Prop:=
 ∀(pins:List (Addr×Obj)) (s:ye) (σ:St) (H:Hp) (Q:Bool->Hp->Prop),Inv X pins σ H s->t σ H Q->
  y0b (y06 X.prog X.w) X.A (forIn ifs true fun c r=>if r=true then do let ok <- isTrue c X.env (eval c X.env); pure (ForInStep.yield ok) else pure (ForInStep.yield r)) (TP X pins σ Q) X.xe s
structure PIf(X:Cx)(ifs:List Expr)(t:TT):Prop where
 run:PIfv X ifs t
instance{X:Cx}{ifs:List Expr}{t:TT}:CoeFun (PIf X ifs t) (fun _=>PIfv X ifs t):=⟨PIf.run⟩
def FS:TT:=fun _ H Q=>Q true H
theorem D2:PIf X [] FS:=⟨fun pins s σ H Q I h=>wpAny_tests_nil ⟨H,I,h⟩⟩
theorem Nc(h:PT X c t):PIf X [c] t:=⟨fun pins s σ H Q I q=>wpAny_tests_one (h pins s σ H Q I q)⟩
theorem Ty{R:Result->ye->Prop}(I:Nat->ye->Prop)
  (turn:∀n s,I n s->y0b (y06 prog w) A (pyNext it) (fun r s₁=>match r with
   |none=>R (.ok .next) s₁
   |some v=>y0b (y06 prog w) A (letOwnedTupleGo target it v) (fun _ s₀=>y0b (y06 prog w) A (assign target env v) (fun _ s₂=>
     y0b (y06 prog w) A (forIn ifs true fun c r=>if r=true then do let ok <- isTrue c env (eval c env); pure (ForInStep.yield ok) else pure (ForInStep.yield r)) (fun ok s₃=>if ok=true then y0b (y06 prog w) A (eval elt env) (fun x s₄=>
      y0b (y06 prog w) A (call (.builtin "list.append") [acc,x]) (fun _ s₅=>∃m,m<n/\I m s₅) (fun _ _=>False) s₄) (fun _ _=>False) s₃
      else ∃m,m<n/\I m s₃) (fun _ _=>False) s₂)
     (fun _ _=>False) s₀) (fun _ _=>False) s₁) (fun _ _=>False) s)
  (n:Nat) (h:I n s):codeAny (y06 prog w) A (.compLoop (.ListComp elt [⟨target,iter,ifs,0⟩] scope pos) 0 it acc env) R s:=by
 refine codeAny_loop rfl I (fun n s hI=>?_) n h
 show y0b _ A ((compTurn (.ListComp elt [⟨target,iter,ifs,0⟩] scope pos) 0 it acc env).onRaise (fun x=>do noteFrame x env; theTreesLotGoes x)) _ _ s
 refine wpAny_noted ?_
 rw[compTurn_list]
 refine yb (wpAny_standAt (yb (y1l (turn n s hI) (fun r s₁ h₁=>?_) fun _ _ h'=>h'.elim)))
 cases r with
 |none=>exact yh h₁
 |some v=>
  refine yb (y1l h₁ (fun _ s₀ h₀'=>?_) fun _ _ h'=>h'.elim)
  refine yb (y1l h₀' (fun _ s₂ h₂=>?_) fun _ _ h'=>h'.elim)
  refine yb (y1l h₂ (fun okb s₃ h₃=>?_) fun _ _ h'=>h'.elim)
  cases okb with
  |false=>exact yh ⟨rfl,h₃⟩
  |true=>exact yb (yb (y1l h₃ (fun x s₄ h₄=>yb (y1l h₄ (fun _ s₅ h₅=>yh (yh ⟨rfl,h₅⟩)) fun _ _ h'=>h'.elim)) fun _ _ h'=>h'.elim))
theorem Inv.track(I:Inv X pins σ H s)(F:H a=none)(f:FpOk X pins H a)(B:ObjOk X.prog X.w (upd H a o) s.heap a o):Inv X pins σ (upd H a o) s:=by
 obtain⟨_,R,U,O,M,G⟩:=f;have z:∀b u,H b=some u->b≠a:=fun b u e=>AS e F;have J:=I.step (g':=s.gens) (t':=s.toks) (d':=s.drawn) (ch:=[a]) (h':=s.heap) (H':=upd H a o) (fun b hb=>by
   have e:b=a:=by simpa using hb
   subst e
   exact⟨O,R,M,G⟩) (fun b o _ _ _ e _=>e) (fun b o _ _ _ e _=>⟨o.slots,e⟩) (fun b o hb _ n=>by rw[A8 (by simpa using hb)]; exact n) (fun b o _ e=>⟨o,e⟩)
  (fun b xs e=>by rw[A8 (z b _ e)]; exact e) (fun b o u e=>by rw[A8 (z b _ e)]; exact e) (fun b ps e=>⟨#[],by rw[A8 (z b _ e),e]; simp⟩) (fun m hm=>hm) (fun b u e=>by
   by_cases hb:b=a
   ·subst hb; rw[A4] at e; cases e; exact B
   ·rw[A8 hb] at e
    exact(I.hok b u e).stay (fun c v _ q=>q) (fun c q=>by rw[A8 (z c _ q)]; exact q) fun c xs q=>by rw[A8 (z c _ q)]; exact q) I.bare
 exact J
def CN(M:TI)(g:TG)(tt:TT)(te:TE)(O:List (Option Nat)):TE:=fun σ H Q=>M σ H fun J H1=>∃W:Nat->Nat->List V->St->Hp->Prop,(∃m,W 0 m [] (subσ O σ) H1)/\∀i m ys σ H,W i m ys σ H->
 (J.stop i H/\ys.length<=ym/\∀p,H p=none->Q (.ref p) (upd H p (.lst ys)))\/(J.go i H/\ys.length<ym/\∃N:List V->St->Hp->Prop,(∀B z H',N B z H'->∃F,F<m/\W (i+1) F B z H')/\∀x H',J.yld i H x H'->g x σ H' fun q H2=>tt q H2 fun b G=>
  if b=true then te q G (fun v R=>N (ys++[v]) q R) else N ys q G)
structure CompS(X:Cx)(N':List Str)(scope:Scope)(mp:List (Option Nat)):Prop where
 kind:scope.kind=.function
 nocell:∀y∈scope.names,y.2≠.cell
 locs:∀y∈scope.names,y.2=.local->scope.names.lookup y.1=some .local
 frees:∀y∈scope.names,y.2=.free->X.env.scope.names.lookup y.1=some .cell
 ok:compOk X.N X.env.scope.names scope.names N' mp=true
theorem Tz(h:compOk N on inn N' mp=true):mp.length=N'.length/\∀(j:Nat) (x:Str) (i:Nat),N'[j]?=some x->mp[j]?=some (some i)->N[i]?=some x/\inn.lookup x=some .free/\on.lookup x=some .cell:=by
 unfold compOk at h;rw[y05] at h;obtain⟨h1,h2⟩:=h;refine⟨by simpa using h1,fun j x i z e2=>?_⟩;have hm:(x,some i)∈N'.zip mp:=by
  refine yw (i:=j) ?_;rw[List.getElem?_zip_eq_some];exact⟨z,e2⟩
 have q:=List.all_eq_true.mp h2 _ hm;simp only[y05,beq_iff_eq] at q;exact⟨q.1.1,q.1.2,q.2⟩
theorem subσ_get{q:List (Option Nat)}{σ:St}{j:Nat}{v:V}(h:(subσ q σ)[j]?=some (some v)):∃i,q[j]?=some (some i)/\σ[i]?=some (some v):=by
 unfold subσ at h;rw[y0k] at h;cases e:q[j]? with
 |none=>rw[e] at h; cases h
 |some o=>
  rw[e] at h;cases o with
  |none=>simp at h
  |some i=>
   refine⟨i,rfl,?_⟩;cases e2:σ[i]? with
   |none=>simp[e2] at h
   |some z=>
    simp[e2] at h;rw[h]
section
variable{X:Cx}{pins:List (Addr×Obj)}{σ:St}{H:Hp}
theorem Nd{gm tg fX:Expr}{gf:List Expr}{scope:Scope}{pos:Pos}{N':List Str}{mp:List (Option Nat)}{g:TG}{tt:TT}{te:TE}{q:ye}{it:Addr}{O:List Addr}{tn:Nat->Heap->Prop}{J:It}{cl:List (Str×Addr)}
  {Qe:V->Hp->Prop} {RR:yg->Addr->Result->ye->Prop} {E:yg->ye->Prop} (hc:X.calm=true) (S:CompS X N' scope mp)
  (fg:∀x c,cl.lookup x=some c->X.env.cells.lookup x=some c) (gx:∀y∈scope.names,y.2=.free->∃c,cl.lookup y.1=some c)
  (hg:∀C s₀ H₀ ex,PG (B5 X N' scope cl C s₀ H₀ ex) tg g) (ht:∀C s₀ H₀ ex,PIf (B5 X N' scope cl C s₀ H₀ ex) gf tt) (he:∀C s₀ H₀ ex,PE (B5 X N' scope cl C s₀ H₀ ex) gm te)
  (I:Inv X pins σ H q) (T:Turn X.prog X.w X.K tg J O it tn) (st:tn 0 q.heap) (hf:∀b∈O,FpOk X pins H b)
  (hw:∃W:Nat->Nat->List V->St->Hp->Prop,(∃m,W 0 m [] (subσ mp σ) H)/\∀i m ys σ H,W i m ys σ H->
   (J.stop i H/\ys.length<=ym/\∀p,H p=none->Qe (.ref p) (upd H p (.lst ys)))\/(J.go i H/\ys.length<ym/\∃N:List V->St->Hp->Prop,(∀gn G H',N gn G H'->∃m',m'<m/\W (i+1) m' gn G H')/\∀x H',J.yld i H x H'->g x σ H' fun fw H2=>tt fw H2 fun b H3=>
  if b=true then te fw H3 (fun v H4=>N (ys++[v]) fw H4) else N ys fw H3))
  (hR:∀(D C:Addr) (H':Hp) (s':ye),Inv X pins σ H' s'->Qe (.ref D) H'->(∃m,s'.heap.Ns C m)->FpOk X pins H' C->RR (.ref D) C (.ok .next) s') :
  y0b (y06 X.prog X.w) X.A (newList []) (fun gD fe=>y0b (y06 X.prog X.w) X.A (newFunctionEnv scope X.env.globals cl [] X.env.qual none .none (some X.env)) (fun gb gt=>
   codeAny (y06 X.prog X.w) X.A (.compStart (.ListComp gm [⟨tg,fX,gf,0⟩] scope pos) 0 (.ref it) gD {gb with scope:=relabel scope X.env}) (RR gD gb.locals) gt) E fe) E q:=by
 obtain⟨W,⟨m0,w0⟩,gp⟩:=hw;refine y3i (wpAny_newFunctionEnv S.nocell (by intro y hy; simp at hy) (fun h₁ U R=>?_) S.kind);dsimp only at U R |-;generalize hH2:q.heap.push {cls:=.type "list",dict:=none,data:=.seq ([]:List yg).toArray}=H2 at U R |-;have gy:H2.objs.size=q.heap.objs.size+1:=by rw[<- hH2,y1w]
 have I3:Inv X pins σ H {q with heap:=H2}:=by
  rw[<- hH2];exact I.kept (t':=q.toks) fun b o e=>yd _ e
 have k1:∀b u,H2.get? b=some u->h₁.get? b=some u:=fun b u e=>R.extBut b u (yz (yl e)) (yd _ e);have M:FpOk X pins H q.heap.objs.size:=I.fpOk (yf _) (I.hok.fresh (yf _));have gF:FpOk X pins H H2.objs.size:=I3.fpOk (yf _) (I3.hok.fresh (yf _));have fY:∀b∈O,b<q.heap.objs.size:=fun b hb=>let ⟨o,e,_⟩:=T.obj 0 _ st b hb; yl e;have fq:q.heap.objs.size∉O:=fun z=>absurd (fY _ z) (y1b _);have fc:q.heap.objs.size≠H2.objs.size:=by rw[gy]; exact yz (Nat.lt_succ_self _)
 have Z:∀b∈q.heap.objs.size::O,FpOk X pins H b:=fun b hb=>(List.mem_cons.mp hb).elim (fun e=>e ▸ M) (hf b);have fZ:∀b∈q.heap.objs.size::O,b≠H2.objs.size:=fun b hb=>(List.mem_cons.mp hb).elim (fun e=>e ▸ fc) fun z=>yz (y1i (fY b z) (by rw[gy]; exact Nat.lt_succ_self _));have fh:∀b,FpOk X pins H b->b∉frs X.stack:=fun b f z=>(List.mem_cons.mp (I.stkSub b z)).elim f.2.1 f.2.2.1;have gI:(B5 X N' scope cl H2.objs.size {q with heap:=H2} H (q.heap.objs.size::O)).Ok:=by
  refine⟨I.ok.mod,S.kind,I.ok.glob,I.ok.blt,yf _,fun x y c h1 h2=>I.ok.inj x y c (fg x c h1) (fg y c h2),fun x hx=>?_,fun x c hx=>absurd hx (by show ¬ false=true; decide),I.ok.hd,I.ok.frames,.inl rfl,
   fun b hb=>⟨fZ b hb,fun x c e=>(Z b hb).2.2.2.2.1 x c (fg x c e)⟩,fun b o e=>I3.bs b o e,y0j I.ok.bsz I3.sz,fun b o e hb=>?_,fun b hb=>fh b (Z b hb),I3.stack,I3.stkFree⟩
  ·have gK:(relabel scope X.env).names.lookup x=some .cell\/(relabel scope X.env).names.lookup x=some .free:=hx;have gj:scope.names.lookup x=some .free:=by
    rcases gK with z|z
    ·exact Jo z S.nocell (.inl rfl)
    ·exact Jo z S.nocell (.inr rfl)
   exact gx (x,.free) (y14 gj) rfl
  ·rcases(Z b hb).2.2.2.1 with z|z
   ·exact I.ok.noex b o e z
   ·exact absurd (y0c (yl e) (y0j I.ok.bsz z)) (y1b _)
 obtain⟨gN,gM⟩:=Tz S.ok;let XC:=B5 X N' scope cl H2.objs.size {q with heap:=H2} H (q.heap.objs.size::O)
 have J4:Inv (B5 X N' scope cl H2.objs.size {q with heap:=H2} H (q.heap.objs.size::O)) [] (subσ mp σ) H {q with heap:=h₁,toks:=q.toks+([]:List (Str×yg)).length}:=by
  refine⟨gI,rfl,I.bare,Un.kept k1,⟨_,U,fun j x v e1 e2 e3=>?_⟩,fun x c e=>?_,gF.1,fun x c e=>I.freeC x c (fg x c e),fun p hp=>absurd (show p∈([]:List (Addr×Obj)) from hp) (by simp),I3.hok.kept k1,by show(subσ mp σ).length=N'.length; unfold subσ; rw[y4,gN]⟩
  ·obtain⟨i,q1,q2⟩:=subσ_get e2;obtain⟨n1,n2,n3⟩:=gM j x i e1 q1;obtain⟨m,hn,hl⟩:=I3.loc;obtain⟨u,ru,lk⟩:=hl i x v n1 q2 (.inr (.inl n3));refine⟨u,ru,?_⟩;rcases lk with⟨z,_⟩|⟨_,c,ec,z⟩
   ·have z':X.env.scope.names.lookup x=some .local:=z;rw[n3] at z'; cases z'
   ·obtain⟨c',gA⟩:=gx (x,.free) (y14 n2) rfl;have e4:=fg x c' gA;rw[ec] at e4; cases e4;refine .inr ⟨?_,c,gA,?_⟩
    ·have z3:(relabel scope X.env).names.lookup x=some .local\/(relabel scope X.env).names.lookup x=some .cell\/(relabel scope X.env).names.lookup x=some .free:=e3;rcases z3 with z3|z3|z3
     ·exfalso;have:∀(names:List (Str×NameKind)),names.lookup x=some .free->(names.map fun(n,k)=>if(k==NameKind.free&&X.env.scope.kind==.function&&X.env.kindOf n==some .cell) then(n,NameKind.cell) else(n,k)).lookup x≠some .local:=by
       intro names;induction names with
       |nil=>intro h; simp at h
       |cons p r ih=>
        obtain⟨n,k⟩:=p;intro h;cases hx:x==n with
        |true=>
         simp only[y1d,hx] at h;cases h;rw[yj];dsimp only;split<;>simp[y1d,hx]
        |false=>
         simp only[y1d,hx] at h;rw[yj];dsimp only;split<;>(simp only[y1d,hx]; exact ih h)
      exact this scope.names n2 z3
     ·exact .inl z3
     ·exact .inr z3
    ·obtain⟨o,ho,hd⟩:=z;exact⟨o,k1 _ _ ho,hd⟩
  ·obtain⟨v,o,ho,hd⟩:=I3.cell x c (fg x c e);exact⟨v,o,k1 _ _ ho,hd⟩
 have gC:h₁.get? q.heap.objs.size=some {cls:=.type "list",data:=.seq ([]:List yg).toArray 0}:=k1 _ _ (by rw[<- hH2]; exact yt _ rfl);have gw:tn 0 h₁:=T.keep _ _ _ st fun b _ o e=>k1 b o (by rw[<- hH2]; exact yd _ e);have gP:∀{H':Hp},(∀b∈O,H' b=none)->∀b∈O,FpOk (B5 X N' scope cl H2.objs.size {q with heap:=H2} H (q.heap.objs.size::O)) [] H' b:=fun hn b hb=>
  ⟨hn b hb,fZ b (y0v _ hb),fh b (hf b hb),.inl (y0v _ hb),fun x c e=>(hf b hb).2.2.2.2.1 x c (fg x c e),fun p hp=>absurd (show p∈([]:List (Addr×Obj)) from hp) (by simp)⟩
 have gB:∀{H':Hp},H' q.heap.objs.size=none->FpOk (B5 X N' scope cl H2.objs.size {q with heap:=H2} H (q.heap.objs.size::O)) [] H' q.heap.objs.size:=fun hn=>
  ⟨hn,fc,fh _ M,.inl y10,fun x c e=>M.2.2.2.2.1 x c (fg x c e),fun p hp=>absurd (show p∈([]:List (Addr×Obj)) from hp) (by simp)⟩
 have fV:∀fe:ye,fe = {q with heap:=h₁,toks:=q.toks+([]:List (Str×yg)).length}->
   codeAny (y06 X.prog X.w) X.A (.compLoop (.ListComp gm [⟨tg,fX,gf,0⟩] scope pos) 0 (.ref it) (.ref q.heap.objs.size) (compEnvC scope cl H2.objs.size X.env)) (RR (.ref q.heap.objs.size) H2.objs.size) fe:=by
  rintro fe rfl
  refine Ty (fun n s'=>∃i G H' ys B k,Inv (B5 X N' scope cl H2.objs.size {q with heap:=H2} H (q.heap.objs.size::O)) [] G H' s'/\tn i s'.heap/\(∀b∈O,H' b=none)/\H' q.heap.objs.size=none/\
   Vals ys B/\s'.heap.get? q.heap.objs.size=some {cls:=.type "list",data:=.seq B.toArray k}/\W i n ys G H') ?_ m0 ⟨0,subσ mp σ,H,[],[],0,J4,gw,fun b hb=>(hf b hb).1,M.1,.nil,gC,w0⟩
  rintro n s5 ⟨i,fu,H5,ys,B,k,J5,gu,gz,fz,vy,ea,w5⟩
  have zv:B.length=ys.length:=vy.length.symm
  have ge:∀{G:St} {H':Hp} {s':ye} {o:Obj},Inv XC [] G H' s'->H' q.heap.objs.size=none->s'.heap.get? q.heap.objs.size=some o->(∀v,o.data≠.cell v)->Inv XC [(q.heap.objs.size,o)] G H' s':=fun {G H' s' o} J a1 a2 a3=>J.pins_of fun p hp=>by
   have e:p=(q.heap.objs.size,o):=by simpa using hp
   subst e
   exact⟨a2,a1,fc,fh _ M,a3⟩
  have gk:∀{H':Hp} {o:Obj},(∀b∈O,H' b=none)->∀b∈O,FpOk XC [(q.heap.objs.size,o)] H' b:=fun {H' o} hn b hb=>by
   obtain⟨c1,c2,c3,c4,c5,_⟩:=gP hn b hb
   refine⟨c1,c2,c3,c4,c5,fun p hp=>?_⟩
   have e:p=(q.heap.objs.size,o):=by
    have gL:p∈([]++[(q.heap.objs.size,o)]:List (Addr×Obj)):=hp
    simpa using gL
   subst e
   intro z
   exact fq (by rw[show q.heap.objs.size=b from z]; exact hb)
  have gJ:∀(us:List yg) (k:Nat) (v:Option yg),({cls:=.type "list",data:=.seq us.toArray k}:Obj).data≠.cell v:=fun us k v z=>by
   have z':Data.seq us.toArray k=Data.cell v:=z
   cases z'
  have gE:=ge J5 fz ea (gJ B k)
  rcases gp i n ys fu H5 w5 with⟨stop,zl,qn⟩|⟨go,zl,N,hN,step⟩
  ·refine thn (T.done XC rfl rfl rfl hc i _ s5 fu H5 _ gE (gk gz) gu stop) fun r s6 ⟨hr,J6⟩=>?_
   subst hr
   have I6:Inv X pins σ H5 s6:=I3.call' (ch:=q.heap.objs.size::O) (show s6.os=_ from J6.os) J6.base J6.hok J6.bare fun b hb=>let ⟨_,a1,_,a3,a4,a5⟩:=Z b hb; ⟨a3,a1,a4,a5⟩
   have gR:s6.heap.get? q.heap.objs.size=some {cls:=.type "list",data:=.seq B.toArray k}:=(J6.pin _ (y08 _ (List.mem_singleton.mpr rfl))).1
   have I7:Inv X pins σ (upd H5 q.heap.objs.size (.lst ys)) s6:=I6.track fz ⟨fz,M.2⟩ ⟨zl,B,k,vy,gR⟩
   obtain⟨m,hm,_⟩:=J6.loc
   exact hR _ _ _ s6 I7 (qn _ fz) ⟨m,hm⟩ ⟨by rw[A8 (y1k fc)]; exact J6.free,gF.2⟩
  ·refine thn (T.item XC rfl rfl rfl hc i _ s5 fu H5 _ gE (gk gz) gu go) fun r s6 ⟨u,hr,h6⟩=>?_
   subst hr
   refine thn h6 fun _ s7 ⟨x,H7,J7,r7,y7,gc,gO⟩=>?_
   have gX:H7 q.heap.objs.size=none:=(J7.pin _ (y08 _ (List.mem_singleton.mpr rfl))).2.1
   have gT:=J7.pinned (gk gO) (T.obj _ _ gc)
   refine thn (hg _ _ _ _ _ s7 fu H7 x u _ gT r7 (step x H7 y7)) fun _ s8 ⟨ft,H8,J8,q8⟩=>?_
   refine thn (ht _ _ _ _ _ s8 ft H8 _ J8 q8) fun b s9 ⟨H9,J9,q9⟩=>?_
   have back:∀{G:St} {H':Hp} {s':ye},Inv XC ([(q.heap.objs.size,({cls:=.type "list",data:=.seq B.toArray k}:Obj))]++FJ O s7.heap) G H' s'->
     Inv XC [] G H' s'/\tn (i+1) s'.heap/\(∀b∈O,H' b=none)/\H' q.heap.objs.size=none/\s'.heap.get? q.heap.objs.size=some {cls:=.type "list",data:=.seq B.toArray k}:=fun {G H' s'} K=>by
    have pa:=K.pin (q.heap.objs.size,{cls:=.type "list",data:=.seq B.toArray k}) (y08 _ (y0s _ (List.mem_singleton.mpr rfl)))
    refine⟨K.pins_of (fun p hp=>absurd hp (by simp)),T.keep _ _ _ gc fun b hb o e=>(K.pin (b,o) (y08 _ (y08 _ (Gj hb e)))).1,fun b hb=>?_,pa.2.1,pa.1⟩
    obtain⟨o,e,d⟩:=T.obj _ _ gc b hb
    exact(K.pin (b,o) (y08 _ (y08 _ (Gj hb e)))).2.1
   cases b with
   |false=>
    rw[if_neg yx] at q9
    rw[if_neg yx]
    obtain⟨m',gh,w'⟩:=hN _ _ _ q9
    obtain⟨K1,K2,K3,K4,K5⟩:=back J9
    exact⟨m',gh,i+1,ft,H9,ys,B,k,K1,K2,K3,K4,vy,K5,w'⟩
   |true=>
    rw[if_pos rfl] at q9
    rw[if_pos rfl]
    refine thn (he _ _ _ _ _ s9 ft H9 _ J9 q9) fun z fk ⟨v,gW,gU,gG,gH⟩=>?_
    obtain⟨m',gh,w'⟩:=hN _ _ _ gH
    obtain⟨K1,K2,K3,K4,K5⟩:=back gU
    refine call_meets F.slot_list_append ⟨_,K5,rfl⟩ F.entry_list_append (F.args_list_append_2 _ _) (PySem.list_append q.heap.objs.size B.toArray k z (by rw[y07]; lia)) ⟨K5,?_⟩
    have qa:=PySem.IsL.update K5 (fun x_1=>x_1.push z)
    have gQ:B.toArray.push z=(B++[z]).toArray:=by simp
    rw[gQ] at qa
    have kk:∀b o,b≠q.heap.objs.size->fk.heap.get? b=some o->(fk.heap.update q.heap.objs.size (Obj.mapSeq fun x_1=>x_1.push z)).get? b=some o:=fun b o hb hu=>(Heap.get?_update_other fk.heap (Obj.mapSeq fun x_1=>x_1.push z) (y1k hb)).trans hu
    obtain⟨d0,d1,d2,d3,d4,d5⟩:=gB K4
    have gS:=K1.turned (h':=fk.heap.update q.heap.objs.size (Obj.mapSeq fun x_1=>x_1.push z)) (t':=fk.toks) kk d0 d1 d3 d4 d5
    exact⟨m',gh,i+1,ft,gW,ys++[v],B++[z],_,gS,T.keep _ _ _ K2 (fun b hb o e=>kk b o (fun y=>fq (by rw[<- y]; exact hb)) e),K3,K4,vy.append (.cons gG .nil),qa,w'⟩
 exact codeAny_compStart_list (fV _ rfl) (T.self _ _ _ _ _ gw (fV _ rfl))
theorem Cb(z:List Str)(F:List (Option Nat))(hc:X.calm=true)(S:CompS X z scope F)(hi:PI X tg iter wi)
  (hg:∀cl C s₀ H₀ ex,PG (B5 X z scope cl C s₀ H₀ ex) tg g) (O:∀cl C s₀ H₀ ex,PIf (B5 X z scope cl C s₀ H₀ ex) ifs tt) (U:∀cl C s₀ H₀ ex,PE (B5 X z scope cl C s₀ H₀ ex) elt te)
  (R:∀x,foldedSetIterable iter X.env x=pure x:=by intro _; rfl):PE X (.ListComp elt [⟨tg,iter,ifs,0⟩] scope pos) (CN wi g tt te F):=by
 refine⟨?_⟩;intro pins s σ H Q I h;obtain⟨cl,e0,e1,e2⟩:=Nb (scope:=scope) (env:=X.env) fun y hy hf=>I.ok.has y.1 (.inl (S.frees y hy hf));rw[eval_ListComp];refine wpAny_comprehension_free (use:=none) rfl R e0 S.kind S.locs (thn (hi pins s σ H _ I h) fun v s1 h1=>thn h1 fun M s2 h2=>?_);obtain⟨it,fp,tn,J,H2,e,I2,T,st2,f2,hw⟩:=h2;subst e;refine Nd (Qe:=Q) (RR:=fun B C=>compPost (y06 X.prog X.w) X.A X.xe none (EP X pins σ Q) B C) hc S e1 e2 (hg cl) (O cl) (U cl) I2 T st2 f2 hw fun D C H' s' I' q ⟨m,hm⟩ ⟨f0,f1,_,f3,f4,Z⟩=>?_;exact⟨m,hm,fun h' G=>⟨.ref D,H',I'.turned (t':=s'.toks) (fun b o hb e=>(G.2 b hb).trans e) f0 f1 f3 f4 Z,rfl,q⟩⟩
theorem U0(N':List Str)(mp:List (Option Nat))(hN:X.N.Nodup)(hxi:X.N[i]?=some x)(hx:Loc X.env.scope x)
  (hc:X.calm=true) (S:CompS X N' scope mp) (hi:PI X tg iter wi)
  (hg:∀cl C s₀ H₀ ex,PG (B5 X N' scope cl C s₀ H₀ ex) tg g) (ht:∀cl C s₀ H₀ ex,PIf (B5 X N' scope cl C s₀ H₀ ex) ifs tt) (he:∀cl C s₀ H₀ ex,PE (B5 X N' scope cl C s₀ H₀ ex) elt te)
  (hsw:swapsWith (.ListComp elt [⟨tg,iter,ifs,0⟩] scope cpos) (some (.Name x pos')) pos.line X.env=pure true:=by rfl)
  (hs:∀x,foldedSetIterable iter X.env x=pure x:=by intro _; rfl) (hf:X.fn x=true\/X.env.scope.names.lookup x=some .local:=by first|exact .inl rfl|exact .inr rfl|assumption) :
  PS X (.Assign [.Name x pos'] (.ListComp elt [⟨tg,iter,ifs,0⟩] scope cpos) pos) (Ca (CN wi g tt te mp) (B8 i)):=by
 refine⟨?_⟩
 intro pins s σ H D I h
 obtain⟨cl,e0,e1,e2⟩:=Nb (scope:=scope) (env:=X.env) fun y hy hf=>I.ok.has y.1 (.inl (S.frees y hy hf))
 rw[exec_Assign_Name_used _ _ _ _ hsw]
 refine yb (wpAny_standAt (yb ?_))
 show y0b _ X.A (do let _ <- comprehension (.ListComp elt [⟨tg,iter,ifs,0⟩] scope cpos) scope X.env _ (newList []) false (eval iter X.env) (some (assign (.Name x pos') X.env))) _ _ s
 refine yb (y1l (wpAny_comprehension_free (use:=some (assign (.Name x pos') X.env)) (Q:=fun _ s'=>SP X pins D .next s') rfl hs e0 S.kind S.locs
  (thn (hi pins s σ H _ I h) fun v s1 h1=>thn h1 fun itv s2 h2=>?_)) (fun _ s' hq=>yh (yh hq)) fun _ _ e=>e)
 obtain⟨it,fp,tn,J,H2,e,I2,T,st2,f2,hw⟩:=h2
 subst e
 refine Nd (Qe:=fun x H1=>B8 i x σ H1 D.nx) (RR:=fun acc C=>compPost (y06 X.prog X.w) X.A X.xe (some (assign (.Name x pos') X.env)) (fun _ s'=>SP X pins D .next s') acc C) hc S e1 e2 (hg cl) (ht cl) (he cl) I2 T st2 f2 hw fun D' C H' s' I' q ⟨m,hm⟩ ⟨f0,f1,_,f3,f4,f5⟩=>?_
 show y0b _ X.A (assign (.Name x pos') X.env (.ref D')) _ _ _
 refine wpAny_assign_Name (Mr I' hN hxi hx (v:=.ref D') rfl (fun s'' I'' ⟨a,sb,ha⟩=>?_) hf)
 have hCa:C≠a:=by
  rcases ha with ha|ha
  ·rw[ha]; exact f1
  ·exact fun z=>f4 x a ha z.symm
 refine⟨m,hm.sameBut sb hCa,fun h' sb'=>?_⟩
 rw[B8,DV] at q
 exact⟨_,H',I''.turned (t':=s''.toks) (fun b o hb e=>(sb'.2 b hb).trans e) f0 f1 f3 f4 f5,q⟩
end
section
variable{K:ya}{a:Addr}{xs:List V}{g:TG}{tt:TT}{te:TE}{σ:St}{H:Hp}{Q:VK}
abbrev CA(J:It)(g:TG)(tt:TT)(te:TE)(Q:VK)(σ:St)(H:Hp):Prop:=∃W:Nat->Nat->List V->St->Hp->Prop,(∃m,W 0 m [] σ H)/\∀i m ys σ H,W i m ys σ H->
 (J.stop i H/\ys.length<=ym/\∀p,H p=none->Q (.ref p) (upd H p (.lst ys)))\/(J.go i H/\ys.length<ym/\∃N:List V->St->Hp->Prop,(∀B z H',N B z H'->∃F,F<m/\W (i+1) F B z H')/\∀x H',J.yld i H x H'->g x σ H' fun q H2=>tt q H2 fun b G=>
  if b=true then te q G (fun v M=>N (ys++[v]) q M) else N ys q G)
theorem Dc(B:Nat->List V->St->Hp->Prop)(h0:B 0 [] σ H)(hz:xs.length<ym)(hy:∀i ys σ H,B i ys σ H->ys.length<=i)(Z:∀i ys σ H,i<=xs.length->B i ys σ H->SqL K H a xs)
  (U:∀i ys x σ H,xs[i]?=some x->B i ys σ H->g x σ H fun z H2=>tt z H2 fun b G=>if b=true then te z G (fun v H4=>B (i+1) (ys++[v]) z H4) else B (i+1) ys z G)
  (hd:∀ys σ H,B xs.length ys σ H->∀p,H p=none->Q (.ref p) (upd H p (.lst ys))):CA (Itl K a) g tt te Q σ H:=by
 refine⟨fun i m ys σ H=>m=xs.length-i/\i<=xs.length/\B i ys σ H,⟨xs.length,by simp,yo _,h0⟩,?_⟩;rintro i m ys σ H ⟨rfl,hi,p⟩;have q:=Z i ys σ H hi p;have R:=hy i ys σ H p;by_cases F:i<xs.length
 ·refine .inr ⟨⟨xs,xs[i],q,by simp[F]⟩,by lia,B (i+1),fun M J H' O=>⟨xs.length-(i+1),by lia,rfl,F,O⟩,fun x H' y=>?_⟩;obtain⟨e,y⟩:=y;subst e;exact U i ys x σ _ (y xs q) p
 ·have e:i=xs.length:=by lia
  subst e;exact .inl ⟨⟨xs,q,yf _⟩,by lia,hd ys σ H p⟩
end
section
variable{X:Cx}
def C0(K:ya):R2:=fun x y H Q=>∃a b xs ys,x=.ref a/\y=.ref b/\SqT K H a xs/\SqT K H b ys/\xs.length+ys.length<=ym/\
 (xs=[]->Q (.ref b) H)/\(xs≠[]->ys=[]->Q (.ref a) H)/\(xs≠[]->ys≠[]->∀p,H p=none->Q (.ref p) (upd H p (.tup (xs++ys))))
theorem Am:OpR X (binaryOp .Add) (C0 X.K):=by
 intro pins s σ H x y v u Q I U R h;obtain⟨a,b,xs,ys,rfl,rfl,ha,hb,hz,q0,q1,q2⟩:=h;by_cases hx:xs=[]
 ·cases U;cases R;obtain⟨z,r1,p1,_⟩:=I.tuple ha;obtain⟨q,r2,p2,_⟩:=I.tuple hb;obtain⟨⟨cls,dd,data,sl⟩,Z,hc,n,hd⟩:=id p1;obtain⟨⟨fc,O,data2,M⟩,B,J,n2,G⟩:=id p2;simp only at hc hd J G;subst hc hd J G;have he:z=[]:=r1.nil_iff.mpr hx;exact concat_meets ⟨_,Z,rfl⟩ ⟨_,B,rfl⟩ noFill_tuple_add seq_tuple_add y4h y46 (y3v _ _)
   (tuple_addW0 a b z.toArray q.toArray n n2 dd O sl M (by simp[he])) ⟨Z,B,⟨.ref b,H,I,rfl,q0 hx⟩⟩
 ·exact Tg pins s σ H _ _ v u Q I U R ⟨a,b,xs,ys,rfl,rfl,ha,hb,hx,hz,q1 hx,q2 hx⟩
noncomputable def Bi:V->PyData
 |.bl b=>.bool b
 |.int i=>.int i
 |.str x=>.str x
 |_=>.none
theorem U4(r:RelV x u)(f:BF x=true):Reads h u (Bi x) []:=by
 cases x with
 |non=>cases r; exact .none
 |bl b=>cases r; exact .bool b
 |int i=>obtain⟨t,rfl⟩:=r; exact .int i t
 |str z=>obtain⟨t,rfl⟩:=r; exact .str z t
 |_=>exact absurd (show false=true from f) yx
theorem Nf:∀{xs:List V} {us:List yg},Vals xs us->xs.all BF=true->ReadsAll h us (xs.map Bi) []
 |_,_,.nil,_=>.nil
 |_::_,_::_,.cons r t,f=>by
  rw[y5g,y05] at f;exact .cons (U4 r f.1) (Nf t f.2)
noncomputable def okV:V->Bool
 |.non=>true
 |.bl _=>true
 |.int _=>true
 |.str z=>PyData.strOk z
 |_=>false
theorem okV.flat(h:okV x=true):BF x=true:=by
 cases x<;>first|rfl|exact absurd (show false=true from h) yx
theorem okV.all{xs:List V}(h:xs.all okV=true):xs.all BF=true:=List.all_eq_true.mpr fun x hx=>okV.flat (List.all_eq_true.mp h x hx)
theorem Ng:∀(xs:List V),xs.all okV=true->PyData.canLayAll0 (xs.map Bi)=true/\PyData.depthAll (xs.map Bi)<=1
 |[],_=>by simp[PyData.canLayAll0,PyData.depthAll]
 |x::xs,hz=>by
  rw[y5g,y05] at hz;have h1:(Bi x).canLay0=true/\(Bi x).depth<=1:=by
   cases x with
   |str z=>exact⟨by simpa [Bi,PyData.canLay0,okV] using hz.1,by simp[Bi,PyData.depth]⟩
   |_=>exact⟨by simp[Bi,PyData.canLay0],by simp[Bi,PyData.depth]⟩
  have h2:=Ng xs hz.2;simp only[yj,PyData.canLayAll0,PyData.depthAll,h1.1,h2.1,Bool.and_self,true_and];have B:=h1.2;have q:=h2.2;lia
theorem HG{xs:List V}(h:xs.all okV=true):SeqAt.shaped (.list (xs.map Bi))=true:=by
 have q:=Ng xs h;unfold SeqAt.shaped;simp only[PyData.canLay0,PyData.depth,q.1,y2i];have:=q.2;exact decide_eq_true (by lia)
theorem Inv.readsL(I:Inv X pins σ H s)(h:SqL X.K H a xs)(f:xs.all okV=true):∃as,Reads s.heap (.ref a) (.list (xs.map Bi)) as:=by
 obtain⟨q,r,⟨o,n,e,c,_,d⟩,_⟩:=I.list h;exact⟨_,.list e c d (by simpa using Nf r (okV.all f))⟩
noncomputable def eqL(xs ys:List V):Bool:=PyData.eqv (.list (xs.map Bi)) (.list (ys.map Bi))
def Nh(K:ya)(neg:Bool):R2:=fun x y H Q=>∃a b xs ys,x=.ref a/\y=.ref b/\SqL K H a xs/\SqL K H b ys/\xs.all okV=true/\ys.all okV=true/\Q (.bl (if neg then !eqL xs ys else eqL xs ys)) H
theorem U8(hu:X.A.units+64<cLine):OpR X (y0t .Eq) (Nh X.K false):=by
 intro pins s σ H x y v u Q I G F h;obtain⟨a,b,xs,ys,rfl,rfl,ha,hb,B,z,q⟩:=h;cases G; cases F;obtain⟨as,M⟩:=I.readsL ha B;obtain⟨O,J⟩:=I.readsL hb z;exact eq_dataH M J (HG B) (HG z) hu ⟨.bl _,H,I,rfl,q⟩
theorem UA(hu:X.A.units+64<cLine):OpR X (y0t .NotEq) (Nh X.K true):=by
 intro pins s σ H x y v u Q I G F h;obtain⟨a,b,xs,ys,rfl,rfl,ha,hb,B,z,q⟩:=h;cases G; cases F;obtain⟨as,M⟩:=I.readsL ha B;obtain⟨O,J⟩:=I.readsL hb z;exact ne_dataH M J (HG B) (HG z) hu ⟨.bl _,H,I,rfl,q⟩
theorem Ni(xs:List V):eqL xs []=xs.isEmpty:=by
 cases xs<;>simp[eqL,PyData.eqv,PyData.eqvAll]
theorem UB:Al X (.builtin "isinstance") (fun xs H Q=>∃x n t b,xs=[x,.ty n]/\TyOf X.K H x t/\PySem.W.kitOne X.K t (.type n)=some b/\Q (.bl b) H):=by
 intro pins s σ H xs us Q I r h;obtain⟨x,n,t,b,rfl,ty,e,q⟩:=h;obtain⟨u,F,rfl,B,z⟩:=r.two;cases z;exact TM I B ty e fun tk=>⟨.bl b,H,I.tok tk,rfl,q⟩
noncomputable def Its(z:Str):It:=⟨fun i _=>i<z.cps.size,fun i H x H'=>H'=H/\∃c,z.cps[i]?=some c/\x=.str ⟨#[c]⟩,fun i _=>i=z.cps.size⟩
def UC(tl:TE):TI:=fun σ H R=>tl σ H fun x H1=>∃z,x=.str z/\R (Its z) H1
open PySem.AutoSeq1 (wpAny_loadPart') in
def Jp(K:ya):R2:=fun x y H Q=>∃l k xs,x=.ref l/\y=.int k/\SqT K H l xs/\2<=k/\k<2^62/\xs≠[]/\xs.length*k.toNat<=ym/\
 ∀p,H p=none->Q (.ref p) (upd H p (.tup (List.replicate k.toNat xs).flatten))
def Seq(K:ya)(H:Hp)(a:Addr):Prop:=(∃xs,SqL K H a xs)\/∃xs,SqT K H a xs
theorem UD(hu:X.A.units+64<cLine):OpR X (y0t .Eq) (fun x y H Q=>∃a z,x=.ref a/\y=.str z/\Seq X.K H a/\Q (.bl false) H):=by
 intro pins s σ H x y v u Q I G F h;obtain⟨a,z,rfl,rfl,hq,q⟩:=h;cases G;obtain⟨t,rfl⟩:=F;show y0b _ _ (richCompare .Eq _ _) _ _ _;rcases hq with⟨xs,hq⟩|⟨xs,hq⟩
 ·obtain⟨B,r,pl,hz⟩:=I.list hq;exact SeqAt.RcAt.list_str z t pl.isList (by lia) _ _ _ _ ⟨.bl false,H,I,rfl,q⟩
 ·obtain⟨B,r,pl,hz⟩:=I.tuple hq;exact SeqAt.RcAt.tuple_str z t (show s.heap.IsTuple a B.toArray from pl) (by lia) _ _ _ _ ⟨.bl false,H,I,rfl,q⟩
noncomputable def isN:V->Bool
 |.non=>true
 |_=>false
noncomputable def FT:yg->Bool
 |.none=>true
 |_=>false
theorem UE(hu:X.A.units+64<cLine):OpR X (y0t .In) (fun x y H Q=>∃p xs,x=.non/\y=.ref p/\SqL X.K H p xs/\(∀v∈xs,v=.non\/∃a ys,v=.ref a/\SqT X.K H a ys)/\Q (.bl (xs.any isN)) H):=by
 intro pins s σ H x y v u Q I U R h;obtain⟨p,xs,rfl,rfl,hq,G,q⟩:=h;cases U; cases R;obtain⟨z,r,pl,hz⟩:=I.list hq;have F:∀(xs:List V) (us:List yg),Vals xs us->(∀v∈xs,v=.non\/∃a ys,v=.ref a/\SqT X.K H a ys)->(∀u∈us,SeqAt.EqAt X.A.in1 s u .none (FT u))/\us.any FT=xs.any isN:=by
  intro xs us Z;induction Z with
  |nil=>intro _; exact⟨fun u hu=>(by cases hu),rfl⟩
  |cons J _ ih=>
   intro ha;obtain⟨O,M⟩:=ih fun v hv=>ha v (y0v _ hv);rcases ha _ y10 with e|⟨a,ys,e,hs⟩
   ·subst e;cases J;refine⟨fun u B=>?_,by rw[y24,y24,M]; rfl⟩;rcases List.mem_cons.mp B with rfl|h'
    ·exact SeqAt.EqAt.same _
    ·exact O u h'
   ·subst e;cases J;refine⟨fun u B=>?_,by rw[y24,y24,M]; rfl⟩;rcases List.mem_cons.mp B with rfl|h'
    ·obtain⟨z,_,ht,_⟩:=I.tuple hs;exact SeqAt.EqAt.tuple_none (show s.heap.IsTuple a z.toArray from ht) (by show X.A.units+1<_; lia)
    ·exact O u h'
 obtain⟨h1,h2⟩:=F xs z r G;refine SeqAt.in_listAt FT pl.isList (fun w hw=>h1 w (by simpa using hw)) ⟨.bl _,H,I,rfl,?_⟩;rw[show z.toArray.any FT=z.any FT by simp,h2];exact q
def Jq:R2:=fun x y H Q=>∃i j,x=.str i/\y=.str j/\Q (.bl (!decide (j.cps.toList<i.cps.toList))) H
def Jr:R2:=fun x y H Q=>∃i j,x=.str i/\y=.str j/\Q (.bl (decide (i.cps.toList<j.cps.toList))) H
def FU(K:ya)(x y:V)(H:Hp)(b:Bool):Prop:=(Gm x y=true/\b=decide (x=y))\/
 (∃a c xs ys,x=.ref a/\y=.ref c/\SqL K H a xs/\SqL K H c ys/\xs.all okV=true/\ys.all okV=true/\b=eqL xs ys)\/(∃a z,x=.ref a/\y=.str z/\Seq K H a/\b=false)
def qEq(K:ya):R2:=fun x y H Q=>∃b,FU K x y H b/\Q (.bl b) H
def qNe(K:ya):R2:=fun x y H Q=>∃b,((Gm x y=true/\b=decide (x=y))\/(∃a c xs ys,x=.ref a/\y=.ref c/\SqL K H a xs/\SqL K H c ys/\xs.all okV=true/\ys.all okV=true/\b=eqL xs ys))/\Q (.bl (!b)) H
def Nj(K:ya)(x y:V)(H:Hp)(b:Bool):Prop:=(∃p xs,y=.ref p/\(SqL K H p xs\/SqT K H p xs)/\BF x=true/\xs.all BF=true/\b=inV x xs)\/
 (∃i j,x=.str i/\y=.str j/\b = !(Builtin.Str.occurrences j i 0 j.length 1).isEmpty)\/
 (∃p xs,x=.non/\y=.ref p/\SqL K H p xs/\(∀v∈xs,v=.non\/∃a ys,v=.ref a/\SqT K H a ys)/\b=xs.any isN)
def qIn(K:ya):R2:=fun x y H Q=>∃b,Nj K x y H b/\Q (.bl b) H
def UF(K:ya)(x y:V)(H:Hp)(b:Bool):Prop:=(∃p xs,y=.ref p/\(SqL K H p xs\/SqT K H p xs)/\BF x=true/\xs.all BF=true/\b = !inV x xs)\/
 (∃i j,x=.str i/\y=.str j/\b = !(!(Builtin.Str.occurrences j i 0 j.length 1).isEmpty))\/
 (∃a p xs,x=.ref a/\y=.ref p/\Seq K H a/\SqT K H p xs/\(∀v∈xs,∃z,v=.str z)/\b=true)
def FV(K:ya):R2:=fun x y H Q=>∃b,UF K x y H b/\Q (.bl b) H
def Js(K:ya)(x:V)(H:Hp)(n:Nat):Prop:=(∃p ys,x=.ref p/\(SqL K H p ys\/SqT K H p ys)/\n=ys.length)\/∃z,x=.str z/\z.length<=ym/\n=z.length
def HH(K:ya):List V->Hp->VK->Prop:=fun xs H Q=>∃x n,xs=[x]/\Js K x H n/\Q (.int n) H
def HI:R2:=fun x y H Q=>y=.non/\Q (.bl (decide (x=.non))) H
def HJ:R2:=fun x y H Q=>y=.non/\Q (.bl (!decide (x=.non))) H
def Jt:R2:=fun x y H Q=>∃a b,x=.bl a/\y=.bl b/\Q (.bl (a==b)) H
def Ju:R2:=fun x y H Q=>∃a b,x=.bl a/\y=.bl b/\Q (.bl (a !=b)) H
theorem UG(hu:X.A.units+64<cLine):OpR X (y0t .NotIn) (fun x y H Q=>∃a p xs,x=.ref a/\y=.ref p/\Seq X.K H a/\SqT X.K H p xs/\(∀v∈xs,∃z,v=.str z)/\Q (.bl true) H):=by
 intro pins s σ H x y v u Q I O M h;obtain⟨a,p,xs,rfl,rfl,hq,hp,G,q⟩:=h;cases O; cases M;obtain⟨B,r,pl,hz⟩:=I.tuple hp;have F:∀(xs:List V) (us:List yg),Vals xs us->(∀v∈xs,∃z,v=.str z)->∀u∈us,SeqAt.EqAt X.A.in1 s u (.ref a) ((fun _=>false) u):=by
  intro xs us R;induction R with
  |nil=>intro _ u hu; cases hu
  |cons U _ Z=>
   intro ha u J;rcases List.mem_cons.mp J with rfl|h'
   ·obtain⟨z,e⟩:=ha _ y10;subst e;obtain⟨t,rfl⟩:=U;rcases hq with⟨ys,hq⟩|⟨ys,hq⟩
    ·obtain⟨B,_,pl,_⟩:=I.list hq;exact SeqAt.EqAt.str_list z t pl.isList (by show X.A.units+1<_; lia)
    ·obtain⟨B,_,pl,_⟩:=I.tuple hq;exact SeqAt.EqAt.str_tuple z t (show s.heap.IsTuple a B.toArray from pl) (by show X.A.units+1<_; lia)
   ·exact Z (fun v hv=>ha v (y0v _ hv)) u h'
 refine SeqAt.notIn_tupleAt (fun _=>false) pl (fun w hw=>F xs B r G w (by simpa using hw)) ⟨.bl _,H,I,rfl,?_⟩;have e:(!B.toArray.any fun _=>false)=true:=by simp
 rw[e];exact q
theorem gEq(hu:X.A.units+64<cLine):OpR X (y0t .Eq) (qEq X.K):=by
 intro pins s σ H x y v u Q I F B h;obtain⟨b,h,q⟩:=h;rcases h with⟨h,rfl⟩|⟨a,c,xs,ys,h1,h2,G,O,M,J,rfl⟩|⟨a,z,h1,h2,G,rfl⟩
 ·exact NF pins s σ H x y v u Q I F B ⟨h,q⟩
 ·exact U8 hu pins s σ H x y v u Q I F B ⟨a,c,xs,ys,h1,h2,G,O,M,J,q⟩
 ·exact UD hu pins s σ H x y v u Q I F B ⟨a,z,h1,h2,G,q⟩
theorem gNe(hu:X.A.units+64<cLine):OpR X (y0t .NotEq) (qNe X.K):=by
 intro pins s σ H x y v u Q I B z h;obtain⟨b,h,q⟩:=h;rcases h with⟨h,rfl⟩|⟨a,c,xs,ys,h1,h2,M,J,G,F,rfl⟩
 ·exact NG pins s σ H x y v u Q I B z ⟨h,q⟩
 ·exact UA hu pins s σ H x y v u Q I B z ⟨a,c,xs,ys,h1,h2,M,J,G,F,q⟩
theorem gIn(hu:X.A.units+64<cLine):OpR X (y0t .In) (qIn X.K):=by
 intro pins s σ H x y v u Q I B z h;obtain⟨b,h,q⟩:=h;rcases h with⟨p,xs,h1,h2,G,F,rfl⟩|⟨i,j,h1,h2,rfl⟩|⟨p,xs,h1,h2,G,F,rfl⟩
 ·exact Tm pins s σ H x y v u Q I B z ⟨p,xs,h1,h2,G,F,q⟩
 ·exact TC pins s σ H x y v u Q I B z ⟨i,j,h1,h2,q⟩
 ·exact UE hu pins s σ H x y v u Q I B z ⟨p,xs,h1,h2,G,F,q⟩
theorem UH(hu:X.A.units+64<cLine):OpR X (y0t .NotIn) (FV X.K):=by
 intro pins s σ H x y v u Q I B z h;obtain⟨b,h,q⟩:=h;rcases h with⟨p,xs,h1,h2,G,F,rfl⟩|⟨i,j,h1,h2,rfl⟩|⟨a,p,xs,h1,h2,G,F,J,rfl⟩
 ·exact Tn pins s σ H x y v u Q I B z ⟨p,xs,h1,h2,G,F,q⟩
 ·exact To pins s σ H x y v u Q I B z ⟨i,j,h1,h2,q⟩
 ·exact UG hu pins s σ H x y v u Q I B z ⟨a,p,xs,h1,h2,G,F,J,q⟩
theorem Dd:Al X (.builtin "len") (HH X.K):=by
 intro pins s σ H xs us Q I r h;obtain⟨x,n,rfl,h,q⟩:=h;rcases h with⟨p,ys,rfl,h,rfl⟩|⟨z,rfl,hz,rfl⟩
 ·exact Tp pins s σ H _ us Q I r ⟨p,ys,rfl,h,q⟩
 ·exact Tq pins s σ H _ us Q I r ⟨z,rfl,hz,q⟩
theorem CO:OpR X (y0t .Eq) (rI0 fun i j=>.bl (decide (i=j))):=by
 intro pins s σ H x y v u Q I B z h;obtain⟨i,rfl,F⟩:=isI.o h;obtain⟨j,rfl,q⟩:=isI.o F;refine NF pins s σ H _ _ v u Q I B z ⟨rfl,?_⟩;have e:decide (V.int i=V.int j)=decide (i=j):=by simp
 rw[e]; exact q
theorem HK:OpR X (y0t .NotEq) (rI0 fun i j=>.bl (!decide (i=j))):=by
 intro pins s σ H x y v u Q I B z h;obtain⟨i,rfl,F⟩:=isI.o h;obtain⟨j,rfl,q⟩:=isI.o F;refine NG pins s σ H _ _ v u Q I B z ⟨rfl,?_⟩;have e:decide (V.int i=V.int j)=decide (i=j):=by simp
 rw[e]; exact q
theorem Jv:OpR X (y0t .Is) HI:=TD
theorem Jw:OpR X (y0t .IsNot) HJ:=TF
def HL(K:ya):List V->Hp->VK->Prop:=fun xs H Q=>∃x n b,xs=[x,.ty n]/\(∃t,TyOf K H x t/\PySem.W.kitOne K t (.type n)=some b)/\Q (.bl b) H
theorem Jx:Al X (.builtin "isinstance") (HL X.K):=by
 intro pins s σ H xs us Q I r h;obtain⟨x,n,b,rfl,⟨t,h1,h2⟩,q⟩:=h;exact UB pins s σ H _ us Q I r ⟨x,n,t,b,rfl,h1,h2,q⟩
noncomputable def ET:Expr->Bool
 |.Starred ..=>true
 |_=>false
noncomputable def Bj:List Expr->Bool
 |[]=>true
 |e::r=>!ET e&&Bj r
theorem Cc(h:ET e=false):starEach (e::es) env=(false,eval e env)::starEach es env:=by
 cases e<;>first|rfl|exact absurd (show true=false from h) (by decide)
theorem De:∀{es:List Expr},Bj es=true->(backTo pos (starEach es env)).any (·.1)=false
 |[],_=>rfl
 |e::r,h=>by
  rw[Bj,y05,y1g] at h;rw[Cc h.1];have q:=De (pos:=pos) (env:=env) h.2;show(false || (backTo pos (starEach r env)).any (·.1))=false;rw[q]; rfl
end
theorem A1(ha:PE X e te)(hr:PA X es t)(h:ET e=false:=by rfl):PA X (e::es) (Bq te t):=TN ha hr (Cc h)
structure Callee(P:yq)(w:y0h)(K:ya)(mg:Str->Option yg)(base:Heap)(x:Str)(ps:List Str)(k:Nat)(sp:Sp):Prop where
 ex:∃f fd,FnOk P w K mg base CX0 k f fd ps sp/\mg x=some (.ref f)/\PySem.W.keepIn K (.ref f)=true/\Binds K fd ps []
theorem AH(C:Callee X.prog X.w X.K X.mg X.base x ps k sp)(hr:Room j X.A)(hk:k<=j)(ha:PA X (e::es) t)(hg:Gl X x:=by rfl)
  (O:(x==("__debug__" : Str))=false:=by decide) (G:Bj (e::es)=true:=by rfl) :
  PE X (.Call (.Name x p) (e::es) [] pos) (Gu sp [] E0 t):=by
 have B:=G;rw[Bj,y05,y1g] at B;have U:=Cc (es:=es) (env:=X.env) B.1;have J:=De (pos:=pos) (env:=X.env) B.2;obtain⟨f,fd,F,hm,M,hb⟩:=C;refine⟨?_⟩;intro pins s σ H Q I h;refine y3b (JN I hg hm ?_ O);refine PySem.W.callWith_K (h₀:=X.base) I.ok.mod.kin M (thn (ha pos pins s σ H _ I h) fun us Z ⟨vs,H1,R,r,q⟩=>⟨R.kIn,?_⟩) U J;exact TR F (hr.mono hk) hb .nil (fun _ _ _ _ _ _ _ z=>z.elim) R r q
theorem Aq{X:Cx}{x:Str}{p pos:Pos}{e:Expr}{es:List Expr}{t:TA}{id:String}{r:List V->Hp->VK->Prop}(hc:Al X (.builtin id) r)(hg:Gl X x)(hm:X.mg x=none)(F:bootBuiltins x=some (.builtin id))(ha:PA X (e::es) t) (G:x≠"__name__") (B:(x==("__debug__" : Str))=false)
  (z:Bj (e::es)=true:=by rfl):PE X (.Call (.Name x p) (e::es) [] pos) (tCB r t):=by
 have q:=z;rw[Bj,y05,y1g] at q;exact TV hc hg hm F ha G B (Cc q.1) (De q.2)
theorem D3{r:List V->Hp->VK->Prop}(hc:Al X (.type T) r)(hg:Gl X x)(hm:X.mg x=none)(F:bootBuiltins x=some (.type T))(ha:PA X (e::es) t) (G:x≠"__name__") (B:(x==("__debug__" : Str))=false)
  (z:Bj (e::es)=true:=by rfl):PE X (.Call (.Name x p) (e::es) [] pos) (tCB r t):=by
 have q:=z;rw[Bj,y05,y1g] at q;exact TW hc hg hm F ha G B (Cc q.1) (De q.2)
structure GC(mg:Str->Option yg)(x:Str)(v:V):Prop where
 ex:∃u,mg x=some u/\RelV v u
theorem Nk(h:GC X.mg x v)(hg:Gl X x:=by rfl) (hd:(x==("__debug__" : Str))=false:=by decide):PE X (.Name x pos) (tC v):=by
 obtain⟨u,hm,r⟩:=h;exact Sx hg hm r hd
noncomputable def Nl(N:List Str)(on:List (Str×NameKind))(sc:Scope)(z:List Str)(q:List (Option Nat)):Bool:=
 sc.kind==.function&&sc.names.all (fun y=>y.2 !=.cell)&&sc.names.all (fun y=>y.2 !=.local || sc.names.lookup y.1==some .local)&&sc.names.all (fun y=>y.2 !=.free || on.lookup y.1==some .cell)&&compOk N on sc.names z q
theorem CompS.of(h:Nl X.N X.env.scope.names sc N' mp=true):CompS X N' sc mp:=by
 unfold Nl at h;simp only[y05,beq_iff_eq] at h;obtain⟨⟨⟨⟨h1,h2⟩,F⟩,B⟩,q⟩:=h;refine⟨h1,fun y hy=>?_,fun y hy e=>?_,fun y hy e=>?_,q⟩
 ·have:=List.all_eq_true.mp h2 y hy;simpa using this
 ·have:=List.all_eq_true.mp F y hy;simp only[e,y35,beq_iff_eq] at this;rcases this with z|z
  ·exact absurd z (by decide)
  ·exact z
 ·have:=List.all_eq_true.mp B y hy;simp only[e,y35,beq_iff_eq] at this;rcases this with z|z
  ·exact absurd z (by decide)
  ·exact z
theorem opK{X:Cx}{K:ya}{f:yg->yg->Sem yg}{r:ya->R2}(h:OpR X f (r X.K))(q:X.K=K):OpR X f (r K):=q ▸ h
theorem ixK{X:Cx}{K:ya}{r:ya->R2}(h:IxR X (r X.K))(q:X.K=K):IxR X (r K):=q ▸ h
theorem Nm{X:Cx}{K:ya}{f:yg}{r:ya->List V->Hp->VK->Prop}(h:Al X f (r X.K))(q:X.K=K):Al X f (r K):=q ▸ h
theorem Nn{X:Cx}{K:ya}{es:List Expr}{k:Nat}{t:TGs}{n:Nat}{pos:Pos}(B:X.K=K)(hc:X.calm=true)(h:PGs X es t)(z:(assignEach es X.env).length=n:=by rfl)(q:(assignEach es X.env).findIdx? (·.1)=none:=by rfl):PG X (.Tuple es k pos) (EO K n t):=B ▸ BY hc h z q
noncomputable def UI:Expr->Bool
 |.ListComp ..=>true
 |.SetComp ..=>true
 |.DictComp ..=>true
 |_=>false
theorem AF(h:UI e=false):swapsWith e t l env=pure false:=by
 cases e<;>first|rfl|exact absurd (show true=false from h) (by decide)
theorem UJ(h:env.scope.names.lookup x=some .cell):swapsWith (.ListComp elt gs sc cp) (some (.Name x p)) l env=pure false:=by
 unfold swapsWith;have e:(env.kindOf x==some NameKind.local)=false:=by
  unfold Env.kindOf;rw[h]; rfl
 simp only[e,Bool.and_false,y3e]
inductive Dm where
 |non|bl (b:Bool)|int (i:Int)|str (x:Str)|tup (ds:List Dm)|lst
mutual
inductive Dt (H:Hp):V->Dm->Prop where
 |non:Dt H .non .non
 |bl (b:Bool):Dt H (.bl b) (.bl b)
 |int (i:Int):Dt H (.int i) (.int i)
 |str (x:Str):Dt H (.str x) (.str x)
 |tup {a:Addr} {xs:List V} {ds:List Dm}:H a=some (.tup xs)->DtA H xs ds->Dt H (.ref a) (.tup ds)
 |lst {a:Addr} {xs:List V}:H a=some (.lst xs)->Dt H (.ref a) .lst
inductive DtA (H:Hp):List V->List Dm->Prop where
 |nil:DtA H [] []
 |cons {x:V} {xs:List V} {d:Dm} {ds:List Dm}:Dt H x d->DtA H xs ds->DtA H (x::xs) (d::ds)
end
structure Kp(H H':Hp):Prop where
 t:∀b xs,H b=some (.tup xs)->H' b=some (.tup xs)
 l:∀b xs,H b=some (.lst xs)->∃ys,H' b=some (.lst ys)
theorem Kp.refl(H:Hp):Kp H H:=⟨fun _ _ h=>h,fun _ xs h=>⟨xs,h⟩⟩
theorem Kp.trans(a:Kp H H1)(b:Kp H1 H2):Kp H H2:=⟨fun c xs h=>b.t c xs (a.t c xs h),fun c xs h=>let ⟨ys,e⟩:=a.l c xs h; b.l c ys e⟩
theorem Same.kp(s:Same H H'):Kp H H':=⟨fun b xs h=>s b _ h,fun b xs h=>⟨xs,s b _ h⟩⟩
theorem A5(h:H p=none)(o:HO):Same H (upd H p o):=fun b u q=>by rw[A8 (AS q h)]; exact q
theorem Kp.set(h:H p=some (.lst xs)):Kp H (upd H p (.lst ys)):=
 ⟨fun b zs e=>by rw[A8 (AM e h (by intro z; cases z))]; exact e,fun b zs e=>by
  by_cases hb:b=p
  ·subst hb; exact⟨ys,A4⟩
  ·exact⟨zs,by rw[A8 hb]; exact e⟩⟩
mutual
theorem Dt.kp(k:Kp H H'):∀{v:V} {d:Dm},Dt H v d->Dt H' v d
 |_,_,.non=>.non
 |_,_,.bl b=>.bl b
 |_,_,.int i=>.int i
 |_,_,.str x=>.str x
 |_,_,.tup e r=>.tup (k.t _ _ e) (DtA.kp k r)
 |_,_,.lst e=>let ⟨_,e'⟩:=k.l _ _ e; .lst e'
theorem DtA.kp(k:Kp H H'):∀{xs:List V} {ds:List Dm},DtA H xs ds->DtA H' xs ds
 |_,_,.nil=>.nil
 |_,_,.cons r t=>.cons (Dt.kp k r) (DtA.kp k t)
end
theorem DtA.length:∀{xs:List V} {ds:List Dm},DtA H xs ds->xs.length=ds.length
 |_,_,.nil=>rfl
 |_,_,.cons _ t=>by rw[yu,yu,DtA.length t]
theorem DtA.append:∀{xs ys:List V} {ds es:List Dm},DtA H xs ds->DtA H ys es->DtA H (xs++ys) (ds++es)
 |_,_,_,_,.nil,h=>h
 |_,_,_,_,.cons r t,h=>.cons r (DtA.append t h)
theorem DtA.get:∀{xs:List V} {ds:List Dm} {i:Nat} {x:V},DtA H xs ds->xs[i]?=some x->∃d,ds[i]?=some d/\Dt H x d
 |_,_,_,_,.nil,e=>by simp at e
 |_,_,0,_,.cons r _,e=>by simp at e; subst e; exact⟨_,rfl,r⟩
 |_,_,i+1,x,.cons _ t,e=>by
  obtain⟨d,h1,h2⟩:=DtA.get (i:=i) (x:=x) t (by simpa using e);exact⟨d,by simpa using h1,h2⟩
theorem Dt.tupI(h:Dt H v (.tup ds)):∃a xs,v=.ref a/\H a=some (.tup xs)/\DtA H xs ds:=by
 cases h with
 |tup e r=>exact⟨_,_,rfl,e,r⟩
section
variable{X:Cx}
theorem No:∀{ns:List Int} {us:List yg},IntsAre us ns->Vals (ns.map V.int) us
 |_,_,.nil=>.nil
 |_,_,.cons n t h=>.cons ⟨t,rfl⟩ (No h)
def FW(K:ya):List V->Hp->VK->Prop:=fun xs H Q=>∃(a:Addr) (ns:List Int),xs=[.ref a]/\SqL K H a (ns.map V.int)/\0<ns.length/\∀M,M∈ns->(∀a∈ns,M<=a)->Q (.int M) H
def FX(K:ya):List V->Hp->VK->Prop:=fun xs H Q=>∃(a:Addr) (ns:List Int),xs=[.ref a]/\SqL K H a (ns.map V.int)/\0<ns.length/\∀M,M∈ns->(∀a∈ns,a<=M)->Q (.int M) H
theorem UK(hc:X.calm=true):Al X (.builtin "min") (FW X.K):=by
 intro pins s σ H xs us Q I r h;obtain⟨a,ns,rfl,hq,B,q⟩:=h;obtain⟨u,rfl,M⟩:=r.one;cases M;obtain⟨O,J,pl,hz⟩:=I.list hq;have hi:=Jj J;obtain⟨xs,e⟩:=hi.allInts.items;have z:ns=xs.toList.map (·.1):=by
  rw[<- hi.numsOf,<- nums_intItems,<- e]
 have hsz:0<xs.size:=by
  have G:=B; rw[z,y4,yi] at G; exact G
 have F:=pl.isList;rw[e] at F;refine min_intList (I.ok.hd hc) F hsz fun v h' tk R hk=>?_;obtain⟨t,rfl⟩:=intItems_at R;obtain⟨h1,h2⟩:=argBest_lt (numAt xs) (xs.size-1);refine⟨.int _,H,I.kept hk,⟨_,rfl⟩,q _ ?_ fun a ha=>?_⟩
 ·rw[z,numAt_eq]; exact getD_mem (by rw[y4,yi]; lia)
 ·rw[z] at ha;obtain⟨j,U,rfl⟩:=mem_getD ha;rw[y4,yi] at U;rw[<- numAt_eq]; exact h2 j (by lia)
theorem UL(hc:X.calm=true):Al X (.builtin "max") (FX X.K):=by
 intro pins s σ H xs us Q I r h;obtain⟨a,ns,rfl,hq,B,q⟩:=h;obtain⟨u,rfl,M⟩:=r.one;cases M;obtain⟨O,J,pl,hz⟩:=I.list hq;have hi:=Jj J;obtain⟨xs,e⟩:=hi.allInts.items;have z:ns=xs.toList.map (·.1):=by
  rw[<- hi.numsOf,<- nums_intItems,<- e]
 have hsz:0<xs.size:=by
  have G:=B; rw[z,y4,yi] at G; exact G
 have F:=pl.isList;rw[e] at F;refine max_intList (I.ok.hd hc) F hsz fun v h' tk R hk=>?_;obtain⟨t,rfl⟩:=intItems_at R;obtain⟨h1,h2⟩:=argBest_gt (numAt xs) (xs.size-1);refine⟨.int _,H,I.kept hk,⟨_,rfl⟩,q _ ?_ fun a ha=>?_⟩
 ·rw[z,numAt_eq]; exact getD_mem (by rw[y4,yi]; lia)
 ·rw[z] at ha;obtain⟨j,U,rfl⟩:=mem_getD ha;rw[y4,yi] at U;rw[<- numAt_eq]; exact h2 j (by lia)
def HM(K:ya):List V->Hp->VK->Prop:=fun xs H Q=>∃(a:Addr) (ns:List Int),xs=[.ref a]/\SqL K H a (ns.map V.int)/\ns.length<64/\∀(l:Addr) (q:List Int),H l=none->q.Perm ns->q.Pairwise (· <= ·)->Q (.ref l) (upd H l (.lst (q.map V.int)))
theorem UM:Al X (.builtin "sorted") (HM X.K):=by
 intro pins s σ H xs us Q I r h;obtain⟨a,ns,rfl,hq,R,q⟩:=h;obtain⟨u,rfl,J⟩:=r.one;cases J;obtain⟨B,F,pl,hz⟩:=I.list hq;have hi:=Jj F;have z:=F.length;rw[y4] at z hz;refine sorted_ints pl.isList hi (by lia) fun out M U G a3=>?_;obtain⟨e,O⟩:=sortedAll_at s.heap B out;refine⟨.ref (s.heap.objs.size+1),_,I.laid (t':=s.toks) (fun b o e=>sortedAll_old e) (y3d _) (show ObjOk X.prog X.w _ _ _ (.lst (M.map V.int)) from⟨?_,out.toList,e,No U,?_⟩),rfl,q _ _ (I.hok.fresh (y3d _)) G a3⟩
 ·rw[y4,G.length_eq]; exact hz
 ·simpa [y19] using O
def HN(t ta tb:TT):TT:=fun σ H Q=>t σ H fun c H1=>if c=true then ta σ H1 Q else tb σ H1 Q
theorem UN(hc:PT X c tc)(ha:PT X a ta)(hb:PT X b tb):PT X (.IfExp c a b pos) (HN tc ta tb):=by
 refine⟨?_⟩;intro pins s σ H Q I h;refine isTrue_IfExp (thn (hc pins s σ H _ I h) fun d q ⟨H1,B,z⟩=>?_);cases d with
 |true=>exact ha pins q σ H1 Q B z
 |false=>exact hb pins q σ H1 Q B z
mutual
noncomputable def Dm.dat:Dm->PyData
 |.non=>.none
 |.bl b=>.bool b
 |.int i=>.int i
 |.str x=>.str x
 |.tup ds=>.tuple (Aj ds)
 |.lst=>.none
noncomputable def Aj:List Dm->List PyData
 |[]=>[]
 |d::ds=>d.dat::Aj ds
end
mutual
noncomputable def Dm.shut:Dm->Bool
 |.tup ds=>CP ds
 |.lst=>false
 |.str x=>PyData.strOk x
 |_=>true
noncomputable def CP:List Dm->Bool
 |[]=>true
 |d::ds=>d.shut&&CP ds
end
mutual
theorem Dt.reads(I:Inv X pins σ H s):∀{x:V} {d:Dm} {u:yg},Dt H x d->d.shut=true->RelV x u->∃as,Reads s.heap u d.dat as
 |_,_,_,.non,_,r=>by cases r; exact⟨_,.none⟩
 |_,_,_,.bl b,_,r=>by cases r; exact⟨_,.bool b⟩
 |_,_,_,.int i,_,r=>by obtain⟨t,rfl⟩:=r; exact⟨_,.int i t⟩
 |_,_,_,.str x,_,r=>by obtain⟨t,rfl⟩:=r; exact⟨_,.str x t⟩
 |_,_,_,.tup e F,z,r=>by
  cases r;obtain⟨G,B,⟨o,J,hc,n,hd⟩,_⟩:=I.tuple (SqT.of e);obtain⟨as,q⟩:=DtA.reads I F (by simpa [Dm.shut] using z) B;exact⟨as,by rw[Dm.dat]; exact .tuple J hc hd (by simpa using q)⟩
 |_,_,_,.lst _,z,_=>absurd z (by simp[Dm.shut])
theorem DtA.reads(I:Inv X pins σ H s):∀{xs:List V} {ds:List Dm} {us:List yg},DtA H xs ds->CP ds=true->Vals xs us->∃as,ReadsAll s.heap us (Aj ds) as
 |_,_,_,.nil,_,.nil=>⟨[],by rw[Aj]; exact .nil⟩
 |_,_,_,.cons r t,q,.cons z rt=>by
  rw[CP,y05] at q;obtain⟨as,F⟩:=Dt.reads I r q.1 z;obtain⟨G,B⟩:=DtA.reads I t q.2 rt;exact⟨as++G,by rw[Aj]; exact .cons F B⟩
end
def EqD(H:Hp)(x y:V)(b:Bool):Prop:=∃d e,Dt H x d/\Dt H y e/\(d.shut=true/\SeqAt.shaped d.dat=true)/\(e.shut=true/\SeqAt.shaped e.dat=true)/\b=PyData.eqv d.dat e.dat
def HP(_:ya):R2:=fun x y H Q=>∃b,EqD H x y b/\Q (.bl b) H
def HQ(_:ya):R2:=fun x y H Q=>∃b,EqD H x y b/\Q (.bl (!b)) H
theorem dEq(hu:X.A.units+64<cLine):OpR X (y0t .Eq) (HP X.K):=by
 intro pins s σ H x y v u Q I M J h;obtain⟨b,⟨d,e,dx,U,⟨G,F⟩,⟨B,z⟩,rfl⟩,q⟩:=h;obtain⟨as,R⟩:=Dt.reads I dx G M;obtain⟨Z,O⟩:=Dt.reads I U B J;exact eq_dataH R O F z hu ⟨.bl _,H,I,rfl,q⟩
theorem dNe(hu:X.A.units+64<cLine):OpR X (y0t .NotEq) (HQ X.K):=by
 intro pins s σ H x y v u Q I M J h;obtain⟨b,⟨d,e,dx,U,⟨G,F⟩,⟨B,z⟩,rfl⟩,q⟩:=h;obtain⟨as,R⟩:=Dt.reads I dx G M;obtain⟨Z,O⟩:=Dt.reads I U B J;exact ne_dataH R O F z hu ⟨.bl _,H,I,rfl,q⟩
end
section
variable{κ:Type} [DecidableEq κ]
noncomputable def B9(kvs:List (κ×V))(k:κ):Option V:=(kvs.find? fun kv=>decide (kv.1=k)).map (·.2)
noncomputable def An(kvs:List (κ×V))(k:κ)(v:V):List (κ×V):=
 if(kvs.any fun kv=>decide (kv.1=k))=true then kvs.map (fun kv=>if kv.1=k then(kv.1,v) else kv) else kvs++[(k,v)]
theorem HR{p:κ×V}{r:List (κ×V)}{k:κ}(e:p.1=k):B9 (p::r) k=some p.2:=by simp[B9,y0o,e]
theorem HS{p:κ×V}{r:List (κ×V)}{k:κ}(e:¬ p.1=k):B9 (p::r) k=B9 r k:=by simp[B9,y0o,e]
theorem Jy(k:κ):∀kvs:List (κ×V),(kvs.any fun kv=>decide (kv.1=k))=(B9 kvs k).isSome
 |[]=>rfl
 |p::r=>by
  rw[y24];by_cases e:p.1=k
  ·simp only[HR e,decide_eq_true e,Bool.true_or,Option.isSome_some]
  ·rw[HS e,decide_eq_false e,Bool.false_or]; exact Jy k r
theorem Jz(kvs:List (κ×V))(k:κ)(v:V):(An kvs k v).length<=kvs.length+1:=by
 unfold An;split
 ·rw[y4]; lia
 ·rw[yc,yu,y2n]; lia
theorem RelO.isSome_eq(r:RelO o u):o.isSome=u.isSome:=by
 cases o with
 |none=>cases u with
  |none=>rfl
  |some _=>exact(show False from r).elim
 |some _=>cases u with
  |none=>exact(show False from r).elim
  |some _=>rfl
theorem RelO.getD(r:RelO o u)(q:RelV d d'):RelV (o.getD d) (u.getD d'):=by
 cases o with
 |none=>cases u with
  |none=>exact q
  |some _=>exact(show False from r).elim
 |some _=>cases u with
  |none=>exact(show False from r).elim
  |some _=>exact r
theorem KV.val{kvs:List (κ×V)}{vs:List (κ×yg)}(r:KV kvs vs)(k:κ):RelO (B9 kvs k) (valueAt vs k):=by
 unfold KV at r;induction r with
 |nil=>exact True.intro
 |@cons p q ps B h t G=>
  obtain⟨h1,h2⟩:=h;by_cases e:p.1=k
  ·have F:q.1=k:=h1.symm.trans e;have b:valueAt (q::B) k=some q.2:=by simp[valueAt,y0o,F]
   rw[HR e,b]; exact h2
  ·have F:¬ q.1=k:=fun z=>e (h1.trans z);have b:valueAt (q::B) k=valueAt B k:=by simp[valueAt,y0o,F]
   rw[HS e,b]; exact G
theorem KV.any(r:KV kvs vs)(k:κ):(kvs.any fun kv=>decide (kv.1=k))=vs.any fun kv=>decide (kv.1=k):=by
 unfold KV at r;induction r with
 |nil=>rfl
 |cons h t q=>rw[y24,y24,q,h.1]
theorem KV.repl(r:KV kvs vs)(k:κ)(B:RelV y u) :
  KV (kvs.map fun kv=>if kv.1=k then(kv.1,y) else kv) (vs.map fun kv=>if kv.1=k then(kv.1,u) else kv):=by
 unfold KV at r |-;induction r with
 |nil=>exact .nil
 |@cons p q ps G h t F=>
  rw[yj,yj];refine .cons ?_ F;obtain⟨h1,h2⟩:=h;by_cases e:p.1=k
  ·rw[if_pos e,if_pos (h1.symm.trans e)]; exact⟨h1,B⟩
  ·rw[if_neg e,if_neg (fun z=>e (h1.trans z))]; exact⟨h1,h2⟩
theorem KV.put(r:KV kvs vs)(k:κ)(q:RelV y u):KV (An kvs k y) (stored vs k u):=by
 unfold An stored;rw[r.any k];by_cases e:(vs.any fun kv=>decide (kv.1=k))=true
 ·rw[if_pos e,if_pos e]; exact r.repl k q
 ·rw[if_neg e,if_neg e]; exact Paired.snoc r ⟨rfl,q⟩
theorem KV.length(r:KV kvs vs):kvs.length=vs.length:=y21 r
theorem EU(r:RelV (kV k) u):(AQ P w).is k u=true:=by
 cases k with
 |inl i=>obtain⟨t,e⟩:=(show ∃t,u=Value.int i t from r); subst e; exact Sq P w i t
 |inr x=>obtain⟨t,e⟩:=(show ∃t,u=Value.str x t from r); subst e; exact Sr P w x t
theorem Np:∀{ks:List Key} {us:List yg},Vals (ks.map kV) us->ItemsAre (AQ P w) ks us
 |[],_,r=>by rw[y2f] at r; cases r; exact .nil
 |k::ks,_,r=>by
  rw[yj] at r;cases r with
  |cons h t=>exact .cons (EU h) (Np t)
abbrev KT(H:Hp):List (List Key×V)->List (List Key×Addr×yg)->Prop:=Paired fun p q=>p.1=q.1/\H q.2.1=some (.tup (p.1.map kV))/\RelV p.2 q.2.2
theorem KT.val{H:Hp}{kvs:List (List Key×V)}{xs:List (List Key×Addr×yg)}(r:KT H kvs xs)(k:List Key):RelO (B9 kvs k) ((atKey xs k).map (·.2)):=by
 induction r with
 |nil=>exact True.intro
 |@cons p q ps B h t G=>
  obtain⟨h1,_,h2⟩:=h;by_cases e:p.1=k
  ·have F:q.1=k:=h1.symm.trans e;have b:atKey (q::B) k=some q.2:=by simp[atKey,y0o,F]
   rw[HR e,b]; exact h2
  ·have F:¬ q.1=k:=fun z=>e (h1.trans z);have b:atKey (q::B) k=atKey B k:=by simp[atKey,y0o,F]
   rw[HS e,b]; exact G
theorem KT.repl(r:KT H kvs xs)(k:List Key)(B:RelV y u) :
  KT H (kvs.map fun kv=>if kv.1=k then(kv.1,y) else kv) (xs.map (putAt k u)):=by
 induction r with
 |nil=>exact .nil
 |@cons p q ps J h t F=>
  rw[yj,yj];refine .cons ?_ F;obtain⟨h1,h2,G⟩:=h;unfold putAt;by_cases e:p.1=k
  ·rw[if_pos e,if_pos (h1.symm.trans e)]; exact⟨h1,h2,B⟩
  ·rw[if_neg e,if_neg (fun z=>e (h1.trans z))]; exact⟨h1,h2,G⟩
theorem KT.put(r:KT H kvs xs)(k:List Key)(hb:H b=some (.tup (k.map kV)))(z:RelV y u) :
  KT H (An kvs k y) (storedH xs k b u):=by
 have e:(kvs.any fun kv=>decide (kv.1=k))=(atKey xs k).isSome:=by
  rw[Jy,(r.val k).isSome_eq,y5d]
 unfold An storedH;rw[e];by_cases q:(atKey xs k).isSome=true
 ·rw[if_pos q,if_pos q]; exact r.repl k z
 ·rw[if_neg q,if_neg q]; exact Paired.snoc r ⟨rfl,hb,z⟩
theorem KT.keeps(r:KT H kvs xs)(q:∀b ys,H b=some (.tup ys)->H' b=some (.tup ys)):KT H' kvs xs:=
 Paired.mapP r fun _ _ z=>⟨z.1,q _ _ z.2.1,z.2.2⟩
end
section
variable{P:yq}{w:y0h}{H:Hp}{h:Heap}{a:Addr}
theorem Dg(ok:HOk P w H h)(e:Rd H a u):ObjOk P w H h a u:=e.ok ok
theorem EV(ok:HOk P w H h)(e:Rd H a (.dK kvs)):kvs.length<=ym/\(a==sysModules)=false/\∃vs,KV kvs vs/\h.DictOf (AQ P w) a vs:=
 show ObjOk P w H h a (.dK kvs) from Dg ok e
theorem K0(ok:HOk P w H h)(e:H a=some (.dK kvs)):kvs.length<=ym/\(a==sysModules)=false/\∃vs,KV kvs vs/\h.DictOf (AQ P w) a vs:=EV ok (.inl e)
theorem EW(ok:HOk P w H h)(e:H a=some (.tup (ks.map kV))):(tupleKind (AQ P w)).is h ks a:=by
 obtain⟨_,q,r,o,h1,h2,n,z⟩:=(show ObjOk P w H h a (.tup (ks.map kV)) from ok a _ e);exact⟨o,q.toArray,n,h1,h2,z,by simpa using Np r⟩
theorem FY(ok:HOk P w H h)(e:Rd H a (.dT kvs)):kvs.length<=ym/\(a==sysModules)=false/\
  ∃xs,KT H kvs xs/\h.DictOfH (tupleKind (AQ P w)) a xs:=by
 obtain⟨z,y,xs,r,o,es,ep,h1,h2,M,J,G⟩:=(show ObjOk P w H h a (.dT kvs) from Dg ok e);refine⟨z,y,xs,r,o,es,ep,h1,h2,M,J,fun x hx=>?_,G⟩;have B:∀{l:List (List Key×V)} {m:List (List Key×Addr×yg)},KT H l m->∀x∈m,(tupleKind (AQ P w)).is h x.1 x.2.1:=by
  intro l m q;induction q with
  |nil=>intro x hx; exact nomatch hx
  |@cons p q ps O hq t F=>
   intro x hx;rcases List.mem_cons.mp hx with e|hx
   ·subst e;exact EW ok (by rw[<- hq.1]; exact hq.2.1)
   ·exact F x hx
 exact B r x hx
theorem Nq(ok:HOk P w H h)(e:H a=some (.dT kvs)):kvs.length<=ym/\(a==sysModules)=false/\
  ∃xs,KT H kvs xs/\h.DictOfH (tupleKind (AQ P w)) a xs:=FY ok (.inl e)
end
def DGet(H:Hp)(a:Addr)(y:V)(r:Option V):Prop:=
 (∃kvs k,Rd H a (.dK kvs)/\y=kV k/\r=B9 kvs k)\/∃kvs k b,Rd H a (.dT kvs)/\y=.ref b/\H b=some (.tup (k.map kV))/\r=B9 kvs k
def DPut(H:Hp)(a:Addr)(y v:V)(H':Hp):Prop:=
 (∃kvs k,H a=some (.dK kvs)/\y=kV k/\kvs.length<ym/\H'=upd H a (.dK (An kvs k v)))\/
 ∃kvs k b,H a=some (.dT kvs)/\y=.ref b/\H b=some (.tup (k.map kV))/\kvs.length<ym/\H'=upd H a (.dT (An kvs k v))
theorem DGet.k{H:Hp}{a:Addr}{kvs:List (Key×V)}{k:Key}(e:H a=some (.dK kvs)):DGet H a (kV k) (B9 kvs k):=.inl ⟨kvs,k,.inl e,rfl,rfl⟩
theorem DGet.t{H:Hp}{a b:Addr}{kvs:List (List Key×V)}{k:List Key}(e:H a=some (.dT kvs))(q:H b=some (.tup (k.map kV))):DGet H a (.ref b) (B9 kvs k):=.inr ⟨kvs,k,b,.inl e,rfl,q,rfl⟩
theorem DPut.k{H:Hp}{a:Addr}{kvs:List (Key×V)}{k:Key}{v:V}(e:H a=some (.dK kvs))(q:kvs.length<ym):DPut H a (kV k) v (upd H a (.dK (An kvs k v))):=.inl ⟨kvs,k,e,rfl,q,rfl⟩
theorem DPut.t{H:Hp}{a b:Addr}{kvs:List (List Key×V)}{k:List Key}{v:V}(e:H a=some (.dT kvs))(z:H b=some (.tup (k.map kV)))(q:kvs.length<ym) :
  DPut H a (.ref b) v (upd H a (.dT (An kvs k v))):=.inr ⟨kvs,k,b,e,rfl,z,q,rfl⟩
section
variable{X:Cx}{pins:List (Addr×Obj)}{σ:St}{H:Hp}{s:ye}{a:Addr}{y v:V}{u r:yg}{o:Option V}{A:y0n}{E:yg->ye->Prop}
theorem Inv.big(I:Inv X pins σ H s):sysModules<s.heap.objs.size:=by
 have h:y0g<s.heap.objs.size:=(I.mod.glob.keeps I.bk).lt;exact y1i (by decide) h
theorem UO{Q:yg->ye->Prop}(hu:A.units+1<cLine)(I:Inv X pins σ H s)(g:DGet H a y (some v))(O:RelV y u)(h:∀F s',Inv X pins σ H s'->RelV v F->Q F s') :
  y0b (y06 X.prog X.w) A (getItem (.ref a) u) Q E s:=by
 rcases g with⟨kvs,k,e,J,l⟩|⟨kvs,k,b,e,J,U,l⟩
 ·subst J;obtain⟨z,hd,vs,B,M⟩:=EV I.hok e;obtain⟨F,hw,q⟩:=RelO.some_of (v:=v) (o:=valueAt vs k) (by rw[l]; exact B.val k);exact wpAny_getItem_of (EU O) M.mapOf hw (h F _ (I.tok _) q)
 ·subst J;cases (show u=Value.ref b from O);obtain⟨z,hd,xs,B,M⟩:=FY I.hok e;obtain⟨F,hw,q⟩:=RelO.some_of (v:=v) (o:=(atKey xs k).map (·.2)) (by rw[l]; exact B.val k);obtain⟨p,R,G⟩:=Option.map_eq_some_iff.mp hw;refine wpAny_getItem_heap (y4m hu) (EW I.hok U) M R ?_;rw[G];exact h F _ (I.tok _) q
theorem HU{t':Nat}(I:Inv X pins σ H s)(F:Mut (H a))(G:Heap.SameBut a s.heap h')(J:∃q,h'.get? a=some q)(B:ObjOk X.prog X.w (upd H a ob) h' a ob) :
  Inv X pins σ (upd H a ob) {s with heap:=h',toks:=t'}:=
 I.write (x:=a) (e:=a) F (.inl rfl) (fun b q hb z=>(G.2 b hb).trans z) J B
theorem UP(z:kvs.length<=ym)(hd:(a==sysModules)=false)(q:KV kvs vs)(B:h'.DictOf (AQ P w) a vs) :
  ObjOk P w H' h' a (.dK kvs):=⟨z,hd,vs,q,B⟩
theorem UQ{Q:Unit->ye->Prop}(hu:A.units+1<cLine)(I:Inv X pins σ H s)(g:DPut H a y v H')(U:RelV y u)(Z:RelV v r)(h:∀s',Inv X pins σ H' s'->Q () s') :
  y0b (y06 X.prog X.w) A (setItem (.ref a) u r) Q E s:=by
 rcases g with⟨kvs,k,e,M,l,O⟩|⟨kvs,k,b,e,M,eb,l,O⟩
 ·subst M O;obtain⟨z,hd,vs,B,R⟩:=K0 I.hok e;have hz:vs.length<=ym:=by rw[<- B.length]; exact z
  have J:(An kvs k v).length<=ym:=by have:=Jz kvs k v; lia
  refine wpAny_setItem_pairs (hsz:=hz) (EU U) R fun h' F G=>h _ ?_;have he:∃q,h'.get? a=some q:=let ⟨q,_,_,hq,_⟩:=F; ⟨q,hq⟩;exact HU I (by rw[e]; exact True.intro) G he (UP J hd (B.put k Z) F)
 ·subst M O;cases (show u=Value.ref b from U);obtain⟨z,hd,xs,B,R⟩:=Nq I.hok e;have hz:xs.length<=ym:=by rw[<- y21 B]; exact z
  have J:(An kvs k v).length<=ym:=by have:=Jz kvs k v; lia
  refine wpAny_setItem_heap (hsz:=hz) (y4m hu) (EW I.hok eb) R fun h' F G=>h _ ?_;obtain⟨q,es,ep,hq,h2,h3,h4,_,h5⟩:=F;refine HU I (by rw[e]; exact True.intro) G ⟨q,hq⟩ ⟨J,hd,_,(B.put k eb Z).keeps fun c ys ec=>?_,q,es,ep,hq,h2,h3,h4,h5⟩;rw[A8 (AM ec e (fun z=>nomatch z))];exact ec
end
section
variable{X:Cx}{pins:List (Addr×Obj)}{σ:St}{H:Hp}{s:ye}{a:Addr}{kvs:List (Key×V)}{k:Key}{u:yg}{A:y0n}{E:yg->ye->Prop}
def K6(i:Expr):Prop:=∀q z,subscripted i false q z=operate [q,z] (getItem q z)
end
theorem Nr{prog:yq}{w:y0h}{A:y0n}{E:yg->ye->Prop}{s:ye}{env:Env}{value q:Expr}{pos:Pos}{T id:String}{Q:yg->ye->Prop}
  (R:typeLookup (.type T) "__getitem__" = pure (some (.builtin id))) (O:K6 q)
  (h:y0b (y06 prog w) A (eval value env) (fun o G=>y0b (y06 prog w) A (eval q env) (fun i z=>z.TypeIs o T/\y0b (y06 prog w) A (getItem o i) Q E z) E G) E s) :
  y0b (y06 prog w) A (eval (.Subscript value q pos) env) Q E s:=by
 refine Subscript_ (y1l h (fun o G h₁=>y1l h₁ (fun i z B=>?_) fun _ _ x=>x) fun _ _ x=>x);obtain⟨M,B⟩:=B;unfold subscriptTail;refine yb ?_;rw[getitemInPython_of_ne M.not_modules];refine yb (y44 M R ?_);have fin:y0b (y06 prog w) A (subscripted q false o i) (fun r F=>y0b (y06 prog w) A (letTemporaryGo value o r >>= fun _=>pure r) Q E F) E z:=by
  rw[O o i];exact wpAny_operating (y1l B (fun r F J=>yb (wpAny_letTemporaryGo (yh J))) fun _ _ x=>x)
 first
  |exact yh (yb fin)
  |exact yb (yh (yb fin))
  |exact yb fin
theorem UR(I:Inv X pins σ H s)(g:DGet H a y o):s.TypeIs (.ref a) "dict":=by
 rcases g with⟨kvs,k,e,_,_⟩|⟨kvs,k,b,e,_,_,_⟩
 ·obtain⟨_,_,vs,_,q⟩:=EV I.hok e;exact q.typeIs
 ·obtain⟨_,_,xs,_,q⟩:=FY I.hok e;exact q.typeIs
def HV(td ty:TE):TE:=fun σ H Q=>td σ H fun x H1=>ty σ H1 fun y H2=>∃a v,x=.ref a/\DGet H2 a y (some v)/\Q v H2
def HX(td ty tv:TE):TS:=fun D σ H=>tv σ H fun v H1=>td σ H1 fun x H2=>ty σ H2 fun y z=>∃a q,x=.ref a/\DPut z a y v q/\D.nx σ q
section
variable{X:Cx}{o i e value:Expr}{pos pos' tpos:Pos}{td ty tv:TE}
theorem EX(hu:X.A.units+1<cLine)(U:PE X o td)(hi:PE X i ty)(R:K6 i):PE X (.Subscript o i pos) (HV td ty):=by
 refine⟨?_⟩;intro pins s σ H Q I h;refine Nr PySem.F.slot_dict_getitem.lookup R (thn (U pins s σ H _ I h) fun u B ⟨x,H1,I1,J,O⟩=>thn (hi pins B σ H1 _ I1 O) fun iv s2 ⟨y,H2,z,G,a,v,ex,g,M⟩=>?_);subst ex;obtain rfl:u=Value.ref a:=J;exact⟨UR z g,UO hu z g G fun w' s3 Z q=>⟨v,H2,Z,q,M⟩⟩
theorem HY(hu:X.A.units+1<cLine)(Z:PE X o td)(hi:PE X i ty)(R:PE X value tv)(U:swapsWith value (some (.Subscript o i pos')) pos.line X.env=pure false) :
  PS X (.Assign [.Subscript o i pos'] value pos) (HX td ty tv):=by
 refine⟨?_⟩;intro pins s σ H D I h;refine wpAny_Assign_Subscript (thn (R pins s σ H _ I h) fun r z ⟨v,H1,I1,G,O⟩=>thn (Z pins z σ H1 _ I1 O) fun u q ⟨x,H2,I2,F,M⟩=>thn (hi pins q σ H2 _ I2 M) fun iv s3 ⟨y,H3,I3,B,a,H4,ex,g,J⟩=>?_) U;subst ex;obtain rfl:u=Value.ref a:=F;exact UQ hu I3 g B G fun s4 I4=>⟨σ,H4,I4,J⟩
theorem US(h:Heap)(hb:sysModules<h.objs.size):ObjOk P w H (h.push {cls:=.type "dict",data:=.dict #[]}) h.objs.size (.dK []):=
 ⟨yo _,beq_eq_false_iff_ne.mpr (y1k (yz hb)),[],.nil,Heap.DictOf.new h⟩
theorem UT(h:Heap)(hb:sysModules<h.objs.size):ObjOk P w H (h.push {cls:=.type "dict",data:=.dict #[]}) h.objs.size (.dT []):=
 ⟨yo _,beq_eq_false_iff_ne.mpr (y1k (yz hb)),[],.nil,_,#[],0,yt _ rfl,⟨rfl,rfl,rfl⟩,rfl,rfl,y43⟩
def HZ:TE:=fun _ H Q=>∀p,H p=none->Q (.ref p) (upd H p (.dK []))
def Nt:TE:=fun _ H Q=>∀p,H p=none->Q (.ref p) (upd H p (.dT []))
end
section
variable{X:Cx}{pos:Pos}
theorem UU:PE X (.Dict [] [] pos) HZ:=⟨fun pins s σ H Q I h=>
 wpAny_Dict_empty ⟨.ref s.heap.objs.size,_,I.laid (a:=s.heap.objs.size) (o:=.dK []) (t':=s.toks) (fun _ _ q=>yd _ q) (yf _) (US s.heap I.big),rfl,h _ (I.hok.fresh (yf _))⟩⟩
theorem Nu:PE X (.Dict [] [] pos) Nt:=⟨fun pins s σ H Q I h=>
 wpAny_Dict_empty ⟨.ref s.heap.objs.size,_,I.laid (a:=s.heap.objs.size) (o:=.dT []) (t':=s.toks) (fun _ _ q=>yd _ q) (yf _) (UT s.heap I.big),rfl,h _ (I.hok.fresh (yf _))⟩⟩
noncomputable def FZ:List (TE×TE)->St->Hp->(List (V×V)->Hp->Prop)->Prop
 |[],_,H,Q=>Q [] H
 |(tk,tv)::r,σ,H,Q=>tk σ H fun x H1=>tv σ H1 fun y H2=>FZ r σ H2 fun ps q=>Q ((x,y)::ps) q
noncomputable def UV(kvs q:List (Key×V)):List (Key×V):=q.foldl (fun z kv=>An z kv.1 kv.2) kvs
def K7(q:List (TE×TE)):TE:=fun σ H Q=>∀p,H p=none->FZ q σ (upd H p (.dK [])) fun ps H2=>H2 p=some (.dK [])/\∃kvs:List (Key×V),ps=kvs.map (fun kv=>(kV kv.1,kv.2))/\kvs.length<=15/\Q (.ref p) (upd H2 p (.dK (UV [] kvs)))
end
structure M1(X:Cx)(o:Expr)(m:Str)(apos:Pos)(e:Expr)(cpos:Pos):Prop where
 base:attributeBase o m X.env (eval o X.env)=eval o X.env
 few:((backTo cpos (starEach [e] X.env)).all (fun x=>!x.1)&&(backToKw cpos (keywordEach [] X.env)).all (fun x=>x.1.isSome)
  && decide (([e]:List Expr).length+([]:List Keyword).length+(if([]:List Keyword).isEmpty then 0 else 1)<30))=true
 line:(apos.endLine==cpos.line)=true
 trees:backTo cpos (starEach [e] X.env)=[(false,eval e X.env)]
structure M2(X:Cx)(o:Expr)(m:Str)(apos:Pos)(e f:Expr)(cpos:Pos):Prop where
 base:attributeBase o m X.env (eval o X.env)=eval o X.env
 few:((backTo cpos (starEach [e,f] X.env)).all (fun x=>!x.1)&&(backToKw cpos (keywordEach [] X.env)).all (fun x=>x.1.isSome)
  && decide (([e,f]:List Expr).length+([]:List Keyword).length+(if([]:List Keyword).isEmpty then 0 else 1)<30))=true
 line:(apos.endLine==cpos.line)=true
 trees:backTo cpos (starEach [e,f] X.env)=[(false,eval e X.env),(false,eval f X.env)]
def IsD(H:Hp)(a:Addr):Prop:=(∃kvs,Rd H a (.dK kvs))\/∃kvs,Rd H a (.dT kvs)
theorem K8(I:Inv X pins σ H s)(d:IsD H a) :
  s.TypeIs (.ref a) "dict"/\(∀b,Value.ref a=.ref b->∃z,s.heap.get? b=some z/\z.dict=none)/\(a==sysModules)=false:=by
 rcases d with⟨kvs,e⟩|⟨kvs,e⟩
 ·obtain⟨_,hd,vs,_,B⟩:=EV I.hok e;refine⟨B.typeIs,fun b q=>?_,hd⟩;cases q;obtain⟨z,_,_,h1,h2,_⟩:=B;exact⟨z,h1,h2.2.1⟩
 ·obtain⟨_,hd,xs,_,B⟩:=FY I.hok e;refine⟨B.typeIs,fun b q=>?_,hd⟩;cases q;obtain⟨z,_,_,h1,h2,_⟩:=B;exact⟨z,h1,h2.2.1⟩
section
variable{X:Cx}{pins:List (Addr×Obj)}{σ:St}{H:Hp}{s:ye}{a:Addr}{y d:V}{u r:yg}{o:Option V}{A:y0n}{E:yg->ye->Prop}
theorem UW{Q:yg->ye->Prop}(hu:A.units+1<cLine)(I:Inv X pins σ H s)(g:DGet H a y o)(M:RelV y u)(h:∀J s',Inv X pins σ H s'->RelV (o.getD .non) J->Q J s') :
  y0b (y06 X.prog X.w) A (call (.builtin "dict.get") [.ref a,u]) Q E s:=by
 rcases g with⟨kvs,k,e,G,l⟩|⟨kvs,k,b,e,G,O,l⟩
 ·subst G;obtain⟨z,hd,vs,q,B⟩:=EV I.hok e;refine call_meetsIn y2l B.typeIs y4i (y47 _ _) (meets_dict_get (AQ X.prog X.w) a (EU M) hd) ⟨_,B.mapOf,h _ _ (I.tok _) ?_⟩;rw[l];exact(q.val k).getD rfl
 ·subst G;cases (show u=Value.ref b from M);obtain⟨z,hd,xs,q,B⟩:=FY I.hok e;refine call_meetsIn y2l B.typeIs y4i (y47 _ _) (meetsH_dict_get (tupleKind (AQ X.prog X.w)) a b hd) ⟨y4m hu,k,xs,EW I.hok O,B,h _ _ (I.tok _) ?_⟩;rw[l];exact(q.val k).getD rfl
end
def Ha(td ty:TE):TE:=fun σ H Q=>td σ H fun x H1=>∃a,x=.ref a/\IsD H1 a/\ty σ H1 fun y H2=>∃o,DGet H2 a y o/\Q (o.getD .non) H2
def Nv(td ty tx:TE):TE:=fun σ H Q=>td σ H fun x H1=>∃a,x=.ref a/\IsD H1 a/\ty σ H1 fun y H2=>tx σ H2 fun z q=>∃o,DGet q a y o/\Q (o.getD z) q
section
variable{X:Cx}{o e f:Expr}{apos cpos:Pos}{td ty tx:TE}
theorem UX(hu:X.A.units+1<cLine)(Z:PE X o td)(he:PE X e ty) (m:M1 X o "get" apos e cpos):PE X (.Call (.Attribute o "get" apos) [e] [] cpos) (Ha td ty):=by
 refine⟨?_⟩;intro pins s σ H Q I h;refine y3j m.base m.few m.line y2e y2l PySem.F.type_dict_get (thn (Z pins s σ H _ I h) fun u J ⟨x,H1,z,O,a,ex,d,U⟩=>?_);subst ex;obtain rfl:u=Value.ref a:=O;obtain⟨G,B,_⟩:=K8 z d;refine⟨G,B,?_⟩;rw[m.trees];refine y1y rfl (y2q (y23 (thn (he pins J σ H1 _ z U) fun iv s2 ⟨y,H2,I2,M,ov,g,R⟩=>y38 ?_)));exact UW hu I2 g M fun w' s3 I3 q=>⟨_,H2,I3,q,R⟩
end
section
variable{X:Cx}{pins:List (Addr×Obj)}{σ:St}{H:Hp}{s:ye}{a:Addr}{kvs:List (Key×V)}{A:y0n}{E:yg->ye->Prop}
end
section
variable{X:Cx}{pins:List (Addr×Obj)}{σ:St}{H:Hp}{s:ye}{a:Addr}{y:V}{u:yg}{A:y0n}{E:yg->ye->Prop}
end
section
variable{X:Cx}
end
section
variable{κ:Type} [DecidableEq κ]
end
section
variable{X:Cx}
def UY(K:ya)(a:Addr)(f:Int->Option yg):Prop:=∃o es ep,K.lookup a=some o/\o.ExactDict/\o.data=.dict es ep/\(∀e∈es,∃k,Value.isInt k e.key=true/\e.hash=hashInt k)/\∀k,findBy Value.isInt es k=f k
def K9(K:ya)(td ty:TE):TE:=fun σ H Q=>td σ H fun x H1=>ty σ H1 fun y H2=>∃a k u v f,x=.ref a/\y=.int k/\UY K a f/\f k=some u/\RelV v u/\Q v H2
end
section
variable{X:Cx}{pins:List (Addr×Obj)}{σ:List (Option V)}{H:Hp}{s:ye}{h':Heap}
theorem Inv.turnedL{t':Nat}{ch:List Addr}(I:Inv X pins σ H s)(k:∀b o,b∉ch->s.heap.get? b=some o->h'.get? b=some o)(hf:∀b∈ch,FpOk X pins H b):Inv X pins σ H {s with heap:=h',toks:=t'}:=by
 have B:∀b u,H b=some u->b∉ch:=fun b u e z=>by rw[(hf b z).1] at e; cases e
 refine I.step (g':=s.gens) (d':=s.drawn) (ch:=ch) (fun b hb=>?_) (fun b o _ _ hc e _=>k b o hc e) (fun b o _ _ hc e _=>⟨o.slots,k b o hc e⟩) (fun _ _ _ _ n=>n)
  (fun b o hc e=>⟨o,k b o hc e⟩) (fun _ _ e=>e) (fun _ _ _ e=>e) (fun b ps e=>⟨#[],by rw[e]; simp⟩) (fun m hm=>?_) (fun b u e=>?_) I.bare
 ·obtain⟨_,O,_,M,J,G⟩:=hf b hb;exact⟨M,O,J,G⟩
 ·obtain⟨o,es,ep,F,r⟩:=hm;exact⟨o,es,ep,k _ o (fun z=>(hf _ z).2.1 rfl) F,r⟩
 ·refine(I.hok b u e).stay (fun c v hc q=>k c v ?_ q) (fun _ q=>q) fun _ _ q=>q;rcases hc with z|z
  ·rw[z]; exact B b u e
  ·exact B c _ z
end
noncomputable def Ite(K:ya)(a:Addr):It:=
 ⟨fun i H=>∃xs x,SqL K H a xs/\xs[i]?=some x,fun i H x H'=>∃T v,x=.ref T/\H T=none/\H'=upd H T (.tup [.int i,v])/\∀xs,SqL K H a xs->xs[i]?=some v,fun i H=>∃xs,SqL K H a xs/\xs.length<=i⟩
noncomputable def Itz(K:ya)(a b:Addr):It:=
 ⟨fun i H=>∃xs ys x y,SqL K H a xs/\SqL K H b ys/\xs[i]?=some x/\ys[i]?=some y,fun i H x H'=>∃T u v,x=.ref T/\H T=none/\H'=upd H T (.tup [u,v])/\(∀xs,SqL K H a xs->xs[i]?=some u)/\∀ys,SqL K H b ys->ys[i]?=some v,
  fun i H=>∃xs ys,SqL K H a xs/\SqL K H b ys/\(xs.length<=i\/ys.length<=i)⟩
theorem KA:(2:Nat)<=ym:=by decide
section
variable{X:Cx}
def UZ(K:ya)(ta:TA):TI:=fun σ H R=>ta σ H fun vs H1=>∃a,vs=[.ref a]/\(∃xs,SqL K H1 a xs)/\R (Ite K a) H1
def Ua(K:ya)(ta:TA):TI:=fun σ H R=>ta σ H fun vs H1=>∃a b,vs=[.ref a,.ref b]/\(∃xs,SqL K H1 a xs)/\(∃ys,SqL K H1 b ys)/\R (Itz K a b) H1
theorem Room.units1(r:Room k A):A.units+1<cLine:=by have:=r.un; lia
theorem Ub(hc:X.calm=true):Al X (.type "list") (fun xs H Q=>∃(a:Addr) (kvs:List (Key×V)),xs=[.ref a]/\Rd H a (.dK kvs)/\∀l,H l=none->Q (.ref l) (upd H l (.lst (kvs.map fun kv=>kV kv.1)))):=by
 intro pins s σ H xs us Q I r h;obtain⟨a,kvs,rfl,e,q⟩:=h;obtain⟨u,rfl,r1⟩:=r.one;cases r1;obtain⟨z,hd,vs,B,dd⟩:=EV I.hok e;obtain⟨ep,da⟩:=dd.dictAt;have Z:kvs.length=vs.length:=B.length;refine PySem.W.kdl_call (PySem.W.kdl_dict (knd:=AQ X.prog X.w) (kvs:=vs) (ep:=ep) hd) (I.ok.hd hc) da (by lia) fun h' tk J c' hk hS G=>?_;have U:Vals (kvs.map fun kv=>kV kv.1) J.toList:=by
  have key:∀(kvs:List (Key×V)) (vs:List (Key×yg)),KV kvs vs->∀(us:List yg),us.length=vs.length->(∀(j:Nat) v,us[j]?=some v->∃k x,vs[j]?=some (k,x)/\(AQ X.prog X.w).is k v=true)->Vals (kvs.map fun kv=>kV kv.1) us:=by
   intro kvs vs B;induction B with
   |nil=>
    intro us O _;have:us=[]:=List.length_eq_zero_iff.mp O;subst this;exact .nil
   |cons rr _ ih=>
    rename_i R M _ _ _;intro us O F;match us,O with
    |v::us,O=>
     refine .cons ?_ (ih us (by simpa using O) fun j u hu=>by simpa using F (j+1) u (by simpa using hu));obtain⟨k,x,e1,e2⟩:=F 0 v rfl;have ek:M.1=k:=by
      have:M=(k,x):=by simpa using e1
      rw[this]
     show RelV (kV R.1) v;rw[rr.1,ek];rcases BW e2 with⟨i,t,rfl,rfl⟩|⟨y,t,rfl,rfl⟩
     ·exact⟨t,rfl⟩
     ·exact⟨t,rfl⟩
  exact key kvs vs B J.toList (by simpa using G.1) fun j v U=>G.2 j v (by simpa using U)
 refine⟨.ref s.heap.objs.size,_,I.laid (t':=tk) hk (yf _) (show ObjOk X.prog X.w _ _ _ (.lst _) from⟨by rw[y4]; exact z,J.toList,c',U,by simpa using hS⟩),rfl,q _ (I.hok.fresh (yf _))⟩
theorem Nw:∀{ns:List Str} {us:List yg},Vals (ns.map V.str) us->StrsAre us ns
 |[],_,.nil=>.nil
 |n::ns,_::_,.cons r t=>by
  obtain⟨k,rfl⟩:=r;exact .cons n k (Nw t)
theorem Ny:∀{ns:List Str} {us:List yg},StrsAre us ns->Vals (ns.map V.str) us
 |_,_,.nil=>.nil
 |_,_,.cons n t h=>.cons ⟨t,rfl⟩ (Ny h)
def Hf(K:ya):List V->Hp->VK->Prop:=fun xs H Q=>∃(a:Addr) (ns:List Str),xs=[.ref a]/\SqL K H a (ns.map V.str)/\ns.length<64/\∀(l:Addr) (q:List Str),H l=none->q.Perm ns->sortedS q=true->Q (.ref l) (upd H l (.lst (q.map V.str)))
theorem Uc:Al X (.builtin "sorted") (Hf X.K):=by
 intro pins s σ H xs us Q I r h;obtain⟨a,ns,rfl,hq,R,q⟩:=h;obtain⟨u,rfl,J⟩:=r.one;cases J;obtain⟨B,F,pl,hz⟩:=I.list hq;have hi:=Nw F;have z:=F.length;rw[y4] at z hz;refine sorted_strs pl.isList hi (by lia) fun out M U G a3=>?_;obtain⟨e,O⟩:=sortedAll_at s.heap B out;refine⟨.ref (s.heap.objs.size+1),_,I.laid (t':=s.toks) (fun b o e=>sortedAll_old e) (y3d _) (show ObjOk X.prog X.w _ _ _ (.lst (M.map V.str)) from⟨?_,out.toList,e,Ny U,?_⟩),rfl,q _ _ (I.hok.fresh (y3d _)) G a3⟩
 ·rw[y4,G.length_eq]; exact hz
 ·simpa [y19] using O
def KB(r G q:R2)(ta tb tc td:TE):TT:=fun σ H Q=>ta σ H fun x H1=>tb σ H1 fun y H2=>r x y H2 fun z F=>∃k,z=.bl k/\(if k=true then tc σ F fun w O=>G y w O fun z B=>∃k,z=.bl k/\
 (if k=true then td σ B fun v M=>q w v M fun z J=>∃k,z=.bl k/\Q k J else Q false B) else Q false F)
def Ud(K:ya)(tl:TE):TI:=fun σ H R=>tl σ H fun x H1=>∃a,x=.ref a/\(((∃xs,SqL K H1 a xs)/\R (Itl K a) H1)\/((∃xs,SqT K H1 a xs)/\R (Itt K a) H1))
def Hg(K:ya)(H:Hp)(x y:V)(b:Bool):Prop:=∃a c xs ys ds es,x=.ref a/\y=.ref c/\SqL K H a xs/\SqL K H c ys/\DtA H xs ds/\DtA H ys es/\CP ds=true/\CP es=true/\SeqAt.shaped (.list (Aj ds))=true/\SeqAt.shaped (.list (Aj es))=true/\b=PyData.eqv (.list (Aj ds)) (.list (Aj es))
def Fa(K:ya):R2:=fun x y H Q=>∃b,Hg K H x y b/\Q (.bl b) H
def Hh(K:ya):R2:=fun x y H Q=>∃b,Hg K H x y b/\Q (.bl (!b)) H
theorem Inv.readsDL(I:Inv X pins σ H s)(h:SqL X.K H a xs)(d:DtA H xs ds)(B:CP ds=true):∃as,Reads s.heap (.ref a) (.list (Aj ds)) as:=by
 obtain⟨z,r,⟨o,n,e,c,_,F⟩,_⟩:=I.list h;obtain⟨as,q⟩:=DtA.reads I d B r;exact⟨_,.list e c F (by simpa using q)⟩
theorem Fb(hu:X.A.units+64<cLine):OpR X (y0t .Eq) (Fa X.K):=by
 intro pins s σ H x y v u Q I M J h;obtain⟨b,⟨a,c,xs,ys,ds,es,rfl,rfl,h1,h2,d1,d2,G,F,B,z,rfl⟩,q⟩:=h;cases M; cases J;obtain⟨as,R⟩:=I.readsDL h1 d1 G;obtain⟨U,O⟩:=I.readsDL h2 d2 F;exact eq_dataH R O B z hu ⟨.bl _,H,I,rfl,q⟩
theorem Dh(hu:X.A.units+64<cLine):OpR X (y0t .NotEq) (Hh X.K):=by
 intro pins s σ H x y v u Q I M J h;obtain⟨b,⟨a,c,xs,ys,ds,es,rfl,rfl,h1,h2,d1,d2,G,F,B,z,rfl⟩,q⟩:=h;cases M; cases J;obtain⟨as,R⟩:=I.readsDL h1 d1 G;obtain⟨U,O⟩:=I.readsDL h2 d2 F;exact ne_dataH R O B z hu ⟨.bl _,H,I,rfl,q⟩
def Ris(xs:Array Nat):Prop:=xs.toList.Pairwise (· < ·)
end
section
variable{prog:yq}{w:y0h}{κ:Type} [DecidableEq κ] (knd:PySem.KeyKind prog w κ) (key:yg->κ)
def Nz(a:Addr)(L:Bool)(ks:List κ)(h:Heap):Prop:=
 ∃o es ep t,h.get? a=some o/\o.ExactSet/\o.data=.set es ep t/\ElemsOf knd es.toList/\ks=es.toList.map (fun e=>key e.2)/\ks.Nodup/\es.size<scanBound/\t.fits es.size=true/\Ris t.place/\t.led=L
variable{knd key}{A:y0n}{E:yg->ye->Prop}{s:ye}{a:Addr}{L:Bool}{ks:List κ}
abbrev O0(w:y0h):Bool:=w.params.followText "set-order"
end
section
variable{prog:yq}{w:y0h}{A:y0n}{E:yg->ye->Prop}{s:ye}{S I:Addr}{es:Array (Int×yg)}{ep:Nat}{t:SetTable}{o:Obj}
noncomputable def drw(es:Array (Int×yg))(t:SetTable):Bool:=!t.plain&&decide (es.size>1)
noncomputable def Ue:yg->Int
 |.int k _=>k
 |_=>0
theorem Fc(h:(intKind prog w).is k v=true):∃t,v=.int k t:=by
 cases v<;>simp[intKind,Value.isInt] at h;exact⟨_,by rw[h]⟩
end
noncomputable def O1(P:yq)(w:y0h)(p:Addr)(ks:List Int):HO:=.ext (Nz (intKind P w) Ue p (!O0 w) ks)
def Uf(P:yq)(w:y0h)(K:ya):List V->Hp->VK->Prop:=fun xs H Q=>∃(a:Addr) (ns:List Int),xs=[.ref a]/\SqL K H a (ns.map V.int)/\ns.length<=1000/\
 ∀(p:Addr) (ks:List Int),H p=none->ks.Nodup->(∀x,x∈ks↔x∈ns)->ks.length<=ns.length->Q (.ref p) (upd H p (O1 P w p ks))
def Ug(P:yq)(w:y0h):List V->Hp->VK->Prop:=fun xs H Q=>∃(a:Addr) (ks:List Int),xs=[.ref a]/\H a=some (O1 P w a ks)/\ks.length<64/\
 ∀(l:Addr) (q:List Int),H l=none->q.Perm ks->q.Pairwise (· <= ·)->Q (.ref l) (upd H l (.lst (q.map V.int)))
section
variable{X:Cx}
end
end L2
namespace L2
open PySem PyProof.Rows
def KC(L:Addr->Sp->Prop)(i:Nat)(t:TA):TE:=fun σ H Q=>∃f,σ[i]?=some (some (.ref f))/\∃sp,L f sp/\t σ H fun vs H1=>sp vs H1 Q E0
section
variable{P:yq}{w:y0h}{A:y0n}{E:yg->ye->Prop}{s:ye}
theorem Hi{Q:yg->ye->Prop}(a:s.heap.IsTupleIter it t i)(b:s.heap.IsTuple t its)(c:its[i]?=some x)
  (q:∀h',h'.IsTupleIter it t (i+1)->Heap.SameBut it s.heap h'->Q x {s with heap:=h'}):y0b (y06 P w) A (Builtin.SmallTypes.nextOf (.ref it)) Q E s:=by
 have ty:=a.typeIs;obtain⟨⟨_,O,_,B⟩,z,rfl,rfl⟩:=a;obtain⟨⟨_,dl,_,J⟩,M,rfl,G,rfl⟩:=b;rw[Builtin.SmallTypes.nextOf];refine yb (y1c (name:="__next__") ty y2w (y0u y2w ty F.entry_tuple_iterator_next ?_ (F.args_tuple_iterator_next_1 _)));wp_walk;simp only[Int.toNat_natCast,c];wp_walk;exact⟨_,rfl,yh (q _ ⟨_,y17 _ z rfl,rfl,by simp[Obj.mapFields,rawInt]⟩ (y0p ..))⟩
theorem Hj{Q:yg->ye->Prop}(B:A.handled=none)(a:s.heap.IsTupleIter it t i)(b:s.heap.IsTuple t its)(c:its[i]?=none)
  (q:∀h' e,Heap.ExtBut it s.heap h'->(∃o,h'.get? e=some o/\o.cls=.type "StopIteration")->E (.ref e) {s with heap:=h'}):y0b (y06 P w) A (Builtin.SmallTypes.nextOf (.ref it)) Q E s:=by
 have ty:=a.typeIs;obtain⟨⟨_,U,_,G⟩,O,rfl,rfl⟩:=a;obtain⟨⟨_,dl,_,M⟩,R,rfl,J,rfl⟩:=b;rw[Builtin.SmallTypes.nextOf];refine yb (y1c (name:="__next__") ty y2w (y0u y2w ty F.entry_tuple_iterator_next ?_ (F.args_tuple_iterator_next_1 _)));wp_walk;simp only[Int.toNat_natCast,c];have z:A.in1.handled=none:=B;wp_walk;rw[raiseNew];wp_walk;exact q _ _ (((y0p ..).extBut.push _).push _) ⟨_,yt _ rfl,rfl⟩
theorem Uh(t u:Addr)(xs ys:Array yg):Meets (Builtin.«zip.__new__» ⟨[.type "zip",.ref t,.ref u],[]⟩) (fun _ R s=>s.heap.IsTuple t xs/\s.heap.IsTuple u ys/\
  ∀h',IsZip h' (s.heap.objs.size+4) (s.heap.objs.size+2) (s.heap.objs.size+3) .none->IsPair h' (s.heap.objs.size+2) (.ref s.heap.objs.size) (.ref (s.heap.objs.size+1))->IsPair h' (s.heap.objs.size+3) .none .none->
   h'.IsTupleIter s.heap.objs.size t 0->h'.IsTupleIter (s.heap.objs.size+1) u 0->h'.objs.size=s.heap.objs.size+5->(∀c o,s.heap.get? c=some o->h'.get? c=some o)->R (.ok (.ret (.ref (s.heap.objs.size+4)))) {s with heap:=h'}):=by
 refine .of_wp fun prog w A R s h=>?_
 obtain⟨B,g,d,tk,os⟩:=s
 obtain⟨h1,h2,h⟩:=h
 have zz:=sub_zip
 have F:Heap.IsTuple (Shared.heap ⟨B,g,d,tk,os⟩) t xs:=h1
 have e2:Heap.IsTuple (Shared.heap ⟨B.push {cls:=.type "tuple_iterator",data:=.fields #[.ref t,.int 0 0]},g,d,tk,os⟩) u ys:=Heap.IsTuple.push h2 _
 wp_walk using y2o F,y2o e2
 refine⟨_,rfl,?_⟩
 have z:∀{k:Heap} {o:Obj} {n:Nat},n=k.objs.size->o.isFreed=false->(k.push o).get? n=some o:=fun e f=>by subst e; exact yt _ f
 have q:∀{k:Heap} {o o':Obj} {n:Nat},k.get? n=some o->(k.push o').get? n=some o:=fun e=>yd _ e
 simp only[y1w,y4o,Nat.reduceAdd]
 refine h _ ?_ ?_ ?_ ⟨_,q (q (q (q (z rfl rfl)))),rfl,rfl⟩ ⟨_,q (q (q (z (by simp[y1w]) rfl))),rfl,rfl⟩ (by simp[y1w]) fun c o x=>q (q (q (q (q x))))
 ·exact z (by simp[y1w]) rfl
 ·exact q (q (z (by simp[y1w]) rfl))
 ·exact q (z (by simp[y1w]) rfl)
def Nx(P:yq)(w:y0h)(A:y0n)(q:Addr)(Q:yg->ye->Prop)(E:yg->ye->Prop)(s:ye):Prop:=y0b (y06 P w) A (Builtin.SmallTypes.nextOf (.ref q)) Q E s
theorem Fd{Q:yg->ye->Prop}(h:Nx P w A it Q E s):y0b (y06 P w) A (Builtin.SmallTypes.nextOf (.ref it)) Q E s:=h
set_option maxHeartbeats 8000000 in
theorem Ui{Q:yg->ye->Prop}(D:ZipApart z I O i1 i2 t u)(hz:IsZip s.heap z I O .none)(hI:IsPair s.heap I (.ref i1) (.ref i2))(hO:IsPair s.heap O a b)
  (h1:s.heap.IsTupleIter i1 t k) (h2:s.heap.IsTupleIter i2 u k) (ht:s.heap.IsTuple t xs) (hu:s.heap.IsTuple u ys) (hx:xs[k]?=some x) (hy:ys[k]?=some y)
  (q:∀h',IsZip h' z I O (rawInt s.heap.objs.size)->IsPair h' O x y->h'.IsTupleIter i1 t (k+1)->h'.IsTupleIter i2 u (k+1)->IsPair h' s.heap.objs.size x y->h'.objs.size=s.heap.objs.size+1->
   (∀c o,c≠z->c≠O->c≠i1->c≠i2->s.heap.get? c=some o->h'.get? c=some o)->Q (.ref s.heap.objs.size) {s with heap:=h'}) :
  y0b (y06 P w) A (Builtin.«zip.__next__» ⟨[.ref z],[]⟩) (fun fin s'=>∃v,fin=.done (.ret v)/\Q v s') E s:=by
 wp_walk using y4w,Fd;have B:Heap.SameBut z s.heap (s.heap.update z (Obj.mapFields fun x=>x.setIfInBounds 0 Value.ellipsis)):=y0p ..;have z0:IsZip (s.heap.update z (Obj.mapFields fun x=>x.setIfInBounds 0 Value.ellipsis)) z I O .ellipsis:=y17 _ hz rfl;generalize s.heap.update z (Obj.mapFields fun x=>x.setIfInBounds 0 Value.ellipsis)=g0 at B z0 |-;refine Hi (h1.extBut B.extBut D.i1z) (ht.extBut B.extBut D.l1z) hx fun Z j1 M=>?_;have o1:IsPair Z O a b:=M.extBut _ _ D.TOi1 (B.extBut _ _ D.TOz hO);wp_walk using y4w,Fd;have F:Heap.SameBut O Z (Z.update O (Obj.mapSeq fun v=>v.setIfInBounds 0 x)):=y0p ..;have o2:IsPair (Z.update O (Obj.mapSeq fun v=>v.setIfInBounds 0 x)) O x b:=y17 _ o1 rfl;generalize Z.update O (Obj.mapSeq fun v=>v.setIfInBounds 0 x)=g2 at F o2 |-;refine Hi (((h2.extBut B.extBut D.i2z).extBut M.extBut D.i12.symm).extBut F.extBut D.TOi2.symm) (((hu.extBut B.extBut D.l2z).extBut M.extBut D.l2i1).extBut F.extBut D.l2TO) hy fun R j3 U=>?_;have o3:IsPair R O x b:=U.extBut _ _ D.TOi2 o2;have z3:IsZip R z I O .ellipsis:=U.extBut _ _ D.i2z.symm (F.extBut _ _ D.TOz.symm (M.extBut _ _ D.i1z.symm z0));wp_walk using y4w,Fd;have J:Heap.SameBut O R (R.update O (Obj.mapSeq fun v=>v.setIfInBounds (0+1) y)):=y0p ..;have o4:IsPair (R.update O (Obj.mapSeq fun v=>v.setIfInBounds (0+1) y)) O x y:=y17 _ o3 rfl;generalize R.update O (Obj.mapSeq fun v=>v.setIfInBounds (0+1) y)=g4 at J o4 |-;have n4:g4.objs.size=s.heap.objs.size:=J.1.trans (U.1.trans (F.1.trans (M.1.trans B.1)));rw[show((fun v:Array yg=>v.setIfInBounds (0+1) y) #[x,b]).toList.toArray = #[x,y] from rfl];have e5:IsPair (g4.push {cls:=.type "tuple",data:=.seq #[x,y]}) g4.objs.size x y:=yt _ rfl;have z4:IsZip (g4.push {cls:=.type "tuple",data:=.seq #[x,y]}) z I O .ellipsis:=yd _ (J.extBut _ _ D.TOz.symm z3);have k5:∀c o,c≠z->c≠O->c≠i1->c≠i2->s.heap.get? c=some o->(g4.push {cls:=.type "tuple",data:=.seq #[x,y]}).get? c=some o:=fun c o c1 c2 c3 c4 h=>yd _ (J.extBut _ _ c2 (U.extBut _ _ c4 (F.extBut _ _ c2 (M.extBut _ _ c3 (B.extBut _ _ c1 h)))));have o5:IsPair (g4.push {cls:=.type "tuple",data:=.seq #[x,y]}) O x y:=yd _ o4;have y1:(g4.push {cls:=.type "tuple",data:=.seq #[x,y]}).IsTupleIter i1 t (k+1):=(((j1.extBut F.extBut D.TOi1.symm).extBut U.extBut D.i12).extBut J.extBut D.TOi1.symm).at fun o h=>yd _ h;have y2:(g4.push {cls:=.type "tuple",data:=.seq #[x,y]}).IsTupleIter i2 u (k+1):=(j3.extBut J.extBut D.TOi2.symm).at fun o h=>yd _ h;have s5:(g4.push {cls:=.type "tuple",data:=.seq #[x,y]}).objs.size=s.heap.objs.size+1:=by rw[y40,n4]
 rw[n4] at e5;rw[n4];generalize g4.push {cls:=.type "tuple",data:=.seq #[x,y]}=g5 at e5 z4 k5 o5 y1 y2 s5 |-;wp_walk;have G:Heap.SameBut z g5 ((g5.update z (Obj.mapFields fun v=>v.setIfInBounds 0 (rawInt s.heap.objs.size))).update z (Obj.mapFields fun v=>v.setIfInBounds 1 (Value.bool false))):=(y0p ..).trans (y0p ..);refine⟨_,rfl,q _ (y17 _ (y17 _ z4 rfl) rfl) (G.extBut _ _ D.TOz o5) (y1.extBut G.extBut D.i1z) (y2.extBut G.extBut D.i2z) (G.extBut _ _ (y25 (yl hz)) e5) (G.1.trans s5) fun c o c1 c2 c3 c4 h=>G.extBut _ _ c1 (k5 c o c1 c2 c3 c4 h)⟩
set_option maxHeartbeats 8000000 in
theorem Uj{Q:Fin->ye->Prop}(hh:A.handled=none)(D:ZipApart z I O i1 i2 t u)(hz:IsZip s.heap z I O .none)(hI:IsPair s.heap I (.ref i1) (.ref i2))(hO:IsPair s.heap O a b)
  (h1:s.heap.IsTupleIter i1 t k) (h2:s.heap.IsTupleIter i2 u k) (ht:s.heap.IsTuple t xs) (hu:s.heap.IsTuple u ys) (U:xs[k]?=none\/ys[k]?=none)
  (q:∀h' e,(∀c o,c≠z->c≠O->c≠i1->c≠i2->s.heap.get? c=some o->h'.get? c=some o)->(∃o,h'.get? e=some o/\o.cls=.type "StopIteration")->E (.ref e) {s with heap:=h'}) :
  y0b (y06 P w) A (Builtin.«zip.__next__» ⟨[.ref z],[]⟩) Q E s:=by
 wp_walk using y4w,Fd;have B:Heap.SameBut z s.heap (s.heap.update z (Obj.mapFields fun x=>x.setIfInBounds 0 Value.ellipsis)):=y0p ..;have z0:IsZip (s.heap.update z (Obj.mapFields fun x=>x.setIfInBounds 0 Value.ellipsis)) z I O .ellipsis:=y17 _ hz rfl;generalize s.heap.update z (Obj.mapFields fun x=>x.setIfInBounds 0 Value.ellipsis)=g0 at B z0 |-;cases hx:xs[k]? with
 |none=>
  refine Hj hh (h1.extBut B.extBut D.i1z) (ht.extBut B.extBut D.l1z) hx fun J e1 F he=>?_;have z1:IsZip J z I O .ellipsis:=F _ _ D.i1z.symm z0;obtain⟨oe,G,hc⟩:=he;have ne:e1≠z:=fun x=>by subst x; rw[z1] at G; cases G; simp at hc
  exact wpAny_setField_rec z1 (by simp) fun h5 _ M=>q h5 e1 (fun c o Z c2 c3 c4 h=>M.extBut _ _ Z (F _ _ c3 (B.extBut _ _ Z h))) ⟨oe,M.extBut _ _ ne G,hc⟩
 |some x=>
  have hy:ys[k]?=none:=U.resolve_left (by rw[hx]; simp);refine Hi (h1.extBut B.extBut D.i1z) (ht.extBut B.extBut D.l1z) hx fun J j1 F=>?_;have o1:IsPair J O a b:=F.extBut _ _ D.TOi1 (B.extBut _ _ D.TOz hO);wp_walk using y4w,Fd;have R:Heap.SameBut O J (J.update O (Obj.mapSeq fun v=>v.setIfInBounds 0 x)):=y0p ..;generalize J.update O (Obj.mapSeq fun v=>v.setIfInBounds 0 x)=g2 at R |-;refine Hj hh (((h2.extBut B.extBut D.i2z).extBut F.extBut D.i12.symm).extBut R.extBut D.TOi2.symm) (((hu.extBut B.extBut D.l2z).extBut F.extBut D.l2i1).extBut R.extBut D.l2TO) hy fun g3 e3 m3 he=>?_;have z3:IsZip g3 z I O .ellipsis:=m3 _ _ D.i2z.symm (R.extBut _ _ D.TOz.symm (F.extBut _ _ D.i1z.symm z0));obtain⟨oe,G,hc⟩:=he;have ne:e3≠z:=fun x=>by subst x; rw[z3] at G; cases G; simp at hc
  exact wpAny_setField_rec z3 (by simp) fun h5 _ M=>q h5 e3 (fun c o Z c2 c3 c4 h=>M.extBut _ _ Z (m3 _ _ c4 (R.extBut _ _ c2 (F.extBut _ _ c3 (B.extBut _ _ Z h))))) ⟨oe,M.extBut _ _ ne G,hc⟩
end
end L2
namespace L2
open PySem PySem.Spec PyProof.Rows
section
variable{P:yq}{w:y0h}{A:y0n}{E:yg->ye->Prop}{s:ye}
theorem Uk{Q:Option yg->ye->Prop}(D:ZipApart z I O i1 i2 t u)(hz:IsZip s.heap z I O .none)(J:IsPair s.heap I (.ref i1) (.ref i2))(G:IsPair s.heap O a b)
  (h1:s.heap.IsTupleIter i1 t k) (h2:s.heap.IsTupleIter i2 u k) (B:s.heap.IsTuple t xs) (hu:s.heap.IsTuple u ys) (hx:xs[k]?=some x) (hy:ys[k]?=some y)
  (q:∀h',IsZip h' z I O (rawInt s.heap.objs.size)->IsPair h' O x y->h'.IsTupleIter i1 t (k+1)->h'.IsTupleIter i2 u (k+1)->IsPair h' s.heap.objs.size x y->h'.objs.size=s.heap.objs.size+1->
   (∀c o,c≠z->c≠O->c≠i1->c≠i2->s.heap.get? c=some o->h'.get? c=some o)->Q (some (.ref s.heap.objs.size)) {s with heap:=h'}):y0b (y06 P w) A (pyNext (.ref z)) Q E s:=by
 have ty:s.TypeIs (.ref z) "zip":=⟨_,hz,rfl⟩
 rw[pyNext]
 refine yb (y4x (y1c (name:="__next__") ty y37 (y0u y37 ty PySem.F.entry_zip_next ?_ (PySem.F.args_zip_next_1 _))))
 exact Ui D hz J G h1 h2 B hu hx hy fun h' b1 b2 b3 Z U R M=>yh (q h' b1 b2 b3 Z U R M)
theorem Ul{Q:Option yg->ye->Prop}(M:A.handled=none)(D:ZipApart z I O i1 i2 t u)(hz:IsZip s.heap z I O .none)(Z:IsPair s.heap I (.ref i1) (.ref i2))(U:IsPair s.heap O a b)
  (h1:s.heap.IsTupleIter i1 t k) (h2:s.heap.IsTupleIter i2 u k) (G:s.heap.IsTuple t xs) (hu:s.heap.IsTuple u ys) (B:xs[k]?=none\/ys[k]?=none)
  (q:∀h',(∀c o,c≠z->c≠O->c≠i1->c≠i2->s.heap.get? c=some o->h'.get? c=some o)->Q none {s with heap:=h'}):y0b (y06 P w) A (pyNext (.ref z)) Q E s:=by
 have ty:s.TypeIs (.ref z) "zip":=⟨_,hz,rfl⟩;rw[pyNext];refine yb (y4x (y1c (name:="__next__") ty y37 (y0u y37 ty PySem.F.entry_zip_next (Uj (by simpa using M) D hz Z U h1 h2 G hu B fun h' e hk R=>?_) (PySem.F.args_zip_next_1 _))));obtain⟨o,J,hc⟩:=R;exact yb (y32 (b:=true) ⟨o,J,hc⟩ isSubtype_stop (yh (q _ hk)))
theorem Um{Q:yg->ye->Prop}(B:s.heap.IsTuple t xs)(hu:s.heap.IsTuple u ys)
  (h:∀h',IsZip h' (s.heap.objs.size+4) (s.heap.objs.size+2) (s.heap.objs.size+3) .none->IsPair h' (s.heap.objs.size+2) (.ref s.heap.objs.size) (.ref (s.heap.objs.size+1))->IsPair h' (s.heap.objs.size+3) .none .none->
   h'.IsTupleIter s.heap.objs.size t 0->h'.IsTupleIter (s.heap.objs.size+1) u 0->h'.objs.size=s.heap.objs.size+5->(∀c o,s.heap.get? c=some o->h'.get? c=some o)->Q (.ref (s.heap.objs.size+4)) {s with heap:=h'}) :
  y0b (y06 P w) A (call (.type "zip") [.ref t,.ref u]) Q E s:=by
 refine callType_new PySem.F.called_zip (by decide) (PySem.F.typeCall_zip_2 _ _) (PySem.F.newCall_zip_2 _ _) (fun q=>PySem.F.args_object_init_3 q _ _) PySem.F.entry_zip_new (Uh t u xs ys) ⟨B,hu,fun h' z b2 R O M J G=>?_⟩;exact⟨⟨_,z,rfl⟩,h h' z b2 R O M J G⟩
noncomputable def D4(K:ya)(a b:Addr):It:=
 ⟨fun i H=>∃xs ys x y,SqT K H a xs/\SqT K H b ys/\xs[i]?=some x/\ys[i]?=some y,fun i H x H'=>∃T u v,x=.ref T/\H T=none/\H'=upd H T (.tup [u,v])/\(∀xs,SqT K H a xs->xs[i]?=some u)/\∀ys,SqT K H b ys->ys[i]?=some v,
  fun i H=>∃xs ys,SqT K H a xs/\SqT K H b ys/\(xs.length<=i\/ys.length<=i)⟩
end
theorem Uo{P:yq}{w:y0h}{K:ya}{fk:List Expr}{kt:Nat}{pt:Pos}(a b z TI TO U R:Addr)(D:ZipApart z TI TO U R a b) :
  Turn P w K (.Tuple fk kt pt) (D4 K a b) [z,TI,TO,U,R] z (fun i h=>IsZip h z TI TO .none/\IsPair h TI (.ref U) (.ref R)/\(∃u v,IsPair h TO u v)/\h.IsTupleIter U a i/\h.IsTupleIter R b i) where
 mem:=by simp
 obj:=fun i h st c hc=>by
  obtain⟨hz,G,⟨u,v,J⟩,h1,h2⟩:=st;simp only[y0f,y00,or_false] at hc;rcases hc with rfl|rfl|rfl|rfl|rfl
  ·exact⟨_,hz,fun v z=>by cases z⟩
  ·exact⟨_,G,fun v z=>by cases z⟩
  ·exact⟨_,J,fun v z=>by cases z⟩
  ·obtain⟨o,e',c,d⟩:=h1;exact⟨o,e',fun v z=>by rw[d] at z; cases z⟩
  ·obtain⟨o,e',c,d⟩:=h2;exact⟨o,e',fun v z=>by rw[d] at z; cases z⟩
 keep:=fun i h h' st k=>by
  obtain⟨hz,G,⟨u,v,J⟩,h1,h2⟩:=st;exact⟨k z (by simp) _ hz,k TI (by simp) _ G,⟨u,v,k TO (by simp) _ J⟩,h1.at fun o q=>k U (by simp) o q,h2.at fun o q=>k R (by simp) o q⟩
 item:=by
  intro X hP hw hK hc i pins s σ H E I hf st hg;subst hP hw hK;obtain⟨hz,G,⟨u0,v0,J⟩,h1,h2⟩:=st;obtain⟨xs,ys,x,y,hq,M,hx,hy⟩:=hg;obtain⟨ft,rv,p,_⟩:=I.tuple hq;obtain⟨fe,O,p2,_⟩:=I.tuple M;obtain⟨u,hu,ru⟩:=rv.get hx;obtain⟨u2,fw,fq⟩:=O.get hy;refine Uk D hz G J h1 h2 p p2 (x:=u) (y:=u2) (by simpa using hu) (by simpa using fw) fun h3 a1 a2 a3 a4 a5 a6 hk=>?_;refine⟨_,rfl,wpAny_letOwnedTupleGo_zip a1 fun h4 fu fz=>?_⟩;have F:Heap.SameBut z h3 h4:=fz;have fg:z<s.heap.objs.size:=yl hz;have kk:∀c o,c∉[z,TI,TO,U,R]->s.heap.get? c=some o->h4.get? c=some o:=fun c o B q=>
   F.extBut c o (fun e=>B (by simp[e])) (hk c o (fun e=>B (by simp[e])) (fun e=>B (by simp[e])) (fun e=>B (by simp[e])) (fun e=>B (by simp[e])) q)
  have I1:Inv X pins σ H {s with heap:=h4,toks:=s.toks}:=I.turnedL kk hf;have fc:H s.heap.objs.size=none:=I.hok.fresh (yf _);have fX:h4.get? s.heap.objs.size=some {cls:=.type "tuple",data:=.seq #[u,u2]}:=F.extBut _ _ (y25 fg) a5;have I2:Inv X pins σ (upd H s.heap.objs.size (.tup [x,y])) {s with heap:=h4,toks:=s.toks}:=
   I1.track fc (I.fpOk (yf _) fc) (show ObjOk X.prog X.w _ h4 _ (.tup [x,y]) from⟨KA,[u,u2],.cons ru (.cons fq .nil),⟨_,fX,rfl,_,rfl⟩⟩)
  refine⟨.ref s.heap.objs.size,_,I2,rfl,⟨s.heap.objs.size,x,y,rfl,fc,rfl,fun zs Z=>by rw[I.tuple_inj Z hq]; exact hx,fun zs Z=>by rw[I.tuple_inj Z M]; exact hy⟩,
   ⟨fu,F.extBut _ _ D.TIz (hk _ _ D.TIz D.TITO D.TIi1 D.TIi2 G),⟨_,_,F.extBut _ _ D.TOz a2⟩,a3.at fun o q=>(F.2 U D.i1z).trans q,a4.at fun o q=>(F.2 R D.i2z).trans q⟩,fun c B=>?_⟩
  have fV:c<s.heap.objs.size:=by
   simp only[y0f,y00,or_false] at B;rcases B with rfl|rfl|rfl|rfl|rfl
   ·exact fg
   ·exact yl G
   ·exact yl J
   ·obtain⟨o,e',_⟩:=h1; exact yl e'
   ·obtain⟨o,e',_⟩:=h2; exact yl e'
  rw[A8 (yz fV)];exact(hf c B).1
 done:=by
  intro X hP hw hK hc i pins s σ H E I hf st hg;subst hP hw hK;obtain⟨hz,G,⟨u0,v0,J⟩,h1,h2⟩:=st;obtain⟨xs,ys,hq,M,fh⟩:=hg;obtain⟨ft,rv,p,_⟩:=I.tuple hq;obtain⟨fe,O,p2,_⟩:=I.tuple M;have e1:=rv.length;have e2:=O.length;refine Ul (I.ok.hd hc) D hz G J h1 h2 p p2 ?_ fun h' hk=>⟨rfl,I.turnedL (t':=s.toks) (fun c o B q=>hk c o (fun e=>B (by simp[e])) (fun e=>B (by simp[e])) (fun e=>B (by simp[e])) (fun e=>B (by simp[e])) q) hf⟩;rcases fh with z|z
  ·exact .inl (by simp; lia)
  ·exact .inr (by simp; lia)
 self:=fun _ _ _ _ _ st h=>wpAny_pyIter_zip st.1 h
section
variable{X:Cx}
def KE(K:ya)(ta:TA):TI:=fun σ H R=>ta σ H fun vs H1=>∃a b,vs=[.ref a,.ref b]/\(∃xs,SqT K H1 a xs)/\(∃ys,SqT K H1 b ys)/\R (D4 K a b) H1
theorem O2{J:List Expr}{kt:Nat}{pt p pos:Pos}{l O:Expr}{ta:TA} (hg:Gl X "zip") (hm:X.mg "zip" = none) (ha:PA X [l,O] ta) (Z:ET l=false:=by rfl) (F:ET O=false:=by rfl):PI X (.Tuple J kt pt) (.Call (.Name "zip" p) [l,O] [] pos) (KE X.K ta):=by
 refine⟨?_⟩;intro pins s σ H R I h;have fe:=De (pos:=pos) (env:=X.env) (es:=[O]) (by simp[Bj,F]);refine Call_ (DW I hg hm boot_zip (y1u (thn (ha pos pins s σ H _ I h) fun us z ⟨vs,H1,M,r1,q1⟩=>?_) (Cc Z) fe));obtain⟨a,b,e,⟨xs,hq⟩,⟨ys,fc⟩,q⟩:=q1;subst e;cases r1 with
 |cons r U=>
  cases U with
  |cons r2 U=>
   cases U;cases r;cases r2;obtain⟨fw,rv,pl,_⟩:=M.tuple hq;obtain⟨ft,fu,B,_⟩:=M.tuple fc;have fh:a<z.heap.objs.size:=by obtain⟨_,e,_⟩:=pl; exact yl e
   have fg:b<z.heap.objs.size:=by obtain⟨_,e,_⟩:=B; exact yl e
   refine Um pl B fun h' hz fq fk h1 h2 hsz hk=>?_;have I2:Inv X pins σ H1 {z with heap:=h'}:=M.kept (t':=z.toks) hk;refine wpAny_pyIter_zip hz ?_;refine⟨z.heap.objs.size+4,[z.heap.objs.size+4,z.heap.objs.size+2,z.heap.objs.size+3,z.heap.objs.size,z.heap.objs.size+1],_,_,H1,rfl,I2,Uo a b _ _ _ _ _ (zipApart_new fh fg),⟨hz,fq,⟨_,_,fk⟩,h1,h2⟩,fun c hc=>?_,q⟩;have G:z.heap.objs.size<=c:=by
    simp only[y0f,y00,or_false] at hc;rcases hc with rfl|rfl|rfl|rfl|rfl<;>first|exact yf _|exact Nat.le_add_right _ _
   exact M.fpOk G (M.hok.fresh G)
end
section
variable{prog:yq}{w:y0h}{A:y0n}{E:yg->ye->Prop}{s:ye}
theorem Uq{t B:Addr}{q:Array yg}{M J:yg}{lo hi:Option Int}{Q:yg->ye->Prop}(z:IsTup s.heap t q)(O:s.heap.IsSliceOf B M J .none)(pl:IsPart M lo)(U:IsPart J hi)
  (hw:HT.sIx q.size 0 lo=0/\HT.sIx q.size q.size hi=q.size) (h:Q (.ref t) s):y0b (y06 prog w) A (getItem (.ref t) (.ref B)) Q E s:=by
 obtain⟨os,F,G,Z⟩:=id O;have R:s.TypeIs (.ref B) "slice":=⟨os,F,G⟩;unfold getItem;try with_reducible refine y1z ?_
 first|refine yb (yh ?_)|skip
 refine yb (wpAny_sequenceKey z.typeIs (by decide) ?_);refine yb (y1c (name:=Str.ofString "__getitem__") z.typeIs y20 (y0u y20 z.typeIs entry_tuple_getitem ?_ (args_tuple_getitem _ _)));show y0b _ _ (Builtin.Tuple.tupleItemsOf (.ref t) >>= _) _ _ s;refine yb (PyProof.Rows.tupleItemsOf_ z (yb (y59 R ?_)));rw[if_pos (by decide)];refine yb (HT.NV O pl U ?_);refine wpAny_ite_split (fun _=>?_) (fun c=>absurd ?_ c)
 ·unfold Builtin.Tuple.tupleIsExact;refine yb (yb (y59 z.typeIs (yh ?_)));refine wpAny_ite_split (fun _=>?_) (fun c=>absurd (by decide) c);exact yb (y3z (yh ⟨_,rfl,yh h⟩))
 ·rw[hw.1,hw.2];simp
end
section
variable{X:Cx}
def Hk(K:ya):V->Option Int->Option Int->Hp->VK->Prop:=fun x lo hi H Q=>∃a xs,x=.ref a/\SqT K H a xs/\
 (((HT.sIx xs.length 0 lo=0/\HT.sIx xs.length xs.length hi=xs.length)/\Q (.ref a) H)\/(¬ (HT.sIx xs.length 0 lo=0/\HT.sIx xs.length xs.length hi=xs.length)/\∀p,H p=none->Q (.ref p) (upd H p (.tup (D1 xs lo hi)))))
theorem O3:SlR X (Hk X.K):=by
 intro pins s σ H x v R O lo hi U Q I F M pl G h;obtain⟨a,xs,rfl,hx,⟨hw,q⟩|⟨hw,q⟩⟩:=h
 ·cases F;obtain⟨B,r,J,hz⟩:=I.tuple hx;have z:B.toArray.size=xs.length:=by rw[y07]; exact r.length.symm
  exact⟨"tuple",_,PyProof.Rows.slot_tuple_getitem.lookup,J.typeIs,Uq J M pl G (by rw[z]; exact hw) ⟨.ref a,H,I,rfl,q⟩⟩
 ·exact Te pins s σ H (.ref a) v R O lo hi U Q I F M pl G ⟨a,xs,rfl,hx,hw,q⟩
theorem Ur{K:ya}{a b:Addr}{xs ys:List V}{g:TG}{tt:TT}{te:TE}{Q:VK}{σ:St}{H:Hp}(fc:ys.length<=xs.length)(B:Nat->List V->St->Hp->Prop)(h0:B 0 [] σ H)(hz:ys.length<ym)(hy:∀i zs σ H,B i zs σ H->zs.length<=i)(hl:∀i zs σ H,i<=ys.length->B i zs σ H->SqT K H a xs/\SqT K H b ys)
  (hs:∀i zs x y σ H T,xs[i]?=some x->ys[i]?=some y->B i zs σ H->H T=none->g (.ref T) σ (upd H T (.tup [x,y])) fun z H2=>tt z H2 fun b G=>if b=true then te z G (fun v H4=>B (i+1) (zs++[v]) z H4) else B (i+1) zs z G)
  (hd:∀zs σ H,B ys.length zs σ H->∀p,H p=none->Q (.ref p) (upd H p (.lst zs))):CA (D4 K a b) g tt te Q σ H:=by
 refine⟨fun i m zs σ H=>m=ys.length-i/\i<=ys.length/\B i zs σ H,⟨ys.length,by simp,yo _,h0⟩,?_⟩;rintro i m zs σ H ⟨rfl,hi,p⟩;have q:=hl i zs σ H hi p;have Z:=hy i zs σ H p;by_cases F:i<ys.length
 ·refine .inr ⟨⟨xs,ys,xs[i]'(by lia),ys[i],q.1,q.2,by simp,by simp⟩,by lia,B (i+1),fun M J H' U=>⟨ys.length-(i+1),by lia,rfl,F,U⟩,fun x H' y=>?_⟩;obtain⟨T,u,v,rfl,hT,rfl,R,O⟩:=y;exact hs i zs u v σ H T (R xs q.1) (O ys q.2) p hT
 ·have e:i=ys.length:=by lia
  subst e;exact .inl ⟨⟨xs,ys,q.1,q.2,.inr (yf _)⟩,by lia,hd zs σ H p⟩
inductive DX where
 |c (d:Dm)|var (i:Nat)|tup (l:List DX)|lst (l:List DX)|cat (a b:DX)|lof (a:DX)
noncomputable def KF:Dm->Dm->Dm
 |.tup x,.tup y=>.tup (x++y)
 |_,_=>.non
mutual
noncomputable def DX.val(q:Nat->Dm):DX->Dm
 |.c d=>d
 |.var i=>q i
 |.tup l=>.tup (EY q l)
 |.lst _=>.lst
 |.cat a b=>KF (a.val q) (b.val q)
 |.lof _=>.lst
noncomputable def EY(q:Nat->Dm):List DX->List Dm
 |[]=>[]
 |x::r=>x.val q::EY q r
end
mutual
def DX.Fit(q:Nat->Dm)(σ:St)(H:Hp):DX->Prop
 |.c _=>True
 |.var i=>∃v,σ[i]?=some (some v)/\Dt H v (q i)
 |.tup l=>l.length<=1000/\Di q σ H l
 |.lst l=>l.length<=1000/\Di q σ H l
 |.cat a b=>a.Fit q σ H/\b.Fit q σ H/\∃x y,a.val q=.tup x/\b.val q=.tup y/\x.length+y.length<=1000
 |.lof a=>a.Fit q σ H/\∃x,a.val q=.tup x
def Di(q:Nat->Dm)(σ:St)(H:Hp):List DX->Prop
 |[]=>True
 |x::r=>x.Fit q σ H/\Di q σ H r
end
noncomputable def O4(q:List Nat):DX->DX->Bool
 |.var i,.tup l=>q.contains i&&decide (l.length<=100)
 |_,_=>false
noncomputable def O5(q:List Nat):DX->Bool
 |.var i=>q.contains i
 |_=>false
mutual
noncomputable def DX.chk(z q:List Nat):DX->Bool
 |.c _=>true
 |.var i=>z.contains i
 |.tup l=>decide (l.length<=100)&&Fe z q l
 |.lst l=>decide (l.length<=100)&&Fe z q l
 |.cat a b=>O4 q a b&&a.chk z q&&b.chk z q
 |.lof a=>O5 q a&&a.chk z q
noncomputable def Fe(z q:List Nat):List DX->Bool
 |[]=>true
 |x::r=>x.chk z q&&Fe z q r
end
structure Env(ρ:Nat->Dm)(σ:St)(H:Hp)(vo vt:List Nat):Prop where
 o:∀i∈vo,∃v,σ[i]?=some (some v)/\Dt H v (ρ i)
 t:∀i∈vt,∃ds,ρ i=.tup ds/\ds.length<=100
theorem O6(q:Nat->Dm):∀l:List DX,(EY q l).length=l.length
 |[]=>rfl
 |_::r=>by rw[EY,yu,yu,O6 q r]
mutual
theorem Env.fit{z:Nat->Dm}(e:Env z σ H vo vt):∀{x:DX},x.chk vo vt=true->x.Fit z σ H
 |.c _,_=>by rw[DX.Fit]; trivial
 |.var i,h=>by
  rw[DX.chk] at h;rw[DX.Fit];exact e.o i (List.contains_iff_mem.mp h)
 |.tup l,h=>by
  rw[DX.chk,y05,decide_eq_true_eq] at h;rw[DX.Fit];exact⟨by lia,e.fitA h.2⟩
 |.lst l,h=>by
  rw[DX.chk,y05,decide_eq_true_eq] at h;rw[DX.Fit];exact⟨by lia,e.fitA h.2⟩
 |.cat a b,h=>by
  rw[DX.chk,y05,y05] at h;obtain⟨⟨q,h1⟩,h2⟩:=h;rw[DX.Fit];refine⟨e.fit h1,e.fit h2,?_⟩;unfold O4 at q;split at q
  ·rename_i i l;rw[y05,decide_eq_true_eq] at q;obtain⟨ds,B,F⟩:=e.t i (List.contains_iff_mem.mp q.1);exact⟨ds,EY z l,by rw[DX.val]; exact B,by rw[DX.val],by rw[O6]; lia⟩
  ·cases q
 |.lof a,h=>by
  rw[DX.chk,y05] at h;rw[DX.Fit];refine⟨e.fit h.2,?_⟩;have q:=h.1;unfold O5 at q;split at q
  ·rename_i i;obtain⟨ds,B,F⟩:=e.t i (List.contains_iff_mem.mp q);exact⟨ds,by rw[DX.val]; exact B⟩
  ·cases q
theorem Env.fitA{q:Nat->Dm}(e:Env q σ H vo vt):∀{l:List DX},Fe vo vt l=true->Di q σ H l
 |[],_=>by rw[Di]; trivial
 |x::r,h=>by
  rw[Fe,y05] at h;rw[Di];exact⟨e.fit h.1,e.fitA h.2⟩
end
def tDX(x:DX):TE:=fun σ H Q=>∃ q,x.Fit q σ H/\∀v H',Same H H'->Dt H' v (x.val q)->Q v H'
def KG(l:List DX):TA:=fun σ H Q=>∃ q,Di q σ H l/\∀vs H',Same H H'->DtA H' vs (EY q l)->Q vs H'
end
end L2
namespace L2
open PySem PySem.Spec PyProof.Rows PySem.W
noncomputable def ltI:List Int->List Int->Bool
 |_,[]=>false
 |[],_::_=>true
 |a::x,b::y=>if a=b then ltI x y else decide (a<b)
theorem KH:∀{x y:List Int},ltI x y=true->ltI y x=false
 |_,[],h=>by cases ‹List Int›<;>simp[ltI] at h
 |[],b::y,_=>by simp[ltI]
 |a::x,b::y,h=>by
  rw[ltI] at h |-;by_cases e:a=b
  ·subst e;rw[if_pos rfl] at h |-;exact KH h
  ·rw[if_neg e] at h;rw[if_neg (y1k e)];simp only[decide_eq_true_eq,decide_eq_false_iff_not] at h |-;lia
section
variable{prog:yq}{w:y0h}{A:y0n}{E:yg->ye->Prop}{s:ye}
theorem Us{P:PySem.Fin->ye->Prop}(hx:IsTupleKey (intKind prog w) s.heap x a)(hy:IsTupleKey (intKind prog w) s.heap y b)(h:P (.done (.ret (.bool (ltI x y)))) s) :
  y0b (y06 prog w) A (Builtin.«tuple.__lt__» ⟨[.ref a,.ref b],[]⟩) P E s:=by
 have fw:=hy.typeIs;obtain⟨oa,xs,na,fh,_,fu,fq⟩:=hx;obtain⟨ob,ys,nb,fg,_,ft,fk⟩:=hy;show y0b _ _ (isInstance (.ref b) (.type "tuple") >>= _) _ _ s;refine yb (y32 fw y3m ?_);simp only[y2j,y0e,if_false];refine yb (y39 fh fu ?_);refine yb (y39 fg ft ?_);refine yb ?_;refine y3t _
  (fun Ai r s'=>r.1=none/\s'=s/\∃x' y' B z,Ai=List.zip B z/\ItemsAre (intKind prog w) x' B/\ItemsAre (intKind prog w) y' z/\ltI x' y'=ltI x y/\decide (B.length<z.length)=decide (xs.size<ys.size))
  _ ?_ ?_ _ _ ⟨rfl,rfl,x,y,xs.toList,ys.toList,rfl,fq,fk,rfl,by simp⟩
 ·rintro⟨u,v⟩ Ai r s' ⟨hr,rfl,x',y',B,z,hz,J,G,q,F⟩;cases J with
  |nil=>simp at hz
  |@cons k1 u' fe O h1 U=>
   cases G with
   |nil=>simp at hz
   |@cons k2 v' fc M h2 R=>
    simp only[y1t,y4k,Prod.mk.injEq] at hz;obtain⟨⟨rfl,rfl⟩,rfl⟩:=hz;refine yb ((intKind prog w).eqBool (a:=k1) (b:=k2) h1 h2 ?_);rw[ltI] at q;by_cases hk:k1=k2
    ·subst hk;rw[decide_eq_true rfl];rw[if_pos rfl] at q;simp only[y2j,y0e,if_false];exact yh ⟨rfl,rfl,fe,fc,O,M,rfl,U,R,q,by simpa using F⟩
    ·rw[decide_eq_false hk];rw[if_neg hk] at q;simp only[y55,if_true];obtain⟨t1,rfl⟩:=Fc h1;obtain⟨t2,rfl⟩:=Fc h2;refine yb (y3z (yb (wpAny_lt_int ?_)));rw[q];exact yb (yh (yh (yh h)))
 ·rintro⟨r1,r2⟩ s' ⟨hr,rfl,x',y',B,z,hz,J,G,q,F⟩;simp only at hr;subst hr;refine yh ?_;have Z:decide (xs.size<ys.size)=ltI x y:=by
   rw[<- q,<- F];cases J with
   |nil=>
    cases G with
    |nil=>simp[ltI]
    |cons _ _=>simp[ltI]
   |cons _ _=>
    cases G with
    |nil=>simp[ltI]
    |cons _ _=>simp at hz
  show P (.done (.ret (.bool (decide (xs.size<ys.size))))) s';rw[Z]; exact h
theorem Ut{Q:yg->ye->Prop}(hu:A.units<cLine)(hx:IsTupleKey (intKind prog w) s.heap x a)(hy:IsTupleKey (intKind prog w) s.heap y b)(h:Q (.bool (ltI x y)) s) :
  y0b (y06 prog w) A (y0t .Lt (.ref a) (.ref b)) Q E s:=
 wpAny_richCompare_same_room (op:=.Lt) hx.typeIs hy.typeIs F.slot_tuple_lt
  (y0u F.slot_tuple_lt hx.typeIs F.entry_tuple_lt (Us hx hy ⟨_,rfl,(fun e=>nomatch e),h⟩) (F.args_tuple_lt_2 _ _)) hu
variable{k:SortKind}{vs:List yg}{st:SortSt}
theorem Uu{Q:Bool->ye->Prop}:∀(x y:List Int) (us vs:List yg) (i:Nat) (fin:Bool),ItemsAre (intKind prog w) x us->ItemsAre (intKind prog w) y vs->fin=decide (us.length<vs.length)->Q (ltI x y) s->KatLex prog w A b fin Q (us.zip vs) i s:=by
 intro x;induction x with
 |nil=>
  intro y us vs i fin hx hy hf h;cases hx;rw[List.zip_nil_left];refine kat_nil ?_;cases hy with
  |nil=>rw[hf]; simpa [ltI] using h
  |cons _ _=>rw[hf]; simpa [ltI] using h
 |cons a x q=>
  intro y us vs i fin hx hy hf h;cases hx with
  |@cons _ u _ us h1 hx=>
   cases hy with
   |nil=>
    rw[List.zip_nil_right];refine kat_nil ?_;rw[hf];simpa [ltI] using h
   |@cons c v y vs h2 hy=>
    obtain⟨B,rfl⟩:=Fc h1;obtain⟨z,rfl⟩:=Fc h2;rw[y1t];refine kat_cons (wpAny_eqBool_int ?_);rw[ltI] at h;by_cases e:a=c
    ·rw[show(a==c)=true from beq_iff_eq.mpr e];rw[if_pos e] at h;exact kat_yes (q y us vs (i+1) fin hx hy (by simpa using hf) h)
    ·rw[show(a==c)=false from beq_eq_false_iff_ne.mpr e];rw[if_neg e] at h;refine kat_no ?_;cases b&&i==0 with
     |true=>exact oneLt_int h
     |false=>exact kat_one _ _ (wpAny_lt_int h)
theorem Uv{Q:Bool->ye->Prop}(hx:IsTupleKey (intKind prog w) s.heap x a)(hy:IsTupleKey (intKind prog w) s.heap y c)(h:Q (ltI x y) s):y0b (y06 prog w) A (keyLt' (tuples' b) (.ref a) (.ref c)) Q E s:=by
 obtain⟨O,xs,R,z,_,J,F⟩:=hx;obtain⟨M,ys,nb,q,_,G,B⟩:=hy;exact kat_lt z J q G (Uu x y _ _ 0 _ F B (by simp) h)
noncomputable def AJ(p:List Int):Dm:=.tup (p.map Dm.int)
abbrev Rw2:=List Int×Dm
noncomputable def Uw(r:Rw2):Dm:=.tup [AJ r.1,r.2]
theorem EZ:∀{xs:List V} {p:List Int},DtA H xs (p.map Dm.int)->xs=p.map V.int
 |_,[],.nil=>rfl
 |_,_::_,.cons (.int _) r=>by rw[yj,<- EZ r]
end
section
variable{X:Cx}{pins:List (Addr×Obj)}{σ:St}{H:Hp}{s:ye}
theorem O7:∀{p:List Int} {us:List yg},Vals (p.map V.int) us->ItemsAre (intKind X.prog X.w) p us
 |[],_,.nil=>.nil
 |i::p,_,.cons r t=>by
  obtain⟨k,rfl⟩:=r;exact .cons (intKind_is _ _ _ _) (O7 t)
theorem Inv.path(I:Inv X pins σ H s)(d:Dt H v (AJ p))(r:RelV v u):∃a,u=.ref a/\IsTupleKey (intKind X.prog X.w) s.heap p a:=by
 cases d with
 |tup e B=>
  cases r;obtain⟨q,z,⟨o,F,hc,n,hd⟩,_⟩:=I.tuple (SqT.of e);have:=EZ B;subst this;exact⟨_,rfl,o,q.toArray,n,F,hc,hd,O7 z⟩
end
end L2
namespace L2
open PySem PyProof.Rows
open AutoSeq1 (wpAny_loadPart')
theorem Ux(l:Addr)(q:Array yg)(n:Nat)(F:Option Addr)(J:Array (Option yg)) :
  Meets (Builtin.«enumerate.__new__» ⟨[.type "enumerate",.ref l],[]⟩) (fun _ R s=>s.heap.get? l=some {cls:=.type "tuple",dict:=F,data:=.seq q n,slots:=J}/\
   R (.ok (.ret (.ref (s.heap.push {cls:=.type "tuple_iterator",data:=.fields #[.ref l,.int 0 0]}).objs.size)))
    {s with heap:=(s.heap.push {cls:=.type "tuple_iterator",data:=.fields #[.ref l,.int 0 0]}).push {cls:=.type "enumerate",data:=.fields #[.none,.bool false,.ref s.heap.objs.size,rawInt 0,.none,.none]}}):=
 .of_wp fun prog w A R s h=>by
  obtain⟨M,g,d,tk,os⟩:=s; obtain⟨z,h⟩:=h;have G:=sub_enumerate;have B:Heap.IsTuple (Shared.heap ⟨M,g,d,tk,os⟩) l q:=⟨_,z,rfl,n,rfl⟩;wp_walk using wpAny_loadPart' z;refine wpAny_stack_any fun st=>yh ?_;split
  ·rename_i c _ _ _ _ _;cases (c==Value.type "enumerate")
   ·wp_walk using wpAny_loadPart' z,y2o B;exact⟨_,rfl,h⟩
   ·wp_walk using wpAny_loadPart' z,y2o B;exact⟨_,rfl,h⟩
  ·wp_walk using wpAny_loadPart' z,y2o B;exact⟨_,rfl,h⟩
section
variable{prog:yq}{w:y0h}{A:y0n}{E:yg->ye->Prop}{s:ye}
theorem Uy{Q:yg->ye->Prop}(M:s.heap.IsTuple l items)
  (h:∀h',IsEnum h' (s.heap.objs.size+1) s.heap.objs.size 0 .none->h'.IsTupleIter s.heap.objs.size l 0->h'.objs.size=s.heap.objs.size+2->
   (∀b o,s.heap.get? b=some o->h'.get? b=some o)->Q (.ref (s.heap.objs.size+1)) {s with heap:=h'}) :
  y0b (y06 prog w) A (call (.type "enumerate") [.ref l]) Q E s:=by
 obtain⟨⟨c,z,O,G⟩,J,hc,n,hd⟩:=M;replace hc:c=.type "tuple":=hc;replace hd:O=.seq items n:=hd;subst hc hd;refine callType_new F.called_enumerate (by decide) (F.typeCall_enumerate_1 _) (F.newCall_enumerate_1 _) (fun q=>F.args_object_init_2 q _) F.entry_enumerate_new
  (Ux l items n z G) ⟨J,?_⟩
 have hz:(s.heap.push {cls:=.type "tuple_iterator",data:=.fields #[.ref l,.int 0 0]}).objs.size=s.heap.objs.size+1:=y1w ..;show _/\_;rw[hz];have B:IsEnum ((s.heap.push {cls:=.type "tuple_iterator",data:=.fields #[.ref l,.int 0 0]}).push
   {cls:=.type "enumerate",data:=.fields #[.none,.bool false,.ref s.heap.objs.size,rawInt 0,.none,.none]}) (s.heap.objs.size+1) s.heap.objs.size 0 .none:=by
  have:=yt (s.heap.push {cls:=.type "tuple_iterator",data:=.fields #[.ref l,.int 0 0]})
   (o:={cls:=.type "enumerate",data:=.fields #[.none,.bool false,.ref s.heap.objs.size,rawInt 0,.none,.none]}) rfl
  rw[hz] at this; exact this
 refine⟨⟨_,B,rfl⟩,h _ B ⟨_,yd _ (yt _ rfl),rfl,rfl⟩ (by rw[y1w,hz]) fun b o x=>yd _ (yd _ x)⟩
theorem Uz{e z l:Addr}{i:Nat}{q:Array yg}{B:yg}{Q:Option yg->ye->Prop}(hh:A.handled=none)(O:IsEnum s.heap e z i B)(J:s.heap.IsTupleIter z l i)(Z:s.heap.IsTuple l q)(hx:q[i]?=none)
  (hQ:∀h',Heap.ExtBut z s.heap h'->Q none {s with heap:=h'}):y0b (y06 prog w) A (pyNext (.ref e)) Q E s:=by
 have R:s.TypeIs (.ref e) "enumerate":=⟨_,O,rfl⟩;unfold pyNext;refine yb (y4x (y1c (name:=Str.ofString "__next__") R F.slot_enumerate_next
  (y0u F.slot_enumerate_next R F.entry_enumerate_next ?_ (F.args_enumerate_next_1 _))))
 show y0b _ _ (field (.ref e) 2 >>= _) _ _ _;refine yb (wpAny_field O rfl (x:=.ref z) rfl ?_);refine yb (Hj hh J Z hx fun h' x M G=>?_);obtain⟨o,U,hc⟩:=G;refine yb (y32 (T:="StopIteration") (b:=true) ⟨o,U,hc⟩ isSubtype_stop ?_);exact yh (hQ _ M)
end
theorem V0(J:A.handled=none)(z l:Addr)(G:l≠z)(q:Array yg) :
  Draws prog w A z [z,l] q.size (fun i v=>q[i]?=some v) (fun i h=>h.IsTupleIter z l i/\h.IsTuple l q) where
 live:=fun _ _ st=>let ⟨o,ho,_⟩:=st.1; ⟨o,ho⟩
 frame:=fun _ _ _ st hk=>⟨st.1.at fun o e=>hk z (by simp) o e,let ⟨o,ho,r⟩:=st.2; ⟨o,hk l (by simp) o ho,r⟩⟩
 item:=fun i s Q E hi st M=>by
  refine Hi st.1 st.2 (x:=q[i]) (by simp[hi]) fun h' F B=>?_;exact M _ h' s.toks (by simp[hi]) ⟨F,st.2.extBut B.extBut G⟩ B
 done:=fun s Q E st O=>Hj J st.1 st.2 (by simp) O
noncomputable def Dj(K:ya)(a:Addr):It:=
 ⟨fun i H=>∃xs x,SqT K H a xs/\xs[i]?=some x,fun i H x H'=>∃T v,x=.ref T/\H T=none/\H'=upd H T (.tup [.int i,v])/\∀xs,SqT K H a xs->xs[i]?=some v,fun i H=>∃xs,SqT K H a xs/\xs.length<=i⟩
theorem V1{P:yq}{w:y0h}{K:ya}{fk:List Expr}{kt:Nat}{pt:Pos}(a e M:Addr)(Z:e≠M)(fu:e≠a)(fV:a≠M):Turn P w K (.Tuple fk kt pt) (Dj K a) [e,M] e (fun i h=>(∃B,IsEnum h e M i B)/\h.IsTupleIter M a i) where
 mem:=by simp
 obj:=fun i h st b hb=>by
  obtain⟨⟨B,J⟩,hi⟩:=st;rcases List.mem_cons.mp hb with rfl|hb
  ·exact⟨_,J,fun v z=>by cases z⟩
  ·obtain rfl:=List.mem_singleton.mp hb;obtain⟨o,e',c,d⟩:=hi;exact⟨o,e',fun v z=>by rw[d] at z; cases z⟩
 keep:=fun i h h' st k=>by
  obtain⟨⟨B,J⟩,hi⟩:=st;exact⟨⟨B,k e (by simp) _ J⟩,hi.at fun o q=>k M (by simp) o q⟩
 item:=by
  intro X hP hw hK hc i pins s σ H E I hf st hg;subst hP hw hK;obtain⟨⟨B,J⟩,O⟩:=st;obtain⟨xs,x,hq,hx⟩:=hg;obtain⟨F,rv,p,hz⟩:=I.tuple hq;obtain⟨u,hu,ru⟩:=rv.get hx;have U:F.toArray[i]?=some u:=by simpa using hu
  have ft:i<F.toArray.size:=by
   rcases Nat.lt_or_ge i F.toArray.size with c|c
   ·exact c
   ·rw[y36 c] at U; cases U
  refine wpAny_pyNext_enum_itemD (V0 (A:=X.A.in1) (show X.A.in1.handled=none from I.ok.hd hc) M a fV F.toArray) J ⟨O,p⟩ ft Z (by simp[Z,fu]) fun y h1 tk hy ho fg hT hsz hk=>?_;have fe:F.toArray[i]?=some y:=hy;obtain rfl:u=y:=by rw[U] at fe; exact y0l fe
  have fh:=fg.1;refine⟨_,rfl,wpAny_letOwnedTupleGo_enum ho fun h2 fw fq=>?_⟩;have R:e<s.heap.objs.size:=yl J;have G:Heap.SameBut e h1 h2:=fq;have kk:∀b o,b∉[e,M]->s.heap.get? b=some o->h2.get? b=some o:=fun b o hb q=>G.extBut b o (fun z=>hb (by simp[z])) (hk b o (fun z=>hb (by simp[z])) (fun z=>hb (by simp[z])) q);have I1:Inv X pins σ H {s with heap:=h2,toks:=tk+1}:=I.turnedL kk hf;have fc:H s.heap.objs.size=none:=I.hok.fresh (yf _);have fX:h2.get? s.heap.objs.size=some {cls:=.type "tuple",data:=.seq #[.int i tk,u]}:=G.extBut _ _ (y25 R) hT;have I2:Inv X pins σ (upd H s.heap.objs.size (.tup [.int i,x])) {s with heap:=h2,toks:=tk+1}:=
   I1.track fc (I.fpOk (yf _) fc) (show ObjOk X.prog X.w _ h2 _ (.tup [.int i,x]) from⟨KA,[.int i tk,u],.cons ⟨_,rfl⟩ (.cons ru .nil),⟨_,fX,rfl,_,rfl⟩⟩)
  refine⟨.ref s.heap.objs.size,_,I2,rfl,⟨s.heap.objs.size,x,rfl,fc,rfl,fun ys hy=>by rw[I.tuple_inj hy hq]; exact hx⟩,⟨⟨u,by simpa using fw⟩,fh.at fun o q=>(G.2 M Z.symm).trans q⟩,fun b hb=>?_⟩;have fz:b<s.heap.objs.size:=by
   rcases List.mem_cons.mp hb with rfl|hb
   ·exact R
   ·obtain rfl:=List.mem_singleton.mp hb;obtain⟨o,e',_⟩:=O;exact yl e'
  rw[A8 (yz fz)];exact(hf b hb).1
 done:=by
  intro X hP hw hK hc i pins s σ H E I hf st hg;subst hP hw hK;obtain⟨⟨B,J⟩,O⟩:=st;obtain⟨xs,hq,hx⟩:=hg;obtain⟨F,rv,p,hz⟩:=I.tuple hq;have hl:=rv.length;exact Uz (I.ok.hd hc) J O p (by simp; lia) fun h' eb=>⟨rfl,I.turnedL (t':=s.toks) (fun b o hb q=>eb b o (fun z=>hb (by simp[z])) q) hf⟩
 self:=fun _ _ _ _ _ st h=>by
  obtain⟨⟨B,J⟩,_⟩:=st;exact wpAny_pyIter_enum J h
section
variable{X:Cx}
def KI(K:ya)(ta:TA):TI:=fun σ H R=>ta σ H fun vs H1=>∃a,vs=[.ref a]/\(∃xs,SqT K H1 a xs)/\R (Dj K a) H1
theorem KJ{G:List Expr}{kt:Nat}{pt p pos:Pos}{l:Expr}{ta:TA} (hg:Gl X "enumerate") (hm:X.mg "enumerate" = none) (ha:PA X [l] ta) (M:ET l=false:=by rfl):PI X (.Tuple G kt pt) (.Call (.Name "enumerate" p) [l] [] pos) (KI X.K ta):=by
 refine⟨?_⟩;intro pins s σ H R I h;refine Call_ (DW I hg hm boot_enumerate (y1u (thn (ha pos pins s σ H _ I h) fun us z ⟨vs,H1,J,Z,q1⟩=>?_) (Cc M) rfl));obtain⟨a,e,⟨xs,hq⟩,q⟩:=q1;subst e;cases Z with
 |cons r U=>
  cases U;cases r;obtain⟨fc,rv,pl,hz⟩:=J.tuple hq;have F:a<z.heap.objs.size:=by
   obtain⟨o,e,_⟩:=pl;exact yl e
  refine Uy pl fun h' O hi hsz hk=>?_;have I2:Inv X pins σ H1 {z with heap:=h'}:=J.kept (t':=z.toks) hk;refine wpAny_pyIter_enum O ?_;refine⟨z.heap.objs.size+1,[z.heap.objs.size+1,z.heap.objs.size],_,_,H1,rfl,I2,V1 a _ _ (Nat.succ_ne_self _) (y25 (y2p F)) (yz F),⟨⟨_,O⟩,hi⟩,fun b hb=>?_,q⟩;have B:z.heap.objs.size<=b:=by
   rcases List.mem_cons.mp hb with rfl|hb
   ·exact y3d _
   ·obtain rfl:=List.mem_singleton.mp hb;exact yf _
  exact J.fpOk B (J.hok.fresh B)
theorem KL{K:ya}{a:Addr}{xs:List V}{g:TG}{tb:TS}{D:Ends}{σ:St}{H:Hp}(z:Nat->St->Hp->Prop)(Z:z 0 σ H)(R:∀i σ H,i<=xs.length->z i σ H->SqT K H a xs)
  (O:∀i x σ H T,xs[i]?=some x->z i σ H->H T=none->g (.ref T) σ (upd H T (.tup [.int i,x])) fun B H2=>tb {D with nx:=z (i+1),ct:=z (i+1),bk:=D.nx} B H2) (hd:∀ σ H,z xs.length σ H->D.nx σ H) :
  ∃W:Nat->Nat->St->Hp->Prop,(∃m,W 0 m σ H)/\∀i m σ H,W i m σ H->
   ((Dj K a).stop i H/\D.nx σ H)\/((Dj K a).go i H/\∃N:St->Hp->Prop,(∀ F H',N F H'->∃J,J<m/\W (i+1) J F H')/\∀x H',(Dj K a).yld i H x H'->g x σ H' fun B H2=>tb {D with nx:=N,ct:=N,bk:=D.nx} B H2):=by
 refine⟨fun i m σ H=>m=xs.length-i/\i<=xs.length/\z i σ H,⟨xs.length,by simp,yo _,Z⟩,?_⟩
 rintro i m σ H ⟨rfl,hi,p⟩
 have q:=R i σ H hi p
 by_cases G:i<xs.length
 ·refine .inr ⟨⟨xs,xs[i],q,by simp[G]⟩,z (i+1),fun F H' M=>⟨xs.length-(i+1),by lia,rfl,G,M⟩,fun x H' y=>?_⟩
  obtain⟨T,v,rfl,U,rfl,y⟩:=y
  exact O i v σ H T (y xs q) p U
 ·have e:i=xs.length:=by lia
  subst e
  exact .inl ⟨⟨xs,q,yf _⟩,hd σ H p⟩
end
end L2
namespace L2
open PySem PySem.Spec PyProof.Rows
section
variable{prog:yq}{w:y0h}{A:y0n}{E:yg->ye->Prop}{s:ye}{S:Addr}
end
noncomputable def B0(P:yq)(w:y0h)(p:Addr)(ks:List Str):HO:=.ext (Nz (PySem.strKind P w) strOf p (!O0 w) ks)
section
variable{X:Cx}
end
end L2
namespace L2
open PySem PySem.Spec PyProof.Rows PySem.W
def C1(r:Nat->Nat)(n:Nat):Nat->Nat->(Bool->ye->Prop)->ye->Prop:=fun i j C s=>i<n/\j<n/\C (decide (r i<r j)) s
theorem O8{α:Type}{r:Nat->Nat}{q:Nat->Nat->(Bool->ye->Prop)->ye->Prop}{Q:α->ye->Prop}(hc:∀i j C,i<n->j<n->C (decide (r i<r j)) s->q i j C s) :
  ∀(t:KasT α),t.kasWp (C1 r n) (fun a s'=>Q a s) s->t.kasWp q Q s
 |.ret a,h=>h
 |.ask i j k,⟨h1,h2,h⟩=>hc i j _ h1 h2 (O8 hc (k _) h)
section
variable{r:Nat->Nat}{n:Nat}{s:ye}
theorem Ff{α:Type}{i j:Nat}{z q:KasT α}{Q:α->ye->Prop}(hi:i<n)(B:j<n)(h1:r i<r j->z.kasWp (C1 r n) Q s)(h2:¬ r i<r j->q.kasWp (C1 r n) Q s):(KasT.ask i j fun c=>if c=true then z else q).kasWp (C1 r n) Q s:=by
 refine⟨hi,B,?_⟩;by_cases c:r i<r j
 ·have:=h1 c;simpa [c] using this
 ·have:=h2 c;simpa [c] using this
noncomputable def rk(r:Nat->Nat)(p:Array Nat)(i:Nat):Nat:=r (p.getD i 0)
def Asc(r:Nat->Nat)(p:Array Nat)(m:Nat):Prop:=∀i j,i<j->j<m->rk r p i<rk r p j
def Dsc(r:Nat->Nat)(p:Array Nat)(m:Nat):Prop:=∀i j,i<j->j<m->rk r p j<rk r p i
structure PermN(r:Nat->Nat)(n:Nat)(p:Array Nat):Prop where
 sz:p.size=n
 lt:∀i,i<n->p.getD i 0<n
 inj:∀i j,i<n->j<n->rk r p i=rk r p j->i=j
 pm:p.toList.Perm (List.range n)
theorem PermN.of(hr:∀i j,i<n->j<n->r i=r j->i=j)(h:p.toList.Perm (List.range n)):PermN r n p:=by
 have F:p.size=n:=by simpa using h.length_eq
 have B:∀i,i<n->p.getD i 0<n:=fun i hi=>by
  have q:i<p.size:=by lia
  have:p.getD i 0∈p.toList:=by simp[Array.getD,q]
  simpa using h.mem_iff.mp this
 refine⟨F,B,fun i j hi J e=>?_,h⟩;have M:=hr _ _ (B i hi) (B j J) e;have G:p.toList.Nodup:=h.nodup_iff.mpr List.nodup_range;have q:i<p.size:=by lia
 have z:j<p.size:=by lia
 have:p.toList[i]'(by simpa using q)=p.toList[j]'(by simpa using z):=by simpa [Array.getD,q,z] using M
 exact(y2x G).mp this
theorem Hl{p q:Array Nat}{i j:Nat}(h:p[i]?=q[j]?):p.getD i 0=q.getD j 0:=by
 have z:p.getD i 0=(p[i]?).getD 0:=by simp
 have e2:q.getD j 0=(q[j]?).getD 0:=by simp
 rw[z,e2,h]
theorem KM{p:Array Nat}(P:PermN r n p){Q:Nat->ye->Prop}:∀(f m:Nat),1<=m->m+f<=n->Asc r p m->(∀k,m<=k->k<=m+f->Asc r p k->(k<m+f->rk r p k<rk r p (k-1))->Q k s)->(kas_asc p f m).kasWp (C1 r n) Q s
 |0,m,h1,h2,h,q=>q m (yf _) (yf _) h (fun z=>absurd z (by lia))
 |f+1,m,h1,h2,h,q=>by
  refine Ff (P.lt _ (by lia)) (P.lt _ (by lia)) (fun c=>?_) (fun(c:¬ rk r p m<rk r p (m-1))=>?_)
  ·exact q m (yf _) (by lia) h (fun _=>c)
  ·refine KM P f (m+1) (by lia) (by lia) (fun i j F M=>?_) fun k J G k3 k4=>q k (by lia) (by lia) k3 (fun z=>k4 (by lia));have B:rk r p (m-1)<rk r p m:=by
    have:rk r p (m-1)≠rk r p m:=fun e=>by have:=P.inj _ _ (by lia) (by lia) e; lia
    lia
   by_cases e:j=m
   ·subst e;by_cases e2:i=j-1
    ·rw[e2]; exact B
    ·exact y1i (h i (j-1) (by lia) (by lia)) B
   ·exact h i j F (by lia)
theorem O9{p:Array Nat}(P:PermN r n p){Q:Array Nat×Nat×Nat->ye->Prop}:∀(f m:Nat),1<=m->m+f<=n->Dsc r p m->(∀k,m<=k->k<=m+f->Dsc r p k->Q (p,k,0) s)->(kas_desc f p m 0).kasWp (C1 r n) Q s
 |0,m,h1,h2,h,q=>q m (yf _) (yf _) h
 |f+1,m,h1,h2,h,q=>by
  refine Ff (P.lt _ (by lia)) (P.lt _ (by lia)) (fun c=>?_) (fun(c:¬ rk r p m<rk r p (m-1))=>?_)
  ·rw[if_neg (by lia)];refine O9 P f (m+1) (by lia) (by lia) (fun i j B J=>?_) fun k G F k3=>q k (by lia) (by lia) k3;by_cases e:j=m
   ·subst e;by_cases e2:i=j-1
    ·rw[e2]; exact c
    ·exact y1i c (h i (j-1) (by lia) (by lia))
   ·exact h i j B (by lia)
  ·have z:rk r p (m-1)<rk r p m:=by
    have:rk r p (m-1)≠rk r p m:=fun e=>by have:=P.inj _ _ (by lia) (by lia) e; lia
    lia
   refine Ff (P.lt _ (by lia)) (P.lt _ (by lia)) (fun c=>?_) (fun c=>absurd z c);exact q m (yf _) (by lia) h
theorem V2(hr:∀i j,i<n->j<n->r i=r j->i=j)(P:PermN r n p)(i j:Nat):PermN r n (kas_rev p i j):=
 .of hr ((Array.perm_iff_toList_perm.mp (mirror_perm _ _ _ _)).trans P.pm)
theorem OA{p:Array Nat}{m:Nat}(hm:m<=p.size)(k:Nat)(hk:k<m):rk r (kas_rev p 0 m) k=rk r p (m-1-k):=by
 have e:=getElem?_mirror_all (xs:=p) (i:=0) hm k;rw[if_pos (by lia)] at e;show r _=r _;rw[show kas_rev p 0 m=mirror p 0 m ((m-0) / 2) from rfl,Hl e];congr 2;lia
theorem V3(hr:∀i j,i<n->j<n->r i=r j->i=j)(P:PermN r n p){Q:Nat×Array Nat->ye->Prop}(h1:1<=m)(h2:m<=n)(h:Dsc r p m)
  (q:∀k z,PermN r n z->1<=k->k<=n->Asc r z k->Q (k,z) s):(kas_tail3 m n p).kasWp (C1 r n) Q s:=by
 unfold kas_tail3;rw[y3q];have B:=V2 hr P 0 m;refine KM B (n-m) m h1 (by lia) (fun i j G F=>?_) fun k M J k3 _=>q k _ B (by lia) (by lia) k3;rw[OA (by rw[P.sz]; exact h2) _ (by lia),OA (by rw[P.sz]; exact h2) _ F];exact h _ _ (by lia) (by lia)
theorem V4(hr:∀i j,i<n->j<n->r i=r j->i=j)(P:PermN r n p){Q:Nat×Array Nat->ye->Prop}(h2:m+1<=n)(h:Dsc r p (m+1))
  (q:∀k z,PermN r n z->1<=k->k<=n->Asc r z k->Q (k,z) s):(kas_descPart m n p).kasWp (C1 r n) Q s:=by
 unfold kas_descPart;rw[y3q];refine O9 P (n-(m+1)) (m+1) (by lia) (by lia) h fun k J G k3=>?_;rw[if_neg (show ¬ (p,k,0).2.2>0 from y1b 0)];have F:1<=k:=by lia
 have B:k<=n:=by lia
 exact V3 hr P F B k3 q
theorem V5(hr:∀i j,i<n->j<n->r i=r j->i=j){p:Array Nat}(P:PermN r n p){Q:Nat×Array Nat->ye->Prop}(h1:1<=n)
  (q:∀k z,PermN r n z->1<=k->k<=n->Asc r z k->Q (k,z) s):(kas_count n p).kasWp (C1 r n) Q s:=by
 unfold kas_count;rw[y3q];refine KM P (n-1) 1 (yf _) (by lia) (fun i j F M=>by lia) fun m G O B J=>?_;by_cases e:m=n
 ·rw[if_pos (by simpa using e)];exact q m p P G (by lia) B
 ·rw[if_neg (by simpa using e)];by_cases e2:m>1
  ·rw[if_pos e2];refine Ff (P.lt _ (by lia)) (P.lt _ (by lia)) (fun c=>?_) (fun c=>absurd (B 0 (m-1) (by lia) (by lia)) c);exact q m p P G (by lia) B
  ·rw[if_neg e2];obtain rfl:m=1:=by lia
   refine V4 hr P (by lia) (fun i j F M=>?_) q;obtain rfl:i=0:=by lia
   obtain rfl:j=1:=by lia
   exact J (by lia)
theorem KN{p:Array Nat}(P:PermN r n p){k:Nat}(hk:k<n)(z:Asc r p k){Q:Nat->ye->Prop}:∀(f l u:Nat),l<=u->u<=k->u-l<=f->(∀i,i<l->rk r p i<rk r p k)->(∀i,u<=i->i<k->rk r p k<rk r p i)->
  (∀m,m<=k->(∀i,i<m->rk r p i<rk r p k)->(∀i,m<=i->i<k->rk r p k<rk r p i)->Q m s)->(kas_place p k f l u).kasWp (C1 r n) Q s
 |0,l,u,h1,h2,B,lo,hi,q=>by
  obtain rfl:l=u:=by lia
  exact q l h2 lo hi
 |f+1,l,u,h1,h2,B,lo,hi,q=>by
  unfold kas_place;by_cases e:l ≥ u
  ·rw[if_pos e];obtain rfl:l=u:=by lia
   exact q l h2 lo hi
  ·rw[if_neg e];refine Ff (P.lt _ hk) (P.lt _ (by lia)) (fun c=>?_) (fun(c:¬ rk r p k<rk r p ((l+u) / 2))=>?_)
   ·refine KN P hk z f l ((l+u) / 2) (by lia) (by lia) (by lia) lo (fun i h1 h2=>?_) q;by_cases e2:i=(l+u) / 2
    ·rw[e2]; exact c
    ·exact y1i c (z _ _ (by lia) h2)
   ·have c':rk r p ((l+u) / 2)<rk r p k:=by
     have:rk r p ((l+u) / 2)≠rk r p k:=fun e=>by have:=P.inj _ _ (by lia) hk e; lia
     lia
    refine KN P hk z f ((l+u) / 2+1) u (by lia) h2 (by lia) (fun i h1=>?_) hi q;by_cases e2:i=(l+u) / 2
    ·rw[e2]; exact c'
    ·exact y1i (z _ _ (show i<(l+u) / 2 by lia) (by lia)) c'
theorem OB(hr:∀i j,i<n->j<n->r i=r j->i=j){Q:Array Nat->ye->Prop}:∀(f:Nat) (p:Array Nat) (k:Nat),PermN r n p->k+f=n->Asc r p k->(∀B,PermN r n B->Asc r B n->Q B s)->(kas_bin f p k).kasWp (C1 r n) Q s
 |0,p,k,P,e,h,q=>by
  obtain rfl:k=n:=e;exact q p P h
 |f+1,p,k,P,e,h,q=>by
  rw[show kas_bin (f+1) p k=(kas_place p k k 0 k).bind fun l=>kas_bin f (bubble p k (k-l)) (k+1) from rfl,y3q];have hk:k<n:=by lia
  refine KN P hk h k 0 k (yo _) (yf _) (by lia) (fun i z=>absurd z (by lia)) (fun i z G=>absurd G (by lia)) fun m R M J=>?_;refine OB hr f _ (k+1) (.of hr ((Array.perm_iff_toList_perm.mp (bubble_perm _ _ _)).trans P.pm)) (by lia) (fun i j O U=>?_) q;have at_:∀x,rk r (bubble p k (k-m)) x=if x=m then rk r p k else if m<x/\x<=k then rk r p (x-1) else rk r p x:=fun x=>by
   have z:=getElem?_bubble (xs:=p) (src:=k) (by rw[P.sz]; exact hk) (k-m) (by lia) x;rw[show k-(k-m)=m by lia] at z;show r _=_;by_cases F:x=m
   ·rw[if_pos F] at z |-;rw[Hl z,rk]
   ·rw[if_neg F] at z |-;by_cases e2:m<x/\x<=k
    ·rw[if_pos e2] at z |-;rw[Hl z,rk]
    ·rw[if_neg e2] at z |-;rw[Hl z,rk]
  rw[at_,at_];repeat' split
  all_goals first
   |(exfalso; lia)
   |exact M _ (by lia)
   |exact J _ (by lia) (by lia)
   |exact h _ _ (by lia) (by lia)
theorem V6(hr:∀i j,i<n->j<n->r i=r j->i=j)(h1:1<=n){Q:Array Nat->ye->Prop}(q:∀p,PermN r n p->Asc r p n->Q p s):(kas_sort n).kasWp (C1 r n) Q s:=by
 unfold kas_sort;rw[y3q];refine V5 hr (.of hr (by simp)) h1 fun k p P B z k3=>?_;dsimp only;by_cases e:k<n
 ·rw[if_pos e,show max k 1=k by lia];exact OB hr _ p k P (by lia) k3 q
 ·rw[if_neg e];obtain rfl:k=n:=by lia
  exact q p P k3
end
section
variable{prog:yq}{w:y0h}{A:y0n}{E:yg->ye->Prop}{s:ye}{a:Addr}{L:Bool}
theorem D5(h:n<=1000):n<=ym:=by rw[sizeLine_eq]; lia
theorem V7{r:Nat->Nat}{P:PySem.Fin->ye->Prop} (O:s.heap.get? a=some (y19 "list" vs.toArray n)) (Z:vs.length<64) (hr:∀i j,i<vs.length->j<vs.length->r i=r j->i=j)
  (hR:2<=vs.length->∀h':Heap,(∀b o,b≠a->s.heap.get? b=some o->h'.get? b=some o)->∃k,(∀(E:yg->ye->Prop) (Q:SortKind->ye->Prop),Q k {s with heap:=h'}->y0b (y06 prog w) A (keyKind' vs.toArray) Q E {s with heap:=h'})/\
   ∀i j,i<vs.length->j<vs.length->∀(E:yg->ye->Prop) (Q:Bool->ye->Prop),Q (decide (r i<r j)) {s with heap:=h'}->y0b (y06 prog w) A (keyLt' k (vs.getD i .none) (vs.getD j .none)) Q E {s with heap:=h'})
  (h:∀p,PermN r vs.length p->Asc r p vs.length->P (.done (.ret .none)) {s with heap:=sortedHeap s.heap a vs (p.toList.map fun i=>vs.getD i .none).toArray}) :
  y0b (y06 prog w) A (Builtin.«list.sort» ⟨[.ref a],[]⟩) P E s:=by
 rw[list_sort_plain];have hz:vs.length<=ym:=D5 (by lia);have ha:a<s.heap.objs.size:=yl O;refine yb (listItems_at O rfl ?_);refine yb (y3u O rfl ?_ (by simpa using hz) (yo _));obtain⟨e1,J⟩:∃e1,(s.heap.update a (Obj.mapSeq fun _=>#[])).get? a=some (y19 "list" #[] e1):=⟨_,get?_update_seq O (fun _=>#[])⟩;refine yb (y4y J rfl ?_);refine yb (wpAny_newTuple ?_ (by simpa using hz));refine yb (y3a ?_ (yo _));refine y1z ?_;have B:(((s.heap.update a (Obj.mapSeq fun _=>#[])).push (y19 "tuple" vs.toArray 0)).push (y19 "list" #[] 0)).get? a=some (y19 "list" #[] e1):=by
  rw[y4g _ _ _ (by rw[y40,y2y]; exact yz (y2p ha)),y4g _ _ _ (by rw[y2y]; exact yz ha)];exact J
 have F:∀b o,b≠a->s.heap.get? b=some o->(((s.heap.update a (Obj.mapSeq fun _=>#[])).push (y19 "tuple" vs.toArray 0)).push (y19 "list" #[] 0)).get? b=some o:=fun b o hb e=>by
  refine yd _ (yd _ ?_);rw[y3r _ _ _ _ hb];exact e
 show y0b (y06 prog w) A _ P E {s with heap:=((s.heap.update a (Obj.mapSeq fun _=>#[])).push (y19 "tuple" vs.toArray 0)).push (y19 "list" #[] 0)};dsimp only;have hsz:vs.toArray.size=vs.length:=by simp
 by_cases h2:vs.toArray.size<2
 ·rw[if_pos h2,if_pos h2];refine yb (yh ?_);rw[StateT.run_pure];refine yb (yh ?_);dsimp only;refine yb (y4y B rfl ?_);refine yb (y3u B rfl ?_ (yo _) (by rw[Array.size_map]; show(pairsOf vs).size<=_; rw[pairsOf_size]; exact y4j hz));simp only[bne_self_eq_false,y0e,if_false];have e:(y02 (SortSt.mk' general' (vs.toArray.zip vs.toArray) #[] 7 none)).map (·.2)=vs.toArray:=by
   show(vs.toArray.zip vs.toArray).map (·.2)=_;apply Array.toList_inj.mp;simp[y4p]
  rw[e];have z:=h (List.toArray (List.range vs.length)) (.of hr (by simp)) (fun i j fc hj=>by rw[hsz] at h2; lia);have ev:((List.toArray (List.range vs.length)).toList.map fun i=>vs.getD i Value.none)=vs:=by
   refine y1o (by simp) fun i h1 h2=>?_;simp[h2]
  rw[ev] at z;exact yh z
 ·rw[if_neg h2,if_neg h2];rw[hsz] at h2;obtain⟨kk,hK,U⟩:=hR (by lia) _ F;refine yb (hK _ _ ?_);refine yb (y1l (kat_run (κ:=kk) (Q:=fun q s'=>∃p:Array Nat,PermN r vs.length p/\Asc r p vs.length/\y02 q=p.map (kas_item (vs.toArray.zip vs.toArray))/\failedOf q=none/\s' = {s with heap:=((s.heap.update a (Obj.mapSeq fun _=>#[])).push (y19 "tuple" vs.toArray 0)).push (y19 "list" #[] 0)})
   (G:=fun p s'=>PermN r vs.length p/\Asc r p vs.length/\s' = {s with heap:=((s.heap.update a (Obj.mapSeq fun _=>#[])).push (y19 "tuple" vs.toArray 0)).push (y19 "list" #[] 0)})
   rfl (by lia) Z (fun p' q s' a1 a2 a3 ⟨a4,a5,a6⟩=>⟨p',a4,a5,a2,a3,a6⟩) (O8 (r:=r) (fun i j C hi hj hc=>U i j hi hj _ _ hc) _ (V6 hr (by lia) fun p R P2=>⟨R,P2,rfl⟩))) ?_ fun _ _ e=>e)
  rintro⟨⟨⟩,q⟩ s' ⟨p,R,P2,M,hf,rfl⟩;dsimp only at M hf |-;have e:=kat_snds (ks:=vs) (vs:=vs) rfl M;refine yb (y4y B rfl ?_);refine yb (y3u B rfl ?_ (yo _) (by rw[e,y07,y4,yi,R.sz]; exact y4j hz));rw[hf];simp only[bne_self_eq_false,y0e,if_false,e];exact yh (h p R P2)
theorem V8{α R:Type}{f:α->R}{l m:List R}(h:l.Perm m):∀ps:List α,m=ps.map f->∃z:List α,z.Perm ps/\l=z.map f:=by
 induction h with
 |nil=>
  intro ps e;cases ps with
  |nil=>exact⟨[],.refl _,rfl⟩
  |cons _ _=>cases e
 |cons x _ ih=>
  intro ps e;cases ps with
  |nil=>cases e
  |cons p ps=>
   injection e with B e2;obtain⟨z,q,O⟩:=ih ps e2;exact⟨p::z,q.cons p,by rw[yj,<- O,B]⟩
 |swap x y l=>
  intro ps e;match ps,e with
  |p::q::ps,e=>
   injection e with B e2;injection e2 with e2 O;exact⟨q::p::ps,.swap ..,by rw[yj,yj,<- B,<- e2,<- O]⟩
 |trans _ _ M J=>
  intro ps e;obtain⟨G,Z,B⟩:=J ps e;obtain⟨F,U,e2⟩:=M G B;exact⟨F,U.trans Z,e2⟩
end
theorem D6:∀x:List Int,ltI x x=false
 |[]=>rfl
 |a::x=>by rw[ltI,if_pos rfl]; exact D6 x
section
variable{prog:yq}{w:y0h}{A:y0n}{E:yg->ye->Prop}{s:ye}{S:Addr}
theorem OC:∀{vs:List yg},(∀v∈vs,∃b p,v=.ref b/\p≠[]/\IsTupleKey (intKind prog w) h p b)->∃fs,KatTups h vs fs/\fs.length=vs.length/\∀f∈fs,∃n t,f=.int n t
 |[],_=>⟨[],.nil,rfl,fun f h=>absurd h (by simp)⟩
 |v::vs,z=>by
  obtain⟨fs,k,l,f⟩:=OC fun x hx=>z x (.tail _ hx);obtain⟨b,p,rfl,G,o,q,n,F,hc,hd,hi⟩:=z v (.head _);obtain⟨q⟩:=q;cases hi with
  |nil=>exact absurd rfl G
  |@cons i v x vs h1 hx=>
   obtain⟨B,rfl⟩:=Fc h1;refine⟨.int i B::fs,.cons F hc hd rfl k,by simp[l],fun g hg=>?_⟩;rcases List.mem_cons.mp hg with rfl|hg
   ·exact⟨_,_,rfl⟩
   ·exact f g hg
noncomputable def adV:V->Addr
 |.ref a=>a
 |_=>0
end
section
variable{X:Cx}{pins:List (Addr×Obj)}{σ:St}{H:Hp}{s:ye}
theorem KO(I:Inv X pins σ H s):∀{ps:List (List Int)} {vs:List V},DtA H vs (ps.map AJ)->vs=(vs.map adV).map V.ref/\vs.length=ps.length/\∀j,j<(vs.map adV).length->IsTupleKey (intKind X.prog X.w) s.heap (ps.getD j []) ((vs.map adV).getD j 0)
 |[],_,.nil=>⟨rfl,rfl,fun j h=>absurd h (by simp)⟩
 |p::ps,_,.cons d t=>by
  obtain⟨e,l,f⟩:=KO I t;cases d with
  |@tup a xs ds G q=>
   obtain⟨b,F,z⟩:=I.path (v:=.ref a) (p:=p) (Dt.tup G q) (show RelV (.ref a) (.ref a) from rfl);cases F;refine⟨by rw[yj,yj,<- e]; rfl,by simp[l],fun j B=>?_⟩;cases j with
   |zero=>exact z
   |succ j=>exact f j (by simpa using B)
theorem OD:∀{as:List Addr} {us:List yg},Vals (as.map V.ref) us->us=as.map Value.ref
 |[],_,.nil=>rfl
 |a::as,_,.cons r t=>by rw[yj,<- OD t,show _=Value.ref a from r]
theorem Hm:∀as:List Addr,Vals (as.map V.ref) (as.map Value.ref)
 |[]=>.nil
 |a::as=>.cons rfl (Hm as)
end
section
variable{prog:yq}{w:y0h}{A:y0n}{E:yg->ye->Prop}{s:ye}
def OE(K:ya)(ta:TA)(tc:TE):TE:=fun σ H Q=>ta σ H fun vs H1=>tc σ H1 fun y H2=>∃(a:Addr) (ns:List Int) (d:Int),vs=[.ref a]/\y=.int d/\SqL K H2 a (ns.map V.int)/\∀M,((ns=[]/\M=d)\/(M∈ns/\∀a∈ns,a<=M))->Q (.int M) H2
def OF(K:ya):List V->Hp->VK->Prop:=fun xs H Q=>∃(a:Addr) (ns:List Int),xs=[.ref a]/\SqL K H a (ns.map V.int)/\Q (.int ns.sum) H
end
section
variable{X:Cx}
theorem OG{K:ya}{ta:TA}{g:TG}{tt:TT}{te:TE}{q:List (Option Nat)}{σ:St}{H:Hp}{Q:VK}:CN (KI K ta) g tt te q σ H Q=ta σ H fun vs H1=>∃a,vs=[.ref a]/\(∃xs,SqT K H1 a xs)/\CA (Dj K a) g tt te Q (subσ q σ) H1:=rfl
def OH:V->List V->Hp->VK->Prop:=fun x vs H Q=>∃(l:Addr) (q:List Str) (y:Str),x=.ref l/\vs=[.str y]/\H l=some (.lst (q.map V.str))/\Q (.int (q.count y:Nat)) H
theorem Inv.grow{t':Nat}(I:Inv X pins σ H s)(k:∀b u,s.heap.get? b=some u->h'.get? b=some u)(z:Same H H')(B:∀b,b<s.heap.objs.size->H b=none->H' b=none)
  (F:∀b u,H b=none->H' b=some u->ObjOk X.prog X.w H' h' b u):Inv X pins σ H' {s with heap:=h',toks:=t'}:=by
 refine I.un ⟨fun b u q _ _ _=>k b u q,fun b u q _ _ _=>⟨u.slots,k b u q⟩,fun b u q n _=>B b (yl q) n,fun b u q _=>⟨u,k b u q⟩,fun b xs q=>z _ _ q,fun b u xs q=>z _ _ q,fun b ps q=>⟨#[],by rw[z _ _ q]; simp⟩⟩ fun b u e=>?_;cases hb:H b with
 |none=>exact F b u hb e
 |some G=>
  have:=z _ _ hb;rw[e] at this;cases this;exact(I.hok b u hb).stay (fun c v _ q=>k c v q) (fun c q=>z _ _ q) fun c xs q=>z _ _ q
noncomputable def Fg(v d:Addr):HO:=.ext fun h=>h.IsItemsView v d
def Ho:V->List V->Hp->VK->Prop:=fun x vs H Q=>∃(d:Addr) (kvs:List (Key×V)),x=.ref d/\vs=[]/\H d=some (.dK kvs)/\∀p,H p=none->Q (.ref p) (upd H p (Fg p d))
noncomputable def D7(p:Str×Int):Dm:=.tup [.str p.1,.int p.2]
def V9:List V->Hp->VK->Prop:=fun xs H Q=>∃(v d:Addr) (kvs:List (Str×Int)) (z:Str->Nat),xs=[.ref v]/\H v=some (Fg v d)/\H d=some (.dK (kvs.map fun p=>(Sum.inr p.1,V.int p.2)))/\kvs.length<64/\
 (∀p∈kvs,∀q∈kvs,decide (p.1.cps.toList<q.1.cps.toList)=decide (z p.1<z q.1)/\(z p.1=z q.1->p.1=q.1))/\
 ∀(l:Addr) (H':Hp) (ws:List V) (B:List (Str×Int)),Same H H'->H l=none->H' l=some (.lst ws)->DtA H' ws (B.map D7)->B.Perm kvs->B.Pairwise (fun p q=>z p.1<z q.1)->Q (.ref l) H'
end
section
variable{prog:yq}{w:y0h}{A:y0n}{E:yg->ye->Prop}{s:ye}
theorem VA{Q:Bool->ye->Prop}(ha:s.heap.get? a=some ox)(F:ox.data=.seq xs n)(hc:s.heap.get? c=some oy)(B:oy.data=.seq ys m)
  (ex:xs.toList=[.str x t,d]) (z:ys.toList=[.str y u,e]) (q:x≠y) (h:Q (decide (x.cps.toList<y.cps.toList)) s):y0b (y06 prog w) A (keyLt' (tuples' true) (.ref a) (.ref c)) Q E s:=by
 refine kat_lt ha F hc B ?_;rw[ex,z,y1t];refine kat_cons (y53 ?_);rw[decide_eq_false q];exact kat_no (oneLt_str h)
end
section
variable{prog:yq}{w:y0h}{A:y0n}{E:yg->ye->Prop}{s:ye}{K:Type} [DecidableEq K] {knd:PySem.KeyKind prog w K}
theorem VB{Q:List yg->ye->Prop}(hh:A.handled=none)(hv:s.heap.IsItemsView r d)(hm:s.heap.DictAt knd d kvs ep)(hn:kvs.length<=ym)
  (q:∀(h':Heap) (tk:Nat) (as:List Addr),s.heap.objs.size<=h'.objs.size->(∀b o,s.heap.get? b=some o->h'.get? b=some o)->as.length=kvs.length->KdxG knd kvs s.heap.objs.size h' as->Q (as.map Value.ref) {s with heap:=h',toks:=tk}) :
  y0b (y06 prog w) A (collect (.ref r)) Q E s:=by
 have hr:r<s.heap.objs.size:=let ⟨_,ho,_⟩:=hv; yl ho
 have hd:d<s.heap.objs.size:=hm.lt_size
 unfold collect
 refine yb (wpAny_runValue (y3c PySem.F.entry_proto_collect ?_))
 rw[y2b PySem.F.plain_proto_collect]
 refine yb (y3a (yh ⟨y5m y2z _,y3c PySem.F.entry_list_iadd ?_⟩))
 rw[y2b y2z]
 have e0:(s.heap.push (y19 "list" #[] 0)).get? s.heap.objs.size=some (y19 "list" #[] 0):=yt _ rfl
 show y0b _ _ (Builtin.List.listExtendWith (.ref s.heap.objs.size) (.ref r) (.ref s.heap.objs.size)) _ _ {s with heap:=s.heap.push (y19 "list" #[] 0)}
 have fin:∀(v:Result) (s':ye),(∃(h':Heap) (tk:Nat) (acc:Array yg) (c:Nat) (as:List Addr),v=.ok (.ret (.ref s.heap.objs.size))/\s' = {s with heap:=h',toks:=tk}/\h'.get? s.heap.objs.size=some {cls:=.type "list",dict:=none,data:=.seq acc c,slots:=#[]}/\acc.toList=as.map Value.ref/\Q (as.map Value.ref) {s with heap:=h',toks:=tk})->
   (match v with|.ok (.ret v)=>y0b (y06 prog w) A (match v with|.ref a=>(do match (<- load a).data with|.seq xs _=>pure xs.toList|_=>unsupported "internal:collect")|_=>unsupported "internal:collect") Q E s'|.ok _=>False|.error e=>E e s'):=by
  rintro v s' ⟨h',tk,acc,c,as,rfl,rfl,hS,hacc,hq⟩
  refine yb (wpAny_load hS (yh ?_))
  rw[hacc]
  exact hq
 refine y1l (kdx_extend (A:=A) (s:={s with heap:=s.heap.push (y19 "list" #[] 0)}) (knd:=knd) (kvs:=kvs) (ep:=ep)
  (R:=fun v s'=>∃(h':Heap) (tk:Nat) (acc:Array yg) (c:Nat) (as:List Addr),v=.ok (.ret (.ref s.heap.objs.size))/\s' = {s with heap:=h',toks:=tk}/\h'.get? s.heap.objs.size=some {cls:=.type "list",dict:=none,data:=.seq acc c,slots:=#[]}/\acc.toList=as.map Value.ref/\Q (as.map Value.ref) {s with heap:=h',toks:=tk})
  hh (let ⟨o,ho,x⟩:=hv; ⟨o,yd _ ho,x⟩) (hm.push _) s.heap.objs.size (y25 hr) (yz hd) (.ref s.heap.objs.size) 0 e0 (fun h' tk acc c as hk hS hl g hacc=>⟨h',tk,acc,c,as,rfl,rfl,hS,hacc,?_⟩) hn) (fun f s' z=>?_) (fun e s' z=>fin _ _ z)
 ·refine q h' tk as (y12 (yl hS)) (fun b o e=>hk b o (yz (yl e)) (yd _ e)) hl (g.low ?_)
  show s.heap.objs.size<=(s.heap.push _).objs.size
  rw[y1w]
  exact y3d _
 ·cases f with
  |done f=>exact fin _ _ z
  |again c=>exact⟨z.1,y3n z.2 fun r s2 y=>fin r s2 y⟩
noncomputable def Cd:List Addr->List (List V)->Hp->Hp
 |a::as,x::xs,H=>upd (Cd as xs H) a (.tup x)
 |_,_,H=>H
theorem KP:∀{as:List Addr} {xs:List (List V)} {H:Hp} {b:Addr},b∉as->Cd as xs H b=H b
 |[],_,_,_,_=>rfl
 |a::as,[],_,_,_=>rfl
 |a::as,x::xs,H,b,h=>by
  rw[Cd,A8 (show b≠a from fun z=>h (by rw[z]; exact y10))];exact KP fun z=>h (.tail _ z)
theorem KQ:∀{as:List Addr} {xs:List (List V)} {H:Hp} {j:Nat} {a:Addr} {x:List V},as.Pairwise (· < ·)->as[j]?=some a->xs[j]?=some x->Cd as xs H a=some (.tup x)
 |[],_,_,_,_,_,_,h,_=>by simp at h
 |a::as,[],_,_,_,_,_,_,h=>by simp at h
 |a::as,x::xs,H,0,b,y,_,h1,h2=>by
  have G:a=b:=by simpa using h1
  have e2:x=y:=by simpa using h2
  subst G e2;exact A4
 |a::as,x::xs,H,j+1,b,y,F,h1,h2=>by
  obtain⟨B,p2⟩:=List.pairwise_cons.mp F;have q:as[j]?=some b:=by simpa using h1
  have z:=B b (yw q);rw[Cd,A8 (y25 z)];exact KQ p2 q (by simpa using h2)
theorem VC:∀{as:List Addr} {xs:List (List V)} {H:Hp} {b:Addr} {u:HO},as.length=xs.length->as.Pairwise (· < ·)->b∈as->Cd as xs H b=some u->∃(j:Nat) (x:List V),as[j]?=some b/\xs[j]?=some x/\u=.tup x:=by
 intro as xs H b u G q hb e;obtain⟨j,B,F⟩:=y1q hb;have h1:as[j]?=some b:=by rw[yk B,F]
 have h2:xs[j]?=some xs[j]:=yk (by lia);have z:=KQ (H:=H) q h1 h2;rw[e] at z;cases z;exact⟨j,_,h1,h2,rfl⟩
end
section
variable{X:Cx}
theorem VF:MtM X "dict.items" Ho:=by
 intro pins s σ H x vs v us Q I G J h;obtain⟨d,kvs,rfl,rfl,R,q⟩:=h;cases G;cases J;obtain⟨z,hd,xs,M,B⟩:=K0 I.hok R;have O:s.TypeIs (.ref d) "dict":=B.typeIs;refine call_meetsIn F.slot_dict_items O F.entry_dict_items (F.args_dict_items_1 _) (meets_dict_items (AQ X.prog X.w) d hd) ⟨⟨_,B⟩,?_⟩;have e:=yt s.heap (o:={cls:=.type "dict_items",data:=.fields #[.ref d]}) rfl;refine⟨.ref s.heap.objs.size,_,I.laid (t':=s.toks) (fun b u q=>yd _ q) (yf _) (show ObjOk X.prog X.w _ _ _ (Fg s.heap.objs.size d) from⟨⟨_,e,rfl,rfl⟩,⟨_,e⟩,fun h1 h2 ⟨o,U,r⟩ y=>⟨o,y _ U,r⟩⟩),rfl,q _ (I.hok.fresh (yf _))⟩
theorem OI{kvs:List (Str×Int)}:∀{vs:List (Key×yg)},KV (kvs.map fun p=>((Sum.inr p.1:Key),V.int p.2)) vs->∀(j:Nat) (k:Key) (x:yg),vs[j]?=some (k,x)->∃p t,kvs[j]?=some p/\k=Sum.inr p.1/\x=.int p.2 t:=by
 induction kvs with
 |nil=>
  intro vs q j k x e;cases q;simp at e
 |cons p kvs B=>
  intro vs q j k x e;cases q with
  |cons z rt=>
   cases j with
   |zero=>
    obtain⟨h1,t,h2⟩:=z;simp only[y2h,y30] at e;subst e;exact⟨p,t,rfl,h1.symm,h2⟩
   |succ j=>exact B rt j k x (by simpa using e)
theorem Ea{α:Type}{f:α->V}{g:α->Dm}:∀{l:List α},(∀i∈l,Dt H (f i) (g i))->DtA H (l.map f) (l.map g)
 |[],_=>.nil
 |i::l,h=>.cons (h i (.head _)) (Ea fun j q=>h j (.tail _ q))
theorem OJ{α:Type}{f:α->V}{g:α->yg}:∀{l:List α},(∀i∈l,RelV (f i) (g i))->Vals (l.map f) (l.map g)
 |[],_=>.nil
 |i::l,h=>.cons (h i (.head _)) (OJ fun j q=>h j (.tail _ q))
theorem VG(hc:X.calm=true):Al X (.builtin "sorted") V9:=by
 intro pins s σ H xs us Q I r h;obtain⟨v,d,kvs,ρ,rfl,hv,hd,gf,fh,q⟩:=h;obtain⟨u,rfl,r1⟩:=r.one;cases r1;have view:s.heap.IsItemsView v d:=(show ObjOk X.prog X.w H s.heap v (Fg v d) from I.hok v _ hv).1;obtain⟨zl,gc,xs,fc,dd⟩:=K0 I.hok hd;obtain⟨ep,da⟩:=dd.dictAt;have gb:xs.length=kvs.length:=by have:=fc.length; rw[y4] at this; exact this.symm
 refine y3y kind_sorted plain_sorted entry_sorted (args_sorted1 _) ?_;unfold Builtin.«sorted»;refine yb (m:=checkCount "sorted" 1 1 _) (yh (yb (VB (A:=X.A.in1) (by simpa using I.ok.hd hc) view da (D5 (by lia)) fun h1 tk as hsz k1 ge g=>?_)));have O:as.length=kvs.length:=by lia
 have J:∀j a,as[j]?=some a->∃(p:Str×Int) (t u:Tok),kvs[j]?=some p/\h1.get? a=some {cls:=.type "tuple",data:=.seq #[.str p.1 t,.int p.2 u]}:=fun j a ha=>by
  obtain⟨key,k,x,R,e2,e3⟩:=g.pairs j a ha;obtain⟨p,t,e4,rfl,rfl⟩:=OI fc j k x R;rcases BW (show C8 (Sum.inr p.1) key=true from e2) with⟨i,t',e5,rfl⟩|⟨y,t',e5,rfl⟩
  ·cases e5
  ·cases e5;exact⟨p,t',t,e4,e3⟩
 have fX:(kvs.map (·.1)).Nodup:=by
  have z:=da.nodup;have e:xs.map (·.1)=kvs.map fun p=>(Sum.inr p.1:Key):=by
   refine y4f fun j=>?_;rw[y0k,y0k];cases ej:xs[j]? with
   |none=>
    have:kvs[j]?=none:=by rw[List.getElem?_eq_none_iff] at ej |-; lia
    rw[this]; rfl
   |some kx=>
    obtain⟨k,x⟩:=kx;obtain⟨p,t,e4,e5,_⟩:=OI fc j k x ej;rw[e4,e5]; rfl
  rw[e] at z;exact List.pairwise_map.mpr ((List.pairwise_map.mp z).imp fun h e=>h (by rw[e]))
 have hD:∀i,i<kvs.length->kvs[i]?=some (kvs.getD i (⟨#[]⟩,0)):=fun i hi=>by
  rw[yv,yk hi]; rfl
 have hA:∀i,i<kvs.length->as[i]?=some (as.getD i 0):=fun i hi=>by
  rw[yv,yk (by lia)]; rfl
 have B:∀i,i<kvs.length->kvs.getD i (⟨#[]⟩,0)∈kvs:=fun i hi=>yw (hD i hi);have fZ:∀i,i<kvs.length->∃t u,h1.get? (as.getD i 0)=some {cls:=.type "tuple",data:=.seq #[.str (kvs.getD i (⟨#[]⟩,0)).1 t,.int (kvs.getD i (⟨#[]⟩,0)).2 u]}:=fun i hi=>by
  obtain⟨p,t,u,R,e2⟩:=J i _ (hA i hi);rw[hD i hi] at R;cases R;exact⟨t,u,e2⟩
 have fk:(as.map Value.ref).length=kvs.length:=by rw[y4,O]
 have U:∀i,i<kvs.length->(as.map Value.ref).getD i .none=.ref (as.getD i 0):=fun i hi=>by
  rw[yv,y0k,hA i hi]; rfl
 have ft:∀i j,i<kvs.length->j<kvs.length->(kvs.getD i (⟨#[]⟩,0)).1=(kvs.getD j (⟨#[]⟩,0)).1->i=j:=fun i j hi F e=>by
  have fY:i<(kvs.map (·.1)).length:=by rw[y4]; exact hi
  have M:j<(kvs.map (·.1)).length:=by rw[y4]; exact F
  refine(y2x (h₀:=fY) (h₁:=M) fX).mp ?_;rw[List.getElem_map,List.getElem_map];have a1:=hD i hi;have a2:=hD j F;rw[yk hi] at a1;rw[yk F] at a2;rw[y0l a1,y0l a2];exact e
 refine yb (y3a ?_ (D5 (by lia)));have eL:(h1.push (y19 "list" (as.map Value.ref).toArray 0)).get? h1.objs.size=some (y19 "list" (as.map Value.ref).toArray 0):=yt _ rfl;refine yb (y1z (y0u slot_list_sort ⟨_,eL,rfl⟩ entry_list_sort (V7 (r:=fun i=>ρ (kvs.getD i (⟨#[]⟩,0)).1) eL (by lia) (fun i j hi F e=>ft i j (by lia) (by lia) ((fh _ (B i (by lia)) _ (B j (by lia))).2 e)) (fun h2 h' kp=>?_) fun p P1 P2=>⟨_,rfl,?_⟩) (args_list_sort _)))
 ·have G:∀i,i<kvs.length->∃t u,h'.get? (as.getD i 0)=some {cls:=.type "tuple",data:=.seq #[.str (kvs.getD i (⟨#[]⟩,0)).1 t,.int (kvs.getD i (⟨#[]⟩,0)).2 u]}:=fun i hi=>by
   obtain⟨t,u,e⟩:=fZ i hi;exact⟨t,u,kp _ _ (yz (yl e)) (yd _ e)⟩
  have fe:∀(l:List Nat),(∀i∈l,i<kvs.length)->∃fs,KatTups h' (l.map fun i=>(as.map Value.ref).getD i .none) fs/\fs.length=l.length/\∀f∈fs,∃x t,f=.str x t:=by
   intro l;induction l with
   |nil=>intro _; exact⟨[],.nil,rfl,fun f hf=>absurd hf (by simp)⟩
   |cons i l ih=>
    intro hl;obtain⟨fs,k,lf,ff⟩:=ih fun j F=>hl j (.tail _ F);obtain⟨t,u,e⟩:=G i (hl i (.head _));refine⟨.str (kvs.getD i (⟨#[]⟩,0)).1 t::fs,?_,by simp[lf],fun f hf=>?_⟩
    ·rw[yj,U i (hl i (.head _))];exact .cons e rfl rfl rfl k
    ·rcases List.mem_cons.mp hf with rfl|hf
     ·exact⟨_,_,rfl⟩
     ·exact ff f hf
  obtain⟨fs,kt,fl,ff⟩:=fe (List.range kvs.length) fun i hi=>List.mem_range.mp hi;have ev:((List.range kvs.length).map fun i=>(as.map Value.ref).getD i .none)=as.map Value.ref:=by
   refine y1o (by simp[O]) fun i h1 h2=>?_;simp at h2;simp[h2]
  rw[ev] at kt;rw[y4b] at fl;refine⟨tuples' true,fun E Q hQ=>kat_kind (T:=.type "str") kt (by lia) (fun v hv=>?_) rfl hQ,fun i j hi F E Q hQ=>?_⟩
  ·obtain⟨x,t,rfl⟩:=ff v hv;exact Looks.of_pure rfl
  ·rw[fk] at hi F;rw[U i hi,U j F];obtain⟨t1,u1,R⟩:=G i hi;obtain⟨t2,u2,e2⟩:=G j F;by_cases fV:i=j
   ·subst fV;rw[decide_eq_false (y1b _)] at hQ;rw[R] at e2;refine kat_lt R rfl R rfl ?_;refine kat_cons (y53 ?_);rw[decide_eq_true rfl];refine kat_yes (kat_cons (wpAny_eqBool_int ?_));rw[show((kvs.getD i (⟨#[]⟩,0)).2==(kvs.getD i (⟨#[]⟩,0)).2)=true from beq_self_eq_true _];refine kat_yes (kat_nil ?_);simpa using hQ
   ·refine VA R rfl e2 rfl rfl rfl (fun z=>fV (ft i j hi F z)) ?_;rw[(fh _ (B i hi) _ (B j F)).1];exact hQ
 ·refine yh ⟨_,rfl,?_⟩;rw[fk] at P1 P2;obtain⟨n,en⟩:=sortedHeap_at (out:=(p.toList.map fun i=>(as.map Value.ref).getD i Value.none).toArray) eL;have fu:∀i∈p.toList,i<kvs.length:=fun i hi=>List.mem_range.mp (P1.pm.mem_iff.mp hi);have Z:∀b u,h1.get? b=some u->(sortedHeap (h1.push (y19 "list" (as.map Value.ref).toArray 0)) h1.objs.size (as.map Value.ref) (p.toList.map fun i=>(as.map Value.ref).getD i Value.none).toArray).get? b=some u:=fun b u hu=>by
   have lb:=yl hu;rw[sortedHeap_old (yz lb) (by rw[y40]; exact y2p lb)];exact yd _ hu
  have fq:∀a∈as,s.heap.objs.size<=a/\a<h1.objs.size:=fun a ha=>⟨y12 (g.above a ha),g.there ha⟩;have nL:h1.objs.size∉as:=fun z=>absurd (fq _ z).2 (y1b _);have fg:∀b,b<s.heap.objs.size->upd (Cd as (kvs.map fun p=>[V.str p.1,V.int p.2]) H) h1.objs.size (.lst (p.toList.map fun i=>V.ref (as.getD i 0))) b=H b:=fun b hb=>by
   rw[A8 (yz (y0c hb hsz)),KP fun z=>absurd (fq b z).1 (by lia)]
  have sm:Same H (upd (Cd as (kvs.map fun p=>[V.str p.1,V.int p.2]) H) h1.objs.size (.lst (p.toList.map fun i=>V.ref (as.getD i 0)))):=fun b u e=>by
   rw[fg b (I.hok b u e).lt]; exact e
  have atT:∀i,i<kvs.length->upd (Cd as (kvs.map fun p=>[V.str p.1,V.int p.2]) H) h1.objs.size (.lst (p.toList.map fun i=>V.ref (as.getD i 0))) (as.getD i 0)=some (.tup [V.str (kvs.getD i (⟨#[]⟩,0)).1,V.int (kvs.getD i (⟨#[]⟩,0)).2]):=fun i hi=>by
   have ha:=hA i hi;rw[A8 fun z=>nL (by rw[<- z]; exact yw ha)];exact KQ g.rise ha (by rw[y0k,hD i hi]; rfl)
  refine⟨.ref h1.objs.size,_,I.grow (t':=tk) (fun b u e=>Z b u (k1 b u e)) sm (fun b hb e=>(fg b hb).trans e) (fun b u R e2=>?_),rfl,q h1.objs.size _ _ (p.toList.map fun i=>kvs.getD i (⟨#[]⟩,0)) sm (I.hok.fresh hsz) A4 ?_ ?_ ?_⟩
  ·by_cases hb:b=h1.objs.size
   ·subst hb;rw[A4] at e2;cases e2;refine⟨?_,(p.toList.map fun i=>(as.map Value.ref).getD i Value.none),n,OJ fun i hi=>?_,by simpa [y19] using en⟩
    ·rw[y4,yi,P1.sz];exact D5 (by lia)
    ·rw[U i (fu i hi)]; rfl
   ·rw[A8 hb] at e2;by_cases fz:b∈as
    ·obtain⟨j,x,ej,ex,rfl⟩:=VC (by rw[y4]; exact O) g.rise fz e2;obtain⟨p',t,u,e4,e5⟩:=J j b ej;rw[y0k,e4] at ex;cases ex;exact⟨KA,[.str p'.1 t,.int p'.2 u],.cons ⟨t,rfl⟩ (.cons ⟨u,rfl⟩ .nil),⟨_,Z b _ e5,rfl,0,rfl⟩⟩
    ·rw[KP fz,R] at e2;cases e2
  ·rw[y09];refine Ea fun i hi=>?_;exact .tup (atT i (fu i hi)) (.cons (.str _) (.cons (.int _) .nil))
  ·have z:=P1.pm.map fun i=>kvs.getD i ((⟨#[]⟩:Str),(0:Int));refine z.trans (.of_eq ?_);refine y1o (by simp) fun i h1 h2=>?_;simp[h2]
  ·rw[y1x,y1r];intro i j hi F fw;have M:j<p.size:=by simpa using F
   have z:=P2 i j fw (by rw[<- P1.sz]; exact M);simpa [rk,Array.getD,M,y1i fw M] using z
theorem OK:entryFor table "dict.update.loop" = some Builtin.«dict.update.loop»:=entryFor_of_tree (by kernel_rfl)
def Hq:plainId "dict.update.loop" = true:=by decide+kernel
theorem OL(h:n<=200000):n<=ym:=y0j h (by decide)
theorem VH:typeLookup (.type "list") "keys" = pure none:=by rw[typeLookup_type,builtinLookup_eq_fast]; kernel_rfl
end
section
variable{prog:yq}{w:y0h}{A:y0n}{E:yg->ye->Prop}{s:ye}{a:Addr}
theorem VI{z:Array yg}{n:Nat}{Q:Option yg->ye->Prop}(R:A.handled=none) (hx:s.heap.get? a=some {cls:=.type "list",data:=.seq z n}) (q:∀h' tk,(∀b o,s.heap.get? b=some o->h'.get? b=some o)->Q none {s with heap:=h',toks:=tk}) :
  y0b (y06 prog w) A (getAttr? (.ref a) "keys") Q E s:=by
 obtain⟨J,g,d,tk,os⟩:=s;have hT:Shared.TypeIs ⟨J,g,d,tk,os⟩ (.ref a) "list":=⟨_,hx,rfl⟩;have G:Shared.TypeIs ⟨J,g,d,tk+1,os⟩ (.ref a) "list":=⟨_,hx,rfl⟩;have f1:=sub_AttributeError;have f3:=F.slot_list_getattribute.lookup;have f4:=F.slot_list_getattribute.bind (.ref a);have f5:=am_list_getattr_none;unfold getAttr? getAttrBy? getAttrBy;repeat (any_goals (first|assumption|((with_reducible show y0b _ _ (call (Value.builtin "list.__getattribute__") _ _) _ _ _); refine call_meets F.slot_list_getattribute G am_entry_list_getattribute (F.args_list_getattribute_2 _ _) (meets_getattribute_miss_list a z n #[] "keys" _ VH (by decide+kernel)) ⟨hx,R,fun h' M e B=>?_⟩)|wp_step))
 obtain⟨t',U,Z⟩:=B.there;show y0b _ _ (getattributeRaised _ _ _ _ _ _ _) _ _ _;unfold getattributeRaised;repeat (any_goals (first|assumption|wp_step))
 exact q _ _ fun b O e=>B.keeps b O e
structure Prw where
 r:Addr
 k:Addr
 x:V
 u:yg
instance:Inhabited Prw:=⟨⟨0,0,.non,.none⟩⟩
end
section
variable{X:Cx}{pins:List (Addr×Obj)}{σ:St}{H:Hp}{s:ye}
theorem Ht{α q:Type}{R:α->q->Prop}:∀{l:List α} {m:List q},Paired R l m->l.length=m.length/\∀(j:Nat) (a:α) (b:q),l[j]?=some a->m[j]?=some b->R a b
 |[],_,.nil=>⟨rfl,fun j a b h=>by simp at h⟩
 |x::l,_,.cons r t=>by
  obtain⟨h1,h2⟩:=Ht t;refine⟨by simp[h1],fun j a b ha hb=>?_⟩;cases j with
  |zero=>
   have z:=y0l ha;have e2:=y0l hb;subst z e2;exact r
  |succ j=>exact h2 j a b (by simpa using ha) (by simpa using hb)
end
def KR(td:TE):TE:=fun σ H Q=>td σ H fun x H1=>Ho x [] H1 Q
theorem VJ(ho:PE X o td) (B:attributeBase o "items" X.env (eval o X.env)=eval o X.env:=by rfl)
  (G:((backTo cpos (starEach [] X.env)).all (fun x=>!x.1)&&(backToKw cpos (keywordEach [] X.env)).all (fun x=>x.1.isSome)
   && decide (([]:List Expr).length+([]:List Keyword).length+(if([]:List Keyword).isEmpty then 0 else 1)<30))=true:=by rfl)
  (z:(apos.endLine==cpos.line)=true:=by rfl):PE X (.Call (.Attribute o "items" apos) [] [] cpos) (KR td):=by
 refine⟨?_⟩;intro pins s σ H Q I h;refine y3j B G z y2e PySem.F.slot_dict_items PySem.F.type_dict_items (thn (ho pins s σ H _ I h) fun u U ⟨x,H1,M,Z,q1⟩=>?_);obtain⟨d,kvs,rfl,_,J,q⟩:=q1;obtain rfl:u=Value.ref d:=Z;obtain⟨R,O,_⟩:=K8 M (.inl ⟨kvs,.inl J⟩);refine⟨R,O,?_⟩;refine y1y rfl (PyProof.Rows.evalArgs_nil3 ?_);exact VF pins U σ H1 (.ref d) [] (.ref d) [] Q M rfl .nil ⟨d,kvs,rfl,rfl,J,q⟩
def OM(i j k:Nat)(ta:TA):TS:=fun D σ H=>ta σ H fun vs H1=>∃u v w,vs=[u,v,w]/\D.nx (((σ.set i (some u)).set j (some v)).set k (some w)) H1
end L2
namespace L2
open PySem PySem.Spec PyProof.Rows
noncomputable def Ba(c:Addr)(q:Str):HO:=.ext fun h=>h.CodeRec (.ref c) q
structure LamD where
 qual:Str
 params:Arguments
 body:Expr
 scope:Scope
noncomputable def C2(D:LamD)(cl:List (Str×Addr))(f c':Addr):HO:=.ext fun h=>∃z q,h.get? f=some (PySem.W.kla_obj "<lambda>" D.qual D.params D.body D.scope cl z c' q)
def Hu(P:Addr)(pos:Pos)(D:LamD)(cl:List (Str×Addr)):TE:=fun σ H Q=>∃ps,H P=some (.tbl ps)/\TriplesOk ps.toList/\
  ((codeAmong pos ps.toList=none/\∀c' f,H c'=none->H f=none->c'≠f->Q (.ref f) (upd (upd (upd H P (.tbl (ps ++ #[rawInt pos.line,rawInt pos.col,.ref c']))) c' (Ba c' D.qual)) f (C2 D cl f c')))\/
   (∃c',codeAmong pos ps.toList=some (.ref c')/\H c'=some (Ba c' D.qual)/\∀f,H f=none->Q (.ref f) (upd H f (C2 D cl f c'))))
section
variable{X:Cx}
theorem ON(fq:defaultsOf params X.env=([],[]))(ft:closureFor scope X.env=pure cl)(M:X.env.code=.ref c)(C:PySem.W.CodeHd X.base c P)(hB:X.base.BuiltinsAt X.mg P)(fX:y0g≠P) :
  PE X (.Lambda params body scope pos) (Hu P pos ⟨X.env.qual ++ "<lambda>",params,body,scope⟩ cl):=by
 refine⟨?_⟩;intro pins s σ H Q I h;obtain⟨ps,O,ht,h⟩:=h;have C':PySem.W.CodeHd s.heap c P:=C.keeps I.bk;have hb:s.heap.BuiltinsAt X.mg P:=by
  obtain⟨bm,ob,a1,a2,a3,a4,a5,a6⟩:=hB;exact⟨bm,ob,a1,a2,a3,a4,I.bk _ _ a5,a6⟩
 have hg:s.heap.Ns y0g X.mg:=I.mod.glob.keeps I.bk;have fu:s.heap.get? P=some (PySem.W.tabObj ps):=I.hok P _ O;refine PySem.W.kla_eval fq ?_;rcases h with⟨fV,h⟩|⟨c',hf,gc,h⟩
 ·refine PySem.W.kla_makeFunction ft I.ok.glob hg M C' fu ht fV fX hb fun c' fw h' tk hx U fk hrec fe=>?_;have Z:H c'=none:=I.hok.fresh U;have hsz:s.heap.objs.size<=h'.objs.size:=y12 (y11 U fk);have J:H h'.objs.size=none:=I.hok.fresh hsz;have fh:c'≠h'.objs.size:=yz fk;have fZ:P≠c':=AS O Z;have fY:P≠h'.objs.size:=AS O J;have q:=h c' h'.objs.size Z J fh;generalize hH:upd (upd (upd H P (.tbl (ps ++ #[rawInt pos.line,rawInt pos.col,.ref c']))) c' (Ba c' (X.env.qual ++ "<lambda>"))) h'.objs.size (C2 ⟨X.env.qual ++ "<lambda>",params,body,scope⟩ cl h'.objs.size c')=H' at q;have fc:∀b,b≠P->b≠c'->b≠h'.objs.size->H' b=H b:=fun b h1 h2 h3=>by
   rw[<- hH,A8 h3,A8 h2,A8 h1]
  have fz:H' P=some (.tbl (ps ++ #[rawInt pos.line,rawInt pos.col,.ref c'])):=by rw[<- hH,A8 fY,A8 fZ,A4]
  have G:∀b u,H b=some u->b≠P->H' b=some u:=fun b u e n=>(fc b n (AS e Z) (AS e J)).trans e;have kp:∀b o,b≠P->s.heap.get? b=some o->(h'.push (PySem.W.kla_obj "<lambda>" (X.env.qual ++ "<lambda>") params body scope cl ((X.mg "__name__").getD .none) c' fw)).get? b=some o:=fun b o n e=>yd _ (hx b o n e);have nP:∀b,H b=none->b≠P:=fun b e z=>by rw[z,O] at e; cases e
  refine⟨.ref h'.objs.size,H',I.un (t':=tk) ⟨fun b o e n _ _=>kp b o (nP b n) e,fun b o e n _ _=>⟨o.slots,kp b o (nP b n) e⟩,fun b o e n _=>?_,fun b o e _=>?_,fun b xs e=>G b _ e fun z=>(by rw[z,O] at e; cases e),fun b o u e=>G b _ e fun z=>(by rw[z,O] at e; cases e),fun b qs e=>?_⟩ fun b u e=>?_,rfl,q⟩
  ·have R:=yl e;rw[fc b (nP b n) (yz (y0c R U)) (yz (y0c R hsz))];exact n
  ·by_cases F:b=P
   ·exact⟨_,by rw[F]; exact yd _ fe⟩
   ·exact⟨o,kp b o F e⟩
  ·by_cases F:b=P
   ·rw[F,O] at e;cases e;exact⟨_,by rw[F]; exact fz⟩
   ·exact⟨#[],by rw[G b _ e F]; simp⟩
  ·by_cases h3:b=h'.objs.size
   ·have B:=e;rw[<- hH,h3,A4] at B;cases B;rw[h3];exact⟨⟨_,_,yt _ rfl⟩,⟨_,yt _ rfl⟩,fun h1 h2 ⟨pm,ct,z⟩ k=>⟨pm,ct,k _ z⟩⟩
   ·by_cases h2:b=c'
    ·have B:=e;rw[<- hH,h2,A8 fh,A4] at B;cases B;rw[h2];obtain⟨gb,oc,vs,t,e2,fg,hd,hv⟩:=hrec;cases e2;exact⟨⟨_,oc,vs,t,rfl,yd _ fg,hd,hv⟩,⟨oc,yd _ fg⟩,fun h1 h2 ⟨c3,oc,vs,t,e3,z,zd,zv⟩ k=>by cases e3; exact⟨_,oc,vs,t,rfl,k _ z,zd,zv⟩⟩
    ·by_cases h1:b=P
     ·rw[h1,fz] at e;cases e;rw[h1];exact yd _ fe
     ·rw[fc b h1 h2 h3] at e;refine(I.hok b u e).stay (fun d v hd B=>kp d v ?_ B) (fun d B=>G d _ B fun z=>(by rw[z,O] at B; cases B)) fun d xs B=>G d _ B fun z=>(by rw[z,O] at B; cases B);rcases hd with hd|hd
      ·rw[hd]; exact h1
      ·exact fun z=>by rw[z,O] at hd; cases hd
 ·refine PySem.W.kla_makeFunctionHit ft I.ok.glob hg M C' fu ht hf hb fun fw h' tk hk hsz=>?_;have J:H h'.objs.size=none:=I.hok.fresh hsz;refine⟨.ref h'.objs.size,upd H h'.objs.size _,I.laid (t':=tk) (fun b u e=>yd _ (hk b u e)) hsz ?_,rfl,h _ J⟩;exact⟨⟨_,_,yt _ rfl⟩,⟨_,yt _ rfl⟩,fun h1 h2 ⟨pm,ct,z⟩ k=>⟨pm,ct,k _ z⟩⟩
noncomputable def Ao(c:Addr)(o:Obj):HO:=.ext fun h=>h.get? c=some o
noncomputable def BA(cs:List Addr)(H:Hp):Hp:=fun b=>if b∈cs then none else H b
noncomputable def back(cs:List Addr)(H H':Hp):Hp:=fun b=>if b∈cs then H b else H' b
theorem Fh(h:b∈cs):BA cs H b=none:=by unfold BA; rw[if_pos h]
theorem BI(h:b∉cs):BA cs H b=H b:=by unfold BA; rw[if_neg h]
theorem KS(h:b∈cs):back cs H H' b=H b:=by unfold back; rw[if_pos h]
theorem D8(h:b∉cs):back cs H H' b=H' b:=by unfold back; rw[if_neg h]
theorem Dk(h:H b=none):BA cs H b=none:=by
 by_cases hb:b∈cs
 ·exact Fh hb
 ·rw[BI hb]; exact h
theorem VL(h:BA cs H b=some u):b∉cs/\H b=some u:=by
 by_cases hb:b∈cs
 ·rw[Fh hb] at h; cases h
 ·exact⟨hb,by rw[BI hb] at h; exact h⟩
def AreCells(cs:List Addr)(H:Hp):Prop:=∀c∈cs,∃o,H c=some (Ao c o)
theorem AreCells.not(h:AreCells cs H)(e:H b=some u)(n:∀o,u≠Ao b o):b∉cs:=fun hb=>by
 obtain⟨o,q⟩:=h b hb;rw[e] at q;cases q;exact n o rfl
theorem HOk.hid(x:HOk P w H h)(k:AreCells cs H):HOk P w (BA cs H) h:=fun a o e=>by
 obtain⟨_,B⟩:=VL e;refine(x a o B).stay (fun _ _ _ q=>q) (fun b q=>?_) fun b xs q=>?_
 ·rw[BI (k.not q fun o=>by unfold Ao; intro z; cases z)]; exact q
 ·rw[BI (k.not q fun o=>by unfold Ao; intro z; cases z)]; exact q
theorem HOk.ret(x:HOk P w H h)(F:HOk P w H' h')(k:AreCells cs H)(G:∀c∈cs,H' c=none)(B:∀c∈cs,∀o,h.get? c=some o->h'.get? c=some o):HOk P w (back cs H H') h':=fun a o e=>by
 have out:∀{b:Addr} {u:HO},H' b=some u->back cs H H' b=some u:=fun {b u} e=>by rw[D8 fun hb=>by rw[G b hb] at e; cases e]; exact e
 by_cases ha:a∈cs
 ·rw[KS ha] at e;obtain⟨J,q⟩:=k a ha;rw[q] at e;cases e;obtain⟨z,_,st⟩:=x a _ q;exact⟨B a ha _ z,⟨_,B a ha _ z⟩,st⟩
 ·rw[D8 ha] at e;exact(F a o e).stay (fun _ _ _ q=>q) (fun b q=>out q) fun b xs q=>out q
theorem Un.ret(u:Un fs [] (BA cs H) H' h h')(k:AreCells cs H):Un fs [] H (back cs H H') h h':=by
 have B:∀{b:Addr},H b=none->b∉cs:=fun {b} n hb=>by
  obtain⟨o,q⟩:=k b hb;rw[n] at q; cases q
 refine⟨fun b o e n hb hx=>u.keep b o e (Dk n) hb hx,fun b o e n hb hx=>u.slot b o e (Dk n) hb hx,fun b o e n hx=>?_,u.there,fun b xs e=>?_,fun b o v e=>?_,fun b ps e=>?_⟩
 ·rw[D8 (B n)];exact u.free b o e (Dk n) hx
 ·have nb:=k.not e fun o=>by unfold Ao; intro z; cases z
  rw[D8 nb];exact u.tups b xs (by rw[BI nb]; exact e)
 ·have nb:=k.not e fun o=>by unfold Ao; intro z; cases z
  rw[D8 nb];exact u.frzs b o v (by rw[BI nb]; exact e)
 ·have nb:=k.not e fun o=>by unfold Ao; intro z; cases z
  rw[D8 nb];exact u.tbls b ps (by rw[BI nb]; exact e)
structure LamScope(ps fr:List Str)(cl:List (Str×Addr))(sc:Scope):Prop where
 kind:sc.kind=.function
 co:sc.isCoroutine=false
 gen:sc.isGenerator=false
 nd:(ps++fr).Nodup
 par:∀x∈ps,sc.names.lookup x=some .local
 free:∀x∈fr,sc.names.lookup x=some .free
 nocell:∀y∈sc.names,y.2≠.cell
 has:∀y∈sc.names,y.2=.free->∃c,cl.lookup y.1=some c
 inj:∀x y c,cl.lookup x=some c->cl.lookup y=some c->x=y
 look:∀x c,(x,c)∈cl->cl.lookup x=some c
noncomputable def cxL(P:yq)(w:y0h)(K:ya)(mg:Str->Option yg)(base:Heap)(N:List Str)(D:LamD)(cl:List (Str×Addr))(f c':Addr)(A:y0n)(outer:List PySem.Env)(s:ye)(H:Hp)(E:XK):Cx where
 prog:=P
 w:=w
 K:=K
 mg:=mg
 base:=base
 A:=A.deeper (PySem.W.envX D.qual D.scope s.heap.objs.size f (.ref c') cl)
 N:=N
 s₀:=s
 H₀:=BA (cl.map (·.2)) H
 env:=PySem.W.envX D.qual D.scope s.heap.objs.size f (.ref c') cl
 outer:=outer
 stack:=PySem.W.envX D.qual D.scope s.heap.objs.size f (.ref c') cl::outer
 ex:=[]
 calm:=true
 fn:=fun _=>false
 pn:=[]
 xe:=fun e s'=>y0b (y06 P w) (A.deeper (PySem.W.envX D.qual D.scope s.heap.objs.size f (.ref c') cl)) (leaving (PySem.W.envX D.qual D.scope s.heap.objs.size f (.ref c') cl) e) (fun _ q=>CX0 outer H s E e q) (fun z q=>CX0 outer H s E z q) s'
theorem OO:∀{ps:List Str} {us:List yg} {i:Nat},ps.Nodup->ps[i]?=some x->us[i]?=some v->(ps.zip us).lookup x=some v
 |[],_,_,_,h,_=>by simp at h
 |_::_,[],_,_,_,h=>by simp at h
 |p::ps,u::us,0,B,h1,h2=>by
  simp at h1 h2; subst h1; subst h2;simp[y1t,List.lookup]
 |p::ps,u::us,i+1,B,h1,h2=>by
  have F:=List.nodup_cons.mp B;have q:ps[i]?=some x:=by simpa using h1
  have z:(x==p)=false:=by
   rw[beq_eq_false_iff_ne];rintro rfl;exact F.1 (yw q)
  rw[y1t,List.lookup,z];exact OO F.2 q (by simpa using h2)
theorem VM{x:Str}{v:yg}{ps:List Str}{us:List yg}{i:Nat}(q:ps.Nodup)(z:ps.length=us.length)(h1:ps[i]?=some x)(h2:us[i]?=some v):(ps.zip us).reverse.lookup x=some v:=by
 have e:(ps.zip us).reverse=ps.reverse.zip us.reverse:=by
  apply y4f;intro j;simp[List.zip,List.reverse_zipWith z]
 have hi:i<ps.length:=(zzS h1).1;rw[e];refine OO (i:=ps.length-1-i) (by unfold List.Nodup; rw[List.pairwise_reverse]; exact q.imp y1k) ?_ ?_
 ·rw[List.getElem?_reverse (by lia)];rw[show ps.length-1-(ps.length-1-i)=i by lia];exact h1
 ·rw[List.getElem?_reverse (by lia)];rw[show us.length-1-(ps.length-1-i)=i by lia];exact h2
theorem VN{P:yq}{w:y0h}{K:ya}{mg:Str->Option yg}{base:Heap}{ps fr:List Str}{D:LamD}{cl:List (Str×Addr)}{f c':Addr}{A:y0n}{outer:List PySem.Env}{s:ye}{h1:Heap}{tk:Nat}{H:Hp}{E:XK}{us:List yg}{vs ws:List V}
  (S:LamScope ps fr cl D.scope) (hd:A.handled=none) (F:Env0 P w K mg base A outer s H) (hl:vs.length=ps.length) (r:Vals vs us) (fe:ws.length=fr.length)
  (G:∀c∈cl.map (·.2),∃o x,H c=some (Ao c o)/\o.data=.cell x)
  (hw:∀(i:Nat) (x:Str) (v:V),fr[i]?=some x->ws[i]?=some v->∃c o u,cl.lookup x=some c/\H c=some (Ao c o)/\o.data=.cell (some u)/\RelV v u)
  (fc:h1.Ns s.heap.objs.size fun x=>(ps.zip us).reverse.lookup x) (hk:∀b o,s.heap.get? b=some o->h1.get? b=some o) :
  Inv (cxL P w K mg base (ps++fr) D cl f c' A outer s H E) [] ((vs++ws).map some) (BA (cl.map (·.2)) H) {s with heap:=h1,toks:=tk}:=by
 have ac:AreCells (cl.map (·.2)) H:=fun c hc=>by
  obtain⟨o,_,q,_⟩:=G c hc;exact⟨o,q⟩
 have U:∀{x:Str} {c:Addr},cl.lookup x=some c->c∈cl.map (·.2):=fun {x c} h=>List.mem_map.mpr ⟨(x,c),y14 h,rfl⟩;have J:∀b:Addr,b∉(cxL P w K mg base (ps++fr) D cl f c' A outer s H E).ex:=fun b z=>absurd (show b∈([]:List Addr) from z) (by simp);have R:∀{c:Addr} {o:Obj},H c=some (Ao c o)->s.heap.get? c=some o:=fun q=>(F.hok _ _ q).1;refine⟨⟨F.mod,S.kind,rfl,rfl,yf _,fun y z c h1 h2=>S.inj y z c h1 h2,fun y hy=>?_,fun y c h=>Bool.noConfusion (show false=true from h),fun _=>hd,Around.frames_deeper F.frames,.inr ⟨rfl,rfl⟩,fun b z=>absurd z (J b),fun b o e=>⟨(F.bs b o e).1,Dk (F.bs b o e).2⟩,F.bsz,fun b _ _=>J b,fun b z=>absurd z (J b),F.funs,fun b hb=>Dk (F.frf b hb)⟩,
  rfl,F.bare,Un.kept hk,⟨_,fc,fun i y v h1 h2 h3=>?_⟩,fun y c h=>?_,Dk (F.hok.fresh (yf _)),fun y c h=>Fh (U h),fun p hp=>absurd (show p∈([]:List (Addr×Obj)) from hp) (by simp),(F.hok.hid ac).kept hk,?_⟩
 ·have hy:D.scope.names.lookup y=some .cell\/D.scope.names.lookup y=some .free:=hy;rcases hy with hy|hy
  ·exact absurd rfl (S.nocell _ (y14 hy))
  ·exact S.has _ (y14 hy) rfl
 ·have B:(ps++fr)[i]?=some y:=h1;rw[y0k] at h2;by_cases hi:i<ps.length
  ·rw[y27 hi] at B;rw[y27 (by lia)] at h2;cases O:vs[i]? with
   |none=>rw[O] at h2; cases h2
   |some a=>
    rw[O] at h2;cases h2;obtain⟨u,hu,Z⟩:=r.get O;exact⟨u,Z,.inl ⟨S.par y (yw B),VM (List.nodup_append.mp S.nd).1 (by rw[<- hl,r.length]) B hu⟩⟩
  ·rw[y22 (by lia)] at B;rw[y22 (by lia),hl] at h2;cases O:ws[i-ps.length]? with
   |none=>rw[O] at h2; cases h2
   |some a=>
    rw[O] at h2;cases h2;obtain⟨c,o,u,hc,q,M,Z⟩:=hw _ _ _ B O;exact⟨u,Z,.inr ⟨.inr (S.free y (yw B)),c,hc,o,hk _ _ (R q),M⟩⟩
 ·obtain⟨o,x,q,M⟩:=G c (U h);exact⟨x,o,hk _ _ (R q),M⟩
 ·show _=(ps++fr).length;rw[y4,yc,yc,hl,fe]
theorem OP{P:yq}{w:y0h}{K:ya}{mg:Str->Option yg}{base:Heap}{k:Nat}{ps fr:List Str}{D:LamD}{cl:List (Str×Addr)}{f c':Addr}{A:y0n}{outer:List PySem.Env}{s:ye}{H:Hp}{us:List yg}{vs ws:List V}{Q:VK}
  (S:LamScope ps fr cl D.scope) (hr:Room (k+1) A) (O:Env0 P w K mg base A outer s H) (hf:H f=some (C2 D cl f c')) (hc:H c'=some (Ba c' D.qual)) (hl:vs.length=ps.length) (r:Vals vs us) (fe:ws.length=fr.length)
  (B:∀c∈cl.map (·.2),∃o x,H c=some (Ao c o)/\o.data=.cell x)
  (hw:∀(i:Nat) (x:Str) (v:V),fr[i]?=some x->ws[i]?=some v->∃c o u,cl.lookup x=some c/\H c=some (Ao c o)/\o.data=.cell (some u)/\RelV v u)
  (M:∀fd:y2c,fd.params=D.params->fd.defaults=.none->fd.kwdefaults=.none->fd.scope=D.scope->bindArgs fd ⟨us,[]⟩=pure (ps.zip us))
  (G:Room k (A.deeper (PySem.W.envX D.qual D.scope s.heap.objs.size f (.ref c') cl))->∃t,PE (cxL P w K mg base (ps++fr) D cl f c' A outer s H E0) D.body t/\t ((vs++ws).map some) (BA (cl.map (·.2)) H) fun v H'=>(∀c∈cl.map (·.2),H' c=none)->Q v (back (cl.map (·.2)) H H')) :
  codeAny (y06 P w) A (.call (.ref f) ⟨us,[]⟩) (CR CX0 outer P w H s Q E0) s:=by
 obtain⟨⟨pm,fk,fg⟩,_⟩:=O.hok f _ hf;obtain⟨fh,_⟩:=O.hok c' _ hc;have ac:AreCells (cl.map (·.2)) H:=fun c hc=>by
  obtain⟨o,_,q,_⟩:=B c hc;exact⟨o,q⟩
 have Z:s.heap.NoLimit:=O.mod.nolimit.keeps fun b o e=>(O.bs b o e).1;refine PySem.W.kla_callFunE hr.depth fg rfl S.co S.gen rfl fh ?_;rw[M _ rfl rfl rfl rfl];refine yh (wpAny_newFunctionEnv S.nocell (fun y hy=>S.par _ (y4t hy).1) (fun h₁ fc R=>⟨Z.fresh _ R,?_⟩) S.kind);show codeAny _ _ (.expr D.body (PySem.W.envX D.qual D.scope s.heap.objs.size f (.ref c') cl)) _ _;have F:∀b o,s.heap.get? b=some o->h₁.get? b=some o:=fun b o e=>R.extBut b o (yz (yl e)) (yd _ e);obtain⟨t,ht,q⟩:=G (hr.deeper _);have I:=VN (K:=K) (f:=f) (c':=c') (E:=E0) (tk:=s.toks+(ps.zip us).length) S hr.hd O hl r fe B hw fc F;refine PySem.W.kla_codeExpr (y1l (ht [] _ _ _ _ I q) (fun u s' hs=>?_) fun e s' hs=>hs);obtain⟨v,H',J,rv,U⟩:=hs;have nC:∀c∈cl.map (·.2),H' c=none:=fun c hc=>by
  obtain⟨⟨x,c2⟩,hm,rfl⟩:=List.mem_map.mp hc;exact J.freeC x c2 (S.look x c2 hm)
 replace U:=U nC;refine⟨v,back (cl.map (·.2)) H H',J.os,J.bare,Un.ret (cs:=cl.map fun x=>x.2) (H:=H) J.base ac,HOk.ret O.hok J.hok ac nC fun c hc o e=>?_,rv,U⟩;refine J.base.keep c o e (Fh hc) (fun z=>?_) (by show c∉([]:List Addr); simp);obtain⟨o',q'⟩:=ac c hc;have:=O.frf c z;rw[q'] at this;cases this
def Eb(P:yq)(w:y0h)(K:ya)(mg:Str->Option yg)(base:Heap)(k:Nat)(f:Addr)(H:Hp)(vs:List V)(Q:VK):Prop:=
 ∀(A:y0n) (outer:List PySem.Env) (s:ye) (us:List yg),Room k A->Env0 P w K mg base A outer s H->Vals vs us->codeAny (y06 P w) A (.call (.ref f) ⟨us,[]⟩) (CR CX0 outer P w H s Q E0) s
def IsLam(H:Hp)(f:Addr):Prop:=∃D cl c',H f=some (C2 D cl f c')
end
theorem IsLam.at(h:IsLam H f)(I:Inv X pins σ H s):PySem.W.FnAt f s.heap:=by
 obtain⟨D,cl,c',e⟩:=h;obtain⟨⟨B,z,q⟩,_⟩:=I.hok f _ e;exact⟨_,_,_,_,q⟩
def KU(R:Addr->Hp->List V->VK->Prop)(i:Nat)(t:TA):TE:=fun σ H Q=>∃f,σ[i]?=some (some (.ref f))/\IsLam H f/\t σ H fun vs H1=>IsLam H1 f/\R f H1 vs Q
theorem Hv(hN:X.N[i]?=some x)(hv:Vis X.env.scope x)(hr:Room j X.A)(hk:k<=j)(ha:PA X (e::es) t)
  (hd:(x==("__debug__" : Str))=false:=by decide) (M:(x==("__classdict__" : Str))=false:=by decide) (B:Bj (e::es)=true:=by rfl) :
  PE X (.Call (.Name x p) (e::es) [] pos) (KU (Eb X.prog X.w X.K X.mg X.base k) i t):=by
 have z:=B;rw[Bj,y05,y1g] at z;have he:=Cc (es:=es) (env:=X.env) z.1;have F:=De (pos:=pos) (env:=X.env) z.2;refine⟨?_⟩;intro pins s σ H Q I h;obtain⟨f,ei,hl,h⟩:=h;refine y3b (thn (Ae (pos:=p) hN hv hd M pins s σ H (fun R H'=>R=.ref f/\IsLam H' f/\t σ H' fun vs H1=>IsLam H1 f/\Eb X.prog X.w X.K X.mg X.base k f H1 vs Q) I (isV.i ei ⟨rfl,hl,h⟩)) fun u s0 ⟨R,H',U,r',ex,J,h'⟩=>?_);subst ex;cases r';refine PySem.W.callWith_F (first:=[]) (J.at U) (thn (ha pos pins s0 σ H' _ U h') fun us Z ⟨vs,H1,O,r,G,q⟩=>⟨G.at O,?_⟩) he F;refine wpAny_call (y3n (q X.A X.stack Z us (hr.mono hk) O.env0 r) fun r s' hq=>?_);cases r with
 |error e=>exact False.elim hq
 |ok fl=>
  cases fl with
  |ret u=>exact O.after hq
  |next=>exact False.elim hq
  |brk=>exact False.elim hq
  |cont=>exact False.elim hq
def KW(sp:Sp)(c:Addr)(i:Nat)(t:TA):TE:=fun σ H Q=>t σ H fun vs H1=>∃v,σ[i]?=some (some v)/\∀o u,o.data=.cell (some u)->RelV v u->H1 c=none->sp vs (upd H1 c (Ao c o)) (fun y H2=>H2 c=some (Ao c o)/\Q y (BA [c] H2)) E0
theorem VO(C:Callee X.prog X.w X.K X.mg X.base x ps k sp)(hr:Room j X.A)(hk:k<=j)(ha:PA X (e::es) t)
  (hN:X.N[i]?=some y) (hc:X.env.cells.lookup y=some c) (hy:X.env.kindOf y=some .cell) (fe:X.fn y=true) (hg:Gl X x:=by rfl)
  (fX:(x==("__debug__" : Str))=false:=by decide) (ft:Bj (e::es)=true:=by rfl) :
  PE X (.Call (.Name x p) (e::es) [] pos) (KW sp c i t):=by
 have O:=ft;rw[Bj,y05,y1g] at O;have he:=Cc (es:=es) (env:=X.env) O.1;have fu:=De (pos:=pos) (env:=X.env) O.2;obtain⟨f,fd,F,hm,fV,hb⟩:=C;refine⟨?_⟩;intro pins s σ H Q I h;refine y3b (JN I hg hm ?_ fX);refine PySem.W.callWith_K (h₀:=X.base) I.ok.mod.kin fV (thn (ha pos pins s σ H _ I h) fun us Z ⟨vs,H1,M,r,v,ei,q⟩=>⟨M.kIn,?_⟩) he fu;obtain⟨m,hn,hl⟩:=id M.loc;obtain⟨u,ru,l⟩:=hl i y v hN ei (.inr (.inl hy));have U:Z.heap.IsCell c (some u):=by
  rcases l with⟨fc,_⟩|⟨_,c2,e2,z⟩
  ·rw[hy] at fc; cases fc
  ·rw[hc] at e2; cases e2; exact z
 obtain⟨o,ho,hd⟩:=U;have J:H1 c=none:=M.freeC y c hc;have q':=q o u hd ru J;have hH:HOk X.prog X.w (upd H1 c (Ao c o)) Z.heap:=fun b w e=>by
  by_cases hb:b=c
  ·subst hb;rw[A4] at e;cases e;exact⟨ho,⟨o,ho⟩,fun h1 h2 z k=>k _ z⟩
  ·rw[A8 hb] at e;exact(M.hok b w e).stay (fun _ _ _ q=>q) (fun d z=>by rw[A8 (AS z J)]; exact z) fun d xs z=>by rw[A8 (AS z J)]; exact z
 have fk:c∉frs X.stack:=fun z=>by
  rcases List.mem_cons.mp (M.stkSub c z) with z|z
  ·exact M.cne y c hc z
  ·obtain⟨_,G,fw,_⟩:=M.ok.funs.mem z;exact absurd (y0c (yl fw) (M.ok.cab y c fe hc)) (y1b _)
 have e0:Env0 X.prog X.w X.K X.mg X.base X.A X.stack Z (upd H1 c (Ao c o)):=by
  have z:=M.env0;refine⟨z.frames,z.mod,fun b G e=>⟨(z.bs b G e).1,?_⟩,z.bsz,z.funs,fun b hb=>?_,hH,z.bare⟩
  ·rw[A8 fun w=>?_]
   ·exact(z.bs b G e).2
   ·subst w;have:=yl (M.ok.bs b G e).1;exact absurd (y0c this (M.ok.cab y b fe hc)) (y1b _)
  ·rw[A8 fun w=>fk (by rw[<- w]; exact hb)];exact z.frf b hb
 have fz:us.length=ps.length:=by rw[<- r.length]; exact F.len _ _ _ _ q'
 have fh:=hb Z us M.kIn (by rw[y0x]; exact fz);rw[y0x] at fh;refine wpAny_call (y3n (F.run X.A X.stack Z _ ⟨us,[]⟩ us vs _ E0 (hr.mono hk) e0 fh r q') fun r s' hq=>?_);cases r with
 |error e=>exact False.elim hq
 |ok fl=>
  cases fl with
  |next=>exact False.elim hq
  |brk=>exact False.elim hq
  |cont=>exact False.elim hq
  |ret u2=>
   obtain⟨v2,H2,os,bare,R,hok,rv,fg,q2⟩:=hq;have ac:AreCells [c] H2:=fun b hb=>by
    rw[y13] at hb;subst hb;exact⟨o,fg⟩
   obtain⟨hh,g,d,tk,fq⟩:=s';obtain rfl:fq=Z.os:=os;have fY:hh.get? c=some o:=(hok c _ fg).1;refine⟨v2,BA [c] H2,M.call (h':=hh) (g':=g) (d':=d) (t':=tk) (ch:=[]) ⟨fun b G e n hb hx=>?_,fun b G e n hb hx=>?_,fun b G e n hx=>?_,fun b G e hx=>R.there b G e hx,fun b xs e=>?_,fun b G w e=>?_,fun b qs e=>?_⟩ (hok.hid ac) bare (fun b z=>absurd z (by simp)),rv,q2⟩
   ·by_cases B:b=c
    ·subst B; rw[ho] at e; cases e; exact fY
    ·exact R.keep b G e (by rw[A8 B]; exact n) hb hx
   ·by_cases B:b=c
    ·subst B; exact absurd hb fk
    ·exact R.slot b G e (by rw[A8 B]; exact n) hb hx
   ·by_cases B:b=c
    ·subst B; exact Fh (List.mem_singleton.mpr rfl)
    ·exact Dk (R.free b G e (by rw[A8 B]; exact n) hx)
   ·have nb:b≠c:=AS e J;rw[BI (by simpa using nb)];exact R.tups b xs (by rw[A8 nb]; exact e)
   ·have nb:b≠c:=AS e J;rw[BI (by simpa using nb)];exact R.frzs b G w (by rw[A8 nb]; exact e)
   ·have nb:b≠c:=AS e J;rw[BI (by simpa using nb)];exact R.tbls b qs (by rw[A8 nb]; exact e)
def Fi(mg:Str->Option yg)(base:Heap)(tabs:List (Addr×Addr)):Prop:=∀q∈tabs,PySem.W.CodeHd base q.1 q.2/\base.BuiltinsAt mg q.2/\y0g≠q.2
theorem VP{P:yq}{w:y0h}{K:ya}{mg mb:Str->Option yg}{k:Nat}{fa a:Addr}{fd:y2c}{x:Str}{sp:Sp}{B:ye}{vs:List yg}{ns:List Int}{tabs:List (Addr×Addr)}
  (KX:K.In B.heap) (fh:B.heap.Ns y0g mg) (hb:B.heap.Ns builtinsNs mb) (gh:∀x:Str,x≠"__name__"->mb x=bootBuiltins x) (fX:B.heap.NoLimit) (hg:B.gens = #[])
  (ha:B.heap.get? a=some {cls:=.type "list",data:=.seq vs.toArray}) (hi:IntsAre vs ns) (hl:ns.length<=ym) (hr:Room k callerA)
  (R:PySem.W.TabsAt tabs B.heap) (hB:∀q∈tabs,B.heap.BuiltinsAt mg q.2) (hK:PySem.W.noTabs K=true)
  (F:∀base:Heap,K.In base->base.Ns y0g mg->Fi mg base tabs->FnOk P w K mg base CX0 k fa fd [x] sp) (fk:∀(s:ye) (u:yg),BindsTo s fd ⟨[u],[]⟩ [(x,u)])
  (gf:∀H:Hp,(∀q∈tabs,H q.2=some (.tbl #[]))->SqL K H a (ns.map V.int)->sp [.ref a] H (fun v _=>v=.bl true) fun _ _ _=>False) :
  codeAny (y06 P w) callerA (.call (.ref fa) ⟨[.ref a],[]⟩) (fun r s'=>r=.ok (.ret (.bool true))/\OldK B.heap s'.heap/\s'.os=B.os/\AllBare s'.gens) B:=by
 have rv:=Na hi;have fz:=hi.length;have fw:∀q∈tabs,K.lookup q.2=none:=fun q hq=>by
  cases e:K.lookup q.2 with
  |none=>rfl
  |some o=>
   have h1:=KX _ _ e;rw[(R q hq).2] at h1;cases h1;have h2:=List.all_eq_true.mp hK (q.2,_) (PySem.W.mem_of_lookupK e);exact absurd (show false=true from h2) yx
 have aT:a∉tabs.map (·.2):=fun z=>by
  obtain⟨q,hq,e⟩:=List.mem_map.mp z;have h1:=(R q hq).2;rw[e,ha] at h1;cases h1
 have fe:∀H:Hp,(∀b,H b=none\/(∃o xs,b=a/\H b=some (.frz o (.lst xs)))\/(b∈tabs.map (·.2)/\H b=some (.tbl #[])))->(∀q∈tabs,H q.2=some (.tbl #[]))->SqL K H a (ns.map V.int)->HOk P w H B.heap->(H a≠none->K.lookup a=none)->
   codeAny (y06 P w) callerA (.call (.ref fa) ⟨[.ref a],[]⟩) (fun r s'=>r=.ok (.ret (.bool true))/\OldK B.heap s'.heap/\s'.os=B.os/\AllBare s'.gens) B:=by
  intro H hO gj hS fV gm
  have base_of:∀{b:Addr} {o:Obj},B.heap.get? b=some o->H b=none->(CL B.heap H).get? b=some o:=fun e n=>Su e n
  have J:∀{b:Addr},b∈tabs.map (·.2)->B.heap.get? b=some (PySem.W.tabObj #[]):=fun {b} hb=>by
   obtain⟨q,hq,rfl⟩:=List.mem_map.mp hb
   exact(R q hq).2
  have fg:∀{b:Addr} {o:Obj},B.heap.get? b=some o->b≠a->b∉tabs.map (·.2)->H b=none:=fun {b o} e n1 n2=>by
   rcases hO b with z|⟨_,_,z,_⟩|⟨z,_⟩
   ·exact z
   ·exact absurd z n1
   ·exact absurd z n2
  have O:∀{b:Addr} {m:Str->Option yg},B.heap.Ns b m->(CL B.heap H).Ns b m:=fun {b m} ⟨o,es,ep,e,d,r⟩=>by
   refine⟨o,es,ep,base_of e (fg e (fun z=>?_) fun z=>?_),d,r⟩
   ·rw[z,ha] at e; cases e; cases d
   ·rw[J z] at e; cases e; cases d
  have fY:K.In (CL B.heap H):=fun b o e=>base_of (KX b o e) (by
   rcases hO b with z|⟨_,_,z,z2⟩|⟨z,_⟩
   ·exact z
   ·have:=gm (by rw[<- z,z2]; simp)
    rw[z,this] at e
    cases e
   ·obtain⟨q,hq,rfl⟩:=List.mem_map.mp z
    rw[fw q hq] at e
    cases e)
  have hM:Mod K mg (CL B.heap H):=⟨fY,O fh,⟨mb,O hb,gh⟩,let ⟨mc,h1,h2⟩:=fX; ⟨mc,O h1,h2⟩⟩
  have gk:Fi mg (CL B.heap H) tabs:=fun q hq=>by
   obtain⟨o,gc,fZ,tf,fq,tg,ge,fu,tt,U,r1,r2,r⟩:=(R q hq).1
   obtain⟨bm,ob,b1,b2,b3,b4,b5,b6,b7,b8⟩:=hB q hq
   refine⟨⟨o,gc,fZ,tf,fq,tg,ge,fu,tt,base_of U (fg U (fun z=>?_) fun z=>?_),r1,r2,r⟩,⟨bm,ob,b1,b2,b3,b4,base_of b5 (fg b5 (fun z=>?_) fun z=>?_),b6,b7,b8⟩,fun z=>?_⟩
   ·rw[z,ha] at U; cases U; exact absurd (show Value.type "list" = Value.type "code" from r1) (by simp)
   ·rw[J z] at U; cases U; cases r1
   ·rw[z,ha] at b5; cases b5; exact absurd (show Value.type "list" = Value.type "module" from b6) (by simp)
   ·rw[J z] at b5; cases b5; cases b6
   ·obtain⟨o',es,ep,e',d,_⟩:=fh
    rw[z,(R q hq).2] at e'
    cases e'
    cases d
  have e0:Env0 P w K mg (CL B.heap H) callerA [] B H:=⟨rfl,hM,fun b o e=>Sv e,Nat.le_of_eq (Ss _ _),trivial,fun b hb=>absurd (show b∈([]:List Addr) from hb) (by simp),fV,.of_eq hg⟩
  refine y3n ((F _ fY (O fh) gk).run callerA [] B H ⟨[.ref a],[]⟩ [.ref a] [.ref a] _ _ hr e0 (fk B (.ref a)) (.cons rfl .nil) (gf H gj hS)) fun r s' h=>?_
  cases r with
  |error e=>exact False.elim h
  |ok fl=>
   cases fl with
   |next=>exact False.elim h
   |brk=>exact False.elim h
   |cont=>exact False.elim h
   |ret u=>
    obtain⟨v,H',os,gb,un,fc,r',q⟩:=h
    have q':v=.bl true:=q
    subst q'
    obtain rfl:u=Value.bool true:=r'
    refine⟨rfl,⟨fun b o e=>?_,fun b o e=>un.there b o e (by simp)⟩,os,gb⟩
    rcases hO b with z|⟨ob,xs,_,z⟩|⟨hb,z⟩
    ·exact .inl (un.keep b o e z (by intro z; exact absurd (show b∈([]:List Addr) from z) (by simp)) (by simp))
    ·have z2:=un.frzs b ob _ z
     obtain⟨U,_⟩:=fV b _ z
     obtain⟨e2,_⟩:=fc b _ z2
     rw[e] at U; cases U
     exact .inl e2
    ·obtain⟨Z,z2⟩:=un.tbls b _ z
     have e2:s'.heap.get? b=some {cls:=.none,data:=.fields (#[]++Z)}:=fc b _ z2
     rw[J hb] at e
     cases e
     obtain⟨q,hq,rfl⟩:=List.mem_map.mp hb
     exact .inr (.inl ⟨((R q hq).1.tab (R q hq).2).isCodeTable,rfl,#[],Z,rfl,e2⟩)
 have ft:∀q∈tabs,q.2∈tabs.map (·.2):=fun q hq=>List.mem_map.mpr ⟨q,hq,rfl⟩;cases hk:K.lookup a with
 |some o=>
  have e:=KX a o hk;rw[ha] at e;cases e;refine fe (fun b=>if b∈tabs.map (·.2) then some (.tbl #[]) else none) (fun b=>?_) (fun q hq=>if_pos (ft q hq)) (.inr ⟨_,vs.toArray,_,hk,rfl,rfl,rfl,by rw[y07,fz]; exact hl,by simpa using rv⟩) (fun b u z=>?_) fun z=>absurd (if_neg aT) z
  ·by_cases hb:b∈tabs.map (·.2)
   ·exact .inr (.inr ⟨hb,if_pos hb⟩)
   ·exact .inl (if_neg hb)
  ·by_cases hb:b∈tabs.map (·.2)
   ·have M:=(if_pos hb).symm.trans z;cases M;obtain⟨q,hq,rfl⟩:=List.mem_map.mp hb;exact(R q hq).2
   ·have M:=(if_neg hb).symm.trans z;cases M
 |none=>
  refine fe (fun b=>if b∈tabs.map (·.2) then some (.tbl #[]) else if b=a then some (.frz {cls:=.type "list",data:=.seq vs.toArray} (.lst (ns.map V.int))) else none) (fun b=>?_) (fun q hq=>if_pos (ft q hq)) (.inl (.inr ⟨{cls:=.type "list",data:=.seq vs.toArray},(if_neg aT).trans (if_pos rfl)⟩)) (fun b u z=>?_) fun _=>hk
  ·by_cases hb:b∈tabs.map (·.2)
   ·exact .inr (.inr ⟨hb,if_pos hb⟩)
   ·by_cases G:b=a
    ·exact .inr (.inl ⟨_,_,G,(if_neg hb).trans (if_pos G)⟩)
    ·exact .inl ((if_neg hb).trans (if_neg G))
  ·by_cases hb:b∈tabs.map (·.2)
   ·have M:=(if_pos hb).symm.trans z;cases M;obtain⟨q,hq,rfl⟩:=List.mem_map.mp hb;exact(R q hq).2
   ·have z1:=(if_neg hb).symm.trans z;by_cases G:b=a
    ·have M:=(if_pos G).symm.trans z1;cases M;subst G;exact⟨ha,by rw[y4]; exact hl,vs,_,rv,ha⟩
    ·have M:=(if_neg G).symm.trans z1;cases M
theorem VQ{l:PySem.W.OpenLaw}{n k:Nat}{q:yq}{J:List Str}{XP:(Str->Option yg)->Heap->Prop}{YP:y0h->Heap->Prop}{d:DefRec}{K:Params->ya}{sp:y0h->Sp}{x:Str}{tabs:List (Str×Addr×Addr)}
  (hn:l.most=some n) (fe:n<=ym) (fh:d.params.defaults=[]) (hr:Room k callerA)
  (hY:∀(w:y0h) (h:Heap),YP w h->(K w.params).In h)
  (hK:∀w:y0h,PySem.W.noTabs (K w.params)=true) (hrec:∀t∈tabs,∃e,(recsOf q).find? (fun e=>e.name==t.1)=some e) (htab:∀(w:y0h),∀t∈tabs,PySem.W.tabIn (K w.params) t.1=some (t.2.1,t.2.2))
  (F:∀(w:y0h) (mg:Str->Option yg) (fa:Addr) (h:Heap),(K w.params).In h->h.Ns y0g mg->mg d.name=some (.ref fa)->
   ∃fd:y2c,(∀(s:ye) (u:yg),BindsTo s fd ⟨[u],[]⟩ [(x,u)])/\
    ∀base:Heap,(K w.params).In base->base.Ns y0g mg->Fi mg base (tabs.map (·.2))->FnOk l.prog w (K w.params) mg base CX0 k fa fd [x] (sp w))
  (fc:∀(w:y0h) (H:Hp) (a:Addr) (ns:List Int),ns.length<=n->(∀q∈tabs.map (·.2),H q.2=some (.tbl #[]))->SqL (K w.params) H a (ns.map V.int)->sp w [.ref a] H (fun v _=>v=.bl true) fun _ _ _=>False) :
  PySem.W.WalkO q J XP YP l.row.toRowW d [] (fun f vs=>PySem.call f vs):=by
 refine Att.Tx hn fh fun w s₀ O mg mb fa o pm cd ft a vs ns G Y ho hd fq fg U M B hg=>?_;have KX:=hY w _ Y;obtain⟨fd,hb,hF⟩:=F w mg fa _ KX G.T.g fg;have hT:PySem.W.TabsAt (tabs.map (·.2)) O.heap:=fun t ht=>by
  obtain⟨t',R,rfl⟩:=List.mem_map.mp ht;obtain⟨e,he⟩:=hrec t' R;exact PySem.W.tab_of G.T KX he (htab w t' R)
 refine VP KX G.T.g G.T.b G.T.builtins G.T.nolimit hg U M (y0j B fe) hr hT (fun t ht=>?_) (hK w) hF hb fun H hO hS=>fc w H a ns B hO hS;obtain⟨bm,ob,b1,b2,Z,b4,b5,b6⟩:=G.T.bmain;refine⟨bm,ob,b1,b2,fun z=>?_,fun z=>?_,Z,b4,b5,b6⟩
 ·obtain⟨o',es,ep,e',fk,_⟩:=G.T.g;rw[z,e'] at Z;cases Z;rw[fk] at b6;cases b6
 ·rw[z,(hT t ht).2] at Z;cases Z;cases b4
theorem VR{K:ya}{a b:Addr}{xs ys:List V}{g:TG}{tb:TS}{D:Ends}{σ:St}{H:Hp}(U:xs.length=ys.length)(z:Nat->St->Hp->Prop)(h0:z 0 σ H)(hl:∀i σ H,i<=xs.length->z i σ H->SqT K H a xs/\SqT K H b ys)
  (Z:∀i x y σ H T,xs[i]?=some x->ys[i]?=some y->z i σ H->H T=none->g (.ref T) σ (upd H T (.tup [x,y])) fun B H2=>tb {D with nx:=z (i+1),ct:=z (i+1),bk:=D.nx} B H2) (hd:∀ σ H,z xs.length σ H->D.nx σ H) :
  ∃W:Nat->Nat->St->Hp->Prop,(∃m,W 0 m σ H)/\∀i m σ H,W i m σ H->
   ((D4 K a b).stop i H/\D.nx σ H)\/((D4 K a b).go i H/\∃N:St->Hp->Prop,(∀ F H',N F H'->∃J,J<m/\W (i+1) J F H')/\∀x H',(D4 K a b).yld i H x H'->g x σ H' fun B H2=>tb {D with nx:=N,ct:=N,bk:=D.nx} B H2):=by
 refine⟨fun i m σ H=>m=xs.length-i/\i<=xs.length/\z i σ H,⟨xs.length,by simp,yo _,h0⟩,?_⟩
 rintro i m σ H ⟨rfl,hi,p⟩
 have q:=hl i σ H hi p
 by_cases G:i<xs.length
 ·refine .inr ⟨⟨xs,ys,xs[i],ys[i]'(by lia),q.1,q.2,by simp[G],by simp⟩,z (i+1),fun F H' R=>⟨xs.length-(i+1),by lia,rfl,G,R⟩,fun x H' y=>?_⟩
  obtain⟨T,u,v,rfl,hT,rfl,O,M⟩:=y
  exact Z i u v σ H T (O xs q.1) (M ys q.2) p hT
 ·have e:i=xs.length:=by lia
  subst e
  exact .inl ⟨⟨xs,ys,q.1,q.2,.inl (yf _)⟩,hd σ H p⟩
end L2
namespace L2
open PySem PySem.Spec PyProof.Rows PySem.W
section
variable{prog:yq}{w:y0h}{A:y0n}{E:yg->ye->Prop}{s:ye}{a:Addr}
theorem VS{Q:List yg->ye->Prop}(e:s.heap.get? a=some o) (c:o.cls=.type "tuple") (d:o.data=.seq its k) (hi:its.toList=[u,v]) (q:Q [u,v] s):y0b (y06 prog w) A (Builtin.Dict.pairItems (.ref a)) Q E s:=by
 unfold Builtin.Dict.pairItems;refine yb (y59 (T:="tuple") ⟨_,e,c⟩ ?_);rw[if_pos (by decide)];refine yb (wpAny_seqItems e d (yh ?_));show Q its.toList s;rw[hi];exact q
noncomputable def Ec(ks:Nat->Key)(va:Nat->yg):Nat->List (Key×yg)
 |0=>[]
 |n+1=>stored (Ec ks va n) (ks n) (va n)
theorem KY(ks:Nat->Key)(va:Nat->yg):∀n,(Ec ks va n).length<=n
 |0=>yf _
 |n+1=>y0j (stored_length_le _ _ _) (Nat.succ_le_succ (KY ks va n))
theorem KZ{h h':Heap}{D:Addr}{xs:List (Key×yg)}(x:h.DictOf (AQ prog w) D xs)(q:∀o,h.get? D=some o->h'.get? D=some o):h'.DictOf (AQ prog w) D xs:=
 let ⟨o,es,ep,ho,r⟩:=x; ⟨o,es,ep,q o ho,r⟩
theorem VT{R:Result->ye->Prop}{I D:Addr}{fp J:List Addr}{G:Array GenState->Array GenState->Prop}{n:Nat}{P:Nat->yg->Prop}{St:Nat->ye->Prop}{rw_:Nat->Addr}{kv va:Nat->yg}{ks:Nat->Key}(W:WalksS prog w A.in1 I fp J G n P St)(fc:D∉fp)
  (O:∀i v,P i v->v=.ref (rw_ i)) (fg:∀i,i<n->(AQ prog w).is (ks i) (kv i)=true) (hn:n<=100000) (U:∀i,i<n->rw_ i∉D::J) :
  ∀(m i:Nat) (s:ye),i+m=n->St i s->s.heap.DictOf (AQ prog w) D (Ec ks va i)->
   (∀j,j<n->(∃o B k,s.heap.get? (rw_ j)=some o/\o.cls=.type "tuple"/\o.data=.seq B k/\B.toList=[kv j,va j]))->
   (∀s',Moved (D::J) G s s'->s'.heap.DictOf (AQ prog w) D (Ec ks va n)->R (.ok (.ret .none)) s')->
   codeAny (y06 prog w) A (.builtin "dict.update.loop" ⟨[.ref D,.ref I,rawInt i,.none],[]⟩) R s:=by
 have hw:D∉J:=fun z=>fc (W.sub _ z)
 have hm:∀b∈J,b∈D::J:=fun b z=>.tail _ z
 intro m
 induction m with
 |zero=>
  intro i s e st x hk q
  obtain rfl:i=n:=e
  refine y3c OK ?_
  rw[y2b Hq]
  refine yb (W.done s _ _ st fun s' M=>?_)
  show y0b _ _ (Builtin.Dict.addKeywords D [] >>= _) _ _ _
  exact yb (yh (yh (q s' (M.mono hm) (KZ x (fun o z=>M.heap D o hw z)))))
 |succ m ih=>
  intro i s e st x hk q
  refine y3c OK ?_
  rw[y2b Hq]
  refine yb (W.item i s _ _ (by lia) st fun v s1 hP st1 M=>?_)
  obtain rfl:=O i v hP
  have hi:i<n:=by lia
  have Z:∀j,j<n->(∃o B k,s1.heap.get? (rw_ j)=some o/\o.cls=.type "tuple"/\o.data=.seq B k/\B.toList=[kv j,va j]):=fun j hj=>by
   obtain⟨o,B,k,e1,r⟩:=hk j hj;exact⟨o,B,k,M.heap _ o (fun z=>(U j hj) (hm _ z)) e1,r⟩
  have x1:s1.heap.DictOf (AQ prog w) D (Ec ks va i):=KZ x (fun o z=>M.heap D o hw z);obtain⟨o,B,k,e1,e2,e3,e4⟩:=Z i hi;refine yb (y1z (yb (wpAny_tryCatch (VS e1 e2 e3 e4 (y1z (wpAny_dictSet_pairs (fg i hi) x1 (fun h' x' sb=>?_) ?_))))))
  ·have fh:∀j,j<n->(∃o B k,h'.get? (rw_ j)=some o/\o.cls=.type "tuple"/\o.data=.seq B k/\B.toList=[kv j,va j]):=fun j hj=>by
    obtain⟨o,B,k,e1,r⟩:=Z j hj;exact⟨o,B,k,(sb.2 _ fun z=>(U j hj) (by rw[z]; exact y10)).trans e1,r⟩
   refine yh ⟨y5m Hq _,ih (i+1) _ (by lia) (W.frame _ s1 _ _ st1 (Nat.le_add_right _ _) fun b F o z=>?_) x' fh fun s2 fe x2=>q s2 (Moved.trans W.gtrans ((M.mono hm).then_heap (Nat.le_add_right _ _) fun b o F z=>?_) fe) x2⟩
   ·rw[sb.2 b fun z:b=D=>fc (z ▸ F)]; exact z
   ·rw[sb.2 b fun z:b=D=>F (z ▸ y10)]; exact z
  ·exact y0j (KY ks va i) (OL (by lia))
end
def VU:List V->Hp->VK->Prop:=fun xs H Q=>∃(a:Addr) (vs:List V) (l:List (Str×Int)),xs=[.ref a]/\H a=some (.lst vs)/\DtA H vs (l.map D7)/\l.length<=1000/\
 ∀(p:Addr),H p=none->Q (.ref p) (upd H p (.dK (l.foldl (fun k r=>An k (Sum.inr r.1) (V.int r.2)) [])))
section
variable{X:Cx}{pins:List (Addr×Obj)}{σ:St}{H:Hp}{s:ye}
structure Pkw where
 r:Addr
 k:yg
 u:yg
instance:Inhabited Pkw:=⟨⟨0,.none,.none⟩⟩
def Ka(H:Hp)(h:Heap)(l:Str×Int)(q:Pkw):Prop:=RelV (.str l.1) q.k/\RelV (.int l.2) q.u/\(∃o z k,h.get? q.r=some o/\o.cls=.type "tuple"/\o.data=.seq z k/\z.toList=[q.k,q.u])
theorem OQ(I:Inv X pins σ H s):∀{l:List (Str×Int)} {vs:List V} {us:List yg},DtA H vs (l.map D7)->Vals vs us->∃F:List Pkw,us=F.map (fun q=>Value.ref q.r)/\Paired (Ka H s.heap) l F
 |[],_,_,.nil,.nil=>⟨[],rfl,.nil⟩
 |r::l,_,_,.cons d t,.cons G rt=>by
  obtain⟨F,e,O⟩:=OQ I t rt;cases d with
  |tup Z B=>
   cases G;obtain⟨R,z,⟨o,U,hc,n,hd⟩,_⟩:=I.tuple (SqT.of Z);cases B with
   |cons d1 B=>
    cases B with
    |cons d2 B=>
     cases B;cases d1;cases d2;cases z with
     |cons M z=>
      cases z with
      |cons J z=>
       cases z;exact⟨⟨_,_,_⟩::F,by rw[e]; rfl,.cons ⟨M,J,o,_,n,U,hc,hd,rfl⟩ O⟩
theorem VV(F:Paired (Ka H h) l qs):∀n,n<=l.length->KV ((l.take n).foldl (fun k r=>An k (Sum.inr r.1) (V.int r.2)) ([]:List (Key×V))) (Ec (fun j=>Sum.inr (l.getD j ("",0)).1) (fun j=>(qs.getD j default).u) n):=by
 obtain⟨z,q⟩:=Ht F;intro n;induction n with
 |zero=>intro _; exact .nil
 |succ n G=>
  intro J;have B:l[n]?=some (l.getD n ("",0)):=by rw[yv,yk (by lia)]; rfl
  have hq:qs[n]?=some (qs.getD n default):=by rw[yv,yk (by lia)]; rfl
  have e:l.take (n+1)=l.take n++[l.getD n ("",0)]:=by rw[List.take_succ,B]; rfl
  rw[e,List.foldl_append];exact(G (by lia)).put _ (q n _ _ B hq).2.1
theorem VW(hc:X.calm=true):Al X (.type "dict") VU:=by
 intro pins s σ H xs us Q I r h;obtain⟨a,vs,l,rfl,hH,hd,hz,q⟩:=h;obtain⟨u,rfl,r1⟩:=r.one;cases r1;obtain⟨z,R,n,rv,hl,e⟩:=I.lstM hH;obtain⟨B,eq,pq⟩:=OQ I hd rv;subst eq;obtain⟨Z,fu⟩:=Ht pq;refine callType_codes (Q₁:=fun U M=>U=.ref s.heap.objs.size/\M = {s with heap:=s.heap.push {cls:=.type "dict",data:=.dict #[]}}) F.kt_called_dict (F.kt_typeCall_dict_1 _) F.entry_dict_init (kt_code_dict_new _ ⟨rfl,rfl⟩) ?_;rintro U M ⟨rfl,rfl⟩;have G:(s.heap.push {cls:=.type "dict",data:=.dict #[]}).DictOf (AQ X.prog X.w) s.heap.objs.size []:=Heap.DictOf.new s.heap;refine⟨G.typeIs,F.args_dict_init_2 _ _,?_⟩;unfold Builtin.«dict.__init__»;refine yb ?_;unfold Builtin.Dict.selfAndRest;refine yb (wpAny_notOrdered_dict G.typeIs ?_);show y0b _ _ (pure (s.heap.objs.size,[Value.ref a])) _ _ _;refine yh ?_;show y0b _ _ (Builtin.Dict.updateFrom "dict.__init__" s.heap.objs.size (.ref a) [] .none) _ _ _;unfold Builtin.Dict.updateFrom;have e1:(s.heap.push {cls:=.type "dict",data:=.dict #[]}).get? a=some {cls:=.type "list",data:=.seq (B.map fun q=>Value.ref q.r).toArray n}:=yd _ e;refine yb (y59 (T:="list") ⟨_,e1,rfl⟩ ?_);rw[if_pos (by decide)];refine yb (VI (by simpa using I.ok.hd hc) e1 fun h2 fg k2=>?_);refine wpAny_ite_split (fun _=>?_) (fun c=>absurd rfl c);have e2:=k2 a _ e1;have eD:=k2 _ _ (yt s.heap (o:={cls:=.type "dict",data:=.dict #[]}) rfl);have lD:s.heap.objs.size<h2.objs.size:=yl eD;have la:a<s.heap.objs.size:=yl e;have fc:h2.IsList a (B.map fun q=>Value.ref q.r).toArray:=⟨_,e2,rfl,n,rfl⟩;refine yb (y3z (yb (wpAny_pyIter_list (s:={s with heap:=h2,toks:=fg}) fc (yh ⟨y5m Hq _,?_⟩))));have W:=(Walks.list (prog:=X.prog) (w:=X.w) (A:=X.A.in1.in1) (by simpa using I.ok.hd hc) h2.objs.size a (yz (y1i la lD)) (B.map fun q=>Value.ref q.r).toArray).toS;have hsz:(B.map fun q=>Value.ref q.r).toArray.size=B.length:=by simp
 rw[hsz] at W;have fe:∀j,j<B.length->B[j]?=some (B.getD j default):=fun j J=>by
  rw[yv,yk J]; rfl
 have ft:∀j,j<B.length->l[j]?=some (l.getD j ("",0)):=fun j J=>by
  rw[yv,yk (by lia)]; rfl
 have ok:∀j,j<B.length->Ka H s.heap (l.getD j ("",0)) (B.getD j default):=fun j J=>fu j _ _ (ft j J) (fe j J);have kp:∀b o,s.heap.get? b=some o->(h2.push {cls:=.type "list_iterator",data:=.fields #[.ref a,.int 0 0]}).get? b=some o:=fun b o q=>yd _ (k2 b o (yd _ q));refine VT (A:=X.A.in1) (D:=s.heap.objs.size) (rw_:=fun j=>(B.getD j default).r) (kv:=fun j=>(B.getD j default).k) (va:=fun j=>(B.getD j default).u) (ks:=fun j=>Sum.inr (l.getD j ("",0)).1) W ?_ (fun i v hv=>?_) (fun i hi=>EU (k:=Sum.inr (l.getD i ("",0)).1) (ok i hi).1) (by lia) (fun j J=>?_) B.length 0 _ (Nat.zero_add _) ⟨⟨_,yt _ rfl,rfl,rfl⟩,fc.push _⟩ ?_ (fun j J=>?_) fun s' mv x=>?_
 ·simp only[y0f,y00,or_false,not_or];exact⟨yz lD,y25 la⟩
 ·have hi:i<B.length:=by
   refine Classical.byContradiction fun z=>?_;rw[y36 (by rw[hsz]; lia)] at hv;cases hv
  have z:(B.map fun q=>Value.ref q.r)[i]?=some v:=by simpa using hv
  rw[y0k,fe i hi] at z;exact(y0l z).symm
 ·obtain⟨_,_,o,R,k,g1,_⟩:=ok j J;have b1:=yl g1;simp only[y0f,y00,or_false,not_or];exact⟨yz b1,yz (y1i b1 lD)⟩
 ·exact KZ G (fun o z=>yd _ (k2 _ o z))
 ·obtain⟨_,_,o,R,k,g1,r1⟩:=ok j J;exact⟨o,R,k,kp _ _ g1,r1⟩
 ·obtain⟨h',g',d',fh,fk⟩:=s';have z1:g'=s.gens:=mv.gens;have z2:d'=s.drawn:=mv.drawn;have z3:fk=s.os:=mv.os;subst z1 z2 z3;refine⟨rfl,?_⟩;have kf:∀b o,s.heap.get? b=some o->h'.get? b=some o:=fun b o q=>by
   have lb:=yl q;refine mv.heap b o ?_ (kp b o q);simp only[y0f,y00,or_false,not_or];exact⟨yz lb,yz (y1i lb lD)⟩
  have O:=VV pq l.length (yf _);rw[y0i,Z] at O;have fq:=O.length;have fw:=KY (fun j=>(Sum.inr (l.getD j ("",0)).1:Key)) (fun j=>(B.getD j default).u) B.length;refine⟨.ref s.heap.objs.size,_,I.laid (t':=fh) kf (yf _) (show ObjOk X.prog X.w _ _ _ (.dK (l.foldl (fun k r=>An k (Sum.inr r.1) (V.int r.2)) [])) from⟨?_,?_,_,O,x⟩),rfl,q _ (I.hok.fresh (yf _))⟩
  ·rw[fq];exact OL (by lia)
  ·have:=I.big;exact beq_eq_false_iff_ne.mpr (y25 this)
end
def VX(h:Heap)(l:List PySem.Env)(x T:Addr)(C:yg):Prop:=(∃B:Heap,h.FunFrames B l)/\x∉frs l/\T∉frs l/\T≠x/\∃(q:Obj) (vs:Array yg) (F:Obj) (z:Array yg) (a0:yg),h.get? x=some q/\q.cls=C/\vs[0]?=some a0/\q.data=.fields vs/\vs[1]?=some (.ref T)/\h.get? T=some F/\F.data=.fields z/\z[3]?=some .none
section
variable{P:yq}{w:y0h}{h h':Heap}{l:List PySem.Env}{x T:Addr}{H:Hp}
end
def CX1(P:yq)(w:y0h):CXT:=fun outer H s E e s'=>∃(x T C:Addr) (H':Hp),e=.ref x/\s'.os=s.os/\AllBare s'.gens/\Un (frs outer) [] H H' s.heap s'.heap/\HOk P w H' s'.heap/\VX s'.heap outer x T (.ref C)/\s.heap.get? x=none/\s.heap.get? T=none/\H' x=none/\H' T=none/\E (.ref C) none H'
section
variable{P:yq}{w:y0h}{K:ya}{mg:Str->Option yg}{base:Heap}{N:List Str}{qual:Str}{scope:Scope}{f:Addr}{cd:yg}{A:y0n}{outer:List PySem.Env}{s₀:ye}{H₀:Hp}{E:XK}
end
section
variable{P:yq}{w:y0h}{K:ya}{mg:Str->Option yg}{base:Heap}
end
section
variable{X:Cx}{pins:List (Addr×Obj)}{σ:St}{H:Hp}{s:ye}{h':Heap}{x T:Addr}
end
section
variable{X:Cx}{pins:List (Addr×Obj)}{σ:St}{H:Hp}{s:ye}{e:yg}
end
end L2
namespace L2
open PySem PySem.Spec PyProof.Rows PySem.W PySem.Builtin PySem.Builtin.ObjectAttr PySem.Builtin.Getset_descriptor PySem.Calls
section
variable{prog:yq}{w:y0h}{A:y0n}{E:yg->ye->Prop}{s:ye}{K:ya}{x C:Addr}
end
section
variable{X:Cx}
end
section
variable{P:yq}{w:y0h}{K:ya}{mg:Str->Option yg}{base:Heap}{N:List Str}{qual:Str}{scope:Scope}{f:Addr}{cd:yg}{A:y0n}{outer:List PySem.Env}{s₀:ye}{H₀:Hp}{E:XK}
end
end L2
namespace L2
open PySem PySem.Spec PyProof.Rows PySem.W
section
variable{X:Cx}{C:Addr}{m x:Str}{ps:List Str}{k j:Nat}{sp:Sp}{o e:Expr}{es:List Expr}{ta:TE}{t:TA}{p apos pos:Pos}{pl:Sem Bool}
end
section
variable{P:yq}{w:y0h}{K:ya}{mg:Str->Option yg}{base:Heap}{k:Nat}{ps fr N:List Str}{D:LamD}{cl:List (Str×Addr)}{f c':Addr}{A:y0n}{outer:List PySem.Env}{s:ye}{H:Hp}{us:List yg}{vs ws:List V}{Q:VK}{E:XK}
end
section
variable{X:Cx}{C:Addr}{m x:Str}{ps:List Str}{k j:Nat}{sp:Sp}{o e:Expr}{es:List Expr}{ta:TE}{t:TA}{p apos pos:Pos}{pl:Sem Bool}{E:XK}
abbrev Fj(d:Addr)(i n ep:Nat):Obj:={cls:=.type "dict_keyiterator",data:=.fields #[.ref d,.int i 0,.int n 0,.int ep 0]}
end
section
variable{prog:yq}{w:y0h}{A:y0n}{E:yg->ye->Prop}{s:ye}{d I:Addr}{es:Array DictEntry}{ep i:Nat}{o:Obj}
set_option maxHeartbeats 4000000 in
theorem Hz{Q:Option yg->ye->Prop}(R:A.handled=none)(G:s.heap.get? I=some (Fj d i es.size ep))(e:s.heap.get? d=some o)(J:o.data=.dict es ep)
  (O:∀h' q,es[i]?=some q->Heap.SameBut I s.heap h'->h'.get? I=some (Fj d (i+1) es.size ep)->Q (some q.key) {s with heap:=h'})
  (M:∀h',es[i]?=none->Heap.ExtBut I s.heap h'->Q none {s with heap:=h'}):y0b (y06 prog w) A (pyNext (.ref I)) Q E s:=by
 have z:s.TypeIs (.ref I) "dict_keyiterator":=⟨_,G,rfl⟩;unfold pyNext;refine yb (y4x (y1c (name:="__next__") z F.slot_dict_keyiterator_next (y0u F.slot_dict_keyiterator_next z F.entry_dict_keyiterator_next ?_ (F.args_dict_keyiterator_next_1 _))));unfold Builtin.«dict_keyiterator.__next__»;wp_walk using y4r e J,wpAny_dictEpoch e J;rw[if_neg (show ¬ ((i:Int)<0) by lia),show((i:Int)).toNat=i from rfl];cases B:es[i]? with
 |some q=>
  wp_walk;refine⟨_,rfl,yh ?_⟩;rw[if_neg (show ¬ (Builtin.Dict_items.ownsTuple ((Manifest.find? "dict_keyiterator").elim "dict_keyiterator" fun x=>x.tpName)=true) by decide+kernel),if_neg]
  ·exact O _ q B (y0p ..) (y17 _ G rfl)
  ·decide+kernel
 |none=>
  wp_walk;rw[raiseNew];wp_walk;refine wpAny_of_eq isSubtype_stop (yh ?_);exact M _ B (((y0p ..).extBut.push _).push _)
set_option maxHeartbeats 4000000 in
theorem OR{Q:yg->ye->Prop}(lo:(d==sysModules)=false)(e:s.heap.get? d=some o)(x:o.ExactDict)(z:o.data=.dict es ep)(q:Q (.ref s.heap.objs.size) {s with heap:=s.heap.push (Fj d 0 es.size ep)}):y0b (y06 prog w) A (pyIter (.ref d)) Q E s:=by
 have B:s.TypeIs (.ref d) "dict":=⟨_,e,x.1⟩;refine wpAny_pyIter_slot B F.slot_dict_iter (y0u F.slot_dict_iter B F.entry_dict_iter ?_ (F.args_dict_iter_1 _));unfold Builtin.«dict.__iter__»;wp_walk using y4r e z,wpAny_dictEpoch e z;rw[x.1,if_neg (by decide)];wp_walk using y4r e z,wpAny_dictEpoch e z;exact⟨_,rfl,"dict_keyiterator",_,⟨_,yt _ rfl,rfl⟩,F.slot_dict_keyiterator_next.lookup,q⟩
theorem VY(Z:A.handled=none)(M:d≠I):Walks prog w A I [I,d] [I] es.size (fun i v=>∃z,es[i]?=some z/\v=z.key) (fun i h=>h.get? I=some (Fj d i es.size ep)/\∃o,h.get? d=some o/\o.data=.dict es ep) where
 sub:=fun b hb=>by simp at hb; simp[hb]
 frame:=fun _ _ _ st hk=>⟨hk I (by simp) _ st.1,let ⟨o,e,B⟩:=st.2; ⟨o,hk d (by simp) o e,B⟩⟩
 item:=fun i s Q E hi st J=>by
  obtain⟨R,o,e,B⟩:=st;refine Hz Z R e B (fun h' z q F G=>?_) (fun h' U _=>?_)
  ·exact J z.key h' s.toks ⟨z,q,rfl⟩ ⟨G,o,(F.2 d M).trans e,B⟩ fun b o hb e=>(F.2 b (fun h=>hb (by simp[h]))).trans e
  ·rw[y2u hi] at U;cases U
 done:=fun s Q E st J=>by
  obtain⟨R,o,e,B⟩:=st;refine Hz Z R e B (fun h' z q _ _=>?_) (fun h' _ O=>J h' s.toks fun b o hb e=>O b o (fun h=>hb (by simp[h])) e);rw[y36 (yf _)] at q;cases q
 self:=fun _ s Q E st J=>wpAny_pyIter_keyiter ⟨_,st.1,rfl,rfl⟩ J
theorem OS(lo:(d==sysModules)=false):KdlSrc prog w "dict" d d es.size (fun i v=>∃q,es[i]?=some q/\v=q.key) (fun h=>∃o,h.get? d=some o/\o.ExactDict/\o.data=.dict es ep) where
 type:=fun _ ⟨o,e,x,_⟩=>⟨o,e,x.1⟩
 there:=fun _ ⟨o,e,_⟩=>⟨yl e,yl e⟩
 keep:=fun _ _ ⟨o,e,r⟩ hk=>⟨o,hk d (.inl rfl) o e,r⟩
 notList:=by decide
 notTuple:=by decide
 hint:=fun _ _ _ _ ⟨o,e,x,_⟩ hq=>kdl_hint_dict ⟨o,e,x.1⟩ hq
 iter:=fun _ s B ⟨o,e,x,z⟩=>⟨_,_,(fun _ _ hq=>OR lo e x z hq),VY (ep:=ep) B (yz (yl e)),⟨yt _ rfl,o,yd _ e,z⟩⟩
end
noncomputable def Itd(d:Addr)(o:Obj)(u:HO)(ks:List V):It:=⟨fun i H=>H d=some (.frz o u)/\i<ks.length,fun i H x H'=>H'=H/\ks[i]?=some x,fun i H=>H d=some (.frz o u)/\ks.length<=i⟩
section
variable{X:Cx}{pins:List (Addr×Obj)}{σ:St}{H:Hp}{s:ye}
theorem Inv.freeze(I:Inv X pins σ H s)(e:H d=some u)(M:s.heap.get? d=some o)(B:∀xs,u≠.tup xs)(F:∀x,u≠.own x)(J:∀o v,u≠.frz o v)(G:∀ps,u≠.tbl ps):Inv X pins σ (upd H d (.frz o u)) s:=by
 have out:∀{b:Addr} {v:HO},H b=some v->v≠u->(upd H d (.frz o u)) b=some v:=fun {b v} q n=>by rw[A8 (AM q e n)]; exact q
 have hok:HOk X.prog X.w (upd H d (.frz o u)) s.heap:=fun a v q=>by
  by_cases ha:a=d
  ·subst ha;rw[A4] at q;cases q;exact⟨M,(I.hok a u e).stay (fun _ _ _ q=>q) (fun b q=>out q (y1k (F _))) fun b xs q=>out q (y1k (B _))⟩
  ·rw[A8 ha] at q;exact(I.hok a v q).stay (fun _ _ _ q=>q) (fun b q=>out q (y1k (F _))) fun b xs q=>out q (y1k (B _))
 obtain⟨h,O,R,tk,os⟩:=s;refine I.un (h':=h) (t':=tk) ⟨fun b z q n _ _=>q,fun b z q n _ _=>⟨z.slots,q⟩,fun b z q n _=>?_,fun b z q _=>⟨z,q⟩,fun b xs q=>out q (y1k (B _)),fun b z v q=>out q (y1k (J _ _)),fun b ps q=>⟨#[],by rw[out q (y1k (G _))]; simp⟩⟩ hok;rw[A8 (y1k (AS e n))];exact n
theorem VZ{P:yq}{w:y0h}{K:ya}{tg:Expr}{d F:Addr}{o:Obj}{u:HO}{ks:List V}{es:Array DictEntry}{ep:Nat}(od:o.data=.dict es ep)(hk:Paired (fun(v:V) (G:DictEntry)=>RelV v G.key) ks es.toList):Turn P w K tg (Itd d o u ks) [F] F (fun i h=>h.get? F=some (Fj d i es.size ep)) where
 mem:=by simp
 obj:=fun i h st b hb=>by
  have e:b=F:=by simpa using hb
  subst e;exact⟨_,st,fun v z=>by cases z⟩
 keep:=fun i h h' st k=>k F (by simp) _ st;item:=by
  intro X R hw U hc i pins s σ H E I hf st hg;subst R hw U;obtain⟨hd,hi⟩:=hg;obtain⟨M,_⟩:=(show ObjOk X.prog X.w H s.heap d (.frz o u) from I.hok d _ hd);obtain⟨f0,f1,f2,f3,f4,Z⟩:=hf F (by simp);have hl:ks.length=es.size:=by rw[hk.length]; simp
  refine Hz (I.ok.hd hc) st M od (fun h' G q sb B=>?_) (fun h' O _=>?_)
  ·have I1:Inv X pins σ H {s with heap:=h'}:=I.turned (t':=s.toks) (fun b ob hb e=>(sb.2 b hb).trans e) f0 f1 f3 f4 Z;obtain⟨v,J,rv⟩:∃v,ks[i]?=some v/\RelV v G.key:=by
    obtain⟨v,J⟩:∃v,ks[i]?=some v:=⟨ks[i],yk hi⟩;exact⟨v,J,(Ht hk).2 i v G J (by rw[y15]; exact q)⟩
   exact⟨_,rfl,Gf (s:={s with heap:=h'}) B rfl rfl (by decide) ⟨v,H,I1,rv,⟨rfl,J⟩,B,fun b hb=>(hf b hb).1⟩⟩
  ·rw[y2u (by lia)] at O;cases O
 done:=by
  intro X R hw U hc i pins s σ H E I hf st hg;subst R hw U;obtain⟨hd,hi⟩:=hg;obtain⟨M,_⟩:=(show ObjOk X.prog X.w H s.heap d (.frz o u) from I.hok d _ hd);obtain⟨f0,f1,f2,f3,f4,Z⟩:=hf F (by simp);have hl:ks.length=es.size:=by rw[hk.length]; simp
  refine Hz (I.ok.hd hc) st M od (fun h' G q sb B=>?_) (fun h' O eb=>?_)
  ·rw[y36 (by lia)] at q;cases q
  ·exact⟨rfl,I.turned (t':=s.toks) (fun b o hb e=>eb b o hb e) f0 f1 f3 f4 Z⟩
 self:=fun _ _ _ _ _ st h=>wpAny_pyIter_keyiter ⟨_,st,rfl,rfl⟩ h
theorem Rd.frozen(r:Rd H d u)(x:HOk P w H s.heap)(q:s.heap.get? d=some o):H d=some u\/upd H d (.frz o u)=H:=by
 rcases r with r|⟨o',r⟩
 ·exact .inl r
 ·obtain⟨e,_⟩:=(show ObjOk P w H s.heap d (.frz o' u) from x d _ r);rw[q] at e;cases e;refine .inr (funext fun b=>?_);by_cases hb:b=d
  ·rw[hb,A4,r]
  ·rw[A8 hb]
theorem Inv.frozen(I:Inv X pins σ H s)(r:Rd H d u)(q:s.heap.get? d=some o)(G:∀xs,u≠.tup xs)(F:∀x,u≠.own x)(B:∀o v,u≠.frz o v)(z:∀ps,u≠.tbl ps):Inv X pins σ (upd H d (.frz o u)) s:=by
 rcases r.frozen I.hok q with e|e
 ·exact I.freeze e q G F B z
 ·rw[e]; exact I
theorem OT{xs:List (List Key×Addr×yg)}{kvs:List (List Key×V)}:∀{kvs:List (List Key×V)} {xs:List (List Key×Addr×yg)},Paired (fun(p:List Key×V) (q:List Key×Addr×yg)=>p.1=q.1/\H q.2.1=some (.tup (p.1.map kV))/\RelV p.2 q.2.2) kvs xs->
  Paired (fun(kv:List Key×V) (a:Addr)=>H a=some (.tup (kv.1.map kV))) kvs (xs.map (·.2.1))/\Paired (fun(v:V) (z:DictEntry)=>RelV v z.key) ((xs.map (·.2.1)).map V.ref) (xs.map (entryOfKey (tupleKind (AQ X.prog X.w))))
 |[],_,.nil=>⟨.nil,.nil⟩
 |_::_,_::_,.cons r t=>let ⟨a,b⟩:=OT (xs:=[]) (kvs:=[]) t; ⟨.cons r.2.1 a,.cons rfl b⟩
end
section
variable{d:Addr}{o:Obj}{u:HO}{ks:List V}{g:TG}{tb:TS}{D:Ends}{σ:St}{H:Hp}{tt:TT}{te:TE}{Q:VK}
theorem Va(z:Nat->St->Hp->Prop)(U:z 0 σ H)(R:∀i σ H,i<=ks.length->z i σ H->H d=some (.frz o u))
  (O:∀i x σ H,ks[i]?=some x->z i σ H->g x σ H fun B H2=>tb {D with nx:=z (i+1),ct:=z (i+1),bk:=D.nx} B H2) (hd:∀ σ H,z ks.length σ H->D.nx σ H) :
  ∃W:Nat->Nat->St->Hp->Prop,(∃m,W 0 m σ H)/\∀i m σ H,W i m σ H->
   ((Itd d o u ks).stop i H/\D.nx σ H)\/((Itd d o u ks).go i H/\∃N:St->Hp->Prop,(∀ F H',N F H'->∃J,J<m/\W (i+1) J F H')/\∀x H',(Itd d o u ks).yld i H x H'->g x σ H' fun B H2=>tb {D with nx:=N,ct:=N,bk:=D.nx} B H2):=by
 refine⟨fun i m σ H=>m=ks.length-i/\i<=ks.length/\z i σ H,⟨ks.length,by simp,yo _,U⟩,?_⟩
 rintro i m σ H ⟨rfl,hi,p⟩
 have q:=R i σ H hi p
 by_cases G:i<ks.length
 ·refine .inr ⟨⟨q,G⟩,z (i+1),fun F H' M=>⟨ks.length-(i+1),by lia,rfl,G,M⟩,fun x H' y=>?_⟩
  obtain⟨e,y⟩:=y
  subst e
  exact O i x σ _ y p
 ·have e:i=ks.length:=by lia
  subst e
  exact .inl ⟨⟨q,yf _⟩,hd σ H p⟩
theorem Kb:∀a b:List Int,a≠b->ltI a b=true\/ltI b a=true
 |[],[],h=>absurd rfl h
 |[],_::_,_=>.inl rfl
 |_::_,[],_=>.inr rfl
 |x::a,y::b,h=>by
  unfold ltI;by_cases e:x=y
  ·subst e;simp only[if_pos];exact Kb a b fun z=>h (by rw[z])
  ·rw[if_neg e,if_neg (y1k e)];simp only[decide_eq_true_eq];lia
theorem Kc:∀{a b c:List Int},ltI a b=true->ltI b c=true->ltI a c=true
 |[],_::_,_::_,_,_=>rfl
 |[],[],_,h,_=>by simp[ltI] at h
 |_,_::_,[],_,h=>by simp[ltI] at h
 |_::_,[],_,h,_=>by simp[ltI] at h
 |x::a,y::b,z::c,h1,h2=>by
  unfold ltI at h1 h2 |-;by_cases q:x=y
  ·subst q;rw[if_pos rfl] at h1;by_cases e2:x=z
   ·subst e2;rw[if_pos rfl] at h2 |-;exact Kc h1 h2
   ·rw[if_neg e2] at h2 |-;exact h2
  ·rw[if_neg q] at h1;have F:=of_decide_eq_true h1;by_cases e2:y=z
   ·subst e2;rw[if_neg q];exact h1
   ·rw[if_neg e2] at h2;have B:=of_decide_eq_true h2;rw[if_neg (by lia)];exact decide_eq_true (by lia)
theorem OU{α:Type}(x:List Int×α):∀z:List (List Int×α),z.Pairwise (fun p q=>ltI p.1 q.1=true)->(∀y∈z,y.1≠x.1)->∃B:List (List Int×α),B.Perm (x::z)/\B.Pairwise (fun p q=>ltI p.1 q.1=true)
 |[],_,_=>⟨[x],.refl _,y2g _ _⟩
 |y::z,h,n=>by
  obtain⟨h1,h2⟩:=List.pairwise_cons.mp h;rcases Kb x.1 y.1 (y1k (n y (.head _))) with c|c
  ·exact⟨x::y::z,.refl _,List.pairwise_cons.mpr ⟨fun w hw=>by
    rcases List.mem_cons.mp hw with rfl|hw
    ·exact c
    ·exact Kc c (h1 w hw),h⟩⟩
  ·obtain⟨B,p,r⟩:=OU x z h2 fun w hw=>n w (.tail _ hw);refine⟨y::B,(p.cons y).trans (.swap ..),List.pairwise_cons.mpr ⟨fun w hw=>?_,r⟩⟩;rcases List.mem_cons.mp (p.mem_iff.mp hw) with rfl|hw
   ·exact c
   ·exact h1 w hw
theorem Kd{α:Type}:∀l:List (List Int×α),(l.map (·.1)).Nodup->∃z:List (List Int×α),z.Perm l/\z.Pairwise (fun p q=>ltI p.1 q.1=true)
 |[],_=>⟨[],.refl _,.nil⟩
 |x::l,h=>by
  obtain⟨h1,h2⟩:=List.nodup_cons.mp h;obtain⟨z,p,r⟩:=Kd l h2;obtain⟨B,G,F⟩:=OU x z r fun y hy e=>h1 (List.mem_map.mpr ⟨y,p.mem_iff.mp hy,e⟩);exact⟨B,G.trans (p.cons x),F⟩
end
section
variable{prog:yq}{w:y0h}{A:y0n}{E:yg->ye->Prop}{s:ye}{d:Addr}{es:Array DictEntry}{ep:Nat}{o:Obj}
theorem OV{Q:List yg->ye->Prop}(hh:A.handled=none)(lo:(d==sysModules)=false)(e:s.heap.get? d=some o)(x:o.ExactDict)(dd:o.data=.dict es ep)(hn:es.size<=ym)
  (q:∀(h':Heap) (tk:Nat),s.heap.objs.size<=h'.objs.size->(∀b u,s.heap.get? b=some u->h'.get? b=some u)->Q (es.toList.map (·.key)) {s with heap:=h',toks:=tk}):y0b (y06 prog w) A (collect (.ref d)) Q E s:=by
 have ld:=yl e
 unfold collect
 refine yb (wpAny_runValue (y3c PySem.F.entry_proto_collect ?_))
 rw[y2b PySem.F.plain_proto_collect]
 refine yb (y3a (yh ⟨y5m y2z _,y3c PySem.F.entry_list_iadd ?_⟩))
 rw[y2b y2z]
 have e0:(s.heap.push (y19 "list" #[] 0)).get? s.heap.objs.size=some (y19 "list" #[] 0):=yt _ rfl
 show y0b _ _ (Builtin.List.listExtendWith (.ref s.heap.objs.size) (.ref d) (.ref s.heap.objs.size)) _ _ {s with heap:=s.heap.push (y19 "list" #[] 0)}
 have fin:∀(v:Result) (s':ye),(∃(h':Heap) (tk:Nat) (acc:Array yg) (c:Nat),v=.ok (.ret (.ref s.heap.objs.size))/\s' = {s with heap:=h',toks:=tk}/\h'.get? s.heap.objs.size=some {cls:=.type "list",dict:=none,data:=.seq acc c,slots:=#[]}/\Q acc.toList {s with heap:=h',toks:=tk})->
   (match v with|.ok (.ret v)=>y0b (y06 prog w) A (match v with|.ref a=>(do match (<- load a).data with|.seq xs _=>pure xs.toList|_=>unsupported "internal:collect")|_=>unsupported "internal:collect") Q E s'|.ok _=>False|.error e=>E e s'):=by
  rintro v s' ⟨h',tk,acc,c,rfl,rfl,hS,hq⟩
  exact yb (wpAny_load hS (yh hq))
 refine y1l (kdl_extend (A:=A) (s:={s with heap:=s.heap.push (y19 "list" #[] 0)})
  (R:=fun v s'=>∃(h':Heap) (tk:Nat) (acc:Array yg) (c:Nat),v=.ok (.ret (.ref s.heap.objs.size))/\s' = {s with heap:=h',toks:=tk}/\h'.get? s.heap.objs.size=some {cls:=.type "list",dict:=none,data:=.seq acc c,slots:=#[]}/\Q acc.toList {s with heap:=h',toks:=tk})
  (OS (ep:=ep) (es:=es) lo) hh ⟨o,yd _ e,x,dd⟩ s.heap.objs.size (y25 ld) (y25 ld) (.ref s.heap.objs.size) 0 e0 (fun h' tk acc c hk hS hacc=>⟨h',tk,acc,c,rfl,rfl,hS,?_⟩) hn) (fun f s' z=>?_) (fun e s' z=>fin _ _ z)
 ·have ea:acc.toList=es.toList.map (·.key):=by
   refine y1o (by simp[hacc.1]) fun i h1 h2=>?_
   have hi:i<acc.size:=by simpa using h1
   obtain⟨en,h3,h4⟩:=hacc.2 i acc[i] (by simp[hi])
   have hi2:i<es.size:=by simpa using h2
   rw[y2u hi2] at h3
   cases h3
   simp[h4]
  rw[ea]
  exact q h' tk (y12 (yl hS)) (fun b u z=>hk b u (yz (yl z)) (yd _ z))
 ·cases f with
  |done f=>exact fin _ _ z
  |again c=>exact⟨z.1,y3n z.2 fun r s2 y=>fin r s2 y⟩
theorem Dl(H:Hp):∀p:List Int,DtA H (p.map V.int) (p.map Dm.int)
 |[]=>.nil
 |x::p=>.cons (.int x) (Dl H p)
end
theorem OW(I:Inv X pins σ H s)(h:H a=some (.tup (p.map V.int))):IsTupleKey (intKind X.prog X.w) s.heap p a:=by
 have:=(KO (ps:=[p]) (vs:=[.ref a]) I (.cons (.tup h (Dl H p)) .nil)).2.2 0 (show 0<1 by decide);exact this
theorem OX{H:Hp}:∀{kvs:List (List Key×V)} {ys:List (List Key×Addr×yg)} {ps:List (List Int)},Paired (fun(p:List Key×V) (q:List Key×Addr×yg)=>p.1=q.1/\H q.2.1=some (.tup (p.1.map kV))/\RelV p.2 q.2.2) kvs ys->kvs.map (·.1)=ps.map (·.map Sum.inl)->
  ps.length=ys.length/\ys.map (·.1)=ps.map (·.map Sum.inl)/\∀y∈ps.zip (ys.map (·.2.1)),H y.2=some (.tup (y.1.map V.int))
 |[],_,[],.nil,_=>⟨rfl,rfl,fun y h=>absurd h (by simp)⟩
 |[],_,_::_,.nil,h=>by simp at h
 |_::_,_::_,[],.cons _ _,h=>by simp at h
 |kv::kvs,y::ys,p::ps,.cons r t,h=>by
  rw[yj,yj] at h;injection h with h1 h2;obtain⟨l,e,m⟩:=OX t h2;refine⟨by rw[yu,yu,l],by rw[yj,yj,e,<- r.1,h1],fun x hx=>?_⟩;rw[yj,y1t] at hx;rcases List.mem_cons.mp hx with rfl|hx
  ·have:=r.2.1;rw[h1,y09] at this;exact this
  ·exact m x hx
section
variable{X:Cx}{pins:List (Addr×Obj)}{σ:St}{H:Hp}{s:ye}
end
section
variable{prog:yq}{w:y0h}{A:y0n}{E:yg->ye->Prop}{s:ye}{d:Addr}{es:Array DictEntry}{ep:Nat}{o:Obj}
end
section
variable{prog:yq}{w:y0h}{A:y0n}{E:yg->ye->Prop}{s:ye}{κ:SortKind}{rk:Keyed->Nat}{S:Keyed->Prop}
def CmpL(prog:yq)(w:y0h)(A:y0n)(s:ye)(κ:SortKind)(rk:Keyed->Nat)(S:Keyed->Prop):Prop:=∀x y:Keyed,S x->S y->∀Q:Bool->ye->Prop,Q (decide (rk x<rk y)) s->y0b (y06 prog w) A (keyLt' κ x.1 y.1) Q (fun _ _=>False) s
theorem Fk{x y:Keyed}{st:SortSt}{Q:Option Bool->SortSt->Prop}(C:CmpL prog w A s κ rk S)(hk:y1s st=κ)(hx:S x)(hy:S y)(h:Q (some (decide (rk x<rk y))) st):wpS (y06 prog w) A E s (lt' x y) Q st:=by
 rw[lt'_eq];refine yr (y58 ?_);rw[hk];refine yr (wpS_lift (y4x (y1l (C x y hx hy (fun b s'=>s'=s/\b=decide (rk x<rk y)) ⟨rfl,rfl⟩) (fun b s' hb=>?_) fun _ _ e=>e.elim)));obtain⟨rfl,rfl⟩:=hb;exact⟨rfl,y01 h⟩
theorem Av{xs:Array Keyed}{i:Nat}{x:Keyed}{st:SortSt}{Q:Keyed->SortSt->Prop}(hi:xs[i]?=some x)(h:Q x st):wpS (y06 prog w) A E s (elem' xs i) Q st:=by
 rw[elem'_eq,hi];exact y01 h
theorem Ed{r:String}{st:SortSt}{Q:Unit->SortSt->Prop}(h:Q () st):wpS (y06 prog w) A E s (liftM (rule r):StateT SortSt Sem Unit) Q st:=wpS_lift (y3z ⟨rfl,h⟩)
noncomputable def Ce:Bool->Keyed->Array Keyed->Nat->Nat->Nat->StateT SortSt Sem (Option Nat):=sortPriv% PySem.Builtin.gallop
noncomputable def Cf(left:Bool)(key:Keyed)(arr:Array Keyed)(bs:Nat)(i:Nat):StateT SortSt Sem (Option Bool):=do
 let x <- elem' arr (bs+i)
 if left then lt' x key else return (<- lt' key x).map (!·)
theorem Vb(lf:Bool)(key:Keyed)(xs:Array Keyed)(bs n hint:Nat):Ce lf key xs bs n hint=(do
 let mut la:=0
 let mut of:=1
 let mut lo:=0
 let mut hi:=0
 let some right <- Cf lf key xs bs hint|return none
 if right then
  let mx:=n-hint
  for _ in [0:n] do
   if of ≥ mx then break
   let some more <- Cf lf key xs bs (hint+of)|return none
   if !more then break
   la:=of
   of:=2*of+1
  lo:=hint+la+1
  hi:=hint+min of mx
 else
  let mx:=hint+1
  for _ in [0:n] do
   if of ≥ mx then break
   let some found <- Cf lf key xs bs (hint-of)|return none
   if found then break
   la:=of
   of:=2*of+1
  lo:=hint+1-min of mx
  hi:=hint-la
 for _ in [0:n] do
  if lo ≥ hi then break
  let m:=lo+(hi-lo) / 2
  let some more <- Cf lf key xs bs m|return none
  if more then lo:=m+1 else hi:=m
 return some hi):=rfl
noncomputable def byK(rk:Keyed->Nat)(q:Bool)(key x:Keyed):Bool:=if q=true then decide (rk x<rk key) else !decide (rk key<rk x)
theorem Vc{q:Bool}{key x:Keyed}{xs:Array Keyed}{F i:Nat}{st:SortSt}{Q:Option Bool->SortSt->Prop}(C:CmpL prog w A s κ rk S)(hk:y1s st=κ)(hx:xs[F+i]?=some x)(B:S x)(z:S key)(h:Q (some (byK rk q key x)) st):wpS (y06 prog w) A E s (Cf q key xs F i) Q st:=by
 unfold Cf;refine yr (Av hx ?_);cases q with
 |true=>exact Fk C hk B z h
 |false=>exact yr (Fk C hk z B (y01 h))
noncomputable def OY(lf:Bool)(key:Keyed)(xs:Array Keyed)(bs n lo0 hi0:Nat):StateT SortSt Sem (Option Nat):=do
 let mut lo:=lo0
 let mut hi:=hi0
 for _ in [0:n] do
  if lo ≥ hi then break
  let m:=lo+(hi-lo) / 2
  let some more <- Cf lf key xs bs m|return none
  if more then lo:=m+1 else hi:=m
 return some hi
theorem OZ{J:Bool}{key:Keyed}{xs:Array Keyed}{M n lo hi:Nat}{f:Nat->Bool}{st:SortSt}{Q:Option Nat->SortSt->Prop}(Z:∀i,i<n->∀O:Option Bool->SortSt->Prop,O (some (f i)) st->wpS (y06 prog w) A E s (Cf J key xs M i) O st)
  (hm:∀i j,i<=j->j<n->f j=true->f i=true) (h1:lo<=hi) (h2:hi<=n) (U:∀i,i<lo->f i=true) (hu:∀i,hi<=i->i<n->f i=false) (h:∀r,r<=n->(∀i,i<r->f i=true)->(∀i,r<=i->i<n->f i=false)->Q (some r) st):wpS (y06 prog w) A E s (OY J key xs M n lo hi) Q st:=by
 unfold OY;refine yr (y1h (y1a (I:=fun x c q=>q=st/\∃l u,c=(none,l,u)/\l<=u/\u<=n/\u-l<=n-x/\(∀i,i<l->f i=true)/\∀i,u<=i->i<n->f i=false)
  (Q:=fun c q=>q=st/\∃u,c=(none,u,u)/\u<=n/\(∀i,i<u->f i=true)/\∀i,u<=i->i<n->f i=false) ?t ?fin ⟨rfl,lo,hi,rfl,h1,h2,by lia,U,hu⟩) ?post)
 case post=>
  rintro c q ⟨rfl,u,rfl,G,z,a3⟩;exact y01 (h u G z a3)
 case fin=>
  rintro c q ⟨rfl,l,u,rfl,G,z,a3,a4,F⟩;obtain rfl:l=u:=by lia
  exact⟨rfl,l,rfl,z,a4,F⟩
 case t=>
  rintro x c q _ hx ⟨rfl,l,u,rfl,G,z,a3,a4,F⟩;dsimp only;by_cases B:l ≥ u
  ·rw[if_pos B];obtain rfl:l=u:=by lia
   exact y01 ⟨rfl,l,rfl,z,a4,F⟩
  ·rw[if_neg B];refine yr (Z _ (by lia) _ ?_);cases e:f (l+(u-l) / 2) with
   |true=>
    exact y01 ⟨rfl,_,u,rfl,by lia,z,by lia,fun i hi=>hm i _ (by lia) (by lia) e,F⟩
   |false=>
    refine y01 ⟨rfl,l,_,rfl,by lia,by lia,by lia,a4,fun i hi R=>?_⟩;cases e2:f i with
    |false=>rfl
    |true=>rw[hm _ i hi R e2] at e; cases e
theorem Vd{lf:Bool}{key:Keyed}{xs:Array Keyed}{bs n q:Nat}{f:Nat->Bool}{st:SortSt}{Q:Option Nat->SortSt->Prop}(R:∀i,i<n->∀Q':Option Bool->SortSt->Prop,Q' (some (f i)) st->wpS (y06 prog w) A E s (Cf lf key xs bs i) Q' st)
  (hm:∀i j,i<=j->j<n->f j=true->f i=true) (hh:q<n) (h:∀r,r<=n->(∀i,i<r->f i=true)->(∀i,r<=i->i<n->f i=false)->Q (some r) st):wpS (y06 prog w) A E s (Ce lf key xs bs n q) Q st:=by
 rw[Vb];have Z:∀i j,i<=j->j<n->f i=false->f j=false:=fun i j h1 h2 e=>by
  cases e2:f j with
  |false=>rfl
  |true=>rw[hm i j h1 h2 e2] at e; cases e
 refine yr (R q hh _ ?_);cases e:f q with
 |true=>
  dsimp only;rw[if_pos rfl];refine yr (y1h (y1a (I:=fun x c G=>G=st/\∃F B,c=(none,F,B)/\x<B/\F<B/\q+F<n/\f (q+F)=true)
   (Q:=fun c G=>G=st/\∃F B,c=(none,F,B)/\F<B/\q+F<n/\f (q+F)=true/\(n-q<=B\/f (q+B)=false)) ?t ?fin ⟨rfl,0,1,rfl,by lia,by lia,hh,e⟩) ?post)
  case post=>
   rintro c G ⟨rfl,F,B,rfl,O,M,a3,a4⟩;refine OZ (lo:=q+F+1) (hi:=q+min B (n-q)) R hm (by lia) (by lia) (fun i hi=>hm i _ (by lia) M a3) (fun i hi U=>?_) h;rcases a4 with z|z
   ·lia
   ·exact Z _ i (by lia) U z
  case fin=>
   rintro c G ⟨rfl,F,B,rfl,a0,O,M,a3⟩;exact⟨rfl,F,B,rfl,O,M,a3,.inl (by lia)⟩
  case t=>
   rintro x c G _ hx ⟨rfl,F,B,rfl,a0,O,M,a3⟩;dsimp only;by_cases J:B ≥ n-q
   ·rw[if_pos J];exact y01 ⟨rfl,F,B,rfl,O,M,a3,.inl J⟩
   ·rw[if_neg J];refine yr (R _ (by lia) _ ?_);cases e2:f (q+B) with
    |false=>exact y01 ⟨rfl,F,B,rfl,O,M,a3,.inr e2⟩
    |true=>exact y01 ⟨rfl,B,2*B+1,rfl,by lia,by lia,by lia,e2⟩
 |false=>
  dsimp only;rw[if_neg (by decide)];refine yr (y1h (y1a (I:=fun x c G=>G=st/\∃F B,c=(none,F,B)/\x<B/\F<B/\F<=q/\f (q-F)=false)
   (Q:=fun c G=>G=st/\∃F B,c=(none,F,B)/\F<B/\F<=q/\f (q-F)=false/\(q+1<=B\/f (q-B)=true)) ?t ?fin ⟨rfl,0,1,rfl,by lia,by lia,by lia,e⟩) ?post)
  case post=>
   rintro c G ⟨rfl,F,B,rfl,O,M,a3,a4⟩;refine OZ (lo:=q+1-min B (q+1)) (hi:=q-F) R hm (by lia) (by lia) (fun i hi=>?_) (fun i hi U=>Z _ i hi U a3) h;rcases a4 with z|z
   ·lia
   ·exact hm i _ (by lia) (by lia) z
  case fin=>
   rintro c G ⟨rfl,F,B,rfl,a0,O,M,a3⟩;exact⟨rfl,F,B,rfl,O,M,a3,.inl (by lia)⟩
  case t=>
   rintro x c G _ hx ⟨rfl,F,B,rfl,a0,O,M,a3⟩;dsimp only;by_cases J:B ≥ q+1
   ·rw[if_pos J];exact y01 ⟨rfl,F,B,rfl,O,M,a3,.inl J⟩
   ·rw[if_neg J];refine yr (R _ (by lia) _ ?_);cases e2:f (q-B) with
    |true=>exact y01 ⟨rfl,F,B,rfl,O,M,a3,.inr e2⟩
    |false=>exact y01 ⟨rfl,B,2*B+1,rfl,by lia,by lia,by lia,e2⟩
end
section
variable{rk:Keyed->Nat}{X Y o:List Keyed}{i j k:Nat}
def Up(rk:Keyed->Nat)(l:List Keyed):Prop:=l.Pairwise fun x y=>rk x<=rk y
structure MI(rk:Keyed->Nat)(X Y o:List Keyed)(i j:Nat):Prop where
 pm:(o++X.drop i++Y.drop j).Perm (X++Y)
 so:Up rk o
 la:∀x∈o,∀y∈X.drop i,rk x<=rk y
 lb:∀x∈o,∀y∈Y.drop j,rk x<=rk y
theorem Up.drop(h:Up rk X)(i:Nat):Up rk (X.drop i):=y31 (List.drop_sublist i X) h
theorem Up.split(h:Up rk X)(k:Nat):∀x∈X.take k,∀y∈X.drop k,rk x<=rk y:=by
 have e:=y1f k X;unfold Up at h;rw[<- e] at h;exact(List.pairwise_append.mp h).2.2
theorem MI.moveA(h:MI rk X Y o i j)(u:Up rk X)(hk:∀x∈(X.drop i).take k,∀y∈Y.drop j,rk x<=rk y):MI rk X Y (o++(X.drop i).take k) (i+k) j:=by
 have e:(X.drop i).drop k=X.drop (i+k):=y54;have sp:=(u.drop i).split k;rw[e] at sp;have sub:∀y∈X.drop (i+k),y∈X.drop i:=fun y hy=>by rw[<- e] at hy; exact y2r hy
 refine⟨?_,List.pairwise_append.mpr ⟨h.so,y31 (y49 k _) (u.drop i),fun x hx y hy=>h.la x hx y (y1n hy)⟩,fun x hx y hy=>?_,fun x hx y hy=>?_⟩
 ·have:=h.pm;rw[<- y1f k (X.drop i),e] at this;simpa [yn] using this
 ·rcases List.mem_append.mp hx with hx|hx
  ·exact h.la x hx y (sub y hy)
  ·exact sp x hx y hy
 ·rcases List.mem_append.mp hx with hx|hx
  ·exact h.lb x hx y hy
  ·exact hk x hx y hy
theorem MI.moveB(h:MI rk X Y o i j)(u:Up rk Y)(hk:∀y∈(Y.drop j).take k,∀x∈X.drop i,rk y<=rk x):MI rk X Y (o++(Y.drop j).take k) i (j+k):=by
 have e:(Y.drop j).drop k=Y.drop (j+k):=y54;have sp:=(u.drop j).split k;rw[e] at sp;have sub:∀y∈Y.drop (j+k),y∈Y.drop j:=fun y hy=>by rw[<- e] at hy; exact y2r hy
 refine⟨?_,List.pairwise_append.mpr ⟨h.so,y31 (y49 k _) (u.drop j),fun x hx y hy=>h.lb x hx y (y1n hy)⟩,fun x hx y hy=>?_,fun x hx y hy=>?_⟩
 ·have:=h.pm;rw[<- y1f k (Y.drop j),e] at this;refine List.Perm.trans ?_ this;rw[yn,yn,yn];refine y4l o ?_;rw[<- yn,<- yn];exact y48 _ y3f
 ·rcases List.mem_append.mp hx with hx|hx
  ·exact h.la x hx y hy
  ·exact hk x hx y hy
 ·rcases List.mem_append.mp hx with hx|hx
  ·exact h.lb x hx y (sub y hy)
  ·exact sp x hx y hy
theorem I0(h:X[i]?=some x):(X.drop i).take 1=[x]:=by
 obtain⟨hi,e⟩:=zzS h;rw[y28 hi,e,List.take_succ_cons,y26]
theorem MI.pushA(h:MI rk X Y o i j)(u:Up rk X)(hx:X[i]?=some x)(hk:∀y∈Y.drop j,rk x<=rk y):MI rk X Y (o++[x]) (i+1) j:=by
 have:=h.moveA (k:=1) u (by rw[I0 hx]; intro z hz; rw[List.mem_singleton.mp hz]; exact hk);rwa [I0 hx] at this
theorem MI.pushB(h:MI rk X Y o i j)(u:Up rk Y)(hy:Y[j]?=some y)(hk:∀x∈X.drop i,rk y<=rk x):MI rk X Y (o++[y]) i (j+1):=by
 have:=h.moveB (k:=1) u (by rw[I0 hy]; intro z hz; rw[List.mem_singleton.mp hz]; exact hk);rwa [I0 hy] at this
def Mg(rk:Keyed->Nat)(X Y r:List Keyed):Prop:=r.Perm (X++Y)/\Up rk r
theorem MI.done(h:MI rk X Y o i j)(u:Up rk X)(v:Up rk Y)(hk:∀x∈X.drop i,∀y∈Y.drop j,rk x<=rk y):Mg rk X Y (o++X.drop i++Y.drop j):=by
 refine⟨h.pm,List.pairwise_append.mpr ⟨List.pairwise_append.mpr ⟨h.so,u.drop i,h.la⟩,v.drop j,fun x hx y hy=>?_⟩⟩;rcases List.mem_append.mp hx with hx|hx
 ·exact h.lb x hx y hy
 ·exact hk x hx y hy
theorem MI.last(h:MI rk X Y o i j)(u:Up rk X)(v:Up rk Y)(hk:∀x∈X.drop i,∀y∈Y.drop j,rk y<=rk x):Mg rk X Y (o++Y.drop j++X.drop i):=by
 refine⟨List.Perm.trans ?_ h.pm,List.pairwise_append.mpr ⟨List.pairwise_append.mpr ⟨h.so,v.drop j,h.lb⟩,u.drop i,fun x hx y hy=>?_⟩⟩
 ·rw[yn,yn];exact y4l o y3f
 ·rcases List.mem_append.mp hx with hx|hx
  ·exact h.la x hx y hy
  ·exact hk y hy x hx
theorem MI.init:MI rk X Y [] 0 0:=⟨by simp,List.Pairwise.nil,fun x hx=>absurd hx (by simp),fun x hx=>absurd hx (by simp)⟩
theorem Up.from(u:Up rk X)(hx:X[i]?=some x)(hy:y∈X.drop i):rk x<=rk y:=by
 obtain⟨hi,e⟩:=zzS hx;rw[y28 hi,e] at hy;rcases List.mem_cons.mp hy with rfl|hy
 ·exact yf _
 ·have:=u.drop i;unfold Up at this;rw[y28 hi,e] at this;exact(List.pairwise_cons.mp this).1 y hy
theorem Ve(h:x∈(X.drop i).take k):∃m,m<k/\X[i+m]?=some x:=by
 obtain⟨m,hm,e⟩:=y1q h;rw[y04,y1v] at hm;refine⟨m,by lia,?_⟩;rw[y4c,y4d] at e;rw[<- e];exact yk (by lia)
theorem Fl(h:x∈X.drop i):∃m,i+m<X.length/\X[i+m]?=some x:=by
 obtain⟨m,hm,e⟩:=y1q h;rw[y1v] at hm;refine⟨m,by lia,?_⟩;rw[y4d] at e;rw[<- e];exact yk (by lia)
theorem Up.at(u:Up rk X)(hx:X[i]?=some x)(hy:X[j]?=some y)(h:i<=j):rk x<=rk y:=by
 refine u.from hx ?_;obtain⟨q,e⟩:=zzS hy;rw[List.mem_iff_getElem];refine⟨j-i,by rw[y1v]; lia,?_⟩;rw[y4d,<- e];congr 1;lia
end
theorem CQ{a:Array Keyed}{i j:Nat}:(a.extract i j).toList=(a.toList.drop i).take (j-i):=by
 rw[Array.toList_extract,List.extract_eq_drop_take]
theorem I8{a:Array Keyed}{i:Nat}:(a.extract i a.size).toList=a.toList.drop i:=by
 rw[CQ,List.take_of_length_le (by rw[y1v,yi]; exact yf _)]
noncomputable def Ke:Array Keyed->Array Keyed->StateT SortSt Sem (Array Keyed):=sortPriv% PySem.Builtin.mergeLo
noncomputable def Fm:Nat->StateT SortSt Sem Unit:=sortPriv% PySem.Builtin.setMinGallop
abbrev St6:=Option (Array Keyed)×Array Keyed×Nat×Nat×Nat×Nat
abbrev St7:=Option (Array Keyed)×Array Keyed×Nat×Nat×Nat×Nat×Nat
noncomputable def lo0(a b:Array Keyed)(g:Nat)(o:Array Keyed)(i j u v:Nat):StateT SortSt Sem (ForInStep St6):=do
 let some bw <- lt' (<- elem' b j) (<- elem' a i)|return .done (some (o++a.extract i a.size++b.extract j b.size),o,i,j,u,v)
 if bw then
  let y <- elem' b j
  if j+1==b.size then return .done (some (o.push y++a.extract i a.size++b.extract (j+1) b.size),o.push y,i,j+1,0,v+1)
  if v+1 ≥ g then return .done (none,o.push y,i,j+1,0,v+1)
  return .yield (none,o.push y,i,j+1,0,v+1)
 else
  let x <- elem' a i
  if i+1+1==a.size then return .done (some (o.push x++b.extract j b.size++a.extract (i+1) a.size),o.push x,i+1,j,u+1,0)
  if u+1 ≥ g then return .done (none,o.push x,i+1,j,u+1,0)
  return .yield (none,o.push x,i+1,j,u+1,0)
noncomputable def lo4(a b o:Array Keyed)(i j g u v:Nat):StateT SortSt Sem (ForInStep St7):=do
 let x <- elem' a i
 if i+1+1==a.size then return .done (some (o.push x++b.extract j b.size++a.extract (i+1) a.size),o.push x,i+1,j,g,u,v)
 if u<7&&v<7 then return .done (none,o.push x,i+1,j,g,u,v)
 return .yield (none,o.push x,i+1,j,g,u,v)
noncomputable def lo3(a b o:Array Keyed)(i j g u v:Nat):StateT SortSt Sem (ForInStep St7):=do
 let some k <- Ce true (<- elem' a i) b j (b.size-j) 0|return .done (some (o++a.extract i a.size++b.extract j b.size),o,i,j,g,u,v)
 if k>0 then
  if j+k==b.size then return .done (some (o++b.extract j (j+k)++a.extract i a.size++b.extract (j+k) b.size),o++b.extract j (j+k),i,j+k,g,u,k)
  lo4 a b (o++b.extract j (j+k)) i (j+k) g u k
 else lo4 a b o i j g u k
noncomputable def lo2(a b o:Array Keyed)(i j g u v:Nat):StateT SortSt Sem (ForInStep St7):=do
 let y <- elem' b j
 if j+1==b.size then return .done (some (o.push y++a.extract i a.size++b.extract (j+1) b.size),o.push y,i,j+1,g,u,v)
 lo3 a b (o.push y) i (j+1) g u v
noncomputable def lo1(a b o:Array Keyed)(i j g u v:Nat):StateT SortSt Sem (ForInStep St7):=do
 Fm g
 let some k <- Ce false (<- elem' b j) a i (a.size-i) 0|return .done (some (o++a.extract i a.size++b.extract j b.size),o,i,j,g,u,v)
 if k>0 then
  if i+k+1==a.size then return .done (some (o++a.extract i (i+k)++b.extract j b.size++a.extract (i+k) a.size),o++a.extract i (i+k),i+k,j,g,k,v)
  if i+k==a.size then return .done (some (o++a.extract i (i+k)++a.extract (i+k) a.size++b.extract j b.size),o++a.extract i (i+k),i+k,j,g,k,v)
  lo2 a b (o++a.extract i (i+k)) (i+k) j g k v
 else lo2 a b o i j g k v
abbrev St5:=Option (Array Keyed)×Array Keyed×Nat×Nat×Nat
noncomputable def loO(a b o:Array Keyed)(i j g:Nat):StateT SortSt Sem (ForInStep St5):=do
  let t <- forIn [0:a.size+b.size] ((none,o,i,j,0,0):St6) fun _ t=>lo0 a b g t.2.1 t.2.2.1 t.2.2.2.1 t.2.2.2.2.1 t.2.2.2.2.2
  match t.1 with
  |some r=>return .done (some r,t.2.1,t.2.2.1,t.2.2.2.1,g)
  |none=>
   rule "list.sort.gallop"
   let t <- forIn [0:a.size+b.size] ((none,t.2.1,t.2.2.1,t.2.2.2.1,g+1,t.2.2.2.2.1,t.2.2.2.2.2):St7) fun _ t=>
    if t.2.2.2.2.1>1 then lo1 a b t.2.1 t.2.2.1 t.2.2.2.1 (t.2.2.2.2.1-1) t.2.2.2.2.2.1 t.2.2.2.2.2.2 else lo1 a b t.2.1 t.2.2.1 t.2.2.2.1 t.2.2.2.2.1 t.2.2.2.2.2.1 t.2.2.2.2.2.2
   match t.1 with
   |some r=>return .done (some r,t.2.1,t.2.2.1,t.2.2.2.1,t.2.2.2.2.1)
   |none=>
    Fm (t.2.2.2.2.1+1)
    return .yield (none,t.2.1,t.2.2.1,t.2.2.2.1,t.2.2.2.2.1+1)
noncomputable def Kf(a b:Array Keyed)(y:Keyed)(g:Nat):StateT SortSt Sem (Array Keyed):=do
 let t <- forIn [0:a.size+b.size] ((none,#[y],0,1,g):St5) fun _ t=>loO a b t.2.1 t.2.2.1 t.2.2.2.1 t.2.2.2.2
 match t.1 with
 |some r=>return r
 |none=>unsupported "internal:list.sort.merge-bound"
theorem Ee{α q:Type}{x y:StateT SortSt Sem α}{f g:α->StateT SortSt Sem q}(h:x=y)(k:∀a,f a=g a):x >>= f=y >>= g:=by rw[h]; exact congrArg _ (funext k)
theorem Oa{q:Type}{n:Nat}{c:q}{f g:Nat->q->StateT SortSt Sem (ForInStep q)}(h:∀x t,f x t=g x t):forIn [0:n] c f=forIn [0:n] c g:=by rw[show f=g from funext fun x=>funext (h x)]
theorem Vf(a b:Array Keyed):Ke a b=(do
 rule "list.sort.merge-lo"
 let y <- elem' b 0
 if 1==b.size then return #[y]++a.extract 0 a.size++b.extract 1 b.size
 if 0+1==a.size then return #[y]++b.extract 1 b.size++a.extract 0 a.size
 Kf a b y (gallopOf (<- get))):=by
 refine bind_congr fun _=>?_
 refine bind_congr fun y=>?_
 refine ite_congr rfl (fun _=>rfl) fun _=>?_
 refine ite_congr rfl (fun _=>rfl) fun _=>?_
 ··refine bind_congr fun z=>?_
   unfold Kf
   refine Ee (Oa fun x t=>?_) fun t=>?_
   ·unfold loO
    refine Ee ?_ fun t=>?_
    ·rfl
    ·obtain⟨r,o,i,j,u,v⟩:=t
     cases r with
     |some r=>rfl
     |none=>
      refine bind_congr fun _=>?_
      refine Ee ?_ fun t=>?_
      ·rfl
      ·obtain⟨r,o,i,j,g,u,v⟩:=t
       cases r with
       |some r=>rfl
       |none=>rfl
   ·obtain⟨r,t⟩:=t
    cases r with
    |some r=>rfl
    |none=>rfl
section
variable{prog:yq}{w:y0h}{A:y0n}{E:yg->ye->Prop}{s:ye}{κ:SortKind}{rk:Keyed->Nat}{S:Keyed->Prop}
def SG(st q:SortSt):Prop:=y1s q=y1s st/\y02 q=y02 st/\y03 q=y03 st/\failedOf q=failedOf st
theorem SG.refl(st:SortSt):SG st st:=⟨rfl,rfl,rfl,rfl⟩
theorem I9{g:Nat}{st st0:SortSt}{Q:Unit->SortSt->Prop}(hg:SG st0 st)(h:∀q,SG st0 q->Q () q):wpS (y06 prog w) A E s (Fm g) Q st:=by
 show wpS (y06 prog w) A E s (modify fun t=>SortSt.mk' (y1s t) (y02 t) (y03 t) g (failedOf t)) Q st;exact y5n (h _ hg)
theorem Vg{q:Bool}{key x y:Keyed}(h:rk x<=rk y)(b:byK rk q key y=true):byK rk q key x=true:=by
 unfold byK at b |-;cases q with
 |true=>
  have z:rk y<rk key:=by simpa using b
  simp;lia
 |false=>
  have z:rk y<=rk key:=by simpa using b
  simp;lia
theorem Ar{xs:Array Keyed}{i:Nat}(h:i<xs.size):∃x,xs[i]?=some x/\xs.toList[i]?=some x/\x∈xs.toList:=⟨xs[i],by simp,by simp,by simp⟩
theorem Ef{G:Bool}{key:Keyed}{xs:Array Keyed}{z n B:Nat}{st:SortSt}{Q:Option Nat->SortSt->Prop}(C:CmpL prog w A s κ rk S)(hk:y1s st=κ)(R:∀x∈xs.toList,S x)(U:S key)(O:∀i j x y,z<=i->i<=j->j<z+n->xs.toList[i]?=some x->xs.toList[j]?=some y->rk x<=rk y)(hn:z+n<=xs.size)(hh:B<n)
  (h:∀r,r<=n->(∀x∈(xs.toList.drop z).take r,byK rk G key x=true)->(∀i x,r<=i->i<n->xs.toList[z+i]?=some x->byK rk G key x=false)->Q (some r) st):wpS (y06 prog w) A E s (Ce G key xs z n B) Q st:=by
 have F:∀i,i<n->∃x,xs[z+i]?=some x/\xs.toList[z+i]?=some x/\x∈xs.toList:=fun i hi=>Ar (by lia);refine Vd (f:=fun i=>match xs.toList[z+i]? with|some x=>byK rk G key x|none=>false) (fun i hi Q' q=>?_) (fun i j fc Z e=>?_) hh fun r hr h1 h2=>h r hr (fun x hx=>?_) fun i x hi J hx=>?_
 ·obtain⟨x,e1,e2,m⟩:=F i hi;refine Vc C hk e1 (R x m) U ?_;simp only[e2] at q;exact q
 ·obtain⟨x,_,e2,_⟩:=F i (by lia);obtain⟨y,_,M,_⟩:=F j Z;simp only[e2,M] at e |-;exact Vg (O _ _ x y (by lia) (by lia) (by lia) e2 M) e
 ·obtain⟨m,hm,e⟩:=Ve hx;have:=h1 m hm;simp only[e] at this;exact this
 ·have:=h2 i hi J;simp only[hx] at this;exact this
structure LoH(prog:yq)(w:y0h)(A:y0n)(s:ye)(κ:SortKind)(rk:Keyed->Nat)(S:Keyed->Prop)(a b:Array Keyed):Prop where
 C:CmpL prog w A s κ rk S
 sa:∀x∈a.toList,S x
 sb:∀x∈b.toList,S x
 ua:Up rk a.toList
 ub:Up rk b.toList
 hl:∀x,a.toList[a.size-1]?=some x->∀y∈b.toList,rk y<=rk x
def LoP{q:Type}(rk:Keyed->Nat)(a b:Array Keyed)(st0:SortSt)(m:Nat)(c:Option (Array Keyed)×Array Keyed×Nat×Nat×q)(st:SortSt):Prop:=SG st0 st/\((∃x,c.1=some x/\Mg rk a.toList b.toList x.toList)\/(c.1=none/\MI rk a.toList b.toList c.2.1.toList c.2.2.1 c.2.2.2.1/\c.2.2.1+1<a.size/\c.2.2.2.1<b.size/\m<=c.2.2.1+c.2.2.2.1))
def LoB{q:Type}(rk:Keyed->Nat)(a b:Array Keyed)(st0:SortSt)(m:Nat)(r:ForInStep (Option (Array Keyed)×Array Keyed×Nat×Nat×q))(st:SortSt):Prop:=∃c,(r=.done c\/r=.yield c/\c.1=none)/\LoP rk a b st0 m c st
section
variable{a b o:Array Keyed}{i j g u v m:Nat}{st st0:SortSt}(h:LoH prog w A s κ rk S a b)
include h
theorem LoH.lastA(hi:i+1=a.size):∀x∈a.toList.drop i,∀y∈b.toList.drop j,rk y<=rk x:=by
 intro x hx y hy;obtain⟨m,hm,e⟩:=Fl hx;rw[yi] at hm;rw[show i+m=a.size-1 by lia] at e;exact h.hl x e y (y2r hy)
theorem LoH.fin{q:Type}{t:q}(z:SG st0 st)(B:MI rk a.toList b.toList o.toList i j)(hi:i+1=a.size):LoP rk a b st0 m (some (o++b.extract j b.size++a.extract i a.size),o,i,j,t) st:=by
 refine⟨z,.inl ⟨_,rfl,?_⟩⟩;rw[y0y,y0y,I8,I8];exact B.last h.ua h.ub (h.lastA hi)
theorem LoH.dn{q:Type}{t:q}(z:SG st0 st)(B:MI rk a.toList b.toList o.toList i j)(hi:i=a.size\/j=b.size):LoP rk a b st0 m (some (o++a.extract i a.size++b.extract j b.size),o,i,j,t) st:=by
 refine⟨z,.inl ⟨_,rfl,?_⟩⟩;rw[y0y,y0y,I8,I8];refine B.done h.ua h.ub fun x hx y hy=>?_;rcases hi with rfl|rfl
 ·obtain⟨m,hm,_⟩:=Fl hx;rw[yi] at hm;lia
 ·obtain⟨m,hm,_⟩:=Fl hy;rw[yi] at hm;lia
theorem Ob(z:SG st0 st)(G:MI rk a.toList b.toList o.toList i j)(hi:i+1<a.size)(B:j<b.size)(hx:∀x,a.toList[i]?=some x->∀y∈b.toList.drop j,rk x<=rk y)(hm:m<=i+1+j):wpS (y06 prog w) A E s (lo4 a b o i j g u v) (LoB rk a b st0 m) st:=by
 unfold lo4;obtain⟨x,J,e2,M⟩:=Ar (xs:=a) (i:=i) (by lia);refine yr (Av J ?_);have q:MI rk a.toList b.toList (o.push x).toList (i+1) j:=by
  rw[y1p];exact G.pushA h.ua e2 (hx x e2)
 by_cases c:i+1+1=a.size
 ·rw[if_pos (by simpa using c)];exact y01 ⟨_,.inl rfl,h.fin z q c⟩
 ·rw[if_neg (by simpa using c)];by_cases F:(decide (u<7)&&decide (v<7))=true
  ·rw[if_pos F];exact y01 ⟨_,.inl rfl,z,.inr ⟨rfl,q,by show i+1+1<a.size; lia,B,hm⟩⟩
  ·rw[if_neg F];exact y01 ⟨_,.inr ⟨rfl,rfl⟩,z,.inr ⟨rfl,q,by show i+1+1<a.size; lia,B,hm⟩⟩
theorem Vh(hk:y1s st=κ)(G:SG st0 st)(Z:MI rk a.toList b.toList o.toList i j)(hi:i+1<a.size)(hj:j<b.size)(hm:m<=i+j):wpS (y06 prog w) A E s (lo3 a b o i j g u v) (LoB rk a b st0 m) st:=by
 unfold lo3;obtain⟨x,e1,e2,mx⟩:=Ar (xs:=a) (i:=i) (by lia);refine yr (Av e1 ?_);refine yr (Ef h.C hk h.sb (h.sa x mx) (fun i j x y _ O _ ex ey=>h.ub.at ex ey O) (by lia) (by lia) fun k fc M R=>?_);have B:∀y∈b.toList.drop (j+k),rk x<=rk y:=fun y hy=>by
  obtain⟨m,hm,e⟩:=Fl hy;rw[yi] at hm;have:=R (k+m) y (by lia) (by lia) (by rw[<- y4o]; exact e);simpa [byK] using this
 have J:∀y∈(b.toList.drop j).take k,∀F∈a.toList.drop i,rk y<=rk F:=fun y hy F q=>by
  have h1:rk y<rk x:=by simpa [byK] using M y hy
  have h2:=h.ua.from e2 q;lia
 have z:MI rk a.toList b.toList (o++b.extract j (j+k)).toList i (j+k):=by
  rw[y0y,CQ,Nat.add_sub_cancel_left];exact Z.moveB h.ub J
 dsimp only;by_cases c:k>0
 ·rw[if_pos c];by_cases U:j+k=b.size
  ·rw[if_pos (by simpa using U)];exact y01 ⟨_,.inl rfl,h.dn G z (.inr U)⟩
  ·rw[if_neg (by simpa using U)];exact Ob h G z hi (by lia) (fun F q y hy=>by rw[e2] at q; cases q; exact B y hy) (by lia)
 ·rw[if_neg c];have c0:k=0:=by lia
  subst c0;exact Ob h G Z hi hj (fun F q y hy=>by rw[e2] at q; cases q; exact B y hy) (by lia)
theorem Oc(hk:y1s st=κ)(z:SG st0 st)(B:MI rk a.toList b.toList o.toList i j)(hi:i+1<a.size)(F:j<b.size)(hy:∀y,b.toList[j]?=some y->∀x∈a.toList.drop i,rk y<=rk x)(hm:m<=i+j):wpS (y06 prog w) A E s (lo2 a b o i j g u v) (LoB rk a b st0 m) st:=by
 unfold lo2;obtain⟨y,G,e2,J⟩:=Ar (xs:=b) (i:=j) F;refine yr (Av G ?_);have q:MI rk a.toList b.toList (o.push y).toList i (j+1):=by
  rw[y1p];exact B.pushB h.ub e2 (hy y e2)
 by_cases c:j+1=b.size
 ·rw[if_pos (by simpa using c)];exact y01 ⟨_,.inl rfl,h.dn z q (.inr c)⟩
 ·rw[if_neg (by simpa using c)];exact Vh h hk z q hi (by lia) (by lia)
theorem Od(hk:y1s st0=κ)(sg:SG st0 st)(mi:MI rk a.toList b.toList o.toList i j)(hi:i+1<a.size)(U:j<b.size)(hm:m<=i+j):wpS (y06 prog w) A E s (lo1 a b o i j g u v) (LoB rk a b st0 m) st:=by
 unfold lo1;refine yr (I9 sg fun M z=>?_);have F:y1s M=κ:=z.1.trans hk;obtain⟨y,e1,e2,my⟩:=Ar (xs:=b) (i:=j) U;refine yr (Av e1 ?_);refine yr (Ef h.C F h.sa (h.sb y my) (fun i j x y _ Z _ ex ey=>h.ua.at ex ey Z) (by lia) (by lia) fun k fe O fc=>?_);have G:∀x∈a.toList.drop (i+k),rk y<=rk x:=fun x hx=>by
  obtain⟨m,hm,e⟩:=Fl hx;rw[yi] at hm;have:=fc (k+m) x (by lia) (by lia) (by rw[<- y4o]; exact e);have h3:rk y<rk x:=by simpa [byK] using this
  lia
 have R:∀x∈(a.toList.drop i).take k,∀J∈b.toList.drop j,rk x<=rk J:=fun x hx J q=>by
  have h1:rk x<=rk y:=by simpa [byK] using O x hx
  have h2:=h.ub.from e2 q;lia
 have B:MI rk a.toList b.toList (o++a.extract i (i+k)).toList (i+k) j:=by
  rw[y0y,CQ,Nat.add_sub_cancel_left];exact mi.moveA h.ua R
 dsimp only;by_cases c:k>0
 ·rw[if_pos c];by_cases c2:i+k+1=a.size
  ·rw[if_pos (by simpa using c2)];exact y01 ⟨_,.inl rfl,h.fin z B c2⟩
  ·rw[if_neg (by simpa using c2)];by_cases c3:i+k=a.size
   ·rw[if_pos (by simpa using c3)];exact y01 ⟨_,.inl rfl,h.dn z B (.inl c3)⟩
   ·rw[if_neg (by simpa using c3)];exact Oc h F z B (by lia) U (fun J q x hx=>by rw[e2] at q; cases q; exact G x hx) (by lia)
 ·rw[if_neg c];have c0:k=0:=by lia
  subst c0;exact Oc h F z mi hi U (fun J q x hx=>by rw[e2] at q; cases q; exact G x hx) (by lia)
theorem Vi(hk:y1s st0=κ)(B:SG st0 st)(O:MI rk a.toList b.toList o.toList i j)(hi:i+1<a.size)(R:j<b.size)(hm:m<=i+j+1):wpS (y06 prog w) A E s (lo0 a b g o i j u v) (LoB rk a b st0 m) st:=by
 unfold lo0;have M:y1s st=κ:=B.1.trans hk;obtain⟨y,e1,e2,my⟩:=Ar (xs:=b) (i:=j) R;obtain⟨x,Z,U,mx⟩:=Ar (xs:=a) (i:=i) (by lia);refine yr (Av e1 (yr (Av Z (yr (Fk h.C M (h.sb y my) (h.sa x mx) ?_)))));by_cases c:rk y<rk x
 ·simp only[c,decide_true,if_true];refine yr (Av e1 ?_);have q:MI rk a.toList b.toList (o.push y).toList i (j+1):=by
   rw[y1p];exact O.pushB h.ub e2 fun x' J=>by have:=h.ua.from U J; lia
  by_cases z:j+1=b.size
  ·rw[if_pos (by simpa using z)];exact y01 ⟨_,.inl rfl,h.dn B q (.inr z)⟩
  ·rw[if_neg (by simpa using z)];have P:∀t:Nat×Nat,LoP rk a b st0 m (none,o.push y,i,j+1,t) st:=fun t=>⟨B,.inr ⟨rfl,q,hi,by show j+1<b.size; lia,by show m<=i+(j+1); lia⟩⟩;by_cases F:v+1 ≥ g
   ·rw[if_pos F];exact y01 ⟨_,.inl rfl,P _⟩
   ·rw[if_neg F];exact y01 ⟨_,.inr ⟨rfl,rfl⟩,P _⟩
 ·simp only[c,decide_false,y0e,if_false];refine yr (Av Z ?_);have q:MI rk a.toList b.toList (o.push x).toList (i+1) j:=by
   rw[y1p];exact O.pushA h.ua U fun y' G=>by have:=h.ub.from e2 G; lia
  by_cases z:i+1+1=a.size
  ·rw[if_pos (by simpa using z)];exact y01 ⟨_,.inl rfl,h.fin B q z⟩
  ·rw[if_neg (by simpa using z)];have P:∀t:Nat×Nat,LoP rk a b st0 m (none,o.push x,i+1,j,t) st:=fun t=>⟨B,.inr ⟨rfl,q,by show i+1+1<a.size; lia,R,by show m<=i+1+j; lia⟩⟩;by_cases F:u+1 ≥ g
   ·rw[if_pos F];exact y01 ⟨_,.inl rfl,P _⟩
   ·rw[if_neg F];exact y01 ⟨_,.inr ⟨rfl,rfl⟩,P _⟩
theorem Vj(hk:y1s st0=κ)(sg:SG st0 st)(mi:MI rk a.toList b.toList o.toList i j)(hi:i+1<a.size)(hj:j<b.size):wpS (y06 prog w) A E s (loO a b o i j g) (fun r q=>SG st0 q/\((∃c x,r=.done c/\c.1=some x/\Mg rk a.toList b.toList x.toList)\/∃c,r=.yield c/\c.1=none/\LoP rk a b st0 (i+j+1) c q)) st:=by
 unfold loO;refine yr (y1h (y1a (I:=fun x c q=>c.1=none/\LoP rk a b st0 (i+j+x) c q) (Q:=fun c q=>LoP rk a b st0 (i+j+1) c q) ?t ?fin ⟨rfl,sg,.inr ⟨rfl,mi,hi,hj,yf _⟩⟩) ?post)
 case fin=>
  rintro c q ⟨hc,B,p⟩;refine⟨B,p.imp id fun p=>⟨p.1,p.2.1,p.2.2.1,p.2.2.2.1,?_⟩⟩;have:=p.2.2.2.2;lia
 case t=>
  rintro x c q _ hx ⟨hc,B,p⟩;rcases p with⟨r,e,_⟩|⟨_,R,Z,U,hm⟩
  ·rw[hc] at e; cases e
  ·refine y1h (Vi (m:=i+j+(x+1)) h hk B R Z U (by lia)) fun r O l=>?_;obtain⟨c',rfl|⟨rfl,F⟩,z,p2⟩:=l;rotate_left
   ·exact⟨F,z,p2⟩
   refine⟨z,p2.imp id fun p=>⟨p.1,p.2.1,p.2.2.1,p.2.2.2.1,?_⟩⟩;have:=p.2.2.2.2;lia
 case post=>
  rintro⟨r,o',i',j',u',v'⟩ q ⟨B,p⟩;rcases p with⟨x,e,hx⟩|⟨e,R,Z,U,hm⟩
  ·cases e;exact y01 ⟨B,.inl ⟨_,_,rfl,rfl,hx⟩⟩
  ·cases e;refine yr (Ed ?_);refine yr (y1h (y1a (I:=fun x c q=>c.1=none/\LoP rk a b st0 (i+j+1) c q) (Q:=fun c q=>LoP rk a b st0 (i+j+1) c q) (fun x c O _ hx hI=>?_) (fun c O hI=>hI.2) ⟨rfl,B,.inr ⟨rfl,R,Z,U,hm⟩⟩) ?_)
   ·obtain⟨hc,z,p⟩:=hI;rcases p with⟨r,e,_⟩|⟨_,G,hi2,M,J⟩
    ·rw[hc] at e; cases e
    ·split
     ·exact y1h (Od (m:=i+j+1) h hk z G hi2 M J) fun r fc l=>by
       obtain⟨c',rfl|⟨rfl,F⟩,p'⟩:=l
       ·exact p'
       ·exact⟨F,p'⟩
     ·exact y1h (Od (m:=i+j+1) h hk z G hi2 M J) fun r fc l=>by
       obtain⟨c',rfl|⟨rfl,F⟩,p'⟩:=l
       ·exact p'
       ·exact⟨F,p'⟩
   ·rintro⟨r,o2,i2,j2,g2,u2,v2⟩ st2 ⟨z,p⟩;rcases p with⟨x,e,hx⟩|⟨e,G,hi2,M,J⟩
    ·cases e;exact y01 ⟨z,.inl ⟨_,_,rfl,rfl,hx⟩⟩
    ·cases e;refine yr (I9 z fun fc fe=>?_);exact y01 ⟨fe,.inr ⟨_,rfl,rfl,fe,.inr ⟨rfl,G,hi2,M,J⟩⟩⟩
end
theorem Vk{a b:Array Keyed}{st:SortSt}{Q:Array Keyed->SortSt->Prop}(h:LoH prog w A s κ rk S a b)(hk:y1s st=κ)(ha:1<=a.size)(hb:1<=b.size)(h0:∀y,b.toList[0]?=some y->∀x∈a.toList,rk y<=rk x)(q:∀r z,SG st z->Mg rk a.toList b.toList r.toList->Q r z):wpS (y06 prog w) A E s (Ke a b) Q st:=by
 rw[Vf];refine yr (Ed ?_);obtain⟨y,e1,e2,my⟩:=Ar (xs:=b) (i:=0) hb;refine yr (Av e1 ?_);have O:MI rk a.toList b.toList #[y].toList 0 1:=MI.init.pushB h.ub e2 (h0 y e2);by_cases c:1=b.size
 ·rw[if_pos (by simpa using c)];obtain⟨_,p⟩:=h.dn (m:=0) (t:=()) (SG.refl st) O (.inr c);rcases p with⟨x,e,hx⟩|⟨e,_⟩
  ·cases e;exact y01 (q _ _ (SG.refl st) hx)
  ·cases e
 rw[if_neg (by simpa using c)];by_cases c2:0+1=a.size
 ·rw[if_pos (by simpa using c2)];obtain⟨_,p⟩:=h.fin (m:=0) (t:=()) (SG.refl st) O c2;rcases p with⟨x,e,hx⟩|⟨e,_⟩
  ·cases e;exact y01 (q _ _ (SG.refl st) hx)
  ·cases e
 rw[if_neg (by simpa using c2)];refine yr (y58 ?_);unfold Kf;refine yr (y1h (y1a (I:=fun x c z=>c.1=none/\LoP rk a b st (x+1) c z) (Q:=fun c z=>SG st z/\∃x,c.1=some x/\Mg rk a.toList b.toList x.toList) (fun x c z _ hx Z=>?_) (fun c z Z=>?_) ⟨rfl,SG.refl st,.inr ⟨rfl,O,by show 0+1<a.size; lia,by show 1<b.size; lia,by show 0+1<=0+1; lia⟩⟩) ?_)
 ·obtain⟨hc,F,p⟩:=Z;rcases p with⟨r,e,_⟩|⟨_,G,hi2,M,J⟩
  ·rw[hc] at e; cases e
  ·refine y1h (Vj h hk F G hi2 M) fun r fc l=>?_;obtain⟨B,⟨c',x',rfl,e,R⟩|⟨c',rfl,U,_,p3⟩⟩:=l
   ·exact⟨B,x',e,R⟩
   ·refine⟨U,B,p3.imp id fun p=>⟨p.1,p.2.1,p.2.2.1,p.2.2.2.1,?_⟩⟩;have:=p.2.2.2.2;lia
 ·obtain⟨hc,F,p⟩:=Z;rcases p with⟨r,e,_⟩|⟨_,G,hi2,M,J⟩
  ·rw[hc] at e; cases e
  ·rw[y4q (yo _)] at J;lia
 ·rintro⟨r,t⟩ z ⟨sg,x,e,hx⟩;cases e;exact y01 (q _ _ sg hx)
noncomputable def Kg:Array Keyed->Array Keyed->StateT SortSt Sem (Array Keyed):=sortPriv% PySem.Builtin.mergeHi
noncomputable def hi0(a b:Array Keyed)(g:Nat)(i j:Nat)(o:Array Keyed)(u v:Nat):StateT SortSt Sem (ForInStep (Option (Array Keyed)×Nat×Nat×Array Keyed×Nat×Nat)):=do
 let some aw <- lt' (<- elem' b (j-1)) (<- elem' a (i-1))|return .done (some (a.extract 0 i++b.extract 0 j++o.reverse),i,j,o,u,v)
 if aw then
  let x <- elem' a (i-1)
  if i-1==0 then return .done (some (a.extract 0 (i-1)++b.extract 0 j++(o.push x).reverse),i-1,j,o.push x,u+1,0)
  if u+1 ≥ g then return .done (none,i-1,j,o.push x,u+1,0)
  return .yield (none,i-1,j,o.push x,u+1,0)
 else
  let y <- elem' b (j-1)
  if j-1==1 then return .done (some (b.extract 0 (j-1)++a.extract 0 i++(o.push y).reverse),i,j-1,o.push y,0,v+1)
  if v+1 ≥ g then return .done (none,i,j-1,o.push y,0,v+1)
  return .yield (none,i,j-1,o.push y,0,v+1)
abbrev Sh7:=Option (Array Keyed)×Nat×Nat×Array Keyed×Nat×Nat×Nat
noncomputable def hi4(a b:Array Keyed)(i j:Nat)(o:Array Keyed)(g u v:Nat):StateT SortSt Sem (ForInStep Sh7):=do
 let x <- elem' a (i-1)
 if i-1==0 then return .done (some (a.extract 0 (i-1)++b.extract 0 j++(o.push x).reverse),i-1,j,o.push x,g,u,v)
 if u<7&&v<7 then return .done (none,i-1,j,o.push x,g,u,v)
 return .yield (none,i-1,j,o.push x,g,u,v)
noncomputable def hi3(a b:Array Keyed)(i j:Nat)(o:Array Keyed)(g u v:Nat):StateT SortSt Sem (ForInStep Sh7):=do
 let some k <- Ce true (<- elem' a (i-1)) b 0 j (j-1)|return .done (some (a.extract 0 i++b.extract 0 j++o.reverse),i,j,o,g,u,v)
 if j-k>0 then
  if k==1 then return .done (some (b.extract 0 k++a.extract 0 i++(o++(b.extract k j).reverse).reverse),i,k,o++(b.extract k j).reverse,g,u,j-k)
  if k==0 then return .done (some (a.extract 0 i++b.extract 0 k++(o++(b.extract k j).reverse).reverse),i,k,o++(b.extract k j).reverse,g,u,j-k)
  hi4 a b i k (o++(b.extract k j).reverse) g u (j-k)
 else hi4 a b i j o g u (j-k)
noncomputable def hi2(a b:Array Keyed)(i j:Nat)(o:Array Keyed)(g u v:Nat):StateT SortSt Sem (ForInStep Sh7):=do
 let y <- elem' b (j-1)
 if j-1==1 then return .done (some (b.extract 0 (j-1)++a.extract 0 i++(o.push y).reverse),i,j-1,o.push y,g,u,v)
 hi3 a b i (j-1) (o.push y) g u v
noncomputable def hi1(a b:Array Keyed)(i j:Nat)(o:Array Keyed)(g u v:Nat):StateT SortSt Sem (ForInStep Sh7):=do
 Fm g
 let some k <- Ce false (<- elem' b (j-1)) a 0 i (i-1)|return .done (some (a.extract 0 i++b.extract 0 j++o.reverse),i,j,o,g,u,v)
 if i-k>0 then
  if k==0 then return .done (some (a.extract 0 k++b.extract 0 j++(o++(a.extract k i).reverse).reverse),k,j,o++(a.extract k i).reverse,g,i-k,v)
  hi2 a b k j (o++(a.extract k i).reverse) g (i-k) v
 else hi2 a b i j o g (i-k) v
abbrev Sh5:=Option (Array Keyed)×Nat×Nat×Array Keyed×Nat
noncomputable def hiO(a b:Array Keyed)(i j:Nat)(o:Array Keyed)(g:Nat):StateT SortSt Sem (ForInStep Sh5):=do
  let t <- forIn [0:a.size+b.size] ((none,i,j,o,0,0):Option (Array Keyed)×Nat×Nat×Array Keyed×Nat×Nat) fun _ t=>hi0 a b g t.2.1 t.2.2.1 t.2.2.2.1 t.2.2.2.2.1 t.2.2.2.2.2
  match t.1 with
  |some r=>return .done (some r,t.2.1,t.2.2.1,t.2.2.2.1,g)
  |none=>
   rule "list.sort.gallop"
   let t <- forIn [0:a.size+b.size] ((none,t.2.1,t.2.2.1,t.2.2.2.1,g+1,t.2.2.2.2.1,t.2.2.2.2.2):Sh7) fun _ t=>
    if t.2.2.2.2.1>1 then hi1 a b t.2.1 t.2.2.1 t.2.2.2.1 (t.2.2.2.2.1-1) t.2.2.2.2.2.1 t.2.2.2.2.2.2 else hi1 a b t.2.1 t.2.2.1 t.2.2.2.1 t.2.2.2.2.1 t.2.2.2.2.2.1 t.2.2.2.2.2.2
   match t.1 with
   |some r=>return .done (some r,t.2.1,t.2.2.1,t.2.2.2.1,t.2.2.2.2.1)
   |none=>
    Fm (t.2.2.2.2.1+1)
    return .yield (none,t.2.1,t.2.2.1,t.2.2.2.1,t.2.2.2.2.1+1)
noncomputable def Kh(a b:Array Keyed)(x:Keyed)(g:Nat):StateT SortSt Sem (Array Keyed):=do
 let t <- forIn [0:a.size+b.size] ((none,a.size-1,b.size,#[x],g):Sh5) fun _ t=>hiO a b t.2.1 t.2.2.1 t.2.2.2.1 t.2.2.2.2
 match t.1 with
 |some r=>return r
 |none=>unsupported "internal:list.sort.merge-bound"
theorem Vl(a b:Array Keyed):Kg a b=(do
 rule "list.sort.merge-hi"
 let x <- elem' a (a.size-1)
 if a.size-1==0 then return a.extract 0 (a.size-1)++b.extract 0 b.size ++ #[x].reverse
 if b.size==1 then return b.extract 0 b.size++a.extract 0 (a.size-1) ++ #[x].reverse
 Kh a b x (gallopOf (<- get))):=by
 refine bind_congr fun _=>?_
 refine bind_congr fun y=>?_
 refine ite_congr rfl (fun _=>rfl) fun _=>?_
 refine ite_congr rfl (fun _=>rfl) fun _=>?_
 refine bind_congr fun z=>?_
 unfold Kh
 refine Ee (Oa fun x t=>?_) fun t=>?_
 ·unfold hiO
  refine Ee ?_ fun t=>?_
  ·rfl
  ·obtain⟨r,o,i,j,u,v⟩:=t
   cases r with
   |some r=>rfl
   |none=>
    refine bind_congr fun _=>?_
    refine Ee ?_ fun t=>?_
    ·rfl
    ·obtain⟨r,o,i,j,g,u,v⟩:=t
     cases r with
     |some r=>rfl
     |none=>rfl
 ·obtain⟨r,t⟩:=t
  cases r with
  |some r=>rfl
  |none=>rfl
end
section
variable{rk:Keyed->Nat}{X Y o:List Keyed}{i j k:Nat}
structure MH(rk:Keyed->Nat)(X Y o:List Keyed)(i j:Nat):Prop where
 pm:(X.take i++Y.take j++o.reverse).Perm (X++Y)
 so:Up rk o.reverse
 la:∀x∈o,∀y∈X.take i,rk y<=rk x
 lb:∀x∈o,∀y∈Y.take j,rk y<=rk x
theorem Oe(h:k<=i):X.take i=X.take k++(X.take i).drop k:=by
 have:=y1f k (X.take i);rw[List.take_take,y51 h] at this;exact this.symm
theorem Up.take(h:Up rk X)(i:Nat):Up rk (X.take i):=y31 (y49 i X) h
theorem MH.moveA(h:MH rk X Y o i j)(u:Up rk X)(le:k<=i)(hk:∀x∈(X.take i).drop k,∀y∈Y.take j,rk y<=rk x):MH rk X Y (o++((X.take i).drop k).reverse) k j:=by
 have e:=Oe (X:=X) le;have sp:=(u.take i).split k;rw[List.take_take,y51 le] at sp;have sub:∀y∈X.take k,y∈X.take i:=fun y hy=>by rw[e]; exact y0s _ hy
 refine⟨?_,?_,fun x hx y hy=>?_,fun x hx y hy=>?_⟩
 ·have:=h.pm;rw[e] at this;rw[y3o,y3k];refine List.Perm.trans ?_ this;rw[yn,yn,yn];refine y4l _ ?_;rw[<- yn,<- yn];exact y48 _ y3f
 ·rw[y3o,y3k];exact List.pairwise_append.mpr ⟨(u.take i).drop k,h.so,fun x hx y hy=>h.la y (List.mem_reverse.mp hy) x (y2r hx)⟩
 ·rcases List.mem_append.mp hx with hx|hx
  ·exact h.la x hx y (sub y hy)
  ·exact sp y hy x (List.mem_reverse.mp hx)
 ·rcases List.mem_append.mp hx with hx|hx
  ·exact h.lb x hx y hy
  ·exact hk x (List.mem_reverse.mp hx) y hy
theorem MH.moveB(h:MH rk X Y o i j)(u:Up rk Y)(le:k<=j)(hk:∀y∈(Y.take j).drop k,∀x∈X.take i,rk x<=rk y):MH rk X Y (o++((Y.take j).drop k).reverse) i k:=by
 have e:=Oe (X:=Y) le;have sp:=(u.take j).split k;rw[List.take_take,y51 le] at sp;have sub:∀y∈Y.take k,y∈Y.take j:=fun y hy=>by rw[e]; exact y0s _ hy
 refine⟨?_,?_,fun x hx y hy=>?_,fun x hx y hy=>?_⟩
 ·have:=h.pm;rw[e] at this;rw[y3o,y3k];simpa [yn] using this
 ·rw[y3o,y3k];exact List.pairwise_append.mpr ⟨(u.take j).drop k,h.so,fun x hx y hy=>h.lb y (List.mem_reverse.mp hy) x (y2r hx)⟩
 ·rcases List.mem_append.mp hx with hx|hx
  ·exact h.la x hx y hy
  ·exact hk x (List.mem_reverse.mp hx) y hy
 ·rcases List.mem_append.mp hx with hx|hx
  ·exact h.lb x hx y (sub y hy)
  ·exact sp y hy x (List.mem_reverse.mp hx)
theorem IA(h:X[i]?=some x):(X.take (i+1)).drop i=[x]:=by
 obtain⟨hi,e⟩:=zzS h;rw[List.take_succ,h,List.drop_append_of_le_length (by rw[y04]; lia),List.drop_of_length_le (by rw[y04]; lia)];rfl
theorem MH.pushA(h:MH rk X Y o (i+1) j)(u:Up rk X)(hx:X[i]?=some x)(hk:∀y∈Y.take j,rk y<=rk x):MH rk X Y (o++[x]) i j:=by
 have:=h.moveA (k:=i) u (by lia) (by rw[IA hx]; intro z hz; rw[List.mem_singleton.mp hz]; exact hk);rwa [IA hx] at this
theorem MH.pushB(h:MH rk X Y o i (j+1))(u:Up rk Y)(hy:Y[j]?=some y)(hk:∀x∈X.take i,rk x<=rk y):MH rk X Y (o++[y]) i j:=by
 have:=h.moveB (k:=j) u (by lia) (by rw[IA hy]; intro z hz; rw[List.mem_singleton.mp hz]; exact hk);rwa [IA hy] at this
theorem MH.done(h:MH rk X Y o i j)(u:Up rk X)(v:Up rk Y)(hk:∀x∈X.take i,∀y∈Y.take j,rk x<=rk y):Mg rk X Y (X.take i++Y.take j++o.reverse):=by
 refine⟨h.pm,List.pairwise_append.mpr ⟨List.pairwise_append.mpr ⟨u.take i,v.take j,hk⟩,h.so,fun x hx y hy=>?_⟩⟩;rcases List.mem_append.mp hx with hx|hx
 ·exact h.la y (List.mem_reverse.mp hy) x hx
 ·exact h.lb y (List.mem_reverse.mp hy) x hx
theorem MH.first(h:MH rk X Y o i j)(u:Up rk X)(v:Up rk Y)(hk:∀x∈X.take i,∀y∈Y.take j,rk y<=rk x):Mg rk X Y (Y.take j++X.take i++o.reverse):=by
 refine⟨List.Perm.trans (y48 _ y3f) h.pm,List.pairwise_append.mpr ⟨List.pairwise_append.mpr ⟨v.take j,u.take i,fun y hy x hx=>hk x hx y hy⟩,h.so,fun x hx y hy=>?_⟩⟩;rcases List.mem_append.mp hx with hx|hx
 ·exact h.lb y (List.mem_reverse.mp hy) x hx
 ·exact h.la y (List.mem_reverse.mp hy) x hx
theorem MH.init:MH rk X Y [] X.length Y.length:=⟨by simp,List.Pairwise.nil,fun x hx=>absurd hx (by simp),fun x hx=>absurd hx (by simp)⟩
theorem Up.upto(u:Up rk X)(hx:X[i]?=some x)(hy:y∈X.take (i+1)):rk y<=rk x:=by
 obtain⟨m,hm,e⟩:=y1q hy;rw[y04] at hm;rw[y4c] at e;exact u.at (i:=m) (j:=i) (by rw[<- e]; exact yk (by lia)) hx (by lia)
theorem Of(h:x∈(X.take i).drop k):∃m,k<=m/\m<i/\X[m]?=some x:=by
 obtain⟨m,hm,e⟩:=y1q h;rw[y1v,y04] at hm;rw[y4d,y4c] at e;exact⟨k+m,by lia,by lia,by rw[<- e]; exact yk (by lia)⟩
end
theorem ex0{a:Array Keyed}{i:Nat}:(a.extract 0 i).toList=a.toList.take i:=by
 rw[CQ,y2v,y41]
theorem exr{a:Array Keyed}{k i:Nat}:((a.extract k i).reverse).toList=((a.toList.take i).drop k).reverse:=by
 rw[y52,CQ,List.drop_take]
section
variable{prog:yq}{w:y0h}{A:y0n}{E:yg->ye->Prop}{s:ye}{κ:SortKind}{rk:Keyed->Nat}{S:Keyed->Prop}
structure HiH(prog:yq)(w:y0h)(A:y0n)(s:ye)(κ:SortKind)(rk:Keyed->Nat)(S:Keyed->Prop)(a b:Array Keyed):Prop where
 C:CmpL prog w A s κ rk S
 sa:∀x∈a.toList,S x
 sb:∀x∈b.toList,S x
 ua:Up rk a.toList
 ub:Up rk b.toList
 h0:∀y,b.toList[0]?=some y->∀x∈a.toList,rk y<=rk x
def HiP{q:Type}(rk:Keyed->Nat)(a b:Array Keyed)(st0:SortSt)(m:Nat)(c:Option (Array Keyed)×Nat×Nat×Array Keyed×q)(st:SortSt):Prop:=SG st0 st/\((∃x,c.1=some x/\Mg rk a.toList b.toList x.toList)\/(c.1=none/\MH rk a.toList b.toList c.2.2.2.1.toList c.2.1 c.2.2.1/\1<=c.2.1/\c.2.1<=a.size/\2<=c.2.2.1/\c.2.2.1<=b.size/\c.2.1+c.2.2.1<=m))
def HiB{q:Type}(rk:Keyed->Nat)(a b:Array Keyed)(st0:SortSt)(m:Nat)(r:ForInStep (Option (Array Keyed)×Nat×Nat×Array Keyed×q))(st:SortSt):Prop:=∃c,(r=.done c\/r=.yield c/\c.1=none)/\HiP rk a b st0 m c st
section
variable{a b o:Array Keyed}{i j g u v m:Nat}{st st0:SortSt}(h:HiH prog w A s κ rk S a b)
include h
theorem HiH.fst{q:Type}{t:q}(z:SG st0 st)(B:MH rk a.toList b.toList o.toList i j)(F:j=1):HiP rk a b st0 m (some (b.extract 0 j++a.extract 0 i++o.reverse),i,j,o,t) st:=by
 refine⟨z,.inl ⟨_,rfl,?_⟩⟩;rw[y0y,y0y,ex0,ex0,y52];refine B.first h.ua h.ub fun x hx y hy=>?_
 obtain⟨m,hm,e⟩:=y1q hy;rw[y04] at hm;rw[y4c] at e;refine h.h0 y ?_ x (y1n hx);have:m=0:=by lia
 subst this;rw[<- e];exact yk (by lia)
theorem HiH.dn{q:Type}{t:q}(z:SG st0 st)(B:MH rk a.toList b.toList o.toList i j)(hi:i=0\/j=0):HiP rk a b st0 m (some (a.extract 0 i++b.extract 0 j++o.reverse),i,j,o,t) st:=by
 refine⟨z,.inl ⟨_,rfl,?_⟩⟩;rw[y0y,y0y,ex0,ex0,y52];refine B.done h.ua h.ub fun x hx y hy=>?_;rcases hi with rfl|rfl
 ·simp at hx
 ·simp at hy
theorem Og(B:SG st0 st)(R:MH rk a.toList b.toList o.toList i j)(hi:1<=i)(J:i<=a.size)(G:2<=j)(z:j<=b.size)(hx:∀x,a.toList[i-1]?=some x->∀y∈b.toList.take j,rk y<=rk x)(hm:i+j<=m+1):wpS (y06 prog w) A E s (hi4 a b i j o g u v) (HiB rk a b st0 m) st:=by
 unfold hi4;obtain⟨x,M,e2,O⟩:=Ar (xs:=a) (i:=i-1) (by lia);refine yr (Av M ?_);have q:MH rk a.toList b.toList (o.push x).toList (i-1) j:=by
  rw[y1p];refine MH.pushA ?_ h.ua e2 (hx x e2);rwa [y1m hi]
 by_cases c:i-1=0
 ·rw[if_pos (by simpa using c)];exact y01 ⟨_,.inl rfl,h.dn B q (.inl c)⟩
 ·rw[if_neg (by simpa using c)];have P:∀t:Nat×Nat×Nat,HiP rk a b st0 m (none,i-1,j,o.push x,t) st:=fun t=>⟨B,.inr ⟨rfl,q,by show 1<=i-1; lia,by show i-1<=a.size; lia,G,z,by show i-1+j<=m; lia⟩⟩;by_cases F:(decide (u<7)&&decide (v<7))=true
  ·rw[if_pos F];exact y01 ⟨_,.inl rfl,P _⟩
  ·rw[if_neg F];exact y01 ⟨_,.inr ⟨rfl,rfl⟩,P _⟩
theorem Vm(hk:y1s st=κ)(M:SG st0 st)(mi:MH rk a.toList b.toList o.toList i j)(hi:1<=i)(J:i<=a.size)(hj:2<=j)(U:j<=b.size)(hm:i+j<=m):wpS (y06 prog w) A E s (hi3 a b i j o g u v) (HiB rk a b st0 m) st:=by
 unfold hi3;obtain⟨x,e1,e2,mx⟩:=Ar (xs:=a) (i:=i-1) (by lia);refine yr (Av e1 ?_);refine yr (Ef h.C hk h.sb (h.sa x mx) (fun i j x y _ Z _ ex ey=>h.ub.at ex ey Z) (by lia) (by lia) fun k R O fc=>?_);have F:∀z∈a.toList.take i,rk z<=rk x:=fun z F=>h.ua.upto e2 (by rw[y1m hi]; exact F);have fe:∀y∈(b.toList.take j).drop k,∀z∈a.toList.take i,rk z<=rk y:=fun y hy z q=>by
  obtain⟨m,h1,h2,e⟩:=Of hy;have:=fc m y h1 h2 (by rw[Nat.zero_add]; exact e);have h3:rk x<=rk y:=by simpa [byK] using this
  have:=F z q;lia
 have G:∀y∈b.toList.take k,rk y<=rk x:=fun y hy=>by
  have:=O y (by rw[y2v]; exact hy);have h1:rk y<rk x:=by simpa [byK] using this
  lia
 have B:MH rk a.toList b.toList (o++(b.extract k j).reverse).toList i k:=by
  rw[y0y,exr];exact mi.moveB h.ub R fe
 dsimp only;by_cases c:j-k>0
 ·rw[if_pos c];by_cases c1:k=1
  ·rw[if_pos (by simpa using c1)];exact y01 ⟨_,.inl rfl,h.fst M B c1⟩
  ·rw[if_neg (by simpa using c1)];by_cases c2:k=0
   ·rw[if_pos (by simpa using c2)];exact y01 ⟨_,.inl rfl,h.dn M B (.inr c2)⟩
   ·rw[if_neg (by simpa using c2)];exact Og h M B hi J (by lia) (by lia) (fun z q y hy=>by rw[e2] at q; cases q; exact G y hy) (by lia)
 ·rw[if_neg c];have c0:k=j:=by lia
  subst c0;exact Og h M mi hi J hj U (fun z q y hy=>by rw[e2] at q; cases q; exact G y hy) (by lia)
theorem Oh(hk:y1s st=κ)(B:SG st0 st)(M:MH rk a.toList b.toList o.toList i j)(hi:1<=i)(z:i<=a.size)(O:2<=j)(F:j<=b.size)(hy:∀y,b.toList[j-1]?=some y->∀x∈a.toList.take i,rk x<=rk y)(hm:i+j<=m+1):wpS (y06 prog w) A E s (hi2 a b i j o g u v) (HiB rk a b st0 m) st:=by
 unfold hi2;obtain⟨y,G,e2,J⟩:=Ar (xs:=b) (i:=j-1) (by lia);refine yr (Av G ?_);have q:MH rk a.toList b.toList (o.push y).toList i (j-1):=by
  rw[y1p];refine MH.pushB ?_ h.ub e2 (hy y e2);rwa [y1m (by lia)]
 by_cases c:j-1=1
 ·rw[if_pos (by simpa using c)];exact y01 ⟨_,.inl rfl,h.fst B q c⟩
 ·rw[if_neg (by simpa using c)];exact Vm h hk B q hi z (by lia) (by lia) (by lia)
theorem Oi(hk:y1s st0=κ)(sg:SG st0 st)(mi:MH rk a.toList b.toList o.toList i j)(hi:1<=i)(fe:i<=a.size)(hj:2<=j)(O:j<=b.size)(hm:i+j<=m):wpS (y06 prog w) A E s (hi1 a b i j o g u v) (HiB rk a b st0 m) st:=by
 unfold hi1;refine yr (I9 sg fun R z=>?_);have G:y1s R=κ:=z.1.trans hk;obtain⟨y,e1,e2,my⟩:=Ar (xs:=b) (i:=j-1) (by lia);refine yr (Av e1 ?_);refine yr (Ef h.C G h.sa (h.sb y my) (fun i j x y _ fc _ ex ey=>h.ua.at ex ey fc) (by lia) (by lia) fun k Z U fg=>?_);have F:∀B∈b.toList.take j,rk B<=rk y:=fun B F=>h.ub.upto e2 (by rw[y1m (by lia)]; exact F);have fh:∀x∈(a.toList.take i).drop k,∀B∈b.toList.take j,rk B<=rk x:=fun x hx B q=>by
  obtain⟨m,h1,h2,e⟩:=Of hx;have:=fg m x h1 h2 (by rw[Nat.zero_add]; exact e);have h3:rk y<rk x:=by simpa [byK] using this
  have:=F B q;lia
 have M:∀x∈a.toList.take k,rk x<=rk y:=fun x hx=>by
  have:=U x (by rw[y2v]; exact hx);simpa [byK] using this
 have J:MH rk a.toList b.toList (o++(a.extract k i).reverse).toList k j:=by
  rw[y0y,exr];exact mi.moveA h.ua Z fh
 dsimp only;by_cases c:i-k>0
 ·rw[if_pos c];by_cases c2:k=0
  ·rw[if_pos (by simpa using c2)];exact y01 ⟨_,.inl rfl,h.dn z J (.inl c2)⟩
  ·rw[if_neg (by simpa using c2)];exact Oh h G z J (by lia) (by lia) hj O (fun B q x hx=>by rw[e2] at q; cases q; exact M x hx) (by lia)
 ·rw[if_neg c];have c0:k=i:=by lia
  subst c0;exact Oh h G z mi hi fe hj O (fun B q x hx=>by rw[e2] at q; cases q; exact M x hx) (by lia)
theorem Vn(hk:y1s st0=κ)(G:SG st0 st)(mi:MH rk a.toList b.toList o.toList i j)(hi:1<=i)(fe:i<=a.size)(hj:2<=j)(fc:j<=b.size)(hm:i+j<=m+1):wpS (y06 prog w) A E s (hi0 a b g i j o u v) (HiB rk a b st0 m) st:=by
 unfold hi0;have Z:y1s st=κ:=G.1.trans hk;obtain⟨y,e1,e2,my⟩:=Ar (xs:=b) (i:=j-1) (by lia);obtain⟨x,f1,f2,mx⟩:=Ar (xs:=a) (i:=i-1) (by lia);have B:∀O∈a.toList.take i,rk O<=rk x:=fun O B=>h.ua.upto f2 (by rw[y1m hi]; exact B);have z:∀M∈b.toList.take j,rk M<=rk y:=fun M z=>h.ub.upto e2 (by rw[y1m (by lia)]; exact z);refine yr (Av e1 (yr (Av f1 (yr (Fk h.C Z (h.sb y my) (h.sa x mx) ?_)))));by_cases c:rk y<rk x
 ·simp only[c,decide_true,if_true];refine yr (Av f1 ?_);have q:MH rk a.toList b.toList (o.push x).toList (i-1) j:=by
   rw[y1p];refine MH.pushA ?_ h.ua f2 fun M R=>by have:=z M R; lia
   rwa [y1m hi]
  by_cases F:i-1=0
  ·rw[if_pos (by simpa using F)];exact y01 ⟨_,.inl rfl,h.dn G q (.inl F)⟩
  ·rw[if_neg (by simpa using F)];have P:∀t:Nat×Nat,HiP rk a b st0 m (none,i-1,j,o.push x,t) st:=fun t=>⟨G,.inr ⟨rfl,q,by show 1<=i-1; lia,by show i-1<=a.size; lia,hj,fc,by show i-1+j<=m; lia⟩⟩;by_cases J:u+1 ≥ g
   ·rw[if_pos J];exact y01 ⟨_,.inl rfl,P _⟩
   ·rw[if_neg J];exact y01 ⟨_,.inr ⟨rfl,rfl⟩,P _⟩
 ·simp only[c,decide_false,y0e,if_false];refine yr (Av e1 ?_);have q:MH rk a.toList b.toList (o.push y).toList i (j-1):=by
   rw[y1p];refine MH.pushB ?_ h.ub e2 fun O U=>by have:=B O U; lia
   rwa [y1m (by lia)]
  by_cases F:j-1=1
  ·rw[if_pos (by simpa using F)];exact y01 ⟨_,.inl rfl,h.fst G q F⟩
  ·rw[if_neg (by simpa using F)];have P:∀t:Nat×Nat,HiP rk a b st0 m (none,i,j-1,o.push y,t) st:=fun t=>⟨G,.inr ⟨rfl,q,hi,fe,by show 2<=j-1; lia,by show j-1<=b.size; lia,by show i+(j-1)<=m; lia⟩⟩;by_cases J:v+1 ≥ g
   ·rw[if_pos J];exact y01 ⟨_,.inl rfl,P _⟩
   ·rw[if_neg J];exact y01 ⟨_,.inr ⟨rfl,rfl⟩,P _⟩
theorem Vo(hk:y1s st0=κ)(sg:SG st0 st)(mi:MH rk a.toList b.toList o.toList i j)(hi:1<=i)(fu:i<=a.size)(hj:2<=j)(ft:j<=b.size):wpS (y06 prog w) A E s (hiO a b i j o g) (fun r q=>SG st0 q/\((∃c x,r=.done c/\c.1=some x/\Mg rk a.toList b.toList x.toList)\/∃c,r=.yield c/\c.1=none/\HiP rk a b st0 (i+j-1) c q)) st:=by
 unfold hiO;refine yr (y1h (y1a (I:=fun x c q=>c.1=none/\HiP rk a b st0 (i+j-x) c q) (Q:=fun c q=>HiP rk a b st0 (i+j-1) c q) ?t ?fin ⟨rfl,sg,.inr ⟨rfl,mi,hi,fu,hj,ft,yf _⟩⟩) ?post)
 case fin=>
  rintro c q ⟨hc,B,p⟩;refine⟨B,p.imp id fun p=>⟨p.1,p.2.1,p.2.2.1,p.2.2.2.1,p.2.2.2.2.1,p.2.2.2.2.2.1,?_⟩⟩;have:=p.2.2.2.2.2.2;lia
 case t=>
  rintro x c q _ hx ⟨hc,B,p⟩;rcases p with⟨r,e,_⟩|⟨_,U,fc,G,Z,F,hm⟩
  ·rw[hc] at e; cases e
  ·refine y1h (Vn (m:=i+j-(x+1)) h hk B U fc G Z F (by lia)) fun r M l=>?_;obtain⟨c',rfl|⟨rfl,J⟩,z,p2⟩:=l;rotate_left
   ·exact⟨J,z,p2⟩
   refine⟨z,p2.imp id fun p=>⟨p.1,p.2.1,p.2.2.1,p.2.2.2.1,p.2.2.2.2.1,p.2.2.2.2.2.1,?_⟩⟩;have:=p.2.2.2.2.2.2;lia
 case post=>
  rintro⟨r,i',j',o',u',v'⟩ q ⟨B,p⟩;rcases p with⟨x,e,hx⟩|⟨e,U,fc,G,Z,F,hm⟩
  ·cases e;exact y01 ⟨B,.inl ⟨_,_,rfl,rfl,hx⟩⟩
  ·cases e;refine yr (Ed ?_);refine yr (y1h (y1a (I:=fun x c q=>c.1=none/\HiP rk a b st0 (i+j-1) c q) (Q:=fun c q=>HiP rk a b st0 (i+j-1) c q) (fun x c M _ hx hI=>?_) (fun c M hI=>hI.2) ⟨rfl,B,.inr ⟨rfl,U,fc,G,Z,F,hm⟩⟩) ?_)
   ·obtain⟨hc,z,p⟩:=hI;rcases p with⟨r,e,_⟩|⟨_,fh,hi2,R,fq,O,fk⟩
    ·rw[hc] at e; cases e
    ·split
     ·exact y1h (Oi (m:=i+j-1) h hk z fh hi2 R fq O fk) fun r fe l=>by
       obtain⟨c',rfl|⟨rfl,J⟩,p'⟩:=l
       ·exact p'
       ·exact⟨J,p'⟩
     ·exact y1h (Oi (m:=i+j-1) h hk z fh hi2 R fq O fk) fun r fe l=>by
       obtain⟨c',rfl|⟨rfl,J⟩,p'⟩:=l
       ·exact p'
       ·exact⟨J,p'⟩
   ·rintro⟨r,i2,j2,o2,g2,u2,v2⟩ st2 ⟨z,p⟩;rcases p with⟨x,e,hx⟩|⟨e,p2⟩
    ·cases e;exact y01 ⟨z,.inl ⟨_,_,rfl,rfl,hx⟩⟩
    ·cases e;refine yr (I9 z fun fe fg=>?_);exact y01 ⟨fg,.inr ⟨_,rfl,rfl,fg,.inr ⟨rfl,p2⟩⟩⟩
end
theorem Vp{a b:Array Keyed}{st:SortSt}{Q:Array Keyed->SortSt->Prop}(h:HiH prog w A s κ rk S a b)(hk:y1s st=κ)(ha:1<=a.size)(hb:1<=b.size)(hl:∀x,a.toList[a.size-1]?=some x->∀y∈b.toList,rk y<=rk x)(q:∀r z,SG st z->Mg rk a.toList b.toList r.toList->Q r z):wpS (y06 prog w) A E s (Kg a b) Q st:=by
 rw[Vl];refine yr (Ed ?_);obtain⟨x,e1,e2,mx⟩:=Ar (xs:=a) (i:=a.size-1) (by lia);refine yr (Av e1 ?_);have U:MH rk a.toList b.toList #[x].toList (a.size-1) b.size:=by
  have h1:MH rk a.toList b.toList [] (a.size-1+1) b.size:=by
   have:=MH.init (rk:=rk) (X:=a.toList) (Y:=b.toList);rw[yi,yi] at this;rwa [y1m ha]
  exact h1.pushA h.ua e2 fun y hy=>hl x e2 y (y1n hy)
 by_cases c:a.size-1=0
 ·rw[if_pos (by simpa using c)];obtain⟨_,p⟩:=h.dn (m:=0) (t:=()) (SG.refl st) U (.inl c);rcases p with⟨x,e,hx⟩|⟨e,_⟩
  ·cases e;exact y01 (q _ _ (SG.refl st) hx)
  ·cases e
 rw[if_neg (by simpa using c)];by_cases c2:b.size=1
 ·rw[if_pos (by simpa using c2)];obtain⟨_,p⟩:=h.fst (m:=0) (t:=()) (SG.refl st) U c2;rcases p with⟨x,e,hx⟩|⟨e,_⟩
  ·cases e;exact y01 (q _ _ (SG.refl st) hx)
  ·cases e
 rw[if_neg (by simpa using c2)];refine yr (y58 ?_);unfold Kh;refine yr (y1h (y1a (I:=fun x c z=>c.1=none/\HiP rk a b st (a.size+b.size-1-x) c z) (Q:=fun c z=>SG st z/\∃x,c.1=some x/\Mg rk a.toList b.toList x.toList) (fun x c z _ hx hI=>?_) (fun c z hI=>?_) ⟨rfl,SG.refl st,.inr ⟨rfl,U,by show 1<=a.size-1; lia,by show a.size-1<=a.size; lia,by show 2<=b.size; lia,yf _,by show a.size-1+b.size<=a.size+b.size-1-0; lia⟩⟩) ?_)
 ·obtain⟨hc,J,p⟩:=hI;rcases p with⟨r,e,_⟩|⟨_,M,hi2,F,R,B,O⟩
  ·rw[hc] at e; cases e
  ·refine y1h (Vo h hk J M hi2 F R B) fun r fe l=>?_;obtain⟨G,⟨c',x',rfl,e,Z⟩|⟨c',rfl,fc,_,p3⟩⟩:=l
   ·exact⟨G,x',e,Z⟩
   ·refine⟨fc,G,p3.imp id fun p=>⟨p.1,p.2.1,p.2.2.1,p.2.2.2.1,p.2.2.2.2.1,p.2.2.2.2.2.1,?_⟩⟩;have:=p.2.2.2.2.2.2;lia
 ·obtain⟨hc,J,p⟩:=hI;rcases p with⟨r,e,_⟩|⟨_,M,hi2,F,R,B,O⟩
  ·rw[hc] at e; cases e
  ·rw[y4q (yo _)] at O;lia
 ·rintro⟨r,t⟩ z ⟨sg,x,e,hx⟩;cases e;exact y01 (q _ _ sg hx)
end
noncomputable def ky(rk:Keyed->Nat)(xs:Array Keyed)(i:Nat):Nat:=match xs[i]? with
 |some p=>rk p
 |none=>0
theorem Bb{rk:Keyed->Nat}(h:xs[i]?=ys[j]?):ky rk xs i=ky rk ys j:=by unfold ky; rw[h]
noncomputable def Rs(rk:Keyed->Nat)(xs:Array Keyed)(lo hi:Nat):Prop:=∀i j,lo<=i->i<j->j<hi->ky rk xs i<ky rk xs j
section
variable{prog:yq}{w:y0h}{A:y0n}{E:yg->ye->Prop}{s:ye}{κ:SortKind}{rk:Keyed->Nat}{S:Keyed->Prop}{a0:Array Keyed}
structure SH(prog:yq)(w:y0h)(A:y0n)(s:ye)(κ:SortKind)(rk:Keyed->Nat)(S:Keyed->Prop)(a0:Array Keyed):Prop where
 C:CmpL prog w A s κ rk S
 mem:∀x∈a0.toList,S x
 nd:(a0.toList.map rk).Nodup
structure SX(κ:SortKind)(a0:Array Keyed)(st:SortSt):Prop where
 kind:y1s st=κ
 failed:failedOf st=none
 perm:(y02 st).Perm a0
theorem SX.size{st:SortSt}(h:SX κ a0 st):(y02 st).size=a0.size:=h.perm.size_eq
theorem SX.at{st:SortSt}(h:SX κ a0 st)(H:SH prog w A s κ rk S a0){i:Nat}(hi:i<a0.size):∃x,(y02 st)[i]?=some x/\S x/\ky rk (y02 st) i=rk x:=by
 obtain⟨x,q,_,m⟩:=Ar (xs:=y02 st) (i:=i) (by rw[h.size]; exact hi);exact⟨x,q,H.mem x ((Array.perm_iff_toList_perm.mp h.perm).mem_iff.mp m),by unfold ky; rw[q]⟩
theorem Oj(hi:i<xs.size):(xs.toList.map rk)[i]?=some (ky rk xs i):=by
 unfold ky;rw[y0k,getElem?_pos xs i hi];simp[hi]
theorem SX.inj{st:SortSt}(h:SX κ a0 st)(H:SH prog w A s κ rk S a0){i j:Nat}(hi:i<a0.size)(q:j<a0.size)(e:ky rk (y02 st) i=ky rk (y02 st) j):i=j:=by
 have nd:((y02 st).toList.map rk).Nodup:=((Array.perm_iff_toList_perm.mp h.perm).map rk).nodup_iff.mpr H.nd;have h1:=Oj (rk:=rk) (xs:=y02 st) (i:=i) (by rw[h.size]; exact hi);have h2:=Oj (rk:=rk) (xs:=y02 st) (i:=j) (by rw[h.size]; exact q);exact(List.getElem?_inj (by rw[y4,yi,h.size]; exact hi) nd).mp (by rw[h1,h2,e])
theorem Eg{st:SortSt}{i j:Nat}{Q:Option Bool->SortSt->Prop}(H:SH prog w A s κ rk S a0)(h:SX κ a0 st)(hi:i<a0.size)(J:j<a0.size)(q:Q (some (decide (ky rk (y02 st) i<ky rk (y02 st) j))) st):wpS (y06 prog w) A E s (ltAt' i j) Q st:=by
 obtain⟨x,M,B,G⟩:=h.at H hi;obtain⟨y,e2,z,F⟩:=h.at H J;rw[ltAt'_eq];refine yr (y58 ?_);refine yr (Av M (yr (Av e2 (Fk H.C h.kind B z ?_))));rw[<- G,<- F];exact q
theorem SX.setArr{st:SortSt}(h:SX κ a0 st){xs:Array Keyed}(q:xs.Perm (y02 st)):SX κ a0 (setArr st xs):=⟨h.kind,h.failed,q.trans h.perm⟩
theorem Rs.snoc{xs:Array Keyed}{lo n:Nat}(h:Rs rk xs lo (lo+n))(h1:1<=n)(k:ky rk xs (lo+n-1)<ky rk xs (lo+n)):Rs rk xs lo (lo+(n+1)):=by
 intro i j hi q z;by_cases e:j=lo+n
 ·subst e;by_cases e2:i=lo+n-1
  ·rw[e2]; exact k
  ·exact y1i (h i (lo+n-1) hi (by lia) (by lia)) k
 ·exact h i j hi q (by lia)
def Cr(κ:SortKind)(rk:Keyed->Nat)(a0:Array Keyed)(lo z:Nat)(st:SortSt)(r:Option Nat)(q:SortSt):Prop:=∃n,r=some n/\1<=n/\n<=z/\SX κ a0 q/\y03 q=y03 st/\Rs rk (y02 q) lo (lo+n)/\∀i,i<lo->(y02 q)[i]?=(y02 st)[i]?
theorem Vq{lo F:Nat}{st:SortSt}(H:SH prog w A s κ rk S a0)(h:SX κ a0 st)(h1:1<=F)(hn:lo+F<=a0.size):wpS (y06 prog w) A E s (countRun' lo F) (Cr κ rk a0 lo F st) st:=by
 rw[countRun'_eq];refine yr (y1h (y1a (I:=fun x c B=>B=st/\∃n,c=(none,n)/\n=x/\Rs rk (y02 st) lo (lo+n))
  (Q:=fun c B=>B=st/\∃n,c=(none,n)/\1<=n/\n<=F/\Rs rk (y02 st) lo (lo+n)/\(n<F->ky rk (y02 st) (lo+n)<ky rk (y02 st) (lo+n-1))) ?t ?fin ⟨rfl,1,rfl,rfl,fun i j _ _ _=>by lia⟩) ?post)
 case fin=>
  rintro c B ⟨rfl,n,rfl,e,r⟩;refine⟨rfl,n,rfl,by lia,by lia,r,fun z=>by lia⟩
 case t=>
  rintro x c B M hx ⟨rfl,n,rfl,rfl,r⟩;dsimp only;refine yr (Eg H h (by lia) (by lia) ?_);by_cases c:ky rk (y02 B) (lo+n)<ky rk (y02 B) (lo+n-1)
  ·simp only[c,decide_true,if_true];exact y01 ⟨rfl,n,rfl,M,by lia,r,fun _=>c⟩
  ·simp only[c,decide_false,y0e,if_false];refine y01 ⟨rfl,n+1,rfl,rfl,r.snoc M ?_⟩;have:ky rk (y02 B) (lo+n-1)≠ky rk (y02 B) (lo+n):=fun e=>by have:=h.inj H (by lia) (by lia) e; lia
   lia
 case post=>
  rintro c B ⟨rfl,n,rfl,n1,Z,r,hb⟩;dsimp only;by_cases c:n=F
  ·rw[if_pos (by simpa using c)];exact y01 ⟨n,rfl,n1,Z,h,rfl,r,fun _ _=>rfl⟩
  rw[if_neg (by simpa using c)];by_cases c1:n>1
  ·rw[if_pos c1];refine yr (Eg H h (by lia) (by lia) ?_);simp only[r lo (lo+n-1) (yf _) (by lia) (by lia),decide_true,if_true];exact y01 ⟨n,rfl,n1,Z,h,rfl,r,fun _ _=>rfl⟩
  rw[if_neg c1];obtain rfl:n=1:=by lia
  refine yr (Ed ?_);have O:=hb (by lia);refine yr (y1h (y1a (I:=fun x c q=>q=B/\∃n,c=(none,n,0)/\n=x/\∀i j,lo<=i->i<j->j<lo+n->ky rk (y02 B) j<ky rk (y02 B) i)
   (Q:=fun c q=>q=B/\∃n,c=(none,n,0)/\2<=n/\n<=F/\∀i j,lo<=i->i<j->j<lo+n->ky rk (y02 B) j<ky rk (y02 B) i) ?_ ?_ ⟨rfl,2,rfl,rfl,fun i j hi J hj=>?_⟩) ?_)
  ·rintro x c q fc hx ⟨rfl,n,rfl,rfl,d⟩;dsimp only;refine yr (Eg H h (by lia) (by lia) ?_);by_cases c:ky rk (y02 q) (lo+n)<ky rk (y02 q) (lo+n-1)
   ·simp only[c,decide_true,if_true];rw[if_neg (by lia)];refine y01 ⟨rfl,n+1,rfl,rfl,fun i j hi J hj=>?_⟩;by_cases e:j=lo+n
    ·subst e;by_cases e2:i=lo+n-1
     ·rw[e2]; exact c
     ·exact y1i c (d i (lo+n-1) hi (by lia) (by lia))
    ·exact d i j hi J (by lia)
   ·simp only[c,decide_false,y0e,if_false];have c':ky rk (y02 q) (lo+n-1)<ky rk (y02 q) (lo+n):=by
     have:ky rk (y02 q) (lo+n-1)≠ky rk (y02 q) (lo+n):=fun e=>by have:=h.inj H (by lia) (by lia) e; lia
     lia
    refine yr (Eg H h (by lia) (by lia) ?_);simp only[c',decide_true,if_true];exact y01 ⟨rfl,n,rfl,by lia,by lia,d⟩
  ·rintro c q ⟨rfl,n,rfl,e,d⟩;exact⟨rfl,n,rfl,by lia,by lia,d⟩
  ·obtain rfl:i=lo:=by lia
   obtain rfl:j=i+1:=by lia
   simpa using O
  ·rintro c q ⟨rfl,n,rfl,n3,n4,d⟩;dsimp only;rw[if_neg (by lia)];refine yr (wpS_reverse ?_);have hz:lo+n<=(y02 q).size:=by rw[h.size]; lia
   have R:=fun k=>getElem?_mirror_all (xs:=y02 q) (i:=lo) (j:=lo+n) hz k;have h2:SX κ a0 (setArr q (mirror (y02 q) lo (lo+n) ((lo+n-lo) / 2))):=h.setArr (mirror_perm _ _ _ _);have U:Rs rk (mirror (y02 q) lo (lo+n) ((lo+n-lo) / 2)) lo (lo+n):=fun i j hi J hj=>by
    have e1:=R i;have e2:=R j;rw[if_pos (by lia)] at e1 e2;rw[Bb e1,Bb e2];exact d _ _ (by lia) (by lia) (by lia)
   have lo2:∀i,i<lo->(mirror (y02 q) lo (lo+n) ((lo+n-lo) / 2))[i]?=(y02 q)[i]?:=fun i hi=>by rw[R i,if_neg (by lia)]
   generalize est:setArr q (mirror (y02 q) lo (lo+n) ((lo+n-lo) / 2))=sz at h2 |-;have ea:y02 sz=mirror (y02 q) lo (lo+n) ((lo+n-lo) / 2):=by rw[<- est]
   have ep:y03 sz=y03 q:=by rw[<- est]
   rw[<- ea] at U lo2;refine yr (y1h (y1a (I:=fun x c G=>G=sz/\∃n,c=(none,n)/\n=x/\Rs rk (y02 sz) lo (lo+n))
    (Q:=fun c G=>G=sz/\∃n,c=(none,n)/\1<=n/\n<=F/\Rs rk (y02 sz) lo (lo+n)) ?_ ?_ ⟨rfl,n,rfl,rfl,U⟩) ?_)
   ·rintro x c G M hx ⟨rfl,n,rfl,rfl,r⟩;dsimp only;refine yr (Eg H h2 (by lia) (by lia) ?_);by_cases c:ky rk (y02 G) (lo+n)<ky rk (y02 G) (lo+n-1)
    ·simp only[c,decide_true,if_true];exact y01 ⟨rfl,n,rfl,by lia,by lia,r⟩
    ·simp only[c,decide_false,y0e,if_false];refine y01 ⟨rfl,n+1,rfl,rfl,r.snoc (by lia) ?_⟩;have:ky rk (y02 G) (lo+n-1)≠ky rk (y02 G) (lo+n):=fun e=>by have:=h2.inj H (by lia) (by lia) e; lia
     lia
   ·rintro c G ⟨rfl,n,rfl,e,r⟩;exact⟨rfl,n,rfl,by lia,by lia,r⟩
   ·rintro c G ⟨rfl,n,rfl,m1,m2,r⟩;exact y01 ⟨n,rfl,m1,m2,h2,ep,r,lo2⟩
theorem Vr{lo n ok:Nat}{st:SortSt}{Q:Bool->SortSt->Prop}(H:SH prog w A s κ rk S a0)(h:SX κ a0 st)(hn:lo+n<=a0.size)(fg:ok<=n)(hs:Rs rk (y02 st) lo (lo+ok))
  (q:∀z,SX κ a0 z->y03 z=y03 st->Rs rk (y02 z) lo (lo+n)->(∀i,i<lo->(y02 z)[i]?=(y02 st)[i]?)->Q true z):wpS (y06 prog w) A E s (binarySort' lo n ok) Q st:=by
 rw[binarySort'_eq];refine yr (y1h (y1a (I:=fun k c z=>c=(none,())/\SX κ a0 z/\y03 z=y03 st/\Rs rk (y02 z) lo (lo+min k n)/\∀i,i<lo->(y02 z)[i]?=(y02 st)[i]?)
  (Q:=fun c z=>c=(none,())/\SX κ a0 z/\y03 z=y03 st/\Rs rk (y02 z) lo (lo+n)/\∀i,i<lo->(y02 z)[i]?=(y02 st)[i]?) ?t ?fin ?init) ?post)
 case post=>
  rintro c z ⟨rfl,h1,h2,O,h4⟩;exact y01 (q z h1 h2 O h4)
 case init=>
  refine⟨rfl,h,rfl,fun i j hi U hj=>?_,fun _ _=>rfl⟩;by_cases h1:ok=0
  ·lia
  ·exact hs i j hi U (by lia)
 case fin=>
  rintro c z ⟨hc,h1,h2,O,h4⟩;refine⟨hc,h1,h2,?_,h4⟩;rwa [show min (max (max ok 1) n) n=n by lia] at O
 case t=>
  rintro k c z ft fq ⟨rfl,h1,h2,O,h4⟩;rw[show min k n=k by lia] at O;refine yr (y1h (y1a (I:=fun x c B=>B=z/\∃l r,c=(none,l,r)/\l<=r/\r<=k/\r-l<=k-x/\
    (∀i,lo<=i->i<lo+l->ky rk (y02 z) i<ky rk (y02 z) (lo+k))/\(∀i,lo+r<=i->i<lo+k->ky rk (y02 z) (lo+k)<ky rk (y02 z) i))
   (Q:=fun c B=>B=z/\∃l r,c=(none,l,r)/\l<=k/\
    (∀i,lo<=i->i<lo+l->ky rk (y02 z) i<ky rk (y02 z) (lo+k))/\(∀i,lo+l<=i->i<lo+k->ky rk (y02 z) (lo+k)<ky rk (y02 z) i)) ?istep ?ifin ⟨rfl,0,k,rfl,by lia,by lia,by lia,fun i a b=>by lia,fun i a b=>by lia⟩) ?ipost)
  case ifin=>
   rintro c B ⟨rfl,l,r,rfl,fc,R,hm,G,J⟩;obtain rfl:l=r:=by lia
   exact⟨rfl,l,l,rfl,R,G,J⟩
  case istep=>
   rintro x c B _ fe ⟨rfl,l,r,rfl,fc,R,hm,G,J⟩;dsimp only;by_cases Z:l ≥ r
   ·rw[if_pos Z];obtain rfl:l=r:=by lia
    exact y01 ⟨rfl,l,l,rfl,R,G,J⟩
   ·rw[if_neg Z];refine yr (Eg H h1 (by lia) (by lia) ?_);by_cases F:ky rk (y02 B) (lo+k)<ky rk (y02 B) (lo+(l+r) / 2)
    ·simp only[F,decide_true,if_true];refine y01 ⟨rfl,l,(l+r) / 2,rfl,by lia,by lia,by lia,G,fun i a b=>?_⟩;by_cases e:i=lo+(l+r) / 2
     ·rw[e]; exact F
     ·exact y1i F (O _ _ (by lia) (by lia) b)
    ·simp only[F,decide_false,y0e,if_false];have fh:ky rk (y02 B) (lo+(l+r) / 2)≠ky rk (y02 B) (lo+k):=fun e=>by have:=h1.inj H (by lia) (by lia) e; lia
     refine y01 ⟨rfl,(l+r) / 2+1,r,rfl,by lia,by lia,by lia,fun i a b=>?_,J⟩;by_cases e:i=lo+(l+r) / 2
     ·rw[e]; lia
     ·have:=O i _ a (show i<lo+(l+r) / 2 by lia) (by lia);lia
  case ipost=>
   rintro c B ⟨rfl,l,r,rfl,fk,G,J⟩;dsimp only;rw[moveDown'_eq];refine yr (y5n (y01 ?_));have hz:lo+k<(y02 B).size:=by rw[h1.size]; lia
   have eb:=fun i=>getElem?_bubble (xs:=y02 B) (src:=lo+k) hz (lo+k-(lo+l)) (by lia) i;refine⟨rfl,h1.setArr (bubble_perm _ _ _),h2,fun i j hi U hj=>?_,fun i hi=>?_⟩
   ·rw[show min (k+1) n=k+1 by lia] at hj;have M:=eb i;have e2:=eb j;show ky rk (bubble (y02 B) (lo+k) (lo+k-(lo+l))) i<ky rk (bubble (y02 B) (lo+k) (lo+k-(lo+l))) j;rw[show lo+k-(lo+k-(lo+l))=lo+l by lia] at M e2;by_cases c1:j=lo+l
    ·rw[if_pos c1] at e2;rw[if_neg (by lia),if_neg (by lia)] at M;rw[Bb M,Bb e2];exact G i hi (by lia)
    ·rw[if_neg c1] at e2;by_cases c2:i=lo+l
     ·rw[if_pos c2] at M;rw[if_pos (by lia)] at e2;rw[Bb M,Bb e2];exact J _ (by lia) (by lia)
     ·rw[if_neg c2] at M;by_cases c3:lo+l<i
      ·rw[if_pos (by lia)] at M e2;rw[Bb M,Bb e2];exact O _ _ (by lia) (by lia) (by lia)
      ·rw[if_neg (by lia)] at M;by_cases c4:lo+l<j
       ·rw[if_pos (by lia)] at e2;rw[Bb M,Bb e2];exact O _ _ hi (by lia) (by lia)
       ·rw[if_neg (by lia)] at e2;rw[Bb M,Bb e2];exact O _ _ hi U (by lia)
   ·show(bubble (y02 B) (lo+k) (lo+k-(lo+l)))[i]?=(y02 st)[i]?;rw[eb i,if_neg (by lia),if_neg (by lia)];exact h4 i hi
noncomputable def CB(sa:Nat)(m a:Array Keyed):Array Keyed:=m.toList.zipIdx.foldl (fun a (p,j)=>a.setIfInBounds (sa+j) p) a
noncomputable def maE(sa:Nat)(m:Array Keyed):StateT SortSt Sem Bool:=do
 modify fun t=>setArr t (CB sa m (y02 t))
 return (failedOf (<- get)).isNone
noncomputable def maB(a:Array Keyed)(sa na sb nb:Nat):StateT SortSt Sem Bool:=do
 let some nb <- Ce true (<- elem' a (sa+na-1)) a sb nb (nb-1)|return false
 if nb==0 then return true
 if na<=nb then
  let m <- Ke (a.extract sa sb) (a.extract sb (sb+nb))
  maE sa m
 else
  let m <- Kg (a.extract sa sb) (a.extract sb (sb+nb))
  maE sa m
noncomputable def maA(st:SortSt)(i sa na p sb nb:Nat):StateT SortSt Sem Bool:=do
 set (setPending st (((y03 st).setIfInBounds i (sa,na+nb,p)).eraseIdxIfInBounds (i+1)))
 let some k <- Ce false (<- elem' (y02 st) sb) (y02 st) sa na 0|return false
 if na-k==0 then return true
 maB (y02 st) (sa+k) (na-k) sb nb
theorem Vs{i sa z p q nb p2:Nat}{st:SortSt}{Q:Bool->SortSt->Prop}(B:(y03 st)[i]?=some (sa,z,p))(e2:(y03 st)[i+1]?=some (q,nb,p2))(h:wpS (y06 prog w) A E s (maA st i sa z p q nb) Q st):wpS (y06 prog w) A E s (mergeAt' i) Q st:=by
 refine yr (y58 ?_);unfold maA maB maE at h;generalize (y03 st)[i]?=x at B |-;generalize (y03 st)[i+1]?=y at e2 |-;subst B e2;exact h
theorem Vt{σ:Type}{M:Model}{t st:σ}{Q:PUnit->σ->Prop}(h:Q ⟨⟩ t):wpS M A E s (set t:StateT σ Sem PUnit) Q st:=by
 unfold wpS; rw[StateT.run_set]; exact yh ⟨rfl,h⟩
theorem Ol(sa:Nat):∀(l:List Keyed) (n:Nat) (xs:Array Keyed),sa+n+l.length<=xs.size->∀k,((l.zipIdx n).foldl (fun a (p,j)=>a.setIfInBounds (sa+j) p) xs)[k]?=if sa+n<=k/\k<sa+n+l.length then l[k-(sa+n)]? else xs[k]?
 |[],n,xs,_,k=>by
  rw[if_neg (by simp)];rfl
 |x::l,n,xs,h,k=>by
  rw[yu] at h;rw[List.zipIdx_cons,List.foldl_cons,Ol sa l (n+1) _ (by rw[Array.size_setIfInBounds]; lia) k,yu];by_cases c:sa+(n+1)<=k/\k<sa+(n+1)+l.length
  ·rw[if_pos c,if_pos (by lia),show k-(sa+n)=(k-(sa+(n+1)))+1 by lia,y34]
  ·rw[if_neg c,Array.getElem?_setIfInBounds];by_cases q:sa+n=k
   ·subst q;rw[if_pos rfl,if_pos (by lia),if_pos (by lia),Nat.sub_self,y2h]
   ·rw[if_neg q,if_neg (by lia)]
theorem Om(h:sa+m.size<=xs.size)(k:Nat):(CB sa m xs)[k]?=if sa<=k/\k<sa+m.size then m[k-sa]? else xs[k]?:=by
 unfold CB;have:=Ol sa m.toList 0 xs (by rw[yi]; lia) k;rw[yi,Nat.add_zero] at this;rw[this];split
 ·exact y15
 ·rfl
theorem CC(h:xs.toList[i]?=some x):ky rk xs i=rk x:=by
 unfold ky;rw[y15] at h;rw[h]
theorem Rs.le{xs:Array Keyed}{lo hi i j:Nat}(h:Rs rk xs lo hi)(h1:lo<=i)(h2:i<=j)(q:j<hi):ky rk xs i<=ky rk xs j:=by
 rcases Nat.lt_or_eq_of_le h2 with e|rfl
 ·exact y12 (h i j h1 e q)
 ·exact yf _
theorem Rs.ux{xs:Array Keyed}{lo hi:Nat}(h:Rs rk xs lo hi):∀i j x y,lo<=i->i<=j->j<hi->xs.toList[i]?=some x->xs.toList[j]?=some y->rk x<=rk y:=fun i j x y h1 h2 q z e2=>by
 rw[<- CC (rk:=rk) z,<- CC (rk:=rk) e2];exact h.le h1 h2 q
theorem Fn{xs:Array Keyed}{lo hi m:Nat}{x:Keyed}(h:(xs.extract lo hi).toList[m]?=some x):lo+m<hi/\xs.toList[lo+m]?=some x:=by
 rw[CQ] at h;have hm:=(zzS h).1;rw[y04] at hm;rw[y2d (by lia),y3x] at h;exact⟨by lia,h⟩
theorem Eh{xs:Array Keyed}{lo hi:Nat}{x:Keyed}(h:x∈(xs.extract lo hi).toList):∃m,lo<=m/\m<hi/\xs.toList[m]?=some x/\ky rk xs m=rk x:=by
 obtain⟨m,hm,e⟩:=y1q h;obtain⟨h1,h2⟩:=Fn (List.getElem?_eq_some_iff.mpr ⟨hm,e⟩);exact⟨lo+m,by lia,h1,h2,CC h2⟩
theorem Rs.ex{xs:Array Keyed}{lo hi q z:Nat}(h:Rs rk xs lo hi)(h1:lo<=q)(h2:z<=hi):Up rk (xs.extract q z).toList:=by
 unfold Up;rw[y1r];intro i j hi B F;obtain⟨M,G⟩:=Fn (yk hi);obtain⟨J,b2⟩:=Fn (yk B);exact h.ux _ _ _ _ (by lia) (by lia) (by lia) G b2
theorem SX.rs{st:SortSt}(h:SX κ a0 st)(H:SH prog w A s κ rk S a0){lo hi:Nat}(z:hi<=a0.size)(le:∀i j,lo<=i->i<j->j<hi->ky rk (y02 st) i<=ky rk (y02 st) j):Rs rk (y02 st) lo hi:=fun i j h1 h2 q=>by
 have B:=le i j h1 h2 q;have:ky rk (y02 st) i≠ky rk (y02 st) j:=fun e=>by have:=h.inj H (by lia) (by lia) e; lia
 lia
theorem Vu(h:sa+m.size=hi)(z:hi<=xs.size):(CB sa m xs).toList=xs.toList.take sa++m.toList++xs.toList.drop hi:=by
 apply y4f;intro k;rw[y15,Om (by lia)];by_cases q:k<sa
 ·rw[if_neg (by lia),yn,y27 (by rw[y04,yi]; lia),y2d q,y15]
 ·rw[yn,y22 (by rw[y04,yi]; lia),y04,yi,y51 (by lia)];by_cases B:k<hi
  ·rw[if_pos (by lia),y27 (by rw[yi]; lia),y15]
  ·rw[if_neg (by lia),y22 (by rw[yi]; lia),yi,y3x,show hi+(k-sa-m.size)=k by lia,y15]
theorem Vv{T:List Keyed}{i j k:Nat}(h1:i<=j)(h2:j<=k):T=T.take i++((T.drop i).take (j-i)++(T.drop j).take (k-j))++T.drop k:=by
 have q:T.drop i=(T.drop i).take (j-i)++T.drop j:=by
  have:=y1f (j-i) (T.drop i);rw[y54,show i+(j-i)=j by lia] at this;exact this.symm
 have e2:T.drop j=(T.drop j).take (k-j)++T.drop k:=by
  have:=y1f (k-j) (T.drop j);rw[y54,show j+(k-j)=k by lia] at this;exact this.symm
 rw[yn,yn,<- e2,<- q,y1f]
def Ma(κ:SortKind)(rk:Keyed->Nat)(a0:Array Keyed)(st:SortSt)(sa hi:Nat)(ps:Array (Nat×Nat×Nat))(r:Bool)(q:SortSt):Prop:=r=true/\SX κ a0 q/\y03 q=ps/\Rs rk (y02 q) sa hi/\∀k,k<sa\/hi<=k->(y02 q)[k]?=(y02 st)[k]?
theorem Vw{st st1:SortSt}{m:Array Keyed}{sa q B z hi:Nat}(H:SH prog w A s κ rk S a0)(h:SX κ a0 st)(e1:y02 st1=y02 st)(ek:y1s st1=κ)(ef:failedOf st1=none)(h1:sa<=q)(h2:q<B)(h3:B<z)(h4:z<=hi)(h5:hi<=a0.size)
  (ra:Rs rk (y02 st) sa B) (U:Rs rk (y02 st) B hi) (mg:Mg rk ((y02 st).extract q B).toList ((y02 st).extract B z).toList m.toList)
  (f1:∀i,sa<=i->i<q->ky rk (y02 st) i<=ky rk (y02 st) B) (f2:∀i,q<=i->i<B->ky rk (y02 st) B<=ky rk (y02 st) i) (f3:∀i,B<=i->i<z->ky rk (y02 st) i<=ky rk (y02 st) (B-1)) (f4:∀i,z<=i->i<hi->ky rk (y02 st) (B-1)<=ky rk (y02 st) i) :
  wpS (y06 prog w) A E s (maE q m) (Ma κ rk a0 st sa hi (y03 st1)) st1:=by
 unfold maE;refine yr (y5n (yr (y58 (y01 ?_))));have hz:=h.size;obtain⟨R,up⟩:=mg;have lm:m.size=(B-q)+(z-B):=by
  have:=R.length_eq;rw[yc,CQ,CQ,y04,y04,y1v,y1v,yi,yi] at this;lia
 have hsz:q+m.size=z:=by lia
 have Z:=fun k=>Om (sa:=q) (m:=m) (xs:=y02 st) (by lia) k;have hS:SX κ a0 (setArr st1 (CB q m (y02 st1))):=by
  refine⟨ek,ef,?_⟩;show(CB q m (y02 st1)).Perm a0;rw[e1];refine Array.Perm.trans ?_ h.perm;rw[Array.perm_iff_toList_perm,Vu hsz (by lia)];have e4:=Vv (T:=(y02 st).toList) (i:=q) (j:=B) (k:=z) (by lia) (by lia);rw[CQ,CQ] at R;rw[List.perm_iff_count];intro x;have O:=(List.perm_iff_count.mp R) x;have M:=congrArg (List.count x) e4;simp only[List.count_append] at O M |-;lia
 have km:∀i,q<=i->i<z->∃x∈m.toList,ky rk (CB q m (y02 st)) i=rk x/\m.toList[i-q]?=some x:=fun i a b=>by
  obtain⟨x,e,e2,G⟩:=Ar (xs:=m) (i:=i-q) (by lia);refine⟨x,G,?_,e2⟩;unfold ky;rw[Z i,if_pos (by lia),e]
 have F:∀i,i<q\/z<=i->ky rk (CB q m (y02 st)) i=ky rk (y02 st) i:=fun i a=>Bb (by rw[Z i,if_neg (by lia)]);have J:∀x∈m.toList,ky rk (y02 st) B<=rk x/\rk x<=ky rk (y02 st) (B-1):=fun x hx=>by
  rcases List.mem_append.mp (R.mem_iff.mp hx) with hx|hx
  ·obtain⟨i,a,b,_,e⟩:=Eh (rk:=rk) hx;rw[<- e];exact⟨f2 i a b,ra.le (by lia) (by lia) (by lia)⟩
  ·obtain⟨i,a,b,_,e⟩:=Eh (rk:=rk) hx;rw[<- e];exact⟨U.le (by lia) a (by lia),f3 i a b⟩
 refine⟨by show(failedOf st1).isNone=true; rw[ef]; rfl,hS,rfl,hS.rs H h5 fun i j hi1 fc hj=>?_,fun k hk=>?_⟩
 ·show ky rk (CB q m (y02 st1)) i<=ky rk (CB q m (y02 st1)) j;rw[e1];by_cases O:i<q
  ·rw[F i (.inl O)];by_cases M:j<q
   ·rw[F j (.inl M)];exact ra.le hi1 (by lia) (by lia)
   ·by_cases c3:j<z
    ·obtain⟨x,G,e,_⟩:=km j (by lia) c3;rw[e];have:=f1 i hi1 O;have:=(J x G).1;lia
    ·rw[F j (.inr (by lia))];have:=f1 i hi1 O;have:=U.le (i:=B) (j:=j) (yf _) (by lia) hj;lia
  ·by_cases M:i<z
   ·obtain⟨x,G,e,ex⟩:=km i (by lia) M;rw[e];by_cases c3:j<z
    ·obtain⟨y,my,e',ey⟩:=km j (by lia) c3;rw[e'];exact up.at ex ey (by lia)
    ·rw[F j (.inr (by lia))];have:=(J x G).2;have:=f4 j (by lia) hj;lia
   ·rw[F i (.inr (by lia)),F j (.inr (by lia))];exact U.le (by lia) (by lia) hj
 ·show(CB q m (y02 st1))[k]?=(y02 st)[k]?;rw[e1,Z k,if_neg (by lia)]
theorem Vx{st:SortSt}{i sa J p q nb p2:Nat}(H:SH prog w A s κ rk S a0)(h:SX κ a0 st)(e1:(y03 st)[i]?=some (sa,J,p))(e2:(y03 st)[i+1]?=some (q,nb,p2))(hb:q=sa+J)(fq:1<=J)(fk:1<=nb)(hz:q+nb<=a0.size)(R:Rs rk (y02 st) sa q)(O:Rs rk (y02 st) q (q+nb)) :
  wpS (y06 prog w) A E s (mergeAt' i) (Ma κ rk a0 st sa (q+nb) (((y03 st).setIfInBounds i (sa,J+nb,p)).eraseIdxIfInBounds (i+1))) st:=by
 refine Vs e1 e2 ?_;unfold maA;refine yr (Vt ?_);generalize ((y03 st).setIfInBounds i (sa,J+nb,p)).eraseIdxIfInBounds (i+1)=ps;have hk:y1s (setPending st ps)=κ:=h.kind;have hsz:=h.size;have mem:∀x∈(y02 st).toList,S x:=fun x hx=>H.mem x ((Array.perm_iff_toList_perm.mp h.perm).mem_iff.mp hx);obtain⟨key,k1,k2,mk⟩:=Ar (xs:=y02 st) (i:=q) (by lia);have kk:=CC (rk:=rk) k2;refine yr (Av k1 ?_);refine yr (Ef H.C hk mem (mem key mk) (fun i j x y a b c=>R.ux i j x y a b (by lia)) (by lia) (by lia) fun k fh fc fe=>?_);have f1:∀i,sa<=i->i<sa+k->ky rk (y02 st) i<=ky rk (y02 st) q:=fun i a b=>by
  obtain⟨x,_,B,_⟩:=Ar (xs:=y02 st) (i:=i) (by lia);have:=fc x (by
   rw[List.mem_iff_getElem?]
   refine⟨i-sa,?_⟩
   rw[y2d (by lia),y3x,show sa+(i-sa)=i by lia]
   exact B)
  rw[CC B,kk];simpa [byK] using this
 have f2:∀i,sa+k<=i->i<q->ky rk (y02 st) q<=ky rk (y02 st) i:=fun i a b=>by
  obtain⟨x,_,B,_⟩:=Ar (xs:=y02 st) (i:=i) (by lia);have:=fe (i-sa) x (by lia) (by lia) (by rw[show sa+(i-sa)=i by lia]; exact B);rw[CC B,kk];have M:rk key<rk x:=by simpa [byK] using this
  lia
 dsimp only;have F:SX κ a0 (setPending st ps):=⟨h.kind,h.failed,h.perm⟩;by_cases c:J-k=0
 ·rw[if_pos (by simpa using c)];refine y01 ⟨rfl,F,rfl,F.rs H hz fun i j h1 h2 M=>?_,fun _ _=>rfl⟩;show ky rk (y02 st) i<=ky rk (y02 st) j;by_cases c1:j<q
  ·exact R.le h1 (by lia) c1
  ·by_cases c2:i<q
   ·have:=f1 i h1 (by lia);have:=O.le (i:=q) (j:=j) (yf _) (by lia) M;lia
   ·exact O.le (by lia) (by lia) M
 rw[if_neg (by simpa using c)];unfold maB;obtain⟨lst,l1,l2,ml⟩:=Ar (xs:=y02 st) (i:=q-1) (by lia);have kl:=CC (rk:=rk) l2;refine yr (Av (by rw[show sa+k+(J-k)-1=q-1 by lia]; exact l1) ?_);refine yr (Ef H.C hk mem (mem lst ml) (fun i j x y a b c=>O.ux i j x y a b (by lia)) (by lia) (by lia) fun z fg U Z=>?_);have f3:∀i,q<=i->i<q+z->ky rk (y02 st) i<=ky rk (y02 st) (q-1):=fun i a b=>by
  obtain⟨x,_,B,_⟩:=Ar (xs:=y02 st) (i:=i) (by lia);have:=U x (by
   rw[List.mem_iff_getElem?]
   refine⟨i-q,?_⟩
   rw[y2d (by lia),y3x,show q+(i-q)=i by lia]
   exact B)
  rw[CC B,kl];have M:rk x<rk lst:=by simpa [byK] using this
  lia
 have f4:∀i,q+z<=i->i<q+nb->ky rk (y02 st) (q-1)<=ky rk (y02 st) i:=fun i a b=>by
  obtain⟨x,_,B,_⟩:=Ar (xs:=y02 st) (i:=i) (by lia);have:=Z (i-q) x (by lia) (by lia) (by rw[show q+(i-q)=i by lia]; exact B);rw[CC B,kl];simpa [byK] using this
 dsimp only;by_cases c2:z=0
 ·rw[if_pos (by simpa using c2)];refine y01 ⟨rfl,F,rfl,F.rs H hz fun i j h1 h2 M=>?_,fun _ _=>rfl⟩;show ky rk (y02 st) i<=ky rk (y02 st) j;by_cases c1:j<q
  ·exact R.le h1 (by lia) c1
  ·by_cases c2:i<q
   ·have:=f4 j (by lia) M;have:=R.le (i:=i) (j:=q-1) h1 (by lia) (by lia);lia
   ·exact O.le (by lia) (by lia) M
 rw[if_neg (by simpa using c2)];have zx:((y02 st).extract (sa+k) q).size=q-(sa+k):=by rw[Array.size_extract]; lia
 have zy:((y02 st).extract q (q+z)).size=z:=by rw[Array.size_extract]; lia
 have mx:∀x∈((y02 st).extract (sa+k) q).toList,S x:=fun x hx=>by
  obtain⟨_,_,_,e,_⟩:=Eh (rk:=rk) hx;exact mem x (yw e)
 have my:∀x∈((y02 st).extract q (q+z)).toList,S x:=fun x hx=>by
  obtain⟨_,_,_,e,_⟩:=Eh (rk:=rk) hx;exact mem x (yw e)
 have ux:Up rk ((y02 st).extract (sa+k) q).toList:=R.ex (by lia) (yf _);have uy:Up rk ((y02 st).extract q (q+z)).toList:=O.ex (yf _) (by lia);have h0:∀y,((y02 st).extract q (q+z)).toList[0]?=some y->∀x∈((y02 st).extract (sa+k) q).toList,rk y<=rk x:=fun y hy x hx=>by
  obtain⟨_,e⟩:=Fn hy;obtain⟨i,a,b,_,e'⟩:=Eh (rk:=rk) hx;rw[<- e',<- CC (rk:=rk) e];exact f2 i a b
 have hl:∀x,((y02 st).extract (sa+k) q).toList[((y02 st).extract (sa+k) q).size-1]?=some x->∀y∈((y02 st).extract q (q+z)).toList,rk y<=rk x:=fun x hx y hy=>by
  obtain⟨_,e⟩:=Fn hx;obtain⟨i,a,b,_,e'⟩:=Eh (rk:=rk) hy;rw[<- e',<- CC (rk:=rk) e,zx,show sa+k+(q-(sa+k)-1)=q-1 by lia];exact f3 i a b
 have fin:∀(m:Array Keyed) (st1:SortSt),SG (setPending st ps) st1->Mg rk ((y02 st).extract (sa+k) q).toList ((y02 st).extract q (q+z)).toList m.toList->wpS (y06 prog w) A E s (maE (sa+k) m) (Ma κ rk a0 st sa (q+nb) ps) st1:=fun m st1 G mg=>by
  have:=Vw (E:=E) (st1:=st1) (sa:=sa) (hi:=q+nb) H h (G.2.1:_) (G.1.trans hk) (G.2.2.2.trans h.failed) (by lia) (by lia) (by lia) (by lia) hz R O mg f1 f2 f3 f4;rw[show y03 st1=ps from G.2.2.1] at this;exact this
 by_cases c3:J-k<=z
 ·rw[if_pos c3];exact yr (Vk ⟨H.C,mx,my,ux,uy,hl⟩ hk (by lia) (by lia) h0 fun r st1 G mg=>fin r st1 G mg)
 ·rw[if_neg c3];exact yr (Vp ⟨H.C,mx,my,ux,uy,h0⟩ hk (by lia) (by lia) hl fun r st1 G mg=>fin r st1 G mg)
abbrev Run:=Nat×Nat×Nat
end
def Rn(rk:Keyed->Nat)(xs:Array Keyed):Nat->List Run->Nat->Prop
 |b,[],e=>b=e
 |b,t::r,e=>t.1=b/\1<=t.2.1/\Rs rk xs t.1 (t.1+t.2.1)/\Rn rk xs (t.1+t.2.1) r e
section
variable{rk:Keyed->Nat}{xs ys:Array Keyed}
theorem Rn.len:∀{ps:List Run} {b e:Nat},Rn rk xs b ps e->b+ps.length<=e
 |[],b,e,h=>Nat.le_of_eq h
 |t::r,b,e,⟨h1,h2,_,q⟩=>by
  have:=q.len;rw[yu];lia
theorem Rn.app:∀{l r:List Run} {b e:Nat},Rn rk xs b (l++r) e↔∃m,Rn rk xs b l m/\Rn rk xs m r e
 |[],r,b,e=>⟨fun h=>⟨b,rfl,h⟩,fun⟨m,h1,h2⟩=>by cases (h1:b=m); exact h2⟩
 |t::l,r,b,e=>by
  constructor
  ·rintro⟨h1,h2,B,F⟩;obtain⟨m,z,q⟩:=Rn.app.mp F;exact⟨m,⟨h1,h2,B,z⟩,q⟩
  ·rintro⟨m,⟨h1,h2,B,z⟩,q⟩;exact⟨h1,h2,B,Rn.app.mpr ⟨m,z,q⟩⟩
theorem Rs.frame{lo hi:Nat}(h:Rs rk xs lo hi)(f:∀k,lo<=k->k<hi->ys[k]?=xs[k]?):Rs rk ys lo hi:=fun i j a b c=>by
 rw[Bb (f i a (by lia)),Bb (f j (by lia) c)];exact h i j a b c
theorem Rn.frame:∀{ps:List Run} {b e:Nat},Rn rk xs b ps e->(∀k,b<=k->k<e->ys[k]?=xs[k]?)->Rn rk ys b ps e
 |[],b,e,h,_=>h
 |t::r,b,e,⟨h1,h2,z,q⟩,f=>by
  have:=q.len;exact⟨h1,h2,z.frame fun k a c=>f k (by lia) (by lia),q.frame fun k a c=>f k (by lia) c⟩
theorem Rn.same:∀{ps G:List Run} {b e:Nat},Rn rk xs b ps e->ps.map (fun t=>(t.1,t.2.1))=G.map (fun t=>(t.1,t.2.1))->Rn rk xs b G e
 |[],[],b,e,h,_=>h
 |[],_::_,_,_,_,z=>by cases z
 |_::_,[],_,_,_,z=>by cases z
 |t::r,u::q,b,e,⟨h1,h2,F,B⟩,z=>by
  rw[yj,yj] at z;injection z with O M;injection O with z3 J;rw[z3] at h1 F B;rw[J] at h2 F B;exact⟨h1,h2,F,B.same M⟩
theorem Rn.snoc(h:Rn rk xs b ps e)(h1:1<=n)(h2:Rs rk xs e (e+n)):Rn rk xs b (ps++[(e,n,p)]) (e+n):=Rn.app.mpr ⟨e,h,rfl,h1,h2,rfl⟩
theorem On(h1:ps[i]?=some x)(h2:ps[i+1]?=some y):ps=ps.take i++x::y::ps.drop (i+2):=by
 obtain⟨F,B⟩:=zzS h1;obtain⟨z,b2⟩:=zzS h2;have q:=y28 F;have e2:=y28 z;rw[B] at q;rw[b2] at e2;rw[e2] at q;rw[<- q,y1f]
theorem Vy{ps:List Run}{i:Nat}{x y z:Run}(h1:ps[i]?=some x)(h2:ps[i+1]?=some y):(ps.set i z).eraseIdx (i+1)=ps.take i++z::ps.drop (i+2):=by
 have e:=On h1 h2;have q:(ps.take i).length=i:=by
  rw[y04];have:=(zzS h1).1;lia
 conv=>lhs; rw[e]
 rw[List.set_append_right _ _ (by lia),q,Nat.sub_self,y3w,List.eraseIdx_append_of_length_le (by lia),q,show i+1-i=0+1 by lia,List.eraseIdx_cons_succ,List.eraseIdx_cons_zero]
theorem Rn.merge{ps:List Run}{i e sa z p q nb p2:Nat}(h:Rn rk xs 0 ps e)(h1:ps[i]?=some (sa,z,p))(h2:ps[i+1]?=some (q,nb,p2)) :
  q=sa+z/\1<=z/\1<=nb/\q+nb<=e/\Rs rk xs sa q/\Rs rk xs q (q+nb)/\∀ys:Array Keyed,Rs rk ys sa (q+nb)->(∀k,k<sa\/q+nb<=k->ys[k]?=xs[k]?)->Rn rk ys 0 ((ps.set i (sa,z+nb,p)).eraseIdx (i+1)) e:=by
 have h':=h;rw[On h1 h2] at h';obtain⟨m,R,rfl,G,O,rfl,F,M,B⟩:=Rn.app.mp h';have J:=B.len;dsimp only at J G F;refine⟨rfl,G,F,by dsimp only; lia,O,M,fun ys r f=>?_⟩;rw[Vy h1 h2];refine Rn.app.mpr ⟨sa,R.frame fun k _ hk=>f k (.inl hk),rfl,by show 1<=z+nb; lia,?_,?_⟩
 ·show Rs rk ys sa (sa+(z+nb));rw[<- y4o];exact r
 ·show Rn rk ys (sa+(z+nb)) _ e;rw[<- y4o];exact B.frame fun k hk _=>f k (.inr hk)
end
section
variable{prog:yq}{w:y0h}{A:y0n}{E:yg->ye->Prop}{s:ye}{κ:SortKind}{rk:Keyed->Nat}{S:Keyed->Prop}{a0:Array Keyed}
theorem Vz{c:Prop} [Decidable c] (h1:a+1<n) (h2:b+1<n):(if c then a else b)+1<n:=by split<;>assumption
theorem mod_same{l:List Run}{i pw:Nat}:(l.modify i fun x=>(x.1,x.2.1,pw)).map (fun t=>(t.1,t.2.1))=l.map (fun t=>(t.1,t.2.1)):=by
 apply y4f;intro k;rw[y0k,y0k,List.getElem?_modify];cases l[k]? with
 |none=>rfl
 |some x=>
  by_cases c:i=k
  ·simp[c]
  ·simp[c]
theorem Oo{st:SortSt}{i e:Nat}{Q:Bool->SortSt->Prop}(H:SH prog w A s κ rk S a0)(h:SX κ a0 st)(r:Rn rk (y02 st) 0 (y03 st).toList e)(he:e<=a0.size)(hi:i+1<(y03 st).size)
  (q:∀z,SX κ a0 z->Rn rk (y02 z) 0 (y03 z).toList e->(y03 z).size+1=(y03 st).size->(∀k,e<=k->(y02 z)[k]?=(y02 st)[k]?)->Q true z):wpS (y06 prog w) A E s (mergeAt' i) Q st:=by
 obtain⟨⟨sa,F,p⟩,G⟩:∃x,(y03 st)[i]?=some x:=⟨(y03 st)[i],by simp⟩;obtain⟨⟨J,nb,p2⟩,e2⟩:∃x,(y03 st)[i+1]?=some x:=⟨(y03 st)[i+1],by simp⟩;have Z:(y03 st).toList[i]?=some (sa,F,p):=by rw[y15]; exact G
 have U:(y03 st).toList[i+1]?=some (J,nb,p2):=by rw[y15]; exact e2
 obtain⟨g1,g2,g3,g4,g5,g6,g7⟩:=r.merge Z U;refine y1h (Vx H h G e2 g1 g2 g3 (by lia) g5 g6) ?_;rintro b z ⟨rfl,R,O,M,B⟩;have tl:(y03 z).toList=((y03 st).toList.set i (sa,F+nb,p)).eraseIdx (i+1):=by
  rw[O,Array.toList_eraseIdxIfInBounds,Array.toList_setIfInBounds]
 refine q z R (by rw[tl]; exact g7 _ M B) ?_ fun k hk=>B k (.inr (by lia));rw[<- yi,tl,List.length_eraseIdx_of_lt (by rw[List.length_set,yi]; exact hi),List.length_set,yi];lia
theorem Op{st1:SortSt}{lo n:Nat}(h1:SX κ a0 st1)(r1:Rn rk (y02 st1) 0 (y03 st1).toList lo)(hn:1<=n)(hr1:Rs rk (y02 st1) lo (lo+n)){Q:ForInStep (Option Unit×Nat)->SortSt->Prop}(q:∀st',SX κ a0 st'->Rn rk (y02 st') 0 (y03 st').toList (lo+n)->Q (.yield (none,lo+n)) st'):wpS (y06 prog w) A E s (do modify fun t=>setPending t ((y03 t).push (lo,n,0)); return .yield (none,lo+n):StateT SortSt Sem (ForInStep (Option Unit×Nat))) Q st1:=by
 refine yr (y5n (y01 (q _ ⟨h1.kind,h1.failed,h1.perm⟩ ?_)))
 show Rn rk (y02 st1) 0 ((y03 st1).push (lo,n,0)).toList (lo+n)
 rw[y1p]
 exact r1.snoc hn hr1
theorem W0{st:SortSt}{Q:Unit->SortSt->Prop}(H:SH prog w A s κ rk S a0)(h:SX κ a0 st)(hp:y03 st = #[])(h1:1<=a0.size)(q:∀z,SX κ a0 z->Rs rk (y02 z) 0 a0.size->Q () z):wpS (y06 prog w) A E s sortRuns' Q st:=by
 rw[sortRuns'_eq];refine yr (y58 ?_);dsimp only;rw[h.size];generalize minRun' a0.size a0.size 0=mr;refine yr (y1h (y1a (I:=fun x c z=>∃lo,c=(none,lo)/\x<=lo/\lo<=a0.size/\SX κ a0 z/\Rn rk (y02 z) 0 (y03 z).toList lo)
  (Q:=fun c z=>∃lo,c=(none,lo)/\lo=a0.size/\SX κ a0 z/\Rn rk (y02 z) 0 (y03 z).toList lo) ?_ ?_ ⟨0,rfl,yf _,yo _,h,by rw[hp]; rfl⟩) ?_)
 ·rintro x c z _ hx ⟨lo,rfl,fc,fg,h2,J⟩;dsimp only;by_cases c:lo ≥ a0.size
  ·rw[if_pos c];exact y01 ⟨lo,rfl,by lia,h2,J⟩
  rw[if_neg c];refine yr (y1h (Vq H h2 (by lia) (by lia)) ?_);rintro o B ⟨n,rfl,n1,n2,O,p3,U,f3⟩;have F:Rn rk (y02 B) 0 (y03 B).toList lo:=by
   rw[p3];exact J.frame fun k _ hk=>f3 k hk
  dsimp only;by_cases c2:n<mr
  case' pos=>
   rw[if_pos c2];refine yr (Ed ?_);refine yr (Vr H O (by lia) (by lia) U fun G h4 p4 R f4=>?_);rw[if_neg (by decide)];have Z:Rn rk (y02 G) 0 (y03 G).toList lo:=by rw[p4]; exact F.frame fun k _ hk=>f4 k hk
   have m1:1<=min (a0.size-lo) mr:=by lia
   have m2:lo+min (a0.size-lo) mr<=a0.size:=by lia
   clear c2 F f4 p4 f3 U p3 O n2 n1 n B h2 J z;generalize min (a0.size-lo) mr=n at R m1 m2 |-
  case' neg=>
   rw[if_neg c2];have m2:lo+n<=a0.size:=by lia
   clear c2 f3 p3 n2 h2 J z;generalize B=G at O F U |-;have h4:=O;have Z:=F;have R:=U;have m1:=n1
  all_goals
   refine yr (y58 ?_)
   cases (y03 G).back? with
   |none=>exact Op h4 Z m1 R fun fe h5 r5=>⟨_,rfl,by lia,m2,h5,r5⟩
   |some y=>
    obtain⟨s1,n1,p1⟩:=y
    dsimp only
    refine yr (y1h (y1a (I:=fun x c z=>c.1=none/\SX κ a0 z/\Rn rk (y02 z) 0 (y03 z).toList lo/\Rs rk (y02 z) lo (lo+n))
     (Q:=fun c z=>c.1=none/\SX κ a0 z/\Rn rk (y02 z) 0 (y03 z).toList lo/\Rs rk (y02 z) lo (lo+n)) ?_ (fun c z hI=>hI) ⟨rfl,h4,Z,R⟩) ?_)
    ·rintro x c z _ _ ⟨_,h1,r1,M⟩
     refine yr (y58 ?_)
     by_cases c:(y03 z).size>1
     ·rw[if_pos c]
      obtain⟨⟨y1,y2,y3⟩,ey⟩:∃y,(y03 z)[(y03 z).size-2]?=some y:=⟨(y03 z)[(y03 z).size-2],by simp⟩
      rw[ey]
      dsimp only
      split
      ·exact y01 ⟨rfl,h1,r1,M⟩
      ·refine yr (Oo H h1 r1 (by lia) (by lia) fun st2 h2 J _ f2=>?_)
       exact y01 ⟨rfl,h2,J,M.frame fun k a _=>f2 k a⟩
     ·rw[if_neg c]
      exact y01 ⟨rfl,h1,r1,M⟩
    ·rintro⟨c,u⟩ z ⟨hc,h1,r1,M⟩
     cases hc
     refine yr (y5n ?_)
     refine Op ?_ ?_ m1 ?_ fun fe h5 r5=>⟨_,rfl,by lia,m2,h5,r5⟩
     ·exact⟨h1.kind,h1.failed,h1.perm⟩
     ·show Rn rk (y02 z) 0 ((y03 z).modify _ _).toList lo
      rw[Array.toList_modify]
      exact r1.same mod_same.symm
     ·exact M
 ·rintro c z ⟨lo,rfl,fc,fg,h2,J⟩;rw[y4q (yo _)] at fc;exact⟨lo,rfl,by lia,h2,J⟩
 ·rintro c z ⟨lo,rfl,rfl,h2,J⟩;dsimp only;refine yr (y1h (y1a (I:=fun x c z=>c.1=none/\(y03 z).size<=1+(a0.size-x)/\SX κ a0 z/\Rn rk (y02 z) 0 (y03 z).toList a0.size)
   (Q:=fun c z=>c.1=none/\(y03 z).size<=1/\SX κ a0 z/\Rn rk (y02 z) 0 (y03 z).toList a0.size) ?_ ?_ ⟨rfl,?_,h2,J⟩) ?_)
  ·rintro x c B _ hx ⟨_,l3,O,F⟩;refine yr (y58 ?_);by_cases c:(y03 B).size<=1
   ·rw[if_pos c];exact y01 ⟨rfl,c,O,F⟩
   rw[if_neg c];refine yr (Oo H O F (yf _) ?_ fun G h4 Z l4 _=>?_)
   ·exact Vz (by lia) (by lia)
   ·exact y01 ⟨rfl,by lia,h4,Z⟩
  ·rintro c B ⟨hc,l3,O,F⟩;rw[y4q (yo _)] at l3;exact⟨hc,by lia,O,F⟩
  ·have:=J.len;rw[yi] at this;lia
  ·rintro⟨c,u⟩ B ⟨hc,l3,O,F⟩;cases hc;refine y01 (q B O ?_);have lz:=l3;rw[<- yi] at lz;cases e:(y03 B).toList with
   |nil=>
    rw[e] at F;have:0=a0.size:=F;lia
   |cons t l=>
    rw[e] at F lz;have hl:l=[]:=List.length_eq_zero_iff.mp (by rw[yu] at lz; lia);subst hl;obtain⟨g1,g2,g3,g4⟩:=F;have g4:t.1+t.2.1=a0.size:=g4;rw[g4,g1] at g3;exact g3
end
section
variable{prog:yq}{w:y0h}{A:y0n}{E:yg->ye->Prop}{s:ye}
open Classical in
noncomputable def ixV (vs:List yg) (v:yg):Nat:=if h:∃i:Nat,vs[i]?=some v then Classical.choose h else 0
theorem Ki(h:v∈vs):vs[ixV vs v]?=some v:=by
 obtain⟨i,hi,e⟩:=y1q h;have z:∃i:Nat,vs[i]?=some v:=⟨i,by rw[yk hi,e]⟩;unfold ixV;rw[dif_pos z];exact Classical.choose_spec z
theorem Kj(h:v∈vs):ixV vs v<vs.length:=(zzS (Ki h)).1
theorem W1(q:vs.Nodup)(hi:i<vs.length):ixV vs vs[i]=i:=by
 have h:=Ki (y18 hi);have z:=Kj (y18 hi);rw[yk z] at h;exact(y2x q).mp (y0l h)
theorem W2{κ:SortKind}{vs:List yg}{r:Nat->Nat}(J:vs.Nodup)(hr:∀i j,i<vs.length->j<vs.length->r i=r j->i=j)(h1:1<=vs.length)(hC:∀i j,i<vs.length->j<vs.length->∀Q:Bool->ye->Prop,Q (decide (r i<r j)) s->y0b (y06 prog w) A (keyLt' κ (vs.getD i .none) (vs.getD j .none)) Q (fun _ _=>False) s) :
  y0b (y06 prog w) A ((sortRuns').run (SortSt.mk' κ (vs.toArray.zip vs.toArray) #[] 7 none)) (fun x s'=>s'=s/\∃p:Array Nat,PermN r vs.length p/\Asc r p vs.length/\y02 x.2=p.map (kas_item (vs.toArray.zip vs.toArray))/\failedOf x.2=none) E s:=by
 have tl:(vs.toArray.zip vs.toArray).toList=vs.zip vs:=by simp
 have B:∀x∈vs.zip vs,x.1=x.2/\x.1∈vs:=fun x hx=>mem_zip_self hx;have R:∀v∈vs,vs.getD (ixV vs v) .none=v:=fun v hv=>by
  rw[yv,Ki hv];rfl
 have em:(vs.zip vs).map (fun x=>ixV vs x.1)=List.range vs.length:=by
  refine y1o (by simp) fun i h1 h2=>?_;simp only[List.getElem_map,List.getElem_zip,List.getElem_range];exact W1 J (by simpa using h2)
 have H:SH prog w A s κ (fun x=>r (ixV vs x.1)) (fun x=>x∈vs.zip vs) (vs.toArray.zip vs.toArray):=by
  refine⟨fun x y hx hy Q hQ=>?_,fun x hx=>by rw[tl] at hx; exact hx,?_⟩
  ·have a1:=(B x hx).2;have a2:=(B y hy).2;have:=hC _ _ (Kj a1) (Kj a2) Q hQ;rw[R _ a1,R _ a2] at this;exact this
  ·rw[tl,show(vs.zip vs).map (fun x=>r (ixV vs x.1))=((vs.zip vs).map (fun x=>ixV vs x.1)).map r by rw[y09]; rfl,em];rw[List.nodup_iff_pairwise_ne,y1x];refine List.Pairwise.imp_of_mem (fun {i j} hi z G e=>G (hr i j (List.mem_range.mp hi) (List.mem_range.mp z) e)) (List.nodup_iff_pairwise_ne.mp List.nodup_range)
 have U:(vs.toArray.zip vs.toArray).size=vs.length:=by simp
 show wpS (y06 prog w) A E s sortRuns' (fun _ q=>∃p:Array Nat,PermN r vs.length p/\Asc r p vs.length/\y02 q=p.map (kas_item (vs.toArray.zip vs.toArray))/\failedOf q=none) (SortSt.mk' κ (vs.toArray.zip vs.toArray) #[] 7 none);refine W0 (st:=SortSt.mk' κ (vs.toArray.zip vs.toArray) #[] 7 none) H ⟨rfl,rfl,Array.Perm.refl _⟩ rfl (by lia) fun q hx rs=>?_;have Z:(y02 q).toList.Perm (vs.zip vs):=by rw[<- tl]; exact Array.perm_iff_toList_perm.mp hx.perm
 have pz:((y02 q).map fun x=>ixV vs x.1).toList.Perm (List.range vs.length):=by
  rw[Array.toList_map,<- em];exact Z.map _
 refine⟨(y02 q).map fun x=>ixV vs x.1,PermN.of hr pz,fun i j M z=>?_,?_,hx.failed⟩
 ·have zz:(y02 q).size=vs.length:=by rw[hx.size,U]
  have g:∀i,i<vs.length->rk r ((y02 q).map fun x=>ixV vs x.1) i=ky (fun x=>r (ixV vs x.1)) (y02 q) i:=fun i hi=>by
   have O:i<(y02 q).size:=by lia
   obtain⟨x,e1,_,_⟩:=Ar O;have e2:((y02 q).map fun x=>ixV vs x.1).getD i 0=ixV vs x.1:=by
    rw[Array.getD_eq_getD_getElem?,Array.getElem?_map,e1];rfl
   unfold rk ky;rw[e1,e2]
  rw[g i (by lia),g j z];exact rs i j (yo _) M (by rw[U]; exact z)
 ·rw[Array.map_map];apply Array.toList_inj.mp;rw[Array.toList_map];conv=>lhs; rw[<- List.map_id (y02 q).toList]
  refine y16 fun x F=>?_;have a:=B x (Z.mem_iff.mp F);show x=kas_item (vs.toArray.zip vs.toArray) (ixV vs x.1);rw[kat_item rfl,R _ a.2];exact y4z rfl a.1.symm
theorem Oq{r:Nat->Nat}{P:PySem.Fin->ye->Prop} (J:s.heap.get? a=some (y19 "list" vs.toArray n)) (hz:vs.length<=ym) (M:vs.Nodup) (hr:∀i j,i<vs.length->j<vs.length->r i=r j->i=j)
  (hR:2<=vs.length->∀h':Heap,(∀b o,b≠a->s.heap.get? b=some o->h'.get? b=some o)->∃k,(∀(E:yg->ye->Prop) (Q:SortKind->ye->Prop),Q k {s with heap:=h'}->y0b (y06 prog w) A (keyKind' vs.toArray) Q E {s with heap:=h'})/\
   ∀i j,i<vs.length->j<vs.length->∀(E:yg->ye->Prop) (Q:Bool->ye->Prop),Q (decide (r i<r j)) {s with heap:=h'}->y0b (y06 prog w) A (keyLt' k (vs.getD i .none) (vs.getD j .none)) Q E {s with heap:=h'})
  (h:∀p,PermN r vs.length p->Asc r p vs.length->P (.done (.ret .none)) {s with heap:=sortedHeap s.heap a vs (p.toList.map fun i=>vs.getD i .none).toArray}) :
  y0b (y06 prog w) A (Builtin.«list.sort» ⟨[.ref a],[]⟩) P E s:=by
 rw[list_sort_plain];have ha:a<s.heap.objs.size:=yl J;refine yb (listItems_at J rfl ?_);refine yb (y3u J rfl ?_ (by simpa using hz) (yo _));obtain⟨R,F⟩:∃R,(s.heap.update a (Obj.mapSeq fun _=>#[])).get? a=some (y19 "list" #[] R):=⟨_,get?_update_seq J (fun _=>#[])⟩;refine yb (y4y F rfl ?_);refine yb (wpAny_newTuple ?_ (by simpa using hz));refine yb (y3a ?_ (yo _));refine y1z ?_;have q:(((s.heap.update a (Obj.mapSeq fun _=>#[])).push (y19 "tuple" vs.toArray 0)).push (y19 "list" #[] 0)).get? a=some (y19 "list" #[] R):=by
  rw[y4g _ _ _ (by rw[y40,y2y]; exact yz (y2p ha)),y4g _ _ _ (by rw[y2y]; exact yz ha)];exact F
 have B:∀b o,b≠a->s.heap.get? b=some o->(((s.heap.update a (Obj.mapSeq fun _=>#[])).push (y19 "tuple" vs.toArray 0)).push (y19 "list" #[] 0)).get? b=some o:=fun b o hb e=>by
  refine yd _ (yd _ ?_);rw[y3r _ _ _ _ hb];exact e
 show y0b (y06 prog w) A _ P E {s with heap:=((s.heap.update a (Obj.mapSeq fun _=>#[])).push (y19 "tuple" vs.toArray 0)).push (y19 "list" #[] 0)};dsimp only;have hsz:vs.toArray.size=vs.length:=by simp
 by_cases h2:vs.toArray.size<2
 ·rw[if_pos h2,if_pos h2];refine yb (yh ?_);rw[StateT.run_pure];refine yb (yh ?_);dsimp only;refine yb (y4y q rfl ?_);refine yb (y3u q rfl ?_ (yo _) (by rw[Array.size_map]; show(pairsOf vs).size<=_; rw[pairsOf_size]; exact y4j hz));simp only[bne_self_eq_false,y0e,if_false];have e:(y02 (SortSt.mk' general' (vs.toArray.zip vs.toArray) #[] 7 none)).map (·.2)=vs.toArray:=by
   show(vs.toArray.zip vs.toArray).map (·.2)=_;apply Array.toList_inj.mp;simp[y4p]
  rw[e];have z:=h (List.toArray (List.range vs.length)) (.of hr (by simp)) (fun i j fe U=>by rw[hsz] at h2; lia);have ev:((List.toArray (List.range vs.length)).toList.map fun i=>vs.getD i Value.none)=vs:=by
   refine y1o (by simp) fun i h1 h2=>?_;simp[h2]
  rw[ev] at z;exact yh z
 ·rw[if_neg h2,if_neg h2];rw[hsz] at h2;obtain⟨kk,hK,O⟩:=hR (by lia) _ B;refine yb (hK _ _ ?_);refine yb (y1l (W2 (κ:=kk) (r:=r) M hr (by lia) fun i j hi U Q hQ=>O i j hi U _ Q hQ) ?_ fun _ _ e=>e);rintro⟨⟨⟩,fc⟩ s' ⟨rfl,p,Z,P2,G,hf⟩;dsimp only at G hf |-;have e:=kat_snds (ks:=vs) (vs:=vs) rfl G;refine yb (y4y q rfl ?_);refine yb (y3u q rfl ?_ (yo _) (by rw[e,y07,y4,yi,Z.sz]; exact y4j hz));rw[hf];simp only[bne_self_eq_false,y0e,if_false,e];exact yh (h p Z P2)
def IsPairKey(prog:yq)(w:y0h)(h:Heap)(k:Key×List Key)(a:Addr):Prop:=∃o n v b,h.get? a=some o/\o.cls=.type "tuple"/\o.data=.seq #[v,.ref b] n/\(AQ prog w).is k.1 v=true/\IsTupleKey (AQ prog w) h k.2 b
theorem IsPairKey.typeIs(x:IsPairKey prog w s.heap k a):s.TypeIs (.ref a) "tuple":=let ⟨o,_,_,_,ho,hc,_⟩:=x; ⟨o,ho,hc⟩
noncomputable def Kk(prog:yq)(w:y0h)(k:Key×List Key):Int:=reduceHash (Builtin.Tuple.tupleHashOf [(AQ prog w).hash k.1,tupleKeyHash (AQ prog w) k.2])
theorem Os(hx:IsPairKey prog w h x a)(hy:IsPairKey prog w h y a):x=y:=by
 obtain⟨o,n,v,b,M,_,hd,h1,h2⟩:=hx;obtain⟨o',Z,J,U,B,_,q,G,F⟩:=hy;obtain rfl:o=o':=y0l (M.symm.trans B);rw[hd] at q;injection q with R _;have e2:[v,Value.ref b]=[J,Value.ref U]:=congrArg Array.toList R;injection e2 with O z;injection z with z _;injection z with z;subst O z;exact y4z ((AQ prog w).inj _ _ _ h1 G) (h2.inj F)
theorem W3{es ep}(x:IsPairKey prog w h k a)(G:h.get? d=some o)(hd:o.data=.dict es ep)(F:Heap.SameBut d h h'):IsPairKey prog w h' k a:=by
 obtain⟨o',n,v,b,z,hc,q,h1,h2⟩:=x;have B:a≠d:=by
  rintro rfl;obtain rfl:o'=o:=y0l (z.symm.trans G);rw[hd] at q; exact nomatch q
 exact⟨o',n,v,b,(F.2 a B).trans z,hc,q,h1,h2.keeps G hd F⟩
theorem W4{Q:Int->ye->Prop}(hu:A.units+1<cLine)(hk:IsPairKey prog w s.heap k a)(h:Q (Kk prog w k) {s with toks:=s.toks+(k.2.length+3)}):y0b (y06 prog w) A (pyHash (.ref a)) Q E s:=by
 have q:=hk.typeIs;obtain⟨o,n,v,b,B,_,hd,h1,h2⟩:=hk;unfold pyHash;first|unfold pyHashByItsType|skip
 first|refine yb (wpAny_cRoomFor_or (.inr (by lia)) ?_)|skip
 refine yb (y44 q F.slot_tuple_hash.lookup ?_);show y0b _ _ (if(some (Value.builtin "tuple.__hash__")==some Value.none)=true then _ else _) Q E s;rw[if_neg (by rw[beq_builtin_none]; exact yx)];refine yb (y44 q F.slot_tuple_hash.lookup ?_);show y0b _ _ (callSpecialIfBoundUnlessNone? (.ref a) "__hash__" _ >>= _) Q E s;refine yb (wpAny_callSpecialIfBoundUnlessNone?_slot q F.slot_tuple_hash (y0u F.slot_tuple_hash q F.entry_tuple_hash ?_ (F.args_tuple_hash_1 _)));show y0b _ _ (Builtin.Tuple.tupleItemsOf (.ref a) >>= _) _ _ s;refine yb (y39 B hd ?_);refine yb ?_;rw[<- y5c];refine y3t _
  (fun Ai (c:Array Int) s'=>(Ai=[v,.ref b]/\c.toList=[]/\s'=s)\/(Ai=[.ref b]/\c.toList=[(AQ prog w).hash k.1]/\s' = {s with toks:=s.toks+1})\/(Ai=[]/\c.toList=[(AQ prog w).hash k.1,tupleKeyHash (AQ prog w) k.2]/\s' = {s with toks:=s.toks+1+(k.2.length+1)}))
  _ ?_ ?_ _ _ (.inl ⟨rfl,rfl,rfl⟩)
 ·rintro x Ai c s' (⟨e,hc,rfl⟩|⟨e,hc,rfl⟩|⟨e,_⟩)
  ·cases e;refine yb ((AQ prog w).pyHash h1 ?_);first
    |exact yh (.inr (.inl ⟨rfl,by simp[hc],rfl⟩))
    |exact yb (yh (yh (.inr (.inl ⟨rfl,by simp[hc],rfl⟩))))
  ·cases e;refine yb (wpAny_pyHash_tuple (by first|exact Nat.lt_of_succ_lt hu|exact hu|lia) (show IsTupleKey (AQ prog w) s.heap k.2 b from h2) ?_);first
    |exact yh (.inr (.inr ⟨rfl,by simp[hc],rfl⟩))
    |exact yb (yh (yh (.inr (.inr ⟨rfl,by simp[hc],rfl⟩))))
  ·cases e
 ·rintro c s' (⟨e,_⟩|⟨e,_⟩|⟨_,hc,rfl⟩)
  ·cases e
  ·cases e
  ·show y0b _ _ (retInt (Builtin.Tuple.tupleHashOf c.toList)) _ _ _;rw[hc];refine wpAny_ret_mkInt ?_;show y0b _ _ (if(decide (-(2:Int)^63<=Builtin.Tuple.tupleHashOf [(AQ prog w).hash k.1,tupleKeyHash (AQ prog w) k.2])&&decide (Builtin.Tuple.tupleHashOf [(AQ prog w).hash k.1,tupleKeyHash (AQ prog w) k.2]<2^63))=true then _ else _) Q E _;have z:s.toks+1+(k.2.length+1)+1=s.toks+(k.2.length+3):=by lia
   unfold Kk reduceHash at h;split
   ·rename_i hr;rw[if_pos hr] at h;exact yh (by simpa [z] using h)
   ·rename_i hr;rw[if_neg hr] at h;exact yb (y3z (yh (by simpa [z] using h)))
theorem W5{P:Fin->ye->Prop}(hu:A.units<cLine)(hx:IsPairKey prog w s.heap x a)(hy:IsPairKey prog w s.heap y b)(h:P (.done (.ret (.bool (decide (x=y))))) s) :
  y0b (y06 prog w) A (Builtin.«tuple.__eq__» ⟨[.ref a,.ref b],[]⟩) P E s:=by
 have O:=hy.typeIs;obtain⟨oa,na,va,U,G,_,M,h1,h2⟩:=hx;obtain⟨ob,nb,Z,R,F,_,J,g1,g2⟩:=hy;show y0b _ _ (isInstance (.ref b) (.type "tuple") >>= _) _ _ s;refine yb (y32 O y3m ?_);simp only[y2j,y0e,if_false];refine yb (y39 G M ?_);refine yb (y39 F J ?_);refine yb ?_;have B:x=y↔x.1=y.1/\x.2=y.2:=⟨fun z=>by rw[z]; exact⟨rfl,rfl⟩,fun z=>y4z z.1 z.2⟩;refine y3t _
  (fun Ai r s'=>r.1=none/\s'=s/\((Ai=[(va,Z),(Value.ref U,Value.ref R)])\/(Ai=[(Value.ref U,Value.ref R)]/\x.1=y.1)\/(Ai=[]/\x=y)))
  _ ?_ ?_ _ _ ⟨rfl,rfl,.inl rfl⟩
 ·rintro⟨u,v⟩ Ai r s' ⟨hr,rfl,e|⟨e,q⟩|⟨e,_⟩⟩
  ·cases e;refine yb ((AQ prog w).eqBool h1 g1 ?_);by_cases hk:x.1=y.1
   ·rw[decide_eq_true hk];rw[if_neg (by decide)];exact yh ⟨rfl,rfl,.inr (.inl ⟨rfl,hk⟩)⟩
   ·rw[decide_eq_false hk];rw[if_pos (by decide)];rw[decide_eq_false fun z=>hk (B.mp z).1] at h;exact yb (yh (yh (yh h)))
  ·cases e;refine yb (wpAny_eqBool_tuple hu h2 g2 ?_);by_cases hk:x.2=y.2
   ·rw[decide_eq_true hk];rw[if_neg (by decide)];exact yh ⟨rfl,rfl,.inr (.inr ⟨rfl,B.mpr ⟨q,hk⟩⟩)⟩
   ·rw[decide_eq_false hk];rw[if_pos (by decide)];rw[decide_eq_false fun z=>hk (B.mp z).2] at h;exact yb (yh (yh (yh h)))
  ·cases e
 ·rintro⟨r1,r2⟩ s' ⟨hr,rfl,e|⟨e,q⟩|⟨_,q⟩⟩
  ·cases e
  ·cases e
  ·simp only at hr;subst hr;refine yh ?_;rw[decide_eq_true q] at h;exact h
theorem W6{Q:Bool->ye->Prop}(hu:A.units+1<cLine)(hx:IsPairKey prog w s.heap x a)(hy:IsPairKey prog w s.heap y b)(h:Q (decide (x=y)) s) :
  y0b (y06 prog w) A (eqBool (.ref a) (.ref b)) Q E s:=by
 unfold eqBool;try with_reducible refine y1z ?_
 show y0b _ _ (if(Value.ref a==Value.ref b)=true then _ else _) Q E s;by_cases q:(Value.ref a==Value.ref b)=true
 ·rw[if_pos q];have e:a=b:=by have:=eq_of_beq q; injection this
  subst e;obtain rfl:=Os hx hy;exact yb (y3z (yh (by simpa using h)))
 ·rw[if_neg q];refine yb (wpAny_richCompare_same_room (op:=.Eq) hx.typeIs hy.typeIs F.slot_tuple_eq
   (y0u F.slot_tuple_eq hx.typeIs F.entry_tuple_eq (W5 ?_ hx hy ⟨_,rfl,(fun e=>nomatch e),y2k h⟩) (F.args_tuple_eq_2 _ _)) (by lia))
  first|exact hu|exact Nat.lt_of_succ_lt hu|(show A.units+1<cLine; exact hu)
theorem W7{Q:Bool->ye->Prop}(hk:IsTupleKey (AQ prog w) s.heap ks a)(h:Q true s):y0b (y06 prog w) A (eqIsQuiet (n+1) (.ref a)) Q E s:=by
 have G:=hk.typeIs;obtain⟨o,z,n,J,_,hd,hi⟩:=hk;unfold eqIsQuiet;refine yb (y44 G F.slot_tuple_eq.lookup ?_);show y0b _ _ (isInstance (.ref a) (.type "tuple") >>= _) _ _ s;refine yb (y32 G y3m ?_);simp only[y2j,y0e,if_false];refine yb (wpAny_seqItems J hd ?_);refine yb ?_;show y0b _ _ (forIn z _ _) _ _ s;rw[<- y5c];refine y3t _ (fun Ai r s'=>r.1=none/\s'=s/\∀v∈Ai,carriedByValue v=true) _ ?_ ?_ _ _ ⟨rfl,rfl,hi.byValue⟩
 ·rintro v Ai r s' ⟨hr,rfl,q⟩;rw[eqIsQuiet_byValue _ (q v y10)];refine yb (yh ?_);simp only[y2j,y0e,if_false];exact yh ⟨rfl,rfl,fun u B=>q u (y0v _ B)⟩
 ·rintro⟨O,M⟩ s' ⟨hr,rfl,_⟩;simp only at hr;subst hr;exact yh h
theorem W8{Q:Bool->ye->Prop}(hk:IsPairKey prog w s.heap k a)(h:Q true s):y0b (y06 prog w) A (eqIsQuiet 8 (.ref a)) Q E s:=by
 have q:=hk.typeIs;obtain⟨o,n,v,b,z,_,hd,h1,h2⟩:=hk;unfold eqIsQuiet;refine yb (y44 q F.slot_tuple_eq.lookup ?_);show y0b _ _ (isInstance (.ref a) (.type "tuple") >>= _) _ _ s;refine yb (y32 q y3m ?_);simp only[y2j,y0e,if_false];refine yb (wpAny_seqItems z hd ?_);refine yb ?_;show y0b _ _ (forIn #[v,Value.ref b] _ _) _ _ s;rw[<- y5c];refine y3t _ (fun Ai r s'=>r.1=none/\s'=s/\(Ai=[v,Value.ref b]\/Ai=[Value.ref b]\/Ai=[])) _ ?_ ?_ _ _ ⟨rfl,rfl,.inl rfl⟩
 ·rintro u Ai r s' ⟨hr,rfl,e|e|e⟩
  ·cases e;rw[eqIsQuiet_byValue _ ((AQ prog w).byValue _ _ h1)];refine yb (yh ?_);rw[if_neg (by decide)];exact yh ⟨rfl,rfl,.inr (.inl rfl)⟩
  ·cases e;refine yb (W7 h2 ?_);rw[if_neg (by decide)];exact yh ⟨rfl,rfl,.inr (.inr rfl)⟩
  ·cases e
 ·rintro⟨G,B⟩ s' ⟨hr,rfl,_⟩;simp only at hr;subst hr;exact yh h
theorem Dn(h:n<=ym):n<=ym:=h
def RisL(ps:List (List Int)):Prop:=(2<=ps.length->∀p∈ps,p≠[])/\ps.Pairwise (fun p q=>ltI p q=true)
theorem RisL.lt(R:RisL ps)(hi:i<ps.length)(q:j<ps.length):ltI (ps.getD i []) (ps.getD j [])=decide (i<j):=by
 have F:∀i j,i<j->j<ps.length->ltI (ps.getD i []) (ps.getD j [])=true:=fun i j B q=>by
  rw[yv,yv,yk (by lia),yk q];exact List.pairwise_iff_getElem.mp R.2 i j (by lia) q B
 rcases Nat.lt_trichotomy i j with z|rfl|z
 ·rw[F i j z q,decide_eq_true z]
 ·rw[D6,decide_eq_false (y1b _)]
 ·rw[KH (F j i z hi),decide_eq_false (by lia)]
end
section
variable{prog:yq}{w:y0h}{A:y0n}{E:yg->ye->Prop}{s:ye}{d:Addr}{es:Array DictEntry}{ep:Nat}{o:Obj}
def Kl(prog:yq)(w:y0h)(E:yg->ye->Prop)(s:ye)(d:Addr)(vs:List yg):Prop:=∀(A:y0n) (Q:List yg->ye->Prop),A.handled=none->(∀(h':Heap) (tk:Nat),s.heap.objs.size<=h'.objs.size->(∀b u,s.heap.get? b=some u->h'.get? b=some u)->Q vs {s with heap:=h',toks:=tk})->y0b (y06 prog w) A (collect (.ref d)) Q E s
theorem Ot{as:List Addr}{vs:List yg}{ps:Nat->List Int}{Q:yg->ye->Prop}(hh:A.handled=none)(fh:∀E,Kl prog w E s d vs)(hp:vs.Perm (as.map Value.ref))(hk:∀j,j<as.length->IsTupleKey (intKind prog w) s.heap (ps j) (as.getD j 0))
  (fw:2<=as.length->∀j,j<as.length->ps j≠[]) (U:∀i j,i<as.length->j<as.length->ltI (ps i) (ps j)=decide (i<j)) (hb:as.length<=ym)
  (q:∀(h':Heap) (tk:Nat) (l:Addr) (n:Nat),s.heap.objs.size<=l->(∀b u,s.heap.get? b=some u->h'.get? b=some u)->h'.get? l=some (y19 "list" (as.map Value.ref).toArray n)->
   Q (.ref l) {s with heap:=h',toks:=tk}):y0b (y06 prog w) A (call (.builtin "sorted") [.ref d]) Q E s:=by
 refine y3y kind_sorted plain_sorted entry_sorted (args_sorted1 _) ?_
 unfold Builtin.«sorted»
 refine yb (m:=checkCount "sorted" 1 1 _) (yh (yb (fh _ _ _ (by simpa using hh) fun h1 fk z1 R=>?_)))
 have fe:=hp
 have er:as.map Value.ref=(List.range as.length).map fun i=>Value.ref (as.getD i 0):=by
  refine y1o (by simp) fun i h1 h2=>?_;simp at h1;simp[h1]
 obtain⟨B,pr,ev⟩:=V8 fe _ er;have fu:B.length=as.length:=by simpa using pr.length_eq
 have fz:vs.length=as.length:=by rw[ev,y4,fu]
 have F:∀i,i<as.length->B.getD i 0<as.length:=fun i hi=>by
  rw[yv,yk (by lia)];exact List.mem_range.mp (pr.mem_iff.mp (y18 _))
 have fc:∀i,i<as.length->vs.getD i .none=.ref (as.getD (B.getD i 0) 0):=fun i hi=>by
  have h1:i<B.length:=by lia
  simp[ev,h1]
 have fg:∀i j,i<vs.length->j<vs.length->B.getD i 0=B.getD j 0->i=j:=fun i j hi J z=>by
  have nd:B.Nodup:=pr.nodup_iff.mpr List.nodup_range;have h1:i<B.length:=by lia
  have h2:j<B.length:=by lia
  rw[yv,yv,yk h1,yk h2] at z;exact(y2x nd).mp z
 have ft:vs.Nodup:=by
  refine fe.nodup_iff.mpr (List.pairwise_map.mpr ?_);rw[y1r];intro i j hi J M z;injection z with z;have g1:as.getD i 0=as[i]:=by simp[hi]
  have g2:as.getD j 0=as[j]:=by simp[J]
  have R:=hk i hi;have k2:=hk j J;rw[g1,z] at R;rw[g2] at k2;have e:=R.inj k2;have h1:=U i j hi J;have h2:=U j i J hi;rw[e,D6] at h1;rw[decide_eq_true M] at h1;cases h1
 refine yb (y3a ?_ (Dn (by lia)));have eL:(h1.push (y19 "list" vs.toArray 0)).get? h1.objs.size=some (y19 "list" vs.toArray 0):=yt _ rfl;have O:∀b u,s.heap.get? b=some u->(h1.push (y19 "list" vs.toArray 0)).get? b=some u/\b≠h1.objs.size:=fun b u hu=>by
  have lb:=yl (R b u hu);exact⟨yd _ (R b u hu),yz lb⟩
 refine yb (y1z (y0u slot_list_sort ⟨_,eL,rfl⟩ entry_list_sort (Oq (r:=fun i=>B.getD i 0) eL (Dn (by lia)) ft fg (fun h2 h' kp=>?_) fun p P1 P2=>⟨_,rfl,?_⟩) (args_list_sort _)))
 ·have Z:∀j,j<as.length->IsTupleKey (intKind prog w) h' (ps j) (as.getD j 0):=fun j J=>by
   obtain⟨o,fq,n,e,r⟩:=hk j J;exact⟨o,fq,n,kp _ _ (O _ _ e).2 (O _ _ e).1,r⟩
  obtain⟨fs,kt,fl,fi⟩:=OC (prog:=prog) (w:=w) (h:=h') (vs:=vs) fun v hv=>by
   rw[ev] at hv;obtain⟨j,J,rfl⟩:=List.mem_map.mp hv;have G:=List.mem_range.mp (pr.mem_iff.mp J);exact⟨_,_,rfl,fw (by lia) j G,Z j G⟩
  refine⟨tuples' true,fun E Q hQ=>kat_kind (T:=.type "int") kt (by lia) (fun v hv=>?_) rfl hQ,fun i j hi J E Q hQ=>?_⟩
  ·obtain⟨n,t,rfl⟩:=fi v hv;exact Looks.of_pure rfl
  ·rw[fc i (by lia),fc j (by lia)];refine Uv (Z _ (F i (by lia))) (Z _ (F j (by lia))) ?_;rw[U _ _ (F i (by lia)) (F j (by lia))];exact hQ
 ·refine yh ⟨_,rfl,?_⟩;have eo:(p.toList.map fun i=>vs.getD i Value.none)=as.map Value.ref:=by
   have e1:(p.toList.map fun i=>vs.getD i Value.none)=(p.toList.map fun i=>B.getD i 0).map fun i=>Value.ref (as.getD i 0):=by
    rw[y09];refine y16 fun i hi=>?_;have:=List.mem_range.mp (P1.pm.mem_iff.mp hi);exact fc i (by lia)
   have e2:(p.toList.map fun i=>B.getD i 0)=List.range as.length:=by
    refine y2s (le:=(· < ·)) (fun x y _ _ a b=>by lia) ?_ List.pairwise_lt_range ?_
    ·rw[y1r];intro i j hi J M;have G:j<p.size:=by simpa using J
     have z:=P2 i j M (by rw[<- P1.sz]; exact G);simpa [rk,Array.getD,G,y1i M G] using z
    ·have z:=P1.pm.map fun i=>B.getD i 0;refine z.trans ?_;have:((List.range vs.length).map fun i=>B.getD i 0)=B:=by
      refine y1o (by simp; lia) fun i h1 h2=>?_;simp[h2]
     rw[this];exact pr
   rw[e1,e2,er]
  rw[eo];obtain⟨n,en⟩:=sortedHeap_at (out:=(as.map Value.ref).toArray) eL;refine q _ fk h1.objs.size n z1 (fun b u hu=>?_) en;have lb:=yl (R b u hu);rw[sortedHeap_old (yz lb) (by rw[y40]; exact y2p lb)];exact yd _ (R b u hu)
end
def Ou:List V->Hp->VK->Prop:=fun xs H Q=>∃(d:Addr) (kvs:List (List Key×V)) (ps:List (List Int)),xs=[.ref d]/\Rd H d (.dT kvs)/\kvs.map (·.1)=ps.map (·.map Sum.inl)/\(∀p∈ps,p≠[])/\ps.length<=ym/\
 ∀(l:Addr) (vs:List V) (z:List (List Int)),H l=none->z.Perm ps->z.Pairwise (fun p q=>ltI p q=true)->DtA H vs (z.map AJ)->Q (.ref l) (upd H l (.lst vs))
theorem W9{X:Cx}(hc:X.calm=true):Al X (.builtin "sorted") Ou:=by
 intro pins s σ H xs us Q I r h;obtain⟨d,kvs,ps,rfl,hr,fc,U,hb,q⟩:=h;obtain⟨u,rfl,r1⟩:=r.one;cases r1;obtain⟨hz,lo,ys,rx,o,es,ep,ho,hx,hd,fg,hn⟩:=(show ObjOk X.prog X.w H s.heap d (.dT kvs) from hr.ok I.hok);obtain⟨hl,fe,M⟩:=OX rx fc;have Z:ps.Nodup:=by
  rw[fe] at hn;exact(List.pairwise_map.mp hn).imp fun h e=>h (by rw[e])
 have e1:(ps.zip (ys.map (·.2.1))).map (·.1)=ps:=List.map_fst_zip (by rw[y4]; lia);have e2:(ps.zip (ys.map (·.2.1))).map (·.2)=ys.map (·.2.1):=y4p (by rw[y4]; lia);obtain⟨z,G,rz⟩:=Kd (ps.zip (ys.map (·.2.1))) (by rw[e1]; exact Z);have zl:z.length=ps.length:=by rw[G.length_eq,List.length_zip,y4]; lia
 have R:RisL (z.map (·.1)):=⟨fun _ p hp=>U p (by rw[<- e1]; exact(G.map (·.1)).mem_iff.mp hp),List.pairwise_map.mpr rz⟩;have pv:(es.toList.map (·.key)).Perm ((z.map (·.2)).map Value.ref):=by
  rw[fg,y09,show((fun x:DictEntry=>x.key) ∘ entryOfKey (tupleKind (AQ X.prog X.w)))=(fun y:List Key×Addr×yg=>Value.ref y.2.1) from rfl];have:=((G.map (·.2)).map Value.ref).symm;rw[e2,y09] at this;exact this
 have O:es.size<=ym:=by
  have h1:es.toList.length=z.length:=by have:=pv.length_eq; simpa using this
  rw[yi] at h1;exact Dn (by lia)
 have at_:∀{j:Nat} (F:j<z.length),H z[j].2=some (.tup (z[j].1.map V.int)):=fun F=>M _ (G.mem_iff.mp (y18 F));refine Ot (as:=z.map (·.2)) (ps:=fun j=>(z.map (·.1)).getD j []) (I.ok.hd hc) (fun E A Q ah q=>OV ah lo ho hx hd O q) pv (fun j F=>?_) (fun h2 j F=>?_) (fun i j hi F=>R.lt (by simpa using hi) (by simpa using F)) (by rw[y4]; lia) fun h' tk l n J k en=>?_
 ·have B:j<z.length:=by simpa using F
  have:=OW I (at_ B);simpa [B] using this
 ·have B:j<z.length:=by simpa using F
  refine R.1 (by simpa using h2) _ ?_;rw[yv,yk (by simpa using B)];exact y18 _
 ·refine⟨.ref l,_,I.laid (t':=tk) k J (show ObjOk X.prog X.w _ _ _ (.lst ((z.map (·.2)).map V.ref)) from⟨?_,(z.map (·.2)).map Value.ref,n,Hm _,by simpa [y19] using en⟩),rfl,q l _ (z.map (·.1)) (I.hok.fresh J) ?_ R.2 ?_⟩
  ·rw[y4,y4];exact Dn (by lia)
  ·have:=G.map (·.1);rw[e1] at this;exact this
  ·rw[y09,y09];exact Ea fun y hy=>.tup (M y (G.mem_iff.mp hy)) (Dl H y.1)
def Ov(K:ya):List V->Hp->VK->Prop:=fun xs H Q=>∃(a:Addr) (ps:List (List Int)) (us:List V),xs=[.ref a]/\SqL K H a us/\DtA H us (ps.map AJ)/\ps.Nodup/\(2<=ps.length->∀p∈ps,p≠[])/\ps.length<=ym/\
 ∀(l:Addr) (vs:List V) (z:List (List Int)),H l=none->z.Perm ps->z.Pairwise (fun p q=>ltI p q=true)->DtA H vs (z.map AJ)->Q (.ref l) (upd H l (.lst vs))
theorem Ow:∀{us:List V} {ps:List (List Int)},DtA H us (ps.map AJ)->∀y∈ps.zip (us.map adV),H y.2=some (.tup (y.1.map V.int))
 |_,[],_,y,h=>by simp at h
 |_,p::ps,.cons d t,y,h=>by
  obtain⟨a,xs,rfl,ha,q⟩:=d.tupI;obtain rfl:=EZ q;rw[yj,y1t] at h;rcases List.mem_cons.mp h with rfl|h
  ·exact ha
  ·exact Ow t y h
theorem Ox{X:Cx}(hc:X.calm=true):Al X (.builtin "sorted") (Ov X.K):=by
 intro pins s σ H xs us Q I r h;obtain⟨a,ps,J,rfl,hq,hd,Z,U,hb,q⟩:=h;obtain⟨u,rfl,r1⟩:=r.one;cases r1;obtain⟨fc,rv,pl,hz⟩:=I.list hq;obtain⟨e,hl,_⟩:=KO I hd;rw[e] at rv;obtain rfl:=OD rv;have O:=Ow hd;have e1:(ps.zip (J.map adV)).map (·.1)=ps:=List.map_fst_zip (by rw[y4]; lia);have e2:(ps.zip (J.map adV)).map (·.2)=J.map adV:=y4p (by rw[y4]; lia);obtain⟨z,G,rz⟩:=Kd (ps.zip (J.map adV)) (by rw[e1]; exact Z);have zl:z.length=ps.length:=by rw[G.length_eq,List.length_zip,y4]; lia
 have R:RisL (z.map (·.1)):=⟨fun h2 p hp=>U (by rw[y4,zl] at h2; exact h2) p (by rw[<- e1]; exact(G.map (·.1)).mem_iff.mp hp),List.pairwise_map.mpr rz⟩;have pv:((J.map adV).map Value.ref).Perm ((z.map (·.2)).map Value.ref):=by
  have:=((G.map (·.2)).map Value.ref).symm;rw[e2] at this;exact this
 have at_:∀{j:Nat} (F:j<z.length),H z[j].2=some (.tup (z[j].1.map V.int)):=fun F=>O _ (G.mem_iff.mp (y18 F));refine Ot (as:=z.map (·.2)) (ps:=fun j=>(z.map (·.1)).getD j []) (I.ok.hd hc) (fun E A Q ah qq=>collect_list pl.isList (qq _ _ ?_ fun b u hu=>?_) (by rw[y4,y4]; lia)) pv (fun j F=>?_) (fun h2 j F=>?_) (fun i j hi F=>R.lt (by simpa using hi) (by simpa using F)) (by rw[y4]; lia) fun h' tk l n M k en=>?_
 ·rw[y2y,y40];exact y3d _
 ·rw[y3r _ _ _ _ (yz (yl hu))];exact yd _ hu
 ·have B:j<z.length:=by simpa using F
  have:=OW I (at_ B);simpa [B] using this
 ·have B:j<z.length:=by simpa using F
  refine R.1 (by simpa using h2) _ ?_;rw[yv,yk (by simpa using B)];exact y18 _
 ·refine⟨.ref l,_,I.laid (t':=tk) k M (show ObjOk X.prog X.w _ _ _ (.lst ((z.map (·.2)).map V.ref)) from⟨?_,(z.map (·.2)).map Value.ref,n,Hm _,by simpa [y19] using en⟩),rfl,q l _ (z.map (·.1)) (I.hok.fresh M) ?_ R.2 ?_⟩
  ·rw[y4,y4];exact Dn (by lia)
  ·have:=G.map (·.1);rw[e1] at this;exact this
  ·rw[y09,y09];exact Ea fun y hy=>.tup (O y (G.mem_iff.mp hy)) (Dl H y.1)
abbrev WP:=Str×List Int
noncomputable def kP(k:WP):Key×List Key:=(.inr k.1,k.2.map Sum.inl)
theorem Km(h:kP x=kP y):x=y:=by
 obtain⟨a,p⟩:=x;obtain⟨b,q⟩:=y;unfold kP at h;injection h with h1 h2;injection h1 with h1;have:∀{p q:List Int},p.map (Sum.inl:Int->Key)=q.map Sum.inl->p=q:=by
  intro p;induction p with
  |nil=>intro q h; cases q with
   |nil=>rfl
   |cons _ _=>cases h
  |cons a p z=>
   intro q h;cases q with
   |nil=>cases h
   |cons b q=>
    rw[yj,yj] at h;injection h with h1 h2;injection h1 with h1;rw[h1,z h2]
 exact y4z h1 (this h2)
noncomputable def BR(prog:yq)(w:y0h):HeapKind prog w WP where
 is:=fun h k a=>IsPairKey prog w h (kP k) a
 hash:=fun k=>Kk prog w (kP k)
 draws:=fun k=>(kP k).2.length+3
 room:=fun A=>A.units+1<cLine
 inj:=fun hx hy=>Km (Os hx hy)
 keeps:=W3
 pyHash:=W4
 eqBool:=fun hu hx hy h=>W6 hu hx hy (by rw[show decide (kP _=kP _)=decide (_=_) from decide_eq_decide.mpr ⟨Km,fun z=>by rw[z]⟩]; exact h)
 quiet:=W8
def PairAt(H:Hp)(k:WP)(a:Addr):Prop:=∃b,H a=some (.tup [.str k.1,.ref b])/\H b=some (.tup (k.2.map V.int))
theorem PairAt.kp(h:PairAt H k a)(kp:Kp H H'):PairAt H' k a:=let ⟨b,h1,h2⟩:=h; ⟨b,kp.1 _ _ h1,kp.1 _ _ h2⟩
abbrev NKs:=List (WP×Addr×V)
noncomputable def As(q:NKs)(k:WP):Option V:=(q.find? fun p=>decide (p.1=k)).map (·.2.2)
abbrev KD:NKs->List (WP×Addr×yg)->Prop:=Paired fun p q=>p.1=q.1/\p.2.1=q.2.1/\RelV p.2.2 q.2.2
noncomputable def BB(q:NKs)(k:WP)(a:Addr)(v:V):NKs:=if(As q k).isSome then q.map (fun p=>if p.1=k then(p.1,p.2.1,v) else p) else q++[(k,a,v)]
theorem KD.val(r:KD kas xs)(k:WP):RelO (As kas k) ((atKey xs k).map (·.2)):=by
 unfold As atKey;induction r with
 |nil=>exact True.intro
 |@cons p q ps F h t z=>
  obtain⟨h1,h2,B⟩:=h;rw[y0o,y0o,<- h1];by_cases e:p.1=k
  ·rw[decide_eq_true e];exact B
  ·rw[decide_eq_false e];exact z
theorem KD.put(r:KD kas xs)(k:WP)(a:Addr)(z:RelV v u):KD (BB kas k a v) (storedH xs k a u):=by
 have e:(As kas k).isSome=(atKey xs k).isSome:=by rw[(r.val k).isSome_eq,y5d]
 unfold BB storedH;rw[e];split
 ·rename_i F;clear e F;induction r with
  |nil=>exact .nil
  |@cons p q ps J h t B=>
   rw[yj,yj];refine .cons ?_ B;obtain⟨h1,h2,G⟩:=h;unfold putAt;rw[<- h1];split
   ·exact⟨rfl,h2,z⟩
   ·exact⟨h1,h2,G⟩
 ·exact Paired.snoc r ⟨rfl,rfl,z⟩
theorem WB(q:NKs)(k:WP)(a:Addr)(v:V):(BB q k a v).length<=q.length+1:=by
 unfold BB;split
 ·rw[y4]; lia
 ·rw[yc]; simp
noncomputable def dN(P:yq)(w:y0h)(d:Addr)(q:NKs):HO:=.ext fun h=>(d==sysModules)=false/\q.length<=ym/\∃xs,KD q xs/\∃o es ep,h.get? d=some o/\o.ExactDict/\o.data=.dict es ep/\es.toList=xs.map (entryOfKey (BR P w))/\(xs.map (·.1)).Nodup
theorem Oy(hd:(d==sysModules)=false)(B:kas.length<=ym)(r:KD kas xs)(z:h.get? d=some o)(e2:o.ExactDict)(J:o.data=.dict es ep)(G:es.toList=xs.map (entryOfKey (BR P w)))(F:(xs.map (·.1)).Nodup):ObjOk P w H h d (dN P w d kas):=
 ⟨⟨hd,B,xs,r,o,es,ep,z,e2,J,G,F⟩,⟨o,z⟩,fun h1 h2 ⟨hd,B,xs,r,o,es,ep,z,q⟩ k=>⟨hd,B,xs,r,o,es,ep,k o z,q⟩⟩
section
variable{X:Cx}{pins:List (Addr×Obj)}{σ:St}{H:Hp}{s:ye}
theorem Do(I:Inv X pins σ H s)(h:PairAt H k a):(BR X.prog X.w).is s.heap k a:=by
 obtain⟨b,h1,h2⟩:=h;obtain⟨_,B,r,o,G,e2,n,F⟩:=(show ObjOk X.prog X.w H s.heap a (.tup _) from I.hok a _ h1);obtain⟨u,v,rfl,z,q⟩:=r.two;cases q;refine⟨o,n,u,b,G,e2,by simpa using F,EU (k:=.inr k.1) z,EW I.hok (ks:=k.2.map Sum.inl) ?_⟩;rw[h2,y09];rfl
theorem IB(I:Inv X pins σ H s)(h:Rd H d (dN X.prog X.w d kas))(hk:∀p∈kas,PairAt H p.1 p.2.1):(d==sysModules)=false/\kas.length<=ym/\∃xs,KD kas xs/\s.heap.DictOfH (BR X.prog X.w) d xs:=by
 obtain⟨⟨hd,G,xs,r,o,es,ep,R,e2,O,M,J⟩,_⟩:=(show ObjOk X.prog X.w H s.heap d (dN X.prog X.w d kas) from Dg I.hok h);refine⟨hd,G,xs,r,o,es,ep,R,e2,O,M,fun x hx=>?_,J⟩;have z:∀{l:NKs} {m:List (WP×Addr×yg)},KD l m->(∀p∈l,PairAt H p.1 p.2.1)->∀x∈m,(BR X.prog X.w).is s.heap x.1 x.2.1:=by
  intro l m q;induction q with
  |nil=>intro _ x hx; exact nomatch hx
  |@cons p q ps U hq t F=>
   intro B x hx;rcases List.mem_cons.mp hx with e|hx
   ·subst e;rw[<- hq.1,<- hq.2.1];exact Do I (B _ (.head _))
   ·exact F (fun p h=>B p (.tail _ h)) x hx
 exact z r hk x hx
def Oz(P:yq)(w:y0h)(td ty tv:TE):TS:=fun D σ H=>tv σ H fun v H1=>td σ H1 fun x H2=>ty σ H2 fun y z=>∃d q k a,x=.ref d/\y=.ref a/\z d=some (dN P w d q)/\(∀p∈q,PairAt z p.1 p.2.1)/\PairAt z k a/\q.length<ym/\D.nx σ (upd z d (dN P w d (BB q k a v)))
theorem P0{A:y0n}(I:Inv X pins σ H s){t':Nat}(e:H d=some (dN X.prog X.w d kas))(hd:(d==sysModules)=false)(O:kas.length<ym)(r:KD kas xs)(z:RelV v u)(M:h'.DictOfH (BR X.prog X.w) d (storedH xs k a u))(B:Heap.SameBut d s.heap h'):Inv X pins σ (upd H d (dN X.prog X.w d (BB kas k a v))) {s with heap:=h',toks:=t'}:=by
 obtain⟨q,es,ep,hq,h2,J,G,_,F⟩:=M;have:=WB kas k a v;exact HU I (by rw[e]; exact True.intro) B ⟨q,hq⟩ (Oy hd (by lia) (r.put k a z) hq h2 J G F)
theorem WC(hu:X.A.units+64<cLine)(ho:PE X o td)(hi:PE X i ty)(hv:PE X value tv)(z:swapsWith value (some (.Subscript o i pos')) pos.line X.env=pure false) :
  PS X (.Assign [.Subscript o i pos'] value pos) (Oz X.prog X.w td ty tv):=by
 refine⟨?_⟩;intro pins s σ H D I h;refine wpAny_Assign_Subscript (thn (hv pins s σ H _ I h) fun r J ⟨v,H1,I1,R,q1⟩=>thn (ho pins J σ H1 _ I1 q1) fun u G ⟨x,H2,I2,O,Z⟩=>thn (hi pins G σ H2 _ I2 Z) fun iv s3 ⟨y,H3,F,M,d,fc,k,a,ex,ey,e,hk,ha,hl,U⟩=>?_) z;subst ex ey;cases O;cases M;obtain⟨hd,hz,xs,q,dd⟩:=IB F (.inl e) hk;exact wpAny_setItem_heap (hsz:=by rw[<- y21 q]; exact hz) (show _<_ by show X.A.units+1+1<cLine; lia) (Do F ha) dd fun h' B z=>⟨σ,_,P0 (A:=X.A) F e hd hl q R B z,U⟩
def P3(P:yq)(w:y0h):TE:=fun _ H Q=>∀p,H p=none->Q (.ref p) (upd H p (dN P w p []))
theorem P4:PE X (.Dict [] [] pos) (P3 X.prog X.w):=⟨fun pins s σ H Q I h=>
 wpAny_Dict_empty ⟨.ref s.heap.objs.size,_,I.laid (a:=s.heap.objs.size) (o:=dN X.prog X.w s.heap.objs.size []) (t':=s.toks) (fun _ _ q=>yd _ q) (yf _) (Oy (beq_eq_false_iff_ne.mpr (y1k (yz I.big))) (yo _) (xs:=[]) .nil (yt _ rfl) ⟨rfl,rfl,rfl⟩ rfl rfl y43),rfl,h _ (I.hok.fresh (yf _))⟩⟩
def P5(P:yq)(w:y0h)(td ty:TE):TE:=fun σ H Q=>td σ H fun x H1=>ty σ H1 fun y H2=>∃d q k a v,x=.ref d/\y=.ref a/\Rd H2 d (dN P w d q)/\(∀p∈q,PairAt H2 p.1 p.2.1)/\PairAt H2 k a/\As q k=some v/\Q v H2
theorem WD(hu:X.A.units+64<cLine)(ho:PE X o td)(hi:PE X i ty)(hs:K6 i):PE X (.Subscript o i pos) (P5 X.prog X.w td ty):=by
 refine⟨?_⟩;intro pins s σ H Q I h;refine Nr PySem.F.slot_dict_getitem.lookup hs (thn (ho pins s σ H _ I h) fun u M ⟨x,H1,I1,R,Z⟩=>thn (hi pins M σ H1 _ I1 Z) fun iv s2 ⟨y,H2,G,O,d,fc,k,a,v,ex,ey,e,hk,ha,hv,U⟩=>?_);subst ex ey;cases R;cases O;obtain⟨hd,hz,xs,z,J⟩:=IB G e hk;obtain⟨w',hw,q⟩:=RelO.some_of (v:=v) (o:=(atKey xs k).map (·.2)) (by rw[<- hv]; exact z.val k);obtain⟨p,hp,B⟩:=Option.map_eq_some_iff.mp hw;refine⟨J.typeIs,wpAny_getItem_heap (show _<_ by show X.A.units+1+1<cLine; lia) (Do G ha) J hp ?_⟩;rw[B];exact⟨v,H2,G.tok _,q,U⟩
theorem P6(I:Inv X pins σ H s)(h:Rd H d (dN X.prog X.w d kas)):s.TypeIs (.ref d) "dict"/\∀b,Value.ref d=.ref b->∃z,s.heap.get? b=some z/\z.dict=none:=by
 obtain⟨⟨hd,F,xs,r,o,es,ep,B,e2,M,J,G⟩,_⟩:=(show ObjOk X.prog X.w H s.heap d (dN X.prog X.w d kas) from Dg I.hok h);exact⟨⟨o,B,e2.1⟩,fun b q=>by cases q; exact⟨o,B,e2.2.1⟩⟩
def P7(P:yq)(w:y0h)(td ty:TE):TE:=fun σ H Q=>td σ H fun x H1=>∃d q,x=.ref d/\Rd H1 d (dN P w d q)/\ty σ H1 fun y H2=>∃k a,y=.ref a/\Rd H2 d (dN P w d q)/\(∀p∈q,PairAt H2 p.1 p.2.1)/\PairAt H2 k a/\Q ((As q k).getD .non) H2
theorem WE(hu:X.A.units+64<cLine)(ho:PE X o td)(he:PE X e ty) (m:M1 X o "get" apos e cpos):PE X (.Call (.Attribute o "get" apos) [e] [] cpos) (P7 X.prog X.w td ty):=by
 refine⟨?_⟩;intro pins s σ H Q I h;refine y3j m.base m.few m.line y2e y2l PySem.F.type_dict_get (thn (ho pins s σ H _ I h) fun u O ⟨x,H1,G,U,d,fc,ex,e1,q1⟩=>?_);subst ex;cases U;obtain⟨M,J⟩:=P6 G e1;refine⟨M,J,?_⟩;rw[m.trees];refine y1y rfl (y2q (y23 (thn (he pins O σ H1 _ G q1) fun iv s2 ⟨y,H2,z,R,k,a,ey,e2,hk,ha,Z⟩=>y38 ?_)));subst ey;cases R;obtain⟨hd,hz,xs,q,B⟩:=IB z e2 hk;exact call_meetsIn y2l B.typeIs y4i (y47 _ _) (meetsH_dict_get (BR X.prog X.w) d a hd) ⟨show _<_ by show X.A.units+1+1<cLine; lia,k,xs,Do z ha,B,⟨_,H2,z.tok _,(q.val k).getD (show RelV .non Value.none from rfl),Z⟩⟩
end
section
variable{prog:yq}{w:y0h}{A:y0n}{E:yg->ye->Prop}{s:ye}{κ:Type} [DecidableEq κ] {knd:HeapKind prog w κ}
theorem WF{Q:yg->ye->Prop}(hu:knd.room A)(z:knd.is s.heap k a)(hm:s.heap.DictOfH knd d xs)
  (h1:∀p,atKey xs k=some p->Q p.2 {s with toks:=s.toks+knd.draws k}) (h2:atKey xs k=none->∀h',h'.DictOfH knd d (storedH xs k a v)->Heap.SameBut d s.heap h'->Q v {s with heap:=h',toks:=s.toks+knd.draws k})
  (hsz:xs.length<=ym):y0b (y06 prog w) A (dictSetDefault d (.ref a) v) Q E s:=by
 obtain⟨o,es,ep,B,hc,hd,J,G,M⟩:=hm;unfold dictSetDefault;try with_reducible refine y1z ?_
 refine yb (knd.pyHash hu z ?_);refine yb (wpAny_dictFind_heap (s:={s with toks:=s.toks+knd.draws k}) hu z B hd J G M ?_ ?_)
 ·intro q;have F:k∉xs.map (·.1):=not_mem_keys_of_get q;refine yb (y3z (yb (wpAny_updateDictKeys (hz:=by have e:=size_of_entries J; lia) (s:={s with toks:=s.toks+knd.draws k}) B hd (yh (h2 (y4s q) _ ⟨_,_,ep+1,y17 _ B (Obj.isFreed_of_dict (Obj.data_mapDictKeys hd _)),
   hc.mapDictKeys _,Obj.data_mapDictKeys hd _,?_,?_,?_⟩ (y0p ..))))))
  ·rw[storedH_new (y4s q)];simp[J,entryOfKey]
  ·rw[storedH_new (y4s q)];intro x hx;rcases List.mem_append.mp hx with hx|hx
   ·exact knd.keeps (G x hx) B hd (y0p ..)
   ·simp only[y13] at hx;subst hx;exact knd.keeps z B hd (y0p ..)
  ·rw[storedH_new (y4s q)];rw[yp,y4a];refine⟨M,by simp,?_⟩;intro x hx y hy;simp only[yj,y2f,y13] at hy;subst hy;exact fun e=>F (e ▸ hx)
 ·intro j p O;refine yb (y4r (s:={s with toks:=s.toks+knd.draws k}) B hd ?_);rw[entry_at J j,O];exact yb (y3z (yh (h1 p (atKey_of_get M O))))
theorem P8{Q:yg->ye->Prop}(hu:knd.room A.in1)(hd:(d==sysModules)=false)(q:knd.is s.heap k a)(hm:s.heap.DictOfH knd d xs)
  (h1:∀p,atKey xs k=some p->Q p.2 {s with toks:=s.toks+knd.draws k}) (h2:atKey xs k=none->∀h',h'.DictOfH knd d (storedH xs k a v)->Heap.SameBut d s.heap h'->Q v {s with heap:=h',toks:=s.toks+knd.draws k})
  (hsz:xs.length<=ym):y0b (y06 prog w) A (call (.builtin "dict.setdefault") [.ref d,.ref a,v]) Q E s:=by
 refine y0u y3g hm.typeIs PySem.F.entry_dict_setdefault ?_ (PySem.F.args_dict_setdefault_3 _ _ _);unfold Builtin.«dict.setdefault»;refine yb ?_;unfold Builtin.Dict.keyAndDefault;refine yb (wpAny_notOrdered_dict hm.typeIs ?_);show y0b _ _ (pure (d,Value.ref a,some v)) _ _ s;refine yh ?_;show y0b _ _ (if(d==sysModules)=true then _ else(dictSetDefault d (.ref a) v >>= _)) _ _ s;rw[if_neg (by rw[hd]; exact yx)];exact yb (WF hu q hm (fun p B=>yh ⟨_,rfl,h1 p B⟩) (fun G h' J z=>yh ⟨_,rfl,h2 G h' J z⟩) hsz)
end
section
variable{X:Cx}{pins:List (Addr×Obj)}{σ:St}{H:Hp}{s:ye}{o e f:Expr}{apos cpos:Pos}{td ty tx:TE}
def P9(P:yq)(w:y0h)(td ty tx:TE):TE:=fun σ H Q=>td σ H fun x H1=>∃d q,x=.ref d/\H1 d=some (dN P w d q)/\ty σ H1 fun y H2=>tx σ H2 fun z B=>∃k a,y=.ref a/\B d=some (dN P w d q)/\(∀p∈q,PairAt B p.1 p.2.1)/\PairAt B k a/\q.length<ym/\
 (∀v,As q k=some v->Q v B)/\(As q k=none->Q z (upd B d (dN P w d (BB q k a z))))
def PB(td ty tx:TE):TE:=fun σ H Q=>td σ H fun x H1=>∃d kvs,x=.ref d/\H1 d=some (.dT kvs)/\ty σ H1 fun y H2=>tx σ H2 fun z q=>∃kvs k a,y=.ref a/\q d=some (.dT kvs)/\q a=some (.tup (k.map kV))/\kvs.length<ym/\
 (∀v,B9 kvs k=some v->Q v q)/\(B9 kvs k=none->Q z (upd q d (.dT (An kvs k z))))
theorem WG(hu:X.A.units+64<cLine)(ho:PE X o td)(he:PE X e ty)(hf:PE X f tx) (m:M2 X o "setdefault" apos e f cpos):PE X (.Call (.Attribute o "setdefault" apos) [e,f] [] cpos) (P9 X.prog X.w td ty tx):=by
 refine⟨?_⟩;intro pins s σ H Q I h;refine y3j m.base m.few m.line y2e y3g PySem.F.type_dict_setdefault (thn (ho pins s σ H _ I h) fun u s1 ⟨x,H1,Z,rx,d,J,ex,e1,q1⟩=>?_);subst ex;cases rx;obtain⟨t1,t2⟩:=P6 Z (.inl e1);refine⟨t1,t2,?_⟩;rw[m.trees];refine y1y rfl (y2q (y23 (thn (he pins s1 σ H1 _ Z q1) fun iv s2 ⟨y,H2,I2,ry,q2⟩=>
  y23 (thn (hf pins s2 σ H2 _ I2 q2) fun fv s3 ⟨z,H3,M,R,k,a,ey,U,hk,ha,hl,q3,q4⟩=>y38 ?_))))
 subst ey;cases ry;obtain⟨hd,hz,xs,B,dd⟩:=IB M (.inl U) hk;refine P8 (knd:=BR X.prog X.w) (show _<_ by show X.A.units+1+1<cLine; lia) hd (Do M ha) dd (fun p hp=>?_) (fun hn h' O hs=>?_) (by rw[<- y21 B]; exact hz)
 ·have q:=B.val k;rw[hp] at q;cases G:As J k with
  |none=>rw[G] at q; exact q.elim
  |some v=>
   rw[G] at q;exact⟨v,H3,M.tok _,q,q3 v G⟩
 ·have q:=B.val k;rw[hn] at q;cases G:As J k with
  |some v=>rw[G] at q; exact q.elim
  |none=>exact⟨z,_,P0 (A:=X.A) M U hd hl B R O hs,R,q4 G⟩
theorem WH(hu:X.A.units+64<cLine)(ho:PE X o td)(he:PE X e ty)(hf:PE X f tx) (m:M2 X o "setdefault" apos e f cpos):PE X (.Call (.Attribute o "setdefault" apos) [e,f] [] cpos) (PB td ty tx):=by
 refine⟨?_⟩;intro pins s σ H Q I h;refine y3j m.base m.few m.line y2e y3g PySem.F.type_dict_setdefault (thn (ho pins s σ H _ I h) fun u s1 ⟨x,H1,I1,rx,d,O,ex,e1,q1⟩=>?_);subst ex;cases rx;obtain⟨t1,t2,_⟩:=K8 I1 (.inr ⟨O,.inl e1⟩);refine⟨t1,t2,?_⟩;rw[m.trees];refine y1y rfl (y2q (y23 (thn (he pins s1 σ H1 _ I1 q1) fun iv s2 ⟨y,H2,I2,ry,q2⟩=>
  y23 (thn (hf pins s2 σ H2 _ I2 q2) fun fv s3 ⟨z,H3,M,Z,kvs,k,a,ey,R,ha,hl,q3,q4⟩=>y38 ?_))))
 subst ey;cases ry;obtain⟨hz,hd,xs,G,dd⟩:=Nq M.hok R;refine P8 (knd:=tupleKind (AQ X.prog X.w)) (y4m (by lia)) hd (EW M.hok ha) dd (fun p hp=>?_) (fun hn h' U hs=>?_) (by rw[<- y21 G]; exact hz)
 ·have B:=G.val k;rw[hp] at B;cases J:B9 kvs k with
  |none=>rw[J] at B; exact B.elim
  |some v=>
   rw[J] at B;exact⟨v,H3,M.tok _,B,q3 v J⟩
 ·have B:=G.val k;rw[hn] at B;cases J:B9 kvs k with
  |some v=>rw[J] at B; exact B.elim
  |none=>
   obtain⟨q,es,ep,hq,h2,h3,h4,_,h5⟩:=U;refine⟨z,_,HU M (by rw[R]; exact True.intro) hs ⟨q,hq⟩ (show ObjOk X.prog X.w _ h' d (.dT (An kvs k z)) from⟨by have:=Jz kvs k z; lia,hd,_,(G.put k ha Z).keeps fun c ys ec=>?_,q,es,ep,hq,h2,h3,h4,h5⟩),Z,q4 J⟩;rw[A8 (AM ec R (fun z=>nomatch z))];exact ec
end
section
variable{prog:yq}{w:y0h}{A:y0n}{E:yg->ye->Prop}{s:ye}{d:Addr}{es:Array DictEntry}{ep:Nat}{o:Obj}
theorem PF{Q:yg->ye->Prop}(J:A.handled=none)(lo:(d==sysModules)=false)(e:s.heap.get? d=some o)(x:o.ExactDict)(U:o.data=.dict es ep)(G:es.size<=ym)
  (q:∀(h':Heap) (tk n:Nat),(∀b u,s.heap.get? b=some u->h'.get? b=some u)->h'.get? s.heap.objs.size=some (y19 "list" (es.toList.map (·.key)).toArray n)->Q (.ref s.heap.objs.size) {s with heap:=h',toks:=tk}):y0b (y06 prog w) A (call (.type "list") [.ref d]) Q E s:=by
 refine kdl_call (OS (ep:=ep) (es:=es) lo) J ⟨o,e,x,U⟩ G fun h' tk B c hk M z=>q h' tk c hk ?_;have R:B.toList=es.toList.map (·.key):=by
  refine y1o (by simp[z.1]) fun i h1 h2=>?_;have hi:i<B.size:=by simpa using h1
  obtain⟨Z,F,O⟩:=z.2 i B[i] (by simp[hi]);have hi2:i<es.size:=by simpa using h2
  rw[y2u hi2] at F;cases F;simp[O]
 rw[M,<- R]
theorem WI{r:Nat->Nat}{Q:yg->ye->Prop}(hh:A.handled=none)(F:∀E,Kl prog w E s d vs)(hz:vs.length<=ym)(M:vs.Nodup)(hr:∀i j,i<vs.length->j<vs.length->r i=r j->i=j)
  (hR:2<=vs.length->∀(R:y0n) (h':Heap) (tk:Nat),R.units<=A.units+8->(∀b u,s.heap.get? b=some u->h'.get? b=some u)->∃k,(∀(E:yg->ye->Prop) (Q:SortKind->ye->Prop),Q k {s with heap:=h',toks:=tk}->y0b (y06 prog w) R (keyKind' vs.toArray) Q E {s with heap:=h',toks:=tk})/\
   ∀i j,i<vs.length->j<vs.length->∀(E:yg->ye->Prop) (Q:Bool->ye->Prop),Q (decide (r i<r j)) {s with heap:=h',toks:=tk}->y0b (y06 prog w) R (keyLt' k (vs.getD i .none) (vs.getD j .none)) Q E {s with heap:=h',toks:=tk})
  (q:∀(h':Heap) (tk:Nat) (l:Addr) (n:Nat) (p:Array Nat),s.heap.objs.size<=l->(∀b u,s.heap.get? b=some u->h'.get? b=some u)->PermN r vs.length p->Asc r p vs.length->h'.get? l=some (y19 "list" (p.toList.map fun i=>vs.getD i .none).toArray n)->Q (.ref l) {s with heap:=h',toks:=tk}) :
  y0b (y06 prog w) A (call (.builtin "sorted") [.ref d]) Q E s:=by
 refine y3y kind_sorted plain_sorted entry_sorted (args_sorted1 _) ?_;unfold Builtin.«sorted»;refine yb (m:=checkCount "sorted" 1 1 _) (yh (yb (F _ _ _ (by simpa using hh) fun h1 B U J=>?_)));refine yb (y3a ?_ (Dn hz));have O:(h1.push (y19 "list" vs.toArray 0)).get? h1.objs.size=some (y19 "list" vs.toArray 0):=yt _ rfl;have z:∀b u,s.heap.get? b=some u->(h1.push (y19 "list" vs.toArray 0)).get? b=some u/\b≠h1.objs.size:=fun b u hu=>by
  have G:=yl (J b u hu);exact⟨yd _ (J b u hu),yz G⟩
 refine yb (y1z (y0u slot_list_sort ⟨_,O,rfl⟩ entry_list_sort (Oq (r:=r) O (Dn hz) M hr (fun h2 h' Z=>hR h2 _ h' B (by first|(show A.units+1+1<=A.units+8; lia)|(show A.units+1<=A.units+8; lia)) fun b u hu=>Z _ _ (z b u hu).2 (z b u hu).1) fun p P1 P2=>⟨_,rfl,?_⟩) (args_list_sort _)));refine yh ⟨_,rfl,?_⟩;obtain⟨n,en⟩:=sortedHeap_at (out:=(p.toList.map fun i=>vs.getD i Value.none).toArray) O;refine q _ B h1.objs.size n p U (fun b u hu=>?_) P1 P2 en;have G:=yl (J b u hu);rw[sortedHeap_old (yz G) (by rw[y40]; exact y2p G)];exact yd _ (J b u hu)
theorem PH{α:Type}{p q:α->Bool}:∀{l:List α},(∀x∈l,p x=true->q x=true)->(∃a∈l,q a=true/\p a=false)->l.countP p<l.countP q
 |[],_,⟨a,h,_⟩=>by cases h
 |x::l,h,⟨a,ha,hq,z⟩=>by
  have le:∀l:List α,(∀x∈l,p x=true->q x=true)->l.countP p<=l.countP q:=fun l h=>List.countP_mono_left h;rw[List.countP_cons,List.countP_cons];rcases List.mem_cons.mp ha with rfl|ha
  ·have:=le l fun x hx=>h x (.tail _ hx);rw[hq,z];simp;lia
  ·have B:=PH (l:=l) (fun x hx=>h x (.tail _ hx)) ⟨a,ha,hq,z⟩;cases e:p x with
   |false=>
    simp;split<;>lia
   |true=>
    rw[h x (.head _) e];simp;lia
theorem WJ{α:Type}(q:α->α->Bool){l:List α}(F:∀a∈l,q a a=false)(M:∀a∈l,∀b∈l,∀c∈l,q a b=true->q b c=true->q a c=true)(B:∀a∈l,∀b∈l,a≠b->q a b=true\/q b a=true){a b:α}(ha:a∈l)(hb:b∈l):q a b=decide (l.countP (fun x=>q x a)<l.countP fun x=>q x b):=by
 have J:∀{a b:α},a∈l->b∈l->q a b=true->l.countP (fun x=>q x a)<l.countP fun x=>q x b:=fun {a b} ha hb h=>PH (fun x hx G=>M x hx a ha b hb G h) ⟨a,ha,h,F a ha⟩;cases e:q a b with
 |true=>exact(decide_eq_true (J ha hb e)).symm
 |false=>
  refine(decide_eq_false ?_).symm;by_cases z:a=b
  ·subst z; exact y1b _
  ·rcases B a ha b hb z with h|h
   ·rw[h] at e; cases e
   ·have:=J hb ha h;lia
noncomputable def three:List Str:=["long","over","zero"]
noncomputable def rkW(x:Str):Nat:=if x = "long" then 0 else if x = "over" then 1 else 2
def WK:(three.all fun x=>three.all fun y=>(decide (x.cps.toList<y.cps.toList)==decide (rkW x<rkW y))&&(!(decide (rkW x=rkW y)) || decide (x=y)))=true:=by decide+kernel
theorem PJ(hx:x∈three)(hy:y∈three):decide (x.cps.toList<y.cps.toList)=decide (rkW x<rkW y)/\(rkW x=rkW y->x=y):=by
 have h:=List.all_eq_true.mp (List.all_eq_true.mp WK x hx) y hy;rw[y05,y35,y1g,decide_eq_false_iff_not,decide_eq_true_eq] at h;exact⟨beq_iff_eq.mp h.1,fun e=>h.2.resolve_left fun z=>z e⟩
noncomputable def ltW(x y:WP):Bool:=if x.1=y.1 then ltI x.2 y.2 else decide (rkW x.1<rkW y.1)
theorem IC(x:WP):ltW x x=false:=by
 unfold ltW;rw[if_pos rfl,D6]
theorem PK(hx:x.1∈three)(hy:y.1∈three)(h:x≠y):ltW x y=true\/ltW y x=true:=by
 unfold ltW;by_cases e:x.1=y.1
 ·rw[if_pos e,if_pos e.symm];exact Kb _ _ fun z=>h (y4z e z)
 ·rw[if_neg e,if_neg (y1k e),decide_eq_true_eq,decide_eq_true_eq];have:rkW x.1≠rkW y.1:=fun z=>e ((PJ hx hy).2 z);lia
theorem PL(hx:x.1∈three)(hy:y.1∈three)(hz:z.1∈three)(h1:ltW x y=true)(h2:ltW y z=true):ltW x z=true:=by
 unfold ltW at h1 h2 |-;by_cases q:x.1=y.1
 ·rw[if_pos q] at h1;by_cases e2:y.1=z.1
  ·rw[if_pos e2] at h2;rw[if_pos (q.trans e2)];exact Kc h1 h2
  ·rw[if_neg e2] at h2;rw[if_neg (by rw[q]; exact e2),q];exact h2
 ·rw[if_neg q] at h1;have B:=of_decide_eq_true h1;by_cases e2:y.1=z.1
  ·rw[<- e2,if_neg q];exact h1
  ·rw[if_neg e2] at h2;have F:=of_decide_eq_true h2;rw[if_neg fun e=>by rw[e] at B; lia];exact decide_eq_true (by lia)
end
theorem PM:∀{p:List Int} {us:List yg},ItemsAre (AQ prog w) (p.map Sum.inl) us->ItemsAre (intKind prog w) p us
 |[],_,h=>by rw[y2f] at h; cases h; exact .nil
 |i::p,_,h=>by
  rw[yj] at h;cases h with
  |cons h1 t=>
   refine .cons ?_ (PM t);rcases BW (show C8 (Sum.inl i) _=true from h1) with⟨j,t,e,rfl⟩|⟨z,t,e,_⟩
   ·cases e;show(i==i)=true;exact beq_self_eq_true i
   ·cases e
section
variable{prog:yq}{w:y0h}{A:y0n}{E:yg->ye->Prop}{s:ye}
theorem WL{Q:Bool->ye->Prop}(hu:A.units<cLine)(hx:(BR prog w).is s.heap x a)(hy:(BR prog w).is s.heap y c)(Z:x.1∈three)(U:y.1∈three)(h:Q (ltW x y) s):y0b (y06 prog w) A (keyLt' (tuples' true) (.ref a) (.ref c)) Q E s:=by
 obtain⟨oa,na,va,ba,F,_,J,h1,h2⟩:=hx;obtain⟨oc,nc,M,bc,B,_,G,g1,R⟩:=hy;obtain⟨t,rfl⟩:∃t,va=.str x.1 t:=by
  rcases BW (show C8 (Sum.inr x.1) va=true from h1) with⟨i,t,e,_⟩|⟨z,t,e,rfl⟩
  ·cases e
  ·cases e; exact⟨t,rfl⟩
 obtain⟨u,rfl⟩:∃t,M=.str y.1 t:=by
  rcases BW (show C8 (Sum.inr y.1) M=true from g1) with⟨i,t,e,_⟩|⟨z,t,e,rfl⟩
  ·cases e
  ·cases e; exact⟨t,rfl⟩
 refine kat_lt F J B G ?_;show KatLex _ _ _ _ _ _ [(Value.str x.1 t,Value.str y.1 u),(Value.ref ba,Value.ref bc)] 0 _;refine kat_cons (y53 ?_);unfold ltW at h;by_cases e:x.1=y.1
 ·rw[decide_eq_true e];rw[if_pos e] at h;refine kat_yes (kat_cons (wpAny_eqBool_tuple hu h2 R ?_));by_cases e2:x.2=y.2
  ·rw[show decide ((kP x).2=(kP y).2)=true from decide_eq_true (by unfold kP; rw[e2])];rw[e2,D6] at h;refine kat_yes (kat_nil ?_);simpa using h
  ·rw[show decide ((kP x).2=(kP y).2)=false from decide_eq_false fun z=>e2 (congrArg Prod.snd (Km (x:=x) (y:=y) (y4z (congrArg Sum.inr e) z)))];refine kat_no ?_;show y0b _ _ (oneLt' false _ _) _ _ _;have O:∀{p:List Int} {b:Addr},IsTupleKey (AQ prog w) s.heap (p.map Sum.inl) b->IsTupleKey (intKind prog w) s.heap p b:=fun {p b} ⟨o,q,n,e1,e2,e3,e4⟩=>⟨o,q,n,e1,e2,e3,PM e4⟩;exact kat_one _ _ (Ut hu (O h2) (O R) h)
 ·rw[decide_eq_false e];rw[if_neg e,<- (PJ Z U).1] at h;exact kat_no (oneLt_str h)
abbrev WA:=WP×Addr
noncomputable def CS:WA:=((⟨#[]⟩,[]),0)
end
section
variable{prog:yq}{w:y0h}{A:y0n}{E:yg->ye->Prop}{s:ye}{d:Addr}
theorem PN:∀{ks:List WA},(∀p∈ks,(BR prog w).is h p.1 p.2)->∃fs,KatTups h (ks.map fun p=>Value.ref p.2) fs/\fs.length=ks.length/\∀f∈fs,∃x t,f=.str x t
 |[],_=>⟨[],trivial,rfl,fun f h=>absurd h (by simp)⟩
 |p::ks,h=>by
  obtain⟨fs,k,l,f⟩:=PN fun q hq=>h q (.tail _ hq);obtain⟨o,n,v,b,B,hc,hd,h1,_⟩:=h p (.head _);rcases BW (show C8 (Sum.inr p.1.1) v=true from h1) with⟨i,t,e,_⟩|⟨z,t,e,rfl⟩
  ·cases e
  ·refine⟨.str z t::fs,.cons B hc hd rfl k,by simp[l],fun g hg=>?_⟩;rcases List.mem_cons.mp hg with rfl|hg
   ·exact⟨_,_,rfl⟩
   ·exact f g hg
theorem PP{Q:yg->ye->Prop}(hu:A.units+64<cLine)(hh:A.handled=none)(U:∀E,Kl prog w E s d (ks.map fun p=>Value.ref p.2))(hk:∀p∈ks,(BR prog w).is s.heap p.1 p.2)(fh:(ks.map (·.1)).Nodup)(hw:∀p∈ks,p.1.1∈three)(hz:ks.length<=ym)
  (q:∀(h':Heap) (tk:Nat) (l:Addr) (n:Nat) (zs:List WA),s.heap.objs.size<=l->(∀b u,s.heap.get? b=some u->h'.get? b=some u)->zs.Perm ks->zs.Pairwise (fun x y=>ltW x.1 y.1=true)->h'.get? l=some (y19 "list" (zs.map fun p=>Value.ref p.2).toArray n)->Q (.ref l) {s with heap:=h',toks:=tk}) :
  y0b (y06 prog w) A (call (.builtin "sorted") [.ref d]) Q E s:=by
 have G:∀i,i<ks.length->ks.getD i CS∈ks:=fun i hi=>by rw[yv,yk hi]; exact y18 hi
 have B:∀i,i<ks.length->(ks.getD i CS).1∈ks.map (·.1):=fun i hi=>List.mem_map.mpr ⟨_,G i hi,rfl⟩;have J:∀x∈ks.map (·.1),x.1∈three:=fun x hx=>by obtain⟨p,hp,rfl⟩:=List.mem_map.mp hx; exact hw p hp
 have rk:=fun {a b:WP}=>WJ ltW (l:=ks.map (·.1)) (fun a _=>IC a) (fun a ha b hb c hc=>PL (J a ha) (J b hb) (J c hc)) (fun a ha b hb=>PK (J a ha) (J b hb)) (a:=a) (b:=b);have g1:∀i,i<ks.length->(ks.map fun p=>Value.ref p.2).getD i Value.none=.ref (ks.getD i CS).2:=fun i hi=>by simp[yv,hi]
 have inj:∀i j,i<ks.length->j<ks.length->(ks.getD i CS).1=(ks.getD j CS).1->i=j:=fun i j hi F e=>by
  have e':(ks.map (·.1))[i]'(by simpa using hi)=(ks.map (·.1))[j]'(by simpa using F):=by simpa [yv,hi,F] using e
  exact(y2x fh).mp e'
 have fe:(ks.map fun p=>Value.ref p.2).Nodup:=by
  refine List.pairwise_map.mpr ?_;rw[y1r];intro i j hi F R z;injection z with z;have k1:=hk ks[i] (y18 hi);have k2:=hk ks[j] (y18 F);rw[z] at k1;have e:=(BR prog w).inj k1 k2;have:=inj i j hi F (by simpa [yv,hi,F] using e);lia
 refine WI (r:=fun i=>(ks.map (·.1)).countP fun x=>ltW x (ks.getD i CS).1) hh U (by rw[y4]; exact hz) fe (fun i j hi F e=>?_) (fun h2 A' h' tk hA kp=>?_) fun h' tk l n p hl k Z P2 en=>?_
 ·rw[y4] at hi F;refine inj i j hi F (Classical.byContradiction fun fg=>?_);have a1:=rk (B i hi) (B j F);have a2:=rk (B j F) (B i hi);have e:(ks.map (·.1)).countP (fun x=>ltW x (ks.getD i CS).1)=(ks.map (·.1)).countP fun x=>ltW x (ks.getD j CS).1:=e;rw[e,decide_eq_false (y1b _)] at a1 a2;rcases PK (J _ (B i hi)) (J _ (B j F)) fg with h|h
  ·rw[h] at a1; cases a1
  ·rw[h] at a2; cases a2
 ·have M:∀p∈ks,(BR prog w).is h' p.1 p.2:=fun p hp=>by
   obtain⟨o,n,v,b,ho,hc,hd,h1,o2,fc,n2,e1,e2⟩:=hk p hp;exact⟨o,n,v,b,kp _ _ ho,hc,hd,h1,o2,fc,n2,kp _ _ e1,e2⟩
  obtain⟨fs,kt,fl,ff⟩:=PN M;rw[y4] at h2;refine⟨tuples' true,fun E Q hQ=>kat_kind (T:=.type "str") kt (by lia) (fun v hv=>?_) rfl hQ,fun i j hi F E Q hQ=>?_⟩
  ·obtain⟨x,t,rfl⟩:=ff v hv;exact Looks.of_pure rfl
  ·rw[y4] at hi F;rw[g1 i hi,g1 j F];refine WL (by lia) (M _ (G i hi)) (M _ (G j F)) (hw _ (G i hi)) (hw _ (G j F)) ?_;rw[rk (B i hi) (B j F)];exact hQ
 ·have e1:(p.toList.map fun i=>(ks.map fun p=>Value.ref p.2).getD i Value.none)=(p.toList.map fun i=>ks.getD i CS).map fun p=>Value.ref p.2:=by
   rw[y09];refine y16 fun i hi=>?_;have:=List.mem_range.mp (Z.pm.mem_iff.mp hi);exact g1 i (by simpa using this)
  rw[e1] at en;refine q h' tk l n _ hl k ?_ ?_ en
  ·have z:=Z.pm.map fun i=>ks.getD i CS;refine z.trans (List.Perm.of_eq ?_);rw[y4];refine y1o (by simp) fun i h1 h2=>?_;simp[yv,h2]
  ·rw[y1x,y1r];intro i j hi F R;have O:j<p.size:=by simpa using F
   have z:=P2 i j R (by rw[<- Z.sz]; exact O);have li:p.toList[i]<ks.length:=by
    have:=List.mem_range.mp (Z.pm.mem_iff.mp (y18 hi));simpa using this
   have lj:p.toList[j]<ks.length:=by
    have:=List.mem_range.mp (Z.pm.mem_iff.mp (y18 F));simpa using this
   rw[rk (B _ li) (B _ lj),decide_eq_true_eq];simpa [L2.rk,Array.getD,O,y1i R O] using z
end
theorem Kn:∀{q:NKs} {xs:List (WP×Addr×yg)},KD q xs->(xs.map (entryOfKey (BR P w))).map (·.key)=(q.map fun p=>(p.1,p.2.1)).map (fun p=>Value.ref p.2)/\xs.map (·.1)=(q.map fun p=>(p.1,p.2.1)).map (·.1)
 |_,_,.nil=>⟨rfl,rfl⟩
 |_::_,_::_,.cons h t=>by
  obtain⟨a,b⟩:=Kn (P:=P) (w:=w) t;refine⟨?_,?_⟩
  ·rw[yj,yj,a,yj,yj,h.2.1];rfl
  ·rw[yj,b,yj,yj,h.1]
section
variable{X:Cx}{pins:List (Addr×Obj)}{σ:St}{H:Hp}{s:ye}
def PQ(P:yq)(w:y0h):List V->Hp->VK->Prop:=fun xs H Q=>∃(d:Addr) (q:NKs),xs=[.ref d]/\Rd H d (dN P w d q)/\(∀p∈q,PairAt H p.1 p.2.1)/\(∀p∈q,p.1.1∈three)/\q.length<=1000/\
 ∀(l:Addr) (zs:List WA),H l=none->zs.Perm (q.map fun p=>(p.1,p.2.1))->zs.Pairwise (fun x y=>ltW x.1 y.1=true)->Q (.ref l) (upd H l (.lst (zs.map fun p=>V.ref p.2)))
theorem PR:∀zs:List WA,Vals (zs.map fun p=>V.ref p.2) (zs.map fun p=>Value.ref p.2)
 |[]=>.nil
 |_::zs=>.cons rfl (PR zs)
theorem Ko(I:Inv X pins σ H s){zs:List WA}{h':Heap}{tk n:Nat}{l:Addr}(hz:zs.length<=1000)(q:s.heap.objs.size<=l)(k:∀b u,s.heap.get? b=some u->h'.get? b=some u) (z:h'.get? l=some (y19 "list" (zs.map fun p=>Value.ref p.2).toArray n)):Inv X pins σ (upd H l (.lst (zs.map fun p=>V.ref p.2))) {s with heap:=h',toks:=tk}:=
 I.laid (t':=tk) k q (show ObjOk X.prog X.w _ _ _ (.lst _) from⟨by rw[y4]; exact D5 hz,_,n,PR zs,by simpa [y19] using z⟩)
theorem WM(hc:X.calm=true)(hu:X.A.units+64<cLine):Al X (.builtin "sorted") (PQ X.prog X.w):=by
 intro pins s σ H xs us Q I r h;obtain⟨d,z,rfl,hr,hk,hw,hb,q⟩:=h;obtain⟨u,rfl,U⟩:=r.one;cases U;obtain⟨⟨hd,hl,ys,B,o,es,ep,e1,e2,e3,O,e5⟩,_⟩:=(show ObjOk X.prog X.w H s.heap d (dN X.prog X.w d z) from Dg I.hok hr);obtain⟨g1,g2⟩:=Kn (P:=X.prog) (w:=X.w) B;have J:es.size=z.length:=by rw[<- yi,O,y4,y21 B]
 refine PP (ks:=z.map fun p=>(p.1,p.2.1)) (by lia) (I.ok.hd hc) (fun E A Q ah Z=>OV ah hd e1 e2 e3 (by rw[J]; exact hl) (by rw[O,g1]; exact Z)) (fun p G=>?_) (by rw[<- g2]; exact e5) (fun p G=>?_) (by rw[y4]; exact D5 hb) fun h' tk l n zs F k M R en=>⟨.ref l,_,Ko I (by rw[M.length_eq,y4]; exact hb) F k en,rfl,q l zs (I.hok.fresh F) M R⟩
 ·obtain⟨x,hx,rfl⟩:=List.mem_map.mp G;exact Do I (hk x hx)
 ·obtain⟨x,hx,rfl⟩:=List.mem_map.mp G;exact hw x hx
def PU(K:ya):List V->Hp->VK->Prop:=fun xs H Q=>∃(a:Addr) (ks:List WA),xs=[.ref a]/\SqL K H a (ks.map fun p=>V.ref p.2)/\(∀p∈ks,PairAt H p.1 p.2)/\(ks.map (·.1)).Nodup/\(∀p∈ks,p.1.1∈three)/\ks.length<=1000/\
 ∀(l:Addr) (zs:List WA),H l=none->zs.Perm ks->zs.Pairwise (fun x y=>ltW x.1 y.1=true)->Q (.ref l) (upd H l (.lst (zs.map fun p=>V.ref p.2)))
theorem PV:∀{ks:List WA} {us:List yg},Vals (ks.map fun p=>V.ref p.2) us->us=ks.map fun p=>Value.ref p.2
 |[],_,.nil=>rfl
 |p::ks,_,.cons r t=>by rw[yj,<- PV t,show _=Value.ref p.2 from r]
theorem WN(hc:X.calm=true)(hu:X.A.units+64<cLine):Al X (.builtin "sorted") (PU X.K):=by
 intro pins s σ H xs us Q I r h;obtain⟨a,ks,rfl,hq,hk,B,hw,hb,q⟩:=h;obtain⟨u,rfl,M⟩:=r.one;cases M;obtain⟨R,J,pl,hz⟩:=I.list hq;obtain rfl:=PV J;refine PP (ks:=ks) (by lia) (I.ok.hd hc) (fun E A Q ah O=>collect_list pl.isList (O _ _ ?_ fun b u hu=>?_) (by rw[y4]; exact D5 hb)) (fun p U=>Do I (hk p U)) B hw (D5 hb) fun h' tk l n zs z k F G Z=>⟨.ref l,_,Ko I (by rw[F.length_eq]; exact hb) z k Z,rfl,q l zs (I.hok.fresh z) F G⟩
 ·rw[y2y,y40];exact y3d _
 ·rw[y3r _ _ _ _ (yz (yl hu))];exact yd _ hu
def PX(P:yq)(w:y0h):List V->Hp->VK->Prop:=fun xs H Q=>∃(d:Addr) (q:NKs),xs=[.ref d]/\Rd H d (dN P w d q)/\q.length<=1000/\∀l,H l=none->Q (.ref l) (upd H l (.lst ((q.map fun p=>(p.1,p.2.1)).map fun p=>V.ref p.2)))
theorem WO(hc:X.calm=true):Al X (.type "list") (PX X.prog X.w):=by
 intro pins s σ H xs us Q I r h;obtain⟨d,z,rfl,hr,hb,q⟩:=h;obtain⟨u,rfl,J⟩:=r.one;cases J;obtain⟨⟨hd,M,ys,B,o,es,ep,Z,e2,U,G,e5⟩,_⟩:=(show ObjOk X.prog X.w H s.heap d (dN X.prog X.w d z) from Dg I.hok hr);obtain⟨O,g2⟩:=Kn (P:=X.prog) (w:=X.w) B;have F:es.size=z.length:=by rw[<- yi,G,y4,y21 B]
 refine PF (I.ok.hd hc) hd Z e2 U (by rw[F]; exact M) fun h' tk n k R=>⟨.ref s.heap.objs.size,_,Ko I (zs:=z.map fun p=>(p.1,p.2.1)) (by rw[y4]; exact hb) (yf _) k (by rw[R,G,O]),rfl,q _ (I.hok.fresh (yf _))⟩
def PY:List V->Hp->VK->Prop:=fun xs H Q=>∃(d:Addr) (kvs:List (List Key×V)),xs=[.ref d]/\Rd H d (.dT kvs)/\∀(l:Addr) (as:List Addr),H l=none->Paired (fun(kv:List Key×V) (a:Addr)=>H a=some (.tup (kv.1.map kV))) kvs as->Q (.ref l) (upd H l (.lst (as.map V.ref)))
theorem WQ(hc:X.calm=true):Al X (.type "list") PY:=by
 intro pins s σ H xs us Q I r h;obtain⟨d,kvs,rfl,hr,q⟩:=h;obtain⟨u,rfl,F⟩:=r.one;cases F;obtain⟨hz,lo,ys,B,o,es,ep,M,hx,hd,z,R⟩:=(show ObjOk X.prog X.w H s.heap d (.dT kvs) from hr.ok I.hok);obtain⟨G,_⟩:=OT (X:=X) (xs:=[]) (kvs:=[]) B;have J:es.size=kvs.length:=by rw[<- yi,z,y4,y21 B]
 refine PF (I.ok.hd hc) lo M hx hd (by rw[J]; exact hz) fun h' tk n k O=>⟨.ref s.heap.objs.size,_,I.laid (t':=tk) k (yf _) (show ObjOk X.prog X.w _ _ _ (.lst ((ys.map (·.2.1)).map V.ref)) from⟨by rw[y4,y4,<- y21 B]; exact hz,_,n,Hm _,?_⟩),rfl,q _ _ (I.hok.fresh (yf _)) G⟩;rw[O,z,y09,y09];rfl
def PZ(P:yq)(w:y0h)(tl:TE):TI:=fun σ H R=>tl σ H fun x H1=>∃d q,x=.ref d/\Rd H1 d (dN P w d q)/\∀o,R (Itd d o (dN P w d q) (q.map fun p=>V.ref p.2.1)) (upd H1 d (.frz o (dN P w d q)))
theorem WR(M:PE X l tl):PI X tg l (PZ X.prog X.w tl):=by
 refine⟨?_⟩;intro pins s σ H R I h;refine thn (M pins s σ H _ I h) fun v F ⟨x,H1,J,r1,q1⟩=>?_;obtain⟨d,B,e,hr,q⟩:=q1;subst e;cases r1;obtain⟨⟨hd,M,ys,G,o,es,ep,U,e2,O,e4,e5⟩,_⟩:=(show ObjOk X.prog X.w H1 F.heap d (dN X.prog X.w d B) from Dg J.hok hr);have Z:=J.frozen hr U (by intro xs z; cases z) (by intro xs z; cases z) (by intro xs y z; cases z) (by intro xs z; cases z);have kb:∀{B:NKs} {xs:List (WP×Addr×yg)},KD B xs->Paired (fun(v:V) (en:DictEntry)=>RelV v en.key) (B.map fun p=>V.ref p.2.1) (xs.map (entryOfKey (BR X.prog X.w))):=by
  intro B xs r;induction r with
  |nil=>exact .nil
  |cons h _ ih=>exact .cons (show _=_ by rw[h.2.1]; rfl) ih
 refine OR hd U e2 O ?_;refine⟨F.heap.objs.size,[F.heap.objs.size],_,_,_,rfl,Z.kept (t':=F.toks) fun b o e=>yd _ e,VZ (o:=o) (u:=dN X.prog X.w d B) O (e4 ▸ kb G),yt _ rfl,fun b hb=>?_,q o⟩;have e:b=F.heap.objs.size:=by simpa using hb
 subst e;exact J.fpOk (yf _) (Z.hok.fresh (yf _))
end
end L2
set_option maxHeartbeats 0
namespace SR
open PySem L2
abbrev CDF(x:Str):Prop:=(x==("__classdict__" : Str))=false
abbrev DBF(x:Str):Prop:=(x==("__debug__" : Str))=false
abbrev GLF(s:Stmt)(x:Str):Prop:=(defScope s).names.lookup x=some NameKind.globalImplicit
def VD(s:Scope)(x:Str):Prop:=Vis s x/\(x==("__debug__" : Str))=false/\(x==("__classdict__" : Str))=false
abbrev VE(s:Stmt)(x:Str):Prop:=VD (defScope s) x
theorem ve1{s:Stmt}{x:Str} (h:(defScope s).names.lookup x=some NameKind.local/\(x==("__debug__" : Str))=false/\(x==("__classdict__" : Str))=false):VE s x:=⟨.inl h.1,h.2⟩
theorem ve2{s:Stmt}{x:Str} (h:(defScope s).names.lookup x=some NameKind.cell/\(x==("__debug__" : Str))=false/\(x==("__classdict__" : Str))=false):VE s x:=⟨.inr (.inl h.1),h.2⟩
theorem A0{X:Cx}{x:Str}{pos:Pos}(i:Nat)(q:X.N[i]?=some x)(h:VD X.env.scope x):PE X (.Name x pos) (B4 i):=Ae q h.1 h.2.1 h.2.2
local macro_rules | `(tactic| walk_at "vc")=>`(tactic| first | exact Or.inl rfl | exact Or.inr (Or.inl rfl) | exact Or.inr (Or.inr rfl))
noncomputable def top(i:Nat):Stmt:=PySem.Challenge.pw_smallrooms_k70_all_runs.main.body.getD i (.Pass ⟨0,0,0,0⟩)
def WT:bootBuiltins "bool" = some (.type "bool"):=by decide+kernel
def WU:bootBuiltins "dict" = some (.type "dict"):=by decide+kernel
def WV:bootBuiltins "int" = some (.type "int"):=by decide+kernel
def Kq:bootBuiltins "isinstance" = some (.builtin "isinstance"):=by decide+kernel
def Dp:bootBuiltins "len" = some (.builtin "len"):=by decide+kernel
def Kr:bootBuiltins "list" = some (.type "list"):=by decide+kernel
def Ks:bootBuiltins "max" = some (.builtin "max"):=by decide+kernel
def Kt:bootBuiltins "min" = some (.builtin "min"):=by decide+kernel
def D9:bootBuiltins "sorted" = some (.builtin "sorted"):=by decide+kernel
def Fo:bootBuiltins "tuple" = some (.type "tuple"):=by decide+kernel
def WW:CDF "_law_known":=by decide+kernel
def Pa:CDF "_law_name":=by decide+kernel
def ID:CDF "_law_one":=by decide+kernel
def IE:CDF "_law_path":=by decide+kernel
def Pb:CDF "_law_row":=by decide+kernel
def Pc:CDF "_law_seen":=by decide+kernel
def WX:CDF "_law_state":=by decide+kernel
def Pd:CDF "_law_worth_here":=by decide+kernel
def WY:CDF "_law_worths":=by decide+kernel
def WZ:CDF "_law_yours":=by decide+kernel
def Wa:CDF "had":=by decide+kernel
def IF:CDF "path":=by decide+kernel
def Wb:CDF "row":=by decide+kernel
def Wc:CDF "rows":=by decide+kernel
def IG:CDF "settle":=by decide+kernel
def Ku:CDF "worth":=by decide+kernel
def Pe:DBF "WIDE":=by decide+kernel
def We:DBF "_law_all_worths":=by decide+kernel
def IH:DBF "_law_block":=by decide+kernel
def Wf:DBF "_law_cell":=by decide+kernel
def Wg:DBF "_law_counted":=by decide+kernel
def Kv:DBF "_law_do":=by decide+kernel
def Wh:DBF "_law_known":=by decide+kernel
def Pf:DBF "_law_name":=by decide+kernel
def II:DBF "_law_one":=by decide+kernel
def IJ:DBF "_law_path":=by decide+kernel
def BG:DBF "_law_pick":=by decide+kernel
def Wi:DBF "_law_program":=by decide+kernel
def Wj:DBF "_law_reckoned":=by decide+kernel
def Pg:DBF "_law_row":=by decide+kernel
def Wk:DBF "_law_run":=by decide+kernel
def Ph:DBF "_law_seen":=by decide+kernel
def IK:DBF "_law_spots":=by decide+kernel
def Wl:DBF "_law_state":=by decide+kernel
def Fp:DBF "_law_sum":=by decide+kernel
def Kw:DBF "_law_sum_spots":=by decide+kernel
def Kx:DBF "_law_worth":=by decide+kernel
def Pj:DBF "_law_worth_here":=by decide+kernel
def Wm:DBF "_law_worths":=by decide+kernel
def Wn:DBF "_law_yours":=by decide+kernel
def IL:DBF "all_worths":=by decide+kernel
def Wo:DBF "bool":=by decide+kernel
def Wp:DBF "dict":=by decide+kernel
def IM:DBF "do_block":=by decide+kernel
def Wq:DBF "do_deed":=by decide+kernel
def Wr:DBF "do_if":=by decide+kernel
def Ws:DBF "do_set":=by decide+kernel
def Wt:DBF "do_while":=by decide+kernel
def Wu:DBF "exact":=by decide+kernel
def Wv:DBF "had":=by decide+kernel
def Ww:DBF "int":=by decide+kernel
def Wx:DBF "is_tuple_of":=by decide+kernel
def Wy:DBF "is_whole":=by decide+kernel
def Wz:DBF "is_whole_from":=by decide+kernel
def Ky:DBF "isinstance":=by decide+kernel
def X0:DBF "joined":=by decide+kernel
def Dq:DBF "len":=by decide+kernel
def Kz:DBF "list":=by decide+kernel
def L0:DBF "max":=by decide+kernel
def L1:DBF "min":=by decide+kernel
def X1:DBF "names_at_first":=by decide+kernel
def IN:DBF "path":=by decide+kernel
def Fq:DBF "reckon":=by decide+kernel
def X2:DBF "refusals":=by decide+kernel
def X3:DBF "row":=by decide+kernel
def X4:DBF "rows":=by decide+kernel
def Pk:DBF "run":=by decide+kernel
def Pl:DBF "run_by":=by decide+kernel
def IO:DBF "settle":=by decide+kernel
def DA:DBF "sorted":=by decide+kernel
def X5:DBF "traced":=by decide+kernel
def Fr:DBF "tuple":=by decide+kernel
def X6:DBF "ways_refused":=by decide+kernel
def Pm:DBF "witness":=by decide+kernel
def L3:DBF "worth":=by decide+kernel
def X7:DBF "worth_of":=by decide+kernel
def X8:("bool" : Str)≠"__name__":=by decide+kernel
def X9:("dict" : Str)≠"__name__":=by decide+kernel
def XA:("int" : Str)≠"__name__":=by decide+kernel
def L4:("isinstance" : Str)≠"__name__":=by decide+kernel
def Dr:("len" : Str)≠"__name__":=by decide+kernel
def L5:("list" : Str)≠"__name__":=by decide+kernel
def L6:("max" : Str)≠"__name__":=by decide+kernel
def L7:("min" : Str)≠"__name__":=by decide+kernel
def DB:("sorted" : Str)≠"__name__":=by decide+kernel
def Fs:("tuple" : Str)≠"__name__":=by decide+kernel
abbrev Ds:Stmt:=top 5
def XB:FnScope ["thing"] ["thing"] (defScope Ds):=⟨rfl,rfl,rfl,by decide+kernel,rfl,by decide+kernel,by decide+kernel⟩
def XD:GLF Ds "bool":=by decide+kernel
def XE:GLF Ds "int":=by decide+kernel
def Pn:GLF Ds "isinstance":=by decide+kernel
def Po:VE Ds "thing":=ve1 (by decide+kernel)
abbrev Du:Stmt:=top 6
def XF:FnScope ["thing","low","high"] ["thing","low","high"] (defScope Du):=⟨rfl,rfl,rfl,by decide+kernel,rfl,by decide+kernel,by decide+kernel⟩
def XG:GLF Du "is_whole":=by decide+kernel
def XH:VE Du "high":=ve1 (by decide+kernel)
def XI:VE Du "low":=ve1 (by decide+kernel)
def L8:VE Du "thing":=ve1 (by decide+kernel)
abbrev DC:Stmt:=top 7
def XJ:FnScope ["thing","many"] ["thing","many"] (defScope DC):=⟨rfl,rfl,rfl,by decide+kernel,rfl,by decide+kernel,by decide+kernel⟩
def XL:GLF DC "isinstance":=by decide+kernel
def XM:GLF DC "len":=by decide+kernel
def XN:GLF DC "tuple":=by decide+kernel
def XO:VE DC "many":=ve1 (by decide+kernel)
def Pp:VE DC "thing":=ve1 (by decide+kernel)
abbrev Br:Stmt:=top 9
def XQ:FnScope ["program","worths"] ["program","worths"] (defScope Br):=⟨rfl,rfl,rfl,by decide+kernel,rfl,by decide+kernel,by decide+kernel⟩
def XR:GLF Br "run_by":=by decide+kernel
def XS:VE Br "program":=ve1 (by decide+kernel)
def XT:VE Br "worths":=ve1 (by decide+kernel)
abbrev BJ:Stmt:=top 10
def sc_traced:FnScope ["program","worths","rows"] ["program","worths"] (defScope BJ):=⟨rfl,rfl,rfl,by decide+kernel,rfl,by decide+kernel,by decide+kernel⟩
def XU:(defScope BJ).names.lookup ("rows" : Str)=some NameKind.cell:=by decide+kernel
def XV:GLF BJ "run_by":=by decide+kernel
def XW:Loc (defScope BJ) "rows":=Or.inr (by decide+kernel)
def XX:VE BJ "program":=ve1 (by decide+kernel)
def XY:VE BJ "rows":=ve2 (by decide+kernel)
def XZ:VE BJ "worths":=ve1 (by decide+kernel)
abbrev Bk:Stmt:=top 11
def sc_run_by:FnScope ["program","worths","settle","names","refusal"] ["program","worths","settle"] (defScope Bk):=⟨rfl,rfl,rfl,by decide+kernel,rfl,by decide+kernel,by decide+kernel⟩
def Xa:GLF Bk "do_block":=by decide+kernel
def Xb:GLF Bk "names_at_first":=by decide+kernel
def Xc:GLF Bk "sorted":=by decide+kernel
def Xd:GLF Bk "tuple":=by decide+kernel
def Xe:Loc (defScope Bk) "names":=Or.inl (by decide+kernel)
def Xf:Loc (defScope Bk) "refusal":=Or.inl (by decide+kernel)
def Pq:VE Bk "names":=ve1 (by decide+kernel)
def Ps:VE Bk "program":=ve1 (by decide+kernel)
def Pt:VE Bk "refusal":=ve1 (by decide+kernel)
def Xg:VE Bk "settle":=ve1 (by decide+kernel)
def Xh:VE Bk "worths":=ve1 (by decide+kernel)
abbrev Dv:Stmt:=top 12
def Xi:FnScope ["worth","path","rows"] ["worth","path","rows"] (defScope Dv):=⟨rfl,rfl,rfl,by decide+kernel,rfl,by decide+kernel,by decide+kernel⟩
def Pu:GLF Dv "WIDE":=by decide+kernel
def L9:VE Dv "path":=ve1 (by decide+kernel)
def Xj:VE Dv "rows":=ve1 (by decide+kernel)
def Ft:VE Dv "worth":=ve1 (by decide+kernel)
abbrev Bc:Stmt:=top 13
def sc_names_at_first:FnScope ["ins","worths","names","row","worth"] ["ins","worths"] (defScope Bc):=⟨rfl,rfl,rfl,by decide+kernel,rfl,by decide+kernel,by decide+kernel⟩
def Xk:GLF Bc "is_tuple_of":=by decide+kernel
def Xl:GLF Bc "is_whole_from":=by decide+kernel
def Xm:GLF Bc "len":=by decide+kernel
def Xn:GLF Bc "zip":=by decide+kernel
def Xo:Loc (defScope Bc) "names":=Or.inl (by decide+kernel)
def Xp:Loc (defScope Bc) "row":=Or.inl (by decide+kernel)
def Xq:Loc (defScope Bc) "worth":=Or.inl (by decide+kernel)
def Pw:VE Bc "ins":=ve1 (by decide+kernel)
def Px:VE Bc "names":=ve1 (by decide+kernel)
def LA:VE Bc "row":=ve1 (by decide+kernel)
def Py:VE Bc "worth":=ve1 (by decide+kernel)
def Pz:VE Bc "worths":=ve1 (by decide+kernel)
abbrev BS:Stmt:=top 14
def sc_do_block:FnScope ["block","path","names","settle","at","deed","refusal"] ["block","path","names","settle"] (defScope BS):=⟨rfl,rfl,rfl,by decide+kernel,rfl,by decide+kernel,by decide+kernel⟩
def Xr:GLF BS "do_deed":=by decide+kernel
def Xs:GLF BS "enumerate":=by decide+kernel
def Xt:Loc (defScope BS) "at":=Or.inl (by decide+kernel)
def Xu:Loc (defScope BS) "deed":=Or.inl (by decide+kernel)
def Xv:Loc (defScope BS) "refusal":=Or.inl (by decide+kernel)
def Xw:VE BS "at":=ve1 (by decide+kernel)
def Xx:VE BS "block":=ve1 (by decide+kernel)
def Xy:VE BS "deed":=ve1 (by decide+kernel)
def Xz:VE BS "names":=ve1 (by decide+kernel)
def Y0:VE BS "path":=ve1 (by decide+kernel)
def Q0:VE BS "refusal":=ve1 (by decide+kernel)
def Y5:VE BS "settle":=ve1 (by decide+kernel)
abbrev CD:Stmt:=top 15
def Y6:FnScope ["deed","path","names","settle"] ["deed","path","names","settle"] (defScope CD):=⟨rfl,rfl,rfl,by decide+kernel,rfl,by decide+kernel,by decide+kernel⟩
def Y7:GLF CD "do_if":=by decide+kernel
def Y8:GLF CD "do_set":=by decide+kernel
def Y9:GLF CD "do_while":=by decide+kernel
def Fu:VE CD "deed":=ve1 (by decide+kernel)
def LB:VE CD "names":=ve1 (by decide+kernel)
def LC:VE CD "path":=ve1 (by decide+kernel)
def LD:VE CD "settle":=ve1 (by decide+kernel)
abbrev CF:Stmt:=top 16
def sc_do_set:FnScope ["deed","path","names","settle","had"] ["deed","path","names","settle"] (defScope CF):=⟨rfl,rfl,rfl,by decide+kernel,rfl,by decide+kernel,by decide+kernel⟩
def YA:GLF CF "reckon":=by decide+kernel
def YB:Loc (defScope CF) "had":=Or.inl (by decide+kernel)
def Q1:VE CF "deed":=ve1 (by decide+kernel)
def LE:VE CF "had":=ve1 (by decide+kernel)
def Q2:VE CF "names":=ve1 (by decide+kernel)
def YC:VE CF "path":=ve1 (by decide+kernel)
def YD:VE CF "settle":=ve1 (by decide+kernel)
abbrev C3:Stmt:=top 17
def sc_do_if:FnScope ["deed","path","names","settle","had"] ["deed","path","names","settle"] (defScope C3):=⟨rfl,rfl,rfl,by decide+kernel,rfl,by decide+kernel,by decide+kernel⟩
def Q3:GLF C3 "do_block":=by decide+kernel
def YE:GLF C3 "reckon":=by decide+kernel
def YF:Loc (defScope C3) "had":=Or.inl (by decide+kernel)
def LF:VE C3 "deed":=ve1 (by decide+kernel)
def LG:VE C3 "had":=ve1 (by decide+kernel)
def LH:VE C3 "names":=ve1 (by decide+kernel)
def LI:VE C3 "path":=ve1 (by decide+kernel)
def LJ:VE C3 "settle":=ve1 (by decide+kernel)
abbrev BT:Stmt:=top 18
def sc_do_while:FnScope ["deed","path","names","settle","done","had","refusal"] ["deed","path","names","settle"] (defScope BT):=⟨rfl,rfl,rfl,by decide+kernel,rfl,by decide+kernel,by decide+kernel⟩
def YG:GLF BT "do_block":=by decide+kernel
def YH:GLF BT "reckon":=by decide+kernel
def Q4:Loc (defScope BT) "done":=Or.inl (by decide+kernel)
def YI:Loc (defScope BT) "had":=Or.inl (by decide+kernel)
def YJ:Loc (defScope BT) "refusal":=Or.inl (by decide+kernel)
def LK:VE BT "deed":=ve1 (by decide+kernel)
def Q5:VE BT "done":=ve1 (by decide+kernel)
def LL:VE BT "had":=ve1 (by decide+kernel)
def Q6:VE BT "names":=ve1 (by decide+kernel)
def LM:VE BT "path":=ve1 (by decide+kernel)
def Q7:VE BT "refusal":=ve1 (by decide+kernel)
def Q8:VE BT "settle":=ve1 (by decide+kernel)
abbrev Bd:Stmt:=top 19
def sc_reckon:FnScope ["term","path","names","settle","one","other"] ["term","path","names","settle"] (defScope Bd):=⟨rfl,rfl,rfl,by decide+kernel,rfl,by decide+kernel,by decide+kernel⟩
def Q9:GLF Bd "reckon":=by decide+kernel
def YK:GLF Bd "worth_of":=by decide+kernel
def YL:Loc (defScope Bd) "one":=Or.inl (by decide+kernel)
def YM:Loc (defScope Bd) "other":=Or.inl (by decide+kernel)
def LN:VE Bd "names":=ve1 (by decide+kernel)
def LO:VE Bd "one":=ve1 (by decide+kernel)
def IP:VE Bd "other":=ve1 (by decide+kernel)
def Ei:VE Bd "path":=ve1 (by decide+kernel)
def IQ:Vis (defScope Bd) "settle":=Or.inl (by decide+kernel)
def QA:VE Bd "settle":=ve1 (by decide+kernel)
def DD:VE Bd "term":=ve1 (by decide+kernel)
abbrev DE:Stmt:=top 20
def YN:FnScope ["word","one","other"] ["word","one","other"] (defScope DE):=⟨rfl,rfl,rfl,by decide+kernel,rfl,by decide+kernel,by decide+kernel⟩
def YO:GLF DE "max":=by decide+kernel
def YQ:GLF DE "min":=by decide+kernel
def DF:VE DE "one":=ve1 (by decide+kernel)
def DG:VE DE "other":=ve1 (by decide+kernel)
def Dw:VE DE "word":=ve1 (by decide+kernel)
abbrev Dx:Stmt:=top 22
def YR:FnScope ["one","other"] ["one","other"] (defScope Dx):=⟨rfl,rfl,rfl,by decide+kernel,rfl,by decide+kernel,by decide+kernel⟩
def YS:GLF Dx "max":=by decide+kernel
def YT:GLF Dx "min":=by decide+kernel
def IR:VE Dx "one":=ve1 (by decide+kernel)
def IS:VE Dx "other":=ve1 (by decide+kernel)
abbrev Be:Stmt:=top 24
def sc_all_worths:FnScope ["program","begun","name","low","high","longer","row"] ["program"] (defScope Be):=⟨rfl,rfl,rfl,by decide+kernel,rfl,by decide+kernel,by decide+kernel⟩
def YU:GLF Be "range":=by decide+kernel
def QB:Loc (defScope Be) "begun":=Or.inl (by decide+kernel)
def YV:Loc (defScope Be) "high":=Or.inl (by decide+kernel)
def YW:Loc (defScope Be) "longer":=Or.inl (by decide+kernel)
def YX:Loc (defScope Be) "low":=Or.inl (by decide+kernel)
def YY:Loc (defScope Be) "name":=Or.inl (by decide+kernel)
def YZ:Loc (defScope Be) "row":=Or.inr (by decide+kernel)
def QC:VE Be "begun":=ve1 (by decide+kernel)
def Ya:VE Be "high":=ve1 (by decide+kernel)
def QD:VE Be "longer":=ve1 (by decide+kernel)
def Yb:VE Be "low":=ve1 (by decide+kernel)
def Yc:VE Be "program":=ve1 (by decide+kernel)
abbrev BU:Stmt:=top 25
def sc_exact:FnScope ["program","had","worths","path","worth"] ["program"] (defScope BU):=⟨rfl,rfl,rfl,by decide+kernel,rfl,by decide+kernel,by decide+kernel⟩
def Yd:GLF BU "all_worths":=by decide+kernel
def Ye:GLF BU "joined":=by decide+kernel
def Yf:GLF BU "sorted":=by decide+kernel
def Yg:GLF BU "traced":=by decide+kernel
def Yh:Loc (defScope BU) "had":=Or.inr (by decide+kernel)
def Yi:Loc (defScope BU) "path":=Or.inl (by decide+kernel)
def Yj:Loc (defScope BU) "worth":=Or.inl (by decide+kernel)
def Yk:Loc (defScope BU) "worths":=Or.inl (by decide+kernel)
def LP:VE BU "had":=ve2 (by decide+kernel)
def QE:VE BU "path":=ve1 (by decide+kernel)
def QF:VE BU "program":=ve1 (by decide+kernel)
def QG:VE BU "worth":=ve1 (by decide+kernel)
def Yl:VE BU "worths":=ve1 (by decide+kernel)
abbrev Ej:Stmt:=top 26
def Ym:FnScope ["program"] ["program"] (defScope Ej):=⟨rfl,rfl,rfl,by decide+kernel,rfl,by decide+kernel,by decide+kernel⟩
def Yn:GLF Ej "sorted":=by decide+kernel
def Yo:GLF Ej "ways_refused":=by decide+kernel
def Yp:VE Ej "program":=ve1 (by decide+kernel)
abbrev C4:Stmt:=top 27
def sc_ways_refused:FnScope ["program","found","worths","told"] ["program"] (defScope C4):=⟨rfl,rfl,rfl,by decide+kernel,rfl,by decide+kernel,by decide+kernel⟩
def Yq:GLF C4 "all_worths":=by decide+kernel
def Yr:GLF C4 "run":=by decide+kernel
def Ys:Loc (defScope C4) "found":=Or.inl (by decide+kernel)
def Yt:Loc (defScope C4) "told":=Or.inl (by decide+kernel)
def Yu:Loc (defScope C4) "worths":=Or.inl (by decide+kernel)
def QH:VE C4 "found":=ve1 (by decide+kernel)
def QI:VE C4 "program":=ve1 (by decide+kernel)
def QJ:VE C4 "told":=ve1 (by decide+kernel)
def Yv:VE C4 "worths":=ve1 (by decide+kernel)
abbrev CT:Stmt:=top 28
def sc_witness:FnScope ["program","word","path","worths"] ["program","word","path"] (defScope CT):=⟨rfl,rfl,rfl,by decide+kernel,rfl,by decide+kernel,by decide+kernel⟩
def Yw:GLF CT "all_worths":=by decide+kernel
def Yx:GLF CT "run":=by decide+kernel
def Yy:Loc (defScope CT) "worths":=Or.inl (by decide+kernel)
def Yz:VE CT "path":=ve1 (by decide+kernel)
def QK:VE CT "program":=ve1 (by decide+kernel)
def Z0:VE CT "word":=ve1 (by decide+kernel)
def QL:VE CT "worths":=ve1 (by decide+kernel)
abbrev Ek:Stmt:=top 30
def Z5:FnScope ["_law_script","_law_k"] ["_law_script","_law_k"] (defScope Ek):=⟨rfl,rfl,rfl,by decide+kernel,rfl,by decide+kernel,by decide+kernel⟩
def QM:GLF Ek "len":=by decide+kernel
def IT:VE Ek "_law_k":=ve1 (by decide+kernel)
def Fv:VE Ek "_law_script":=ve1 (by decide+kernel)
abbrev Cg:Stmt:=top 31
def sc_law_pick:FnScope ["_law_script","_law_k","_law_many","_law_drawn"] ["_law_script","_law_k","_law_many"] (defScope Cg):=⟨rfl,rfl,rfl,by decide+kernel,rfl,by decide+kernel,by decide+kernel⟩
def Z6:GLF Cg "_law_cell":=by decide+kernel
def Z7:Loc (defScope Cg) "_law_drawn":=Or.inl (by decide+kernel)
def LQ:VE Cg "_law_drawn":=ve1 (by decide+kernel)
def QN:VE Cg "_law_k":=ve1 (by decide+kernel)
def Z8:VE Cg "_law_many":=ve1 (by decide+kernel)
def Z9:VE Cg "_law_script":=ve1 (by decide+kernel)
abbrev BK:Stmt:=top 32
def sc_law_sum:FnScope ["_law_script","_law_at","_law_known","_law_deep","_law_way","_law_words","_law_one"] ["_law_script","_law_at","_law_known","_law_deep"] (defScope BK):=⟨rfl,rfl,rfl,by decide+kernel,rfl,by decide+kernel,by decide+kernel⟩
def Fw:GLF BK "_law_pick":=by decide+kernel
def QO:GLF BK "_law_sum":=by decide+kernel
def ZA:GLF BK "len":=by decide+kernel
def ZB:Loc (defScope BK) "_law_one":=Or.inl (by decide+kernel)
def ZC:Loc (defScope BK) "_law_way":=Or.inl (by decide+kernel)
def ZD:Loc (defScope BK) "_law_words":=Or.inl (by decide+kernel)
def Dy:VE BK "_law_at":=ve1 (by decide+kernel)
def LR:VE BK "_law_deep":=ve1 (by decide+kernel)
def Fx:VE BK "_law_known":=ve1 (by decide+kernel)
def ZE:VE BK "_law_one":=ve1 (by decide+kernel)
def Dz:VE BK "_law_script":=ve1 (by decide+kernel)
def ZF:VE BK "_law_way":=ve1 (by decide+kernel)
def ZG:VE BK "_law_words":=ve1 (by decide+kernel)
abbrev BC:Stmt:=top 33
def sc_law_counted:FnScope ["_law_script","_law_at","_law_known","_law_body","_law_deep","_law_most","_law_name","_law_goal","_law_more"] ["_law_script","_law_at","_law_known","_law_body","_law_deep"] (defScope BC):=⟨rfl,rfl,rfl,by decide+kernel,rfl,by decide+kernel,by decide+kernel⟩
def Fy:GLF BC "_law_pick":=by decide+kernel
def ZH:GLF BC "_law_sum":=by decide+kernel
def ZI:GLF BC "len":=by decide+kernel
def ZJ:Loc (defScope BC) "_law_goal":=Or.inl (by decide+kernel)
def ZK:Loc (defScope BC) "_law_more":=Or.inl (by decide+kernel)
def QP:Loc (defScope BC) "_law_most":=Or.inl (by decide+kernel)
def ZL:Loc (defScope BC) "_law_name":=Or.inl (by decide+kernel)
def El:VE BC "_law_at":=ve1 (by decide+kernel)
def QQ:VE BC "_law_body":=ve1 (by decide+kernel)
def ZM:VE BC "_law_deep":=ve1 (by decide+kernel)
def ZN:VE BC "_law_goal":=ve1 (by decide+kernel)
def LS:VE BC "_law_known":=ve1 (by decide+kernel)
def ZO:VE BC "_law_more":=ve1 (by decide+kernel)
def LT:VE BC "_law_most":=ve1 (by decide+kernel)
def LU:VE BC "_law_name":=ve1 (by decide+kernel)
def Em:VE BC "_law_script":=ve1 (by decide+kernel)
abbrev Ac:Stmt:=top 34
def sc_law_block:FnScope ["_law_script","_law_at","_law_known","_law_deep","_law_deeds","_law_k","_law_base","_law_way","_law_name","_law_first","_law_mine","_law_second","_law_yours","_law_body"] ["_law_script","_law_at","_law_known","_law_deep"] (defScope Ac):=⟨rfl,rfl,rfl,by decide+kernel,rfl,by decide+kernel,by decide+kernel⟩
def ZP:(defScope Ac).names.lookup ("_law_known" : Str)=some NameKind.cell:=by decide+kernel
def LV:GLF Ac "_law_block":=by decide+kernel
def ZQ:GLF Ac "_law_counted":=by decide+kernel
def LW:GLF Ac "_law_pick":=by decide+kernel
def QR:GLF Ac "_law_sum":=by decide+kernel
def ZR:GLF Ac "range":=by decide+kernel
def ZS:GLF Ac "tuple":=by decide+kernel
def ZT:Loc (defScope Ac) "_law_base":=Or.inl (by decide+kernel)
def ZU:Loc (defScope Ac) "_law_body":=Or.inl (by decide+kernel)
def ZV:Loc (defScope Ac) "_law_deeds":=Or.inl (by decide+kernel)
def ZW:Loc (defScope Ac) "_law_first":=Or.inl (by decide+kernel)
def ZX:Loc (defScope Ac) "_law_k":=Or.inl (by decide+kernel)
def QS:Loc (defScope Ac) "_law_known":=Or.inr (by decide+kernel)
def ZY:Loc (defScope Ac) "_law_mine":=Or.inl (by decide+kernel)
def ZZ:Loc (defScope Ac) "_law_name":=Or.inl (by decide+kernel)
def Za:Loc (defScope Ac) "_law_second":=Or.inl (by decide+kernel)
def Zb:Loc (defScope Ac) "_law_way":=Or.inl (by decide+kernel)
def Zc:Loc (defScope Ac) "_law_yours":=Or.inr (by decide+kernel)
def QT:VE Ac "_law_at":=ve1 (by decide+kernel)
def DH:VE Ac "_law_base":=ve1 (by decide+kernel)
def Zd:VE Ac "_law_body":=ve1 (by decide+kernel)
def IU:VE Ac "_law_deeds":=ve1 (by decide+kernel)
def En:VE Ac "_law_deep":=ve1 (by decide+kernel)
def Ze:VE Ac "_law_first":=ve1 (by decide+kernel)
def Zf:VE Ac "_law_k":=ve1 (by decide+kernel)
def Ch:VE Ac "_law_known":=ve2 (by decide+kernel)
def Zg:VE Ac "_law_mine":=ve1 (by decide+kernel)
def QU:VE Ac "_law_name":=ve1 (by decide+kernel)
def Ci:VE Ac "_law_script":=ve1 (by decide+kernel)
def Zh:VE Ac "_law_second":=ve1 (by decide+kernel)
def QV:VE Ac "_law_way":=ve1 (by decide+kernel)
abbrev Bf:Stmt:=top 35
def sc_law_program:FnScope ["_law_script","_law_at","_law_ins","_law_k","_law_low"] ["_law_script","_law_at"] (defScope Bf):=⟨rfl,rfl,rfl,by decide+kernel,rfl,by decide+kernel,by decide+kernel⟩
def Zi:GLF Bf "_law_block":=by decide+kernel
def LX:GLF Bf "_law_pick":=by decide+kernel
def Zj:GLF Bf "range":=by decide+kernel
def Zk:GLF Bf "tuple":=by decide+kernel
def Zl:Loc (defScope Bf) "_law_ins":=Or.inl (by decide+kernel)
def Zm:Loc (defScope Bf) "_law_k":=Or.inl (by decide+kernel)
def Zn:Loc (defScope Bf) "_law_low":=Or.inl (by decide+kernel)
def IV:VE Bf "_law_at":=ve1 (by decide+kernel)
def LY:VE Bf "_law_ins":=ve1 (by decide+kernel)
def LZ:VE Bf "_law_k":=ve1 (by decide+kernel)
def QW:VE Bf "_law_low":=ve1 (by decide+kernel)
def IW:VE Bf "_law_script":=ve1 (by decide+kernel)
abbrev Bg:Stmt:=top 36
def sc_law_all_worths:FnScope ["_law_program_here","_law_made","_law_name","_law_low","_law_high","_law_longer","_law_worths"] ["_law_program_here"] (defScope Bg):=⟨rfl,rfl,rfl,by decide+kernel,rfl,by decide+kernel,by decide+kernel⟩
def Zo:GLF Bg "range":=by decide+kernel
def Zp:Loc (defScope Bg) "_law_high":=Or.inl (by decide+kernel)
def Zq:Loc (defScope Bg) "_law_longer":=Or.inl (by decide+kernel)
def Zr:Loc (defScope Bg) "_law_low":=Or.inl (by decide+kernel)
def QX:Loc (defScope Bg) "_law_made":=Or.inl (by decide+kernel)
def Zs:Loc (defScope Bg) "_law_name":=Or.inl (by decide+kernel)
def Zt:Loc (defScope Bg) "_law_worths":=Or.inr (by decide+kernel)
def Zu:VE Bg "_law_high":=ve1 (by decide+kernel)
def QY:VE Bg "_law_longer":=ve1 (by decide+kernel)
def Zv:VE Bg "_law_low":=ve1 (by decide+kernel)
def QZ:VE Bg "_law_made":=ve1 (by decide+kernel)
def Zw:VE Bg "_law_program_here":=ve1 (by decide+kernel)
abbrev E1:Stmt:=top 37
def Zx:FnScope ["_law_word","_law_one","_law_other"] ["_law_word","_law_one","_law_other"] (defScope E1):=⟨rfl,rfl,rfl,by decide+kernel,rfl,by decide+kernel,by decide+kernel⟩
def Zy:GLF E1 "sorted":=by decide+kernel
def E2:VE E1 "_law_one":=ve1 (by decide+kernel)
def E3:VE E1 "_law_other":=ve1 (by decide+kernel)
def E4:VE E1 "_law_word":=ve1 (by decide+kernel)
abbrev Aw:Stmt:=top 38
def sc_law_worth:FnScope ["_law_expr","_law_path","_law_state","_law_book","_law_seen","_law_faults","_law_worth_here","_law_pair","_law_k"] ["_law_expr","_law_path","_law_state"] (defScope Aw):=⟨rfl,rfl,rfl,by decide+kernel,rfl,by decide+kernel,by decide+kernel⟩
def Zz:GLF Aw "_law_reckoned":=by decide+kernel
def a7:GLF Aw "_law_worth":=by decide+kernel
def a9:GLF Aw "range":=by decide+kernel
def aA:Loc (defScope Aw) "_law_book":=Or.inl (by decide+kernel)
def aB:Loc (defScope Aw) "_law_faults":=Or.inl (by decide+kernel)
def aC:Loc (defScope Aw) "_law_k":=Or.inl (by decide+kernel)
def aD:Loc (defScope Aw) "_law_pair":=Or.inl (by decide+kernel)
def aE:Loc (defScope Aw) "_law_seen":=Or.inl (by decide+kernel)
def Qa:Loc (defScope Aw) "_law_worth_here":=Or.inl (by decide+kernel)
def aF:VE Aw "_law_book":=ve1 (by decide+kernel)
def E5:VE Aw "_law_expr":=ve1 (by decide+kernel)
def IX:VE Aw "_law_faults":=ve1 (by decide+kernel)
def Qb:VE Aw "_law_k":=ve1 (by decide+kernel)
def IY:VE Aw "_law_pair":=ve1 (by decide+kernel)
def IZ:VE Aw "_law_path":=ve1 (by decide+kernel)
def aG:VE Aw "_law_seen":=ve1 (by decide+kernel)
def Qc:VE Aw "_law_state":=ve1 (by decide+kernel)
def La:VE Aw "_law_worth_here":=ve1 (by decide+kernel)
abbrev Ap:Stmt:=top 39
def sc_law_do:FnScope ["_law_block_here","_law_path","_law_state","_law_book","_law_seen","_law_faults","_law_number","_law_deed","_law_here","_law_worth_here","_law_many"] ["_law_block_here","_law_path","_law_state"] (defScope Ap):=⟨rfl,rfl,rfl,by decide+kernel,rfl,by decide+kernel,by decide+kernel⟩
def Qd:GLF Ap "_law_do":=by decide+kernel
def Qf:GLF Ap "_law_worth":=by decide+kernel
def aH:GLF Ap "enumerate":=by decide+kernel
def aI:Loc (defScope Ap) "_law_book":=Or.inl (by decide+kernel)
def aJ:Loc (defScope Ap) "_law_deed":=Or.inl (by decide+kernel)
def aK:Loc (defScope Ap) "_law_faults":=Or.inl (by decide+kernel)
def aL:Loc (defScope Ap) "_law_here":=Or.inl (by decide+kernel)
def Qg:Loc (defScope Ap) "_law_many":=Or.inl (by decide+kernel)
def aM:Loc (defScope Ap) "_law_number":=Or.inl (by decide+kernel)
def aN:Loc (defScope Ap) "_law_seen":=Or.inl (by decide+kernel)
def Qh:Loc (defScope Ap) "_law_worth_here":=Or.inl (by decide+kernel)
def aO:VE Ap "_law_block_here":=ve1 (by decide+kernel)
def aP:VE Ap "_law_book":=ve1 (by decide+kernel)
def C5:VE Ap "_law_deed":=ve1 (by decide+kernel)
def Eo:VE Ap "_law_faults":=ve1 (by decide+kernel)
def Fz:VE Ap "_law_here":=ve1 (by decide+kernel)
def Qi:VE Ap "_law_many":=ve1 (by decide+kernel)
def aQ:VE Ap "_law_number":=ve1 (by decide+kernel)
def aR:VE Ap "_law_path":=ve1 (by decide+kernel)
def GA:VE Ap "_law_state":=ve1 (by decide+kernel)
def Ia:VE Ap "_law_worth_here":=ve1 (by decide+kernel)
abbrev Bs:Stmt:=top 40
def sc_law_run:FnScope ["_law_program_here","_law_worths","_law_state"] ["_law_program_here","_law_worths"] (defScope Bs):=⟨rfl,rfl,rfl,by decide+kernel,rfl,by decide+kernel,by decide+kernel⟩
def aS:GLF Bs "_law_do":=by decide+kernel
def aU:GLF Bs "dict":=by decide+kernel
def aV:GLF Bs "list":=by decide+kernel
def aW:GLF Bs "sorted":=by decide+kernel
def aX:GLF Bs "tuple":=by decide+kernel
def aY:GLF Bs "zip":=by decide+kernel
def aZ:Loc (defScope Bs) "_law_state":=Or.inr (by decide+kernel)
def Qj:VE Bs "_law_program_here":=ve1 (by decide+kernel)
def Ep:VE Bs "_law_state":=ve2 (by decide+kernel)
def aa:VE Bs "_law_worths":=ve1 (by decide+kernel)
abbrev E6:Stmt:=top 41
def ae:FnScope ["_law_expr","_law_path"] ["_law_expr","_law_path"] (defScope E6):=⟨rfl,rfl,rfl,by decide+kernel,rfl,by decide+kernel,by decide+kernel⟩
def Qk:GLF E6 "_law_sum_spots":=by decide+kernel
def GE:VE E6 "_law_expr":=ve1 (by decide+kernel)
def Ib:VE E6 "_law_path":=ve1 (by decide+kernel)
abbrev BL:Stmt:=top 42
def sc_law_spots:FnScope ["_law_block_here","_law_path","_law_made","_law_number","_law_deed","_law_here"] ["_law_block_here","_law_path"] (defScope BL):=⟨rfl,rfl,rfl,by decide+kernel,rfl,by decide+kernel,by decide+kernel⟩
def Lb:GLF BL "_law_spots":=by decide+kernel
def af:GLF BL "_law_sum_spots":=by decide+kernel
def ag:GLF BL "enumerate":=by decide+kernel
def aj:Loc (defScope BL) "_law_deed":=Or.inl (by decide+kernel)
def ak:Loc (defScope BL) "_law_here":=Or.inl (by decide+kernel)
def al:Loc (defScope BL) "_law_made":=Or.inl (by decide+kernel)
def am:Loc (defScope BL) "_law_number":=Or.inl (by decide+kernel)
def ao:VE BL "_law_block_here":=ve1 (by decide+kernel)
def DI:VE BL "_law_deed":=ve1 (by decide+kernel)
def Ic:VE BL "_law_here":=ve1 (by decide+kernel)
def Id:VE BL "_law_made":=ve1 (by decide+kernel)
def ap:VE BL "_law_number":=ve1 (by decide+kernel)
def aq:VE BL "_law_path":=ve1 (by decide+kernel)
abbrev AX:Stmt:=top 43
def sc_law:FnScope ["_law_script","_law_program_here","_law_every","_law_seen","_law_ways","_law_worths","_law_told","_law_rows","_law_path","_law_worth_here","_law_word","_law_paths"] ["_law_script"] (defScope AX):=⟨rfl,rfl,rfl,by decide+kernel,rfl,by decide+kernel,by decide+kernel⟩
def ar:GLF AX "_law_all_worths":=by decide+kernel
def Ql:GLF AX "_law_pick":=by decide+kernel
def au:GLF AX "_law_program":=by decide+kernel
def av:GLF AX "_law_run":=by decide+kernel
def ax:GLF AX "_law_spots":=by decide+kernel
def ay:GLF AX "all_worths":=by decide+kernel
def az:GLF AX "exact":=by decide+kernel
def b0:GLF AX "len":=by decide+kernel
def Qm:GLF AX "list":=by decide+kernel
def b9:GLF AX "refusals":=by decide+kernel
def Lc:GLF AX "sorted":=by decide+kernel
def Qn:GLF AX "witness":=by decide+kernel
def bA:Loc (defScope AX) "_law_every":=Or.inl (by decide+kernel)
def Ld:Loc (defScope AX) "_law_path":=Or.inl (by decide+kernel)
def bB:Loc (defScope AX) "_law_paths":=Or.inl (by decide+kernel)
def bC:Loc (defScope AX) "_law_program_here":=Or.inl (by decide+kernel)
def bD:Loc (defScope AX) "_law_rows":=Or.inl (by decide+kernel)
def bE:Loc (defScope AX) "_law_seen":=Or.inr (by decide+kernel)
def bF:Loc (defScope AX) "_law_told":=Or.inl (by decide+kernel)
def bG:Loc (defScope AX) "_law_ways":=Or.inl (by decide+kernel)
def Qo:Loc (defScope AX) "_law_word":=Or.inl (by decide+kernel)
def bH:Loc (defScope AX) "_law_worth_here":=Or.inl (by decide+kernel)
def bI:Loc (defScope AX) "_law_worths":=Or.inl (by decide+kernel)
def Ie:VE AX "_law_every":=ve1 (by decide+kernel)
def GF:VE AX "_law_path":=ve1 (by decide+kernel)
def Qp:VE AX "_law_paths":=ve1 (by decide+kernel)
def DJ:VE AX "_law_program_here":=ve1 (by decide+kernel)
def bJ:VE AX "_law_rows":=ve1 (by decide+kernel)
def Le:VE AX "_law_script":=ve1 (by decide+kernel)
def Qq:VE AX "_law_seen":=ve2 (by decide+kernel)
def Qr:VE AX "_law_told":=ve1 (by decide+kernel)
def GH:VE AX "_law_ways":=ve1 (by decide+kernel)
def Ig:VE AX "_law_word":=ve1 (by decide+kernel)
def bK:VE AX "_law_worth_here":=ve1 (by decide+kernel)
def Qs:VE AX "_law_worths":=ve1 (by decide+kernel)
abbrev Cj(J:It)(g:TG)(tb:TS)(D:Ends)(σ:St)(H:Hp):Prop:=∃W:Nat->Nat->St->Hp->Prop,(∃m,W 0 m σ H)/\∀i m σ H,W i m σ H->
 (J.stop i H/\D.nx σ H)\/(J.go i H/\∃N:St->Hp->Prop,(∀ q H',N q H'->∃B,B<m/\W (i+1) B q H')/\∀x H',J.yld i H x H'->g x σ H' fun z H2=>tb {D with nx:=N,ct:=N,bk:=D.nx} z H2)
theorem Lf:Bx (Gh K tl) g tb D σ H=tl σ H fun x H1=>isRf x fun a=>(∃xs,SqT K H1 a xs)/\Cj (Itt K a) g tb D σ H1:=rfl
theorem Lg:Bx (Gg K tl) g tb D σ H=tl σ H fun x H1=>isRf x fun a=>(∃xs,SqL K H1 a xs)/\Cj (Itl K a) g tb D σ H1:=rfl
theorem Lh:Bx (Mx ta) g tb D σ H=ta σ H fun vs H1=>∃j:Int,vs=[.int j]/\-(2^62)<=j/\j<2^62/\Cj (Itr 0 j.toNat) g tb D σ H1:=rfl
theorem Li:CN (Gh K tl) g tt te mp σ H Q=tl σ H fun x H1=>isRf x fun a=>(∃xs,SqT K H1 a xs)/\CA (Itt K a) g tt te Q (subσ mp σ) H1:=rfl
theorem Lj:CN (Gg K tl) g tt te mp σ H Q=tl σ H fun x H1=>isRf x fun a=>(∃xs,SqL K H1 a xs)/\CA (Itl K a) g tt te Q (subσ mp σ) H1:=rfl
theorem Lk:CN (UC tl) g tt te mp σ H Q=tl σ H fun x H1=>∃z,x=.str z/\CA (Its z) g tt te Q (subσ mp σ) H1:=rfl
inductive Wd where
 |add|sub|mul|quo|less|same|min|max
 deriving DecidableEq
noncomputable def Wd.str:Wd->Str
 |.add=>"add" | .sub=>"sub" | .mul=>"mul" | .quo=>"quo" | .less=>"less" | .same=>"same" | .min=>"min" | .max=>"max"
inductive T where
 |num (i:Int)|nm (x:Str)|op (w:Wd) (a b:T)
noncomputable def T.enc:T->Dm
 |.num i=>.tup [.str "num",.int i]
 |.nm x=>.tup [.str "name",.str x]
 |.op w a b=>.tup [.str w.str,a.enc,b.enc]
def T.ok(g:List Str):Nat->T->Prop
 |0,_=>False
 |_+1,.num i=>-32768<=i/\i<=32767
 |_+1,.nm x=>x∈g
 |n+1,.op _ a b=>T.ok g n a/\T.ok g n b
theorem T.ok.mono(hg:∀x∈g,x∈g'):∀{n m:Nat} {t:T},T.ok g n t->n<=m->T.ok g' m t
 |0,_,_,h,_=>h.elim
 |n+1,0,_,_,h=>absurd h (by lia)
 |n+1,m+1,.num i,h,_=>h
 |n+1,m+1,.nm x,h,_=>hg x h
 |n+1,m+1,.op w a b,h,hm=>⟨T.ok.mono hg h.1 (by lia),T.ok.mono hg h.2 (by lia)⟩
inductive D where
 |set (x:Str) (t:T)|ite (t:T) (b c:List D)|whl (t:T) (m:Int) (b:List D)
mutual
noncomputable def D.enc:D->Dm
 |.set x t=>.tup [.str "set",.str x,t.enc]
 |.ite t b c=>.tup [.str "if",t.enc,.tup (AU b),.tup (AU c)]
 |.whl t m b=>.tup [.str "while",t.enc,.int m,.tup (AU b)]
noncomputable def AU:List D->List Dm
 |[]=>[]
 |d::r=>d.enc::AU r
end
theorem GI:∀(b c:List D),AU (b++c)=AU b++AU c
 |[],c=>by simp[AU]
 |d::b,c=>by rw[y1e,AU,AU,GI b c,y1e]
theorem Er:∀b:List D,(AU b).length=b.length
 |[]=>by simp[AU]
 |d::b=>by rw[AU,yu,yu,Er b]
noncomputable def pool:List Str:=["a","b","c","dd"]
def okB:Nat->List D->Prop
 |0,_=>False
 |n+1,b=>b.length<=6/\∀d∈b,match d with
  |.set x t=>x∈pool/\t.ok pool 5
  |.ite t b c=>t.ok pool 5/\okB n b/\okB n c
  |.whl t m b=>t.ok pool 5/\0<=m/\m<=20/\okB n b
abbrev okD(n:Nat)(d:D):Prop:=match d with
 |.set x t=>x∈pool/\t.ok pool 5
 |.ite t b c=>t.ok pool 5/\okB n b/\okB n c
 |.whl t m b=>t.ok pool 5/\0<=m/\m<=20/\okB n b
noncomputable def T.knows(p:List Str):T->Bool
 |.num _=>true
 |.nm x=>p.contains x
 |.op _ a b=>a.knows p&&b.knows p
mutual
noncomputable def kbD(p:List Str):D->Option (List Str)
 |.set x t=>if t.knows p then some (p++[x]) else none
 |.ite t b c=>if t.knows p then(match kbB p b,kbB p c with|some q,some r=>some (q.filter fun x=>r.contains x)|_,_=>none) else none
 |.whl t _ b=>if t.knows p then(match kbB p b with|some _=>some p|none=>none) else none
noncomputable def kbB(p:List Str):List D->Option (List Str)
 |[]=>some p
 |d::r=>match kbD p d with
  |some q=>kbB q r
  |none=>none
end
theorem Qt(p:List Str):∀(b c:List D),kbB p (b++c)=match kbB p b with|some q=>kbB q c|none=>none
 |[],c=>by simp[kbB]
 |d::b,c=>by
  rw[y1e,kbB,kbB];cases kbD p d with
  |none=>rfl
  |some q=>exact Qt q b c
def Sub(g p:List Str):Prop:=∀x∈g,x∈p
theorem Sub.refl(g:List Str):Sub g g:=fun _ h=>h
theorem Sub.trans(h:Sub a b)(k:Sub b c):Sub a c:=fun x hx=>k x (h x hx)
theorem T.ok.knows(hg:Sub g p):∀{n:Nat} {t:T},T.ok g n t->t.knows p=true
 |0,_,h=>h.elim
 |n+1,.num i,_=>rfl
 |n+1,.nm x,h=>by simpa [T.knows] using hg x h
 |n+1,.op w a b,h=>by simp[T.knows,T.ok.knows hg h.1,T.ok.knows hg h.2]
def Knows(g:List Str)(b:List D)(g':List Str):Prop:=∀p,Sub g p->∃q,kbB p b=some q/\Sub g' q/\Sub p q
def KnowsD(g:List Str)(d:D)(g':List Str):Prop:=∀p,Sub g p->∃q,kbD p d=some q/\Sub g' q/\Sub p q
theorem Knows.nil(g:List Str):Knows g [] g:=fun p h=>⟨p,by simp[kbB],h,Sub.refl p⟩
theorem Knows.snoc(h:Knows g b g1)(k:KnowsD g1 d g2):Knows g (b++[d]) g2:=fun p J=>by
 obtain⟨q,e,G,F⟩:=h p J;obtain⟨r,e2,B,z⟩:=k q G;refine⟨r,?_,B,F.trans z⟩;rw[Qt,e];simp[kbB,e2]
theorem KnowsD.set(B:t.ok g n)(F:∀y∈g',y∈g\/y=x):KnowsD g (.set x t) g':=fun p q=>by
 refine⟨p++[x],by simp[kbD,B.knows q],fun y hy=>?_,fun y hy=>y0s _ hy⟩;rcases F y hy with z|z
 ·exact y0s _ (q y z)
 ·exact y08 _ (by simp[z])
theorem KnowsD.ite(O:t.ok g n)(hb:Knows g b m)(hc:Knows g c y)(B:∀x∈g',x∈m/\x∈y):KnowsD g (.ite t b c) g':=fun p z=>by
 obtain⟨q,e,M,J⟩:=hb p z;obtain⟨r,e2,G,F⟩:=hc p z;refine⟨q.filter fun x=>r.contains x,by simp[kbD,O.knows z,e,e2],fun x hx=>?_,fun x hx=>?_⟩
 ·exact List.mem_filter.mpr ⟨M x (B x hx).1,by simpa using G x (B x hx).2⟩
 ·exact List.mem_filter.mpr ⟨J x hx,by simpa using F x hx⟩
theorem KnowsD.whl(B:t.ok g n)(hb:Knows g b g1):KnowsD g (.whl t m b) g:=fun p z=>by
 obtain⟨q,e,G,F⟩:=hb p z;exact⟨p,by simp[kbD,B.knows z,e],z,Sub.refl p⟩
theorem Knows.sub(h:Knows g b g1):Knows g b g:=fun p B=>by
 obtain⟨q,e,F,z⟩:=h p B;exact⟨q,e,B.trans z,z⟩
theorem Ll(B:0<=k)(h:k<(xs.length:Int)):∃v,xs[k.toNat]?=some v/\atI xs k=some v:=by
 have hk:k.toNat<xs.length:=by lia
 have z:k=((k.toNat:Nat):Int):=by lia
 refine⟨xs[k.toNat],yk hk,?_⟩;have q:atI xs ((k.toNat:Nat):Int)=some xs[k.toNat]:=AV (yk hk);rw[<- z] at q;exact q
theorem Ck{α:Type}{c:α->V}{ns:List α}{k:Int}(z:0<=k)(h:k<(ns.length:Int)):∃v∈ns,atI (ns.map c) k=some (c v):=by
 obtain⟨v,q,e2⟩:=Ll (xs:=ns.map c) z (by rw[y4]; exact h);rw[y0k] at q;cases e:ns[k.toNat]? with
 |none=>rw[e] at q; cases q
 |some i=>rw[e] at q; cases q; exact⟨i,yw e,e2⟩
theorem bL(ns:List Int):(ns.map V.int).all okV=true:=by simp[okV]
theorem Qu(h:Sub g pool):(g.map V.str).all okV=true:=by
 simp only[List.all_map,y3h];intro x hx;have:=h x hx;simp only[pool,y0f,y00,or_false] at this;rcases this with rfl|rfl|rfl|rfl<;>decide+kernel
theorem zl(n:Nat)(h:n<=1000):n<=ym:=y12 (BH h)
theorem GJ(h:SqL K H a xs):Js K (.ref a) H xs.length:=.inl ⟨a,xs,rfl,.inl h,rfl⟩
theorem bM(h:SqT K H a xs):Js K (.ref a) H xs.length:=.inl ⟨a,xs,rfl,.inr h,rfl⟩
theorem Qv(h:SqL K H a xs)(z:xs.all okV=true)(q:SqL K H p []):FU K (.ref a) (.ref p) H xs.isEmpty:=.inr (.inl ⟨a,p,xs,[],rfl,rfl,h,q,z,rfl,(Ni xs).symm⟩)
theorem Lm(CX:CXT)(P:yq)(w:y0h)(K:ya)(mg:Str->Option yg)(base:Heap)(N:List Str)(qual:Str)(scope:Scope)(f:Addr)(cd:yg)(A:y0n)(outer:List Env)(s:ye)(H:Hp)(E:XK):(BE CX P w K mg base N qual scope f cd A outer s H E).K=K:=rfl
theorem Ln(CX:CXT)(P:yq)(w:y0h)(K:ya)(mg:Str->Option yg)(base:Heap)(N:List Str)(qual:Str)(scope:Scope)(f:Addr)(cd:yg)(A:y0n)(outer:List Env)(s:ye)(H:Hp)(E:XK):(BE CX P w K mg base N qual scope f cd A outer s H E).nox.K=K:=rfl
theorem Lo(X:Cx)(q:List Str)(scope:Scope)(cl:List (Str×Addr))(C:Addr)(s₀:ye)(H₀:Hp)(ex:List Addr):(B5 X q scope cl C s₀ H₀ ex).K=X.K:=rfl
theorem Lp{K:ya}{ta:TA}{g:TG}{tb:TS}{D:Ends}{σ:St}{H:Hp}:Bx (UZ K ta) g tb D σ H=ta σ H fun vs H1=>∃a,vs=[.ref a]/\(∃xs,SqL K H1 a xs)/\Cj (Ite K a) g tb D σ H1:=rfl
theorem Lq{K:ya}{ta:TA}{g:TG}{tb:TS}{D:Ends}{σ:St}{H:Hp}:Bx (Ua K ta) g tb D σ H=ta σ H fun vs H1=>∃a b,vs=[.ref a,.ref b]/\(∃xs,SqL K H1 a xs)/\(∃ys,SqL K H1 b ys)/\Cj (Itz K a b) g tb D σ H1:=rfl
theorem Lr{ta:TA}{g:TG}{tb:TS}{D:Ends}{σ:St}{H:Hp}:Bx (Gi ta) g tb D σ H=ta σ H fun vs H1=>∃i j:Int,vs=[.int i,.int j]/\(-(2^62)<=i/\i<2^62/\-(2^62)<=j/\j<2^62)/\Cj (Itr i (j-i).toNat) g tb D σ H1:=rfl
theorem Ls:CN (Ud K tl) g tt te mp σ H Q=tl σ H fun x H1=>∃a,x=.ref a/\(((∃xs,SqL K H1 a xs)/\CA (Itl K a) g tt te Q (subσ mp σ) H1)\/((∃xs,SqT K H1 a xs)/\CA (Itt K a) g tt te Q (subσ mp σ) H1)):=rfl
theorem Lu(CX:CXT)(P:yq)(w:y0h)(K:ya)(mg:Str->Option yg)(base:Heap)(N:List Str)(qual:Str)(scope:Scope)(f:Addr)(cd:yg)(A:y0n)(outer:List Env)(s:ye)(H:Hp)(E:XK):(BE CX P w K mg base N qual scope f cd A outer s H E).prog=P:=rfl
theorem Lv(CX:CXT)(P:yq)(w:y0h)(K:ya)(mg:Str->Option yg)(base:Heap)(N:List Str)(qual:Str)(scope:Scope)(f:Addr)(cd:yg)(A:y0n)(outer:List Env)(s:ye)(H:Hp)(E:XK):(BE CX P w K mg base N qual scope f cd A outer s H E).w=w:=rfl
theorem Lw(CX:CXT)(P:yq)(w:y0h)(K:ya)(mg:Str->Option yg)(base:Heap)(N:List Str)(qual:Str)(scope:Scope)(f:Addr)(cd:yg)(A:y0n)(outer:List Env)(s:ye)(H:Hp)(E:XK):(BE CX P w K mg base N qual scope f cd A outer s H E).nox.prog=P:=rfl
theorem Lx(CX:CXT)(P:yq)(w:y0h)(K:ya)(mg:Str->Option yg)(base:Heap)(N:List Str)(qual:Str)(scope:Scope)(f:Addr)(cd:yg)(A:y0n)(outer:List Env)(s:ye)(H:Hp)(E:XK):(BE CX P w K mg base N qual scope f cd A outer s H E).nox.w=w:=rfl
theorem Ly(CX:CXT)(P:yq)(w:y0h)(K:ya)(mg:Str->Option yg)(base:Heap)(N:List Str)(qual:Str)(scope:Scope)(f:Addr)(cd:yg)(A:y0n)(outer:List Env)(s:ye)(H:Hp)(E:XK):(BE CX P w K mg base N qual scope f cd A outer s H E).mg=mg:=rfl
theorem Lz(CX:CXT)(P:yq)(w:y0h)(K:ya)(mg:Str->Option yg)(base:Heap)(N:List Str)(qual:Str)(scope:Scope)(f:Addr)(cd:yg)(A:y0n)(outer:List Env)(s:ye)(H:Hp)(E:XK):(BE CX P w K mg base N qual scope f cd A outer s H E).nox.mg=mg:=rfl
theorem M3(CX:CXT)(P:yq)(w:y0h)(K:ya)(mg:Str->Option yg)(base:Heap)(N:List Str)(qual:Str)(scope:Scope)(f:Addr)(cd:yg)(A:y0n)(outer:List Env)(s:ye)(H:Hp)(E:XK):(BE CX P w K mg base N qual scope f cd A outer s H E).base=base:=rfl
theorem M4(CX:CXT)(P:yq)(w:y0h)(K:ya)(mg:Str->Option yg)(base:Heap)(N:List Str)(qual:Str)(scope:Scope)(f:Addr)(cd:yg)(A:y0n)(outer:List Env)(s:ye)(H:Hp)(E:XK):(BE CX P w K mg base N qual scope f cd A outer s H E).nox.base=base:=rfl
theorem M5(X:Cx)(q:List Str)(scope:Scope)(cl:List (Str×Addr))(C:Addr)(s₀:ye)(H₀:Hp)(ex:List Addr):(B5 X q scope cl C s₀ H₀ ex).prog=X.prog:=rfl
theorem M6(X:Cx)(q:List Str)(scope:Scope)(cl:List (Str×Addr))(C:Addr)(s₀:ye)(H₀:Hp)(ex:List Addr):(B5 X q scope cl C s₀ H₀ ex).w=X.w:=rfl
theorem M7(X:Cx)(q:List Str)(scope:Scope)(cl:List (Str×Addr))(C:Addr)(s₀:ye)(H₀:Hp)(ex:List Addr):(B5 X q scope cl C s₀ H₀ ex).mg=X.mg:=rfl
theorem M8(X:Cx)(q:List Str)(scope:Scope)(cl:List (Str×Addr))(C:Addr)(s₀:ye)(H₀:Hp)(ex:List Addr):(B5 X q scope cl C s₀ H₀ ex).base=X.base:=rfl
theorem M9:CN (KE K ta) g tt te mp σ H Q=ta σ H fun vs H1=>∃a b,vs=[.ref a,.ref b]/\(∃xs,SqT K H1 a xs)/\(∃ys,SqT K H1 b ys)/\CA (D4 K a b) g tt te Q (subσ mp σ) H1:=rfl
def rdA:="JC JD Jd Je JF JG Jf Jg Jh Ji J1 GV J2"
def rdB:="J3 JA JB JE DV Ja Jb Jc JH JI JJ JK JL JM BX CZ D0 tOp B4 tC Ca B8 EO DZ FH FG JV FF Gb tCB Bq Bz Gu tUn rU rI0 rI EM tOr GW tB GY JR GZ tIf HN K9 Gq HV Ha HX HZ K7 FZ JU tSl Gx Gy Gz KB Hf Fa Hh Lp Lq Lr Ls Lu Lv Lw Lx Ly M3 Lz M4 M5 M6 M7 M8 M9 KC Jl tDX KG ES Db tBM qEq qNe qIn FV HI HJ Jt Ju HH HL HP HQ FW FX HM rIx FM CM FN HC Jm Jp Jq Jr HB FQ Gc JT FS Lf Lg Lh Li Lj Lk Lm Ln Lo Nat.reduceAdd Nat.reduceSub Nat.add_zero y41 y5i y2h y34 y3w y5e y4k y30 V.int.injEq V.ref.injEq V.str.injEq V.bl.injEq V.ty.injEq reduceCtorEq false_and and_false and_true true_and exists_false exists_const false_or or_false exists_eq_left exists_eq_left' exists_eq_right exists_eq_right' exists_and_left decide_eq_true_eq y1g y57 exists_eq true_or or_true y0e if_true if_false y5h y2j y55 decide_true decide_false y5l List.isEmpty_nil y2i y3e bne_self_eq_false beq_self_eq_true"
def rdS(a b:String):Lean.MacroM (Lean.TSyntax `tactic):=do
 let f:=fun(s:String)=>(s.splitOn " ").toArray.map fun n=>Lean.mkIdent n.toName
 let a<-(f a).mapM fun i=>`(Lean.Parser.Tactic.simpLemma|↓$i)
 let b<-(f b).mapM fun i=>`(Lean.Parser.Tactic.simpLemma|$i:term)
 `(tactic|simp only[$(a++b),*])
local macro_rules|`(tactic|walk_at "c")=>rdS rdA (rdB++" Uf Ug Hk C0")
section
variable{P:yq}{w:y0h}{K:ya}{mg:Str->Option yg}{base:Heap}{f:Addr}{fd:y2c}
def Qw(K:ya):Sp:=fun vs H Q _=>∃(a:Addr) (ns:List Int) (k:Int),vs=[.ref a,.int k]/\SqL K H a (ns.map V.int)/\0<=k/\∀(i:Int) (H':Hp),Same H H'->Q (.int i) H'
theorem bN(F:Fun K "_law_cell" "_law_cell" Ek f fd) (b_len:mg "len" = none):FnOk P w K mg base CX0 1 f fd ["_law_script","_law_k"] (Qw K):=by
 refine F.ok Z5 (fun vs H Q E h=>?_) (fun R A outer s H vs Q E hr h=>?_)
 ·obtain⟨a,ns,k,rfl,_⟩:=h;rfl
 obtain⟨a,ns,k,rfl,B,O,q⟩:=h;refine⟨_,(A6 (AK (AC Cz (A0 1 rfl IT) (Aq Dd QM b_len Dp (A1 (A0 0 rfl Fv) A2) Dr Dq) (AE _)) (A7 (AG (A9 ix_list (A0 0 rfl Fv) (A0 1 rfl IT) (fun _ _=>rfl)))) AL)
 (A6 (AK (AC (gEq hr.units) (A0 0 rfl Fv) (Ab A2) (AE _)) (A7 (AG A3)) AL)
 (A7 (AG (AA AY (AA By (A9 ix_list (A0 0 rfl Fv) (AA FK (A0 1 rfl IT) (Aq Dd QM b_len Dp (A1 (A0 0 rfl Fv) A2) Dr Dq)) (fun _ _=>rfl)) A3) (A0 1 rfl IT)))))),?_⟩
 walk_at "c";refine⟨_,GJ B,?_⟩;rw[y4];split
 ·rename_i hk;obtain⟨i,_,e⟩:=Ck (c:=V.int) O hk;exact⟨_,B,_,e,q i H (Same.refl _)⟩
 ·refine⟨yo _,fun p M=>?_⟩;have z:=A5 M (.lst []);refine⟨_,Qv (z.seq B) (bL ns) (SqL.of A4),?_⟩;split
  ·exact q 0 _ z
  ·rename_i G;have J:0<(ns.length:Int):=by
    cases ns with
    |nil=>exact absurd rfl G
    |cons a r=>simp only[yu]; lia
   obtain⟨i,_,e⟩:=Ck (c:=V.int) (ns:=ns) (k:=k % (ns.length:Int)) (Int.emod_nonneg _ (by lia)) (y5j _ J);exact⟨_,GJ (z.seq B),by rw[y4]; exact J,_,z.seq B,_,by rw[y4]; exact e,i,rfl,.inr ⟨by decide,by decide⟩,q _ _ z⟩
def Cl(K:ya):Sp:=fun vs H Q _=>∃(a:Addr) (ns:List Int) (k m:Int),vs=[.ref a,.int k,.int m]/\SqL K H a (ns.map V.int)/\0<=k/\0<m/\∀(i:Int) (H':Hp),0<=i->i<m->Same H H'->Q (.int i) H'
theorem bO(F:Fun K "_law_pick" "_law_pick" Cg f fd) (c_law_cell:Callee P w K mg base "_law_cell" ["_law_script","_law_k"] 1 (Qw K)):FnOk P w K mg base CX0 2 f fd ["_law_script","_law_k","_law_many"] (Cl K):=by
 refine F.ok sc_law_pick (fun vs H Q E h=>?_) (fun J A outer s H vs Q E hr h=>?_)
 ·obtain⟨a,ns,k,m,rfl,_⟩:=h;rfl
 obtain⟨a,ns,k,m,rfl,B,G,hm,q⟩:=h;refine⟨_,(A6 (AN (i:=3) sc_law_pick.nd rfl Z7 (AA FK (AA By (AA AY (AH c_law_cell hr (by lia) (A1 (A0 0 rfl Z9) (A1 (A0 1 rfl QN) A2)) Z6 Wf) (AA By A3 (AA AY (A0 1 rfl QN) A3))) A3) A3) (AF rfl))
 (A7 (AG (AA FK (AA FK (AA AY (AA By (A0 3 rfl LQ) (A0 3 rfl LQ)) (AA T9 (A0 3 rfl LQ) A3)) A3) (A0 2 rfl Z8))))),?_⟩
 walk_at "c";refine⟨a,ns,k,rfl,B,G,fun i H' z=>?_⟩;walk_at "c";refine⟨.inl ⟨by decide,by decide⟩,.inr ⟨by decide,by decide⟩,by decide,?_⟩;have M:0<=(i+6151*(k+1))*40692 % 2147483399:=Int.emod_nonneg _ (by decide);have e2:(i+6151*(k+1))*40692 % 2147483399<2147483399:=y5j _ (by decide);refine⟨.inl ⟨by lia,by lia⟩,⟨by decide,by decide⟩,by decide,hm,q _ _ (Int.emod_nonneg _ (by lia)) (y5j _ hm) z⟩
structure Df(K:ya)(mg:Str->Option yg)(x:Str)(st:Stmt)(ps:List Str)(f:Addr)(fd:y2c):Prop where
 F:Fun K x x st f fd
 m:mg x=some (.ref f)
 b:Binds K fd ps []
theorem Df.callee(d:Df K mg x st ps f fd)(h:FnOk P w K mg base CX0 k f fd ps sp):Callee P w K mg base x ps k sp:=⟨f,fd,h,d.m,d.F.kp,d.b⟩
theorem E7(x:Str):∀g:List Str,inV (.str x) (g.map V.str)=g.contains x
 |[]=>rfl
 |y::g=>by
  have q:=E7 x g;unfold inV at q |-;rw[yj,y24,q,List.contains_cons];have e:eqV (.str y) (.str x)=(x==y):=by
   show(y==x)=(x==y);rw[y3s,beq_iff_eq,beq_iff_eq];exact eq_comm
  rw[e]
theorem GK(g:List Str):(g.map V.str).all BF=true:=by simp[BF]
theorem CG(s:Same H H')(h:H p=none):Same H (upd H' p o):=fun b u q=>by rw[A8 (AS q h)]; exact s b u q
end
theorem Qx{K:ya}{ta:TA}{g:TG}{tb:TS}{D:Ends}{σ:St}{H:Hp}:Bx (KI K ta) g tb D σ H=ta σ H fun vs H1=>∃a,vs=[.ref a]/\(∃xs,SqT K H1 a xs)/\Cj (Dj K a) g tb D σ H1:=rfl
theorem Qy{K:ya}{ta:TA}{g:TG}{tb:TS}{D:Ends}{σ:St}{H:Hp}:Bx (KE K ta) g tb D σ H=ta σ H fun vs H1=>∃a b,vs=[.ref a,.ref b]/\(∃xs,SqT K H1 a xs)/\(∃ys,SqT K H1 b ys)/\Cj (D4 K a b) g tb D σ H1:=rfl
theorem Qz:CN (Gi ta) g tt te mp σ H Q=ta σ H fun vs H1=>∃i j:Int,vs=[.int i,.int j]/\(-(2^62)<=i/\i<2^62/\-(2^62)<=j/\j<2^62)/\CA (Itr i (j-i).toNat) g tt te Q (subσ mp σ) H1:=rfl
local macro_rules|`(tactic|walk_at "a")=>rdS rdA (rdB++" Qz KU Qy OM OE KR Ho OF OH Nv OG Qx Hk")
section
variable{P:yq}{w:y0h}{K:ya}{mg:Str->Option yg}{base:Heap}{f:Addr}{fd:y2c}
theorem MA{g:TG}{x:V}{σ:St}{H:Hp}{b:St->Hp->Prop}(h:∀N:St->Hp->Prop,N=b->g x σ H N):g x σ H b:=h _ rfl
theorem AB{a b:TS}{D:Ends}{σ:St}{H:Hp}(h:∀N:St->Hp->Prop,N=b D->a {D with nx:=N} σ H):BX a b D σ H:=h _ rfl
theorem CH{c:TT}{a b:TS}{D:Ends}{σ:St}{H:Hp}(h:∀Y Z:St->Hp->Prop,Y=a D->Z=b D->CZ c (fun _=>Y) (fun _=>Z) D σ H):CZ c a b D σ H:=h _ _ rfl rfl
theorem bP{z q:TS}{c:TT}{a b:TS}{D:Ends}{σ:St}{H:Hp}(h:∀Y Z:St->Hp->Prop,Y=a D->Z=b D->BX z (BX q (CZ c (fun _=>Y) (fun _=>Z))) D σ H):BX z (BX q (CZ c a b)) D σ H:=h _ _ rfl rfl
def DK(K:ya)(n:Nat):Sp:=fun vs H Q _=>∃(a:Addr) (ns:List Int) (k:Int) (q:Addr) (g:List Str) (d:Nat),vs=[.ref a,.int k,.ref q,.int d]/\SqL K H a (ns.map V.int)/\0<=k/\H q=some (.lst (g.map V.str))/\Sub g pool/\1<=d/\d<=n/\
 ∀(r:V) (H':Hp) (t:T),Same H H'->Dt H' r t.enc->t.ok g d->Q r H'
theorem bQ(F:Fun K "_law_sum" "_law_sum" BK f fd) (b_len:mg "len" = none) (c_law_pick:Callee P w K mg base "_law_pick" ["_law_script","_law_k","_law_many"] 2 (Cl K))
  (c_law_sum:Callee P w K mg base "_law_sum" ["_law_script","_law_at","_law_known","_law_deep"] (n+3) (DK K n)):FnOk P w K mg base CX0 (n+4) f fd ["_law_script","_law_at","_law_known","_law_deep"] (DK K (n+1)):=by
 refine F.ok sc_law_sum (fun vs H Q E h=>?_) (fun fw A outer s H vs Q E hr h=>?_)
 ·obtain⟨a,ns,k,kn,g,d,rfl,_⟩:=h;rfl
 obtain⟨a,ns,k,kn,g,d,rfl,hS,h0,hk,hg,fu,ft,q⟩:=h;refine⟨_,(A6 (AN (i:=4) sc_law_sum.nd rfl ZC (AH c_law_pick hr (by lia) (A1 (A0 0 rfl Dz) (A1 (A0 1 rfl Dy) (A1 A3 A2))) Fw BG) (AF rfl))
 (A6 (AK (PW.pt (FE (AC CO (A0 3 rfl LR) A3 (AE _)) (GX (AC Cz (A0 4 rfl ZF) A3 (AE _))))) (A6 (AK (PW.pt (DY (AC (gNe hr.units) (A0 2 rfl Fx) (Ab A2) (AE _)) (EN (AC NH (AH c_law_pick hr (by lia) (A1 (A0 0 rfl Dz) (A1 (AA AY (A0 1 rfl Dy) A3) (A1 A3 A2))) Fw BG) A3 (AE _))))) (A7 (AG (AI (A1 AD (A1 (A9 ix_list (A0 2 rfl Fx) (AH c_law_pick hr (by lia) (A1 (A0 0 rfl Dz) (A1 (AA AY (A0 1 rfl Dy) A3) (A1 (Aq Dd ZA b_len Dp (A1 (A0 2 rfl Fx) A2) Dr Dq) A2))) Fw BG) (fun _ _=>rfl)) A2))))) AL)
 (A7 (AG (AI (A1 AD (A1 (A9 ix_list (Ab (A1 A3 (A1 A3 (A1 (EQ ER A3) (A1 A3 (A1 A3 (A1 A3 (A1 (EQ ER A3) (A1 A3 (A1 (EQ ER A3) (A1 A3 (A1 A3 (A1 (EQ ER A3) A2))))))))))))) (AH c_law_pick hr (by lia) (A1 (A0 0 rfl Dz) (A1 (AA AY (A0 1 rfl Dy) A3) (A1 A3 A2))) Fw BG) (fun _ _=>rfl)) A2)))))) AL)
 (A6 (AN (i:=5) sc_law_sum.nd rfl ZD (Ab (A1 AD (A1 AD (A1 AD (A1 AD (A1 AD (A1 AD (A1 AD (A1 AD (A1 AD (A1 AD A2))))))))))) (AF rfl))
 (A6 (AN (i:=6) sc_law_sum.nd rfl ZB (AH c_law_sum hr (by lia) (A1 (A0 0 rfl Dz) (A1 (AA AY (AA By A3 (A0 1 rfl Dy)) A3) (A1 (A0 2 rfl Fx) (A1 (AA Cy (A0 3 rfl LR) A3) A2)))) QO Fp) (AF rfl))
 (A7 (AG (AI (A1 (A9 ix_list (A0 5 rfl ZG) (AH c_law_pick hr (by lia) (A1 (A0 0 rfl Dz) (A1 (AA AY (A0 1 rfl Dy) A3) (A1 A3 A2))) Fw BG) (fun _ _=>rfl)) (A1 (A0 6 rfl ZE) (A1 (AH c_law_sum hr (by lia) (A1 (A0 0 rfl Dz) (A1 (AA AY (AA By A3 (A0 1 rfl Dy)) A3) (A1 (A0 2 rfl Fx) (A1 (AA Cy (A0 3 rfl LR) A3) A2)))) QO Fp) A2)))))))))),AB fun N1 e1=>?_⟩
 walk_at "c";refine⟨a,ns,k,10,rfl,hS,h0,by decide,fun i H1 i0 i1 M=>?_⟩;rw[e1];refine AB fun N2 e2=>CH fun Y Z eY eZ=>?_;walk_at "c";have O:∀(H1:Hp),Same H H1->Y [some (.ref a),some (.int k),some (.ref kn),some (.int d),some (.int i),none,none] H1:=by
  intro H1 M;rw[eY];walk_at "c";have num:∀(H2:Hp) (p:Addr),Same H H2->H2 p=none->Cl K [V.ref a,V.int (k+3),V.int 12] (upd H2 p (HO.lst [V.int 0,V.int 1,V.int (-1),V.int 2,V.int 3,V.int 7,V.int (-8),V.int 100,V.int (-129),V.int 300,V.int 32767,V.int (-32768)])) (fun y H2=>∃x x_1,y=V.int x_1/\SqL K H2 p x/\∃x_2,atI x x_1=some x_2/\2<=ym/\∀(p:Addr),H2 p=none->Q (V.ref p) (upd H2 p (HO.tup [V.str (Str.ofString "num"),x_2]))) E0:=by
   intro H2 p G hp;have J:=A5 hp (HO.lst [V.int 0,V.int 1,V.int (-1),V.int 2,V.int 3,V.int 7,V.int (-8),V.int 100,V.int (-129),V.int 300,V.int 32767,V.int (-32768)]);refine⟨a,ns,k+3,12,rfl,(G.trans J).seq hS,by lia,by decide,fun j H3 j0 j1 B=>?_⟩;obtain⟨v,hv,e⟩:=Ck (c:=V.int) (ns:=[0,1,-1,2,3,7,-8,100,-129,300,32767,-32768]) (k:=j) j0 j1;refine⟨_,_,rfl,SqL.of (B _ _ A4),_,e,zl 2 (by decide),fun r hr'=>?_⟩;refine q _ _ (.num v) ((G.trans J).trans (B.trans (A5 hr' _))) (.tup A4 (.cons (.str _) (.cons (.int _) .nil))) ?_;obtain⟨d',rfl⟩:∃d',d=d'+1:=⟨d-1,by lia⟩;show -32768<=v/\v<=32767;simp only[y0f,y00,or_false] at hv;omega
  refine⟨yo _,fun p hp=>?_⟩;have G:=A5 hp (HO.lst []);have fg:(upd H1 p (HO.lst [])) kn=some (.lst (g.map V.str)):=G _ _ (M _ _ hk);refine⟨_,.inr ⟨_,SqL.of fg,_,SqL.of A4,Qu hg,rfl,(Ni _).symm⟩,?_⟩;split
  ·rename_i fk;refine⟨a,ns,k+1,3,rfl,(M.trans G).seq hS,by lia,by decide,fun j H3 j0 j1 J=>?_⟩;refine⟨_,rfl,?_⟩;have z:=(M.trans G).trans J;split
   ·have fe:=J _ _ fg;refine⟨_,GJ (SqL.of fe),?_⟩;have hl:0<((g.map V.str).length:Int):=by
     cases g with
     |nil=>exact absurd rfl (Bool.eq_false_iff.mp fk)
     |cons x r=>simp only[yj,yu]; lia
    refine⟨a,ns,k+2,_,rfl,z.seq hS,by lia,hl,fun m H4 m0 m1 B=>?_⟩;obtain⟨v,hv,e⟩:=Ck (c:=V.str) (ns:=g) (k:=m) m0 (by rw[y4] at m1; exact m1);refine⟨_,_,rfl,SqL.of (B _ _ fe),_,e,zl 2 (by decide),fun r hr'=>?_⟩;refine q _ _ (.nm v) (z.trans (B.trans (A5 hr' _))) (.tup A4 (.cons (.str _) (.cons (.str _) .nil))) ?_;obtain⟨d',rfl⟩:∃d',d=d'+1:=⟨d-1,by lia⟩;exact hv
   ·exact⟨zl 12 (by decide),fun p2 fc=>num _ p2 z fc⟩
  ·exact⟨zl 12 (by decide),fun p2 fc=>num _ p2 (M.trans G) fc⟩
 split
 ·exact O H1 M
 ·split
  ·exact O H1 M
  ·rename_i hd _;rw[eZ];show N2 _ _;rw[e2];refine AB fun N3 e3=>?_;walk_at "c";refine⟨zl 10 (by decide),fun p hp=>?_⟩;rw[e3];refine AB fun N4 e4=>?_;walk_at "c";refine⟨.inl ⟨by decide,by decide⟩,?_⟩;have G:=A5 hp (HO.lst [V.str "add",V.str "sub",V.str "mul",V.str "quo",V.str "less",V.str "same",V.str "min",V.str "max",V.str "add",V.str "less"]);have U:=M.trans G;have ed:((d:Int)-1)=((d-1:Nat):Int):=by lia
   have fq:2<=d:=by lia
   rw[ed];refine⟨a,ns,_,kn,g,d-1,rfl,U.seq hS,by lia,U _ _ hk,hg,by lia,by lia,fun r1 H2 t1 J d1 k1=>?_⟩;have z:=U.trans J;rw[e4];walk_at "c";refine⟨a,ns,k+4,10,rfl,z.seq hS,by lia,by decide,fun j H3 j0 j1 B=>?_⟩;have R:=z.trans B;obtain⟨v,hv,e⟩:=Ck (c:=fun w:Wd=>V.str w.str) (ns:=[.add,.sub,.mul,.quo,.less,.same,.min,.max,.add,.less]) (k:=j) j0 j1;refine⟨_,_,rfl,SqL.of (B _ _ (J _ _ A4)),_,e,.inl ⟨by decide,by decide⟩,?_⟩;rw[ed];refine⟨a,ns,_,kn,g,d-1,rfl,R.seq hS,by lia,R _ _ hk,hg,by lia,by lia,fun r2 H4 t2 s5 d2 k2=>?_⟩;refine⟨zl 3 (by decide),fun p3 fh=>?_⟩;have s6:=A5 fh (HO.tup [V.str v.str,r1,r2]);refine q _ _ (.op v t1 t2) (R.trans (s5.trans s6)) (.tup A4 (.cons (.str _) (.cons (d1.kp (B.trans (s5.trans s6)).kp) (.cons (d2.kp s6.kp) .nil)))) ?_;obtain⟨d',rfl⟩:∃d',d=d'+1:=⟨d-1,by lia⟩;exact⟨k1,k2⟩
theorem bR:FnOk P w K mg base CX0 k f fd ["_law_script","_law_at","_law_known","_law_deep"] (DK K 0):=by
 have q:∀vs H Q E,¬ DK K 0 vs H Q E:=fun vs H Q E h=>by
  obtain⟨a,ns,k,z,g,d,_,_,_,_,_,h1,h2,_⟩:=h;lia
 exact⟨fun vs H Q E h=>absurd h (q vs H Q E),fun A outer s H args us vs Q E _ _ _ _ h=>absurd h (q vs H Q E)⟩
theorem R0(d:Df K mg "_law_sum" BK ["_law_script","_law_at","_law_known","_law_deep"] f fd) (b_len:mg "len" = none) (c_law_pick:Callee P w K mg base "_law_pick" ["_law_script","_law_k","_law_many"] 2 (Cl K)) :
  ∀n:Nat,Callee P w K mg base "_law_sum" ["_law_script","_law_at","_law_known","_law_deep"] (n+3) (DK K n)
 |0=>d.callee bR
 |n+1=>d.callee (bQ d.F b_len c_law_pick (R0 d b_len c_law_pick n))
def MB(K:ya):Sp:=fun vs H Q _=>∃(a:Addr) (ns:List Int) (k:Int) (z:Addr) (g B:List Str) (q:V) (b:List D) (d:Nat) (F:Int),vs=[.ref a,.int k,.ref z,q,.int F]/\SqL K H a (ns.map V.int)/\0<=k/\H z=some (.lst (g.map V.str))/\Sub g pool/\g≠[]/\
 Dt H q (.tup (AU b))/\okB d b/\b.length<=4/\b≠[]/\Knows g b B/\1<=d/\∀(r:V) (H':Hp) (e:D),Same H H'->Dt H' r e.enc->okD d e->KnowsD g e g->Q r H'
theorem bS(F:Fun K "_law_counted" "_law_counted" BC f fd) (b_len:mg "len" = none) (c_law_pick:Callee P w K mg base "_law_pick" ["_law_script","_law_k","_law_many"] 2 (Cl K))
  (c_law_sum:Callee P w K mg base "_law_sum" ["_law_script","_law_at","_law_known","_law_deep"] 6 (DK K 3)):FnOk P w K mg base CX0 7 f fd ["_law_script","_law_at","_law_known","_law_body","_law_deep"] (MB K):=by
 refine F.ok sc_law_counted (fun vs H Q E h=>?_) (fun gn A outer s H vs Q E hr h=>?_)
 ·obtain⟨a,ns,k,kn,g,g1,rb,b,d,di,rfl,_⟩:=h;rfl
 obtain⟨a,ns,k,kn,g,g1,rb,b,d,di,rfl,hS,h0,hk,hg,gc,hb,fh,gm,gf,fk,gk,q⟩:=h;refine⟨_,(A6 (AN (i:=5) sc_law_counted.nd rfl QP (A9 ix_list (Ab (A1 A3 (A1 A3 (A1 A3 (A1 A3 (A1 A3 A2)))))) (AH c_law_pick hr (by lia) (A1 (A0 0 rfl Em) (A1 (A0 1 rfl El) (A1 A3 A2))) Fy BG) (fun _ _=>rfl)) (AF rfl))
 (A6 (AK (AC Cz (A0 4 rfl ZM) A3 (AE _)) (A7 (AN (i:=5) sc_law_counted.nd rfl QP (AA FK (A0 5 rfl LT) A3) (AF rfl))) AL)
 (A6 (AK (AC CO (AH c_law_pick hr (by lia) (A1 (A0 0 rfl Em) (A1 (AA AY (A0 1 rfl El) A3) (A1 A3 A2))) Fy BG) A3 (AE _)) (A7 (AG (AI (A1 AD (A1 (AH c_law_sum hr (by lia) (A1 (A0 0 rfl Em) (A1 (AA AY (A0 1 rfl El) A3) (A1 (A0 2 rfl LS) (A1 A3 A2)))) ZH Fp) (A1 (A0 5 rfl LT) (A1 (A0 3 rfl QQ) A2))))))) AL)
 (A6 (AN (i:=6) sc_law_counted.nd rfl ZL (AI (A1 AD (A1 (A9 ix_list (A0 2 rfl LS) (AH c_law_pick hr (by lia) (A1 (A0 0 rfl Em) (A1 (AA AY (A0 1 rfl El) A3) (A1 (Aq Dd ZI b_len Dp (A1 (A0 2 rfl LS) A2) Dr Dq) A2))) Fy BG) (fun _ _=>rfl)) A2))) (AF rfl))
 (A6 (AN (i:=7) sc_law_counted.nd rfl ZJ (AI (A1 AD (A1 (A9 ix_list (Ab (A1 (EQ ER A3) (A1 A3 (A1 A3 (A1 A3 A2))))) (AH c_law_pick hr (by lia) (A1 (A0 0 rfl Em) (A1 (AA AY (A0 1 rfl El) A3) (A1 A3 A2))) Fy BG) (fun _ _=>rfl)) A2))) (AF rfl))
 (A6 (AN (i:=8) sc_law_counted.nd rfl ZK (AI (A1 AD (A1 (A9 ix_tup (A0 6 rfl LU) A3 (fun _ _=>rfl)) (A1 (AI (A1 AD (A1 (A0 6 rfl LU) (A1 (AI (A1 AD (A1 (AA AY A3 (AH c_law_pick hr (by lia) (A1 (A0 0 rfl Em) (A1 (AA AY (A0 1 rfl El) A3) (A1 A3 A2))) Fy BG)) A2))) A2)))) A2)))) (AF rfl))
 (A7 (AG (AI (A1 AD (A1 (AI (A1 AD (A1 (A0 6 rfl LU) (A1 (A0 7 rfl ZN) A2)))) (A1 (A0 5 rfl LT) (A1 (AA Am (A0 3 rfl QQ) (AI (A1 (A0 8 rfl ZO) A2))) A2))))))))))))),AB fun N1 e1=>?_⟩
 walk_at "c";have hl:0<((g.map V.str).length:Int):=by
  cases g with
  |nil=>exact absurd rfl gc
  |cons x r=>simp only[yj,yu]; lia
 refine⟨zl 5 (by decide),fun p hp=>?_⟩;have s1:=A5 hp (HO.lst [V.int 0,V.int 1,V.int 3,V.int 6,V.int 20]);refine⟨a,ns,k,5,rfl,s1.seq hS,h0,by decide,fun i H2 i0 i1 s2=>?_⟩;have fg:=s1.trans s2;obtain⟨v,hv,e⟩:=Ck (c:=V.int) (ns:=[0,1,3,6,20]) (k:=i) i0 i1;have fX:0<=v/\v<=20:=by
  simp only[y0f,y00,or_false] at hv;lia
 refine⟨_,_,rfl,SqL.of (s2 _ _ A4),_,e,?_⟩;obtain⟨ab,xs,rfl,gh,ft⟩:=hb.tupI;have fV:xs.length=b.length:=by rw[ft.length,Er]
 have fz:xs≠[]:=fun z=>gf (List.length_eq_zero_iff.mp (by rw[<- fV,z]; rfl));rw[e1];refine AB fun N2 e2=>?_;walk_at "c";suffices key:∀mv:Int,0<=mv/\mv<=20->N2 [some (.ref a),some (.int k),some (.ref kn),some (.ref ab),some (.int di),some (.int mv),none,none,none] H2 by
  split
  ·exact⟨by decide,key (v % 4) (by lia)⟩
  ·exact key v fX
 intro mv gj;rw[e2];refine AB fun N3 e3=>?_;walk_at "c";refine⟨a,ns,k+1,4,rfl,fg.seq hS,by lia,by decide,fun j H3 j0 j1 s3=>?_⟩;refine⟨_,rfl,?_⟩;have B:=fg.trans s3;split
 ·refine⟨a,ns,k+2,kn,g,2,rfl,B.seq hS,by lia,B _ _ hk,hg,by decide,by decide,fun r1 H4 t1 Z d1 k1=>?_⟩;refine⟨zl 4 (by decide),fun p2 R=>?_⟩;exact q _ _ (.whl t1 _ b) (B.trans (Z.trans (A5 R _))) (.tup A4 (.cons (.str _) (.cons (d1.kp (A5 R _).kp) (.cons (.int _) (.cons (hb.kp (B.trans (Z.trans (A5 R _))).kp) .nil))))) ⟨k1.mono hg (by decide),by lia,by lia,fh⟩ (KnowsD.whl k1 fk)
 ·have fq:=B _ _ hk;rw[e3];refine AB fun N4 e4=>?_;walk_at "c";refine⟨_,GJ (SqL.of fq),?_⟩;refine⟨a,ns,k+3,_,rfl,B.seq hS,by lia,hl,fun m H4 m0 m1 Z=>?_⟩;obtain⟨x,hx,e⟩:=Ck (c:=V.str) (ns:=g) (k:=m) m0 (by rw[y4] at m1; exact m1);refine⟨_,_,rfl,SqL.of (Z _ _ fq),_,e,zl 2 (by decide),fun pn fY=>?_⟩;have s5:=A5 fY (HO.tup [V.str "name",V.str x]);rw[e4];refine AB fun N5 e5=>?_;walk_at "c";refine⟨zl 4 (by decide),fun pg gb=>?_⟩;have s6:=A5 gb (HO.lst [V.int (-2),V.int 1,V.int 3,V.int 5]);have fw:=B.trans (Z.trans (s5.trans s6));refine⟨a,ns,k+4,4,rfl,fw.seq hS,by lia,by decide,fun l H5 l0 l1 s7=>?_⟩;obtain⟨U,ge,e2⟩:=Ck (c:=V.int) (ns:=[-2,1,3,5]) (k:=l) l0 l1;have J : -32768<=U/\U<=32767:=by
   simp only[y0f,y00,or_false] at ge;lia
  refine⟨_,_,rfl,SqL.of (s7 _ _ A4),_,e2,zl 2 (by decide),fun pl fZ=>?_⟩;have s8:=A5 fZ (HO.tup [V.str "num",V.int U]);have G:=s6.trans (s7.trans s8);have fe:=B.trans (Z.trans (s5.trans G));rw[e5];refine AB fun N6 e6=>?_;walk_at "c";refine⟨_,SqT.of (G _ _ A4),V.str x,rfl,?_⟩;refine⟨a,ns,k+5,3,rfl,fe.seq hS,by lia,by decide,fun z H6 z0 z1 s9=>?_⟩;refine⟨_,rfl,zl 2 (by decide),fun p1 h1=>⟨zl 3 (by decide),fun p2 h2=>⟨zl 3 (by decide),fun p3 h3=>?_⟩⟩⟩;rw[e6];walk_at "c";refine⟨zl 3 (by decide),fun p4 h4=>⟨zl 1 (by decide),fun p5 h5=>?_⟩⟩;have u1:=A5 h1 (HO.tup [V.str "num",V.int (1+z)]);have u2:=A5 h2 (HO.tup [V.str "add",V.ref pn,V.ref p1]);have u3:=A5 h3 (HO.tup [V.str "set",V.str x,V.ref p2]);have u4:=A5 h4 (HO.tup [V.str "less",V.ref pn,V.ref pl]);have u5:=A5 h5 (HO.tup [V.ref p3]);have M:=fe.trans (s9.trans (u1.trans (u2.trans (u3.trans (u4.trans u5)))));refine⟨xs,SqT.of (M _ _ gh),[V.ref p3],SqT.of A4,by rw[y0d]; exact zl _ (by lia),fun h=>absurd h fz,fun _ h=>absurd h (by simp),fun _ _ p6 h6=>⟨zl 4 (by decide),fun p7 h7=>?_⟩⟩;have u6:=A5 h6 (HO.tup (xs++[V.ref p3]));have fc:=u6.trans (A5 h7 (HO.tup [V.str "while",V.ref p4,V.int mv,V.ref p6]));have fu:=u5.trans fc;have dn:Dt (upd H4 pn (HO.tup [V.str "name",V.str x])) (.ref pn) (T.nm x).enc:=.tup A4 (.cons (.str _) (.cons (.str _) .nil));have dl:Dt (upd H5 pl (HO.tup [V.str "num",V.int U])) (.ref pl) (T.num U).enc:=.tup A4 (.cons (.str _) (.cons (.int _) .nil));have dz:Dt (upd H6 p1 (HO.tup [V.str "num",V.int (1+z)])) (.ref p1) (T.num (1+z)).enc:=.tup A4 (.cons (.str _) (.cons (.int _) .nil));have O:=s9.trans u1;have da:Dt _ (.ref p2) (T.op .add (.nm x) (.num (1+z))).enc:=.tup (A4 (H:=upd H6 p1 (HO.tup [V.str "num",V.int (1+z)]))) (.cons (.str _) (.cons (dn.kp (G.trans (O.trans u2)).kp) (.cons (dz.kp u2.kp) .nil)));have ds:Dt _ (.ref p3) (D.set x (T.op .add (.nm x) (.num (1+z)))).enc:=.tup A4 (.cons (.str _) (.cons (.str _) (.cons (da.kp u3.kp) .nil)));have de:Dt _ (.ref p4) (T.op .less (.nm x) (.num U)).enc:=.tup A4 (.cons (.str _) (.cons (dn.kp (G.trans (O.trans (u2.trans (u3.trans u4)))).kp) (.cons (dl.kp (O.trans (u2.trans (u3.trans u4))).kp) .nil)));have dB:Dt _ (.ref p6) (.tup (AU b++[(D.set x (T.op .add (.nm x) (.num (1+z)))).enc])):=.tup A4 ((ft.kp (M.trans u6).kp).append (.cons (ds.kp (u4.trans (u5.trans u6)).kp) .nil));rw[show AU b++[(D.set x (T.op .add (.nm x) (.num (1+z)))).enc]=AU (b++[D.set x (T.op .add (.nm x) (.num (1+z)))]) by rw[GI,AU,AU]] at dB;have hz : -32768<=1+z/\1+z<=32767:=by lia
  refine q _ _ (.whl (.op .less (.nm x) (.num U)) _ (b++[D.set x (T.op .add (.nm x) (.num (1+z)))])) (M.trans fc) (.tup A4 (.cons (.str _) (.cons (de.kp fu.kp) (.cons (.int _) (.cons (dB.kp (A5 h7 _).kp) .nil))))) ⟨⟨hg x hx,J⟩,by lia,by lia,?_⟩ (KnowsD.whl (n:=2) ⟨hx,J⟩ (fk.sub.snoc (KnowsD.set (n:=2) (g':=g) ⟨hx,hz⟩ fun y hy=>.inl hy)));obtain⟨d',rfl⟩:∃d',d=d'+1:=⟨d-1,by lia⟩;refine⟨by rw[yc,y0d]; lia,fun c hc=>?_⟩;rcases List.mem_append.mp hc with hc|hc
  ·exact fh.2 c hc
  ·have ec:c=D.set x (T.op .add (.nm x) (.num (1+z))):=by simpa using hc
   subst ec;exact⟨hg x hx,⟨hg x hx,hz⟩⟩
noncomputable def Es:Nat->Nat
 |1=>1|2=>2|3=>6|_=>0
noncomputable def Et:Nat->Nat
 |3=>2|_=>1
theorem pg1(d:Nat):1<=Et d:=by unfold Et; split<;>decide
theorem pgc(h1:1<=d)(z:d<=3)(q:j<=d):j*Et d<=Es d:=by
 have:d=1\/d=2\/d=3:=by lia
 rcases this with rfl|rfl|rfl<;>simp only[Et,Es]<;>lia
theorem cgp(h1:2<=d)(q:d<=3):Es (d-1)<=Et d:=by
 have:d=2\/d=3:=by lia
 rcases this with rfl|rfl<;>decide
theorem cg6(d:Nat):Es d<=6:=by unfold Es; split<;>decide
theorem bT{Hy C:Hp->Prop}{G:Prop}(h1:(∀q,Hy q->C q)->G)(h2:∀q,Hy q->C q):G:=h1 h2
def Eu(K:ya)(n:Nat):Sp:=fun vs H Q _=>∃(a:Addr) (ns:List Int) (k:Int) (q:Addr) (g:List Str) (d:Nat),vs=[.ref a,.int k,.ref q,.int d]/\SqL K H a (ns.map V.int)/\0<=k/\H q=some (.lst (g.map V.str))/\Sub g pool/\1<=d/\d<=n/\d<=3/\g.length+100*d<=900/\
 ∀(r z rk:Addr) (H':Hp) (b:List D) (g':List Str),Same H H'->H' r=some (.tup [.ref z,.ref rk])->Dt H' (.ref z) (.tup (AU b))->H' rk=some (.lst (g'.map V.str))->okB d b->b.length<=d->b≠[]->Knows g b g'->Sub g' pool->g'.length<=g.length+Es d->(rk=q\/H rk=none)->Q (.ref r) H'
def bU(B:Hp)(z:Addr)(g':List Str)(x:Str)(i:Nat)(ys:List V)(q:St)(H':Hp):Prop:=H'=B/\(∃t,q=[t,some (.ref z)])/\((i=0/\ys=[])\/(i=1/\ys=(if g'.contains x then [] else [x]).map V.str))
def bV(G:Hp)(z:Addr)(F B:List Str)(i:Nat)(ys:List V)(q:St)(H':Hp):Prop:=H'=G/\(∃t,q=[t,some (.ref z)])/\ys=((F.take i).filter fun x=>B.contains x).map V.str
def bW(H:Hp)(O a:Addr)(k:Int)(d:Nat)(J:Addr)(g:List Str)(j:Nat)(σ:St)(z:Hp):Prop:=
 ∃(q:Addr) (vs:List V) (b:List D) (g':List Str) (M x6 x7 x8 x9 x10 G F B:Option V),σ=[some (.ref a),some (.int k),some (.ref q),some (.int d),some (.ref J),M,x6,x7,x8,x9,x10,G,F,B]/\
  Same H z/\z J=some (.lst vs)/\DtA z vs (AU b)/\z q=some (.lst (g'.map V.str))/\q≠J/\Knows g b g'/\Sub g' pool/\b.length=j/\(∀e∈b,okD (d-1) e)/\g'.length<=g.length+j*Et d/\(q=O\/H q=none)
theorem bX{n:Nat} (F:Fun K "_law_block" "_law_block" Ac f fd) (b_range:mg "range" = none) (b_tuple:mg "tuple" = none) (c_law_pick:Callee P w K mg base "_law_pick" ["_law_script","_law_k","_law_many"] 2 (Cl K))
  (c_law_sum:Callee P w K mg base "_law_sum" ["_law_script","_law_at","_law_known","_law_deep"] 6 (DK K 3)) (c_law_counted:Callee P w K mg base "_law_counted" ["_law_script","_law_at","_law_known","_law_body","_law_deep"] 7 (MB K))
  (c_law_block:Callee P w K mg base "_law_block" ["_law_script","_law_at","_law_known","_law_deep"] (n+7) (Eu K n)):FnOk P w K mg base CX0 (n+8) f fd ["_law_script","_law_at","_law_known","_law_deep"] (Eu K (n+1)):=by
 refine F.ok sc_law_block (fun vs H Q E h=>?_) (fun ir A outer s H vs Q E hr h=>?_)
 ·obtain⟨a,ns,k,kn,g,d,rfl,_⟩:=h;rfl
 obtain⟨a,ns,k,kn,g,d,rfl,hS,h0,hk,hg,gI,ip,gx,il,q⟩:=h;refine⟨_,(A6 (AN (i:=4) sc_law_block.nd rfl ZV (Ab A2) (AF rfl))
 (A6 (BD y0m rfl (JW ZR b_range (A1 (AA AY A3 (AH c_law_pick hr (by lia) (A1 (A0 0 rfl Ci) (A1 (A0 1 rfl QT) (A1 (A0 3 rfl En) A2))) LW BG)) A2)) (AO (i:=5) sc_law_block.nd rfl ZX)
 (A6 (AN (i:=6) sc_law_block.nd rfl ZT (AA AY (AA By A3 (A0 1 rfl QT)) (AA By A3 (AA AY (A0 5 rfl Zf) A3))) (AF rfl))
 (A6 (AN (i:=7) sc_law_block.nd rfl Zb (AH c_law_pick hr (by lia) (A1 (A0 0 rfl Ci) (A1 (A0 6 rfl DH) (A1 A3 A2))) LW BG) (AF rfl))
 (A7 (AK (PW.pt (FE (AC Cz (A0 7 rfl QV) A3 (AE _)) (FE (AC CO (A0 3 rfl En) A3 (AE _)) (GX (AC (gEq hr.units) (A0 2 rfl Ch) (Ab A2) (AE _)))))) (A6 (AN (i:=8) sc_law_block.nd rfl ZZ (A9 ix_list (Ab (A1 AD (A1 AD (A1 AD (A1 AD A2))))) (AH c_law_pick hr (by lia) (A1 (A0 0 rfl Ci) (A1 (AA AY (A0 6 rfl DH) A3) (A1 A3 A2))) LW BG) (fun _ _=>rfl)) (AF rfl))
 (A6 (Az (BQ y0a y0r y0q C9 (A0 4 rfl IU) (A1 (AI (A1 AD (A1 (A0 8 rfl QU) (A1 (AH c_law_sum hr (by lia) (A1 (A0 0 rfl Ci) (A1 (AA AY (A0 6 rfl DH) A3) (A1 (A0 2 rfl Ch) (A1 A3 A2)))) QR Fp) A2)))) A2)) (AF rfl))
 (A7 (AN (i:=2) sc_law_block.nd rfl QS (AA HD (A0 2 rfl Ch) (Cb ["_law_one","_law_known"] [none,some 2] rfl (CompS.of (by rfl)) (BZ (Ab (A1 (A0 8 rfl QU) A2))) (fun _ _ _ _ _=>(AO (i:=0) (show List.Nodup (["_law_one","_law_known"]:List Str) from by decide+kernel) rfl (Or.inl rfl))) (fun _ _ _ _ _=>(Nc (AC (opK (r:=FV) (K:=K) (UH hr.units) rfl) (Ae (i:=0) rfl (by walk_at "vc") II ID) (Ae (i:=1) rfl (by walk_at "vc") Wh WW) (by with_unfolding_all rfl)))) (fun _ _ _ _ _=>(Ae (i:=0) rfl (by walk_at "vc") II ID)))) (AF rfl))))) (A7 (AK (AC Cz (A0 7 rfl QV) A3 (AE _)) (A6 (FI (AH c_law_block hr (by lia) (A1 (A0 0 rfl Ci) (A1 (AA AY (A0 6 rfl DH) A3) (A1 (A0 2 rfl Ch) (A1 (AA Cy (A0 3 rfl En) A3) A2)))) LV IH) (BY (n:=2) rfl (Aa (AO (i:=9) sc_law_block.nd rfl ZW) (Aa (AO (i:=10) sc_law_block.nd rfl ZY) BP))))
 (A6 (FI (AH c_law_block hr (by lia) (A1 (A0 0 rfl Ci) (A1 (AA AY (A0 6 rfl DH) A3) (A1 (A0 2 rfl Ch) (A1 (AA Cy (A0 3 rfl En) A3) A2)))) LV IH) (BY (n:=2) rfl (Aa (AO (i:=11) sc_law_block.nd rfl Za) (Aa (AO (i:=12) sc_law_block.nd rfl Zc) BP))))
 (A6 (Az (BQ y0a y0r y0q C9 (A0 4 rfl IU) (A1 (AI (A1 AD (A1 (AH c_law_sum hr (by lia) (A1 (A0 0 rfl Ci) (A1 (AA AY (A0 6 rfl DH) A3) (A1 (A0 2 rfl Ch) (A1 A3 A2)))) QR Fp) (A1 (A0 9 rfl Ze) (A1 (A0 11 rfl Zh) A2))))) A2)) (AF rfl))
 (A7 (AN (i:=2) sc_law_block.nd rfl QS (Cb ["_law_one","_law_yours"] [none,some 12] rfl (CompS.of (by rfl)) (BZ (A0 10 rfl Zg)) (fun _ _ _ _ _=>(AO (i:=0) (show List.Nodup (["_law_one","_law_yours"]:List Str) from by decide+kernel) rfl (Or.inl rfl))) (fun _ _ _ _ _=>(Nc (AC (opK (r:=qIn) (K:=K) (gIn hr.units) rfl) (Ae (i:=0) rfl (by walk_at "vc") II ID) (Ae (i:=1) rfl (by walk_at "vc") Wn WZ) (by with_unfolding_all rfl)))) (fun _ _ _ _ _=>(Ae (i:=0) rfl (by walk_at "vc") II ID))) (UJ ZP)))))) (A6 (AN (i:=13) sc_law_block.nd rfl ZU (A9 ix_tup (AH c_law_block hr (by lia) (A1 (A0 0 rfl Ci) (A1 (AA AY (A0 6 rfl DH) A3) (A1 (A0 2 rfl Ch) (A1 (AA Cy (A0 3 rfl En) A3) A2)))) LV IH) A3 (fun _ _=>rfl)) (AF rfl))
 (A7 (Az (BQ y0a y0r y0q C9 (A0 4 rfl IU) (A1 (AH c_law_counted hr (by lia) (A1 (A0 0 rfl Ci) (A1 (AA AY (A0 6 rfl DH) A3) (A1 (A0 2 rfl Ch) (A1 (A0 13 rfl Zd) (A1 (A0 3 rfl En) A2))))) ZQ Wg) A2)) (AF rfl)))))))))))
 (A7 (AG (AI (A1 (D3 HA ZS b_tuple Fo (A1 (A0 4 rfl IU) A2) Fs Fr) (A1 (A0 2 rfl Ch) A2))))))),?_⟩
 walk_at "c";refine⟨yo _,fun R fw=>?_⟩;have s1:=A5 fw (HO.lst []);refine⟨a,ns,k,d,rfl,s1.seq hS,h0,by lia,fun i H2 i0 i1 s2=>?_⟩;have gZ:kn≠R:=AS hk fw;refine⟨_,rfl,by lia,by lia,?_⟩;refine JX (lo:=0) (n:=(1+i).toNat) (bW H kn a k d R g) ?s ?t ?d
 case s=>exact⟨kn,[],[],g,none,none,none,none,none,none,none,none,none,rfl,s1.trans s2,s2 _ _ A4,.nil,(s1.trans s2) _ _ hk,gZ,Knows.nil g,hg,rfl,fun e he=>absurd he (by simp),by lia,.inl rfl⟩
 case d=>
  rintro σ Hc ⟨kc,vs,b,g',x5,x6,x7,x8,x9,x10,gM,gL,gK,rfl,sc,hv,dv,J,ft,fV,G,fk,fz,gw,gu⟩;walk_at "c";refine⟨vs,.inl ⟨SqL.of hv,fun pb gY=>⟨zl 2 (by decide),fun pr gU=>?_⟩⟩⟩;have sa:=A5 gY (HO.tup vs);have sb:=A5 gU (HO.tup [V.ref pb,V.ref kc]);refine q pr pb kc _ b g' (sc.trans (sa.trans sb)) A4 (.tup (sb _ _ A4) (dv.kp (sa.trans sb).kp)) (sb _ _ (sa _ _ J)) ?_ (by lia) (fun z=>by rw[z] at fk; simp at fk; lia) fV G (y0j gw (y5b (pgc gI gx (by lia)) _)) gu;obtain⟨d',rfl⟩:∃d',d=d'+1:=⟨d-1,by lia⟩;exact⟨by lia,fun e he=>fz e he⟩
 case t=>
  rintro j σ Hc hj ⟨kc,vs,b,g',x5,x6,x7,x8,x9,x10,gM,gL,gK,rfl,sc,hv,dv,J,ft,fV,G,fk,fz,gw,gu⟩;have hG:j<d:=by lia
  have im:g'.length<=g.length+6:=y0j gw (y5b (y0j (pgc gI gx (y12 hG)) (cg6 d)) _);have gk:vs.length=j:=by rw[dv.length,Er,fk]
  refine MA fun M0 f0=>?_;walk_at "c";rw[f0];show BX _ (BX _ (CZ _ _ _)) _ _ _;refine bP fun Y Z eY eZ=>?_;walk_at "c";refine⟨.inl ⟨by decide,by decide⟩,.inl ⟨by decide,by decide⟩,?_⟩;refine⟨a,ns,_,7,rfl,sc.seq hS,by lia,by decide,fun wy H3 w0 w1 s3=>?_⟩;walk_at "c";refine bT (Hy:=fun Hx=>Same H3 Hx) (C:=?cc) ?kk ?_
  case kk=>
   intro key;split
   ·generalize hH:H3=H3n;exact key H3n (hH ▸ Same.refl _)
   ·split
    ·exact key H3 (Same.refl _)
    ·rename_i gJ;refine⟨yo _,fun pe gX=>?_⟩;have se:=A5 gX (HO.lst []);refine⟨_,Qv (SqL.of (se _ _ (s3 _ _ J))) (Qu G) (SqL.of A4),?_⟩;replace s3:=s3.trans se;generalize upd H3 pe (HO.lst [])=H3e at s3 se |-;split
     ·exact key H3e se
     ·rename_i gF;rw[eZ];refine CH fun Y2 Z2 ib hZ=>?_;walk_at "c";split
      ·rw[ib];refine AB fun N1 e1=>?_;walk_at "c";have gH:2<=d:=by
        have:¬ (d:Int)=1:=gJ;lia
       have ed:((d:Int)-1)=((d-1:Nat):Int):=by lia
       rw[ed];refine⟨a,ns,_,kc,g',d-1,rfl,(sc.trans s3).seq hS,by lia,s3 _ _ J,G,by lia,by lia,by lia,by lia,fun r1 ge gb H4 b1 g1 s4 gm gz gG gf gP gC gh gA hX gD=>?_⟩;refine⟨_,rfl,_,SqT.of gm,rfl,_,_,rfl,_,_,rfl,rfl,?_⟩;have O:=s3.trans s4;rw[e1];refine AB fun N2 e2=>?_;walk_at "c";rw[ed];refine⟨a,ns,_,kc,g',d-1,rfl,(sc.trans O).seq hS,by lia,O _ _ J,G,by lia,by lia,by lia,by lia,fun r2 gB fZ H5 b2 g2 s5 gT ie g9 gO ij ii gQ ig iq gR=>?_⟩;have B:=O.trans s5;refine⟨_,rfl,_,SqT.of gT,rfl,_,_,rfl,_,_,rfl,rfl,?_⟩;rw[e2];refine AB fun N3 e3=>?_;walk_at "c";refine⟨.inl ⟨rfl,_,SqL.of (B _ _ hv)⟩,?_⟩;refine⟨a,ns,_,kc,g',2,rfl,(sc.trans B).seq hS,by lia,B _ _ J,G,by decide,by decide,fun r3 H6 t3 s6 d3 k3=>?_⟩;refine⟨zl 4 (by decide),fun pt gn=>?_⟩;have s7:=A5 gn (HO.tup [V.str "if",r3,V.ref ge,V.ref gB]);have fY:=s5.trans (s6.trans s7);have gc:=s6.trans s7;have dt:Dt _ (.ref pt) (D.ite t3 b1 b2).enc:=.tup A4 (.cons (.str _) (.cons (d3.kp s7.kp) (.cons (gz.kp fY.kp) (.cons (ie.kp gc.kp) .nil))));have M:=O.trans fY;have n1:gb≠R:=by
        rcases gD with z|z
        ·rw[z]; exact ft
        ·intro y; rw[y,s3 _ _ hv] at z; cases z
       have n2:fZ≠R:=by
        rcases gR with z|z
        ·rw[z]; exact ft
        ·intro y; rw[y,O _ _ hv] at z; cases z
       have m1:=fY _ _ gG;have m2:=gc _ _ g9;generalize upd H6 pt (HO.tup [V.str "if",r3,V.ref ge,V.ref gB])=U at s7 fY gc dt M m1 m2 |-;have fu:=M _ _ hv;refine⟨vs,fu,by rw[gk]; exact BH (by lia),?_⟩;have k8:Kp U (upd U R (HO.lst (vs++[V.ref pt]))):=Kp.set fu;have w1:(upd U R (HO.lst (vs++[V.ref pt]))) gb=some (.lst (g1.map V.str)):=by rw[A8 n1]; exact m1
       have w2:(upd U R (HO.lst (vs++[V.ref pt]))) fZ=some (.lst (g2.map V.str)):=by rw[A8 n2]; exact m2
       have fg:(upd U R (HO.lst (vs++[V.ref pt]))) R=some (.lst (vs++[V.ref pt])):=A4;have fh:Same H (upd U R (HO.lst (vs++[V.ref pt]))):=CG (sc.trans M) fw;generalize upd U R (HO.lst (vs++[V.ref pt]))=U2 at k8 w1 w2 fg fh |-;rw[e3];walk_at "c";refine⟨⟨_,SqL.of w1⟩,?_⟩;have io:g1.length<=900:=by
        have:=cg6 (d-1);lia
       refine Dc (K:=K) (a:=gb) (xs:=g1.map V.str) (bV U2 fZ g1 g2) ⟨rfl,⟨none,rfl⟩,by simp⟩ (by rw[y4]; exact BH (by lia)) ?_ ?_ ?_ ?_
       ·rintro i ys fe H' ⟨_,_,rfl⟩;rw[y4];exact y0j (y4v _ _) (by rw[y04]; lia)
       ·rintro i ys fe H' _ ⟨rfl,_,_⟩;exact SqL.of w1
       ·rintro i ys v fe H' fc ⟨rfl,⟨t,rfl⟩,rfl⟩;rw[y0k] at fc;cases hx:g1[i]? with
        |none=>rw[hx] at fc; cases fc
        |some x=>
         rw[hx] at fc;have ev:V.str x=v:=by simpa using fc
         subst ev;walk_at "c";refine⟨inV (.str x) (g2.map V.str),.inl ⟨fZ,_,rfl,.inl (SqL.of w2),rfl,GK g2,rfl⟩,?_⟩;rw[E7];have et:g1.take (i+1)=g1.take i++[x]:=by rw[y5k,hx]; rfl
         cases hc:g2.contains x with
         |true=>exact⟨rfl,⟨_,rfl⟩,by rw[et,List.filter_append,yp,List.filter_cons,hc]; rfl⟩
         |false=>exact⟨rfl,⟨_,rfl⟩,by rw[et,List.filter_append,yp,List.filter_cons,hc]; simp⟩
       ·rintro ys fe H' ⟨rfl,_,rfl⟩ pc fq;rw[y4,y0i];have sa:=A5 fq (HO.lst ((g1.filter fun x=>g2.contains x).map V.str));have gt:pc≠R:=fun z=>by rw[z,fg] at fq; cases fq
        have ik:(g1.filter fun x=>g2.contains x).length<=g1.length:=y4v _ _;refine⟨pc,vs++[V.ref pt],b++[D.ite t3 b1 b2],g1.filter fun x=>g2.contains x,_,_,_,_,_,_,_,_,_,rfl,fh.trans sa,sa _ _ fg,?_,A4,gt,fV.snoc (KnowsD.ite k3 gh gQ ?_),?_,by rw[yc,y0d,fk],?_,?_,.inr (fh.free fq)⟩
        ·rw[GI];exact(dv.kp (M.kp.trans (k8.trans sa.kp))).append (.cons (dt.kp (k8.trans sa.kp)) .nil)
        ·intro y hy;have:=List.mem_filter.mp hy;exact⟨this.1,by simpa using this.2⟩
        ·exact fun y hy=>gA y (List.mem_filter.mp hy).1
        ·intro c hc;rcases List.mem_append.mp hc with hc|hc
         ·exact fz c hc
         ·have ec:c=D.ite t3 b1 b2:=by simpa using hc
          subst ec;exact⟨k3.mono G (by decide),gf,gO⟩
        ·rw[y50];have:=cgp gH gx;lia
      ·rw[hZ];refine AB fun N1 e1=>?_;walk_at "c";have gH:2<=d:=by
        have:¬ (d:Int)=1:=gJ;lia
       have ed:((d:Int)-1)=((d-1:Nat):Int):=by lia
       rw[ed];have hJ:g'≠[]:=fun z=>gF (by rw[z]; rfl);refine⟨a,ns,_,kc,g',d-1,rfl,(sc.trans s3).seq hS,by lia,s3 _ _ J,G,by lia,by lia,by lia,by lia,fun r1 ge gb H4 b1 g1 s4 gm gz gG gf gP gC gh gA hX gD=>?_⟩;have O:=s3.trans s4;refine⟨_,rfl,_,SqT.of gm,_,rfl,?_⟩;rw[e1];walk_at "c";refine⟨.inl ⟨rfl,_,SqL.of (O _ _ hv)⟩,?_⟩;refine⟨a,ns,_,kc,g',g1,_,b1,d-1,d,rfl,(sc.trans O).seq hS,by lia,O _ _ J,G,hJ,gz,gf,by lia,gC,gh,by lia,fun r2 H5 e2 s5 ic gN gS=>?_⟩;have B:=O.trans s5;refine⟨vs,B _ _ hv,by rw[gk]; exact BH (by lia),?_⟩;have k8:Kp H5 (upd H5 R (HO.lst (vs++[r2]))):=Kp.set (B _ _ hv);refine⟨kc,vs++[r2],b++[e2],g',_,_,_,_,_,_,_,_,_,rfl,CG (sc.trans B) fw,A4,?_,by rw[A8 ft]; exact B _ _ J,ft,fV.snoc gS,G,by rw[yc,y0d,fk],?_,?_,gu⟩
       ·rw[GI];exact(dv.kp (B.kp.trans k8)).append (.cons (ic.kp k8) .nil)
       ·intro c hc;rcases List.mem_append.mp hc with hc|hc
        ·exact fz c hc
        ·have ec:c=e2:=by simpa using hc
         subst ec;exact gN
       ·rw[y50];lia
  intro Hx sx;replace s3:=s3.trans sx;rw[eY];refine AB fun N1 e1=>?_;walk_at "c";refine⟨zl 4 (by decide),fun pm gW=>?_⟩;have s4:=A5 gW (HO.lst [V.str "a",V.str "b",V.str "c",V.str "dd"]);refine⟨a,ns,_,4,rfl,((sc.trans s3).trans s4).seq hS,by lia,by decide,fun m H4 m0 m1 s5=>?_⟩;obtain⟨x,hx,e⟩:=Ck (c:=V.str) (ns:=pool) (k:=m) m0 m1;have B:=s3.trans (s4.trans s5);refine⟨_,_,rfl,SqL.of (s5 _ _ A4),_,e,?_⟩;rw[e1];refine AB fun N2 e2=>?_;walk_at "c";refine⟨.inl ⟨rfl,_,SqL.of (B _ _ hv)⟩,?_⟩;refine⟨a,ns,_,kc,g',3,rfl,(sc.trans B).seq hS,by lia,B _ _ J,G,by decide,by decide,fun r1 H5 t1 s6 d1 k1=>?_⟩;refine⟨zl 3 (by decide),fun pt gn=>?_⟩;have s7:=A5 gn (HO.tup [V.str "set",V.str x,r1]);have dt:Dt _ (.ref pt) (D.set x t1).enc:=.tup A4 (.cons (.str _) (.cons (.str _) (.cons (d1.kp s7.kp) .nil)));have M:=B.trans (s6.trans s7);generalize upd H5 pt (HO.tup [V.str "set",V.str x,r1])=U at s7 dt M |-;have fu:=M _ _ hv;refine⟨vs,fu,by rw[gk]; exact BH (by lia),?_⟩;rw[e2];walk_at "c";refine⟨zl 1 (by decide),fun pl gE=>?_⟩;have k8:Kp U (upd U R (HO.lst (vs++[V.ref pt]))):=Kp.set fu;have gj:(upd U R (HO.lst (vs++[V.ref pt]))) kc=some (.lst (g'.map V.str)):=by rw[A8 ft]; exact M _ _ J
  have fg:(upd U R (HO.lst (vs++[V.ref pt]))) R=some (.lst (vs++[V.ref pt])):=A4;have fh:Same H (upd U R (HO.lst (vs++[V.ref pt]))):=CG (sc.trans M) fw;generalize upd U R (HO.lst (vs++[V.ref pt]))=U2 at k8 gj fg fh gE |-;have s9:=A5 gE (HO.lst [V.str x]);have gy:(upd U2 pl (HO.lst [V.str x])) pl=some (.lst [V.str x]):=A4;generalize upd U2 pl (HO.lst [V.str x])=U3 at s9 gy |-;refine⟨⟨_,SqL.of gy⟩,?_⟩;refine Dc (K:=K) (a:=pl) (xs:=[V.str x]) (bU U3 kc g' x) ⟨rfl,⟨none,rfl⟩,.inl ⟨rfl,rfl⟩⟩ (BH (by show 1<=1000; decide)) ?_ ?_ ?_ ?_
  ·rintro i ys fe H' ⟨_,_,h⟩;rcases h with⟨rfl,rfl⟩|⟨rfl,rfl⟩
   ·exact yf _
   ·split<;>simp
  ·rintro i ys fe H' _ ⟨rfl,_,_⟩;exact SqL.of gy
  ·rintro i ys v fe H' fc ⟨rfl,⟨t,rfl⟩,h⟩;rcases h with⟨rfl,rfl⟩|⟨rfl,rfl⟩
   ·have ev:V.str x=v:=by simpa using fc
    subst ev;walk_at "c";refine⟨!inV (.str x) (g'.map V.str),.inl ⟨kc,_,rfl,.inl (SqL.of (s9 _ _ gj)),rfl,GK g',rfl⟩,?_⟩;rw[E7];cases hc:g'.contains x with
    |true=>exact⟨rfl,⟨_,rfl⟩,.inr ⟨rfl,by rw[hc]; rfl⟩⟩
    |false=>exact⟨rfl,⟨_,rfl⟩,.inr ⟨rfl,by rw[hc]; rfl⟩⟩
   ·simp at fc
  ·rintro ys fe H' ⟨rfl,_,h⟩ pc fq;rcases h with⟨h,_⟩|⟨_,rfl⟩
   ·exact absurd h (by simp)
   have sa:=A5 fq (HO.lst ((if g'.contains x then [] else [x]).map V.str));refine⟨_,rfl,_,sa _ _ (s9 _ _ gj),_,A4,?_,fun pk gp=>?_⟩
   ·have e1:((if g'.contains x then [] else [x]).map V.str).length<=1:=by split<;>simp
    rw[y4];exact zl _ (by lia)
   ·have sb:=A5 gp (HO.lst (g'.map V.str++(if g'.contains x then [] else [x]).map V.str));have fX:=s9.trans (sa.trans sb);have gt:pk≠R:=fun z=>by
     have:=(s9.trans sa) _ _ fg;rw[<- z,gp] at this;cases this
    refine⟨pk,vs++[V.ref pt],b++[D.set x t1],g'++(if g'.contains x then [] else [x]),_,_,_,_,_,_,_,_,_,rfl,fh.trans fX,fX _ _ fg,?_,?_,gt,fV.snoc (KnowsD.set k1 ?_),?_,by rw[yc,y0d,fk],?_,?_,.inr ((fh.trans (s9.trans sa)).free gp)⟩
    ·rw[GI];exact(dv.kp (M.kp.trans (k8.trans fX.kp))).append (.cons (dt.kp (k8.trans fX.kp)) .nil)
    ·rw[A4,yp]
    ·intro y hy;rcases List.mem_append.mp hy with hy|hy
     ·exact .inl hy
     ·cases hc:g'.contains x with
      |true=>rw[hc] at hy; simp at hy
      |false=>rw[hc] at hy; simp at hy; exact .inr hy
    ·intro y hy;rcases List.mem_append.mp hy with hy|hy
     ·exact G y hy
     ·cases hc:g'.contains x with
      |true=>rw[hc] at hy; simp at hy
      |false=>rw[hc] at hy; simp at hy; rw[hy]; exact hx
    ·intro c hc;rcases List.mem_append.mp hc with hc|hc
     ·exact fz c hc
     ·have ec:c=D.set x t1:=by simpa using hc
      subst ec;exact⟨hx,k1.mono G (by decide)⟩
    ·have e1:(if g'.contains x then [] else [x]).length<=1:=by split<;>simp
     rw[yc,y50];have:=pg1 d;lia
theorem bY:FnOk P w K mg base CX0 k f fd ["_law_script","_law_at","_law_known","_law_deep"] (Eu K 0):=by
 have q:∀vs H Q E,¬ Eu K 0 vs H Q E:=fun vs H Q E h=>by
  obtain⟨a,ns,k,z,g,d,_,_,_,_,_,h1,h2,_⟩:=h;lia
 exact⟨fun vs H Q E h=>absurd h (q vs H Q E),fun A outer s H args us vs Q E _ _ _ _ h=>absurd h (q vs H Q E)⟩
theorem R1(q:Df K mg "_law_block" Ac ["_law_script","_law_at","_law_known","_law_deep"] f fd) (b_range:mg "range" = none) (b_tuple:mg "tuple" = none) (c_law_pick:Callee P w K mg base "_law_pick" ["_law_script","_law_k","_law_many"] 2 (Cl K))
  (c_law_sum:Callee P w K mg base "_law_sum" ["_law_script","_law_at","_law_known","_law_deep"] 6 (DK K 3)) (c_law_counted:Callee P w K mg base "_law_counted" ["_law_script","_law_at","_law_known","_law_body","_law_deep"] 7 (MB K)) :
  ∀n:Nat,Callee P w K mg base "_law_block" ["_law_script","_law_at","_law_known","_law_deep"] (n+7) (Eu K n)
 |0=>q.callee bY
 |n+1=>q.callee (bX q.F b_range b_tuple c_law_pick c_law_sum c_law_counted (R1 q b_range b_tuple c_law_pick c_law_sum c_law_counted n))
abbrev Rw:=Str×Int×Int
noncomputable def BM(r:Rw):Dm:=.tup [.str r.1,.int r.2.1,.int r.2.2]
noncomputable def pair:List Str:=["a","b"]
def bZ(H:Hp)(a:Addr)(k:Int)(z:Addr)(j:Nat)(σ:St)(q:Hp):Prop:=∃(vs:List V) (rows:List Rw) (F B:Option V),σ=[some (.ref a),some (.int k),some (.ref z),F,B]/\Same H q/\q z=some (.lst vs)/\DtA q vs (rows.map BM)/\rows.length=j/\rows.map (·.1)=pair.take j/\∀r∈rows,(-6<=r.2.1/\r.2.1<=r.2.2/\r.2.2<=8)/\r.2.2<=r.2.1+2
def be(U:Hp)(rows:List Rw)(i:Nat)(ys:List V)(q:St)(H':Hp):Prop:=H'=U/\(∃t,q=[t])/\ys=(rows.take i).map fun r=>V.str r.1
structure okRows(rows:List Rw):Prop where
 len:rows.length<=2
 nm:rows.map (·.1)=pair.take rows.length
 lo:∀r∈rows,-6<=r.2.1/\r.2.1<=r.2.2/\r.2.2<=8
 wide:∀r∈rows,r.2.2<=r.2.1+2
def R3(K:ya):Sp:=fun vs H Q _=>∃(a:Addr) (ns:List Int) (k:Int),vs=[.ref a,.int k]/\SqL K H a (ns.map V.int)/\0<=k/\
 ∀(r q z:Addr) (H':Hp) (rows:List Rw) (b:List D) (g':List Str),Same H H'->H' r=some (.tup [.ref q,.ref z])->Dt H' (.ref q) (.tup (rows.map BM))->Dt H' (.ref z) (.tup (AU b))->okRows rows->okB 3 b->b.length<=3->b≠[]->Knows (rows.map (·.1)) b g'->Q (.ref r) H'
theorem bf(F:Fun K "_law_program" "_law_program" Bf f fd) (b_range:mg "range" = none) (b_tuple:mg "tuple" = none) (c_law_pick:Callee P w K mg base "_law_pick" ["_law_script","_law_k","_law_many"] 2 (Cl K))
  (c_law_block:Callee P w K mg base "_law_block" ["_law_script","_law_at","_law_known","_law_deep"] 10 (Eu K 3)):FnOk P w K mg base CX0 11 f fd ["_law_script","_law_at"] (R3 K):=by
 refine F.ok sc_law_program (fun vs H Q E h=>?_) (fun fZ A outer s H vs Q E hr h=>?_)
 ·obtain⟨a,ns,k,rfl,_⟩:=h;rfl
 obtain⟨a,ns,k,rfl,hS,h0,q⟩:=h;refine⟨_,(A6 (AN (i:=2) sc_law_program.nd rfl Zl (Ab A2) (AF rfl))
 (A6 (BD y0m rfl (JW Zj b_range (A1 (AH c_law_pick hr (by lia) (A1 (A0 0 rfl IW) (A1 (A0 1 rfl IV) (A1 A3 A2))) LX BG) A2)) (AO (i:=3) sc_law_program.nd rfl Zm)
 (A6 (AN (i:=4) sc_law_program.nd rfl Zn (AA Cy (AH c_law_pick hr (by lia) (A1 (A0 0 rfl IW) (A1 (AA AY (AA AY (A0 1 rfl IV) A3) (AA By A3 (A0 3 rfl LZ))) (A1 A3 A2))) LX BG) A3) (AF rfl))
 (A7 (Az (BQ y0a y0r y0q C9 (A0 2 rfl LY) (A1 (AI (A1 (A9 ix_list (Ab (A1 AD (A1 AD A2))) (A0 3 rfl LZ) (fun _ _=>rfl)) (A1 (A0 4 rfl QW) (A1 (AA AY (A0 4 rfl QW) (AH c_law_pick hr (by lia) (A1 (A0 0 rfl IW) (A1 (AA AY (AA AY (A0 1 rfl IV) A3) (AA By A3 (A0 3 rfl LZ))) (A1 A3 A2))) LX BG)) A2)))) A2)) (AF rfl)))))
 (A7 (AG (AI (A1 (D3 HA Zk b_tuple Fo (A1 (A0 2 rfl LY) A2) Fs Fr) (A1 (A9 ix_tup (AH c_law_block hr (by lia) (A1 (A0 0 rfl IW) (A1 (AA AY (A0 1 rfl IV) A3) (A1 (Cb ["_law_row"] [none] rfl (CompS.of (by rfl)) (BZ (A0 2 rfl LY)) (fun _ _ _ _ _=>(AO (i:=0) (show List.Nodup (["_law_row"]:List Str) from by decide+kernel) rfl (Or.inl rfl))) (fun _ _ _ _ _=>D2) (fun _ _ _ _ _=>(A9 (ixK (r:=CM) (K:=K) ix_tup rfl) (Ae (i:=0) rfl (by walk_at "vc") Pg Pb) A3 (fun _ _=>rfl)))) (A1 A3 A2)))) Zi IH) A3 (fun _ _=>rfl)) A2))))))),?_⟩
 walk_at "c";refine⟨yo _,fun pi fe=>?_⟩;have s1:=A5 fe (HO.lst []);refine⟨a,ns,k,3,rfl,s1.seq hS,h0,by decide,fun i H2 i0 i1 s2=>?_⟩;refine⟨_,rfl,by lia,by lia,?_⟩;refine JX (lo:=0) (n:=i.toNat) (bZ H a k pi) ?s ?t ?d
 case s=>exact⟨[],[],none,none,rfl,s1.trans s2,s2 _ _ A4,.nil,rfl,rfl,fun r hr=>absurd hr (by simp)⟩
 case t=>
  rintro j σ Hc hj ⟨vs,rows,x3,x4,rfl,sc,hv,dv,hl,J,M⟩;have G:vs.length=j:=by rw[dv.length,y4,hl]
  walk_at "c";refine⟨.inl ⟨by decide,by decide⟩,?_⟩;refine⟨a,ns,_,13,rfl,sc.seq hS,by lia,by decide,fun lo H3 l0 l1 s3=>?_⟩;walk_at "c";refine⟨.inl ⟨rfl,_,SqL.of (s3 _ _ hv)⟩,zl 2 (by decide),fun pm fu=>?_⟩;have s4:=A5 fu (HO.lst [V.str "a",V.str "b"]);have fX:j=0\/j=1:=by lia
  obtain⟨x,ex,et⟩:∃x:Str,atI (pair.map V.str) (0+(j:Int))=some (V.str x)/\pair.take (j+1)=pair.take j++[x]:=by
   rcases fX with rfl|rfl
   ·exact⟨"a",rfl,rfl⟩
   ·exact⟨"b",rfl,rfl⟩
  refine⟨_,SqL.of A4,_,ex,.inl ⟨by decide,by decide⟩,?_⟩;refine⟨a,ns,_,3,rfl,((sc.trans s3).trans s4).seq hS,by lia,by decide,fun z H4 z0 z1 s5=>?_⟩;refine⟨_,rfl,zl 3 (by decide),fun pt fq=>?_⟩;have s6:=A5 fq (HO.tup [V.str x,V.int (lo-6),V.int (lo-6+z)]);have dt:Dt (upd H4 pt (HO.tup [V.str x,V.int (lo-6),V.int (lo-6+z)])) (.ref pt) (BM (x,lo-6,lo-6+z)):=.tup A4 (.cons (.str _) (.cons (.int _) (.cons (.int _) .nil)));have B:=s3.trans (s4.trans (s5.trans s6));generalize upd H4 pt (HO.tup [V.str x,V.int (lo-6),V.int (lo-6+z)])=U at s6 dt B |-;refine⟨vs,B _ _ hv,by rw[G]; exact BH (by lia),?_⟩;have k8:Kp U (upd U pi (HO.lst (vs++[V.ref pt]))):=Kp.set (B _ _ hv);refine⟨vs++[V.ref pt],rows++[(x,lo-6,lo-6+z)],_,_,rfl,CG (sc.trans B) fe,A4,?_,by rw[yc,y0d,hl],?_,?_⟩
  ·rw[yp];exact(dv.kp (B.kp.trans k8)).append (.cons (dt.kp k8) .nil)
  ·rw[yp,J,et]; rfl
  ·intro r hr';rcases List.mem_append.mp hr' with hr'|hr'
   ·exact M r hr'
   ·have er:r=(x,lo-6,lo-6+z):=by simpa using hr'
    subst er;show(-6<=lo-6/\lo-6<=lo-6+z/\lo-6+z<=8)/\lo-6+z<=lo-6+2;lia
 case d=>
  rintro σ Hc ⟨vs,rows,x3,x4,rfl,sc,hv,dv,hl,J,M⟩;walk_at "c";have G:vs.length=i.toNat:=by rw[dv.length,y4,hl]
  refine⟨vs,.inl ⟨SqL.of hv,fun pb fz=>?_⟩⟩;have sa:=A5 fz (HO.tup vs);have fh:Dt _ (.ref pb) (.tup (rows.map BM)):=.tup A4 (dv.kp sa.kp);have Z:=sa _ _ hv;have fg:=dv.kp sa.kp;generalize upd Hc pb (HO.tup vs)=U at sa fh Z fg |-;refine⟨⟨_,SqL.of Z⟩,?_⟩;refine Dc (K:=K) (a:=pi) (xs:=vs) (be U rows) ⟨rfl,⟨none,rfl⟩,rfl⟩ (by rw[G]; exact BH (by lia)) ?_ ?_ ?_ ?_
  ·rintro i ys O H' ⟨_,_,rfl⟩;rw[y4,y04];lia
  ·rintro i ys O H' _ ⟨rfl,_,_⟩;exact SqL.of Z
  ·rintro i' ys v O H' fk ⟨rfl,⟨t,rfl⟩,rfl⟩;obtain⟨d,hd,dd⟩:=fg.get fk;rw[y0k] at hd;cases hr':rows[i']? with
   |none=>rw[hr'] at hd; cases hd
   |some r=>
    rw[hr'] at hd;have ed:BM r=d:=by simpa using hd
    subst ed;obtain⟨pa,xs,rfl,fV,da⟩:=dd.tupI;rcases da with _|⟨d1,_|⟨d3,_|⟨d5,_|_⟩⟩⟩
    ·cases d1;walk_at "c";refine⟨_,SqT.of fV,_,rfl,rfl,⟨_,rfl⟩,?_⟩;rw[y5k,hr',yp];rfl
  ·rintro ys O H' ⟨rfl,_,rfl⟩ pc fw;rw[show vs.length=rows.length by rw[G,hl],y0i];have sb:=A5 fw (HO.lst (rows.map fun r=>V.str r.1));have fc:Sub (rows.map (·.1)) pool:=by
    rw[J];intro y hy;have:=y1n hy;simp only[pair,y0f,y00,or_false] at this;rcases this with rfl|rfl<;>decide+kernel
   refine⟨a,ns,k+9,pc,rows.map (·.1),3,rfl,(sc.trans (sa.trans sb)).seq hS,by lia,?_,fc,by decide,by decide,by decide,by rw[y4]; lia,fun r rb rk H5 b g' s5 hr' db fY ob lb nb kn sp gl kf=>?_⟩
   ·rw[A4,y09]; rfl
   ·refine⟨_,rfl,_,SqT.of hr',_,rfl,zl 2 (by decide),fun pr ft=>?_⟩;have R:=A5 ft (HO.tup [V.ref pb,V.ref rb]);exact q pr pb rb _ rows b g' (sc.trans (sa.trans (sb.trans (s5.trans R)))) A4 (fh.kp (sb.trans (s5.trans R)).kp) (db.kp R.kp) ⟨by lia,by rw[J,hl],fun r h=>(M r h).1,fun r h=>(M r h).2⟩ ob lb nb kn
noncomputable def tyD:Dm->String
 |.non=>"NoneType" | .bl _=>"bool" | .int _=>"int" | .str _=>"str" | .tup _=>"tuple" | .lst=>"list"
theorem MC(h:Dt H v d):TyOf K H v (.type (tyD d)):=by
 cases h with
 |non=>exact .non
 |bl b=>exact .bl b
 |int i=>exact .int i
 |str x=>exact .str x
 |tup e _=>exact .tup e
 |lst e=>exact .lst e
noncomputable def isT:Dm->Bool
 |.tup _=>true
 |_=>false
noncomputable def isI:Dm->Bool
 |.int _=>true
 |.bl _=>true
 |_=>false
noncomputable def isB:Dm->Bool
 |.bl _=>true
 |_=>false
theorem bg(h:Dt H v d):∃t,TyOf K H v t/\PySem.W.kitOne K t (.type "tuple")=some (isT d):=⟨_,MC h,by cases d<;>rfl⟩
theorem B1(h:Dt H v (.tup [a,b])):∃p x y,v=.ref p/\H p=some (.tup [x,y])/\Dt H x a/\Dt H y b:=by
 obtain⟨p,xs,rfl,e,r⟩:=h.tupI;rcases r with _|⟨z,_|⟨q,_|_⟩⟩;exact⟨p,_,_,rfl,e,z,q⟩
theorem Bt(h:Dt H v (.tup [a,b,c])):∃p x y z,v=.ref p/\H p=some (.tup [x,y,z])/\Dt H x a/\Dt H y b/\Dt H z c:=by
 obtain⟨p,xs,rfl,e,r⟩:=h.tupI;rcases r with _|⟨F,_|⟨B,_|⟨q,_|_⟩⟩⟩;exact⟨p,_,_,_,rfl,e,F,B,q⟩
theorem Ev(h:Dt H v (.tup [a,b,c,d])):∃p x y z u,v=.ref p/\H p=some (.tup [x,y,z,u])/\Dt H x a/\Dt H y b/\Dt H z c/\Dt H u d:=by
 obtain⟨p,xs,rfl,e,r⟩:=h.tupI;rcases r with _|⟨G,_|⟨F,_|⟨B,_|⟨q,_|_⟩⟩⟩⟩;exact⟨p,_,_,_,_,rfl,e,G,F,B,q⟩
noncomputable def eqS(d:Dm)(z:Str):Bool:=match d with
 |.str x=>decide (x=z)
 |_=>false
theorem Cm(h:Dt H x d):FU K x (.str z) H (eqS d z):=by
 cases h with
 |str y=>exact .inl ⟨rfl,by show decide (y=z)=decide (V.str y=V.str z); simp⟩
 |tup e _=>exact .inr (.inr ⟨_,_,rfl,rfl,.inr ⟨_,SqT.of e⟩,rfl⟩)
 |lst e=>exact .inr (.inr ⟨_,_,rfl,rfl,.inl ⟨_,SqL.of e⟩,rfl⟩)
 |non=>exact .inl ⟨rfl,by simp[eqS]⟩
 |bl b=>exact .inl ⟨rfl,by simp[eqS]⟩
 |int i=>exact .inl ⟨rfl,by simp[eqS]⟩
noncomputable def D.term:D->T
 |.set _ t=>t
 |.ite t _ _=>t
 |.whl t _ _=>t
noncomputable def D.blocks:D->List (Int×List D)
 |.set _ _=>[]
 |.ite _ b c=>[(1,b),(2,c)]
 |.whl _ _ b=>[(1,b)]
noncomputable def T.deep:T->Nat
 |.op _ a b=>max a.deep b.deep+1
 |_=>1
abbrev RT:=List Int×T
abbrev RD:=List Int×D
noncomputable def C6(r:RT):Dm:=Uw (r.1,r.2.enc)
noncomputable def B2(p:List Int):T->List RT
 |.num i=>[(p,.num i)]
 |.nm x=>[(p,.nm x)]
 |.op w a b=>(p,.op w a b)::(B2 (p++[0]) a++B2 (p++[1]) b)
mutual
noncomputable def CU(p:List Int):D->List RD
 |.set x t=>[(p,.set x t)]
 |.ite t b c=>(p,.ite t b c)::(AT (p++[1]) 0 b++AT (p++[2]) 0 c)
 |.whl t m b=>(p,.whl t m b)::AT (p++[1]) 0 b
noncomputable def AT(p:List Int)(k:Int):List D->List RD
 |[]=>[]
 |d::r=>CU (p++[k]) d++AT p (k+1) r
end
noncomputable def Bu(p:List Int):List (Int×List D)->List RD
 |[]=>[]
 |q::r=>AT (p++[q.1]) 0 q.2++Bu p r
theorem R4(p:List Int)(d:D):CU p d=(p,d)::Bu p d.blocks:=by
 cases d<;>simp[CU,Bu,D.blocks]
theorem R5(p:List Int):∀(k:Int) (a b:List D),AT p k (a++b)=AT p k a++AT p (k+a.length) b
 |k,[],b=>by simp[AT]
 |k,d::a,b=>by
  rw[y1e,AT,AT,R5 p (k+1) a b,yn,yu];congr 3;lia
theorem bh(p:List Int)(a:List D)(d:D):AT p 0 (a++[d])=AT p 0 a++CU (p++[(a.length:Int)]) d:=by
 rw[R5,AT,AT,y0x,Int.zero_add]
theorem Ax{α:Type}{l:List α}{i:Nat}{x:α}(h:l[i]?=some x):l.take (i+1)=l.take i++[x]:=by
 rw[y5k,h]; rfl
noncomputable def bnd:Nat->Nat
 |0=>0
 |n+1=>6*(1+2*bnd n)
theorem R6(q:∀(b:List D) (p:List Int) (k:Int),okB n b->(AT p k b).length<=bnd n):∀(b:List D) (p:List Int) (k:Int),(∀d∈b,okD n d)->(AT p k b).length<=b.length*(1+2*bnd n)
 |[],p,k,_=>by simp[AT]
 |d::b,p,k,h=>by
  have h2:=R6 q b p (k+1) fun e z=>h e (.tail _ z);have h1:(CU (p++[k]) d).length<=1+2*bnd n:=by
   have hd:=h d (.head _);cases d with
   |set x t=>simp[CU]
   |ite t b c=>
    have B:=q b (p++[k]++[1]) 0 hd.2.1;have F:=q c (p++[k]++[2]) 0 hd.2.2;rw[CU,yu,yc];lia
   |whl t m b=>
    have B:=q b (p++[k]++[1]) 0 hd.2.2.2;rw[CU,yu];lia
  rw[AT,yc,yu,y50];lia
theorem MD:∀(n:Nat) (b:List D) (p:List Int) (k:Int),okB n b->(AT p k b).length<=bnd n
 |0,_,_,_,h=>h.elim
 |n+1,b,p,k,h=>by
  refine y0j (R6 (MD n) b p k fun d hd=>h.2 d hd) ?_;exact y0z _ h.1
theorem bi(h:n<=3):bnd n<=942:=by
 match n,h with
 |0,_=>decide
 |1,_=>decide
 |2,_=>decide
 |3,_=>decide
theorem R7:∀p:List Int,DtA H (p.map V.int) (p.map Dm.int)
 |[]=>.nil
 |i::p=>.cons (.int i) (R7 p)
theorem At(dx:Dt H x (AJ p))(B:Dt H y (AJ q))(hz:p.length+q.length<=1000)(h:∀z H',Same H H'->Dt H' z (AJ (p++q))->Q z H'):C0 K x y H Q:=by
 obtain⟨a,xs,rfl,ha,M⟩:=dx.tupI;obtain⟨b,ys,rfl,hb,J⟩:=B.tupI;have G:=EZ M;have F:=EZ J;subst G F;refine⟨a,b,_,_,rfl,rfl,SqT.of ha,SqT.of hb,?_,fun e=>?_,fun _ e=>?_,fun _ _ r hr=>?_⟩
 ·rw[y4,y4];exact y12 (BH hz)
 ·have:p=[]:=by simpa using e
  subst this;exact h _ _ (Same.refl _) B
 ·have:q=[]:=by simpa using e
  subst this;rw[y0x] at h;exact h _ _ (Same.refl _) dx
 ·refine h _ _ (A5 hr _) (.tup A4 ?_);rw[<- yp];exact R7 _
theorem Au:Dt (upd H r (.tup [.int i])) (.ref r) (AJ [i]):=.tup A4 (.cons (.int i) .nil)
theorem R8:∀(b:List D) (i:Nat),(AU b)[i]?=(b[i]?).map D.enc
 |[],i=>by simp[AU]
 |d::b,0=>by simp[AU]
 |d::b,i+1=>by simp[AU,R8 b i]
theorem ME{H:Hp}{xs:List V}{b:List D}{i:Nat}{x:V}(h:DtA H xs (AU b))(hx:xs[i]?=some x):∃d,b[i]?=some d/\Dt H x d.enc:=by
 obtain⟨e,q,z⟩:=h.get hx;rw[R8] at q;cases hb:b[i]? with
 |none=>rw[hb] at q; cases q
 |some d=>
  rw[hb] at q;have:d.enc=e:=by simpa using q
  subst this;exact⟨d,rfl,z⟩
theorem BV{α:Type}{f:α->Dm}{H:Hp}{xs:List V}{b:List α}{i:Nat}{x:V}(h:DtA H xs (b.map f))(hx:xs[i]?=some x):∃d,b[i]?=some d/\Dt H x (f d):=by
 obtain⟨e,q,z⟩:=h.get hx;rw[y0k] at q;cases hb:b[i]? with
 |none=>rw[hb] at q; cases q
 |some d=>
  rw[hb] at q;have:f d=e:=by simpa using q
  subst this;exact⟨d,rfl,z⟩
theorem MF:∀(t:T) (p:List Int),(B2 p t).length<2^t.deep
 |.num i,p=>by simp[B2,T.deep]
 |.nm x,p=>by simp[B2,T.deep]
 |.op w a b,p=>by
  have h1:=MF a (p++[0]);have h2:=MF b (p++[1]);have z:2^a.deep<=2^max a.deep b.deep:=y3l (by decide) (by lia);have q:2^b.deep<=2^max a.deep b.deep:=y3l (by decide) (by lia);rw[B2,T.deep,yu,yc,y42];lia
theorem Ih(h:t.deep<=n)(q:n<=6):(B2 p t).length<=64:=by
 have h1:=MF t p;have h2:2^t.deep<=2^6:=y3l (by decide) (by lia);lia
theorem bj{p:List Int}{b:List D}{i:Nat}{d:D}(h:b[i]?=some d):AT p 0 (b.take (i+1))=AT p 0 (b.take i)++(p++[(i:Int)],d)::Bu (p++[(i:Int)]) d.blocks:=by
 have q:i<b.length:=(zzS h).1;have e:(b.take i).length=i:=by rw[y04]; lia
 rw[Ax h,bh,R4,e]
theorem R9(h:okD n d)(hm:nb∈d.blocks):okB n nb.2:=by
 cases d with
 |set x t=>simp[D.blocks] at hm
 |ite t b c=>
  simp only[D.blocks,y0f,y00,or_false] at hm;rcases hm with rfl|rfl
  ·exact h.2.1
  ·exact h.2.2
 |whl t m b=>
  simp only[D.blocks,y0f,y00,or_false] at hm;subst hm;exact h.2.2.2
theorem zz(h:n<=10000):n<=ym:=y0j h (by decide)
noncomputable def upto(d:D)(j:Nat):List (Int×List D):=match d with
 |.set _ _=>[]
 |.ite _ b c=>[(1,b),(2,c)].take (j-2)
 |.whl _ _ b=>[(1,b)].take (j-3)
noncomputable def D.items:D->List Dm
 |.set x t=>[.str "set",.str x,t.enc]
 |.ite t b c=>[.str "if",t.enc,.tup (AU b),.tup (AU c)]
 |.whl t m b=>[.str "while",t.enc,.int m,.tup (AU b)]
theorem bn{H:Hp}{v:V}{d:D}(h:Dt H v d.enc):∃a xs,v=.ref a/\H a=some (.tup xs)/\DtA H xs d.items:=by
 cases d<;>(rw[D.enc] at h; exact h.tupI)
theorem E8:∀{n:Nat} {t:T},T.ok g n t->t.deep<=n
 |0,_,h=>h.elim
 |n+1,.num i,_=>by simp[T.deep]
 |n+1,.nm x,_=>by simp[T.deep]
 |n+1,.op w a b,h=>by
  have h1:=E8 h.1;have h2:=E8 h.2;simp only[T.deep];lia
theorem RA(h:okD n d):T.ok pool 5 d.term:=by
 cases d with
 |set x t=>exact h.2
 |ite t b c=>exact h.1
 |whl t m b=>exact h.1
theorem RB(F:∀(b:List D) (p:List Int) (k:Int),okB n b->∀r∈AT p k b,r.1.length<=p.length+2*n/\T.ok pool 5 r.2.term):∀(b:List D) (p:List Int) (k:Int),(∀d∈b,okD n d)->∀r∈AT p k b,r.1.length<=p.length+2*(n+1)/\T.ok pool 5 r.2.term
 |[],p,k,_,r,hr=>by simp[AT] at hr
 |d::b,p,k,h,r,hr=>by
  rw[AT,y33] at hr;rcases hr with hr|hr
  ·have hd:=h d (.head _);rw[R4,y0f] at hr;rcases hr with rfl|hr
   ·exact⟨by simp; lia,RA hd⟩
   ·have key:∀l:List (Int×List D),(∀q∈l,q∈d.blocks)->r∈Bu (p++[k]) l->r.1.length<=p.length+2*(n+1)/\T.ok pool 5 r.2.term:=by
     intro l;induction l with
     |nil=>intro _ hr; simp[Bu] at hr
     |cons q l B=>
      intro G hr;rw[Bu,y33] at hr;rcases hr with hr|hr
      ·have:=F q.2 (p++[k]++[q.1]) 0 (R9 hd (G q (.head _))) r hr;exact⟨by have:=this.1; simp at this; lia,this.2⟩
      ·exact B (fun z hz=>G z (.tail _ hz)) hr
    exact key d.blocks (fun _ z=>z) hr
  ·exact RB F b p (k+1) (fun e J=>h e (.tail _ J)) r hr
theorem MG:∀(n:Nat) (b:List D) (p:List Int) (k:Int),okB n b->∀r∈AT p k b,r.1.length<=p.length+2*n/\T.ok pool 5 r.2.term
 |0,_,_,_,h=>h.elim
 |n+1,b,p,k,h=>RB (MG n) b p k h.2
noncomputable def Ag:List RD->List RT
 |[]=>[]
 |r::l=>B2 (r.1++[0]) r.2.term++Ag l
theorem Ii:∀(a b:List RD),Ag (a++b)=Ag a++Ag b
 |[],b=>by simp[Ag]
 |r::a,b=>by rw[y1e,Ag,Ag,Ii a b,yn]
theorem MJ:∀(l:List RD),(∀r∈l,T.ok pool 5 r.2.term)->(Ag l).length<=l.length*64
 |[],_=>by simp[Ag]
 |r::l,h=>by
  have h1:=Ih (p:=r.1++[0]) (E8 (h r (.head _))) (by decide:5<=6);have h2:=MJ l fun z hz=>h z (.tail _ hz);rw[Ag,yc,yu,y50];lia
theorem Ew(h:n<=200000):n<=ym:=y0j h (by decide)
noncomputable def Ex(b:List D):List RD:=AT [] 0 b
noncomputable def DL(b:List D):List RT:=Ag (Ex b)
def okW:Nat->List D->Prop
 |0,_=>False
 |n+1,b=>b.length<=7/\∀d∈b,match d with
  |.set x t=>x∈pool/\t.ok pool 5
  |.ite t b c=>t.ok pool 5/\okW n b/\okW n c
  |.whl t m b=>t.ok pool 5/\okW n b
abbrev GL(n:Nat)(d:D):Prop:=match d with
 |.set x t=>x∈pool/\t.ok pool 5
 |.ite t b c=>t.ok pool 5/\okW n b/\okW n c
 |.whl t m b=>t.ok pool 5/\okW n b
theorem CI:∀{n:Nat} {b:List D},okB n b->okW n b
 |0,_,h=>h.elim
 |n+1,b,h=>⟨y0j h.1 (by decide),fun d hd=>by
  have:=h.2 d hd
  cases d with
  |set x t=>exact this
  |ite t b c=>exact⟨this.1,CI this.2.1,CI this.2.2⟩
  |whl t m b=>exact⟨this.1,CI this.2.2.2⟩⟩
theorem bo(h:okD n d):GL n d:=by
 cases d with
 |set x t=>exact h
 |ite t b c=>exact⟨h.1,CI h.2.1,CI h.2.2⟩
 |whl t m b=>exact⟨h.1,CI h.2.2.2⟩
theorem E9:∀{n:Nat} {b:List D},okW n b->okW (n+1) b
 |0,_,h=>h.elim
 |n+1,b,h=>⟨h.1,fun d hd=>by
  have:=h.2 d hd
  cases d with
  |set x t=>exact this
  |ite t b c=>exact⟨this.1,E9 this.2.1,E9 this.2.2⟩
  |whl t m b=>exact⟨this.1,E9 this.2⟩⟩
noncomputable def D.kind:D->Str
 |.set _ _=>"set"
 |.ite _ _ _=>"if"
 |.whl _ _ _=>"while"
theorem bp{H:Hp}{v:V}{d:D}(h:Dt H v d.enc):∃a xs,v=.ref a/\H a=some (.tup (.str d.kind::xs))/\DtA H (.str d.kind::xs) d.items:=by
 obtain⟨a,xs,e,ha,dx⟩:=bn h;have key:∃ys,xs=.str d.kind::ys:=by
  cases d<;>(cases dx with|cons q _=>cases q; exact⟨_,rfl⟩)
 obtain⟨ys,rfl⟩:=key;exact⟨a,ys,e,ha,dx⟩
def Fine(n:Nat)(d:Dm):Prop:=d.shut=true/\d.dat.canLay0=true/\d.dat.depth<=n
theorem Fine.mono(h:Fine n d)(k:n<=m):Fine m d:=⟨h.1,h.2.1,y0j h.2.2 k⟩
theorem Ij:∀{ds:List Dm},(∀d∈ds,Fine n d)->CP ds=true/\PyData.canLayAll0 (Aj ds)=true/\PyData.depthAll (Aj ds)<=n
 |[],_=>⟨by simp[CP],by simp[Aj,PyData.canLayAll0],by simp[Aj,PyData.depthAll]⟩
 |d::ds,h=>by
  obtain⟨a,b,c⟩:=Ij (ds:=ds) fun e q=>h e (.tail _ q);obtain⟨x,y,z⟩:=h d (.head _);refine⟨by simp[CP,x,a],by simp[Aj,PyData.canLayAll0,y,b],?_⟩;simp only[Aj,PyData.depthAll];lia
theorem Cn(h:∀d∈ds,Fine n d):Fine (n+1) (.tup ds):=by
 obtain⟨a,b,c⟩:=Ij h;exact⟨by simpa [Dm.shut] using a,by simpa [Dm.dat,PyData.canLay0] using b,by simp only[Dm.dat,PyData.depth]; lia⟩
theorem Ik(n:Nat)(i:Int):Fine n (.int i):=⟨by simp[Dm.shut],by simp[Dm.dat,PyData.canLay0],by simp[Dm.dat,PyData.depth]⟩
theorem DM(n:Nat)(h:PyData.strOk x=true):Fine n (.str x):=⟨by simpa [Dm.shut] using h,by simpa [Dm.dat,PyData.canLay0] using h,by simp[Dm.dat,PyData.depth]⟩
theorem Fine.eq(h:Fine n d)(k:n<=64):d.shut=true/\SeqAt.shaped d.dat=true:=⟨h.1,by
 unfold SeqAt.shaped
 rw[h.2.1,y2i,decide_eq_true_eq]
 exact y0j h.2.2 k⟩
theorem bq:∀x∈pool,PyData.strOk x=true:=by
 intro x hx;simp only[pool,y0f,y00,or_false] at hx;rcases hx with rfl|rfl|rfl|rfl<;>decide+kernel
theorem DN(p:List Int):Fine 1 (AJ p):=Cn fun d hd=>by
 obtain⟨i,_,rfl⟩:=List.mem_map.mp hd;exact Ik _ _
theorem RC(h:d.canLay0=true):PyData.eqv d d=true:=SeqAt.eqv_refl d h
theorem RE:∀(l m:List Str),l.Nodup->(∀x∈l,x∈m)->l.length<=m.length
 |[],m,_,_=>by simp
 |x::l,m,h,z=>by
  rw[y3p] at h;have hx:=z x (.head _);have B:=RE l (m.erase x) h.2 fun y hy=>by
   have q:y≠x:=fun e=>h.1 (e ▸ hy);exact(List.mem_erase_of_ne q).mpr (z y (.tail _ hy))
  have e:=List.length_erase_of_mem hx;have F:=List.length_pos_of_mem hx;rw[yu];lia
theorem br(h:okB 3 b):(DL b).length<=100000:=by
 have h1:=MJ (Ex b) fun r hr=>(MG 3 b [] 0 h r hr).2;have h2:(Ex b).length<=bnd 3:=MD 3 b [] 0 h;have B:bnd 3=942:=by decide
 have z:(Ex b).length*64<=942*64:=y0z _ (by lia);have q:(DL b).length=(Ag (Ex b)).length:=rfl;lia
noncomputable def DO(x:Str):Int:=if x = "a" then 0 else if x = "b" then 1 else if x = "c" then 2 else 3
theorem bt:∀x∈pool,∀y∈pool,PySem.Spec.ltCps y.cps.toList x.cps.toList=false->DO x<=DO y:=by
 intro x hx y hy;simp only[pool,y0f,y00,or_false] at hx hy;rcases hx with rfl|rfl|rfl|rfl<;>rcases hy with rfl|rfl|rfl|rfl<;>decide+kernel
theorem RF:∀(l:List Str) (p:Str),p∈pool->(∀x∈l,x∈pool)->PyProof.Rows.risingS p l=true->((p::l).map DO).Pairwise (· <= ·)
 |[],p,_,_,_=>by simp
 |x::l,p,B,z,h=>by
  rw[PyProof.Rows.risingS,y05] at h;have q:=RF l x (z x (.head _)) (fun y hy=>z y (.tail _ hy)) h.2;have h1:=bt p B x (z x (.head _)) (by simpa using h.1);rw[yj,y5f];refine⟨fun i hi=>?_,q⟩;rw[yj,y5f] at q;rw[yj] at hi;rcases List.mem_cons.mp hi with rfl|hi
  ·exact h1
  ·exact Int.le_trans h1 (q.1 i hi)
theorem bx(q:∀x∈l,x∈pool)(h:PyProof.Rows.sortedS l=true):(l.map DO).Pairwise (· <= ·):=by
 cases l with
 |nil=>simp
 |cons x l=>exact RF l x (q x (.head _)) (fun y hy=>q y (.tail _ hy)) h
theorem MK{p:List Int}{b:List D}{i:Nat}{d:D}(h:b[i]?=some d):Ag (AT p 0 (b.take (i+1)))=Ag (AT p 0 (b.take i))++(B2 (p++[(i:Int)]++[0]) d.term++Ag (Bu (p++[(i:Int)]) d.blocks)):=by
 rw[bj h,Ii,Ag]
def bz(H:Hp)(ab:Addr)(pv:V)(p:List Int)(b:List D)(z:Addr)(i:Nat)(σ:St)(q:Hp):Prop:=∃(vs:List V) (G F B:Option V),σ=[some (.ref ab),some pv,some (.ref z),G,F,B]/\Same H q/\q z=some (.lst vs)/\DtA q vs ((Ag (AT p 0 (b.take i))).map C6)
theorem RG(h:okB n b)(q:n<=3):(Ag (AT p k b)).length<=942*64:=by
 have h1:=MJ (AT p k b) fun r hr=>(MG n b p k h r hr).2;have h2:=MD n b p k h;have B:=bi q;have z:(AT p k b).length*64<=942*64:=y0z _ (by lia);lia
theorem c6(h:okB n b)(i:Nat):okB n (b.take i):=by
 cases n with
 |zero=>exact h.elim
 |succ n=>exact⟨by rw[y04]; have:=h.1; lia,fun d hd=>h.2 d (y1n hd)⟩
theorem c7(q:List Int)(x:Str)(t:T):Ag (Bu q (D.set x t).blocks)=[]:=rfl
theorem c8(q:List Int)(t:T)(b c:List D):Ag (Bu q (D.ite t b c).blocks)=Ag (AT (q++[1]) 0 b)++Ag (AT (q++[2]) 0 c):=by simp[D.blocks,Bu,Ii]
theorem c9(q:List Int)(t:T)(m:Int)(b:List D):Ag (Bu q (D.whl t m b).blocks)=Ag (AT (q++[1]) 0 b):=by simp[D.blocks,Bu,Ii]
noncomputable def T.word:T->Str
 |.num _=>"num"
 |.nm _=>"name"
 |.op w _ _=>w.str
noncomputable def ten:List Str:=["num","name","add","sub","mul","quo","less","same","min","max"]
abbrev Cnt:=List (Str×Int)
noncomputable def kvC(c:Cnt):List (Key×V):=c.map fun p=>((Sum.inr p.1:Key),V.int p.2)
noncomputable def Ay(c:Cnt)(x:Str):Option Int:=(c.find? fun p=>decide (p.1=x)).map (·.2)
noncomputable def BN(c:Cnt)(x:Str)(i:Int):Cnt:=if(c.any fun p=>decide (p.1=x))=true then c.map (fun p=>if p.1=x then(p.1,i) else p) else c++[(x,i)]
theorem inr_eq:((Sum.inr x:Key)=Sum.inr y)↔x=y:=⟨fun h=>by injection h,fun h=>by rw[h]⟩
theorem Il(x:Str):∀c:Cnt,B9 (kvC c) (Sum.inr x)=(Ay c x).map V.int
 |[]=>rfl
 |p::c=>by
  have q:=Il x c;unfold B9 kvC Ay at q |-;rw[yj,y0o,y0o];by_cases e:p.1=x
  ·simp[e]
  ·have B:¬ (Sum.inr p.1:Key)=Sum.inr x:=fun z=>e (inr_eq.mp z);simp only[e,B,decide_false];exact q
theorem cA(x:Str)(c:Cnt):((kvC c).any fun kv=>decide (kv.1=Sum.inr x))=c.any fun p=>decide (p.1=x):=by
 unfold kvC;rw[List.any_map];congr 1;funext p;show decide ((Sum.inr p.1:Key)=Sum.inr x)=decide (p.1=x);by_cases e:p.1=x
 ·rw[decide_eq_true e,decide_eq_true (inr_eq.mpr e)]
 ·rw[decide_eq_false e,decide_eq_false fun z=>e (inr_eq.mp z)]
theorem Im(x:Str)(i:Int)(c:Cnt):An (kvC c) (Sum.inr x) (V.int i)=kvC (BN c x i):=by
 unfold An BN;rw[cA];split
 ·unfold kvC;rw[y09,y09];refine y16 fun p _=>?_;show(if(Sum.inr p.1:Key)=Sum.inr x then _ else _)=_;by_cases e:p.1=x
  ·simp[e]
  ·simp[e]
 ·simp[kvC]
noncomputable def q97(c:Cnt):Int:=(c.map (·.2)).sum
theorem RH(c:Cnt)(x:Str)(i:Int):(BN c x i).map (·.1)=if x∈c.map (·.1) then c.map (·.1) else c.map (·.1)++[x]:=by
 unfold BN;have q:(c.any fun p=>decide (p.1=x))=true↔x∈c.map (·.1):=by
  rw[List.any_eq_true,List.mem_map];constructor
  ·rintro⟨p,B,e⟩; exact⟨p,B,of_decide_eq_true e⟩
  ·rintro⟨p,B,e⟩; exact⟨p,B,decide_eq_true e⟩
 by_cases h:x∈c.map (·.1)
 ·rw[if_pos (q.mpr h),if_pos h,y09];refine y16 fun p _=>?_;show(if p.1=x then(p.1,i) else p).1=p.1;split<;>rfl
 ·rw[if_neg fun z=>h (q.mp z),if_neg h,yp];rfl
theorem RJ{H:Hp}{v:V}{t:T}(h:Dt H v t.enc):∃a y xs,v=.ref a/\H a=some (.tup (.str t.word::y::xs)):=by
 cases t with
 |num i=>
  rw[T.enc] at h;obtain⟨a,B,z,rfl,ha,q,F⟩:=B1 h;cases q;exact⟨_,_,_,rfl,ha⟩
 |nm x=>
  rw[T.enc] at h;obtain⟨a,B,z,rfl,ha,q,F⟩:=B1 h;cases q;exact⟨_,_,_,rfl,ha⟩
 |op w a b=>
  rw[T.enc] at h;obtain⟨a,B,z,G,rfl,ha,q,F,J⟩:=Bt h;cases q;exact⟨_,_,_,rfl,ha⟩
theorem cB{H:Hp}{v:V}{d:D}(h:Dt H v d.enc):∃a xs,v=.ref a/\H a=some (.tup (.str d.kind::xs)):=by
 cases d with
 |set x t=>
  rw[D.enc] at h;obtain⟨a,F,B,z,rfl,ha,q,J,G⟩:=Bt h;cases q;exact⟨_,_,rfl,ha⟩
 |ite t b c=>
  rw[D.enc] at h;obtain⟨a,F,B,z,M,rfl,ha,q,J,G,O⟩:=Ev h;cases q;exact⟨_,_,rfl,ha⟩
 |whl t m b=>
  rw[D.enc] at h;obtain⟨a,F,B,z,M,rfl,ha,q,J,G,O⟩:=Ev h;cases q;exact⟨_,_,rfl,ha⟩
theorem AW:atI (x::xs) 0=some x:=AV (j:=0) rfl
theorem RK(h:H p=some (.dK c)):Kp H (upd H p (.dK e)):=
 ⟨fun b zs q=>by rw[A8 (AM q h (by intro z; cases z))]; exact q,fun b zs q=>⟨zs,by rw[A8 (AM q h (by intro z; cases z))]; exact q⟩⟩
theorem KF(dx:Dt H x (.tup ds))(q:Dt H y (.tup es))(hz:ds.length+es.length<=1000)(h:∀z H',Same H H'->Dt H' z (.tup (ds++es))->Q z H'):C0 K x y H Q:=by
 obtain⟨a,xs,rfl,ha,F⟩:=dx.tupI;obtain⟨b,ys,rfl,hb,B⟩:=q.tupI;have J:=F.length;have G:=B.length;refine⟨a,b,_,_,rfl,rfl,SqT.of ha,SqT.of hb,?_,fun e=>?_,fun _ e=>?_,fun _ _ r hr=>?_⟩
 ·exact y12 (BH (by lia))
 ·subst e;have:ds=[]:=List.length_eq_zero_iff.mp J.symm;subst this;exact h _ _ (Same.refl _) q
 ·subst e;have:es=[]:=List.length_eq_zero_iff.mp G.symm;subst this;rw[y0x] at h;exact h _ _ (Same.refl _) dx
 ·have s:=A5 hr (HO.tup (xs++ys));exact h _ _ s (.tup A4 ((F.kp s.kp).append (B.kp s.kp)))
theorem RL:∀(p q:List Int),PyData.eqvAll (Aj (p.map Dm.int)) (Aj (q.map Dm.int))=decide (p=q)
 |[],[]=>by simp[Aj,PyData.eqvAll]
 |[],_::_=>by simp[Aj,PyData.eqvAll]
 |_::_,[]=>by simp[Aj,PyData.eqvAll]
 |a::p,b::q=>by
  simp only[yj,Aj,PyData.eqvAll,RL p q,Dm.dat,PyData.eqv];by_cases e:a=b
  ·subst e; simp
  ·simp[e]
abbrev RI:=List Int×Int
inductive Rs where
 |had (i:Int)
 |ref (w:Str) (p:List Int)
noncomputable def Rs.enc:Rs->Dm
 |.had i=>.tup [.str "had",.int i]
 |.ref w p=>.tup [.str "refused",.str w,AJ p]
noncomputable def C7(r:RI):Dm:=.tup [AJ r.1,.int r.2]
noncomputable def B0(i:Int)(p:List Int):Rs:=if i < -32768 then .ref "over" p else if i>32767 then .ref "over" p else .had i
def SameB(l:Addr)(H H':Hp):Prop:=∀a o,a≠l->H a=some o->H' a=some o
theorem SameB.of(h:Same H H'):SameB l H H':=fun a o _ e=>h a o e
theorem SameB.trans(a:SameB l H H1)(b:SameB l H1 H2):SameB l H H2:=fun x o n e=>b x o n (a x o n e)
theorem SameB.kp(h:SameB l H H')(F:H l=some (.lst xs))(B:H' l=some (.lst ys)):Kp H H':=
 ⟨fun b zs q=>h b _ (fun z=>by rw[z,F] at q; cases q) q,fun b zs q=>by
  by_cases hb:b=l
  ·subst hb; exact⟨ys,B⟩
  ·exact⟨zs,h b _ hb q⟩⟩
def Co:Sp:=fun vs H Q _=>∃(q pv:V) (p:List Int) (l:Addr) (xs:List V),vs=[q,pv,.ref l]/\Dt H pv (AJ p)/\H l=some (.lst xs)/\xs.length<ym/\
 ((q=.non/\∀r H',Same H H'->Dt H' r (Rs.ref "zero" p).enc->Q r H')\/∃i,q=.int i/\∀(r y:V) (H':Hp),SameB l H H'->H' l=some (.lst (xs++[y]))->Dt H' y (C7 (p,i))->Dt H' r (B0 i p).enc->Q r H')
theorem cC(F:Fun K "settled" "settled" Dv f fd) (g_WIDE:GC mg "WIDE" (.ref ai)) (hI:∀H,SqT K H ai [.int (-32768),.int 32767]):FnOk P w K mg base CX0 1 f fd ["worth","path","rows"] Co:=by
 refine F.ok Xi (fun vs H Q E h=>?_) (fun fc A outer s H vs Q E hr h=>?_)
 ·obtain⟨wv,pv,p,l,xs,rfl,_⟩:=h;rfl
 obtain⟨wv,pv,p,l,xs,rfl,hp,hl,hx,h⟩:=h;refine⟨_,(A6 (AK (AC Jv (A0 0 rfl Ft) Bp (AE _)) (A7 (AG (AI (A1 AD (A1 AD (A1 (A0 1 rfl L9) A2)))))) AL)
 (A6 (Az (BQ y0a y0r y0q C9 (A0 2 rfl Xj) (A1 (AI (A1 (A0 1 rfl L9) (A1 (A0 0 rfl Ft) A2))) A2)) (AF rfl))
 (A6 (AK (PW.pt (FE (AC Cz (A0 0 rfl Ft) (A9 ix_tup (Nk g_WIDE Pu Pe) A3 (fun _ _=>rfl)) (AE _)) (GX (AC NH (A0 0 rfl Ft) (A9 ix_tup (Nk g_WIDE Pu Pe) A3 (fun _ _=>rfl)) (AE _))))) (A7 (AG (AI (A1 AD (A1 AD (A1 (A0 1 rfl L9) A2)))))) AL)
 (A7 (AG (AI (A1 AD (A1 (A0 0 rfl Ft) A2)))))))),AB fun N1 e1=>?_⟩
 walk_at "a";rcases h with⟨rfl,q⟩|⟨i,rfl,q⟩
 ·rw[if_pos rfl];refine⟨by decide,fun r hr'=>?_⟩;have G:=A5 hr' (HO.tup [V.str "refused",V.str "zero",pv]);exact q _ _ G (.tup A4 (.cons (.str _) (.cons (.str _) (.cons (hp.kp G.kp) .nil))))
 ·rw[if_neg (by intro z; cases z),e1];refine AB fun N2 e2=>?_;walk_at "a";refine⟨.inl ⟨rfl,_,SqL.of hl⟩,by decide,fun y hy=>?_⟩;have G:=A5 hy (HO.tup [pv,V.int i]);have M:=G _ _ hl;refine⟨xs,M,hx,?_⟩;have R:y≠l:=fun z=>by rw[z,hl] at hy; cases hy
  have Z:Kp (upd H y (HO.tup [pv,V.int i])) (upd (upd H y (HO.tup [pv,V.int i])) l (HO.lst (xs++[V.ref y]))):=Kp.set M;have sB:SameB l H (upd (upd H y (HO.tup [pv,V.int i])) l (HO.lst (xs++[V.ref y]))):=fun a o n e=>by rw[A8 n]; exact G _ _ e
  have hU:(upd (upd H y (HO.tup [pv,V.int i])) l (HO.lst (xs++[V.ref y]))) l=some (.lst (xs++[V.ref y])):=A4;have dy:Dt (upd (upd H y (HO.tup [pv,V.int i])) l (HO.lst (xs++[V.ref y]))) (.ref y) (C7 (p,i)):=.tup (by rw[A8 R]; exact A4) (.cons (hp.kp (G.kp.trans Z)) (.cons (.int _) .nil));have dp:=hp.kp (G.kp.trans Z);generalize upd (upd H y (HO.tup [pv,V.int i])) l (HO.lst (xs++[V.ref y]))=U at Z sB hU dy dp |-;rw[e2];walk_at "a";have fin:∀(r:Addr) (o:List V),U r=none->Dt (upd U r (HO.tup o)) (.ref r) (B0 i p).enc->Q (.ref r) (upd U r (HO.tup o)):=fun r o h1 h2=>by
   have O:=A5 h1 (HO.tup o);exact q _ _ _ (sB.trans (SameB.of O)) (O _ _ hU) (dy.kp O.kp) h2
  refine⟨_,hI U,_,AV (j:=0) rfl,_,rfl,?_⟩;split
  ·rename_i B;refine⟨by decide,fun r hr'=>fin r _ hr' ?_⟩;rw[B0,if_pos B];exact .tup A4 (.cons (.str _) (.cons (.str _) (.cons (dp.kp (A5 hr' _).kp) .nil)))
  ·rename_i B;refine⟨_,hI U,_,AV (j:=1) rfl,_,rfl,?_⟩;split
   ·rename_i J;refine⟨by decide,fun r hr'=>fin r _ hr' ?_⟩;rw[B0,if_neg B,if_pos J];exact .tup A4 (.cons (.str _) (.cons (.str _) (.cons (dp.kp (A5 hr' _).kp) .nil)))
   ·rename_i J;refine⟨by decide,fun r hr'=>fin r _ hr' ?_⟩;rw[B0,if_neg B,if_neg J];exact .tup A4 (.cons (.str _) (.cons (.int _) .nil))
noncomputable def Io(st:Stmt):Expr:=match defBody st with
 |[.Return (some (.Call _ [_,_,e] _ _)) _]=>e
 |[_,.Expr (.Call _ [_,_,e] _ _) _,_]=>e
 |_=>.Name "" ⟨0,0,0,0⟩
noncomputable def RM(q:Str)(e:Expr):LamD:=match e with
 |.Lambda ps b sc _=>⟨q,ps,b,sc⟩
 |_=>⟨q,{posonlyargs:=[],args:=[],vararg:=none,kwonlyargs:=[],kw_defaults:=[],kwarg:=none,defaults:=[]},.Name "" ⟨0,0,0,0⟩,{kind:=.function,names:=[],isGenerator:=false,isCoroutine:=false}⟩
noncomputable def RN(e:Expr):Pos:=match e with
 |.Lambda _ _ _ p=>p
 |_=>⟨0,0,0,0⟩
abbrev dR:LamD:=RM ("run" ++ ".<locals>." ++ "<lambda>") (Io Br)
abbrev dT:LamD:=RM ("traced" ++ ".<locals>." ++ "<lambda>") (Io BJ)
def cD:∀y∈dR.scope.names,y.2≠.free:=by decide+kernel
theorem cE:LamScope ["worth","path"] [] [] dR.scope:=⟨rfl,rfl,rfl,by decide+kernel,by decide+kernel,by simp,by decide+kernel,fun y hy e=>absurd e (cD y hy),by simp,by simp⟩
def cF:∀y∈dT.scope.names,y.2=.free->y.1 = "rows":=by decide+kernel
theorem cG(c:Addr):LamScope ["worth","path"] ["rows"] [("rows",c)] dT.scope:=by
 refine⟨rfl,rfl,rfl,by decide+kernel,by decide+kernel,by decide+kernel,by decide+kernel,fun y hy e=>⟨c,?_⟩,fun x y c' h1 h2=>?_,fun x c' h=>?_⟩
 ·rw[cF y hy e];rfl
 ·have key:∀z:Str,([("rows",c)]:List (Str×Addr)).lookup z=some c'->z = "rows":=fun z h=>by
   by_cases e:z = "rows"
   ·exact e
   ·have:(z==("rows" : Str))=false:=by simpa using e
    rw[List.lookup,this] at h;cases h
  rw[key x h1,key y h2]
 ·rw[y13] at h;cases h;rfl
def SetOk(f:Addr)(lo:Option Addr)(H:Hp):Prop:=match lo with
 |none=>∃c',H f=some (C2 dR [] f c')/\H c'=some (Ba c' dR.qual)
 |some l=>∃c' c o,H f=some (C2 dT [("rows",c)] f c')/\H c'=some (Ba c' dT.qual)/\H c=some (Ao c o)/\o.data=.cell (some (.ref l))
theorem SetOk.lam(h:SetOk f lo H):IsLam H f:=by
 cases lo with
 |none=>obtain⟨c',e,_⟩:=h; exact⟨_,_,_,e⟩
 |some l=>obtain⟨c',c,o,e,_⟩:=h; exact⟨_,_,_,e⟩
def KpE(H H':Hp):Prop:=∀a q,H a=some (.ext q)->H' a=some (.ext q)
theorem Same.kpE(s:Same H H'):KpE H H':=fun a q h=>s _ _ h
theorem SetOk.kp(h:SetOk f lo H)(k:KpE H H'):SetOk f lo H':=by
 cases lo with
 |none=>obtain⟨c',e,e2⟩:=h; exact⟨c',k _ _ e,k _ _ e2⟩
 |some l=>obtain⟨c',c,o,e,e2,z,q⟩:=h; exact⟨c',c,o,k _ _ e,k _ _ e2,k _ _ z,q⟩
def Gr(lo:Option Addr)(H H':Hp)(q:List RI):Prop:=(∀a o,some a≠lo->H a=some o->H' a=some o)/\∀l,lo=some l->∃xs ys,H l=some (.lst xs)/\H' l=some (.lst (xs++ys))/\DtA H' ys (q.map C7)
def HasL(lo:Option Addr)(H:Hp)(n:Nat):Prop:=∀l,lo=some l->∃xs,H l=some (.lst xs)/\xs.length+n<ym
theorem Gr.kp(h:Gr lo H H' rs):Kp H H':=by
 cases lo with
 |none=>exact⟨fun b xs e=>h.1 b _ (by simp) e,fun b xs e=>⟨xs,h.1 b _ (by simp) e⟩⟩
 |some l=>
  obtain⟨xs,ys,q,e2,_⟩:=h.2 l rfl;exact SameB.kp (fun a o n e=>h.1 a o (by simpa using n) e) q e2
theorem Gr.kpE(h:Gr lo H H' rs):KpE H H':=fun a B e=>by
 refine h.1 a _ (fun z=>?_) e;obtain⟨xs,ys,q,_⟩:=h.2 a z.symm;rw[q] at e;cases e
theorem Gr.keep(h:Gr lo H H' rs)(e:H a=some o)(n:∀xs,o≠.lst xs):H' a=some o:=h.1 a o (fun z=>by
 obtain⟨xs,ys,q,_⟩:=h.2 a z.symm
 rw[q] at e
 cases e
 exact n _ rfl) e
theorem Gr.trans(a:Gr lo H H1 r1)(b:Gr lo H1 H2 r2):Gr lo H H2 (r1++r2):=by
 refine⟨fun x o n e=>b.1 x o n (a.1 x o n e),fun l q=>?_⟩;obtain⟨xs,ys,G,e2,d1⟩:=a.2 l q;obtain⟨B,zs,z,F,d2⟩:=b.2 l q;rw[e2] at z;cases z;exact⟨xs,ys++zs,G,by rw[F,yn],by rw[yp]; exact(d1.kp b.kp).append d2⟩
theorem Gr.same(s:Same H H')(h:HasL lo H n):Gr lo H H' []:=by
 refine⟨fun a o _ e=>s a o e,fun l q=>?_⟩;obtain⟨xs,e,_⟩:=h l q;exact⟨xs,[],e,by rw[y0x]; exact s _ _ e,.nil⟩
theorem HasL.on(h:HasL lo H n)(g:Gr lo H H' rs)(k:rs.length+m<=n):HasL lo H' m:=fun l q=>by
 obtain⟨xs,e,z⟩:=h l q;obtain⟨F,ys,B,e2,d⟩:=g.2 l q;rw[e] at B;cases B;have:=d.length;rw[y4] at this;exact⟨_,e2,by rw[yc]; lia⟩
theorem HasL.same(h:HasL lo H n)(s:Same H H'):HasL lo H' n:=fun l q=>by
 obtain⟨xs,e,z⟩:=h l q;exact⟨xs,s _ _ e,z⟩
theorem HasL.mono(h:HasL lo H n)(k:m<=n):HasL lo H m:=fun l q=>by
 obtain⟨xs,e,z⟩:=h l q;exact⟨xs,e,by lia⟩
theorem cH(H:Hp):BA [] H=H:=by funext b; exact BI (by simp)
theorem cI(H H':Hp):back [] H H'=H':=by funext b; exact D8 (by simp)
def cJ:dR.scope.names.lookup ("settled" : Str)=some NameKind.globalImplicit:=by decide+kernel
def cK:dT.scope.names.lookup ("settled" : Str)=some NameKind.globalImplicit:=by decide+kernel
def cL:Vis dR.scope "worth":=Or.inl (by decide+kernel)
def cM:Vis dR.scope "path":=Or.inl (by decide+kernel)
def cN:Vis dT.scope "worth":=Or.inl (by decide+kernel)
def cO:Vis dT.scope "path":=Or.inl (by decide+kernel)
theorem cP:Vis dT.scope "rows":=Or.inr (Or.inr (by decide+kernel))
theorem cQ(B:us.length=2):∀fd:y2c,fd.params=dR.params->fd.defaults=.none->fd.kwdefaults=.none->fd.scope=dR.scope->bindArgs fd ⟨us,[]⟩=pure ((["worth","path"]:List Str).zip us):=by
 intro fd h1 h2 G F;obtain⟨name,qual,params,body,scope,q,z,defaults,kwdefaults,J,M,R,code,ct,O⟩:=fd;cases h1;cases h2;cases G;cases F;match us,B with
 |[_,_],_=>rfl
theorem cR(B:us.length=2):∀fd:y2c,fd.params=dT.params->fd.defaults=.none->fd.kwdefaults=.none->fd.scope=dT.scope->bindArgs fd ⟨us,[]⟩=pure ((["worth","path"]:List Str).zip us):=by
 intro fd h1 h2 G F;obtain⟨name,qual,params,body,scope,q,z,defaults,kwdefaults,J,M,R,code,ct,O⟩:=fd;cases h1;cases h2;cases G;cases F;match us,B with
 |[_,_],_=>rfl
def RO:DBF "settled":=by decide+kernel
theorem RP(c_settled:Callee P w K mg base "settled" ["worth","path","rows"] 1 Co) {H:Hp} {x pv:V} {p:List Int} {Q:VK} {c':Addr} (hf:H f=some (C2 dR [] f c')) (hc:H c'=some (Ba c' dR.qual)) (F:Dt H pv (AJ p))
  (q:∀l,H l=none->Co [x,pv,.ref l] (upd H l (.lst [])) Q E0):Eb P w K mg base 2 f H [x,pv] Q:=by
 intro A outer s us hr B r;have z:us.length=2:=r.length.symm;refine OP (k:=1) (ps:=["worth","path"]) (fr:=[]) (ws:=[]) cE hr B hf hc rfl r rfl (by simp) (by simp) (cQ z) fun hr'=>?_;refine⟨_,AH c_settled hr' (by lia) (A1 (Ae (i:=0) rfl cL L3 Ku) (A1 (Ae (i:=1) rfl cM IN IF) (A1 (Ab A2) A2))) cJ RO,?_⟩;rw[y2f,cH];simp only[cI,y00,false_implies,implies_true,true_implies];walk_at "a";refine⟨by decide,fun l z=>q l z⟩
theorem RQ(c_settled:Callee P w K mg base "settled" ["worth","path","rows"] 1 Co) {H:Hp} {x pv:V} {p:List Int} {Q:VK} {c' c l:Addr} {o:Obj} (hf:H f=some (C2 dT [("rows",c)] f c')) (hc:H c'=some (Ba c' dT.qual)) (z:H c=some (Ao c o)) (F:o.data=.cell (some (.ref l))) (M:Dt H pv (AJ p))
  (q:Co [x,pv,.ref l] (BA [c] H) (fun v H'=>H' c=none->Q v (back [c] H H')) E0):Eb P w K mg base 2 f H [x,pv] Q:=by
 intro A outer s us hr J r;have G:us.length=2:=r.length.symm;refine OP (k:=1) (ps:=["worth","path"]) (fr:=["rows"]) (ws:=[.ref l]) (cG c) hr J hf hc rfl r rfl (fun O B=>?_) (fun i x v h1 h2=>?_) (cR G) fun hr'=>?_
 ·rw[yj,y2f,y13] at B;subst B;exact⟨o,_,z,F⟩
 ·match i,h1,h2 with
  |0,h1,h2=>
   cases h1;cases h2;exact⟨c,o,_,rfl,z,F,rfl⟩
  |i+1,h1,_=>simp at h1
 refine⟨_,AH c_settled hr' (by lia) (A1 (Ae (i:=0) rfl cN L3 Ku) (A1 (Ae (i:=1) rfl cO IN IF) (A1 (Ae (i:=2) rfl cP X4 Wc) A2))) cK RO,?_⟩;rw[yj,y2f];simp only[y13,forall_eq];walk_at "a";exact q
theorem ML(hc:H c=some (Ao c o)):Kp H (BA [c] H):=by
 have out:∀{b:Addr} {u:HO},H b=some u->(∀ q,u≠.ext q)->BA [c] H b=some u:=fun {b u} e n=>by
  rw[BI fun z=>by
   rw[List.mem_singleton.mp z,hc] at e
   cases e
   exact n _ rfl]
  exact e
 exact⟨fun b xs e=>out e fun q z=>(by cases z),fun b xs e=>⟨xs,out e fun q z=>(by cases z)⟩⟩
theorem Ey(q:H' c=none)(e:H' b=some u):back [c] H H' b=some u:=by
 rw[D8 fun z=>by
  rw[List.mem_singleton.mp z,q] at e
  cases e]
 exact e
theorem MN(q:H' c=none):Kp H' (back [c] H H'):=⟨fun b xs e=>Ey q e,fun b xs e=>⟨xs,Ey q e⟩⟩
theorem MO(c_settled:Callee P w K mg base "settled" ["worth","path","rows"] 1 Co) {H:Hp} {pv:V} {p:List Int} {i:Int} {lo:Option Addr} {Q:VK} (hS:SetOk f lo H) (hL:HasL lo H 1) (M:Dt H pv (AJ p))
  (q:∀r H',Gr lo H H' [(p,i)]->Dt H' r (B0 i p).enc->Q r H'):Eb P w K mg base 2 f H [.int i,pv] Q:=by
 cases lo with
 |none=>
  obtain⟨c',hf,hc⟩:=hS;refine RP c_settled hf hc M fun l B=>?_;have s1:=A5 B (HO.lst []);refine⟨_,pv,p,l,[],rfl,M.kp s1.kp,A4,by decide,.inr ⟨i,rfl,fun r y H' R G dy Z=>q r H' ⟨fun a o _ e=>R a o (AS e B) (s1 _ _ e),fun l' z=>by cases z⟩ Z⟩⟩
 |some l=>
  obtain⟨c',c,o,hf,hc,F,ho⟩:=hS;obtain⟨xs,B,hz⟩:=hL l rfl;have U:l≠c:=fun z=>by rw[z,F] at B; unfold Ao at B; cases B
  refine RQ c_settled hf hc F ho M ⟨_,pv,p,l,xs,rfl,M.kp (ML F),by rw[BI (by simpa using U)]; exact B,by lia,.inr ⟨i,rfl,fun r y H' R G dy Z O=>?_⟩⟩;refine q r _ ⟨fun a u na e=>?_,fun l2 e2=>?_⟩ (Z.kp (MN O))
  ·by_cases J:a=c
   ·subst J;rw[KS (by simp)];exact e
   ·exact Ey O (R a u (fun z=>na (by rw[z])) (by rw[BI (by simpa using J)]; exact e))
  ·cases e2;exact⟨xs,[y],B,Ey O G,.cons (dy.kp (MN O)) .nil⟩
theorem cS(c_settled:Callee P w K mg base "settled" ["worth","path","rows"] 1 Co) {H:Hp} {pv:V} {p:List Int} {lo:Option Addr} {Q:VK} (hS:SetOk f lo H) (hL:HasL lo H 1) (O:Dt H pv (AJ p))
  (q:∀r H',Gr lo H H' []->Dt H' r (Rs.ref "zero" p).enc->Q r H'):Eb P w K mg base 2 f H [.non,pv] Q:=by
 cases lo with
 |none=>
  obtain⟨c',hf,hc⟩:=hS;refine RP c_settled hf hc O fun l B=>?_;have s1:=A5 B (HO.lst []);exact⟨_,pv,p,l,[],rfl,O.kp s1.kp,A4,by decide,.inl ⟨rfl,fun r H' M Z=>q r H' (Gr.same (n:=0) (s1.trans M) fun l' z=>(by cases z)) Z⟩⟩
 |some l=>
  obtain⟨c',c,o,hf,hc,F,ho⟩:=hS;obtain⟨xs,B,hz⟩:=hL l rfl;have R:l≠c:=fun z=>by rw[z,F] at B; unfold Ao at B; cases B
  have G:BA [c] H l=some (.lst xs):=by rw[BI (by simpa using R)]; exact B
  refine RQ c_settled hf hc F ho O ⟨_,pv,p,l,xs,rfl,O.kp (ML F),G,by lia,.inl ⟨rfl,fun r H' M Z U=>?_⟩⟩;refine q r _ ⟨fun a u na e=>?_,fun l2 e2=>?_⟩ (Z.kp (MN U))
  ·by_cases J:a=c
   ·subst J;rw[KS (by simp)];exact e
   ·exact Ey U (M a u (by rw[BI (by simpa using J)]; exact e))
  ·cases e2;exact⟨xs,[],B,by rw[y0x]; exact Ey U (M _ _ G),.nil⟩
noncomputable def Wd.worth:Wd->Int->Int->Int
 |.add,a,b=>a+b
 |.sub,a,b=>a-b
 |.mul,a,b=>a*b
 |.quo,a,b=>a.fdiv b
 |.less,a,b=>if a<b then 1 else 0
 |.same,a,b=>if a=b then 1 else 0
 |.min,a,b=>if b<a then b else a
 |.max,a,b=>if b>a then b else a
noncomputable def evT(c:Cnt):T->List Int->Rs×List RI
 |.num i,p=>(B0 i p,[(p,i)])
 |.nm x,p=>(B0 ((Ay c x).getD 0) p,[(p,(Ay c x).getD 0)])
 |.op w a b,p=>match evT c a (p++[0]) with
  |(.ref u q,z)=>(.ref u q,z)
  |(.had x,z)=>match evT c b (p++[1]) with
   |(.ref u q,B)=>(.ref u q,z++B)
   |(.had y,B)=>if w=.quo/\y=0 then(.ref "zero" p,z++B) else(B0 (w.worth x y) p,z++B++[(p,w.worth x y)])
abbrev Ref:=Str×List Int
abbrev Out:=Option Ref×Cnt×List RI
noncomputable def Ad(cond:Cnt->Rs×List RI)(body:Cnt->Out)(p:List Int):Nat->Cnt->Out
 |k,c=>match cond c with
  |(.ref u q,r)=>(some (u,q),c,r)
  |(.had v,r)=>if v=0 then(none,c,r) else match k with
   |0=>(some ("long",p),c,r)
   |k+1=>match body c with
    |(some e,B,z)=>(some e,B,r++z)
    |(none,B,z)=>match Ad cond body p k B with
     |(e,G,F)=>(e,G,r++z++F)
mutual
noncomputable def evD(p:List Int):D->Cnt->Out
 |.set x t,c=>match evT c t (p++[0]) with
  |(.ref u q,r)=>(some (u,q),c,r)
  |(.had v,r)=>(none,BN c x v,r)
 |.ite t b b2,c=>match evT c t (p++[0]) with
  |(.ref u q,r)=>(some (u,q),c,r)
  |(.had v,r)=>if v≠0 then(match evB (p++[1]) 0 b c with|(e,B,z)=>(e,B,r++z)) else(match evB (p++[2]) 0 b2 c with|(e,B,z)=>(e,B,r++z))
 |.whl t m b,c=>Ad (fun c=>evT c t (p++[0])) (fun c=>evB (p++[1]) 0 b c) p m.toNat c
noncomputable def evB(p:List Int)(k:Int):List D->Cnt->Out
 |[],c=>(none,c,[])
 |d::r,c=>match evD (p++[k]) d c with
  |(some e,q,w)=>(some e,q,w)
  |(none,q,w)=>match evB p (k+1) r q with
   |(e,B,z)=>(e,B,w++z)
end
def Has(c:Cnt)(g:List Str):Prop:=∀x∈g,∃v,Ay c x=some v/\-32768<=v/\v<=32767
theorem Ip(h:B0 i p=.had v):v=i/\-32768<=i/\i<=32767:=by
 unfold B0 at h;split at h
 ·cases h
 ·split at h
  ·cases h
  ·cases h;lia
theorem MP:∀(t:T) (p:List Int) {v:Int} {r:List RI},evT c t p=(.had v,r)->-32768<=v/\v<=32767
 |.num i,p,v,r,h=>by
  rw[evT] at h;obtain⟨rfl,h1,h2⟩:=Ip (congrArg Prod.fst h);exact⟨h1,h2⟩
 |.nm x,p,v,r,h=>by
  rw[evT] at h;obtain⟨rfl,h1,h2⟩:=Ip (congrArg Prod.fst h);exact⟨h1,h2⟩
 |.op w a b,p,v,r,h=>by
  rw[evT] at h;split at h
  ·cases h
  ·split at h
   ·cases h
   ·split at h
    ·cases h
    ·obtain⟨rfl,h1,h2⟩:=Ip (congrArg Prod.fst h);exact⟨h1,h2⟩
theorem Ez{c:Cnt}{w:Wd}{a b:T}{p:List Int}{u:Str}{q:List Int}{r:List RI}(h:evT c a (p++[0])=(.ref u q,r)):evT c (.op w a b) p=(.ref u q,r):=by rw[evT,h]
theorem EA{c:Cnt}{w:Wd}{a b:T}{p:List Int}{u:Str}{q:List Int}{x:Int}{r s:List RI}(h:evT c a (p++[0])=(.had x,r))(h2:evT c b (p++[1])=(.ref u q,s)):evT c (.op w a b) p=(.ref u q,r++s):=by rw[evT,h]; simp only[h2]
theorem EB(h:evT c a (p++[0])=(.had x,r))(h2:evT c b (p++[1])=(.had 0,s)):evT c (.op .quo a b) p=(.ref "zero" p,r++s):=by rw[evT,h]; simp[h2]
theorem EC{c:Cnt}{w:Wd}{a b:T}{p:List Int}{x y:Int}{r s:List RI}(h:evT c a (p++[0])=(.had x,r))(h2:evT c b (p++[1])=(.had y,s))(q:¬ (w=.quo/\y=0)):evT c (.op w a b) p=(B0 (w.worth x y) p,r++s++[(p,w.worth x y)]):=by rw[evT,h]; simp only[h2]; rw[if_neg q]
theorem RS(c:Cnt)(w:Wd)(a b:T)(p:List Int):(evT c a (p++[0])).2.length<=(evT c (.op w a b) p).2.length:=by
 cases h:evT c a (p++[0]) with
 |mk F J=>
  cases F with
  |ref u q=>rw[Ez h]; exact yf _
  |had x=>
   cases h2:evT c b (p++[1]) with
   |mk B G=>
    cases B with
    |ref u q=>rw[EA h h2]; simp
    |had y=>
     by_cases z:w=.quo/\y=0
     ·obtain⟨rfl,rfl⟩:=z;rw[EB h h2]; simp
     ·rw[EC h h2 z]; simp only[yc,yu,y2n]; lia
theorem RU{c:Cnt}{w:Wd}{a b:T}{p:List Int}{x:Int}{r:List RI}(h:evT c a (p++[0])=(.had x,r)):r.length+(evT c b (p++[1])).2.length<=(evT c (.op w a b) p).2.length:=by
 cases h2:evT c b (p++[1]) with
 |mk B F=>
  cases B with
  |ref u q=>rw[EA h h2]; simp
  |had y=>
   by_cases z:w=.quo/\y=0
   ·obtain⟨rfl,rfl⟩:=z;rw[EB h h2]; simp
   ·rw[EC h h2 z]; simp only[yc,yu,y2n]; lia
def Cp(n:Nat):Sp:=fun vs H Q _=>∃(v:V) (t:T) (pv:V) (p:List Int) (d f:Addr) (c:Cnt) (g:List Str) (lo:Option Addr),vs=[v,pv,.ref d,.ref f]/\Dt H v t.enc/\Dt H pv (AJ p)/\t.ok g n/\n<=5/\p.length+n<=100/\H d=some (.dK (kvC c))/\Has c g/\SetOk f lo H/\HasL lo H ((evT c t p).2.length+1)/\
 ∀(r:V) (H':Hp),Gr lo H H' (evT c t p).2->Dt H' r (evT c t p).1.enc->Q r H'
theorem eqW(w v:Wd):FU K (.str w.str) (.str v.str) H (decide (w=v)):=.inl ⟨rfl,by cases w<;>cases v<;>decide+kernel⟩
def MQ:Sp:=fun vs H Q _=>∃(w:Wd) (a b:Int),vs=[.str w.str,.int a,.int b]/\(w=.quo->b≠0)/\b.natAbs<1073741824/\Q (.int (w.worth a b)) H
theorem cT(F:Fun K "worth_of" "worth_of" DE f fd) (b_min:mg "min" = none) (b_max:mg "max" = none):FnOk P w K mg base CX0 1 f fd ["word","one","other"] MQ:=by
 refine F.ok YN (fun vs H Q E h=>?_) (fun z A outer s H vs Q E hr h=>?_)
 ·obtain⟨w,a,b,rfl,_⟩:=h;rfl
 obtain⟨w,a,b,rfl,hq,hb,q⟩:=h;refine⟨_,(A6 (AK (AC (gEq hr.units) (A0 0 rfl Dw) AD (AE _)) (A7 (AG (AA AY (A0 1 rfl DF) (A0 2 rfl DG)))) AL)
 (A6 (AK (AC (gEq hr.units) (A0 0 rfl Dw) AD (AE _)) (A7 (AG (AA Cy (A0 1 rfl DF) (A0 2 rfl DG)))) AL)
 (A6 (AK (AC (gEq hr.units) (A0 0 rfl Dw) AD (AE _)) (A7 (AG (AA By (A0 1 rfl DF) (A0 2 rfl DG)))) AL)
 (A6 (AK (AC (gEq hr.units) (A0 0 rfl Dw) AD (AE _)) (A7 (AG (AA N0 (A0 1 rfl DF) (A0 2 rfl DG)))) AL)
 (A6 (AK (AC (gEq hr.units) (A0 0 rfl Dw) AD (AE _)) (A7 (AG (CY (AC Cz (A0 1 rfl DF) (A0 2 rfl DG) (AE _)) A3 A3))) AL)
 (A6 (AK (AC (gEq hr.units) (A0 0 rfl Dw) AD (AE _)) (A7 (AG (CY (AC CO (A0 1 rfl DF) (A0 2 rfl DG) (AE _)) A3 A3))) AL)
 (A6 (AK (AC (gEq hr.units) (A0 0 rfl Dw) AD (AE _)) (A7 (AG (Aq (NK rfl) YQ b_min Kt (A1 (A0 1 rfl DF) (A1 (A0 2 rfl DG) A2)) L7 L1))) AL)
 (A7 (AG (Aq (NJ rfl) YO b_max Ks (A1 (A0 1 rfl DF) (A1 (A0 2 rfl DG) A2)) L6 L0)))))))))),?_⟩
 walk_at "c";have hm:CMul a b:=.inr ⟨by lia,by lia⟩;refine⟨_,eqW w .add,?_⟩;split
 ·rename_i e; cases of_decide_eq_true e; exact q
 rename_i U;refine⟨_,eqW w .sub,?_⟩;split
 ·rename_i e; cases of_decide_eq_true e; exact q
 rename_i R;refine⟨_,eqW w .mul,?_⟩;split
 ·rename_i e; cases of_decide_eq_true e; exact⟨hm,q⟩
 rename_i O;refine⟨_,eqW w .quo,?_⟩;split
 ·rename_i e; cases of_decide_eq_true e; exact⟨⟨hq rfl,hb⟩,q⟩
 rename_i M;refine⟨_,eqW w .less,?_⟩;split
 ·rename_i e; cases of_decide_eq_true e;have q:Q (.int (if a<b then 1 else 0)) H:=q;split
  ·rename_i c; rw[if_pos c] at q; exact q
  ·rename_i c; rw[if_neg c] at q; exact q
 rename_i J;refine⟨_,eqW w .same,?_⟩;split
 ·rename_i e; cases of_decide_eq_true e;have q:Q (.int (if a=b then 1 else 0)) H:=q;split
  ·rename_i c; rw[if_pos c] at q; exact q
  ·rename_i c; rw[if_neg c] at q; exact q
 rename_i G;refine⟨_,eqW w .min,?_⟩;split
 ·rename_i e; cases of_decide_eq_true e; exact⟨_,_,⟨rfl,rfl⟩,q⟩
 rename_i B;have e:w=.max:=by
  cases w<;>first|rfl|exact absurd rfl (by assumption)
 cases e;exact⟨_,_,⟨rfl,rfl⟩,q⟩
theorem cU:FnOk P w K mg base CX0 k f fd [n1,n2,n3,n4] (Cp 0):=by
 have q:∀vs H Q E,¬ Cp 0 vs H Q E:=fun vs H Q E h=>by
  obtain⟨v,t,pv,p,d,f,c,g,lo,_,_,_,h,_⟩:=h;exact h.elim
 exact⟨fun vs H Q E h=>absurd h (q vs H Q E),fun A outer s H args us vs Q E _ _ _ _ h=>absurd h (q vs H Q E)⟩
theorem Ak:FU K (.str x) (.str z) H (decide (x=z)):=.inl ⟨rfl,by simp⟩
theorem RV{t:T} (h:t.word = "num"):∃i,t=.num i:=by
 cases t with
 |num i=>exact⟨i,rfl⟩
 |nm x=>exact absurd h (show ¬ ("name" : Str) = "num" by decide+kernel)
 |op w a b=>exact absurd h (show ¬ w.str = "num" by cases w<;>decide+kernel)
theorem RW{t:T} (h:t.word = "name"):∃x,t=.nm x:=by
 cases t with
 |num i=>exact absurd h (show ¬ ("num" : Str) = "name" by decide+kernel)
 |nm x=>exact⟨x,rfl⟩
 |op w a b=>exact absurd h (show ¬ w.str = "name" by cases w<;>decide+kernel)
theorem RX{t:T} (h1:¬ t.word = "num") (h2:¬ t.word = "name"):∃w a b,t=.op w a b:=by
 cases t with
 |num i=>exact absurd rfl h1
 |nm x=>exact absurd rfl h2
 |op w a b=>exact⟨w,a,b,rfl⟩
theorem DP{H:Hp}{v:V}{r:Rs}(h:Dt H v r.enc):∃a,v=.ref a/\((∃i,r=.had i/\H a=some (.tup [.str "had",.int i]))\/∃u q y,r=.ref u q/\H a=some (.tup [.str "refused",.str u,y])):=by
 cases r with
 |had i=>
  rw[Rs.enc] at h;obtain⟨a,J,G,rfl,ha,B,z⟩:=B1 h;cases B; cases z;exact⟨a,rfl,.inl ⟨i,rfl,ha⟩⟩
 |ref u q=>
  rw[Rs.enc] at h;obtain⟨a,J,G,F,rfl,ha,B,z,M⟩:=Bt h;cases B; cases z;exact⟨a,rfl,.inr ⟨u,q,F,rfl,ha⟩⟩
def GM:¬ ("had" : Str) = "refused":=by decide+kernel
theorem cV{n:Nat} (F:Fun K "reckon" "reckon" Bd f fd) (c_worth_of:Callee P w K mg base "worth_of" ["word","one","other"] 1 MQ) (c_settled:Callee P w K mg base "settled" ["worth","path","rows"] 1 Co) (c_reckon:Callee P w K mg base "reckon" ["term","path","names","settle"] (n+2) (Cp n)):FnOk P w K mg base CX0 (n+3) f fd ["term","path","names","settle"] (Cp (n+1)):=by
 refine F.ok sc_reckon (fun vs H Q E h=>?_) (fun gk A outer s H vs Q E hr h=>?_)
 ·obtain⟨v,t,pv,p,d,f,c,g,lo,rfl,_⟩:=h;rfl
 obtain⟨v,t,pv,p,d,fs,c,g,lo,rfl,hv,hp,fg,hn,gj,hd,hh,hS,hL,q⟩:=h;obtain⟨va,y,tx,rfl,B⟩:=RJ hv;refine⟨_,(A6 (AK (AC (gEq hr.units) (A9 ix_tup (A0 0 rfl DD) A3 (fun _ _=>rfl)) AD (AE _)) (A7 (AG (Hv (i:=3) (k:=2) rfl IQ hr (by lia) (A1 (A9 ix_tup (A0 0 rfl DD) A3 (fun _ _=>rfl)) (A1 (A0 1 rfl Ei) A2)) IO IG))) AL)
 (A6 (AK (AC (gEq hr.units) (A9 ix_tup (A0 0 rfl DD) A3 (fun _ _=>rfl)) AD (AE _)) (A7 (AG (Hv (i:=3) (k:=2) rfl IQ hr (by lia) (A1 (EX hr.units1 (A0 2 rfl LN) (A9 ix_tup (A0 0 rfl DD) A3 (fun _ _=>rfl)) (fun _ _=>rfl)) (A1 (A0 1 rfl Ei) A2)) IO IG))) AL)
 (A6 (AN (i:=4) sc_reckon.nd rfl YL (AH c_reckon hr (by lia) (A1 (A9 ix_tup (A0 0 rfl DD) A3 (fun _ _=>rfl)) (A1 (AA Am (A0 1 rfl Ei) (AI (A1 A3 A2))) (A1 (A0 2 rfl LN) (A1 (A0 3 rfl QA) A2)))) Q9 Fq) (AF rfl))
 (A6 (AK (AC (gEq hr.units) (A9 ix_tup (A0 4 rfl LO) A3 (fun _ _=>rfl)) AD (AE _)) (A7 (AG (A0 4 rfl LO))) AL)
 (A6 (AN (i:=5) sc_reckon.nd rfl YM (AH c_reckon hr (by lia) (A1 (A9 ix_tup (A0 0 rfl DD) A3 (fun _ _=>rfl)) (A1 (AA Am (A0 1 rfl Ei) (AI (A1 A3 A2))) (A1 (A0 2 rfl LN) (A1 (A0 3 rfl QA) A2)))) Q9 Fq) (AF rfl))
 (A6 (AK (AC (gEq hr.units) (A9 ix_tup (A0 5 rfl IP) A3 (fun _ _=>rfl)) AD (AE _)) (A7 (AG (A0 5 rfl IP))) AL)
 (A6 (AK (PW.pt (DY (AC (gEq hr.units) (A9 ix_tup (A0 0 rfl DD) A3 (fun _ _=>rfl)) AD (AE _)) (EN (AC CO (A9 ix_tup (A0 5 rfl IP) A3 (fun _ _=>rfl)) A3 (AE _))))) (A7 (AG (Hv (i:=3) (k:=2) rfl IQ hr (by lia) (A1 Bp (A1 (A0 1 rfl Ei) A2)) IO IG))) AL)
 (A7 (AG (Hv (i:=3) (k:=2) rfl IQ hr (by lia) (A1 (AH c_worth_of hr (by lia) (A1 (A9 ix_tup (A0 0 rfl DD) A3 (fun _ _=>rfl)) (A1 (A9 ix_tup (A0 4 rfl LO) A3 (fun _ _=>rfl)) (A1 (A9 ix_tup (A0 5 rfl IP) A3 (fun _ _=>rfl)) A2))) YK X7) (A1 (A0 1 rfl Ei) A2)) IO IG)))))))))),AB fun N1 e1=>?_⟩
 walk_at "a";refine⟨_,SqT.of B,_,AW,_,Ak,?_⟩;split
 ·rename_i hw;obtain⟨i,rfl⟩:=RV (of_decide_eq_true hw);rw[T.enc] at hv;obtain⟨a2,x0,x1,ea,ha2,t0,t1⟩:=B1 hv;cases ea;cases t1;rw[ha2] at B;cases B;rw[evT] at hL q;refine⟨hS.lam,_,SqT.of ha2,_,AV (j:=1) rfl,hS.lam,?_⟩;exact MO c_settled hS (hL.mono (by simp)) hp q
 rename_i fZ;rw[e1];refine AB fun N2 e2=>?_;walk_at "a";refine⟨_,SqT.of B,_,AW,_,Ak,?_⟩;split
 ·rename_i hw;obtain⟨x,rfl⟩:=RW (of_decide_eq_true hw);rw[T.enc] at hv;obtain⟨a2,x0,x1,ea,ha2,t0,t1⟩:=B1 hv;cases ea;cases t1;rw[ha2] at B;cases B;rw[evT] at hL q;obtain⟨w,U,_⟩:=hh x fg;rw[U] at hL q;have hg:DGet H d (.str x) (some (.int w)):=by
   have:=DGet.k (k:=Sum.inr x) hd;rw[Il,U] at this;exact this
  refine⟨hS.lam,_,SqT.of ha2,_,AV (j:=1) rfl,_,hg,hS.lam,?_⟩;exact MO c_settled hS (hL.mono (by simp)) hp q
 rename_i U;obtain⟨wd,ta,tb,rfl⟩:=RX (fun z=>fZ (decide_eq_true z)) fun z=>U (decide_eq_true z);rw[e2];refine AB fun N3 e3=>?_;walk_at "a";have gh:=hv;rw[T.enc] at hv;obtain⟨a2,x0,xa,xb,ea,ha2,t0,da,db⟩:=Bt hv;cases ea;cases t0;clear B;refine⟨_,SqT.of ha2,_,AV (j:=1) rfl,by decide,fun p1 h1=>?_⟩;have s1:=A5 h1 (HO.tup [V.int 0]);refine At (hp.kp s1.kp) Au (by simp; lia) fun z H1 s2 dz=>?_;have M:=s1.trans s2;have l1:=RS c wd ta tb p;refine⟨xa,ta,z,_,d,fs,c,g,lo,rfl,da.kp M.kp,dz,fg.1,by lia,by simp; lia,M _ _ hd,hh,hS.kp (Same.kpE M),(hL.same M).mono (by lia),fun r1 H2 g1 fk=>?_⟩;have G1:Gr lo H H2 (evT c ta (p++[0])).2:=(Gr.same M hL).trans g1;clear g1 s1 s2 M;obtain⟨b1,rfl,G⟩:=DP fk;rcases O:evT c ta (p++[0]) with⟨r1,w1⟩;rw[O] at G1 fk G;rw[e3];refine AB fun N4 e4=>?_;walk_at "a";rcases G with⟨i1,rfl,G⟩|⟨u,qq,y1,rfl,G⟩;rotate_left
 ·refine⟨_,SqT.of G,_,AW,_,Ak,?_⟩;rw[if_pos (decide_eq_true rfl)];rw[Ez O] at q;exact q _ _ G1 fk
 refine⟨_,SqT.of G,_,AW,_,Ak,?_⟩;rw[if_neg (by rw[decide_eq_true_eq]; exact GM)];have fV:=G1.keep ha2 (by intro xs z; cases z);have gc:=G1.keep hd (by intro xs z; cases z);have fu:=hp.kp G1.kp;have gf:=db.kp G1.kp;have fX:=hS.kp G1.kpE;have l2:=RU (w:=wd) (b:=tb) O;have fc:HasL lo H2 ((evT c tb (p++[1])).2.length+1):=hL.on G1 (by show w1.length+_<=_; lia);rw[e4];refine AB fun N5 e5=>?_;walk_at "a";refine⟨_,SqT.of fV,_,AV (j:=2) rfl,by decide,fun p2 h2=>?_⟩;have s3:=A5 h2 (HO.tup [V.int 1]);refine At (fu.kp s3.kp) Au (by simp; lia) fun z2 H3 s4 ge=>?_;have J:=s3.trans s4;refine⟨xb,tb,z2,_,d,fs,c,g,lo,rfl,gf.kp J.kp,ge,fg.2,by lia,by simp; lia,J _ _ gc,hh,fX.kp (Same.kpE J),fc.same J,fun r2 H4 g2 fh=>?_⟩;have G2:Gr lo H2 H4 (evT c tb (p++[1])).2:=(Gr.same J fc).trans g2;clear g2 s3 s4 J;obtain⟨b2,rfl,hb2⟩:=DP fh;rcases Z:evT c tb (p++[1]) with⟨r2,w2⟩;rw[Z] at G2 fh hb2 fc;have fw:=G2.keep G (by intro xs z; cases z);have fz:=G2.keep fV (by intro xs z; cases z);have ft:=fu.kp G2.kp;have R:=fX.kp G2.kpE;have fq:=G1.trans G2;rw[e5];refine AB fun N6 e6=>?_;walk_at "a";rcases hb2 with⟨i2,rfl,hb2⟩|⟨u,qq,y1,rfl,hb2⟩;rotate_left
 ·refine⟨_,SqT.of hb2,_,AW,_,Ak,?_⟩;rw[if_pos (decide_eq_true rfl)];rw[EA O Z] at q;exact q _ _ fq fh
 refine⟨_,SqT.of hb2,_,AW,_,Ak,?_⟩;rw[if_neg (by rw[decide_eq_true_eq]; exact GM)];have fY:HasL lo H4 1:=fc.on G2 (yf _);have U:=MP tb (p++[1]) Z;rw[e6];refine AB fun N7 e7=>?_;walk_at "a";refine⟨_,SqT.of fz,_,AW,_,Ak,?_⟩;have fe:(wd=.quo->i2≠0)->N7 [some (V.ref va),some pv,some (V.ref d),some (V.ref fs),some (V.ref b1),some (V.ref b2)] H4:=fun hq=>by
  rw[e7];walk_at "a";rw[EC O Z (fun z=>hq z.1 z.2)] at q;refine⟨R.lam,_,SqT.of fz,_,AW,_,SqT.of fw,_,AV (j:=1) rfl,_,SqT.of hb2,_,AV (j:=1) rfl,wd,i1,i2,rfl,hq,by lia,?_⟩;refine⟨R.lam,MO c_settled R fY ft fun r H' g dr=>q r H' (fq.trans g) dr⟩
 split
 ·rename_i hq;have gb:wd=.quo:=by
   have:=of_decide_eq_true hq;cases wd<;>first|rfl|exact absurd this (by decide+kernel)
  subst gb;refine⟨_,SqT.of hb2,_,AV (j:=1) rfl,_,rfl,?_⟩;split
  ·rename_i hz;subst hz;rw[EB O Z] at q;refine⟨R.lam,R.lam,cS c_settled R fY ft fun r H' g dr=>q r H' ?_ dr⟩;have:=fq.trans g;rw[y0x] at this;exact this
  ·rename_i hz;exact fe fun _=>hz
 ·rename_i hq;exact fe fun z=>absurd (decide_eq_true (by rw[z]; rfl)) hq
theorem RY(d:Df K mg "reckon" Bd ["term","path","names","settle"] f fd) (c_worth_of:Callee P w K mg base "worth_of" ["word","one","other"] 1 MQ) (c_settled:Callee P w K mg base "settled" ["worth","path","rows"] 1 Co):∀n:Nat,Callee P w K mg base "reckon" ["term","path","names","settle"] (n+2) (Cp n)
 |0=>d.callee cU
 |n+1=>d.callee (cV d.F c_worth_of c_settled (RY d c_worth_of c_settled n))
def Gd(d:Addr)(lo:Option Addr)(H H':Hp)(q:List RI):Prop:=(∀a o,a≠d->some a≠lo->H a=some o->H' a=some o)/\∀l,lo=some l->∃xs ys,H l=some (.lst xs)/\H' l=some (.lst (xs++ys))/\DtA H' ys (q.map C7)
theorem Gr.gd(h:Gr lo H H' rs):Gd d lo H H' rs:=⟨fun a o _ n e=>h.1 a o n e,h.2⟩
theorem Gd.keep(h:Gd d lo H H' rs)(hd:H d=some (.dK k))(e:H a=some o)(B:∀xs,o≠.lst xs)(q:∀k,o≠.dK k):H' a=some o:=h.1 a o (fun z=>by
 rw[z,hd] at e
 cases e
 exact q _ rfl) (fun z=>by
 obtain⟨xs,ys,F,_⟩:=h.2 a z.symm
 rw[F] at e
 cases e
 exact B _ rfl) e
theorem Gd.kp(h:Gd d lo H H' rs)(hd:H d=some (.dK k)):Kp H H':=by
 refine⟨fun b xs e=>h.keep hd e (fun _ z=>by cases z) (fun _ z=>by cases z),fun b xs e=>?_⟩;by_cases hb:some b=lo
 ·obtain⟨q,ys,B,e2,_⟩:=h.2 b hb.symm;exact⟨_,e2⟩
 ·exact⟨xs,h.1 b _ (fun z=>by rw[z,hd] at e; cases e) hb e⟩
theorem Gd.kpE(h:Gd d lo H H' rs)(hd:H d=some (.dK k)):KpE H H':=fun a q e=>h.keep hd e (fun _ z=>by cases z) fun _ z=>by cases z
theorem Gd.trans(a:Gd d lo H H1 r1)(b:Gd d lo H1 H2 r2)(hd:H1 d=some (.dK k)):Gd d lo H H2 (r1++r2):=by
 refine⟨fun x o z q e=>b.1 x o z q (a.1 x o z q e),fun l B=>?_⟩;obtain⟨xs,ys,M,e2,d1⟩:=a.2 l B;obtain⟨G,zs,F,J,d2⟩:=b.2 l B;rw[e2] at F;cases F;exact⟨xs,ys++zs,M,by rw[J,yn],by rw[yp]; exact(d1.kp (b.kp hd)).append d2⟩
theorem Gd.put(h:Gr lo H H' rs)(hd:H' d=some (.dK k)):Gd d lo H (upd H' d (.dK e)) rs:=by
 refine⟨fun a o B q z=>by rw[A8 B]; exact h.1 a o q z,fun l F=>?_⟩;obtain⟨xs,ys,G,e2,d1⟩:=h.2 l F;exact⟨xs,ys,G,by rw[A8 fun z=>by rw[z,hd] at e2; cases e2]; exact e2,d1.kp (RK hd)⟩
theorem HasL.onD(h:HasL lo H n)(g:Gd d lo H H' rs)(k:rs.length+m<=n):HasL lo H' m:=fun l q=>by
 obtain⟨xs,e,z⟩:=h l q;obtain⟨F,ys,B,e2,d⟩:=g.2 l q;rw[e] at B;cases B;have:=d.length;rw[y4] at this;exact⟨_,e2,by rw[yc]; lia⟩
def KeyOk(c:Cnt):Prop:=(c.map (·.1)).Nodup/\∀p∈c,p.1∈pool
theorem KeyOk.put(h:KeyOk c)(hx:x∈pool)(v:Int):KeyOk (BN c x v):=by
 refine⟨?_,fun p z=>?_⟩
 ·rw[RH];split
  ·exact h.1
  ·rename_i B;exact List.nodup_append.mpr ⟨h.1,by simp,fun a ha b hb e=>B (by rw[y13] at hb; rw[<- hb,<- e]; exact ha)⟩
 ·have hm:p.1∈(BN c x v).map (·.1):=List.mem_map.mpr ⟨p,z,rfl⟩;rw[RH] at hm;split at hm
  ·obtain⟨q,hq,e⟩:=List.mem_map.mp hm;rw[<- e]; exact h.2 q hq
  ·rcases List.mem_append.mp hm with hm|hm
   ·obtain⟨q,hq,e⟩:=List.mem_map.mp hm;rw[<- e]; exact h.2 q hq
   ·rw[y13] at hm;rw[hm]; exact hx
theorem KeyOk.len(h:KeyOk c):c.length<=4:=by
 have:=RE (c.map (·.1)) pool h.1 fun x hx=>by
  obtain⟨q,hq,e⟩:=List.mem_map.mp hx;rw[<- e]; exact h.2 q hq
 rw[y4] at this;exact this
theorem cW:∀(c:Cnt) (x:Str) (v:Int),Ay (BN c x v) x=some v:=by
 intro c x v;unfold BN;split
 ·rename_i h;induction c with
  |nil=>simp at h
  |cons p c z=>
   by_cases e:p.1=x
   ·simp[Ay,e]
   ·have h':(c.any fun p=>decide (p.1=x))=true:=by simpa [e] using h
    have:=z h';unfold Ay at this |-;rw[yj,if_neg e,y0o];simpa [e] using this
 ·rename_i h;have B:∀p∈c,p.1≠x:=fun p q e=>h (List.any_eq_true.mpr ⟨p,q,decide_eq_true e⟩);unfold Ay;rw[y4e,List.find?_eq_none.mpr (fun p q=>by simpa using B p q)];simp
theorem cX:∀(c:Cnt) {x y:Str} (v:Int),y≠x->Ay (BN c x v) y=Ay c y:=by
 intro c x y v B;unfold BN;split
 ·rename_i F;clear F;induction c with
  |nil=>rfl
  |cons p c G=>
   unfold Ay at G |-;rw[yj,y0o,y0o];by_cases e:p.1=x
   ·rw[if_pos e];have:¬ p.1=y:=fun z=>B (z.symm.trans e);simpa [this] using G
   ·rw[if_neg e];by_cases e2:p.1=y
    ·simp[e2]
    ·simpa [e2] using G
 ·unfold Ay;rw[y4e];cases hf:c.find? fun p=>decide (p.1=y) with
  |none=>simp[y1k B]
  |some q=>simp
theorem Has.put(h:Has c g)(h1 : -32768<=v)(h2:v<=32767):Has (BN c x v) (g++[x]):=fun y hy=>by
 by_cases e:y=x
 ·rw[e,cW];exact⟨v,rfl,h1,h2⟩
 ·rw[cX c v e];rcases List.mem_append.mp hy with hy|hy
  ·exact h y hy
  ·exact absurd (List.mem_singleton.mp hy) e
theorem Has.sub(h:Has c g)(s:Sub g' g):Has c g':=fun x hx=>h x (s x hx)
theorem Cq:∀{n:Nat} {t:T},T.ok pool n t->t.knows g=true->T.ok g n t
 |0,_,h,_=>h.elim
 |n+1,.num i,h,_=>h
 |n+1,.nm x,h,k=>show x∈g by simpa [T.knows] using k
 |n+1,.op w a b,h,k=>by
  rw[T.knows,y05] at k;exact⟨Cq h.1 k.1,Cq h.2 k.2⟩
mutual
theorem cY:∀(d:D) (p q:List Str),kbD p d=some q->Sub p q
 |.set x t,p,q,h=>by
  rw[kbD] at h;split at h
  ·cases h;exact fun y hy=>y0s _ hy
  ·cases h
 |.ite t b c,p,q,h=>by
  rw[kbD] at h;split at h
  ·cases hb:kbB p b with
   |none=>rw[hb] at h; cases h
   |some z=>
    cases hc:kbB p c with
    |none=>rw[hb,hc] at h; cases h
    |some B=>
     rw[hb,hc] at h;cases h;exact fun y hy=>List.mem_filter.mpr ⟨F0 b p z hb y hy,by simpa using F0 c p B hc y hy⟩
  ·cases h
 |.whl t m b,p,q,h=>by
  rw[kbD] at h;split at h
  ·cases hb:kbB p b with
   |none=>rw[hb] at h; cases h
   |some z=>
    rw[hb] at h;cases h;exact Sub.refl p
  ·cases h
theorem F0:∀(b:List D) (p q:List Str),kbB p b=some q->Sub p q
 |[],p,q,h=>by
  rw[kbB] at h;cases h;exact Sub.refl p
 |d::r,p,q,h=>by
  rw[kbB] at h;cases hd:kbD p d with
  |none=>rw[hd] at h; cases h
  |some z=>
   rw[hd] at h;exact(cY d p z hd).trans (F0 r z q h)
end
def MR(o:Option Ref)(H':Hp)(r:V):Prop:=match o with
 |none=>r=.non
 |some e=>Dt H' r (Rs.ref e.1 e.2).enc
def ED(n:Nat):Sp:=fun vs H Q _=>∃(v:V) (b:List D) (pv:V) (p:List Int) (d f:Addr) (c:Cnt) (g g':List Str) (lo:Option Addr),vs=[v,pv,.ref d,.ref f]/\Dt H v (.tup (AU b))/\Dt H pv (AJ p)/\okW n b/\n<=4/\p.length+2*n<=90/\kbB g b=some g'/\H d=some (.dK (kvC c))/\KeyOk c/\Has c g/\SetOk f lo H/\HasL lo H ((evB p 0 b c).2.2.length+1)/\
 ∀(r:V) (H':Hp),Gd d lo H H' (evB p 0 b c).2.2->H' d=some (.dK (kvC (evB p 0 b c).2.1))->MR (evB p 0 b c).1 H' r->Q r H'
def DQ(ks:List Str)(n:Nat):Sp:=fun vs H Q _=>∃(v:V) (e:D) (pv:V) (p:List Int) (d f:Addr) (c:Cnt) (g g':List Str) (lo:Option Addr),vs=[v,pv,.ref d,.ref f]/\e.kind∈ks/\Dt H v e.enc/\Dt H pv (AJ p)/\GL n e/\n<=3/\p.length+2*n<=89/\kbD g e=some g'/\H d=some (.dK (kvC c))/\KeyOk c/\Has c g/\SetOk f lo H/\HasL lo H ((evD p e c).2.2.length+1)/\
 ∀(r:V) (H':Hp),Gd d lo H H' (evD p e c).2.2->H' d=some (.dK (kvC (evD p e c).2.1))->MR (evD p e c).1 H' r->Q r H'
theorem F1(h:evT c t (p++[0])=(.ref u q,r)):evD p (.set x t) c=(some (u,q),c,r):=by rw[evD,h]
theorem F2(h:evT c t (p++[0])=(.had v,r)):evD p (.set x t) c=(none,BN c x v,r):=by rw[evD,h]
theorem Iq(c:Cnt)(x:Str)(t:T)(p:List Int):(evD p (.set x t) c).2.2=(evT c t (p++[0])).2:=by
 rcases h:evT c t (p++[0]) with⟨r,w⟩;cases r with
 |had v=>rw[F2 h]
 |ref u q=>rw[F1 h]
theorem DR(h:evT c t (p++[0])=(.ref u q,r)):evD p (.ite t b b2) c=(some (u,q),c,r):=by rw[evD,h]
theorem DS(h:evT c t (p++[0])=(.had v,r))(q:v≠0):evD p (.ite t b b2) c=((evB (p++[1]) 0 b c).1,(evB (p++[1]) 0 b c).2.1,r++(evB (p++[1]) 0 b c).2.2):=by rw[evD,h]; simp[q]
theorem DT(h:evT c t (p++[0])=(.had 0,r)):evD p (.ite t b b2) c=((evB (p++[2]) 0 b2 c).1,(evB (p++[2]) 0 b2 c).2.1,r++(evB (p++[2]) 0 b2 c).2.2):=by rw[evD,h]; simp
theorem RZ(c:Cnt)(t:T)(b b2:List D)(p:List Int):(evT c t (p++[0])).2.length<=(evD p (.ite t b b2) c).2.2.length:=by
 rcases h:evT c t (p++[0]) with⟨r,w⟩;cases r with
 |ref u q=>rw[DR h]; exact yf _
 |had v=>
  by_cases z:v=0
  ·subst z;rw[DT h];simp
  ·rw[DS h z];simp
theorem Ir(h:kbD g (.ite t b b2)=some g'):t.knows g=true/\(∃q,kbB g b=some q)/\∃q,kbB g b2=some q:=by
 rw[kbD] at h;split at h
 ·rename_i hk;cases hb:kbB g b with
  |none=>rw[hb] at h; cases h
  |some B=>
   cases hc:kbB g b2 with
   |none=>rw[hb,hc] at h; cases h
   |some z=>exact⟨hk,⟨B,rfl⟩,z,rfl⟩
 ·cases h
theorem MS(h:kbD g (.whl t m b)=some g'):t.knows g=true/\g'=g/\∃q,kbB g b=some q:=by
 rw[kbD] at h;split at h
 ·rename_i hk;cases hb:kbB g b with
  |none=>rw[hb] at h; cases h
  |some z=>
   rw[hb] at h;cases h;exact⟨hk,rfl,z,rfl⟩
 ·cases h
theorem cZ{cond:Cnt->Rs×List RI}{body:Cnt->Out}(F:Cnt->Prop)(hb:∀c,F c->F (body c).2.1):∀(k:Nat) (c:Cnt),F c->F (Ad cond body p k c).2.1:=by
 intro k;induction k with
 |zero=>
  intro c h;rw[Ad];rcases cond c with⟨r,w⟩;cases r with
  |ref u q=>exact h
  |had v=>by_cases B:v=0<;>simp[B,h]
 |succ k G=>
  intro c h;rw[Ad];rcases cond c with⟨r,w⟩;cases r with
  |ref u q=>exact h
  |had v=>
   by_cases B:v=0
   ·simp[B,h]
   ·have h1:=hb c h;rcases z:body c with⟨e,J,M⟩;rw[z] at h1;cases e with
    |some e=>simp[B,z,h1]
    |none=>
     have h2:=G J h1;simp only[B,if_false,z];exact h2
theorem ca{cond:Cnt->Rs×List RI}{body:Cnt->Out}(F:Cnt->Prop)(hb:∀c,F c->(body c).1=none->F (body c).2.1):∀(k:Nat) (c:Cnt),F c->(Ad cond body p k c).1=none->F (Ad cond body p k c).2.1:=by
 intro k;induction k with
 |zero=>
  intro c h;rw[Ad];rcases cond c with⟨r,w⟩;cases r with
  |ref u q=>exact fun _=>h
  |had v=>by_cases B:v=0<;>simp[B,h]
 |succ k G=>
  intro c h;rw[Ad];rcases cond c with⟨r,w⟩;cases r with
  |ref u q=>exact fun _=>h
  |had v=>
   by_cases B:v=0
   ·simp[B,h]
   ·have h1:=hb c h;rcases z:body c with⟨e,J,M⟩;rw[z] at h1;cases e with
    |some e=>simp[B,z]
    |none=>
     have h2:=G J (h1 rfl);simp only[B,if_false,z];exact h2
mutual
theorem MT:∀(e:D) (n:Nat) (p:List Int) (c:Cnt),GL n e->KeyOk c->KeyOk (evD p e c).2.1
 |.set x t,n,p,c,h,k=>by
  rcases z:evT c t (p++[0]) with⟨r,w⟩;cases r with
  |ref u q=>rw[F1 z]; exact k
  |had v=>rw[F2 z]; exact k.put h.1 v
 |.ite t b b2,n,p,c,h,k=>by
  rcases z:evT c t (p++[0]) with⟨r,w⟩;cases r with
  |ref u q=>rw[DR z]; exact k
  |had v=>
   by_cases B:v=0
   ·subst B;rw[DT z];exact Cs b2 n (p++[2]) 0 c h.2.2 k
   ·rw[DS z B];exact Cs b n (p++[1]) 0 c h.2.1 k
 |.whl t m b,n,p,c,h,k=>by
  rw[evD];exact cZ KeyOk (fun G F=>Cs b n (p++[1]) 0 G h.2 F) _ c k
theorem Cs:∀(b:List D) (n:Nat) (p:List Int) (i:Int) (c:Cnt),okW n b->KeyOk c->KeyOk (evB p i b c).2.1
 |[],n,p,i,c,h,k=>by rw[evB]; exact k
 |e::r,0,p,i,c,h,k=>h.elim
 |e::r,n+1,p,i,c,h,k=>by
  have h1:=MT e n (p++[i]) c (h.2 e (.head _)) k;rw[evB];rcases q:evD (p++[i]) e c with⟨o,z,w⟩;rw[q] at h1;cases o with
  |some u=>exact h1
  |none=>exact Cs r (n+1) p (i+1) z ⟨by have:=h.1; rw[yu] at this; lia,fun d hd=>h.2 d (.tail _ hd)⟩ h1
end
mutual
theorem MU:∀(e:D) (p:List Int) (c:Cnt) (g g':List Str),kbD g e=some g'->Has c g->(evD p e c).1=none->Has (evD p e c).2.1 g'
 |.set x t,p,c,g,g',hk,h=>by
  rcases B:evT c t (p++[0]) with⟨r,w⟩;cases r with
  |ref u q=>rw[F1 B]; exact fun z=>by cases z
  |had v=>
   rw[F2 B];intro _;rw[kbD] at hk;split at hk
   ·cases hk;have:=MP t (p++[0]) B;exact h.put this.1 this.2
   ·cases hk
 |.ite t b b2,p,c,g,g',hk,h=>by
  rcases B:evT c t (p++[0]) with⟨r,w⟩;cases r with
  |ref u q=>rw[DR B]; exact fun z=>by cases z
  |had v=>
   obtain⟨_,⟨F,h1⟩,J,h2⟩:=Ir hk;have sub:Sub g' F/\Sub g' J:=by
    have G:=(Ir hk).1;rw[kbD,if_pos G,h1,h2] at hk;cases hk;exact⟨fun x hx=>(List.mem_filter.mp hx).1,fun x hx=>by simpa using(List.mem_filter.mp hx).2⟩
   by_cases M:v=0
   ·subst M;rw[DT B];exact fun z=>(F3 b2 (p++[2]) 0 c g J h2 h z).sub sub.2
   ·rw[DS B M];exact fun z=>(F3 b (p++[1]) 0 c g F h1 h z).sub sub.1
 |.whl t m b,p,c,g,g',hk,h=>by
  obtain⟨_,rfl,F,h1⟩:=MS hk;rw[evD];exact ca (fun c=>Has c g') (fun R O z=>(F3 b (p++[1]) 0 R g' F h1 O z).sub (F0 b g' F h1)) _ c h
theorem F3:∀(b:List D) (p:List Int) (i:Int) (c:Cnt) (g g':List Str),kbB g b=some g'->Has c g->(evB p i b c).1=none->Has (evB p i b c).2.1 g'
 |[],p,i,c,g,g',hk,h=>by
  rw[kbB] at hk;cases hk;rw[evB];exact fun _=>h
 |e::r,p,i,c,g,g',hk,h=>by
  rw[kbB] at hk;cases hd:kbD g e with
  |none=>rw[hd] at hk; cases hk
  |some q=>
   rw[hd] at hk;have h1:=MU e (p++[i]) c g q hd h;rw[evB];rcases B:evD (p++[i]) e c with⟨o,F,w⟩;rw[B] at h1;cases o with
   |some u=>exact fun z=>by cases z
   |none=>exact F3 r p (i+1) F q g' hk (h1 rfl)
end
noncomputable def AZ(q:List RI)(o:Out):Out:=(o.1,o.2.1,q++o.2.2)
theorem CV{cond:Cnt->Rs×List RI}{body:Cnt->Out}(h:cond c=(.ref u q,r)):Ad cond body p k c=(some (u,q),c,r):=by
 cases k<;>rw[Ad,h]
theorem Ct{cond:Cnt->Rs×List RI}{body:Cnt->Out}(h:cond c=(.had 0,r)):Ad cond body p k c=(none,c,r):=by
 cases k<;>rw[Ad,h]<;>simp
theorem F4{cond:Cnt->Rs×List RI}{body:Cnt->Out}(h:cond c=(.had v,r))(q:v≠0):Ad cond body p 0 c=((some (("long" : Str),p),c,r):Out):=by
 rw[Ad,h];simp[q]
theorem EE{cond:Cnt->Rs×List RI}{body:Cnt->Out}(h:cond c=(.had v,r))(q:v≠0)(hb:body c=(some e,c1,r1)):Ad cond body p (k+1) c=(some e,c1,r++r1):=by
 rw[Ad,h];simp[q,hb]
theorem EF{cond:Cnt->Rs×List RI}{body:Cnt->Out}(h:cond c=(.had v,r))(q:v≠0)(hb:body c=(none,c1,r1)):Ad cond body p (k+1) c=AZ (r++r1) (Ad cond body p k c1):=by
 rw[Ad,h];simp[q,hb,AZ]
def WhI(H:Hp)(va:Addr)(pv:V)(d fs:Addr)(lo:Option Addr)(g:List Str)(t:T)(b:List D)(p:List Int)(M:Nat)(out:Out)(k:Nat)(σ:St)(B:Hp):Prop:=∃(j:Nat) (q:Cnt) (z:List RI) (F x6:Option V),σ=[some (.ref va),some pv,some (.ref d),some (.ref fs),some (.int j),F,x6]/\j+k=M/\Gd d lo H B z/\B d=some (.dK (kvC q))/\KeyOk q/\Has q g/\out=AZ z (Ad (fun c=>evT c t (p++[0])) (fun c=>evB (p++[1]) 0 b c) p k q)
theorem MV(cond:Cnt->Rs×List RI)(body:Cnt->Out)(p:List Int)(k:Nat)(c:Cnt):(cond c).2.length<=(Ad cond body p k c).2.2.length:=by
 rcases h:cond c with⟨r,w⟩;cases r with
 |ref u q=>rw[CV h]; exact yf _
 |had v=>
  by_cases z:v=0
  ·subst z;rw[Ct h]; exact yf _
  ·cases k with
   |zero=>rw[F4 h z]; exact yf _
   |succ k=>
    rcases hb:body c with⟨e,F,B⟩;cases e with
    |some e=>rw[EE h z hb]; simp
    |none=>rw[EF h z hb]; simp only[AZ,yc]; lia
theorem cb{cond:Cnt->Rs×List RI}{body:Cnt->Out}(h:cond c=(.had v,r))(q:v≠0):r.length+(body c).2.2.length<=(Ad cond body p (k+1) c).2.2.length:=by
 rcases hb:body c with⟨e,B,z⟩;cases e with
 |some e=>rw[EE h q hb]; simp
 |none=>rw[EF h q hb]; simp only[AZ,yc]; lia
theorem F5{p:List Int}{k:Int}{e:D}{r:List D}{c q:Cnt}{u:Ref}{w:List RI}(h:evD (p++[k]) e c=(some u,q,w)):evB p k (e::r) c=(some u,q,w):=by rw[evB,h]
theorem F6{p:List Int}{k:Int}{e:D}{r:List D}{c q:Cnt}{w:List RI}(h:evD (p++[k]) e c=(none,q,w)):evB p k (e::r) c=AZ w (evB p (k+1) r q):=by rw[evB,h]; rfl
theorem MW(p:List Int)(k:Int)(e:D)(r:List D)(c:Cnt):(evD (p++[k]) e c).2.2.length<=(evB p k (e::r) c).2.2.length:=by
 rcases h:evD (p++[k]) e c with⟨o,q,w⟩;cases o with
 |some u=>rw[F5 h]; exact yf _
 |none=>rw[F6 h]; simp[AZ]
theorem MX(h:kbB g (e::r)=some g'):∃q,kbD g e=some q/\kbB q r=some g':=by
 rw[kbB] at h;cases hd:kbD g e with
 |none=>rw[hd] at h; cases h
 |some q=>rw[hd] at h; exact⟨q,rfl,h⟩
theorem F7{α:Type}:∀{l:List α} {i:Nat} {x:α},l[i]?=some x->l.drop i=x::l.drop (i+1)
 |[],_,_,h=>by simp at h
 |a::l,0,x,h=>by simp at h; simp[h]
 |a::l,i+1,x,h=>by
  have:l[i]?=some x:=by simpa using h
  simpa using F7 this
def BkI(H:Hp)(ab:Addr)(pv:V)(d fs:Addr)(lo:Option Addr)(g':List Str)(b:List D)(p:List Int)(out:Out)(i:Nat)(σ:St)(F:Hp):Prop:=∃(q:Cnt) (B:List Str) (z:List RI) (J G x6:Option V),σ=[some (.ref ab),some pv,some (.ref d),some (.ref fs),J,G,x6]/\Gd d lo H F z/\F d=some (.dK (kvC q))/\KeyOk q/\Has q B/\kbB B (b.drop i)=some g'/\out=AZ z (evB p i (b.drop i) q)
theorem ce(F:Fun K "do_set" "do_set" CF f fd) (c_reckon:Callee P w K mg base "reckon" ["term","path","names","settle"] 7 (Cp 5)):FnOk P w K mg base CX0 8 f fd ["deed","path","names","settle"] (DQ ["set"] n):=by
 refine F.ok sc_do_set (fun vs H Q E h=>?_) (fun fq A outer s H vs Q E hr h=>?_)
 ·obtain⟨v,e,pv,p,d,f,c,g,g',lo,rfl,_⟩:=h;rfl
 obtain⟨v,e,pv,p,d,fs,c,g,g',lo,rfl,hk,hv,hp,fe,hn,fk,J,hd,fg,hh,hS,hL,q⟩:=h;obtain⟨x,t,rfl⟩:∃x t,e=.set x t:=by
  cases e with
  |set x t=>exact⟨x,t,rfl⟩
  |ite t b c=>exact absurd (List.mem_singleton.mp hk) (show ¬ ("if" : Str) = "set" by decide+kernel)
  |whl t m b=>exact absurd (List.mem_singleton.mp hk) (show ¬ ("while" : Str) = "set" by decide+kernel)
 rw[D.enc] at hv;obtain⟨va,x0,x1,xt,rfl,Z,t0,t1,dt⟩:=Bt hv;cases t0;cases t1;rw[kbD] at J;have fh:t.knows g=true:=by
  cases hz:t.knows g with
  |true=>rfl
  |false=>rw[hz] at J; cases J
 have fc:=Iq c x t p;refine⟨_,(A6 (AN (i:=4) sc_do_set.nd rfl YB (AH c_reckon hr (by lia) (A1 (A9 ix_tup (A0 0 rfl Q1) A3 (fun _ _=>rfl)) (A1 (AA Am (A0 1 rfl YC) (AI (A1 A3 A2))) (A1 (A0 2 rfl Q2) (A1 (A0 3 rfl YD) A2)))) YA Fq) (AF rfl))
 (A6 (AK (AC (gEq hr.units) (A9 ix_tup (A0 4 rfl LE) A3 (fun _ _=>rfl)) AD (AE _)) (A7 (AG (A0 4 rfl LE))) AL)
 (A6 (HY hr.units1 (A0 2 rfl Q2) (A9 ix_tup (A0 0 rfl Q1) A3 (fun _ _=>rfl)) (A9 ix_tup (A0 4 rfl LE) A3 (fun _ _=>rfl)) (AF rfl))
 (A7 (AG Bp))))),AB fun N1 e1=>?_⟩
 walk_at "a";refine⟨_,SqT.of Z,_,AV (j:=2) rfl,by decide,fun p1 h1=>?_⟩;have s1:=A5 h1 (HO.tup [V.int 0]);refine At (hp.kp s1.kp) Au (by simp; lia) fun z H1 s2 dz=>?_;have G:=s1.trans s2;refine⟨xt,t,z,_,d,fs,c,g,lo,rfl,dt.kp G.kp,dz,Cq fe.2 fh,by decide,by simp; lia,G _ _ hd,hh,hS.kp (Same.kpE G),by rw[<- fc]; exact hL.same G,fun r1 H2 g1 R=>?_⟩;have G1:Gr lo H H2 (evT c t (p++[0])).2:=(Gr.same G hL).trans g1;clear g1 s1 s2 G;have O:=G1.keep hd (by intro xs z; cases z);have U:=G1.keep Z (by intro xs z; cases z);obtain⟨b1,rfl,B⟩:=DP R;rcases M:evT c t (p++[0]) with⟨r1,w1⟩;rw[M] at G1 R B;rw[e1];refine AB fun N2 e2=>?_;walk_at "a";rcases B with⟨i1,rfl,B⟩|⟨u,qq,y1,rfl,B⟩;rotate_left
 ·refine⟨_,SqT.of B,_,AW,_,Ak,?_⟩;rw[if_pos (decide_eq_true rfl)];rw[F1 M] at q;exact q _ _ G1.gd O R
 refine⟨_,SqT.of B,_,AW,_,Ak,?_⟩;rw[if_neg (by rw[decide_eq_true_eq]; exact GM)];rw[e2];walk_at "a";rw[F2 M] at q;refine⟨_,SqT.of B,_,AV (j:=1) rfl,_,SqT.of U,_,AV (j:=1) rfl,_,DPut.k (k:=Sum.inr x) O ?_,?_⟩
 ·unfold kvC;rw[y4];exact y11 fg.len (by decide)
 ·exact q _ _ (Gd.put G1 O) (by rw[A4,Im]) rfl
theorem cf(F:Fun K "do_if" "do_if" C3 f fd) (c_reckon:Callee P w K mg base "reckon" ["term","path","names","settle"] 7 (Cp 5)) (c_do_block:Callee P w K mg base "do_block" ["block","path","names","settle"] (3*n+8) (ED n)):FnOk P w K mg base CX0 (3*n+9) f fd ["deed","path","names","settle"] (DQ ["if"] n):=by
 refine F.ok sc_do_if (fun vs H Q E h=>?_) (fun ge A outer s H vs Q E hr h=>?_)
 ·obtain⟨v,e,pv,p,d,f,c,g,g',lo,rfl,_⟩:=h;rfl
 obtain⟨v,e,pv,p,d,fs,c,g,g',lo,rfl,hk,hv,hp,fc,hn,gc,fX,hd,ft,hh,hS,hL,q⟩:=h;obtain⟨t,b,b2,rfl⟩:∃t b b2,e=.ite t b b2:=by
  cases e with
  |set x t=>exact absurd (List.mem_singleton.mp hk) (show ¬ ("set" : Str) = "if" by decide+kernel)
  |ite t b c=>exact⟨t,b,c,rfl⟩
  |whl t m b=>exact absurd (List.mem_singleton.mp hk) (show ¬ ("while" : Str) = "if" by decide+kernel)
 rw[D.enc] at hv;obtain⟨va,x0,xt,xb,xc,rfl,fk,t0,dt,db,dc⟩:=Ev hv;cases t0;obtain⟨fV,⟨q1,fz⟩,q2,fw⟩:=Ir fX;have gb:=RZ c t b b2 p;refine⟨_,(A6 (AN (i:=4) sc_do_if.nd rfl YF (AH c_reckon hr (by lia) (A1 (A9 ix_tup (A0 0 rfl LF) A3 (fun _ _=>rfl)) (A1 (AA Am (A0 1 rfl LI) (AI (A1 A3 A2))) (A1 (A0 2 rfl LH) (A1 (A0 3 rfl LJ) A2)))) YE Fq) (AF rfl))
 (A6 (AK (AC (gEq hr.units) (A9 ix_tup (A0 4 rfl LG) A3 (fun _ _=>rfl)) AD (AE _)) (A7 (AG (A0 4 rfl LG))) AL)
 (A6 (AK (AC HK (A9 ix_tup (A0 4 rfl LG) A3 (fun _ _=>rfl)) A3 (AE _)) (A7 (AG (AH c_do_block hr (by lia) (A1 (A9 ix_tup (A0 0 rfl LF) A3 (fun _ _=>rfl)) (A1 (AA Am (A0 1 rfl LI) (AI (A1 A3 A2))) (A1 (A0 2 rfl LH) (A1 (A0 3 rfl LJ) A2)))) Q3 IM))) AL)
 (A7 (AG (AH c_do_block hr (by lia) (A1 (A9 ix_tup (A0 0 rfl LF) A3 (fun _ _=>rfl)) (A1 (AA Am (A0 1 rfl LI) (AI (A1 A3 A2))) (A1 (A0 2 rfl LH) (A1 (A0 3 rfl LJ) A2)))) Q3 IM)))))),AB fun N1 e1=>?_⟩
 walk_at "a";refine⟨_,SqT.of fk,_,AV (j:=1) rfl,by decide,fun p1 h1=>?_⟩;have s1:=A5 h1 (HO.tup [V.int 0]);refine At (hp.kp s1.kp) Au (by simp; lia) fun z H1 s2 dz=>?_;have M:=s1.trans s2;refine⟨xt,t,z,_,d,fs,c,g,lo,rfl,dt.kp M.kp,dz,Cq fc.1 fV,by decide,by simp; lia,M _ _ hd,hh,hS.kp (Same.kpE M),(hL.same M).mono (by lia),fun r1 H2 g1 fh=>?_⟩;have O:Gr lo H H2 (evT c t (p++[0])).2:=(Gr.same M hL).trans g1;clear g1 s1 s2 M;have G:=O.keep hd (by intro xs z; cases z);have Z:=O.keep fk (by intro xs z; cases z);have fq:=hp.kp O.kp;have fZ:=db.kp O.kp;have fY:=dc.kp O.kp;have fu:=hS.kp O.kpE;obtain⟨b1,rfl,J⟩:=DP fh;rcases U:evT c t (p++[0]) with⟨r1,w1⟩;rw[U] at O fh J;rw[e1];refine AB fun N2 e2=>?_;walk_at "a";rcases J with⟨i1,rfl,J⟩|⟨u,qq,y1,rfl,J⟩;rotate_left
 ·refine⟨_,SqT.of J,_,AW,_,Ak,?_⟩;rw[if_pos (decide_eq_true rfl)];rw[DR U] at q;exact q _ _ O.gd G fh
 refine⟨_,SqT.of J,_,AW,_,Ak,?_⟩;rw[if_neg (by rw[decide_eq_true_eq]; exact GM)];rw[e2];refine AB fun N3 e3=>?_;walk_at "a";refine⟨_,SqT.of J,_,AV (j:=1) rfl,_,rfl,?_⟩;by_cases hz:i1=0
 ·subst hz;rw[DT U] at q hL;simp only[if_true,if_false,not_true,ne_eq,not_false_eq_true];rw[e3];walk_at "a";refine⟨_,SqT.of Z,_,AV (j:=3) rfl,by decide,fun p2 h2=>?_⟩;have s3:=A5 h2 (HO.tup [V.int 2]);refine At (fq.kp s3.kp) Au (by simp; lia) fun z2 H3 s4 fg=>?_;have B:=s3.trans s4;have R:HasL lo H2 ((evB (p++[2]) 0 b2 c).2.2.length+1):=hL.on O (by show w1.length+_<=_; rw[yc]; lia);refine⟨xc,b2,z2,_,d,fs,c,g,q2,lo,rfl,fY.kp B.kp,fg,fc.2.2,by lia,by simp; lia,fw,B _ _ G,ft,hh,fu.kp (Same.kpE B),R.same B,fun r2 H4 g2 fe ho=>?_⟩;exact q _ _ (O.gd.trans (((Gr.same B R).gd).trans g2 (B _ _ G)) G) fe ho
 ·rw[DS U hz] at q hL;rw[if_pos (decide_eq_false hz)];refine⟨_,SqT.of Z,_,AV (j:=2) rfl,by decide,fun p2 h2=>?_⟩;have s3:=A5 h2 (HO.tup [V.int 1]);refine At (fq.kp s3.kp) Au (by simp; lia) fun z2 H3 s4 fg=>?_;have B:=s3.trans s4;have R:HasL lo H2 ((evB (p++[1]) 0 b c).2.2.length+1):=hL.on O (by show w1.length+_<=_; rw[yc]; lia);refine⟨xb,b,z2,_,d,fs,c,g,q1,lo,rfl,fZ.kp B.kp,fg,fc.2.1,by lia,by simp; lia,fz,B _ _ G,ft,hh,fu.kp (Same.kpE B),R.same B,fun r2 H4 g2 fe ho=>?_⟩;exact q _ _ (O.gd.trans (((Gr.same B R).gd).trans g2 (B _ _ G)) G) fe ho
theorem cg(F:Fun K "do_while" "do_while" BT f fd) (c_reckon:Callee P w K mg base "reckon" ["term","path","names","settle"] 7 (Cp 5)) (c_do_block:Callee P w K mg base "do_block" ["block","path","names","settle"] (3*n+8) (ED n)):FnOk P w K mg base CX0 (3*n+9) f fd ["deed","path","names","settle"] (DQ ["while"] n):=by
 refine F.ok sc_do_while (fun vs H Q E h=>?_) (fun gC A outer s H vs Q E hr h=>?_)
 ·obtain⟨v,e,pv,p,d,f,c,g,g',lo,rfl,_⟩:=h;rfl
 obtain⟨v,e,pv,p,d,fs,c,g,g',lo,rfl,hk,hv,hp,fu,hn,gA,gp,hd,gm,hh,hS,hL,q⟩:=h;obtain⟨t,m,b,rfl⟩:∃t m b,e=.whl t m b:=by
  cases e with
  |set x t=>exact absurd (List.mem_singleton.mp hk) (show ¬ ("set" : Str) = "while" by decide+kernel)
  |ite t b c=>exact absurd (List.mem_singleton.mp hk) (show ¬ ("if" : Str) = "while" by decide+kernel)
  |whl t m b=>exact⟨t,m,b,rfl⟩
 rw[D.enc] at hv;obtain⟨va,x0,xt,xm,xb,rfl,gj,t0,dt,dm,db⟩:=Ev hv;cases t0;cases dm;obtain⟨gn,rfl,q1,ft⟩:=MS gp;refine⟨_,(A6 (AN (i:=4) sc_do_while.nd rfl Q4 A3 (AF rfl))
 (A7 (Mu y0m (JP EL)
 (A6 (AN (i:=5) sc_do_while.nd rfl YI (AH c_reckon hr (by lia) (A1 (A9 ix_tup (A0 0 rfl LK) A3 (fun _ _=>rfl)) (A1 (AA Am (A0 1 rfl LM) (AI (A1 A3 A2))) (A1 (A0 2 rfl Q6) (A1 (A0 3 rfl Q8) A2)))) YH Fq) (AF rfl))
 (A6 (AK (AC (gEq hr.units) (A9 ix_tup (A0 5 rfl LL) A3 (fun _ _=>rfl)) AD (AE _)) (A7 (AG (A0 5 rfl LL))) AL)
 (A6 (AK (AC CO (A9 ix_tup (A0 5 rfl LL) A3 (fun _ _=>rfl)) A3 (AE _)) (A7 (AG Bp)) AL)
 (A6 (AK (AC TB (A0 4 rfl Q5) (A9 ix_tup (A0 0 rfl LK) A3 (fun _ _=>rfl)) (AE _)) (A7 (AG (AI (A1 AD (A1 AD (A1 (A0 1 rfl LM) A2)))))) AL)
 (A6 (AN (i:=6) sc_do_while.nd rfl YJ (AH c_do_block hr (by lia) (A1 (A9 ix_tup (A0 0 rfl LK) A3 (fun _ _=>rfl)) (A1 (AA Am (A0 1 rfl LM) (AI (A1 A3 A2))) (A1 (A0 2 rfl Q6) (A1 (A0 3 rfl Q8) A2)))) YG IM) (AF rfl))
 (A6 (AK (AC Jw (A0 6 rfl Q7) Bp (AE _)) (A7 (AG (A0 6 rfl Q7))) AL)
 (A7 (AN (i:=4) sc_do_while.nd rfl Q4 (AA AY (A0 4 rfl Q5) A3) (AF rfl)))))))))))),AB fun N1 e1=>?_⟩
 walk_at "a";rw[e1];have fk:evD p (.whl t m b) c=AZ [] (Ad (fun c=>evT c t (p++[0])) (fun c=>evB (p++[1]) 0 b c) p m.toNat c):=by rw[evD]; rfl
 generalize evD p (.whl t m b) c=out at hL q fk;refine⟨WhI H va pv d fs lo g' t b p m.toNat out,⟨m.toNat,0,c,[],none,none,rfl,by lia,(Gr.same (Same.refl H) hL).gd,hd,gm,hh,fk⟩,?_⟩;rintro k σ Hc ⟨j,R,rs,x5,x6,rfl,gB,gd,fz,gb,fw,U⟩;simp only[tB,tC,↓GV,if_true];refine⟨fun gh H'=>∃k',k'<k/\WhI H va pv d fs lo g' t b p m.toNat out k' gh H',fun _ _ h=>h,AB fun N2 e2=>?_⟩;walk_at "a";have fg:=gd.keep hd gj (by intro xs z; cases z) (by intro xs z; cases z);have fq:=gd.kp hd;have gf:=hS.kp (gd.kpE hd);have fY:=hp.kp fq;have gw:=dt.kp fq;have gx:=db.kp fq;have l1:=MV (fun c=>evT c t (p++[0])) (fun c=>evB (p++[1]) 0 b c) p k R;have lo1:out.2.2.length=rs.length+(Ad (fun c=>evT c t (p++[0])) (fun c=>evB (p++[1]) 0 b c) p k R).2.2.length:=by rw[U,AZ,yc]
 have fc:HasL lo Hc ((Ad (fun c=>evT c t (p++[0])) (fun c=>evB (p++[1]) 0 b c) p k R).2.2.length+1):=hL.onD gd (by lia);refine⟨_,SqT.of fg,_,AV (j:=1) rfl,by decide,fun p1 h1=>?_⟩;have s1:=A5 h1 (HO.tup [V.int 0]);refine At (fY.kp s1.kp) Au (by simp; lia) fun z H1 s2 dz=>?_;have O:=s1.trans s2;refine⟨xt,t,z,_,d,fs,R,g',lo,rfl,gw.kp O.kp,dz,Cq fu.1 gn,by decide,by simp; lia,O _ _ fz,fw,gf.kp (Same.kpE O),(fc.same O).mono (by lia),fun r1 H2 g1 fX=>?_⟩;have G1:Gr lo Hc H2 (evT R t (p++[0])).2:=(Gr.same O fc).trans g1;clear g1 s1 s2 O;have G:=G1.keep fz (by intro xs z; cases z);have fh:=G1.keep fg (by intro xs z; cases z);have fZ:=fY.kp G1.kp;have gy:=gx.kp G1.kp;have gt:=gf.kp G1.kpE;obtain⟨b1,rfl,J⟩:=DP fX;rcases B:evT R t (p++[0]) with⟨r1,w1⟩;rw[B] at G1 fX J;have GD:=gd.trans G1.gd fz;have gz:w1.length<=(Ad (fun c=>evT c t (p++[0])) (fun c=>evB (p++[1]) 0 b c) p k R).2.2.length:=by
  have z:=l1;simp only[B] at z;exact z
 rw[e2];refine AB fun N3 e3=>?_;walk_at "a";rcases J with⟨i1,rfl,J⟩|⟨u,qq,y1,rfl,J⟩;rotate_left
 ·refine⟨_,SqT.of J,_,AW,_,Ak,?_⟩;rw[if_pos (decide_eq_true rfl)];rw[CV (cond:=fun c=>evT c t (p++[0])) B] at U;subst U;exact q _ _ GD G fX
 refine⟨_,SqT.of J,_,AW,_,Ak,?_⟩;rw[if_neg (by rw[decide_eq_true_eq]; exact GM)];rw[e3];refine AB fun N4 e4=>?_;walk_at "a";refine⟨_,SqT.of J,_,AV (j:=1) rfl,_,rfl,?_⟩;by_cases hz:i1=0
 ·subst hz;rw[Ct (cond:=fun c=>evT c t (p++[0])) B] at U;subst U;rw[if_pos (by decide)];exact q _ _ GD G rfl
 rw[if_neg (by simpa using hz)];rw[e4];refine AB fun N5 e5=>?_;walk_at "a";refine⟨_,SqT.of fh,_,AV (j:=2) rfl,_,rfl,?_⟩;cases k with
 |zero=>
  rw[F4 (cond:=fun c=>evT c t (p++[0])) B hz] at U;subst U;rw[if_pos (by lia)];refine⟨by decide,fun r hr'=>?_⟩;have s3:=A5 hr' (HO.tup [V.str "refused",V.str "long",pv]);refine q _ _ ?_ (s3 _ _ G) (.tup A4 (.cons (.str _) (.cons (.str _) (.cons (fZ.kp s3.kp) .nil))));have fe:HasL lo H2 0:=fc.on G1 (by show w1.length+_<=_; lia);have:=GD.trans (Gr.same s3 fe).gd G;rw[y0x] at this;exact this
 |succ k=>
  rw[if_neg (by lia)];have l2:=cb (cond:=fun c=>evT c t (p++[0])) (body:=fun c=>evB (p++[1]) 0 b c) (p:=p) (k:=k) B hz;have fe:HasL lo H2 ((evB (p++[1]) 0 b R).2.2.length+1):=fc.on G1 (by show w1.length+_<=_; lia);rw[e5];refine AB fun N6 e6=>?_;walk_at "a";refine⟨_,SqT.of fh,_,AV (j:=3) rfl,by decide,fun p2 h2=>?_⟩;have s3:=A5 h2 (HO.tup [V.int 1]);refine At (fZ.kp s3.kp) Au (by simp; lia) fun z2 H3 s4 gu=>?_;have M:=s3.trans s4;refine⟨xb,b,z2,_,d,fs,R,g',q1,lo,rfl,gy.kp M.kp,gu,fu.2,by lia,by simp; lia,ft,M _ _ G,gb,fw,gt.kp (Same.kpE M),fe.same M,fun r2 H4 g2 fV Z=>?_⟩;have GB:=GD.trans (((Gr.same M fe).gd).trans g2 (M _ _ G)) G;have gc:=Cs b n (p++[1]) 0 R fu.2 gb;have ge:=F3 b (p++[1]) 0 R g' q1 ft fw;rcases hb:evB (p++[1]) 0 b R with⟨ee,c4,w4⟩;rw[hb] at fV Z GB gc ge;rw[e6];refine AB fun N7 e7=>?_;walk_at "a";cases ee with
  |some er=>
   rw[EE (cond:=fun c=>evT c t (p++[0])) (body:=fun c=>evB (p++[1]) 0 b c) B hz hb] at U;subst U;have gk:r2≠.non:=by
    obtain⟨a4,rfl,_⟩:=DP (r:=Rs.ref er.1 er.2) Z;intro z;cases z
   rw[if_pos (decide_eq_false gk)];refine q _ _ ?_ fV Z;show Gd d lo H H4 (rs++(w1++w4));rw[<- yn];exact GB
  |none=>
   rw[EF (cond:=fun c=>evT c t (p++[0])) (body:=fun c=>evB (p++[1]) 0 b c) B hz hb] at U;cases Z;rw[if_neg (by simp),e7];walk_at "a";refine⟨k,by lia,j+1,c4,rs++(w1++w4),_,_,rfl,by lia,?_,fV,gc,(ge rfl).sub (F0 b g' q1 ft),?_⟩
   ·rw[<- yn];exact GB
   ·rw[U];simp only[AZ,yn]
theorem ck(F:Fun K "do_deed" "do_deed" CD f fd) (c_do_set:Callee P w K mg base "do_set" ["deed","path","names","settle"] 8 (DQ ["set"] n)) (c_do_if:Callee P w K mg base "do_if" ["deed","path","names","settle"] (3*n+9) (DQ ["if"] n)) (c_do_while:Callee P w K mg base "do_while" ["deed","path","names","settle"] (3*n+9) (DQ ["while"] n)):FnOk P w K mg base CX0 (3*n+10) f fd ["deed","path","names","settle"] (DQ ["set","if","while"] n):=by
 refine F.ok Y6 (fun vs H Q E h=>?_) (fun O A outer s H vs Q E hr h=>?_)
 ·obtain⟨v,e,pv,p,d,f,c,g,g',lo,rfl,_⟩:=h;rfl
 obtain⟨v,e,pv,p,d,fs,c,g,g',lo,rfl,hk,B,h⟩:=h;obtain⟨va,xs,rfl,q⟩:=cB B;refine⟨_,(A6 (AK (AC (gEq hr.units) (A9 ix_tup (A0 0 rfl Fu) A3 (fun _ _=>rfl)) AD (AE _)) (A7 (AG (AH c_do_set hr (by lia) (A1 (A0 0 rfl Fu) (A1 (A0 1 rfl LC) (A1 (A0 2 rfl LB) (A1 (A0 3 rfl LD) A2)))) Y8 Ws))) AL)
 (A6 (AK (AC (gEq hr.units) (A9 ix_tup (A0 0 rfl Fu) A3 (fun _ _=>rfl)) AD (AE _)) (A7 (AG (AH c_do_if hr (by lia) (A1 (A0 0 rfl Fu) (A1 (A0 1 rfl LC) (A1 (A0 2 rfl LB) (A1 (A0 3 rfl LD) A2)))) Y7 Wr))) AL)
 (A7 (AG (AH c_do_while hr (by lia) (A1 (A0 0 rfl Fu) (A1 (A0 1 rfl LC) (A1 (A0 2 rfl LB) (A1 (A0 3 rfl LD) A2)))) Y9 Wt))))),AB fun U M=>?_⟩
 walk_at "a";refine⟨_,SqT.of q,_,AW,_,Ak,?_⟩;split
 ·rename_i z;exact⟨_,e,pv,p,d,fs,c,g,g',lo,rfl,by rw[of_decide_eq_true z]; simp,B,h⟩
 rename_i J;rw[M];refine AB fun R e2=>?_;walk_at "a";refine⟨_,SqT.of q,_,AW,_,Ak,?_⟩;split
 ·rename_i z;exact⟨_,e,pv,p,d,fs,c,g,g',lo,rfl,by rw[of_decide_eq_true z]; simp,B,h⟩
 rename_i G;rw[e2];walk_at "a";refine⟨_,e,pv,p,d,fs,c,g,g',lo,rfl,?_,B,h⟩;simp only[y0f,y00,or_false] at hk |-;rcases hk with hk|hk|hk
 ·exact absurd (decide_eq_true hk) J
 ·exact absurd (decide_eq_true hk) G
 ·exact hk
theorem cm(F:Fun K "do_block" "do_block" BS f fd) (b_enumerate:mg "enumerate" = none) (c_do_deed:Callee P w K mg base "do_deed" ["deed","path","names","settle"] (3*n+10) (DQ ["set","if","while"] n)):FnOk P w K mg base CX0 (3*n+11) f fd ["block","path","names","settle"] (ED (n+1)):=by
 refine F.ok sc_do_block (fun vs H Q E h=>?_) (fun gj A outer s H vs Q E hr h=>?_)
 ·obtain⟨v,b,pv,p,d,f,c,g,g',lo,rfl,_⟩:=h;rfl
 obtain⟨v,b,pv,p,d,fs,c,g,g',lo,rfl,hv,hp,fZ,hn,gh,gf,hd,gc,hh,hS,hL,q⟩:=h;obtain⟨ab,xs,rfl,fV,fw⟩:=hv.tupI;have fY:xs.length=b.length:=by rw[fw.length,Er]
 have U:evB p 0 b c=AZ [] (evB p ((0:Nat):Int) (b.drop 0) c):=by rw[y2v]; rfl
 generalize evB p 0 b c=out at hL q U;refine⟨_,(A6 (BD y0m rfl (KJ Xs b_enumerate (A1 (A0 0 rfl Xx) A2)) (BY (n:=2) rfl (Aa (AO (i:=4) sc_do_block.nd rfl Xt) (Aa (AO (i:=5) sc_do_block.nd rfl Xu) BP)))
 (A6 (AN (i:=6) sc_do_block.nd rfl Xv (AH c_do_deed hr (by lia) (A1 (A0 5 rfl Xy) (A1 (AA Am (A0 1 rfl Y0) (AI (A1 (A0 4 rfl Xw) A2))) (A1 (A0 2 rfl Xz) (A1 (A0 3 rfl Y5) A2)))) Xr Wq) (AF rfl))
 (A7 (AK (AC Jw (A0 6 rfl Q0) Bp (AE _)) (A7 (AG (A0 6 rfl Q0))) AL))))
 (A7 (AG Bp))),AB fun N1 e1=>?_⟩
 walk_at "a";refine⟨⟨_,SqT.of fV⟩,?_⟩;refine KL (xs:=xs) (BkI H ab pv d fs lo g' b p out) ?s ?l ?t ?d
 case s=>exact⟨c,g,[],_,_,_,rfl,(Gr.same (Same.refl H) hL).gd,hd,gc,hh,by rw[y2v]; exact gf,U⟩
 case l=>
  rintro i σ Hc _ ⟨R,gi,rs,_,_,_,rfl,gd,_⟩;exact SqT.of (gd.keep hd fV (by intro xs z; cases z) (by intro xs z; cases z))
 case d=>
  rintro σ Hc ⟨R,gi,rs,_,_,_,rfl,gd,J,Z,fc,G,O⟩;show N1 _ _;rw[e1];walk_at "a";rw[fY,List.drop_length,evB] at O;subst O;refine q _ _ ?_ J rfl;show Gd d lo H Hc (rs++[]);rw[y0x];exact gd
 case t=>
  rintro i x σ Hc Tu hx ⟨R,gi,rs,_,_,_,rfl,gd,J,Z,fc,G,O⟩ hT;obtain⟨e,fz,dx⟩:=ME fw hx;have fu:=fZ.2 e (yw fz);rw[F7 fz] at O G;obtain⟨q1,fk,ge⟩:=MX G;have s2:=A5 hT (HO.tup [V.int i,x]);walk_at "a";refine⟨_,SqT.of A4,rfl,_,_,rfl,_,_,rfl,rfl,by decide,fun p1 h1=>?_⟩;have s3:=A5 h1 (HO.tup [V.int i]);have fg:=s2.trans s3;have fh:=gd.kp hd;refine At ((hp.kp fh).kp fg.kp) Au (by simp; lia) fun z H1 s4 dz=>?_;have B:=fg.trans s4;have l1:=MW p i e (b.drop (i+1)) R;have lo1:out.2.2.length=rs.length+(evB p i (e::b.drop (i+1)) R).2.2.length:=by rw[O,AZ,yc]
  have fX:HasL lo Hc ((evB p i (e::b.drop (i+1)) R).2.2.length+1):=hL.onD gd (by lia);refine⟨x,e,z,_,d,fs,R,gi,q1,lo,rfl,by cases e<;>simp[D.kind],(dx.kp fh).kp B.kp,dz,fu,by lia,by simp; lia,fk,B _ _ J,Z,fc,(hS.kp (gd.kpE hd)).kp (Same.kpE B),(fX.same B).mono (by lia),fun r2 H4 g2 fe M=>?_⟩;have GB:=gd.trans (((Gr.same B fX).gd).trans g2 (B _ _ J)) J;have fq:=MT e n (p++[(i:Int)]) R fu Z;have ft:=MU e (p++[(i:Int)]) R gi q1 fk fc;rcases hb:evD (p++[(i:Int)]) e R with⟨ee,c4,w4⟩;rw[hb] at fe M GB fq ft;cases ee with
  |some er=>
   rw[F5 hb] at O;subst O;have gb:r2≠.non:=by
    obtain⟨a4,rfl,_⟩:=DP (r:=Rs.ref er.1 er.2) M;intro z;cases z
   show if decide (r2=V.non)=false then Q r2 H4 else _;rw[if_pos (decide_eq_false gb)];exact q _ _ GB fe M
  |none=>
   rw[F6 hb] at O;cases M;show if decide (V.non=V.non)=false then Q V.non H4 else _;rw[if_neg (by simp)];refine⟨c4,q1,rs++w4,_,_,_,rfl,GB,fe,fq,ft rfl,ge,?_⟩;rw[O];simp only[AZ,yn];rfl
theorem cn:FnOk P w K mg base CX0 k f fd [n1,n2,n3,n4] (ED 0):=by
 have q:∀vs H Q E,¬ ED 0 vs H Q E:=fun vs H Q E h=>by
  obtain⟨v,b,pv,p,d,f,c,g,g',lo,_,_,_,h,_⟩:=h;exact h.elim
 exact⟨fun vs H Q E h=>absurd h (q vs H Q E),fun A outer s H args us vs Q E _ _ _ _ h=>absurd h (q vs H Q E)⟩
theorem MY(d:Df K mg "do_block" BS ["block","path","names","settle"] f fd) (d2:Df K mg "do_deed" CD ["deed","path","names","settle"] f2 fd2) (z:Df K mg "do_set" CF ["deed","path","names","settle"] f3 fd3) (q:Df K mg "do_if" C3 ["deed","path","names","settle"] f4 fd4) (d5:Df K mg "do_while" BT ["deed","path","names","settle"] f5 fd5) (b_enumerate:mg "enumerate" = none) (c_reckon:Callee P w K mg base "reckon" ["term","path","names","settle"] 7 (Cp 5)):∀n:Nat,Callee P w K mg base "do_block" ["block","path","names","settle"] (3*n+8) (ED n)
 |0=>d.callee cn
 |n+1=>d.callee (cm d.F b_enumerate (d2.callee (ck d2.F (z.callee (ce z.F c_reckon)) (q.callee (cf q.F c_reckon (MY d d2 z q d5 b_enumerate c_reckon n))) (d5.callee (cg d5.F c_reckon (MY d d2 z q d5 b_enumerate c_reckon n))))))
noncomputable def stB:Cnt->List Rw->List Int->Cnt
 |c,r::q,w::ws=>stB (BN c r.1 w) q ws
 |c,_,_=>c
def Fits:List Rw->List Int->Prop
 |[],[]=>True
 |r::q,w::ws=>r.2.1<=w/\w<=r.2.2/\Fits q ws
 |_,_=>False
theorem Fits.len:∀{rows:List Rw} {ws:List Int},Fits rows ws->rows.length=ws.length
 |[],[],_=>rfl
 |_::q,_::ws,h=>by rw[yu,yu,Fits.len h.2.2]
 |[],_::_,h=>h.elim
 |_::_,[],h=>h.elim
theorem Fits.at:∀{rows:List Rw} {ws:List Int} {i:Nat} {r:Rw} {w:Int},Fits rows ws->rows[i]?=some r->ws[i]?=some w->r.2.1<=w/\w<=r.2.2
 |r::z,w::ws,0,_,_,h,q,e2=>by
  simp at q e2;subst q; subst e2;exact⟨h.1,h.2.1⟩
 |r::z,w::ws,i+1,_,_,h,q,e2=>Fits.at h.2.2 (by simpa using q) (by simpa using e2)
 |[],[],_,_,_,_,q,_=>by simp at q
 |[],_::_,_,_,_,h,_,_=>h.elim
 |_::_,[],_,_,_,h,_,_=>h.elim
theorem Ra:∀{rows:List Rw} {ws:List Int} {i:Nat} {r:Rw} {w:Int} (c:Cnt),rows[i]?=some r->ws[i]?=some w->stB c (rows.take (i+1)) (ws.take (i+1))=BN (stB c (rows.take i) (ws.take i)) r.1 w
 |r::z,w::ws,0,_,_,c,q,e2=>by
  simp at q e2;subst q; subst e2;simp[stB]
 |r::z,w::ws,i+1,_,_,c,q,e2=>by
  have:=Ra (i:=i) (BN c r.1 w) (show z[i]?=some _ by simpa using q) (show ws[i]?=some _ by simpa using e2);simpa [stB] using this
 |[],_,_,_,_,_,q,_=>by simp at q
 |_::_,[],_,_,_,_,_,e2=>by simp at e2
theorem GN:∀(rows:List Rw) (ws:List Int) (c:Cnt),(∀r∈rows,r.1∈pool)->KeyOk c->KeyOk (stB c rows ws)
 |[],_,c,_,h=>by simpa [stB] using h
 |_::_,[],c,_,h=>by simpa [stB] using h
 |r::q,w::ws,c,hr,h=>by
  rw[stB];exact GN q ws _ (fun x hx=>hr x (.tail _ hx)) (h.put (hr r (.head _)) w)
theorem MZ:∀(rows:List Rw) (ws:List Int) (c:Cnt) (g:List Str),Fits rows ws->(∀r∈rows,-6<=r.2.1/\r.2.2<=8)->Has c g->Has (stB c rows ws) (g++rows.map (·.1))
 |[],[],c,g,_,_,h=>by simpa [stB] using h
 |r::q,w::ws,c,g,hf,hr,h=>by
  rw[stB,yj,show g++r.1::q.map (·.1)=(g++[r.1])++q.map (·.1) by simp];have h1:=hr r (.head _);exact MZ q ws _ _ hf.2.2 (fun x hx=>hr x (.tail _ hx)) (h.put (by have:=hf.1; lia) (by have:=hf.2.1; lia))
 |[],_::_,_,_,h,_,_=>h.elim
 |_::_,[],_,_,h,_,_=>h.elim
theorem Iu(h:okRows rows):∀r∈rows,r.1∈pool:=fun r hr=>by
 have h1:r.1∈rows.map (·.1):=List.mem_map.mpr ⟨r,hr,rfl⟩;rw[h.nm] at h1;have h2:=y1n h1;simp only[pair,y0f,y00,or_false] at h2;rcases h2 with h2|h2<;>rw[h2]<;>decide+kernel
theorem KeyOk.nil:KeyOk []:=⟨.nil,fun p h=>by simp at h⟩
def Rb:Sp:=fun vs H Q _=>∃(z q:V) (rows:List Rw) (ws:List Int),vs=[z,q]/\Dt H z (.tup (rows.map BM))/\Dt H q (AJ ws)/\okRows rows/\Fits rows ws/\∀(d:Addr) (H':Hp),Same H H'->H d=none->H' d=some (.dK (kvC (stB [] rows ws)))->Q (.ref d) H'
def FsI(H:Hp)(G F d:Addr)(rows:List Rw)(ws:List Int)(i:Nat)(σ:St)(q:Hp):Prop:=∃(B z:Option V),σ=[some (.ref G),some (.ref F),some (.ref d),B,z]/\Same H q/\q d=some (.dK (kvC (stB [] (rows.take i) (ws.take i))))
theorem cq(h:Dt H v d):∃t,TyOf K H v t/\PySem.W.kitOne K t (.type "int")=some (isI d):=⟨_,MC h,by cases d<;>rfl⟩
theorem Rc(h:Dt H v d):∃t,TyOf K H v t/\PySem.W.kitOne K t (.type "bool")=some (isB d):=⟨_,MC h,by cases d<;>rfl⟩
noncomputable def Mb:Dm->Bool
 |.int _=>true
 |_=>false
noncomputable def Re(d:Dm)(lo hi:Int):Bool:=match d with
 |.int i=>decide (lo<=i)&&decide (i<=hi)
 |_=>false
noncomputable def Rf(d:Dm)(n:Int):Bool:=match d with
 |.tup ds=>decide ((ds.length:Int)=n)
 |_=>false
def Rg(g:Dm->Bool):Sp:=fun vs H Q _=>∃v d,vs=[v]/\Dt H v d/\∀H',Same H H'->Q (.bl (g d)) H'
theorem cr(F:Fun K "is_whole" "is_whole" Ds f fd) (b_isinstance:mg "isinstance" = none) (b_int:mg "int" = none) (b_bool:mg "bool" = none):FnOk P w K mg base CX0 1 f fd ["thing"] (Rg Mb):=by
 refine F.ok XB (fun vs H Q E h=>?_) (fun B A outer s H vs Q E hr h=>?_)
 ·obtain⟨v,d,rfl,_⟩:=h;rfl
 obtain⟨v,d,rfl,hd,q⟩:=h;refine⟨_,(A7 (AG (Ga (Aq Jx Pn b_isinstance Kq (A1 (A0 0 rfl Po) (A1 (JO (v:=V.ty "int") XE b_int WV rfl XA Ww) A2)) L4 Ky) (JS (Sy (Aq Jx Pn b_isinstance Kq (A1 (A0 0 rfl Po) (A1 (JO (v:=V.ty "bool") XD b_bool WT rfl X8 Wo) A2)) L4 Ky)))))),?_⟩;walk_at "c";refine⟨_,_,⟨rfl,rfl⟩,_,cq hd,?_⟩;have z:=q H (Same.refl _);cases d with
 |int i=>exact⟨_,_,⟨rfl,rfl⟩,_,Rc hd,z⟩
 |bl b=>exact⟨_,_,⟨rfl,rfl⟩,_,Rc hd,z⟩
 |non=>exact z
 |str x=>exact z
 |tup ds=>exact z
 |lst=>exact z
def Rh:Sp:=fun vs H Q _=>∃v d lo hi,vs=[v,.int lo,.int hi]/\Dt H v d/\∀H',Same H H'->Q (.bl (Re d lo hi)) H'
theorem cu(F:Fun K "is_whole_from" "is_whole_from" Du f fd) (c_is_whole:Callee P w K mg base "is_whole" ["thing"] 1 (Rg Mb)):FnOk P w K mg base CX0 2 f fd ["thing","low","high"] Rh:=by
 refine F.ok XF (fun vs H Q E h=>?_) (fun J A outer s H vs Q E hr h=>?_)
 ·obtain⟨v,d,lo,hi,rfl,_⟩:=h;rfl
 obtain⟨v,d,lo,hi,rfl,hd,q⟩:=h;refine⟨_,(A7 (AG (Ga (AH c_is_whole hr (by lia) (A1 (A0 0 rfl L8) A2) XG Wy) (Ga (Gp Go (A0 1 rfl XI) (A0 0 rfl L8) (AE _)) (JS (Gp Go (A0 0 rfl L8) (A0 2 rfl XH) (AE _))))))),?_⟩;walk_at "c";refine⟨v,d,rfl,hd,fun H1 G=>?_⟩;have z:=q H1 G;cases hd with
 |int i=>
  walk_at "c";simp only[Mb,if_true];replace z:Q (.bl (decide (lo<=i)&&decide (i<=hi))) H1:=z;split
  ·rename_i B;rw[decide_eq_true B,y2i] at z;exact z
  ·rename_i B;rw[decide_eq_false B,y3e] at z;exact z
 |_=>exact⟨_,rfl,z⟩
def Ri:Sp:=fun vs H Q _=>∃v d n,vs=[v,.int n]/\Dt H v d/\∀H',Same H H'->Q (.bl (Rf d n)) H'
theorem cv(F:Fun K "is_tuple_of" "is_tuple_of" DC f fd) (b_isinstance:mg "isinstance" = none) (b_len:mg "len" = none) (b_tuple:mg "tuple" = none):FnOk P w K mg base CX0 1 f fd ["thing","many"] Ri:=by
 refine F.ok XJ (fun vs H Q E h=>?_) (fun B A outer s H vs Q E hr h=>?_)
 ·obtain⟨v,d,n,rfl,_⟩:=h;rfl
 obtain⟨v,d,n,rfl,hd,q⟩:=h;refine⟨_,(A7 (AG (Ga (Aq Jx XL b_isinstance Kq (A1 (A0 0 rfl Pp) (A1 (JO (v:=V.ty "tuple") XN b_tuple Fo rfl Fs Fr) A2)) L4 Ky) (JS (Gp CO (Aq Dd XM b_len Dp (A1 (A0 0 rfl Pp) A2) Dr Dq) (A0 1 rfl XO) (AE _)))))),?_⟩;walk_at "c";refine⟨_,_,⟨rfl,rfl⟩,_,bg hd,?_⟩;have z:=q H (Same.refl _);cases hd with
 |tup e r=>
  refine⟨_,bM (SqT.of e),?_⟩;rw[r.length];exact z
 |_=>exact z
theorem cw(F:Fun K "names_at_first" "names_at_first" Bc f fd) (b_len:mg "len" = none) (b_zip:mg "zip" = none) (c_is_tuple_of:Callee P w K mg base "is_tuple_of" ["thing","many"] 1 Ri) (c_is_whole_from:Callee P w K mg base "is_whole_from" ["thing","low","high"] 2 Rh):FnOk P w K mg base CX0 3 f fd ["ins","worths"] Rb:=by
 refine F.ok sc_names_at_first (fun vs H Q E h=>?_) (fun fz A outer s H vs Q E hr h=>?_)
 ·obtain⟨iv,wv,rows,ws,rfl,_⟩:=h;rfl
 obtain⟨iv,wv,rows,ws,rfl,hi,hw,fc,G,q⟩:=h;obtain⟨ia,is,rfl,M,fq⟩:=hi.tupI;obtain⟨wa,us,rfl,Z,fk⟩:=hw.tupI;have R:is.length=rows.length:=by rw[fq.length,y4]
 have fw:us.length=ws.length:=by rw[fk.length,y4]
 have B:=G.len;refine⟨_,(A6 (AK (JQ (JP (AH c_is_tuple_of hr (by lia) (A1 (A0 1 rfl Pz) (A1 (Aq Dd Xm b_len Dp (A1 (A0 0 rfl Pw) A2) Dr Dq) A2)) Xk Wx))) (A7 Mt) AL)
 (A6 (AN (i:=2) sc_names_at_first.nd rfl Xo UU (AF rfl))
 (A6 (BD y0m rfl (O2 Xn b_zip (A1 (A0 0 rfl Pw) (A1 (A0 1 rfl Pz) A2))) (BY (n:=2) rfl (Aa (AO (i:=3) sc_names_at_first.nd rfl Xp) (Aa (AO (i:=4) sc_names_at_first.nd rfl Xq) BP)))
 (A6 (AK (JQ (JP (AH c_is_whole_from hr (by lia) (A1 (A0 4 rfl Py) (A1 (A9 ix_tup (A0 3 rfl LA) A3 (fun _ _=>rfl)) (A1 (A9 ix_tup (A0 3 rfl LA) A3 (fun _ _=>rfl)) A2))) Xl Wz))) (A7 Mt) AL)
 (A7 (HY hr.units1 (A0 2 rfl Px) (A9 ix_tup (A0 3 rfl LA) A3 (fun _ _=>rfl)) (A0 4 rfl Py) (AF rfl)))))
 (A7 (AG (A0 2 rfl Px)))))),AB fun N1 e1=>?_⟩
 walk_at "a";refine⟨_,.inl ⟨ia,is,rfl,.inr (SqT.of M),rfl⟩,?_⟩;refine⟨_,_,_,rfl,hw,fun H1 s1=>⟨_,rfl,?_⟩⟩;have hy:Rf (AJ ws) (is.length:Int)=true:=by
  show decide _=true;rw[decide_eq_true_eq,y4,R,B]
 rw[if_neg (by rw[hy]; decide)];rw[e1];refine AB fun N2 e2=>?_;walk_at "a";intro d fg;have s2:=A5 fg (HO.dK []);have J:=s1.trans s2;have fh:H d=none:=s1.free fg;rw[e2];refine AB fun N3 e3=>?_;walk_at "a";refine⟨_,_,⟨rfl,rfl⟩,⟨_,SqT.of (J _ _ M)⟩,⟨_,SqT.of (J _ _ Z)⟩,?_⟩;refine VR (xs:=is) (ys:=us) (by lia) (FsI H ia wa d rows ws) ?s ?l ?t ?d
 case s=>exact⟨_,_,rfl,J,A4⟩
 case l=>
  rintro i σ Hc _ ⟨_,_,rfl,sc,_⟩;exact⟨SqT.of (sc _ _ M),SqT.of (sc _ _ Z)⟩
 case d=>
  rintro σ Hc ⟨_,_,rfl,sc,hc⟩;show N3 _ _;rw[e3];walk_at "a";rw[R,y0i,B,y0i] at hc;exact q d Hc sc fh hc
 case t=>
  rintro i x y σ Hc T hx hy ⟨_,_,rfl,sc,hc⟩ hT;obtain⟨r,fe,dr⟩:=BV fq hx;obtain⟨O,U,dw⟩:=BV fk hy;cases dw;obtain⟨ra,r0,r1,r2,rfl,ft,t0,t1,t2⟩:=Bt dr;cases t0; cases t1; cases t2;have s3:=A5 hT (HO.tup [V.ref ra,V.int O]);have z:=s3 _ _ (sc _ _ ft);have hf:=G.at fe U;have hk:=GN (rows.take i) (ws.take i) [] (fun r hr=>Iu fc r (y1n hr)) KeyOk.nil;walk_at "a";refine⟨_,SqT.of A4,rfl,_,_,rfl,_,_,rfl,rfl,_,rfl,_,SqT.of z,_,AV (j:=1) rfl,_,rfl,_,SqT.of z,_,AV (j:=2) rfl,?_⟩;refine⟨_,_,_,_,rfl,.int O,fun H2 s4=>⟨_,rfl,?_⟩⟩;have hy:Re (.int O) r.2.1 r.2.2=true:=by
   show(decide (r.2.1<=O)&&decide (O<=r.2.2))=true;simp[hf.1,hf.2]
  rw[if_neg (by rw[hy]; decide)];have fu:=s4 _ _ (s3 _ _ hc);refine⟨_,rfl,_,SqT.of (s4 _ _ z),_,AW,_,DPut.k (k:=Sum.inr r.1) fu ?_,?_⟩
  ·unfold kvC;rw[y4];exact y11 hk.len (by decide)
  ·refine⟨_,_,rfl,CG (sc.trans (s3.trans s4)) fh,?_⟩;rw[A4,Im,Ra [] fe U]
noncomputable def B3(x:Str):Nat:=if x = "a" then 0 else if x = "b" then 1 else if x = "c" then 2 else 3
def cx:(pool.all fun x=>pool.all fun y=>(decide (x.cps.toList<y.cps.toList)==decide (B3 x<B3 y))&&(!(decide (B3 x=B3 y)) || decide (x=y)))=true:=by decide+kernel
theorem cy(hx:x∈pool)(hy:y∈pool):decide (x.cps.toList<y.cps.toList)=decide (B3 x<B3 y)/\(B3 x=B3 y->x=y):=by
 have h:=cx;rw[y3h] at h;have h1:=h x hx;rw[y3h] at h1;have h2:=h1 y hy;rw[y05,y35] at h2;refine⟨beq_iff_eq.mp h2.1,fun e=>?_⟩;rcases h2.2 with z|z
 ·rw[decide_eq_true e] at z; cases z
 ·exact of_decide_eq_true z
def Cu(o:Out)(H':Hp)(r:V):Prop:=match o.1 with
 |some e=>Dt H' r (Rs.ref e.1 e.2).enc
 |none=>∃z:Cnt,z.Perm o.2.1/\z.Pairwise (fun p q=>B3 p.1<B3 q.1)/\Dt H' r (.tup [.str "told",.tup (z.map D7)])
abbrev evP(rows:List Rw)(b:List D)(ws:List Int):Out:=evB [] 0 b (stB [] rows ws)
def GO:Sp:=fun vs H Q _=>∃(z q:V) (rows:List Rw) (b:List D) (ws:List Int) (f:Addr) (g':List Str) (lo:Option Addr),vs=[z,q,.ref f]/\Dt H z (.tup [.tup (rows.map BM),.tup (AU b)])/\Dt H q (AJ ws)/\okRows rows/\Fits rows ws/\okW 4 b/\kbB (rows.map (·.1)) b=some g'/\SetOk f lo H/\HasL lo H ((evP rows b ws).2.2.length+1)/\
 ∀(r:V) (H':Hp),Gr lo H H' (evP rows b ws).2.2->Cu (evP rows b ws) H' r->Q r H'
theorem Gd.gr(h:Gd d lo H1 H' rs)(s:Same H H1)(hd:H d=none)(B:∀l,lo=some l->∃xs,H l=some (.lst xs)):Gr lo H H' rs:=by
 refine⟨fun a o n e=>h.1 a o (AS e hd) n (s _ _ e),fun l e=>?_⟩;obtain⟨xs,hx⟩:=B l e;obtain⟨z,ys,q,e2,d2⟩:=h.2 l e;rw[s _ _ hx] at q;cases q;exact⟨xs,ys,hx,e2,d2⟩
theorem HasL.has(h:HasL lo H n):∀l,lo=some l->∃xs,H l=some (.lst xs):=fun l e=>by
 obtain⟨xs,hx,_⟩:=h l e;exact⟨xs,hx⟩
theorem cz(F:Fun K "run_by" "run_by" Bk f fd) (b_sorted:mg "sorted" = none) (b_tuple:mg "tuple" = none) (c_names_at_first:Callee P w K mg base "names_at_first" ["ins","worths"] 3 Rb) (c_do_block:Callee P w K mg base "do_block" ["block","path","names","settle"] 20 (ED 4)):FnOk P w K mg base CX0 21 f fd ["program","worths","settle"] GO:=by
 refine F.ok sc_run_by (fun vs H Q E h=>?_) (fun fV A outer s H vs Q E hr h=>?_)
 ·obtain⟨gv,wv,rows,b,ws,f,g',lo,rfl,_⟩:=h;rfl
 obtain⟨gv,wv,rows,b,ws,fs,g',lo,rfl,hg,hw,B,U,Z,fu,hS,hL,q⟩:=h;obtain⟨ga,iv,bv,rfl,fe,di,db⟩:=B1 hg;refine⟨_,(A6 (AN (i:=3) sc_run_by.nd rfl Xe (AH c_names_at_first hr (by lia) (A1 (A9 ix_tup (A0 0 rfl Ps) A3 (fun _ _=>rfl)) (A1 (A0 1 rfl Xh) A2)) Xb X1) (AF rfl))
 (A6 (AN (i:=4) sc_run_by.nd rfl Xf (AH c_do_block hr (by lia) (A1 (A9 ix_tup (A0 0 rfl Ps) A3 (fun _ _=>rfl)) (A1 (AI A2) (A1 (A0 3 rfl Pq) (A1 (A0 2 rfl Xg) A2)))) Xa IM) (AF rfl))
 (A6 (AK (AC Jw (A0 4 rfl Pt) Bp (AE _)) (A7 (AG (A0 4 rfl Pt))) AL)
 (A7 (AG (AI (A1 AD (A1 (D3 HA Xd b_tuple Fo (A1 (Aq (VG rfl) Xc b_sorted D9 (A1 (VJ (A0 3 rfl Pq)) A2) DB DA) A2) Fs Fr) A2)))))))),AB fun N1 e1=>?_⟩
 walk_at "a";refine⟨_,SqT.of fe,_,AW,iv,wv,rows,ws,rfl,di,hw,B,U,fun d H1 s1 fw hd=>?_⟩;rw[e1];refine AB fun N2 e2=>?_;walk_at "a";refine⟨_,SqT.of (s1 _ _ fe),_,AV (j:=1) rfl,yo _,fun p0 fq=>?_⟩;have s2:=A5 fq (HO.tup []);have M:=s1.trans s2;have fc:=GN rows ws [] (Iu B) KeyOk.nil;have hh:=MZ rows ws [] [] U (fun r hr=>⟨(B.lo r hr).1,(B.lo r hr).2.2⟩) (fun x hx=>by simp at hx);rw[y2m] at hh;refine⟨bv,b,.ref p0,[],d,fs,stB [] rows ws,_,g',lo,rfl,db.kp M.kp,.tup A4 .nil,Z,by decide,by decide,fu,s2 _ _ hd,fc,hh,hS.kp (Same.kpE M),hL.same M,fun r H3 gd O ho=>?_⟩;have G:Gr lo H H3 (evP rows b ws).2.2:=gd.gr M fw hL.has;have J:=Cs b 4 [] 0 _ Z fc;rw[e2];refine AB fun N3 e3=>?_;walk_at "a";change MR (evP rows b ws).1 H3 r at ho;change H3 d=some (.dK (kvC (evP rows b ws).2.1)) at O;change KeyOk (evP rows b ws).2.1 at J;rcases R:evP rows b ws with⟨oo,cc,rr⟩;rw[R] at ho O J G q;cases oo with
 |some er=>
  have ft:r≠.non:=by
   obtain⟨a4,rfl,_⟩:=DP (r:=Rs.ref er.1 er.2) ho;intro z;cases z
  rw[if_pos (decide_eq_false ft)];exact q _ _ G ho
 |none=>
  cases ho;rw[if_neg (by simp),e3];walk_at "a";refine⟨_,O,fun p hp=>?_⟩;have s6:=A5 hp (Fg p d);refine⟨p,d,cc,B3,rfl,A4,s6 _ _ O,y11 J.len (by decide),fun x hx y hy=>cy (J.2 x hx) (J.2 y hy),fun l7 H7 wt mt s7 f7 h7 d7 fk fh=>?_⟩;refine⟨_,rfl,_,.inl ⟨SqL.of h7,fun l8 h8=>⟨by decide,fun p9 h9=>?_⟩⟩⟩;have s8:=A5 h8 (HO.tup wt);have s9:=A5 h9 (HO.tup [V.str "told",V.ref l8]);have fg:=s6.trans (s7.trans (s8.trans s9));have fz:HasL lo H3 0:=by
   have:=hL.on G (m:=0) (by rw[R]; show rr.length+0<=rr.length+1; lia);exact this
  have GG:=G.trans (Gr.same fg fz);rw[y0x] at GG;exact q _ _ GG ⟨mt,fk,fh,.tup A4 (.cons (.str _) (.cons (.tup (s9 _ _ A4) (d7.kp (s8.trans s9).kp)) .nil))⟩
structure FunC(K:ya)(x qual:Str)(st:Stmt)(f:Addr)(fd:y2c)(c:Addr):Prop where
 ex:∃(oc:yg) (od:Option Addr) (kV doc pm:yg) (an:Option Addr) (ct:yg) (osl:Array (Option yg)),
  fd=PySem.W.fnOf x qual (defArgs st) (defBody st) (defScope st) .none kV doc pm an (.ref c) ct/\K.lookup f=some ⟨oc,od,.func fd,osl⟩/\PySem.W.codeIn K (.ref c) qual=true
 kp:PySem.W.keepIn K (.ref f)=true
theorem FunC.ok{mg:Str->Option yg}(F:FunC K x qual st f fd c)(S:FnScope N ps (defScope st))(len:∀vs H Q E,sp vs H Q E->vs.length=ps.length)
  (z:∀(A:y0n) (outer:List PySem.Env) (s:ye) (H:Hp) (vs:List V) (Q:VK) (E:XK),Room k (A.deeper (PyProof.Rows.envOfC qual (defScope st) s.heap.objs.size f (.ref c)))->sp vs H Q E->
   ∃t,PSs (BE CX0 P w K mg base N qual (defScope st) f (.ref c) A outer s H E).nox (defBody st) t/\t {nx:=fun _ H'=>Q .non H',rt:=Q} (L2.start N vs) H):FnOk P w K mg base CX0 (k+1) f fd ps sp:=by
 obtain⟨Z,U,kV,O,R,an,ct,J,rfl,M,G⟩:=F.ex
 refine NR M G S len fun A outer s H vs Q E hr B=>?_
 obtain⟨t,h,q⟩:=z A outer s H vs Q E hr B
 exact⟨t,h.nox,q⟩
def TabAt(z:Addr)(pos:Pos)(q:Str)(H:Hp):Prop:=H z=some (.tbl #[])\/∃c',H z=some (.tbl (#[] ++ #[rawInt pos.line,rawInt pos.col,.ref c']))/\H c'=some (Ba c' q)
theorem SameB.kpT(h:SameB pt H H')(q:H pt=some (.tbl ps)):Kp H H':=
 ⟨fun b xs e=>h b _ (AM e q (by intro z; cases z)) e,fun b xs e=>⟨xs,h b _ (AM e q (by intro z; cases z)) e⟩⟩
abbrev Bv:Pos:=RN (Io Br)
abbrev DU:Pos:=RN (Io BJ)
def Mc(q:Addr):Sp:=fun vs H Q _=>∃(B z:V) (rows:List Rw) (b:List D) (ws:List Int) (g':List Str),vs=[B,z]/\Dt H B (.tup [.tup (rows.map BM),.tup (AU b)])/\Dt H z (AJ ws)/\okRows rows/\Fits rows ws/\okW 4 b/\kbB (rows.map (·.1)) b=some g'/\TabAt q Bv dR.qual H/\
 ∀(r:V) (H':Hp),SameB q H H'->TabAt q Bv dR.qual H'->Cu (evP rows b ws) H' r->Q r H'
def Rj(q:Addr):Sp:=fun vs H Q _=>∃(B z:V) (rows:List Rw) (b:List D) (ws:List Int) (g':List Str),vs=[B,z]/\Dt H B (.tup [.tup (rows.map BM),.tup (AU b)])/\Dt H z (AJ ws)/\okRows rows/\Fits rows ws/\okW 4 b/\kbB (rows.map (·.1)) b=some g'/\(evP rows b ws).2.2.length+1<ym/\TabAt q DU dT.qual H/\
 ∀(l:Addr) (ys:List V) (H':Hp),SameB q H H'->H l=none->TabAt q DU dT.qual H'->H' l=some (.lst ys)->DtA H' ys ((evP rows b ws).2.2.map C7)->Q (.ref l) H'
theorem dA(pos:Pos)(c':Addr):TriplesOk (#[] ++ #[rawInt pos.line,rawInt pos.col,Value.ref c']).toList:=by simp[TriplesOk,rawInt]
theorem dC(pos:Pos)(c':Addr):codeAmong pos (#[] ++ #[rawInt pos.line,rawInt pos.col,Value.ref c']).toList=some (.ref c'):=by simp[codeAmong,rawInt]
theorem Rk{F:Addr}{pos:Pos}{D:LamD}{cl:List (Str×Addr)}{σ:St}{H:Hp}{Q:VK}(B:TabAt F pos D.qual H)(q:∀(z c':Addr) (H2:Hp),SameB F H H2->Kp H H2->H z=none->H2 z=some (C2 D cl z c')->H2 c'=some (Ba c' D.qual)->TabAt F pos D.qual H2->Q (.ref z) H2):Hu F pos D cl σ H Q:=by
 rcases B with B|⟨c',B,G⟩
 ·refine⟨#[],B,trivial,.inl ⟨rfl,fun c' z h1 h2 M=>?_⟩⟩;have U:F≠c':=AS B h1;have R:F≠z:=AS B h2;have O:SameB F H (upd (upd (upd H F (.tbl (#[] ++ #[rawInt pos.line,rawInt pos.col,.ref c']))) c' (Ba c' D.qual)) z (C2 D cl z c')):=fun a o n e=>by rw[A8 (AS e h2),A8 (AS e h1),A8 n]; exact e
  exact q z c' _ O (O.kpT B) h2 A4 (by rw[A8 M,A4]) (.inr ⟨c',by rw[A8 R,A8 U,A4],by rw[A8 M,A4]⟩)
 ·refine⟨_,B,dA pos c',.inr ⟨c',dC pos c',G,fun z h1=>?_⟩⟩;have J:=A5 h1 (C2 D cl z c');exact q z c' _ (SameB.of J) J.kp h1 A4 (J _ _ G) (.inr ⟨c',J _ _ B,J _ _ G⟩)
theorem TabAt.kp(h:TabAt pt pos q H)(k:∀a o,(∀xs,o≠.lst xs)->H a=some o->H' a=some o):TabAt pt pos q H':=by
 rcases h with h|⟨c',h1,h2⟩
 ·exact .inl (k _ _ (by intro xs z; cases z) h)
 ·exact .inr ⟨c',k _ _ (by intro xs z; cases z) h1,k _ _ (by intro xs z; cases z) h2⟩
theorem dD(F:FunC K "run" "run" Br f fd c) (hC:PySem.W.CodeHd base c pt) (hB:base.BuiltinsAt mg pt) (Z:y0g≠pt) (c_run_by:Callee P w K mg base "run_by" ["program","worths","settle"] 21 GO):FnOk P w K mg base CX0 22 f fd ["program","worths"] (Mc pt):=by
 refine F.ok XQ (fun vs H Q E h=>?_) (fun A outer s H vs Q E hr h=>?_)
 ·obtain⟨O,M,rows,b,ws,g',rfl,_⟩:=h;rfl
 obtain⟨O,M,rows,b,ws,g',rfl,hg,hw,B,J,R,U,hT,q⟩:=h;refine⟨_,(A7 (AG (AH c_run_by hr (by lia) (A1 (A0 0 rfl XS) (A1 (A0 1 rfl XT) (A1 (ON (c:=c) (P:=pt) rfl rfl rfl hC hB Z) A2))) XR Pl))),?_⟩;walk_at "a";show Hu pt Bv dR [] [some O,some M] H fun x H1=>GO [O,M,x] H1 Q E0;refine Rk hT fun fa c' H2 sB kp fe hf hc fc=>?_;refine⟨O,M,rows,b,ws,fa,g',none,rfl,hg.kp kp,hw.kp kp,B,J,R,U,⟨c',hf,hc⟩,fun l z=>(by cases z),fun r H' G ho=>q r H' (fun a o n e=>G.1 a o (by simp) (sB a o n e)) (fc.kp fun a o _ e=>G.1 a o (by simp) e) ho⟩
theorem dE(F:FunC K "traced" "traced" BJ f fd c) (hC:PySem.W.CodeHd base c pt) (hB:base.BuiltinsAt mg pt) (fq:y0g≠pt) (c_run_by:Callee P w K mg base "run_by" ["program","worths","settle"] 21 GO):FnOk P w K mg base CX0 22 f fd ["program","worths"] (Rj pt):=by
 refine F.ok sc_traced (fun vs H Q E h=>?_) (fun A outer s H vs Q E hr h=>?_)
 ·obtain⟨gv,wv,rows,b,ws,g',rfl,_⟩:=h;rfl
 obtain⟨gv,wv,rows,b,ws,g',rfl,hg,hw,U,fc,fh,fk,hz,hT,q⟩:=h;have hcl_rows:(BE CX0 P w K mg base ["program","worths","rows"] "traced" (defScope BJ) f (.ref c) A outer s H E).nox.env.cells.lookup ("rows" : Str)=some (s.heap.objs.size+1):=rfl;refine⟨_,(A6 (AN (i:=2) sc_traced.nd rfl XW (Ab A2) (AF rfl))
 (A6 (Az (VO (i:=2) c_run_by hr (by lia) (A1 (A0 0 rfl XX) (A1 (A0 1 rfl XZ) (A1 (ON (c:=c) (P:=pt) rfl rfl rfl hC hB fq) A2))) rfl hcl_rows XU rfl XV Pl) (AF rfl))
 (A7 (AG (A0 2 rfl XY))))),AB fun N1 e1=>?_⟩
 walk_at "a";refine⟨yo _,fun l hl=>?_⟩;have s1:=A5 hl (HO.lst []);have Z:(upd H l (HO.lst [])) l=some (.lst []):=A4;generalize upd H l (HO.lst [])=H1 at s1 Z |-;rw[e1];refine AB fun N2 e2=>?_;walk_at "a";show KW GO (s.heap.objs.size+1) 2 (Bq (B4 0) (Bq (B4 1) (Bq (Hu pt DU dT [("rows",s.heap.objs.size+1)]) Bz))) [some gv,some wv,some (V.ref l)] H1 fun x H1=>N2 [some gv,some wv,some (V.ref l)] H1;clear hcl_rows;generalize s.heap.objs.size+1=cc;simp only[KW];walk_at "a";have fu:TabAt pt DU dT.qual H1:=hT.kp fun a o _ e=>s1 _ _ e;have fg:l≠pt:=fun z=>by
  rcases hT with h|⟨_,h,_⟩<;>(rw[<- z,hl] at h; cases h)
 refine Rk fu fun fa c' H2 sB kp fz hf hc ft=>?_;refine fun o u hd ru O=>?_;cases ru;have M:=A5 O (Ao cc o);have fe:(upd H2 cc (Ao cc o)) cc=some (Ao cc o):=A4;have B:=sB l _ fg Z;have fw:l≠cc:=AS B O;have R:=s1.kp.trans (kp.trans M.kp);refine⟨gv,wv,rows,b,ws,fa,g',some l,rfl,hg.kp R,hw.kp R,U,fc,fh,fk,⟨c',cc,o,M _ _ hf,M _ _ hc,fe,hd⟩,fun l' z=>?_,fun r H4 G ho=>?_⟩
 ·cases z;exact⟨[],M _ _ B,by simpa using hz⟩
 have J:=G.keep fe (by intro xs z; unfold Ao at z; cases z);refine⟨J,?_⟩;obtain⟨xs,ys,e3,e4,d4⟩:=G.2 l rfl;rw[M _ _ B] at e3;cases e3;have out:∀{a:Addr} {o':HO},H4 a=some o'->H2 a≠none->BA [cc] H4 a=some o':=fun {a o'} e n=>by
  rw[BI (fun z=>n (by rw[List.mem_singleton.mp z]; exact O))];exact e
 rw[e2];walk_at "a";refine q l ys _ (fun a o' n e=>?_) hl (ft.kp fun a o' n e=>out (G.keep (M _ _ e) n) (by rw[e]; simp)) ?_ (d4.kp (ML J))
 ·have h2:=sB a o' n (s1 _ _ e);exact out (G.1 a o' (fun z=>by cases z; rw[hl] at e; cases e) (M _ _ h2)) (by rw[h2]; simp)
 ·exact out (by simpa using e4) (by rw[B]; simp)
theorem Md(c:Cnt):∀(n:Nat) (t:T) (p:List Int),T.ok pool n t->(evT c t p).2.length+1<=2^n
 |0,_,_,h=>h.elim
 |n+1,.num i,p,_=>by
  rw[evT];have:1<=2^n:=Nat.one_le_two_pow;simp only[yu,y2n,y42];lia
 |n+1,.nm x,p,_=>by
  rw[evT];have:1<=2^n:=Nat.one_le_two_pow;simp only[yu,y2n,y42];lia
 |n+1,.op w a b,p,h=>by
  have h1:=Md c n a (p++[0]) h.1;have h2:=Md c n b (p++[1]) h.2;rw[y42];rcases z:evT c a (p++[0]) with⟨G,M⟩;rcases e2:evT c b (p++[1]) with⟨F,J⟩;rw[z] at h1;rw[e2] at h2;cases G with
  |ref u q=>rw[Ez z]; simp only at h1 |-; lia
  |had x=>
   cases F with
   |ref u q=>rw[EA z e2]; simp only[yc] at h1 h2 |-; lia
   |had y=>
    by_cases B:w=.quo/\y=0
    ·obtain⟨rfl,rfl⟩:=B;rw[EB z e2]; simp only[yc] at h1 h2 |-; lia
    ·rw[EC z e2 B]; simp only[yc,yu,y2n] at h1 h2 |-; lia
theorem dF{cond:Cnt->Rs×List RI}{body:Cnt->Out}(hc:∀c,(cond c).2.length<=A)(hb:∀c,(body c).2.2.length<=B):∀(k:Nat) (c:Cnt),(Ad cond body p k c).2.2.length<=(k+1)*A+k*B:=by
 intro k;induction k with
 |zero=>
  intro c;have h1:=hc c;rcases z:cond c with⟨G,J⟩;rw[z] at h1;cases G with
  |ref u q=>rw[CV z]; simpa using h1
  |had v=>
   by_cases F:v=0
   ·subst F; rw[Ct z]; simpa using h1
   ·rw[F4 z F]; simpa using h1
 |succ k R=>
  intro c;have h1:=hc c;have h2:=hb c;have mA:(k+1+1)*A=A+(k+1)*A:=by rw[Nat.add_mul (k+1) 1 A,Nat.one_mul]; lia
  have O:(k+1)*B=B+k*B:=by rw[Nat.add_mul k 1 B,Nat.one_mul]; lia
  rw[mA,O];rcases z:cond c with⟨G,J⟩;rcases e2:body c with⟨M,U,Z⟩;rw[z] at h1;rw[e2] at h2;simp only at h1 h2;cases G with
  |ref u q=>rw[CV z]; simp only; lia
  |had v=>
   by_cases F:v=0
   ·subst F; rw[Ct z]; simp only; lia
   ·cases M with
    |some u=>rw[EE z F e2]; simp only[yc]; lia
    |none=>
     have h3:=R U;rw[EF z F e2]; simp only[AZ,yc]; lia
theorem F8:∀(b:List D),(∀d∈b,∀(p:List Int) (c:Cnt),(evD p d c).2.2.length<=M)->∀(p:List Int) (k:Int) (c:Cnt),(evB p k b c).2.2.length<=b.length*M
 |[],_,p,k,c=>by rw[evB]; simp
 |d::r,h,p,k,c=>by
  have h1:=h d (.head _) (p++[k]) c;rw[yu,Nat.add_mul,Nat.one_mul];rcases q:evD (p++[k]) d c with⟨z,F,G⟩;rw[q] at h1;simp only at h1;have h2:=F8 r (fun e B=>h e (.tail _ B)) p (k+1) F;cases z with
  |some u=>rw[F5 q]; simp only; lia
  |none=>rw[F6 q]; simp only[AZ,yc]; lia
noncomputable def PD:Nat->Nat
 |0=>31
 |n+1=>651+20*(6*PD n)
theorem t31(c:Cnt)(t:T)(p:List Int)(h:T.ok pool 5 t):(evT c t p).2.length<=31:=by
 have:=Md c 5 t p h;lia
theorem GP:∀(n:Nat) (d:D) (p:List Int) (c:Cnt),okD n d->(evD p d c).2.2.length<=PD n
 |n,.set x t,p,c,h=>by
  have h1:=t31 c t (p++[0]) h.2;rw[Iq];cases n with
  |zero=>exact h1
  |succ n=>rw[PD]; lia
 |0,.ite t b b2,p,c,h=>h.2.1.elim
 |0,.whl t m b,p,c,h=>h.2.2.2.elim
 |n+1,.ite t b b2,p,c,h=>by
  have h1:=t31 c t (p++[0]) h.1;have hb:=F8 b (fun d hd p c=>GP n d p c (h.2.1.2 d hd)) (p++[1]) 0 c;have hb2:=F8 b2 (fun d hd p c=>GP n d p c (h.2.2.2 d hd)) (p++[2]) 0 c;have F:b.length*PD n<=6*PD n:=y0z _ h.2.1.1;have M:b2.length*PD n<=6*PD n:=y0z _ h.2.2.1;rw[PD];rcases z:evT c t (p++[0]) with⟨J,O⟩;rw[z] at h1;simp only at h1;cases J with
  |ref u q=>rw[DR z]; simp only; lia
  |had v=>
   by_cases G:v=0
   ·subst G;rw[DT z]; simp only[yc]; lia
   ·rw[DS z G]; simp only[yc]; lia
 |n+1,.whl t m b,p,c,h=>by
  have F:b.length*PD n<=6*PD n:=y0z _ h.2.2.2.1;have R:=dF (cond:=fun c=>evT c t (p++[0])) (body:=fun c=>evB (p++[1]) 0 b c) (p:=p) (A:=31) (B:=6*PD n) (fun c=>t31 c t (p++[0]) h.1) (fun c=>y0j (F8 b (fun d hd p c=>GP n d p c (h.2.2.2.2 d hd)) (p++[1]) 0 c) F) m.toNat c;rw[evD,PD];have hm:m.toNat<=20:=by have:=h.2.2.1; lia
  have M:(m.toNat+1)*31<=21*31:=y0z _ (by lia);have l3:m.toNat*(6*PD n)<=20*(6*PD n):=y0z _ hm;lia
theorem Rl(h:okB 3 b)(p:List Int)(k:Int)(c:Cnt):(evB p k b c).2.2.length+1<ym:=by
 have h1:=F8 b (fun d hd p c=>GP 2 d p c (h.2 d hd)) p k c;have h2:b.length*PD 2<=6*PD 2:=y0z _ h.1;have q:6*PD 2+1<ym:=by decide
 lia
noncomputable def Me(xs:List Dm)(lo hi:Option Int):List Dm:=(xs.drop (HT.sIx xs.length 0 lo)).take (HT.sIx xs.length xs.length hi-HT.sIx xs.length 0 lo)
theorem Rm:∀{xs:List V} {ds:List Dm} (n:Nat),DtA H xs ds->DtA H (xs.take n) (ds.take n)
 |_,_,0,_=>by simp; exact .nil
 |_,_,n+1,.nil=>by simp; exact .nil
 |_,_,n+1,.cons h t=>by simp only[List.take_succ_cons]; exact .cons h (Rm n t)
theorem Ro:∀{xs:List V} {ds:List Dm} (n:Nat),DtA H xs ds->DtA H (xs.drop n) (ds.drop n)
 |_,_,0,h=>by simpa using h
 |_,_,n+1,.nil=>by simp; exact .nil
 |_,_,n+1,.cons h t=>by simp only[List.drop_succ_cons]; exact Ro n t
theorem slD(dx:Dt H x (.tup ds))(h:∀z H',Same H H'->Dt H' z (.tup (Me ds lo hi))->Q z H'):Hk K x lo hi H Q:=by
 obtain⟨a,xs,rfl,ha,F⟩:=dx.tupI;have q:=F.length;refine⟨a,xs,rfl,SqT.of ha,?_⟩;by_cases hw:HT.sIx xs.length 0 lo=0/\HT.sIx xs.length xs.length hi=xs.length
 ·refine .inl ⟨hw,h _ _ (Same.refl _) ?_⟩;unfold Me;rw[<- q,hw.1,hw.2,y2v,y41,q,y0i];exact dx
 ·refine .inr ⟨hw,fun p G=>?_⟩;have B:=A5 G (HO.tup (D1 xs lo hi));refine h _ _ B (.tup A4 ?_);unfold D1 Me;rw[<- q];exact Rm _ (Ro _ (F.kp B.kp))
abbrev B6:List Str:=["zero","over","long"]
theorem Mf(h:B0 i p=.ref u q):u∈B6:=by
 unfold B0 at h;split at h
 ·cases h; simp
 ·split at h
  ·cases h; simp
  ·cases h
theorem CW:∀(t:T) (p:List Int) {u:Str} {q:List Int} {r:List RI},evT c t p=(.ref u q,r)->u∈B6
 |.num i,p,u,q,r,h=>by rw[evT] at h; exact Mf (congrArg Prod.fst h)
 |.nm x,p,u,q,r,h=>by rw[evT] at h; exact Mf (congrArg Prod.fst h)
 |.op w a b,p,u,q,r,h=>by
  rcases z:evT c a (p++[0]) with⟨J,R⟩;cases J with
  |ref F M=>
   rw[Ez z] at h;cases h;exact CW a _ z
  |had x=>
   rcases e2:evT c b (p++[1]) with⟨G,O⟩;cases G with
   |ref F M=>
    rw[EA z e2] at h;cases h;exact CW b _ e2
   |had y=>
    by_cases B:w=.quo/\y=0
    ·obtain⟨rfl,rfl⟩:=B;rw[EB z e2] at h;cases h; simp
    ·rw[EC z e2 B] at h;exact Mf (congrArg Prod.fst h)
theorem dG{cond:Cnt->Rs×List RI}{body:Cnt->Out}(hc:∀c u q r,cond c=(.ref u q,r)->u∈B6)(hb:∀c e,(body c).1=some e->e.1∈B6):∀(k:Nat) (c:Cnt) (e:Ref),(Ad cond body p k c).1=some e->e.1∈B6:=by
 intro k;induction k with
 |zero=>
  intro c e h;rcases z:cond c with⟨G,F⟩;cases G with
  |ref u q=>rw[CV z] at h; cases h; exact hc c u q F z
  |had v=>
   by_cases B:v=0
   ·subst B; rw[Ct z] at h; cases h
   ·rw[F4 z B] at h; cases h; simp
 |succ k M=>
  intro c e h;rcases z:cond c with⟨G,F⟩;cases G with
  |ref u q=>rw[CV z] at h; cases h; exact hc c u q F z
  |had v=>
   by_cases B:v=0
   ·subst B; rw[Ct z] at h; cases h
   ·rcases e2:body c with⟨J,O,R⟩;cases J with
    |some u=>
     rw[EE z B e2] at h;cases h;exact hb c e (by rw[e2])
    |none=>
     rw[EF z B e2] at h;exact M O e h
mutual
theorem Rp:∀(d:D) (p:List Int) (c:Cnt) (e:Ref),(evD p d c).1=some e->e.1∈B6
 |.set x t,p,c,e,h=>by
  rcases z:evT c t (p++[0]) with⟨B,G⟩;cases B with
  |ref u q=>rw[F1 z] at h; cases h; exact CW t _ z
  |had v=>rw[F2 z] at h; cases h
 |.ite t b b2,p,c,e,h=>by
  rcases z:evT c t (p++[0]) with⟨B,G⟩;cases B with
  |ref u q=>rw[DR z] at h; cases h; exact CW t _ z
  |had v=>
   by_cases F:v=0
   ·subst F;rw[DT z] at h;exact Cv b2 _ 0 c e h
   ·rw[DS z F] at h;exact Cv b _ 0 c e h
 |.whl t m b,p,c,e,h=>by
  rw[evD] at h;exact dG (cond:=fun c=>evT c t (p++[0])) (body:=fun c=>evB (p++[1]) 0 b c) (fun c u q r h=>CW t _ h) (fun c e h=>Cv b _ 0 c e h) _ c e h
theorem Cv:∀(b:List D) (p:List Int) (k:Int) (c:Cnt) (e:Ref),(evB p k b c).1=some e->e.1∈B6
 |[],p,k,c,e,h=>by rw[evB] at h; cases h
 |d::b,p,k,c,e,h=>by
  rcases q:evD (p++[k]) d c with⟨z,B,F⟩;cases z with
  |some u=>
   rw[F5 q] at h;cases h;exact Rp d _ c e (by rw[q])
  |none=>
   rw[F6 q] at h;exact Cv b p (k+1) B e h
end
theorem Rq:∀x∈B6,PyData.strOk x=true:=by
 intro x hx;simp only[B6,y0f,y00,or_false] at hx;rcases hx with rfl|rfl|rfl<;>decide+kernel
theorem Rr:∀{a b:Cnt},(∀x,x∈a↔x∈b)->a.Pairwise (fun p q=>B3 p.1<B3 q.1)->b.Pairwise (fun p q=>B3 p.1<B3 q.1)->a=b
 |[],[],_,_,_=>rfl
 |[],y::b,h,_,_=>absurd ((h y).mpr (.head _)) (by simp)
 |x::a,[],h,_,_=>absurd ((h x).mp (.head _)) (by simp)
 |x::a,y::b,h,J,p2=>by
  obtain⟨G,M⟩:=List.pairwise_cons.mp J;obtain⟨F,b2⟩:=List.pairwise_cons.mp p2;have B:x=y:=by
   rcases List.mem_cons.mp ((h x).mp (.head _)) with e|e
   ·exact e
   ·rcases List.mem_cons.mp ((h y).mpr (.head _)) with e2|e2
    ·exact e2.symm
    ·have R:=F x e;have O:=G y e2;lia
  subst B;have:∀z,z∈a↔z∈b:=fun z=>by
   constructor
   ·intro hz;rcases List.mem_cons.mp ((h z).mp (.tail _ hz)) with e|e
    ·have:=G z hz;rw[e] at this;lia
    ·exact e
   ·intro hz;rcases List.mem_cons.mp ((h z).mpr (.tail _ hz)) with e|e
    ·have:=F z hz;rw[e] at this;lia
    ·exact e
  rw[Rr this M b2]
def SameC(q p2:Addr)(H H':Hp):Prop:=∀a o,a≠q->a≠p2->H a=some o->H' a=some o
theorem SameC.refl(H:Hp):SameC p1 p2 H H:=fun _ _ _ _ e=>e
theorem SameC.trans(a:SameC p1 p2 H H1)(b:SameC p1 p2 H1 H2):SameC p1 p2 H H2:=fun x o n m e=>b x o n m (a x o n m e)
theorem SameC.of(h:Same H H'):SameC p1 p2 H H':=fun a o _ _ e=>h a o e
theorem SameC.one(h:SameB p1 H H'):SameC p1 p2 H H':=fun a o n _ e=>h a o n e
theorem SameC.two(h:SameB p2 H H'):SameC p1 p2 H H':=fun a o _ n e=>h a o n e
theorem TabAt.tbl(h:TabAt pt pos q H):∃ps,H pt=some (.tbl ps):=by
 rcases h with h|⟨c',h,_⟩
 ·exact⟨_,h⟩
 ·exact⟨_,h⟩
theorem dH(ds:List Dm):PyData.eqv (.list (Aj ds)) (.list (Aj []))=ds.isEmpty:=by
 cases ds with
 |nil=>rfl
 |cons d ds=>simp[Aj,PyData.eqv,PyData.eqvAll]
theorem Fits.snoc:∀{rows:List Rw} {ws:List Int} {r:Rw} {w:Int},Fits rows ws->r.2.1<=w->w<=r.2.2->Fits (rows++[r]) (ws++[w])
 |[],[],r,w,_,h1,h2=>⟨h1,h2,trivial⟩
 |a::rows,b::ws,r,w,h,h1,h2=>⟨h.1,h.2.1,Fits.snoc h.2.2 h1 h2⟩
 |[],_::_,_,_,h,_,_=>h.elim
 |_::_,[],_,_,h,_,_=>h.elim
noncomputable def WS1(r:Rw)(ws:List Int):List (List Int):=(List.range (r.2.2+1-r.2.1).toNat).map fun(k:Nat)=>ws++[r.2.1+(k:Int)]
noncomputable def WS(rows:List Rw):List (List Int):=rows.foldl (fun q r=>q.flatMap (WS1 r)) [[]]
theorem Rt(rows:List Rw)(r:Rw):WS (rows++[r])=(WS rows).flatMap (WS1 r):=by
 unfold WS;rw[List.foldl_append];rfl
def EG:Sp:=fun vs H Q _=>∃(q:V) (rows:List Rw) (z:Dm),vs=[q]/\Dt H q (.tup [.tup (rows.map BM),z])/\okRows rows/\∀(l:Addr) (H':Hp) (xs:List V),Same H H'->H l=none->H' l=some (.lst xs)->DtA H' xs ((WS rows).map AJ)->Q (.ref l) H'
def AwI(H:Hp)(M:Addr)(rows:List Rw)(i:Nat)(σ:St)(z:Hp):Prop:=∃(l:Addr) (xs:List V) (q:List (List Int)) (J G F B x6:Option V),σ=[some (.ref M),some (.ref l),J,G,F,B,x6]/\Same H z/\H l=none/\z l=some (.lst xs)/\DtA z xs (q.map AJ)/\(∀ws∈q,Fits (rows.take i) ws)/\1<=q.length/\q.length<=15^i/\q=WS (rows.take i)
theorem dI(z:Nat->List V->St->Hp->Prop)(U:z 0 [] σ H)(hz:n<ym)(hy:∀i zs σ H,z i zs σ H->zs.length<=i)
  (R:∀i zs σ H,i<n->z i zs σ H->g (.int (lo+i)) σ H fun q H2=>tt q H2 fun b F=>if b=true then te q F (fun v Z=>z (i+1) (zs++[v]) q Z) else z (i+1) zs q F)
  (hd:∀zs σ H,z n zs σ H->∀p,H p=none->Q (.ref p) (upd H p (.lst zs))):CA (Itr lo n) g tt te Q σ H:=by
 refine⟨fun i m zs σ H=>m=n-i/\i<=n/\z i zs σ H,⟨n,by simp,yo _,U⟩,?_⟩;rintro i m zs σ H ⟨rfl,hi,p⟩;have O:=hy i zs σ H p;by_cases B:i<n
 ·refine .inr ⟨B,by lia,z (i+1),fun J G H' M=>⟨n-(i+1),by lia,rfl,B,M⟩,fun x H' y=>?_⟩;obtain⟨e,y⟩:=y;subst e y;exact R i zs σ _ B p
 ·have e:i=n:=by lia
  subst e;exact .inl ⟨yf _,by lia,hd zs σ H p⟩
def AwJ(H:Hp)(R:Addr)(l:Addr)(xs:List V)(z:List (List Int))(F:Addr)(rows:List Rw)(M J G:V)(O:Rw)(j:Nat)(σ:St)(B:Hp):Prop:=∃(ys:List V) (q:List (List Int)) (x6:Option V),σ=[some (.ref R),some (.ref l),some M,some J,some G,some (.ref F),x6]/\Same H B/\B F=some (.lst ys)/\DtA B ys (q.map AJ)/\(∀ws∈q,Fits rows ws)/\j<=q.length/\q.length<=15*j/\B l=some (.lst xs)/\DtA B xs (z.map AJ)/\q=(z.take j).flatMap (WS1 O)
def AwC(U:Hp)(pv:V)(ws:List Int)(lo:Int)(i:Nat)(ys:List V)(q:St)(H':Hp):Prop:=Same U H'/\(∃t,q=[t,some pv])/\DtA H' ys (((List.range i).map fun(k:Nat)=>ws++[lo+(k:Int)]).map AJ)/\ys.length<=i
theorem Ru:∀(w x y:List Int),ltI (w++x) (w++y)=ltI x y
 |[],x,y=>rfl
 |a::w,x,y=>by rw[y1e,y1e,ltI,if_pos rfl]; exact Ru w x y
theorem Rv:∀{u v:List Int} (x y:List Int),u.length=v.length->ltI u v=true->ltI (u++x) (v++y)=true
 |[],[],x,y,_,h=>by simp[ltI] at h
 |[],_::_,x,y,l,h=>by simp at l
 |_::_,[],x,y,l,h=>by simp at l
 |a::u,b::v,x,y,l,h=>by
  rw[ltI] at h;rw[y1e,y1e,ltI];by_cases e:a=b
  ·rw[if_pos e] at h |-;exact Rv x y (by simpa using l) h
  ·rw[if_neg e] at h |-;exact h
theorem Rx:∀(n:Nat) (rows:List Rw),rows.length=n->(∀r∈rows,r.2.2<=r.2.1+2)->(∀ws∈WS rows,Fits rows ws)/\(WS rows).length<=3^n/\(WS rows).Pairwise (fun p q=>ltI p q=true)
 |0,rows,h,_=>by
  obtain rfl:=List.length_eq_zero_iff.mp h;refine⟨fun ws hw=>?_,yf _,y2g _ _⟩;obtain rfl:=List.mem_singleton.mp hw;exact trivial
 |n+1,rows,h,hw=>by
  rcases List.eq_nil_or_concat rows with rfl|⟨rows,r,rfl⟩
  ·simp at h
  rw[List.concat_eq_append] at h hw |-;obtain⟨f,l,p⟩:=Rx n rows (by simpa using h) (fun r hr=>hw r (y0s _ hr));have hr:=hw r (y08 _ (List.mem_singleton.mpr rfl));rw[Rt];refine⟨fun ws hws=>?_,?_,?_⟩
  ·obtain⟨vs,B,hm⟩:=List.mem_flatMap.mp hws;obtain⟨k,hk,rfl⟩:=List.mem_map.mp hm;have F:=List.mem_range.mp hk;exact(f vs B).snoc (by lia) (by lia)
  ·have:∀l:List (List Int),(l.flatMap (WS1 r)).length<=3*l.length:=by
    intro l;induction l with
    |nil=>exact yo _
    |cons a l G=>
     rw[List.flatMap_cons,yc,yu];have:(WS1 r a).length<=3:=by unfold WS1; rw[y4,y4b]; lia
     lia
   have:=this (WS rows);rw[y42];lia
  ·rw[List.pairwise_flatMap];refine⟨fun a _=>?_,p.imp_of_mem fun {a b} ha hb z x hx y hy=>?_⟩
   ·unfold WS1;rw[y1x];refine List.pairwise_lt_range.imp fun {a b} z=>?_;rw[Ru];simp[ltI];lia
   ·obtain⟨i,_,rfl⟩:=List.mem_map.mp hx;obtain⟨j,_,rfl⟩:=List.mem_map.mp hy;exact Rv _ _ ((f a ha).len.symm.trans (f b hb).len) z
theorem GQ(h:okRows rows):(∀ws∈WS rows,Fits rows ws)/\(WS rows).length<=9/\(WS rows).Pairwise (fun p q=>ltI p q=true)/\(2<=(WS rows).length->∀p∈WS rows,p≠[]):=by
 obtain⟨a,b,c⟩:=Rx _ rows rfl h.wide;refine⟨a,y0j b (y3l (by decide) h.len),c,fun h2 p B e=>?_⟩;have z:=(a p B).len;rw[e] at z;obtain rfl:rows=[]:=List.length_eq_zero_iff.mp z;exact absurd h2 (by decide)
theorem Ry{Q:VK}{H:Hp}{gv:V}{rows:List Rw}{bd:Dm}(hg:Dt H gv (.tup [.tup (rows.map BM),bd]))(G:okRows rows)(q:∀(l:Addr) (H':Hp) (xs:List V),Same H H'->H l=none->H' l=some (.lst xs)->DtA H' xs ((WS rows).map AJ)->Q (.ref l) H') :
  BX (Ca (Db (Bq (ES Bz) Bz)) (B8 1)) (BX (Bx (Gh K (tOp (CM K) (B4 0) (tC (V.int 0)))) (EO K 3 (DZ (B8 2) (DZ (B8 3) (DZ (B8 4) FH)))) (BX (Ca (Db Bz) (B8 5)) (BX (Bx (Gg K (B4 1)) (B8 6) (FF (tBM K "list" FQ (B4 5) (Bq (CN (Gi (Bq (B4 3) (Bq (tOp (rI0 fun i j=>V.int (i+j)) (B4 4) (tC (V.int 1))) Bz))) (B8 0) FS (tOp (C0 K) (B4 1) (ES (Bq (B4 0) Bz))) [none,some 6]) Bz)))) (Ca (B4 5) (B8 1))))) (FG (B4 1))) {nx:=fun _ H'=>Q V.non H',rt:=Q} [some gv,none,none,none,none,none,none] H:=by
 obtain⟨ga,iv,bv,rfl,gn,di,db⟩:=B1 hg;obtain⟨ia,is,rfl,gb,ge⟩:=di.tupI;have gh:is.length=rows.length:=by rw[ge.length,y4]
 refine AB fun N1 e1=>?_;walk_at "a";refine⟨yo _,fun M h0=>⟨by decide,fun l0 fZ=>?_⟩⟩;have s1:=A5 h0 (HO.tup []);have s2:=A5 fZ (HO.lst [V.ref M]);have R:=s1.trans s2;have d0:Dt (upd (upd H M (HO.tup [])) l0 (HO.lst [V.ref M])) (.ref M) (AJ []):=.tup (s2 _ _ A4) .nil;have fY:H l0=none:=s1.free fZ;have fV:(upd (upd H M (HO.tup [])) l0 (HO.lst [V.ref M])) l0=some (.lst [V.ref M]):=A4;generalize upd (upd H M (HO.tup [])) l0 (HO.lst [V.ref M])=H1 at R d0 fV |-;rw[e1];refine AB fun N2 e2=>?_;walk_at "a";refine⟨_,SqT.of (R _ _ gn),_,AW,ia,rfl,⟨_,SqT.of (R _ _ gb)⟩,?_⟩;refine T6 (xs:=is) (AwI H ga rows) ?s ?l ?t ?d
 case s=>exact⟨l0,[.ref M],[[]],_,_,_,_,_,rfl,R,fY,fV,.cons d0 .nil,fun ws h=>by rw[y13] at h; subst h; exact trivial,by decide,by decide,rfl⟩
 case l=>
  rintro i σ Hc _ ⟨l,xs,z,_,_,_,_,_,rfl,sc,_⟩;exact SqT.of (sc _ _ gb)
 case d=>
  rintro σ Hc ⟨l,xs,z,_,_,_,_,_,rfl,sc,fz,hl,dx,hf,gm,_,hW⟩;show N2 _ _;rw[e2];walk_at "a";rw[gh,y0i] at hW;exact q l Hc xs sc fz hl (hW ▸ dx)
 case t=>
  rintro i x σ Hc hx ⟨l,xs,z,_,_,_,_,_,rfl,sc,fz,hl,dx,hf,gm,J,hW⟩;obtain⟨r,U,dr⟩:=BV ge hx;obtain⟨ra,r0,r1,r2,rfl,gj,t0,t1,t2⟩:=Bt dr;cases t0; cases t1; cases t2;have fu:=sc _ _ gj;walk_at "a";refine⟨_,SqT.of fu,rfl,_,_,rfl,_,_,rfl,_,_,rfl,rfl,yo _,fun pr Z=>?_⟩;have s3:=A5 Z (HO.lst []);have fX:=s3 _ _ hl;refine⟨⟨_,SqL.of fX⟩,?_⟩;have gw:=G.lo r (yw U);have fg:xs.length=z.length:=by rw[dx.length,y4]
  have hi2:i<2:=y0c (zzS U).1 G.len;have gy:z.length<=15:=by
   have:i=0\/i=1:=by lia
   rcases this with rfl|rfl
   ·exact y0j J (by decide)
   ·exact y0j J (by decide)
  refine Da (xs:=xs) (AwJ H ga l xs z pr (rows.take (i+1)) (.str r.1) (.int r.2.1) (.int r.2.2) r) ?S ?L ?T ?D
  case S=>exact⟨[],[],_,rfl,sc.trans s3,A4,.nil,fun ws h=>by simp at h,by simp,by simp,fX,dx.kp s3.kp,rfl⟩
  case L=>
   rintro j σ Hd _ ⟨ys,O,_,rfl,sd,hp,dy,hv,fh,F,fc,fe,hV⟩;exact SqL.of fc
  case D=>
   rintro σ Hd ⟨ys,O,_,rfl,sd,hp,dy,hv,fh,F,fc,fe,hV⟩;walk_at "a";refine⟨pr,ys,O,_,_,_,_,_,rfl,sd,sc.free Z,hp,dy,hv,by rw[fg] at fh; lia,?_⟩;rw[fg] at F;rw[y42,Nat.mul_comm];refine⟨y0j F (Nat.mul_le_mul_left _ J),?_⟩;rw[Ax U,Rt,<- hW,hV,fg,y0i]
  case T=>
   rintro j y σ Hd hy ⟨ys,O,_,rfl,sd,hp,dy,hv,fh,F,fc,fe,hV⟩;obtain⟨ws,ft,dw⟩:=BV fe hy;have gc:=hf ws (yw ft);walk_at "a";have hn:(r.2.2+1-r.2.1).toNat<=15:=by lia
   have gf:l≠pr:=AS hl Z;have gu:ws.length<=2:=by
    have h1:=gc.len;have h2:=G.len;rw[y04] at h1;lia
   refine⟨.inl ⟨rfl,_,SqL.of hp⟩,_,_,⟨rfl,rfl⟩,⟨by lia,by lia,by lia,by lia⟩,?_⟩;refine dI (AwC Hd y ws r.2.1) ⟨Same.refl _,⟨_,rfl⟩,.nil,yf _⟩ (y11 hn (by decide)) ?_ ?_ ?_
   ·rintro k zs fk H' ⟨_,_,_,hz⟩;exact hz
   ·rintro k zs fk H' hk ⟨sU,⟨t,rfl⟩,dz,hz⟩;walk_at "a";refine⟨by decide,fun p1 h1=>?_⟩;have s4:=A5 h1 (HO.tup [V.int (r.2.1+k)]);refine At ((dw.kp sU.kp).kp s4.kp) Au (by simp; lia) fun v H4 s5 dv=>?_;have fq:=s4.trans s5;refine⟨sU.trans fq,⟨_,rfl⟩,?_,by rw[yc,y0d]; lia⟩;rw[List.range_succ,yp,yp];exact(dz.kp fq.kp).append (.cons dv .nil)
   ·rintro zs fk H' ⟨sU,_,dz,hz⟩ pe gk;have s6:=A5 gk (HO.lst zs);have B:=sU.trans s6;have fw:=B _ _ hp;have gt:ys.length<=15*j:=by rw[dy.length,y4]; exact F
    have hj:j<xs.length:=(zzS hy).1;have gp:ys.length<=225:=by lia
    refine⟨pe,rfl,ys,fw,zs,A4,y12 (BH (by lia)),?_⟩;have k7:Kp (upd H' pe (HO.lst zs)) (upd (upd H' pe (HO.lst zs)) pr (HO.lst (ys++zs))):=Kp.set fw;refine⟨ys++zs,O++(List.range (r.2.2+1-r.2.1).toNat).map (fun(k:Nat)=>ws++[r.2.1+(k:Int)]),_,rfl,CG (sd.trans B) (sc.free Z),A4,?_,?_,by rw[yc,y4,y4b]; lia,?_,by rw[A8 gf]; exact B _ _ fc,fe.kp (B.kp.trans k7),by rw[Ax ft,List.flatMap_append,<- hV,List.flatMap_singleton]; rfl⟩
    ·rw[yp];exact(dy.kp (B.kp.trans k7)).append (dz.kp (s6.kp.trans k7))
    ·intro w hw;rcases List.mem_append.mp hw with hw|hw
     ·exact hv w hw
     ·obtain⟨k,hk,rfl⟩:=List.mem_map.mp hw;have gx:=List.mem_range.mp hk;rw[Ax U];exact gc.snoc (by lia) (by lia)
    ·rw[yc,y4,y4b];lia
theorem dJ(F:Fun K "_law_all_worths" "_law_all_worths" Bg f fd) (b_range:mg "range" = none):FnOk P w K mg base CX0 1 f fd ["_law_program_here"] EG:=by
 refine F.ok sc_law_all_worths (fun vs H Q E h=>?_) (fun G A outer s H vs Q E hr h=>?_)
 ·obtain⟨B,rows,J,rfl,_⟩:=h;rfl
 obtain⟨B,rows,J,rfl,hg,z,q⟩:=h;exact⟨_,(A6 (AN (i:=1) sc_law_all_worths.nd rfl QX (Ab (A1 (AI A2) A2)) (AF rfl))
 (A6 (BD y0m rfl (Mv (A9 ix_tup (A0 0 rfl Zw) A3 (fun _ _=>rfl))) (BY (n:=3) rfl (Aa (AO (i:=2) sc_law_all_worths.nd rfl Zs) (Aa (AO (i:=3) sc_law_all_worths.nd rfl Zr) (Aa (AO (i:=4) sc_law_all_worths.nd rfl Zp) BP))))
 (A6 (AN (i:=5) sc_law_all_worths.nd rfl Zq (Ab A2) (AF rfl))
 (A6 (BD y0m rfl (BZ (A0 1 rfl QZ)) (AO (i:=6) sc_law_all_worths.nd rfl Zt)
 (A7 (Az (BQ y0a y2a y29 FR (A0 5 rfl QY) (A1 (Cb ["_law_worth_here","_law_worths"] [none,some 6] rfl (CompS.of (by rfl)) (My Zo b_range (A1 (A0 3 rfl Zv) (A1 (AA AY (A0 4 rfl Zu) A3) A2))) (fun _ _ _ _ _=>(AO (i:=0) (show List.Nodup (["_law_worth_here","_law_worths"]:List Str) from by decide+kernel) rfl (Or.inl rfl))) (fun _ _ _ _ _=>D2) (fun _ _ _ _ _=>(AA (opK (r:=C0) (K:=K) Am rfl) (Ae (i:=1) rfl (by walk_at "vc") Wm WY) (AI (A1 (Ae (i:=0) rfl (by walk_at "vc") Pj Pd) A2))))) A2)) (AF rfl))))
 (A7 (AN (i:=1) sc_law_all_worths.nd rfl QX (A0 5 rfl QY) (AF rfl))))))
 (A7 (AG (A0 1 rfl QZ))))),Ry hg z q⟩
theorem dL(F:Fun K "all_worths" "all_worths" Be f fd) (b_range:mg "range" = none):FnOk P w K mg base CX0 1 f fd ["program"] EG:=by
 refine F.ok sc_all_worths (fun vs H Q E h=>?_) (fun G A outer s H vs Q E hr h=>?_)
 ·obtain⟨B,rows,J,rfl,_⟩:=h;rfl
 obtain⟨B,rows,J,rfl,hg,z,q⟩:=h;exact⟨_,(A6 (AN (i:=1) sc_all_worths.nd rfl QB (Ab (A1 (AI A2) A2)) (AF rfl))
 (A6 (BD y0m rfl (Mv (A9 ix_tup (A0 0 rfl Yc) A3 (fun _ _=>rfl))) (BY (n:=3) rfl (Aa (AO (i:=2) sc_all_worths.nd rfl YY) (Aa (AO (i:=3) sc_all_worths.nd rfl YX) (Aa (AO (i:=4) sc_all_worths.nd rfl YV) BP))))
 (A6 (AN (i:=5) sc_all_worths.nd rfl YW (Ab A2) (AF rfl))
 (A6 (BD y0m rfl (BZ (A0 1 rfl QC)) (AO (i:=6) sc_all_worths.nd rfl YZ)
 (A7 (Az (BQ y0a y2a y29 FR (A0 5 rfl QD) (A1 (Cb ["worth","row"] [none,some 6] rfl (CompS.of (by rfl)) (My YU b_range (A1 (A0 3 rfl Yb) (A1 (AA AY (A0 4 rfl Ya) A3) A2))) (fun _ _ _ _ _=>(AO (i:=0) (show List.Nodup (["worth","row"]:List Str) from by decide+kernel) rfl (Or.inl rfl))) (fun _ _ _ _ _=>D2) (fun _ _ _ _ _=>(AA (opK (r:=C0) (K:=K) Am rfl) (Ae (i:=1) rfl (by walk_at "vc") X3 Wb) (AI (A1 (Ae (i:=0) rfl (by walk_at "vc") L3 Ku) A2))))) A2)) (AF rfl))))
 (A7 (AN (i:=1) sc_all_worths.nd rfl QB (A0 5 rfl QD) (AF rfl))))))
 (A7 (AG (A0 1 rfl QC))))),Ry hg z q⟩
noncomputable def Bl(e:Ref):Dm:=.tup [.str e.1,AJ e.2]
def G3(s f:Addr)(H H':Hp)(q:List RI)(z:Option Ref):Prop:=(∀a o,a≠s->a≠f->H a=some o->H' a=some o)/\(∃xs ys,H s=some (.lst xs)/\H' s=some (.lst (xs++ys))/\DtA H' ys (q.map C7))/\H f=some (.lst [])/\∃zs,H' f=some (.lst zs)/\DtA H' zs (z.toList.map Bl)
noncomputable def Rs.out:Rs->Option Ref
 |.had _=>none
 |.ref u q=>some (u,q)
theorem G3.keep(h:G3 s f H H' rs fo)(n:∀xs,o≠.lst xs)(e:H a=some o):H' a=some o:=by
 obtain⟨h1,⟨xs,ys,z,e2,_⟩,q,_⟩:=h;exact h1 a o (AM e z (n xs)) (AM e q (n [])) e
theorem G3.kp(h:G3 s f H H' rs fo):Kp H H':=by
 refine⟨fun b xs e=>h.keep (by intro z w; cases w) e,fun b xs e=>?_⟩;obtain⟨h1,⟨B,ys,J,e2,_⟩,G,zs,F,_⟩:=h;by_cases q:b=s
 ·exact⟨_,q ▸ e2⟩
 ·by_cases hf:b=f
  ·exact⟨_,hf ▸ F⟩
  ·exact⟨xs,h1 b _ q hf e⟩
theorem G3.trans(a:G3 s f H H1 r1 none)(b:G3 s f H1 H2 r2 fo):G3 s f H H2 (r1++r2) fo:=by
 have F:=b.kp;obtain⟨U,⟨xs,ys,O,e2,d1⟩,M,zs,e4,d4⟩:=a;obtain⟨R,⟨B,q,z,J,d2⟩,Z,ws,G,d5⟩:=b;rw[e2] at z;cases z;exact⟨fun x o n m e=>R x o n m (U x o n m e),⟨xs,ys++q,O,by rw[J,yn],by rw[yp]; exact(d1.kp F).append d2⟩,M,ws,G,d5⟩
theorem G3.same(h:Same H H')(q:H s=some (.lst xs))(hf:H f=some (.lst [])):G3 s f H H' [] none:=
 ⟨fun a o _ _ e=>h a o e,⟨xs,[],q,by rw[y0x]; exact h _ _ q,.nil⟩,hf,[],h _ _ hf,.nil⟩
theorem G3.then(a:G3 s f H H1 rs fo)(h:Same H1 H2):G3 s f H H2 rs fo:=by
 obtain⟨G,⟨xs,ys,B,e2,d1⟩,z,zs,q,F⟩:=a;exact⟨fun x o n m e=>h _ _ (G x o n m e),⟨xs,ys,B,h _ _ e2,d1.kp h.kp⟩,z,zs,h _ _ q,F.kp h.kp⟩
theorem G3.row(z:s≠f)(a:G3 s f H H1 rs fo)(hx:H1 s=some (.lst xs))(J:Dt H1 y (C7 r)):G3 s f H (upd H1 s (.lst (xs++[y]))) (rs++[r]) fo:=by
 have k:Kp H1 (upd H1 s (.lst (xs++[y]))):=Kp.set hx;obtain⟨O,⟨q,ys,G,e2,d1⟩,F,zs,B,M⟩:=a;rw[hx] at e2;cases e2;refine⟨fun x o n m e=>by rw[A8 n]; exact O x o n m e,⟨q,ys++[y],G,by rw[A4,yn],?_⟩,F,zs,by rw[A8 (y1k z)]; exact B,M.kp k⟩;rw[yp];exact(d1.kp k).append (.cons (J.kp k) .nil)
theorem G3.fault(z:s≠f)(a:G3 s f H H1 rs none)(J:Dt H1 y (Bl e)):H1 f=some (.lst [])/\G3 s f H (upd H1 f (.lst ([]++[y]))) rs (some e):=by
 obtain⟨O,⟨q,ys,G,e2,d1⟩,F,zs,B,M⟩:=a;cases M;have k:Kp H1 (upd H1 f (.lst [y])):=Kp.set B;exact⟨B,fun x o n m e=>by rw[A8 m]; exact O x o n m e,⟨q,ys,G,by rw[y2m,A8 z]; exact e2,d1.kp k⟩,F,[y],by rw[y2m,A4],.cons (J.kp k) .nil⟩
theorem G3.no(a:G3 s f H H1 rs none):H1 f=some (.lst []):=by
 obtain⟨F,_,B,zs,q,z⟩:=a;cases z;exact q
theorem G3.has(a:G3 s f H H1 rs fo)(h:HasL (some s) H n)(k:rs.length+m<=n):HasL (some s) H1 m:=fun l F=>by
 cases F;obtain⟨xs,e,z⟩:=h s rfl;obtain⟨G,⟨B,ys,q,e2,d1⟩,_⟩:=a;rw[e] at q;cases q;have:=d1.length;rw[y4] at this;exact⟨_,e2,by rw[yc]; lia⟩
theorem Bm(hz:H f=some (.lst zs))(O:DtA H zs (fo.toList.map Bl))(hw:∀e,fo=some e->e.1∈B6)(G:H l=some (.lst [])):Hg K H (.ref f) (.ref l) fo.isNone:=by
 have q:∀d∈fo.toList.map Bl,Fine 2 d:=fun d hd=>by
  obtain⟨e,z,rfl⟩:=List.mem_map.mp hd;have z:fo=some e:=by simpa using z
  refine Cn (n:=1) fun x hx=>?_;simp only[y0f,y00,or_false] at hx;rcases hx with rfl|rfl
  ·exact DM _ (Rq _ (hw e z))
  ·exact DN _
 obtain⟨F,B,M⟩:=Ij q;have J:PyData.canLay0 (.list (Aj (fo.toList.map Bl)))=true:=by simpa [PyData.canLay0] using B
 have h1:SeqAt.shaped (.list (Aj (fo.toList.map Bl)))=true:=by
  unfold SeqAt.shaped;rw[J,y2i,decide_eq_true_eq];simp only[PyData.depth];lia
 refine⟨f,l,zs,[],_,[],rfl,rfl,SqL.of hz,SqL.of G,O,.nil,F,rfl,h1,rfl,?_⟩;rw[dH];cases fo<;>rfl
abbrev Acc:=List Int×List RI×Option Ref
noncomputable def CJ(c:Cnt)(p:List Int)(z:Acc)(t:T)(k:Int):Acc:=match z.2.2 with
 |some _=>z
 |none=>match evT c t (p++[k]) with
  |(.had x,r)=>(z.1++[x],z.2.1++r,none)
  |(.ref u q,r)=>(z.1,z.2.1++r,some (u,q))
noncomputable def CK(c:Cnt)(p:List Int)(a:T):Acc:=CJ c p ([],[],none) a 0
noncomputable def Bn(c:Cnt)(p:List Int)(a b:T):Acc:=CJ c p (CK c p a) b 1
noncomputable def Bw(c:Cnt)(p:List Int)(a b:T):Nat->Acc
 |0=>([],[],none)
 |1=>CK c p a
 |_=>Bn c p a b
theorem Rz{c:Cnt}{w:Wd}{a b:T}{p:List Int}{e:Ref}(h:(Bn c p a b).2.2=some e):evT c (.op w a b) p=(.ref e.1 e.2,(Bn c p a b).2.1):=by
 unfold Bn CK CJ at *;rcases z:evT c a (p++[0]) with⟨F,J⟩;rw[z] at h;cases F with
 |ref u q=>
  simp at h;subst h;rw[Ez z];simp
 |had x=>
  simp only at h |-;rcases e2:evT c b (p++[1]) with⟨B,G⟩;rw[e2] at h;cases B with
  |had y=>simp at h
  |ref u q=>
   simp at h;subst h;rw[EA z e2];simp
theorem dM(h:(Bn c p a b).2.2=none):∃x y B z,evT c a (p++[0])=(.had x,B)/\evT c b (p++[1])=(.had y,z)/\Bn c p a b=([x,y],B++z,none):=by
 unfold Bn CK CJ at *;rcases J:evT c a (p++[0]) with⟨B,G⟩;rw[J] at h;cases B with
 |ref u q=>simp at h
 |had x=>
  simp only at h |-;rcases e2:evT c b (p++[1]) with⟨z,F⟩;rw[e2] at h;cases z with
  |had y=>exact⟨x,y,G,F,rfl,rfl,by simp⟩
  |ref u q=>simp at h
theorem dO(h:(CK c p a).2.2=some e):e.1∈B6:=by
 unfold CK CJ at h;rcases z:evT c a (p++[0]) with⟨B,F⟩;rw[z] at h;cases B with
 |ref u q=>
  simp at h;subst h;exact CW a _ z
 |had x=>simp at h
theorem dP{c:Cnt}{a b:T}{p:List Int}{e:Ref}(h:(Bn c p a b).2.2=some e):e.1∈B6:=CW (.op .add a b) p (Rz (w:=.add) h)
theorem dQ(c:Cnt)(p:List Int)(a:T):(CK c p a).2.1=(evT c a (p++[0])).2:=by
 unfold CK CJ;rcases B:evT c a (p++[0]) with⟨q,z⟩;cases q<;>simp
def Iv:Sp:=fun vs H Q _=>∃(w:Wd) (a b:Int),vs=[.str w.str,.int a,.int b]/\(w=.quo->b≠0)/\b.natAbs<1073741824/\∀H',Same H H'->Q (.int (w.worth a b)) H'
def Cw(n:Nat):Sp:=fun vs H Q _=>∃(v:V) (t:T) (pv:V) (p:List Int) (st d s f:Addr) (c:Cnt) (g:List Str),vs=[v,pv,.ref st]/\H st=some (.tup [.ref d,.ref s,.ref f])/\Dt H v t.enc/\Dt H pv (AJ p)/\t.ok g n/\n<=5/\p.length+n<=100/\H d=some (.dK (kvC c))/\Has c g/\s≠f/\HasL (some s) H ((evT c t p).2.length+1)/\H f=some (.lst [])/\
 ∀(i:Int) (H':Hp),G3 s f H H' (evT c t p).2 (evT c t p).1.out->(∀v,(evT c t p).1=.had v->i=v)->Q (.int i) H'
def LwJ(H:Hp)(va:Addr)(pv:V)(st d s f:Addr)(x6:Option V)(c:Cnt)(p:List Int)(ta tb:T)(pl:Addr)(i:Nat)(σ:St)(q:Hp):Prop:=∃(ps:List V) (x8:Option V),σ=[some (.ref va),some pv,some (.ref st),some (.ref d),some (.ref s),some (.ref f),x6,some (.ref pl),x8]/\q pl=some (.lst ps)/\G3 s f H q (Bw c p ta tb i).2.1 (Bw c p ta tb i).2.2/\((Bw c p ta tb i).2.2=none->ps=(Bw c p ta tb i).1.map V.int)/\ps.length<=i
theorem G3.other(a:G3 s f H H1 rs fo)(B:H pl=none)(hx:H1 pl=some (.lst xs)):G3 s f H (upd H1 pl (.lst ys)) rs fo:=by
 have k:Kp H1 (upd H1 pl (.lst ys)):=Kp.set hx;obtain⟨O,⟨z,q,G,e2,d1⟩,F,zs,J,M⟩:=a;exact⟨fun x o n m e=>by rw[A8 (AS e B)]; exact O x o n m e,⟨z,q,G,by rw[A8 (AS G B)]; exact e2,d1.kp k⟩,F,zs,by rw[A8 (AS F B)]; exact J,M.kp k⟩
theorem Mh(c:Cnt)(p:List Int)(a b:T)(h:i<2):Bw c p a b (i+1)=CJ c p (Bw c p a b i) (if i=0 then a else b) i:=by
 rcases(show i=0\/i=1 by lia) with rfl|rfl<;>rfl
theorem S0(h:i<=2)(q:(Bw c p a b i).2.2=some e):e.1∈B6:=by
 rcases(show i=0\/i=1\/i=2 by lia) with rfl|rfl|rfl
 ·cases q
 ·exact dO q
 ·exact dP q
theorem dS{c:Cnt}{w:Wd}{a b:T}{p:List Int}{i:Nat}(h:i<2)(z:(Bw c p a b i).2.2=none):(Bw c p a b i).2.1.length+(evT c (if i=0 then a else b) (p++[(i:Int)])).2.length<=(evT c (.op w a b) p).2.length:=by
 rcases(show i=0\/i=1 by lia) with rfl|rfl
 ·have:=RS c w a b p;simpa [Bw] using this
 ·have z:(CK c p a).2.2=none:=z;show(CK c p a).2.1.length+_<=_;rw[dQ];unfold CK CJ at z;rcases B:evT c a (p++[0]) with⟨F,G⟩;rw[B] at z;cases F with
  |ref u q=>simp at z
  |had x=>exact RU B
theorem dW(z:ms.Perm [a,b])(hw:ms.Pairwise (· <= ·)):ms=[Wd.min.worth a b,Wd.max.worth a b]:=by
 have h2:[Wd.min.worth a b,Wd.max.worth a b].Perm [a,b]:=by
  show [if b<a then b else a,if b>a then b else a].Perm [a,b];by_cases h:b<a
  ·rw[if_pos h,if_neg (by lia)]; exact List.Perm.swap _ _ _
  ·rw[if_neg h];by_cases h':b>a
   ·rw[if_pos h']
   ·have:a=b:=by lia
    rw[if_neg h',this]
 have q:[Wd.min.worth a b,Wd.max.worth a b].Pairwise (· <= ·):=by
  simp only[y5f,y13,y00,forall_eq,Wd.worth];refine⟨?_,by simp⟩;split<;>split<;>lia
 exact y2s (le:=fun x y:Int=>x<=y) (fun x y _ _ u v=>by lia) hw q (z.trans h2.symm)
theorem in2(h:H p=some (.tup [.str y,.str z])):Nj K (.str x) (.ref p) H (decide (x=y) || decide (x=z)):=by
 refine .inl ⟨p,[.str y,.str z],rfl,.inr (SqT.of h),rfl,rfl,?_⟩;have:=E7 x [y,z];rw[yj,yj,y2f] at this;rw[this];simp[List.contains_cons]
theorem dX(F:Fun K "_law_reckoned" "_law_reckoned" E1 f fd) (b_sorted:mg "sorted" = none):FnOk P w K mg base CX0 1 f fd ["_law_word","_law_one","_law_other"] Iv:=by
 refine F.ok Zx (fun vs H Q E h=>?_) (fun fc A outer s H vs Q E hr h=>?_)
 ·obtain⟨w,a,b,rfl,_⟩:=h;rfl
 obtain⟨w,a,b,rfl,hq,hb,q⟩:=h;have B:=q H (Same.refl H);refine⟨_,(A6 (AK (AC (gEq hr.units) (A0 0 rfl E4) AD (AE _)) (A7 (AG (AA AY (A0 1 rfl E2) (A0 2 rfl E3)))) AL)
 (A6 (AK (AC (gEq hr.units) (A0 0 rfl E4) AD (AE _)) (A7 (AG (AA Cy (A0 1 rfl E2) (A0 2 rfl E3)))) AL)
 (A6 (AK (AC (gEq hr.units) (A0 0 rfl E4) AD (AE _)) (A7 (AG (AA By (A0 1 rfl E2) (A0 2 rfl E3)))) AL)
 (A6 (AK (AC (gEq hr.units) (A0 0 rfl E4) AD (AE _)) (A7 (AG (AA N0 (A0 1 rfl E2) (A0 2 rfl E3)))) AL)
 (A6 (AK (AC (gIn hr.units) (A0 0 rfl E4) (AI (A1 AD (A1 AD A2))) (by with_unfolding_all rfl)) (A7 (AG (CY (UN (AC (gEq hr.units) (A0 0 rfl E4) AD (AE _)) (AC Cz (A0 1 rfl E2) (A0 2 rfl E3) (AE _)) (AC CO (A0 1 rfl E2) (A0 2 rfl E3) (AE _))) A3 A3))) AL)
 (A7 (AG (A9 ix_list (Aq UM Zy b_sorted D9 (A1 (Ab (A1 (A0 1 rfl E2) (A1 (A0 2 rfl E3) A2))) A2) DB DA) (CY (AC (gEq hr.units) (A0 0 rfl E4) AD (AE _)) A3 A3) (fun _ _=>rfl))))))))),?_⟩
 walk_at "a";have hm:CMul a b:=.inr ⟨by lia,by lia⟩;refine⟨_,eqW w .add,?_⟩;split
 ·rename_i e; cases of_decide_eq_true e; exact B
 rename_i n1;refine⟨_,eqW w .sub,?_⟩;split
 ·rename_i e; cases of_decide_eq_true e; exact B
 rename_i n2;refine⟨_,eqW w .mul,?_⟩;split
 ·rename_i e; cases of_decide_eq_true e; exact⟨hm,B⟩
 rename_i n3;refine⟨_,eqW w .quo,?_⟩;split
 ·rename_i e; cases of_decide_eq_true e; exact⟨⟨hq rfl,hb⟩,B⟩
 rename_i n4;refine⟨by decide,fun U h1=>⟨_,in2 A4,?_⟩⟩;have G:=A5 h1 (HO.tup [V.str "less",V.str "same"]);have z:=q _ G;generalize upd H U (HO.tup [V.str "less",V.str "same"])=H1 at G z |-;split
 ·rename_i e;have hw:w=.less\/w=.same:=by cases w<;>first|exact .inl rfl|exact .inr rfl|exact absurd e (by decide+kernel)
  refine⟨_,eqW w .less,?_⟩;rcases hw with rfl|rfl
  ·rw[if_pos (by decide)];have z:Q (.int (if a<b then 1 else 0)) H1:=z;split
   ·rename_i c; rw[if_pos c] at z; exact z
   ·rename_i c; rw[if_neg c] at z; exact z
  ·rw[if_neg (by decide)];have z:Q (.int (if a=b then 1 else 0)) H1:=z;split
   ·rename_i c; rw[if_pos c] at z; exact z
   ·rename_i c; rw[if_neg c] at z; exact z
 ·rename_i e;have hw:w=.min\/w=.max:=by
   cases w<;>first|exact .inl rfl|exact .inr rfl|exact absurd rfl (by assumption)|exact absurd (by decide+kernel) e
  refine⟨by decide,fun p2 h2=>⟨[a,b],SqL.of A4,by simp,fun l Z hl hp J=>?_⟩⟩;have R:=A5 h2 (HO.lst [V.int a,V.int b]);have O:=A5 hl (HO.lst (Z.map V.int));have M:=q _ (G.trans (R.trans O));have em:=dW hp J;subst em;refine⟨_,eqW w .min,?_⟩;rcases hw with rfl|rfl
  ·rw[if_pos (by decide)];exact⟨_,SqL.of A4,_,AW,M⟩
  ·rw[if_neg (by decide)];exact⟨_,SqL.of A4,_,AV (j:=1) rfl,M⟩
theorem dY:FnOk P w K mg base CX0 k f fd [n1,n2,n3] (Cw 0):=by
 have q:∀vs H Q E,¬ Cw 0 vs H Q E:=fun vs H Q E h=>by
  obtain⟨v,t,pv,p,st,d,s,f,c,g,_,_,_,_,h,_⟩:=h;exact h.elim
 exact⟨fun vs H Q E h=>absurd h (q vs H Q E),fun A outer s H args us vs Q E _ _ _ _ h=>absurd h (q vs H Q E)⟩
theorem dZ(F:Fun K "_law_worth" "_law_worth" Aw f fd) (b_range:mg "range" = none) (c_law_reckoned:Callee P w K mg base "_law_reckoned" ["_law_word","_law_one","_law_other"] 1 Iv) (c_law_worth:Callee P w K mg base "_law_worth" ["_law_expr","_law_path","_law_state"] (n+2) (Cw n)):FnOk P w K mg base CX0 (n+3) f fd ["_law_expr","_law_path","_law_state"] (Cw (n+1)):=by
 refine F.ok sc_law_worth (fun vs H Q E h=>?_) (fun gJ A outer s H vs Q E hr h=>?_)
 ·obtain⟨v,t,pv,p,st,d,s,f,c,g,rfl,_⟩:=h;rfl
 obtain⟨v,t,pv,p,st,d,Z,ff,c,g,rfl,gt,R,hp,gc,hn,gI,hd,hh,fw,hL,hf,q⟩:=h;obtain⟨va,y,tx,rfl,fg⟩:=RJ R;obtain⟨gG,gu,gH⟩:=hL Z rfl;refine⟨_,(A6 (FI (A0 2 rfl Qc) (BY (n:=3) rfl (Aa (AO (i:=3) sc_law_worth.nd rfl aA) (Aa (AO (i:=4) sc_law_worth.nd rfl aE) (Aa (AO (i:=5) sc_law_worth.nd rfl aB) BP)))))
 (A6 (AK (AC (gIn hr.units) (A9 ix_tup (A0 0 rfl E5) A3 (fun _ _=>rfl)) (AI (A1 AD (A1 AD A2))) (by with_unfolding_all rfl)) (A7 (AN (i:=6) sc_law_worth.nd rfl Qa (CY (AC (gEq hr.units) (A9 ix_tup (A0 0 rfl E5) A3 (fun _ _=>rfl)) AD (AE _)) (A9 ix_tup (A0 0 rfl E5) A3 (fun _ _=>rfl)) (EX hr.units1 (A0 3 rfl aF) (A9 ix_tup (A0 0 rfl E5) A3 (fun _ _=>rfl)) (fun _ _=>rfl))) (AF rfl))) (A6 (AN (i:=7) sc_law_worth.nd rfl aD (Ab A2) (AF rfl))
 (A6 (BD y0m rfl (JW a9 b_range (A1 A3 A2)) (AO (i:=8) sc_law_worth.nd rfl aC)
 (A7 (AK (AC (Fb hr.units) (A0 5 rfl IX) (Ab A2) (AE _)) (A7 (Az (BQ y0a y0r y0q C9 (A0 7 rfl IY) (A1 (AH c_law_worth hr (by lia) (A1 (A9 ix_tup (A0 0 rfl E5) (AA AY (A0 8 rfl Qb) A3) (fun _ _=>rfl)) (A1 (AA Am (A0 1 rfl IZ) (AI (A1 (A0 8 rfl Qb) A2))) (A1 (A0 2 rfl Qc) A2))) a7 Kx) A2)) (AF rfl))) AL)))
 (A6 (AK (AC (Dh hr.units) (A0 5 rfl IX) (Ab A2) (AE _)) (A7 (AG A3)) AL)
 (A6 (AK (PW.pt (DY (AC (gEq hr.units) (A9 ix_tup (A0 0 rfl E5) A3 (fun _ _=>rfl)) AD (AE _)) (EN (AC CO (A9 ix_list (A0 7 rfl IY) A3 (fun _ _=>rfl)) A3 (AE _))))) (A6 (Az (BQ y0a y0r y0q C9 (A0 5 rfl IX) (A1 (AI (A1 AD (A1 (A0 1 rfl IZ) A2))) A2)) (AF rfl))
 (A7 (AG A3))) AL)
 (A7 (AN (i:=6) sc_law_worth.nd rfl Qa (AH c_law_reckoned hr (by lia) (A1 (A9 ix_tup (A0 0 rfl E5) A3 (fun _ _=>rfl)) (A1 (A9 ix_list (A0 7 rfl IY) A3 (fun _ _=>rfl)) (A1 (A9 ix_list (A0 7 rfl IY) A3 (fun _ _=>rfl)) A2))) Zz Wj) (AF rfl))))))))
 (A6 (Az (BQ y0a y0r y0q C9 (A0 4 rfl aG) (A1 (AI (A1 (A0 1 rfl IZ) (A1 (A0 6 rfl La) A2))) A2)) (AF rfl))
 (A6 (AK (JQ (TH Go Go (EQ ER A3) (A0 6 rfl La) A3)) (A7 (Az (BQ y0a y0r y0q C9 (A0 5 rfl IX) (A1 (AI (A1 AD (A1 (A0 1 rfl IZ) A2))) A2)) (AF rfl))) AL)
 (A7 (AG (A0 6 rfl La))))))),AB fun N1 e1=>?_⟩
 walk_at "a";refine⟨_,SqT.of gt,rfl,_,_,rfl,_,_,rfl,_,_,rfl,rfl,?_⟩;rw[e1];refine AB fun N2 e2=>?_;have fh:∀(i:Int) (x7 x8:Option V) (Hc:Hp) (rs:List RI),G3 Z ff H Hc rs none->evT c t p=(B0 i p,rs++[(p,i)])->N2 [some (V.ref va),some pv,some (V.ref st),some (V.ref d),some (V.ref Z),some (V.ref ff),some (.int i),x7,x8] Hc:=by
  intro i x7 x8 Hc rs G ev;have gE:HasL (some Z) Hc 2:=G.has hL (by rw[ev]; simp only[yc,yu,y2n]; lia);obtain⟨xs,hs,hz⟩:=gE Z rfl;rw[e2];refine AB fun N3 e3=>?_;walk_at "a";refine⟨.inl ⟨rfl,_,SqL.of hs⟩,by decide,fun p1 h1=>?_⟩;have s1:=A5 h1 (HO.tup [pv,V.int i]);refine⟨xs,s1 _ _ hs,by lia,?_⟩;have dy:Dt (upd Hc p1 (HO.tup [pv,V.int i])) (.ref p1) (C7 (p,i)):=.tup A4 (.cons ((hp.kp G.kp).kp s1.kp) (.cons (.int _) .nil));have J:=(G.then s1).row fw (s1 _ _ hs) dy;generalize upd (upd Hc p1 (HO.tup [pv,V.int i])) Z (HO.lst (xs++[V.ref p1]))=Hd at J |-;have gB:=J.no;rw[e3];refine AB fun N4 e4=>?_;have fin:∀He,G3 Z ff H He (rs++[(p,i)]) (B0 i p).out->N4 [some (V.ref va),some pv,some (V.ref st),some (V.ref d),some (V.ref Z),some (V.ref ff),some (.int i),x7,x8] He:=by
   intro He G2;rw[e4];walk_at "a";rw[ev] at q;exact q i He G2 fun v R=>(Ip R).1.symm
  have gm:¬ (-32768<=i/\i<=32767)->(B0 i p).out=some (("over" : Str),p):=fun z=>by
   unfold B0;by_cases h1:i < -32768
   ·rw[if_pos h1]; rfl
   ·rw[if_neg h1,if_pos (by lia)]; rfl
  have flt:¬ (-32768<=i/\i<=32767)->(tyV K "list" (V.ref ff) Hd/\2<=ym/\∀(p1:Addr),Hd p1=none->∃x,upd Hd p1 (HO.tup [V.str (Str.ofString "over"),pv]) ff=some (HO.lst x)/\x.length<ym/\
    N4 [some (V.ref va),some pv,some (V.ref st),some (V.ref d),some (V.ref Z),some (V.ref ff),some (V.int i),x7,x8] (upd (upd Hd p1 (HO.tup [V.str (Str.ofString "over"),pv])) ff (HO.lst (x++[V.ref p1])))):=by
   intro z
   refine⟨.inl ⟨rfl,_,SqL.of gB⟩,by decide,fun p2 h2=>?_⟩
   have s2:=A5 h2 (HO.tup [V.str "over",pv])
   have gj:Dt (upd Hd p2 (HO.tup [V.str "over",pv])) (.ref p2) (Bl (("over" : Str),p)):=.tup A4 (.cons (.str _) (.cons ((hp.kp J.kp).kp s2.kp) .nil))
   obtain⟨gf,G2⟩:=(J.then s2).fault fw gj
   refine⟨[],gf,by decide,fin _ ?_⟩
   rw[gm z]
   exact G2
  walk_at "a";by_cases h1 : -32768<=i
  ·rw[if_pos h1];by_cases h2:i<=32767
   ·rw[if_neg (by simp[h2])];refine fin _ ?_;have:(B0 i p).out=none:=by
     unfold B0;rw[if_neg (by lia),if_neg (by lia)];rfl
    rw[this];exact J
   ·rw[if_pos (by simp[h2])];exact flt fun z=>h2 z.2
  ·rw[if_neg h1];exact flt fun z=>h1 z.1
 walk_at "a";refine⟨_,SqT.of fg,_,AW,by decide,fun p0 h0=>⟨_,in2 A4,?_⟩⟩;have s0:=A5 h0 (HO.tup [V.str "num",V.str "name"]);have G0:=G3.same (s:=Z) (f:=ff) s0 gu hf;generalize upd H p0 (HO.tup [V.str "num",V.str "name"])=U at s0 G0 |-;split
 ·rename_i hw;refine⟨_,SqT.of (s0 _ _ fg),_,AW,_,Ak,?_⟩;split
  ·rename_i fZ;obtain⟨i,rfl⟩:=RV (of_decide_eq_true fZ);rw[T.enc] at R;obtain⟨a2,x0,x1,ea,ha2,t0,t1⟩:=B1 R;cases ea;cases t1;rw[ha2] at fg;cases fg;exact⟨_,SqT.of (s0 _ _ ha2),_,AV (j:=1) rfl,fh i _ _ _ [] G0 (by rw[evT]; rfl)⟩
  ·rename_i fZ;obtain⟨x,rfl⟩:=RW (t:=t) (by
    rw[y35] at hw
    rcases hw with z|z
    ·exact absurd z fZ
    ·exact of_decide_eq_true z)
   rw[T.enc] at R;obtain⟨a2,x0,x1,ea,ha2,t0,t1⟩:=B1 R;cases ea;cases t1;rw[ha2] at fg;cases fg;obtain⟨w2,gn,_⟩:=hh x gc;have hg:DGet U d (.str x) (some (.int w2)):=by
    have:=DGet.k (k:=Sum.inr x) (s0 _ _ hd);rw[Il,gn] at this;exact this
   exact⟨_,SqT.of (s0 _ _ ha2),_,AV (j:=1) rfl,_,hg,fh w2 _ _ _ [] G0 (by rw[evT,gn]; rfl)⟩
 rename_i hw;obtain⟨wd,ta,tb,rfl⟩:=RX (t:=t) (fun z=>hw (by rw[z]; rfl)) (fun z=>hw (by rw[y35]; exact .inr (decide_eq_true z)));rw[T.enc] at R;obtain⟨a2,x0,x1,x2,ea,ha2,t0,t1,t2⟩:=Bt R;cases ea;cases t0;refine⟨yo _,fun pl fY=>⟨by decide,by decide,?_⟩⟩;have gy:=A5 fY (HO.lst []);have fq:H pl=none:=s0.free fY;have gF:=G0.then gy;refine JX (lo:=0) (n:=2) (LwJ H va pv st d Z ff none c p ta tb pl) ?s ?t ?d
 case s=>exact⟨[],_,rfl,A4,gF,fun _=>rfl,yf _⟩
 case t=>
  rintro i σ Hc hi ⟨ps,x8,rfl,gb,G,fk,fV⟩;walk_at "a";refine⟨yo _,fun l1 ge=>?_⟩;have s1:=A5 ge (HO.lst []);have O:(upd Hc l1 (HO.lst [])) l1=some (.lst []):=A4;generalize upd Hc l1 (HO.lst [])=U1 at s1 O |-;have J:=G.then s1;have M:=s1 _ _ gb;obtain⟨_,_,_,zs,hz,dz⟩:=J;refine⟨_,Bm hz dz (fun e he=>S0 (by lia) he) O,?_⟩;have J:=G.then s1;cases B:(Bw c p ta tb i).2.2 with
  |some e=>
   rw[if_neg (by simp)];have ea:Bw c p ta tb (i+1)=Bw c p ta tb i:=by rw[Mh c p ta tb hi]; unfold CJ; rw[B]
   refine⟨ps,_,rfl,M,by rw[ea]; exact J,fun z=>?_,by lia⟩;rw[ea,B] at z;cases z
  |none=>
   rw[if_pos (by rfl)];rw[B] at J;have kG:=J.kp;have fc:=J.keep (by intro z w; cases w) ha2;have gp:=J.keep (by intro z w; cases w) gt;have gC:=J.keep (by intro z w; cases w) hd;have gD:atI [V.str wd.str,x1,x2] (0+(i:Int)+1)=some (if i=0 then x1 else x2):=by
    rcases(show i=0\/i=1 by lia) with rfl|rfl<;>rfl
   refine⟨.inl ⟨rfl,_,SqL.of M⟩,_,SqT.of fc,_,gD,by decide,fun p2 h2=>?_⟩;have s2:=A5 h2 (HO.tup [V.int (0+(i:Int))]);rw[Int.zero_add] at s2 |-;refine At ((hp.kp kG).kp s2.kp) Au (by simp; lia) fun z3 H3 s3 d3=>?_;have fe:=s2.trans s3;have gk:=J.then fe;have dk:Dt H3 (if i=0 then x1 else x2) (if i=0 then ta else tb).enc:=by
    split
    ·exact(t1.kp kG).kp fe.kp
    ·exact(t2.kp kG).kp fe.kp
   have gz:(if i=0 then ta else tb).ok g n:=by
    split
    ·exact gc.1
    ·exact gc.2
   refine⟨_,_,z3,p++[(i:Int)],st,d,Z,ff,c,g,rfl,fe _ _ gp,dk,d3,gz,by lia,by rw[yc,y0d]; lia,fe _ _ gC,hh,fw,gk.has hL ?_,gk.no,fun v H4 G4 R=>?_⟩
   ·have:=dS (w:=wd) hi B;lia
   ·have fX:H4 pl=some (.lst ps):=G4.1 pl _ (AS gu fq |>.symm) (AS hf fq |>.symm) (fe _ _ M);refine⟨ps,fX,y11 fV (BH (by lia)),?_⟩;have G5:=(gk.trans G4).other (ys:=ps++[.int v]) fq fX;refine⟨_,_,rfl,A4,?_,?_,by rw[yc,y0d]; lia⟩
    ·rw[Mh c p ta tb hi];unfold CJ;rw[B];rcases gh:evT c (if i=0 then ta else tb) (p++[(i:Int)]) with⟨r4,w4⟩;rw[gh] at G5;cases r4<;>exact G5
    ·rw[Mh c p ta tb hi];unfold CJ;rw[B];rcases gh:evT c (if i=0 then ta else tb) (p++[(i:Int)]) with⟨r4,w4⟩;rw[gh] at R;cases r4 with
     |had x=>
      intro _;simp only[yp,yj,y2f];rw[fk B,R x rfl]
     |ref u q0=>intro z; cases z
 case d=>
  rintro σ Hc ⟨ps,x8,rfl,gb,G,fk,fV⟩;walk_at "a";refine⟨yo _,fun l1 ge=>?_⟩;have s1:=A5 ge (HO.lst []);have O:(upd Hc l1 (HO.lst [])) l1=some (.lst []):=A4;generalize upd Hc l1 (HO.lst [])=U1 at s1 O |-;have J:=G.then s1;have M:=s1 _ _ gb;obtain⟨_,_,_,zs,hz,dz⟩:=J;refine⟨_,Bm hz dz (fun e he=>S0 (yf 2) he) O,?_⟩;have J:G3 Z ff H U1 (Bn c p ta tb).2.1 (Bn c p ta tb).2.2:=G.then s1;replace fk:(Bn c p ta tb).2.2=none->ps=(Bn c p ta tb).1.map V.int:=fk;show if(Bn c p ta tb).2.2.isNone=false then _ else _;cases B:(Bn c p ta tb).2.2 with
  |some e=>
   rw[if_pos (by simp)];have ev:=Rz (w:=wd) B;rw[ev] at q;refine q 0 U1 ?_ fun v R=>by cases R
   rw[B] at J;exact J
  |none=>
   rw[if_neg (by simp)];rw[B] at J;obtain⟨x,yy,r1,r2,ea,eb,gx⟩:=dM B;have gA:ps=[V.int x,V.int yy]:=by rw[fk B,gx]; rfl
   subst gA;rw[gx] at J;have fc:=J.keep (by intro z w; cases w) ha2;have hy:=MP tb _ eb;refine⟨_,SqT.of fc,_,AW,_,eqW wd .quo,?_⟩;have fz:¬ (wd=.quo/\yy=0)->∃x_1,SqT K U1 va x_1/\∃x_3,atI x_1 0=some x_3/\∃x_4,SqL K U1 pl x_4/\∃x_5,atI x_4 0=some x_5/\∃x_6,SqL K U1 pl x_6/\∃x_7,atI x_6 1=some x_7/\Iv [x_3,x_5,x_7] U1 (fun x_8 H1=>N2 [some (V.ref va),some pv,some (V.ref st),some (V.ref d),some (V.ref Z),some (V.ref ff),some x_8,some (V.ref pl),x8] H1) E0:=by
    intro gw;refine⟨_,SqT.of fc,_,AW,_,SqL.of M,_,AW,_,SqL.of M,_,AV (j:=1) rfl,?_⟩;exact⟨wd,x,yy,rfl,fun z w=>gw ⟨z,w⟩,by lia,fun H6 s6=>fh _ _ _ H6 (r1++r2) (J.then s6) (EC ea eb gw)⟩
   by_cases fu:wd=.quo
   ·rw[if_pos (decide_eq_true fu)];refine⟨_,SqL.of M,_,AV (j:=1) rfl,_,rfl,?_⟩;by_cases ft:yy=0
    ·rw[if_pos ft];subst ft;subst fu;refine⟨.inl ⟨rfl,_,SqL.of J.no⟩,by decide,fun p2 h2=>?_⟩;have s2:=A5 h2 (HO.tup [V.str "zero",pv]);have gj:Dt (upd U1 p2 (HO.tup [V.str "zero",pv])) (.ref p2) (Bl (("zero" : Str),p)):=.tup A4 (.cons (.str _) (.cons ((hp.kp J.kp).kp s2.kp) .nil));obtain⟨gf,G2⟩:=(J.then s2).fault fw gj;rw[EB ea eb] at q;exact⟨[],gf,by decide,q 0 _ G2 fun v R=>by cases R⟩
    ·rw[if_neg ft];exact fz fun z=>ft z.2
   ·rw[if_neg (by simpa using fu)];exact fz fun z=>fu z.1
theorem S1(d:Df K mg "_law_worth" Aw ["_law_expr","_law_path","_law_state"] f fd) (b_range:mg "range" = none) (c_law_reckoned:Callee P w K mg base "_law_reckoned" ["_law_word","_law_one","_law_other"] 1 Iv):∀n:Nat,Callee P w K mg base "_law_worth" ["_law_expr","_law_path","_law_state"] (n+2) (Cw n)
 |0=>d.callee dY
 |n+1=>d.callee (dZ d.F b_range c_law_reckoned (S1 d b_range c_law_reckoned n))
def G4(d s f:Addr)(H H':Hp)(q:List RI)(z:Option Ref):Prop:=(∀a o,a≠d->a≠s->a≠f->H a=some o->H' a=some o)/\(∃xs ys,H s=some (.lst xs)/\H' s=some (.lst (xs++ys))/\DtA H' ys (q.map C7))/\H f=some (.lst [])/\∃zs,H' f=some (.lst zs)/\DtA H' zs (z.toList.map Bl)
theorem G3.g4(h:G3 s f H H' rs fo):G4 d s f H H' rs fo:=⟨fun a o _ n m e=>h.1 a o n m e,h.2⟩
theorem G4.keep(h:G4 d s f H H' rs fo)(hd:H d=some (.dK k))(n:∀xs,o≠.lst xs)(q:∀k,o≠.dK k)(e:H a=some o):H' a=some o:=by
 obtain⟨h1,⟨xs,ys,B,e2,_⟩,z,_⟩:=h;exact h1 a o (AM e hd (q k)) (AM e B (n xs)) (AM e z (n [])) e
theorem G4.kp(h:G4 d s f H H' rs fo)(hd:H d=some (.dK k)):Kp H H':=by
 refine⟨fun b xs e=>h.keep hd (by intro z w; cases w) (by intro z w; cases w) e,fun b xs e=>?_⟩;obtain⟨h1,⟨B,ys,J,e2,_⟩,G,zs,F,_⟩:=h;by_cases q:b=s
 ·exact⟨_,q ▸ e2⟩
 ·by_cases hf:b=f
  ·exact⟨_,hf ▸ F⟩
  ·exact⟨xs,h1 b _ (AM e hd (by intro z; cases z)) q hf e⟩
theorem G4.trans(a:G4 d s f H H1 r1 none)(b:G4 d s f H1 H2 r2 fo)(hd:H1 d=some (.dK k)):G4 d s f H H2 (r1++r2) fo:=by
 have F:=b.kp hd;obtain⟨U,⟨xs,ys,O,e2,d1⟩,M,zs,e4,d4⟩:=a;obtain⟨R,⟨B,q,z,J,d2⟩,Z,ws,G,d5⟩:=b;rw[e2] at z;cases z;exact⟨fun x o l n m e=>R x o l n m (U x o l n m e),⟨xs,ys++q,O,by rw[J,yn],by rw[yp]; exact(d1.kp F).append d2⟩,M,ws,G,d5⟩
theorem G4.then(a:G4 d s f H H1 rs fo)(h:Same H1 H2):G4 d s f H H2 rs fo:=by
 obtain⟨G,⟨xs,ys,B,e2,d1⟩,z,zs,q,F⟩:=a;exact⟨fun x o l n m e=>h _ _ (G x o l n m e),⟨xs,ys,B,h _ _ e2,d1.kp h.kp⟩,z,zs,h _ _ q,F.kp h.kp⟩
theorem G4.put(a:G4 d s f H H1 rs fo)(hd:H1 d=some (.dK k)):G4 d s f H (upd H1 d (.dK k')) rs fo:=by
 have kk:Kp H1 (upd H1 d (.dK k')):=RK hd;obtain⟨J,⟨xs,ys,F,e2,d1⟩,B,zs,q,G⟩:=a;exact⟨fun x o l n m e=>by rw[A8 l]; exact J x o l n m e,⟨xs,ys,F,by rw[A8 (AM e2 hd (by intro z; cases z))]; exact e2,d1.kp kk⟩,B,zs,by rw[A8 (AM q hd (by intro z; cases z))]; exact q,G.kp kk⟩
theorem G4.no(a:G4 d s f H H1 rs none):H1 f=some (.lst []):=by
 obtain⟨F,_,B,zs,q,z⟩:=a;cases z;exact q
theorem G4.has(a:G4 d s f H H1 rs fo)(h:HasL (some s) H n)(k:rs.length+m<=n):HasL (some s) H1 m:=fun l F=>by
 cases F;obtain⟨xs,e,z⟩:=h s rfl;obtain⟨G,⟨B,ys,q,e2,d1⟩,_⟩:=a;rw[e] at q;cases q;have:=d1.length;rw[y4] at this;exact⟨_,e2,by rw[yc]; lia⟩
theorem G4.fault(z:s≠f)(a:G4 d s f H H1 rs none)(J:Dt H1 y (Bl e)):H1 f=some (.lst [])/\G4 d s f H (upd H1 f (.lst ([]++[y]))) rs (some e):=by
 obtain⟨O,⟨q,ys,G,e2,d1⟩,F,zs,B,M⟩:=a;cases M;have k:Kp H1 (upd H1 f (.lst [y])):=Kp.set B;exact⟨B,fun x o l n m e=>by rw[A8 m]; exact O x o l n m e,⟨q,ys,G,by rw[y2m,A8 z]; exact e2,d1.kp k⟩,F,[y],by rw[y2m,A4],.cons (J.kp k) .nil⟩
def EH(n:Nat):Sp:=fun vs H Q _=>∃(v:V) (b:List D) (pv:V) (p:List Int) (st d s f:Addr) (c:Cnt) (g g':List Str),vs=[v,pv,.ref st]/\H st=some (.tup [.ref d,.ref s,.ref f])/\Dt H v (.tup (AU b))/\Dt H pv (AJ p)/\okB n b/\n<=3/\p.length+2*n<=90/\kbB g b=some g'/\H d=some (.dK (kvC c))/\KeyOk c/\Has c g/\s≠f/\HasL (some s) H ((evB p 0 b c).2.2.length+1)/\H f=some (.lst [])/\
 ∀(H':Hp),G4 d s f H H' (evB p 0 b c).2.2 (evB p 0 b c).1->H' d=some (.dK (kvC (evB p 0 b c).2.1))->Q .non H'
def LdI(H:Hp)(ab:Addr)(pv:V)(st d s f:Addr)(g':List Str)(b:List D)(p:List Int)(out:Out)(i:Nat)(σ:St)(G:Hp):Prop:=∃(q:Cnt) (z:List RI) (B:Option Ref) (x6 x7 x8 x9 x10:Option V),σ=[some (.ref ab),some pv,some (.ref st),some (.ref d),some (.ref s),some (.ref f),x6,x7,x8,x9,x10]/\G4 d s f H G z B/\G d=some (.dK (kvC q))/\KeyOk q/\(∀e,B=some e->out=(some e,q,z))/\(B=none->∃F,Has q F/\kbB F (b.drop i)=some g'/\out=AZ z (evB p i (b.drop i) q))
theorem dh{H Hn:Hp}{ab:Addr}{pv:V}{st d s f:Addr}{g' gi:List Str}{b:List D}{p:List Int}{out:Out}{i n:Nat}{B c':Cnt}{J rows':List RI}{fo':Option Ref}{e:D}{x6 x7 x8 x9 x10:Option V}(Z:b[i]?=some e)(F:kbB gi (b.drop i)=some g')(O:out=AZ J (evB p i (b.drop i) B))(hk:KeyOk B)(hh:Has B gi)(M:GL n e)
  (ev:evD (p++[(i:Int)]) e B=(fo',c',rows')) (G:G4 d s f H Hn (J++rows') fo') (hd:Hn d=some (.dK (kvC c'))):LdI H ab pv st d s f g' b p out (i+1) [some (.ref ab),some pv,some (.ref st),some (.ref d),some (.ref s),some (.ref f),x6,x7,x8,x9,x10] Hn:=by
 rw[F7 Z] at F O;obtain⟨q1,U,R⟩:=MX F;have q:=MT e n (p++[(i:Int)]) B M hk;have z:=MU e (p++[(i:Int)]) B gi q1 U hh;rw[ev] at q z;refine⟨c',J++rows',fo',x6,x7,x8,x9,x10,rfl,G,hd,q,fun u hu=>?_,fun hn=>?_⟩
 ·subst hu;rw[O,F5 ev];rfl
 ·subst hn;refine⟨q1,z rfl,R,?_⟩;rw[O,F6 ev];simp[AZ]
noncomputable def Bh(cond:Cnt->Rs×List RI)(body:Cnt->Out)(p:List Int)(k:Nat)(v:Int)(c:Cnt):Out:=if v=0 then(none,c,[]) else match k with
 |0=>(some ("long",p),c,[])
 |k+1=>match body c with
  |(some e,z,q)=>(some e,z,q)
  |(none,z,q)=>AZ q (Ad cond body p k z)
theorem S4{cond:Cnt->Rs×List RI}{body:Cnt->Out}(h:cond c=(.had v,r)):Ad cond body p k c=AZ r (Bh cond body p k v c):=by
 by_cases q:v=0
 ·subst q;rw[Ct h];simp[Bh,AZ]
 ·cases k with
  |zero=>rw[F4 h q]; simp[Bh,AZ,q]
  |succ k=>
   rcases hb:body c with⟨e,B,z⟩;cases e with
   |some e=>rw[EE h q hb]; simp[Bh,AZ,q,hb]
   |none=>rw[EF h q hb]; simp[Bh,AZ,q,hb]
theorem dj{cond:Cnt->Rs×List RI}{body:Cnt->Out}:Bh cond body p k 0 c=(none,c,[]):=by simp[Bh]
theorem dq{cond:Cnt->Rs×List RI}{body:Cnt->Out}(q:v≠0):Bh cond body p 0 v c=((some (("long" : Str),p),c,[]):Out):=by simp[Bh,q]
theorem S6{cond:Cnt->Rs×List RI}{body:Cnt->Out}(q:v≠0)(hb:body c=(some e,c1,r1)):Bh cond body p (k+1) v c=(some e,c1,r1):=by simp[Bh,q,hb]
theorem S7{cond:Cnt->Rs×List RI}{body:Cnt->Out}(q:v≠0)(hb:body c=(none,c1,r1)):Bh cond body p (k+1) v c=AZ r1 (Ad cond body p k c1):=by simp[Bh,q,hb]
theorem du{cond:Cnt->Rs×List RI}{body:Cnt->Out}(q:v≠0):(body c).2.2.length<=(Bh cond body p (k+1) v c).2.2.length:=by
 rcases hb:body c with⟨e,B,z⟩;cases e with
 |some e=>rw[S6 q hb]; exact yf _
 |none=>rw[S7 q hb]; simp[AZ]
abbrev cnd(t:T)(ph:List Int):Cnt->Rs×List RI:=fun c=>evT c t (ph++[0])
abbrev bod(q:List D)(ph:List Int):Cnt->Out:=fun c=>evB (ph++[1]) 0 q c
def WlJ(H:Hp)(ab:Addr)(pv:V)(st d s f:Addr)(x6 x7 x8:Option V)(J:List RI)(O:List Str)(t:T)(R:List D)(ph:List Int)(M:Nat)(out:Out)(U:Hp)(m:Nat)(σ:St)(F:Hp):Prop:=Kp U F/\∃(j:Nat) (q:Cnt) (G:Int) (B:List RI) (z:Option Ref),σ=[some (.ref ab),some pv,some (.ref st),some (.ref d),some (.ref s),some (.ref f),x6,x7,x8,some (.int G),some (.int j)]/\G4 d s f H F (J++B) z/\F d=some (.dK (kvC q))/\KeyOk q/\(∀u,z=some u->out=(some u,q,B))/\(z=none->Has q O/\j<=M/\out=AZ B (Bh (cnd t ph) (bod R ph) ph (M-j) G q))/\m=2*(M-j)+(if z.isNone then 1 else 0)
theorem S8{c:TT}{tb:TS}{D:Ends}{σ:St}{H:Hp}(h:∀B:TS,B=tb->Ge c B D σ H):Ge c tb D σ H:=h tb rfl
theorem eA{g:TG}{v:V}{σ:St}{H:Hp}{k:St->Hp->Prop}(h:∀N,N=k->g v σ H N):g v σ H k:=h k rfl
theorem eC{n:Nat} (F:Fun K "_law_do" "_law_do" Ap f fd) (b_enumerate:mg "enumerate" = none) (c_law_worth:Callee P w K mg base "_law_worth" ["_law_expr","_law_path","_law_state"] 7 (Cw 5)) (c_law_do:Callee P w K mg base "_law_do" ["_law_block_here","_law_path","_law_state"] (n+7) (EH n)):FnOk P w K mg base CX0 (n+8) f fd ["_law_block_here","_law_path","_law_state"] (EH (n+1)):=by
 refine F.ok sc_law_do (fun vs H Q E h=>?_) (fun jP A outer s H vs Q E hr h=>?_)
 ·obtain⟨v,b,pv,p,st,d,s,f,c,g,g',rfl,_⟩:=h;rfl
 obtain⟨v,b,pv,p,st,d,ss,ff,c,g,g',rfl,iP,hv,hp,ji,hn,jL,jq,hd,jo,hh,gY,hL,hf,q⟩:=h;obtain⟨ab,xs,rfl,i6,iZ⟩:=hv.tupI;obtain⟨jJ,jh,jK⟩:=hL ss rfl;have jf:xs.length=b.length:=by rw[iZ.length,Er]
 have gB:∀e,(evB p 0 b c).1=some e->e.1∈B6:=fun e he=>Cv b p 0 c e he;refine⟨_,(A6 (FI (A0 2 rfl GA) (BY (n:=3) rfl (Aa (AO (i:=3) sc_law_do.nd rfl aI) (Aa (AO (i:=4) sc_law_do.nd rfl aN) (Aa (AO (i:=5) sc_law_do.nd rfl aK) BP)))))
 (A6 (BD y0m rfl (KJ aH b_enumerate (A1 (A0 0 rfl aO) A2)) (BY (n:=2) rfl (Aa (AO (i:=6) sc_law_do.nd rfl aM) (Aa (AO (i:=7) sc_law_do.nd rfl aJ) BP)))
 (A6 (AN (i:=8) sc_law_do.nd rfl aL (AA Am (A0 1 rfl aR) (AI (A1 (A0 6 rfl aQ) A2))) (AF rfl))
 (A6 (AK (AC (Dh hr.units) (A0 5 rfl Eo) (Ab A2) (AE _)) (A7 (AG Bp)) AL)
 (A6 (AN (i:=9) sc_law_do.nd rfl Qh (AH c_law_worth hr (by lia) (A1 (CY (AC (gEq hr.units) (A9 ix_tup (A0 7 rfl C5) A3 (fun _ _=>rfl)) AD (AE _)) (A9 ix_tup (A0 7 rfl C5) A3 (fun _ _=>rfl)) (A9 ix_tup (A0 7 rfl C5) A3 (fun _ _=>rfl))) (A1 (AA Am (A0 8 rfl Fz) (AI (A1 A3 A2))) (A1 (A0 2 rfl GA) A2))) Qf Kx) (AF rfl))
 (A6 (AK (PW.pt (DY (AC (Fb hr.units) (A0 5 rfl Eo) (Ab A2) (AE _)) (EN (AC (gEq hr.units) (A9 ix_tup (A0 7 rfl C5) A3 (fun _ _=>rfl)) AD (AE _))))) (A7 (HY hr.units1 (A0 3 rfl aP) (A9 ix_tup (A0 7 rfl C5) A3 (fun _ _=>rfl)) (A0 9 rfl Ia) (AF rfl))) (A7 (AK (PW.pt (DY (AC (Fb hr.units) (A0 5 rfl Eo) (Ab A2) (AE _)) (EN (AC (gEq hr.units) (A9 ix_tup (A0 7 rfl C5) A3 (fun _ _=>rfl)) AD (AE _))))) (A7 (Az (AH c_law_do hr (by lia) (A1 (CY (AC HK (A0 9 rfl Ia) A3 (AE _)) (A9 ix_tup (A0 7 rfl C5) A3 (fun _ _=>rfl)) (A9 ix_tup (A0 7 rfl C5) A3 (fun _ _=>rfl))) (A1 (AA Am (A0 8 rfl Fz) (AI (A1 (CY (AC HK (A0 9 rfl Ia) A3 (AE _)) A3 A3) A2))) (A1 (A0 2 rfl GA) A2))) Qd Kv) (AF rfl))) AL)))
 (A6 (AN (i:=10) sc_law_do.nd rfl Qg A3 (AF rfl))
 (A7 (Mu y0m (PW.pt (DY (AC (gEq hr.units) (A9 ix_tup (A0 7 rfl C5) A3 (fun _ _=>rfl)) AD (AE _)) (DY (AC (Fb hr.units) (A0 5 rfl Eo) (Ab A2) (AE _)) (EN (AC HK (A0 9 rfl Ia) A3 (AE _))))))
 (A7 (AK (AC CO (A0 10 rfl Qi) (A9 ix_tup (A0 7 rfl C5) A3 (fun _ _=>rfl)) (AE _)) (A7 (Az (BQ y0a y0r y0q C9 (A0 5 rfl Eo) (A1 (AI (A1 AD (A1 (A0 8 rfl Fz) A2))) A2)) (AF rfl))) (A6 (Az (AH c_law_do hr (by lia) (A1 (A9 ix_tup (A0 7 rfl C5) A3 (fun _ _=>rfl)) (A1 (AA Am (A0 8 rfl Fz) (AI (A1 A3 A2))) (A1 (A0 2 rfl GA) A2))) Qd Kv) (AF rfl))
 (A6 (AN (i:=10) sc_law_do.nd rfl Qg (AA AY (A0 10 rfl Qi) A3) (AF rfl))
 (A7 (AK (AC (Fb hr.units) (A0 5 rfl Eo) (Ab A2) (AE _)) (A7 (AN (i:=9) sc_law_do.nd rfl Qh (AH c_law_worth hr (by lia) (A1 (A9 ix_tup (A0 7 rfl C5) A3 (fun _ _=>rfl)) (A1 (AA Am (A0 8 rfl Fz) (AI (A1 A3 A2))) (A1 (A0 2 rfl GA) A2))) Qf Kx) (AF rfl))) AL))))))))))))))
 (A7 (AG Bp)))),AB fun N1 e1=>?_⟩
 walk_at "a";refine⟨_,SqT.of iP,rfl,_,_,rfl,_,_,rfl,_,_,rfl,rfl,?_⟩;rw[e1];refine AB fun N2 e2=>?_;walk_at "a";have iQ:evB p 0 b c=AZ [] (evB p 0 b c):=rfl;have gO:∀Hc R rs fo,evB p 0 b c=(fo,R,rs)->G4 d ss ff H Hc rs fo->Hc d=some (.dK (kvC R))->Q .non Hc:=fun Hc R rs fo e G gx=>q Hc (by rw[e]; exact G) (by rw[e]; exact gx);refine⟨⟨_,SqT.of i6⟩,?_⟩;generalize hO:evB p 0 b c=out at hL gB iQ gO;refine KL (xs:=xs) (LdI H ab pv st d ss ff g' b p out) ?s ?l ?t ?d
 case s=>exact⟨c,[],none,_,_,_,_,_,rfl,(G3.same (Same.refl H) jh hf).g4,hd,jo,(fun e he=>by cases he),fun _=>⟨g,hh,jq,by rw[y2v]; exact hO.symm.trans rfl⟩⟩
 case l=>
  rintro i σ Hc _ ⟨R,rs,fo,_,_,_,_,_,rfl,G,_⟩;exact SqT.of (G.keep hd (by intro z w; cases w) (by intro z w; cases w) i6)
 case d=>
  rintro σ Hc ⟨R,rs,fo,_,_,_,_,_,rfl,G,gx,gu,hs,hn⟩;show N2 _ _;rw[e2];walk_at "a";refine gO Hc R rs fo ?_ G gx;cases fo with
  |some e=>exact hs e rfl
  |none=>
   obtain⟨gi,_,_,ho⟩:=hn rfl;rw[jf,List.drop_length,evB] at ho;rw[ho];simp[AZ]
 case t=>
  rintro i x σ Hc Tu hx ⟨R,rs,fo,_,_,_,_,_,rfl,G,gx,gu,hs,hn⟩ hT;obtain⟨e,gR,dx⟩:=ME iZ hx;have gw:=ji.2 e (yw gR);have iY:GL n e:=bo gw;have s2:=A5 hT (HO.tup [V.int i,x]);refine eA fun N3 e3=>?_;walk_at "a";refine⟨_,SqT.of A4,rfl,_,_,rfl,_,_,rfl,rfl,?_⟩;rw[e3];have G2:=G.then s2;have gP:=s2 _ _ gx;generalize upd Hc Tu (HO.tup [V.int i,x])=U at s2 G2 gP |-;clear s2 G gx hT;refine AB fun N4 e4=>?_;walk_at "a";refine⟨by decide,fun p1 h1=>?_⟩;have s3:=A5 h1 (HO.tup [V.int i]);have iJ:=G2.kp hd;refine At ((hp.kp iJ).kp s3.kp) Au (by simp; lia) fun z H1 s4 dz=>?_;have ir:=s3.trans s4;have G3:=G2.then ir;have ij:=ir _ _ gP;clear ir s3 s4 iJ G2 gP;rw[e4];refine AB fun N5 e5=>?_;walk_at "a";refine⟨yo _,fun l1 jm=>?_⟩;have s5:=A5 jm (HO.lst []);have ie:(upd H1 l1 (HO.lst [])) l1=some (.lst []):=A4;have G5:=G3.then s5;have fY:=s5 _ _ ij;have gh:=dz.kp s5.kp;generalize upd H1 l1 (HO.lst [])=U1 at s5 ie G5 fY gh |-;clear s5 G3 ij dz;obtain⟨_,_,_,zs,hz,gT⟩:=id G5;refine⟨_,Bm hz gT (fun e he=>gB e (by rw[hs e he])) ie,?_⟩;cases fo with
  |some e0=>
   rw[if_pos (by rfl)];exact gO _ _ _ _ (hs e0 rfl) G5 fY
  |none=>
   rw[if_neg (by decide)];obtain⟨gi,gK,gJ,gp⟩:=hn rfl;have gG:=fun fo' c' rows' Hn x6 x7 x8 x9 x10=>dh (H:=H) (Hn:=Hn) (ab:=ab) (pv:=pv) (st:=st) (d:=d) (s:=ss) (f:=ff) (out:=out) (fo':=fo') (c':=c') (rows':=rows') (x6:=x6) (x7:=x7) (x8:=x8) (x9:=x9) (x10:=x10) gR gJ gp gu gK iY;have jc:=G5.kp hd;have jE:=dx.kp jc;have gj:=G5.keep hd (by intro z w; cases w) (by intro z w; cases w) iP;have jv:HasL (some ss) U1 ((evD (p++[(i:Int)]) e R).2.2.length+1):=G5.has hL (by
    rw[F7 gR] at gp
    have:=MW p i e (b.drop (i+1)) R
    rw[gp,AZ,yc]
    lia)
   have jN:rs.length+(evD (p++[(i:Int)]) e R).2.2.length<=out.2.2.length:=by
    rw[F7 gR] at gp;have:=MW p i e (b.drop (i+1)) R;rw[gp,AZ,yc];lia
   obtain⟨q1,gF,_⟩:=MX (by rw[<- F7 gR]; exact gJ);have jG:(p++[(i:Int)]).length=p.length+1:=by simp
   clear hn hs gJ gp;rw[e5];refine AB fun N6 e6=>?_;walk_at "a";have wc:∀(t:T) (xt:V) (fw:Option V),Dt U1 xt t.enc->t.ok gi 5->(evT R t (p++[(i:Int)]++[0])).2.length<=(evD (p++[(i:Int)]) e R).2.2.length->(∀(v:Int) (H':Hp),G4 d ss ff H H' (rs++(evT R t (p++[(i:Int)]++[0])).2) (evT R t (p++[(i:Int)]++[0])).1.out->H' d=some (.dK (kvC R))->(∀v0,(evT R t (p++[(i:Int)]++[0])).1=.had v0->v=v0)->Kp U1 H'->N6 [some (V.ref ab),some pv,some (V.ref st),some (V.ref d),some (V.ref ss),some (V.ref ff),some (V.int i),some x,some z,some (.int v),fw] H')->
     (1<=ym/\∀(p1:Addr),U1 p1=none->C0 K z (V.ref p1) (upd U1 p1 (HO.tup [V.int 0])) fun x_5 H1=>Cw 5 [xt,x_5,V.ref st] H1 (fun x_6 H1=>N6 [some (V.ref ab),some pv,some (V.ref st),some (V.ref d),some (V.ref ss),some (V.ref ff),some (V.int i),some x,some z,some x_6,fw] H1) E0):=by
    intro t xt fw dt gn ib kk
    refine⟨by decide,fun p1 h1=>?_⟩
    have v1:=A5 h1 (HO.tup [V.int 0])
    refine At (gh.kp v1.kp) Au (by simp; lia) fun z2 H2 v2 gU=>?_
    have J:=v1.trans v2
    have G6:=G5.then J
    refine⟨xt,t,z2,_,st,d,ss,ff,R,gi,rfl,J _ _ gj,dt.kp J.kp,gU,gn,by decide,by simp; lia,J _ _ fY,gK,gY,(jv.same J).mono (by lia),G6.no,fun v H3 g3 hv=>?_⟩
    have gQ:=g3.keep (by intro z w; cases w) (J _ _ fY)
    exact kk v H3 (G6.trans g3.g4 (J _ _ fY)) gQ hv (J.kp.trans g3.kp)
   obtain⟨ad,iw,rfl,had,iE⟩:=bp jE;have fg:∀e0,(none:Option Ref)=some e0->e0.1∈B6:=fun e0 h=>by cases h
   have jQ:∀Hn iI fo',G4 d ss ff U1 Hn iI fo'->Hn ad=some (.tup (V.str e.kind::iw)):=fun Hn iI fo' g=>g.keep fY (by intro z w; cases w) (by intro z w; cases w) had;have fc:∀(v:Int) (H6:Hp) (fw:Option V) (wr:List RI) (u:Ref),G4 d ss ff H H6 (rs++wr) (some u)->H6 d=some (.dK (kvC R))->H6 ad=some (.tup (V.str e.kind::iw))->u.1∈B6->evD (p++[(i:Int)]) e R=(some u,R,wr)->
     N6 [some (V.ref ab),some pv,some (V.ref st),some (V.ref d),some (V.ref ss),some (V.ref ff),some (V.int i),some (V.ref ad),some z,some (.int v),fw] H6:=by
    intro v H6 fw wr u G6 fX O ix ev
    rw[e6]
    refine AB fun N7 e7=>CH fun Y1 Z1 eY eZ=>?_
    walk_at "a"
    refine⟨yo _,fun l6 ge=>?_⟩
    have v6:=A5 ge (HO.lst [])
    have G7:=G6.then v6
    obtain⟨_,_,_,io,fe,fq⟩:=id G7
    refine⟨_,Bm fe fq (fun e0 he=>by cases he; exact ix) A4,?_⟩
    rw[if_neg (by simp),eZ]
    have ft:=v6 _ _ fX
    have M:=v6 _ _ O
    generalize upd H6 l6 (HO.lst [])=U6 at G7 ft M fe fq |-
    refine CH fun Y2 Z2 iD g9=>?_
    walk_at "a"
    refine⟨yo _,fun l7 gH=>?_⟩
    have v7:=A5 gH (HO.lst [])
    refine⟨_,Bm (v7 _ _ fe) (fq.kp v7.kp) (fun e0 he=>by cases he; exact ix) A4,?_⟩
    rw[if_neg (by simp),g9]
    have G8:=G7.then v7
    have fV:=v7 _ _ ft
    have fz:=v7 _ _ M
    have iM:=v7 _ _ fe
    have i7:=fq.kp v7.kp
    generalize upd U6 l7 (HO.lst [])=U7 at G8 fV fz iM i7 |-
    show N7 _ _
    rw[e7]
    refine AB fun N8 e8=>?_
    walk_at "a"
    rw[e8]
    refine S8 fun B eB=>?_
    refine⟨fun m fZ H'=>m=0/\fZ=[some (V.ref ab),some pv,some (V.ref st),some (V.ref d),some (V.ref ss),some (V.ref ff),some (V.int i),some (V.ref ad),some z,some (.int v),some (.int 0)]/\H'=U7,⟨0,rfl,rfl,rfl⟩,?_⟩
    rintro m fZ H' ⟨rfl,rfl,rfl⟩
    walk_at "a"
    refine⟨_,SqT.of fz,_,AW,_,Ak,?_⟩
    split
    ·refine⟨yo _,fun l8 jl=>?_⟩
     have v8:=A5 jl (HO.lst [])
     refine⟨_,Bm (v8 _ _ iM) (i7.kp v8.kp) (fun e0 he=>by cases he; exact ix) A4,?_⟩
     rw[if_neg (by simp)]
     exact gG _ _ _ _ _ _ _ _ _ ev (G8.then v8) (v8 _ _ fV)
    ·exact gG _ _ _ _ _ _ _ _ _ ev G8 fV
   have bc:∀(bb:List D) (xb:V) (k:Int) (Hs:Hp) (rr:List RI) (cs:Cnt) (gq:List Str) (KK:Hp->Prop),Dt Hs xb (.tup (AU bb))->okB n bb->kbB gi bb=some gq->G4 d ss ff H Hs (rs++rr) none->Hs d=some (.dK (kvC cs))->KeyOk cs->Has cs gi->rr.length+(evB (p++[(i:Int)]++[k]) 0 bb cs).2.2.length<=(evD (p++[(i:Int)]) e R).2.2.length->Hs st=some (.tup [.ref d,.ref ss,.ref ff])->Dt Hs z (AJ (p++[(i:Int)]))->
     (∀H',G4 d ss ff H H' (rs++(rr++(evB (p++[(i:Int)]++[k]) 0 bb cs).2.2)) (evB (p++[(i:Int)]++[k]) 0 bb cs).1->H' d=some (.dK (kvC (evB (p++[(i:Int)]++[k]) 0 bb cs).2.1))->Kp Hs H'->KK H')->
     (1<=ym/\∀(p1:Addr),Hs p1=none->C0 K z (V.ref p1) (upd Hs p1 (HO.tup [V.int k])) fun x_5 H1=>EH n [xb,x_5,V.ref st] H1 (fun _ H1=>KK H1) E0):=by
    intro bb xb k Hs rr cs gq KK jD jb jp Gs gf iT iA ib gC gT kk
    refine⟨by decide,fun p1 h1=>?_⟩
    have v1:=A5 h1 (HO.tup [V.int k])
    refine At (gT.kp v1.kp) Au (by simp; lia) fun z2 H2 v2 gU=>?_
    have J:=v1.trans v2
    have Gt:=Gs.then J
    refine⟨xb,bb,z2,_,st,d,ss,ff,cs,gi,gq,rfl,J _ _ gC,jD.kp J.kp,gU,jb,by lia,by simp; lia,jp,J _ _ gf,iT,iA,gY,Gt.has hL (by rw[yc]; lia),Gt.no,fun H3 g3 gQ=>?_⟩
    have:=Gt.trans g3 (J _ _ gf)
    rw[yn] at this
    exact kk H3 this gQ (J.kp.trans (g3.kp (J _ _ gf)))
   have ja:∀(t:T) (xt:V) (Hs:Hp) (rr:List RI) (cs:Cnt) (KK:V->Hp->Prop),Dt Hs xt t.enc->t.ok gi 5->rr.length+(evT cs t (p++[(i:Int)]++[0])).2.length<=(evD (p++[(i:Int)]) e R).2.2.length->G4 d ss ff H Hs (rs++rr) none->Hs d=some (.dK (kvC cs))->Has cs gi->Hs st=some (.tup [.ref d,.ref ss,.ref ff])->Dt Hs z (AJ (p++[(i:Int)]))->
     (∀(v:Int) (H':Hp),G4 d ss ff H H' (rs++(rr++(evT cs t (p++[(i:Int)]++[0])).2)) (evT cs t (p++[(i:Int)]++[0])).1.out->H' d=some (.dK (kvC cs))->(∀v0,(evT cs t (p++[(i:Int)]++[0])).1=.had v0->v=v0)->Kp Hs H'->KK (.int v) H')->
     (1<=ym/\∀(p1:Addr),Hs p1=none->C0 K z (V.ref p1) (upd Hs p1 (HO.tup [V.int 0])) fun x_5 H1=>Cw 5 [xt,x_5,V.ref st] H1 (fun x_6 H1=>KK x_6 H1) E0):=by
    intro t xt Hs rr cs KK dt gn ib Gs gf iA gC gT kk
    refine⟨by decide,fun p1 h1=>?_⟩
    have v1:=A5 h1 (HO.tup [V.int 0])
    refine At (gT.kp v1.kp) Au (by simp; lia) fun z2 H2 v2 gU=>?_
    have J:=v1.trans v2
    have Gt:=Gs.then J
    refine⟨xt,t,z2,_,st,d,ss,ff,cs,gi,rfl,J _ _ gC,dt.kp J.kp,gU,gn,by decide,by simp; lia,J _ _ gf,iA,gY,Gt.has hL (by rw[yc]; lia),Gt.no,fun v H3 g3 hv=>?_⟩
    have gQ:=g3.keep (by intro z w; cases w) (J _ _ gf)
    have:=Gt.trans g3.g4 (J _ _ gf)
    rw[yn] at this
    exact kk v H3 this gQ hv (J.kp.trans g3.kp)
   have skip:∀(v:Int) (fw:Option V) (B:TS) (Hn:Hp) (fo':Option Ref) (c':Cnt) (rows':List RI),e.kind≠"while"->Hn ad=some (.tup (V.str e.kind::iw))->evD (p++[(i:Int)]) e R=(fo',c',rows')->G4 d ss ff H Hn (rs++rows') fo'->Hn d=some (.dK (kvC c'))->
     Ge (EM (D0 (tOp (qEq K) (tOp (CM K) (B4 7) (tC (V.int 0))) (tC (V.str (Str.ofString "while"))))) (EM (D0 (tOp (Fa K) (B4 5) (Db Bz))) (D0 (tOp (rI0 fun i j=>V.bl !decide (i=j)) (B4 9) (tC (V.int 0)))))) B
      {nx:=LdI H ab pv st d ss ff g' b p out (i+1),rt:=Q,ct:=LdI H ab pv st d ss ff g' b p out (i+1),bk:=N2} [some (V.ref ab),some pv,some (V.ref st),some (V.ref d),some (V.ref ss),some (V.ref ff),some (V.int i),some (V.ref ad),some z,some (.int v),some (.int 0)] Hn:=by
    intro v fw B Hn fo' c' rows' hk i5 ev Gn ju
    refine⟨fun m fZ H'=>m=0/\fZ=[some (V.ref ab),some pv,some (V.ref st),some (V.ref d),some (V.ref ss),some (V.ref ff),some (V.int i),some (V.ref ad),some z,some (.int v),some (.int 0)]/\H'=Hn,⟨0,rfl,rfl,rfl⟩,?_⟩
    rintro m fZ H' ⟨rfl,rfl,rfl⟩
    walk_at "a"
    refine⟨_,SqT.of i5,_,AW,_,Ak,?_⟩
    rw[if_neg (by simpa using hk)]
    exact gG _ _ _ _ _ _ _ _ _ ev Gn ju
   cases e with
   |set y t=>
    rcases iE with _|⟨e0,_|⟨gy,_|⟨gW,_|_⟩⟩⟩;cases gy;have kS:decide ((D.set y t).kind=("set" : Str))=true:=decide_eq_true rfl;refine⟨_,rfl,_,SqT.of had,_,AW,_,Ak,?_⟩;rw[if_pos kS];have gt:t.knows gi=true:=by
     rw[kbD] at gF;split at gF
     ·assumption
     ·cases gF
    refine⟨_,rfl,_,SqT.of had,_,AV (j:=2) rfl,wc t _ _ gW (Cq gw.2 gt) (by rw[Iq]; exact yf _) fun v H6 G6 fX hv gb=>?_⟩;have O:=gb.1 _ _ had;rcases Z:evT R t (p++[(i:Int)]++[0]) with⟨res,wr⟩;rw[Z] at G6 hv;cases res with
    |ref u q0=>exact fc v H6 _ wr (u,q0) G6 fX O (CW t _ Z) (F1 Z)
    |had v0=>
     have gS:=hv v0 rfl;subst gS;rw[e6];refine AB fun N7 e7=>CH fun Y1 Z1 eY eZ=>?_;walk_at "a";refine⟨yo _,fun l6 ge=>?_⟩;have v6:=A5 ge (HO.lst []);have G7:=G6.then v6;obtain⟨_,_,_,io,fe,fq⟩:=id G7;refine⟨_,Bm fe fq fg A4,?_⟩;rw[if_pos (by rfl)];refine⟨_,SqT.of (v6 _ _ O),_,AW,_,Ak,?_⟩;rw[if_pos kS,eY];have ft:=v6 _ _ fX;have M:=v6 _ _ O;generalize upd H6 l6 (HO.lst [])=U6 at G7 ft M |-;walk_at "a";refine⟨_,SqT.of M,_,AV (j:=1) rfl,_,DPut.k (k:=Sum.inr y) ft ?_,?_⟩
     ·unfold kvC;rw[y4];exact y11 gu.len (by decide)
     rw[Im];show N7 _ _;rw[e7];refine AB fun N8 e8=>?_;walk_at "a";rw[e8];exact skip v none _ _ none (BN R y v) wr (show ¬ ("set" : Str) = "while" by decide+kernel) (by rw[A8 (AM M ft (by intro z; cases z))]; exact M) (F2 Z) (G7.put ft) A4
   |ite t b1 c1=>
    rcases iE with _|⟨e0,_|⟨gy,_|⟨gW,_|⟨iF,_|_⟩⟩⟩⟩;have kS:¬ decide ((D.ite t b1 c1).kind=("set" : Str))=true:=by rw[decide_eq_true_eq]; exact show ¬ ("if" : Str) = "set" by decide+kernel
    have kI:decide ((D.ite t b1 c1).kind=("if" : Str))=true:=decide_eq_true rfl;refine⟨_,rfl,_,SqT.of had,_,AW,_,Ak,?_⟩;rw[if_neg kS];obtain⟨gt,⟨g1,gL⟩,g2,js⟩:=Ir gF;refine⟨_,rfl,_,SqT.of had,_,AV (j:=1) rfl,wc t _ _ gy (Cq gw.1 gt) (RZ R t b1 c1 _) fun v H6 G6 fX hv gb=>?_⟩;have O:=gb.1 _ _ had;have iO:=gb.1 _ _ gj;rcases Z:evT R t (p++[(i:Int)]++[0]) with⟨res,wr⟩;rw[Z] at G6 hv;cases res with
    |ref u q0=>exact fc v H6 _ wr (u,q0) G6 fX O (CW t _ Z) (DR Z)
    |had v0=>
     have gS:=hv v0 rfl;subst gS;rw[e6];refine AB fun N7 e7=>CH fun Y1 Z1 eY eZ=>?_;walk_at "a";refine⟨yo _,fun l6 ge=>?_⟩;have v6:=A5 ge (HO.lst []);have G7:=G6.then v6;obtain⟨_,_,_,io,fe,fq⟩:=id G7;refine⟨_,Bm fe fq fg A4,?_⟩;rw[if_pos (by rfl)];refine⟨_,SqT.of (v6 _ _ O),_,AW,_,Ak,?_⟩;rw[if_neg kS,eZ];have ft:=v6 _ _ fX;have M:=v6 _ _ O;have hZ:=v6 _ _ iO;have gA:=v6.kp;generalize upd H6 l6 (HO.lst [])=U6 at G7 ft M hZ fe fq gA |-;refine CH fun Y2 Z2 iD g9=>?_;walk_at "a";refine⟨yo _,fun l7 gH=>?_⟩;have v7:=A5 gH (HO.lst []);refine⟨_,Bm (v7 _ _ fe) (fq.kp v7.kp) fg A4,?_⟩;rw[if_pos (by rfl)];refine⟨_,SqT.of (v7 _ _ M),_,AW,_,Ak,?_⟩;rw[if_pos kI,iD];have G8:=G7.then v7;have fV:=v7 _ _ ft;have fz:=v7 _ _ M;have gD:=v7 _ _ hZ;have k8:Kp U1 (upd U6 l7 (HO.lst [])):=gb.trans (gA.trans v7.kp);generalize upd U6 l7 (HO.lst [])=U7 at G8 fV fz gD k8 |-;walk_at "a";have hG:∀(H9:Hp) (fw:Option V) (fo':Option Ref) (c':Cnt) (rows':List RI),Kp U7 H9->evD (p++[(i:Int)]) (.ite t b1 c1) R=(fo',c',rows')->G4 d ss ff H H9 (rs++rows') fo'->H9 d=some (.dK (kvC c'))->N7 [some (V.ref ab),some pv,some (V.ref st),some (V.ref d),some (V.ref ss),some (V.ref ff),some (V.int i),some (V.ref ad),some z,some (V.int v),fw] H9:=by
      intro H9 fw fo' c' rows' k9 ev G9 fu;rw[e7];refine AB fun N8 e8=>?_;walk_at "a";rw[e8];exact skip v none _ _ fo' c' rows' (show ¬ ("if" : Str) = "while" by decide+kernel) (k9.1 _ _ fz) ev G9 fu
     by_cases fh:v=0
     ·rw[if_neg (by simp[fh])];refine⟨_,SqT.of fz,_,AV (j:=3) rfl,?_⟩;rw[if_neg (by simp[fh])];subst fh;have ev:=DT (b:=b1) (b2:=c1) Z;exact bc c1 _ 2 U7 wr R g2 _ (iF.kp k8) gw.2.2 js G8 fV gu gK (by rw[ev]; simp) gD (gh.kp k8) fun H9 G9 fu k9=>hG H9 _ _ _ _ k9 ev G9 fu
     ·rw[if_pos (by simp[fh])];refine⟨_,SqT.of fz,_,AV (j:=2) rfl,?_⟩;rw[if_pos (by simp[fh])];have ev:=DS (b:=b1) (b2:=c1) Z fh;exact bc b1 _ 1 U7 wr R g1 _ (gW.kp k8) gw.2.1 gL G8 fV gu gK (by rw[ev]; simp) gD (gh.kp k8) fun H9 G9 fu k9=>hG H9 _ _ _ _ k9 ev G9 fu
   |whl t m b1=>
    rcases iE with _|⟨e0,_|⟨gy,_|⟨gW,_|⟨iF,_|_⟩⟩⟩⟩;cases gW;have kS:¬ decide ((D.whl t m b1).kind=("set" : Str))=true:=by rw[decide_eq_true_eq]; exact show ¬ ("while" : Str) = "set" by decide+kernel
    have kI:¬ decide ((D.whl t m b1).kind=("if" : Str))=true:=by rw[decide_eq_true_eq]; exact show ¬ ("while" : Str) = "if" by decide+kernel
    have kW:decide ((D.whl t m b1).kind=("while" : Str))=true:=decide_eq_true rfl;refine⟨_,rfl,_,SqT.of had,_,AW,_,Ak,?_⟩;rw[if_neg kS];obtain⟨gt,_,g1,gL⟩:=MS gF;obtain⟨gn,jM,jH,iR⟩:=gw;have gM:evD (p++[(i:Int)]) (.whl t m b1) R=Ad (cnd t (p++[(i:Int)])) (bod b1 (p++[(i:Int)])) (p++[(i:Int)]) m.toNat R:=by rw[evD]
    have l1:=MV (cnd t (p++[(i:Int)])) (bod b1 (p++[(i:Int)])) (p++[(i:Int)]) m.toNat R;refine⟨_,rfl,_,SqT.of had,_,AV (j:=1) rfl,wc t _ _ gy (Cq gn gt) (by rw[gM]; exact l1) fun v H6 G6 fX hv gb=>?_⟩;have O:=gb.1 _ _ had;rcases Z:evT R t (p++[(i:Int)]++[0]) with⟨res,wr⟩;rw[Z] at G6 hv;cases res with
    |ref u q0=>exact fc v H6 _ wr (u,q0) G6 fX O (CW t _ Z) (by rw[gM]; exact CV (cond:=cnd t (p++[(i:Int)])) Z)
    |had v0=>
     have gS:=hv v0 rfl;subst gS;rw[e6];refine AB fun N7 e7=>CH fun Y1 Z1 eY eZ=>?_;walk_at "a";refine⟨yo _,fun l6 ge=>?_⟩;have v6:=A5 ge (HO.lst []);have G7:=G6.then v6;obtain⟨_,_,_,io,fe,fq⟩:=id G7;refine⟨_,Bm fe fq fg A4,?_⟩;rw[if_pos (by rfl)];refine⟨_,SqT.of (v6 _ _ O),_,AW,_,Ak,?_⟩;rw[if_neg kS,eZ];have ft:=v6 _ _ fX;have M:=v6 _ _ O;have gA:=v6.kp;generalize upd H6 l6 (HO.lst [])=U6 at G7 ft M fe fq gA |-;refine CH fun Y2 Z2 iD g9=>?_;walk_at "a";refine⟨yo _,fun l7 gH=>?_⟩;have v7:=A5 gH (HO.lst []);refine⟨_,Bm (v7 _ _ fe) (fq.kp v7.kp) fg A4,?_⟩;rw[if_pos (by rfl)];refine⟨_,SqT.of (v7 _ _ M),_,AW,_,Ak,?_⟩;rw[if_neg kI,g9];have G8:=G7.then v7;have fV:=v7 _ _ ft;have k8:Kp U1 (upd U6 l7 (HO.lst [])):=gb.trans (gA.trans v7.kp);generalize upd U6 l7 (HO.lst [])=U7 at G8 fV k8 |-;show N7 _ _;rw[e7];refine AB fun N8 e8=>?_;walk_at "a";rw[e8];refine S8 fun B eB=>?_;have jg:∀fj cj rj,(∀u,fj=some u->evD (p++[(i:Int)]) (.whl t m b1) R=(some u,cj,rj))->∀e0:Ref,fj=some e0->e0.1∈B6:=fun fj cj rj h e0 he=>Rp _ _ _ e0 (by rw[h e0 he]);refine⟨WlJ H ab pv st d ss ff (some (V.int i)) (some (V.ref ad)) (some z) rs gi t b1 (p++[(i:Int)]) m.toNat (evD (p++[(i:Int)]) (.whl t m b1) R) U1,⟨2*m.toNat+1,k8,0,R,v,wr,none,rfl,G8,fV,gu,(fun u hu=>by cases hu),fun _=>⟨gK,yo _,by rw[gM,y41]; exact S4 Z⟩,by simp⟩,?_⟩;rintro mm fZ Hw ⟨kw,j,cj,vj,rj,fj,rfl,Gw,jt,iz,gE,iy,rfl⟩;have i4:=kw.1 _ _ had;walk_at "a";refine⟨_,SqT.of i4,_,AW,_,Ak,?_⟩;rw[if_pos kW];refine⟨yo _,fun l9 jk=>?_⟩;have v9:=A5 jk (HO.lst []);have G9:=Gw.then v9;have fu:=v9 _ _ jt;have k9:=kw.trans v9.kp;have ic:(upd Hw l9 (HO.lst [])) l9=some (.lst []):=A4;generalize upd Hw l9 (HO.lst [])=U9 at G9 fu k9 ic |-;obtain⟨_,_,_,jI,je,jC⟩:=id G9;refine⟨_,Bm je jC (jg fj cj rj gE) ic,?_⟩;cases fj with
     |some u=>
      rw[if_neg (by simp)];exact gG _ _ _ _ _ _ _ _ _ (gE u rfl) G9 fu
     |none=>
      rw[if_pos (by rfl)];obtain⟨iW,jO,fk⟩:=iy rfl;by_cases fh:vj=0
      ·rw[if_neg (by simp[fh])];subst fh;rw[dj] at fk;exact gG none cj rj _ _ _ _ _ _ (by rw[fk]; simp[AZ]) G9 fu
      rw[if_pos (by simp[fh])];have im:=k9.1 _ _ had;refine⟨fun fZ H'=>∃m',m'<2*(m.toNat-j)+1/\WlJ H ab pv st d ss ff (some (V.int i)) (some (V.ref ad)) (some z) rs gi t b1 (p++[(i:Int)]) m.toNat (evD (p++[(i:Int)]) (.whl t m b1) R) U1 m' fZ H',fun _ _ h=>h,?_⟩;rw[eB];refine CH fun Y3 Z3 jz jx=>?_;walk_at "a";refine⟨_,SqT.of im,_,AV (j:=2) rfl,_,rfl,?_⟩;by_cases iU:(j:Int)=m
      ·rw[if_pos iU,jz];walk_at "a";have hM:m.toNat-j=0:=by lia
       rw[hM,dq fh] at fk;refine⟨.inl ⟨rfl,_,SqL.of G9.no⟩,by decide,fun p2 h2=>?_⟩;have gz:=A5 h2 (HO.tup [V.str "long",z]);have dy:Dt (upd U9 p2 (HO.tup [V.str "long",z])) (.ref p2) (Bl (("long" : Str),p++[(i:Int)])):=.tup A4 (.cons (.str _) (.cons ((gh.kp k9).kp gz.kp) .nil));obtain⟨iB,iH⟩:=(G9.then gz).fault gY dy;refine⟨[],iB,by decide,0,by lia,k9.trans (gz.kp.trans (Kp.set iB)),j,cj,vj,rj,some (("long" : Str),p++[(i:Int)]),rfl,iH,?_,iz,fun u hu=>?_,(fun hn=>by cases hn),by simp[hM]⟩
       ·rw[A8 (AM (gz _ _ fu) iB (by intro z; cases z))];exact gz _ _ fu
       ·cases hu;rw[fk];simp[AZ]
      ·rw[if_neg iU,jx];obtain⟨k',jr⟩:∃k',m.toNat-j=k'+1:=⟨m.toNat-j-1,by lia⟩;rw[jr] at fk;have jj:=du (cond:=cnd t (p++[(i:Int)])) (body:=bod b1 (p++[(i:Int)])) (p:=p++[(i:Int)]) (k:=k') (c:=cj) fh;refine AB fun jS jB=>?_;walk_at "a";refine⟨_,SqT.of im,_,AV (j:=3) rfl,?_⟩;refine bc b1 _ 1 U9 rj cj g1 _ (iF.kp k9) iR gL G9 fu iz iW (by rw[fk,AZ,yc]; exact y5b jj _) (k9.1 _ _ gj) (gh.kp k9) fun i9 iH i3 jd=>?_;have gk:=Cs b1 n (p++[(i:Int)]++[1]) 0 cj (CI iR) iz;have ig:=F3 b1 (p++[(i:Int)]++[1]) 0 cj gi g1 gL iW;have iK:=k9.trans jd;rw[jB];refine AB fun jR jA=>?_;walk_at "a";rw[jA];refine CH fun Y4 Z4 jy jw=>?_;walk_at "a";refine⟨yo _,fun iu iS=>?_⟩;have iq:=A5 iS (HO.lst []);have gX:=iH.then iq;have gm:=iq _ _ i3;have gc:=iK.trans iq.kp;have gI:(upd i9 iu (HO.lst [])) iu=some (.lst []):=A4;generalize upd i9 iu (HO.lst [])=U11 at gX gm gc gI |-;rcases iC:evB (p++[(i:Int)]++[1]) 0 b1 cj with⟨o1,c1,r1⟩;rw[iC] at gX gm gk ig;have il:bod b1 (p++[(i:Int)]) cj=(o1,c1,r1):=iC;obtain⟨_,_,_,jF,iN,i8⟩:=id gX;refine⟨_,Bm iN i8 (fun e0 he=>Cv b1 _ 0 cj e0 (by rw[iC]; exact he)) gI,?_⟩;have iV:((j:Int)+1)=((j+1:Nat):Int):=by simp
       have gZ:m.toNat-(j+1)=k':=by lia
       cases o1 with
       |some u=>
        rw[if_neg (by simp),jw];rw[S6 fh il] at fk;rw[iV];refine⟨2*k',by lia,gc,j+1,c1,vj,rj++r1,some u,rfl,gX,gm,gk,fun u' hu=>?_,(fun hn=>by cases hn),by simp[gZ]⟩;cases hu;rw[fk];rfl
       |none=>
        rw[if_pos (by rfl),jy];rw[S7 fh il] at fk;have iX:=(ig rfl).sub (F0 b1 gi g1 gL);walk_at "a";refine⟨_,SqT.of (gc.1 _ _ had),_,AV (j:=1) rfl,?_⟩;have l2:=MV (cnd t (p++[(i:Int)])) (bod b1 (p++[(i:Int)])) (p++[(i:Int)]) k' c1;refine ja t _ U11 (rj++r1) c1 _ (gy.kp gc) (Cq gn gt) (by rw[fk]; simp only[AZ,yc]; have:(evT c1 t (p++[(i:Int)]++[0])).2.length<=_:=l2; lia) gX gm iX (gc.1 _ _ gj) (gh.kp gc) fun J jT iG ik hX iL=>?_;rw[iV];rcases ii:evT c1 t (p++[(i:Int)]++[0]) with⟨hJ,ip⟩;rw[ii] at iG hX;have gN:cnd t (p++[(i:Int)]) c1=(hJ,ip):=ii;cases hJ with
        |ref u q0=>
         rw[CV gN] at fk;refine⟨2*k',by lia,gc.trans iL,j+1,c1,J,rj++r1++ip,some (u,q0),rfl,iG,ik,gk,fun u' hu=>?_,(fun hn=>by cases hn),by simp[gZ]⟩;cases hu;rw[fk];simp[AZ]
        |had w0=>
         have:=hX w0 rfl;subst this;rw[S4 gN] at fk;refine⟨2*k'+1,by lia,gc.trans iL,j+1,c1,J,rj++r1++ip,none,rfl,iG,ik,gk,(fun u' hu=>by cases hu),fun _=>⟨iX,by lia,?_⟩,by simp[gZ]⟩;rw[fk,gZ];simp[AZ]
theorem S9:∀(rows:List Rw) (ws:List Int) (c:Cnt),((rows.zip ws).map fun q=>(q.1.1,q.2)).foldl (fun k r=>An k (Sum.inr r.1) (V.int r.2)) (kvC c)=kvC (stB c rows ws)
 |[],ws,c=>by simp[stB]
 |_::_,[],c=>by simp[stB]
 |r::rows,w::ws,c=>by
  rw[y1t,yj,List.foldl_cons,Im,stB];exact S9 rows ws _
def ZwI(U:Hp)(rows:List Rw)(ws:List Int)(i:Nat)(ys:List V)(z:St)(H':Hp):Prop:=Same U H'/\(∃t u,z=[t,u])/\DtA H' ys ((((rows.zip ws).take i).map fun q=>(q.1.1,q.2)).map D7)/\ys.length<=i
theorem eE{rows:List Rw}{ws:List Int}{i:Nat}{r:Rw}{w:Int}(h1:rows[i]?=some r)(h2:ws[i]?=some w):(rows.zip ws).take (i+1)=(rows.zip ws).take i++[(r,w)]:=by
 refine Ax ?_;rw[List.getElem?_zip_eq_some];exact⟨h1,h2⟩
def SA:Sp:=fun vs H Q _=>∃(z q:V) (rows:List Rw) (b:List D) (ws:List Int) (g':List Str),vs=[z,q]/\Dt H z (.tup [.tup (rows.map BM),.tup (AU b)])/\Dt H q (AJ ws)/\okRows rows/\Fits rows ws/\okB 3 b/\kbB (rows.map (·.1)) b=some g'/\(evP rows b ws).2.2.length+1<ym/\
 ∀(r l:Addr) (tv:V) (ys:List V) (H':Hp),Same H H'->H' r=some (.tup [tv,.ref l])->Cu (evP rows b ws) H' tv->H' l=some (.lst ys)->DtA H' ys ((evP rows b ws).2.2.map C7)->Q (.ref r) H'
def eF:(pool.all fun x=>pool.all fun y=>!(decide (DO x<=DO y)) || decide (x=y) || decide (B3 x<B3 y))=true:=by decide+kernel
theorem eG(hx:x∈pool)(hy:y∈pool)(h:DO x<=DO y)(n:x≠y):B3 x<B3 y:=by
 have q:=eF;rw[y3h] at q;have h1:=q x hx;rw[y3h] at h1;have h2:=h1 y hy;simpa [h,n] using h2
theorem Mi:∀{c:Cnt},(c.map (·.1)).Nodup->∀p∈c,Ay c p.1=some p.2
 |[],_,p,h=>by simp at h
 |a::c,q,p,h=>by
  rw[yj,y3p] at q;rcases List.mem_cons.mp h with rfl|h
  ·simp[Ay]
  ·have B:¬ a.1=p.1:=fun z=>q.1 (z ▸ List.mem_map.mpr ⟨p,h,rfl⟩);have:=Mi q.2 p h;unfold Ay at this |-;rw[y0o];simpa [B] using this
noncomputable def F9(c:Cnt)(q:List Str):Cnt:=q.map fun x=>(x,(Ay c x).getD 0)
theorem eJ(hk:KeyOk c)(q:ms.Perm (c.map (·.1))):(F9 c ms).Perm c:=by
 have h1:=q.map (fun x=>(x,(Ay c x).getD 0));have h2:(c.map (·.1)).map (fun x=>(x,(Ay c x).getD 0))=c:=by
  rw[y09];conv=>rhs; rw[<- List.map_id c]
  refine y16 fun p q=>?_;show(p.1,(Ay c p.1).getD 0)=p;rw[Mi hk.1 p q];rfl
 rw[h2] at h1;exact h1
theorem eK(hk:KeyOk c)(F:ms.Perm (c.map (·.1)))(G:PyProof.Rows.sortedS ms=true):(F9 c ms).Pairwise (fun p q=>B3 p.1<B3 q.1):=by
 have B:∀x∈ms,x∈pool:=fun x hx=>by
  obtain⟨q,hq,e⟩:=List.mem_map.mp (F.mem_iff.mp hx);rw[<- e]; exact hk.2 q hq
 have J:ms.Nodup:=F.nodup_iff.mpr hk.1;have h1:=bx B G;rw[y1x] at h1;unfold F9;rw[y1x];have h2:ms.Pairwise (fun x y=>x≠y):=J;exact(h1.and h2).imp_of_mem fun {x y} hx hy z=>eG (B x hx) (B y hy) z.1 z.2
def CtI(U:Hp)(st:Addr)(c:Cnt)(z:List Str)(i:Nat)(ys:List V)(q:St)(H':Hp):Prop:=Same U H'/\(∃t,q=[t,some (.ref st)])/\DtA H' ys ((F9 c (z.take i)).map D7)/\ys.length<=i
theorem eN:FnOk P w K mg base CX0 k f fd [n1,n2,n3] (EH 0):=by
 have q:∀vs H Q E,¬ EH 0 vs H Q E:=fun vs H Q E h=>by
  obtain⟨v,b,pv,p,st,d,s,f,c,g,g',_,_,_,_,h,_⟩:=h;exact h.elim
 exact⟨fun vs H Q E h=>absurd h (q vs H Q E),fun A outer s H args us vs Q E _ _ _ _ h=>absurd h (q vs H Q E)⟩
theorem SB(d:Df K mg "_law_do" Ap ["_law_block_here","_law_path","_law_state"] f fd) (b_enumerate:mg "enumerate" = none) (c_law_worth:Callee P w K mg base "_law_worth" ["_law_expr","_law_path","_law_state"] 7 (Cw 5)):∀n:Nat,Callee P w K mg base "_law_do" ["_law_block_here","_law_path","_law_state"] (n+7) (EH n)
 |0=>d.callee eN
 |n+1=>d.callee (eC d.F b_enumerate c_law_worth (SB d b_enumerate c_law_worth n))
theorem eO(F:Fun K "_law_run" "_law_run" Bs f fd) (b_dict:mg "dict" = none) (b_zip:mg "zip" = none) (b_tuple:mg "tuple" = none) (b_sorted:mg "sorted" = none) (b_list:mg "list" = none) (c_law_do:Callee P w K mg base "_law_do" ["_law_block_here","_law_path","_law_state"] 10 (EH 3)):FnOk P w K mg base CX0 11 f fd ["_law_program_here","_law_worths"] SA:=by
 refine F.ok sc_law_run (fun vs H Q E h=>?_) (fun hZ A outer s H vs Q E hr h=>?_)
 ·obtain⟨gv,wv,rows,b,ws,g',rfl,_⟩:=h;rfl
 obtain⟨gv,wv,rows,b,ws,g',rfl,hg,hw,O,fX,gC,gZ,hz,q⟩:=h;obtain⟨ga,iv,bv,rfl,gH,di,db⟩:=B1 hg;obtain⟨ia,is,rfl,gF,gM⟩:=di.tupI;obtain⟨wa,us,rfl,gy,gL⟩:=hw.tupI;have hJ:is.length=rows.length:=by rw[gM.length,y4]
 have hG:us.length=ws.length:=by rw[gL.length,y4]
 have gD:=fX.len;refine⟨_,(A6 (AN (i:=2) sc_law_run.nd rfl aZ (AI (A1 (D3 (VW rfl) aU b_dict WU (A1 (Cb ["_law_row","_law_worth_here"] [none,none] rfl (CompS.of (by rfl)) (O2 aY b_zip (A1 (A9 ix_tup (A0 0 rfl Qj) A3 (fun _ _=>rfl)) (A1 (A0 1 rfl aa) A2))) (fun _ _ _ _ _=>(Nn (n:=2) (K:=K) rfl rfl (Aa (AO (i:=0) (show List.Nodup (["_law_row","_law_worth_here"]:List Str) from by decide+kernel) rfl (Or.inl rfl)) (Aa (AO (i:=1) (show List.Nodup (["_law_row","_law_worth_here"]:List Str) from by decide+kernel) rfl (Or.inl rfl)) BP)))) (fun _ _ _ _ _=>D2) (fun _ _ _ _ _=>(AI (A1 (A9 (ixK (r:=CM) (K:=K) ix_tup rfl) (Ae (i:=0) rfl (by walk_at "vc") Pg Pb) A3 (fun _ _=>rfl)) (A1 (Ae (i:=1) rfl (by walk_at "vc") Pj Pd) A2))))) A2) X9 Wp) (A1 (Ab A2) (A1 (Ab A2) A2)))) (AF rfl))
 (A6 (Az (AH c_law_do hr (by lia) (A1 (A9 ix_tup (A0 0 rfl Qj) A3 (fun _ _=>rfl)) (A1 (AI A2) (A1 (A0 2 rfl Ep) A2))) aS Kv) (AF rfl))
 (A6 (AK (AC (Dh hr.units) (A9 ix_tup (A0 2 rfl Ep) A3 (fun _ _=>rfl)) (Ab A2) (AE _)) (A7 (AG (AI (A1 (AA Am (AI (A1 AD A2)) (A9 Tk (A9 ix_tup (A0 2 rfl Ep) A3 (fun _ _=>rfl)) A3 (fun _ _=>rfl))) (A1 (A9 ix_tup (A0 2 rfl Ep) A3 (fun _ _=>rfl)) A2))))) AL)
 (A7 (AG (AI (A1 (AI (A1 AD (A1 (D3 HA aX b_tuple Fo (A1 (Cb ["_law_name","_law_state"] [none,some 2] rfl (CompS.of (by rfl)) (BZ (Aq Uc aW b_sorted D9 (A1 (D3 (Ub rfl) aV b_list Kr (A1 (A9 ix_tup (A0 2 rfl Ep) A3 (fun _ _=>rfl)) A2) L5 Kz) A2) DB DA)) (fun _ _ _ _ _=>(AO (i:=0) (show List.Nodup (["_law_name","_law_state"]:List Str) from by decide+kernel) rfl (Or.inl rfl))) (fun _ _ _ _ _=>D2) (fun _ _ _ _ _=>(AI (A1 (Ae (i:=0) rfl (by walk_at "vc") Pf Pa) (A1 (EX hr.units1 (A9 (ixK (r:=CM) (K:=K) ix_tup rfl) (Ae (i:=1) rfl (by walk_at "vc") Wl WX) A3 (fun _ _=>rfl)) (Ae (i:=0) rfl (by walk_at "vc") Pf Pa) (fun _ _=>rfl)) A2))))) A2) Fs Fr) A2))) (A1 (A9 ix_tup (A0 2 rfl Ep) A3 (fun _ _=>rfl)) A2)))))))),AB fun N1 e1=>?_⟩
 walk_at "a";refine⟨_,SqT.of gH,_,AW,ia,wa,⟨rfl,rfl⟩,⟨_,SqT.of gF⟩,⟨_,SqT.of gy⟩,?_⟩;have hX:ws.length<=2:=by rw[<- gD]; exact O.len
 refine Ur (xs:=is) (ys:=us) (by lia) (ZwI H rows ws) ⟨Same.refl _,⟨_,_,rfl⟩,by rw[y26]; exact .nil,yf _⟩ (y11 (show us.length<=2 by lia) (by decide)) ?_ ?_ ?_ ?_
 ·rintro i zs J H' ⟨_,_,_,hy⟩;exact hy
 ·rintro i zs J H' _ ⟨R,_,_,_⟩;exact⟨SqT.of (R _ _ gF),SqT.of (R _ _ gy)⟩
 ·rintro i zs x y J H' Tu hx hy ⟨R,⟨t,u,rfl⟩,dz,gc⟩ hT;obtain⟨r,gS,dr⟩:=BV gM hx;obtain⟨wd,gQ,dw⟩:=BV gL hy;cases dw;obtain⟨ra,r0,r1,r2,rfl,gT,t0,t1,t2⟩:=Bt dr;cases t0; cases t1; cases t2;have s3:=A5 hT (HO.tup [V.ref ra,V.int wd]);have gA:=s3 _ _ (R _ _ gT);walk_at "a";refine⟨_,SqT.of A4,rfl,_,_,rfl,_,_,rfl,rfl,_,rfl,_,SqT.of gA,_,AW,by decide,fun p1 h1=>?_⟩;have s4:=A5 h1 (HO.tup [V.str r.1,V.int wd]);have gu:=s3.trans s4;refine⟨R.trans gu,⟨_,_,rfl⟩,?_,by rw[yc,y0d]; lia⟩;rw[eE gS gQ,yp,yp];exact(dz.kp gu.kp).append (.cons (.tup A4 (.cons (.str _) (.cons (.int _) .nil))) .nil)
 rintro zs J H1 ⟨s1,_,dz,_⟩ pe ge;have s2:=A5 ge (HO.lst zs);have gc:(rows.zip ws).length=us.length:=by rw[List.length_zip]; lia
 rw[<- gc,y0i] at dz;refine⟨pe,zs,_,rfl,A4,dz.kp s2.kp,by rw[y4,gc]; lia,fun d gI=>⟨yo _,fun Z gf=>⟨yo _,fun lf fw=>⟨by decide,fun st gz=>?_⟩⟩⟩⟩;have ef:((rows.zip ws).map fun q=>(q.1.1,q.2)).foldl (fun k r=>An k (Sum.inr r.1) (V.int r.2)) []=kvC (stB [] rows ws):=S9 rows ws [];rw[ef] at gf fw gz |-;have s3:=A5 gI (HO.dK (kvC (stB [] rows ws)));have s4:=A5 gf (HO.lst []);have s5:=A5 fw (HO.lst []);have s6:=A5 gz (HO.tup [V.ref d,V.ref Z,V.ref lf]);have fq:=s1.trans (s2.trans (s3.trans (s4.trans (s5.trans s6))));have gj:=(s4.trans (s5.trans s6)) _ _ (A4 (H:=upd H1 pe (HO.lst zs)) (a:=d) (o:=HO.dK (kvC (stB [] rows ws))));have fh:=(s5.trans s6) _ _ (A4 (a:=Z) (o:=HO.lst []));have fV:=s6 _ _ (A4 (a:=lf) (o:=HO.lst []));have fe:=A4 (H:=upd (upd (upd (upd H1 pe (HO.lst zs)) d (HO.dK (kvC (stB [] rows ws)))) Z (HO.lst [])) lf (HO.lst [])) (a:=st) (o:=HO.tup [V.ref d,V.ref Z,V.ref lf]);have gN:Z≠lf:=AS A4 fw;have nd:H d=none:=(s1.trans s2).free gI;have gO:H Z=none:=(s1.trans (s2.trans s3)).free gf;have gP:H lf=none:=(s1.trans (s2.trans (s3.trans s4))).free fw;generalize upd (upd (upd (upd (upd H1 pe (HO.lst zs)) d (HO.dK (kvC (stB [] rows ws)))) Z (HO.lst [])) lf (HO.lst [])) st (HO.tup [V.ref d,V.ref Z,V.ref lf])=U at fq gj fh fV fe |-;rw[e1];refine AB fun N2 e2=>?_;walk_at "a";refine⟨_,SqT.of (fq _ _ gH),_,AV (j:=1) rfl,yo _,fun p0 gW=>?_⟩;have s7:=A5 gW (HO.tup []);have gE:=GN rows ws [] (Iu O) KeyOk.nil;have hh:=MZ rows ws [] [] fX (fun r hr=>⟨(O.lo r hr).1,(O.lo r hr).2.2⟩) (fun x hx=>by simp at hx);rw[y2m] at hh;refine⟨bv,b,.ref p0,[],st,d,Z,lf,stB [] rows ws,_,g',rfl,s7 _ _ fe,(db.kp fq.kp).kp s7.kp,.tup A4 .nil,gC,by decide,by decide,gZ,s7 _ _ gj,gE,hh,gN,fun l hl=>?_,s7 _ _ fV,fun H2 G2 gm=>?_⟩
 ·cases hl;exact⟨[],s7 _ _ fh,by simpa using hz⟩
 have S2:Same H H2:=fun a o e=>G2.1 a o (AS e nd) (AS e gO) (AS e gP) (s7 _ _ (fq _ _ e));have fz:=G2.keep (s7 _ _ gj) (by intro z w; cases w) (by intro z w; cases w) (s7 _ _ fe);have M:=Cs b 4 [] 0 _ (E9 (CI gC)) gE;obtain⟨_,⟨g9,gb,f1,f2,f3⟩,_,fZ,f4,f5⟩:=G2;rw[s7 _ _ fh] at f1;cases f1;rw[y2m] at f2;change DtA H2 fZ ((evP rows b ws).1.toList.map Bl) at f5;change DtA H2 gb ((evP rows b ws).2.2.map C7) at f3;change H2 d=some (.dK (kvC (evP rows b ws).2.1)) at gm;change KeyOk (evP rows b ws).2.1 at M;have gx:∀e,(evP rows b ws).1=some e->e.1∈B6:=fun e he=>Cv b [] 0 _ e he;rcases gB:evP rows b ws with⟨oo,cc,rr⟩;rw[gB] at f3 f5 gm M q gx;rw[e2];refine AB fun N3 e3=>?_;walk_at "a";refine⟨_,SqT.of fz,_,AV (j:=2) rfl,yo _,fun l3 gY=>?_⟩;have v3:=A5 gY (HO.lst []);refine⟨_,Bm (v3 _ _ f4) (f5.kp v3.kp) gx A4,?_⟩;have S3:=S2.trans v3;have G:=v3 _ _ fz;have gt:=v3 _ _ f2;have gp:=f3.kp v3.kp;have gK:=v3 _ _ f4;have gn:=f5.kp v3.kp;have gk:=v3 _ _ gm;generalize upd H2 l3 (HO.lst [])=U3 at S3 G gt gp gK gn gk |-;cases oo with
 |some er=>
  rw[if_pos (by rfl)];change DtA U3 fZ [Bl er] at gn;obtain⟨y,rfl,dy⟩:∃y,fZ=[y]/\Dt U3 y (Bl er):=by
   cases gn with
   |cons h t=>cases t; exact⟨_,rfl,h⟩
  refine⟨by decide,fun p4 h4=>?_⟩;have v4:=A5 h4 (HO.tup [V.str "refused"]);refine⟨_,SqT.of (v4 _ _ G),_,AV (j:=2) rfl,.inl ⟨lf,rfl,_,SqL.of (v4 _ _ gK),_,AW,?_⟩⟩;refine KF (ds:=[.str "refused"]) (.tup A4 (.cons (.str _) .nil)) (dy.kp v4.kp) (by simp) fun z5 H5 v5 d5=>?_;have B:=v4.trans v5;refine⟨_,SqT.of (B _ _ G),_,AV (j:=1) rfl,by decide,fun p6 h6=>?_⟩;have v6:=A5 h6 (HO.tup [z5,V.ref Z]);exact q p6 Z z5 gb _ (S3.trans (B.trans v6)) A4 (d5.kp v6.kp) ((B.trans v6) _ _ gt) (gp.kp (B.trans v6).kp)
 |none=>
  rw[if_neg (by simp),e3];walk_at "a";refine⟨_,SqT.of G,_,AW,d,rfl,_,.inl gk,fun l4 h4=>?_⟩;have v4:=A5 h4 (HO.lst ((kvC cc).map fun kv=>kV kv.1));have ek:(kvC cc).map (fun kv=>kV kv.1)=(cc.map (·.1)).map V.str:=by
   unfold kvC;rw[y09,y09];rfl
  refine⟨cc.map (·.1),by rw[ek]; exact SqL.of A4,by rw[y4]; exact y11 M.len (by decide),fun l5 ms h5 ft gR=>?_⟩;have v5:=A5 h5 (HO.lst (ms.map V.str));have B:=v4.trans v5;have gh:(upd (upd U3 l4 (HO.lst ((kvC cc).map fun kv=>kV kv.1))) l5 (HO.lst (ms.map V.str))) l5=some (.lst (ms.map V.str)):=A4;have gJ:=B _ _ gk;have fg:=B _ _ G;have gw:=B _ _ gt;have fY:=gp.kp B.kp;have S5:=S3.trans B;generalize upd (upd U3 l4 (HO.lst ((kvC cc).map fun kv=>kV kv.1))) l5 (HO.lst (ms.map V.str))=U5 at gh gJ fg gw fY S5 |-;have gX:ms.length<=4:=by rw[ft.length_eq,y4]; exact M.len
  refine⟨⟨_,SqL.of gh⟩,?_⟩;refine Dc (K:=K) (a:=l5) (xs:=ms.map V.str) (CtI U5 st cc ms) ⟨Same.refl _,⟨_,rfl⟩,by rw[y26]; exact .nil,yf _⟩ (by rw[y4]; exact y11 gX (by decide)) ?_ ?_ ?_ ?_
  ·rintro i ys J H' ⟨_,_,_,hy⟩;exact hy
  ·rintro i ys J H' _ ⟨R,_,_⟩;exact SqL.of (R _ _ gh)
  ·rintro i ys v' J H' fc ⟨R,⟨t,rfl⟩,dy,hy⟩;rw[y0k] at fc;cases fu:ms[i]? with
   |none=>rw[fu] at fc; cases fc
   |some x=>
    rw[fu] at fc;cases fc;obtain⟨pr,gU,ex⟩:=List.mem_map.mp (ft.mem_iff.mp (yw fu));have gG:Ay cc x=some pr.2:=by rw[<- ex]; exact Mi M.1 pr gU
    have hg:DGet H' d (.str x) (some (.int pr.2)):=by
     have:=DGet.k (k:=Sum.inr x) (R _ _ gJ);rw[Il,gG] at this;exact this
    walk_at "a";refine⟨_,SqT.of (R _ _ fg),_,AW,d,rfl,_,hg,by decide,fun p6 h6=>?_⟩;have v6:=A5 h6 (HO.tup [V.str x,V.int pr.2]);refine⟨R.trans v6,⟨_,rfl⟩,?_,by rw[yc,y0d]; lia⟩;rw[Ax fu];unfold F9 at dy |-;rw[yp,yp];refine(dy.kp v6.kp).append (.cons ?_ .nil);show Dt _ (V.ref p6) (D7 (x,(Ay cc x).getD 0));rw[gG];exact .tup A4 (.cons (.str _) (.cons (.int _) .nil))
  ·rintro ys J H6 ⟨R,_,dy,_⟩ pe ge;have v6:=A5 ge (HO.lst ys);rw[y4,y0i] at dy;refine⟨pe,rfl,ys,.inl ⟨SqL.of A4,fun l7 h7=>⟨by decide,fun p8 h8=>?_⟩⟩⟩;have v7:=A5 h7 (HO.tup ys);have v8:=A5 h8 (HO.tup [V.str "told",V.ref l7]);have fk:=R.trans (v6.trans (v7.trans v8));refine⟨_,SqT.of (fk _ _ fg),_,AV (j:=1) rfl,by decide,fun p9 h9=>?_⟩;have v9:=A5 h9 (HO.tup [V.ref p8,V.ref Z]);refine q p9 Z (.ref p8) gb _ (S5.trans (fk.trans v9)) A4 ?_ ((fk.trans v9) _ _ gw) (fY.kp (fk.trans v9).kp);refine⟨F9 cc ms,eJ M ft,eK M ft gR,.tup (v9 _ _ A4) (.cons (.str _) (.cons (.tup ((v8.trans v9) _ _ A4) (dy.kp (v6.trans (v7.trans (v8.trans v9))).kp)) .nil))⟩
def NE(l:List RI):Prop:=∀r∈l,r.1≠[]
theorem NE.append(h:NE a)(k:NE b):NE (a++b):=fun r hr=>(List.mem_append.mp hr).elim (h r) (k r)
theorem NE.one(h:p≠[]):NE [(p,v)]:=fun r hr=>by rw[List.mem_singleton.mp hr]; exact h
theorem GR(p:List Int)(k:Int):p++[k]≠[]:=by simp
theorem GS(c:Cnt):∀(t:T) (p:List Int),p≠[]->NE (evT c t p).2
 |.num i,p,h=>by rw[evT]; exact NE.one h
 |.nm x,p,h=>by rw[evT]; exact NE.one h
 |.op w a b,p,h=>by
  have h1:=GS c a (p++[0]) (GR _ _);have h2:=GS c b (p++[1]) (GR _ _);rcases z:evT c a (p++[0]) with⟨G,M⟩;rcases e2:evT c b (p++[1]) with⟨F,J⟩;rw[z] at h1;rw[e2] at h2;cases G with
  |ref u q=>rw[Ez z]; exact h1
  |had x=>
   cases F with
   |ref u q=>rw[EA z e2]; exact h1.append h2
   |had y=>
    by_cases B:w=.quo/\y=0
    ·obtain⟨rfl,rfl⟩:=B;rw[EB z e2]; exact h1.append h2
    ·rw[EC z e2 B]; exact(h1.append h2).append (NE.one h)
theorem eP{cond:Cnt->Rs×List RI}{body:Cnt->Out}(hc:∀c,NE (cond c).2)(hb:∀c,NE (body c).2.2):∀(k:Nat) (c:Cnt),NE (Ad cond body p k c).2.2:=by
 intro k;induction k with
 |zero=>
  intro c;have h1:=hc c;rcases z:cond c with⟨F,G⟩;rw[z] at h1;cases F with
  |ref u q=>rw[CV z]; exact h1
  |had v=>
   by_cases B:v=0
   ·subst B; rw[Ct z]; exact h1
   ·rw[F4 z B]; exact h1
 |succ k M=>
  intro c;have h1:=hc c;have h2:=hb c;rcases z:cond c with⟨F,G⟩;rcases e2:body c with⟨J,O,R⟩;rw[z] at h1;rw[e2] at h2;cases F with
  |ref u q=>rw[CV z]; exact h1
  |had v=>
   by_cases B:v=0
   ·subst B; rw[Ct z]; exact h1
   ·cases J with
    |some u=>rw[EE z B e2]; exact h1.append h2
    |none=>rw[EF z B e2]; exact(h1.append h2).append (M O)
mutual
theorem eQ:∀(d:D) (p:List Int) (c:Cnt),NE (evD p d c).2.2
 |.set x t,p,c=>by
  rw[Iq];exact GS c t _ (GR _ _)
 |.ite t b b2,p,c=>by
  have h1:=GS c t (p++[0]) (GR _ _);rcases z:evT c t (p++[0]) with⟨F,G⟩;rw[z] at h1;cases F with
  |ref u q=>rw[DR z]; exact h1
  |had v=>
   by_cases B:v=0
   ·subst B;rw[DT z]; exact h1.append (GT b2 _ 0 c)
   ·rw[DS z B]; exact h1.append (GT b _ 0 c)
 |.whl t m b,p,c=>by
  rw[evD];exact eP (cond:=fun c=>evT c t (p++[0])) (body:=fun c=>evB (p++[1]) 0 b c) (fun c=>GS c t _ (GR _ _)) (fun c=>GT b _ 0 c) _ c
theorem GT:∀(b:List D) (p:List Int) (k:Int) (c:Cnt),NE (evB p k b c).2.2
 |[],p,k,c=>by rw[evB]; exact fun r h=>absurd h (by simp)
 |d::b,p,k,c=>by
  have h1:=eQ d (p++[k]) c;rcases q:evD (p++[k]) d c with⟨z,B,F⟩;rw[q] at h1;cases z with
  |some u=>rw[F5 q]; exact h1
  |none=>rw[F6 q]; exact h1.append (GT b p (k+1) B)
end
abbrev TL(α:Type):=List (List Int×V×α)
section
variable{α:Type}
noncomputable def kvT(q:TL α):List (List Key×V):=q.map fun t=>(t.1.map Sum.inl,t.2.1)
noncomputable def Ah(q:TL α)(p:List Int):Option (V×α):=(q.find? fun t=>decide (t.1=p)).map (·.2)
noncomputable def B7(q:TL α)(p:List Int)(v:V)(a:α):TL α:=if(Ah q p).isSome=true then q.map (fun t=>if t.1=p then(p,v,a) else t) else q++[(p,v,a)]
theorem inl_ij{p q:List Int}:(p.map (Sum.inl:Int->Key))=q.map Sum.inl↔p=q:=List.map_inj_right fun x y e=>by cases e; rfl
theorem SC(t:List Int×V×α)(q:TL α)(p:List Int):Ah (t::q) p=if t.1=p then some t.2 else Ah q p:=by
 unfold Ah;rw[y0o];by_cases e:t.1=p<;>simp[e]
theorem EI(p:List Int):∀q:TL α,B9 (kvT q) (p.map Sum.inl)=(Ah q p).map (·.1)
 |[]=>rfl
 |t::q=>by
  rw[SC];by_cases e:t.1=p
  ·rw[if_pos e];exact HR (inl_ij.mpr e)
  ·rw[if_neg e,<- EI p q];exact HS fun z=>e (inl_ij.mp z)
theorem SD(q:TL α)(p:List Int)(v:V)(a:α):An (kvT q) (p.map Sum.inl) v=kvT (B7 q p v a):=by
 unfold An B7;rw[Jy,EI,y5d];split
 ·unfold kvT;rw[y09,y09];refine y16 fun t _=>?_;show(if t.1.map Sum.inl=p.map Sum.inl then _ else _)=_;by_cases e:t.1=p
  ·simp[e]
  ·rw[if_neg (fun z=>e (inl_ij.mp z))];simp[e]
 ·unfold kvT;rw[yp];rfl
theorem getT_none{z:TL α}{p:List Int}:Ah z p=none↔p∉z.map (·.1):=by
 unfold Ah;rw[y4n,List.find?_eq_none];constructor
 ·intro h hm;obtain⟨t,q,e⟩:=List.mem_map.mp hm;exact h t q (decide_eq_true e)
 ·intro h t q e;exact h (List.mem_map.mpr ⟨t,q,of_decide_eq_true e⟩)
theorem FA(h:Ah el p=some x):(p,x)∈el:=by
 unfold Ah at h;obtain⟨t,q,rfl⟩:=Option.map_eq_some_iff.mp h;have e:t.1=p:=by simpa using List.find?_some q
 rw[<- e];exact List.mem_of_find?_eq_some q
theorem GU:∀{q:TL α},(q.map (·.1)).Nodup->∀t∈q,Ah q t.1=some t.2
 |[],_,t,h=>by simp at h
 |a::q,B,t,h=>by
  rw[yj,y3p] at B;rw[SC];rcases List.mem_cons.mp h with rfl|h
  ·rw[if_pos rfl]
  ·rw[if_neg fun z:a.1=t.1=>B.1 (z ▸ List.mem_map.mpr ⟨t,h,rfl⟩)];exact GU B.2 t h
theorem Mj(h:t∈B7 el p v a):t=(p,v,a)\/(t∈el/\t.1≠p):=by
 unfold B7 at h;split at h
 ·obtain⟨u,hu,rfl⟩:=List.mem_map.mp h;by_cases e:u.1=p
  ·rw[if_pos e]; exact .inl rfl
  ·rw[if_neg e]; exact .inr ⟨hu,e⟩
 ·rename_i q;rcases List.mem_append.mp h with h|h
  ·refine .inr ⟨h,fun e=>q ?_⟩;cases hg:Ah el p with
   |some _=>rfl
   |none=>exact absurd (List.mem_map.mpr ⟨t,h,e⟩) (getT_none.mp hg)
  ·exact .inl (List.mem_singleton.mp h)
theorem eR(q:TL α)(p:List Int)(v:V)(a:α):(B7 q p v a).map (·.1)=if(Ah q p).isSome=true then q.map (·.1) else q.map (·.1)++[p]:=by
 unfold B7;split
 ·rw[y09];refine y16 fun t _=>?_;show(if t.1=p then(p,v,a) else t).1=t.1;by_cases e:t.1=p
  ·rw[if_pos e,e]
  ·rw[if_neg e]
 ·rw[yp];rfl
theorem eS{q:TL α}(B:(q.map (·.1)).Nodup){p:List Int}{v:V}{a b:α}(h:Ah q p=some (v,a)):kvT (B7 q p v b)=kvT q:=by
 unfold B7 kvT;rw[if_pos (by rw[h]; rfl),y09];refine y16 fun t z=>?_;show((if t.1=p then(p,v,b) else t).1.map Sum.inl,(if t.1=p then(p,v,b) else t).2.1)=_;by_cases e:t.1=p
 ·have:=GU B t z;rw[e,h] at this;rw[if_pos e,e,<- y0l this]
 ·rw[if_neg e]
def KeyI(q:TL α)(R:List RI):Prop:=(q.map (·.1)).Nodup/\(∀p,p∈q.map (·.1)↔p∈R.map (·.1))/\q.length<=R.length
theorem KeyI.nil:KeyI ([]:TL α) []:=⟨y43,fun _=>Iff.rfl,yf _⟩
theorem KeyI.put(h:KeyI el R)(r:RI)(v:V)(a:α):KeyI (B7 el r.1 v a) (R++[r]):=by
 obtain⟨h1,h2,F⟩:=h;have B:(B7 el r.1 v a).length=((B7 el r.1 v a).map (·.1)).length:=by rw[y4]
 unfold KeyI;rw[B,eR,yp,yc];split
 ·rename_i q;have hm:r.1∈el.map (·.1):=by
   cases hg:Ah el r.1 with
   |none=>rw[hg] at q; cases q
   |some x=>exact List.mem_map.mpr ⟨_,FA hg,rfl⟩
  refine⟨h1,fun p=>?_,by rw[y4]; lia⟩;rw[y33,<- h2 p];refine⟨.inl,fun z=>z.elim id fun e=>?_⟩;rw[List.mem_singleton.mp e];exact hm
 ·rename_i q;have hm:r.1∉el.map (·.1):=getT_none.mp (by
   cases hg:Ah el r.1 with
   |none=>rfl
   |some x=>rw[hg] at q; exact absurd rfl q)
  refine⟨?_,fun p=>by rw[y33,y33,h2 p]; rfl,by rw[yc,y4]; simp; lia⟩;rw[y4a];exact⟨h1,y2g _ _,fun a ha b hb e=>by rw[List.mem_singleton.mp hb] at e; exact hm (e ▸ ha)⟩
end
noncomputable def BO(R:List RI)(p:List Int):List Int:=(R.filter fun r=>decide (r.1=p)).map (·.2)
theorem Mk(R:List RI)(r:RI):BO (R++[r]) r.1=BO R r.1++[r.2]:=by simp[BO]
theorem Ml(R:List RI)(r:RI)(h:p≠r.1):BO (R++[r]) p=BO R p:=by simp[BO,y1k h]
theorem SE(h:p∉R.map (·.1)):BO R p=[]:=by
 unfold BO;rw[List.map_eq_nil_iff,List.filter_eq_nil_iff];intro r hr e;exact h (List.mem_map.mpr ⟨r,hr,of_decide_eq_true e⟩)
theorem SF(h:p∈R.map (·.1)):0<(BO R p).length:=by
 obtain⟨r,hr,e⟩:=List.mem_map.mp h;exact List.length_pos_of_mem (List.mem_map.mpr ⟨r,List.mem_filter.mpr ⟨hr,decide_eq_true e⟩,rfl⟩)
theorem eT(R:List RI)(p:List Int):(BO R p).length<=R.length:=by unfold BO; rw[y4]; exact y4v _ _
def MM(m:Int×Int)(xs:List Int):Prop:=(m.1∈xs/\∀a∈xs,m.1<=a)/\m.2∈xs/\∀a∈xs,a<=m.2
noncomputable def jn:Option (Int×Int)->Int->Int×Int
 |none,w=>(w,w)
 |some m,w=>(if w<m.1 then w else m.1,if w>m.2 then w else m.2)
theorem MM.one(w:Int):MM (jn none w) [w]:=⟨⟨.head _,fun a h=>by rw[List.mem_singleton.mp h]; exact Int.le_refl _⟩,.head _,fun a h=>by rw[List.mem_singleton.mp h]; exact Int.le_refl _⟩
theorem MM.snoc(h:MM m xs)(w:Int):MM (jn (some m) w) (xs++[w]):=by
 obtain⟨⟨B,z⟩,q,b2⟩:=h;refine⟨⟨?_,fun a ha=>?_⟩,?_,fun a ha=>?_⟩
 ·show(if w<m.1 then w else m.1)∈_;split
  ·exact y08 _ (.head _)
  ·exact y0s _ B
 ·show(if w<m.1 then w else m.1)<=a;rcases List.mem_append.mp ha with h|h
  ·have:=z a h; split<;>lia
  ·rw[List.mem_singleton.mp h]; split<;>lia
 ·show(if w>m.2 then w else m.2)∈_;split
  ·exact y08 _ (.head _)
  ·exact y0s _ q
 ·show a<=(if w>m.2 then w else m.2);rcases List.mem_append.mp ha with h|h
  ·have:=b2 a h; split<;>lia
  ·rw[List.mem_singleton.mp h]; split<;>lia
theorem MM.uniq(h:MM m xs)(k:MM n xs):m=n:=by
 obtain⟨⟨G,F⟩,B,b2⟩:=h;obtain⟨⟨z,q⟩,d1,d2⟩:=k;have:=F _ z;have:=q _ G;have:=b2 _ d1;have:=d2 _ B;exact y4z (by lia) (by lia)
noncomputable def AR(rows:List Rw)(b:List D)(W:List (List Int)):List RI:=W.flatMap fun ws=>(evP rows b ws).2.2
theorem Iw(rows:List Rw)(b:List D)(W:List (List Int))(ws:List Int):AR rows b (W++[ws])=AR rows b W++(evP rows b ws).2.2:=by
 unfold AR;rw[List.flatMap_append,List.flatMap_singleton]
theorem SI(rows:List Rw)(b:List D)(W:List (List Int)):NE (AR rows b W):=fun r hr=>by
 obtain⟨ws,_,h⟩:=List.mem_flatMap.mp hr;exact GT b _ _ _ r h
theorem eU(h:okB 3 b)(q:b.length<=3)(p:List Int)(k:Int)(c:Cnt):(evB p k b c).2.2.length<=3*PD 2:=by
 have h1:=F8 b (fun d hd p c=>GP 2 d p c (h.2 d hd)) p k c;have h2:b.length*PD 2<=3*PD 2:=y0z _ q;lia
theorem SJ(h:okB 3 b)(q:b.length<=3):∀W:List (List Int),(AR rows b W).length<=W.length*(3*PD 2)
 |[]=>by simp[AR]
 |ws::W=>by
  have h1:=SJ h q (rows:=rows) W;have h2:(evP rows b ws).2.2.length<=3*PD 2:=eU h q [] 0 (stB [] rows ws);show(List.flatMap _ (ws::W)).length<=_;rw[List.flatMap_cons,yc,yu,Nat.add_mul,Nat.one_mul];unfold AR at h1;lia
theorem Ix(h:okB 3 b)(q:b.length<=3)(z:W.length<=9):(AR rows b W).length+1<ym:=by
 have h1:=SJ h q (rows:=rows) W;have h2:W.length*(3*PD 2)<=9*(3*PD 2):=y0z _ z;have B:9*(3*PD 2)+1<ym:=by decide
 lia
theorem SameB.tab(s:SameB pt H H')(h:TabAt pt pos q H):Kp H H':=by
 obtain⟨ps,e⟩:=h.tbl;exact s.kpT e
theorem TabAt.same(h:TabAt pt pos q H)(s:Same H H'):TabAt pt pos q H':=h.kp fun a o _ e=>s a o e
theorem eV{P:yq}{w:y0h}{tl:TE}{g:TG}{tb:TS}{D:Ends}{σ:St}{H:Hp}:Bx (PZ P w tl) g tb D σ H=tl σ H fun x H1=>∃d q,x=.ref d/\Rd H1 d (dN P w d q)/\∀o,Cj (Itd d o (dN P w d q) (q.map fun p=>V.ref p.2.1)) g tb D σ (upd H1 d (.frz o (dN P w d q))):=rfl
def NT(o:HO):Prop:=(∀xs,o≠.tup xs)/\∀xs,o≠.lst xs
theorem Mm(kvs:List (List Key×V)):NT (.dT kvs):=⟨fun _ z=>(by cases z),fun _ z=>(by cases z)⟩
theorem Mn(P:yq)(w:y0h)(d:Addr)(q:NKs):NT (dN P w d q):=⟨fun _ z=>(by cases z),fun _ z=>(by cases z)⟩
theorem Kp.but(s:SameB d H H')(hd:H d=some o)(n:NT o):Kp H H':=
 ⟨fun b xs e=>s b _ (AM e hd (fun z=>n.1 xs z.symm)) e,fun b xs e=>⟨xs,s b _ (AM e hd (fun z=>n.2 xs z.symm)) e⟩⟩
theorem SameB.upd:SameB d H (L2.upd H d o):=fun a u n e=>by rw[A8 n]; exact e
theorem SameB.tr(a:SameB d H H1)(b:SameB d H1 H2):SameB d H H2:=fun x o n e=>b x o n (a x o n e)
theorem TabAt.but(s:SameB d H H')(h1:∀t,H d≠some (.tbl t))(h2:H d≠some (Ba d q))(h:TabAt p pos q H):TabAt p pos q H':=by
 rcases h with h|⟨c',h,hc⟩
 ·exact .inl (s _ _ (fun z=>h1 _ (z ▸ h)) h)
 ·exact .inr ⟨c',s _ _ (fun z=>h1 _ (z ▸ h)) h,s _ _ (fun z=>h2 (z ▸ hc)) hc⟩
theorem eW(c:Addr)(q:Str):∃h:Heap,h.CodeRec (.ref c) q/\∀o,h.get? c=some o->∃vs,o.data=.fields vs:=by
 refine⟨{objs:=Array.replicate (c+1) {cls:=.type "code",data:=.fields #[.none,.str q 0]}},⟨c,{cls:=.type "code",data:=.fields #[.none,.str q 0]},#[.none,.str q 0],0,rfl,?_,rfl,rfl⟩,fun o z=>?_⟩
 ·simp[Heap.get?]
 ·simp[Heap.get?] at z;exact⟨_,by rw[<- z]⟩
theorem eX:dN P w d kas≠Ba d q:=fun e=>by
 obtain⟨h,h1,h2⟩:=eW d q;have e2:=HO.ext.inj e;have:=(congrFun e2 h).mpr h1;obtain⟨_,_,xs,_,o,es,ep,F,_,z,_⟩:=this;obtain⟨vs,B⟩:=h2 o F;rw[B] at z;cases z
theorem SK{H:Hp}{d:Addr}{kvs:List (List Key×V)}(h:H d=some (.dT kvs))(q:Str):(∀t,H d≠some (.tbl t))/\H d≠some (Ba d q):=by
 rw[h];exact⟨fun t z=>(by cases z),fun z=>(by cases z)⟩
theorem Iy{P:yq}{w:y0h}{H:Hp}{d:Addr}{B:NKs}(h:H d=some (dN P w d B))(q:Str):(∀t,H d≠some (.tbl t))/\H d≠some (Ba d q):=by
 rw[h];exact⟨fun t z=>(by cases z),fun z=>eX (y0l z)⟩
theorem FB(h:Dt H v (AJ p)):∃a,v=.ref a/\H a=some (.tup (p.map V.int)):=by
 obtain⟨a,xs,rfl,ha,q⟩:=h.tupI;exact⟨a,rfl,by rw[ha,EZ q]⟩
theorem FC(p:List Int):(p.map (Sum.inl:Int->Key)).map kV=p.map V.int:=by rw[y09]; rfl
noncomputable def pmD(m:Int×Int):Dm:=.tup [.int m.1,.int m.2]
noncomputable def EJ(p:List Int)(m:Int×Int):Dm:=.tup [AJ p,.int m.1,.int m.2]
def oD(H:Hp)(x:V):Option (Int×Int)->Prop
 |none=>x=.non
 |some m=>Dt H x (pmD m)
def SL:Sp:=fun vs H Q _=>∃(x y:V) (o:Option (Int×Int)) (w:Int),vs=[x,y]/\oD H x o/\Dt H y (pmD (w,w))/\∀(r:V) (H':Hp),Same H H'->Dt H' r (pmD (jn o w))->Q r H'
def ExT(d:Addr)(H:Hp)(q:TL (Int×Int))(R:List RI):Prop:=H d=some (.dT (kvT q))/\KeyI q R/\∀t∈q,Dt H t.2.1 (pmD t.2.2)/\MM t.2.2 (BO R t.1)
theorem ExT.kp(h:ExT d H el R)(k:Kp H H')(e:H' d=some (.dT (kvT el))):ExT d H' el R:=⟨e,h.2.1,fun t q=>⟨(h.2.2 t q).1.kp k,(h.2.2 t q).2⟩⟩
theorem ExT.put(r:RI)(h:ExT d H el R)(k:Kp H H')(G:Dt H' v (pmD (jn ((Ah el r.1).map (·.2)) r.2)))(e:H' d=some (.dT (kvT (B7 el r.1 v (jn ((Ah el r.1).map (·.2)) r.2))))):ExT d H' (B7 el r.1 v (jn ((Ah el r.1).map (·.2)) r.2)) (R++[r]):=by
 obtain⟨_,h2,B⟩:=h;refine⟨e,h2.put r v _,fun t q=>?_⟩;rcases Mj q with rfl|⟨q,F⟩
 ·refine⟨G,?_⟩;show MM (jn ((Ah el r.1).map (·.2)) r.2) (BO (R++[r]) r.1);rw[Mk];cases hg:Ah el r.1 with
  |none=>
   rw[SE (fun z=>getT_none.mp hg ((h2.2.1 _).mpr z))];exact MM.one _
  |some x=>exact(B _ (FA hg)).2.snoc _
 ·refine⟨(B t q).1.kp k,?_⟩;rw[Ml R r F];exact(B t q).2
def SM(p2:Addr):Sp:=fun vs H Q _=>∃(z:V) (rows:List Rw) (b:List D) (g':List Str),vs=[z]/\Dt H z (.tup [.tup (rows.map BM),.tup (AU b)])/\okRows rows/\okB 3 b/\b.length<=3/\kbB (rows.map (·.1)) b=some g'/\TabAt p2 DU dT.qual H/\
 ∀(l:Addr) (xs:List V) (ps:List (List Int)) (B:List Int->Int×Int) (H':Hp),SameB p2 H H'->TabAt p2 DU dT.qual H'->H l=none->H' l=some (.lst xs)->ps.Pairwise (fun p q=>ltI p q=true)->(∀p,p∈ps↔p∈(AR rows b (WS rows)).map (·.1))->(∀p∈ps,MM (B p) (BO (AR rows b (WS rows)) p))->DtA H' xs (ps.map fun p=>EJ p (B p))->Q (.ref l) H'
def ExO(H1:Hp)(d p2:Addr)(G:V)(rows:List Rw)(b:List D)(i:Nat)(σ:St)(q:Hp):Prop:=∃(J:TL (Int×Int)) (F B z:Option V),σ=[some G,some (.ref d),F,B,z]/\SameC d p2 H1 q/\TabAt p2 DU dT.qual q/\ExT d q J (AR rows b ((WS rows).take i))
def ExN(O:Hp)(d:Addr)(J F:V)(R G:List RI)(j:Nat)(σ:St)(q:Hp):Prop:=∃(M:TL (Int×Int)) (B z:Option V),σ=[some J,some (.ref d),some F,B,z]/\SameB d O q/\ExT d q M (R++G.take j)
def ExC(U:Hp)(d:Addr)(z:List Int->Int×Int)(ps:List (List Int))(i:Nat)(ys:List V)(q:St)(H':Hp):Prop:=Same U H'/\(∃t,q=[t,some (.ref d)])/\DtA H' ys ((ps.take i).map fun p=>EJ p (z p))/\ys.length<=i
theorem eg{H:Hp}{K:ya}{p:Addr}{v w:V}{q:List Int}{m:Int×Int}{Q:VK}(F:H p=some (.tup [v]))(J:Dt H v (AJ q))(G:Dt H w (pmD m))(k:∀r H',Same H H'->Dt H' r (EJ q m)->Q r H'):C0 K (.ref p) w H Q:=by
 obtain⟨pv,x,y,rfl,B,d1,d2⟩:=B1 G;cases d1; cases d2;refine⟨p,pv,_,_,rfl,rfl,SqT.of F,SqT.of B,zl 3 (by decide),fun z=>(by cases z),fun _ z=>(by cases z),fun _ _ c hc=>?_⟩;have s:=A5 hc (HO.tup ([v]++[V.int m.1,V.int m.2]));exact k _ _ s (.tup A4 (.cons (J.kp s.kp) (.cons (.int _) (.cons (.int _) .nil))))
local macro_rules|`(tactic|walk_at "b")=>rdS rdA (rdB++" Qz KU Qy OM OE KR Ho OF OH Nv OG Nt Ou Ov P9 PB P5 P7 Oz P3 PQ PU PX PY eV Qx")
theorem eh(F:Fun K "joined" "joined" Dx f fd) (b_min:mg "min" = none) (b_max:mg "max" = none):FnOk P w K mg base CX0 1 f fd ["one","other"] SL:=by
 refine F.ok YR (fun vs H Q E h=>?_) (fun M A outer s H vs Q E hr h=>?_)
 ·obtain⟨x,y,o,t,rfl,_⟩:=h;rfl
 obtain⟨x,y,o,t,rfl,hx,hy,q⟩:=h;refine⟨_,(A6 (AK (AC Jv (A0 0 rfl IR) Bp (AE _)) (A7 (AG (A0 1 rfl IS))) AL)
 (A6 (AK (AC Jv (A0 1 rfl IS) Bp (AE _)) (A7 (AG (A0 0 rfl IR))) AL)
 (A7 (AG (AI (A1 (Aq (NK rfl) YT b_min Kt (A1 (A9 ix_tup (A0 0 rfl IR) A3 (fun _ _=>rfl)) (A1 (A9 ix_tup (A0 1 rfl IS) A3 (fun _ _=>rfl)) A2)) L7 L1) (A1 (Aq (NJ rfl) YS b_max Ks (A1 (A9 ix_tup (A0 0 rfl IR) A3 (fun _ _=>rfl)) (A1 (A9 ix_tup (A0 1 rfl IS) A3 (fun _ _=>rfl)) A2)) L6 L0) A2))))))),AB fun N1 B=>?_⟩
 cases o with
 |none=>
  have hx:x=.non:=hx;subst hx;walk_at "b";exact q _ _ (Same.refl _) hy
 |some m=>
  obtain⟨a,Z,U,rfl,ha,d1,d2⟩:=B1 (show Dt H x (.tup [.int m.1,.int m.2]) from hx);obtain⟨c,R,O,rfl,hc,J,G⟩:=B1 (show Dt H y (.tup [.int t,.int t]) from hy);cases d1; cases d2; cases J; cases G;walk_at "b";rw[B];walk_at "b";refine⟨_,SqT.of ha,_,rfl,_,SqT.of hc,_,rfl,_,_,⟨rfl,rfl⟩,_,SqT.of ha,_,rfl,_,SqT.of hc,_,rfl,_,_,⟨rfl,rfl⟩,zl 2 (by decide),fun p3 z=>q _ _ (A5 z _) (.tup A4 (.cons (.int _) (.cons (.int _) .nil)))⟩
theorem fA(F:Fun K "exact" "exact" BU f fd) (b_sorted:mg "sorted" = none) (c_all_worths:Callee P w K mg base "all_worths" ["program"] 1 EG) (c_traced:Callee P w K mg base "traced" ["program","worths"] 22 (Rj p2)) (c_joined:Callee P w K mg base "joined" ["one","other"] 1 SL):FnOk P w K mg base CX0 23 f fd ["program"] (SM p2):=by
 refine F.ok sc_exact (fun vs H Q E h=>?_) (fun il A outer s H vs Q E hr h=>?_)
 ·obtain⟨gv,rows,b,g',rfl,_⟩:=h;rfl
 obtain⟨gv,rows,b,g',rfl,dg,fc,fV,gG,gZ,hT,q⟩:=h;obtain⟨gp,hG,_,_⟩:=GQ fc;have hW:okW 4 b:=E9 (CI fV);refine⟨_,(A6 (AN (i:=1) sc_exact.nd rfl Yh Nu (AF rfl))
 (A6 (BD y0m rfl (BZ (AH c_all_worths hr (by lia) (A1 (A0 0 rfl QF) A2) Yd IL)) (AO (i:=2) sc_exact.nd rfl Yk)
 (A7 (BD y0m rfl (BZ (AH c_traced hr (by lia) (A1 (A0 0 rfl QF) (A1 (A0 2 rfl Yl) A2)) Yg X5)) (BY (n:=2) rfl (Aa (AO (i:=3) sc_exact.nd rfl Yi) (Aa (AO (i:=4) sc_exact.nd rfl Yj) BP)))
 (A7 (HY hr.units1 (A0 1 rfl LP) (A0 3 rfl QE) (AH c_joined hr (by lia) (A1 (UX hr.units1 (A0 1 rfl LP) (A0 3 rfl QE) ⟨rfl,rfl,rfl,rfl⟩) (A1 (AI (A1 (A0 4 rfl QG) (A1 (A0 4 rfl QG) A2))) A2)) Ye X0) (AF rfl))))))
 (A7 (AG (Cb ["path","had"] [none,some 1] rfl (CompS.of (by rfl)) (BZ (Aq (W9 rfl) Yf b_sorted D9 (A1 (A0 1 rfl LP) A2) DB DA)) (fun _ _ _ _ _=>(AO (i:=0) (show List.Nodup (["path","had"]:List Str) from by decide+kernel) rfl (Or.inl rfl))) (fun _ _ _ _ _=>D2) (fun _ _ _ _ _=>(AA (opK (r:=C0) (K:=K) Am rfl) (AI (A1 (Ae (i:=0) rfl (by walk_at "vc") IN IF) A2)) (EX hr.units1 (Ae (i:=1) rfl (by walk_at "vc") Wv Wa) (Ae (i:=0) rfl (by walk_at "vc") IN IF) (fun _ _=>rfl))))))))),AB fun N1 e1=>?_⟩
 walk_at "b";intro d hd;have s1:=A5 hd (HO.dT []);have gF:(upd H d (HO.dT [])) d=some (.dT []):=A4;generalize upd H d (HO.dT [])=H1 at s1 gF |-;rw[e1];refine AB fun N2 e2=>?_;walk_at "b";refine⟨gv,rows,_,rfl,dg.kp s1.kp,fc,fun l0 H2 us s2 ie fY gL=>?_⟩;walk_at "b";refine⟨⟨_,SqL.of fY⟩,?_⟩;have gm:=s1.trans s2;have hZ:=dg.kp gm.kp;have gI:=hT.same gm;have fg:=s2 _ _ gF;obtain⟨qs,fu⟩:=gI.tbl;have gO:d≠p2:=AM fg fu (by intro z; cases z);have kC:∀B,SameC d p2 H2 B->Kp H2 B:=fun B sc=>⟨fun b xs e=>sc b _ (AM e fg (by intro z; cases z)) (AM e fu (by intro z; cases z)) e,fun b xs e=>⟨xs,sc b _ (AM e fg (by intro z; cases z)) (AM e fu (by intro z; cases z)) e⟩⟩;have gY:∀B,SameC d p2 H2 B->B l0=some (.lst us):=fun B sc=>sc _ _ (AM fY fg (by intro z; cases z)) (AM fY fu (by intro z; cases z)) fY;have gS:us.length=(WS rows).length:=by rw[gL.length,y4]
 refine Da (xs:=us) (ExO H2 d p2 gv rows b) ?s ?l ?t ?d
 case s=>exact⟨[],_,_,_,rfl,SameC.refl _,gI,fg,KeyI.nil,fun t h=>absurd h (by simp)⟩
 case l=>
  rintro i σ B _ ⟨M,_,_,_,rfl,sc,_,_⟩;exact SqL.of (gY B sc)
 case t=>
  rintro i y σ B hy ⟨M,_,_,_,rfl,sc,gb,fk⟩;obtain⟨wl,ft,hX⟩:=BV gL hy;have gD:=gp wl (yw ft);have kc:=kC B sc;have ii:i<9:=by have:=(zzS ft).1; lia
  have g9:(evP rows b wl).2.2.length+1<ym:=Rl fV [] 0 (stB [] rows wl);have ik:(AR rows b ((WS rows).take i)).length+(evP rows b wl).2.2.length+1<ym:=by
   have:=Ix (rows:=rows) fV gG (W:=(WS rows).take (i+1)) (by rw[y04]; lia);rw[Ax ft,Iw,yc] at this;exact this
  walk_at "b";refine⟨gv,y,rows,b,wl,g',rfl,hZ.kp kc,hX.kp kc,fc,gD,hW,gZ,g9,gb,fun l5 ys H5 gk ic hJ gn gK=>?_⟩;walk_at "b";refine⟨⟨_,SqL.of gn⟩,?_⟩;have k5:Kp B H5:=gk.tab gb;have R:H5 d=some (.dT (kvT M)):=gk _ _ gO fk.1;have gJ:=fk.kp k5 R;have gN:l5≠d:=AM gn R (by intro z; cases z);have gP:ys.length=(evP rows b wl).2.2.length:=by rw[gK.length,y4]
  refine Da (xs:=ys) (ExN H5 d gv y (AR rows b ((WS rows).take i)) (evP rows b wl).2.2) ?S ?L ?T ?D
  case S=>exact⟨M,_,_,rfl,fun _ _ _ e=>e,by rw[y26,y0x]; exact gJ⟩
  case L=>
   rintro j σ Hd _ ⟨M,_,_,rfl,sd,_⟩;exact SqL.of (sd _ _ gN gn)
  case D=>
   rintro σ Hd ⟨G,_,_,rfl,sd,J⟩;walk_at "b";rw[gP,y0i] at J;refine⟨G,_,_,_,rfl,sc.trans ((SameC.two gk).trans (SameC.one sd)),hJ.but sd (SK R dT.qual).1 (SK R dT.qual).2,?_⟩;rw[Ax ft,Iw];exact J
  case T=>
   rintro j z σ Hd hz ⟨G,_,_,rfl,sd,J⟩;obtain⟨r,gx,dr⟩:=BV gK hz;obtain⟨ra,pv,wv,rfl,gz,t0,t1⟩:=B1 dr;cases t1;obtain⟨pa,rfl,fz⟩:=FB t0;have gy:=sd _ _ (AM gz R (by intro z; cases z)) gz;have gc:=sd _ _ (AM fz R (by intro z; cases z)) fz;have gt:=J.1;have ig:=(zzS gx).1;walk_at "b";refine⟨_,SqT.of gy,rfl,_,_,rfl,_,_,rfl,rfl,.inr ⟨_,.inl gt⟩,_,DGet.t gt (by rw[FC]; exact gc),by decide,fun q6 gW=>?_⟩;have s6:=A5 gW (HO.tup [V.int r.2,V.int r.2]);rw[EI];refine⟨_,_,(Ah G r.1).map (·.2),r.2,rfl,?_,.tup A4 (.cons (.int _) (.cons (.int _) .nil)),fun v7 H7 s7 d7=>?_⟩
   ·cases hg:Ah G r.1 with
    |none=>rfl
    |some x=>exact((J.2.2 _ (FA hg)).1).kp s6.kp
   have fq:=s6.trans s7;have O:=fq _ _ gt;have fX:(kvT G).length<ym:=by
    have h1:=J.2.1.2.2;unfold kvT;rw[y4];rw[yc,y04] at h1;lia
   refine⟨_,DPut.t O (by rw[FC]; exact fq _ _ gc) fX,?_⟩;have Z:SameB d H7 (upd H7 d (HO.dT (An (kvT G) (r.1.map Sum.inl) v7))):=SameB.upd;have kU:=fq.kp.trans (Kp.but Z O (Mm _));refine⟨B7 G r.1 v7 (jn ((Ah G r.1).map (·.2)) r.2),_,_,rfl,sd.tr ((SameB.of fq).tr Z),?_⟩;rw[Ax gx,<- yn];exact J.put r kU (d7.kp (Kp.but Z O (Mm _))) (by rw[A4,SD])
 case d=>
  rintro σ B ⟨M,_,_,_,rfl,sc,gb,fk⟩;rw[gS,y0i] at fk;obtain⟨gE,fh,gH⟩:=fk;show N2 _ _;rw[e2];walk_at "b";have ij:(AR rows b (WS rows)).length+1<ym:=Ix fV gG hG;have gC:(M.map (·.1)).length<ym:=by have:=fh.2.2; rw[y4]; lia
  refine⟨_,.inl gE,M.map (·.1),by unfold kvT; rw[y09,y09]; rfl,fun p hp=>?_,y12 gC,fun l7 vs ps gB fw gX dvs=>⟨⟨_,SqL.of A4⟩,?_⟩⟩
  ·obtain⟨r,gT,e⟩:=List.mem_map.mp ((fh.2.1 p).mp hp);rw[<- e];exact SI rows b _ r gT
  have s7:=A5 gB (HO.lst vs);have O:=s7 _ _ gE;have fX:(upd B l7 (HO.lst vs)) l7=some (.lst vs):=A4;have gf:=dvs.kp s7.kp;have ge:∀t∈M,Dt (upd B l7 (HO.lst vs)) t.2.1 (pmD t.2.2):=fun t ht=>(gH t ht).1.kp s7.kp;have gR:vs.length=ps.length:=by rw[dvs.length,y4]
  have gM:SameB p2 H B:=fun a o n e=>sc a o (AS e hd) n (gm _ _ e);have gj:SameB p2 H (upd B l7 (HO.lst vs)):=gM.tr (SameB.of s7);have gu:=gb.same s7;generalize upd B l7 (HO.lst vs)=U at O fX gf ge gj gu |-;have ib:ps.length<ym:=by rw[fw.length_eq]; exact gC
  refine Dc (K:=K) (a:=l7) (xs:=vs) (ExC U d (fun p=>((Ah M p).map (·.2)).getD (0,0)) ps) ⟨Same.refl _,⟨_,rfl⟩,by rw[y26]; exact .nil,yf _⟩ (by lia) ?_ ?_ ?_ ?_
  ·rintro i ys gh H' ⟨_,_,_,hy⟩;exact hy
  ·rintro i ys gh H' _ ⟨Z,_,_⟩;exact SqL.of (Z _ _ fX)
  ·rintro i ys v' gh H' gQ ⟨Z,⟨t,rfl⟩,dy,hy⟩;obtain⟨p,gA,dp⟩:=BV gf gQ;obtain⟨pa,rfl,fz⟩:=FB dp;obtain⟨t,ht,ep⟩:=List.mem_map.mp (fw.mem_iff.mp (yw gA));have fZ:Ah M p=some t.2:=by rw[<- ep]; exact GU fh.1 t ht
   walk_at "b";refine⟨by decide,fun q8 gU=>?_⟩;have s8:=A5 gU (HO.tup [V.ref pa]);have u8:=Z.trans s8;have hg:=DGet.t (u8 _ _ O) (b:=pa) (k:=p.map Sum.inl) (by rw[FC]; exact u8 _ _ fz);rw[EI,fZ] at hg;refine⟨_,hg,eg A4 (dp.kp u8.kp) ((ge t ht).kp u8.kp) fun r9 H9 s9 d9=>?_⟩;have u9:=s8.trans s9;refine⟨Z.trans u9,⟨_,rfl⟩,?_,by rw[yc,y0d]; lia⟩;rw[Ax gA,yp];refine(dy.kp u9.kp).append (.cons ?_ .nil);show Dt H9 r9 (EJ p (((Ah M p).map (·.2)).getD (0,0)));rw[fZ];exact d9
  ·rintro ys gh H' ⟨Z,_,dy,hy⟩ l9 fe;have s9:=A5 fe (HO.lst ys);rw[gR,y0i] at dy;have u9:=Z.trans s9;refine q l9 ys ps (fun p=>((Ah M p).map (·.2)).getD (0,0)) _ (gj.tr (SameB.of u9)) (gu.same u9) ?_ A4 gX (fun p=>(fw.mem_iff).trans (fh.2.1 p)) (fun p hp=>?_) (dy.kp s9.kp)
   ·cases hh:H l9 with
    |none=>rfl
    |some o=>
     by_cases e:l9=p2
     ·obtain⟨t7,gw⟩:=gu.tbl;rw[<- e] at gw;rw[Z _ _ gw] at fe;cases fe
     ·rw[Z _ _ (gj _ _ e hh)] at fe;cases fe
   ·obtain⟨t,ht,ep⟩:=List.mem_map.mp (fw.mem_iff.mp hp);have fZ:Ah M p=some t.2:=by rw[<- ep]; exact GU fh.1 t ht
    show MM (((Ah M p).map (·.2)).getD (0,0)) _;rw[fZ,<- ep];exact(gH t ht).2
theorem valN_none:As kas k=none↔k∉kas.map (·.1):=by
 unfold As;rw[y4n,List.find?_eq_none];constructor
 ·intro h hm;obtain⟨t,q,e⟩:=List.mem_map.mp hm;exact h t q (decide_eq_true e)
 ·intro h t q e;exact h (List.mem_map.mpr ⟨t,q,of_decide_eq_true e⟩)
theorem Mo(h:As kas k=some v):∃a,(k,a,v)∈kas:=by
 unfold As at h;obtain⟨t,q,rfl⟩:=Option.map_eq_some_iff.mp h;have e:t.1=k:=by simpa using List.find?_some q
 exact⟨t.2.1,e ▸ List.mem_of_find?_eq_some q⟩
theorem SN:∀{q:NKs},(q.map (·.1)).Nodup->∀t∈q,As q t.1=some t.2.2
 |[],_,t,h=>by simp at h
 |a::q,B,t,h=>by
  rw[yj,y3p] at B;unfold As;rw[y0o];rcases List.mem_cons.mp h with rfl|h
  ·simp
  ·have F:¬ a.1=t.1:=fun z:a.1=t.1=>B.1 (z ▸ List.mem_map.mpr ⟨t,h,rfl⟩);have:=SN B.2 t h;unfold As at this;simpa [F] using this
theorem fB(q:NKs)(k:WP)(a:Addr)(v:V):(BB q k a v).map (·.1)=if(As q k).isSome=true then q.map (·.1) else q.map (·.1)++[k]:=by
 unfold BB;split
 ·rw[y09];refine y16 fun t _=>?_;show(if t.1=k then(t.1,t.2.1,v) else t).1=t.1;split<;>rfl
 ·rw[yp];rfl
theorem Mp(h:t∈BB kas k a v):(t.1=k/\t.2.2=v/\(t.2.1=a\/∃u∈kas,u.1=k/\u.2.1=t.2.1))\/(t∈kas/\t.1≠k):=by
 unfold BB at h;split at h
 ·obtain⟨u,hu,rfl⟩:=List.mem_map.mp h;by_cases e:u.1=k
  ·rw[if_pos e]; exact .inl ⟨e,rfl,.inr ⟨u,hu,e,rfl⟩⟩
  ·rw[if_neg e]; exact .inr ⟨hu,e⟩
 ·rename_i q;rcases List.mem_append.mp h with h|h
  ·refine .inr ⟨h,fun e=>q ?_⟩;cases hg:As kas k with
   |some _=>rfl
   |none=>exact absurd (List.mem_map.mpr ⟨t,h,e⟩) (valN_none.mp hg)
  ·rw[List.mem_singleton.mp h];exact .inl ⟨rfl,rfl,.inl rfl⟩
theorem SO(h:Dt H v (.tup [.str x,AJ p])):∃a,v=.ref a/\PairAt H (x,p) a:=by
 obtain⟨a,z,q,rfl,ha,d1,d2⟩:=B1 h;cases d1;obtain⟨b,rfl,hb⟩:=FB d2;exact⟨a,rfl,b,ha,hb⟩
theorem SQ(h:PairAt H k a):Dt H (.ref a) (.tup [.str k.1,AJ k.2]):=by
 obtain⟨b,h1,h2⟩:=h;exact .tup h1 (.cons (.str _) (.cons (.tup h2 (Dl H k.2)) .nil))
abbrev rfd(rows:List Rw)(b:List D)(k:WP)(ws:List Int):Bool:=decide ((evP rows b ws).1=some k)
def KwI(rows:List Rw)(b:List D)(q:NKs)(W:List (List Int)):Prop:=(q.map (·.1)).Nodup/\(∀k,k∈q.map (·.1)↔∃ws∈W,(evP rows b ws).1=some k)/\q.length<=W.length
theorem KwI.nil(rows:List Rw)(b:List D):KwI rows b [] []:=⟨y43,fun k=>⟨fun h=>absurd h (by simp),fun⟨ws,h,_⟩=>absurd h (by simp)⟩,yf _⟩
theorem KwI.skip(h:KwI rows b kas W)(e:∀k,(evP rows b ws).1=some k->k∈kas.map (·.1)):KwI rows b kas (W++[ws]):=by
 obtain⟨h1,h2,z⟩:=h;refine⟨h1,fun k=>⟨fun hk=>?_,fun⟨u,hu,q⟩=>?_⟩,by rw[yc]; lia⟩
 ·obtain⟨u,hu,q⟩:=(h2 k).mp hk;exact⟨u,y0s _ hu,q⟩
 ·rcases List.mem_append.mp hu with hu|hu
  ·exact(h2 k).mpr ⟨u,hu,q⟩
  ·rw[List.mem_singleton.mp hu] at q;exact e k q
theorem KwI.put(h:KwI rows b kas W)(e:(evP rows b ws).1=some k)(a:Addr)(v:V):KwI rows b (BB kas k a v) (W++[ws]):=by
 obtain⟨h1,h2,J⟩:=h;have F:(BB kas k a v).length=((BB kas k a v).map (·.1)).length:=by rw[y4]
 unfold KwI;rw[F,fB];have base:∀j,(∃u∈W++[ws],(evP rows b u).1=some j)↔j∈kas.map (·.1)\/j=k:=fun j=>by
  constructor
  ·rintro⟨u,hu,B⟩;rcases List.mem_append.mp hu with hu|hu
   ·exact .inl ((h2 j).mpr ⟨u,hu,B⟩)
   ·rw[List.mem_singleton.mp hu,e] at B;exact .inr (y0l B).symm
  ·rintro(G|rfl)
   ·obtain⟨u,hu,B⟩:=(h2 j).mp G;exact⟨u,y0s _ hu,B⟩
   ·exact⟨ws,y08 _ (.head _),e⟩
 split
 ·rename_i q;have hm:k∈kas.map (·.1):=by
   cases hg:As kas k with
   |none=>rw[hg] at q; cases q
   |some x=>
    obtain⟨a,ha⟩:=Mo hg;exact List.mem_map.mpr ⟨_,ha,rfl⟩
  refine⟨h1,fun j=>?_,by rw[y4,yc]; lia⟩;rw[base];exact⟨.inl,fun z=>z.elim id fun e=>e ▸ hm⟩
 ·rename_i q;have hm:k∉kas.map (·.1):=valN_none.mp (by
   cases hg:As kas k with
   |none=>rfl
   |some x=>rw[hg] at q; exact absurd rfl q)
  refine⟨?_,fun j=>by rw[base,y33,y13],by rw[yc,yc,y4]; simp; lia⟩;rw[y4a];exact⟨h1,y2g _ _,fun a ha b hb e=>by rw[List.mem_singleton.mp hb] at e; exact hm (e ▸ ha)⟩
theorem KwI.word(h:KwI rows b kas W):∀k∈kas.map (·.1),k.1∈three:=fun k hk=>by
 obtain⟨ws,_,e⟩:=(h.2.1 k).mp hk;have:=Cv b [] 0 _ k e;simp only[B6,y0f,y00,or_false] at this;rcases this with e|e|e<;>(rw[e]; decide+kernel)
theorem fC(hw:∀e,o.1=some e->e.1∈B6)(hk:o.1=none->∀p∈o.2.1,p.1∈pool)(h1:Cu o H1 r1)(h2:Cu o H2 r2):∃d,Dt H1 r1 d/\Dt H2 r2 d/\Fine 4 d/\(∀e,o.1=some e->d=.tup [.str "refused",.str e.1,AJ e.2])/\(o.1=none->∃q:Cnt,d=.tup [.str "told",.tup (q.map D7)]):=by
 unfold Cu at h1 h2;rcases o with⟨G,cc,Z⟩;cases G with
 |some e=>
  refine⟨_,h1,h2,?_,fun M B=>(by cases B; rfl),fun z=>(by cases z)⟩;show Fine 4 (.tup [.str "refused",.str e.1,AJ e.2]);refine Cn fun d hd=>?_;simp only[y0f,y00,or_false] at hd;rcases hd with rfl|rfl|rfl
  ·exact DM _ (by decide+kernel)
  ·exact DM _ (Rq _ (hw e rfl))
  ·exact(DN e.2).mono (by decide)
 |none=>
  obtain⟨q,F,U,a3⟩:=h1;obtain⟨ns,R,b2,O⟩:=h2;obtain rfl:q=ns:=Rr (fun x=>F.mem_iff.trans R.mem_iff.symm) U b2;refine⟨_,a3,O,?_,fun M B=>(by cases B),fun _=>⟨q,rfl⟩⟩;refine Cn fun d hd=>?_;simp only[y0f,y00,or_false] at hd;rcases hd with rfl|rfl
  ·exact DM _ (by decide+kernel)
  ·refine(Cn (n:=2) fun d hd=>?_);obtain⟨p,J,rfl⟩:=List.mem_map.mp hd;refine Cn (n:=1) fun d hd=>?_;simp only[y0f,y00,or_false] at hd;rcases hd with rfl|rfl
   ·exact DM _ (bq _ (hk rfl p (F.mem_iff.mp J)))
   ·exact Ik _ _
theorem fD(G:okW 4 b)(q:okRows rows)(h:Cu (evP rows b ws) H r)(k:WP):∃d,Dt H r d/\Fine 4 d/\PyData.eqv d.dat (Dm.tup [.str "refused",.str k.1,AJ k.2]).dat=decide ((evP rows b ws).1=some k):=by
 obtain⟨d,d1,_,O,M,J⟩:=fC (fun e F=>Cv b [] 0 _ e F) (fun U p B=>(Cs b 4 [] 0 _ G (GN rows ws [] (Iu q) KeyOk.nil)).2 p B) h h;refine⟨d,d1,O,?_⟩;rcases z:(evP rows b ws).1 with _|e
 ·obtain⟨R,rfl⟩:=J z;simp[Dm.dat,Aj,PyData.eqv,PyData.eqvAll]
 ·obtain rfl:=M e z;obtain⟨x,p⟩:=k;obtain⟨y,p2⟩:=e;simp only[Dm.dat,Aj,AJ,PyData.eqv,PyData.eqvAll,RL,beq_self_eq_true,y2i,Bool.and_true,y30,Prod.mk.injEq,Bool.decide_and];rfl
def SS(P:yq)(w:y0h)(z:Addr):Sp:=fun vs H Q _=>∃(B:V) (rows:List Rw) (b:List D) (g':List Str),vs=[B]/\Dt H B (.tup [.tup (rows.map BM),.tup (AU b)])/\okRows rows/\okB 3 b/\kbB (rows.map (·.1)) b=some g'/\TabAt z Bv dR.qual H/\
 ∀(d:Addr) (q:NKs) (H':Hp),SameB z H H'->TabAt z Bv dR.qual H'->H d=none->H' d=some (dN P w d q)->KwI rows b q (WS rows)->(∀p∈q,PairAt H' p.1 p.2.1)->Q (.ref d) H'
def ST(q:Addr):Sp:=fun vs H Q _=>∃(z:V) (rows:List Rw) (b:List D) (g':List Str),vs=[z]/\Dt H z (.tup [.tup (rows.map BM),.tup (AU b)])/\okRows rows/\okB 3 b/\kbB (rows.map (·.1)) b=some g'/\TabAt q Bv dR.qual H/\
 ∀(l:Addr) (zs:List WA) (H':Hp),SameB q H H'->TabAt q Bv dR.qual H'->H' l=some (.lst (zs.map fun p=>V.ref p.2))->zs.Pairwise (fun x y=>ltW x.1 y.1=true)->(∀k,k∈zs.map (·.1)↔∃ws∈WS rows,(evP rows b ws).1=some k)->(∀p∈zs,PairAt H' p.1 p.2)->Q (.ref l) H'
def wsD(H:Hp)(r:V):Option (List Int)->Prop
 |none=>r=.non
 |some ws=>Dt H r (AJ ws)
def SU(q:Addr):Sp:=fun vs H Q _=>∃(z pv:V) (rows:List Rw) (b:List D) (g':List Str) (k:WP),vs=[z,.str k.1,pv]/\Dt H z (.tup [.tup (rows.map BM),.tup (AU b)])/\Dt H pv (AJ k.2)/\PyData.strOk k.1=true/\okRows rows/\okB 3 b/\kbB (rows.map (·.1)) b=some g'/\TabAt q Bv dR.qual H/\
 ∀(r:V) (H':Hp),SameB q H H'->TabAt q Bv dR.qual H'->wsD H' r ((WS rows).find? (rfd rows b k))->Q r H'
def WrO(P:yq)(w:y0h)(H1:Hp)(d B:Addr)(J:V)(rows:List Rw)(b:List D)(i:Nat)(σ:St)(z:Hp):Prop:=∃(q:NKs) (G F:Option V),σ=[some J,some (.ref d),G,F]/\SameC d B H1 z/\TabAt B Bv dR.qual z/\z d=some (dN P w d q)/\KwI rows b q ((WS rows).take i)/\∀p∈q,PairAt z p.1 p.2.1
def WtO(H1:Hp)(q:Addr)(F pv:V)(k:WP)(rows:List Rw)(b:List D)(i:Nat)(σ:St)(z:Hp):Prop:=∃(B:Option V),σ=[some F,some (.str k.1),some pv,B]/\SameB q H1 z/\TabAt q Bv dR.qual z/\∀ws∈(WS rows).take i,rfd rows b k ws=false
theorem SV{α:Type}{f:α->Bool}:∀{l:List α} {i:Nat} {x:α},l[i]?=some x->(∀y∈l.take i,f y=false)->f x=true->l.find? f=some x
 |[],i,x,h,_,_=>by simp at h
 |a::l,0,x,h,_,hx=>by
  cases h;rw[y0o,hx]
 |a::l,i+1,x,h,q,hx=>by
  rw[y0o,q a (.head _)];exact SV (l:=l) (i:=i) h (fun y hy=>q y (.tail _ hy)) hx
theorem fE(F:Fun K "ways_refused" "ways_refused" C4 f fd) (c_all_worths:Callee P w K mg base "all_worths" ["program"] 1 EG) (c_run:Callee P w K mg base "run" ["program","worths"] 22 (Mc p1)):FnOk P w K mg base CX0 23 f fd ["program"] (SS P w p1):=by
 refine F.ok sc_ways_refused (fun vs H Q E h=>?_) (fun gy A outer s H vs Q E hr h=>?_)
 ·obtain⟨gv,rows,b,g',rfl,_⟩:=h;rfl
 obtain⟨gv,rows,b,g',rfl,dg,R,gk,gn,hT,q⟩:=h;obtain⟨fu,gx,_,_⟩:=GQ R;have hW:okW 4 b:=E9 (CI gk);refine⟨_,(A6 (AN (i:=1) sc_ways_refused.nd rfl Ys P4 (AF rfl))
 (A6 (BD y0m rfl (BZ (AH c_all_worths hr (by lia) (A1 (A0 0 rfl QI) A2) Yq IL)) (AO (i:=2) sc_ways_refused.nd rfl Yu)
 (A6 (AN (i:=3) sc_ways_refused.nd rfl Yt (AH c_run hr (by lia) (A1 (A0 0 rfl QI) (A1 (A0 2 rfl Yv) A2)) Yr Pk) (AF rfl))
 (A7 (AK (AC (gEq hr.units) (A9 ix_tup (A0 3 rfl QJ) A3 (fun _ _=>rfl)) AD (AE _)) (A7 (WC hr.units (A0 1 rfl QH) (NY O3 (A0 3 rfl QJ) (NX A3) NW) EL (AF rfl))) AL))))
 (A7 (AG (A0 1 rfl QH))))),AB fun N1 e1=>?_⟩
 walk_at "b";intro d hd;have s1:=A5 hd (dN P w d []);have gb:(upd H d (dN P w d [])) d=some (dN P w d []):=A4;generalize upd H d (dN P w d [])=H1 at s1 gb |-;rw[e1];refine AB fun N2 e2=>?_;walk_at "b";refine⟨gv,rows,_,rfl,dg.kp s1.kp,R,fun l0 H2 us s2 gu fe gf=>?_⟩;walk_at "b";refine⟨⟨_,SqL.of fe⟩,?_⟩;have fq:=s1.trans s2;have gt:=dg.kp fq.kp;have ge:=hT.same fq;have U:=s2 _ _ gb;obtain⟨qs,fc⟩:=ge.tbl;have gh:d≠p1:=AM U fc (by intro z; cases z);have kC:∀J,SameC d p1 H2 J->Kp H2 J:=fun J sc=>⟨fun b xs e=>sc b _ (AM e U (by intro z; cases z)) (AM e fc (by intro z; cases z)) e,fun b xs e=>⟨xs,sc b _ (AM e U (by intro z; cases z)) (AM e fc (by intro z; cases z)) e⟩⟩;have gm:∀J,SameC d p1 H2 J->J l0=some (.lst us):=fun J sc=>sc _ _ (AM fe U (by intro z; cases z)) (AM fe fc (by intro z; cases z)) fe;have gj:us.length=(WS rows).length:=by rw[gf.length,y4]
 refine Da (xs:=us) (WrO P w H2 d p1 gv rows b) ?s ?l ?t ?d
 case s=>exact⟨[],_,_,rfl,SameC.refl _,ge,U,KwI.nil _ _,fun t h=>absurd h (by simp)⟩
 case l=>
  rintro i σ J _ ⟨B,_,_,rfl,sc,_,_⟩;exact SqL.of (gm J sc)
 case t=>
  rintro i y σ J hy ⟨B,_,_,rfl,sc,fh,fw,O,fz⟩;obtain⟨wl,Z,gp⟩:=BV gf hy;have fY:=fu wl (yw Z);have kc:=kC J sc;have gw:=(zzS Z).1;refine MA fun M0 f0=>?_;walk_at "b";rw[f0];refine AB fun M1 m1=>?_;walk_at "b";refine⟨gv,y,rows,b,wl,g',rfl,gt.kp kc,gp.kp kc,R,fY,hW,gn,fh,fun r3 H3 fk gc M=>?_⟩;have k3:Kp J H3:=fk.tab fh;have fZ:H3 d=some (dN P w d B):=fk _ _ gh fw;have G:∀p∈B,PairAt H3 p.1 p.2.1:=fun p hp=>(fz p hp).kp k3;have fV:SameC d p1 H2 H3:=sc.trans (SameC.two fk);rw[m1];unfold Cu at M;rcases e3:(evP rows b wl).1 with _|k
  ·rw[e3] at M;obtain⟨ms,_,_,dr⟩:=M;obtain⟨ra,x1,x2,rfl,ft,t1,t2⟩:=B1 dr;cases t1;walk_at "b";refine⟨_,SqT.of ft,_,AW,_,Ak,?_⟩;rw[if_neg (by decide)];refine⟨B,_,_,rfl,fV,gc,fZ,?_,G⟩;rw[Ax Z];exact O.skip fun k z=>by rw[e3] at z; cases z
  ·rw[e3] at M;obtain⟨ra,x1,x2,x3,rfl,ft,t1,t2,t3⟩:=Bt (show Dt H3 r3 (.tup [.str "refused",.str k.1,AJ k.2]) from M);cases t1;walk_at "b";refine⟨_,SqT.of ft,_,AW,_,Ak,?_⟩;rw[if_pos (by decide)];refine slD M fun z4 H4 s4 d4=>?_;obtain⟨a4,rfl,fX⟩:=SO (show Dt H4 z4 (.tup [.str k.1,AJ k.2]) from d4);have fg:=s4 _ _ fZ;refine⟨_,_,_,rfl,fg,fun p hp=>(G p hp).kp s4.kp,fX,?_,?_⟩
   ·have:=O.2.2;rw[y04] at this;exact BH (by lia)
   ·have sU:SameB d H4 (upd H4 d (dN P w d (BB B (k.1,k.2) a4 (.bl true)))):=SameB.upd;have kU:=Kp.but sU fg (Mn P w d B);refine⟨BB B k a4 (.bl true),_,_,rfl,fV.trans ((SameC.of s4).trans (SameC.one sU)),(gc.same s4).but sU (Iy fg dR.qual).1 (Iy fg dR.qual).2,A4,?_,fun p hp=>?_⟩
    ·rw[Ax Z];exact O.put e3 _ _
    ·rcases Mp hp with⟨e5,_,e6|⟨u,hu,e6,e7⟩⟩|⟨hp,_⟩
     ·rw[e5,e6]; exact fX.kp kU
     ·rw[e5,<- e7]; exact(e6 ▸ ((G u hu).kp s4.kp)).kp kU
     ·exact((G p hp).kp s4.kp).kp kU
 case d=>
  rintro σ J ⟨B,_,_,rfl,sc,fh,fw,O,fz⟩;rw[gj,y0i] at O;show N2 _ _;rw[e2];walk_at "b";exact q d B J (fun a o n e=>sc a o (AS e hd) n (fq _ _ e)) fh hd fw O fz
theorem fF(F:Fun K "refusals" "refusals" Ej f fd) (b_sorted:mg "sorted" = none) (c_ways_refused:Callee P w K mg base "ways_refused" ["program"] 23 (SS P w p1)):FnOk P w K mg base CX0 24 f fd ["program"] (ST p1):=by
 refine F.ok Ym (fun vs H Q E h=>?_) (fun fh A outer s H vs Q E hr h=>?_)
 ·obtain⟨gv,rows,b,g',rfl,_⟩:=h;rfl
 obtain⟨gv,rows,b,g',rfl,dg,z,U,Z,hT,q⟩:=h;obtain⟨_,fg,_,_⟩:=GQ z;refine⟨_,(A7 (AG (Aq (WM rfl hr.units) Yn b_sorted D9 (A1 (AH c_ways_refused hr (by lia) (A1 (A0 0 rfl Yp) A2) Yo X6) A2) DB DA))),?_⟩;walk_at "b";refine⟨gv,rows,b,g',rfl,dg,z,U,Z,hT,fun d O H' sB fc fe hd B G=>?_⟩;walk_at "b";refine⟨O,.inl hd,G,fun p J=>B.word _ (List.mem_map.mpr ⟨p,J,rfl⟩),by have:=B.2.2; lia,fun l zs hl J hz=>?_⟩;have M:=A5 hl (HO.lst (zs.map fun p=>V.ref p.2));refine q l zs _ (sB.tr (SameB.of M)) (fc.same M) A4 hz (fun k=>?_) fun p R=>?_
 ·rw[<- B.2.1 k,(J.map (·.1)).mem_iff,y09];rfl
 ·obtain⟨u,hu,e⟩:=List.mem_map.mp (J.mem_iff.mp R);rw[<- e];exact(G u hu).kp M.kp
theorem fG(F:Fun K "witness" "witness" CT f fd) (c_all_worths:Callee P w K mg base "all_worths" ["program"] 1 EG) (c_run:Callee P w K mg base "run" ["program","worths"] 22 (Mc p1)):FnOk P w K mg base CX0 23 f fd ["program","word","path"] (SU p1):=by
 refine F.ok sc_witness (fun vs H Q E h=>?_) (fun gf A outer s H vs Q E hr h=>?_)
 ·obtain⟨gv,pv,rows,b,g',k,rfl,_⟩:=h;rfl
 obtain⟨gv,pv,rows,b,g',k,rfl,dg,dp,fu,B,fV,fY,hT,q⟩:=h;obtain⟨R,ge,_,_⟩:=GQ B;have hW:okW 4 b:=E9 (CI fV);refine⟨_,(A6 (BD y0m rfl (BZ (AH c_all_worths hr (by lia) (A1 (A0 0 rfl QK) A2) Yw IL)) (AO (i:=3) sc_witness.nd rfl Yy)
 (A7 (AK (AC (dEq hr.units) (AH c_run hr (by lia) (A1 (A0 0 rfl QK) (A1 (A0 3 rfl QL) A2)) Yx Pk) (AI (A1 AD (A1 (A0 1 rfl Z0) (A1 (A0 2 rfl Yz) A2)))) (AE _)) (A7 (AG (A0 3 rfl QL))) AL)))
 (A7 (AG Bp))),AB fun N1 e1=>?_⟩
 walk_at "b";refine⟨gv,rows,_,rfl,dg,B,fun l0 H2 us s2 gc O fq=>?_⟩;walk_at "b";refine⟨⟨_,SqL.of O⟩,?_⟩;have U:=hT.same s2;have ft:us.length=(WS rows).length:=by rw[fq.length,y4]
 refine Da (xs:=us) (WtO H2 p1 gv pv k rows b) ?s ?l ?t ?d
 case s=>exact⟨_,rfl,fun _ _ _ e=>e,U,fun ws h=>absurd h (by simp)⟩
 case l=>
  rintro i σ Hc _ ⟨_,rfl,sc,_⟩;obtain⟨qs,fw⟩:=U.tbl;exact SqL.of (sc _ _ (AM O fw (by intro z; cases z)) O)
 case t=>
  rintro i y σ Hc hy ⟨_,rfl,sc,J,G⟩;obtain⟨wl,M,fk⟩:=BV fq hy;have fg:=R wl (yw M);have kc:Kp H2 Hc:=sc.tab U;walk_at "b";refine⟨gv,y,rows,b,wl,g',rfl,(dg.kp s2.kp).kp kc,fk.kp kc,B,fg,hW,fY,J,fun r3 H3 fe fh fX=>?_⟩;have k3:Kp Hc H3:=fe.tab J;obtain⟨dd,gb,ff,ee⟩:=fD hW B fX k;walk_at "b";refine⟨by decide,fun q4 fz=>?_⟩;have Z:=A5 fz (HO.tup [V.str "refused",V.str k.1,pv]);have fZ:Dt (upd H3 q4 (HO.tup [V.str "refused",V.str k.1,pv])) (.ref q4) (.tup [.str "refused",.str k.1,AJ k.2]):=.tup A4 (.cons (.str _) (.cons (.str _) (.cons ((((dp.kp s2.kp).kp kc).kp k3).kp Z.kp) .nil)));have f4:Fine 4 (.tup [.str "refused",.str k.1,AJ k.2]):=Cn fun d hd=>by
   simp only[y0f,y00,or_false] at hd;rcases hd with rfl|rfl|rfl
   ·exact DM _ (by decide+kernel)
   ·exact DM _ fu
   ·exact(DN k.2).mono (by decide)
  refine⟨_,⟨dd,_,gb.kp Z.kp,fZ,ff.eq (by decide),f4.eq (by decide),rfl⟩,?_⟩;rw[ee];have fc:SameB p1 H2 (upd H3 q4 (HO.tup [V.str "refused",V.str k.1,pv])):=sc.tr (fe.tr (SameB.of Z));by_cases hk:(evP rows b wl).1=some k
  ·rw[if_pos (decide_eq_true hk)];refine q _ _ ((SameB.of s2).tr fc) (fh.same Z) ?_;rw[SV M G (decide_eq_true hk)];exact((fk.kp kc).kp k3).kp Z.kp
  ·rw[if_neg (by rw[decide_eq_true_eq]; exact hk)];refine⟨_,rfl,fc,fh.same Z,fun ws hws=>?_⟩;rw[Ax M] at hws;rcases List.mem_append.mp hws with hws|hws
   ·exact G ws hws
   ·rw[List.mem_singleton.mp hws];exact decide_eq_false hk
 case d=>
  rintro σ Hc ⟨_,rfl,sc,J,G⟩;rw[ft,y0i] at G;show N1 _ _;rw[e1];walk_at "b";refine q _ _ ((SameB.of s2).tr sc) J ?_;rw[List.find?_eq_none.mpr fun x hx=>by rw[G x hx]; decide];rfl
def EK(n:Nat):Sp:=fun vs H Q _=>∃v t pv p,vs=[v,pv]/\Dt H v (T.enc t)/\Dt H pv (AJ p)/\t.deep<=n/\n<=6/\p.length+n<=100/\∀(r:Addr) (H':Hp) (xs:List V),Same H H'->H r=none->H' r=some (.lst xs)->DtA H' xs ((B2 p t).map C6)->Q (.ref r) H'
theorem fH:FnOk P w K mg base CX0 k f fd [n1,n2] (EK 0):=by
 have q:∀vs H Q E,¬ EK 0 vs H Q E:=fun vs H Q E h=>by
  obtain⟨v,t,pv,p,_,_,_,h1,_⟩:=h;cases t<;>simp[T.deep] at h1
 exact⟨fun vs H Q E h=>absurd h (q vs H Q E),fun A outer s H args us vs Q E _ _ _ _ h=>absurd h (q vs H Q E)⟩
theorem fI(F:Fun K "_law_sum_spots" "_law_sum_spots" E6 f fd) (c_law_sum_spots:Callee P w K mg base "_law_sum_spots" ["_law_expr","_law_path"] (n+1) (EK n)):FnOk P w K mg base CX0 (n+2) f fd ["_law_expr","_law_path"] (EK (n+1)):=by
 refine F.ok ae (fun vs H Q E h=>?_) (fun fZ A outer s H vs Q E hr h=>?_)
 ·obtain⟨v,t,pv,p,rfl,_⟩:=h;rfl
 obtain⟨v,t,pv,p,rfl,hd,hp,hn,fY,hl,q⟩:=h;refine⟨_,(A6 (AK (AC (gIn hr.units) (A9 ix_tup (A0 0 rfl GE) A3 (fun _ _=>rfl)) (AI (A1 AD (A1 AD A2))) (by with_unfolding_all rfl)) (A7 (AG (Ab (A1 (AI (A1 (A0 1 rfl Ib) (A1 (A0 0 rfl GE) A2))) A2)))) AL)
 (A7 (AG (AA HD (AA HD (Ab (A1 (AI (A1 (A0 1 rfl Ib) (A1 (A0 0 rfl GE) A2))) A2)) (AH c_law_sum_spots hr (by lia) (A1 (A9 ix_tup (A0 0 rfl GE) A3 (fun _ _=>rfl)) (A1 (AA Am (A0 1 rfl Ib) (AI (A1 A3 A2))) A2)) Qk Kw)) (AH c_law_sum_spots hr (by lia) (A1 (A9 ix_tup (A0 0 rfl GE) A3 (fun _ _=>rfl)) (A1 (AA Am (A0 1 rfl Ib) (AI (A1 A3 A2))) A2)) Qk Kw))))),?_⟩
 walk_at "a";have fc:∀R,Same H R->(B2 p t=[(p,t)])->2<=ym/\∀(r:Addr),R r=none->1<=ym/\∀(J:Addr),upd R r (HO.tup [pv,v]) J=none->Q (V.ref J) (upd (upd R r (HO.tup [pv,v])) J (HO.lst [V.ref r])):=fun R s0 e=>by
  refine⟨zl 2 (by decide),fun r h1=>⟨zl 1 (by decide),fun J h2=>?_⟩⟩;have s1:=A5 h1 (HO.tup [pv,v]);have Z:=A5 h2 (HO.lst [V.ref r]);refine q J _ _ (s0.trans (s1.trans Z)) ((s0.trans s1).free h2) A4 ?_;rw[e];exact .cons (.tup (Z _ _ A4) (.cons (hp.kp (s0.trans (s1.trans Z)).kp) (.cons (hd.kp (s0.trans (s1.trans Z)).kp) .nil))) .nil
 have fV:=hd;cases t with
 |num i=>
  rw[T.enc] at hd;obtain⟨a,x0,x1,rfl,ha,t0,t1⟩:=B1 hd;cases t0;refine⟨_,rfl,_,SqT.of ha,_,rfl,zl 2 (by decide),fun r0 h0=>?_⟩;refine⟨_,.inl ⟨r0,(["num","name"]:List Str).map V.str,rfl,.inr (SqT.of A4),rfl,GK _,rfl⟩,?_⟩;rw[E7,if_pos (by decide+kernel)];exact fc _ (A5 h0 _) rfl
 |nm x=>
  rw[T.enc] at hd;obtain⟨a,x0,x1,rfl,ha,t0,t1⟩:=B1 hd;cases t0;refine⟨_,rfl,_,SqT.of ha,_,rfl,zl 2 (by decide),fun r0 h0=>?_⟩;refine⟨_,.inl ⟨r0,(["num","name"]:List Str).map V.str,rfl,.inr (SqT.of A4),rfl,GK _,rfl⟩,?_⟩;rw[E7,if_pos (by decide+kernel)];exact fc _ (A5 h0 _) rfl
 |op wd ta tb=>
  rw[T.enc] at hd;obtain⟨a,x0,x1,x2,rfl,ha,t0,t1,t2⟩:=Bt hd;cases t0;refine⟨_,rfl,_,SqT.of ha,_,rfl,zl 2 (by decide),fun r0 h0=>?_⟩;refine⟨_,.inl ⟨r0,(["num","name"]:List Str).map V.str,rfl,.inr (SqT.of A4),rfl,GK _,rfl⟩,?_⟩;rw[E7,if_neg (by cases wd<;>decide+kernel)];have s0:=A5 h0 (HO.tup [V.str "num",V.str "name"]);generalize upd H r0 (HO.tup [V.str "num",V.str "name"])=R at s0 |-;have O:ta.deep<=n/\tb.deep<=n:=by
   simp only[T.deep] at hn;lia
  refine⟨zl 2 (by decide),fun r h1=>⟨zl 1 (by decide),fun J h2=>?_⟩⟩;have s1:=s0.trans (A5 h1 (HO.tup [pv,V.ref a]));have Z:=A5 h2 (HO.lst [V.ref r]);have B:=s1.trans Z;have f1:H J=none:=s1.free h2;have fu:(upd (upd R r (HO.tup [pv,V.ref a])) J (HO.lst [V.ref r])) J=some (.lst [V.ref r]):=A4;have fq:Dt (upd (upd R r (HO.tup [pv,V.ref a])) J (HO.lst [V.ref r])) (.ref r) (C6 (p,.op wd ta tb)):=.tup (Z _ _ A4) (.cons (hp.kp B.kp) (.cons (fV.kp B.kp) .nil));generalize upd (upd R r (HO.tup [pv,V.ref a])) J (HO.lst [V.ref r])=U at Z B fu fq |-;refine⟨_,rfl,_,SqT.of (B _ _ ha),_,rfl,zl 1 (by decide),fun r3 h3=>?_⟩;have s3:=A5 h3 (HO.tup [V.int 0]);refine At (hp.kp (B.trans s3).kp) Au (by simp; lia) fun z H1 s4 dz=>?_;have fk:=s3.trans s4;refine⟨x1,ta,z,p++[0],rfl,t1.kp (B.trans fk).kp,dz,O.1,by lia,by simp; lia,fun r4 H2 ys s5 f5 h5 d5=>?_⟩;walk_at "a";have fh:=fk.trans s5;have l1:=Ih (p:=p++[0]) O.1 (by lia:n<=6);have l2:=Ih (p:=p++[1]) O.2 (by lia:n<=6);have e5:ys.length=(B2 (p++[0]) ta).length:=by rw[d5.length,y4]
  refine⟨_,fh _ _ fu,_,h5,y12 (BH (by rw[e5,y0d]; lia)),fun r6 h6=>?_⟩;have s6:=A5 h6 (HO.lst ([V.ref r]++ys));have G:=fh.trans s6;have ft:(upd H2 r6 (HO.lst ([V.ref r]++ys))) r6=some (.lst ([V.ref r]++ys)):=A4;have d6:DtA (upd H2 r6 (HO.lst ([V.ref r]++ys))) ([V.ref r]++ys) ((p,T.op wd ta tb)::B2 (p++[0]) ta |>.map C6):=.cons (fq.kp G.kp) (d5.kp s6.kp);generalize upd H2 r6 (HO.lst ([V.ref r]++ys))=U2 at s6 G ft d6 |-;refine⟨_,SqT.of ((B.trans G) _ _ ha),_,rfl,zl 1 (by decide),fun r7 h7=>?_⟩;have s7:=A5 h7 (HO.tup [V.int 1]);refine At (hp.kp ((B.trans G).trans s7).kp) Au (by simp; lia) fun z2 H3 s8 fX=>?_;have fg:=s7.trans s8;refine⟨x2,tb,z2,p++[1],rfl,t2.kp ((B.trans G).trans fg).kp,fX,O.2,by lia,by simp; lia,fun r9 H4 zs s9 f9 h9 d9=>?_⟩;walk_at "a";have M:=fg.trans s9;have e9:zs.length=(B2 (p++[1]) tb).length:=by rw[d9.length,y4]
  refine⟨_,M _ _ ft,_,h9,y12 (BH (by rw[yc,e5,e9,y0d]; lia)),fun fz fw=>?_⟩;have fe:=A5 fw (HO.lst (([V.ref r]++ys)++zs));refine q fz _ _ ((B.trans G).trans (M.trans fe)) (((B.trans G).trans M).free fw) A4 ?_;rw[B2,<- y1e,yp];exact(d6.kp (M.trans fe).kp).append (d9.kp fe.kp)
theorem SW(d:Df K mg "_law_sum_spots" E6 ["_law_expr","_law_path"] f fd):∀n:Nat,Callee P w K mg base "_law_sum_spots" ["_law_expr","_law_path"] (n+1) (EK n)
 |0=>d.callee fH
 |n+1=>d.callee (fI d.F (SW d n))
def FD(n:Nat):Sp:=fun vs H Q _=>∃v b pv p,vs=[v,pv]/\Dt H v (.tup (AU b))/\Dt H pv (AJ p)/\okB n b/\n<=3/\p.length+2*n<=50/\∀(r:Addr) (H':Hp) (xs:List V),Same H H'->H r=none->H' r=some (.lst xs)->DtA H' xs ((Ag (AT p 0 b)).map C6)->Q (.ref r) H'
theorem fJ(F:Fun K "_law_spots" "_law_spots" BL f fd) (b_enumerate:mg "enumerate" = none) (c_law_sum_spots:Callee P w K mg base "_law_sum_spots" ["_law_expr","_law_path"] 6 (EK 5)) (c_law_spots:Callee P w K mg base "_law_spots" ["_law_block_here","_law_path"] (n+6) (FD n)):FnOk P w K mg base CX0 (n+7) f fd ["_law_block_here","_law_path"] (FD (n+1)):=by
 refine F.ok sc_law_spots (fun vs H Q E h=>?_) (fun gE A outer s H vs Q E hr h=>?_)
 ·obtain⟨v,t,pv,p,rfl,_⟩:=h;rfl
 obtain⟨v,b,pv,p,rfl,hd,hp,ge,hn,hl,q⟩:=h;refine⟨_,(A6 (AN (i:=2) sc_law_spots.nd rfl al (Ab A2) (AF rfl))
 (A6 (BD y0m rfl (KJ ag b_enumerate (A1 (A0 0 rfl ao) A2)) (BY (n:=2) rfl (Aa (AO (i:=3) sc_law_spots.nd rfl am) (Aa (AO (i:=4) sc_law_spots.nd rfl aj) BP)))
 (A6 (AN (i:=5) sc_law_spots.nd rfl ak (AA Am (A0 1 rfl aq) (AI (A1 (A0 3 rfl ap) A2))) (AF rfl))
 (A6 (Az (BQ y0a y2a y29 FR (A0 2 rfl Id) (A1 (AH c_law_sum_spots hr (by lia) (A1 (CY (AC (gEq hr.units) (A9 ix_tup (A0 4 rfl DI) A3 (fun _ _=>rfl)) AD (AE _)) (A9 ix_tup (A0 4 rfl DI) A3 (fun _ _=>rfl)) (A9 ix_tup (A0 4 rfl DI) A3 (fun _ _=>rfl))) (A1 (AA Am (A0 5 rfl Ic) (AI (A1 A3 A2))) A2)) af Kw) A2)) (AF rfl))
 (A6 (AK (AC (gEq hr.units) (A9 ix_tup (A0 4 rfl DI) A3 (fun _ _=>rfl)) AD (AE _)) (A7 (Az (BQ y0a y2a y29 FR (A0 2 rfl Id) (A1 (AA HD (AH c_law_spots hr (by lia) (A1 (A9 ix_tup (A0 4 rfl DI) A3 (fun _ _=>rfl)) (A1 (AA Am (A0 5 rfl Ic) (AI (A1 A3 A2))) A2)) Lb IK) (AH c_law_spots hr (by lia) (A1 (A9 ix_tup (A0 4 rfl DI) A3 (fun _ _=>rfl)) (A1 (AA Am (A0 5 rfl Ic) (AI (A1 A3 A2))) A2)) Lb IK)) A2)) (AF rfl))) AL)
 (A7 (AK (AC (gEq hr.units) (A9 ix_tup (A0 4 rfl DI) A3 (fun _ _=>rfl)) AD (AE _)) (A7 (Az (BQ y0a y2a y29 FR (A0 2 rfl Id) (A1 (AH c_law_spots hr (by lia) (A1 (A9 ix_tup (A0 4 rfl DI) A3 (fun _ _=>rfl)) (A1 (AA Am (A0 5 rfl Ic) (AI (A1 A3 A2))) A2)) Lb IK) A2)) (AF rfl))) AL))))))
 (A7 (AG (A0 2 rfl Id))))),?_⟩
 walk_at "a";refine⟨yo _,fun J fc=>?_⟩;obtain⟨ab,xs,rfl,gh,gf⟩:=hd.tupI;have s1:=A5 fc (HO.lst []);have gp:xs.length=b.length:=by rw[gf.length,Er]
 refine⟨ab,rfl,⟨_,SqT.of (s1 _ _ gh)⟩,?_⟩;refine KL (xs:=xs) (bz H ab pv p b J) ?s ?l ?t ?d
 case s=>exact⟨[],_,_,_,rfl,s1,A4,by rw[y26,AT]; exact .nil⟩
 case l=>
  rintro i σ Hc _ ⟨vs,_,_,_,rfl,sc,_⟩;exact SqT.of (sc _ _ gh)
 case d=>
  rintro σ Hc ⟨vs,_,_,_,rfl,sc,hv,dv⟩;walk_at "a";rw[gp,y0i] at dv;exact q J Hc vs sc fc hv dv
 case t=>
  rintro i x σ Hc Tu hx ⟨vs,_,_,_,rfl,sc,hv,dv⟩ hT;obtain⟨d,fk,dx⟩:=ME gf hx;have gB:i<b.length:=(zzS fk).1;have s2:=A5 hT (HO.tup [V.int i,x]);walk_at "a";refine⟨_,SqT.of A4,rfl,_,_,rfl,_,_,rfl,rfl,zl 1 (by decide),fun r1 h1=>?_⟩;have s3:=A5 h1 (HO.tup [V.int i]);refine At (hp.kp (sc.trans (s2.trans s3)).kp) Au (by simp; lia) fun z H1 s4 dz=>?_;have ft:=(s2.trans s3).trans s4;have R:=ft _ _ hv;have fZ:=dv.kp ft.kp;have G:=sc.trans ft;have gD:=dx.kp G.kp;have fh:=ge.2 d (yw fk);have fw:=RA (n:=n) (d:=d) fh;have lv:vs.length<=942*64:=by
   have e:vs.length=(Ag (AT p 0 (b.take i))).length:=by rw[dv.length,y4]
   have:=RG (n:=n+1) (p:=p) (k:=0) (c6 ge i) hn;lia
  clear s2 s3 s4 ft hv dv sc h1 hT;have lw:∀{ws:List V} {Hx:Hp},DtA Hx ws ((B2 (p++[(i:Int)]++[0]) d.term).map C6)->ws.length<=64:=fun dw=>by
   rw[dw.length,y4];exact Ih (E8 fw) (by decide)
  have lb:∀{nb:Int×List D} {ws:List V} {Hx:Hp},nb∈d.blocks->DtA Hx ws ((Ag (AT (p++[(i:Int)]++[nb.1]) 0 nb.2)).map C6)->ws.length<=942*64:=fun {nb ws Hx} hm dw=>by
   rw[dw.length,y4];exact RG (R9 fh hm) (by lia)
  cases d with
  |set y tt=>
   obtain⟨ad,x0,x1,x2,rfl,ha,t0,t1,t2⟩:=Bt (show Dt H x (.tup [.str "set",.str y,tt.enc]) by have:=dx; rw[D.enc] at this; exact this);cases t0;refine⟨.inl ⟨rfl,_,SqL.of R⟩,_,rfl,_,SqT.of (G _ _ ha),_,rfl,_,Cm (.str "set"),?_⟩;rw[if_pos (show eqS (.str "set") "set" = true from by decide+kernel)];refine⟨_,rfl,_,SqT.of (G _ _ ha),_,rfl,zl 1 (by decide),fun r2 h2=>?_⟩;have s5:=A5 h2 (HO.tup [V.int 0]);refine At (dz.kp s5.kp) Au (by simp; lia) fun z2 H2 s6 fq=>?_;have Z:=s5.trans s6;refine⟨x2,tt,z2,_,rfl,t2.kp (G.trans Z).kp,fq,E8 fw,by decide,by simp; lia,fun r4 M ws s7 f7 h7 d7=>?_⟩;have B:=Z.trans s7;have l7:=lw d7;refine⟨r4,rfl,vs,B _ _ R,ws,h7,Ew (by lia),?_⟩;have k8:Kp M (upd M J (HO.lst (vs++ws))):=Kp.set (B _ _ R);have O:Same H (upd M J (HO.lst (vs++ws))):=CG (G.trans B) fc;have vU:(upd M J (HO.lst (vs++ws))) J=some (.lst (vs++ws)):=A4;have dU:DtA (upd M J (HO.lst (vs++ws))) (vs++ws) ((Ag (AT p 0 (b.take i))++B2 (p++[(i:Int)]++[0]) (D.set y tt).term).map C6):=by
    rw[yp];exact(fZ.kp (B.kp.trans k8)).append (d7.kp k8)
   have kU:Kp H1 (upd M J (HO.lst (vs++ws))):=B.kp.trans k8;generalize upd M J (HO.lst (vs++ws))=U at k8 O vU dU kU |-;refine⟨_,rfl,_,SqT.of (O _ _ ha),_,rfl,_,Cm (.str "set"),?_⟩;rw[if_neg (show ¬ eqS (.str "set") "if" = true from by decide+kernel)];refine⟨_,rfl,_,SqT.of (O _ _ ha),_,rfl,_,Cm (.str "set"),?_⟩;rw[if_neg (show ¬ eqS (.str "set") "while" = true from by decide+kernel)];refine⟨_,_,_,_,rfl,O,vU,?_⟩;rw[MK fk,c7,y0x];exact dU
  |ite tt bb cc=>
   obtain⟨ad,x0,x1,x2,x3,rfl,ha,t0,t1,t2,t3⟩:=Ev (show Dt H x (.tup [.str "if",tt.enc,.tup (AU bb),.tup (AU cc)]) by have:=dx; rw[D.enc] at this; exact this);cases t0;refine⟨.inl ⟨rfl,_,SqL.of R⟩,_,rfl,_,SqT.of (G _ _ ha),_,rfl,_,Cm (.str "if"),?_⟩;rw[if_neg (show ¬ eqS (.str "if") "set" = true from by decide+kernel)];refine⟨_,rfl,_,SqT.of (G _ _ ha),_,rfl,zl 1 (by decide),fun r2 h2=>?_⟩;have s5:=A5 h2 (HO.tup [V.int 0]);refine At (dz.kp s5.kp) Au (by simp; lia) fun z2 H2 s6 fq=>?_;have Z:=s5.trans s6;refine⟨x1,tt,z2,_,rfl,t1.kp (G.trans Z).kp,fq,E8 fw,by decide,by simp; lia,fun r4 M ws s7 f7 h7 d7=>?_⟩;have B:=Z.trans s7;have l7:=lw d7;refine⟨r4,rfl,vs,B _ _ R,ws,h7,Ew (by lia),?_⟩;have k8:Kp M (upd M J (HO.lst (vs++ws))):=Kp.set (B _ _ R);have O:Same H (upd M J (HO.lst (vs++ws))):=CG (G.trans B) fc;have vU:(upd M J (HO.lst (vs++ws))) J=some (.lst (vs++ws)):=A4;have dU:DtA (upd M J (HO.lst (vs++ws))) (vs++ws) ((Ag (AT p 0 (b.take i))++B2 (p++[(i:Int)]++[0]) (D.ite tt bb cc).term).map C6):=by
    rw[yp];exact(fZ.kp (B.kp.trans k8)).append (d7.kp k8)
   have kU:Kp H1 (upd M J (HO.lst (vs++ws))):=B.kp.trans k8;generalize upd M J (HO.lst (vs++ws))=U at k8 O vU dU kU |-;refine⟨_,rfl,_,SqT.of (O _ _ ha),_,rfl,_,Cm (.str "if"),?_⟩;rw[if_pos (show eqS (.str "if") "if" = true from by decide+kernel)];refine⟨.inl ⟨rfl,_,SqL.of vU⟩,_,rfl,_,SqT.of (O _ _ ha),_,rfl,zl 1 (by decide),fun r8 h8=>?_⟩;have s8:=A5 h8 (HO.tup [V.int 1]);refine At ((dz.kp kU).kp s8.kp) Au (by simp; lia) fun z3 H4 s9 fY=>?_;have fe:=s8.trans s9;refine⟨x2,bb,z3,_,rfl,t2.kp (O.trans fe).kp,fY,fh.2.1,by lia,by simp; lia,fun fV H5 ys fz gx fX d10=>?_⟩;have sa:=fe.trans fz;refine⟨_,rfl,_,SqT.of ((O.trans sa) _ _ ha),_,rfl,zl 1 (by decide),fun gz gw=>?_⟩;have gb:=A5 gw (HO.tup [V.int 2]);refine At ((dz.kp kU).kp (sa.trans gb).kp) Au (by simp; lia) fun z4 H6 gk gy=>?_;have sb:=gb.trans gk;refine⟨x3,cc,z4,_,rfl,t3.kp (O.trans (sa.trans sb)).kp,gy,fh.2.2,by lia,by simp; lia,fun gm H7 zs gj gC gu d13=>?_⟩;have sd:=sb.trans gj;have gn:=lb (nb:=(1,bb)) (by simp[D.blocks]) d10;have gA:=lb (nb:=(2,cc)) (by simp[D.blocks]) d13;refine⟨fV,rfl,gm,rfl,_,sd _ _ fX,_,gu,Ew (by lia),fun gc gt=>?_⟩;have fu:=A5 gt (HO.lst (ys++zs));have se:=sa.trans (sd.trans fu);refine⟨_,se _ _ vU,_,A4,Ew (by rw[yc,yc]; lia),?_⟩;have d14:DtA (upd H7 gc (HO.lst (ys++zs))) (ys++zs) ((Ag (AT (p++[(i:Int)]++[1]) 0 bb)++Ag (AT (p++[(i:Int)]++[2]) 0 cc)).map C6):=by
    rw[yp];exact(d10.kp (sd.trans fu).kp).append (d13.kp fu.kp)
   generalize upd H7 gc (HO.lst (ys++zs))=U2 at fu se d14 |-;have fg:Kp U2 (upd U2 J (HO.lst (vs++ws++(ys++zs)))):=Kp.set (se _ _ vU);have sV:Same H (upd U2 J (HO.lst (vs++ws++(ys++zs)))):=CG (O.trans se) fc;refine⟨_,rfl,_,SqT.of (sV _ _ ha),_,rfl,_,Cm (.str "if"),?_⟩;rw[if_neg (show ¬ eqS (.str "if") "while" = true from by decide+kernel)];refine⟨_,_,_,_,rfl,sV,A4,?_⟩;have e:=MK (p:=p) fk;rw[c8,<- yn] at e;rw[e,yp];exact(dU.kp (se.kp.trans fg)).append (d14.kp fg)
  |whl tt m bb=>
   obtain⟨ad,x0,x1,x2,x3,rfl,ha,t0,t1,t2,t3⟩:=Ev (show Dt H x (.tup [.str "while",tt.enc,.int m,.tup (AU bb)]) by have:=dx; rw[D.enc] at this; exact this);cases t0;refine⟨.inl ⟨rfl,_,SqL.of R⟩,_,rfl,_,SqT.of (G _ _ ha),_,rfl,_,Cm (.str "while"),?_⟩;rw[if_neg (show ¬ eqS (.str "while") "set" = true from by decide+kernel)];refine⟨_,rfl,_,SqT.of (G _ _ ha),_,rfl,zl 1 (by decide),fun r2 h2=>?_⟩;have s5:=A5 h2 (HO.tup [V.int 0]);refine At (dz.kp s5.kp) Au (by simp; lia) fun z2 H2 s6 fq=>?_;have Z:=s5.trans s6;refine⟨x1,tt,z2,_,rfl,t1.kp (G.trans Z).kp,fq,E8 fw,by decide,by simp; lia,fun r4 M ws s7 f7 h7 d7=>?_⟩;have B:=Z.trans s7;have l7:=lw d7;refine⟨r4,rfl,vs,B _ _ R,ws,h7,Ew (by lia),?_⟩;have k8:Kp M (upd M J (HO.lst (vs++ws))):=Kp.set (B _ _ R);have O:Same H (upd M J (HO.lst (vs++ws))):=CG (G.trans B) fc;have vU:(upd M J (HO.lst (vs++ws))) J=some (.lst (vs++ws)):=A4;have dU:DtA (upd M J (HO.lst (vs++ws))) (vs++ws) ((Ag (AT p 0 (b.take i))++B2 (p++[(i:Int)]++[0]) (D.whl tt m bb).term).map C6):=by
    rw[yp];exact(fZ.kp (B.kp.trans k8)).append (d7.kp k8)
   have kU:Kp H1 (upd M J (HO.lst (vs++ws))):=B.kp.trans k8;generalize upd M J (HO.lst (vs++ws))=U at k8 O vU dU kU |-;refine⟨_,rfl,_,SqT.of (O _ _ ha),_,rfl,_,Cm (.str "while"),?_⟩;rw[if_neg (show ¬ eqS (.str "while") "if" = true from by decide+kernel)];refine⟨_,rfl,_,SqT.of (O _ _ ha),_,rfl,_,Cm (.str "while"),?_⟩;rw[if_pos (show eqS (.str "while") "while" = true from by decide+kernel)];refine⟨.inl ⟨rfl,_,SqL.of vU⟩,_,rfl,_,SqT.of (O _ _ ha),_,rfl,zl 1 (by decide),fun r8 h8=>?_⟩;have s8:=A5 h8 (HO.tup [V.int 1]);refine At ((dz.kp kU).kp s8.kp) Au (by simp; lia) fun z3 H4 s9 fY=>?_;have fe:=s8.trans s9;refine⟨x3,bb,z3,_,rfl,t3.kp (O.trans fe).kp,fY,fh.2.2.2,by lia,by simp; lia,fun fV H5 ys fz gx fX d10=>?_⟩;have sa:=fe.trans fz;have gn:=lb (nb:=(1,bb)) (by simp[D.blocks]) d10;refine⟨fV,rfl,_,sa _ _ vU,_,fX,Ew (by rw[yc]; lia),?_⟩;have fg:Kp H5 (upd H5 J (HO.lst (vs++ws++ys))):=Kp.set (sa _ _ vU);refine⟨_,_,_,_,rfl,CG (O.trans sa) fc,A4,?_⟩;rw[MK fk,c9,<- yn,yp];exact(dU.kp (sa.kp.trans fg)).append (d10.kp fg)
theorem fK:FnOk P w K mg base CX0 k f fd [n1,n2] (FD 0):=by
 have q:∀vs H Q E,¬ FD 0 vs H Q E:=fun vs H Q E h=>by
  obtain⟨v,t,pv,p,_,_,_,h1,_⟩:=h;exact h1
 exact⟨fun vs H Q E h=>absurd h (q vs H Q E),fun A outer s H args us vs Q E _ _ _ _ h=>absurd h (q vs H Q E)⟩
theorem SY(d:Df K mg "_law_spots" BL ["_law_block_here","_law_path"] f fd) (b_enumerate:mg "enumerate" = none) (c_law_sum_spots:Callee P w K mg base "_law_sum_spots" ["_law_expr","_law_path"] 6 (EK 5)):∀n:Nat,Callee P w K mg base "_law_spots" ["_law_block_here","_law_path"] (n+6) (FD n)
 |0=>d.callee fK
 |n+1=>d.callee (fJ d.F b_enumerate c_law_sum_spots (SY d b_enumerate c_law_sum_spots n))
theorem SZ{α z:Type}{f:α->z}:∀{l:List α},(l.map f).Nodup->∀a∈l,∀b∈l,f a=f b->a=b
 |[],_,a,ha,_,_,_=>by simp at ha
 |x::l,q,a,ha,b,hb,e=>by
  rw[yj,y3p] at q;rcases List.mem_cons.mp ha with rfl|ha2<;>rcases List.mem_cons.mp hb with rfl|hb2
  ·rfl
  ·exact absurd (List.mem_map.mpr ⟨b,hb2,e.symm⟩) q.1
  ·exact absurd (List.mem_map.mpr ⟨a,ha2,e⟩) q.1
  ·exact SZ q.2 a ha2 b hb2 e
def SeT(z:Hp)(d:Addr)(H:Hp)(q:TL (List Int))(R:List RI):Prop:=H d=some (.dT (kvT q))/\KeyI q R/\(q.map (·.2.1)).Nodup/\∀t∈q,t.2.2=BO R t.1/\∃l,t.2.1=.ref l/\z l=none/\H l=some (.lst (t.2.2.map V.int))
theorem SeT.nil(h:H d=some (.dT [])):SeT Hb d H [] []:=⟨h,KeyI.nil,y43,fun t q=>absurd q (by simp)⟩
theorem SeT.to(h:SeT Hb d H el R)(hd:H' d=some (.dT (kvT el)))(s:∀l xs,H l=some (.lst xs)->H' l=some (.lst xs)):SeT Hb d H' el R:=
 ⟨hd,h.2.1,h.2.2.1,fun t q=>by
  obtain⟨e,l,B,e2,z⟩:=h.2.2.2 t q
  exact⟨e,l,B,e2,s _ _ z⟩⟩
theorem Sa(q:TL (List Int)):q.map (·.2.1)=(kvT q).map (·.2):=by unfold kvT; rw[y09]; rfl
theorem SeT.more(r:RI)(h:SeT Hb d H el R)(hg:Ah el r.1=some (.ref l,xs)):SeT Hb d (upd H l (.lst (xs.map V.int++[V.int r.2]))) (B7 el r.1 (.ref l) (xs++[r.2])) (R++[r]):=by
 obtain⟨h1,h2,G,F⟩:=h;have hm:=FA hg;obtain⟨e0,l',e1,e2,e3⟩:=F _ hm;cases e1;have hk:=eS h2.1 hg (b:=xs++[r.2]);refine⟨?_,h2.put r _ _,?_,fun t O=>?_⟩
 ·rw[A8 (AM h1 e3 (by intro z; cases z)),hk];exact h1
 ·rw[Sa,hk,<- Sa];exact G
 ·rcases Mj O with rfl|⟨q,B⟩
  ·refine⟨?_,l,rfl,e2,?_⟩
   ·show xs++[r.2]=BO (R++[r]) r.1;rw[Mk,<- e0]
   ·rw[A4];show _=some (HO.lst ((xs++[r.2]).map V.int));rw[yp];rfl
  ·obtain⟨f0,M,J,Z,U⟩:=F t q;refine⟨by rw[Ml R r B]; exact f0,M,J,Z,?_⟩;rw[A8]
   ·exact U
   ·intro z;subst z;exact B (congrArg Prod.fst (SZ G t q _ hm J))
theorem SeT.new(r:RI)(h:SeT Hb d H el R)(hg:Ah el r.1=none)(hz:H z=none)(F:Hb z=none)(e:H' d=some (.dT (kvT (B7 el r.1 (.ref z) [r.2]))))(ez:H' z=some (.lst [V.int r.2]))(s:∀l xs,H l=some (.lst xs)->H' l=some (.lst xs)):SeT Hb d H' (B7 el r.1 (.ref z) [r.2]) (R++[r]):=by
 obtain⟨h1,h2,U,J⟩:=h;refine⟨e,h2.put r _ _,?_,fun t q=>?_⟩
 ·unfold B7;rw[hg,if_neg (by decide),yp,y4a];refine⟨U,y2g _ _,fun a ha b hb e=>?_⟩;obtain⟨t,q,e1⟩:=List.mem_map.mp ha;obtain⟨_,l,G,_,B⟩:=J t q;rw[List.mem_singleton.mp hb,<- e1,G] at e;cases e;rw[hz] at B;cases B
 ·rcases Mj q with rfl|⟨q,O⟩
  ·refine⟨?_,z,rfl,F,ez⟩;show [r.2]=BO (R++[r]) r.1;rw[Mk,SE (fun z=>getT_none.mp hg ((h2.2.1 _).mpr z))];rfl
  ·obtain⟨f0,M,G,Z,B⟩:=J t q;exact⟨by rw[Ml R r O]; exact f0,M,G,Z,s _ _ B⟩
theorem SeT.off{Hb H:Hp}{d B:Addr}{J:TL (List Int)}{R q:List RI}{ys:List V}(h:SeT Hb d H J R)(O:H B=some (.lst ys))(M:DtA H ys (q.map C7)):∀t∈J,t.2.1≠.ref B:=fun t F e=>by
 obtain⟨Z,l2,U,f2,G⟩:=h.2.2.2 t F;rw[U] at e;cases e;rw[O] at G;have z:=SF ((h.2.1.2.1 t.1).mp (List.mem_map.mpr ⟨t,F,rfl⟩));rw[<- Z] at z;have e2:ys=t.2.2.map V.int:=by cases G; rfl
 cases hx:t.2.2 with
 |nil=>rw[hx] at z; exact absurd z (by decide)
 |cons x xs=>
  rw[hx] at e2;subst e2;cases q with
  |nil=>cases M
  |cons r q=>
   cases M with
   |cons d1 _=>cases d1
def WvT(rows:List Rw)(b:List D)(H:Hp)(q:NKs)(W:List (List Int)):Prop:=KwI rows b q W/\(∀p∈q,PairAt H p.1 p.2.1)/\∀t∈q,∃ws,W.find? (rfd rows b t.1)=some ws/\Dt H t.2.2 (AJ ws)
theorem WvT.kp(h:WvT rows b H kas W)(k:Kp H H'):WvT rows b H' kas W:=
 ⟨h.1,fun p z=>(h.2.1 p z).kp k,fun t q=>by
  obtain⟨ws,e,B⟩:=h.2.2 t q
  exact⟨ws,e,B.kp k⟩⟩
theorem Sb(h:W.find? (rfd rows b k)=some ws):(W++[wl]).find? (rfd rows b k)=some ws:=by rw[y4e,h]; rfl
theorem WvT.skip(h:WvT rows b H kas W)(e:∀k,(evP rows b wl).1=some k->k∈kas.map (·.1)):WvT rows b H kas (W++[wl]):=
 ⟨h.1.skip e,h.2.1,fun t q=>by
  obtain⟨ws,e,z⟩:=h.2.2 t q
  exact⟨ws,Sb e,z⟩⟩
theorem WvT.put(h:WvT rows b H kas W)(e:(evP rows b wl).1=some k)(O:As kas k=none)(M:PairAt H k a)(J:Dt H v (AJ wl)):WvT rows b H (BB kas k a v) (W++[wl]):=by
 have hk:=valN_none.mp O;refine⟨h.1.put e a v,fun p q=>?_,fun t F=>?_⟩
 ·rcases Mp q with⟨G,_,B|⟨u,hu,B,R⟩⟩|⟨q,_⟩
  ·rw[G,B]; exact M
  ·exact absurd (List.mem_map.mpr ⟨u,hu,B⟩) hk
  ·exact h.2.1 p q
 ·rcases Mp F with⟨G,B,_⟩|⟨F,_⟩
  ·refine⟨wl,?_,by rw[B]; exact J⟩;rw[G,y4e,List.find?_eq_none.mpr,Option.none_or,y0o,show rfd rows b k wl=true from decide_eq_true e];intro x hx z;exact hk ((h.1.2.1 k).mpr ⟨x,hx,of_decide_eq_true z⟩)
  ·obtain⟨ws,e,J⟩:=h.2.2 t F;exact⟨ws,Sb e,J⟩
theorem WvT.find(h:WvT rows b H kas W)(k:WP):wsD H ((As kas k).getD .non) (W.find? (rfd rows b k)):=by
 cases q:As kas k with
 |none=>
  rw[List.find?_eq_none.mpr fun x hx z=>valN_none.mp q ((h.1.2.1 k).mpr ⟨x,hx,of_decide_eq_true z⟩)];rfl
 |some v=>
  obtain⟨a,ha⟩:=Mo q;obtain⟨ws,e,B⟩:=h.2.2 _ ha;rw[e];exact B
noncomputable def wsM:Option (List Int)->Dm
 |none=>.non
 |some ws=>AJ ws
theorem Sc(h:wsD H r o):Dt H r (wsM o):=by
 cases o with
 |none=>
  have h:r=.non:=h;rw[h];exact .non
 |some ws=>exact h
theorem fL(n:Nat):Fine n .non:=⟨by simp[Dm.shut],by simp[Dm.dat,PyData.canLay0],by simp[Dm.dat,PyData.depth]⟩
theorem fM(o:Option (List Int)):Fine 1 (wsM o):=by
 cases o with
 |none=>exact fL _
 |some ws=>exact DN ws
theorem Sd(f:Fine n d)(k:n<=64)(d1:Dt H x d)(d2:Dt H y d):EqD H x y true:=⟨d,d,d1,d2,f.eq k,f.eq k,(RC f.2.1).symm⟩
theorem Iz(z:n<=60)(f:∀d∈ds,Fine n d)(h1:SqL K H a xs)(h2:SqL K H c ys)(d1:DtA H xs ds)(d2:DtA H ys ds):Hg K H (.ref a) (.ref c) true:=by
 obtain⟨u,v,w⟩:=Ij f;have h:PyData.canLay0 (.list (Aj ds))=true:=by simpa [PyData.canLay0] using v
 have q:SeqAt.shaped (.list (Aj ds))=true:=by
  unfold SeqAt.shaped;rw[h,y2i,decide_eq_true_eq];simp only[PyData.depth];lia
 exact⟨a,c,xs,ys,ds,ds,rfl,rfl,h1,h2,d1,d2,u,u,q,q,(RC h).symm⟩
theorem fN(p:List Int)(m:Int×Int):Fine 2 (EJ p m):=Cn fun d hd=>by
 simp only[y0f,y00,or_false] at hd;rcases hd with rfl|rfl|rfl
 ·exact DN p
 ·exact Ik _ _
 ·exact Ik _ _
noncomputable def kwD(k:WP):Dm:=.tup [.str k.1,AJ k.2]
theorem Se(h:x∈three):PyData.strOk x=true:=by
 simp only[three,y0f,y00,or_false] at h;rcases h with rfl|rfl|rfl<;>decide+kernel
theorem fO(h:k.1∈three):Fine 2 (kwD k):=Cn fun d hd=>by
 simp only[y0f,y00,or_false] at hd;rcases hd with rfl|rfl
 ·exact DM _ (Se h)
 ·exact DN _
theorem Sf{a b:List (List Int)}(h:∀p,p∈a↔p∈b)(z:a.Pairwise fun p q=>ltI p q=true)(p2:b.Pairwise fun p q=>ltI p q=true):a=b:=by
 have F:a.Nodup:=z.imp fun {x y} h e=>by rw[e,D6] at h; cases h
 have B:b.Nodup:=p2.imp fun {x y} h e=>by rw[e,D6] at h; cases h
 exact y2s (le:=fun p q:List Int=>ltI p q=true) (fun x y _ _ u v=>by rw[KH u] at v; cases v) z p2 ((List.perm_ext_iff_of_nodup F B).mpr h)
theorem fP{a b:List WP}(z:∀k∈a,k.1∈three)(h:∀p,p∈a↔p∈b)(B:a.Pairwise fun p q=>ltW p q=true)(p2:b.Pairwise fun p q=>ltW p q=true):a=b:=by
 have G:a.Nodup:=B.imp fun {x y} h e=>by rw[e,IC] at h; cases h
 have F:b.Nodup:=p2.imp fun {x y} h e=>by rw[e,IC] at h; cases h
 exact y2s (le:=fun p q:WP=>ltW p q=true) (fun x y hx hy u v=>by
  have:=PL (z x hx) (z y ((h y).mpr hy)) (z x hx) u v
  rw[IC] at this
  cases this) B p2 ((List.perm_ext_iff_of_nodup G F).mpr h)
theorem fQ(h:b≠[]):0<(DL b).length:=by
 cases b with
 |nil=>exact absurd rfl h
 |cons d b=>
  have h1:∀(p:List Int) (t:T),0<(B2 p t).length:=fun p t=>by cases t<;>simp[B2]
  have h2:∀(p:List Int) (d:D),∃r l,CU p d=r::l:=fun p d=>by cases d<;>simp[CU]
  unfold DL Ex;rw[AT];obtain⟨r,l,e⟩:=h2 ([]++[0]) d;rw[e,y1e,Ag,yc];have:=h1 (r.1++[0]) r.2.term;lia
def J0(K:ya)(q p2:Addr):Sp:=fun vs H Q _=>∃(a:Addr) (ns:List Int),vs=[.ref a]/\SqL K H a (ns.map V.int)/\ns.length<=63/\H q=some (.tbl #[])/\H p2=some (.tbl #[])/\∀H',Q (.bl true) H'
abbrev Sg(a r z d1 d2:Addr)(q x6 x7 x8 x9:Option V):St:=[some (.ref a),some (.ref r),some (.ref z),some (.ref d1),some (.ref d2),q,x6,x7,x8,x9,none,none]
def LwO(P:yq)(w:y0h)(B:Hp)(a r G d1 d2:Addr)(rows:List Rw)(b:List D)(i:Nat)(σ:St)(z:Hp):Prop:=∃(J:TL (List Int)) (q:NKs) (F x6 x7 x8 x9:Option V),σ=Sg a r G d1 d2 F x6 x7 x8 x9/\SameC d1 d2 B z/\SeT B d1 z J (AR rows b ((WS rows).take i))/\z d2=some (dN P w d2 q)/\WvT rows b z q ((WS rows).take i)
def LwI(P:yq)(w:y0h)(B U:Hp)(a r J d1 d2 M:Addr)(F x6 x7:Option V)(z:NKs)(ys:List V)(R G:List RI)(j:Nat)(σ:St)(q:Hp):Prop:=∃(O:TL (List Int)) (x8 x9:Option V),σ=Sg a r J d1 d2 F x6 x7 x8 x9/\SameC d1 d2 B q/\Kp U q/\q d2=some (dN P w d2 z)/\q M=some (.lst ys)/\SeT B d1 q O (R++G.take j)
def LwC(U:Hp)(d1:Addr)(z:List Int->Int×Int)(ps:List (List Int))(i:Nat)(ys:List V)(q:St)(H':Hp):Prop:=Same U H'/\(∃t,q=[t,some (.ref d1)])/\DtA H' ys ((ps.take i).map fun p=>EJ p (z p))/\ys.length<=i
def LwW(G:Hp)(q:Addr)(a r F d1 d2:Addr)(i:Nat)(σ:St)(z:Hp):Prop:=∃(B x6 x7 x8 x9 x10:Option V),σ=[some (.ref a),some (.ref r),some (.ref F),some (.ref d1),some (.ref d2),B,x6,x7,x8,x9,x10,none]/\SameB q G z/\TabAt q Bv dR.qual z
theorem Sh:∀{q:TL (List Int)} {as:List Addr},Paired (fun(kv:List Key×V) (a:Addr)=>H a=some (.tup (kv.1.map kV))) (kvT q) as->DtA H (as.map V.ref) ((q.map (·.1)).map AJ)
 |[],[],.nil=>.nil
 |t::q,a::as,.cons h r=>by
  have h:H a=some (.tup ((t.1.map Sum.inl).map kV)):=h;rw[FC] at h;exact .cons (.tup h (Dl H t.1)) (Sh r)
theorem SameB.seq(s:SameB p H H')(h:H p=some (.tbl t))(e:SqL K H a xs):SqL K H' a xs:=by
 rcases e with(e|⟨o,e⟩)|e
 ·exact .inl (.inl (s _ _ (AM e h (by intro z; cases z)) e))
 ·exact .inl (.inr ⟨o,s _ _ (AM e h (by intro z; cases z)) e⟩)
 ·exact .inr e
def LwP(U:Hp)(l:List RT)(i:Nat)(ys:List V)(q:St)(H':Hp):Prop:=Same U H'/\(∃t u,q=[t,u])/\DtA H' ys (((l.take i).map (·.1)).map AJ)/\ys.length<=i
theorem fR(lO:p1≠p2) (F:Fun K "law" "law" AX f fd) (b_len:mg "len" = none) (b_sorted:mg "sorted" = none) (b_list:mg "list" = none) (b_min:mg "min" = none) (b_max:mg "max" = none) (c_law_program:Callee P w K mg base "_law_program" ["_law_script","_law_at"] 11 (R3 K)) (c_law_pick:Callee P w K mg base "_law_pick" ["_law_script","_law_k","_law_many"] 2 (Cl K))
  (c_law_all_worths:Callee P w K mg base "_law_all_worths" ["_law_program_here"] 1 EG) (c_all_worths:Callee P w K mg base "all_worths" ["program"] 1 EG) (c_law_run:Callee P w K mg base "_law_run" ["_law_program_here","_law_worths"] 11 SA) (c_exact:Callee P w K mg base "exact" ["program"] 23 (SM p2)) (c_refusals:Callee P w K mg base "refusals" ["program"] 24 (ST p1))
  (c_witness:Callee P w K mg base "witness" ["program","word","path"] 23 (SU p1)) (c_law_spots:Callee P w K mg base "_law_spots" ["_law_block_here","_law_path"] 9 (FD 3)):FnOk P w K mg base CX0 25 f fd ["_law_script"] (J0 K p1 p2):=by
 refine F.ok sc_law (fun vs H Q E h=>?_) (fun mV A outer s H vs Q E hr h=>?_)
 ·obtain⟨a,ns,rfl,_⟩:=h;rfl
 obtain⟨a,ns,rfl,hS,_,lp,ln,q⟩:=h;refine⟨_,(A6 (AN (i:=1) sc_law.nd rfl bC (AH c_law_program hr (by lia) (A1 (A0 0 rfl Le) (A1 A3 A2)) au Wi) (AF rfl))
 (A6 (AN (i:=2) sc_law.nd rfl bA (AH c_law_all_worths hr (by lia) (A1 (A0 1 rfl DJ) A2) ar We) (AF rfl))
 (A6 (AK (PW.pt (FE (AC (Dh hr.units) (AH c_all_worths hr (by lia) (A1 (A0 1 rfl DJ) A2) ay IL) (A0 2 rfl Ie) (AE _)) (GX (AC (Dh hr.units) (A0 2 rfl Ie) (Aq (Ox rfl) Lc b_sorted D9 (A1 (A0 2 rfl Ie) A2) DB DA) (AE _))))) (A7 (AG EL)) AL)
 (A6 (AN (i:=3) sc_law.nd rfl bE Nu (AF rfl))
 (A6 (AN (i:=4) sc_law.nd rfl bG P4 (AF rfl))
 (A6 (BD y0m rfl (BZ (A0 2 rfl Ie)) (AO (i:=5) sc_law.nd rfl bI)
 (A6 (FI (AH c_law_run hr (by lia) (A1 (A0 1 rfl DJ) (A1 (A0 5 rfl Qs) A2)) av Wk) (BY (n:=2) rfl (Aa (AO (i:=6) sc_law.nd rfl bF) (Aa (AO (i:=7) sc_law.nd rfl bD) BP))))
 (A6 (BD y0m rfl (BZ (A0 7 rfl bJ)) (BY (n:=2) rfl (Aa (AO (i:=8) sc_law.nd rfl Ld) (Aa (AO (i:=9) sc_law.nd rfl bH) BP)))
 (A7 (Az (BQ y0a y0r y0q C9 (WH hr.units (A0 3 rfl Qq) (A0 8 rfl GF) (Ab A2) ⟨rfl,rfl,rfl,rfl⟩) (A1 (A0 9 rfl bK) A2)) (AF rfl))))
 (A7 (AK (AC (gEq hr.units) (A9 ix_tup (A0 6 rfl Qr) A3 (fun _ _=>rfl)) AD (AE _)) (A7 (Az (WG hr.units (A0 4 rfl GH) (NY O3 (A0 6 rfl Qr) (NX A3) NW) (A0 5 rfl Qs) ⟨rfl,rfl,rfl,rfl⟩) (AF rfl))) AL)))))
 (A6 (AK (AC (Dh hr.units) (AH c_exact hr (by lia) (A1 (A0 1 rfl DJ) A2) az Wu) (Cb ["_law_path","_law_seen"] [none,some 3] rfl (CompS.of (by rfl)) (BZ (Aq (Ox rfl) Lc b_sorted D9 (A1 (D3 (WQ rfl) Qm b_list Kr (A1 (A0 3 rfl Qq) A2) L5 Kz) A2) DB DA)) (fun _ _ _ _ _=>(AO (i:=0) (show List.Nodup (["_law_path","_law_seen"]:List Str) from by decide+kernel) rfl (Or.inl rfl))) (fun _ _ _ _ _=>D2) (fun _ _ _ _ _=>(AI (A1 (Ae (i:=0) rfl (by walk_at "vc") IJ IE) (A1 (Aq (Nm (r:=FW) (K:=K) (UK rfl) rfl) rfl b_min Kt (A1 (EX hr.units1 (Ae (i:=1) rfl (by walk_at "vc") Ph Pc) (Ae (i:=0) rfl (by walk_at "vc") IJ IE) (fun _ _=>rfl)) A2) L7 L1) (A1 (Aq (Nm (r:=FX) (K:=K) (UL rfl) rfl) rfl b_max Ks (A1 (EX hr.units1 (Ae (i:=1) rfl (by walk_at "vc") Ph Pc) (Ae (i:=0) rfl (by walk_at "vc") IJ IE) (fun _ _=>rfl)) A2) L6 L0) A2)))))) (AE _)) (A7 (AG EL)) AL)
 (A6 (AK (AC (Dh hr.units) (AH c_refusals hr (by lia) (A1 (A0 1 rfl DJ) A2) b9 X2) (Aq (WN rfl hr.units) Lc b_sorted D9 (A1 (D3 (WO rfl) Qm b_list Kr (A1 (A0 4 rfl GH) A2) L5 Kz) A2) DB DA) (AE _)) (A7 (AG EL)) AL)
 (A6 (BD y0m rfl (WR (A0 4 rfl GH)) (BY (n:=2) rfl (Aa (AO (i:=10) sc_law.nd rfl Qo) (Aa (AO (i:=8) sc_law.nd rfl Ld) BP)))
 (A7 (AK (AC (dNe hr.units) (AH c_witness hr (by lia) (A1 (A0 1 rfl DJ) (A1 (A0 10 rfl Ig) (A1 (A0 8 rfl GF) A2))) Qn Pm) (WD hr.units (A0 4 rfl GH) (AI (A1 (A0 10 rfl Ig) (A1 (A0 8 rfl GF) A2))) (fun _ _=>rfl)) (AE _)) (A7 (AG EL)) AL)))
 (A6 (U0 (i:=11) ["_law_path","_law_expr"] [none,none] sc_law.nd rfl bB rfl (CompS.of (by rfl)) (BZ (AH c_law_spots hr (by lia) (A1 (A9 ix_tup (A0 1 rfl DJ) A3 (fun _ _=>rfl)) (A1 (AI A2) A2)) ax IK)) (fun _ _ _ _ _=>(Nn (n:=2) (K:=K) rfl rfl (Aa (AO (i:=0) (show List.Nodup (["_law_path","_law_expr"]:List Str) from by decide+kernel) rfl (Or.inl rfl)) (Aa (AO (i:=1) (show List.Nodup (["_law_path","_law_expr"]:List Str) from by decide+kernel) rfl (Or.inl rfl)) BP)))) (fun _ _ _ _ _=>D2) (fun _ _ _ _ _=>(Ae (i:=0) rfl (by walk_at "vc") IJ IE)))
 (A6 (AN (i:=8) sc_law.nd rfl Ld (A9 ix_list (A0 11 rfl Qp) (AH c_law_pick hr (by lia) (A1 (A0 0 rfl Le) (A1 A3 (A1 (Aq Dd b0 b_len Dp (A1 (A0 11 rfl Qp) A2) Dr Dq) A2))) Ql BG) (fun _ _=>rfl)) (AF rfl))
 (A6 (AN (i:=10) sc_law.nd rfl Qo (A9 ix_list (Ab (A1 AD (A1 AD (A1 AD A2)))) (AH c_law_pick hr (by lia) (A1 (A0 0 rfl Le) (A1 A3 (A1 A3 A2))) Ql BG) (fun _ _=>rfl)) (AF rfl))
 (A7 (AG (Gp (dEq hr.units) (AH c_witness hr (by lia) (A1 (A0 1 rfl DJ) (A1 (A0 10 rfl Ig) (A1 (A0 8 rfl GF) A2))) Qn Pm) (WE hr.units (A0 4 rfl GH) (AI (A1 (A0 10 rfl Ig) (A1 (A0 8 rfl GF) A2))) ⟨rfl,rfl,rfl,rfl⟩) (AE _)))))))))))))))),AB fun N1 e1=>?_⟩
 walk_at "b";refine⟨a,ns,0,rfl,hS,by decide,fun r ri rb H1 rows b g0 s1 i6 ma jX O fh iB lG lC=>?_⟩;have dr:Dt H1 (.ref r) (.tup [.tup (rows.map BM),.tup (AU b)]):=.tup i6 (.cons ma (.cons jX .nil));obtain⟨g,gC,_,_⟩:=lC _ (Sub.refl _);obtain⟨iz,jE,gR,lI⟩:=GQ O;rw[e1];refine AB fun N2 e2=>?_;walk_at "b";refine⟨.ref r,rows,_,rfl,dr,O,fun lw H2 us s2 mw gN dw=>?_⟩;have fZ:=s1.trans s2;have iD:=fZ _ _ lp;have iC:=fZ _ _ ln;have j4:=dr.kp s2.kp;have J:=fZ.seq hS;have kY:=s2 _ _ i6;have jW:=jX.kp s2.kp;rw[e2];refine AB fun N3 e3=>?_;walk_at "b";refine⟨.ref r,rows,_,rfl,j4,O,fun l3 H3 us3 s3 mE lA lY=>?_⟩;have kM:us.length=(WS rows).length:=by rw[dw.length,y4]
 walk_at "b";have fW:∀d∈(WS rows).map AJ,Fine 1 d:=fun d hd=>by
  obtain⟨p,_,rfl⟩:=List.mem_map.mp hd;exact DN p
 refine⟨true,Iz (by decide) fW (SqL.of lA) (SqL.of (s3 _ _ gN)) lY (dw.kp s3.kp),?_⟩;walk_at "b";refine⟨WS rows,us,SqL.of (s3 _ _ gN),dw.kp s3.kp,gR.imp (fun {x y} h e=>by rw[e,D6] at h; cases h),lI,y12 (BH (by lia)),fun l4 iK ki ly lh gL jR=>?_⟩;have s4:=A5 ly (HO.lst iK);have Z:=s3.trans s4;have e4:ki=WS rows:=Sf (fun p=>lh.mem_iff) gL gR;rw[e4] at jR;refine⟨true,Iz (by decide) fW (SqL.of (Z _ _ gN)) (SqL.of A4) (dw.kp Z.kp) (jR.kp s4.kp),?_⟩;generalize upd H3 l4 (HO.lst iK)=H4 at Z |-;have ij:=fZ.trans Z;have iD:=Z _ _ iD;have iC:=Z _ _ iC;have iJ:=j4.kp Z.kp;have lL:=ij.seq hS;have gL:=Z _ _ kY;have jV:=jW.kp Z.kp;have gY:=Z _ _ gN;have lX:=dw.kp Z.kp;walk_at "b";rw[e3];refine AB fun N4 e4=>?_;walk_at "b";intro d1 jz;have s5:=A5 jz (HO.dT []);have ft:(upd H4 d1 (HO.dT [])) d1=some (.dT []):=A4;generalize upd H4 d1 (HO.dT [])=H5 at s5 ft |-;rw[e4];refine AB fun N5 e5=>?_;walk_at "b";intro d2 iA;have s6:=A5 iA (dN P w d2 []);have gD:(upd H5 d2 (dN P w d2 [])) d2=some (dN P w d2 []):=A4;have ft:=s6 _ _ ft;have iT:d1≠d2:=AM ft gD (by intro z; cases z);generalize upd H5 d2 (dN P w d2 [])=H6 at s6 ft gD |-;have iN:=s5.trans s6;have kq:∀{x:Addr} {o:HO},H4 x=some o->x≠d1:=fun e=>AS e jz;have kj:∀{x:Addr} {o:HO},H4 x=some o->x≠d2:=fun e z=>by rw[z] at e; rw[s5 _ _ e] at iA; cases iA
 rw[e5];refine AB fun N6 e6=>?_;walk_at "b";refine⟨⟨_,SqL.of (iN _ _ gY)⟩,?_⟩;have kC:∀Hc,SameC d1 d2 H6 Hc->Same H4 Hc:=fun Hc sc x o e=>sc _ _ (kq e) (kj e) (iN _ _ e);refine Da (xs:=us) (LwO P w H6 a r lw d1 d2 rows b) ?s ?l ?t ?d
 case s=>exact⟨[],[],_,_,_,_,_,rfl,SameC.refl _,SeT.nil ft,gD,KwI.nil _ _,fun t h=>absurd h (by simp),fun t h=>absurd h (by simp)⟩
 case l=>
  rintro i σ Hc _ ⟨el,B,_,_,_,_,_,rfl,sc,_⟩;exact SqL.of (kC Hc sc _ _ gY)
 case t=>
  rintro i y σ Hc hy ⟨el,B,_,_,_,_,_,rfl,sc,gk,gP,gQ⟩;obtain⟨wl,ge,jP⟩:=BV lX hy;have ju:=iz wl (yw ge);have R:=kC Hc sc;have mR:=(zzS ge).1;have lJ:(evP rows b wl).2.2.length+1<ym:=Rl fh [] 0 (stB [] rows wl);have mU:(AR rows b ((WS rows).take i)).length+(evP rows b wl).2.2.length+1<ym:=by
   have:=Ix (rows:=rows) fh iB (W:=(WS rows).take (i+1)) (by rw[y04]; lia);rw[Ax ge,Iw,yc] at this;exact this
  refine MA fun M0 f0=>?_;walk_at "b";rw[f0];refine AB fun M1 m1=>?_;walk_at "b";refine⟨.ref r,y,rows,b,wl,g,rfl,iJ.kp R.kp,jP.kp R.kp,O,ju,fh,gC,lJ,fun rt l5 tv ys Hr sr kR gx jk iH=>?_⟩;walk_at "b";refine⟨_,SqT.of kR,rfl,_,_,rfl,_,_,rfl,rfl,?_⟩;have jx:=sr _ _ gk.1;have jw:=sr _ _ gP;have lK:=gk.to jx fun l xs e=>sr _ _ e;have ke:SameC d1 d2 H6 Hr:=sc.trans (SameC.of sr);have gR:=gQ.kp sr.kp;have kA:ys.length=(evP rows b wl).2.2.length:=by rw[iH.length,y4]
  rw[m1];refine AB fun M2 m2=>?_;walk_at "b";refine⟨⟨_,SqL.of jk⟩,?_⟩;refine Da (xs:=ys) (LwI P w H6 Hr a r lw d1 d2 l5 (some y) (some tv) (some (.ref l5)) B ys (AR rows b ((WS rows).take i)) (evP rows b wl).2.2) ?S ?L ?T ?D
  case S=>exact⟨el,_,_,rfl,ke,Kp.refl _,jw,jk,by rw[y26,y0x]; exact lK⟩
  case L=>
   rintro j σ Hd _ ⟨el,_,_,rfl,_,_,_,h,_⟩;exact SqL.of h
  case T=>
   rintro j z σ Hd hz ⟨fk,_,_,rfl,sd,kd,G,fq,J⟩;obtain⟨fw,gy,drw⟩:=BV iH hz;obtain⟨ra,pv,wv,rfl,kT,t0,t1⟩:=B1 (drw.kp kd);cases t1;obtain⟨pa,rfl,gf⟩:=FB t0;have mQ:=(zzS gy).1;have mC:fk.length+1<ym:=by
    have h1:=J.2.1.2.2;rw[yc,y04] at h1;lia
   have ji:=J.off fq (iH.kp kd);have lq:d1≠l5:=AM J.1 fq (by intro z; cases z);walk_at "b";refine⟨_,SqT.of kT,rfl,_,_,rfl,_,_,rfl,rfl,_,J.1,yo _,fun z9 fz=>?_⟩;have s9:=A5 fz (HO.lst []);have gp:=J.to (s9 _ _ J.1) fun l xs e=>s9 _ _ e;have gO:(kvT fk).length<ym:=by unfold kvT; rw[y4]; lia
   have iY:H6 z9=none:=by
    cases hh:H6 z9 with
    |none=>rfl
    |some o=>
     have:=sd _ _ (y1k (AS J.1 fz)) (y1k (AS G fz)) hh;rw[fz] at this;cases this
   refine⟨_,fw.1.map Sum.inl,_,rfl,gp.1,by rw[FC]; exact s9 _ _ gf,gO,fun v hv=>?_,fun hv=>?_⟩
   ·rw[EI] at hv;obtain⟨⟨v',xs⟩,hg,rfl⟩:=Option.map_eq_some_iff.mp hv;obtain⟨ex,l,iG,e2,e3⟩:=gp.2.2.2 _ (FA hg);have iG:v'=.ref l:=iG;subst iG;have ex:xs=_:=ex;have e3:_=some (HO.lst (xs.map V.int)):=e3;have kB:xs.length<ym:=by
     have h1:=eT (AR rows b ((WS rows).take i)++(evP rows b wl).2.2.take j) fw.1;rw[<- ex,yc,y04] at h1;lia
    refine⟨.inl ⟨rfl,_,SqL.of e3⟩,l,rfl,_,e3,by rw[y4]; exact kB,?_⟩;refine⟨B7 fk fw.1 (.ref l) (xs++[fw.2]),_,_,rfl,fun x o n m e=>?_,kd.trans (s9.kp.trans (Kp.set e3)),?_,?_,?_⟩
    ·rw[A8 (AS e e2)];exact s9 _ _ (sd x o n m e)
    ·rw[A8 (AM (s9 _ _ G) e3 (by intro z; cases z))];exact s9 _ _ G
    ·rw[A8 fun z=>ji _ (FA hg) (by rw[z])];exact s9 _ _ fq
    ·rw[Ax gy,<- yn];exact gp.more fw hg
   ·rw[EI,y4n] at hv;have n9:z9≠d1:=y1k (AS J.1 fz);have ip:(upd (upd Hd z9 (HO.lst [])) d1 (HO.dT (An (kvT fk) (fw.1.map Sum.inl) (V.ref z9)))) z9=some (.lst []):=by rw[A8 n9,A4]
    refine⟨.inl ⟨rfl,_,SqL.of ip⟩,_,ip,by decide,?_⟩;refine⟨B7 fk fw.1 (.ref z9) [fw.2],_,_,rfl,fun x o n m e=>?_,kd.trans (s9.kp.trans ((Kp.but SameB.upd gp.1 (Mm _)).trans (Kp.set ip))),?_,?_,?_⟩
    ·rw[A8 (AS e iY),A8 n];exact s9 _ _ (sd x o n m e)
    ·rw[A8 (AS G fz),A8 (y1k iT)];exact s9 _ _ G
    ·rw[A8 (AS fq fz),A8 (y1k lq)];exact s9 _ _ fq
    ·rw[Ax gy,<- yn];refine J.new fw hv fz iY (by rw[A8 (y1k n9),A4,SD]) (by rw[A4]; rfl) fun l xs e=>?_;rw[A8 (AS e fz),A8 (AM e J.1 (by intro z; cases z))];exact s9 _ _ e
  case D=>
   rintro σ Hd ⟨fk,_,_,rfl,sd,kd,G,fq,J⟩;rw[kA,y0i] at J;have lV:=jP.kp (R.kp.trans (sr.kp.trans kd));show M2 _ _;rw[m2];unfold Cu at gx;have iE:SeT H6 d1 Hd fk (AR rows b ((WS rows).take (i+1))):=by rw[Ax ge,Iw]; exact J
   have jB:=gR.kp kd;rcases e7:(evP rows b wl).1 with _|k
   ·rw[e7] at gx;obtain⟨ms,_,_,dt⟩:=gx;obtain⟨ta,x1,x2,rfl,iu,t1,t2⟩:=B1 (dt.kp kd);cases t1;walk_at "b";refine⟨_,SqT.of iu,_,AW,_,Ak,?_⟩;rw[if_neg (by decide)];refine⟨fk,B,_,_,_,_,_,rfl,sd,iE,G,?_⟩;rw[Ax ge];exact jB.skip fun k z=>by rw[e7] at z; cases z
   ·rw[e7] at gx;have dt:Dt Hd tv (.tup [.str "refused",.str k.1,AJ k.2]):=Dt.kp kd gx;obtain⟨ta,x1,x2,x3,rfl,iu,t1,t2,t3⟩:=Bt dt;cases t1;walk_at "b";refine⟨_,SqT.of iu,_,AW,_,Ak,?_⟩;rw[if_pos (by decide)];refine⟨B,G,slD dt fun z8 H8 s8 d8=>?_⟩;obtain⟨a8,rfl,jh⟩:=SO (show Dt H8 z8 (.tup [.str k.1,AJ k.2]) from d8);have fu:=s8 _ _ G;have gS:=jB.kp s8.kp;have M:=iE.to (s8 _ _ iE.1) fun l xs e=>s8 _ _ e;have iM:SameC d1 d2 H6 H8:=sd.trans (SameC.of s8);refine⟨k,a8,rfl,fu,gS.2.1,jh,?_,fun v hv=>?_,fun hv=>?_⟩
    ·have:=gS.1.2.2;rw[y04] at this;exact BH (by lia)
    ·refine⟨fk,B,_,_,_,_,_,rfl,iM,M,fu,?_⟩;rw[Ax ge];refine gS.skip fun j z=>?_;rw[e7] at z;cases z;obtain⟨a,ha⟩:=Mo hv;exact List.mem_map.mpr ⟨_,ha,rfl⟩
    ·have sU:SameB d2 H8 (upd H8 d2 (dN P w d2 (BB B k a8 y))):=SameB.upd;have kU:=Kp.but sU fu (Mn P w d2 B);refine⟨fk,BB B k a8 y,_,_,_,_,_,rfl,iM.trans (SameC.two sU),M.to (by rw[A8 iT]; exact M.1) (fun l xs e=>by rw[A8 (AM e fu (by intro z; cases z))]; exact e),A4,?_⟩;rw[Ax ge];exact(gS.put e7 hv jh (lV.kp s8.kp)).kp kU
 case d=>
  rintro σ Hc ⟨el,B,x5,x6,x7,x8,x9,rfl,sc,gk,gP,gQ⟩;rw[kM,y0i] at gk gQ;have R:=kC Hc sc;have kO:=R _ _ iD;have gn:=R _ _ iC;have jH:TabAt p2 DU dT.qual Hc:=.inl gn;show N6 _ _;rw[e6];refine AB fun N7 e7=>?_;walk_at "b";refine⟨.ref r,rows,b,g,rfl,iJ.kp R.kp,O,fh,iB,gC,jH,fun l8 mH kh fm H8 gb mS mD lx jd iy lN d8=>?_⟩;have k8:Kp Hc H8:=gb.tab jH;have M:SeT H6 d1 H8 el (AR rows b (WS rows)):=gk.to (gb _ _ (AM gk.1 gn (by intro z; cases z)) gk.1) fun l xs e=>gb _ _ (AM e gn (by intro z; cases z)) e;have fu:H8 d2=some (dN P w d2 B):=gb _ _ (AM gP gn (by intro z; cases z)) gP;have mT:(AR rows b (WS rows)).length+1<ym:=Ix fh iB jE;have gO:(el.map (·.1)).length<ym:=by have:=M.2.1.2.2; rw[y4]; lia
  walk_at "b";refine⟨_,.inl M.1,fun l9 as lu lg=>?_⟩;have s9:=A5 lu (HO.lst (as.map V.ref));refine⟨el.map (·.1),_,SqL.of A4,(Sh lg).kp s9.kp,M.2.1.1,fun _ p hp=>?_,y12 gO,fun gJ vs ps js gz lc dvs=>⟨⟨_,SqL.of A4⟩,?_⟩⟩
  ·obtain⟨r',i4,e⟩:=List.mem_map.mp ((M.2.1.2.1 p).mp hp);rw[<- e];exact SI rows b _ r' i4
  have iS:=A5 js (HO.lst vs);have ic:=s9.trans iS;have jj:(upd (upd H8 l9 (HO.lst (as.map V.ref))) gJ (HO.lst vs)) gJ=some (.lst vs):=A4;have jQ:=dvs.kp iS.kp;have mq:ps.length<ym:=by rw[gz.length_eq]; exact gO
  have jN:ps=kh:=Sf (fun p=>(gz.mem_iff.trans (M.2.1.2.1 p)).trans (iy p).symm) lc jd;have kL:vs.length=ps.length:=by rw[dvs.length,y4]
  generalize upd (upd H8 l9 (HO.lst (as.map V.ref))) gJ (HO.lst vs)=U at ic jj jQ |-;refine Dc (K:=K) (a:=gJ) (xs:=vs) (LwC U d1 fm ps) ⟨Same.refl _,⟨_,rfl⟩,by rw[y26]; exact .nil,yf _⟩ (by lia) ?_ ?_ ?_ ?_
  ·rintro i ys fe H' ⟨_,_,_,hy⟩;exact hy
  ·rintro i ys fe H' _ ⟨sU,_,_⟩;exact SqL.of (sU _ _ jj)
  ·rintro i ys v' fe H' ir ⟨sU,⟨t,rfl⟩,dy,hy⟩;obtain⟨p,jf,dp⟩:=BV jQ ir;obtain⟨pa,rfl,gf⟩:=FB dp;have je:=yw jf;obtain⟨t,ht,ep⟩:=List.mem_map.mp (gz.mem_iff.mp je);have lE:Ah el p=some t.2:=by rw[<- ep]; exact GU M.2.1.1 t ht
   obtain⟨ew,ll,lQ,_,lr⟩:=M.2.2.2 t ht;have u:=ic.trans sU;have hg:=DGet.t (u _ _ M.1) (b:=pa) (k:=p.map Sum.inl) (by rw[FC]; exact sU _ _ gf);rw[EI,lE,Option.map_some,lQ] at hg;have lM:=lN p (jN ▸ je);walk_at "b";have i7:SqL K H' ll (t.2.2.map V.int):=SqL.of (u _ _ lr);have gX:0<t.2.2.length:=by rw[ew]; exact SF ((M.2.1.2.1 t.1).mp (List.mem_map.mpr ⟨t,ht,rfl⟩))
   refine⟨_,hg,ll,rfl,t.2.2,i7,gX,fun M1 m1 m2=>⟨_,hg,ll,rfl,t.2.2,i7,gX,fun M2 m3 m4=>⟨by decide,fun mM jb=>?_⟩⟩⟩;have eM:fm p=(M1,M2):=lM.uniq (by rw[<- ep,<- ew]; exact⟨⟨m1,m2⟩,m3,m4⟩);have fZ:=A5 jb (HO.tup [V.ref pa,V.int M1,V.int M2]);refine⟨sU.trans fZ,⟨_,rfl⟩,?_,by rw[yc,y0d]; lia⟩;rw[Ax jf,yp];refine(dy.kp fZ.kp).append (.cons ?_ .nil);show Dt _ _ (EJ p (fm p));rw[eM];exact .tup A4 (.cons ((dp.kp sU.kp).kp fZ.kp) (.cons (.int _) (.cons (.int _) .nil)))
  ·rintro ys fe H' ⟨sU,_,dy,hy⟩ ku jr;have iR:=A5 jr (HO.lst ys);rw[kL,y0i] at dy;have fY:=ic.trans (sU.trans iR);refine⟨true,Iz (n:=2) (by decide) (fun d hd=>?_) (SqL.of (fY _ _ lx)) (SqL.of A4) (d8.kp fY.kp) (jN ▸ dy.kp iR.kp),?_⟩
   ·obtain⟨p,_,rfl⟩:=List.mem_map.mp hd;exact fN _ _
   rw[if_neg (by decide)];generalize upd H' ku (HO.lst ys)=H9 at fY |-;have k9:Kp Hc H9:=k8.trans fY.kp;have jZ:=(iJ.kp R.kp).kp k9;have gK:H9 p1=some (.tbl #[]):=fY _ _ (gb _ _ lO kO);have jG:TabAt p1 Bv dR.qual H9:=.inl gK;have hG:=fY _ _ fu;have jD:=gQ.kp k9;have gp:SqL K H9 a (ns.map V.int):=fY.seq (gb.seq gn (R.seq lL));have i5:=fY _ _ (gb _ _ (AM (R _ _ gL) gn (by intro z; cases z)) (R _ _ gL));have jU:=(jV.kp R.kp).kp k9;rw[e7];refine AB fun N8 e8=>?_;walk_at "b";refine⟨.ref r,rows,b,g,rfl,jZ,O,fh,gC,jG,fun mN zs gT gm jJ jq kz gM iF=>?_⟩;have iX:Kp H9 gT:=gm.tab jG;have g9:gT d2=some (dN P w d2 B):=gm _ _ (AM hG gK (by intro z; cases z)) hG;have fV:=jD.kp iX;walk_at "b";have mF:B.length<=9:=y0j fV.1.2.2 jE;refine⟨B,.inl g9,by lia,fun iU jp=>?_⟩;have iQ:=A5 jp (HO.lst ((B.map fun p=>(p.1,p.2.1)).map fun p=>V.ref p.2));have jt:(B.map fun p=>(p.1,p.2.1)).map (·.1)=B.map (·.1):=by rw[y09]; rfl
   refine⟨B.map fun p=>(p.1,p.2.1),SqL.of A4,fun p hp=>?_,by rw[jt]; exact fV.1.1,fun p hp=>?_,by rw[y4]; lia,fun im fX jo jc kZ=>?_⟩
   ·obtain⟨t,ht,rfl⟩:=List.mem_map.mp hp;exact(fV.2.1 t ht).kp iQ.kp
   ·obtain⟨t,ht,rfl⟩:=List.mem_map.mp hp;exact fV.1.word _ (List.mem_map.mpr ⟨t,ht,rfl⟩)
   have ij:=A5 jo (HO.lst (fX.map fun p=>V.ref p.2));have fg:=iQ.trans ij;have iq:∀k,k∈fX.map (·.1)↔k∈B.map (·.1):=fun k=>by rw[(jc.map (·.1)).mem_iff,jt]
   have iZ:fX.map (·.1)=zs.map (·.1):=fP (fun k hk=>fV.1.word k ((iq k).mp hk)) (fun k=>(iq k).trans ((fV.1.2.1 k).trans (gM k).symm)) (by rw[y1x]; exact kZ) (by rw[y1x]; exact kz);have gB:(upd (upd gT iU (HO.lst ((B.map fun p=>(p.1,p.2.1)).map fun p=>V.ref p.2))) im (HO.lst (fX.map fun p=>V.ref p.2))) im=some (.lst (fX.map fun p=>V.ref p.2)):=A4;generalize upd (upd gT iU (HO.lst ((B.map fun p=>(p.1,p.2.1)).map fun p=>V.ref p.2))) im (HO.lst (fX.map fun p=>V.ref p.2))=H14 at fg gB |-;have jO:DtA H14 (fX.map fun p=>V.ref p.2) ((fX.map (·.1)).map kwD):=by
    rw[y09];refine Ea fun p hp=>?_;obtain⟨t,ht,rfl⟩:=List.mem_map.mp (jc.mem_iff.mp hp);exact SQ ((fV.2.1 t ht).kp fg.kp)
   have lU:DtA H14 (zs.map fun p=>V.ref p.2) ((zs.map (·.1)).map kwD):=by
    rw[y09];exact Ea fun p hp=>SQ ((iF p hp).kp fg.kp)
   rw[iZ] at jO;refine⟨true,Iz (n:=2) (by decide) (fun d hd=>?_) (SqL.of (fg _ _ jq)) (SqL.of gB) lU jO,?_⟩
   ·obtain⟨k,hk,rfl⟩:=List.mem_map.mp hd;exact fO (fV.1.word k ((iq k).mp (iZ ▸ hk)))
   rw[if_neg (by decide)];have iW:Kp H9 H14:=iX.trans fg.kp;have j5:=jZ.kp iW;have hZ:=jJ.same fg;have fc:=fg _ _ g9;obtain⟨mL,mo⟩:=hZ.tbl;have jM:SqL K H14 a (ns.map V.int):=fg.seq (gm.seq gK gp);have gW:=fg _ _ (gm _ _ (AM i5 gK (by intro z; cases z)) i5);have iI:=jU.kp iW;have jF:=fV.kp fg.kp;rw[e8];refine AB fun N9 e9=>?_;walk_at "b";refine⟨B,.inl fc,fun o=>?_⟩;have sF:SameB d2 H14 (upd H14 d2 (HO.frz o (dN P w d2 B))):=SameB.upd;have kF:=Kp.but sF fc (Mn P w d2 B);have gE:(upd H14 d2 (HO.frz o (dN P w d2 B))) d2=some (.frz o (dN P w d2 B)):=A4;have gG:=hZ.but sF (Iy fc dR.qual).1 (Iy fc dR.qual).2;have jL:SqL K (upd H14 d2 (HO.frz o (dN P w d2 B))) a (ns.map V.int):=by
    rcases jM with(e|⟨o',e⟩)|e
    ·exact .inl (.inl (sF _ _ (AM e fc (by intro z; cases z)) e))
    ·exact .inl (.inr ⟨o',sF _ _ (AM e fc (by intro z; cases z)) e⟩)
    ·exact .inr e
   have ix:=sF _ _ (AM gW fc (by intro z; cases z)) gW;generalize upd H14 d2 (HO.frz o (dN P w d2 B))=HF at sF kF gE gG jL ix |-;have jY:=j5.kp kF;have jT:=iI.kp kF;have jC:=jF.kp kF;obtain⟨qF,iw⟩:=gG.tbl;have nF:d2≠p1:=AM gE iw (by intro z; cases z);refine Va (LwW HF p1 a r lw d1 d2) ⟨_,_,_,_,_,_,rfl,fun _ _ _ e=>e,gG⟩ ?_ ?_ ?_
   ·rintro i fe H' _ ⟨_,_,_,_,_,_,_,sW,_⟩;exact sW _ _ nF gE
   ·rintro i v fe HW hv ⟨y5,y6,y7,y8,y9,j8,rfl,sW,gF⟩;rw[y0k] at hv;obtain⟨t,kN,ev⟩:=Option.map_eq_some_iff.mp hv;subst ev;have ht:=yw kN;have kW:Kp HF HW:=sW.tab gG;have gj:=jC.kp kW;obtain⟨pb,gf,jg⟩:=gj.2.1 t ht;obtain⟨ws,lP,lW⟩:=gj.2.2 t ht;have kJ:=gj.1.word t.1 (List.mem_map.mpr ⟨t,ht,rfl⟩);have kK:=SN gj.1.1 t ht;have mf:Dt HW (.ref pb) (AJ t.1.2):=.tup jg (Dl HW t.1.2);walk_at "b";refine⟨_,SqT.of gf,rfl,_,_,rfl,_,_,rfl,rfl,?_⟩;refine⟨.ref r,.ref pb,rows,b,g,t.1,rfl,jY.kp kW,mf,Se kJ,O,fh,gC,gF,fun rv mn gw jI hws=>?_⟩;have io:Kp HW mn:=gw.tab gF;rw[lP] at hws;walk_at "b";refine⟨by decide,fun mK ja=>?_⟩;have gc:=A5 ja (HO.tup [V.str t.1.1,V.ref pb]);have jy:=gw _ _ nF (sW _ _ nF gE);refine⟨B,.inr ⟨o,gc _ _ jy⟩,fun p hp=>((gj.2.1 p hp).kp io).kp gc.kp,t.1,⟨pb,A4,gc _ _ (io.1 _ _ jg)⟩,t.2.2,kK,true,Sd (n:=1) (DN ws) (by decide) (Dt.kp gc.kp hws) ((lW.kp io).kp gc.kp),?_⟩;rw[if_neg (by decide)];exact⟨_,_,_,_,_,_,rfl,sW.tr (gw.tr (SameB.of gc)),jI.same gc⟩
   ·rintro fe HW ⟨y5,y6,y7,y8,y9,j8,rfl,sW,gF⟩;have kW:Kp HF HW:=sW.tab gG;have gj:=jC.kp kW;have lF:=sW _ _ nF gE;have jK:SqL K HW a (ns.map V.int):=sW.seq iw jL;have kX:=sW _ _ (AM ix iw (by intro z; cases z)) ix;have md:=jY.kp kW;have jS:=jT.kp kW;show N9 _ _;rw[e9];refine AB fun mY lT=>?_;walk_at "b";refine⟨_,SqT.of kX,_,AV (j:=1) rfl,yo _,fun mJ i9=>?_⟩;have iP:=A5 i9 (HO.tup []);refine⟨_,b,_,[],rfl,jS.kp iP.kp,.tup A4 .nil,fh,by decide,by decide,fun kr j7 gt kg lB gZ d18=>?_⟩;have j9:=iP.trans kg;have d18:DtA j7 gt ((DL b).map C6):=d18;have i3:gt.length=(DL b).length:=by rw[d18.length,y4]
    have kQ:=br fh;have mP:=fQ lG;walk_at "b";refine⟨⟨_,SqL.of gZ⟩,?_⟩;refine Dc (K:=K) (a:=kr) (xs:=gt) (LwP j7 (DL b)) ⟨Same.refl _,⟨_,_,rfl⟩,by rw[y26]; exact .nil,yf _⟩ (by rw[i3]; exact y11 kQ (by decide)) ?_ ?_ ?_ ?_
    ·rintro i ys fe H' ⟨_,_,_,hy⟩;exact hy
    ·rintro i ys fe H' _ ⟨sU,_,_⟩;exact SqL.of (sU _ _ gZ)
    ·rintro i ys v' fe H' ir ⟨sU,⟨t,u,rfl⟩,dy,hy⟩;obtain⟨rr,gy,lZ⟩:=BV d18 ir;obtain⟨pp,y0,y1,rfl,gz,u0,u1⟩:=B1 (lZ.kp sU.kp);walk_at "b";refine⟨_,SqT.of gz,rfl,_,_,rfl,_,_,rfl,rfl,sU,⟨_,_,rfl⟩,?_,by rw[yc,y0d]; lia⟩;rw[Ax gy,yp,yp];exact dy.append (.cons u0 .nil)
    ·rintro ys fe H' ⟨sU,_,dy,_⟩ il jm;have iO:=A5 jm (HO.lst ys);rw[i3,y0i] at dy;have gH:=dy.kp iO.kp;have gh:(upd H' il (HO.lst ys)) il=some (.lst ys):=A4;have ib:=j9.trans (sU.trans iO);generalize upd H' il (HO.lst ys)=H19 at gH gh ib |-;have mO:ys.length=(DL b).length:=by rw[dy.length,y4,y4]
     rw[lT];refine AB fun mX lS=>?_;walk_at "b";refine⟨_,GJ (SqL.of gh),?_⟩;refine⟨a,ns,300,ys.length,rfl,ib.seq jK,by decide,by lia,fun i j6 hi0 hi1 ii=>?_⟩;obtain⟨pv,k6,lH⟩:=Ll (xs:=ys) hi0 hi1;refine⟨_,i,rfl,SqL.of (ii _ _ gh),pv,lH,?_⟩;obtain⟨rr,i4,me⟩:=BV (by rw[y09] at gH; exact gH) k6;rw[lS];refine AB fun mW lR=>?_;walk_at "b";refine⟨by decide,fun ik jl=>?_⟩;have ig:=A5 jl (HO.lst [V.str "over",V.str "zero",V.str "long"]);have gA:(upd j6 ik (HO.lst [V.str "over",V.str "zero",V.str "long"])) ik=some (.lst [V.str "over",V.str "zero",V.str "long"]):=A4;generalize upd j6 ik (HO.lst [V.str "over",V.str "zero",V.str "long"])=H21 at ig gA |-;have iL:=ib.trans (ii.trans ig);refine⟨a,ns,301,3,rfl,iL.seq jK,by decide,by decide,fun i2 mj hi0 hi1 ie=>?_⟩;obtain⟨wv,kE,jA⟩:=Ll (xs:=[V.str "over",V.str "zero",V.str "long"]) hi0 (by simpa using hi1);refine⟨_,i2,rfl,SqL.of (ie _ _ gA),wv,jA,?_⟩;have gu:=iL.trans ie;have jv:=me.kp (ii.trans (ig.trans ie)).kp;obtain⟨wd,rfl,kH⟩:∃wd:Str,wv=.str wd/\PyData.strOk wd=true:=by
      have:=yw kE;simp only[y0f,y00,or_false] at this;rcases this with rfl|rfl|rfl
      ·exact⟨_,rfl,by decide+kernel⟩
      ·exact⟨_,rfl,by decide+kernel⟩
      ·exact⟨_,rfl,by decide+kernel⟩
     rw[lR];walk_at "b";refine⟨.ref r,pv,rows,b,g,(wd,rr.1),rfl,md.kp gu.kp,jv,kH,O,fh,gC,gF.same gu,fun rv mh gU mG hws=>?_⟩;have iV:Kp mj mh:=gU.tab (gF.same gu);walk_at "b";have hJ:=gU _ _ nF (gu _ _ lF);obtain⟨pa,rfl,gf⟩:=FB (jv.kp iV);refine⟨B,.inr ⟨o,hJ⟩,by decide,fun mI i8=>?_⟩;have gI:=A5 i8 (HO.tup [V.str wd,V.ref pa]);have hX:=((gj.kp gu.kp).kp iV).kp gI.kp;refine⟨.inr ⟨o,gI _ _ hJ⟩,hX.2.1,(wd,rr.1),⟨pa,A4,gI _ _ gf⟩,true,Sd (fM _) (by decide) ((Sc hws).kp gI.kp) (Sc (hX.find (wd,rr.1))),q _⟩
end
theorem fS(h:K.lookup a=some ⟨.type "tuple",o,.seq its n,l⟩) (r:Vals xs its.toList) (hz:its.size<=ym:=by decide):∀H,SqT K H a xs:=fun H=>.inr ⟨_,_,_,h,rfl,rfl,hz,r⟩
theorem us1{q:List yg->Prop}(h:∀a0,q [a0])(us:List yg)(l:us.length=1):q us:=by
 rcases us with _|⟨_,_|⟨_,_⟩⟩
 ·cases l
 ·exact h _
 ·cases l
theorem us2{q:List yg->Prop}(h:∀a0 z,q [a0,z])(us:List yg)(l:us.length=2):q us:=by
 rcases us with _|⟨_,_|⟨_,_|⟨_,_⟩⟩⟩
 ·cases l
 ·cases l
 ·exact h _ _
 ·cases l
theorem us3{q:List yg->Prop}(h:∀a0 B z,q [a0,B,z])(us:List yg)(l:us.length=3):q us:=by
 rcases us with _|⟨_,_|⟨_,_|⟨_,_|⟨_,_⟩⟩⟩⟩
 ·cases l
 ·cases l
 ·cases l
 ·exact h _ _ _
 ·cases l
theorem us4{q:List yg->Prop}(h:∀a0 B z a3,q [a0,B,z,a3])(us:List yg)(l:us.length=4):q us:=by
 rcases us with _|⟨_,_|⟨_,_|⟨_,_|⟨_,_|⟨_,_⟩⟩⟩⟩⟩
 ·cases l
 ·cases l
 ·cases l
 ·cases l
 ·exact h _ _ _ _
 ·cases l
theorem us5{q:List yg->Prop}(h:∀a0 B z a3 a4,q [a0,B,z,a3,a4])(us:List yg)(l:us.length=5):q us:=by
 rcases us with _|⟨_,_|⟨_,_|⟨_,_|⟨_,_|⟨_,_|⟨_,_⟩⟩⟩⟩⟩⟩
 ·cases l
 ·cases l
 ·cases l
 ·cases l
 ·cases l
 ·exact h _ _ _ _ _
 ·cases l
def DfK(K:ya)(x:Str)(st:Stmt)(f:Addr):Prop:=∃F B q kV G z J cd ct,PySem.W.nsIn K y0g x=some (some (.ref f))/\K.lookup f=some ⟨F,B,.func (PySem.W.fnOf x x (defArgs st) (defBody st) (defScope st) .none kV G z J cd ct),q⟩/\PySem.W.codeIn K cd x=true/\PySem.W.keepIn K (.ref f)=true
theorem DfK.df{mg:Str->Option yg}(D:DfK K x st f)(X:K.In h)(G:h.Ns y0g mg)(ps:List Str)(hb:∀(kV q B:yg) (J:Option Addr) (z ct:yg) (us:List yg),us.length=ps.length->bindArgs (PySem.W.fnOf x x (defArgs st) (defBody st) (defScope st) .none kV q B J z ct) ⟨us,[]⟩=pure (ps.zip us)):∃fd,Df K mg x st ps f fd:=by
 obtain⟨_,_,_,_,_,_,_,_,_,a,l,c,k⟩:=D;have F:=HE l c k;exact⟨_,F,y45 X G a,F.binds hb⟩
theorem fT{l:PySem.W.OpenLaw}{w:y0h}{K:ya}{h:Heap}{mg:Str->Option yg}{fa f0 f1 f2 f3 f4 f5 f6 f7 f8 f9 gI gH gG gF gE gD gC gB gA gz gy gx gw gu gt gp gn gm gk gj gh gf ge gc R:Addr}(X:K.In h)(G:h.Ns y0g mg) (gb:mg "law" = some (.ref fa))
  {fz gO fw gN Z O:Option Addr} {fq fk U:Array (Option yg)} {fX fZ gK fu gM fV fY gJ ft gL fc B J z M q:yg}
  {e3 e4:Addr} {t3 t4:Addr}
  {ai:Addr} {oi:Option Addr} {ni:Nat} {li:Array (Option yg)} {fh fg:Tok}
  (d0:DfK K "is_whole" Ds f0)
  (d1:DfK K "is_whole_from" Du f1)
  (d2:DfK K "is_tuple_of" DC f2)
  (a3:PySem.W.nsIn K y0g "run" = some (some (.ref f3))) (l3:K.lookup f3=some ⟨fX,fz,.func (PySem.W.fnOf "run" "run" (defArgs Br) (defBody Br) (defScope Br) .none fZ gK fu gO (.ref e3) gM),fq⟩) (c3:PySem.W.codeIn K (.ref e3) "run" = true) (k3:PySem.W.keepIn K (.ref f3)=true)
  (a4:PySem.W.nsIn K y0g "traced" = some (some (.ref f4))) (l4:K.lookup f4=some ⟨fV,fw,.func (PySem.W.fnOf "traced" "traced" (defArgs BJ) (defBody BJ) (defScope BJ) .none fY gJ ft gN (.ref e4) gL),fk⟩) (c4:PySem.W.codeIn K (.ref e4) "traced" = true) (k4:PySem.W.keepIn K (.ref f4)=true)
  (d5:DfK K "run_by" Bk f5)
  (d6:DfK K "settled" Dv f6)
  (d7:DfK K "names_at_first" Bc f7)
  (d8:DfK K "do_block" BS f8)
  (d9:DfK K "do_deed" CD f9)
  (d10:DfK K "do_set" CF gI)
  (d11:DfK K "do_if" C3 gH)
  (d12:DfK K "do_while" BT gG)
  (d13:DfK K "reckon" Bd gF)
  (d14:DfK K "worth_of" DE gE)
  (d15:DfK K "joined" Dx gD)
  (d16:DfK K "all_worths" Be gC)
  (d17:DfK K "exact" BU gB)
  (d18:DfK K "refusals" Ej gA)
  (d19:DfK K "ways_refused" C4 gz)
  (d20:DfK K "witness" CT gy)
  (d21:DfK K "_law_cell" Ek gx)
  (d22:DfK K "_law_pick" Cg gw)
  (d23:DfK K "_law_sum" BK gu)
  (d24:DfK K "_law_counted" BC gt)
  (d25:DfK K "_law_block" Ac gp)
  (d26:DfK K "_law_program" Bf gn)
  (d27:DfK K "_law_all_worths" Bg gm)
  (d28:DfK K "_law_reckoned" E1 gk)
  (d29:DfK K "_law_worth" Aw gj)
  (d30:DfK K "_law_do" Ap gh)
  (d31:DfK K "_law_run" Bs gf)
  (d32:DfK K "_law_sum_spots" E6 ge)
  (d33:DfK K "_law_spots" BL gc)
  (a34:PySem.W.nsIn K y0g "law" = some (some (.ref R))) (l34:K.lookup R=some ⟨fc,Z,.func (PySem.W.fnOf "law" "law" (defArgs AX) (defBody AX) (defScope AX) .none B J z O q M),U⟩) (c34:PySem.W.codeIn K q "law" = true) (k34:PySem.W.keepIn K (.ref R)=true)
  (z_enumerate:PySem.W.nsIn K y0g "enumerate" = some none)
  (z_sorted:PySem.W.nsIn K y0g "sorted" = some none)
  (z_len:PySem.W.nsIn K y0g "len" = some none)
  (z_max:PySem.W.nsIn K y0g "max" = some none)
  (z_min:PySem.W.nsIn K y0g "min" = some none)
  (z_dict:PySem.W.nsIn K y0g "dict" = some none)
  (z_tuple:PySem.W.nsIn K y0g "tuple" = some none)
  (z_range:PySem.W.nsIn K y0g "range" = some none)
  (z_isinstance:PySem.W.nsIn K y0g "isinstance" = some none)
  (z_int:PySem.W.nsIn K y0g "int" = some none)
  (z_bool:PySem.W.nsIn K y0g "bool" = some none)
  (z_zip:PySem.W.nsIn K y0g "zip" = some none)
  (z_list:PySem.W.nsIn K y0g "list" = some none)
  (pw:PySem.W.nsIn K y0g "WIDE" = some (some (.ref ai)))
  (ph:K.lookup ai=some ⟨.type "tuple",oi,.seq #[.int (-32768) fh,.int 32767 fg] ni,li⟩)
  (n34:t3≠t4)
  : ∃fd:y2c,(∀(s:ye) (v:yg),BindsTo s fd ⟨[v],[]⟩ [("_law_script",v)])/\∀base:Heap,K.In base->base.Ns y0g mg->Fi mg base [(e3,t3),(e4,t4)]->FnOk l.prog w K mg base CX0 25 fa fd ["_law_script"] (J0 K t3 t4):=by
 have e:=gb.symm.trans (y45 X G a34);cases e;obtain⟨_,d_is_whole⟩:=d0.df X G ["thing"] fun _ _ _ _ _ _=>us1 fun _=>rfl;have F_is_whole:=d_is_whole.F;obtain⟨_,d_is_whole_from⟩:=d1.df X G ["thing","low","high"] fun _ _ _ _ _ _=>us3 fun _ _ _=>rfl;have F_is_whole_from:=d_is_whole_from.F;obtain⟨_,d_is_tuple_of⟩:=d2.df X G ["thing","many"] fun _ _ _ _ _ _=>us2 fun _ _=>rfl;have F_is_tuple_of:=d_is_tuple_of.F;have F_run:=HE (st:=Br) l3 c3 k3;have B_run:=F_run.binds (ps:=["program","worths"]) fun _ _ _ _ _ _=>us2 fun _ _=>rfl;have d_run:Df K mg "run" Br ["program","worths"] f3 _:=⟨F_run,y45 X G a3,B_run⟩;have F_traced:=HE (st:=BJ) l4 c4 k4;have B_traced:=F_traced.binds (ps:=["program","worths"]) fun _ _ _ _ _ _=>us2 fun _ _=>rfl;have d_traced:Df K mg "traced" BJ ["program","worths"] f4 _:=⟨F_traced,y45 X G a4,B_traced⟩;obtain⟨_,d_run_by⟩:=d5.df X G ["program","worths","settle"] fun _ _ _ _ _ _=>us3 fun _ _ _=>rfl;have F_run_by:=d_run_by.F;obtain⟨_,d_settled⟩:=d6.df X G ["worth","path","rows"] fun _ _ _ _ _ _=>us3 fun _ _ _=>rfl;have F_settled:=d_settled.F;obtain⟨_,d_names_at_first⟩:=d7.df X G ["ins","worths"] fun _ _ _ _ _ _=>us2 fun _ _=>rfl;have F_names_at_first:=d_names_at_first.F;obtain⟨_,d_do_block⟩:=d8.df X G ["block","path","names","settle"] fun _ _ _ _ _ _=>us4 fun _ _ _ _=>rfl;have F_do_block:=d_do_block.F;obtain⟨_,d_do_deed⟩:=d9.df X G ["deed","path","names","settle"] fun _ _ _ _ _ _=>us4 fun _ _ _ _=>rfl;have F_do_deed:=d_do_deed.F;obtain⟨_,d_do_set⟩:=d10.df X G ["deed","path","names","settle"] fun _ _ _ _ _ _=>us4 fun _ _ _ _=>rfl;have F_do_set:=d_do_set.F;obtain⟨_,d_do_if⟩:=d11.df X G ["deed","path","names","settle"] fun _ _ _ _ _ _=>us4 fun _ _ _ _=>rfl;have F_do_if:=d_do_if.F;obtain⟨_,d_do_while⟩:=d12.df X G ["deed","path","names","settle"] fun _ _ _ _ _ _=>us4 fun _ _ _ _=>rfl;have F_do_while:=d_do_while.F;obtain⟨_,d_reckon⟩:=d13.df X G ["term","path","names","settle"] fun _ _ _ _ _ _=>us4 fun _ _ _ _=>rfl;have F_reckon:=d_reckon.F;obtain⟨_,d_worth_of⟩:=d14.df X G ["word","one","other"] fun _ _ _ _ _ _=>us3 fun _ _ _=>rfl;have F_worth_of:=d_worth_of.F;obtain⟨_,d_joined⟩:=d15.df X G ["one","other"] fun _ _ _ _ _ _=>us2 fun _ _=>rfl;have F_joined:=d_joined.F;obtain⟨_,d_all_worths⟩:=d16.df X G ["program"] fun _ _ _ _ _ _=>us1 fun _=>rfl;have F_all_worths:=d_all_worths.F;obtain⟨_,d_exact⟩:=d17.df X G ["program"] fun _ _ _ _ _ _=>us1 fun _=>rfl;have F_exact:=d_exact.F;obtain⟨_,d_refusals⟩:=d18.df X G ["program"] fun _ _ _ _ _ _=>us1 fun _=>rfl;have F_refusals:=d_refusals.F;obtain⟨_,d_ways_refused⟩:=d19.df X G ["program"] fun _ _ _ _ _ _=>us1 fun _=>rfl;have F_ways_refused:=d_ways_refused.F;obtain⟨_,d_witness⟩:=d20.df X G ["program","word","path"] fun _ _ _ _ _ _=>us3 fun _ _ _=>rfl;have F_witness:=d_witness.F;obtain⟨_,d_law_cell⟩:=d21.df X G ["_law_script","_law_k"] fun _ _ _ _ _ _=>us2 fun _ _=>rfl;have F_law_cell:=d_law_cell.F;obtain⟨_,d_law_pick⟩:=d22.df X G ["_law_script","_law_k","_law_many"] fun _ _ _ _ _ _=>us3 fun _ _ _=>rfl;have F_law_pick:=d_law_pick.F;obtain⟨_,d_law_sum⟩:=d23.df X G ["_law_script","_law_at","_law_known","_law_deep"] fun _ _ _ _ _ _=>us4 fun _ _ _ _=>rfl;have F_law_sum:=d_law_sum.F;obtain⟨_,d_law_counted⟩:=d24.df X G ["_law_script","_law_at","_law_known","_law_body","_law_deep"] fun _ _ _ _ _ _=>us5 fun _ _ _ _ _=>rfl;have F_law_counted:=d_law_counted.F;obtain⟨_,d_law_block⟩:=d25.df X G ["_law_script","_law_at","_law_known","_law_deep"] fun _ _ _ _ _ _=>us4 fun _ _ _ _=>rfl;have F_law_block:=d_law_block.F;obtain⟨_,d_law_program⟩:=d26.df X G ["_law_script","_law_at"] fun _ _ _ _ _ _=>us2 fun _ _=>rfl;have F_law_program:=d_law_program.F;obtain⟨_,d_law_all_worths⟩:=d27.df X G ["_law_program_here"] fun _ _ _ _ _ _=>us1 fun _=>rfl;have F_law_all_worths:=d_law_all_worths.F;obtain⟨_,d_law_reckoned⟩:=d28.df X G ["_law_word","_law_one","_law_other"] fun _ _ _ _ _ _=>us3 fun _ _ _=>rfl;have F_law_reckoned:=d_law_reckoned.F;obtain⟨_,d_law_worth⟩:=d29.df X G ["_law_expr","_law_path","_law_state"] fun _ _ _ _ _ _=>us3 fun _ _ _=>rfl;have F_law_worth:=d_law_worth.F;obtain⟨_,d_law_do⟩:=d30.df X G ["_law_block_here","_law_path","_law_state"] fun _ _ _ _ _ _=>us3 fun _ _ _=>rfl;have F_law_do:=d_law_do.F;obtain⟨_,d_law_run⟩:=d31.df X G ["_law_program_here","_law_worths"] fun _ _ _ _ _ _=>us2 fun _ _=>rfl;have F_law_run:=d_law_run.F;obtain⟨_,d_law_sum_spots⟩:=d32.df X G ["_law_expr","_law_path"] fun _ _ _ _ _ _=>us2 fun _ _=>rfl;have F_law_sum_spots:=d_law_sum_spots.F;obtain⟨_,d_law_spots⟩:=d33.df X G ["_law_block_here","_law_path"] fun _ _ _ _ _ _=>us2 fun _ _=>rfl;have F_law_spots:=d_law_spots.F;have F_law:=HE (st:=AX) l34 c34 k34;have b_enumerate:=y0w X G z_enumerate;have b_sorted:=y0w X G z_sorted;have b_len:=y0w X G z_len;have b_max:=y0w X G z_max;have b_min:=y0w X G z_min;have b_dict:=y0w X G z_dict;have b_tuple:=y0w X G z_tuple;have b_range:=y0w X G z_range;have b_isinstance:=y0w X G z_isinstance;have b_int:=y0w X G z_int;have b_bool:=y0w X G z_bool;have b_zip:=y0w X G z_zip;have b_list:=y0w X G z_list;refine⟨PySem.W.fnOf "law" "law" (defArgs AX) (defBody AX) (defScope AX) .none B J z O q M,fun s v=>.of_eq rfl,fun base _ _ fe=>?_⟩;have FC_run:FunC K "run" "run" Br f3 _ e3:=⟨⟨_,_,_,_,_,_,_,_,rfl,l3,c3⟩,k3⟩;obtain⟨tc_run,tb_run,tg_run⟩:=fe (e3,t3) (.head _);have FC_traced:FunC K "traced" "traced" BJ f4 _ e4:=⟨⟨_,_,_,_,_,_,_,_,rfl,l4,c4⟩,k4⟩;obtain⟨tc_traced,tb_traced,tg_traced⟩:=fe (e4,t4) (.tail _ (.head _));have g_WIDE:GC mg "WIDE" (.ref ai):=⟨_,y45 X G pw,rfl⟩;have hI:∀H,SqT K H ai [.int (-32768),.int 32767]:=fS ph (.cons ⟨_,rfl⟩ (.cons ⟨_,rfl⟩ .nil)) (show(2:Nat)<=ym by decide);have c_iw:=d_is_whole.callee (cr (P:=l.prog) (w:=w) (base:=base) F_is_whole b_isinstance b_int b_bool);have c_if:=d_is_whole_from.callee (cu F_is_whole_from c_iw);have c_it:=d_is_tuple_of.callee (cv (P:=l.prog) (w:=w) (base:=base) F_is_tuple_of b_isinstance b_len b_tuple);have c_nf:=d_names_at_first.callee (cw F_names_at_first b_len b_zip c_it c_if);have c_se:=d_settled.callee (cC (P:=l.prog) (w:=w) (base:=base) F_settled g_WIDE hI);have c_wo:=d_worth_of.callee (cT (P:=l.prog) (w:=w) (base:=base) F_worth_of b_min b_max);have c_re:=RY d_reckon c_wo c_se 5;have c_do:=MY d_do_block d_do_deed d_do_set d_do_if d_do_while b_enumerate c_re 4;have c_rb:=d_run_by.callee (cz F_run_by b_sorted b_tuple c_nf c_do);have c_ru:=d_run.callee (dD FC_run tc_run tb_run tg_run c_rb);have c_tr:=d_traced.callee (dE FC_traced tc_traced tb_traced tg_traced c_rb);have c_cell:=d_law_cell.callee (bN (P:=l.prog) (w:=w) (base:=base) F_law_cell b_len);have c_pick:=d_law_pick.callee (bO F_law_pick c_cell);have c_sum:=R0 d_law_sum b_len c_pick 3;have c_cnt:=d_law_counted.callee (bS F_law_counted b_len c_pick c_sum);have c_blk:=R1 d_law_block b_range b_tuple c_pick c_sum c_cnt 3;have c_prg:=d_law_program.callee (bf F_law_program b_range b_tuple c_pick c_blk);have c_aw:=d_law_all_worths.callee (dJ (P:=l.prog) (w:=w) (base:=base) F_law_all_worths b_range);have c_rk:=d_law_reckoned.callee (dX (P:=l.prog) (w:=w) (base:=base) F_law_reckoned b_sorted);have c_lw:=S1 d_law_worth b_range c_rk 5;have c_ld:=SB d_law_do b_enumerate c_lw 3;have c_lr:=d_law_run.callee (eO F_law_run b_dict b_zip b_tuple b_sorted b_list c_ld);have c_aw2:=d_all_worths.callee (dL (P:=l.prog) (w:=w) (base:=base) F_all_worths b_range);have c_jo:=d_joined.callee (eh (P:=l.prog) (w:=w) (base:=base) F_joined b_min b_max);have c_ex:=d_exact.callee (fA F_exact b_sorted c_aw2 c_tr c_jo);have c_wr:=d_ways_refused.callee (fE F_ways_refused c_aw2 c_ru);have c_rs:=d_refusals.callee (fF F_refusals b_sorted c_wr);have c_wi:=d_witness.callee (fG F_witness c_aw2 c_ru);have c_ls:=SW (P:=l.prog) (w:=w) (base:=base) d_law_sum_spots 5;have c_lsp:=SY (P:=l.prog) (w:=w) (base:=base) d_law_spots b_enumerate c_ls 3;exact fR n34 F_law b_len b_sorted b_list b_min b_max c_prg c_pick c_aw c_aw2 c_lr c_ex c_rs c_wi c_lsp
theorem fU{l:PySem.W.OpenLaw}{q:yq}{z:List Str}{XP:(Str->Option yg)->Heap->Prop}{Z:y0h->Heap->Prop}{d:DefRec}{K:Params->ya}(M G J B:Addr)(hn:l.most=some 63)(O:d.params.defaults=[])
  (hY:∀(w:y0h) (h:Heap),Z w h->(K w.params).In h) (hK:∀w:y0h,PySem.W.noTabs (K w.params)=true) (hrec:∀t∈([("run",M,G),("traced",J,B)]:List (Str×Addr×Addr)),∃e,(PyProof.Rows.recsOf q).find? (fun e=>e.name==t.1)=some e) (htab:∀(w:y0h),∀t∈([("run",M,G),("traced",J,B)]:List (Str×Addr×Addr)),PySem.W.tabIn (K w.params) t.1=some (t.2.1,t.2.2))
  (F:∀(w:y0h) (mg:Str->Option yg) (U:Addr) (h:Heap),(K w.params).In h->h.Ns y0g mg->mg d.name=some (.ref U)->
   ∃fd:y2c,(∀(s:ye) (u:yg),BindsTo s fd ⟨[u],[]⟩ [("_law_script",u)])/\∀base:Heap,(K w.params).In base->base.Ns y0g mg->Fi mg base [(M,G),(J,B)]->FnOk l.prog w (K w.params) mg base CX0 25 U fd ["_law_script"] (J0 (K w.params) G B)) :
  PySem.W.WalkO q z XP Z l.row.toRowW d [] (fun f vs=>PySem.call f vs):=
 L2.VQ (n:=63) (k:=25) (x:="_law_script") (sp:=fun w=>J0 (K w.params) G B) (tabs:=[("run",M,G),("traced",J,B)]) hn (by decide) O ⟨rfl,by decide,by decide⟩ hY hK hrec htab F (fun _ _ a ns hl R hS=>⟨a,ns,rfl,hS,hl,R _ (.head _),R _ (.tail _ (.head _)),fun _=>rfl⟩)
end SR
namespace PySem.W.Fast
def tw8806431844715792317:=Nat
def tw12122132380720410497:=Nat
def tw11614306165829978503:=Nat
def tw15128029651694614442:=Nat
def tw13583829228400027723:=Nat
def tw1554741811748489895:=Nat
def tw209582391860769964:=Nat
def tw8566288287645490984:=Nat
def tw17878934079920645325:=Nat
def tw911855781204945575:=Nat
def tw7237941393593665465:=Nat
def tw4212948007462195128:=Nat
def tw8406272848979575720:=Nat
def tw3749188780813534088:=Nat
def tw463363758833524592:=Nat
def tw2176121601576392032:=Nat
def tw14324354315344812842:=Nat
def tw7411441277271516489:=Nat
def tw15756136130950153322:=Nat
def tw5630063788578091595:=Nat
def tw11990557233714639110:=Nat
def tw15232042134123163255:=Nat
def tw18075886246401788426:=Nat
def tw2574903600410422475:=Nat
def tw2738430703805743752:=Nat
def tw776986548816609024:=Nat
def tw13803164176805382082:=Nat
def tw12388324234548182101:=Nat
def tw17191664876201602060:=Nat
def tw18392147429567201978:=Nat
def tw9526139617223121695:=Nat
def tw13042722972857073546:=Nat
def tw1600860225394526553:=Nat
def tw17310878636517262787:=Nat
def tw7501939677821233393:=Nat
def tw222239525860267352:=Nat
def tw12612193018491237200:=Nat
def tw12413331594953933492:=Nat
def tw5696000043687151281:=Nat
def tw10193207716845919090:=Nat
def tw2162710616853933117:=Nat
def tw3894706312887289805:=Nat
def tw7961847178895044099:=Nat
def tw10431336148092447636:=Nat
def tw12621455362390842051:=Nat
def tw6306223230015242961:=Nat
def tw10125639264636684435:=Nat
def tw13735081985648524986:=Nat
def tw14683810072876307604:=Nat
def tw6163919545040713903:=Nat
def tw3621943351069413231:=Nat
def tw1554663721849835317:=Nat
def tw2893635752474520521:=Nat
def tw2383149913663534846:=Nat
def tw17878467370773252497:=Nat
def tw8320731423067797252:=Nat
def tw6127980683012918370:=Nat
def tw1312383441867595820:=Nat
def tw16631565865504278479:=Nat
def tw9421547301724216990:=Nat
def tw6912877733132192028:=Nat
def tw18102589686118594499:=Nat
def tw8123222181355915341:=Nat
def tw11625772706236753611:=Nat
def tw14360996363294024484:=Nat
def tw17377446531594490162:=Nat
def tw13586863658460402938:=Nat
def tw12467399393616218867:=Nat
def tw5879261693489305000:=Nat
def tw4715217909035758596:=Nat
def tw8728244990316603148:=Nat
def tw2434477875495775894:=Nat
def tw8031741041397144478:=Nat
def tw10560767048208142395:=Nat
def tw14495860645893010094:=Nat
def tw12887287311048937909:=Nat
def tw6302247088652261547:=Nat
def tw1454463428770168254:=Nat
def tw11592927134647407237:=Nat
def tw7236819740012523839:=Nat
def tw5549946457934196443:=Nat
def tw706898699938188001:=Nat
def tw391092329516825262:=Nat
def tw8210472091480217924:=Nat
def tw15201515582774049538:=Nat
def tw139026449247297057:=Nat
def tw16386611624754108936:=Nat
def tw13252071762535194125:=Nat
def tw12406822710817025239:=Nat
def tw8436459939528813505:=Nat
def tw12307341527234073040:=Nat
def tw16718548959453025899:=Nat
def tw389562011752332894:=Nat
def tw16220239968834385706:=Nat
def tw9985670902855513568:=Nat
def tw18286209933005020809:=Nat
def tw2792855304762293388:=Nat
def tw18379003702091133298:=Nat
def tw2301023667728712022:=Nat
def tw4559509480205103942:=Nat
def tw4964689476273950607:=Nat
def tw9961308502146947085:=Nat
def tw14301474459079475411:=Nat
def tw1356074632466190678:=Nat
def tw5655959101512961639:=Nat
def tw11738709914918883204:=Nat
def tw13154697918287443010:=Nat
def tw3408383704137266811:=Nat
def tw11262075179941513668:=Nat
def tw8625550300213323790:=Nat
def tw14828088550513031795:=Nat
def tw5426298815773063067:=Nat
def tw5235238782104461986:=Nat
def tw296524182433768554:=Nat
def tw2034102606151272170:=Nat
def tw3708778253616434313:=Nat
def tw6913049337020911556:=Nat
def tw1967832939440649234:=Nat
def tw8100044530509456034:=Nat
def tw9619345726027084101:=Nat
def tw6713190668709051350:=Nat
def tw18145067592394170462:=Nat
def tw664607772811021065:=Nat
def tw17298798320613832714:=Nat
def tw3517365672835829001:=Nat
def tw4244425008186270405:=Nat
def tw11526352780362753310:=Nat
def tw12195830241504404698:=Nat
def tw13208381975969034388:=Nat
def tw15812839360694106669:=Nat
def tw6379833282378642208:=Nat
def tw92025299581845758:=Nat
def tw3671830491911644503:=Nat
def tw11039239970242544019:=Nat
def tw2962781257578966969:=Nat
def tw16375858990573420252:=Nat
def tw15684984336163878091:=Nat
def tw4422596293834633578:=Nat
def tw995829309080347812:=Nat
def tw706467633468938967:=Nat
def tw6580185159694508272:=Nat
def tw15992256070825502229:=Nat
def tw7551134181892285954:=Nat
def tw10610700922809074206:=Nat
def tw15758805476721446205:=Nat
def tw6486251624054394099:=Nat
def tw14136290311990762564:=Nat
def tw14812857708164719090:=Nat
def tw15461700680018489310:=Nat
def tw13801998858407091756:=Nat
def tw1413055951382539820:=Nat
def tw16063976715257424474:=Nat
def tw11181557765774825028:=Nat
def tw10223349762704585641:=Nat
def tw15445075330274011675:=Nat
def tw3461142819241679626:=Nat
def tw17515952177169884660:=Nat
def tw1660156985227887801:=Nat
def tw11055844030465001841:=Nat
def tw9990065498563968053:=Nat
def tw5551730840615859199:=Nat
def tw1795324263806927973:=Nat
def tw1365308173605097368:=Nat
def tw10224937582609767387:=Nat
def tw7188660188853119725:=Nat
def tw4124905699145199338:=Nat
def tw2586173468022028792:=Nat
def tw9160958993373599088:=Nat
def tw3875852738928593425:=Nat
def tw14128797497284013021:=Nat
def tw2582591209653913732:=Nat
def tw1438453002800979801:=Nat
def tw2834392067501710972:=Nat
def tw12658270974807876779:=Nat
def tw2689734823661582287:=Nat
def tw3815748905360941449:=Nat
def tw9867543620561463301:=Nat
def tw2800729271547296210:=Nat
def tw9339958146896509986:=Nat
def tw13212080641079966319:=Nat
def tw185189978329851941:=Nat
def tw4581033082304206089:=Nat
def tw8184586825775056349:=Nat
def tw8608861259566469419:=Nat
def tw7049823744594190424:=Nat
def tw4008504473359143131:=Nat
def tw10358998379453472366:=Nat
def tw16391235968434279306:=Nat
def tw832587393521108712:=Nat
def tw909681077242203343:=Nat
def tw14579934085394959954:=Nat
def tw9045047653411910700:=Nat
def tw4948377656291192883:=Nat
def tw3516221335920319993:=Nat
def tw16992633093104965114:=Nat
def tw17077024073683506767:=Nat
def tw12855519395535768369:=Nat
def tw9337512801937822549:=Nat
def tw14275531319076507402:=Nat
def tw16514589982174091535:=Nat
def tw1479823017797205034:=Nat
def tw17537258002829924051:=Nat
def tw7017076119162334768:=Nat
def tw5324830785812548997:=Nat
def tw3035805471307053988:=Nat
def tw8069330690102091796:=Nat
def tw9477411668707064556:=Nat
def tw10586150404949298651:=Nat
def tw550652942160880497:=Nat
def tw15272101788256379316:=Nat
def tw11607584629324187566:=Nat
def tw17622445003835718377:=Nat
def tw7661378490794541538:=Nat
def tw6647239144196357532:=Nat
def tw7666552052945475608:=Nat
def tw15687842742363216639:=Nat
def tw5795517957264072723:=Nat
def tw7162847671559113656:=Nat
def tw12584742117882513171:=Nat
def tw14663430906747784427:=Nat
def tw6869386985862849487:=Nat
def tw14084071955362834001:=Nat
def tw7536668192486559678:=Nat
def tw3879433845701985439:=Nat
def tw12924362926372659708:=Nat
def tw6180650352030661624:=Nat
def tw4283206559562647439:=Nat
def tw3264120795004123451:=Nat
def tw3701231002346652109:=Nat
def tw10118395233475030249:=Nat
def tw11701938914298918581:=Nat
def tw2845415129651753246:=Nat
def tw535077133851026975:=Nat
def tw11405403173024345241:=Nat
def tw5458015543576748255:=Nat
def tw9360935180923640681:=Nat
def tw11112244107726651975:=Nat
def tw917235601702902285:=Nat
def tw10848890210236279247:=Nat
def tw8367973149127428946:=Nat
def tw8276411141850266930:=Nat
def tw17046822353592594730:=Nat
def tw837716410877714851:=Nat
def tw8474811832015403860:=Nat
def tw4586839435317248646:=Nat
def tw9974110002010006219:=Nat
def tw14834196810163276447:=Nat
end PySem.W.Fast
open PySem PySem.W PyProof.Rows
local macro_rules | `(tactic| walk_at "df")=>`(tactic| exact⟨_,_,_,_,_,_,_,_,_,by k_is,by k_is,by k_is,by k_is⟩)
set_option maxRecDepth 100000 in
set_option maxHeartbeats 0 in
theorem PySem.Challenge.cw_smallrooms_k70_all_runs_holds : PySem.Challenge.rw_smallrooms_k70_all_runs.Holds := by
 w_on; o_law; k_head; (case hw=>w_witness2)
 k_fill
 refine SR.fU (l:=PySem.Challenge.rw_smallrooms_k70_all_runs) 67 63 74 70 rfl rfl (fun w h Y=>PySem.W.km_in_of Y) (fun w=>by kernel_rfl) ?hrec ?htab ?F
 case hrec=>exact List.forall_mem_cons.mpr ⟨Option.isSome_iff_exists.mp (by kernel_rfl),List.forall_mem_cons.mpr ⟨Option.isSome_iff_exists.mp (by kernel_rfl),fun _ h=>nomatch h⟩⟩
 case htab=>exact fun w=>List.forall_mem_cons.mpr ⟨by kernel_rfl,List.forall_mem_cons.mpr ⟨by kernel_rfl,fun _ h=>nomatch h⟩⟩
 case F=>
  intro w mg fa h KX G hmg
  refine' SR.fT KX G hmg ?d0 ?d1 ?d2 ?a3 ?l3 ?c3 ?k3 ?a4 ?l4 ?c4 ?k4 ?d5 ?d6 ?d7 ?d8 ?d9 ?d10 ?d11 ?d12 ?d13 ?d14 ?d15 ?d16 ?d17 ?d18 ?d19 ?d20 ?d21 ?d22 ?d23 ?d24 ?d25 ?d26 ?d27 ?d28 ?d29 ?d30 ?d31 ?d32 ?d33 ?a34 ?l34 ?c34 ?k34 ?z_enumerate ?z_sorted ?z_len ?z_max ?z_min ?z_dict ?z_tuple ?z_range ?z_isinstance ?z_int ?z_bool ?z_zip ?z_list ?pw ?ph ?n34
  (case d0=>walk_at "df"); (case d1=>walk_at "df"); (case d2=>walk_at "df"); (case a3=>k_is)
  (case l3=>k_is); (case c3=>k_is); (case k3=>k_is); (case a4=>k_is)
  (case l4=>k_is); (case c4=>k_is); (case k4=>k_is); (case d5=>walk_at "df")
  (case d6=>walk_at "df"); (case d7=>walk_at "df"); (case d8=>walk_at "df"); (case d9=>walk_at "df")
  (case d10=>walk_at "df"); (case d11=>walk_at "df"); (case d12=>walk_at "df"); (case d13=>walk_at "df")
  (case d14=>walk_at "df"); (case d15=>walk_at "df"); (case d16=>walk_at "df"); (case d17=>walk_at "df")
  (case d18=>walk_at "df"); (case d19=>walk_at "df"); (case d20=>walk_at "df"); (case d21=>walk_at "df")
  (case d22=>walk_at "df"); (case d23=>walk_at "df"); (case d24=>walk_at "df"); (case d25=>walk_at "df")
  (case d26=>walk_at "df"); (case d27=>walk_at "df"); (case d28=>walk_at "df"); (case d29=>walk_at "df")
  (case d30=>walk_at "df"); (case d31=>walk_at "df"); (case d32=>walk_at "df"); (case d33=>walk_at "df")
  (case a34=>k_is); (case l34=>k_is); (case c34=>k_is); (case k34=>k_is)
  (case z_enumerate=>k_is); (case z_sorted=>k_is); (case z_len=>k_is); (case z_max=>k_is)
  (case z_min=>k_is); (case z_dict=>k_is); (case z_tuple=>k_is); (case z_range=>k_is)
  (case z_isinstance=>k_is); (case z_int=>k_is); (case z_bool=>k_is); (case z_zip=>k_is)
  (case z_list=>k_is); (case pw=>k_is); (case ph=>k_is); (case n34=>decide)
