import PyProof.Rows.All
import Wide.All
import OpenK.AllK
import Wide.FinOn
import Lean
import PyProof.EqAt
import PyProof.EqKinds
import PyProof.TupleCall
import PyProof.AttrMissHeap
import PySem.Challenge.RW_smallrooms_k35_whole_at_whiles
set_option Elab.async false
set_option linter.all false
set_option maxRecDepth 100000
open Array renaming length_toList → y0f,getElem?_eq_none → y1v,getElem?_eq_getElem → y2y
open Bool renaming and_eq_true → yk,false_ne_true → yo,not_eq_true' → y0e,false_and → y0o,true_and → y0s,false_eq_true → y15,true_eq_false → y1j,decide_eq_true → y1q,eq_iff_iff → y2a,not_false → y2g,not_true → y2n
open Int renaming le_refl → y08,le_trans → y1b,emod_lt_of_pos → y3m,toNat_natCast → y3p
open List renaming length_map → y4,map_cons → yc,getElem?_eq_getElem → yf,length_cons → yh,mem_of_getElem? → yi,getElem?_map → ym,not_mem_nil → yp,getD_eq_getElem?_getD → yq,length_append → yt,mem_cons → yv,mem_cons_of_mem → yx,mem_cons_self → y00,size_toArray → y01,map_append → y02,length_take → y04,mem_append_right → y06,length_nil → y0b,take_length → y0h,mem_singleton → y0k,map_map → y0m,append_nil → y0n,take_add_one → y0q,getElem?_cons_zero → y0r,lookup_cons → y0x,getElem?_cons_succ → y13,find?_cons → y14,foldl_cons → y1d,zip_cons_cons → y1i,foldl_append → y1n,any_cons → y1p,ext_getElem → y1u,set_cons_zero → y1x,set_cons_succ → y1y,map_nil → y20,isEmpty_cons → y21,append_assoc → y22,isEmpty_nil → y25,take_of_length_le → y2d,getElem_mem → y2h,getElem_map → y2i,getElem_inj → y2j,all_eq_true → y2k,mem_append_left → y2m,getElem?_append_right → y2s,getElem?_append_left → y31,of_mem_zip → y3b,lookup_cons_self → y3c,all_map → y3d,map_congr_left → y3h,filterMap_cons → y3i,length_range → y3o
open List.Perm renaming eq_of_pairwise → y2r
open List.cons renaming injEq → y26
open Nat renaming le_refl → yb,ne_of_lt → yj,lt_of_lt_of_le → yw,zero_le → y05,le_trans → y0d,le_add_right → y0p,lt_irrefl → y0t,lt_trans → y0w,ne_of_gt → y19,le_of_lt → y1a,lt_of_le_of_lt → y1k,add_sub_cancel → y1z,lt_succ_of_lt → y2f,sub_zero → y2z,add_zero → y30,le_succ_of_le → y38,lt_succ_self → y3a
open Ne renaming symm → y0y
open Option renaming map_some → y39
open Option.some renaming inj → yz,injEq → y1h
open PyProof.Rows renaming callWith_type1 → y1c,seqObj → y1e,slot_tuple_getitem → y1g,kindOf → y3g,size_push' → y3u
open PySem renaming wpAny_bind → y8,Shared → y9,Value → ya,wpAny_pure → ye,Program → yl,sizeLine → yn,mainGlobals → yu,wpAny → yy,model → y03,World → y07,compareOp → y09,Around → y0a,wpAny_call_entry → y0j,mem_of_lookup → y0l,wpAny_callSpecial?_slot → y0u,FuncData → y0v,wpAny_holding → y16,wpAny_truthy_bool → y17,wpAny_mono → y18,wpAny_pyIter_tuple → y1l,wpAny_Call_Name_kw → y1m,wpAny_ite_split → y1r,wpAny_dictEntries → y1s,codeAny_builtin → y1t,codeAny_mono → y1w,wpAny_passesOwn → y23,tupleKind_room_in1 → y2e,wpAny_newObj_type → y2l,wpAny_typeOf → y2o,wpAny_newList → y2u,plainId_quiet → y2v,wpAny_dictEpoch → y32,wpAny_onRaise → y3e,wpAny_notOrdered_dict → y3j,wpAny_execs_nil → y3k,call_meetsIn → y3l,wpAny_attempt → y3q,wpAny_rule → y3r,wpAny_pyIter_list → y3s,wpAny_Call_method → y3t,call_meets → y3v
open PySem.Around renaming under_plainId → y12
open PySem.Calls renaming callWith_builtin → y2b,spliced_cons → y2t,call_function_entry → y2x,evalArgs_plain → y3f,spliced_nil → y3n
open PySem.F renaming slot_dict_get → y1f,slot_tuple_iterator_next → y24,plain_list_iadd → y27,entry_dict_get → y29,slot_zip_next → y2c,args_tuple_add_2 → y2w,plainAttrs_list → y33,plainAttrs_dict → y34,entry_tuple_add → y35,slot_tuple_add → y37
open PySem.Heap renaming get?_push_of_some → y6,lt_size → yd,get?_push_size → yg,get?_update_self → y0z,size_push → y11
open PySem.Heap.SameBut renaming update → y0i
open PySem.Paired renaming length → y28,snoc → y36
open PySem.PassesOwn renaming never → y0g
open PySem.W renaming Frag → y3,mg_none_of → y0c,kia_one → y10,mg_of → y1o,callWith_K → y2p
open PySem.W.KasT renaming kasWp_bind → y2q
namespace L2
open PySem PySem.Spec PyProof.Rows
abbrev Key:=Sum Int Str
def DW:Key->ya->Bool
 |.inl k,v=>Value.isInt k v
 |.inr x,v=>Value.isStrOf x v
def Tx(w:y07):Key->Int
 |.inl k=>hashInt k
 |.inr x=>hashStr w x
theorem CH:∀{k:Key} {v:ya},DW k v=true->(∃i t,k=Sum.inl i/\v=Value.int i t)\/(∃x t,k=Sum.inr x/\v=Value.str x t)
 |.inl i,v,h=>by
  obtain⟨t,e⟩:=Value.isInt_shape (k:=i) (v:=v) h;exact .inl ⟨i,t,rfl,e⟩
 |.inr x,v,h=>by
  obtain⟨t,e⟩:=Value.isStrOf_shape (x:=x) (v:=v) h;exact .inr ⟨x,t,rfl,e⟩
theorem Ty(i:Int)(t:Tok):DW (.inl i) (.int i t)=true:=by simp[DW,Value.isInt]
theorem Tz(x:Str)(t:Tok):DW (.inr x) (.str x t)=true:=by simp[DW,Value.isStrOf]
theorem U6(a b:Int):decide ((Sum.inl a:Key)=Sum.inl b)=(a==b):=by
 by_cases e:a=b
 ·subst e; simp
 ·have h:¬ (Sum.inl a:Key)=Sum.inl b:=fun q=>e (Sum.inl.inj q);rw[decide_eq_false h];exact(beq_eq_false_iff_ne.mpr e).symm
theorem Nk(a b:Str):decide ((Sum.inr a:Key)=Sum.inr b)=decide (a=b):=by
 by_cases e:a=b
 ·subst e; simp
 ·have h:¬ (Sum.inr a:Key)=Sum.inr b:=fun q=>e (Sum.inr.inj q);rw[decide_eq_false h,decide_eq_false e]
theorem U7(a:Int)(b:Str):decide ((Sum.inl a:Key)=Sum.inr b)=false:=decide_eq_false (fun q=>nomatch q)
theorem U8(a:Str)(b:Int):decide ((Sum.inr a:Key)=Sum.inl b)=false:=decide_eq_false (fun q=>nomatch q)
def AU(prog:yl)(w:y07):PySem.KeyKind prog w Key where
 is:=DW
 hash:=Tx w
 inj:=fun v a b ha hb=>by
  rcases CH ha with⟨i,t,rfl,rfl⟩|⟨x,t,rfl,rfl⟩
  ·rcases CH hb with⟨j,u,rfl,e⟩|⟨y,u,rfl,e⟩
   ·injection e with q _; rw[q]
   ·exact nomatch e
  ·rcases CH hb with⟨j,u,rfl,e⟩|⟨y,u,rfl,e⟩
   ·exact nomatch e
   ·injection e with q _; rw[q]
 byValue:=fun k v h=>by
  rcases CH h with⟨i,t,rfl,rfl⟩|⟨x,t,rfl,rfl⟩<;>rfl
 pyHash:=fun hv h=>by
  rcases CH hv with⟨i,t,rfl,rfl⟩|⟨x,t,rfl,rfl⟩
  ·exact wpAny_pyHash_int h
  ·exact wpAny_pyHash_str h
 eqBool:=fun z hv h=>by
  rcases CH z with⟨i,t,rfl,rfl⟩|⟨x,t,rfl,rfl⟩
  ·rcases CH hv with⟨j,u,rfl,rfl⟩|⟨y,u,rfl,rfl⟩
   ·rw[U6] at h; exact wpAny_eqBool_int h
   ·rw[U7] at h; exact SeqAt.EqAt.int_str i t y u _ _ _ _ h
  ·rcases CH hv with⟨j,u,rfl,rfl⟩|⟨y,u,rfl,rfl⟩
   ·rw[U8] at h; exact SeqAt.EqAt.str_int x t j u _ _ _ _ h
   ·rw[Nk] at h; exact wpAny_eqBool_str h
 «strs»:=fun k x t v h=>by
  rcases CH h with⟨i,u,rfl,e⟩|⟨y,u,rfl,e⟩
  ·exact nomatch e
  ·injection e with q _
   subst q
   cases v<;>rfl
theorem UA(prog:yl)(w:y07)(i:Int)(t:Tok):(AU prog w).is (.inl i) (.int i t)=true:=Ty i t
theorem UB(prog:yl)(w:y07)(x:Str)(t:Tok):(AU prog w).is (.inr x) (.str x t)=true:=Tz x t
inductive V where
 |non|bl (b:Bool)|int (i:Int)|str (x:Str)|byt (b:Array UInt8)|flt (b:UInt64)|ref (a:Addr)|ty (n:String)
 deriving DecidableEq
def RelV:V->ya->Prop
 |.non,u=>u=Value.none
 |.bl b,u=>u=Value.bool b
 |.int i,u=>∃t,u=Value.int i t
 |.str x,u=>∃t,u=Value.str x t
 |.byt b,u=>∃t,u=Value.bytes b t
 |.flt b,u=>∃t,u=Value.float b t
 |.ref a,u=>u=Value.ref a
 |.ty n,u=>u=Value.type n
abbrev Vals:List V->List ya->Prop:=Paired RelV
theorem Vals.length(r:Vals xs us):xs.length=us.length:=y28 r
theorem Vals.get:∀{xs:List V} {us:List ya} {i:Nat} {x:V},Vals xs us->xs[i]?=some x->∃u,us[i]?=some u/\RelV x u
 |_,_,_,_,.nil,e=>by simp at e
 |_,_,0,_,.cons r _,e=>by simp at e; subst e; exact⟨_,rfl,r⟩
 |_,_,i+1,x,.cons _ t,e=>by
  obtain⟨u,h1,h2⟩:=Vals.get (i:=i) (x:=x) t (by simpa using e);exact⟨u,by simpa using h1,h2⟩
theorem Vals.append:∀{xs ys:List V} {us ws:List ya},Vals xs us->Vals ys ws->Vals (xs++ys) (us++ws)
 |_,_,_,_,.nil,s=>s
 |_,_,_,_,.cons r t,s=>.cons r (Vals.append t s)
theorem Vals.take:∀{xs:List V} {us:List ya} (n:Nat),Vals xs us->Vals (xs.take n) (us.take n)
 |_,_,0,_=>.nil
 |_,_,_+1,.nil=>.nil
 |_,_,n+1,.cons r t=>.cons r (Vals.take n t)
theorem Vals.drop:∀{xs:List V} {us:List ya} (n:Nat),Vals xs us->Vals (xs.drop n) (us.drop n)
 |_,_,0,r=>r
 |_,_,_+1,.nil=>.nil
 |_,_,n+1,.cons _ t=>Vals.drop n t
def RelO:Option V->Option ya->Prop
 |some v,some u=>RelV v u
 |none,none=>True
 |_,_=>False
def KV{κ:Type}:List (κ×V)->List (κ×ya)->Prop:=Paired fun(p:κ×V) (q:κ×ya)=>p.1=q.1/\RelV p.2 q.2
def kV:Key->V
 |.inl i=>.int i
 |.inr x=>.str x
inductive HO where
 |lst (xs:List V)
 |tup (xs:List V)
 |dK (kvs:List (Key×V))|dT (kvs:List (List Key×V))
 |set (S:Int->Bool) (n:Nat)
 |ins (C dx:Addr) (fs:List (Str×V))
 |own (x:Addr)
 |xd (fs:List (Str×V))
 |met (f x:Addr)
 |rng (lo hi:Int)
 |frz (o:Obj) (u:HO)
 |tbl (ps:Array ya)
 |ext (φ:Heap->Prop)
abbrev Hp:=Addr->Option HO
def upd(H:Hp)(a:Addr)(o:HO):Hp:=fun b=>if b=a then some o else H b
theorem A6:upd H a o a=some o:=by unfold upd; rw[if_pos rfl]
theorem AB(h:b≠a):upd H a o b=H b:=by unfold upd; rw[if_neg h]
theorem BL{H:Hp}{a b:Addr}{o u:HO}(h:H a=some o)(h':H b=some u)(d:o≠u):a≠b:=by
 intro e; subst e; rw[h] at h'; exact d (yz h')
theorem Ag{H:Hp}{a b:Addr}{o:HO}(h:H a=some o)(h':H b=none):a≠b:=by
 intro e; subst e; rw[h] at h'; cases h'
def IsTup0(h:Heap)(a:Addr)(q:Array ya):Prop:=∃o,h.get? a=some o/\o.cls=.type "tuple"/\(∃n,o.data=.seq q n)/\o.dict=none
theorem IsTup0.tup{h:Heap}{a:Addr}{q:Array ya}(x:IsTup0 h a q):IsTup h a q:=by
 obtain⟨o,e,c,d,_⟩:=x;exact⟨o,e,c,d⟩
theorem IsTup0.new(h:Heap)(q:Array ya):IsTup0 (h.push {cls:=.type "tuple",data:=.seq q}) h.objs.size q:=⟨_,yg _ rfl,rfl,⟨_,rfl⟩,rfl⟩
section
variable(P:yl)(w:y07)
def ObjOk(H:Hp)(h:Heap)(a:Addr):HO->Prop
 |.lst xs=>xs.length<=yn/\∃(z:List ya) (n:Nat),Vals xs z/\h.get? a=some {cls:=.type "list",data:=.seq z.toArray n}
 |.tup xs=>xs.length<=yn/\∃z:List ya,Vals xs z/\IsTup0 h a z.toArray
 |.dK kvs=>kvs.length<=yn/\(a==sysModules)=false/\∃vs,KV kvs vs/\h.DictOf (AU P w) a vs
 |.dT kvs=>kvs.length<=yn/\(a==sysModules)=false/\∃xs:List (List Key×Addr×ya),
   Paired (fun(p:List Key×V) (q:List Key×Addr×ya)=>p.1=q.1/\H q.2.1=some (.tup (p.1.map kV))/\RelV p.2 q.2.2) kvs xs/\
   ∃o es ep,h.get? a=some o/\o.ExactDict/\o.data=.dict es ep/\es.toList=xs.map (entryOfKey (tupleKind (AU P w)))/\(xs.map (·.1)).Nodup
 |.set S n=>h.SetOf (intKind P w) a S n
 |.ins C dx fs=>H dx=some (.own a)/\fs.length<=1000/\dx≠a/\h.get? a=some (PySem.W.instObj C dx)/\
   ∃mA,h.Ns1 dx mA/\(∀f,RelO (fs.lookup f) (mA f))/\PySem.Within mA (fs.map (·.1))
 |.own _=>∃o,h.get? a=some o
 |.xd fs=>∃mA,h.Ns1 a mA/\∀f,RelO (fs.lookup f) (mA f)
 |.rng lo hi=>∃t u v,h.get? a=some {cls:=.type "range",data:=.fields #[.int lo t,.int hi u,.int 1 v]}
 |.frz o u=>h.get? a=some o/\ObjOk H h a u
 |.tbl ps=>h.get? a=some {cls:=.none,data:=.fields ps}
 |.met f x=>h.get? a=some (PySem.W.methodObj (.ref f) (.ref x))
 |.ext B=>B h/\(∃o,h.get? a=some o)/\∀h1 h2:Heap,B h1->(∀o,h1.get? a=some o->h2.get? a=some o)->B h2
def HOk(H:Hp)(h:Heap):Prop:=∀a o,H a=some o->ObjOk P w H h a o
end
section
variable{P:yl}{w:y07}{H H':Hp}{h h':Heap}{a:Addr}{o:HO}
theorem ObjOk.lt(x:ObjOk P w H h a o):a<h.objs.size:=by
 cases o with
 |lst xs=>obtain⟨_,_,_,_,e⟩:=x; exact yd e
 |tup xs=>obtain⟨_,_,_,p⟩:=x; exact p.tup.lt
 |dK kvs=>obtain⟨_,_,_,_,o,_,_,e,_⟩:=x; exact yd e
 |dT kvs=>obtain⟨_,_,_,_,o,_,_,e,_⟩:=x; exact yd e
 |set S n=>obtain⟨o,_,_,_,e,_⟩:=x; exact yd e
 |ins C dx fs=>obtain⟨_,_,_,e,_⟩:=x; exact yd e
 |own y=>obtain⟨_,e⟩:=x; exact yd e
 |xd fs=>obtain⟨_,⟨_,_,_,e,_⟩,_⟩:=x; exact yd e
 |rng lo hi=>obtain⟨_,_,_,e⟩:=x; exact yd e
 |frz z u=>obtain⟨e,_⟩:=x; exact yd e
 |tbl ps=>exact yd (show h.get? a=some _ from x)
 |met f y=>exact yd (show h.get? a=some _ from x)
 |ext q=>obtain⟨_,⟨_,e⟩,_⟩:=x; exact yd e
theorem Paired.mapP{J B:Type}{F G:J->B->Prop}:∀{z:List J} {q:List B},Paired F z q->(∀a b,F a b->G a b)->Paired G z q
 |_,_,.nil,_=>.nil
 |_,_,.cons r t,f=>.cons (f _ _ r) (Paired.mapP t f)
theorem ObjOk.stay(x:ObjOk P w H h a o)(k:∀b u,(b=a\/H b=some (.own a))->h.get? b=some u->h'.get? b=some u)
  (Y:∀b,H b=some (.own a)->H' b=some (.own a)) (O:∀b xs,H b=some (.tup xs)->H' b=some (.tup xs)):ObjOk P w H' h' a o:=by
 induction o with
 |lst xs=>obtain⟨z,F,n,r,e⟩:=x; exact⟨z,F,n,r,k _ _ (.inl rfl) e⟩
 |tup xs=>obtain⟨z,F,r,B,e,c⟩:=x; exact⟨z,F,r,B,k _ _ (.inl rfl) e,c⟩
 |dK kvs=>obtain⟨z,y,vs,r,B,es,ep,e,c⟩:=x; exact⟨z,y,vs,r,B,es,ep,k _ _ (.inl rfl) e,c⟩
 |dT kvs=>
  obtain⟨z,y,xs,r,B,es,ep,e,c⟩:=x;exact⟨z,y,xs,Paired.mapP r fun p q z=>⟨z.1,O _ _ z.2.1,z.2.2⟩,B,es,ep,k _ _ (.inl rfl) e,c⟩
 |set S n=>obtain⟨B,es,ep,t,e,c⟩:=x; exact⟨B,es,ep,t,k _ _ (.inl rfl) e,c⟩
 |ins C dx fs=>
  obtain⟨d,z,J,e,mA,⟨G,es,ep,Z,c⟩,r⟩:=x;exact⟨Y _ d,z,J,k _ _ (.inl rfl) e,mA,⟨G,es,ep,k _ _ (.inr d) Z,c⟩,r⟩
 |own y=>obtain⟨B,e⟩:=x; exact⟨B,k _ _ (.inl rfl) e⟩
 |xd fs=>obtain⟨mA,⟨G,es,ep,e,c⟩,r⟩:=x; exact⟨mA,⟨G,es,ep,k _ _ (.inl rfl) e,c⟩,r⟩
 |rng lo hi=>obtain⟨t,u,v,e⟩:=x; exact⟨t,u,v,k _ _ (.inl rfl) e⟩
 |frz B u M=>obtain⟨e,q⟩:=x; exact⟨k _ _ (.inl rfl) e,M q⟩
 |tbl ps=>
  have e:h.get? a=some {cls:=.none,data:=.fields ps}:=x;show h'.get? a=some {cls:=.none,data:=.fields ps};exact k a _ (.inl rfl) e
 |met f y=>
  have e:h.get? a=some (PySem.W.methodObj (.ref f) (.ref y)):=x;show h'.get? a=some (PySem.W.methodObj (.ref f) (.ref y));exact k a _ (.inl rfl) e
 |ext φ=>obtain⟨p,⟨o,e⟩,st⟩:=x; exact⟨st _ _ p fun o q=>k _ _ (.inl rfl) q,⟨o,k _ _ (.inl rfl) e⟩,st⟩
theorem HOk.lt(x:HOk P w H h)(e:H a=some o):a<h.objs.size:=(x a o e).lt
theorem HOk.fresh(x:HOk P w H h)(e:h.objs.size<=a):H a=none:=by
 cases q:H a with
 |none=>rfl
 |some u=>exact absurd (yw (x.lt q) e) (y0t _)
theorem HOk.kept(x:HOk P w H h)(k:∀b u,h.get? b=some u->h'.get? b=some u):HOk P w H h':=fun a o e=>
 (x a o e).stay (fun b u _ q=>k b u q) (fun _ q=>q) fun _ _ q=>q
theorem HOk.laid(x:HOk P w H h)(k:∀b u,h.get? b=some u->h'.get? b=some u)(F:h.objs.size<=a)(z:ObjOk P w (upd H a o) h' a o):HOk P w (upd H a o) h':=fun b u e=>by
 have B:=x.fresh F;by_cases hb:b=a
 ·subst hb; rw[A6] at e; cases e; exact z
 ·rw[AB hb] at e;exact(x b u e).stay (fun c v _ q=>k c v q) (fun c q=>by rw[AB (Ag q B)]; exact q) fun c xs q=>by rw[AB (Ag q B)]; exact q
end
def Rd(H:Hp)(a:Addr)(u:HO):Prop:=H a=some u\/∃o,H a=some (.frz o u)
theorem Rd.ok(r:Rd H a u)(x:HOk P w H h):ObjOk P w H h a u:=by
 rcases r with r|⟨o,r⟩
 ·exact x a u r
 ·obtain⟨_,q⟩:=x a _ r;exact q
def Mut:Option HO->Prop
 |some (.lst _)=>True
 |some (.dK _)=>True
 |some (.dT _)=>True
 |some (.set _ _)=>True
 |some (.ins _ _ _)=>True
 |some (.ext _)=>True
 |_=>False
section
variable{P:yl}{w:y07}{H:Hp}{h h':Heap}{x e:Addr}{o':HO}
theorem HOk.write(ok:HOk P w H h)(J:Mut (H x))(Z:e=x\/H e=some (.own x))(k:∀b u,b≠e->h.get? b=some u->h'.get? b=some u)(O:∃u,h'.get? e=some u)
  (M:ObjOk P w (upd H x o') h' x o'):HOk P w (upd H x o') h':=fun b u q=>by
 have F:∀c y,H c=some (.own y)->c≠x:=fun c y r z=>by subst z; rw[r] at J; exact J
 have G:∀c xs,H c=some (.tup xs)->c≠x:=fun c xs r z=>by subst z; rw[r] at J; exact J
 by_cases hb:b=x
 ·subst hb; rw[A6] at q; cases q; exact M
 ·rw[AB hb] at q;by_cases B:b=e
  ·have Y:H b=some (.own x):=by
    rcases Z with z|z
    ·exact absurd (B.trans z) hb
    ·rw[B]; exact z
   rw[q] at Y; cases Y;obtain⟨v,hv⟩:=O;exact⟨v,by rw[B]; exact hv⟩
  ·refine(ok b u q).stay (fun c v hc r=>k c v ?_ r) (fun c r=>by rw[AB (F c b r)]; exact r) fun c xs r=>by rw[AB (G c xs r)]; exact r
   rcases hc with rfl|hc
   ·exact B
   ·rintro rfl;rcases Z with z|z
    ·exact F c b hc z
    ·rw[hc] at z; cases z; exact hb rfl
end
structure Un(fs ex:List Addr)(H H':Hp)(h h':Heap):Prop where
 keep:∀b o,h.get? b=some o->H b=none->b∉fs->b∉ex->h'.get? b=some o
 slot:∀b o,h.get? b=some o->H b=none->b∈fs->b∉ex->∃sl,h'.get? b=some {o with slots:=sl}
 free:∀b o,h.get? b=some o->H b=none->b∉ex->H' b=none
 there:∀b o,h.get? b=some o->b∉ex->∃o',h'.get? b=some o'
 tups:∀b xs,H b=some (.tup xs)->H' b=some (.tup xs)
 frzs:∀b o u,H b=some (.frz o u)->H' b=some (.frz o u)
 tbls:∀b ps,H b=some (.tbl ps)->∃more,H' b=some (.tbl (ps++more))
section
variable{fs fs' ex ex':List Addr}{H H1 H2:Hp}{h h1 h2 h':Heap}{a x e:Addr}{o:HO}
theorem Un.any(u:Un fs ex H H1 h h1)(q:h.get? b=some ob)(n:H b=none)(hx:b∉ex):∃z,h1.get? b=some {ob with slots:=z}:=by
 by_cases hb:b∈fs
 ·exact u.slot b ob q n hb hx
 ·exact⟨ob.slots,u.keep b ob q n hb hx⟩
theorem Un.kept(k:∀b u,h.get? b=some u->h'.get? b=some u):Un fs ex H H h h':=
 ⟨fun b z q _ _ _=>k b z q,fun b z q _ _ _=>⟨z.slots,k b z q⟩,fun _ _ _ n _=>n,fun b z q _=>⟨z,k b z q⟩,fun _ _ q=>q,fun _ _ _ q=>q,fun _ ps q=>⟨#[],by rw[q]; simp⟩⟩
theorem Un.refl:Un fs ex H H h h:=Un.kept fun _ _ q=>q
theorem Un.laid(k:∀b u,h.get? b=some u->h'.get? b=some u)(B:h.objs.size<=a)(z:H a=none):Un fs ex H (upd H a o) h h' where
 keep:=fun b u q _ _ _=>k b u q
 slot:=fun b u q _ _ _=>⟨u.slots,k b u q⟩
 free:=fun b u q n _=>by rw[AB (yj (yw (yd q) B))]; exact n
 there:=fun b u q _=>⟨u,k b u q⟩
 tups:=fun b xs q=>by rw[AB (Ag q z)]; exact q
 frzs:=fun b u xs q=>by rw[AB (Ag q z)]; exact q
 tbls:=fun b ps q=>⟨#[],by rw[AB (Ag q z),q]; simp⟩
theorem Un.write(F:Mut (H x))(J:e=x\/H e=some (.own x))(k:∀b u,b≠e->h.get? b=some u->h'.get? b=some u)(G:∃u,h'.get? e=some u):Un fs ex H (upd H x o) h h':=by
 have hx:∀b,H b=none->b≠x:=fun b n z=>by subst z; rw[n] at F; exact F
 have hb:∀b,H b=none->b≠e:=fun b n z=>by
  subst z;rcases J with r|r
  ·exact hx b n r
  ·rw[n] at r; cases r
 have hm:∀b u,H b=some u->¬ Mut (some u)->b≠x:=fun b u q nm z=>by subst z; rw[q] at F; exact nm F
 refine⟨fun b u q n _ _=>k b u (hb b n) q,fun b u q n _ _=>⟨u.slots,k b u (hb b n) q⟩,fun b u q n _=>by rw[AB (hx b n)]; exact n,fun b u q _=>?_,
  fun b xs q=>by rw[AB (hm b _ q fun z=>z)]; exact q,fun b u xs q=>by rw[AB (hm b _ q fun z=>z)]; exact q,fun b ps q=>⟨#[],by rw[AB (hm b _ q fun z=>z),q]; simp⟩⟩
 by_cases B:b=e
 ·subst B; exact G
 ·exact⟨u,k b u B q⟩
end
def trk(h:Heap)(H:Hp):List Addr:=(List.range h.objs.size).filter fun a=>(H a).isSome
def Cb(h:Heap)(H:Hp):Heap:=PySem.W.hideAll h (trk h H)
theorem UC(h:Heap)(H:Hp):(Cb h H).objs.size=h.objs.size:=PySem.W.hideAll_size _ _
theorem UD(e:h.get? b=some o)(n:H b=none):(Cb h H).get? b=some o:=
 PySem.W.hideAll_get _ e fun hm=>by
  have q:(H b).isSome=true:=(List.mem_filter.mp hm).2;rw[n] at q; simp at q
theorem UE(e:(Cb h H).get? b=some o):h.get? b=some o/\H b=none:=by
 have B:h.get? b=some o:=PySem.W.of_hideAll (trk h H) e;refine⟨B,?_⟩;cases q:H b with
 |none=>rfl
 |some x=>
  have hm:b∈trk h H:=List.mem_filter.mpr ⟨List.mem_range.mpr (yd B),by simp[q]⟩;have z:(Cb h H).get? b=none:=PySem.W.hideAll_none (trk h H) hm;rw[z] at e; cases e
def UG(g h:Heap)(L:Addr):List (Addr×Obj):=(List.range h.objs.size).filterMap fun a=>if a=L\/(g.get? a).isSome=true then none else(h.get? a).map fun o=>(a,o)
def B9(g h:Heap)(L d:Addr):List (Addr×Obj):=(UG g h L).filter fun p=>decide (p.1≠d)
structure Mod(K:y3)(mg:Str->Option ya)(base:Heap):Prop where
 kin:K.In base
 glob:base.Ns yu mg
 blt:∃mb,base.Ns builtinsNs mb/\∀x:Str,x≠"__name__"->mb x=bootBuiltins x
 nolimit:base.NoLimit
structure Cx where
 prog:yl
 w:y07
 K:y3
 mg:Str->Option ya
 base:Heap
 A:y0a
 N:List Str
 s₀:y9
 H₀:Hp
 env:Env
 outer:List Env
 stack:List Env
 ex:List Addr
 fn:Str->Bool
 calm:Bool
 pn:List (Addr×Obj)
 xe:ya->y9->Prop
def frs(l:List Env):List Addr:=l.filterMap (·.frame)
abbrev Cx.fs(X:Cx):List Addr:=frs X.outer
def Vis(sc:Scope)(x:Str):Prop:=sc.names.lookup x=some .local\/sc.names.lookup x=some .cell\/sc.names.lookup x=some .free
def Loc(sc:Scope)(x:Str):Prop:=sc.names.lookup x=some .local\/sc.names.lookup x=some .cell
def Look(env:Env)(h:Heap)(m:Str->Option ya)(x:Str)(u:ya):Prop:=
 (env.kindOf x=some .local/\m x=some u)\/((env.kindOf x=some .cell\/env.kindOf x=some .free)/\∃c,env.cells.lookup x=some c/\h.IsCell c (some u))
structure Cx.Ok(X:Cx):Prop where
 mod:Mod X.K X.mg X.base
 kind:X.env.scope.kind=.function
 glob:X.env.globals=yu
 blt:X.env.builtins=builtinsNs
 above:X.s₀.heap.objs.size<=X.env.locals
 inj:∀x y c,X.env.cells.lookup x=some c->X.env.cells.lookup y=some c->x=y
 has:∀x,(X.env.kindOf x=some .cell\/X.env.kindOf x=some .free)->∃c,X.env.cells.lookup x=some c
 cab:∀x c,X.fn x=true->X.env.cells.lookup x=some c->X.s₀.heap.objs.size<=c
 hd:X.calm=true->X.A.handled=none
 frames:X.A.frames=some X.stack
 stk:X.stack=X.outer\/(X.stack=X.env::X.outer/\X.env.frame=some X.env.locals)
 exf:∀b∈X.ex,b≠X.env.locals/\∀x c,X.env.cells.lookup x=some c->c≠b
 bs:∀b o,X.base.get? b=some o->X.s₀.heap.get? b=some o/\X.H₀ b=none
 bsz:X.base.objs.size<=X.s₀.heap.objs.size
 noex:∀b o,X.base.get? b=some o->b∉X.ex
 exfs:∀b∈X.ex,b∉X.fs
 funs:X.s₀.heap.FunFrames X.base X.outer
 frf:∀b∈X.fs,X.H₀ b=none
structure Inv(X:Cx)(pins:List (Addr×Obj))(σ:List (Option V))(H:Hp)(s:y9):Prop where
 ok:X.Ok
 os:s.os=X.s₀.os
 bare:AllBare s.gens
 base:Un X.fs X.ex X.H₀ H X.s₀.heap s.heap
 loc:∃m,s.heap.Ns X.env.locals m/\∀(i:Nat) (x:Str) (v:V),X.N[i]?=some x->σ[i]?=some (some v)->Vis X.env.scope x->∃u,RelV v u/\Look X.env s.heap m x u
 cell:∀x c,X.env.cells.lookup x=some c->∃v,s.heap.IsCell c v
 free:H X.env.locals=none
 freeC:∀x c,X.env.cells.lookup x=some c->H c=none
 pin:∀p∈X.pn++pins,s.heap.get? p.1=some p.2/\H p.1=none/\p.1≠X.env.locals/\p.1∉X.fs/\∀v,p.2.data≠.cell v
 hok:HOk X.prog X.w H s.heap
 len:σ.length=X.N.length
section
variable{X:Cx}{pins:List (Addr×Obj)}{σ:List (Option V)}{H H':Hp}{s:y9}{h':Heap}
theorem Cx.Ok.nofr(ok:X.Ok)(e:X.base.get? b=some o):b∉X.fs:=fun hb=>by
 have:=(ok.funs.mem hb).1;rw[e] at this; cases this
theorem Inv.bs(I:Inv X pins σ H s):∀b o,X.base.get? b=some o->s.heap.get? b=some o/\H b=none:=fun b o e=>
 ⟨I.base.keep b o (I.ok.bs b o e).1 (I.ok.bs b o e).2 (I.ok.nofr e) (I.ok.noex b o e),I.base.free b o (I.ok.bs b o e).1 (I.ok.bs b o e).2 (I.ok.noex b o e)⟩
theorem Inv.bk(I:Inv X pins σ H s):∀b o,X.base.get? b=some o->s.heap.get? b=some o:=fun b o e=>(I.bs b o e).1
theorem Inv.mod(I:Inv X pins σ H s):Mod X.K X.mg X.base:=I.ok.mod
theorem Inv.kIn(I:Inv X pins σ H s):X.K.In s.heap:=I.ok.mod.kin.keeps I.bk
theorem Inv.lt(I:Inv X pins σ H s):X.env.locals<s.heap.objs.size:=let ⟨_,hn,_⟩:=I.loc; hn.lt
theorem Inv.sz(I:Inv X pins σ H s):X.s₀.heap.objs.size<=s.heap.objs.size:=y0d I.ok.above (y1a I.lt)
theorem Inv.nofs(I:Inv X pins σ H s)(h:s.heap.objs.size<=a):a∉X.fs:=fun hb=>by
 obtain⟨_,o,q,_⟩:=I.ok.funs.mem hb;exact absurd (yw (yd q) (y0d I.sz h)) (y0t _)
theorem Inv.cne(I:Inv X pins σ H s):∀x c,X.env.cells.lookup x=some c->c≠X.env.locals:=fun x c e z=>by
 obtain⟨v,o,F,hd⟩:=I.cell x c e;obtain⟨m,⟨o',es,ep,q,B,_⟩,_⟩:=I.loc;rw[z,q] at F; cases F; rw[B] at hd; cases hd
theorem Inv.funs(I:Inv X pins σ H s):s.heap.FunFrames X.base X.outer:=by
 have B:∀(l:List Env),(∀b∈frs l,b∈X.fs)->X.s₀.heap.FunFrames X.base l->s.heap.FunFrames X.base l:=by
  intro l;induction l with
  |nil=>intro _ _; trivial
  |cons env r G=>
   intro F O;obtain⟨hk,⟨L,o,hf,M,J,hd⟩,hr⟩:=O;have q:L∈X.fs:=F L (by unfold frs; rw[y3i,hf]; exact y00);obtain⟨Y,e⟩:=I.base.slot L o J (I.ok.frf L q) q fun z=>I.ok.exfs L z q;exact⟨hk,⟨L,_,hf,M,e,hd⟩,G (fun b hb=>F b (by unfold frs; rw[y3i,hf]; exact yx _ hb)) hr⟩
 exact B X.outer (fun _ hb=>hb) I.ok.funs
theorem Inv.stack(I:Inv X pins σ H s):s.heap.FunFrames X.base X.stack:=by
 rcases I.ok.stk with e|⟨e,hf⟩
 ·rw[e]; exact I.funs
 ·rw[e];obtain⟨m,q,_⟩:=I.loc;refine .cons (by rw[I.ok.kind]; decide) hf q ?_ I.funs;exact Heap.get?_none_of_le (y0d I.ok.bsz I.ok.above)
theorem Inv.stkSub(I:Inv X pins σ H s):∀b∈frs X.stack,b∈X.env.locals::X.fs:=fun b hb=>by
 rcases I.ok.stk with e|⟨e,hf⟩
 ·rw[e] at hb; exact yx _ hb
 ·rw[e] at hb;unfold frs at hb;rw[y3i,hf] at hb;exact hb
theorem Inv.stkFree(I:Inv X pins σ H s):∀b∈frs X.stack,H b=none:=fun b hb=>by
 rcases List.mem_cons.mp (I.stkSub b hb) with e|hb
 ·rw[e]; exact I.free
 ·obtain⟨_,o,q,_⟩:=I.ok.funs.mem hb;exact I.base.free b o q (I.ok.frf b hb) fun z=>I.ok.exfs b z hb
theorem Inv.step{g':Array GenState}{t':Nat}{d':Drawn}{ch:List Addr}(I:Inv X pins σ H s)
  (F:∀b∈ch,(b∈X.ex\/X.s₀.heap.objs.size<=b)/\b≠X.env.locals/\(∀x c,X.env.cells.lookup x=some c->c≠b)/\∀p∈X.pn++pins,p.1≠b)
  (keep:∀b o,b≠X.env.locals->b∉X.fs->b∉ch->s.heap.get? b=some o->H b=none->h'.get? b=some o)
  (slot:∀b o,b≠X.env.locals->b∈X.fs->b∉ch->s.heap.get? b=some o->H b=none->∃sl,h'.get? b=some {o with slots:=sl}) (free:∀b o,b∉ch->s.heap.get? b=some o->H b=none->H' b=none)
  (there:∀b o,b∉ch->s.heap.get? b=some o->∃o',h'.get? b=some o')
  (tups:∀b xs,H b=some (.tup xs)->H' b=some (.tup xs)) (frzs:∀b o u,H b=some (.frz o u)->H' b=some (.frz o u)) (tbls:∀b ps,H b=some (.tbl ps)->∃Z,H' b=some (.tbl (ps++Z)))
  (ns:∀m,s.heap.Ns X.env.locals m->h'.Ns X.env.locals m) (lg:HOk X.prog X.w H' h') (hg:AllBare g') :
  Inv X pins σ H' {s with heap:=h',gens:=g',drawn:=d',toks:=t'}:=by
 have Y:∀b o,X.s₀.heap.get? b=some o->b≠X.env.locals:=fun b o e=>yj (yw (yd e) I.ok.above);have J:∀b o,X.s₀.heap.get? b=some o->b∉X.ex->b∉ch:=fun b o e hx hb=>by
  rcases(F b hb).1 with z|z
  ·exact hx z
  ·exact absurd (yw (yd e) z) (y0t _)
 have G:∀x c,X.env.cells.lookup x=some c->∀v,s.heap.IsCell c v->h'.IsCell c v:=fun x c e v ⟨o,O,hd⟩=>by
  have B:c∉ch:=fun z=>(F c z).2.2.1 x c e rfl;by_cases hc:c∈X.fs
  ·obtain⟨sl,q⟩:=slot c o (I.cne x c e) hc B O (I.freeC x c e);exact⟨_,q,hd⟩
  ·exact⟨o,keep c o (I.cne x c e) hc B O (I.freeC x c e),hd⟩
 refine⟨I.ok,I.os,hg,⟨fun b o e n hb hx=>?_,fun b o e n hb hx=>?_,fun b o e n hx=>?_,fun b o e hx=>?_,fun b xs e=>tups b xs (I.base.tups b xs e),fun b o xs e=>frzs b o xs (I.base.frzs b o xs e),fun b ps e=>?_⟩,?_,fun x c e=>?_,?_,fun x c e=>?_,fun p hp=>?_,lg,I.len⟩
 ·exact keep b o (Y b o e) hb (J b o e hx) (I.base.keep b o e n hb hx) (I.base.free b o e n hx)
 ·obtain⟨sl,M⟩:=I.base.slot b o e n hb hx;obtain⟨lc,e2⟩:=slot b _ (Y b o e) hb (J b o e hx) M (I.base.free b o e n hx);exact⟨lc,e2⟩
 ·obtain⟨o',M⟩:=I.base.there b o e hx;exact free b o' (J b o e hx) M (I.base.free b o e n hx)
 ·obtain⟨o',M⟩:=I.base.there b o e hx;exact there b o' (J b o e hx) M
 ·obtain⟨m1,M⟩:=I.base.tbls b ps e;obtain⟨m2,e2⟩:=tbls b _ M;exact⟨m1++m2,by rw[e2,Array.append_assoc]⟩
 ·obtain⟨m,hn,hl⟩:=I.loc;refine⟨m,ns m hn,fun i x v M e2 e3=>?_⟩;obtain⟨u,r,l⟩:=hl i x v M e2 e3;refine⟨u,r,?_⟩;rcases l with l|⟨k,c,e,z⟩
  ·exact .inl l
  ·exact .inr ⟨k,c,e,G x c e _ z⟩
 ·obtain⟨v,z⟩:=I.cell x c e;exact⟨v,G x c e v z⟩
 ·obtain⟨m,⟨o,_,_,O,_⟩,_⟩:=I.loc;exact free _ o (fun z=>(F _ z).2.1 rfl) O I.free
 ·obtain⟨v,o,O,hd⟩:=I.cell x c e;exact free c o (fun z=>(F c z).2.2.1 x c e rfl) O (I.freeC x c e)
 ·obtain⟨e,n,ne,nf,d⟩:=I.pin p hp;have B:p.1∉ch:=fun z=>(F p.1 z).2.2.2 p hp rfl;exact⟨keep p.1 p.2 ne nf B e n,free p.1 p.2 B e n,ne,nf,d⟩
theorem Inv.un{t':Nat}(I:Inv X pins σ H s)(u:Un X.fs [] H H' s.heap h')(B:HOk X.prog X.w H' h'):Inv X pins σ H' {s with heap:=h',toks:=t'}:=by
 obtain⟨m,⟨o,es,ep,J,r⟩,_⟩:=id I.loc;obtain⟨Y,O⟩:=u.any J I.free (by simp);exact I.step (g':=s.gens) (d':=s.drawn) (ch:=[]) (fun _ z=>nomatch z) (fun b o _ hb _ e n=>u.keep b o e n hb (by simp)) (fun b o _ hb _ e n=>u.slot b o e n hb (by simp)) (fun b o _ e n=>u.free b o e n (by simp)) (fun b o _ e=>u.there b o e (by simp)) u.tups u.frzs u.tbls (fun Z hm=>by
  obtain⟨o',F,G,q,M⟩:=hm
  rw[J] at q; cases q
  exact⟨_,F,G,O,M⟩) B I.bare
theorem Inv.call{g':Array GenState}{t':Nat}{d':Drawn}{ch:List Addr}(I:Inv X pins σ H s)(u:Un (frs X.stack) ch H H' s.heap h')(F:HOk X.prog X.w H' h')(hg:AllBare g')
  (B:∀b∈ch,(b∈X.ex\/X.s₀.heap.objs.size<=b)/\b≠X.env.locals/\(∀x c,X.env.cells.lookup x=some c->c≠b)/\∀p∈X.pn++pins,p.1≠b) :
  Inv X pins σ H' {s with heap:=h',gens:=g',drawn:=d',toks:=t'}:=by
 obtain⟨m,⟨o,es,ep,O,r⟩,_⟩:=id I.loc;obtain⟨Z,G⟩:=u.any O I.free fun z=>(B _ z).2.1 rfl;exact I.step (ch:=ch) B (fun b o G hb hc e n=>u.keep b o e n (fun z=>(List.mem_cons.mp (I.stkSub b z)).elim G hb) hc) (fun b o _ _ hc e n=>u.any e n hc) (fun b o hc e n=>u.free b o e n hc) (fun b o hc e=>u.there b o e hc) u.tups u.frzs u.tbls (fun m' hm=>by
  obtain⟨o',J,M,q,Y⟩:=hm
  rw[O] at q; cases q
  exact⟨_,J,M,G,Y⟩) F hg
theorem Inv.turned{t':Nat}{B:Addr}(I:Inv X pins σ H s)(k:∀b o,b≠B->s.heap.get? b=some o->h'.get? b=some o)(M:H B=none)(G:B≠X.env.locals)
  (h1:B∈X.ex\/X.s₀.heap.objs.size<=B) (h2:∀x c,X.env.cells.lookup x=some c->c≠B) (O:∀p∈X.pn++pins,p.1≠B):Inv X pins σ H {s with heap:=h',toks:=t'}:=by
 have F:∀b u,H b=some u->b≠B:=fun b u e z=>by rw[z,M] at e; cases e
 refine I.step (g':=s.gens) (d':=s.drawn) (ch:=[B]) (fun b hb=>?_) (fun b o _ _ hc e _=>k b o (fun z=>hc (by simp[z])) e) (fun b o _ _ hc e _=>⟨o.slots,k b o (fun z=>hc (by simp[z])) e⟩) (fun _ _ _ _ n=>n)
  (fun b o hc e=>⟨o,k b o (fun z=>hc (by simp[z])) e⟩) (fun _ _ e=>e) (fun _ _ _ e=>e) (fun b ps e=>⟨#[],by rw[e]; simp⟩) (fun m hm=>?_) (fun b u e=>?_) I.bare
 ·have e:b=B:=by simpa using hb
  subst e;exact⟨h1,G,h2,O⟩
 ·obtain⟨o,es,ep,J,r⟩:=hm;exact⟨o,es,ep,k _ o (y0y G) J,r⟩
 ·refine(I.hok b u e).stay (fun c v hc q=>k c v ?_ q) (fun _ q=>q) fun _ _ q=>q;rcases hc with z|z
  ·rw[z]; exact F b u e
  ·exact F c _ z
theorem Inv.tok(I:Inv X pins σ H s)(t:Nat):Inv X pins σ H {s with toks:=t}:=I.un (h':=s.heap) (t':=t) Un.refl I.hok
theorem Inv.kept{t':Nat}(I:Inv X pins σ H s)(k:∀b u,s.heap.get? b=some u->h'.get? b=some u):Inv X pins σ H {s with heap:=h',toks:=t'}:=I.un (Un.kept k) (I.hok.kept k)
theorem Inv.laid{t':Nat}(I:Inv X pins σ H s)(k:∀b u,s.heap.get? b=some u->h'.get? b=some u)(z:s.heap.objs.size<=a)(q:ObjOk X.prog X.w (upd H a o) h' a o) :
  Inv X pins σ (upd H a o) {s with heap:=h',toks:=t'}:=I.un (Un.laid k z (I.hok.fresh z)) (I.hok.laid k z q)
theorem Inv.write{t':Nat}(I:Inv X pins σ H s)(B:Mut (H x))(F:e=x\/H e=some (.own x))(k:∀b u,b≠e->s.heap.get? b=some u->h'.get? b=some u)(q:∃u,h'.get? e=some u)
  (z:ObjOk X.prog X.w (upd H x o) h' x o):Inv X pins σ (upd H x o) {s with heap:=h',toks:=t'}:=I.un (Un.write B F k q) (I.hok.write B F k q z)
theorem Inv.pins_of(I:Inv X pins σ H s)(h:∀p∈pins',s.heap.get? p.1=some p.2/\H p.1=none/\p.1≠X.env.locals/\p.1∉X.fs/\∀v,p.2.data≠.cell v):Inv X pins' σ H s:=
 ⟨I.ok,I.os,I.bare,I.base,I.loc,I.cell,I.free,I.freeC,fun p q=>(List.mem_append.mp q).elim (fun z=>I.pin p (y2m _ z)) (h p),I.hok,I.len⟩
theorem Nl{N:List Str}(q:N.Nodup){i j:Nat}{x:Str}(a:N[i]?=some x)(b:N[j]?=some x):i=j:=by
 obtain⟨h1,B⟩:=List.getElem?_eq_some_iff.mp a;obtain⟨h2,z⟩:=List.getElem?_eq_some_iff.mp b;exact(y2j q).mp (B.trans z.symm)
theorem Nm{M:Model}{A:y0a}{E:ya->y9->Prop}{i:Nat}{x:Str}{v:V}{u:ya}{Q:Unit->y9->Prop}(I:Inv X pins σ H s)(hN:X.N.Nodup)(hi:X.N[i]?=some x)(hx:Loc X.env.scope x)(r:RelV v u)
  (h:∀s',Inv X pins (σ.set i (some v)) H s'->(∃a,Heap.SameBut a s.heap s'.heap/\(a=X.env.locals\/X.env.cells.lookup x=some a))->Q () s') (hf:X.fn x=true\/X.env.scope.names.lookup x=some .local:=by first|exact .inl rfl|exact .inr rfl|assumption):yy M A (storeName X.env x u) Q E s:=by
 obtain⟨m,hn,hl⟩:=id I.loc;have lj:(X.env.scope.kind==.class || (X.env.scope.kind==.module&&X.env.locals !=X.env.globals))=false:=by rw[I.ok.kind]; rfl
 have Y:i<σ.length:=by rw[I.len]; exact(List.getElem?_eq_some_iff.mp hi).1
 have cne:=I.cne;have F:∀{a:Addr} {h':Heap},(∃o,s.heap.get? a=some o/\H a=none)->Heap.SameBut a s.heap h'->HOk X.prog X.w H h':=fun {a h'} ha B b ob e=>by
  obtain⟨_,_,J⟩:=ha;refine(I.hok b ob e).stay (fun c w' hc q=>(B.2 c ?_).trans q) (fun _ q=>q) fun _ _ q=>q;rintro rfl;rcases hc with rfl|hc
  ·rw[J] at e; cases e
  ·rw[J] at hc; cases hc
 rcases hx with hk|hk
 ·refine wpAny_storeName_local hk hn (fun h' lq B=>?_) lj;obtain⟨oL,_,_,lp,_⟩:=id hn;refine h _ ⟨I.ok,I.os,I.bare,⟨fun b o e n hb hx=>?_,fun b o e n hb hx=>?_,I.base.free,fun b o e hx=>?_,I.base.tups,I.base.frzs,I.base.tbls⟩,⟨_,lq,fun j y v' G O e3=>?_⟩,fun y c e=>?_,I.free,I.freeC,fun p hp=>?_,F ⟨oL,lp,I.free⟩ B,by simpa using I.len⟩ ⟨_,B,.inl rfl⟩
  ·exact(B.2 b (yj (yw (yd e) I.ok.above))).trans (I.base.keep b o e n hb hx)
  ·obtain⟨sl,G⟩:=I.base.slot b o e n hb hx;exact⟨sl,(B.2 b (yj (yw (yd e) I.ok.above))).trans G⟩
  ·obtain⟨o',G⟩:=I.base.there b o e hx;exact⟨o',(B.2 b (yj (yw (yd e) I.ok.above))).trans G⟩
  ·by_cases Z:j=i
   ·subst Z;rw[hi] at G; cases G;rw[List.getElem?_set_self Y] at O;cases O;exact⟨u,r,.inl ⟨hk,by simp⟩⟩
   ·rw[List.getElem?_set_ne (y0y Z)] at O;obtain⟨u',r',q⟩:=hl j y v' G O e3;refine⟨u',r',?_⟩;rcases q with⟨k,e⟩|⟨k,c,e,z⟩
    ·refine .inl ⟨k,?_⟩;have:y≠x:=fun e=>Z (Nl hN G (e ▸ hi));simp[this,e]
    ·exact .inr ⟨k,c,e,z.sameBut B (cne y c e)⟩
  ·obtain⟨w',z⟩:=I.cell y c e;exact⟨w',z.sameBut B (cne y c e)⟩
  ·obtain⟨e,n,ne,nf,d⟩:=I.pin p hp;exact⟨(B.2 p.1 ne).trans e,n,ne,nf,d⟩
 ·have lc:X.fn x=true:=by
   rcases hf with z|z
   ·exact z
   ·rw[z] at hk; cases hk
  obtain⟨c,hc⟩:=I.ok.has x (.inl hk);obtain⟨w',z⟩:=I.cell x c hc;refine wpAny_storeName_cell I.ok.kind hk hc z (fun h' ln B=>?_);obtain⟨oc,lh,lg⟩:=id z;refine h {s with heap:=h'} ⟨I.ok,I.os,I.bare,⟨fun b o e n hb hx=>?_,fun b o e n hb hx=>?_,I.base.free,fun b o e hx=>?_,I.base.tups,I.base.frzs,I.base.tbls⟩,⟨m,hn.sameBut B (y0y (cne x c hc)),fun j y v' G O e3=>?_⟩,fun y c' e=>?_,I.free,I.freeC,fun p hp=>?_,F ⟨oc,lh,I.freeC x c hc⟩ B,by simpa using I.len⟩ ⟨c,B,.inr hc⟩
  ·exact(B.2 b (yj (yw (yd e) (I.ok.cab x c lc hc)))).trans (I.base.keep b o e n hb hx)
  ·obtain⟨sl,G⟩:=I.base.slot b o e n hb hx;exact⟨sl,(B.2 b (yj (yw (yd e) (I.ok.cab x c lc hc)))).trans G⟩
  ·obtain⟨o',G⟩:=I.base.there b o e hx;exact⟨o',(B.2 b (yj (yw (yd e) (I.ok.cab x c lc hc)))).trans G⟩
  ·by_cases Z:j=i
   ·subst Z;rw[hi] at G; cases G;rw[List.getElem?_set_self Y] at O;cases O;exact⟨u,r,.inr ⟨.inl hk,c,hc,ln⟩⟩
   ·rw[List.getElem?_set_ne (y0y Z)] at O;obtain⟨u',r',q⟩:=hl j y v' G O e3;refine⟨u',r',?_⟩;rcases q with q|⟨k,c',e,z'⟩
    ·exact .inl q
    ·refine .inr ⟨k,c',e,z'.sameBut B ?_⟩;rintro rfl;exact Z (Nl hN G (I.ok.inj _ _ _ e hc ▸ hi))
  ·by_cases lm:c'=c
   ·subst lm; exact⟨_,ln⟩
   ·obtain⟨w2,z2⟩:=I.cell y c' e;exact⟨w2,z2.sameBut B lm⟩
  ·obtain⟨e,n,ne,nf,d⟩:=I.pin p hp;refine⟨(B.2 p.1 ?_).trans e,n,ne,nf,d⟩;intro q;rw[q,lh] at e;have q':oc=p.2:=yz e;exact d w' (by rw[<- q']; exact lg)
theorem Nn{E:ya->y9->Prop}{Q:Unit->y9->Prop}(I:Inv X pins σ H s)(q:X.N.Nodup)(hi:X.N[i]?=some x)(hx:Loc X.env.scope x)(r:RelV v u)
  (h:∀s',Inv X pins (σ.set i (some v)) H s'->Q () s') (hf:X.fn x=true\/X.env.scope.names.lookup x=some .local:=by first|exact .inl rfl|exact .inr rfl|assumption):yy M A (storeName X.env x u) Q E s:=
 Nm I q hi hx r (fun s' z _=>h s' z) hf
theorem Inv.call'(I:Inv X pins σ H s)(B:s'.os=s.os)(u:Un (frs X.stack) ch H H' s.heap s'.heap)(q:HOk X.prog X.w H' s'.heap)(hg:AllBare s'.gens)
  (z:∀b∈ch,(b∈X.ex\/X.s₀.heap.objs.size<=b)/\b≠X.env.locals/\(∀x c,X.env.cells.lookup x=some c->c≠b)/\∀p∈X.pn++pins,p.1≠b):Inv X pins σ H' s':=by
 obtain⟨h',g',d',t',o'⟩:=s';have e:o'=s.os:=B;subst e;exact I.call (g':=g') (t':=t') (d':=d') u q hg z
end
abbrev XK:=ya->Option Addr->Hp->Prop
abbrev St:=List (Option V)
abbrev VK:=V->Hp->Prop
abbrev TE:=St->Hp->VK->Prop
abbrev TT:=St->Hp->(Bool->Hp->Prop)->Prop
abbrev TA:=St->Hp->(List V->Hp->Prop)->Prop
structure Ends where
 nx:St->Hp->Prop
 rt:VK
 bk:St->Hp->Prop:=fun _ _=>False
 ct:St->Hp->Prop:=fun _ _=>False
abbrev TS:=Ends->St->Hp->Prop
def EP(X:Cx)(pins:List (Addr×Obj))(σ:St)(Q:VK)(u:ya)(s':y9):Prop:=∃v H',Inv X pins σ H' s'/\RelV v u/\Q v H'
def TP(X:Cx)(pins:List (Addr×Obj))(σ:St)(Q:Bool->Hp->Prop)(b:Bool)(s':y9):Prop:=∃H',Inv X pins σ H' s'/\Q b H'
def AP(X:Cx)(pins:List (Addr×Obj))(σ:St)(Q:List V->Hp->Prop)(us:List ya)(s':y9):Prop:=∃vs H',Inv X pins σ H' s'/\Vals vs us/\Q vs H'
def SP(X:Cx)(pins:List (Addr×Obj))(D:Ends)(f:Flow)(s':y9):Prop:=
 match f with
 |.next=>∃ q H',Inv X pins q H' s'/\D.nx q H'
 |.brk=>∃ q H',Inv X pins q H' s'/\D.bk q H'
 |.cont=>∃ q H',Inv X pins q H' s'/\D.ct q H'
 |.ret u=>∃v q H',Inv X pins q H' s'/\RelV v u/\D.rt v H'
abbrev PEv(X:Cx)(e:Expr)(t:TE):Prop:=
 ∀(pins:List (Addr×Obj)) (s:y9) (σ:St) (H:Hp) (Q:VK),Inv X pins σ H s->t σ H Q->yy (y03 X.prog X.w) X.A (eval e X.env) (EP X pins σ Q) X.xe s
structure PE(X:Cx)(e:Expr)(t:TE):Prop where
 run:PEv X e t
instance{X:Cx}{e:Expr}{t:TE}:CoeFun (PE X e t) (fun _=>PEv X e t):=⟨PE.run⟩
abbrev PTv(X:Cx)(e:Expr)(t:TT):Prop:=
 ∀(pins:List (Addr×Obj)) (s:y9) (σ:St) (H:Hp) (Q:Bool->Hp->Prop),Inv X pins σ H s->t σ H Q->yy (y03 X.prog X.w) X.A (isTrue e X.env (eval e X.env)) (TP X pins σ Q) X.xe s
structure PT(X:Cx)(e:Expr)(t:TT):Prop where
 run:PTv X e t
instance{X:Cx}{e:Expr}{t:TT}:CoeFun (PT X e t) (fun _=>PTv X e t):=⟨PT.run⟩
abbrev PWv(X:Cx)(e:Expr)(t:TT):Prop:=
 ∀(q:Sem ya) (pins:List (Addr×Obj)) (s:y9) (σ:St) (H:Hp) (Q:Bool->Hp->Prop),Inv X pins σ H s->t σ H Q->yy (y03 X.prog X.w) X.A (isTrue e X.env q) (TP X pins σ Q) X.xe s
structure PW(X:Cx)(e:Expr)(t:TT):Prop where
 run:PWv X e t
instance{X:Cx}{e:Expr}{t:TT}:CoeFun (PW X e t) (fun _=>PWv X e t):=⟨PW.run⟩
theorem PW.pt(h:PW X e t):PT X e t:=⟨h.run _⟩
abbrev PAv(X:Cx)(es:List Expr)(t:TA):Prop:=
 ∀(pos:Pos) (pins:List (Addr×Obj)) (s:y9) (σ:St) (H:Hp) (Q:List V->Hp->Prop),Inv X pins σ H s->t σ H Q->yy (y03 X.prog X.w) X.A (spliced (backTo pos (starEach es X.env))) (AP X pins σ Q) X.xe s
structure PA(X:Cx)(es:List Expr)(t:TA):Prop where
 run:PAv X es t
instance{X:Cx}{es:List Expr}{t:TA}:CoeFun (PA X es t) (fun _=>PAv X es t):=⟨PA.run⟩
abbrev PSv(X:Cx)(st:Stmt)(t:TS):Prop:=
 ∀(pins:List (Addr×Obj)) (s:y9) (σ:St) (H:Hp) (D:Ends),Inv X pins σ H s->t D σ H->yy (y03 X.prog X.w) X.A (exec st X.env) (SP X pins D) X.xe s
structure PS(X:Cx)(st:Stmt)(t:TS):Prop where
 run:PSv X st t
instance{X:Cx}{st:Stmt}{t:TS}:CoeFun (PS X st t) (fun _=>PSv X st t):=⟨PS.run⟩
abbrev PSsv(X:Cx)(st:List Stmt)(t:TS):Prop:=
 ∀(pins:List (Addr×Obj)) (s:y9) (σ:St) (H:Hp) (D:Ends),Inv X pins σ H s->t D σ H->yy (y03 X.prog X.w) X.A (execs st X.env) (SP X pins D) X.xe s
structure PSs(X:Cx)(st:List Stmt)(t:TS):Prop where
 run:PSsv X st t
instance{X:Cx}{st:List Stmt}{t:TS}:CoeFun (PSs X st t) (fun _=>PSsv X st t):=⟨PSs.run⟩
theorem thn{q:Type}{t:Sem q}{Q z:q->y9->Prop}{M:Model}{A:y0a}{E:ya->y9->Prop}{s:y9}(h:yy M A t Q E s)(B:∀a s,Q a s->z a s):yy M A t z E s:=y18 h B fun _ _ x=>x
section
variable{X:Cx}
def isI(x:V)(P:Int->Prop):Prop:=match x with|.int i=>P i|_=>False
def isBl(x:V)(P:Bool->Prop):Prop:=match x with|.bl i=>P i|_=>False
def isRf(x:V)(P:Addr->Prop):Prop:=match x with|.ref i=>P i|_=>False
theorem FR{P:Int->Prop}:isI (.int i) P=P i:=rfl
theorem EN{P:Bool->Prop}:isBl (.bl i) P=P i:=rfl
theorem FS{P:Addr->Prop}:isRf (.ref i) P=P i:=rfl
theorem isI.o{x:V}{P:Int->Prop}(h:isI x P):∃i,x=.int i/\P i:=by
 cases x<;>first|exact h.elim|exact⟨_,rfl,h⟩
theorem isBl.o{P:Bool->Prop}(h:isBl x P):∃i,x=.bl i/\P i:=by
 cases x<;>first|exact h.elim|exact⟨_,rfl,h⟩
theorem isRf.o{x:V}{P:Addr->Prop}(h:isRf x P):∃i,x=.ref i/\P i:=by
 cases x<;>first|exact h.elim|exact⟨_,rfl,h⟩
theorem FT{P:Int->Prop}:isI x P=∃i,x=.int i/\P i:=propext ⟨isI.o,fun⟨i,e,h⟩=>by subst e; exact h⟩
theorem FU{P:Bool->Prop}:isBl x P=∃i,x=.bl i/\P i:=propext ⟨isBl.o,fun⟨i,e,h⟩=>by subst e; exact h⟩
theorem FV{P:Addr->Prop}:isRf x P=∃i,x=.ref i/\P i:=propext ⟨isRf.o,fun⟨i,e,h⟩=>by subst e; exact h⟩
def atS:Nat->St->(V->Prop)->Prop
 |0,some v::_,P=>P v
 |i+1,_::σ,P=>atS i σ P
 |_,_,_=>False
theorem FW{P:V->Prop}:atS 0 (some v::σ) P=P v:=rfl
theorem FX{P:V->Prop}:atS (i+1) (x::σ) P=atS i σ P:=rfl
theorem isV.o:∀{i:Nat} {σ:St} {P:V->Prop},atS i σ P->∃v,σ[i]?=some (some v)/\P v
 |0,some v::_,_,h=>⟨v,rfl,h⟩
 |i+1,_::σ,P,h=>by
  obtain⟨v,e,h⟩:=isV.o (i:=i) (σ:=σ) h;exact⟨v,by simpa using e,h⟩
 |0,[],_,h=>h.elim
 |0,none::_,_,h=>h.elim
 |_+1,[],_,h=>h.elim
theorem isV.i:∀{i:Nat} {σ:St} {v:V} {P:V->Prop},σ[i]?=some (some v)->P v->atS i σ P
 |0,some v::_,_,_,e,h=>by
  have e:some (some v)=some (some _):=e;cases e; exact h
 |i+1,_::σ,v,P,e,h=>isV.i (i:=i) (σ:=σ) (by simpa using e) h
 |0,[],_,_,e,_=>by simp at e
 |0,none::_,_,_,e,_=>by simp at e
 |_+1,[],_,_,e,_=>by simp at e
theorem FY{P:V->Prop}:atS i σ P=∃v,σ[i]?=some (some v)/\P v:=propext ⟨isV.o,fun⟨_,e,h⟩=>isV.i e h⟩
def Bz:Nat->V->St->(St->Prop)->Prop
 |0,v,_::σ,Q=>Q (some v::σ)
 |i+1,v,x::σ,Q=>Bz i v σ fun q=>Q (x::q)
 |_,_,[],Q=>Q []
theorem FZ{Q:St->Prop}:Bz 0 v (x::σ) Q=Q (some v::σ):=rfl
theorem Fa{Q:St->Prop}:Bz (i+1) v (x::σ) Q=Bz i v σ fun q=>Q (x::q):=rfl
theorem CI:∀{i:Nat} {v:V} {σ:St} {Q:St->Prop},Bz i v σ Q=Q (σ.set i (some v))
 |0,v,_::σ,Q=>rfl
 |i+1,v,x::σ,Q=>by rw[Bz,CI (i:=i)]; rfl
 |0,_,[],Q=>rfl
 |i+1,_,[],Q=>rfl
theorem Fb{q z:Type}{f:q->z}{a:q}{l:List q}:List.map f (a::l)=f a::List.map f l:=rfl
theorem Fc{z q:Type}{f:z->q}:List.map f []=[]:=rfl
theorem Fd{q:Type}:(a::l).length=l.length+1:=rfl
theorem Fe{q:Type}:([]:List q).length=0:=rfl
theorem Ff{q:Type}:(a::l)++r=a::(l++r):=rfl
theorem Fg{q:Type}:[]++r=r:=rfl
def Az(i:Nat):TE:=fun σ H Q=>atS i σ fun v=>Q v H
def tC(v:V):TE:=fun _ H Q=>Q v H
theorem AQ(G:X.N[i]?=some x)(hv:Vis X.env.scope x) (hd:(x==("__debug__" : Str))=false:=by decide) (z:(x==("__classdict__" : Str))=false:=by decide):PE X (.Name x pos) (Az i):=by
 refine⟨?_⟩;intro pins s σ H Q I h;obtain⟨v,e,h⟩:=isV.o h;obtain⟨m,B,F⟩:=I.loc;obtain⟨u,r,l⟩:=F i x v G e hv;have fin:EP X pins σ Q u s:=⟨v,H,I,r,h⟩;rcases l with⟨hk,hm⟩|⟨hk,c,hc,q⟩
 ·exact wpAny_Name (wpAny_loadName_local I.ok.kind hk B hm fin) hd
 ·rcases hk with hk|hk
  ·exact wpAny_Name (wpAny_loadName_cell I.ok.kind hk hc q fin) hd
  ·exact wpAny_Name (wpAny_loadName_free I.ok.kind hk hc q fin z) hd
theorem A4{i j pos}:PE X (.Constant (.int i) j pos) (tC (.int i)):=⟨fun _ _ _ H _ I h=>wpAny_Constant_int ⟨.int i,H,I.tok _,⟨_,rfl⟩,h⟩⟩
theorem BA{b j pos}:PE X (.Constant (.bool b) j pos) (tC (.bl b)):=⟨fun _ _ _ H _ I h=>Constant_bool ⟨.bl b,H,I,rfl,h⟩⟩
theorem AY{j pos}:PE X (.Constant .none j pos) (tC .non):=⟨fun _ _ _ H _ I h=>Constant_none ⟨.non,H,I,rfl,h⟩⟩
theorem AR{x j pos}:PE X (.Constant (.str x) j pos) (tC (.str x)):=⟨fun _ _ _ H _ I h=>Calls.Constant_str ⟨.str x,H,I.tok _,⟨_,rfl⟩,h⟩⟩
def Gl(X:Cx)(x:Str):Prop:=X.env.kindOf x=some .globalImplicit
theorem IY{E:ya->y9->Prop}{Q:ya->y9->Prop}(I:Inv X pins σ H s)(hg:Gl X x)(hm:X.mg x=some u)(h:Q u s)
  (hd:(x==("__debug__" : Str))=false:=by decide):yy (y03 X.prog X.w) X.A (eval (.Name x pos) X.env) Q E s:=
 Calls.Name_function_global I.ok.kind hg (Calls.loadGlobal_global (by rw[I.ok.glob]; exact I.mod.glob.keeps I.bk) hm h) hd
theorem EO{E:ya->y9->Prop}{Q:ya->y9->Prop}(I:Inv X pins σ H s)(hg:Gl X x)(hm:X.mg x=none)(hv:bootBuiltins x=some u)(h:Q u s)
  (q:x≠"__name__":=by decide) (hd:(x==("__debug__" : Str))=false:=by decide):yy (y03 X.prog X.w) X.A (eval (.Name x pos) X.env) Q E s:=by
 obtain⟨z,h1,h2⟩:=I.mod.blt;exact Calls.Name_function_global I.ok.kind hg (Calls.loadGlobal_builtin (by rw[I.ok.glob]; exact I.mod.glob.keeps I.bk) hm (by rw[I.ok.blt]; exact h1.keeps I.bk) ((h2 x q).trans hv) h) hd
theorem UH(hg:Gl X x)(hm:X.mg x=some u)(r:RelV v u) (hd:(x==("__debug__" : Str))=false:=by decide):PE X (.Name x pos) (tC v):=
 ⟨fun _ _ _ H _ I h=>IY I hg hm ⟨v,H,I,r,h⟩ hd⟩
theorem Fh(hg:Gl X x)(hm:X.mg x=none)(hv:bootBuiltins x=some u)(r:RelV v u) (q:x≠"__name__":=by decide) (hd:(x==("__debug__" : Str))=false:=by decide):PE X (.Name x pos) (tC v):=
 ⟨fun _ _ _ H _ I h=>EO I hg hm hv ⟨v,H,I,r,h⟩ q hd⟩
variable{a b:Expr}{ta tb:TE}{pos:Pos}
abbrev PCv(X:Cx)(op:CmpOp)(a b:Expr)(t:TE):Prop:=
 ∀(pins:List (Addr×Obj)) (s:y9) (σ:St) (H:Hp) (Q:VK),Inv X pins σ H s->t σ H Q->
  yy (y03 X.prog X.w) X.A (eval a X.env) (fun v z=>yy (y03 X.prog X.w) X.A (eval b X.env) (fun u q=>yy (y03 X.prog X.w) X.A (y09 op v u) (EP X pins σ Q) X.xe q) X.xe z) X.xe s
structure PC(X:Cx)(op:CmpOp)(a b:Expr)(t:TE):Prop where
 run:PCv X op a b t
instance{X:Cx}{op:CmpOp}{a b:Expr}{t:TE}:CoeFun (PC X op a b t) (fun _=>PCv X op a b t):=⟨PC.run⟩
theorem No(b:Expr)(h:op≠.In)(h2:op≠.NotIn):behindInMarks op b=false:=by
 have z:(op==CmpOp.In)=false:=by cases op<;>first|rfl|exact absurd rfl h
 have q:(op==CmpOp.NotIn)=false:=by cases op<;>first|rfl|exact absurd rfl h2
 cases b<;>simp[behindInMarks,z,q]
def tB(t:TE):TT:=fun σ H Q=>t σ H fun x H1=>isBl x fun c=>Q c H1
theorem UI(h:PC X op a b t)(h1:behindInMarks op b=false:=by first|exact No _ (by decide) (by decide)|rfl):PE X (.Compare a [op] [b] pos) t:=⟨fun pins s σ H Q I hw=>wpAny_Compare1 (h pins s σ H Q I hw) h1⟩
theorem UJ{op:CmpOp}{t:TE}(h:PC X op a b t)(h1:behindInMarks op b=false:=by first|exact No _ (by decide) (by decide)|rfl):PT X (.Compare a [op] [b] pos) (tB t):=by
 refine⟨?_⟩;intro pins s σ H Q I hw;refine wpAny_isTrue_Compare1 (thn (h pins s σ H _ I hw) fun v M h1=>thn h1 fun u J h2=>thn h2 fun c G ⟨x,H1,F,z,B⟩=>?_) h1;obtain⟨d,rfl,q⟩:=isBl.o B;cases z;exact y17 ⟨H1,F,q⟩
theorem Be{e:Expr}{t:TE}(h:PE X e t)(he:∀whole,isTrue e X.env whole=(do let v <- whole; standAt e.pos; holding [v] (truthy v)):=by intro _; rfl):PT X e (tB t):=by
 refine⟨?_⟩
 intro pins s σ H Q I hw
 refine isTrue_plain (thn (h pins s σ H _ I hw) fun v s1 ⟨x,H1,I1,r1,q1⟩=>?_) (he _)
 obtain⟨d,rfl,q⟩:=isBl.o q1
 cases r1
 exact y17 ⟨H1,I1,q⟩
variable{tA tB':TT}{B9:List Expr}
def Cs(t u:TT):TT:=fun σ H Q=>t σ H fun c H1=>if c=true then u σ H1 Q else Q false H1
def tOr(t u:TT):TT:=fun σ H Q=>t σ H fun c H1=>if c=true then Q true H1 else u σ H1 Q
def EQ(t:TT):TT:=fun σ H Q=>t σ H fun c H1=>Q (!c) H1
theorem HU(ha:PT X a tA):PW X (.BoolOp .And [a] pos) tA:=by
 refine⟨?_⟩;intro q pins s σ H Q I h;refine isTrue_and (thn (ha pins s σ H Q I h) fun c z e=>?_);cases c with
 |true=>exact isTrue_and_nil e
 |false=>exact e
theorem Ct(ha:PT X a tA):PW X (.BoolOp .Or [a] pos) tA:=by
 refine⟨?_⟩;intro q pins s σ H Q I h;refine isTrue_or (thn (ha pins s σ H Q I h) fun c z e=>?_);cases c with
 |false=>exact isTrue_or_nil e
 |true=>exact e
theorem HV(ha:PT X a tA)(hb:PW X (.BoolOp .And (b::B9) pos) tB'):PW X (.BoolOp .And (a::b::B9) pos) (Cs tA tB'):=by
 refine⟨?_⟩;intro B pins s σ H Q I h;refine isTrue_and (thn (ha pins s σ H _ I h) fun c F ⟨H1,z,q⟩=>?_);cases c with
 |true=>exact hb B pins F σ H1 Q z q
 |false=>exact⟨H1,z,q⟩
theorem Cu(ha:PT X a tA)(hb:PW X (.BoolOp .Or (b::B9) pos) tB'):PW X (.BoolOp .Or (a::b::B9) pos) (tOr tA tB'):=by
 refine⟨?_⟩;intro B pins s σ H Q I h;refine isTrue_or (thn (ha pins s σ H _ I h) fun c F ⟨H1,z,q⟩=>?_);cases c with
 |true=>exact⟨H1,z,q⟩
 |false=>exact hb B pins F σ H1 Q z q
theorem Cc(ha:PT X a tA):PT X (.UnaryOp .Not a pos) (EQ tA):=by
 refine⟨?_⟩;intro pins s σ H Q I h;exact isTrue_not (ha pins s σ H (fun c H1=>Q (!c) H1) I h)
def ER(ta tb:TE):TE:=fun σ H Q=>ta σ H fun x H1=>isBl x fun c=>if c=true then tb σ H1 Q else Q (.bl false) H1
def Fi(ta tb:TE):TE:=fun σ H Q=>ta σ H fun x H1=>isBl x fun c=>if c=true then Q (.bl true) H1 else tb σ H1 Q
def ES(ta:TE):TE:=fun σ H Q=>ta σ H fun x H1=>isBl x fun c=>Q (.bl (!c)) H1
theorem Fj{op}(h:PE X a t):PE X (.BoolOp op [a] pos) t:=⟨fun pins s σ H Q I hw=>BoolOp_one (h pins s σ H Q I hw)⟩
theorem DY(ha:PE X a ta)(hb:PE X (.BoolOp .And (b::B9) pos) tb):PE X (.BoolOp .And (a::b::B9) pos) (ER ta tb):=by
 refine⟨?_⟩;intro pins s σ H Q I h;refine BoolOp_and (thn (ha pins s σ H _ I h) fun v B ⟨x,H1,z,F,q⟩=>?_);obtain⟨c,rfl,q⟩:=isBl.o q;cases F;refine y17 ?_;cases c with
 |true=>exact hb pins B σ H1 Q z q
 |false=>exact⟨.bl false,H1,z,rfl,q⟩
theorem Np(ha:PE X a ta):PE X (.UnaryOp .Not a pos) (ES ta):=by
 refine⟨?_⟩;intro pins s σ H Q I h;refine UnaryOp_ (thn (ha pins s σ H _ I h) fun v F ⟨x,H1,B,z,q⟩=>?_);obtain⟨c,rfl,q⟩:=isBl.o q;cases z;exact not_of (y17 ⟨.bl (!c),H1,B,rfl,q⟩)
def tIf(t:TT)(ta tb:TE):TE:=fun σ H Q=>t σ H fun c H1=>if c=true then ta σ H1 Q else tb σ H1 Q
theorem HW{c:Expr}(hc:PT X c tA)(ha:PE X a ta)(hb:PE X b tb):PE X (.IfExp c a b pos) (tIf tA ta tb):=by
 refine⟨?_⟩;intro pins s σ H Q I h;refine wpAny_IfExp (thn (hc pins s σ H _ I h) fun d q ⟨H1,B,z⟩=>?_);cases d with
 |true=>exact ha pins q σ H1 Q B z
 |false=>exact hb pins q σ H1 Q B z
def SqL(K:y3)(H:Hp)(a:Addr)(xs:List V):Prop:=
 Rd H a (.lst xs)\/
  ∃(o:Obj) (q:Array ya) (n:Nat),K.lookup a=some o/\o.cls=.type "list"/\o.dict=none/\o.data=.seq q n/\q.size<=yn/\Vals xs q.toList
def SqT(K:y3)(H:Hp)(a:Addr)(xs:List V):Prop:=
 Rd H a (.tup xs)\/
  ∃(o:Obj) (q:Array ya) (n:Nat),K.lookup a=some o/\o.cls=.type "tuple"/\o.data=.seq q n/\q.size<=yn/\Vals xs q.toList
def UK:ya->Option V
 |.none=>some .non
 |.bool b=>some (.bl b)
 |.int i _=>some (.int i)
 |.str x _=>some (.str x)
 |.bytes b _=>some (.byt b)
 |.float b _=>some (.flt b)
 |.ref a=>some (.ref a)
 |.type n=>some (.ty n)
 |_=>none
theorem RelV.abs(r:RelV x u):UK u=some x:=by
 cases x with
 |non=>cases r; rfl
 |bl _=>cases r; rfl
 |int _=>obtain⟨t,rfl⟩:=r; rfl
 |str _=>obtain⟨t,rfl⟩:=r; rfl
 |byt _=>obtain⟨t,rfl⟩:=r; rfl
 |flt _=>obtain⟨t,rfl⟩:=r; rfl
 |ref _=>cases r; rfl
 |ty _=>cases r; rfl
theorem RelV.inj(r:RelV x u)(q:RelV y u):x=y:=yz (r.abs.symm.trans q.abs)
theorem Vals.inj:∀{xs ys:List V} {us:List ya},Vals xs us->Vals ys us->xs=ys
 |_,_,_,.nil,.nil=>rfl
 |_,_,_,.cons r t,.cons q t'=>by rw[r.inj q,Vals.inj t t']
end
section
variable{X:Cx}{pins:List (Addr×Obj)}{σ:St}{H:Hp}{s:y9}{a:Addr}{xs ys:List V}
theorem SqL.of{K:y3}(h:H a=some (.lst xs)):SqL K H a xs:=.inl (.inl h)
theorem SqT.of{K:y3}(h:H a=some (.tup xs)):SqT K H a xs:=.inl (.inl h)
theorem Inv.list(I:Inv X pins σ H s)(h:SqL X.K H a xs):∃q:List ya,Vals xs q/\PlainL s.heap a q.toArray/\xs.length<=yn:=by
 rcases h with h|⟨o,q,n,hk,hc,hd,B,F,r⟩
 ·obtain⟨z,q,n,r,e⟩:=h.ok I.hok;exact⟨q,r,⟨_,n,e,rfl,rfl,rfl⟩,z⟩
 ·refine⟨q.toList,r,⟨o,n,I.kIn a o hk,hc,hd,by simpa using B⟩,?_⟩;have e:=r.length;simp only[y0f] at e;lia
theorem Inv.tuple(I:Inv X pins σ H s)(h:SqT X.K H a xs):∃q:List ya,Vals xs q/\IsTup s.heap a q.toArray/\xs.length<=yn:=by
 rcases h with h|⟨o,q,n,hk,hc,B,F,r⟩
 ·obtain⟨z,q,r,p⟩:=h.ok I.hok;exact⟨q,r,p.tup,z⟩
 ·refine⟨q.toList,r,⟨o,I.kIn a o hk,hc,n,by simpa using B⟩,?_⟩;have e:=r.length;simp only[y0f] at e;lia
theorem Inv.list_inj(I:Inv X pins σ H s)(h:SqL X.K H a xs)(h':SqL X.K H a ys):xs=ys:=by
 obtain⟨q,r,⟨o,n,e,_,_,d⟩,_⟩:=I.list h;obtain⟨its',B,⟨o',F,z,_,_,d'⟩,_⟩:=I.list h';rw[e] at z; cases z;rw[d] at d';injection d' with d1 _;have:q=its':=by simpa using congrArg Array.toList d1
 subst this;exact r.inj B
theorem Inv.tuple_inj(I:Inv X pins σ H s)(h:SqT X.K H a xs)(h':SqT X.K H a ys):xs=ys:=by
 obtain⟨q,r,⟨o,e,_,n,d⟩,_⟩:=I.tuple h;obtain⟨its',B,⟨o',z,_,F,d'⟩,_⟩:=I.tuple h';rw[e] at z; cases z;rw[d] at d';injection d' with d1 _;have:q=its':=by simpa using congrArg Array.toList d1
 subst this;exact r.inj B
end
abbrev Cx.wish(X:Cx)(E:ya->y9->Prop):Cx:={X with xe:=E}
abbrev Cx.nox(X:Cx):Cx:=X.wish fun _ _=>False
theorem Cx.Ok.wish{X:Cx}(ok:X.Ok)(E:ya->y9->Prop):(X.wish E).Ok:=
 ⟨ok.mod,ok.kind,ok.glob,ok.blt,ok.above,ok.inj,ok.has,ok.cab,ok.hd,ok.frames,ok.stk,ok.exf,ok.bs,ok.bsz,ok.noex,ok.exfs,ok.funs,ok.frf⟩
theorem Cx.Ok.unwish{X:Cx}{E:ya->y9->Prop}(ok:(X.wish E).Ok):X.Ok:=
 ⟨ok.mod,ok.kind,ok.glob,ok.blt,ok.above,ok.inj,ok.has,ok.cab,ok.hd,ok.frames,ok.stk,ok.exf,ok.bs,ok.bsz,ok.noex,ok.exfs,ok.funs,ok.frf⟩
section
variable{X:Cx}{pins:List (Addr×Obj)}{σ:St}{H:Hp}{s:y9}{E:ya->y9->Prop}
theorem Inv.wish(I:Inv X pins σ H s)(E:ya->y9->Prop):Inv (X.wish E) pins σ H s:=⟨I.ok.wish E,I.os,I.bare,I.base,I.loc,I.cell,I.free,I.freeC,I.pin,I.hok,I.len⟩
theorem Inv.unwish(I:Inv (X.wish E) pins σ H s):Inv X pins σ H s:=⟨I.ok.unwish,I.os,I.bare,I.base,I.loc,I.cell,I.free,I.freeC,I.pin,I.hok,I.len⟩
theorem SP.unwish(h:SP (X.wish E) pins D f s'):SP X pins D f s':=by
 cases f with
 |next=>obtain⟨z,H',I,q⟩:=h; exact⟨z,H',I.unwish,q⟩
 |brk=>obtain⟨z,H',I,q⟩:=h; exact⟨z,H',I.unwish,q⟩
 |cont=>obtain⟨z,H',I,q⟩:=h; exact⟨z,H',I.unwish,q⟩
 |ret u=>obtain⟨v,z,H',I,r,q⟩:=h; exact⟨v,z,H',I.unwish,r,q⟩
theorem PSs.nox{st:List Stmt}{t:TS}(h:PSs X.nox st t):PSs X st t:=⟨fun pins s σ H D I hw=>
 y18 (h pins s σ H D (I.wish _) hw) (fun _ _ q=>q.unwish) fun _ _ z=>False.elim z⟩
end
section
variable{X:Cx}{st:Stmt}{B9:List Stmt}{t u:TS}{e:Expr}{te:TE}{pos:Pos}
def ET:TS:=fun D σ H=>D.nx σ H
def C9(t u:TS):TS:=fun D σ H=>t {D with nx:=u D} σ H
theorem AI:PSs X [] ET:=⟨fun _ _ σ H _ I h=>y3k ⟨σ,H,I,h⟩⟩
theorem A5(h1:PS X st t)(h2:PSs X B9 u):PSs X (st::B9) (C9 t u):=by
 refine⟨?_⟩;intro pins s σ H D I h;refine wpAny_execs_cons (thn (h1 pins s σ H {D with nx:=u D} I h) fun f B q=>?_);cases f with
 |next=>
  obtain⟨z,H',F,q⟩:=q;exact h2 pins B z H' D F q
 |ret v=>exact q
 |brk=>exact q
 |cont=>exact q
theorem A7(h1:PS X st t):PSs X [st] t:=by
 refine⟨?_⟩;intro pins s σ H D I h;refine wpAny_execs_cons (thn (h1 pins s σ H D I h) fun f z q=>?_);cases f with
 |next=>exact y3k q
 |ret v=>exact q
 |brk=>exact q
 |cont=>exact q
def Fk:TS:=fun D σ H=>D.bk σ H
def Fl:TS:=fun D σ H=>D.ct σ H
theorem Inv.quiet(I:Inv X pins σ H s):interactive X.env=false:=by simp[interactive,I.ok.kind]
def EU(te:TE):TS:=fun D σ H=>te σ H fun _ H1=>D.nx σ H1
theorem HX(B:PE X e te)(z:swapsWith e none pos.line X.env=pure false:=by rfl):PS X (.Expr e pos) (EU te):=by
 refine⟨?_⟩;intro pins s σ H D I h;exact wpAny_Expr_any (thn (B pins s σ H _ I h) fun v G ⟨x,H1,F,J,q⟩=>⟨σ,H1,F,q⟩) I.quiet z
def EV(te:TE):TS:=fun D σ H=>te σ H D.rt
theorem AA(B:PE X e te):PS X (.Return (some e) pos) (EV te):=by
 refine⟨?_⟩;intro pins s σ H D I h;exact wpAny_Return_some (thn (B pins s σ H _ I h) fun v G ⟨x,H1,F,q,z⟩=>⟨x,σ,H1,F,q,z⟩)
def Fm:TS:=fun D _ H=>D.rt .non H
def B2(c:TT)(t u:TS):TS:=fun D σ H=>c σ H fun b H1=>if b=true then t D σ H1 else u D σ H1
theorem AJ{c:Expr}{a b:List Stmt}{tc:TT}(hc:PT X c tc)(ha:PSs X a t)(hb:PSs X b u):PS X (.If c a b pos) (B2 tc t u):=by
 refine⟨?_⟩;intro pins s σ H D I h;refine wpAny_If (thn (hc pins s σ H _ I h) fun d q ⟨H1,B,z⟩=>?_);cases d with
 |true=>exact ha pins q σ H1 D B z
 |false=>exact hb pins q σ H1 D B z
def EW:TS:=fun _ _ _=>False
theorem Ks:PS X st EW:=⟨fun _ _ _ _ _ _ h=>h.elim⟩
abbrev TG:=V->St->Hp->(St->Hp->Prop)->Prop
abbrev TGs:=List V->St->Hp->(St->Hp->Prop)->Prop
end
abbrev PGv(X:Cx)(q:Expr)(t:TG):Prop:=
 ∀(pins:List (Addr×Obj)) (s:y9) (σ:St) (H:Hp) (v:V) (u:ya) (Q:St->Hp->Prop),Inv X pins σ H s->RelV v u->t v σ H Q->
  yy (y03 X.prog X.w) X.A (assign q X.env u) (fun _ s'=>∃ z H',Inv X pins z H' s'/\Q z H') X.xe s
structure PG(X:Cx)(target:Expr)(t:TG):Prop where
 run:PGv X target t
instance{X:Cx}{target:Expr}{t:TG}:CoeFun (PG X target t) (fun _=>PGv X target t):=⟨PG.run⟩
abbrev PGsv(X:Cx)(z:List Expr)(t:TGs):Prop:=
 ∀(pins:List (Addr×Obj)) (s:y9) (σ:St) (H:Hp) (vs:List V) (us:List ya) (Q:St->Hp->Prop),Inv X pins σ H s->Vals vs us->t vs σ H Q->
  yy (y03 X.prog X.w) X.A (assignInOrder ((assignEach z X.env).map (·.2)) us) (fun _ s'=>∃ q H',Inv X pins q H' s'/\Q q H') X.xe s
structure PGs(X:Cx)(ts:List Expr)(t:TGs):Prop where
 run:PGsv X ts t
instance{X:Cx}{ts:List Expr}{t:TGs}:CoeFun (PGs X ts t) (fun _=>PGsv X ts t):=⟨PGs.run⟩
section
variable{X:Cx}{pos:Pos}
def B6(i:Nat):TG:=fun v σ H Q=>Bz i v σ fun q=>Q q H
theorem Ab(q:X.N.Nodup)(hi:X.N[i]?=some x)(hx:Loc X.env.scope x)(hf:X.fn x=true\/X.env.scope.names.lookup x=some .local:=by first|exact .inl rfl|exact .inr rfl|assumption):PG X (.Name x pos) (B6 i):=by
 refine⟨?_⟩;intro pins s σ H v u Q I r h;rw[B6,CI] at h;exact wpAny_assign_Name (Nn I q hi hx r (fun s' z=>⟨_,H,z,h⟩) hf)
def DZ:TGs:=fun vs σ H Q=>vs=[]/\Q σ H
def Cv(t:TG)(u:TGs):TGs:=fun vs σ H Q=>∃v r,vs=v::r/\t v σ H fun q H'=>u r q H' Q
theorem EX:PGs X [] DZ:=by
 refine⟨?_⟩;intro pins s σ H vs us Q I r h;obtain⟨e,h⟩:=h;subst e;cases r;exact assignInOrder_nil ⟨σ,H,I,h⟩
theorem BV{e:Expr}{es:List Expr}{t:TG}{u:TGs}(h1:PG X e t)(h2:PGs X es u)
  (G:(assignEach (e::es) X.env).map (·.2)=assign e X.env::(assignEach es X.env).map (·.2):=by rfl):PGs X (e::es) (Cv t u):=by
 refine⟨?_⟩;intro pins s σ H vs us Q I r h;obtain⟨v,O,J,h⟩:=h;subst J;cases r with
 |cons r B=>
  rw[G];refine assignInOrder_cons (thn (h1 pins s σ H _ _ _ I r h) fun _ z ⟨q,H1,M,F⟩=>?_);exact h2 pins z q H1 _ _ Q M B F
def Cw(K:y3)(n:Nat)(t:TGs):TG:=fun v σ H Q=>isRf v fun a=>∃xs,SqT K H a xs/\xs.length=n/\t xs σ H Q
theorem EY(hc:X.calm=true)(h:PGs X es t)
  (G:(assignEach es X.env).length=n:=by rfl) (q:(assignEach es X.env).findIdx? (·.1)=none:=by rfl):PG X (.Tuple es k pos) (Cw X.K n t):=by
 refine⟨?_⟩;intro pins s σ H v u Q I r hw;obtain⟨a,O,xs,hq,J,M⟩:=isRf.o hw;subst O;cases r;obtain⟨B,z,F,Z⟩:=I.tuple hq;refine assign_Tuple_tuple (I.ok.hd hc) F (by simp[G,<- J,z.length]) q fun h' hx=>?_;have Y:Inv X pins σ H {s with heap:=h'}:=I.kept (t':=s.toks) fun b o e=>hx b o (yj (yd e)) e;exact h pins _ σ H xs _ Q Y (by simpa using z) M
def Da(te:TE)(g:TG):TS:=fun D σ H=>te σ H fun x H1=>g x σ H1 D.nx
theorem AK{i:Nat}{x:Str}{e:Expr}{te:TE}{pos':Pos}(G:X.N.Nodup)(hi:X.N[i]?=some x)(hx:Loc X.env.scope x)(F:PE X e te)(B:swapsWith e (some (.Name x pos')) pos.line X.env=pure false:=by rfl)(hf:X.fn x=true\/X.env.scope.names.lookup x=some .local:=by first|exact .inl rfl|exact .inr rfl|assumption) :
  PS X (.Assign [.Name x pos'] e pos) (Da te (B6 i)):=by
 refine⟨?_⟩;intro pins s σ H D I h;refine wpAny_Assign_Name (thn (F pins s σ H _ I h) fun v Y ⟨y,H1,M,z,q⟩=>?_) B;have q:B6 i y σ H1 D.nx:=q;rw[B6,CI] at q;exact Nn M G hi hx z (fun O J=>⟨_,H1,J,q⟩) hf
def UL(i j:Nat)(ta:TA):TS:=fun D σ H=>ta σ H fun vs H1=>∃v w,vs=[v,w]/\D.nx ((σ.set i (some v)).set j (some w)) H1
def UM(c:TT)(tb:TS):TS:=fun D σ H=>∃W:Nat->St->Hp->Prop,(∃m,W m σ H)/\∀m σ H,W m σ H->
 c σ H fun b H1=>if b=true then ∃N:St->Hp->Prop,(∀ q H',N q H'->∃z,z<m/\W z q H')/\tb {D with nx:=N,ct:=N,bk:=D.nx} σ H1 else D.nx σ H1
theorem Nq{c:Expr}{body:List Stmt}{tc:TT}{tb:TS}(Z:PassesOwn (y03 X.prog X.w) X.A X.env X.xe)(hc:PT X c tc)(hb:PSs X body tb):PS X (.While c body [] pos) (UM tc tb):=by
 refine⟨?_⟩;intro pins s σ H D I h;obtain⟨W,⟨m0,w0⟩,turn⟩:=h;refine wpAny_While (codeAny_whileLoop (fun n s'=>∃ B H',Inv X pins B H' s'/\W n B H') ?_ m0 ⟨σ,H,I,w0⟩);rintro n s1 ⟨z,H1,I1,w1⟩;refine y23 Z (thn (hc pins s1 z H1 _ I1 (turn n z H1 w1)) fun b s2 ⟨H2,I2,q2⟩=>?_);cases b with
 |true=>
  obtain⟨N,hN,q2⟩:=q2;rw[if_pos rfl];refine y23 Z (thn (hb pins s2 z H2 _ I2 q2) fun f s3 G=>?_);cases f with
  |next=>
   obtain⟨q,F,Y,M⟩:=G;obtain⟨O,hm,J⟩:=hN q F M;exact⟨O,hm,q,F,Y,J⟩
  |cont=>
   obtain⟨q,F,Y,M⟩:=G;obtain⟨O,hm,J⟩:=hN q F M;exact⟨O,hm,q,F,Y,J⟩
  |brk=>exact G
  |ret v=>exact G
 |false=>
  rw[if_neg yo];exact y3k ⟨z,H2,I2,q2⟩
structure It where
 go:Nat->Hp->Prop
 yld:Nat->Hp->V->Hp->Prop
 stop:Nat->Hp->Prop
end
def FpOk(X:Cx)(pins:List (Addr×Obj))(H:Hp)(b:Addr):Prop:=
 H b=none/\b≠X.env.locals/\b∉X.fs/\(b∈X.ex\/X.s₀.heap.objs.size<=b)/\(∀x c,X.env.cells.lookup x=some c->c≠b)/\∀p∈X.pn++pins,p.1≠b
theorem Inv.fpOk(I:Inv X pins σ H s)(hb:s.heap.objs.size<=b)(F:H' b=none):FpOk X pins H' b:=by
 refine⟨F,y19 (yw I.lt hb),I.nofs hb,.inr (y0d I.sz hb),fun x c e z=>?_,fun p B z=>?_⟩
 ·obtain⟨v,q⟩:=I.cell x c e;exact absurd (yw q.lt (by rw[z]; exact hb)) (y0t _)
 ·exact absurd (yw (yd (I.pin p B).1) (by rw[z]; exact hb)) (y0t _)
structure Turn(P:yl)(w:y07)(K:y3)(tg:Expr)(J:It)(fp:List Addr)(it:Addr)(tn:Nat->Heap->Prop):Prop where
 mem:it∈fp
 obj:∀i h,tn i h->∀b∈fp,∃o,h.get? b=some o/\∀v,o.data≠.cell v
 keep:∀i h h',tn i h->(∀b∈fp,∀o,h.get? b=some o->h'.get? b=some o)->tn i h'
 item:∀(X:Cx),X.prog=P->X.w=w->X.K=K->X.calm=true->∀(i:Nat) (pins:List (Addr×Obj)) (s:y9) (σ:St) (H:Hp) (E:ya->y9->Prop),Inv X pins σ H s->(∀b∈fp,FpOk X pins H b)->tn i s.heap->J.go i H->
  yy (y03 P w) X.A (pyNext (.ref it)) (fun r s1=>∃u,r=some u/\
   yy (y03 P w) X.A (letOwnedTupleGo tg (.ref it) u) (fun _ s2=>∃x H',Inv X pins σ H' s2/\RelV x u/\J.yld i H x H'/\tn (i+1) s2.heap/\∀b∈fp,H' b=none) E s1) E s
 done:∀(X:Cx),X.prog=P->X.w=w->X.K=K->X.calm=true->∀(i:Nat) (pins:List (Addr×Obj)) (s:y9) (σ:St) (H:Hp) (E:ya->y9->Prop),Inv X pins σ H s->(∀b∈fp,FpOk X pins H b)->tn i s.heap->J.stop i H->
  yy (y03 P w) X.A (pyNext (.ref it)) (fun r s1=>r=none/\Inv X pins σ H s1) E s
 self:∀(A:y0a) (i:Nat) (s:y9) (Q:ya->y9->Prop) (E:ya->y9->Prop),tn i s.heap->Q (.ref it) s->yy (y03 P w) A (pyIter (.ref it)) Q E s
abbrev TI:=St->Hp->(It->Hp->Prop)->Prop
def PIE(X:Cx)(pins:List (Addr×Obj))(σ:St)(tg:Expr)(R:It->Hp->Prop)(q:ya)(B:y9):Prop:=
 ∃(F:Addr) (G:List Addr) (z:Nat->Heap->Prop) (J:It) (H':Hp),q=.ref F/\Inv X pins σ H' B/\Turn X.prog X.w X.K tg J G F z/\z 0 B.heap/\(∀b∈G,FpOk X pins H' b)/\R J H'
abbrev PIv(X:Cx)(tg q:Expr)(z:TI):Prop:=
 ∀(pins:List (Addr×Obj)) (s:y9) (σ:St) (H:Hp) (R:It->Hp->Prop),Inv X pins σ H s->z σ H R->
  yy (y03 X.prog X.w) X.A (eval q X.env) (fun v B=>yy (y03 X.prog X.w) X.A (pyIter v) (PIE X pins σ tg R) X.xe B) X.xe s
structure PI(X:Cx)(tg iter:Expr)(wi:TI):Prop where
 run:PIv X tg iter wi
instance{X:Cx}{tg iter:Expr}{wi:TI}:CoeFun (PI X tg iter wi) (fun _=>PIv X tg iter wi):=⟨PI.run⟩
theorem IZ{E:ya->y9->Prop}{Q:Unit->y9->Prop}(z:s.heap.get? it=some o)(hc:o.cls=.type n)(hd:o.data=.fields vs)
    (B:["enumerate","zip","dict_itemiterator","dict_reverseitemiterator","odict_iterator","itertools.zip_longest","itertools.pairwise"].contains n=false) (q:Q () s):yy M A (letOwnedTupleGo tg (.ref it) u) Q E s:=by
  unfold letOwnedTupleGo;cases tg<;>first
    |exact ye q
    |(cases u<;>first
        |exact ye q
        |(refine y8 (wpAny_load z ?_)
          rw[hc,hd]
          show yy M A (if(["enumerate","zip","dict_itemiterator","dict_reverseitemiterator","odict_iterator","itertools.zip_longest","itertools.pairwise"].contains n&&vs[0]? == some (rawInt _))=true then _ else _) Q E s
          rw[if_neg (by intro h; rw[B,y0o] at h; cases h)]
          exact ye q))
def Itl(K:y3)(a:Addr):It:=
 ⟨fun i H=>∃xs x,SqL K H a xs/\xs[i]?=some x,fun i H x H'=>H'=H/\∀xs,SqL K H a xs->xs[i]?=some x,fun i H=>∃xs,SqL K H a xs/\xs.length<=i⟩
def Itt(K:y3)(a:Addr):It:=
 ⟨fun i H=>∃xs x,SqT K H a xs/\xs[i]?=some x,fun i H x H'=>H'=H/\∀xs,SqT K H a xs->xs[i]?=some x,fun i H=>∃xs,SqT K H a xs/\xs.length<=i⟩
def Itr(lo:Int)(n:Nat):It:=⟨fun i _=>i<n,fun i H x H'=>H'=H/\x=.int (lo+i),fun i _=>n<=i⟩
theorem UN{P:yl}{w:y07}{K:y3}{tg:Expr}(a q:Addr):Turn P w K tg (Itl K a) [q] q (fun i h=>h.IsListIter q a i) where
 mem:=by simp
 obj:=fun i h st b hb=>by
  have e:b=q:=by simpa using hb
  subst e;obtain⟨o,e,c,d⟩:=st;exact⟨o,e,fun v z=>by rw[d] at z; cases z⟩
 keep:=fun i h h' st k=>st.at fun o e=>k q (by simp) o e;item:=by
  intro X J hw M hc i pins s σ H E I hf st hg;subst J hw M;obtain⟨xs,x,hq,hx⟩:=hg;obtain⟨G,F,p,hz⟩:=I.list hq;obtain⟨u,hu,ru⟩:=F.get hx;obtain⟨f0,f1,f2,Z,Y,O⟩:=hf q (by simp);refine wpAny_pyNext_list_item st p.isList (x:=u) (by simpa using hu) fun h' B sb=>?_;have I1:Inv X pins σ H {s with heap:=h'}:=I.turned (t':=s.toks) (fun b o hb e=>(sb.2 b hb).trans e) f0 f1 Z Y O;obtain⟨o,e,c,d⟩:=id B;exact⟨u,rfl,IZ (s:={s with heap:=h'}) e c d (by decide) ⟨x,H,I1,ru,⟨rfl,fun ys hy=>by rw[I.list_inj hy hq]; exact hx⟩,B,fun b hb=>(hf b hb).1⟩⟩
 done:=by
  intro X J hw M hc i pins s σ H E I hf st hg;subst J hw M;obtain⟨xs,hq,hx⟩:=hg;obtain⟨G,F,p,hz⟩:=I.list hq;obtain⟨f0,f1,f2,Z,Y,O⟩:=hf q (by simp);have hl:=F.length;exact wpAny_pyNext_list_end (I.ok.hd hc) st p.isList (by simp; lia) fun h' eb=>⟨rfl,I.turned (t':=s.toks) (fun b o hb e=>eb b o hb e) f0 f1 Z Y O⟩
 self:=fun _ _ _ _ _ st h=>wpAny_pyIter_listiter st h
theorem UO{P:yl}{w:y07}{K:y3}{tg:Expr}(a B:Addr):Turn P w K tg (Itt K a) [B] B (fun i h=>h.IsTupleIter B a i) where
 mem:=by simp
 obj:=fun i h st b hb=>by
  have e:b=B:=by simpa using hb
  subst e;obtain⟨o,e,c,d⟩:=st;exact⟨o,e,fun v z=>by rw[d] at z; cases z⟩
 keep:=fun i h h' st k=>st.at fun o e=>k B (by simp) o e;item:=by
  intro X J hw M hc i pins s σ H E I hf st hg;subst J hw M;obtain⟨xs,x,hq,hx⟩:=hg;obtain⟨q,G,p,hz⟩:=I.tuple hq;obtain⟨u,hu,ru⟩:=G.get hx;obtain⟨f0,f1,f2,Z,Y,O⟩:=hf B (by simp);refine wpAny_pyNext_tuple_item st (show s.heap.IsTuple a q.toArray from p) (x:=u) (by simpa using hu) fun h' F sb=>?_;have I1:Inv X pins σ H {s with heap:=h'}:=I.turned (t':=s.toks) (fun b o hb e=>(sb.2 b hb).trans e) f0 f1 Z Y O;obtain⟨o,e,c,d⟩:=id F;exact⟨u,rfl,IZ (s:={s with heap:=h'}) e c d (by decide) ⟨x,H,I1,ru,⟨rfl,fun ys hy=>by rw[I.tuple_inj hy hq]; exact hx⟩,F,fun b hb=>(hf b hb).1⟩⟩
 done:=by
  intro X J hw M hc i pins s σ H E I hf st hg;subst J hw M;obtain⟨xs,hq,hx⟩:=hg;obtain⟨q,G,p,hz⟩:=I.tuple hq;obtain⟨f0,f1,f2,Z,Y,O⟩:=hf B (by simp);have hl:=G.length;exact wpAny_pyNext_tuple_end (I.ok.hd hc) st (show s.heap.IsTuple a q.toArray from p) (by simp; lia) fun h' eb=>⟨rfl,I.turned (t':=s.toks) (fun b o hb e=>eb b o hb e) f0 f1 Z Y O⟩
 self:=fun _ _ _ _ _ st h=>wpAny_pyIter_tupleiter st h
theorem UP{P:yl}{w:y07}{K:y3}{tg:Expr}(q:Addr)(lo:Int)(n:Nat):Turn P w K tg (Itr lo n) [q] q (fun i h=>IsRangeIter h q (lo+(i:Nat)*1) ((n:Int)-(i:Nat)) 1) where
 mem:=by simp
 obj:=fun i h st b hb=>by
  have e:b=q:=by simpa using hb
  subst e;exact⟨_,st,fun v z=>by
   have z':Data.fields _=Data.cell v:=z
   cases z'⟩
 keep:=fun i h h' st k=>k q (by simp) _ st;item:=by
  intro X F hw G hc i pins s σ H E I hf st hg;subst F hw G;obtain⟨Z,Y,f2,O,M,J⟩:=hf q (by simp);have W:=Walks.range (prog:=X.prog) (w:=X.w) (I.ok.hd hc) q lo 1 n;refine W.item i s _ _ hg st fun v h' tk hv B kk=>?_;obtain⟨t,rfl⟩:=hv;have I1:Inv X pins σ H {s with heap:=h',toks:=tk}:=I.turned (fun b o hb e=>kk b o (by simpa using hb) e) Z Y O M J;refine⟨_,rfl,IZ (s:={s with heap:=h',toks:=tk}) (n:="range_iterator") B rfl rfl (by decide) ⟨.int (lo+i),H,I1,⟨t,?_⟩,⟨rfl,rfl⟩,B,fun b hb=>(hf b hb).1⟩⟩;rw[Int.mul_one]
 done:=by
  intro X F hw G hc i pins s σ H E I hf st hg;subst F hw G;obtain⟨Z,Y,f2,O,M,J⟩:=hf q (by simp);exact wpAny_pyNext_range_end (I.ok.hd hc) st (by have:n<=i:=hg; lia) fun h' eb=>⟨rfl,I.turned (t':=s.toks) (fun b o hb e=>eb b o hb e) Z Y O M J⟩
 self:=fun _ _ _ _ _ st h=>wpAny_pyIter_rangeiter st h
section
variable{X:Cx}{tg:Expr}
def Kt(K:y3)(tl:TE):TI:=fun σ H R=>tl σ H fun x H1=>isRf x fun a=>(∃xs,SqL K H1 a xs)/\R (Itl K a) H1
def Ku(K:y3)(tl:TE):TI:=fun σ H R=>tl σ H fun x H1=>isRf x fun a=>(∃xs,SqT K H1 a xs)/\R (Itt K a) H1
theorem EZ{l:Expr}{tl:TE}(M:PE X l tl):PI X tg l (Kt X.K tl):=by
 refine⟨?_⟩;intro pins s σ H R I h;refine thn (M pins s σ H _ I h) fun v z ⟨x,H1,B,F,G⟩=>?_;obtain⟨a,e,⟨xs,hq⟩,q⟩:=isRf.o G;subst e;cases F;obtain⟨J,O,p,Y⟩:=B.list hq;refine y3s p.isList ?_;refine⟨z.heap.objs.size,[z.heap.objs.size],_,_,H1,rfl,B.kept (t':=z.toks) fun b o e=>y6 _ e,UN a _,⟨_,yg _ rfl,rfl,rfl⟩,fun b hb=>?_,q⟩;have e:b=z.heap.objs.size:=by simpa using hb
 subst e;exact B.fpOk (yb _) (B.hok.fresh (yb _))
theorem Db(M:PE X l tl):PI X tg l (Ku X.K tl):=by
 refine⟨?_⟩;intro pins s σ H R I h;refine thn (M pins s σ H _ I h) fun v z ⟨x,H1,B,G,J⟩=>?_;obtain⟨a,e,⟨xs,hq⟩,q⟩:=isRf.o J;subst e;cases G;obtain⟨F,O,p,Y⟩:=B.tuple hq;refine y1l (show z.heap.IsTuple a F.toArray from p) ?_;refine⟨z.heap.objs.size,[z.heap.objs.size],_,_,H1,rfl,B.kept (t':=z.toks) fun b o e=>y6 _ e,UO a _,⟨_,yg _ rfl,rfl,rfl⟩,fun b hb=>?_,q⟩;have e:b=z.heap.objs.size:=by simpa using hb
 subst e;exact B.fpOk (yb _) (B.hok.fresh (yb _))
theorem Nr{pins:List (Addr×Obj)}{σ:St}{H:Hp}{s:y9}{R:It->Hp->Prop}{E:ya->y9->Prop}{lo hi:Int}{t u v:Tok}{tk:Nat}(I:Inv X pins σ H s)(h1 : -(2^62)<=lo)(h2:lo<2^62)(F : -(2^62)<=hi)(B:hi<2^62)
  (q:R (Itr lo (hi-lo).toNat) H):yy (y03 X.prog X.w) X.A (pyIter (.ref s.heap.objs.size)) (PIE X pins σ tg R) E {s with heap:=s.heap.push {cls:=.type "range",data:=.fields #[.int lo t,.int hi u,.int 1 v]},toks:=tk}:=by
 refine wpAny_pyIter_range (IsRange.new ..) (small_one h1 h2 F B) ?_;have z:Inv X pins σ H {s with heap:=s.heap.push {cls:=.type "range",data:=.fields #[.int lo t,.int hi u,.int 1 v]},toks:=tk}:=I.kept fun b o e=>y6 _ e;refine⟨(s.heap.push {cls:=.type "range",data:=.fields #[.int lo t,.int hi u,.int 1 v]}).objs.size,[(s.heap.push {cls:=.type "range",data:=.fields #[.int lo t,.int hi u,.int 1 v]}).objs.size],_,_,H,rfl,
  z.kept (t':=tk) fun b o e=>y6 _ e,UP _ lo (hi-lo).toNat,?_,fun b hb=>?_,q⟩
 ·have J:lo+((0:Nat):Int)*1=lo:=by simp
  have G:(((hi-lo).toNat:Nat):Int)-((0:Nat):Int)=Builtin.Range.rangeSize lo hi 1:=by rw[rangeSize_one]; split<;>lia
  show IsRangeIter _ _ (lo+((0:Nat):Int)*1) ((((hi-lo).toNat:Nat):Int)-((0:Nat):Int)) 1;rw[J,G];exact yg _ rfl
 ·have e:b=(s.heap.push {cls:=.type "range",data:=.fields #[.int lo t,.int hi u,.int 1 v]}).objs.size:=by simpa using hb
  subst e;exact z.fpOk (yb _) (z.hok.fresh (yb _))
def Nt(ta:TA):TI:=fun σ H R=>ta σ H fun vs H1=>∃j:Int,vs=[.int j]/\-(2^62)<=j/\j<2^62/\R (Itr 0 j.toNat) H1
def Kv(ta:TA):TI:=fun σ H R=>ta σ H fun vs H1=>∃i j:Int,vs=[.int i,.int j]/\(-(2^62)<=i/\i<2^62/\-(2^62)<=j/\j<2^62)/\R (Itr i (j-i).toNat) H1
theorem UQ{a:Expr}{ta:TA}{p pos:Pos} (hg:Gl X "range") (hm:X.mg "range" = none) (ha:PA X [a] ta) (G:starEach [a] X.env=[(false,eval a X.env)]:=by rfl):PI X tg (.Call (.Name "range" p) [a] [] pos) (Nt ta):=by
 refine⟨?_⟩;intro pins s σ H R I h;refine Call_ (EO I hg hm boot_range (y1c (thn (ha pos pins s σ H _ I h) fun us M ⟨vs,H1,J,F,z⟩=>?_) G rfl));obtain⟨j,e,z,q2,q⟩:=z;subst e;cases F with
 |cons r B=>
  cases B;obtain⟨t,rfl⟩:=r;exact call_range_1 (Nr J (by lia) (by lia) z q2 (by simpa using q))
theorem UR(hg:Gl X "range") (hm:X.mg "range" = none) (ha:PA X [a,b] ta) (Y:starEach [a,b] X.env=[(false,eval a X.env),(false,eval b X.env)]:=by rfl) (z:starEach [b] X.env=[(false,eval b X.env)]:=by rfl) :
  PI X tg (.Call (.Name "range" p) [a,b] [] pos) (Kv ta):=by
 refine⟨?_⟩;intro pins s σ H R I h;refine Call_ (EO I hg hm boot_range (y1c (thn (ha pos pins s σ H _ I h) fun us s1 ⟨vs,H1,Z,G,F⟩=>?_) (by rw[Y,z]) (by rw[z]; rfl)));obtain⟨i,j,e,⟨F,q2,O,M⟩,q⟩:=F;subst e;cases G with
 |cons r B=>
  cases B with
  |cons J B=>
   cases B;obtain⟨t,rfl⟩:=r;obtain⟨t',rfl⟩:=J;exact call_range_2 (Nr Z F q2 O M q)
def CJ(F:TI)(g:TG)(tb:TS):TS:=fun D σ H=>F σ H fun J H1=>∃W:Nat->Nat->St->Hp->Prop,(∃m,W 0 m σ H1)/\∀i m σ H,W i m σ H->
 (J.stop i H/\D.nx σ H)\/(J.go i H/\∃N:St->Hp->Prop,(∀ q H',N q H'->∃B,B<m/\W (i+1) B q H')/\∀x H',J.yld i H x H'->g x σ H' fun z H2=>tb {D with nx:=N,ct:=N,bk:=D.nx} z H2)
def HY(q:List Addr)(h:Heap):List (Addr×Obj):=q.filterMap fun b=>(h.get? b).map fun o=>(b,o)
theorem Ia(hb:b∈fp)(e:h.get? b=some o):(b,o)∈HY fp h:=List.mem_filterMap.mpr ⟨b,hb,by rw[e]; rfl⟩
theorem US(z:p∈HY fp h):p.1∈fp/\h.get? p.1=some p.2:=by
 obtain⟨b,hb,e⟩:=List.mem_filterMap.mp z;cases q:h.get? b with
 |none=>rw[q] at e; cases e
 |some o=>
  rw[q] at e;have B:(b,o)=p:=yz e;subst B;exact⟨hb,q⟩
theorem Inv.pinned(I:Inv X pins σ H s)(hf:∀b∈fp,FpOk X pins H b)(F:∀b∈fp,∃o,s.heap.get? b=some o/\∀v,o.data≠.cell v):Inv X (pins++HY fp s.heap) σ H s:=
 I.pins_of fun p B=>(List.mem_append.mp B).elim (fun z=>I.pin p (y06 _ z)) fun z=>by
  obtain⟨hb,e⟩:=US z;obtain⟨M,J,G,_⟩:=hf p.1 hb;obtain⟨o,q,d⟩:=F p.1 hb;rw[e] at q; cases q;exact⟨e,M,J,G,d⟩
theorem Inv.unpinned(I:Inv X (pins++pl) σ H s):Inv X pins σ H s:=I.pins_of fun p q=>I.pin p (y06 _ (y2m _ q))
theorem C0(hp:PassesOwn (y03 X.prog X.w) X.A X.env X.xe)(hc:X.calm=true)(hi:PI X tg iter wi)(hg:PG X tg g)(hb:PSs X body tb)
  (hs:∀x,foldedSetIterable iter X.env x=pure x:=by intro _; rfl):PS X (.For tg iter body [] pos) (CJ wi g tb):=by
 refine⟨?_⟩;intro pins s σ H D I h;refine wpAny_For (thn (hi pins s σ H _ I h) fun v s1 h1=>thn h1 fun ln s2 h2=>?_) hs;obtain⟨it,fp,tn,J,H2,e,I2,T,st2,f2,W,⟨m0,w0⟩,turn⟩:=h2;subst e;have F:∀{H':Hp},(∀b∈fp,H' b=none)->∀b∈fp,FpOk X pins H' b:=fun hn b hb=>⟨hn b hb,(f2 b hb).2⟩;refine codeAny_forLoop_any (fun n s'=>∃i B H',Inv X pins B H' s'/\tn i s'.heap/\(∀b∈fp,H' b=none)/\W i n B H') ?_ m0 ⟨0,σ,H2,I2,st2,fun b hb=>(f2 b hb).1,w0⟩;rintro n s3 ⟨i,z,H3,I3,lc,lg,w3⟩;rcases turn i n z H3 w3 with⟨Z,qn⟩|⟨go,N,hN,step⟩
 ·refine y23 hp (thn (T.done X rfl rfl rfl hc i pins s3 z H3 X.xe I3 (F lg) lc Z) fun r s4 ⟨hr,I4⟩=>?_);subst hr;exact y3k ⟨z,H3,I4,qn⟩
 ·refine y23 hp (thn (T.item X rfl rfl rfl hc i pins s3 z H3 X.xe I3 (F lg) lc go) fun r s4 ⟨u,hr,h4⟩=>?_);subst hr;refine y23 hp (thn h4 fun _ s5 ⟨x,H5,I5,r5,y5,Y,lj⟩=>?_);have lm:=I5.pinned (F lj) (T.obj _ _ Y);refine y23 hp (thn (hg _ s5 z H5 x u _ lm r5 (step x H5 y5)) fun _ s6 ⟨lh,H6,I6,q6⟩=>?_);refine y23 hp (thn (hb _ s6 lh H6 _ I6 q6) fun f s7 O=>?_);have again:∀{q:St} {M:Hp},Inv X (pins++HY fp s5.heap) q M s7->N q M->∃m,m<n/\∃i B H',Inv X pins B H' s7/\tn i s7.heap/\(∀b∈fp,H' b=none)/\W i m B H':=fun {q M} G n7=>by
   obtain⟨m',hm,w7⟩:=hN q M n7;refine⟨m',hm,i+1,q,M,G.unpinned,T.keep _ _ _ Y fun b hb o e=>(G.pin (b,o) (y06 _ (y06 _ (Ia hb e)))).1,fun b hb=>?_,w7⟩;obtain⟨o,e,d⟩:=T.obj _ _ Y b hb;exact(G.pin (b,o) (y06 _ (y06 _ (Ia hb e)))).2.1
  cases f with
  |next=>obtain⟨q,M,G,n7⟩:=O; exact again G n7
  |cont=>obtain⟨q,M,G,n7⟩:=O; exact again G n7
  |brk=>obtain⟨q,M,G,O⟩:=O; exact⟨q,M,G.unpinned,O⟩
  |ret v=>obtain⟨x7,q,M,G,r7,O⟩:=O; exact⟨x7,q,M,G.unpinned,r7,O⟩
theorem Nu{K:y3}{a:Addr}{xs:List V}{g:TG}{tb:TS}{D:Ends}{σ:St}{H:Hp}(z:Nat->St->Hp->Prop)(Z:z 0 σ H)(Y:∀i σ H,i<=xs.length->z i σ H->SqL K H a xs)
  (O:∀i x σ H,xs[i]?=some x->z i σ H->g x σ H fun B H2=>tb {D with nx:=z (i+1),ct:=z (i+1),bk:=D.nx} B H2) (hd:∀ σ H,z xs.length σ H->D.nx σ H) :
  ∃W:Nat->Nat->St->Hp->Prop,(∃m,W 0 m σ H)/\∀i m σ H,W i m σ H->
   ((Itl K a).stop i H/\D.nx σ H)\/((Itl K a).go i H/\∃N:St->Hp->Prop,(∀ F H',N F H'->∃J,J<m/\W (i+1) J F H')/\∀x H',(Itl K a).yld i H x H'->g x σ H' fun B H2=>tb {D with nx:=N,ct:=N,bk:=D.nx} B H2):=by
 refine⟨fun i m σ H=>m=xs.length-i/\i<=xs.length/\z i σ H,⟨xs.length,by simp,y05 _,Z⟩,?_⟩
 rintro i m σ H ⟨rfl,hi,p⟩
 have q:=Y i σ H hi p
 by_cases G:i<xs.length
 ·refine .inr ⟨⟨xs,xs[i],q,by simp[G]⟩,z (i+1),fun F H' M=>⟨xs.length-(i+1),by lia,rfl,G,M⟩,fun x H' y=>?_⟩
  obtain⟨e,y⟩:=y
  subst e
  exact O i x σ _ (y xs q) p
 ·have e:i=xs.length:=by lia
  subst e
  exact .inl ⟨⟨xs,q,yb _⟩,hd σ H p⟩
theorem Kw{K:y3}{a:Addr}{xs:List V}{g:TG}{tb:TS}{D:Ends}{σ:St}{H:Hp}(z:Nat->St->Hp->Prop)(Z:z 0 σ H)(Y:∀i σ H,i<=xs.length->z i σ H->SqT K H a xs)
  (O:∀i x σ H,xs[i]?=some x->z i σ H->g x σ H fun B H2=>tb {D with nx:=z (i+1),ct:=z (i+1),bk:=D.nx} B H2) (hd:∀ σ H,z xs.length σ H->D.nx σ H) :
  ∃W:Nat->Nat->St->Hp->Prop,(∃m,W 0 m σ H)/\∀i m σ H,W i m σ H->
   ((Itt K a).stop i H/\D.nx σ H)\/((Itt K a).go i H/\∃N:St->Hp->Prop,(∀ F H',N F H'->∃J,J<m/\W (i+1) J F H')/\∀x H',(Itt K a).yld i H x H'->g x σ H' fun B H2=>tb {D with nx:=N,ct:=N,bk:=D.nx} B H2):=by
 refine⟨fun i m σ H=>m=xs.length-i/\i<=xs.length/\z i σ H,⟨xs.length,by simp,y05 _,Z⟩,?_⟩
 rintro i m σ H ⟨rfl,hi,p⟩
 have q:=Y i σ H hi p
 by_cases G:i<xs.length
 ·refine .inr ⟨⟨xs,xs[i],q,by simp[G]⟩,z (i+1),fun F H' M=>⟨xs.length-(i+1),by lia,rfl,G,M⟩,fun x H' y=>?_⟩
  obtain⟨e,y⟩:=y
  subst e
  exact O i x σ _ (y xs q) p
 ·have e:i=xs.length:=by lia
  subst e
  exact .inl ⟨⟨xs,q,yb _⟩,hd σ H p⟩
theorem UT{lo:Int}{n:Nat}{g:TG}{tb:TS}{D:Ends}{σ:St}{H:Hp}(F:Nat->St->Hp->Prop)(O:F 0 σ H)
  (M:∀i σ H,i<n->F i σ H->g (.int (lo+i)) σ H fun q H2=>tb {D with nx:=F (i+1),ct:=F (i+1),bk:=D.nx} q H2) (hd:∀ σ H,F n σ H->D.nx σ H) :
  ∃W:Nat->Nat->St->Hp->Prop,(∃m,W 0 m σ H)/\∀i m σ H,W i m σ H->
   ((Itr lo n).stop i H/\D.nx σ H)\/((Itr lo n).go i H/\∃N:St->Hp->Prop,(∀ z H',N z H'->∃G,G<m/\W (i+1) G z H')/\∀x H',(Itr lo n).yld i H x H'->g x σ H' fun q H2=>tb {D with nx:=N,ct:=N,bk:=D.nx} q H2):=by
 refine⟨fun i m σ H=>m=n-i/\i<=n/\F i σ H,⟨n,by simp,y05 _,O⟩,?_⟩
 rintro i m σ H ⟨rfl,hi,p⟩
 by_cases B:i<n
 ·refine .inr ⟨B,F (i+1),fun z H' J=>⟨n-(i+1),by lia,rfl,B,J⟩,fun x H' y=>?_⟩
  obtain⟨e,y⟩:=y
  subst e y
  exact M i σ _ B p
 ·have e:i=n:=by lia
  subst e
  exact .inl ⟨yb _,hd σ H p⟩
abbrev R2:=V->V->Hp->VK->Prop
end
def OpR(X:Cx)(f:ya->ya->Sem ya)(r:R2):Prop:=
 ∀(pins:List (Addr×Obj)) (s:y9) (σ:St) (H:Hp) (x y:V) (v u:ya) (Q:VK),Inv X pins σ H s->RelV x v->RelV y u->r x y H Q->
  yy (y03 X.prog X.w) X.A (f v u) (EP X pins σ Q) X.xe s
def UnR(X:Cx)(f:ya->Sem ya)(r:V->Hp->VK->Prop):Prop:=
 ∀(pins:List (Addr×Obj)) (s:y9) (σ:St) (H:Hp) (x:V) (v:ya) (Q:VK),Inv X pins σ H s->RelV x v->r x H Q->
  yy (y03 X.prog X.w) X.A (f v) (EP X pins σ Q) X.xe s
def B3(X:Cx)(f:ya)(r:List V->Hp->VK->Prop):Prop:=
 ∀(pins:List (Addr×Obj)) (s:y9) (σ:St) (H:Hp) (xs:List V) (us:List ya) (Q:VK),Inv X pins σ H s->Vals xs us->r xs H Q->
  yy (y03 X.prog X.w) X.A (call f us) (EP X pins σ Q) X.xe s
def tOp(r:R2)(ta tb:TE):TE:=fun σ H Q=>ta σ H fun x H1=>tb σ H1 fun y H2=>r x y H2 Q
def tUn(r:V->Hp->VK->Prop)(ta:TE):TE:=fun σ H Q=>ta σ H fun x H1=>r x H1 Q
def rI(C:Int->Int->Prop)(g:Int->Int->V):R2:=fun x y H Q=>isI x fun i=>isI y fun j=>C i j/\Q (g i j) H
def rI0(g:Int->Int->V):R2:=fun x y H Q=>isI x fun i=>isI y fun j=>Q (g i j) H
def rU(g:Int->V):V->Hp->VK->Prop:=fun x H Q=>isI x fun i=>Q (g i) H
section
variable{X:Cx}{a b c:Expr}{ta tb tc:TE}{pos:Pos}
theorem Kx(ha:PE X a ta)(hb:PE X b tb){R:V->V->Hp->Prop}(I:Inv X pins σ H s)
  (h:ta σ H fun x H1=>tb σ H1 fun y H2=>R x y H2) {Q:ya->y9->Prop} {f:ya->ya->Sem ya}
  (hf:∀v u B x y H2,Inv X pins σ H2 B->RelV x v->RelV y u->R x y H2->yy (y03 X.prog X.w) X.A (f v u) Q X.xe B) :
  yy (y03 X.prog X.w) X.A (eval a X.env) (fun v z=>yy (y03 X.prog X.w) X.A (eval b X.env) (fun u q=>yy (y03 X.prog X.w) X.A (f v u) Q X.xe q) X.xe z) X.xe s:=by
 refine thn (ha pins s σ H _ I h) fun v F ⟨x,H1,Y,J,M⟩=>?_;refine thn (hb pins F σ H1 _ Y M) fun u B ⟨y,H2,O,G,q2⟩=>?_;exact hf v u B x y H2 O J G q2
theorem AT(G:OpR X (binaryOp op) r)(ha:PE X a ta)(hb:PE X b tb):PE X (.BinOp a op b pos) (tOp r ta tb):=by
 refine⟨?_⟩;intro pins s σ H Q I h;exact wpAny_BinOp (Kx ha hb I h fun v u z x y H2 J F B q=>G pins z σ H2 x y v u Q J F B q)
theorem Nv{r:V->Hp->VK->Prop}(F:UnR X (unaryOp op) r)(ha:PE X a ta):PE X (.UnaryOp op a pos) (tUn r ta):=by
 refine⟨?_⟩;intro pins s σ H Q I h;exact UnaryOp_ (thn (ha pins s σ H _ I h) fun v q ⟨x,H1,G,z,B⟩=>F pins q σ H1 x v Q G z B)
theorem opI{f:ya->ya->Sem ya}{C:Int->Int->Prop}{g:Int->Int->Int}
  (rule:∀(i j:Int) (t u:Tok) (s:y9) (Q:ya->y9->Prop) (E:ya->y9->Prop),C i j->Q (.int (g i j) s.toks) {s with toks:=s.toks+1}->yy (y03 X.prog X.w) X.A (f (.int i t) (.int j u)) Q E s) :
  OpR X f (rI C fun i j=>.int (g i j)):=by
 intro pins s σ H x y v u Q I B z h;obtain⟨i,rfl,F⟩:=isI.o h;obtain⟨j,rfl,hc,q⟩:=isI.o F;obtain⟨t,rfl⟩:=B;obtain⟨t',rfl⟩:=z;exact rule i j t t' s _ _ hc ⟨.int (g i j),H,I.tok _,⟨_,rfl⟩,q⟩
theorem Nw{f:ya->ya->Sem ya}{g:Int->Int->Int}
  (rule:∀(i j:Int) (t u:Tok) (s:y9) (Q:ya->y9->Prop) (E:ya->y9->Prop),Q (.int (g i j) s.toks) {s with toks:=s.toks+1}->yy (y03 X.prog X.w) X.A (f (.int i t) (.int j u)) Q E s) :
  OpR X f (rI0 fun i j=>.int (g i j)):=by
 intro pins s σ H x y v u Q I B z h;obtain⟨i,rfl,F⟩:=isI.o h;obtain⟨j,rfl,q⟩:=isI.o F;obtain⟨t,rfl⟩:=B;obtain⟨t',rfl⟩:=z;exact rule i j t t' s _ _ ⟨.int (g i j),H,I.tok _,⟨_,rfl⟩,q⟩
theorem Ib{f:ya->ya->Sem ya}{g:Int->Int->Bool}
  (rule:∀(i j:Int) (t u:Tok) (s:y9) (Q:ya->y9->Prop) (E:ya->y9->Prop),Q (.bool (g i j)) s->yy (y03 X.prog X.w) X.A (f (.int i t) (.int j u)) Q E s) :
  OpR X f (rI0 fun i j=>.bl (g i j)):=by
 intro pins s σ H x y v u Q I B z h;obtain⟨i,rfl,F⟩:=isI.o h;obtain⟨j,rfl,q⟩:=isI.o F;obtain⟨t,rfl⟩:=B;obtain⟨t',rfl⟩:=z;exact rule i j t t' s _ _ ⟨.bl (g i j),H,I,rfl,q⟩
def UU(i j:Int):Prop:=0<j/\j<1073741824
def UV(i j:Int):Prop:=j≠0/\j.natAbs<1073741824
def CMul(i j:Int):Prop:=(-(2^64)<i/\i<2^64)\/(-(2^64)<j/\j<2^64)
theorem CMul.ok(h:CMul i j):IntMulOk i j:=by
 rcases h with⟨h1,h2⟩|⟨h1,h2⟩
 ·exact .of_left (intBits_le_64 h1 h2)
 ·exact .of_right (intBits_le_64 h1 h2)
theorem Cd:OpR X (binaryOp .Add) (rI0 fun i j=>.int (i+j)):=Nw fun _ _ _ _ _ _ _ q=>add_int q
theorem Fn:OpR X (binaryOp .Sub) (rI0 fun i j=>.int (i-j)):=Nw fun _ _ _ _ _ _ _ q=>sub_int q
theorem HZ:OpR X (binaryOp .Mult) (rI CMul fun i j=>.int (i*j)):=opI fun _ _ _ _ _ _ _ hc q=>mul_int q hc.ok
theorem UW:OpR X (binaryOp .FloorDiv) (rI UU fun i j=>.int (i / j)):=opI fun i j _ _ _ _ _ hc q=>by
 have h1:(0:Int)<j:=hc.1;have h2:j<1073741824:=hc.2;exact floordiv_int (by lia) (by rw[Int.fdiv_eq_ediv_of_nonneg i (by lia)]; exact q) (.inl (PyProof.noPylong_small (by lia)))
theorem UX:OpR X (binaryOp .FloorDiv) (rI UV fun i j=>.int (i.fdiv j)):=opI fun _ _ _ _ _ _ _ hc q=>floordiv_int hc.1 q (.inl (PyProof.noPylong_small hc.2))
theorem Ic:OpR X (binaryOp .Mod) (rI (fun _ j=>0<j) fun i j=>.int (i % j)):=opI fun i j _ _ _ _ _ hc q=>by
 have h1:(0:Int)<j:=hc;exact mod_int' (by lia) (by rw[Int.fmod_eq_emod_of_nonneg i (by lia)]; exact q)
theorem unI{f:ya->Sem ya}{g:Int->Int}
  (rule:∀(i:Int) (t:Tok) (s:y9) (Q:ya->y9->Prop) (E:ya->y9->Prop),Q (.int (g i) s.toks) {s with toks:=s.toks+1}->yy (y03 X.prog X.w) X.A (f (.int i t)) Q E s) :
  UnR X f (rU fun i=>.int (g i)):=by
 intro pins s σ H x v Q I z h;obtain⟨i,rfl,q⟩:=isI.o h;obtain⟨t,rfl⟩:=z;exact rule i t s _ _ ⟨.int (g i),H,I.tok _,⟨_,rfl⟩,q⟩
theorem Ny:UnR X (unaryOp .USub) (rU fun i=>.int (-i)):=unI fun _ _ _ _ _ q=>neg_int q
def Id:V->V->Bool
 |.non,.non=>true|.non,.int _=>true|.int _,.non=>true|.non,.bl _=>true|.bl _,.non=>true|.non,.str _=>true|.str _,.non=>true
 |.int _,.int _=>true|.bl _,.bl _=>true|.str _,.str _=>true|.byt _,.byt _=>true
 |.int _,.str _=>true|.str _,.int _=>true|.bl _,.str _=>true|.str _,.bl _=>true
 |_,_=>false
def rEq:R2:=fun x y H Q=>Id x y=true/\Q (.bl (decide (x=y))) H
def rNe:R2:=fun x y H Q=>Id x y=true/\Q (.bl (!decide (x=y))) H
theorem Nz:decide (V.int i=V.int j)=(i==j):=by
 rw[y2a];simp
theorem O0:decide (V.bl i=V.bl j)=(i==j):=by
 rw[y2a];simp
theorem O1:decide (V.str i=V.str j)=(i==j):=by
 rw[y2a];simp
theorem O2:decide (V.byt i=V.byt j)=(i.toList==j.toList):=by
 rw[y2a];cases i;cases j;simp
theorem Ah(I:Inv X pins σ H s)(q:Q (.bl k) H)(e:k=k'):EP X pins σ Q (.bool k') s:=by
 subst e;exact⟨.bl k,H,I,rfl,q⟩
theorem O3:OpR X (y09 .Eq) rEq:=by
 intro pins s σ H x y v u Q I F z h;obtain⟨B,q⟩:=h;cases x with
 |non=>
  cases F;cases y with
  |non=>cases z; exact PySem.EqNone.eq_none_none (Ah I q (by simp))
  |bl j=>cases z; exact PySem.EqNone.eq_none_bool (Ah I q (by simp))
  |int j=>obtain⟨t',rfl⟩:=z; exact PySem.EqNone.eq_none_int (Ah I q (by simp))
  |str j=>obtain⟨t',rfl⟩:=z; exact PySem.EqNone.eq_none_str (Ah I q (by simp))
  |_=>exact absurd (show false=true from B) yo
 |bl i=>
  cases F;cases y with
  |non=>cases z; exact PySem.EqNone.eq_bool_none (Ah I q (by simp))
  |bl j=>cases z; exact eq_bool (Ah I q O0)
  |str j=>obtain⟨t',rfl⟩:=z; exact PySem.EqMixed.eq_bool_str (Ah I q (by simp))
  |_=>exact absurd (show false=true from B) yo
 |int i=>
  obtain⟨t,rfl⟩:=F;cases y with
  |non=>cases z; exact PySem.EqNone.eq_int_none (Ah I q (by simp))
  |int j=>obtain⟨t',rfl⟩:=z; exact eq_int (Ah I q Nz)
  |str j=>obtain⟨t',rfl⟩:=z; exact PySem.EqMixed.eq_int_str (Ah I q (by simp))
  |_=>exact absurd (show false=true from B) yo
 |str i=>
  obtain⟨t,rfl⟩:=F;cases y with
  |non=>cases z; exact PySem.EqNone.eq_str_none (Ah I q (by simp))
  |bl j=>cases z; exact PySem.EqMixed.eq_str_bool (Ah I q (by simp))
  |int j=>obtain⟨t',rfl⟩:=z; exact PySem.EqMixed.eq_str_int (Ah I q (by simp))
  |str j=>obtain⟨t',rfl⟩:=z; exact eq_str (Ah I q O1)
  |_=>exact absurd (show false=true from B) yo
 |byt i=>
  obtain⟨t,rfl⟩:=F;cases y with
  |byt j=>obtain⟨t',rfl⟩:=z; exact PySem.W.eq_bytes (Ah I q O2)
  |_=>exact absurd (show false=true from B) yo
 |_=>cases y<;>exact absurd (show false=true from B) yo
theorem O4:OpR X (y09 .NotEq) rNe:=by
 intro pins s σ H x y v u Q I F z h;obtain⟨B,q⟩:=h;cases x with
 |non=>
  cases F;cases y with
  |non=>cases z; exact PySem.EqNone.ne_none_none (Ah I q (by simp))
  |bl j=>cases z; exact PySem.EqNone.ne_none_bool (Ah I q (by simp))
  |int j=>obtain⟨t',rfl⟩:=z; exact PySem.EqNone.ne_none_int (Ah I q (by simp))
  |str j=>obtain⟨t',rfl⟩:=z; exact PySem.EqNone.ne_none_str (Ah I q (by simp))
  |_=>exact absurd (show false=true from B) yo
 |bl i=>
  cases F;cases y with
  |non=>cases z; exact PySem.EqNone.ne_bool_none (Ah I q (by simp))
  |bl j=>cases z; exact ne_bool (Ah I q (congrArg not O0))
  |str j=>obtain⟨t',rfl⟩:=z; exact PySem.EqMixed.ne_bool_str (Ah I q (by simp))
  |_=>exact absurd (show false=true from B) yo
 |int i=>
  obtain⟨t,rfl⟩:=F;cases y with
  |non=>cases z; exact PySem.EqNone.ne_int_none (Ah I q (by simp))
  |int j=>obtain⟨t',rfl⟩:=z; exact ne_int (Ah I q (congrArg not Nz))
  |str j=>obtain⟨t',rfl⟩:=z; exact PySem.EqMixed.ne_int_str (Ah I q (by simp))
  |_=>exact absurd (show false=true from B) yo
 |str i=>
  obtain⟨t,rfl⟩:=F;cases y with
  |non=>cases z; exact PySem.EqNone.ne_str_none (Ah I q (by simp))
  |bl j=>cases z; exact PySem.EqMixed.ne_str_bool (Ah I q (by simp))
  |int j=>obtain⟨t',rfl⟩:=z; exact PySem.EqMixed.ne_str_int (Ah I q (by simp))
  |str j=>obtain⟨t',rfl⟩:=z; exact ne_str (Ah I q (congrArg not O1))
  |_=>exact absurd (show false=true from B) yo
 |byt i=>
  obtain⟨t,rfl⟩:=F;cases y with
  |byt j=>obtain⟨t',rfl⟩:=z; exact PySem.W.ne_bytes (Ah I q (congrArg not O2))
  |_=>exact absurd (show false=true from B) yo
 |_=>cases y<;>exact absurd (show false=true from B) yo
theorem Ha:OpR X (y09 .Lt) (rI0 fun i j=>.bl (decide (i<j))):=Ib fun _ _ _ _ _ _ _ q=>lt_int q
theorem Ie:OpR X (y09 .LtE) (rI0 fun i j=>.bl (decide (i<=j))):=Ib fun _ _ _ _ _ _ _ q=>le_int q
theorem Ky:OpR X (y09 .Gt) (rI0 fun i j=>.bl (decide (j<i))):=Ib fun _ _ _ _ _ _ _ q=>gt_int q
theorem O5:OpR X (y09 .GtE) (rI0 fun i j=>.bl (decide (j<=i))):=Ib fun _ _ _ _ _ _ _ q=>ge_int q
theorem UY:OpR X (y09 .Lt) (fun x y H Q=>∃i j,x=.str i/\y=.str j/\Q (.bl (decide (i.cps.toList<j.cps.toList))) H):=by
 intro pins s σ H x y v u Q I B z h;obtain⟨i,j,rfl,rfl,q⟩:=h;obtain⟨t,rfl⟩:=B;obtain⟨t',rfl⟩:=z;exact lt_str (Ah I q rfl)
theorem UZ:OpR X (y09 .Is) (fun x y H Q=>y=.non/\Q (.bl (decide (x=.non))) H):=by
 intro pins s σ H x y v u Q I z B h;obtain⟨rfl,q⟩:=h;cases B;refine is_none_gen (Ah I q ?_);cases x<;>first
  |(cases z; rfl)
  |(obtain⟨t,rfl⟩:=z; rfl)
theorem Ua:OpR X (y09 .IsNot) (fun x y H Q=>y=.non/\Q (.bl (!decide (x=.non))) H):=by
 intro pins s σ H x y v u Q I z B h;obtain⟨rfl,q⟩:=h;cases B;refine isnot_none_gen (Ah I q ?_);cases x<;>first
  |(cases z; rfl)
  |(obtain⟨t,rfl⟩:=z; rfl)
theorem OpR.or{f:ya->ya->Sem ya}(h:OpR X f r)(h':OpR X f r'):OpR X f (fun x y H Q=>r x y H Q\/r' x y H Q):=by
 intro pins s σ H x y v u Q I B z q;rcases q with q|q
 ·exact h pins s σ H x y v u Q I B z q
 ·exact h' pins s σ H x y v u Q I B z q
theorem AF(b:Expr)(h:op≠.In:=by decide)(h2:op≠.NotIn:=by decide):behindInMarks op b=false:=by
 have z:(op==CmpOp.In)=false:=by cases op<;>first|rfl|exact absurd rfl h
 have q:(op==CmpOp.NotIn)=false:=by cases op<;>first|rfl|exact absurd rfl h2
 cases b<;>simp[behindInMarks,z,q]
theorem Dc(G:OpR X (y09 op) r)(ha:PE X a ta)(hb:PE X b tb)(hm:behindInMarks op b=false):PE X (.Compare a [op] [b] pos) (tOp r ta tb):=by
 refine⟨?_⟩;intro pins s σ H Q I h;exact wpAny_Compare1 (Kx ha hb I h fun v u z x y H2 J F B q=>G pins z σ H2 x y v u Q J F B q) hm
def Dd(t:TE):TT:=fun σ H Q=>t σ H fun x H'=>isBl x fun k=>Q k H'
theorem AH(Y:OpR X (y09 op) r)(ha:PE X a ta)(hb:PE X b tb)(hm:behindInMarks op b=false):PT X (.Compare a [op] [b] pos) (Dd (tOp r ta tb)):=by
 refine⟨?_⟩;intro pins s σ H Q I h;refine wpAny_isTrue_Compare1 (thn (ha pins s σ H _ I h) fun v F ⟨x,H1,I1,M,O⟩=>thn (hb pins F σ H1 _ I1 O) fun u B ⟨y,H2,I2,J,q2⟩=>
  thn (Y pins B σ H2 x y v u _ I2 M J q2) fun c s3 ⟨z,H3,Z,G,q⟩=>?_) hm
 obtain⟨k,e,q⟩:=isBl.o q;subst e;cases G;exact y17 ⟨H3,Z,q⟩
def Ea(r F:R2)(ta tb tc:TE):TE:=fun σ H Q=>ta σ H fun x H1=>tb σ H1 fun y H2=>r x y H2 fun z q=>∃k,z=.bl k/\
 (if k=true then tc σ q fun B G=>F y B G Q else Q (.bl false) q)
theorem Ub(ho:OpR X (y09 op) r)(F:OpR X (y09 op') r')(ha:PE X a ta)(hb:PE X b tb)(hc:PE X c tc)
  (hm:lastMarks [op,op'] [b,c]=false:=by with_unfolding_all rfl):PT X (.Compare a [op,op'] [b,c] pos) (Dd (Ea r r' ta tb tc)):=by
 refine⟨?_⟩;intro pins s σ H Q I h;refine isTrue_chain (thn (ha pins s σ H _ I h) fun v s1 ⟨x,H1,I1,r1,q1⟩=>test_link (thn (hb pins s1 σ H1 _ I1 q1) fun u s2 ⟨y,H2,I2,J,q2⟩=>
  thn (ho pins s2 σ H2 x y v u _ I2 r1 J q2) fun d s3 ⟨z,G,M,r3,k,e,q⟩=>?_)) hm
 subst e;cases r3;refine y17 ?_;cases k with
 |false=>
  have q:isBl (V.bl false) (fun k=>Q k G):=q;obtain⟨k',e',q'⟩:=isBl.o q;cases e';exact ite_ff ⟨G,M,q'⟩
 |true=>
  refine ite_tt (test_last (thn (hc pins s3 σ G _ M q) fun Y Z ⟨O,H4,I4,r4,q4⟩=>thn (F pins Z σ H4 y O u Y _ I4 J r4 q4) fun d' s5 ⟨z2,H5,I5,r5,B⟩=>?_));obtain⟨k2,e2,B⟩:=isBl.o B;subst e2;cases r5;exact y17 ⟨H5,I5,B⟩
theorem Ig:(yn:Nat)<2^63:=by rw[sizeLine_eq]; decide
theorem Kz(r:Vals [x] us):∃u,us=[u]/\RelV x u:=by
 cases r with
 |cons z q=>cases q; exact⟨_,rfl,z⟩
theorem O6(r:Vals [x,y] us):∃u q,us=[u,q]/\RelV x u/\RelV y q:=by
 cases r with
 |cons G F=>
  cases F with
  |cons B z=>cases z; exact⟨_,_,rfl,G,B⟩
theorem De(hc:X.calm=true):B3 X (.builtin "max") (fun xs H Q=>∃i j,xs=[.int i,.int j]/\Q (.int (if j>i then j else i)) H):=by
 intro pins s σ H xs us Q I r h;obtain⟨i,j,rfl,q⟩:=h;obtain⟨u,B,rfl,⟨t,rfl⟩,⟨t',rfl⟩⟩:=O6 r;refine max_two_ints (I.ok.hd hc) fun h' tk k=>⟨_,H,I.kept k,?_,q⟩;by_cases z:j>i
 ·rw[if_pos z,if_pos z]; exact⟨_,rfl⟩
 ·rw[if_neg z,if_neg z]; exact⟨_,rfl⟩
theorem Hb(hc:X.calm=true):B3 X (.builtin "min") (fun xs H Q=>∃i j,xs=[.int i,.int j]/\Q (.int (if j<i then j else i)) H):=by
 intro pins s σ H xs us Q I r h;obtain⟨i,j,rfl,q⟩:=h;obtain⟨u,B,rfl,⟨t,rfl⟩,⟨t',rfl⟩⟩:=O6 r;refine min_two_ints (I.ok.hd hc) fun h' tk k=>⟨_,H,I.kept k,?_,q⟩;by_cases z:j<i
 ·rw[if_pos z,if_pos z]; exact⟨_,rfl⟩
 ·rw[if_neg z,if_neg z]; exact⟨_,rfl⟩
structure ObjM(h:Heap)(x dx C:Addr)(mA:Str->Option ya):Prop where
 obj:h.get? x=some (PySem.W.instObj C dx)
 ns:h.Ns1 dx mA
 ne:dx≠x
end
theorem Uc{h:Heap}{dx:Addr}{mA:Str->Option ya}(n:h.Ns1 dx mA):∃F,h.get? dx=some F/\∀name,PySem.W.lookIn name F=some (mA name):=by
 obtain⟨o,es,ep,G,hd,hk,_,hm⟩:=n;refine⟨o,G,fun name=>?_⟩;have e:=hm name;unfold nsFind findBy at e;rw[<- Array.find?_toList] at e;unfold PySem.W.lookIn;rw[hd];dsimp only;split
 ·rename_i y q;rw[q] at e;exact congrArg some e
 ·rename_i q;rw[q] at e;have a:es.toList.any (·.refKey)=false:=by
   rw[List.any_eq_false];intro y hy;obtain⟨z,t,B⟩:=hk y (Array.mem_toList_iff.mp hy);simp[DictEntry.refKey,B]
  have J:¬ es.toList.any (·.refKey)=true:=by rw[a]; exact yo
  rw[if_neg J];exact congrArg some e
theorem ObjM.look{mA:Str->Option ya}(I:ObjM h x dx C mA):∃q,PySem.W.InstAt h x (PySem.W.instObj C dx) C (some q)/\∀name,PySem.W.lookIn name q=some (mA name):=
 let ⟨q,ho,hl⟩:=Uc I.ns
 ⟨q,⟨I.obj,rfl,rfl,ho⟩,hl⟩
section
variable{prog:yl}{w:y07}{A:y0a}{E:ya->y9->Prop}{s:y9}{K:y3}{x dx C f:Addr}{mA:Str->Option ya}{name:Str}{v:ya}
theorem Ud{Q:ya->y9->Prop}(X:K.In s.heap)(I:ObjM s.heap x dx C mA)(hg:PySem.W.plainGet K C name=true)(B:PySem.W.hasDictIn K C=true)
  (ha:PySem.W.findIn K (.ref C) name=some none) (hv:mA name=some v) (q:PySem.W.handedIn v=true) (h:Q v {s with toks:=s.toks+1}) :
  yy (y03 prog w) A (getAttr (.ref x) name expr) Q E s:=by
 obtain⟨F,J,z⟩:=I.look;exact PySem.W.get_value X J (PySem.W.plainGet_of hg).1 (PySem.W.findObj_own B ha rfl (by rw[z,hv])) q h
theorem Ue{Q:Unit->y9->Prop}(X:K.In s.heap)(I:ObjM s.heap x dx C mA)
  (Y:PySem.W.findIn K (.ref C) "__setattr__" = some (some (.builtin "object.__setattr__"))) (Z:PySem.W.plainOver K C=true) (O:PySem.W.takerIn K C name=some none) (hh:PySem.W.hasDictIn K C=true)
  (hw:PySem.Within mA ns) (hsz:ns.length<=yn)
  (h:∀h',ObjM h' x dx C (fun y=>if y=name then some v else mA y)->Heap.SameBut dx s.heap h'->Q () {s with heap:=h',toks:=s.toks+2}) :
  yy (y03 prog w) A (setAttr (.ref x) name v) Q E s:=by
 obtain⟨od,J,hl⟩:=I.look;refine PySem.W.set_plain X J Y (PySem.W.osa_open (s:={s with toks:=s.toks+1}) (r:=none) X J Z O fun b=>?_);obtain⟨cd,hc,G⟩:=PySem.W.any_some hh;have hx:s.heap.get? x=some ⟨.ref C,some dx,.plain,#[]⟩:=I.obj;refine y8 (ye (y8 (y8 (wpAny_loadPart hx (y8 (PySem.W.Looks.here (s:={s with toks:=s.toks+1}) (PySem.W.looks_clsIn X hc) ?_))))));rw[G];refine ye (a:=some dx) (y8 (ye (y8 ?_)));refine wpAny_nsSet1 (s:={s with toks:=s.toks+1}) I.ns fun h' z q=>?_;obtain⟨oD,lc,lg,B,F,M⟩:=z.count (PySem.Within.cons name v hw);refine y8 (wpAny_lookBehind B (by rw[F]; exact pastItsLine_dict (y0d M (by rw[yh]; lia))) ?_);exact ye (h _ ⟨(q.2 _ (y0y I.ne)).trans I.obj,z,I.ne⟩ q)
theorem Uf{R:Result->y9->Prop}(X:K.In s.heap)(hm:PySem.W.makesIn K C=true)
  (hi:PySem.W.findIn K (.ref C) "__init__" = some (some (.ref f))) (hf:PySem.W.typeIn K (.ref f)=some (.type "function"))
  (h:codeAny (y03 prog w) (A.under (.builtin "type.__call__" ⟨.ref C::vs,kw⟩)) (.call (.ref f) ⟨.ref (s.heap.objs.size+1)::vs,kw⟩) (PySem.W.InitBack (s.heap.objs.size+1) R)
   {s with heap:=(s.heap.push PySem.W.emptyDict).push (PySem.W.instObj C s.heap.objs.size)}) :
  codeAny (y03 prog w) A (.call (.ref C) ⟨vs,kw⟩) R s:=by
 obtain⟨z,g,d,t,os⟩:=s;exact PySem.W.make_core (PySem.W.makes_of X hm) (PySem.W.looks_findIn X hi) (fun q=>PySem.W.bind_fn X q hf) (.inl rfl) h
end
def Ap(f:Str)(v:V):List (Str×V)->List (Str×V)
 |[]=>[(f,v)]
 |(g,x)::r=>if g=f then(g,v)::r else(g,x)::Ap f v r
theorem O7(f g:Str)(v:V):∀fs:List (Str×V),(Ap f v fs).lookup g=if g=f then some v else fs.lookup g
 |[]=>by
  show List.lookup g [(f,v)]=_;by_cases h:g=f
  ·have hb:(g==f)=true:=beq_iff_eq.mpr h;simp only[List.lookup,hb,if_pos h]
  ·have hb:(g==f)=false:=beq_eq_false_iff_ne.mpr h;simp only[List.lookup,hb,if_neg h]
 |(k,x)::r=>by
  have q:=O7 f g v r;rw[show Ap f v ((k,x)::r)=(if k=f then(k,v)::r else(k,x)::Ap f v r) from rfl];by_cases hk:k=f
  ·rw[if_pos hk];by_cases h:g=k
   ·have hb:(g==k)=true:=beq_iff_eq.mpr h;simp only[List.lookup,hb,if_pos (h.trans hk)]
   ·have hb:(g==k)=false:=beq_eq_false_iff_ne.mpr h;simp only[List.lookup,hb,if_neg (fun e:g=f=>h (e.trans hk.symm))]
  ·rw[if_neg hk];by_cases h:g=k
   ·have hb:(g==k)=true:=beq_iff_eq.mpr h;simp only[List.lookup,hb,if_neg (fun e:g=f=>hk (h.symm.trans e))]
   ·have hb:(g==k)=false:=beq_eq_false_iff_ne.mpr h;simp only[List.lookup,hb];exact q
theorem L1(f:Str)(v:V):∀fs:List (Str×V),f∈(Ap f v fs).map (·.1)/\∀g,g∈fs.map (·.1)->g∈(Ap f v fs).map (·.1)
 |[]=>⟨by simp[Ap],fun g h=>by simp at h⟩
 |(k,x)::r=>by
  obtain⟨z,q⟩:=L1 f v r;rw[show Ap f v ((k,x)::r)=(if k=f then(k,v)::r else(k,x)::Ap f v r) from rfl];by_cases hk:k=f
  ·rw[if_pos hk];subst hk;exact⟨by simp,fun g h=>by simpa using h⟩
  ·rw[if_neg hk];refine⟨?_,fun g h=>?_⟩
   ·rw[yc];exact yx _ z
   ·rw[yc] at h |-;rcases List.mem_cons.mp h with e|e
    ·exact List.mem_cons.mpr (.inl e)
    ·exact yx _ (q g e)
theorem O8(f:Str)(v:V):∀fs:List (Str×V),(Ap f v fs).length<=fs.length+1
 |[]=>by simp[Ap]
 |(k,x)::r=>by
  have q:=O8 f v r;rw[show Ap f v ((k,x)::r)=(if k=f then(k,v)::r else(k,x)::Ap f v r) from rfl];by_cases hk:k=f
  ·rw[if_pos hk,yh,yh]; lia
  ·rw[if_neg hk,yh,yh]; lia
theorem RelO.some_of(r:RelO (some v) o):∃u,o=some u/\RelV v u:=by
 cases o with
 |none=>exact(show False from r).elim
 |some u=>exact⟨u,rfl,r⟩
theorem Ug(r:RelV v u):PySem.W.handedIn u=true:=by
 cases v with
 |non=>cases (show u=Value.none from r); rfl
 |bl b=>cases (show u=Value.bool b from r); rfl
 |int i=>obtain⟨t,e⟩:=(show ∃t,u=Value.int i t from r); cases e; rfl
 |str x=>obtain⟨t,e⟩:=(show ∃t,u=Value.str x t from r); cases e; rfl
 |byt b=>obtain⟨t,e⟩:=(show ∃t,u=Value.bytes b t from r); cases e; rfl
 |flt b=>obtain⟨t,e⟩:=(show ∃t,u=Value.float b t from r); cases e; rfl
 |ref a=>cases (show u=Value.ref a from r); rfl
 |ty n=>cases (show u=Value.type n from r); rfl
section
variable{P:yl}{w:y07}{H H':Hp}{h h':Heap}{a C dx:Addr}{fs fs':List (Str×V)}
theorem L3(B:HOk P w H h)(e:H a=some (.ins C dx fs)):∃mA,ObjM h a dx C mA/\(∀f,RelO (fs.lookup f) (mA f))/\PySem.Within mA (fs.map (·.1))/\fs.length<=1000/\H dx=some (.own a):=by
 obtain⟨d,z,G,F,mA,n,r,q⟩:=(show ObjOk P w H h a (.ins C dx fs) from B a _ e);exact⟨mA,⟨F,n,G⟩,r,q,z,d⟩
end
structure Cls(K:y3)(C:Addr):Prop where
 pg:PySem.W.plainGet K C Str.empty=true
 hd:PySem.W.hasDictIn K C=true
 po:PySem.W.plainOver K C=true
 sa:PySem.W.findIn K (.ref C) "__setattr__" = some (some (.builtin "object.__setattr__"))
theorem Cls.get{K:y3}{C:Addr}(c:Cls K C)(f:Str):PySem.W.plainGet K C f=true:=c.pg
def NoAttr(K:y3)(C:Addr)(f:Str):Prop:=PySem.W.findIn K (.ref C) f=some none
theorem NoAttr.taker{K:y3}{C:Addr}{f:Str}(n:NoAttr K C f):PySem.W.takerIn K C f=some none:=by
 unfold PySem.W.takerIn;rw[show PySem.W.findIn K (.ref C) f=some none from n];rfl
section
variable{X:Cx}{pins:List (Addr×Obj)}{σ:St}{H:Hp}{s:y9}{a C dx:Addr}{fs:List (Str×V)}{f:Str}{v:V}{A:y0a}{E:ya->y9->Prop}
theorem Uh{Q:ya->y9->Prop}(I:Inv X pins σ H s)(e:H a=some (.ins C dx fs))(c:Cls X.K C)(n:NoAttr X.K C f)(l:fs.lookup f=some v)
  (h:∀u s',Inv X pins σ H s'->RelV v u->Q u s'):yy (y03 X.prog X.w) A (getAttr (.ref a) f b) Q E s:=by
 obtain⟨mA,O,r,_,_,_⟩:=L3 I.hok e;obtain⟨u,z,q⟩:=RelO.some_of (v:=v) (o:=mA f) (by rw[<- l]; exact r f);exact Ud I.kIn O (c.get f) c.hd n z (Ug q) (h u _ (I.tok _) q)
theorem Ui{Q:Unit->y9->Prop}(I:Inv X pins σ H s)(e:H a=some (.ins C dx fs))(c:Cls X.K C)(n:NoAttr X.K C f)(Z:fs.length<1000)(M:RelV y u)
  (h:∀s',Inv X pins σ (upd H a (.ins C dx (Ap f y fs))) s'->Q () s'):yy (y03 X.prog X.w) A (setAttr (.ref a) f u) Q E s:=by
 obtain⟨mA,O,r,F,_,G⟩:=L3 I.hok e;have Y:(fs.map (·.1)).length<=yn:=by rw[y4,sizeLine_eq]; lia
 refine Ue I.kIn O c.sa c.po n.taker c.hd F Y fun h' B J=>h _ ?_;have hd:∃o,h'.get? dx=some o:=let ⟨o,_,_,e',_⟩:=B.ns; ⟨o,e'⟩;refine I.write (x:=a) (e:=dx) (by rw[e]; exact True.intro) (.inr G) (fun b q hb z=>(J.2 b hb).trans z) hd ?_;refine⟨by rw[AB O.ne]; exact G,?_,O.ne,B.obj,_,B.ns,fun g=>?_,fun g hg=>?_⟩
 ·have:=O8 f y fs; lia
 ·show RelO ((Ap f y fs).lookup g) (if g=f then some u else mA g);rw[O7];by_cases q:g=f
  ·rw[if_pos q,if_pos q]; exact M
  ·rw[if_neg q,if_neg q]; exact r g
 ·by_cases q:g=f
  ·rw[q]; exact(L1 f y fs).1
  ·refine(L1 f y fs).2 g (F g fun z=>hg ?_);show(if g=f then some u else mA g)=none;rw[if_neg q]; exact z
theorem Inv.made(I:Inv X pins σ H s):Inv X pins σ (upd (upd H s.heap.objs.size (.own (s.heap.objs.size+1))) (s.heap.objs.size+1) (.ins C s.heap.objs.size []))
  {s with heap:=(s.heap.push PySem.W.emptyDict).push (PySem.W.instObj C s.heap.objs.size)}:=by
 have B:(s.heap.push PySem.W.emptyDict).get? s.heap.objs.size=some PySem.W.emptyDict:=yg s.heap rfl;have J:((s.heap.push PySem.W.emptyDict).push (PySem.W.instObj C s.heap.objs.size)).get? (s.heap.objs.size+1)=some (PySem.W.instObj C s.heap.objs.size):=by
  have:=yg (s.heap.push PySem.W.emptyDict) (o:=PySem.W.instObj C s.heap.objs.size) rfl;rwa [y11] at this
 have G:(s.heap.push PySem.W.emptyDict).Ns s.heap.objs.size (fun _=>none):=⟨PySem.W.emptyDict,#[],_,B,rfl,(fun e F=>absurd F (by simp)),fun _=>rfl⟩;have M:=I.laid (a:=s.heap.objs.size) (o:=.own (s.heap.objs.size+1)) (h':=s.heap.push PySem.W.emptyDict) (t':=s.toks) (fun b u q=>y6 _ q) (yb _) ⟨_,B⟩;refine M.laid (a:=s.heap.objs.size+1) (o:=.ins C s.heap.objs.size []) (t':=s.toks) (fun b u q=>y6 _ q) (Nat.le_of_eq (y11 _ _)) ?_;have z:s.heap.objs.size≠s.heap.objs.size+1:=yj (y3a _);refine⟨by rw[AB z,A6],y05 _,z,J,fun _=>none,(Heap.Ns1.of_empty G).at fun o q=>y6 _ q,fun _=>True.intro,fun y hy=>absurd rfl hy⟩
theorem Uj{Q:ya->y9->Prop}(hb:attributeBase e f env (eval e env)=eval e env)
  (h:yy (y03 prog w) A (eval e env) (fun o q=>yy (y03 prog w) A (getAttr o f true) Q E q) E s):yy (y03 prog w) A (eval (.Attribute e f pos) env) Q E s:=
 Attribute_any_ h (by rw[arm_eval_Attribute,hb])
end
def He(K:y3)(ta:TE)(f:Str):TE:=fun σ H Q=>ta σ H fun x H1=>∃a C dx fs v,x=.ref a/\H1 a=some (.ins C dx fs)/\Cls K C/\NoAttr K C f/\fs.lookup f=some v/\Q v H1
def Ih(K:y3)(ta tv:TE)(f:Str):TS:=fun D σ H=>tv σ H fun y H1=>ta σ H1 fun x H2=>∃a C dx fs,x=.ref a/\H2 a=some (.ins C dx fs)/\Cls K C/\NoAttr K C f/\fs.length<1000/\
 D.nx σ (upd H2 a (.ins C dx (Ap f y fs)))
section
variable{X:Cx}{o e value:Expr}{f:Str}{pos pos' tpos:Pos}{ta tv:TE}
theorem Eb(G:PE X e ta)(hb:attributeBase e f X.env (eval e X.env)=eval e X.env):PE X (.Attribute e f pos) (He X.K ta f):=by
 refine⟨?_⟩;intro pins s σ H Q I h;refine Uj hb (thn (G pins s σ H _ I h) fun u s1 F=>?_);obtain⟨x,H1,O,z,a,C,dx,fs,v,ex,J,c,n,l,q⟩:=F;subst ex;obtain rfl:u=Value.ref a:=z;exact Uh O J c n l fun Y Z M B=>⟨v,H1,M,B,q⟩
theorem L4(ha:PE X o ta)(hv:PE X value tv)(J:swapsWith value (some (.Attribute o f pos')) pos.line X.env=pure false):PS X (.Assign [.Attribute o f pos'] value pos) (Ih X.K ta tv f):=by
 refine⟨?_⟩;intro pins s σ H D I h;refine plainObj_wpAny_Assign_Attribute (thn (hv pins s σ H _ I h) fun u z ⟨y,H1,I1,B,q⟩=>thn (ha pins z σ H1 _ I1 q) fun G s2 M=>?_) J;obtain⟨x,H2,Z,F,a,C,dx,fs,ex,O,c,n,l,q2⟩:=M;subst ex;obtain rfl:G=Value.ref a:=F;exact Ui Z O c n l B fun s3 Y=>⟨σ,_,Y,q2⟩
end
section
variable{X:Cx}{pins:List (Addr×Obj)}{σ:St}{H:Hp}{s:y9}{A:y0a}{E:ya->y9->Prop}{Q:ya->y9->Prop}{c:ya}{b:Bool}
inductive TyOf (K:y3) (H:Hp):V->ya->Prop where
 |non:TyOf K H .non (.type "NoneType")
 |bl (x:Bool):TyOf K H (.bl x) (.type "bool")
 |int (i:Int):TyOf K H (.int i) (.type "int")
 |str (x:Str):TyOf K H (.str x) (.type "str")
 |flt (x:UInt64):TyOf K H (.flt x) (.type "float")
 |lst {a:Addr} {xs:List V} (e:H a=some (.lst xs)):TyOf K H (.ref a) (.type "list")
 |frz {a:Addr} {o:Obj} {xs:List V} (e:H a=some (.frz o (.lst xs))):TyOf K H (.ref a) (.type "list")
 |tup {a:Addr} {xs:List V} (e:H a=some (.tup xs)):TyOf K H (.ref a) (.type "tuple")
 |dK {a:Addr} {kvs:List (Key×V)} (e:H a=some (.dK kvs)):TyOf K H (.ref a) (.type "dict")
 |dT {a:Addr} {kvs:List (List Key×V)} (e:H a=some (.dT kvs)):TyOf K H (.ref a) (.type "dict")
 |ins {a C dx:Addr} {fs:List (Str×V)} (e:H a=some (.ins C dx fs)) (cl:Cls K C) (ha:PySem.W.findIn K (.ref C) "__class__" = some (some (.builtin "object.__class__")))
   (hn:PySem.W.specialIn K (.builtin "object.__class__") "__get__" = some (some (.builtin "getset_descriptor.__get__"))) (htk:PySem.W.takesIn K (.builtin "object.__class__")=some true)
   (hm:PySem.W.mroIn K C (.type "object")=some true):TyOf K H (.ref a) (.ref C)
theorem Uk(I:Inv X pins σ H s)(B:RelV x u)(ty:TyOf X.K H x t)(e:PySem.W.kitOne X.K t c=some b)(h:∀tk,Q (.bool b) {s with toks:=tk}) :
  yy (y03 X.prog X.w) A (call (.builtin "isinstance") [u,c]) Q E s:=by
 cases ty with
 |non=>cases (show u=Value.none from B); exact y10 PySem.W.kitx_none I.kIn True.intro e (fun z=>nomatch z) h
 |bl y=>cases (show u=Value.bool y from B); exact y10 PySem.W.kitx_bool I.kIn True.intro e (fun z=>nomatch z) h
 |int i=>obtain⟨t,q⟩:=(show ∃t,u=Value.int i t from B); cases q; exact y10 PySem.W.kitx_int I.kIn True.intro e (fun z=>nomatch z) h
 |str y=>obtain⟨t,q⟩:=(show ∃t,u=Value.str y t from B); cases q; exact y10 PySem.W.kitx_str I.kIn True.intro e (fun z=>nomatch z) h
 |flt y=>obtain⟨t,q⟩:=(show ∃t,u=Value.float y t from B); cases q; exact y10 PySem.W.kitx_float I.kIn True.intro e (fun z=>nomatch z) h
 |@lst a xs F=>
  cases (show u=Value.ref a from B);obtain⟨_,_,n,_,h1⟩:=(show ObjOk X.prog X.w H s.heap a (.lst xs) from I.hok a _ F);exact y10 PySem.W.kitx_list I.kIn ⟨_,h1,rfl⟩ e (fun z=>nomatch z) h
 |@frz a M xs F=>
  cases (show u=Value.ref a from B);obtain⟨_,_,_,n,_,h1⟩:=(show ObjOk X.prog X.w H s.heap a (.frz M (.lst xs)) from I.hok a _ F);exact y10 PySem.W.kitx_list I.kIn ⟨_,h1,rfl⟩ e (fun z=>nomatch z) h
 |@tup a xs F=>
  cases (show u=Value.ref a from B);obtain⟨_,_,_,p⟩:=(show ObjOk X.prog X.w H s.heap a (.tup xs) from I.hok a _ F);obtain⟨o,h1,h2,_⟩:=p;exact y10 PySem.W.kitx_tuple I.kIn ⟨o,h1,h2⟩ e (fun z=>nomatch z) h
 |@dK a kvs F=>
  cases (show u=Value.ref a from B);obtain⟨_,_,vs,_,p⟩:=(show ObjOk X.prog X.w H s.heap a (.dK kvs) from I.hok a _ F);obtain⟨o,es,ep,h1,h2,_⟩:=p;exact y10 PySem.W.kitx_dict I.kIn ⟨o,h1,h2.1⟩ e (fun z=>nomatch z) h
 |@dT a kvs F=>
  cases (show u=Value.ref a from B);obtain⟨_,_,xs,_,o,es,ep,h1,h2,_⟩:=(show ObjOk X.prog X.w H s.heap a (.dT kvs) from I.hok a _ F);exact y10 PySem.W.kitx_dict I.kIn ⟨o,h1,h2.1⟩ e (fun z=>nomatch z) h
 |@ins a C dx fs F cl ha Y G hm=>
  cases (show u=Value.ref a from B);obtain⟨mA,O,_⟩:=L3 I.hok F;obtain⟨Z,J,_⟩:=O.look;exact y10 (PySem.W.kitx_own (cl.get _) cl.hd ha Y G hm) I.kIn J e (fun z=>nomatch z) h
end
structure Room(k:Nat)(A:y0a):Prop where
 hd:A.handled=none
 dp:A.depth+3*k+5<recursionLimit
 un:A.units+16*k+200<cLine
theorem Room.mono(r:Room k A)(h:j<=k):Room j A:=⟨r.hd,by have:=r.dp; lia,by have:=r.un; lia⟩
theorem Room.deeper(r:Room (k+1) A)(env:Env):Room k (A.deeper env):=
 ⟨r.hd,by have:=r.dp; show A.depth+1+3*k+5<_; lia,by have:=r.un; show A.units+3+16*k+200<_; lia⟩
theorem Ul{A:y0a}{C:Addr}{us:List ya}{q:List (Str×ya)}:(A.under (.builtin "type.__call__" ⟨.ref C::us,q⟩)).depth=A.depth+1:=by
 first|rfl|simp[Around.under,Code.weight,Code.isCreation,Code.isGuard,Code.isCaller,Code.frames,Code.isFrame,guardIds]
theorem Um{A:y0a}{C:Addr}{us:List ya}{q:List (Str×ya)}:(A.under (.builtin "type.__call__" ⟨.ref C::us,q⟩)).units=A.units+1:=by
 first|rfl|simp[Around.under,Code.cUnits,Code.frames,Code.isFrame]
theorem Room.make(r:Room (k+1) A)(C:Addr)(us:List ya)(q:List (Str×ya)):Room k (A.under (.builtin "type.__call__" ⟨.ref C::us,q⟩)):=
 ⟨r.hd,by have:=r.dp; rw[Ul]; lia,by have:=r.un; rw[Um]; lia⟩
theorem Room.depth(r:Room k A):A.depth<recursionLimit:=by have:=r.dp; lia
theorem Room.units(r:Room k A):A.units+64<cLine:=by have:=r.un; lia
theorem Room.units0(r:Room k A):A.units<cLine:=by have:=r.un; lia
def CK:TA:=fun _ H Q=>Q [] H
def BG(ta:TE)(q:TA):TA:=fun σ H Q=>ta σ H fun x H1=>q σ H1 fun xs H2=>Q (x::xs) H2
section
variable{X:Cx}{e:Expr}{es:List Expr}{te:TE}{t:TA}{pos:Pos}
theorem pa_nil:PA X [] CK:=⟨fun _ _ _ _ H Q I h=>y3n ⟨[],H,I,.nil,h⟩⟩
theorem Uo(ha:PE X e te)(hr:PA X es t)(G:starEach (e::es) X.env=(false,eval e X.env)::starEach es X.env:=by rfl):PA X (e::es) (BG te t):=by
 refine⟨?_⟩;intro pos pins s σ H Q I h;rw[G];show yy _ _ (spliced ((false,eval e X.env)::backTo pos (starEach es X.env))) _ _ s;refine y2t (thn (ha pins s σ H _ I h) fun u q ⟨x,H1,M,B,F⟩=>?_);exact thn (hr pos pins q σ H1 _ M F) fun us O ⟨xs,H2,J,z,q2⟩=>⟨x::xs,H2,J,.cons B z,q2⟩
def Dg(t:TA):TE:=fun σ H Q=>t σ H fun xs H1=>xs.length<=yn/\∀p,H1 p=none->Q (.ref p) (upd H1 p (.tup xs))
def Ec(t:TA):TE:=fun σ H Q=>t σ H fun xs H1=>xs.length<=yn/\∀p,H1 p=none->Q (.ref p) (upd H1 p (.lst xs))
theorem AW{x1}(h:PA X es t):PE X (.Tuple es x1 pos) (Dg t):=by
 refine⟨?_⟩;intro pins s σ H Q I hq;refine wpAny_Tuple_spliced (thn (h pos pins s σ H _ I hq) fun us B ⟨xs,H1,F,r,z,q⟩=>⟨by rw[<- r.length]; exact z,?_⟩);have hf:H1 B.heap.objs.size=none:=F.hok.fresh (yb _);refine⟨.ref B.heap.objs.size,upd H1 B.heap.objs.size (.tup xs),F.laid (t':=B.toks) (fun b u e=>y6 _ e) (yb _) ?_,rfl,q _ hf⟩;exact⟨z,us,r,⟨_,yg _ rfl,rfl,⟨_,rfl⟩,rfl⟩⟩
theorem Dh(h:PA X es t):PE X (.List es pos) (Ec t):=by
 refine⟨?_⟩;intro pins s σ H Q I hq;refine wpAny_List_spliced (thn (h pos pins s σ H _ I hq) fun us B ⟨xs,H1,F,r,z,q⟩=>⟨by rw[<- r.length]; exact z,?_⟩);have hf:H1 B.heap.objs.size=none:=F.hok.fresh (yb _);refine⟨.ref B.heap.objs.size,upd H1 B.heap.objs.size (.lst xs),F.laid (t':=B.toks) (fun b u e=>y6 _ e) (yb _) ?_,rfl,q _ hf⟩;exact⟨z,us,0,r,yg _ rfl⟩
abbrev Sp:=List V->Hp->VK->XK->Prop
abbrev CXT:=List Env->Hp->y9->XK->ya->y9->Prop
structure Env0(P:yl)(w:y07)(K:y3)(mg:Str->Option ya)(base:Heap)(A:y0a)(outer:List Env)(s:y9)(H:Hp):Prop where
 frames:A.frames=some outer
 mod:Mod K mg base
 bs:∀b o,base.get? b=some o->s.heap.get? b=some o/\H b=none
 bsz:base.objs.size<=s.heap.objs.size
 funs:s.heap.FunFrames base outer
 frf:∀b∈frs outer,H b=none
 hok:HOk P w H s.heap
 bare:AllBare s.gens
def CE(outer:List Env)(P:yl)(w:y07)(H:Hp)(s:y9)(Q:VK)(u:ya)(s':y9):Prop:=
 ∃v H',s'.os=s.os/\AllBare s'.gens/\Un (frs outer) [] H H' s.heap s'.heap/\HOk P w H' s'.heap/\RelV v u/\Q v H'
end
def CR(CX:CXT)(outer:List Env)(P:yl)(w:y07)(H:Hp)(s:y9)(Q:VK)(E:XK)(r:Result)(s':y9):Prop:=
 match r with
 |.ok (.ret u)=>CE outer P w H s Q u s'
 |.ok _=>False
 |.error e=>CX outer H s E e s'
structure FnOk(P:yl)(w:y07)(K:y3)(mg:Str->Option ya)(base:Heap)(CX:CXT)(k:Nat)(f:Addr)(fd:y0v)(ps:List Str)(sp:Sp):Prop where
 len:∀vs H Q E,sp vs H Q E->vs.length=ps.length
 run:∀(A:y0a) (outer:List Env) (s:y9) (H:Hp) (args:Args) (us:List ya) (vs:List V) (Q:VK) (E:XK),Room k A->Env0 P w K mg base A outer s H->BindsTo s fd args (ps.zip us)->Vals vs us->sp vs H Q E->
  codeAny (y03 P w) A (.call (.ref f) args) (CR CX outer P w H s Q E) s
theorem FnOk.imp{P:yl}{w:y07}{K:y3}{mg:Str->Option ya}{base:Heap}{CX:CXT}{k:Nat}{f:Addr}{fd:y0v}{ps:List Str}{sp z:Sp}(F:FnOk P w K mg base CX k f fd ps sp)
  (h:∀vs H Q E,z vs H Q E->sp vs H Q E):FnOk P w K mg base CX k f fd ps z:=
 ⟨fun vs H Q E q=>F.len vs H Q E (h _ _ _ _ q),fun A outer s H args us vs Q E hr G hb hv B=>F.run A outer s H args us vs Q E hr G hb hv (h _ _ _ _ B)⟩
theorem Env0.make{P:yl}{w:y07}{K:y3}{mg:Str->Option ya}{base:Heap}{A:y0a}{outer:List Env}{s:y9}{H:Hp}(e:Env0 P w K mg base A outer s H)(C:Addr)(us:List ya)(q:List (Str×ya)) :
  Env0 P w K mg base (A.under (.builtin "type.__call__" ⟨.ref C::us,q⟩)) outer s H:=⟨by first|exact e.frames|(simpa [Around.under,Code.envs,Code.isFrame,pushEnvs] using e.frames),e.mod,e.bs,e.bsz,e.funs,e.frf,e.hok,e.bare⟩
section
variable{X:Cx}{pins:List (Addr×Obj)}{σ:St}{H:Hp}{s s':y9}
theorem Inv.env0(I:Inv X pins σ H s):Env0 X.prog X.w X.K X.mg X.base X.A X.stack s H:=
 ⟨I.ok.frames,I.ok.mod,I.bs,y0d I.ok.bsz I.sz,I.stack,I.stkFree,I.hok,I.bare⟩
theorem Inv.after(I:Inv X pins σ H s)(h:CE X.stack X.prog X.w H s Q u s'):EP X pins σ Q u s':=by
 obtain⟨v,H',os,B,J,G,r,q⟩:=h;obtain⟨M,g,d,t,F⟩:=s';obtain rfl:F=s.os:=os;exact⟨v,H',I.call (h':=M) (g':=g) (d':=d) (t':=t) (ch:=[]) J G B (fun b z=>absurd z (by simp)),r,q⟩
end
def Cy(sp:Sp)(dvs:List V)(E:XK)(t:TA):TE:=fun σ H Q=>t σ H fun vs H1=>sp (vs++dvs) H1 Q E
def Hf(C:Addr)(sp:Sp)(dvs:List V)(E:XK)(t:TA):TE:=fun σ H Q=>t σ H fun vs H1=>∀x dx,H1 x=none->H1 dx=none->dx≠x->
 sp (.ref x::(vs++dvs)) (upd (upd H1 dx (.own x)) x (.ins C dx [])) (fun v H2=>v=.non/\Q (.ref x) H2) E
def Binds(K:y3)(fd:y0v)(ps:List Str)(ds:List ya):Prop:=
 ∀(s:y9) (us:List ya),K.In s.heap->(us++ds).length=ps.length->BindsTo s fd ⟨us,[]⟩ (ps.zip (us++ds))
theorem Binds.all{K:y3}{fd:y0v}{ps:List Str}(h:∀us:List ya,us.length=ps.length->bindArgs fd ⟨us,[]⟩=pure (ps.zip us)):Binds K fd ps []:=fun s us _ q=>by
 rw[y0n] at q |-;exact .of_eq (h us q)
def L5(CX:CXT)(X:Cx)(E:XK):Prop:=∀(pins:List (Addr×Obj)) (σ:St) (H:Hp) (s:y9) (e:ya) (s':y9),Inv X pins σ H s->CX X.stack H s E e s'->X.xe e s'
section
variable{X:Cx}{CX:CXT}{k:Nat}{f C:Addr}{fd:y0v}{ps:List Str}{sp:Sp}{dvs:List V}{ds:List ya}{E:XK}{x m:Str}{p pos apos:Pos}{e o:Expr}{es:List Expr}{ta:TE}{t:TA}
theorem O9(F:FnOk X.prog X.w X.K X.mg X.base CX k f fd ps sp)(hr:Room k X.A)(hb:Binds X.K fd ps ds)(hd:Vals dvs ds)(hx:L5 CX X E)
  (I:Inv X pins σ H s) (r:Vals vs us) (h:sp (vs++dvs) H Q E):yy (y03 X.prog X.w) X.A (call (.ref f) us) (EP X pins σ Q) X.xe s:=by
 have q:Vals (vs++dvs) (us++ds):=r.append hd;have z:(us++ds).length=ps.length:=by rw[<- q.length]; exact F.len _ _ _ _ h
 refine wpAny_call (y1w (F.run X.A X.stack s H ⟨us,[]⟩ (us++ds) (vs++dvs) Q E hr I.env0 (hb s us I.kIn z) q h) fun r s' hq=>?_);cases r with
 |error e=>exact hx pins σ H s e s' I hq
 |ok B=>
  cases B with
  |ret u=>exact I.after hq
  |next=>exact False.elim hq
  |brk=>exact False.elim hq
  |cont=>exact False.elim hq
structure Mk(K:y3)(C f:Addr):Prop where
 makes:PySem.W.makesIn K C=true
 init:PySem.W.findIn K (.ref C) "__init__" = some (some (.ref f))
 fn:PySem.W.isFn K (.ref f)=true
 kp:PySem.W.keepIn K (.ref C)=true
theorem Up(M:Mk X.K C f)(F:FnOk X.prog X.w X.K X.mg X.base CX k f fd ps sp)(hr:Room (k+1) X.A)(hb:Binds X.K fd ps ds)(hd:Vals dvs ds)
  (hx:L5 CX X E) (I:Inv X pins σ H s) (r:Vals vs us)
  (h:∀x dx,H x=none->H dx=none->dx≠x->sp (.ref x::(vs++dvs)) (upd (upd H dx (.own x)) x (.ins C dx [])) (fun v H2=>v=.non/\Q (.ref x) H2) E) :
  yy (y03 X.prog X.w) X.A (call (.ref C) us) (EP X pins σ Q) X.xe s:=by
 have hq:=h (s.heap.objs.size+1) s.heap.objs.size (I.hok.fresh (Nat.le_succ _)) (I.hok.fresh (yb _)) (yj (y3a _));have z:=Inv.made (C:=C) I;have B:Vals (V.ref (s.heap.objs.size+1)::(vs++dvs)) (Value.ref (s.heap.objs.size+1)::(us++ds)):=.cons rfl (r.append hd);have O:(Value.ref (s.heap.objs.size+1)::us++ds).length=ps.length:=by
  have e:=B.length;rw[F.len _ _ _ _ hq] at e;exact e.symm
 refine wpAny_call (Uf (f:=f) I.kIn M.makes M.init (beq_iff_eq.mp M.fn) (y1w (F.run _ X.stack _ _ ⟨Value.ref (s.heap.objs.size+1)::us,[]⟩ (Value.ref (s.heap.objs.size+1)::(us++ds)) _ _ E (hr.make C us [])
  (z.env0.make C us []) (hb _ (Value.ref (s.heap.objs.size+1)::us) z.kIn O) B hq) fun r s' q=>?_))
 cases r with
 |error e=>exact hx pins σ _ _ e s' z q
 |ok Y=>
  cases Y with
  |ret u=>
   obtain⟨v,H',I3,G,Z,J⟩:=z.after q;subst Z;exact⟨G,⟨V.ref (s.heap.objs.size+1),H',I3,rfl,J⟩⟩
  |next=>exact False.elim q
  |brk=>exact False.elim q
  |cont=>exact False.elim q
theorem Uq(M:Mk X.K C f)(F:FnOk X.prog X.w X.K X.mg X.base CX k f fd ps sp)(hr:Room (k+1) X.A)(hg:Gl X x)(hm:X.mg x=some (.ref C))(hb:Binds X.K fd ps ds)(hd:Vals dvs ds)(hx:L5 CX X E)
  (ha:PA X (e::es) t) (B:(x==("__debug__" : Str))=false:=by decide) (J:starEach (e::es) X.env=(false,eval e X.env)::starEach es X.env:=by rfl) (z:(backTo pos (starEach es X.env)).any (·.1)=false:=by rfl) :
  PE X (.Call (.Name x p) (e::es) [] pos) (Hf C sp dvs E t):=by
 refine⟨?_⟩;intro pins s σ H Q I h;refine y1m (IY I hg hm ?_ B);refine y2p (h₀:=X.base) I.ok.mod.kin M.kp (thn (ha pos pins s σ H _ I h) fun us O ⟨vs,H1,G,r,q⟩=>⟨G.kIn,?_⟩) J z;exact Up M F hr hb hd hx G r q
end
section
variable{X:Cx}{CX:CXT}{k:Nat}{f C:Addr}{fd:y0v}{ps ks:List Str}{sp:Sp}{E:XK}{x m:Str}{p pos apos kpos:Pos}{e o:Expr}{es:List Expr}{kws:List Keyword}{te ta:TE}{t tk:TA}{nm:Option Str}
variable{g:List ya->List ya->List ya}{gV:List V->List V->List V}
end
structure FnScope(N P:List Str)(sc:Scope):Prop where
 kind:sc.kind=.function
 co:sc.isCoroutine=false
 gen:sc.isGenerator=false
 nd:N.Nodup
 pre:N.take P.length=P
 par:∀x∈P,sc.names.lookup x=some .local\/sc.names.lookup x=some .cell
 nofree:∀y∈sc.names,y.2≠.free
theorem OA{y3g:Str->Option NameKind}:∀{q:List (Str×ya)} {m:Str->Option ya},(∀v,(x,v)∉q)->bindL y3g q m x=m x
 |[],_,_=>rfl
 |(n,v)::r,m,h=>by
  unfold bindL;rw[OA fun w hw=>h w (yx _ hw)];split
  ·have:x≠n:=by rintro rfl; exact h v y00
   simp[this]
  ·rfl
theorem OB{y3g:Str->Option NameKind}:∀{q:List (Str×ya)} {m:Str->Option ya},(∀v,(x,v)∉q)->bindC y3g q m x=m x
 |[],_,_=>rfl
 |(n,v)::r,m,h=>by
  unfold bindC;rw[OB fun w hw=>h w (yx _ hw)];split
  ·rfl
  ·have:x≠n:=by rintro rfl; exact h v y00
   simp[this]
theorem OC{y3g:Str->Option NameKind}:∀{P:List Str} {vs:List ya} {i:Nat} {m:Str->Option ya},P.Nodup->P[i]?=some x->vs[i]?=some v->y3g x=some .local->
  bindL y3g (P.zip vs) m x=some v
 |[],_,_,_,_,h,_,_=>by simp at h
 |_::_,[],_,_,_,_,h,_=>by simp at h
 |p::P,w::vs,0,m,q,h1,h2,hk=>by
  simp at h1 h2; subst h1; subst h2;show bindL y3g ((p,w)::P.zip vs) m p=_;unfold bindL;rw[OA fun v hv=>(List.nodup_cons.mp q).1 (y3b hv).1,if_pos hk];simp
 |p::P,w::vs,i+1,m,q,h1,h2,hk=>by
  show bindL y3g ((p,w)::P.zip vs) m x=_;unfold bindL;exact OC (i:=i) (List.nodup_cons.mp q).2 (by simpa using h1) (by simpa using h2) hk
theorem OD{y3g:Str->Option NameKind}:∀{P:List Str} {vs:List ya} {i:Nat} {m:Str->Option ya},P.Nodup->P[i]?=some x->vs[i]?=some v->y3g x≠some .local->
  bindC y3g (P.zip vs) m x=some v
 |[],_,_,_,_,h,_,_=>by simp at h
 |_::_,[],_,_,_,_,h,_=>by simp at h
 |p::P,w::vs,0,m,q,h1,h2,hk=>by
  simp at h1 h2; subst h1; subst h2;show bindC y3g ((p,w)::P.zip vs) m p=_;unfold bindC;rw[OB fun v hv=>(List.nodup_cons.mp q).1 (y3b hv).1,if_neg hk];simp
 |p::P,w::vs,i+1,m,q,h1,h2,hk=>by
  show bindC y3g ((p,w)::P.zip vs) m x=_;unfold bindC;exact OD (i:=i) (List.nodup_cons.mp q).2 (by simpa using h1) (by simpa using h2) hk
def start:List Str->List V->St
 |_::N,v::vs=>some v::start N vs
 |_::N,[]=>none::start N []
 |[],_=>[]
theorem Fo:start (n::N) (v::vs)=some v::start N vs:=rfl
theorem Fp:start (n::N) []=none::start N []:=rfl
theorem Fq:start [] []=[]:=rfl
theorem Fr{P:V->Prop}:atS 0 (start (n::N) (v::vs)) P=P v:=rfl
theorem Fs{P:V->Prop}:atS (i+1) (start (n::N) (v::vs)) P=atS i (start N vs) P:=rfl
theorem Ft{Q:St->Prop}:Bz 0 v (start (n::N) (w::vs)) Q=Q (some v::start N vs):=rfl
theorem Fu{Q:St->Prop}:Bz (i+1) v (start (n::N) (w::vs)) Q=Bz i v (start N vs) fun q=>Q (some w::q):=rfl
theorem Fv{Q:St->Prop}:Bz 0 v (start (n::N) []) Q=Q (some v::start N []):=rfl
theorem Fw{Q:St->Prop}:Bz (i+1) v (start (n::N) []) Q=Bz i v (start N []) fun q=>Q (none::q):=rfl
theorem OE:∀N:List Str,start N []=List.replicate N.length none
 |[]=>rfl
 |_::N=>by rw[start,OE N]; rfl
theorem Ii:∀{N:List Str} {vs:List V},vs.length<=N.length->start N vs=vs.map some++List.replicate (N.length-vs.length) none
 |N,[],_=>by rw[OE]; simp
 |_::N,v::vs,h=>by
  rw[start,Ii (by simpa using h)];simp
 |[],_::_,h=>absurd h (by simp)
def BH(CX:CXT)(P:yl)(w:y07)(K:y3)(mg:Str->Option ya)(base:Heap)(N:List Str)(qual:Str)(scope:Scope)(f:Addr)(cd:ya)(A:y0a)(outer:List Env)(s:y9)(H:Hp)(E:XK):Cx where
 prog:=P
 w:=w
 K:=K
 mg:=mg
 base:=base
 A:=A.deeper (envOfC qual scope s.heap.objs.size f cd)
 N:=N
 s₀:=s
 H₀:=H
 env:=envOfC qual scope s.heap.objs.size f cd
 outer:=outer
 stack:=envOfC qual scope s.heap.objs.size f cd::outer
 ex:=[]
 calm:=true
 fn:=fun _=>true
 pn:=[]
 xe:=fun e s'=>yy (y03 P w) (A.deeper (envOfC qual scope s.heap.objs.size f cd)) (leaving (envOfC qual scope s.heap.objs.size f cd) e) (fun _ q=>CX outer H s E e q) (fun z q=>CX outer H s E z q) s'
theorem OF{sc:Scope}{n:Nat}{x:Str}(h:sc.names.lookup x=some .cell):∃c,(cellsFrom n sc.names []).lookup x=some c:=by
 have q:=PySem.W.cellsFrom_some sc.names n [] (.inl h);exact Option.isSome_iff_exists.mp q
theorem Ur{CX:CXT}{P:yl}{w:y07}{K:y3}{mg:Str->Option ya}{base:Heap}{N ps:List Str}{qual:Str}{scope:Scope}{f:Addr}{cd:ya}{A:y0a}{outer:List Env}{s M:y9}{H:Hp}{E:XK}{us:List ya}{vs:List V}
  (S:FnScope N ps scope) (hd:A.handled=none) (B:Env0 P w K mg base A outer s H) (hl:vs.length=ps.length) (r:Vals vs us)
  (x:InCallC s s.heap.objs.size (bindL (envOfC qual scope s.heap.objs.size f cd).kindOf (ps.zip us) fun _=>none) (cellsFrom (s.heap.objs.size+1) scope.names []) (bindC (envOfC qual scope s.heap.objs.size f cd).kindOf (ps.zip us) fun _=>none) M) :
  Inv (BH CX P w K mg base N qual scope f cd A outer s H E) [] (start N vs) H M:=by
 have Z:ps.length<=N.length:=by have:=congrArg List.length S.pre; rw[y04] at this; lia
 obtain⟨h1,tk,rfl,hk⟩:=x.done;have F:∀b:Addr,b∉(BH CX P w K mg base N qual scope f cd A outer s H E).ex:=fun b z=>absurd (show b∈([]:List Addr) from z) (by simp);refine⟨⟨B.mod,S.kind,rfl,rfl,yb _,fun y z c h1 h2=>?_,fun y hy=>?_,fun y c _ h=>?_,fun _=>hd,Around.frames_deeper B.frames,.inr ⟨rfl,rfl⟩,fun b z=>absurd z (F b),B.bs,B.bsz,fun b _ _=>F b,fun b z=>absurd z (F b),B.funs,B.frf⟩,
  rfl,B.bare,Un.kept hk,⟨_,x.toInCall.ns,fun i y v h1 h2 h3=>?_⟩,fun y c h=>⟨_,x.cell y c h⟩,B.hok.fresh (yb _),fun y c h=>?_,fun p J=>absurd (show p∈([]:List (Addr×Obj)) from J) (by simp),B.hok.kept hk,?_⟩
 ·exact name_of_addr x.apart (y0l h1) (y0l h2)
 ·have hy:scope.names.lookup y=some .cell\/scope.names.lookup y=some .free:=hy;rcases hy with hy|hy
  ·exact OF hy
  ·exact absurd rfl (S.nofree _ (y0l hy))
 ·exact y1a (x.above y c (y0l h))
 ·have hi:i<vs.length:=by
   rw[Ii (by lia)] at h2;by_cases hi:i<vs.length
   ·exact hi
   ·rw[y2s (by simpa using hi)] at h2;rw[List.getElem?_replicate] at h2;split at h2<;>cases h2
  have ha:vs[i]?=some v:=by
   rw[Ii (by lia)] at h2;rw[y31 (by simpa using hi),ym] at h2;cases e:vs[i]? with
   |none=>rw[e] at h2; cases h2
   |some a=>rw[e] at h2; cases h2; rfl
  obtain⟨u,O,Y⟩:=r.get ha;have J:ps[i]?=some y:=by
   rw[<- S.pre,List.getElem?_take_of_lt (by lia)]; exact h1
  have G:ps.Nodup:=by rw[<- S.pre]; exact S.nd.sublist (List.take_sublist _ _)
  refine⟨u,Y,?_⟩;rcases S.par y (yi J) with k|k
  ·exact .inl ⟨k,OC G J O k⟩
  ·obtain⟨c,e⟩:=OF (n:=s.heap.objs.size+1) k;refine .inr ⟨.inl k,c,e,?_⟩;have q:=x.cell y c e;rw[OD G J O (by show scope.names.lookup y≠_; rw[k]; decide)] at q;exact q
 ·exact B.hok.fresh (y1a (x.above y c (y0l h)))
 ·show(start N vs).length=N.length;rw[Ii (by lia)];rw[yt,y4,List.length_replicate];lia
theorem OG{CX:CXT}{P:yl}{w:y07}{K:y3}{mg:Str->Option ya}{base:Heap}{k:Nat}{f:Addr}{name qual:Str}{B:Arguments}{body:List Stmt}{scope:Scope}{dV kV lc pm z ct oc:ya}{an od:Option Addr}
  {lg:Array (Option ya)} {N ps:List Str} {sp:Sp} (lk:K.lookup f=some ⟨oc,od,.func (PySem.W.fnOf name qual B body scope dV kV lc pm an z ct),lg⟩) (lj:PySem.W.codeIn K z qual=true) (S:FnScope N ps scope)
  (len:∀vs H Q E,sp vs H Q E->vs.length=ps.length)
  (M:∀(A:y0a) (outer:List Env) (s:y9) (H:Hp) (vs:List V) (Q:VK) (E:XK),Room k (A.deeper (envOfC qual scope s.heap.objs.size f z))->sp vs H Q E->
   ∃t,PSs (BH CX P w K mg base N qual scope f z A outer s H E) body t/\t {nx:=fun _ H'=>Q .non H',rt:=Q} (start N vs) H) :
  FnOk P w K mg base CX (k+1) f (PySem.W.fnOf name qual B body scope dV kV lc pm an z ct) ps sp:=by
 refine⟨len,fun A outer s H args us vs Q E hr Z hb r Y=>?_⟩;have hl:=len _ _ _ _ Y;have KX:K.In s.heap:=Z.mod.kin.keeps fun b o e=>(Z.bs b o e).1;have lh:s.heap.NoLimit:=Z.mod.nolimit.keeps fun b o e=>(Z.bs b o e).1;have G:∀y∈ps.zip us,scope.names.lookup y.1=some .local\/(scope.names.lookup y.1=some .cell/\((cellsFrom (s.heap.objs.size+1) scope.names []).lookup y.1).isSome=true):=fun⟨n,v⟩ hy=>by
  rcases S.par n (y3b hy).1 with q|q
  ·exact .inl q
  ·exact .inr ⟨q,PySem.W.cellsFrom_some _ _ _ (.inl q)⟩
 refine codeAny_call_function hr.depth (KX _ _ lk) rfl S.co S.gen rfl (PySem.W.codeRec_of KX lj) (hb _ _ _ _ ?_);refine wpAny_newFunctionEnv_cells S.kind G fun env he s1 x=>?_;subst he;refine⟨lh.keeps x.toInCall.keep,codeAny_func ?_⟩;obtain⟨t,ht,hq⟩:=M A outer s H vs Q E (hr.deeper _) Y;have I:Inv (BH CX P w K mg base N qual scope f z A outer s H E) [] (start N vs) H s1:=Ur S hr.hd Z hl r x;refine y18 (ht [] s1 (start N vs) H _ I hq) (fun fl s' O=>?_) fun e s' O=>O;have fin:∀{F:St} {H':Hp} {v:V} {u:ya},Inv (BH CX P w K mg base N qual scope f z A outer s H E) [] F H' s'->RelV v u->Q v H'->CE outer P w H s Q u s':=
  fun {F H' v u} J rv q=>⟨v,H',J.os,J.bare,J.base,J.hok,rv,q⟩
 cases fl with
 |ret u=>
  obtain⟨v,F,H',J,rv,q⟩:=O;exact fin J rv q
 |next=>
  obtain⟨F,H',J,q⟩:=O;exact fin (v:=V.non) (u:=Value.none) J rfl q
 |brk=>
  obtain⟨_,_,_,q⟩:=O;exact False.elim q
 |cont=>
  obtain⟨_,_,_,q⟩:=O;exact False.elim q
section
variable{X:Cx}{x:Str}{p pos:Pos}{e:Expr}{es:List Expr}{t:TA}{id T:String}{r:List V->Hp->VK->Prop}
def tCB(r:List V->Hp->VK->Prop)(t:TA):TE:=fun σ H Q=>t σ H fun vs H1=>r vs H1 Q
theorem Us(hc:B3 X (.builtin id) r)(hg:Gl X x)(hm:X.mg x=none)(hv:bootBuiltins x=some (.builtin id))(ha:PA X (e::es) t) (J:x≠"__name__":=by decide) (z:(x==("__debug__" : Str))=false:=by decide)
  (M:starEach (e::es) X.env=(false,eval e X.env)::starEach es X.env:=by rfl) (q:(backTo pos (starEach es X.env)).any (·.1)=false:=by rfl):PE X (.Call (.Name x p) (e::es) [] pos) (tCB r t):=by
 refine⟨?_⟩;intro pins s σ H Q I h;refine y1m (EO I hg hm hv ?_ J z);exact PyProof.Rows.callWith_builtin1 (thn (ha pos pins s σ H _ I h) fun us B ⟨vs,H1,O,F,G⟩=>hc pins B σ H1 vs us Q O F G) M q
theorem Ut(hc:B3 X (.type T) r)(hg:Gl X x)(hm:X.mg x=none)(hv:bootBuiltins x=some (.type T))(ha:PA X (e::es) t) (J:x≠"__name__":=by decide) (z:(x==("__debug__" : Str))=false:=by decide)
  (M:starEach (e::es) X.env=(false,eval e X.env)::starEach es X.env:=by rfl) (q:(backTo pos (starEach es X.env)).any (·.1)=false:=by rfl):PE X (.Call (.Name x p) (e::es) [] pos) (tCB r t):=by
 refine⟨?_⟩;intro pins s σ H Q I h;refine y1m (EO I hg hm hv ?_ J z);exact y1c (thn (ha pos pins s σ H _ I h) fun us B ⟨vs,H1,O,F,G⟩=>hc pins B σ H1 vs us Q O F G) M q
end
end L2
namespace HT
open PySem PyProof.Rows
def BM:List Int->List Int->Bool
 |[],[]=>false
 |[],_::_=>true
 |_::_,[]=>false
 |x::xs,y::ys=>if x=y then BM xs ys else decide (x<y)
theorem Uu(x y:Int)(xs ys:List Int):BM (x::xs) (y::ys)=if x=y then BM xs ys else decide (x<y):=rfl
theorem Uv:BM [] []=false:=rfl
theorem Uw(y:Int)(ys:List Int):BM [] (y::ys)=true:=rfl
theorem Ux(x:Int)(xs:List Int):BM (x::xs) []=false:=rfl
theorem Uy(A:y0a)(s:y9)(a:Int)(t:Tok)(c:Int)(u:Tok):∃e,SeqAt.EqAt A s (.int a t) (.int c u) e/\(e=true↔a=c):=
 ⟨(a==c),SeqAt.EqAt.int_int a t c u,by simp⟩
theorem Uz(A:y0a)(s:y9)(a:Int)(t:Tok)(c:Int)(u:Tok)(prog:yl)(w:y07)(E:ya->y9->Prop)(Q:ya->y9->Prop)(h:Q (.bool (decide (a<c))) s) :
  yy (y03 prog w) A (richCompare .Lt (.int a t) (.int c u)) Q E s:=
 (PyProof.Rows.lt_int h:yy (y03 prog w) A (y09 .Lt (.int a t) (.int c u)) Q E s)
section
open PySem.SeqAt
open PySem.AutoSeq1 (wpAny_loadPart')
open PySem.MeetsSeq PySem.MeetsSeq2 PySem.MeetsSeq3
theorem V0(l b:Addr)(B z:Array ya)(n n2:Nat)(dd lr:Option Addr)(sl ln:Array (Option ya))(ns ms:List Int)(hi:IntsAre B.toList ns)(hj:IntsAre z.toList ms) :
  Meets (Builtin.«tuple.__lt__» ⟨[.ref l,.ref b],[]⟩)
   (fun _ R s=>s.heap.get? l=some {cls:=.type "tuple",dict:=dd,data:=.seq B n,slots:=sl}/\s.heap.get? b=some {cls:=.type "tuple",dict:=lr,data:=.seq z n2,slots:=ln}/\
    R (.ok (.ret (.bool (BM ns ms)))) s):=
 .of_wp fun prog w A R s h=>by
  obtain⟨hp,g,d,tk,os⟩:=s; obtain⟨hl,hb,h⟩:=h;have f2:=AutoSeq1.sub_tuple_tuple;have z1:B.size=ns.length:=by rw[<- hi.length]; simp
  have z2:z.size=ms.length:=by rw[<- hj.length]; simp
  wp_walk using wpAny_loadPart' hl,wpAny_loadPart' hb,wpAny_forIn_list _ (fun B9 b s'=>b.1=none/\s'=⟨hp,g,d,tk,os⟩/\∃(vs ws:List ya) (G J:List Int),B9=vs.zip ws/\
   IntsAre vs G/\IntsAre ws J/\G.length+z.size=J.length+B.size/\R (.ok (.ret (.bool (BM G J)))) ⟨hp,g,d,tk,os⟩) _
  case turn=>
   rintro⟨y,x⟩ B9 b s' ⟨lh,rfl,vs,ws,G,J,M,lc,O,F,Z⟩;cases lc with
   |nil=>rw[List.zip_nil_left] at M; cases M
   |cons a t lm=>
    cases O with
    |nil=>rw[List.zip_nil_right] at M; cases M
    |cons c u lj=>
     rw[y1i] at M;injection M with lp lg;injection lp with hy hx;subst hy hx;rw[Uu] at Z;simp only[yh] at F;obtain⟨e,he,Y⟩:=Uy A.in1 ⟨hp,g,d,tk,os⟩ a t c u;refine y8 (he prog w _ _ ?_);cases e with
     |true=>
      rw[if_pos (Y.mp rfl)] at Z;wp_walk;exact⟨rfl,rfl,_,_,_,_,lg,lm,lj,by lia,Z⟩
     |false=>
      rw[if_neg (fun q=>absurd (Y.mpr q) yo)] at Z;have lq:=Uz A.in1 ⟨hp,g,d,tk,os⟩ a t c u prog w;wp_walk using lq;exact⟨_,rfl,by simpa using Z⟩
  case fin=>
   rintro⟨b1,b2⟩ s' ⟨lh,rfl,vs,ws,G,J,M,lc,O,F,Z⟩;simp only at lh;subst lh;have hv:BM G J=decide (B.size<z.size):=by
    cases lc with
    |nil=>
     cases O with
     |nil=>
      simp only[y0b] at F;rw[Uv];exact(decide_eq_false (by lia)).symm
     |cons c u hw=>
      simp only[y0b,yh] at F;rw[Uw];exact(decide_eq_true (by lia)).symm
    |cons a t hv=>
     cases O with
     |nil=>
      simp only[y0b,yh] at F;rw[Ux];exact(decide_eq_false (by lia)).symm
     |cons c u hw=>
      rw[y1i] at M;cases M
   rw[hv] at Z;wp_walk;exact⟨_,rfl,by simpa [Builtin.Tuple.tupleCompareSizes] using Z⟩
  case h=>
   exact⟨rfl,rfl,B.toList,z.toList,ns,ms,rfl,hi,hj,by lia,h⟩
end
section
variable{prog:yl}{w:y07}{A:y0a}{E:ya->y9->Prop}{s:y9}
theorem V1{Q:ya->y9->Prop}(hl:IsTup s.heap l items)(hb:IsTup s.heap b items2)(hi:IntsAre items.toList ns)(hj:IntsAre items2.toList ms)
  (hu:A.units<cLine) (h:Q (.bool (BM ns ms)) s):yy (y03 prog w) A (y09 .Lt (.ref l) (.ref b)) Q E s:=by
 obtain⟨⟨cls,dd,data,Y⟩,M,hc,n,hd⟩:=id hl;obtain⟨⟨O,J,data2,G⟩,q,B,Z,z⟩:=id hb;simp only at hc hd B z;subst hc hd B z;exact richCompare_meets_room (op:=.Lt) ⟨_,M,rfl⟩ ⟨_,q,rfl⟩ PySem.F.slot_tuple_lt PySem.F.entry_tuple_lt (PySem.F.args_tuple_lt_2 _ _) (V0 l b items items2 n Z dd J Y G ns ms hi hj)
  ⟨M,q,show Value.bool (BM ns ms)≠Value.notImplemented/\Q (.bool (BM ns ms)) s from⟨(fun x=>nomatch x),h⟩⟩ hu
theorem V2{Q:ya->y9->Prop}(ht:IsTup s.heap t vs.toArray)(hb:IsTup s.heap b ws.toArray)(hv:vs≠[])
  (h1:ws=[]->Q (.ref t) s) (h2:ws≠[]->Q (.ref s.heap.objs.size) {s with heap:=s.heap.push {cls:=.type "tuple",data:=.seq (vs++ws).toArray}})
  (hsz:vs.length+ws.length<=yn):yy (y03 prog w) A (binaryOp .Add (.ref t) (.ref b)) Q E s:=by
 obtain⟨⟨cls,Z,data,O⟩,M,hc,n,hd⟩:=id ht;obtain⟨⟨lc,J,data2,z⟩,q,G,Y,B⟩:=id hb;simp only at hc hd G B;subst hc hd G B;have e:vs.toArray++ws.toArray=(vs++ws).toArray:=by simp
 by_cases hw:ws=[]
 ·exact concat_meets ⟨_,M,rfl⟩ ⟨_,q,rfl⟩ noFill_tuple_add seq_tuple_add y37 y35 (y2w _ _)
   (tuple_addW1 t b vs.toArray ws.toArray n Y Z J O z (by simpa using hv) (by simp[hw])) ⟨M,q,h1 hw⟩
 ·refine concat_meets ⟨_,M,rfl⟩ ⟨_,q,rfl⟩ noFill_tuple_add seq_tuple_add y37 y35 (y2w _ _)
   (tuple_addW2 t b vs.toArray ws.toArray n Y Z J O z (by simpa using hv) (by simpa using hw) (by rw[y01,y01]; exact hsz)) ⟨M,q,?_⟩
  rw[e];exact h2 hw
def sIx(n d:Nat):Option Int->Nat
 |none=>d
 |some v=>if v<0 then(v+(n:Int)).toNat else min v.toNat n
theorem V3(n d:Nat):sIx n d none=d:=rfl
theorem OH(n d k:Nat):sIx n d (some (k:Int))=min k n:=by
 show(if(k:Int)<0 then((k:Int)+(n:Int)).toNat else min (k:Int).toNat n)=min k n;rw[if_neg (by lia),y3p]
theorem V4(n d:Nat)(hd:d<=n)(o:Option Int):sIx n d o<=n:=by
 cases o with
 |none=>exact hd
 |some v=>
  show(if v<0 then(v+(n:Int)).toNat else min v.toNat n)<=n;by_cases hv:v<0
  ·rw[if_pos hv]; lia
  ·rw[if_neg hv]; exact Nat.min_le_right _ _
theorem OJ(v:Int)(n d:Nat):(if v<0 then max (v+(n:Int)) 0 else min v (n:Int))=((sIx n d (some v):Nat):Int):=by
 show(if v<0 then max (v+(n:Int)) 0 else min v (n:Int))=(((if v<0 then(v+(n:Int)).toNat else min v.toNat n):Nat):Int);by_cases hv:v<0
 ·simp only[if_pos hv]; lia
 ·simp only[if_neg hv]; lia
theorem V5(lo hi:Option Int)(n:Nat):Builtin.Slice.sliceAdjust lo hi 1 (n:Int)=(((sIx n 0 lo:Nat):Int),((sIx n n hi:Nat):Int)):=by
 have h1:¬ ((1:Int)<0):=by lia
 unfold Builtin.Slice.sliceAdjust;simp only[h1,if_false];refine Prod.ext ?_ ?_
 ·cases lo with
  |none=>rfl
  |some v=>exact OJ v n 0
 ·cases hi with
  |none=>rfl
  |some v=>exact OJ v n n
theorem V6(i j:Nat):Builtin.Slice.slicePlaces (i:Int) (j:Int) 1=j-i:=by
 unfold Builtin.Slice.slicePlaces;have h1:(1:Int)>0:=by lia
 simp only[h1,if_true,Int.ediv_one];split<;>lia
theorem OK{Q:Option Int->y9->Prop}(p:IsPart v o)(h:Q o s):yy (y03 prog w) A (Builtin.Slice.slicePartIndex v) Q E s:=by
 cases p with
 |none=>exact slicePart_none h
 |int i t=>exact slicePart_int h
theorem OL{G:Addr}{F B:ya}{lo hi:Option Int}{n:Nat}{Q:Int×Int×Nat->y9->Prop}(M:s.heap.IsSliceOf G F B .none)(pl:IsPart F lo)(J:IsPart B hi)
  (h:Q (((sIx n 0 lo:Nat):Int),1,sIx n n hi-sIx n 0 lo) s):yy (y03 prog w) A (Builtin.Slice.sliceApplied (.ref G) (pure (n:Int))) Q E s:=by
 obtain⟨os,q,O,z⟩:=id M;unfold Builtin.Slice.sliceApplied Builtin.Slice.sliceFields;refine y8 (y8 (wpAny_field q z (x:=F) rfl (y8 (wpAny_field q z (x:=B) rfl (y8 (wpAny_field q z (x:=.none) rfl (ye ?_)))))));refine y8 (slicePart_none ?_);show yy _ _ (if((1:Int)==0)=true then _ else _) _ _ s;rw[if_neg (by decide)];refine y8 (OK pl (y8 (OK J (y8 (ye ?_)))));show yy _ _ (match Builtin.Slice.sliceAdjust lo hi 1 (n:Int) with|(lo,hi)=>pure (lo,(1:Int),Builtin.Slice.slicePlaces lo hi 1)) _ _ s;rw[V5 lo hi n];show yy _ _ (pure (((sIx n 0 lo:Nat):Int),(1:Int),Builtin.Slice.slicePlaces ((sIx n 0 lo:Nat):Int) ((sIx n n hi:Nat):Int) 1)) _ _ s;rw[V6];exact ye h
theorem V7(xs:Array ya)(i k:Nat):((List.range k).filterMap fun(m:Nat)=>xs[((i:Int)+(m:Int)*1).toNat]?).toArray=((xs.toList.drop i).take k).toArray:=by
 have e:(fun(m:Nat)=>xs[((i:Int)+(m:Int)*1).toNat]?)=fun m=>xs[i+m]?:=by
  funext m;have:((i:Int)+(m:Int)*1).toNat=i+m:=by lia
  rw[this]
 rw[e];have:=pick_run xs i k;rw[List.filterMap_map] at this;have q:((fun x=>xs[x]?) ∘ fun x=>i+x)=fun m=>xs[i+m]?:=rfl;rw[q] at this;rw[this]
theorem V8{t G:Addr}{z:Array ya}{vl Z:ya}{lo hi:Option Int}{Q:ya->y9->Prop}(F:IsTup s.heap t z)(hs:s.heap.IsSliceOf G vl Z .none)(pl:IsPart vl lo)(pu:IsPart Z hi)
  (hw:¬ (sIx z.size 0 lo=0/\sIx z.size z.size hi=z.size))
  (h:Q (.ref s.heap.objs.size) {s with heap:=s.heap.push {cls:=.type "tuple",data:=.seq ((z.toList.drop (sIx z.size 0 lo)).take (sIx z.size z.size hi-sIx z.size 0 lo)).toArray}})
  (hsz:z.size<=yn):yy (y03 prog w) A (getItem (.ref t) (.ref G)) Q E s:=by
 have B:sizeOk (.seq ((z.toList.drop (sIx z.size 0 lo)).take (sIx z.size z.size hi-sIx z.size 0 lo)).toArray):=by
  show((z.toList.drop (sIx z.size 0 lo)).take (sIx z.size z.size hi-sIx z.size 0 lo)).toArray.size<=yn;rw[y01,y04,List.length_drop,y0f];lia
 have hj:sIx z.size z.size hi<=z.size:=V4 _ _ (yb _) hi;obtain⟨os,J,O,lc⟩:=id hs;have Y:s.TypeIs (.ref G) "slice":=⟨os,J,O⟩;unfold getItem;try with_reducible refine y16 ?_
 first|refine y8 (ye ?_)|skip
 refine y8 (wpAny_sequenceKey F.typeIs (by decide) ?_);refine y8 (y0u (name:=Str.ofString "__getitem__") F.typeIs y1g
  (y0j y1g F.typeIs entry_tuple_getitem ?_ (args_tuple_getitem _ _)))
 show yy _ _ (Builtin.Tuple.tupleItemsOf (.ref t) >>= _) _ _ s;refine y8 (tupleItemsOf_ F ?_);refine y8 (y2o Y ?_);rw[if_pos (by decide)];refine y8 (OL hs pl pu ?_);have M:¬ ((((sIx z.size 0 lo:Nat):Int)==0&&(1:Int)==1&&(sIx z.size z.size hi-sIx z.size 0 lo)==z.size)=true):=by
  intro q;rw[yk,yk] at q;have q1:((sIx z.size 0 lo:Nat):Int)=0:=eq_of_beq q.1.1;have q2:sIx z.size z.size hi-sIx z.size 0 lo=z.size:=eq_of_beq q.2;exact hw ⟨by lia,by lia⟩
 show yy _ _ (if(((sIx z.size 0 lo:Nat):Int)==0&&(1:Int)==1&&(sIx z.size z.size hi-sIx z.size 0 lo)==z.size)=true then _ else _) _ _ s;rw[if_neg M,V7];first
  |exact y8 (m:=Builtin.Tuple.tupleExact _) (y2l (ye ⟨_,rfl,ye h⟩) B)
  |exact y8 (m:=Builtin.Tuple.tupleExact _) (y2l (y8 (ye (ye ⟨_,rfl,ye h⟩))) B)
  |exact y8 (y8 (m:=Builtin.Tuple.tupleExact _) (y2l (ye (ye ⟨_,rfl,ye h⟩)) B))
  |exact y8 (y8 (m:=Builtin.Tuple.tupleExact _) (y2l (ye ⟨_,rfl,ye h⟩) B))
end
end HT
namespace L2
open PySem PySem.Spec PyProof.Rows
abbrev TO:=St->Hp->(Option Int->Hp->Prop)->Prop
abbrev POv(X:Cx)(e:Option Expr)(t:TO):Prop:=
 ∀(pins:List (Addr×Obj)) (s:y9) (σ:St) (H:Hp) (Q:Option Int->Hp->Prop),Inv X pins σ H s->t σ H Q->
  yy (y03 X.prog X.w) X.A (evalPart e X.env) (fun u s'=>∃o H',Inv X pins σ H' s'/\IsPart u o/\Q o H') X.xe s
structure PO(X:Cx)(e:Option Expr)(t:TO):Prop where
 run:POv X e t
instance{X:Cx}{e:Option Expr}{t:TO}:CoeFun (PO X e t) (fun _=>POv X e t):=⟨PO.run⟩
def Ed:TO:=fun _ H Q=>Q none H
def Ee(t:TE):TO:=fun σ H Q=>t σ H fun x H1=>isI x fun i=>Q (some i) H1
theorem Ij:∀{us:List ya},Vals (ns.map V.int) us->IntsAre us ns:=by
 induction ns with
 |nil=>intro us r; rw[y20] at r; cases r; exact .nil
 |cons n ns B=>
  intro us r;rw[yc] at r;cases r with
  |cons z q=>
   obtain⟨t,e⟩:=z;subst e;exact .cons n t (B q)
section
variable{X:Cx}{e:Expr}{te:TE}{lo hi:Option Expr}{tl th:TO}{pos p2:Pos}
theorem OM:PO X none Ed:=by
 refine⟨?_⟩;intro pins s σ H Q I h;rw[evalPart_none];exact ye ⟨none,H,I,.none,h⟩
theorem ON(h:PE X e te):PO X (some e) (Ee te):=by
 refine⟨?_⟩;intro pins s σ H Q I hw;rw[evalPart_some];refine thn (h pins s σ H _ I hw) fun u G ⟨x,H1,F,z,B⟩=>?_;obtain⟨i,rfl,q⟩:=isI.o B;obtain⟨t,rfl⟩:=z;exact⟨some i,H1,F,.int i t,q⟩
def SlR(X:Cx)(r:V->Option Int->Option Int->Hp->VK->Prop):Prop:=
 ∀(pins:List (Addr×Obj)) (s:y9) (σ:St) (H:Hp) (x:V) (v z q:ya) (lo hi:Option Int) (B:Addr) (Q:VK),Inv X pins σ H s->RelV x v->s.heap.IsSliceOf B z q .none->IsPart z lo->IsPart q hi->r x lo hi H Q->
  ∃T id,typeLookup (.type T) "__getitem__" = pure (some (.builtin id))/\s.TypeIs v T/\yy (y03 X.prog X.w) X.A (getItem v (.ref B)) (EP X pins σ Q) X.xe s
def tSl(r:V->Option Int->Option Int->Hp->VK->Prop)(te:TE)(tl th:TO):TE:=fun σ H Q=>te σ H fun x H1=>tl σ H1 fun l H2=>th σ H2 fun u q=>r x l u q Q
theorem OO{r:V->Option Int->Option Int->Hp->VK->Prop}(hr:SlR X r)(he:PE X e te)(hl:PO X lo tl)(hu:PO X hi th):PE X (.Subscript e (.Slice lo hi none p2) pos) (tSl r te tl th):=by
 refine⟨?_⟩;intro pins s σ H Q I h;refine Subscript_ (thn (he pins s σ H _ I h) fun v M ⟨x,H1,I1,O,Z⟩=>?_);refine wpAny_Slice (thn (hl pins M σ H1 _ I1 Z) fun F J ⟨l,H2,I2,pl,q2⟩=>thn (hu pins J σ H2 _ I2 q2) fun B z ⟨u,G,I3,pu,Y⟩=>?_);rw[evalPart_none];refine ye ?_;have I4:Inv X pins σ G {z with heap:=z.heap.push {cls:=.type "slice",data:=.fields #[F,B,.none]}}:=I3.kept (t':=z.toks) fun b ob q=>y6 _ q;obtain⟨T,id,hT,ht,hg⟩:=hr pins {z with heap:=z.heap.push {cls:=.type "slice",data:=.fields #[F,B,.none]}} σ G x v F B l u z.heap.objs.size Q I4 O (Heap.IsSliceOf.new ..) pl pu Y;show yy (y03 X.prog X.w) X.A (subscriptTail e (.Slice lo hi none p2) v (.ref z.heap.objs.size)) (EP X pins σ Q) X.xe {z with heap:=z.heap.push {cls:=.type "slice",data:=.fields #[F,B,.none]}};exact tail_any (ops:=[.ref z.heap.objs.size,v]) ht hT hg (by with_unfolding_all rfl)
def CL(xs:List V)(lo hi:Option Int):List V:=(xs.drop (HT.sIx xs.length 0 lo)).take (HT.sIx xs.length xs.length hi-HT.sIx xs.length 0 lo)
theorem V9(xs:List V)(lo hi:Option Int):(CL xs lo hi).length<=xs.length:=by
 unfold CL;rw[y04,List.length_drop];lia
def Ef(K:y3):V->Option Int->Option Int->Hp->VK->Prop:=fun x lo hi H Q=>∃a xs,x=.ref a/\SqT K H a xs/\
 ¬ (HT.sIx xs.length 0 lo=0/\HT.sIx xs.length xs.length hi=xs.length)/\∀p,H p=none->Q (.ref p) (upd H p (.tup (CL xs lo hi)))
theorem VA:SlR X (Ef X.K):=by
 intro pins s σ H x v Z Y lo hi sl Q I J O pl M h;obtain⟨a,xs,rfl,hx,hw,q⟩:=h;cases J;obtain⟨B,r,G,F⟩:=I.tuple hx;have z:B.toArray.size=xs.length:=by rw[y01]; exact r.length.symm
 refine⟨"tuple",_,PyProof.Rows.slot_tuple_getitem.lookup,G.typeIs,?_⟩;refine HT.V8 G O pl M (by rw[z]; exact hw) ?_ (by rw[z]; exact F);rw[z];refine⟨.ref s.heap.objs.size,_,I.laid (t':=s.toks) (o:=.tup (CL xs lo hi)) (fun b ob q=>y6 _ q) (yb _) ?_,rfl,q _ (I.hok.fresh (yb _))⟩;exact⟨y0d (V9 xs lo hi) F,_,(r.drop (HT.sIx xs.length 0 lo)).take (HT.sIx xs.length xs.length hi-HT.sIx xs.length 0 lo),IsTup0.new _ _⟩
def OP(K:y3):R2:=fun x y H Q=>∃a b ns q,x=.ref a/\y=.ref b/\SqT K H a (ns.map V.int)/\SqT K H b (q.map V.int)/\Q (.bl (HT.BM ns q)) H
theorem VB(hu:X.A.units<cLine):OpR X (y09 .Lt) (OP X.K):=by
 intro pins s σ H x y v u Q I J G h;obtain⟨a,b,ns,F,rfl,rfl,ha,hb,q⟩:=h;cases J;cases G;obtain⟨B,O,p1,_⟩:=I.tuple ha;obtain⟨z,M,p2,_⟩:=I.tuple hb;have Z:IntsAre B.toArray.toList ns:=Ij O;have Y:IntsAre z.toArray.toList F:=Ij M;exact HT.V1 p1 p2 Z Y hu ⟨.bl (HT.BM ns F),H,I,rfl,q⟩
def VC(K:y3):R2:=fun x y H Q=>∃a b xs ys,x=.ref a/\y=.ref b/\SqT K H a xs/\SqT K H b ys/\xs≠[]/\xs.length+ys.length<=yn/\
 (ys=[]->Q (.ref a) H)/\(ys≠[]->∀p,H p=none->Q (.ref p) (upd H p (.tup (xs++ys))))
theorem Vals.nil_iff(r:Vals xs us):us=[]↔xs=[]:=by
 cases r with
 |nil=>simp
 |cons _ _=>simp
theorem VF:OpR X (binaryOp .Add) (VC X.K):=by
 intro pins s σ H x y v u Q I O M h;obtain⟨a,b,xs,ys,rfl,rfl,ha,hb,hx,J,Y,q2⟩:=h;cases O;cases M;obtain⟨Z,F,p1,_⟩:=I.tuple ha;obtain⟨G,B,p2,_⟩:=I.tuple hb;refine HT.V2 p1 p2 (fun z=>hx (F.nil_iff.mp z)) (fun z=>⟨.ref a,H,I,rfl,Y (B.nil_iff.mp z)⟩) (fun z=>?_) (by rw[<- F.length,<- B.length]; exact J);refine⟨.ref s.heap.objs.size,_,I.laid (t':=s.toks) (o:=.tup (xs++ys)) (fun b ob q=>y6 _ q) (yb _) ?_,rfl,q2 (fun w=>z (B.nil_iff.mpr w)) _ (I.hok.fresh (yb _))⟩;exact⟨by rw[yt]; exact J,_,F.append B,IsTup0.new _ _⟩
def ixN(n:Nat)(i:Int):Option Nat:=if 0<=i then(if i<n then some i.toNat else none) else if -(n:Int)<=i then some (i+n).toNat else none
def atI{q:Type}(xs:List q)(i:Int):Option q:=(ixN xs.length i).bind fun j=>xs[j]?
end
theorem VG(h:ixN n i=some j):seqIndex? i n=some j/\j<n/\-(n:Int)<=i/\i<n:=by
 unfold ixN at h;by_cases q:0<=i
 ·rw[if_pos q] at h;by_cases h1:i<n
  ·rw[if_pos h1] at h;have e:i.toNat=j:=yz h;exact⟨by rw[seqIndex_of q h1,e],by lia,by lia,h1⟩
  ·rw[if_neg h1] at h; cases h
 ·rw[if_neg q] at h;by_cases h1 : -(n:Int)<=i
  ·rw[if_pos h1] at h;have e:(i+n).toNat=j:=yz h;exact⟨by rw[seqIndex_neg (by lia) h1,e],by lia,h1,by lia⟩
  ·rw[if_neg h1] at h; cases h
theorem OQ{q:Type}{xs:List q}{i:Int}{v:q}(h:atI xs i=some v):∃j,seqIndex? i xs.length=some j/\xs[j]?=some v/\j<xs.length/\-(xs.length:Int)<=i/\i<xs.length:=by
 unfold atI at h;cases e:ixN xs.length i with
 |none=>rw[e] at h; cases h
 |some j=>
  rw[e] at h;obtain⟨h1,h2,B,z⟩:=VG e;exact⟨j,h1,h,h2,B,z⟩
theorem Ai{q:Type}{xs:List q}{j:Nat}{v:q}(h:xs[j]?=some v):atI xs (j:Int)=some v:=by
 have z:j<xs.length:=(List.getElem?_eq_some_iff.mp h).1;have e:ixN xs.length (j:Int)=some j:=by
  unfold ixN;rw[if_pos (by lia),if_pos (by lia)]; simp
 unfold atI; rw[e]; exact h
def VH(b:Expr):Prop:=∀o i,subscripted b false o i=operate [o,i] (getItem o i)
def IxR(X:Cx)(r:R2):Prop:=
 ∀(value q:Expr) (pins:List (Addr×Obj)) (s:y9) (σ:St) (H:Hp) (x y:V) (v u:ya) (Q:VK),Inv X pins σ H s->RelV x v->RelV y u->r x y H Q->
  subscripted q false v u=operate [v,u] (getItem v u)->yy (y03 X.prog X.w) X.A (subscriptTail value q v u) (EP X pins σ Q) X.xe s
def MtR(X:Cx)(id:String)(r:V->List V->Hp->VK->Prop):Prop:=
 ∀(pins:List (Addr×Obj)) (s:y9) (σ:St) (H:Hp) (x:V) (xs:List V) (v:ya) (us:List ya) (Q:VK),Inv X pins σ H s->RelV x v->Vals xs us->r x xs H Q->
  yy (y03 X.prog X.w) X.A (call (.builtin id) (v::us)) (EP X pins σ Q) X.xe s
section
variable{X:Cx}{a b:Expr}{ta tb:TE}{pos:Pos}
theorem A8(hr:IxR X r)(ha:PE X a ta)(hb:PE X b tb)(G:VH b):PE X (.Subscript a b pos) (tOp r ta tb):=by
 refine⟨?_⟩;intro pins s σ H Q I h;exact Subscript_ (Kx ha hb I h fun v u z x y H2 J F B q=>hr a b pins z σ H2 x y v u Q J F B q (G _ _))
def Di(K:y3):R2:=fun x y H Q=>isRf x fun p=>∃xs,isI y fun i=>SqL K H p xs/\∃v,atI xs i=some v/\Q v H
def B0(K:y3):R2:=fun x y H Q=>isRf x fun p=>∃xs,isI y fun i=>SqT K H p xs/\∃v,atI xs i=some v/\Q v H
def Eg:R2:=fun x y H Q=>∃z i c,x=.str z/\y=.int i/\z.length<=yn/\atI z.cps.toList i=some c/\Q (.str ⟨#[c]⟩) H
theorem L6:IxR X (Di X.K):=by
 intro value B pins s σ H x y v u Q I rx Z h M;obtain⟨p,rfl,xs,hA⟩:=isRf.o h;obtain⟨i,rfl,hq,z,he,q⟩:=isI.o hA;cases rx;obtain⟨t,rfl⟩:=Z;obtain⟨G,r,pl,hz⟩:=I.list hq;obtain⟨j,h1,h2,h3,h4,h5⟩:=OQ he;obtain⟨w,Y,F⟩:=r.get h2;have hl:=r.length;have hn:=Ig;have fin:EP X pins σ Q w s:=⟨z,H,I,F,q⟩;by_cases O:0<=i
 ·have J:i.toNat=j:=by
   rw[seqIndex_of O h5] at h1;exact yz h1
  exact item_listR pl.isList O (by lia) (by rw[J]; simpa using Y) fin M
 ·have J:(i+(G.toArray.size:Int)).toNat=j:=by
   rw[seqIndex_neg (by lia) h4] at h1;rw[y01,<- hl];exact yz h1
  exact subscriptTail_builtinR (x:=w) pl.isList.typeIs slot_list_getitem.lookup
   (wpAny_getItem_list_neg (Q:=fun r s'=>r=w/\EP X pins σ Q r s') pl.isList (by lia) (by rw[y01]<;>lia) (by lia) (by rw[J]; simpa using Y) ⟨rfl,fin⟩) M
theorem A9:IxR X (B0 X.K):=by
 intro value B pins s σ H x y v u Q I J G h O;obtain⟨p,rfl,xs,hA⟩:=isRf.o h;obtain⟨i,rfl,hq,z,Z,q⟩:=isI.o hA;cases J;obtain⟨t,rfl⟩:=G;obtain⟨M,r,pl,hz⟩:=I.tuple hq;obtain⟨j,h1,h2,h3,h4,h5⟩:=OQ Z;obtain⟨w,ew,F⟩:=r.get h2;have Y:=r.length;have hn:=Ig;have fin:EP X pins σ Q w s:=⟨z,H,I,F,q⟩;exact subscriptTail_builtinR (x:=w) pl.typeIs slot_tuple_getitem.lookup
  (getItem_tuple (j:=j) (Q:=fun r s'=>r=w/\EP X pins σ Q r s') pl (by lia) (by lia) (by rw[y01,<- Y]; exact h1) (by simpa using ew) ⟨rfl,fin⟩) O
def rIx(K:y3):R2:=fun x y H Q=>Di K x y H Q\/B0 K x y H Q\/Eg x y H Q
def VI(K:y3):V->Option Int->Option Int->Hp->VK->Prop:=fun x lo hi H Q=>∃a xs,x=.ref a/\SqL K H a xs/\∀p,H p=none->Q (.ref p) (upd H p (.lst (CL xs lo hi)))
def Dj:V->Bool
 |.non=>true
 |.bl _=>true
 |.int _=>true
 |.str _=>true
 |_=>false
def eqV:V->V->Bool
 |.non,.non=>true
 |.bl a,.bl b=>a==b
 |.bl a,.int b=>(if a then 1 else 0)==b
 |.int a,.bl b=>a==(if b then 1 else 0)
 |.int a,.int b=>a==b
 |.str a,.str b=>a==b
 |_,_=>false
def inV(x:V)(xs:List V):Bool:=xs.any fun y=>eqV y x
theorem VJ:B3 X (.builtin "len") (fun xs H Q=>∃p ys,xs=[.ref p]/\(SqL X.K H p ys\/SqT X.K H p ys)/\Q (.int ys.length) H):=by
 intro pins s σ H xs us Q I r h;obtain⟨p,ys,rfl,hq,q⟩:=h;obtain⟨u,rfl,G⟩:=Kz r;cases G;have M:=Ig;rcases hq with hq|hq
 ·obtain⟨F,B,pl,J⟩:=I.list hq;have z:=B.length;exact Calls.call_len_list pl.isList (by simp only[y01]<;>lia) ⟨.int ys.length,H,I.tok _,⟨s.toks+1,by rw[y01,z]⟩,q⟩
 ·obtain⟨F,B,pl,J⟩:=I.tuple hq;have z:=B.length;exact len_tuple pl (by simp only[y01]<;>lia) ⟨.int ys.length,H,I.tok _,⟨s.toks+1,by rw[y01,z]⟩,q⟩
theorem VL:B3 X (.builtin "len") (fun xs H Q=>∃z,xs=[.str z]/\z.length<=yn/\Q (.int z.length) H):=by
 intro pins s σ H xs us Q I r h;obtain⟨z,rfl,B,q⟩:=h;obtain⟨u,rfl,t,rfl⟩:=Kz r;have F:=Ig;exact len_str (by lia) ⟨.int z.length,H,I.tok _,⟨_,rfl⟩,q⟩
theorem L7:B3 X (.type "tuple") (fun xs H Q=>∃p ys,xs=[.ref p]/\((SqL X.K H p ys/\∀l,H l=none->Q (.ref l) (upd H l (.tup ys)))\/(SqT X.K H p ys/\Q (.ref p) H))):=by
 intro pins s σ H xs us Q I r h;obtain⟨p,ys,rfl,h⟩:=h;obtain⟨u,rfl,M⟩:=Kz r;cases M;rcases h with⟨hq,q⟩|⟨hq,q⟩
 ·obtain⟨z,B,pl,F⟩:=I.list hq;have G:=B.length;refine call_tuple_list pl.isList (fun h' O=>?_) (by simp only[y01]<;>lia);have J:Inv X pins σ H {s with heap:=h'}:=I.kept (t':=s.toks) O;have Y:Inv X pins σ (upd H h'.objs.size (.tup ys)) {s with heap:=h'.push {cls:=.type "tuple",data:=.seq z.toArray}}:=
   J.laid (t':=s.toks) (fun b o e=>y6 _ e) (yb _) (show ObjOk X.prog X.w _ _ _ (.tup ys) from⟨F,z,B,IsTup0.new _ _⟩)
  exact⟨.ref h'.objs.size,_,Y,rfl,q _ (J.hok.fresh (yb _))⟩
 ·obtain⟨z,B,pl,F⟩:=I.tuple hq;exact call_tuple_same pl ⟨.ref p,H,I,rfl,q⟩
def tyV(K:y3)(T:String)(x:V)(H:Hp):Prop:=match x with
 |.str _=>T = "str"
 |.int _=>T = "int"
 |.ref p=>(T = "list"/\∃xs,SqL K H p xs)\/(T = "tuple"/\∃o,K.lookup p=some o/\o.cls=.type "tuple"/\o.dict=none)\/
   (T = "dict"/\((∃kvs,H p=some (.dK kvs))\/∃kvs,H p=some (.dT kvs)))\/(T = "set"/\∃S n,H p=some (.set S n))
 |_=>False
theorem VM(I:Inv X pins σ H s)(r:RelV x v)(ty:tyV X.K T x H) :
  s.TypeIs v T/\∀a,v=.ref a->∃B,s.heap.get? a=some B/\B.dict=none:=by
 cases x with
 |str z=>
  obtain⟨t,rfl⟩:=r;cases (show T = "str" from ty);exact⟨typeIs_str s z t,fun _ e=>nomatch e⟩
 |int i=>
  obtain⟨t,rfl⟩:=r;cases (show T = "int" from ty);exact⟨typeIs_int s i t,fun _ e=>nomatch e⟩
 |ref p=>
  cases r;rcases ty with⟨rfl,xs,hq⟩|⟨rfl,o,hk,hc,hd⟩|⟨rfl,hk⟩|⟨rfl,S,n,hk⟩
  ·obtain⟨F,_,pl,_⟩:=I.list hq;refine⟨pl.isList.typeIs,fun a e=>?_⟩;cases e;obtain⟨o,n,e,c,hd,_⟩:=pl;exact⟨o,e,hd⟩
  ·refine⟨⟨o,I.kIn p o hk,hc⟩,fun a e=>?_⟩;cases e;exact⟨o,I.kIn _ o hk,hd⟩
  ·have z:∃o,s.heap.get? p=some o/\o.ExactDict:=by
    rcases hk with⟨kvs,hk⟩|⟨kvs,hk⟩
    ·obtain⟨_,_,_,_,o,_,_,e,ex,_⟩:=I.hok p _ hk;exact⟨o,e,ex⟩
    ·obtain⟨_,_,_,_,o,_,_,e,ex,_⟩:=I.hok p _ hk;exact⟨o,e,ex⟩
   obtain⟨o,e,ex⟩:=z;refine⟨⟨o,e,ex.1⟩,fun a q=>?_⟩;cases q;exact⟨o,e,ex.2.1⟩
  ·obtain⟨o,_,_,_,e,ex,_⟩:=I.hok p _ hk;refine⟨⟨o,e,ex.1⟩,fun a q=>?_⟩;cases q;exact⟨o,e,ex.2.1⟩
 |_=>exact False.elim ty
def tBM(K:y3)(T:String)(r:V->List V->Hp->VK->Prop)(to:TE)(t:TA):TE:=fun σ H Q=>to σ H fun x H1=>tyV K T x H1/\t σ H1 fun xs H2=>r x xs H2 Q
variable{o e:Expr}{es:List Expr}{to:TE}{t:TA}{name:Str}{apos cpos:Pos}{T id:String}{r:V->List V->Hp->VK->Prop}
theorem L8(pa:PlainAttrs T)(F:Slot T name id) (J:typeOf (.builtin id)=pure (.type "method_descriptor")) (hm:MtR X id r) (ho:PE X o to) (ha:PA X (e::es) t)
  (B:attributeBase o name X.env (eval o X.env)=eval o X.env:=by rfl)
  (G:((backTo cpos (starEach (e::es) X.env)).all (fun x=>!x.1)&&(backToKw cpos (keywordEach [] X.env)).all (fun x=>x.1.isSome)
   && decide ((e::es).length+([]:List Keyword).length+(if([]:List Keyword).isEmpty then 0 else 1)<30))=true:=by rfl)
  (z:(apos.endLine==cpos.line)=true:=by rfl) (hs:starEach (e::es) X.env=(false,eval e X.env)::starEach es X.env:=by rfl) (q:(backTo cpos (starEach es X.env)).any (·.1)=false:=by rfl) :
  PE X (.Call (.Attribute o name apos) (e::es) [] cpos) (tBM X.K T r to t):=by
 refine⟨?_⟩;intro pins s σ H Q I h;refine wpAny_Call_method_late B G z rfl (thn (ho pins s σ H _ I h) fun v s1 ⟨x,H1,Y,M,ty,q1⟩=>?_);obtain⟨h1,h2⟩:=VM Y M ty;refine⟨T,id,pa,F,J,h1,h2,?_⟩;have O:=ha cpos pins s1 σ H1 _ Y q1;rw[hs] at O |-;refine y2b (by show(false || (backTo cpos (starEach es X.env)).any (·.1))=false; rw[q]<;>rfl) (y3f ?_);exact thn O fun us Z ⟨vs,H2,I2,r2,q2⟩=>hm pins Z σ H2 x vs v us Q I2 M r2 q2
end
def MtM(X:Cx)(id:String)(r:V->List V->Hp->VK->Prop):Prop:=
 ∀(pins:List (Addr×Obj)) (s:y9) (σ:St) (H:Hp) (x:V) (xs:List V) (v:ya) (us:List ya) (Q:VK),Inv X pins σ H s->RelV x v->Vals xs us->r x xs H Q->
  yy (y03 X.prog X.w) X.A (call (.builtin id) (v::us)) (EP X pins σ Q) X.xe s
theorem Vals.one:∀{x:V} {us:List ya},Vals [x] us->∃u,us=[u]/\RelV x u
 |_,_,h=>by
  rcases h with _|⟨r,t⟩;cases t;exact⟨_,rfl,r⟩
theorem Vals.two:∀{x y:V} {us:List ya},Vals [x,y] us->∃u v,us=[u,v]/\RelV x u/\RelV y v
 |_,_,_,h=>by
  rcases h with _|⟨r,t⟩;rcases t with _|⟨q,t⟩;cases t;exact⟨_,_,rfl,r,q⟩
section
variable{X:Cx}{pins:List (Addr×Obj)}{σ:St}{H:Hp}{s:y9}{l b:Addr}{xs ys zs:List V}
theorem Inv.lset{z its':List ya}{n:Nat}{f:Array ya->Array ya}{t':Nat}(I:Inv X pins σ H s)(G:H l=some (.lst xs))
  (e:s.heap.get? l=some {cls:=.type "list",data:=.seq z.toArray n}) (hf:f z.toArray=its'.toArray) (hv:Vals ys its') (B:ys.length<=yn) :
  Inv X pins σ (upd H l (.lst ys)) {s with heap:=s.heap.update l (Obj.mapSeq f),toks:=t'}:=by
 have q:=PySem.IsL.update e f;rw[hf] at q;refine I.write (x:=l) (e:=l) (by rw[G]; exact trivial) (.inl rfl) (fun J u hb F=>(Heap.get?_update_other s.heap (Obj.mapSeq f) (y0y hb)).trans F) ⟨_,q⟩ ?_;exact⟨B,its',_,hv,q⟩
theorem Inv.lstM(I:Inv X pins σ H s)(B:H l=some (.lst xs)):xs.length<=yn/\∃(q:List ya) (n:Nat),Vals xs q/\xs.length=q.length/\s.heap.get? l=some {cls:=.type "list",data:=.seq q.toArray n}:=by
 obtain⟨z,q,n,r,e⟩:=I.hok l _ B;exact⟨z,q,n,r,r.length,e⟩
theorem VN(h:n<=yn):Builtin.List.listTooLong n=false:=by
 unfold Builtin.List.listTooLong;exact decide_eq_false (by lia)
end
section
variable{X:Cx}
def Eh:V->List V->Hp->VK->Prop:=fun x vs H Q=>∃l xs y,x=.ref l/\vs=[y]/\H l=some (.lst xs)/\xs.length<yn/\Q .non (upd H l (.lst (xs++[y])))
theorem VO:MtM X "list.append" Eh:=by
 intro pins s σ H x vs v us Q I J M h;obtain⟨l,xs,y,rfl,rfl,G,Y,q⟩:=h;cases J;obtain⟨u,rfl,O⟩:=M.one;obtain⟨z,B,n,r,Z,e⟩:=I.lstM G;refine y3v F.slot_list_append ⟨_,e,rfl⟩ F.entry_list_append (F.args_list_append_2 _ _) (PySem.list_append l B.toArray n u (by rw[y01]; lia)) ⟨e,?_⟩;refine⟨.non,_,I.lset (its':=B++[u]) G e (by simp) (r.append (.cons O .nil)) ?_,rfl,q⟩;rw[yt,List.length_singleton];lia
def Ei:V->List V->Hp->VK->Prop:=fun x vs H Q=>∃l b xs zs,x=.ref l/\vs=[.ref b]/\H l=some (.lst xs)/\H b=some (.lst zs)/\xs.length+zs.length<=yn/\Q .non (upd H l (.lst (xs++zs)))
theorem OR:MtM X "list.extend" Ei:=by
 intro pins s σ H x vs v us Q I O Y h;obtain⟨l,b,xs,zs,rfl,rfl,M,hB,hz,q⟩:=h;cases O;obtain⟨u,rfl,Z⟩:=Y.one;cases Z;obtain⟨z,G,n,r,hl,e⟩:=I.lstM M;obtain⟨z2,B,n2,r2,lc,e2⟩:=I.lstM hB;have hsz:G.toArray.size+B.toArray.size<=yn:=by rw[y01,y01]; lia
 have J:¬ (!G.toArray.isEmpty&&Builtin.List.listTooLong (G.toArray.size+B.toArray.size))=true:=by
  rw[VN hsz,Bool.and_false];exact yo
 refine y3v F.slot_list_extend ⟨_,e,rfl⟩ F.entry_list_extend (F.args_list_extend_2 _ _)
  (AutoSeq1.list_extend_list_list_0 l G.toArray n b B.toArray n2 J (by rw[y01]; lia) (by lia)) ⟨e,e2,?_⟩
 refine⟨.non,_,I.lset (its':=G++B) M e (by simp) (r.append r2) ?_,rfl,q⟩;rw[yt];lia
def Fx:R2:=fun x y H Q=>∃l b xs zs,x=.ref l/\y=.ref b/\H l=some (.lst xs)/\H b=some (.lst zs)/\xs.length+zs.length<=yn/\∀p,H p=none->Q (.ref p) (upd H p (.lst (xs++zs)))
def Fy:R2:=fun x y H Q=>∃l k xs,x=.ref l/\y=.int k/\H l=some (.lst xs)/\-(2^63)<=k/\k<2^63/\xs.length*k.toNat<=yn/\
 ∀p,H p=none->Q (.ref p) (upd H p (.lst (List.replicate k.toNat xs).flatten))
end
section
variable{prog:yl}{w:y07}{A:y0a}{E:ya->y9->Prop}{s:y9}
end
section
variable{X:Cx}
end
end L2
namespace Att
open PySem PySem.W PySem.Calls PyProof.Rows
theorem VP:∀(ns:List Int) (vs:List ya),WellAll P h vs (ns.map WData.int)->IntsAre vs ns:=by
 intro ns;induction ns with
 |nil=>
  intro vs w;rw[y20] at w;cases w;exact .nil
 |cons n ns q=>
  intro vs w;rw[yc] at w;cases w with
  |cons a b=>
   cases a;exact .cons _ _ (q _ b)
theorem VQ{l:OpenLaw}{n:Nat}(hn:l.most=some n){P:Params}{h:Heap}{args:List WData}{z:List ya}
  (B:l.row.toRowW.claim.pre args=true) (O:WellAll P h z args) :
  ∃a vs ns,z=[Value.ref a]/\args=[WData.list (ns.map WData.int)]/\h.get? a=some {cls:=.type "list",data:=.seq vs.toArray}/\IntsAre vs ns/\ns.length<=n:=by
 have Y:WShape.hasAll [] args [.list .int]=true:=(pre_splitW B).1;have hc:l.pre.holds [] {args:=args}=true:=(pre_splitW B).2;obtain⟨d,r,rfl,h1,h2⟩:=hasAllW_cons Y;obtain rfl:=hasAllW_nil h2;obtain⟨xs,rfl,h3⟩:=hasW_list h1;obtain⟨ns,rfl⟩:=items_int h3;have F:ns.length<=n:=by
  unfold OpenLaw.pre at hc;have M:(WTm.not (.lt (.lit (.int (n:Int))) (.len (.arg 0)))).holds [] {args:=[.list (ns.map .int)]}=true:=by
   have M:=(holds_andW hc).1;rw[hn] at M;exact M
  have J:=condW_of M (w_not (w_lt w_lit (w_len_list (w_arg rfl))));rw[y4] at J;refine Nat.le_of_not_lt fun q=>?_;have q':(n:Int)<((ns.length:Nat):Int):=by lia
  first
   |(rw[decide_eq_true q'] at J; exact absurd J (by decide))
   |(simp at J; lia)
 cases O with
 |cons w1 Z=>
  cases Z;cases w1 with
  |list ho G=>exact⟨_,_,ns,rfl,rfl,ho,VP ns _ G,F⟩
theorem VR(l:OpenLaw)(args:List WData):l.row.toRowW.claim.post args (.bool true) args=true:=
 postW_of (r:=l.row.toRowW) (X:=(true==true))
  (show WShape.has [] (.bool true) .bool=true by first|rfl|decide|simp[WShape.has,WShape.arms,WShape.armsAll])
  (show(WTm.eq .res (.lit (.bool true))).value [] {args:=args,res:=some (.bool true),after:=args}=some (.bool (true==true)) from w_eq_bool (w_res rfl) w_lit) rfl
theorem VS{l:OpenLaw}{n:Nat}{q:yl}{B:List Str}{XP:(Str->Option ya)->Heap->Prop}{YP:y07->Heap->Prop}{d:DefRec}
  (hn:l.most=some n) (lh:d.params.defaults=[])
  (call:∀(w:y07) (s₀ z:y9) (mg mb:Str->Option ya) (fa:Addr) (o:Obj) (pm cd J:ya) (a:Addr) (vs:List ya) (ns:List Int),
   Ground q B [] XP w s₀ mg mb z.heap->YP w z.heap->
   z.heap.get? fa=some o->o.data=.func (docDef d.name d.params d.body d.scope pm cd J)->z.heap.CodeRec cd d.name->mg d.name=some (.ref fa)->
   z.heap.get? a=some {cls:=.type "list",data:=.seq vs.toArray}->IntsAre vs ns->ns.length<=n->z.gens = #[]->
   codeAny (y03 l.prog w) callerA (.call (.ref fa) ⟨[.ref a],[]⟩) (fun r s'=>r=.ok (.ret (.bool true))/\OldK z.heap s'.heap/\s'.os=z.os/\AllBare s'.gens) z) :
  WalkO q B XP YP l.row.toRowW d [] (fun f vs=>PySem.call f vs):=by
 intro w s₀ z mg mb G Y fa o pm cd J dV kV ho hd lj hD lg hg args lm as M ln lp lc lq;obtain rfl:dV=.none:=Dflts.none hD lh;obtain rfl:kV=.none:=Dflts.noKw hD;obtain⟨a,vs,ns,rfl,rfl,O,F,Z⟩:=VQ hn M lc;refine enter_call (y1w (call w s₀ z mg mb fa o pm cd J a vs ns G Y ho (fd_plain hd) lj lg O F Z hg) fun r s' hq=>?_);obtain⟨rfl,h2,h3,h4⟩:=hq;exact⟨.inl ⟨.bool true,.bool true,[],rfl,fun _=>rfl,.bool true,VR l _,fun _=>⟨List.Pairwise.nil,fun _ hm=>(nomatch hm)⟩⟩,h2,h3,h4⟩
section
variable{prog:yl}{w:y07}{A:y0a}{E:ya->y9->Prop}{s:y9}{K:Frag}
end
end Att
namespace L2
open PySem PySem.Spec PyProof.Rows
theorem OS:∀{vs:List ya} {ns:List Int},IntsAre vs ns->Vals (ns.map V.int) vs
 |_,_,.nil=>.nil
 |_,_,.cons n t h=>.cons ⟨t,rfl⟩ (OS h)
def defArgs(s:Stmt):Arguments:=match s with
 |.FunctionDef _ a _ _ _ _ _ _ _ _=>a
 |_=>{posonlyargs:=[],args:=[],vararg:=none,kwonlyargs:=[],kw_defaults:=[],kwarg:=none,defaults:=[]}
def defBody(s:Stmt):List Stmt:=match s with
 |.FunctionDef _ _ b _ _ _ _ _ _ _=>b
 |_=>[]
def defScope(s:Stmt):Scope:=match s with
 |.FunctionDef _ _ _ _ _ _ sc _ _ _=>sc
 |_=>{kind:=.function,names:=[],isGenerator:=false,isCoroutine:=false}
abbrev CX0:CXT:=fun _ _ _ _ _ _=>False
abbrev E0:XK:=fun _ _ _=>False
structure Fun(K:y3)(x qual:Str)(st:Stmt)(f:Addr)(fd:y0v):Prop where
 ex:∃(oc:ya) (od:Option Addr) (kV doc pm:ya) (an:Option Addr) (cdv ct:ya) (osl:Array (Option ya)),
  fd=PySem.W.fnOf x qual (defArgs st) (defBody st) (defScope st) .none kV doc pm an cdv ct/\K.lookup f=some ⟨oc,od,.func fd,osl⟩/\PySem.W.codeIn K cdv qual=true
 kp:PySem.W.keepIn K (.ref f)=true
section
variable{P:yl}{w:y07}{K:y3}{mg:Str->Option ya}{base:Heap}
theorem Fun.ok{x qual:Str}{st:Stmt}{f:Addr}{fd:y0v}{N ps:List Str}{k:Nat}{sp:Sp}(F:Fun K x qual st f fd)(S:FnScope N ps (defScope st))(len:∀vs H Q E,sp vs H Q E->vs.length=ps.length)
  (B:∀(z:ya) (A:y0a) (outer:List Env) (s:y9) (H:Hp) (vs:List V) (Q:VK) (E:XK),Room k (A.deeper (envOfC qual (defScope st) s.heap.objs.size f z))->sp vs H Q E->
   ∃t,PSs (BH CX0 P w K mg base N qual (defScope st) f z A outer s H E).nox (defBody st) t/\t {nx:=fun _ H'=>Q .non H',rt:=Q} (start N vs) H):FnOk P w K mg base CX0 (k+1) f fd ps sp:=by
 obtain⟨oc,od,kV,Y,Z,an,z,ct,M,rfl,O,J⟩:=F.ex
 refine OG O J S len fun A outer s H vs Q E hr G=>?_
 obtain⟨t,h,q⟩:=B z A outer s H vs Q E hr G
 exact⟨t,h.nox,q⟩
theorem Fun.binds{x qual:Str}{st:Stmt}{f:Addr}{fd:y0v}{ps:List Str}(F:Fun K x qual st f fd)
  (h:∀(kV q B:ya) (G:Option Addr) (z ct:ya) (us:List ya),us.length=ps.length->bindArgs (PySem.W.fnOf x qual (defArgs st) (defBody st) (defScope st) .none kV q B G z ct) ⟨us,[]⟩=pure (ps.zip us)):Binds K fd ps []:=by
 obtain⟨Y,O,kV,q,B,G,z,ct,J,rfl,Z,M⟩:=F.ex;exact .all (h kV q B G z ct)
theorem Hg{x qual:Str}{st:Stmt}{f:Addr}{M:ya}{J G:Option Addr}{B:Array (Option ya)}{kV z F q ct:ya}(l:K.lookup f=some ⟨M,J,.func (PySem.W.fnOf x qual (defArgs st) (defBody st) (defScope st) .none kV z F G q ct),B⟩)
  (c:PySem.W.codeIn K q qual=true) (k:PySem.W.keepIn K (.ref f)=true):Fun K x qual st f (PySem.W.fnOf x qual (defArgs st) (defBody st) (defScope st) .none kV z F G q ct):=⟨⟨M,J,kV,z,F,G,q,ct,B,rfl,l,c⟩,k⟩
theorem An(h:n<=1000):n<yn:=y1k h (by decide)
end
section
variable{X:Cx}
theorem pv(i:Nat)(z:X.N[i]?=some x:=by rfl)(hv:Vis X.env.scope x:=by first|exact Or.inl rfl|exact Or.inr (Or.inl rfl)|exact Or.inr (Or.inr rfl)) (hd:(x==("__debug__" : Str))=false:=by decide)
  (q:(x==("__classdict__" : Str))=false:=by decide):PE X (.Name x pos) (Az i):=AQ z hv hd q
def Same(H H':Hp):Prop:=∀b o,H b=some o->H' b=some o
theorem Same.refl(H:Hp):Same H H:=fun _ _ h=>h
theorem Same.trans(a:Same H H1)(b:Same H1 H2):Same H H2:=fun c o h=>b c o (a c o h)
theorem Same.free(e:Same H H')(h:H' l=Option.none):H l=Option.none:=by
 cases q:H l with
 |none=>rfl
 |some o=>
  rw[e l o q] at h;cases h
theorem Same.seq{K:y3}{H H':Hp}{a:Addr}{xs:List V}(e:Same H H')(h:SqL K H a xs):SqL K H' a xs:=by
 rcases h with(h|⟨o,h⟩)|h
 ·exact .inl (.inl (e _ _ h))
 ·exact .inl (.inr ⟨o,e _ _ h⟩)
 ·exact .inr h
theorem L9(env:Env):∀(names:List (Str×NameKind)) (acc:List (Str×Addr)),(∀y∈names,y.2=.free->∃c,env.cells.lookup y.1=some c)->(∀x c,acc.lookup x=some c->env.cells.lookup x=some c)->
  ∃cl,(forIn names acc fun(p:Str×NameKind) (r:List (Str×Addr))=>(match p with|(name,kind)=>if(kind==NameKind.free)=true then(do let c <- cellOf env name; pure (ForInStep.yield ((name,c)::r))) else pure (ForInStep.yield r)):Sem (List (Str×Addr)))=pure cl/\
   (∀x c,cl.lookup x=some c->env.cells.lookup x=some c)/\(∀x,(∃c,acc.lookup x=some c)->∃c,cl.lookup x=some c)/\(∀y∈names,y.2=.free->∃c,cl.lookup y.1=some c)
 |[],acc,_,ha=>⟨acc,by simp,ha,fun _ h=>h,fun _ h=>absurd h (by simp)⟩
 |(n,k)::r,acc,hn,ha=>by
  by_cases hk:k=.free
  ·obtain⟨c,hc⟩:=hn (n,k) y00 hk
   have ha':∀x c',((n,c)::acc).lookup x=some c'->env.cells.lookup x=some c':=fun x c' h=>by
    by_cases hx:x=n
    ·subst hx
     rw[y3c] at h
     cases h; exact hc
    ·have hx':(x==n)=false:=by simpa using hx
     simp only[y0x,hx'] at h
     exact ha x c' h
   obtain⟨cl,e,p1,p2,p3⟩:=L9 env r ((n,c)::acc) (fun y hy=>hn y (yx _ hy)) ha'
   refine⟨cl,?_,p1,fun x ⟨c',hc'⟩=>p2 x ?_,fun y hy hf=>?_⟩
   ·have hco:cellOf env n=pure c:=by unfold cellOf; rw[hc]
    rw[List.forIn_cons]
    subst hk
    simp only[beq_self_eq_true,if_true,hco,pure_bind]
    exact e
   ·by_cases hx:x=n
    ·exact⟨c,by subst hx; rw[y3c]⟩
    ·have hx':(x==n)=false:=by simpa using hx
     exact⟨c',by simp only[y0x,hx']; exact hc'⟩
   ·rcases List.mem_cons.mp hy with rfl|hy
    ·exact p2 _ ⟨c,by rw[y3c]⟩
    ·exact p3 y hy hf
  ·obtain⟨cl,e,p1,p2,p3⟩:=L9 env r acc (fun y hy=>hn y (yx _ hy)) ha
   refine⟨cl,?_,p1,p2,fun y hy hf=>?_⟩
   ·have hb:(k==NameKind.free)=false:=by simpa using hk
    rw[List.forIn_cons]
    simp only[hb,y15,if_false,pure_bind]
    exact e
   ·rcases List.mem_cons.mp hy with rfl|hy
    ·exact absurd hf hk
    ·exact p3 y hy hf
theorem OT(h:∀y∈scope.names,y.2=.free->∃c,env.cells.lookup y.1=some c) :
  ∃cl,closureFor scope env=pure cl/\(∀x c,cl.lookup x=some c->env.cells.lookup x=some c)/\(∀y∈scope.names,y.2=.free->∃c,cl.lookup y.1=some c):=by
 obtain⟨cl,e,p1,_,z⟩:=L9 env scope.names [] h (fun x c q=>by simp at q);refine⟨cl,?_,p1,z⟩;unfold closureFor;simp only[bind_pure];exact e
theorem LA{env:Env}:∀{names:List (Str×NameKind)} {x:Str} {k:NameKind},(names.map fun(n,k)=>if(k==NameKind.free&&env.scope.kind==.function&&env.kindOf n==some .cell) then(n,NameKind.cell) else(n,k)).lookup x=some k->
  (∀y∈names,y.2≠.cell)->k=.cell\/k=.free->names.lookup x=some .free
 |[],_,_,h,_,_=>by simp at h
 |(n,z)::r,x,k,h,hc,hk=>by
  have B:=@LA env r x k;rw[yc] at h;cases hx:x==n with
  |true=>
   have F:z≠.cell:=hc (n,z) y00;simp only[y0x,hx];by_cases q:(z==NameKind.free&&env.scope.kind==.function&&env.kindOf n==some .cell)=true
   ·have:z=.free:=by
     simp only[yk,beq_iff_eq] at q;exact q.1.1
    rw[this]
   ·dsimp only at h;rw[if_neg q] at h;simp only[y0x,hx] at h;have h:z=k:=by simpa using h
    subst h;rcases hk with hk|hk
    ·exact absurd hk F
    ·rw[hk]
  |false=>
   simp only[y0x,hx];refine B ?_ (fun y hy=>hc y (yx _ hy)) hk;by_cases q:(z==NameKind.free&&env.scope.kind==.function&&env.kindOf n==some .cell)=true
   ·dsimp only at h;rw[if_pos q] at h;simp only[y0x,hx] at h; exact h
   ·dsimp only at h;rw[if_neg q] at h;simp only[y0x,hx] at h; exact h
end
def B7(X:Cx)(q:List Str)(scope:Scope)(cl:List (Str×Addr))(C:Addr)(s₀:y9)(H₀:Hp)(ex:List Addr):Cx:=
 {X with N:=q,s₀:=s₀,H₀:=H₀,env:=compEnvC scope cl C X.env,outer:=X.stack,stack:=X.stack,ex:=ex,fn:=fun _=>false,pn:=[],xe:=fun _ _=>False}
def subσ(q:List (Option Nat))(σ:St):St:=q.map fun o=>match o with|none=>none|some i=>(σ[i]?).getD none
def compOk(N:List Str)(on q:List (Str×NameKind))(B:List Str)(z:List (Option Nat)):Bool:=
 z.length==B.length&&(B.zip z).all fun p=>match p.2 with
  |none=>true
  |some i=>N[i]? == some p.1&&q.lookup p.1==some .free&&on.lookup p.1==some .cell
abbrev PIfv(X:Cx)(ifs:List Expr)(t:TT):Prop:=
 ∀(pins:List (Addr×Obj)) (s:y9) (σ:St) (H:Hp) (Q:Bool->Hp->Prop),Inv X pins σ H s->t σ H Q->
  yy (y03 X.prog X.w) X.A (forIn ifs true fun c r=>if r=true then do let ok <- isTrue c X.env (eval c X.env); pure (ForInStep.yield ok) else pure (ForInStep.yield r)) (TP X pins σ Q) X.xe s
structure PIf(X:Cx)(ifs:List Expr)(t:TT):Prop where
 run:PIfv X ifs t
instance{X:Cx}{ifs:List Expr}{t:TT}:CoeFun (PIf X ifs t) (fun _=>PIfv X ifs t):=⟨PIf.run⟩
def Cz:TT:=fun _ H Q=>Q true H
theorem C1:PIf X [] Cz:=⟨fun pins s σ H Q I h=>wpAny_tests_nil ⟨H,I,h⟩⟩
theorem VT(h:PT X c t):PIf X [c] t:=⟨fun pins s σ H Q I q=>wpAny_tests_one (h pins s σ H Q I q)⟩
theorem VU{R:Result->y9->Prop}(I:Nat->y9->Prop)
  (turn:∀n s,I n s->yy (y03 prog w) A (pyNext it) (fun r s₁=>match r with
   |none=>R (.ok .next) s₁
   |some v=>yy (y03 prog w) A (letOwnedTupleGo target it v) (fun _ s₀=>yy (y03 prog w) A (assign target env v) (fun _ s₂=>
     yy (y03 prog w) A (forIn ifs true fun c r=>if r=true then do let ok <- isTrue c env (eval c env); pure (ForInStep.yield ok) else pure (ForInStep.yield r)) (fun ok s₃=>if ok=true then yy (y03 prog w) A (eval elt env) (fun x s₄=>
      yy (y03 prog w) A (call (.builtin "list.append") [acc,x]) (fun _ s₅=>∃m,m<n/\I m s₅) (fun _ _=>False) s₄) (fun _ _=>False) s₃
      else ∃m,m<n/\I m s₃) (fun _ _=>False) s₂)
     (fun _ _=>False) s₀) (fun _ _=>False) s₁) (fun _ _=>False) s)
  (n:Nat) (h:I n s):codeAny (y03 prog w) A (.compLoop (.ListComp elt [⟨target,iter,ifs,0⟩] scope pos) 0 it acc env) R s:=by
 refine codeAny_loop rfl I (fun n s hI=>?_) n h
 show yy _ A ((compTurn (.ListComp elt [⟨target,iter,ifs,0⟩] scope pos) 0 it acc env).onRaise (fun x=>do noteFrame x env; theTreesLotGoes x)) _ _ s
 refine wpAny_noted ?_
 rw[compTurn_list]
 refine y8 (wpAny_standAt (y8 (y18 (turn n s hI) (fun r s₁ h₁=>?_) fun _ _ h'=>h'.elim)))
 cases r with
 |none=>exact ye h₁
 |some v=>
  refine y8 (y18 h₁ (fun _ s₀ h₀'=>?_) fun _ _ h'=>h'.elim)
  refine y8 (y18 h₀' (fun _ s₂ h₂=>?_) fun _ _ h'=>h'.elim)
  refine y8 (y18 h₂ (fun okb s₃ h₃=>?_) fun _ _ h'=>h'.elim)
  cases okb with
  |false=>exact ye ⟨rfl,h₃⟩
  |true=>exact y8 (y8 (y18 h₃ (fun x s₄ h₄=>y8 (y18 h₄ (fun _ s₅ h₅=>ye (ye ⟨rfl,h₅⟩)) fun _ _ h'=>h'.elim)) fun _ _ h'=>h'.elim))
theorem Inv.track(I:Inv X pins σ H s)(F:H a=none)(f:FpOk X pins H a)(B:ObjOk X.prog X.w (upd H a o) s.heap a o):Inv X pins σ (upd H a o) s:=by
 obtain⟨_,Y,Z,O,M,G⟩:=f;have z:∀b u,H b=some u->b≠a:=fun b u e=>Ag e F;have J:=I.step (g':=s.gens) (t':=s.toks) (d':=s.drawn) (ch:=[a]) (h':=s.heap) (H':=upd H a o) (fun b hb=>by
   have e:b=a:=by simpa using hb
   subst e
   exact⟨O,Y,M,G⟩) (fun b o _ _ _ e _=>e) (fun b o _ _ _ e _=>⟨o.slots,e⟩) (fun b o hb _ n=>by rw[AB (by simpa using hb)]; exact n) (fun b o _ e=>⟨o,e⟩)
  (fun b xs e=>by rw[AB (z b _ e)]; exact e) (fun b o u e=>by rw[AB (z b _ e)]; exact e) (fun b ps e=>⟨#[],by rw[AB (z b _ e),e]; simp⟩) (fun m hm=>hm) (fun b u e=>by
   by_cases hb:b=a
   ·subst hb; rw[A6] at e; cases e; exact B
   ·rw[AB hb] at e
    exact(I.hok b u e).stay (fun c v _ q=>q) (fun c q=>by rw[AB (z c _ q)]; exact q) fun c xs q=>by rw[AB (z c _ q)]; exact q) I.bare
 exact J
def CM(M:TI)(g:TG)(tt:TT)(te:TE)(O:List (Option Nat)):TE:=fun σ H Q=>M σ H fun J H1=>∃W:Nat->Nat->List V->St->Hp->Prop,(∃m,W 0 m [] (subσ O σ) H1)/\∀i m ys σ H,W i m ys σ H->
 (J.stop i H/\ys.length<=yn/\∀p,H p=none->Q (.ref p) (upd H p (.lst ys)))\/(J.go i H/\ys.length<yn/\∃N:List V->St->Hp->Prop,(∀B z H',N B z H'->∃F,F<m/\W (i+1) F B z H')/\∀x H',J.yld i H x H'->g x σ H' fun q H2=>tt q H2 fun b G=>
  if b=true then te q G (fun v Y=>N (ys++[v]) q Y) else N ys q G)
structure CompS(X:Cx)(N':List Str)(scope:Scope)(mp:List (Option Nat)):Prop where
 kind:scope.kind=.function
 nocell:∀y∈scope.names,y.2≠.cell
 locs:∀y∈scope.names,y.2=.local->scope.names.lookup y.1=some .local
 frees:∀y∈scope.names,y.2=.free->X.env.scope.names.lookup y.1=some .cell
 ok:compOk X.N X.env.scope.names scope.names N' mp=true
theorem VV(h:compOk N on inn N' mp=true):mp.length=N'.length/\∀(j:Nat) (x:Str) (i:Nat),N'[j]?=some x->mp[j]?=some (some i)->N[i]?=some x/\inn.lookup x=some .free/\on.lookup x=some .cell:=by
 unfold compOk at h;rw[yk] at h;obtain⟨h1,h2⟩:=h;refine⟨by simpa using h1,fun j x i B z=>?_⟩;have hm:(x,some i)∈N'.zip mp:=by
  refine yi (i:=j) ?_;rw[List.getElem?_zip_eq_some];exact⟨B,z⟩
 have q:=List.all_eq_true.mp h2 _ hm;simp only[yk,beq_iff_eq] at q;exact⟨q.1.1,q.1.2,q.2⟩
theorem subσ_get{q:List (Option Nat)}{σ:St}{j:Nat}{v:V}(h:(subσ q σ)[j]?=some (some v)):∃i,q[j]?=some (some i)/\σ[i]?=some (some v):=by
 unfold subσ at h;rw[ym] at h;cases e:q[j]? with
 |none=>rw[e] at h; cases h
 |some o=>
  rw[e] at h;cases o with
  |none=>simp at h
  |some i=>
   refine⟨i,rfl,?_⟩;cases B:σ[i]? with
   |none=>simp[B] at h
   |some z=>
    simp[B] at h;rw[h]
section
variable{X:Cx}{pins:List (Addr×Obj)}{σ:St}{H:Hp}
theorem OU{lX tg lx:Expr}{lT:List Expr}{scope:Scope}{pos:Pos}{N':List Str}{mp:List (Option Nat)}{g:TG}{tt:TT}{te:TE}{q:y9}{it:Addr}{O:List Addr}{tn:Nat->Heap->Prop}{J:It}{cl:List (Str×Addr)}
  {Qe:V->Hp->Prop} {RR:ya->Addr->Result->y9->Prop} {E:ya->y9->Prop} (hc:X.calm=true) (S:CompS X N' scope mp)
  (lj:∀x c,cl.lookup x=some c->X.env.cells.lookup x=some c) (md:∀y∈scope.names,y.2=.free->∃c,cl.lookup y.1=some c)
  (hg:∀C s₀ H₀ ex,PG (B7 X N' scope cl C s₀ H₀ ex) tg g) (ht:∀C s₀ H₀ ex,PIf (B7 X N' scope cl C s₀ H₀ ex) lT tt) (he:∀C s₀ H₀ ex,PE (B7 X N' scope cl C s₀ H₀ ex) lX te)
  (I:Inv X pins σ H q) (T:Turn X.prog X.w X.K tg J O it tn) (st:tn 0 q.heap) (hf:∀b∈O,FpOk X pins H b)
  (hw:∃W:Nat->Nat->List V->St->Hp->Prop,(∃m,W 0 m [] (subσ mp σ) H)/\∀i m ys σ H,W i m ys σ H->
   (J.stop i H/\ys.length<=yn/\∀p,H p=none->Qe (.ref p) (upd H p (.lst ys)))\/(J.go i H/\ys.length<yn/\∃N:List V->St->Hp->Prop,(∀lY G H',N lY G H'->∃m',m'<m/\W (i+1) m' lY G H')/\∀x H',J.yld i H x H'->g x σ H' fun ls H2=>tt ls H2 fun b H3=>
  if b=true then te ls H3 (fun v H4=>N (ys++[v]) ls H4) else N ys ls H3))
  (hR:∀(D C:Addr) (H':Hp) (s':y9),Inv X pins σ H' s'->Qe (.ref D) H'->(∃m,s'.heap.Ns C m)->FpOk X pins H' C->RR (.ref D) C (.ok .next) s') :
  yy (y03 X.prog X.w) X.A (newList []) (fun ml lh=>yy (y03 X.prog X.w) X.A (newFunctionEnv scope X.env.globals cl [] X.env.qual none .none (some X.env)) (fun lQ lZ=>
   codeAny (y03 X.prog X.w) X.A (.compStart (.ListComp lX [⟨tg,lx,lT,0⟩] scope pos) 0 (.ref it) ml {lQ with scope:=relabel scope X.env}) (RR ml lQ.locals) lZ) E lh) E q:=by
 obtain⟨W,⟨m0,w0⟩,turn⟩:=hw;refine y2l (wpAny_newFunctionEnv S.nocell (by intro y hy; simp at hy) (fun h₁ Z Y=>?_) S.kind);dsimp only at Z Y |-;generalize hH2:q.heap.push {cls:=.type "list",dict:=none,data:=.seq ([]:List ya).toArray}=H2 at Z Y |-;have me:H2.objs.size=q.heap.objs.size+1:=by rw[<- hH2,y11]
 have I3:Inv X pins σ H {q with heap:=H2}:=by
  rw[<- hH2];exact I.kept (t':=q.toks) fun b o e=>y6 _ e
 have k1:∀b u,H2.get? b=some u->h₁.get? b=some u:=fun b u e=>Y.extBut b u (yj (yd e)) (y6 _ e);have M:FpOk X pins H q.heap.objs.size:=I.fpOk (yb _) (I.hok.fresh (yb _));have mo:FpOk X pins H H2.objs.size:=I3.fpOk (yb _) (I3.hok.fresh (yb _));have ly:∀b∈O,b<q.heap.objs.size:=fun b hb=>let ⟨o,e,_⟩:=T.obj 0 _ st b hb; yd e;have lp:q.heap.objs.size∉O:=fun z=>absurd (ly _ z) (y0t _);have lg:q.heap.objs.size≠H2.objs.size:=by rw[me]; exact yj (y3a _)
 have lc:∀b∈q.heap.objs.size::O,FpOk X pins H b:=fun b hb=>(List.mem_cons.mp hb).elim (fun e=>e ▸ M) (hf b);have lP:∀b∈q.heap.objs.size::O,b≠H2.objs.size:=fun b hb=>(List.mem_cons.mp hb).elim (fun e=>e ▸ lg) fun z=>yj (y0w (ly b z) (by rw[me]; exact y3a _));have lm:∀b,FpOk X pins H b->b∉frs X.stack:=fun b f z=>(List.mem_cons.mp (I.stkSub b z)).elim f.2.1 f.2.2.1;have my:(B7 X N' scope cl H2.objs.size {q with heap:=H2} H (q.heap.objs.size::O)).Ok:=by
  refine⟨I.ok.mod,S.kind,I.ok.glob,I.ok.blt,yb _,fun x y c h1 h2=>I.ok.inj x y c (lj x c h1) (lj y c h2),fun x hx=>?_,fun x c hx=>absurd hx (by show ¬ false=true; decide),I.ok.hd,I.ok.frames,.inl rfl,
   fun b hb=>⟨lP b hb,fun x c e=>(lc b hb).2.2.2.2.1 x c (lj x c e)⟩,fun b o e=>I3.bs b o e,y0d I.ok.bsz I3.sz,fun b o e hb=>?_,fun b hb=>lm b (lc b hb),I3.stack,I3.stkFree⟩
  ·have mB:(relabel scope X.env).names.lookup x=some .cell\/(relabel scope X.env).names.lookup x=some .free:=hx;have lV:scope.names.lookup x=some .free:=by
    rcases mB with z|z
    ·exact LA z S.nocell (.inl rfl)
    ·exact LA z S.nocell (.inr rfl)
   exact md (x,.free) (y0l lV) rfl
  ·rcases(lc b hb).2.2.2.1 with z|z
   ·exact I.ok.noex b o e z
   ·exact absurd (yw (yd e) (y0d I.ok.bsz z)) (y0t _)
 obtain⟨mE,mD⟩:=VV S.ok;let XC:=B7 X N' scope cl H2.objs.size {q with heap:=H2} H (q.heap.objs.size::O)
 have J4:Inv (B7 X N' scope cl H2.objs.size {q with heap:=H2} H (q.heap.objs.size::O)) [] (subσ mp σ) H {q with heap:=h₁,toks:=q.toks+([]:List (Str×ya)).length}:=by
  refine⟨my,rfl,I.bare,Un.kept k1,⟨_,Z,fun j x v e1 e2 e3=>?_⟩,fun x c e=>?_,mo.1,fun x c e=>I.freeC x c (lj x c e),fun p hp=>absurd (show p∈([]:List (Addr×Obj)) from hp) (by simp),I3.hok.kept k1,by show(subσ mp σ).length=N'.length; unfold subσ; rw[y4,mE]⟩
  ·obtain⟨i,q1,q2⟩:=subσ_get e2;obtain⟨n1,n2,n3⟩:=mD j x i e1 q1;obtain⟨m,hn,hl⟩:=I3.loc;obtain⟨u,ru,lk⟩:=hl i x v n1 q2 (.inr (.inl n3));refine⟨u,ru,?_⟩;rcases lk with⟨z,_⟩|⟨_,c,ec,z⟩
   ·have z':X.env.scope.names.lookup x=some .local:=z;rw[n3] at z'; cases z'
   ·obtain⟨c',mh⟩:=md (x,.free) (y0l n2) rfl;have e4:=lj x c' mh;rw[ec] at e4; cases e4;refine .inr ⟨?_,c,mh,?_⟩
    ·have z3:(relabel scope X.env).names.lookup x=some .local\/(relabel scope X.env).names.lookup x=some .cell\/(relabel scope X.env).names.lookup x=some .free:=e3;rcases z3 with z3|z3|z3
     ·exfalso;have:∀(names:List (Str×NameKind)),names.lookup x=some .free->(names.map fun(n,k)=>if(k==NameKind.free&&X.env.scope.kind==.function&&X.env.kindOf n==some .cell) then(n,NameKind.cell) else(n,k)).lookup x≠some .local:=by
       intro names;induction names with
       |nil=>intro h; simp at h
       |cons p r ih=>
        obtain⟨n,k⟩:=p;intro h;cases hx:x==n with
        |true=>
         simp only[y0x,hx] at h;cases h;rw[yc];dsimp only;split<;>simp[y0x,hx]
        |false=>
         simp only[y0x,hx] at h;rw[yc];dsimp only;split<;>(simp only[y0x,hx]; exact ih h)
      exact this scope.names n2 z3
     ·exact .inl z3
     ·exact .inr z3
    ·obtain⟨o,ho,hd⟩:=z;exact⟨o,k1 _ _ ho,hd⟩
  ·obtain⟨v,o,ho,hd⟩:=I3.cell x c (lj x c e);exact⟨v,o,k1 _ _ ho,hd⟩
 have mj:h₁.get? q.heap.objs.size=some {cls:=.type "list",data:=.seq ([]:List ya).toArray 0}:=k1 _ _ (by rw[<- hH2]; exact yg _ rfl);have st4:tn 0 h₁:=T.keep _ _ _ st fun b _ o e=>k1 b o (by rw[<- hH2]; exact y6 _ e);have mG:∀{H':Hp},(∀b∈O,H' b=none)->∀b∈O,FpOk (B7 X N' scope cl H2.objs.size {q with heap:=H2} H (q.heap.objs.size::O)) [] H' b:=fun hn b hb=>
  ⟨hn b hb,lP b (yx _ hb),lm b (hf b hb),.inl (yx _ hb),fun x c e=>(hf b hb).2.2.2.2.1 x c (lj x c e),fun p hp=>absurd (show p∈([]:List (Addr×Obj)) from hp) (by simp)⟩
 have mi:∀{H':Hp},H' q.heap.objs.size=none->FpOk (B7 X N' scope cl H2.objs.size {q with heap:=H2} H (q.heap.objs.size::O)) [] H' q.heap.objs.size:=fun hn=>
  ⟨hn,lg,lm _ M,.inl y00,fun x c e=>M.2.2.2.2.1 x c (lj x c e),fun p hp=>absurd (show p∈([]:List (Addr×Obj)) from hp) (by simp)⟩
 have lv:∀lh:y9,lh = {q with heap:=h₁,toks:=q.toks+([]:List (Str×ya)).length}->
   codeAny (y03 X.prog X.w) X.A (.compLoop (.ListComp lX [⟨tg,lx,lT,0⟩] scope pos) 0 (.ref it) (.ref q.heap.objs.size) (compEnvC scope cl H2.objs.size X.env)) (RR (.ref q.heap.objs.size) H2.objs.size) lh:=by
  rintro lh rfl
  refine VU (fun n s'=>∃i G H' ys B k,Inv (B7 X N' scope cl H2.objs.size {q with heap:=H2} H (q.heap.objs.size::O)) [] G H' s'/\tn i s'.heap/\(∀b∈O,H' b=none)/\H' q.heap.objs.size=none/\
   Vals ys B/\s'.heap.get? q.heap.objs.size=some {cls:=.type "list",data:=.seq B.toArray k}/\W i n ys G H') ?_ m0 ⟨0,subσ mp σ,H,[],[],0,J4,st4,fun b hb=>(hf b hb).1,M.1,.nil,mj,w0⟩
  rintro n s5 ⟨i,lr,H5,ys,B,k,J5,ma,mf,lu,vy,ea,w5⟩
  have zv:B.length=ys.length:=vy.length.symm
  have lS:∀{G:St} {H':Hp} {s':y9} {o:Obj},Inv XC [] G H' s'->H' q.heap.objs.size=none->s'.heap.get? q.heap.objs.size=some o->(∀v,o.data≠.cell v)->Inv XC [(q.heap.objs.size,o)] G H' s':=fun {G H' s' o} J a1 a2 a3=>J.pins_of fun p hp=>by
   have e:p=(q.heap.objs.size,o):=by simpa using hp
   subst e
   exact⟨a2,a1,lg,lm _ M,a3⟩
  have lW:∀{H':Hp} {o:Obj},(∀b∈O,H' b=none)->∀b∈O,FpOk XC [(q.heap.objs.size,o)] H' b:=fun {H' o} hn b hb=>by
   obtain⟨c1,c2,c3,c4,c5,_⟩:=mG hn b hb
   refine⟨c1,c2,c3,c4,c5,fun p hp=>?_⟩
   have e:p=(q.heap.objs.size,o):=by
    have mC:p∈([]++[(q.heap.objs.size,o)]:List (Addr×Obj)):=hp
    simpa using mC
   subst e
   intro z
   exact lp (by rw[show q.heap.objs.size=b from z]; exact hb)
  have mz:∀(us:List ya) (k:Nat) (v:Option ya),({cls:=.type "list",data:=.seq us.toArray k}:Obj).data≠.cell v:=fun us k v z=>by
   have z':Data.seq us.toArray k=Data.cell v:=z
   cases z'
  have mm:=lS J5 lu ea (mz B k)
  rcases turn i n ys lr H5 w5 with⟨stop,zl,qn⟩|⟨go,zl,N,hN,step⟩
  ·refine thn (T.done XC rfl rfl rfl hc i _ s5 lr H5 _ mm (lW mf) ma stop) fun r s6 ⟨hr,J6⟩=>?_
   subst hr
   have I6:Inv X pins σ H5 s6:=I3.call' (ch:=q.heap.objs.size::O) (show s6.os=_ from J6.os) J6.base J6.hok J6.bare fun b hb=>let ⟨_,a1,_,a3,a4,a5⟩:=lc b hb; ⟨a3,a1,a4,a5⟩
   have mI:s6.heap.get? q.heap.objs.size=some {cls:=.type "list",data:=.seq B.toArray k}:=(J6.pin _ (y06 _ (List.mem_singleton.mpr rfl))).1
   have I7:Inv X pins σ (upd H5 q.heap.objs.size (.lst ys)) s6:=I6.track lu ⟨lu,M.2⟩ ⟨zl,B,k,vy,mI⟩
   obtain⟨m,hm,_⟩:=J6.loc
   exact hR _ _ _ s6 I7 (qn _ lu) ⟨m,hm⟩ ⟨by rw[AB (y0y lg)]; exact J6.free,mo.2⟩
  ·refine thn (T.item XC rfl rfl rfl hc i _ s5 lr H5 _ mm (lW mf) ma go) fun r s6 ⟨u,hr,h6⟩=>?_
   subst hr
   refine thn h6 fun _ s7 ⟨x,H7,J7,r7,y7,lR,mF⟩=>?_
   have mN:H7 q.heap.objs.size=none:=(J7.pin _ (y06 _ (List.mem_singleton.mpr rfl))).2.1
   have mK:=J7.pinned (lW mF) (T.obj _ _ lR)
   refine thn (hg _ _ _ _ _ s7 lr H7 x u _ mK r7 (step x H7 y7)) fun _ s8 ⟨lq,H8,J8,q8⟩=>?_
   refine thn (ht _ _ _ _ _ s8 lq H8 _ J8 q8) fun b s9 ⟨H9,J9,q9⟩=>?_
   have BW:∀{G:St} {H':Hp} {s':y9},Inv XC ([(q.heap.objs.size,({cls:=.type "list",data:=.seq B.toArray k}:Obj))]++HY O s7.heap) G H' s'->
     Inv XC [] G H' s'/\tn (i+1) s'.heap/\(∀b∈O,H' b=none)/\H' q.heap.objs.size=none/\s'.heap.get? q.heap.objs.size=some {cls:=.type "list",data:=.seq B.toArray k}:=fun {G H' s'} K=>by
    have pa:=K.pin (q.heap.objs.size,{cls:=.type "list",data:=.seq B.toArray k}) (y06 _ (y2m _ (List.mem_singleton.mpr rfl)))
    refine⟨K.pins_of (fun p hp=>absurd hp (by simp)),T.keep _ _ _ lR fun b hb o e=>(K.pin (b,o) (y06 _ (y06 _ (Ia hb e)))).1,fun b hb=>?_,pa.2.1,pa.1⟩
    obtain⟨o,e,d⟩:=T.obj _ _ lR b hb
    exact(K.pin (b,o) (y06 _ (y06 _ (Ia hb e)))).2.1
   cases b with
   |false=>
    rw[if_neg yo] at q9
    rw[if_neg yo]
    obtain⟨m',lU,w'⟩:=hN _ _ _ q9
    obtain⟨K1,K2,K3,K4,K5⟩:=BW J9
    exact⟨m',lU,i+1,lq,H9,ys,B,k,K1,K2,K3,K4,vy,K5,w'⟩
   |true=>
    rw[if_pos rfl] at q9
    rw[if_pos rfl]
    refine thn (he _ _ _ _ _ s9 lq H9 _ J9 q9) fun z ln ⟨v,mM,mL,mq,mr⟩=>?_
    obtain⟨m',lU,w'⟩:=hN _ _ _ mr
    obtain⟨K1,K2,K3,K4,K5⟩:=BW mL
    refine y3v F.slot_list_append ⟨_,K5,rfl⟩ F.entry_list_append (F.args_list_append_2 _ _) (PySem.list_append q.heap.objs.size B.toArray k z (by rw[y01]; lia)) ⟨K5,?_⟩
    have qa:=PySem.IsL.update K5 (fun x_1=>x_1.push z)
    have mH:B.toArray.push z=(B++[z]).toArray:=by simp
    rw[mH] at qa
    have kk:∀b o,b≠q.heap.objs.size->ln.heap.get? b=some o->(ln.heap.update q.heap.objs.size (Obj.mapSeq fun x_1=>x_1.push z)).get? b=some o:=fun b o hb hu=>(Heap.get?_update_other ln.heap (Obj.mapSeq fun x_1=>x_1.push z) (y0y hb)).trans hu
    obtain⟨d0,d1,d2,d3,d4,d5⟩:=mi K4
    have mJ:=K1.turned (h':=ln.heap.update q.heap.objs.size (Obj.mapSeq fun x_1=>x_1.push z)) (t':=ln.toks) kk d0 d1 d3 d4 d5
    exact⟨m',lU,i+1,lq,mM,ys++[v],B++[z],_,mJ,T.keep _ _ _ K2 (fun b hb o e=>kk b o (fun y=>lp (by rw[<- y]; exact hb)) e),K3,K4,vy.append (.cons mq .nil),qa,w'⟩
 exact codeAny_compStart_list (lv _ rfl) (T.self _ _ _ _ _ st4 (lv _ rfl))
theorem C2(z:List Str)(F:List (Option Nat))(hc:X.calm=true)(S:CompS X z scope F)(hi:PI X tg iter wi)
  (hg:∀cl C s₀ H₀ ex,PG (B7 X z scope cl C s₀ H₀ ex) tg g) (O:∀cl C s₀ H₀ ex,PIf (B7 X z scope cl C s₀ H₀ ex) ifs tt) (Z:∀cl C s₀ H₀ ex,PE (B7 X z scope cl C s₀ H₀ ex) elt te)
  (Y:∀x,foldedSetIterable iter X.env x=pure x:=by intro _; rfl):PE X (.ListComp elt [⟨tg,iter,ifs,0⟩] scope pos) (CM wi g tt te F):=by
 refine⟨?_⟩;intro pins s σ H Q I h;obtain⟨cl,e0,e1,e2⟩:=OT (scope:=scope) (env:=X.env) fun y hy hf=>I.ok.has y.1 (.inl (S.frees y hy hf));rw[eval_ListComp];refine wpAny_comprehension_free (use:=none) rfl Y e0 S.kind S.locs (thn (hi pins s σ H _ I h) fun v s1 h1=>thn h1 fun M s2 h2=>?_);obtain⟨it,fp,tn,J,H2,e,I2,T,st2,f2,hw⟩:=h2;subst e;refine OU (Qe:=Q) (RR:=fun B C=>compPost (y03 X.prog X.w) X.A X.xe none (EP X pins σ Q) B C) hc S e1 e2 (hg cl) (O cl) (Z cl) I2 T st2 f2 hw fun D C H' s' I' q ⟨m,hm⟩ ⟨f0,f1,_,f3,f4,f5⟩=>?_;exact⟨m,hm,fun h' G=>⟨.ref D,H',I'.turned (t':=s'.toks) (fun b o hb e=>(G.2 b hb).trans e) f0 f1 f3 f4 f5,rfl,q⟩⟩
theorem VW(N':List Str)(mp:List (Option Nat))(hN:X.N.Nodup)(hxi:X.N[i]?=some x)(hx:Loc X.env.scope x)
  (hc:X.calm=true) (S:CompS X N' scope mp) (hi:PI X tg iter wi)
  (hg:∀cl C s₀ H₀ ex,PG (B7 X N' scope cl C s₀ H₀ ex) tg g) (ht:∀cl C s₀ H₀ ex,PIf (B7 X N' scope cl C s₀ H₀ ex) ifs tt) (he:∀cl C s₀ H₀ ex,PE (B7 X N' scope cl C s₀ H₀ ex) elt te)
  (hsw:swapsWith (.ListComp elt [⟨tg,iter,ifs,0⟩] scope cpos) (some (.Name x pos')) pos.line X.env=pure true:=by rfl)
  (hs:∀x,foldedSetIterable iter X.env x=pure x:=by intro _; rfl) (hf:X.fn x=true\/X.env.scope.names.lookup x=some .local:=by first|exact .inl rfl|exact .inr rfl|assumption) :
  PS X (.Assign [.Name x pos'] (.ListComp elt [⟨tg,iter,ifs,0⟩] scope cpos) pos) (Da (CM wi g tt te mp) (B6 i)):=by
 refine⟨?_⟩
 intro pins s σ H D I h
 obtain⟨cl,e0,e1,e2⟩:=OT (scope:=scope) (env:=X.env) fun y hy hf=>I.ok.has y.1 (.inl (S.frees y hy hf))
 rw[exec_Assign_Name_used _ _ _ _ hsw]
 refine y8 (wpAny_standAt (y8 ?_))
 show yy _ X.A (do let _ <- comprehension (.ListComp elt [⟨tg,iter,ifs,0⟩] scope cpos) scope X.env _ (newList []) false (eval iter X.env) (some (assign (.Name x pos') X.env))) _ _ s
 refine y8 (y18 (wpAny_comprehension_free (use:=some (assign (.Name x pos') X.env)) (Q:=fun _ s'=>SP X pins D .next s') rfl hs e0 S.kind S.locs
  (thn (hi pins s σ H _ I h) fun v s1 h1=>thn h1 fun itv s2 h2=>?_)) (fun _ s' hq=>ye (ye hq)) fun _ _ e=>e)
 obtain⟨it,fp,tn,J,H2,e,I2,T,st2,f2,hw⟩:=h2
 subst e
 refine OU (Qe:=fun x H1=>B6 i x σ H1 D.nx) (RR:=fun acc C=>compPost (y03 X.prog X.w) X.A X.xe (some (assign (.Name x pos') X.env)) (fun _ s'=>SP X pins D .next s') acc C) hc S e1 e2 (hg cl) (ht cl) (he cl) I2 T st2 f2 hw fun D' C H' s' I' q ⟨m,hm⟩ ⟨f0,f1,_,f3,f4,f5⟩=>?_
 show yy _ X.A (assign (.Name x pos') X.env (.ref D')) _ _ _
 refine wpAny_assign_Name (Nm I' hN hxi hx (v:=.ref D') rfl (fun s'' I'' ⟨a,sb,ha⟩=>?_) hf)
 have hCa:C≠a:=by
  rcases ha with ha|ha
  ·rw[ha]; exact f1
  ·exact fun z=>f4 x a ha z.symm
 refine⟨m,hm.sameBut sb hCa,fun h' sb'=>?_⟩
 rw[B6,CI] at q
 exact⟨_,H',I''.turned (t':=s''.toks) (fun b o hb e=>(sb'.2 b hb).trans e) f0 f1 f3 f4 f5,q⟩
end
section
variable{K:y3}{a:Addr}{xs:List V}{g:TG}{tt:TT}{te:TE}{σ:St}{H:Hp}{Q:VK}
abbrev BN(J:It)(g:TG)(tt:TT)(te:TE)(Q:VK)(σ:St)(H:Hp):Prop:=∃W:Nat->Nat->List V->St->Hp->Prop,(∃m,W 0 m [] σ H)/\∀i m ys σ H,W i m ys σ H->
 (J.stop i H/\ys.length<=yn/\∀p,H p=none->Q (.ref p) (upd H p (.lst ys)))\/(J.go i H/\ys.length<yn/\∃N:List V->St->Hp->Prop,(∀B z H',N B z H'->∃F,F<m/\W (i+1) F B z H')/\∀x H',J.yld i H x H'->g x σ H' fun q H2=>tt q H2 fun b G=>
  if b=true then te q G (fun v M=>N (ys++[v]) q M) else N ys q G)
theorem Hh(B:Nat->List V->St->Hp->Prop)(h0:B 0 [] σ H)(hz:xs.length<yn)(hy:∀i ys σ H,B i ys σ H->ys.length<=i)(hl:∀i ys σ H,i<=xs.length->B i ys σ H->SqL K H a xs)
  (Z:∀i ys x σ H,xs[i]?=some x->B i ys σ H->g x σ H fun z H2=>tt z H2 fun b G=>if b=true then te z G (fun v H4=>B (i+1) (ys++[v]) z H4) else B (i+1) ys z G)
  (hd:∀ys σ H,B xs.length ys σ H->∀p,H p=none->Q (.ref p) (upd H p (.lst ys))):BN (Itl K a) g tt te Q σ H:=by
 refine⟨fun i m ys σ H=>m=xs.length-i/\i<=xs.length/\B i ys σ H,⟨xs.length,by simp,y05 _,h0⟩,?_⟩;rintro i m ys σ H ⟨rfl,hi,p⟩;have q:=hl i ys σ H hi p;have Y:=hy i ys σ H p;by_cases F:i<xs.length
 ·refine .inr ⟨⟨xs,xs[i],q,by simp[F]⟩,by lia,B (i+1),fun M J H' O=>⟨xs.length-(i+1),by lia,rfl,F,O⟩,fun x H' y=>?_⟩;obtain⟨e,y⟩:=y;subst e;exact Z i ys x σ _ (y xs q) p
 ·have e:i=xs.length:=by lia
  subst e;exact .inl ⟨⟨xs,q,yb _⟩,by lia,hd ys σ H p⟩
theorem Ik(B:Nat->List V->St->Hp->Prop)(h0:B 0 [] σ H)(hz:xs.length<yn)(hy:∀i ys σ H,B i ys σ H->ys.length<=i)(hl:∀i ys σ H,i<=xs.length->B i ys σ H->SqT K H a xs)
  (Z:∀i ys x σ H,xs[i]?=some x->B i ys σ H->g x σ H fun z H2=>tt z H2 fun b G=>if b=true then te z G (fun v H4=>B (i+1) (ys++[v]) z H4) else B (i+1) ys z G)
  (hd:∀ys σ H,B xs.length ys σ H->∀p,H p=none->Q (.ref p) (upd H p (.lst ys))):BN (Itt K a) g tt te Q σ H:=by
 refine⟨fun i m ys σ H=>m=xs.length-i/\i<=xs.length/\B i ys σ H,⟨xs.length,by simp,y05 _,h0⟩,?_⟩;rintro i m ys σ H ⟨rfl,hi,p⟩;have q:=hl i ys σ H hi p;have Y:=hy i ys σ H p;by_cases F:i<xs.length
 ·refine .inr ⟨⟨xs,xs[i],q,by simp[F]⟩,by lia,B (i+1),fun M J H' O=>⟨xs.length-(i+1),by lia,rfl,F,O⟩,fun x H' y=>?_⟩;obtain⟨e,y⟩:=y;subst e;exact Z i ys x σ _ (y xs q) p
 ·have e:i=xs.length:=by lia
  subst e;exact .inl ⟨⟨xs,q,yb _⟩,by lia,hd ys σ H p⟩
end
section
variable{X:Cx}
def Ej(K:y3):R2:=fun x y H Q=>∃a b xs ys,x=.ref a/\y=.ref b/\SqT K H a xs/\SqT K H b ys/\xs.length+ys.length<=yn/\
 (xs=[]->Q (.ref b) H)/\(xs≠[]->ys=[]->Q (.ref a) H)/\(xs≠[]->ys≠[]->∀p,H p=none->Q (.ref p) (upd H p (.tup (xs++ys))))
theorem Bf:OpR X (binaryOp .Add) (Ej X.K):=by
 intro pins s σ H x y v u Q I Z Y h;obtain⟨a,b,xs,ys,rfl,rfl,ha,hb,hz,q0,q1,q2⟩:=h;by_cases hx:xs=[]
 ·cases Z;cases Y;obtain⟨z,r1,p1,_⟩:=I.tuple ha;obtain⟨q,r2,p2,_⟩:=I.tuple hb;obtain⟨⟨cls,dd,data,sl⟩,ho,hc,n,hd⟩:=id p1;obtain⟨⟨lc,O,data2,M⟩,B,J,n2,G⟩:=id p2;simp only at hc hd J G;subst hc hd J G;have he:z=[]:=r1.nil_iff.mpr hx;exact concat_meets ⟨_,ho,rfl⟩ ⟨_,B,rfl⟩ noFill_tuple_add seq_tuple_add y37 y35 (y2w _ _)
   (tuple_addW0 a b z.toArray q.toArray n n2 dd O sl M (by simp[he])) ⟨ho,B,⟨.ref b,H,I,rfl,q0 hx⟩⟩
 ·exact VF pins s σ H _ _ v u Q I Z Y ⟨a,b,xs,ys,rfl,rfl,ha,hb,hx,hz,q1 hx,q2 hx⟩
def BO:V->PyData
 |.bl b=>.bool b
 |.int i=>.int i
 |.str x=>.str x
 |_=>.none
theorem VX(r:RelV x u)(f:Dj x=true):Reads h u (BO x) []:=by
 cases x with
 |non=>cases r; exact .none
 |bl b=>cases r; exact .bool b
 |int i=>obtain⟨t,rfl⟩:=r; exact .int i t
 |str z=>obtain⟨t,rfl⟩:=r; exact .str z t
 |_=>exact absurd (show false=true from f) yo
theorem OV:∀{xs:List V} {us:List ya},Vals xs us->xs.all Dj=true->ReadsAll h us (xs.map BO) []
 |_,_,.nil,_=>.nil
 |_::_,_::_,.cons r t,f=>by
  rw[List.all_cons,yk] at f;exact .cons (VX r f.1) (OV t f.2)
def okV:V->Bool
 |.non=>true
 |.bl _=>true
 |.int _=>true
 |.str z=>PyData.strOk z
 |_=>false
theorem okV.flat(h:okV x=true):Dj x=true:=by
 cases x<;>first|rfl|exact absurd (show false=true from h) yo
theorem okV.all{xs:List V}(h:xs.all okV=true):xs.all Dj=true:=List.all_eq_true.mpr fun x hx=>okV.flat (List.all_eq_true.mp h x hx)
theorem OW:∀(xs:List V),xs.all okV=true->PyData.canLayAll0 (xs.map BO)=true/\PyData.depthAll (xs.map BO)<=1
 |[],_=>by simp[PyData.canLayAll0,PyData.depthAll]
 |x::xs,q=>by
  rw[List.all_cons,yk] at q;have h1:(BO x).canLay0=true/\(BO x).depth<=1:=by
   cases x with
   |str z=>exact⟨by simpa [BO,PyData.canLay0,okV] using q.1,by simp[BO,PyData.depth]⟩
   |_=>exact⟨by simp[BO,PyData.canLay0],by simp[BO,PyData.depth]⟩
  have h2:=OW xs q.2;simp only[yc,PyData.canLayAll0,PyData.depthAll,h1.1,h2.1,Bool.and_self,true_and];have F:=h1.2;have B:=h2.2;lia
theorem Il{xs:List V}(h:xs.all okV=true):SeqAt.shaped (.list (xs.map BO))=true:=by
 have q:=OW xs h;unfold SeqAt.shaped;simp only[PyData.canLay0,PyData.depth,q.1,y0s];have:=q.2;exact decide_eq_true (by lia)
theorem Inv.readsL(I:Inv X pins σ H s)(h:SqL X.K H a xs)(f:xs.all okV=true):∃as,Reads s.heap (.ref a) (.list (xs.map BO)) as:=by
 obtain⟨q,r,⟨o,n,e,c,_,d⟩,_⟩:=I.list h;exact⟨_,.list e c d (by simpa using OV r (okV.all f))⟩
def eqL(xs ys:List V):Bool:=PyData.eqv (.list (xs.map BO)) (.list (ys.map BO))
def OX(K:y3)(q:Bool):R2:=fun x y H Q=>∃a b xs ys,x=.ref a/\y=.ref b/\SqL K H a xs/\SqL K H b ys/\xs.all okV=true/\ys.all okV=true/\Q (.bl (if q then !eqL xs ys else eqL xs ys)) H
theorem VY(O:X.A.units+64<cLine):OpR X (y09 .Eq) (OX X.K false):=by
 intro pins s σ H x y v u Q I G F h;obtain⟨a,b,xs,ys,rfl,rfl,ha,hb,B,z,q⟩:=h;cases G; cases F;obtain⟨as,M⟩:=I.readsL ha B;obtain⟨Y,J⟩:=I.readsL hb z;exact eq_dataH M J (Il B) (Il z) O ⟨.bl _,H,I,rfl,q⟩
theorem VZ(O:X.A.units+64<cLine):OpR X (y09 .NotEq) (OX X.K true):=by
 intro pins s σ H x y v u Q I G F h;obtain⟨a,b,xs,ys,rfl,rfl,ha,hb,B,z,q⟩:=h;cases G; cases F;obtain⟨as,M⟩:=I.readsL ha B;obtain⟨Y,J⟩:=I.readsL hb z;exact ne_dataH M J (Il B) (Il z) O ⟨.bl _,H,I,rfl,q⟩
theorem Va(xs:List V):eqL xs []=xs.isEmpty:=by
 cases xs<;>simp[eqL,PyData.eqv,PyData.eqvAll]
theorem Vb:OpR X (y09 .IsNot) (fun x y H Q=>∃a b,x=.bl a/\y=.bl b/\Q (.bl (a !=b)) H):=by
 intro pins s σ H x y v u Q I B z h;obtain⟨i,j,rfl,rfl,q⟩:=h;cases B; cases z;exact isnot_bool ⟨.bl _,H,I,rfl,q⟩
theorem Vc:B3 X (.builtin "isinstance") (fun xs H Q=>∃x n t b,xs=[x,.ty n]/\TyOf X.K H x t/\PySem.W.kitOne X.K t (.type n)=some b/\Q (.bl b) H):=by
 intro pins s σ H xs us Q I r h;obtain⟨x,n,t,b,rfl,ty,e,q⟩:=h;obtain⟨u,F,rfl,B,z⟩:=r.two;cases z;exact Uk I B ty e fun tk=>⟨.bl b,H,I.tok tk,rfl,q⟩
theorem OY:∀{q:List Bool} {us:List ya},Vals (q.map V.bl) us->us=q.map Value.bool
 |[],_,.nil=>rfl
 |b::q,_::_,.cons r t=>by
  cases r;rw[OY t]; rfl
theorem Hi(hh:X.calm=true):B3 X (.builtin "all") (fun xs H Q=>∃(p:Addr) (B:List Bool),xs=[.ref p]/\SqL X.K H p (B.map V.bl)/\Q (.bl (B.all id)) H):=by
 intro pins s σ H xs us Q I r h;obtain⟨p,B,rfl,hq,q⟩:=h;obtain⟨u,rfl,Y⟩:=r.one;cases Y;obtain⟨Z,O,pl,hz⟩:=I.list hq;have eb:=OY O;subst eb;have J:=pl.isList;have G:p<s.heap.objs.size:=by obtain⟨_,e,_⟩:=J; exact yd e
 refine call_all_walk (y3s J ?_);refine⟨s.heap.objs.size,[s.heap.objs.size,p],[s.heap.objs.size],(B.map Value.bool).toArray.size,_,_,fun i=>(B[i]?).getD true,rfl,Walks.list (A:=X.A.in1) (I.ok.hd hh) _ p (yj G) (B.map Value.bool).toArray,
  ⟨⟨_,yg _ rfl,rfl,rfl⟩,J.push _⟩,fun i v s' Q' E' hP M=>?_,fun h' tk hk=>?_⟩
 ·have e:(B.map Value.bool)[i]?=some v:=by simpa using hP
  rw[ym] at e;cases eb:B[i]? with
  |none=>rw[eb] at e; cases e
  |some b=>
   rw[eb] at e;have e':Value.bool b=v:=yz e;subst e';simp only[eb,Option.getD_some] at M;exact y17 M
 ·have e:((List.range (B.map Value.bool).toArray.size).all fun i=>(B[i]?).getD true)=B.all id:=by
   have z:(B.map Value.bool).toArray.size=B.length:=by simp
   rw[z,y2a,y2k,y2k];constructor
   ·intro h b hb;obtain⟨i,hi,rfl⟩:=List.getElem_of_mem hb;have:=h i (List.mem_range.mpr hi);simpa [yf hi] using this
   ·intro h i hi;have F:=List.mem_range.mp hi;simp only[yf F,Option.getD_some];exact h _ (y2h F)
  rw[e];exact⟨.bl _,H,I.kept (fun b o e=>hk b o (fun hm=>by rw[List.mem_singleton.mp hm] at e; exact y0t _ (yd e)) (y6 _ e)),rfl,q⟩
def Its(z:Str):It:=⟨fun i _=>i<z.cps.size,fun i H x H'=>H'=H/\∃c,z.cps[i]?=some c/\x=.str ⟨#[c]⟩,fun i _=>i=z.cps.size⟩
def Vd(tl:TE):TI:=fun σ H R=>tl σ H fun x H1=>∃z,x=.str z/\R (Its z) H1
open PySem.AutoSeq1 (wpAny_loadPart') in
def G0(K:y3):R2:=fun x y H Q=>∃l k xs,x=.ref l/\y=.int k/\SqT K H l xs/\2<=k/\k<2^62/\xs≠[]/\xs.length*k.toNat<=yn/\
 ∀p,H p=none->Q (.ref p) (upd H p (.tup (List.replicate k.toNat xs).flatten))
def Seq(K:y3)(H:Hp)(a:Addr):Prop:=(∃xs,SqL K H a xs)\/∃xs,SqT K H a xs
theorem Ve(M:X.A.units+64<cLine):OpR X (y09 .Eq) (fun x y H Q=>∃a z,x=.ref a/\y=.str z/\Seq X.K H a/\Q (.bl false) H):=by
 intro pins s σ H x y v u Q I G F h;obtain⟨a,z,rfl,rfl,hq,q⟩:=h;cases G;obtain⟨t,rfl⟩:=F;show yy _ _ (richCompare .Eq _ _) _ _ _;rcases hq with⟨xs,hq⟩|⟨xs,hq⟩
 ·obtain⟨B,r,pl,J⟩:=I.list hq;exact SeqAt.RcAt.list_str z t pl.isList (by lia) _ _ _ _ ⟨.bl false,H,I,rfl,q⟩
 ·obtain⟨B,r,pl,J⟩:=I.tuple hq;exact SeqAt.RcAt.tuple_str z t (show s.heap.IsTuple a B.toArray from pl) (by lia) _ _ _ _ ⟨.bl false,H,I,rfl,q⟩
def isN:V->Bool
 |.non=>true
 |_=>false
def G3:R2:=fun x y H Q=>∃i j,x=.str i/\y=.str j/\Q (.bl (!decide (j.cps.toList<i.cps.toList))) H
def Dk:R2:=fun x y H Q=>∃i j,x=.str i/\y=.str j/\Q (.bl (decide (i.cps.toList<j.cps.toList))) H
def Im(K:y3)(x y:V)(H:Hp)(b:Bool):Prop:=(Id x y=true/\b=decide (x=y))\/
 (∃a c xs ys,x=.ref a/\y=.ref c/\SqL K H a xs/\SqL K H c ys/\xs.all okV=true/\ys.all okV=true/\b=eqL xs ys)\/(∃a z,x=.ref a/\y=.str z/\Seq K H a/\b=false)
def qEq(K:y3):R2:=fun x y H Q=>∃b,Im K x y H b/\Q (.bl b) H
def qNe(K:y3):R2:=fun x y H Q=>∃b,((Id x y=true/\b=decide (x=y))\/(∃a c xs ys,x=.ref a/\y=.ref c/\SqL K H a xs/\SqL K H c ys/\xs.all okV=true/\ys.all okV=true/\b=eqL xs ys))/\Q (.bl (!b)) H
def Vf(K:y3)(x y:V)(H:Hp)(b:Bool):Prop:=(∃p xs,y=.ref p/\(SqL K H p xs\/SqT K H p xs)/\Dj x=true/\xs.all Dj=true/\b=inV x xs)\/
 (∃i j,x=.str i/\y=.str j/\b = !(Builtin.Str.occurrences j i 0 j.length 1).isEmpty)\/
 (∃p xs,x=.non/\y=.ref p/\SqL K H p xs/\(∀v∈xs,v=.non\/∃a ys,v=.ref a/\SqT K H a ys)/\b=xs.any isN)
def qIn(K:y3):R2:=fun x y H Q=>∃b,Vf K x y H b/\Q (.bl b) H
def Vg(K:y3)(x y:V)(H:Hp)(b:Bool):Prop:=(∃p xs,y=.ref p/\(SqL K H p xs\/SqT K H p xs)/\Dj x=true/\xs.all Dj=true/\b = !inV x xs)\/
 (∃i j,x=.str i/\y=.str j/\b = !(!(Builtin.Str.occurrences j i 0 j.length 1).isEmpty))\/
 (∃a p xs,x=.ref a/\y=.ref p/\Seq K H a/\SqT K H p xs/\(∀v∈xs,∃z,v=.str z)/\b=true)
def G4(K:y3):R2:=fun x y H Q=>∃b,Vg K x y H b/\Q (.bl b) H
def LB(K:y3)(x:V)(H:Hp)(n:Nat):Prop:=(∃p ys,x=.ref p/\(SqL K H p ys\/SqT K H p ys)/\n=ys.length)\/∃z,x=.str z/\z.length<=yn/\n=z.length
def Ek(K:y3):List V->Hp->VK->Prop:=fun xs H Q=>∃x n,xs=[x]/\LB K x H n/\Q (.int n) H
def El:R2:=fun x y H Q=>y=.non/\Q (.bl (decide (x=.non))) H
def Em:R2:=fun x y H Q=>y=.non/\Q (.bl (!decide (x=.non))) H
def G5:R2:=fun x y H Q=>∃a b,x=.bl a/\y=.bl b/\Q (.bl (a==b)) H
def En:R2:=fun x y H Q=>∃a b,x=.bl a/\y=.bl b/\Q (.bl (a !=b)) H
theorem gEq(J:X.A.units+64<cLine):OpR X (y09 .Eq) (qEq X.K):=by
 intro pins s σ H x y v u Q I F B h;obtain⟨b,h,q⟩:=h;rcases h with⟨h,rfl⟩|⟨a,c,xs,ys,h1,h2,G,Y,O,M,rfl⟩|⟨a,z,h1,h2,G,rfl⟩
 ·exact O3 pins s σ H x y v u Q I F B ⟨h,q⟩
 ·exact VY J pins s σ H x y v u Q I F B ⟨a,c,xs,ys,h1,h2,G,Y,O,M,q⟩
 ·exact Ve J pins s σ H x y v u Q I F B ⟨a,z,h1,h2,G,q⟩
theorem gNe(F:X.A.units+64<cLine):OpR X (y09 .NotEq) (qNe X.K):=by
 intro pins s σ H x y v u Q I B z h;obtain⟨b,h,q⟩:=h;rcases h with⟨h,rfl⟩|⟨a,c,xs,ys,h1,h2,O,M,J,G,rfl⟩
 ·exact O4 pins s σ H x y v u Q I B z ⟨h,q⟩
 ·exact VZ F pins s σ H x y v u Q I B z ⟨a,c,xs,ys,h1,h2,O,M,J,G,q⟩
theorem Io:B3 X (.builtin "len") (Ek X.K):=by
 intro pins s σ H xs us Q I r h;obtain⟨x,n,rfl,h,q⟩:=h;rcases h with⟨p,ys,rfl,h,rfl⟩|⟨z,rfl,B,rfl⟩
 ·exact VJ pins s σ H _ us Q I r ⟨p,ys,rfl,h,q⟩
 ·exact VL pins s σ H _ us Q I r ⟨z,rfl,B,q⟩
theorem G6:OpR X (y09 .Eq) (rI0 fun i j=>.bl (decide (i=j))):=by
 intro pins s σ H x y v u Q I B z h;obtain⟨i,rfl,F⟩:=isI.o h;obtain⟨j,rfl,q⟩:=isI.o F;refine O3 pins s σ H _ _ v u Q I B z ⟨rfl,?_⟩;have e:decide (V.int i=V.int j)=decide (i=j):=by simp
 rw[e]; exact q
theorem Vh:OpR X (y09 .NotEq) (rI0 fun i j=>.bl (!decide (i=j))):=by
 intro pins s σ H x y v u Q I B z h;obtain⟨i,rfl,F⟩:=isI.o h;obtain⟨j,rfl,q⟩:=isI.o F;refine O4 pins s σ H _ _ v u Q I B z ⟨rfl,?_⟩;have e:decide (V.int i=V.int j)=decide (i=j):=by simp
 rw[e]; exact q
theorem BX:OpR X (y09 .Is) El:=UZ
theorem Eo:OpR X (y09 .IsNot) Em:=Ua
theorem OZ:OpR X (y09 .IsNot) En:=Vb
theorem gLtS:OpR X (y09 .Lt) Dk:=UY
def Ep(K:y3):List V->Hp->VK->Prop:=fun xs H Q=>∃x n b,xs=[x,.ty n]/\(∃t,TyOf K H x t/\PySem.W.kitOne K t (.type n)=some b)/\Q (.bl b) H
theorem G7:B3 X (.builtin "isinstance") (Ep X.K):=by
 intro pins s σ H xs us Q I r h;obtain⟨x,n,b,rfl,⟨t,h1,h2⟩,q⟩:=h;exact Vc pins s σ H _ us Q I r ⟨x,n,t,b,rfl,h1,h2,q⟩
def Er:Expr->Bool
 |.Starred ..=>true
 |_=>false
def BB:List Expr->Bool
 |[]=>true
 |e::r=>!Er e&&BB r
theorem CN(h:Er e=false):starEach (e::es) env=(false,eval e env)::starEach es env:=by
 cases e<;>first|rfl|exact absurd (show true=false from h) (by decide)
theorem D0:∀{es:List Expr},BB es=true->(backTo pos (starEach es env)).any (·.1)=false
 |[],_=>rfl
 |e::r,h=>by
  rw[BB,yk,y0e] at h;rw[CN h.1];have q:=D0 (pos:=pos) (env:=env) h.2;show(false || (backTo pos (starEach r env)).any (·.1))=false;rw[q]; rfl
end
theorem A3(ha:PE X e te)(hr:PA X es t)(h:Er e=false:=by rfl):PA X (e::es) (BG te t):=Uo ha hr (CN h)
structure Callee(P:yl)(w:y07)(K:y3)(mg:Str->Option ya)(base:Heap)(x:Str)(ps:List Str)(k:Nat)(sp:Sp):Prop where
 ex:∃f fd,FnOk P w K mg base CX0 k f fd ps sp/\mg x=some (.ref f)/\PySem.W.keepIn K (.ref f)=true/\Binds K fd ps []
theorem AC(C:Callee X.prog X.w X.K X.mg X.base x ps k sp)(hr:Room j X.A)(hk:k<=j)(ha:PA X (e::es) t)(hg:Gl X x:=by rfl)
  (O:(x==("__debug__" : Str))=false:=by decide) (G:BB (e::es)=true:=by rfl) :
  PE X (.Call (.Name x p) (e::es) [] pos) (Cy sp [] E0 t):=by
 have B:=G;rw[BB,yk,y0e] at B;have Z:=CN (es:=es) (env:=X.env) B.1;have J:=D0 (pos:=pos) (env:=X.env) B.2;obtain⟨f,fd,F,hm,M,hb⟩:=C;refine⟨?_⟩;intro pins s σ H Q I h;refine y1m (IY I hg hm ?_ O);refine y2p (h₀:=X.base) I.ok.mod.kin M (thn (ha pos pins s σ H _ I h) fun us s1 ⟨vs,H1,Y,r,q⟩=>⟨Y.kIn,?_⟩) Z J;exact O9 F (hr.mono hk) hb .nil (fun _ _ _ _ _ _ _ z=>z.elim) Y r q
theorem AZ{X:Cx}{x:Str}{p pos:Pos}{e:Expr}{es:List Expr}{t:TA}{id:String}{r:List V->Hp->VK->Prop}(hc:B3 X (.builtin id) r)(hg:Gl X x)(hm:X.mg x=none)(hv:bootBuiltins x=some (.builtin id))(ha:PA X (e::es) t) (F:x≠"__name__") (B:(x==("__debug__" : Str))=false)
  (z:BB (e::es)=true:=by rfl):PE X (.Call (.Name x p) (e::es) [] pos) (tCB r t):=by
 have q:=z;rw[BB,yk,y0e] at q;exact Us hc hg hm hv ha F B (CN q.1) (D0 q.2)
theorem D3{r:List V->Hp->VK->Prop}(hc:B3 X (.type T) r)(hg:Gl X x)(hm:X.mg x=none)(hv:bootBuiltins x=some (.type T))(ha:PA X (e::es) t) (F:x≠"__name__") (B:(x==("__debug__" : Str))=false)
  (z:BB (e::es)=true:=by rfl):PE X (.Call (.Name x p) (e::es) [] pos) (tCB r t):=by
 have q:=z;rw[BB,yk,y0e] at q;exact Ut hc hg hm hv ha F B (CN q.1) (D0 q.2)
structure GC(mg:Str->Option ya)(x:Str)(v:V):Prop where
 ex:∃u,mg x=some u/\RelV v u
theorem Bg(h:GC X.mg x v)(hg:Gl X x:=by rfl) (hd:(x==("__debug__" : Str))=false:=by decide):PE X (.Name x pos) (tC v):=by
 obtain⟨u,hm,r⟩:=h;exact UH hg hm r hd
def Oa(N:List Str)(on:List (Str×NameKind))(sc:Scope)(z:List Str)(q:List (Option Nat)):Bool:=
 sc.kind==.function&&sc.names.all (fun y=>y.2 !=.cell)&&sc.names.all (fun y=>y.2 !=.local || sc.names.lookup y.1==some .local)&&sc.names.all (fun y=>y.2 !=.free || on.lookup y.1==some .cell)&&compOk N on sc.names z q
theorem CompS.of(h:Oa X.N X.env.scope.names sc N' mp=true):CompS X N' sc mp:=by
 unfold Oa at h;simp only[yk,beq_iff_eq] at h;obtain⟨⟨⟨⟨h1,h2⟩,F⟩,B⟩,q⟩:=h;refine⟨h1,fun y hy=>?_,fun y hy e=>?_,fun y hy e=>?_,q⟩
 ·have:=List.all_eq_true.mp h2 y hy;simpa using this
 ·have:=List.all_eq_true.mp F y hy;simp only[e,Bool.or_eq_true,beq_iff_eq] at this;rcases this with z|z
  ·exact absurd z (by decide)
  ·exact z
 ·have:=List.all_eq_true.mp B y hy;simp only[e,Bool.or_eq_true,beq_iff_eq] at this;rcases this with z|z
  ·exact absurd z (by decide)
  ·exact z
theorem opK{X:Cx}{K:y3}{f:ya->ya->Sem ya}{r:y3->R2}(h:OpR X f (r X.K))(q:X.K=K):OpR X f (r K):=q ▸ h
theorem ixK{X:Cx}{K:y3}{r:y3->R2}(h:IxR X (r X.K))(q:X.K=K):IxR X (r K):=q ▸ h
theorem Vi{X:Cx}{K:y3}{es:List Expr}{k:Nat}{t:TGs}{n:Nat}{pos:Pos}(B:X.K=K)(hc:X.calm=true)(h:PGs X es t)(z:(assignEach es X.env).length=n:=by rfl)(q:(assignEach es X.env).findIdx? (·.1)=none:=by rfl):PG X (.Tuple es k pos) (Cw K n t):=B ▸ EY hc h z q
def Vj:Expr->Bool
 |.ListComp ..=>true
 |.SetComp ..=>true
 |.DictComp ..=>true
 |_=>false
theorem AE(h:Vj e=false):swapsWith e t l env=pure false:=by
 cases e<;>first|rfl|exact absurd (show true=false from h) (by decide)
inductive Dm where
 |non|bl (b:Bool)|int (i:Int)|str (x:Str)|tup (ds:List Dm)|lst
mutual
inductive Dt (H:Hp):V->Dm->Prop where
 |non:Dt H .non .non
 |bl (b:Bool):Dt H (.bl b) (.bl b)
 |int (i:Int):Dt H (.int i) (.int i)
 |str (x:Str):Dt H (.str x) (.str x)
 |tup {a:Addr} {xs:List V} {ds:List Dm}:H a=some (.tup xs)->DtA H xs ds->Dt H (.ref a) (.tup ds)
 |lst {a:Addr} {xs:List V}:H a=some (.lst xs)->Dt H (.ref a) .lst
inductive DtA (H:Hp):List V->List Dm->Prop where
 |nil:DtA H [] []
 |cons {x:V} {xs:List V} {d:Dm} {ds:List Dm}:Dt H x d->DtA H xs ds->DtA H (x::xs) (d::ds)
end
structure Kp(H H':Hp):Prop where
 t:∀b xs,H b=some (.tup xs)->H' b=some (.tup xs)
 l:∀b xs,H b=some (.lst xs)->∃ys,H' b=some (.lst ys)
theorem Kp.trans(a:Kp H H1)(b:Kp H1 H2):Kp H H2:=⟨fun c xs h=>b.t c xs (a.t c xs h),fun c xs h=>let ⟨ys,e⟩:=a.l c xs h; b.l c ys e⟩
theorem Same.kp(s:Same H H'):Kp H H':=⟨fun b xs h=>s b _ h,fun b xs h=>⟨xs,s b _ h⟩⟩
theorem AD(h:H p=none)(o:HO):Same H (upd H p o):=fun b u q=>by rw[AB (Ag q h)]; exact q
theorem Kp.set(h:H p=some (.lst xs)):Kp H (upd H p (.lst ys)):=
 ⟨fun b zs e=>by rw[AB (BL e h (by intro z; cases z))]; exact e,fun b zs e=>by
  by_cases hb:b=p
  ·subst hb; exact⟨ys,A6⟩
  ·exact⟨zs,by rw[AB hb]; exact e⟩⟩
mutual
theorem Dt.kp(k:Kp H H'):∀{v:V} {d:Dm},Dt H v d->Dt H' v d
 |_,_,.non=>.non
 |_,_,.bl b=>.bl b
 |_,_,.int i=>.int i
 |_,_,.str x=>.str x
 |_,_,.tup e r=>.tup (k.t _ _ e) (DtA.kp k r)
 |_,_,.lst e=>let ⟨_,e'⟩:=k.l _ _ e; .lst e'
theorem DtA.kp(k:Kp H H'):∀{xs:List V} {ds:List Dm},DtA H xs ds->DtA H' xs ds
 |_,_,.nil=>.nil
 |_,_,.cons r t=>.cons (Dt.kp k r) (DtA.kp k t)
end
theorem DtA.length:∀{xs:List V} {ds:List Dm},DtA H xs ds->xs.length=ds.length
 |_,_,.nil=>rfl
 |_,_,.cons _ t=>by rw[yh,yh,DtA.length t]
theorem DtA.append:∀{xs ys:List V} {ds es:List Dm},DtA H xs ds->DtA H ys es->DtA H (xs++ys) (ds++es)
 |_,_,_,_,.nil,h=>h
 |_,_,_,_,.cons r t,h=>.cons r (DtA.append t h)
theorem DtA.get:∀{xs:List V} {ds:List Dm} {i:Nat} {x:V},DtA H xs ds->xs[i]?=some x->∃d,ds[i]?=some d/\Dt H x d
 |_,_,_,_,.nil,e=>by simp at e
 |_,_,0,_,.cons r _,e=>by simp at e; subst e; exact⟨_,rfl,r⟩
 |_,_,i+1,x,.cons _ t,e=>by
  obtain⟨d,h1,h2⟩:=DtA.get (i:=i) (x:=x) t (by simpa using e);exact⟨d,by simpa using h1,h2⟩
theorem Dt.tupI(h:Dt H v (.tup ds)):∃a xs,v=.ref a/\H a=some (.tup xs)/\DtA H xs ds:=by
 cases h with
 |tup e r=>exact⟨_,_,rfl,e,r⟩
section
variable{X:Cx}
def Es(K:y3):List V->Hp->VK->Prop:=fun xs H Q=>∃(a:Addr) (ns:List Int),xs=[.ref a]/\SqL K H a (ns.map V.int)/\0<ns.length/\∀M,M∈ns->(∀a∈ns,M<=a)->Q (.int M) H
def Et(K:y3):List V->Hp->VK->Prop:=fun xs H Q=>∃(a:Addr) (ns:List Int),xs=[.ref a]/\SqL K H a (ns.map V.int)/\0<ns.length/\∀M,M∈ns->(∀a∈ns,a<=M)->Q (.int M) H
theorem Vk(hc:X.calm=true):B3 X (.builtin "min") (Es X.K):=by
 intro pins s σ H xs us Q I r h;obtain⟨a,ns,rfl,hq,B,q⟩:=h;obtain⟨u,rfl,M⟩:=r.one;cases M;obtain⟨O,J,pl,Z⟩:=I.list hq;have hi:=Ij J;obtain⟨xs,e⟩:=hi.allInts.items;have z:ns=xs.toList.map (·.1):=by
  rw[<- hi.numsOf,<- nums_intItems,<- e]
 have hsz:0<xs.size:=by
  have G:=B; rw[z,y4,y0f] at G; exact G
 have F:=pl.isList;rw[e] at F;refine min_intList (I.ok.hd hc) F hsz fun v h' tk hv hk=>?_;obtain⟨t,rfl⟩:=intItems_at hv;obtain⟨h1,h2⟩:=argBest_lt (numAt xs) (xs.size-1);refine⟨.int _,H,I.kept hk,⟨_,rfl⟩,q _ ?_ fun a ha=>?_⟩
 ·rw[z,numAt_eq]; exact getD_mem (by rw[y4,y0f]; lia)
 ·rw[z] at ha;obtain⟨j,Y,rfl⟩:=mem_getD ha;rw[y4,y0f] at Y;rw[<- numAt_eq]; exact h2 j (by lia)
theorem Vl(hc:X.calm=true):B3 X (.builtin "max") (Et X.K):=by
 intro pins s σ H xs us Q I r h;obtain⟨a,ns,rfl,hq,B,q⟩:=h;obtain⟨u,rfl,M⟩:=r.one;cases M;obtain⟨O,J,pl,Z⟩:=I.list hq;have hi:=Ij J;obtain⟨xs,e⟩:=hi.allInts.items;have z:ns=xs.toList.map (·.1):=by
  rw[<- hi.numsOf,<- nums_intItems,<- e]
 have hsz:0<xs.size:=by
  have G:=B; rw[z,y4,y0f] at G; exact G
 have F:=pl.isList;rw[e] at F;refine max_intList (I.ok.hd hc) F hsz fun v h' tk hv hk=>?_;obtain⟨t,rfl⟩:=intItems_at hv;obtain⟨h1,h2⟩:=argBest_gt (numAt xs) (xs.size-1);refine⟨.int _,H,I.kept hk,⟨_,rfl⟩,q _ ?_ fun a ha=>?_⟩
 ·rw[z,numAt_eq]; exact getD_mem (by rw[y4,y0f]; lia)
 ·rw[z] at ha;obtain⟨j,Y,rfl⟩:=mem_getD ha;rw[y4,y0f] at Y;rw[<- numAt_eq]; exact h2 j (by lia)
def G8(K:y3):List V->Hp->VK->Prop:=fun xs H Q=>∃(a:Addr) (ns:List Int),xs=[.ref a]/\SqL K H a (ns.map V.int)/\ns.length<64/\∀(l:Addr) (q:List Int),H l=none->q.Perm ns->q.Pairwise (· <= ·)->Q (.ref l) (upd H l (.lst (q.map V.int)))
def G9(t ta tb:TT):TT:=fun σ H Q=>t σ H fun c H1=>if c=true then ta σ H1 Q else tb σ H1 Q
mutual
def Dm.dat:Dm->PyData
 |.non=>.none
 |.bl b=>.bool b
 |.int i=>.int i
 |.str x=>.str x
 |.tup ds=>.tuple (Af ds)
 |.lst=>.none
def Af:List Dm->List PyData
 |[]=>[]
 |d::ds=>d.dat::Af ds
end
mutual
def Dm.shut:Dm->Bool
 |.tup ds=>CO ds
 |.lst=>false
 |.str x=>PyData.strOk x
 |_=>true
def CO:List Dm->Bool
 |[]=>true
 |d::ds=>d.shut&&CO ds
end
mutual
theorem Dt.reads(I:Inv X pins σ H s):∀{x:V} {d:Dm} {u:ya},Dt H x d->d.shut=true->RelV x u->∃as,Reads s.heap u d.dat as
 |_,_,_,.non,_,r=>by cases r; exact⟨_,.none⟩
 |_,_,_,.bl b,_,r=>by cases r; exact⟨_,.bool b⟩
 |_,_,_,.int i,_,r=>by obtain⟨t,rfl⟩:=r; exact⟨_,.int i t⟩
 |_,_,_,.str x,_,r=>by obtain⟨t,rfl⟩:=r; exact⟨_,.str x t⟩
 |_,_,_,.tup e F,z,r=>by
  cases r;obtain⟨G,B,⟨o,J,hc,n,hd⟩,_⟩:=I.tuple (SqT.of e);obtain⟨as,q⟩:=DtA.reads I F (by simpa [Dm.shut] using z) B;exact⟨as,by rw[Dm.dat]; exact .tuple J hc hd (by simpa using q)⟩
 |_,_,_,.lst _,z,_=>absurd z (by simp[Dm.shut])
theorem DtA.reads(I:Inv X pins σ H s):∀{xs:List V} {ds:List Dm} {us:List ya},DtA H xs ds->CO ds=true->Vals xs us->∃as,ReadsAll s.heap us (Af ds) as
 |_,_,_,.nil,_,.nil=>⟨[],by rw[Af]; exact .nil⟩
 |_,_,_,.cons r t,q,.cons z rt=>by
  rw[CO,yk] at q;obtain⟨as,B⟩:=Dt.reads I r q.1 z;obtain⟨F,q2⟩:=DtA.reads I t q.2 rt;exact⟨as++F,by rw[Af]; exact .cons B q2⟩
end
def EqD(H:Hp)(x y:V)(b:Bool):Prop:=∃d e,Dt H x d/\Dt H y e/\(d.shut=true/\SeqAt.shaped d.dat=true)/\(e.shut=true/\SeqAt.shaped e.dat=true)/\b=PyData.eqv d.dat e.dat
def GA(_:y3):R2:=fun x y H Q=>∃b,EqD H x y b/\Q (.bl b) H
def Eu(_:y3):R2:=fun x y H Q=>∃b,EqD H x y b/\Q (.bl (!b)) H
theorem dNe(Z:X.A.units+64<cLine):OpR X (y09 .NotEq) (Eu X.K):=by
 intro pins s σ H x y v u Q I M J h;obtain⟨b,⟨d,e,dx,dy,⟨G,F⟩,⟨B,z⟩,rfl⟩,q⟩:=h;obtain⟨as,Y⟩:=Dt.reads I dx G M;obtain⟨bs,O⟩:=Dt.reads I dy B J;exact ne_dataH Y O F z Z ⟨.bl _,H,I,rfl,q⟩
end
section
variable{κ:Type} [DecidableEq κ]
def AX(kvs:List (κ×V))(k:κ):Option V:=(kvs.find? fun kv=>decide (kv.1=k)).map (·.2)
def AM(kvs:List (κ×V))(k:κ)(v:V):List (κ×V):=
 if(kvs.any fun kv=>decide (kv.1=k))=true then kvs.map (fun kv=>if kv.1=k then(kv.1,v) else kv) else kvs++[(k,v)]
theorem Bi{p:κ×V}{r:List (κ×V)}{k:κ}(e:p.1=k):AX (p::r) k=some p.2:=by simp[AX,y14,e]
theorem Bj{p:κ×V}{r:List (κ×V)}{k:κ}(e:¬ p.1=k):AX (p::r) k=AX r k:=by simp[AX,y14,e]
theorem Ip(k:κ):∀kvs:List (κ×V),(kvs.any fun kv=>decide (kv.1=k))=(AX kvs k).isSome
 |[]=>rfl
 |p::r=>by
  rw[y1p];by_cases e:p.1=k
  ·simp only[Bi e,decide_eq_true e,Bool.true_or,Option.isSome_some]
  ·rw[Bj e,decide_eq_false e,Bool.false_or]; exact Ip k r
theorem Ob(k j:κ)(y:V):∀kvs:List (κ×V),AX (kvs.map fun kv=>if kv.1=k then(kv.1,y) else kv) j=(AX kvs j).map fun x=>if j=k then y else x
 |[]=>rfl
 |p::r=>by
  have q:=Ob k j y r;rw[yc];by_cases h:p.1=k
  ·rw[if_pos h];by_cases e:p.1=j
   ·rw[Bi (p:=(p.1,y)) e,Bi e,y39,if_pos (e.symm.trans h)]
   ·rw[Bj (p:=(p.1,y)) e,Bj e,q]
  ·rw[if_neg h];by_cases e:p.1=j
   ·rw[Bi (p:=p) e,Bi e,y39,if_neg (fun z=>h (e.trans z))]
   ·rw[Bj (p:=p) e,Bj e,q]
theorem Oc(k j:κ)(y:V):∀kvs:List (κ×V),AX kvs k=none->AX (kvs++[(k,y)]) j=if j=k then some y else AX kvs j
 |[],_=>by
  by_cases e:k=j
  ·rw[if_pos e.symm]; exact Bi (p:=(k,y)) e
  ·rw[if_neg (fun z=>e z.symm)]; exact Bj (p:=(k,y)) e
 |p::r,q=>by
  rw[List.cons_append];have hk:¬ p.1=k:=fun z=>by rw[Bi z] at q; cases q
  rw[Bj hk] at q;have B:=Oc k j y r q;by_cases e:p.1=j
  ·rw[Bi e,Bi e,if_neg (fun z=>hk (e.trans z))]
  ·rw[Bj e,Bj e,B]
theorem LC(kvs:List (κ×V))(k j:κ)(y:V):AX (AM kvs k y) j=if j=k then some y else AX kvs j:=by
 unfold AM;by_cases a:(kvs.any fun kv=>decide (kv.1=k))=true
 ·rw[if_pos a,Ob];rw[Ip] at a;by_cases e:j=k
  ·obtain⟨x,hx⟩:=Option.isSome_iff_exists.mp a;rw[if_pos e,e,hx,y39,if_pos rfl]
  ·rw[if_neg e];cases AX kvs j with
   |none=>rfl
   |some x=>rw[y39,if_neg e]
 ·rw[if_neg a];refine Oc k j y kvs ?_;rw[Ip] at a;cases q:AX kvs k with
  |none=>rfl
  |some x=>rw[q] at a; exact(a rfl).elim
theorem Od(kvs:List (κ×V))(k:κ)(v:V):(AM kvs k v).length<=kvs.length+1:=by
 unfold AM;split
 ·rw[y4]; lia
 ·rw[yt,yh,y0b]; lia
theorem RelO.isSome_eq(r:RelO o u):o.isSome=u.isSome:=by
 cases o with
 |none=>cases u with
  |none=>rfl
  |some _=>exact(show False from r).elim
 |some _=>cases u with
  |none=>exact(show False from r).elim
  |some _=>rfl
theorem RelO.getD(r:RelO o u)(q:RelV d d'):RelV (o.getD d) (u.getD d'):=by
 cases o with
 |none=>cases u with
  |none=>exact q
  |some _=>exact(show False from r).elim
 |some _=>cases u with
  |none=>exact(show False from r).elim
  |some _=>exact r
theorem KV.val{kvs:List (κ×V)}{vs:List (κ×ya)}(r:KV kvs vs)(k:κ):RelO (AX kvs k) (valueAt vs k):=by
 unfold KV at r;induction r with
 |nil=>exact True.intro
 |@cons p q ps B h t G=>
  obtain⟨h1,h2⟩:=h;by_cases e:p.1=k
  ·have F:q.1=k:=h1.symm.trans e;have b:valueAt (q::B) k=some q.2:=by simp[valueAt,y14,F]
   rw[Bi e,b]; exact h2
  ·have F:¬ q.1=k:=fun z=>e (h1.trans z);have b:valueAt (q::B) k=valueAt B k:=by simp[valueAt,y14,F]
   rw[Bj e,b]; exact G
theorem KV.any(r:KV kvs vs)(k:κ):(kvs.any fun kv=>decide (kv.1=k))=vs.any fun kv=>decide (kv.1=k):=by
 unfold KV at r;induction r with
 |nil=>rfl
 |cons h t q=>rw[y1p,y1p,q,h.1]
theorem KV.repl(r:KV kvs vs)(k:κ)(B:RelV y u) :
  KV (kvs.map fun kv=>if kv.1=k then(kv.1,y) else kv) (vs.map fun kv=>if kv.1=k then(kv.1,u) else kv):=by
 unfold KV at r |-;induction r with
 |nil=>exact .nil
 |@cons p q ps G h t F=>
  rw[yc,yc];refine .cons ?_ F;obtain⟨h1,h2⟩:=h;by_cases e:p.1=k
  ·rw[if_pos e,if_pos (h1.symm.trans e)]; exact⟨h1,B⟩
  ·rw[if_neg e,if_neg (fun z=>e (h1.trans z))]; exact⟨h1,h2⟩
theorem KV.put(r:KV kvs vs)(k:κ)(q:RelV y u):KV (AM kvs k y) (stored vs k u):=by
 unfold AM stored;rw[r.any k];by_cases e:(vs.any fun kv=>decide (kv.1=k))=true
 ·rw[if_pos e,if_pos e]; exact r.repl k q
 ·rw[if_neg e,if_neg e]; exact y36 r ⟨rfl,q⟩
theorem KV.length(r:KV kvs vs):kvs.length=vs.length:=y28 r
theorem Ev(r:RelV (kV k) u):(AU P w).is k u=true:=by
 cases k with
 |inl i=>obtain⟨t,e⟩:=(show ∃t,u=Value.int i t from r); subst e; exact UA P w i t
 |inr x=>obtain⟨t,e⟩:=(show ∃t,u=Value.str x t from r); subst e; exact UB P w x t
theorem Oe:∀{ks:List Key} {us:List ya},Vals (ks.map kV) us->ItemsAre (AU P w) ks us
 |[],_,r=>by rw[y20] at r; cases r; exact .nil
 |k::ks,_,r=>by
  rw[yc] at r;cases r with
  |cons h t=>exact .cons (Ev h) (Oe t)
abbrev KT(H:Hp):List (List Key×V)->List (List Key×Addr×ya)->Prop:=Paired fun p q=>p.1=q.1/\H q.2.1=some (.tup (p.1.map kV))/\RelV p.2 q.2.2
theorem KT.val{H:Hp}{kvs:List (List Key×V)}{xs:List (List Key×Addr×ya)}(r:KT H kvs xs)(k:List Key):RelO (AX kvs k) ((atKey xs k).map (·.2)):=by
 induction r with
 |nil=>exact True.intro
 |@cons p q ps B h t G=>
  obtain⟨h1,_,h2⟩:=h;by_cases e:p.1=k
  ·have F:q.1=k:=h1.symm.trans e;have b:atKey (q::B) k=some q.2:=by simp[atKey,y14,F]
   rw[Bi e,b]; exact h2
  ·have F:¬ q.1=k:=fun z=>e (h1.trans z);have b:atKey (q::B) k=atKey B k:=by simp[atKey,y14,F]
   rw[Bj e,b]; exact G
theorem KT.repl(r:KT H kvs xs)(k:List Key)(B:RelV y u) :
  KT H (kvs.map fun kv=>if kv.1=k then(kv.1,y) else kv) (xs.map (putAt k u)):=by
 induction r with
 |nil=>exact .nil
 |@cons p q ps J h t F=>
  rw[yc,yc];refine .cons ?_ F;obtain⟨h1,h2,G⟩:=h;unfold putAt;by_cases e:p.1=k
  ·rw[if_pos e,if_pos (h1.symm.trans e)]; exact⟨h1,h2,B⟩
  ·rw[if_neg e,if_neg (fun z=>e (h1.trans z))]; exact⟨h1,h2,G⟩
theorem KT.put(r:KT H kvs xs)(k:List Key)(hb:H b=some (.tup (k.map kV)))(z:RelV y u) :
  KT H (AM kvs k y) (storedH xs k b u):=by
 have e:(kvs.any fun kv=>decide (kv.1=k))=(atKey xs k).isSome:=by
  rw[Ip,(r.val k).isSome_eq,Option.isSome_map]
 unfold AM storedH;rw[e];by_cases q:(atKey xs k).isSome=true
 ·rw[if_pos q,if_pos q]; exact r.repl k z
 ·rw[if_neg q,if_neg q]; exact y36 r ⟨rfl,hb,z⟩
theorem KT.keeps(r:KT H kvs xs)(q:∀b ys,H b=some (.tup ys)->H' b=some (.tup ys)):KT H' kvs xs:=
 Paired.mapP r fun _ _ z=>⟨z.1,q _ _ z.2.1,z.2.2⟩
end
section
variable{P:yl}{w:y07}{H:Hp}{h:Heap}{a:Addr}
theorem Of(ok:HOk P w H h)(e:Rd H a u):ObjOk P w H h a u:=e.ok ok
theorem Ce(ok:HOk P w H h)(e:Rd H a (.dK kvs)):kvs.length<=yn/\(a==sysModules)=false/\∃vs,KV kvs vs/\h.DictOf (AU P w) a vs:=
 show ObjOk P w H h a (.dK kvs) from Of ok e
theorem LD(ok:HOk P w H h)(e:H a=some (.dK kvs)):kvs.length<=yn/\(a==sysModules)=false/\∃vs,KV kvs vs/\h.DictOf (AU P w) a vs:=Ce ok (.inl e)
theorem Ew(ok:HOk P w H h)(e:H a=some (.tup (ks.map kV))):(tupleKind (AU P w)).is h ks a:=by
 obtain⟨_,q,r,o,h1,h2,⟨n,z⟩,_⟩:=(show ObjOk P w H h a (.tup (ks.map kV)) from ok a _ e);exact⟨o,q.toArray,n,h1,h2,z,by simpa using Oe r⟩
theorem D4(ok:HOk P w H h)(e:Rd H a (.dT kvs)):kvs.length<=yn/\(a==sysModules)=false/\
  ∃xs,KT H kvs xs/\h.DictOfH (tupleKind (AU P w)) a xs:=by
 obtain⟨z,y,xs,r,o,es,ep,h1,h2,M,J,G⟩:=(show ObjOk P w H h a (.dT kvs) from Of ok e);refine⟨z,y,xs,r,o,es,ep,h1,h2,M,J,fun x hx=>?_,G⟩;have B:∀{l:List (List Key×V)} {m:List (List Key×Addr×ya)},KT H l m->∀x∈m,(tupleKind (AU P w)).is h x.1 x.2.1:=by
  intro l m q;induction q with
  |nil=>intro x hx; exact nomatch hx
  |@cons p q ps O hq t F=>
   intro x hx;rcases List.mem_cons.mp hx with e|hx
   ·subst e;exact Ew ok (by rw[<- hq.1]; exact hq.2.1)
   ·exact F x hx
 exact B r x hx
theorem Vm(ok:HOk P w H h)(e:H a=some (.dT kvs)):kvs.length<=yn/\(a==sysModules)=false/\
  ∃xs,KT H kvs xs/\h.DictOfH (tupleKind (AU P w)) a xs:=D4 ok (.inl e)
end
def DGet(H:Hp)(a:Addr)(y:V)(r:Option V):Prop:=
 (∃kvs k,Rd H a (.dK kvs)/\y=kV k/\r=AX kvs k)\/∃kvs k b,Rd H a (.dT kvs)/\y=.ref b/\H b=some (.tup (k.map kV))/\r=AX kvs k
def DPut(H:Hp)(a:Addr)(y v:V)(H':Hp):Prop:=
 (∃kvs k,H a=some (.dK kvs)/\y=kV k/\kvs.length<yn/\H'=upd H a (.dK (AM kvs k v)))\/
 ∃kvs k b,H a=some (.dT kvs)/\y=.ref b/\H b=some (.tup (k.map kV))/\kvs.length<yn/\H'=upd H a (.dT (AM kvs k v))
theorem DGet.k{H:Hp}{a:Addr}{kvs:List (Key×V)}{k:Key}(e:H a=some (.dK kvs)):DGet H a (kV k) (AX kvs k):=.inl ⟨kvs,k,.inl e,rfl,rfl⟩
theorem DGet.t{H:Hp}{a b:Addr}{kvs:List (List Key×V)}{k:List Key}(e:H a=some (.dT kvs))(eb:H b=some (.tup (k.map kV))):DGet H a (.ref b) (AX kvs k):=.inr ⟨kvs,k,b,.inl e,rfl,eb,rfl⟩
theorem DPut.k{H:Hp}{a:Addr}{kvs:List (Key×V)}{k:Key}{v:V}(e:H a=some (.dK kvs))(q:kvs.length<yn):DPut H a (kV k) v (upd H a (.dK (AM kvs k v))):=.inl ⟨kvs,k,e,rfl,q,rfl⟩
theorem DPut.t{H:Hp}{a b:Addr}{kvs:List (List Key×V)}{k:List Key}{v:V}(e:H a=some (.dT kvs))(eb:H b=some (.tup (k.map kV)))(q:kvs.length<yn) :
  DPut H a (.ref b) v (upd H a (.dT (AM kvs k v))):=.inr ⟨kvs,k,b,e,rfl,eb,q,rfl⟩
section
variable{X:Cx}{pins:List (Addr×Obj)}{σ:St}{H:Hp}{s:y9}{a:Addr}{y v:V}{u r:ya}{o:Option V}{A:y0a}{E:ya->y9->Prop}
theorem Inv.big(I:Inv X pins σ H s):sysModules<s.heap.objs.size:=by
 have h:yu<s.heap.objs.size:=(I.mod.glob.keeps I.bk).lt;exact y0w (by decide) h
theorem Vn{Q:ya->y9->Prop}(Y:A.units+1<cLine)(I:Inv X pins σ H s)(g:DGet H a y (some v))(O:RelV y u)(h:∀F s',Inv X pins σ H s'->RelV v F->Q F s') :
  yy (y03 X.prog X.w) A (getItem (.ref a) u) Q E s:=by
 rcases g with⟨kvs,k,e,J,l⟩|⟨kvs,k,b,e,J,eb,l⟩
 ·subst J;obtain⟨z,hd,vs,B,M⟩:=Ce I.hok e;obtain⟨F,hw,q⟩:=RelO.some_of (v:=v) (o:=valueAt vs k) (by rw[l]; exact B.val k);exact wpAny_getItem_of (Ev O) M.mapOf hw (h F _ (I.tok _) q)
 ·subst J;cases (show u=Value.ref b from O);obtain⟨z,hd,xs,B,M⟩:=D4 I.hok e;obtain⟨F,hw,q⟩:=RelO.some_of (v:=v) (o:=(atKey xs k).map (·.2)) (by rw[l]; exact B.val k);obtain⟨p,Z,G⟩:=Option.map_eq_some_iff.mp hw;refine wpAny_getItem_heap (y2e Y) (Ew I.hok eb) M Z ?_;rw[G];exact h F _ (I.tok _) q
theorem Vo{Q:ya->y9->Prop}(M:A.units+1<cLine)(I:Inv X pins σ H s)(g:DGet H a y o)(J:RelV y u)(h:∀s',Inv X pins σ H s'->Q (.bool o.isSome) s') :
  yy (y03 X.prog X.w) A (y09 .In u (.ref a)) Q E s:=by
 rcases g with⟨kvs,k,e,F,l⟩|⟨kvs,k,b,e,F,eb,l⟩
 ·subst F;obtain⟨z,hd,vs,B,G⟩:=Ce I.hok e;refine wpAny_in_of (Ev J) hd G.mapOf ?_;rw[<- (B.val k).isSome_eq,<- l];exact h _ (I.tok _)
 ·subst F;cases (show u=Value.ref b from J);obtain⟨z,hd,xs,B,G⟩:=D4 I.hok e;refine wpAny_in_heap (y2e M) (Ew I.hok eb) hd G ?_;have q:=(B.val k).isSome_eq;rw[Option.isSome_map] at q;rw[<- q,<- l];exact h _ (I.tok _)
theorem Og{t':Nat}(I:Inv X pins σ H s)(F:Mut (H a))(G:Heap.SameBut a s.heap h')(J:∃q,h'.get? a=some q)(B:ObjOk X.prog X.w (upd H a ob) h' a ob) :
  Inv X pins σ (upd H a ob) {s with heap:=h',toks:=t'}:=
 I.write (x:=a) (e:=a) F (.inl rfl) (fun b q hb z=>(G.2 b hb).trans z) J B
theorem Oh(z:kvs.length<=yn)(hd:(a==sysModules)=false)(q:KV kvs vs)(B:h'.DictOf (AU P w) a vs) :
  ObjOk P w H' h' a (.dK kvs):=⟨z,hd,vs,q,B⟩
theorem Vp{Q:Unit->y9->Prop}(hu:A.units+1<cLine)(I:Inv X pins σ H s)(g:DPut H a y v H')(ry:RelV y u)(rv:RelV v r)(h:∀s',Inv X pins σ H' s'->Q () s') :
  yy (y03 X.prog X.w) A (setItem (.ref a) u r) Q E s:=by
 rcases g with⟨kvs,k,e,O,l,Y⟩|⟨kvs,k,b,e,O,eb,l,Y⟩
 ·subst O Y;obtain⟨z,hd,vs,B,Z⟩:=LD I.hok e;have G:vs.length<=yn:=by rw[<- B.length]; exact z
  have M:(AM kvs k v).length<=yn:=by have:=Od kvs k v; lia
  refine wpAny_setItem_pairs (hsz:=G) (Ev ry) Z fun h' F J=>h _ ?_;have he:∃q,h'.get? a=some q:=let ⟨q,_,_,hq,_⟩:=F; ⟨q,hq⟩;exact Og I (by rw[e]; exact True.intro) J he (Oh M hd (B.put k rv) F)
 ·subst O Y;cases (show u=Value.ref b from ry);obtain⟨z,hd,xs,B,Z⟩:=Vm I.hok e;have G:xs.length<=yn:=by rw[<- y28 B]; exact z
  have M:(AM kvs k v).length<=yn:=by have:=Od kvs k v; lia
  refine wpAny_setItem_heap (hsz:=G) (y2e hu) (Ew I.hok eb) Z fun h' F J=>h _ ?_;obtain⟨q,es,ep,hq,h2,h3,h4,_,h5⟩:=F;refine Og I (by rw[e]; exact True.intro) J ⟨q,hq⟩ ⟨M,hd,_,(B.put k eb rv).keeps fun c ys ec=>?_,q,es,ep,hq,h2,h3,h4,h5⟩;rw[AB (BL ec e (fun z=>nomatch z))];exact ec
end
section
variable{X:Cx}{pins:List (Addr×Obj)}{σ:St}{H:Hp}{s:y9}{a:Addr}{kvs:List (Key×V)}{k:Key}{u:ya}{A:y0a}{E:ya->y9->Prop}
def Oi(i:Expr):Prop:=∀q z,subscripted i false q z=operate [q,z] (getItem q z)
end
theorem Vq{prog:yl}{w:y07}{A:y0a}{E:ya->y9->Prop}{s:y9}{env:Env}{value q:Expr}{pos:Pos}{T id:String}{Q:ya->y9->Prop}
  (Y:typeLookup (.type T) "__getitem__" = pure (some (.builtin id))) (O:Oi q)
  (h:yy (y03 prog w) A (eval value env) (fun o G=>yy (y03 prog w) A (eval q env) (fun i z=>z.TypeIs o T/\yy (y03 prog w) A (getItem o i) Q E z) E G) E s) :
  yy (y03 prog w) A (eval (.Subscript value q pos) env) Q E s:=by
 refine Subscript_ (y18 h (fun o G h₁=>y18 h₁ (fun i z B=>?_) fun _ _ x=>x) fun _ _ x=>x);obtain⟨M,B⟩:=B;unfold subscriptTail;refine y8 ?_;rw[getitemInPython_of_ne M.not_modules];refine y8 (wpAny_specialOf M Y ?_);have fin:yy (y03 prog w) A (subscripted q false o i) (fun r F=>yy (y03 prog w) A (letTemporaryGo value o r >>= fun _=>pure r) Q E F) E z:=by
  rw[O o i];exact wpAny_operating (y18 B (fun r F J=>y8 (wpAny_letTemporaryGo (ye J))) fun _ _ x=>x)
 first
  |exact ye (y8 fin)
  |exact y8 (ye (y8 fin))
  |exact y8 fin
theorem Vr(I:Inv X pins σ H s)(g:DGet H a y o):s.TypeIs (.ref a) "dict":=by
 rcases g with⟨kvs,k,e,_,_⟩|⟨kvs,k,b,e,_,_,_⟩
 ·obtain⟨_,_,vs,_,q⟩:=Ce I.hok e;exact q.typeIs
 ·obtain⟨_,_,xs,_,q⟩:=D4 I.hok e;exact q.typeIs
def Dl(td ty:TE):TE:=fun σ H Q=>td σ H fun x H1=>ty σ H1 fun y H2=>∃a v,x=.ref a/\DGet H2 a y (some v)/\Q v H2
def Iq(ty td:TE):TE:=fun σ H Q=>ty σ H fun y H1=>td σ H1 fun x H2=>∃a o,x=.ref a/\DGet H2 a y o/\Q (.bl o.isSome) H2
def Dn(td ty tv:TE):TS:=fun D σ H=>tv σ H fun v H1=>td σ H1 fun x H2=>ty σ H2 fun y z=>∃a q,x=.ref a/\DPut z a y v q/\D.nx σ q
section
variable{X:Cx}{o i e value:Expr}{pos pos' tpos:Pos}{td ty tv:TE}
theorem Ar(O:X.A.units+1<cLine)(Z:PE X o td)(hi:PE X i ty)(Y:Oi i):PE X (.Subscript o i pos) (Dl td ty):=by
 refine⟨?_⟩;intro pins s σ H Q I h;refine Vq PySem.F.slot_dict_getitem.lookup Y (thn (Z pins s σ H _ I h) fun u B ⟨x,H1,I1,J,M⟩=>thn (hi pins B σ H1 _ I1 M) fun iv s2 ⟨y,H2,z,G,a,v,ex,g,q2⟩=>?_);subst ex;obtain rfl:u=Value.ref a:=J;exact⟨Vr z g,Vn O z g G fun w' s3 I3 q=>⟨v,H2,I3,q,q2⟩⟩
theorem Oj(J:X.A.units+1<cLine)(hi:PE X i ty)(M:PE X o td):PC X .In i o (Iq ty td):=by
 refine⟨?_⟩;intro pins s σ H Q I h;refine thn (hi pins s σ H _ I h) fun iv q ⟨y,H1,Z,z,F⟩=>thn (M pins q σ H1 _ Z F) fun u s2 ⟨x,H2,Y,B,a,G,ex,g,q2⟩=>?_;subst ex;obtain rfl:u=Value.ref a:=B;exact Vo J Y g z fun s3 O=>⟨.bl G.isSome,H2,O,rfl,q2⟩
theorem C3(O:X.A.units+1<cLine)(Z:PE X o td)(hi:PE X i ty)(hv:PE X value tv)(Y:swapsWith value (some (.Subscript o i pos')) pos.line X.env=pure false) :
  PS X (.Assign [.Subscript o i pos'] value pos) (Dn td ty tv):=by
 refine⟨?_⟩;intro pins s σ H D I h;refine wpAny_Assign_Subscript (thn (hv pins s σ H _ I h) fun r z ⟨v,H1,I1,G,M⟩=>thn (Z pins z σ H1 _ I1 M) fun u q ⟨x,H2,I2,F,q2⟩=>thn (hi pins q σ H2 _ I2 q2) fun iv s3 ⟨y,H3,I3,B,a,H4,ex,g,J⟩=>?_) Y;subst ex;obtain rfl:u=Value.ref a:=F;exact Vp O I3 g B G fun s4 I4=>⟨σ,H4,I4,J⟩
theorem Vs(h:Heap)(hb:sysModules<h.objs.size):ObjOk P w H (h.push {cls:=.type "dict",data:=.dict #[]}) h.objs.size (.dK []):=
 ⟨y05 _,beq_eq_false_iff_ne.mpr (y0y (yj hb)),[],.nil,Heap.DictOf.new h⟩
theorem Vt(h:Heap)(hb:sysModules<h.objs.size):ObjOk P w H (h.push {cls:=.type "dict",data:=.dict #[]}) h.objs.size (.dT []):=
 ⟨y05 _,beq_eq_false_iff_ne.mpr (y0y (yj hb)),[],.nil,_,#[],0,yg _ rfl,⟨rfl,rfl,rfl⟩,rfl,rfl,List.nodup_nil⟩
def Ex:TE:=fun _ H Q=>∀p,H p=none->Q (.ref p) (upd H p (.dK []))
def Hj:TE:=fun _ H Q=>∀p,H p=none->Q (.ref p) (upd H p (.dT []))
end
section
variable{X:Cx}{pos:Pos}
theorem Ey:PE X (.Dict [] [] pos) Ex:=⟨fun pins s σ H Q I h=>
 wpAny_Dict_empty ⟨.ref s.heap.objs.size,_,I.laid (a:=s.heap.objs.size) (o:=.dK []) (t':=s.toks) (fun _ _ q=>y6 _ q) (yb _) (Vs s.heap I.big),rfl,h _ (I.hok.fresh (yb _))⟩⟩
theorem Hk:PE X (.Dict [] [] pos) Hj:=⟨fun pins s σ H Q I h=>
 wpAny_Dict_empty ⟨.ref s.heap.objs.size,_,I.laid (a:=s.heap.objs.size) (o:=.dT []) (t':=s.toks) (fun _ _ q=>y6 _ q) (yb _) (Vt s.heap I.big),rfl,h _ (I.hok.fresh (yb _))⟩⟩
def Do:List (TE×TE)->St->Hp->(List (V×V)->Hp->Prop)->Prop
 |[],_,H,Q=>Q [] H
 |(tk,tv)::r,σ,H,Q=>tk σ H fun x H1=>tv σ H1 fun y H2=>Do r σ H2 fun ps q=>Q ((x,y)::ps) q
def Vu(kvs q:List (Key×V)):List (Key×V):=q.foldl (fun z kv=>AM z kv.1 kv.2) kvs
def GE(q:List (TE×TE)):TE:=fun σ H Q=>∀p,H p=none->Do q σ (upd H p (.dK [])) fun ps H2=>H2 p=some (.dK [])/\∃kvs:List (Key×V),ps=kvs.map (fun kv=>(kV kv.1,kv.2))/\kvs.length<=15/\Q (.ref p) (upd H2 p (.dK (Vu [] kvs)))
end
structure M1(X:Cx)(o:Expr)(m:Str)(apos:Pos)(e:Expr)(cpos:Pos):Prop where
 base:attributeBase o m X.env (eval o X.env)=eval o X.env
 few:((backTo cpos (starEach [e] X.env)).all (fun x=>!x.1)&&(backToKw cpos (keywordEach [] X.env)).all (fun x=>x.1.isSome)
  && decide (([e]:List Expr).length+([]:List Keyword).length+(if([]:List Keyword).isEmpty then 0 else 1)<30))=true
 line:(apos.endLine==cpos.line)=true
 trees:backTo cpos (starEach [e] X.env)=[(false,eval e X.env)]
structure M2(X:Cx)(o:Expr)(m:Str)(apos:Pos)(e f:Expr)(cpos:Pos):Prop where
 base:attributeBase o m X.env (eval o X.env)=eval o X.env
 few:((backTo cpos (starEach [e,f] X.env)).all (fun x=>!x.1)&&(backToKw cpos (keywordEach [] X.env)).all (fun x=>x.1.isSome)
  && decide (([e,f]:List Expr).length+([]:List Keyword).length+(if([]:List Keyword).isEmpty then 0 else 1)<30))=true
 line:(apos.endLine==cpos.line)=true
 trees:backTo cpos (starEach [e,f] X.env)=[(false,eval e X.env),(false,eval f X.env)]
def IsD(H:Hp)(a:Addr):Prop:=(∃kvs,Rd H a (.dK kvs))\/∃kvs,Rd H a (.dT kvs)
theorem LE(I:Inv X pins σ H s)(d:IsD H a) :
  s.TypeIs (.ref a) "dict"/\(∀b,Value.ref a=.ref b->∃z,s.heap.get? b=some z/\z.dict=none)/\(a==sysModules)=false:=by
 rcases d with⟨kvs,e⟩|⟨kvs,e⟩
 ·obtain⟨_,hd,vs,_,B⟩:=Ce I.hok e;refine⟨B.typeIs,fun b q=>?_,hd⟩;cases q;obtain⟨z,_,_,h1,h2,_⟩:=B;exact⟨z,h1,h2.2.1⟩
 ·obtain⟨_,hd,xs,_,B⟩:=D4 I.hok e;refine⟨B.typeIs,fun b q=>?_,hd⟩;cases q;obtain⟨z,_,_,h1,h2,_⟩:=B;exact⟨z,h1,h2.2.1⟩
section
variable{X:Cx}{pins:List (Addr×Obj)}{σ:St}{H:Hp}{s:y9}{a:Addr}{y d:V}{u r:ya}{o:Option V}{A:y0a}{E:ya->y9->Prop}
theorem Vv{Q:ya->y9->Prop}(O:A.units+1<cLine)(I:Inv X pins σ H s)(g:DGet H a y o)(M:RelV y u)(h:∀J s',Inv X pins σ H s'->RelV (o.getD .non) J->Q J s') :
  yy (y03 X.prog X.w) A (call (.builtin "dict.get") [.ref a,u]) Q E s:=by
 rcases g with⟨kvs,k,e,G,l⟩|⟨kvs,k,b,e,G,eb,l⟩
 ·subst G;obtain⟨z,hd,vs,q,B⟩:=Ce I.hok e;refine y3l y1f B.typeIs y29 (PySem.F.args_dict_get_2 _ _) (meets_dict_get (AU X.prog X.w) a (Ev M) hd) ⟨_,B.mapOf,h _ _ (I.tok _) ?_⟩;rw[l];exact(q.val k).getD rfl
 ·subst G;cases (show u=Value.ref b from M);obtain⟨z,hd,xs,q,B⟩:=D4 I.hok e;refine y3l y1f B.typeIs y29 (PySem.F.args_dict_get_2 _ _) (meetsH_dict_get (tupleKind (AU X.prog X.w)) a b hd) ⟨y2e O,k,xs,Ew I.hok eb,B,h _ _ (I.tok _) ?_⟩;rw[l];exact(q.val k).getD rfl
theorem Vw{Q:ya->y9->Prop}(Y:A.units+1<cLine)(I:Inv X pins σ H s)(g:DGet H a y o)(M:RelV y u)(O:RelV d r)(h:∀J s',Inv X pins σ H s'->RelV (o.getD d) J->Q J s') :
  yy (y03 X.prog X.w) A (call (.builtin "dict.get") [.ref a,u,r]) Q E s:=by
 rcases g with⟨kvs,k,e,G,l⟩|⟨kvs,k,b,e,G,eb,l⟩
 ·subst G;obtain⟨z,hd,vs,q,B⟩:=Ce I.hok e;refine y3l y1f B.typeIs y29 (PySem.F.args_dict_get_3 _ _ _) (meets_dict_get_default (AU X.prog X.w) a (Ev M) hd r) ⟨_,B.mapOf,h _ _ (I.tok _) ?_⟩;rw[l];exact(q.val k).getD O
 ·subst G;cases (show u=Value.ref b from M);obtain⟨z,hd,xs,q,B⟩:=D4 I.hok e;refine y3l y1f B.typeIs y29 (PySem.F.args_dict_get_3 _ _ _) (meetsH_dict_get_default (tupleKind (AU X.prog X.w)) a b hd r) ⟨y2e Y,k,xs,Ew I.hok eb,B,h _ _ (I.tok _) ?_⟩;rw[l];exact(q.val k).getD O
end
def Ez(td ty:TE):TE:=fun σ H Q=>td σ H fun x H1=>∃a,x=.ref a/\IsD H1 a/\ty σ H1 fun y H2=>∃o,DGet H2 a y o/\Q (o.getD .non) H2
def Hl(td ty tx:TE):TE:=fun σ H Q=>td σ H fun x H1=>∃a,x=.ref a/\IsD H1 a/\ty σ H1 fun y H2=>tx σ H2 fun z q=>∃o,DGet q a y o/\Q (o.getD z) q
section
variable{X:Cx}{o e f:Expr}{apos cpos:Pos}{td ty tx:TE}
theorem Ir(Z:X.A.units+1<cLine)(ho:PE X o td)(he:PE X e ty) (m:M1 X o "get" apos e cpos):PE X (.Call (.Attribute o "get" apos) [e] [] cpos) (Ez td ty):=by
 refine⟨?_⟩;intro pins s σ H Q I h;refine y3t m.base m.few m.line y34 y1f PySem.F.type_dict_get (thn (ho pins s σ H _ I h) fun u J ⟨x,H1,z,O,a,ex,d,Y⟩=>?_);subst ex;obtain rfl:u=Value.ref a:=O;obtain⟨G,B,_⟩:=LE z d;refine⟨G,B,?_⟩;rw[m.trees];refine y2b rfl (y3f (y2t (thn (he pins J σ H1 _ z Y) fun iv s2 ⟨y,H2,I2,M,ov,g,q2⟩=>y3n ?_)));exact Vv Z I2 g M fun w' s3 I3 q=>⟨_,H2,I3,q,q2⟩
theorem LG(hu:X.A.units+1<cLine)(ho:PE X o td)(he:PE X e ty)(hf:PE X f tx) (m:M2 X o "get" apos e f cpos):PE X (.Call (.Attribute o "get" apos) [e,f] [] cpos) (Hl td ty tx):=by
 refine⟨?_⟩;intro pins s σ H Q I h;refine y3t m.base m.few m.line y34 y1f PySem.F.type_dict_get (thn (ho pins s σ H _ I h) fun u O ⟨x,H1,B,rx,a,ex,d,q1⟩=>?_);subst ex;obtain rfl:u=Value.ref a:=rx;obtain⟨J,G,_⟩:=LE B d;refine⟨J,G,?_⟩;rw[m.trees];refine y2b rfl (y3f (y2t (thn (he pins O σ H1 _ B q1) fun iv M ⟨y,H2,I2,Z,q2⟩=>
  y2t (thn (hf pins M σ H2 _ I2 q2) fun fv s3 ⟨z,H3,I3,Y,ov,g,q3⟩=>y3n ?_))))
 exact Vw hu I3 g Z Y fun w' s4 I4 q=>⟨_,H3,I4,q,q3⟩
end
section
variable{X:Cx}{pins:List (Addr×Obj)}{σ:St}{H:Hp}{s:y9}{a:Addr}{kvs:List (Key×V)}{A:y0a}{E:ya->y9->Prop}
theorem Vx{Q:ya->y9->Prop}(I:Inv X pins σ H s)(e:Rd H a (.dK kvs))(h:∀p s',H p=none->Inv X pins σ (upd H p (.dK kvs)) s'->Q (.ref p) s'):yy (y03 X.prog X.w) A (call (.type "dict") [.ref a]) Q E s:=by
 obtain⟨z,hd,vs,B,J⟩:=Ce I.hok e;refine kt_call_dict hd J (by rw[<- B.length]; exact z) fun h' F G=>?_;refine h _ _ (I.hok.fresh (yb _)) (I.laid (a:=s.heap.objs.size) (o:=.dK kvs) (t':=s.toks) (fun b q hq=>?_) (yb _) (Oh z (beq_eq_false_iff_ne.mpr (y0y (yj I.big))) B F));exact(G.2 b (yj (yd hq))).trans (y6 _ hq)
end
section
variable{X:Cx}{pins:List (Addr×Obj)}{σ:St}{H:Hp}{s:y9}{a:Addr}{y:V}{u:ya}{A:y0a}{E:ya->y9->Prop}
end
section
variable{X:Cx}
end
section
variable{κ:Type} [DecidableEq κ]
end
section
variable{X:Cx}
def Vy(K:y3)(a:Addr)(f:Int->Option ya):Prop:=∃o es ep,K.lookup a=some o/\o.ExactDict/\o.data=.dict es ep/\(∀e∈es,∃k,Value.isInt k e.key=true/\e.hash=hashInt k)/\∀k,findBy Value.isInt es k=f k
def GF(K:y3)(td ty:TE):TE:=fun σ H Q=>td σ H fun x H1=>ty σ H1 fun y H2=>∃a k u v f,x=.ref a/\y=.int k/\Vy K a f/\f k=some u/\RelV v u/\Q v H2
end
section
variable{X:Cx}{pins:List (Addr×Obj)}{σ:List (Option V)}{H:Hp}{s:y9}{h':Heap}
theorem Inv.turnedL{t':Nat}{ch:List Addr}(I:Inv X pins σ H s)(k:∀b o,b∉ch->s.heap.get? b=some o->h'.get? b=some o)(hf:∀b∈ch,FpOk X pins H b):Inv X pins σ H {s with heap:=h',toks:=t'}:=by
 have B:∀b u,H b=some u->b∉ch:=fun b u e z=>by rw[(hf b z).1] at e; cases e
 refine I.step (g':=s.gens) (d':=s.drawn) (ch:=ch) (fun b hb=>?_) (fun b o _ _ hc e _=>k b o hc e) (fun b o _ _ hc e _=>⟨o.slots,k b o hc e⟩) (fun _ _ _ _ n=>n)
  (fun b o hc e=>⟨o,k b o hc e⟩) (fun _ _ e=>e) (fun _ _ _ e=>e) (fun b ps e=>⟨#[],by rw[e]; simp⟩) (fun m hm=>?_) (fun b u e=>?_) I.bare
 ·obtain⟨_,O,_,M,J,G⟩:=hf b hb;exact⟨M,O,J,G⟩
 ·obtain⟨o,es,ep,F,r⟩:=hm;exact⟨o,es,ep,k _ o (fun z=>(hf _ z).2.1 rfl) F,r⟩
 ·refine(I.hok b u e).stay (fun c v hc q=>k c v ?_ q) (fun _ q=>q) fun _ _ q=>q;rcases hc with z|z
  ·rw[z]; exact B b u e
  ·exact B c _ z
end
def Ite(K:y3)(a:Addr):It:=
 ⟨fun i H=>∃xs x,SqL K H a xs/\xs[i]?=some x,fun i H x H'=>∃T v,x=.ref T/\H T=none/\H'=upd H T (.tup [.int i,v])/\∀xs,SqL K H a xs->xs[i]?=some v,fun i H=>∃xs,SqL K H a xs/\xs.length<=i⟩
def Itz(K:y3)(a b:Addr):It:=
 ⟨fun i H=>∃xs ys x y,SqL K H a xs/\SqL K H b ys/\xs[i]?=some x/\ys[i]?=some y,fun i H x H'=>∃T u v,x=.ref T/\H T=none/\H'=upd H T (.tup [u,v])/\(∀xs,SqL K H a xs->xs[i]?=some u)/\∀ys,SqL K H b ys->ys[i]?=some v,
  fun i H=>∃xs ys,SqL K H a xs/\SqL K H b ys/\(xs.length<=i\/ys.length<=i)⟩
theorem LH:(2:Nat)<=yn:=by decide
section
variable{X:Cx}
def Vz(K:y3)(ta:TA):TI:=fun σ H R=>ta σ H fun vs H1=>∃a,vs=[.ref a]/\(∃xs,SqL K H1 a xs)/\R (Ite K a) H1
def W0(K:y3)(ta:TA):TI:=fun σ H R=>ta σ H fun vs H1=>∃a b,vs=[.ref a,.ref b]/\(∃xs,SqL K H1 a xs)/\(∃ys,SqL K H1 b ys)/\R (Itz K a b) H1
theorem Room.units1(r:Room k A):A.units+1<cLine:=by have:=r.un; lia
theorem Iu:B3 X (.type "dict") (fun xs H Q=>∃a kvs,xs=[.ref a]/\Rd H a (.dK kvs)/\∀p,H p=none->Q (.ref p) (upd H p (.dK kvs))):=by
 intro pins s σ H xs us Q I r h;obtain⟨a,kvs,rfl,e,q⟩:=h;obtain⟨u,rfl,z⟩:=r.one;cases z;exact Vx I e fun p s' B F=>⟨.ref p,_,F,rfl,q p B⟩
theorem Ol:∀{ns:List Str} {us:List ya},StrsAre us ns->Vals (ns.map V.str) us
 |_,_,.nil=>.nil
 |_,_,.cons n t h=>.cons ⟨t,rfl⟩ (Ol h)
def GI(K:y3):List V->Hp->VK->Prop:=fun xs H Q=>∃(a:Addr) (ns:List Str),xs=[.ref a]/\SqL K H a (ns.map V.str)/\ns.length<64/\∀(l:Addr) (q:List Str),H l=none->q.Perm ns->sortedS q=true->Q (.ref l) (upd H l (.lst (q.map V.str)))
def GJ(r G q:R2)(ta tb tc td:TE):TT:=fun σ H Q=>ta σ H fun x H1=>tb σ H1 fun y H2=>r x y H2 fun z F=>∃k,z=.bl k/\(if k=true then tc σ F fun w O=>G y w O fun z B=>∃k,z=.bl k/\
 (if k=true then td σ B fun v M=>q w v M fun z J=>∃k,z=.bl k/\Q k J else Q false B) else Q false F)
def W1(K:y3)(tl:TE):TI:=fun σ H R=>tl σ H fun x H1=>∃a,x=.ref a/\(((∃xs,SqL K H1 a xs)/\R (Itl K a) H1)\/((∃xs,SqT K H1 a xs)/\R (Itt K a) H1))
def Om(K:y3)(H:Hp)(x y:V)(b:Bool):Prop:=∃a c xs ys ds es,x=.ref a/\y=.ref c/\SqL K H a xs/\SqL K H c ys/\DtA H xs ds/\DtA H ys es/\CO ds=true/\CO es=true/\SeqAt.shaped (.list (Af ds))=true/\SeqAt.shaped (.list (Af es))=true/\b=PyData.eqv (.list (Af ds)) (.list (Af es))
def GK(K:y3):R2:=fun x y H Q=>∃b,Om K H x y b/\Q (.bl b) H
def F0(K:y3):R2:=fun x y H Q=>∃b,Om K H x y b/\Q (.bl (!b)) H
theorem Inv.readsDL(I:Inv X pins σ H s)(h:SqL X.K H a xs)(d:DtA H xs ds)(B:CO ds=true):∃as,Reads s.heap (.ref a) (.list (Af ds)) as:=by
 obtain⟨z,r,⟨o,n,e,c,_,F⟩,_⟩:=I.list h;obtain⟨as,q⟩:=DtA.reads I d B r;exact⟨_,.list e c F (by simpa using q)⟩
theorem LI(Z:X.A.units+64<cLine):OpR X (y09 .NotEq) (F0 X.K):=by
 intro pins s σ H x y v u Q I M J h;obtain⟨b,⟨a,c,xs,ys,ds,es,rfl,rfl,h1,h2,d1,d2,G,F,B,z,rfl⟩,q⟩:=h;cases M; cases J;obtain⟨as,Y⟩:=I.readsDL h1 d1 G;obtain⟨bs,O⟩:=I.readsDL h2 d2 F;exact ne_dataH Y O B z Z ⟨.bl _,H,I,rfl,q⟩
def Ris(xs:Array Nat):Prop:=xs.toList.Pairwise (· < ·)
end
section
variable{prog:yl}{w:y07}{κ:Type} [DecidableEq κ] (knd:PySem.KeyKind prog w κ) (key:ya->κ)
def W2(a:Addr)(L:Bool)(ks:List κ)(h:Heap):Prop:=
 ∃o es ep t,h.get? a=some o/\o.ExactSet/\o.data=.set es ep t/\ElemsOf knd es.toList/\ks=es.toList.map (fun e=>key e.2)/\ks.Nodup/\es.size<scanBound/\t.fits es.size=true/\Ris t.place/\t.led=L
variable{knd key}{A:y0a}{E:ya->y9->Prop}{s:y9}{a:Addr}{L:Bool}{ks:List κ}
abbrev W3(w:y07):Bool:=w.params.followText "set-order"
end
section
variable{prog:yl}{w:y07}{A:y0a}{E:ya->y9->Prop}{s:y9}{S I:Addr}{es:Array (Int×ya)}{ep:Nat}{t:SetTable}{o:Obj}
theorem LJ(h:(intKind prog w).is k v=true):∃t,v=.int k t:=by
 cases v<;>simp[intKind,Value.isInt] at h;exact⟨_,by rw[h]⟩
end
section
variable{X:Cx}
end
end L2
namespace L2
open PySem PyProof.Rows
def GL(P:yl)(w:y07)(K:y3)(mg:Str->Option ya)(base:Heap)(k:Nat)(f:Addr)(sp:Sp):Prop:=∃fd ps,FnOk P w K mg base CX0 k f fd ps sp/\PySem.W.keepIn K (.ref f)=true/\Binds K fd ps []
def GM(L:Addr->Sp->Prop)(i:Nat)(t:TA):TE:=fun σ H Q=>∃f,σ[i]?=some (some (.ref f))/\∃sp,L f sp/\t σ H fun vs H1=>sp vs H1 Q E0
theorem W4(hN:X.N[i]?=some x)(hv:Vis X.env.scope x)(hr:Room j X.A)(hk:k<=j)(ha:PA X (e::es) t)
  (hd:(x==("__debug__" : Str))=false:=by decide) (O:(x==("__classdict__" : Str))=false:=by decide) (G:BB (e::es)=true:=by rfl) :
  PE X (.Call (.Name x p) (e::es) [] pos) (GM (GL X.prog X.w X.K X.mg X.base k) i t):=by
 have B:=G;rw[BB,yk,y0e] at B;have he:=CN (es:=es) (env:=X.env) B.1;have J:=D0 (pos:=pos) (env:=X.env) B.2;refine⟨?_⟩;intro pins s σ H Q I h;obtain⟨f,ei,sp,⟨fd,ps,F,M,hb⟩,h⟩:=h;refine y1m (thn (AQ (pos:=p) hN hv hd O pins s σ H (fun Y H'=>Y=.ref f/\t σ H' fun vs H1=>sp vs H1 Q E0) I (isV.i ei ⟨rfl,h⟩)) fun u s0 ⟨Y,H',I',r',ex,h'⟩=>?_);subst ex;cases r';refine y2p (h₀:=X.base) I'.ok.mod.kin M (thn (ha pos pins s0 σ H' _ I' h') fun us s1 ⟨vs,H1,Z,r,q⟩=>⟨Z.kIn,?_⟩) he J;exact O9 F (hr.mono hk) hb .nil (fun _ _ _ _ _ _ _ z=>z.elim) Z r (by rw[y0n]; exact q)
section
variable{P:yl}{w:y07}{A:y0a}{E:ya->y9->Prop}{s:y9}
theorem Iv{Q:ya->y9->Prop}(a:s.heap.IsTupleIter it t i)(b:s.heap.IsTuple t its)(c:its[i]?=some x)
  (q:∀h',h'.IsTupleIter it t (i+1)->Heap.SameBut it s.heap h'->Q x {s with heap:=h'}):yy (y03 P w) A (Builtin.SmallTypes.nextOf (.ref it)) Q E s:=by
 have ty:=a.typeIs;obtain⟨⟨_,O,_,B⟩,z,rfl,rfl⟩:=a;obtain⟨⟨_,dl,_,J⟩,M,rfl,G,rfl⟩:=b;rw[Builtin.SmallTypes.nextOf];refine y8 (y0u (name:="__next__") ty y24 (y0j y24 ty F.entry_tuple_iterator_next ?_ (F.args_tuple_iterator_next_1 _)));wp_walk;simp only[y3p,c];wp_walk;exact⟨_,rfl,ye (q _ ⟨_,y0z _ z rfl,rfl,by simp[Obj.mapFields,rawInt]⟩ (y0i ..))⟩
theorem Iw{Q:ya->y9->Prop}(B:A.handled=none)(a:s.heap.IsTupleIter it t i)(b:s.heap.IsTuple t its)(c:its[i]?=none)
  (q:∀h' e,Heap.ExtBut it s.heap h'->(∃o,h'.get? e=some o/\o.cls=.type "StopIteration")->E (.ref e) {s with heap:=h'}):yy (y03 P w) A (Builtin.SmallTypes.nextOf (.ref it)) Q E s:=by
 have ty:=a.typeIs;obtain⟨⟨_,Z,_,G⟩,O,rfl,rfl⟩:=a;obtain⟨⟨_,dl,_,M⟩,Y,rfl,J,rfl⟩:=b;rw[Builtin.SmallTypes.nextOf];refine y8 (y0u (name:="__next__") ty y24 (y0j y24 ty F.entry_tuple_iterator_next ?_ (F.args_tuple_iterator_next_1 _)));wp_walk;simp only[y3p,c];have z:A.in1.handled=none:=B;wp_walk;rw[raiseNew];wp_walk;exact q _ _ (((y0i ..).extBut.push _).push _) ⟨_,yg _ rfl,rfl⟩
theorem W5(t u:Addr)(xs ys:Array ya):Meets (Builtin.«zip.__new__» ⟨[.type "zip",.ref t,.ref u],[]⟩) (fun _ R s=>s.heap.IsTuple t xs/\s.heap.IsTuple u ys/\
  ∀h',IsZip h' (s.heap.objs.size+4) (s.heap.objs.size+2) (s.heap.objs.size+3) .none->IsPair h' (s.heap.objs.size+2) (.ref s.heap.objs.size) (.ref (s.heap.objs.size+1))->IsPair h' (s.heap.objs.size+3) .none .none->
   h'.IsTupleIter s.heap.objs.size t 0->h'.IsTupleIter (s.heap.objs.size+1) u 0->h'.objs.size=s.heap.objs.size+5->(∀c o,s.heap.get? c=some o->h'.get? c=some o)->R (.ok (.ret (.ref (s.heap.objs.size+4)))) {s with heap:=h'}):=by
 refine .of_wp fun prog w A R s h=>?_
 obtain⟨B,g,d,tk,os⟩:=s
 obtain⟨h1,h2,h⟩:=h
 have J:=sub_zip
 have G:Heap.IsTuple (Shared.heap ⟨B,g,d,tk,os⟩) t xs:=h1
 have F:Heap.IsTuple (Shared.heap ⟨B.push {cls:=.type "tuple_iterator",data:=.fields #[.ref t,.int 0 0]},g,d,tk,os⟩) u ys:=Heap.IsTuple.push h2 _
 wp_walk using y1l G,y1l F
 refine⟨_,rfl,?_⟩
 have z:∀{k:Heap} {o:Obj} {n:Nat},n=k.objs.size->o.isFreed=false->(k.push o).get? n=some o:=fun e f=>by subst e; exact yg _ f
 have q:∀{k:Heap} {o o':Obj} {n:Nat},k.get? n=some o->(k.push o').get? n=some o:=fun e=>y6 _ e
 simp only[y11,Nat.add_assoc,Nat.reduceAdd]
 refine h _ ?_ ?_ ?_ ⟨_,q (q (q (q (z rfl rfl)))),rfl,rfl⟩ ⟨_,q (q (q (z (by simp[y11]) rfl))),rfl,rfl⟩ (by simp[y11]) fun c o x=>q (q (q (q (q x))))
 ·exact z (by simp[y11]) rfl
 ·exact q (q (z (by simp[y11]) rfl))
 ·exact q (z (by simp[y11]) rfl)
def Nx(P:yl)(w:y07)(A:y0a)(q:Addr)(Q:ya->y9->Prop)(E:ya->y9->Prop)(s:y9):Prop:=yy (y03 P w) A (Builtin.SmallTypes.nextOf (.ref q)) Q E s
theorem Hm{Q:ya->y9->Prop}(h:Nx P w A it Q E s):yy (y03 P w) A (Builtin.SmallTypes.nextOf (.ref it)) Q E s:=h
set_option maxHeartbeats 8000000 in
theorem W6{Q:ya->y9->Prop}(D:ZipApart z I O i1 i2 t u)(hz:IsZip s.heap z I O .none)(hI:IsPair s.heap I (.ref i1) (.ref i2))(hO:IsPair s.heap O a b)
  (h1:s.heap.IsTupleIter i1 t k) (h2:s.heap.IsTupleIter i2 u k) (ht:s.heap.IsTuple t xs) (hu:s.heap.IsTuple u ys) (hx:xs[k]?=some x) (hy:ys[k]?=some y)
  (q:∀h',IsZip h' z I O (rawInt s.heap.objs.size)->IsPair h' O x y->h'.IsTupleIter i1 t (k+1)->h'.IsTupleIter i2 u (k+1)->IsPair h' s.heap.objs.size x y->h'.objs.size=s.heap.objs.size+1->
   (∀c o,c≠z->c≠O->c≠i1->c≠i2->s.heap.get? c=some o->h'.get? c=some o)->Q (.ref s.heap.objs.size) {s with heap:=h'}) :
  yy (y03 P w) A (Builtin.«zip.__next__» ⟨[.ref z],[]⟩) (fun fin s'=>∃v,fin=.done (.ret v)/\Q v s') E s:=by
 wp_walk using y3e,Hm;have B:Heap.SameBut z s.heap (s.heap.update z (Obj.mapFields fun x=>x.setIfInBounds 0 Value.ellipsis)):=y0i ..;have z0:IsZip (s.heap.update z (Obj.mapFields fun x=>x.setIfInBounds 0 Value.ellipsis)) z I O .ellipsis:=y0z _ hz rfl;generalize s.heap.update z (Obj.mapFields fun x=>x.setIfInBounds 0 Value.ellipsis)=g0 at B z0 |-;refine Iv (h1.extBut B.extBut D.i1z) (ht.extBut B.extBut D.l1z) hx fun g1 j1 M=>?_;have o1:IsPair g1 O a b:=M.extBut _ _ D.TOi1 (B.extBut _ _ D.TOz hO);wp_walk using y3e,Hm;have F:Heap.SameBut O g1 (g1.update O (Obj.mapSeq fun v=>v.setIfInBounds 0 x)):=y0i ..;have o2:IsPair (g1.update O (Obj.mapSeq fun v=>v.setIfInBounds 0 x)) O x b:=y0z _ o1 rfl;generalize g1.update O (Obj.mapSeq fun v=>v.setIfInBounds 0 x)=g2 at F o2 |-;refine Iv (((h2.extBut B.extBut D.i2z).extBut M.extBut D.i12.symm).extBut F.extBut D.TOi2.symm) (((hu.extBut B.extBut D.l2z).extBut M.extBut D.l2i1).extBut F.extBut D.l2TO) hy fun Y j3 Z=>?_;have o3:IsPair Y O x b:=Z.extBut _ _ D.TOi2 o2;have z3:IsZip Y z I O .ellipsis:=Z.extBut _ _ D.i2z.symm (F.extBut _ _ D.TOz.symm (M.extBut _ _ D.i1z.symm z0));wp_walk using y3e,Hm;have J:Heap.SameBut O Y (Y.update O (Obj.mapSeq fun v=>v.setIfInBounds (0+1) y)):=y0i ..;have o4:IsPair (Y.update O (Obj.mapSeq fun v=>v.setIfInBounds (0+1) y)) O x y:=y0z _ o3 rfl;generalize Y.update O (Obj.mapSeq fun v=>v.setIfInBounds (0+1) y)=g4 at J o4 |-;have n4:g4.objs.size=s.heap.objs.size:=J.1.trans (Z.1.trans (F.1.trans (M.1.trans B.1)));rw[show((fun v:Array ya=>v.setIfInBounds (0+1) y) #[x,b]).toList.toArray = #[x,y] from rfl];have e5:IsPair (g4.push {cls:=.type "tuple",data:=.seq #[x,y]}) g4.objs.size x y:=yg _ rfl;have z4:IsZip (g4.push {cls:=.type "tuple",data:=.seq #[x,y]}) z I O .ellipsis:=y6 _ (J.extBut _ _ D.TOz.symm z3);have k5:∀c o,c≠z->c≠O->c≠i1->c≠i2->s.heap.get? c=some o->(g4.push {cls:=.type "tuple",data:=.seq #[x,y]}).get? c=some o:=fun c o c1 c2 c3 c4 h=>y6 _ (J.extBut _ _ c2 (Z.extBut _ _ c4 (F.extBut _ _ c2 (M.extBut _ _ c3 (B.extBut _ _ c1 h)))));have o5:IsPair (g4.push {cls:=.type "tuple",data:=.seq #[x,y]}) O x y:=y6 _ o4;have y1:(g4.push {cls:=.type "tuple",data:=.seq #[x,y]}).IsTupleIter i1 t (k+1):=(((j1.extBut F.extBut D.TOi1.symm).extBut Z.extBut D.i12).extBut J.extBut D.TOi1.symm).at fun o h=>y6 _ h;have y2:(g4.push {cls:=.type "tuple",data:=.seq #[x,y]}).IsTupleIter i2 u (k+1):=(j3.extBut J.extBut D.TOi2.symm).at fun o h=>y6 _ h;have s5:(g4.push {cls:=.type "tuple",data:=.seq #[x,y]}).objs.size=s.heap.objs.size+1:=by rw[y3u,n4]
 rw[n4] at e5;rw[n4];generalize g4.push {cls:=.type "tuple",data:=.seq #[x,y]}=g5 at e5 z4 k5 o5 y1 y2 s5 |-;wp_walk;have G:Heap.SameBut z g5 ((g5.update z (Obj.mapFields fun v=>v.setIfInBounds 0 (rawInt s.heap.objs.size))).update z (Obj.mapFields fun v=>v.setIfInBounds 1 (Value.bool false))):=(y0i ..).trans (y0i ..);refine⟨_,rfl,q _ (y0z _ (y0z _ z4 rfl) rfl) (G.extBut _ _ D.TOz o5) (y1.extBut G.extBut D.i1z) (y2.extBut G.extBut D.i2z) (G.extBut _ _ (y19 (yd hz)) e5) (G.1.trans s5) fun c o c1 c2 c3 c4 h=>G.extBut _ _ c1 (k5 c o c1 c2 c3 c4 h)⟩
set_option maxHeartbeats 8000000 in
theorem W7{Q:Fin->y9->Prop}(hh:A.handled=none)(D:ZipApart z I O i1 i2 t u)(hz:IsZip s.heap z I O .none)(hI:IsPair s.heap I (.ref i1) (.ref i2))(hO:IsPair s.heap O a b)
  (h1:s.heap.IsTupleIter i1 t k) (h2:s.heap.IsTupleIter i2 u k) (ht:s.heap.IsTuple t xs) (hu:s.heap.IsTuple u ys) (Z:xs[k]?=none\/ys[k]?=none)
  (q:∀h' e,(∀c o,c≠z->c≠O->c≠i1->c≠i2->s.heap.get? c=some o->h'.get? c=some o)->(∃o,h'.get? e=some o/\o.cls=.type "StopIteration")->E (.ref e) {s with heap:=h'}) :
  yy (y03 P w) A (Builtin.«zip.__next__» ⟨[.ref z],[]⟩) Q E s:=by
 wp_walk using y3e,Hm;have B:Heap.SameBut z s.heap (s.heap.update z (Obj.mapFields fun x=>x.setIfInBounds 0 Value.ellipsis)):=y0i ..;have z0:IsZip (s.heap.update z (Obj.mapFields fun x=>x.setIfInBounds 0 Value.ellipsis)) z I O .ellipsis:=y0z _ hz rfl;generalize s.heap.update z (Obj.mapFields fun x=>x.setIfInBounds 0 Value.ellipsis)=g0 at B z0 |-;cases hx:xs[k]? with
 |none=>
  refine Iw hh (h1.extBut B.extBut D.i1z) (ht.extBut B.extBut D.l1z) hx fun J e1 F he=>?_;have z1:IsZip J z I O .ellipsis:=F _ _ D.i1z.symm z0;obtain⟨oe,G,hc⟩:=he;have ne:e1≠z:=fun x=>by subst x; rw[z1] at G; cases G; simp at hc
  exact wpAny_setField_rec z1 (by simp) fun h5 _ M=>q h5 e1 (fun c o c1 c2 c3 c4 h=>M.extBut _ _ c1 (F _ _ c3 (B.extBut _ _ c1 h))) ⟨oe,M.extBut _ _ ne G,hc⟩
 |some x=>
  have hy:ys[k]?=none:=Z.resolve_left (by rw[hx]; simp);refine Iv (h1.extBut B.extBut D.i1z) (ht.extBut B.extBut D.l1z) hx fun J j1 F=>?_;have o1:IsPair J O a b:=F.extBut _ _ D.TOi1 (B.extBut _ _ D.TOz hO);wp_walk using y3e,Hm;have Y:Heap.SameBut O J (J.update O (Obj.mapSeq fun v=>v.setIfInBounds 0 x)):=y0i ..;generalize J.update O (Obj.mapSeq fun v=>v.setIfInBounds 0 x)=g2 at Y |-;refine Iw hh (((h2.extBut B.extBut D.i2z).extBut F.extBut D.i12.symm).extBut Y.extBut D.TOi2.symm) (((hu.extBut B.extBut D.l2z).extBut F.extBut D.l2i1).extBut Y.extBut D.l2TO) hy fun g3 e3 m3 he=>?_;have z3:IsZip g3 z I O .ellipsis:=m3 _ _ D.i2z.symm (Y.extBut _ _ D.TOz.symm (F.extBut _ _ D.i1z.symm z0));obtain⟨oe,G,hc⟩:=he;have ne:e3≠z:=fun x=>by subst x; rw[z3] at G; cases G; simp at hc
  exact wpAny_setField_rec z3 (by simp) fun h5 _ M=>q h5 e3 (fun c o c1 c2 c3 c4 h=>M.extBut _ _ c1 (m3 _ _ c4 (Y.extBut _ _ c2 (F.extBut _ _ c3 (B.extBut _ _ c1 h))))) ⟨oe,M.extBut _ _ ne G,hc⟩
end
end L2
namespace L2
open PySem PySem.Spec PyProof.Rows
section
variable{P:yl}{w:y07}{A:y0a}{E:ya->y9->Prop}{s:y9}
theorem W8{Q:Option ya->y9->Prop}(D:ZipApart z I O i1 i2 t u)(B:IsZip s.heap z I O .none)(Y:IsPair s.heap I (.ref i1) (.ref i2))(M:IsPair s.heap O a b)
  (h1:s.heap.IsTupleIter i1 t k) (h2:s.heap.IsTupleIter i2 u k) (J:s.heap.IsTuple t xs) (G:s.heap.IsTuple u ys) (hx:xs[k]?=some x) (hy:ys[k]?=some y)
  (q:∀h',IsZip h' z I O (rawInt s.heap.objs.size)->IsPair h' O x y->h'.IsTupleIter i1 t (k+1)->h'.IsTupleIter i2 u (k+1)->IsPair h' s.heap.objs.size x y->h'.objs.size=s.heap.objs.size+1->
   (∀c o,c≠z->c≠O->c≠i1->c≠i2->s.heap.get? c=some o->h'.get? c=some o)->Q (some (.ref s.heap.objs.size)) {s with heap:=h'}):yy (y03 P w) A (pyNext (.ref z)) Q E s:=by
 have ty:s.TypeIs (.ref z) "zip":=⟨_,B,rfl⟩
 rw[pyNext]
 refine y8 (y3q (y0u (name:="__next__") ty y2c (y0j y2c ty PySem.F.entry_zip_next ?_ (PySem.F.args_zip_next_1 _))))
 exact W6 D B Y M h1 h2 J G hx hy fun h' b1 b2 b3 b4 b5 b6 Z=>ye (q h' b1 b2 b3 b4 b5 b6 Z)
theorem W9{Q:Option ya->y9->Prop}(Z:A.handled=none)(D:ZipApart z I O i1 i2 t u)(G:IsZip s.heap z I O .none)(hI:IsPair s.heap I (.ref i1) (.ref i2))(hO:IsPair s.heap O a b)
  (h1:s.heap.IsTupleIter i1 t k) (h2:s.heap.IsTupleIter i2 u k) (M:s.heap.IsTuple t xs) (J:s.heap.IsTuple u ys) (B:xs[k]?=none\/ys[k]?=none)
  (q:∀h',(∀c o,c≠z->c≠O->c≠i1->c≠i2->s.heap.get? c=some o->h'.get? c=some o)->Q none {s with heap:=h'}):yy (y03 P w) A (pyNext (.ref z)) Q E s:=by
 have ty:s.TypeIs (.ref z) "zip":=⟨_,G,rfl⟩;rw[pyNext];refine y8 (y3q (y0u (name:="__next__") ty y2c (y0j y2c ty PySem.F.entry_zip_next (W7 (by simpa using Z) D G hI hO h1 h2 M J B fun h' e hk he=>?_) (PySem.F.args_zip_next_1 _))));obtain⟨o,Y,hc⟩:=he;exact y8 (wpAny_isInstance (b:=true) ⟨o,Y,hc⟩ isSubtype_stop (ye (q _ hk)))
theorem WA{Q:ya->y9->Prop}(G:s.heap.IsTuple t xs)(B:s.heap.IsTuple u ys)
  (h:∀h',IsZip h' (s.heap.objs.size+4) (s.heap.objs.size+2) (s.heap.objs.size+3) .none->IsPair h' (s.heap.objs.size+2) (.ref s.heap.objs.size) (.ref (s.heap.objs.size+1))->IsPair h' (s.heap.objs.size+3) .none .none->
   h'.IsTupleIter s.heap.objs.size t 0->h'.IsTupleIter (s.heap.objs.size+1) u 0->h'.objs.size=s.heap.objs.size+5->(∀c o,s.heap.get? c=some o->h'.get? c=some o)->Q (.ref (s.heap.objs.size+4)) {s with heap:=h'}) :
  yy (y03 P w) A (call (.type "zip") [.ref t,.ref u]) Q E s:=by
 refine callType_new PySem.F.called_zip (by decide) (PySem.F.typeCall_zip_2 _ _) (PySem.F.newCall_zip_2 _ _) (fun q=>PySem.F.args_object_init_3 q _ _) PySem.F.entry_zip_new (W5 t u xs ys) ⟨G,B,fun h' z b2 Z Y O M J=>?_⟩;exact⟨⟨_,z,rfl⟩,h h' z b2 Z Y O M J⟩
def D5(K:y3)(a b:Addr):It:=
 ⟨fun i H=>∃xs ys x y,SqT K H a xs/\SqT K H b ys/\xs[i]?=some x/\ys[i]?=some y,fun i H x H'=>∃T u v,x=.ref T/\H T=none/\H'=upd H T (.tup [u,v])/\(∀xs,SqT K H a xs->xs[i]?=some u)/\∀ys,SqT K H b ys->ys[i]?=some v,
  fun i H=>∃xs ys,SqT K H a xs/\SqT K H b ys/\(xs.length<=i\/ys.length<=i)⟩
end
theorem WB{P:yl}{w:y07}{K:y3}{ln:List Expr}{kt:Nat}{pt:Pos}(a b z TI TO i1 Z:Addr)(D:ZipApart z TI TO i1 Z a b) :
  Turn P w K (.Tuple ln kt pt) (D5 K a b) [z,TI,TO,i1,Z] z (fun i h=>IsZip h z TI TO .none/\IsPair h TI (.ref i1) (.ref Z)/\(∃u v,IsPair h TO u v)/\h.IsTupleIter i1 a i/\h.IsTupleIter Z b i) where
 mem:=by simp
 obj:=fun i h st c hc=>by
  obtain⟨O,G,⟨u,v,J⟩,h1,h2⟩:=st;simp only[yv,yp,or_false] at hc;rcases hc with rfl|rfl|rfl|rfl|rfl
  ·exact⟨_,O,fun v z=>by cases z⟩
  ·exact⟨_,G,fun v z=>by cases z⟩
  ·exact⟨_,J,fun v z=>by cases z⟩
  ·obtain⟨o,e',c,d⟩:=h1;exact⟨o,e',fun v z=>by rw[d] at z; cases z⟩
  ·obtain⟨o,e',c,d⟩:=h2;exact⟨o,e',fun v z=>by rw[d] at z; cases z⟩
 keep:=fun i h h' st k=>by
  obtain⟨O,G,⟨u,v,J⟩,h1,h2⟩:=st;exact⟨k z (by simp) _ O,k TI (by simp) _ G,⟨u,v,k TO (by simp) _ J⟩,h1.at fun o q=>k i1 (by simp) o q,h2.at fun o q=>k Z (by simp) o q⟩
 item:=by
  intro X hP hw hK hc i pins s σ H E I hf st hg;subst hP hw hK;obtain⟨O,G,⟨u0,v0,J⟩,h1,h2⟩:=st;obtain⟨xs,ys,x,y,hq,M,hx,hy⟩:=hg;obtain⟨lq,rv,p,_⟩:=I.tuple hq;obtain⟨lh,Y,p2,_⟩:=I.tuple M;obtain⟨u,hu,ru⟩:=rv.get hx;obtain⟨u2,ls,lp⟩:=Y.get hy;refine W8 D O G J h1 h2 p p2 (x:=u) (y:=u2) (by simpa using hu) (by simpa using ls) fun h3 a1 a2 a3 a4 a5 a6 hk=>?_;refine⟨_,rfl,wpAny_letOwnedTupleGo_zip a1 fun h4 lr lu=>?_⟩;have F:Heap.SameBut z h3 h4:=lu;have lj:z<s.heap.objs.size:=yd O;have kk:∀c o,c∉[z,TI,TO,i1,Z]->s.heap.get? c=some o->h4.get? c=some o:=fun c o B q=>
   F.extBut c o (fun e=>B (by simp[e])) (hk c o (fun e=>B (by simp[e])) (fun e=>B (by simp[e])) (fun e=>B (by simp[e])) (fun e=>B (by simp[e])) q)
  have I1:Inv X pins σ H {s with heap:=h4,toks:=s.toks}:=I.turnedL kk hf;have lg:H s.heap.objs.size=none:=I.hok.fresh (yb _);have lx:h4.get? s.heap.objs.size=some {cls:=.type "tuple",data:=.seq #[u,u2]}:=F.extBut _ _ (y19 lj) a5;have I2:Inv X pins σ (upd H s.heap.objs.size (.tup [x,y])) {s with heap:=h4,toks:=s.toks}:=
   I1.track lg (I.fpOk (yb _) lg) (show ObjOk X.prog X.w _ h4 _ (.tup [x,y]) from⟨LH,[u,u2],.cons ru (.cons lp .nil),⟨_,lx,rfl,⟨_,rfl⟩,rfl⟩⟩)
  refine⟨.ref s.heap.objs.size,_,I2,rfl,⟨s.heap.objs.size,x,y,rfl,lg,rfl,fun zs lc=>by rw[I.tuple_inj lc hq]; exact hx,fun zs lc=>by rw[I.tuple_inj lc M]; exact hy⟩,
   ⟨lr,F.extBut _ _ D.TIz (hk _ _ D.TIz D.TITO D.TIi1 D.TIi2 G),⟨_,_,F.extBut _ _ D.TOz a2⟩,a3.at fun o q=>(F.2 i1 D.i1z).trans q,a4.at fun o q=>(F.2 Z D.i2z).trans q⟩,fun c B=>?_⟩
  have lv:c<s.heap.objs.size:=by
   simp only[yv,yp,or_false] at B;rcases B with rfl|rfl|rfl|rfl|rfl
   ·exact lj
   ·exact yd G
   ·exact yd J
   ·obtain⟨o,e',_⟩:=h1; exact yd e'
   ·obtain⟨o,e',_⟩:=h2; exact yd e'
  rw[AB (yj lv)];exact(hf c B).1
 done:=by
  intro X hP hw hK hc i pins s σ H E I hf st hg;subst hP hw hK;obtain⟨O,G,⟨u0,v0,J⟩,h1,h2⟩:=st;obtain⟨xs,ys,hq,M,lm⟩:=hg;obtain⟨lq,rv,p,_⟩:=I.tuple hq;obtain⟨lh,Y,p2,_⟩:=I.tuple M;have e1:=rv.length;have e2:=Y.length;refine W9 (I.ok.hd hc) D O G J h1 h2 p p2 ?_ fun h' hk=>⟨rfl,I.turnedL (t':=s.toks) (fun c o B q=>hk c o (fun e=>B (by simp[e])) (fun e=>B (by simp[e])) (fun e=>B (by simp[e])) (fun e=>B (by simp[e])) q) hf⟩;rcases lm with z|z
  ·exact .inl (by simp; lia)
  ·exact .inr (by simp; lia)
 self:=fun _ _ _ _ _ st h=>wpAny_pyIter_zip st.1 h
section
variable{X:Cx}
def LK(K:y3)(ta:TA):TI:=fun σ H R=>ta σ H fun vs H1=>∃a b,vs=[.ref a,.ref b]/\(∃xs,SqT K H1 a xs)/\(∃ys,SqT K H1 b ys)/\R (D5 K a b) H1
theorem On{J:List Expr}{kt:Nat}{pt p pos:Pos}{l O:Expr}{ta:TA} (hg:Gl X "zip") (hm:X.mg "zip" = none) (ha:PA X [l,O] ta) (Z:Er l=false:=by rfl) (F:Er O=false:=by rfl):PI X (.Tuple J kt pt) (.Call (.Name "zip" p) [l,O] [] pos) (LK X.K ta):=by
 refine⟨?_⟩;intro pins s σ H R I h;have lg:=D0 (pos:=pos) (env:=X.env) (es:=[O]) (by simp[BB,F]);refine Call_ (EO I hg hm boot_zip (y1c (thn (ha pos pins s σ H _ I h) fun us z ⟨vs,H1,M,r1,q1⟩=>?_) (CN Z) lg));obtain⟨a,b,e,⟨xs,hq⟩,⟨ys,lc⟩,q⟩:=q1;subst e;cases r1 with
 |cons r Y=>
  cases Y with
  |cons r2 Y=>
   cases Y;cases r;cases r2;obtain⟨lr,rv,pl,_⟩:=M.tuple hq;obtain⟨lp,lq,B,_⟩:=M.tuple lc;have lj:a<z.heap.objs.size:=by obtain⟨_,e,_⟩:=pl; exact yd e
   have lh:b<z.heap.objs.size:=by obtain⟨_,e,_⟩:=B; exact yd e
   refine WA pl B fun h' hz ln lm h1 h2 hsz hk=>?_;have I2:Inv X pins σ H1 {z with heap:=h'}:=M.kept (t':=z.toks) hk;refine wpAny_pyIter_zip hz ?_;refine⟨z.heap.objs.size+4,[z.heap.objs.size+4,z.heap.objs.size+2,z.heap.objs.size+3,z.heap.objs.size,z.heap.objs.size+1],_,_,H1,rfl,I2,WB a b _ _ _ _ _ (zipApart_new lj lh),⟨hz,ln,⟨_,_,lm⟩,h1,h2⟩,fun c hc=>?_,q⟩;have G:z.heap.objs.size<=c:=by
    simp only[yv,yp,or_false] at hc;rcases hc with rfl|rfl|rfl|rfl|rfl<;>first|exact yb _|exact y0p _ _
   exact M.fpOk G (M.hok.fresh G)
end
section
variable{prog:yl}{w:y07}{A:y0a}{E:ya->y9->Prop}{s:y9}
theorem WC{t B:Addr}{q:Array ya}{M J:ya}{lo hi:Option Int}{Q:ya->y9->Prop}(z:IsTup s.heap t q)(O:s.heap.IsSliceOf B M J .none)(pl:IsPart M lo)(Z:IsPart J hi)
  (hw:HT.sIx q.size 0 lo=0/\HT.sIx q.size q.size hi=q.size) (h:Q (.ref t) s):yy (y03 prog w) A (getItem (.ref t) (.ref B)) Q E s:=by
 obtain⟨os,F,G,lc⟩:=id O;have Y:s.TypeIs (.ref B) "slice":=⟨os,F,G⟩;unfold getItem;try with_reducible refine y16 ?_
 first|refine y8 (ye ?_)|skip
 refine y8 (wpAny_sequenceKey z.typeIs (by decide) ?_);refine y8 (y0u (name:=Str.ofString "__getitem__") z.typeIs y1g (y0j y1g z.typeIs entry_tuple_getitem ?_ (args_tuple_getitem _ _)));show yy _ _ (Builtin.Tuple.tupleItemsOf (.ref t) >>= _) _ _ s;refine y8 (PyProof.Rows.tupleItemsOf_ z (y8 (y2o Y ?_)));rw[if_pos (by decide)];refine y8 (HT.OL O pl Z ?_);refine y1r (fun _=>?_) (fun c=>absurd ?_ c)
 ·unfold Builtin.Tuple.tupleIsExact;refine y8 (y8 (y2o z.typeIs (ye ?_)));refine y1r (fun _=>?_) (fun c=>absurd (by decide) c);exact y8 (y3r (ye ⟨_,rfl,ye h⟩))
 ·rw[hw.1,hw.2];simp
end
section
variable{X:Cx}
def GN(K:y3):V->Option Int->Option Int->Hp->VK->Prop:=fun x lo hi H Q=>∃a xs,x=.ref a/\SqT K H a xs/\
 (((HT.sIx xs.length 0 lo=0/\HT.sIx xs.length xs.length hi=xs.length)/\Q (.ref a) H)\/(¬ (HT.sIx xs.length 0 lo=0/\HT.sIx xs.length xs.length hi=xs.length)/\∀p,H p=none->Q (.ref p) (upd H p (.tup (CL xs lo hi)))))
theorem Oo:SlR X (GN X.K):=by
 intro pins s σ H x v Y O lo hi Z Q I F M pl G h;obtain⟨a,xs,rfl,hx,⟨hw,q⟩|⟨hw,q⟩⟩:=h
 ·cases F;obtain⟨B,r,J,hz⟩:=I.tuple hx;have z:B.toArray.size=xs.length:=by rw[y01]; exact r.length.symm
  exact⟨"tuple",_,PyProof.Rows.slot_tuple_getitem.lookup,J.typeIs,WC J M pl G (by rw[z]; exact hw) ⟨.ref a,H,I,rfl,q⟩⟩
 ·exact VA pins s σ H (.ref a) v Y O lo hi Z Q I F M pl G ⟨a,xs,rfl,hx,hw,q⟩
theorem WD{K:y3}{a b:Addr}{xs ys:List V}{g:TG}{tt:TT}{te:TE}{Q:VK}{σ:St}{H:Hp}(lg:ys.length<=xs.length)(B:Nat->List V->St->Hp->Prop)(h0:B 0 [] σ H)(hz:ys.length<yn)(hy:∀i zs σ H,B i zs σ H->zs.length<=i)(hl:∀i zs σ H,i<=ys.length->B i zs σ H->SqT K H a xs/\SqT K H b ys)
  (hs:∀i zs x y σ H T,xs[i]?=some x->ys[i]?=some y->B i zs σ H->H T=none->g (.ref T) σ (upd H T (.tup [x,y])) fun z H2=>tt z H2 fun b G=>if b=true then te z G (fun v H4=>B (i+1) (zs++[v]) z H4) else B (i+1) zs z G)
  (hd:∀zs σ H,B ys.length zs σ H->∀p,H p=none->Q (.ref p) (upd H p (.lst zs))):BN (D5 K a b) g tt te Q σ H:=by
 refine⟨fun i m zs σ H=>m=ys.length-i/\i<=ys.length/\B i zs σ H,⟨ys.length,by simp,y05 _,h0⟩,?_⟩;rintro i m zs σ H ⟨rfl,hi,p⟩;have q:=hl i zs σ H hi p;have lc:=hy i zs σ H p;by_cases F:i<ys.length
 ·refine .inr ⟨⟨xs,ys,xs[i]'(by lia),ys[i],q.1,q.2,by simp,by simp⟩,by lia,B (i+1),fun M J H' Z=>⟨ys.length-(i+1),by lia,rfl,F,Z⟩,fun x H' y=>?_⟩;obtain⟨T,u,v,rfl,hT,rfl,Y,O⟩:=y;exact hs i zs u v σ H T (Y xs q.1) (O ys q.2) p hT
 ·have e:i=ys.length:=by lia
  subst e;exact .inl ⟨⟨xs,ys,q.1,q.2,.inr (yb _)⟩,by lia,hd zs σ H p⟩
end
theorem WE{P:yl}{w:y07}{K:y3}{mg:Str->Option ya}{base:Heap}{X:Cx}{x:Str}{i k j:Nat}{e:Expr}{es:List Expr}{t:TA}{p pos:Pos}(G:X.prog=P)(F:X.w=w)(J:X.K=K)(em:X.mg=mg)(eb:X.base=base)
  (B:X.N[i]?=some x) (hv:Vis X.env.scope x) (hr:Room j X.A) (hk:k<=j) (ha:PA X (e::es) t)
  (hd:(x==("__debug__" : Str))=false:=by decide) (z:(x==("__classdict__" : Str))=false:=by decide) (q:BB (e::es)=true:=by rfl) :
  PE X (.Call (.Name x p) (e::es) [] pos) (GM (GL P w K mg base k) i t):=by
 subst G F J em eb;exact W4 B hv hr hk ha hd z q
inductive DX where
 |c (d:Dm)|var (i:Nat)|tup (l:List DX)|lst (l:List DX)|cat (a b:DX)|lof (a:DX)
def WF:Dm->Dm->Dm
 |.tup x,.tup y=>.tup (x++y)
 |_,_=>.non
mutual
def DX.val(q:Nat->Dm):DX->Dm
 |.c d=>d
 |.var i=>q i
 |.tup l=>.tup (D6 q l)
 |.lst _=>.lst
 |.cat a b=>WF (a.val q) (b.val q)
 |.lof _=>.lst
def D6(q:Nat->Dm):List DX->List Dm
 |[]=>[]
 |x::r=>x.val q::D6 q r
end
mutual
def DX.Fit(q:Nat->Dm)(σ:St)(H:Hp):DX->Prop
 |.c _=>True
 |.var i=>∃v,σ[i]?=some (some v)/\Dt H v (q i)
 |.tup l=>l.length<=1000/\FitA q σ H l
 |.lst l=>l.length<=1000/\FitA q σ H l
 |.cat a b=>a.Fit q σ H/\b.Fit q σ H/\∃x y,a.val q=.tup x/\b.val q=.tup y/\x.length+y.length<=1000
 |.lof a=>a.Fit q σ H/\∃x,a.val q=.tup x
def FitA(q:Nat->Dm)(σ:St)(H:Hp):List DX->Prop
 |[]=>True
 |x::r=>x.Fit q σ H/\FitA q σ H r
end
mutual
theorem DX.Fit.mono{q:Nat->Dm}(s:Same H H'):∀{x:DX},x.Fit q σ H->x.Fit q σ H'
 |.c _,_=>by rw[DX.Fit]; trivial
 |.var i,h=>by
  rw[DX.Fit] at h |-;obtain⟨v,e,d⟩:=h;exact⟨v,e,d.kp s.kp⟩
 |.tup l,h=>by
  rw[DX.Fit] at h |-;exact⟨h.1,FitA.mono s h.2⟩
 |.lst l,h=>by
  rw[DX.Fit] at h |-;exact⟨h.1,FitA.mono s h.2⟩
 |.cat a b,h=>by
  rw[DX.Fit] at h |-;exact⟨DX.Fit.mono s h.1,DX.Fit.mono s h.2.1,h.2.2⟩
 |.lof a,h=>by
  rw[DX.Fit] at h |-;exact⟨DX.Fit.mono s h.1,h.2⟩
theorem FitA.mono{q:Nat->Dm}(s:Same H H'):∀{l:List DX},FitA q σ H l->FitA q σ H' l
 |[],_=>by rw[FitA]; trivial
 |x::r,h=>by
  rw[FitA] at h |-;exact⟨DX.Fit.mono s h.1,FitA.mono s h.2⟩
end
def Op(vt:List Nat):DX->DX->Bool
 |.var i,.tup l=>vt.contains i&&decide (l.length<=100)
 |_,_=>false
def Oq(vt:List Nat):DX->Bool
 |.var i=>vt.contains i
 |_=>false
mutual
def DX.chk(vo vt:List Nat):DX->Bool
 |.c _=>true
 |.var i=>vo.contains i
 |.tup l=>decide (l.length<=100)&&GO vo vt l
 |.lst l=>decide (l.length<=100)&&GO vo vt l
 |.cat a b=>Op vt a b&&a.chk vo vt&&b.chk vo vt
 |.lof a=>Oq vt a&&a.chk vo vt
def GO(vo vt:List Nat):List DX->Bool
 |[]=>true
 |x::r=>x.chk vo vt&&GO vo vt r
end
structure Env(ρ:Nat->Dm)(σ:St)(H:Hp)(vo vt:List Nat):Prop where
 o:∀i∈vo,∃v,σ[i]?=some (some v)/\Dt H v (ρ i)
 t:∀i∈vt,∃ds,ρ i=.tup ds/\ds.length<=100
theorem Os(q:Nat->Dm):∀l:List DX,(D6 q l).length=l.length
 |[]=>rfl
 |_::r=>by rw[D6,yh,yh,Os q r]
mutual
theorem Env.fit{z:Nat->Dm}(e:Env z σ H vo vt):∀{x:DX},x.chk vo vt=true->x.Fit z σ H
 |.c _,_=>by rw[DX.Fit]; trivial
 |.var i,h=>by
  rw[DX.chk] at h;rw[DX.Fit];exact e.o i (List.contains_iff_mem.mp h)
 |.tup l,h=>by
  rw[DX.chk,yk,decide_eq_true_eq] at h;rw[DX.Fit];exact⟨by lia,e.fitA h.2⟩
 |.lst l,h=>by
  rw[DX.chk,yk,decide_eq_true_eq] at h;rw[DX.Fit];exact⟨by lia,e.fitA h.2⟩
 |.cat a b,h=>by
  rw[DX.chk,yk,yk] at h;obtain⟨⟨q,h1⟩,h2⟩:=h;rw[DX.Fit];refine⟨e.fit h1,e.fit h2,?_⟩;unfold Op at q;split at q
  ·rename_i i l;rw[yk,decide_eq_true_eq] at q;obtain⟨ds,B,F⟩:=e.t i (List.contains_iff_mem.mp q.1);exact⟨ds,D6 z l,by rw[DX.val]; exact B,by rw[DX.val],by rw[Os]; lia⟩
  ·cases q
 |.lof a,h=>by
  rw[DX.chk,yk] at h;rw[DX.Fit];refine⟨e.fit h.2,?_⟩;have q:=h.1;unfold Oq at q;split at q
  ·rename_i i;obtain⟨ds,B,F⟩:=e.t i (List.contains_iff_mem.mp q);exact⟨ds,by rw[DX.val]; exact B⟩
  ·cases q
theorem Env.fitA{q:Nat->Dm}(e:Env q σ H vo vt):∀{l:List DX},GO vo vt l=true->FitA q σ H l
 |[],_=>by rw[FitA]; trivial
 |x::r,h=>by
  rw[GO,yk] at h;rw[FitA];exact⟨e.fit h.1,e.fitA h.2⟩
end
def tDX(x:DX):TE:=fun σ H Q=>∃ q,x.Fit q σ H/\∀v H',Same H H'->Dt H' v (x.val q)->Q v H'
def F1(l:List DX):TA:=fun σ H Q=>∃ q,FitA q σ H l/\∀vs H',Same H H'->DtA H' vs (D6 q l)->Q vs H'
theorem Ot(q:Nat->Dm):∀l:List DX,(D6 q l).length=l.length
 |[]=>rfl
 |_::r=>by rw[D6,yh,yh,Ot q r]
section
variable{X:Cx}
theorem PE.weak(h:PE X e t)(k:∀ σ H Q,t' σ H Q->t σ H Q):PE X e t':=⟨fun pins s σ H Q I q=>h pins s σ H Q I (k σ H Q q)⟩
theorem PA.weak(h:PA X es t)(k:∀ σ H Q,t' σ H Q->t σ H Q):PA X es t':=⟨fun pos pins s σ H Q I q=>h pos pins s σ H Q I (k σ H Q q)⟩
theorem Ou(h:PE X e (tC v))(k:∀H,Dt H v d):PE X e (tDX (.c d)):=h.weak fun σ H Q ⟨z,_,q⟩=>q v H (Same.refl _) (k H)
theorem B1{j pos}:PE X (.Constant (.int i) j pos) (tDX (.c (.int i))):=Ou A4 fun _=>.int i
theorem Aq{x j pos}:PE X (.Constant (.str x) j pos) (tDX (.c (.str x))):=Ou AR fun _=>.str x
theorem Ov{j p pos}:PE X (.UnaryOp .USub (.Constant (.int i) j p) pos) (tDX (.c (.int (-i)))):=(Nv Ny A4).weak fun σ H Q ⟨z,_,q⟩=>(q _ H (Same.refl _) (.int _))
theorem Cf(h:PE X e (Az i)):PE X e (tDX (.var i)):=h.weak fun σ H Q ⟨B,f,q⟩=>by
 rw[DX.Fit] at f;obtain⟨v,z,d⟩:=f;exact isV.i z (q v H (Same.refl _) d)
theorem Ac:PA X [] (F1 []):=pa_nil.weak fun σ H Q ⟨z,_,q⟩=>q [] H (Same.refl _) .nil
theorem AG(h:PE X e (tDX x))(k:PA X es (F1 l))(G:Er e=false:=by rfl):PA X (e::es) (F1 (x::l)):=(A3 h k G).weak fun σ H Q ⟨z,f,q⟩=>by
 rw[FitA] at f;exact⟨z,f.1,fun v H1 F d1=>⟨z,f.2.mono F,fun vs H2 B d2=>q (v::vs) H2 (F.trans B) (.cons (d1.kp B.kp) d2)⟩⟩
theorem Ae{x1}(h:PA X es (F1 l)):PE X (.Tuple es x1 pos) (tDX (.tup l)):=(AW h).weak fun σ H Q ⟨B,f,q⟩=>by
 rw[DX.Fit] at f;exact⟨B,f.2,fun vs H1 F d1=>⟨by rw[d1.length,Ot]; exact y1a (An f.1),fun p z=>q _ _ (F.trans (AD z _)) (.tup A6 (d1.kp (AD z _).kp))⟩⟩
end
end L2
namespace L2
open PySem PySem.Spec PyProof.Rows PySem.W
def ltI:List Int->List Int->Bool
 |_,[]=>false
 |[],_::_=>true
 |a::x,b::y=>if a=b then ltI x y else decide (a<b)
theorem Ow:∀{x y:List Int},ltI x y=true->x≠y
 |[],[],h,_=>by simp[ltI] at h
 |a::x,b::y,h,e=>by
  injection e with z q;subst z q;rw[ltI,if_pos rfl] at h;exact Ow h rfl
theorem Ox:∀{x y:List Int},ltI x y=true->ltI y x=false
 |_,[],h=>by cases ‹List Int›<;>simp[ltI] at h
 |[],b::y,_=>by simp[ltI]
 |a::x,b::y,h=>by
  rw[ltI] at h |-;by_cases e:a=b
  ·subst e;rw[if_pos rfl] at h |-;exact Ox h
  ·rw[if_neg e] at h;rw[if_neg (y0y e)];simp only[decide_eq_true_eq,decide_eq_false_iff_not] at h |-;lia
section
variable{prog:yl}{w:y07}{A:y0a}{E:ya->y9->Prop}{s:y9}
variable{k:SortKind}{vs:List ya}{st:SortSt}
end
section
variable{prog:yl}{w:y07}{A:y0a}{E:ya->y9->Prop}{s:y9}
theorem WG{Q:Bool->y9->Prop}:∀(x y:List Int) (us vs:List ya) (i:Nat) (fin:Bool),ItemsAre (intKind prog w) x us->ItemsAre (intKind prog w) y vs->fin=decide (us.length<vs.length)->Q (ltI x y) s->KatLex prog w A b fin Q (us.zip vs) i s:=by
 intro x;induction x with
 |nil=>
  intro y us vs i fin hx hy hf h;cases hx;rw[List.zip_nil_left];refine kat_nil ?_;cases hy with
  |nil=>rw[hf]; simpa [ltI] using h
  |cons _ _=>rw[hf]; simpa [ltI] using h
 |cons a x q=>
  intro y us vs i fin hx hy hf h;cases hx with
  |@cons _ u _ us h1 hx=>
   cases hy with
   |nil=>
    rw[List.zip_nil_right];refine kat_nil ?_;rw[hf];simpa [ltI] using h
   |@cons c v y vs h2 hy=>
    obtain⟨B,rfl⟩:=LJ h1;obtain⟨z,rfl⟩:=LJ h2;rw[y1i];refine kat_cons (wpAny_eqBool_int ?_);rw[ltI] at h;by_cases e:a=c
    ·rw[show(a==c)=true from beq_iff_eq.mpr e];rw[if_pos e] at h;exact kat_yes (q y us vs (i+1) fin hx hy (by simpa using hf) h)
    ·rw[show(a==c)=false from beq_eq_false_iff_ne.mpr e];rw[if_neg e] at h;refine kat_no ?_;cases b&&i==0 with
     |true=>exact oneLt_int h
     |false=>exact kat_one _ _ (wpAny_lt_int h)
theorem WH{Q:Bool->y9->Prop}(hx:IsTupleKey (intKind prog w) s.heap x a)(hy:IsTupleKey (intKind prog w) s.heap y c)(h:Q (ltI x y) s):yy (y03 prog w) A (keyLt' (tuples' b) (.ref a) (.ref c)) Q E s:=by
 obtain⟨O,xs,Z,z,_,J,F⟩:=hx;obtain⟨M,ys,Y,q,_,G,B⟩:=hy;exact kat_lt z J q G (WG x y _ _ 0 _ F B (by simp) h)
def pathD(p:List Int):Dm:=.tup (p.map Dm.int)
abbrev Rw2:=List Int×Dm
def LL(r:Rw2):Dm:=.tup [pathD r.1,r.2]
theorem D7:∀{xs:List V} {p:List Int},DtA H xs (p.map Dm.int)->xs=p.map V.int
 |_,[],.nil=>rfl
 |_,_::_,.cons (.int _) r=>by rw[yc,<- D7 r]
end
section
variable{X:Cx}{pins:List (Addr×Obj)}{σ:St}{H:Hp}{s:y9}
theorem Oy:∀{p:List Int} {us:List ya},Vals (p.map V.int) us->ItemsAre (intKind X.prog X.w) p us
 |[],_,.nil=>.nil
 |i::p,_,.cons r t=>by
  obtain⟨k,rfl⟩:=r;exact .cons (intKind_is _ _ _ _) (Oy t)
theorem Inv.path(I:Inv X pins σ H s)(d:Dt H v (pathD p))(r:RelV v u):∃a,u=.ref a/\IsTupleKey (intKind X.prog X.w) s.heap p a:=by
 cases d with
 |tup e B=>
  cases r;obtain⟨q,z,⟨o,F,hc,n,hd⟩,_⟩:=I.tuple (SqT.of e);have:=D7 B;subst this;exact⟨_,rfl,o,q.toArray,n,F,hc,hd,Oy z⟩
end
end L2
namespace L2
open PySem PyProof.Rows
open AutoSeq1 (wpAny_loadPart')
theorem WI(l:Addr)(q:Array ya)(n:Nat)(F:Option Addr)(J:Array (Option ya)) :
  Meets (Builtin.«enumerate.__new__» ⟨[.type "enumerate",.ref l],[]⟩) (fun _ R s=>s.heap.get? l=some {cls:=.type "tuple",dict:=F,data:=.seq q n,slots:=J}/\
   R (.ok (.ret (.ref (s.heap.push {cls:=.type "tuple_iterator",data:=.fields #[.ref l,.int 0 0]}).objs.size)))
    {s with heap:=(s.heap.push {cls:=.type "tuple_iterator",data:=.fields #[.ref l,.int 0 0]}).push {cls:=.type "enumerate",data:=.fields #[.none,.bool false,.ref s.heap.objs.size,rawInt 0,.none,.none]}}):=
 .of_wp fun prog w A R s h=>by
  obtain⟨M,g,d,tk,os⟩:=s; obtain⟨z,h⟩:=h;have G:=sub_enumerate;have B:Heap.IsTuple (Shared.heap ⟨M,g,d,tk,os⟩) l q:=⟨_,z,rfl,n,rfl⟩;wp_walk using wpAny_loadPart' z;refine wpAny_stack_any fun st=>ye ?_;split
  ·rename_i c _ _ _ _ _;cases (c==Value.type "enumerate")
   ·wp_walk using wpAny_loadPart' z,y1l B;exact⟨_,rfl,h⟩
   ·wp_walk using wpAny_loadPart' z,y1l B;exact⟨_,rfl,h⟩
  ·wp_walk using wpAny_loadPart' z,y1l B;exact⟨_,rfl,h⟩
section
variable{prog:yl}{w:y07}{A:y0a}{E:ya->y9->Prop}{s:y9}
theorem WJ{Q:ya->y9->Prop}(O:s.heap.IsTuple l items)
  (h:∀h',IsEnum h' (s.heap.objs.size+1) s.heap.objs.size 0 .none->h'.IsTupleIter s.heap.objs.size l 0->h'.objs.size=s.heap.objs.size+2->
   (∀b o,s.heap.get? b=some o->h'.get? b=some o)->Q (.ref (s.heap.objs.size+1)) {s with heap:=h'}) :
  yy (y03 prog w) A (call (.type "enumerate") [.ref l]) Q E s:=by
 obtain⟨⟨c,B,Y,J⟩,M,hc,n,hd⟩:=O;replace hc:c=.type "tuple":=hc;replace hd:Y=.seq items n:=hd;subst hc hd;refine callType_new F.called_enumerate (by decide) (F.typeCall_enumerate_1 _) (F.newCall_enumerate_1 _) (fun q=>F.args_object_init_2 q _) F.entry_enumerate_new
  (WI l items n B J) ⟨M,?_⟩
 have z:(s.heap.push {cls:=.type "tuple_iterator",data:=.fields #[.ref l,.int 0 0]}).objs.size=s.heap.objs.size+1:=y11 ..;show _/\_;rw[z];have G:IsEnum ((s.heap.push {cls:=.type "tuple_iterator",data:=.fields #[.ref l,.int 0 0]}).push
   {cls:=.type "enumerate",data:=.fields #[.none,.bool false,.ref s.heap.objs.size,rawInt 0,.none,.none]}) (s.heap.objs.size+1) s.heap.objs.size 0 .none:=by
  have:=yg (s.heap.push {cls:=.type "tuple_iterator",data:=.fields #[.ref l,.int 0 0]})
   (o:={cls:=.type "enumerate",data:=.fields #[.none,.bool false,.ref s.heap.objs.size,rawInt 0,.none,.none]}) rfl
  rw[z] at this; exact this
 refine⟨⟨_,G,rfl⟩,h _ G ⟨_,y6 _ (yg _ rfl),rfl,rfl⟩ (by rw[y11,z]) fun b o x=>y6 _ (y6 _ x)⟩
theorem WK{e z l:Addr}{i:Nat}{q:Array ya}{B:ya}{Q:Option ya->y9->Prop}(hh:A.handled=none)(O:IsEnum s.heap e z i B)(J:s.heap.IsTupleIter z l i)(hl:s.heap.IsTuple l q)(hx:q[i]?=none)
  (hQ:∀h',Heap.ExtBut z s.heap h'->Q none {s with heap:=h'}):yy (y03 prog w) A (pyNext (.ref e)) Q E s:=by
 have Y:s.TypeIs (.ref e) "enumerate":=⟨_,O,rfl⟩;unfold pyNext;refine y8 (y3q (y0u (name:=Str.ofString "__next__") Y F.slot_enumerate_next
  (y0j F.slot_enumerate_next Y F.entry_enumerate_next ?_ (F.args_enumerate_next_1 _))))
 show yy _ _ (field (.ref e) 2 >>= _) _ _ _;refine y8 (wpAny_field O rfl (x:=.ref z) rfl ?_);refine y8 (Iw hh J hl hx fun h' x M G=>?_);obtain⟨o,Z,hc⟩:=G;refine y8 (wpAny_isInstance (T:="StopIteration") (b:=true) ⟨o,Z,hc⟩ isSubtype_stop ?_);exact ye (hQ _ M)
end
theorem WL(J:A.handled=none)(z l:Addr)(G:l≠z)(q:Array ya) :
  Draws prog w A z [z,l] q.size (fun i v=>q[i]?=some v) (fun i h=>h.IsTupleIter z l i/\h.IsTuple l q) where
 live:=fun _ _ st=>let ⟨o,ho,_⟩:=st.1; ⟨o,ho⟩
 frame:=fun _ _ _ st hk=>⟨st.1.at fun o e=>hk z (by simp) o e,let ⟨o,ho,r⟩:=st.2; ⟨o,hk l (by simp) o ho,r⟩⟩
 item:=fun i s Q E hi st M=>by
  refine Iv st.1 st.2 (x:=q[i]) (by simp[hi]) fun h' F B=>?_;exact M _ h' s.toks (by simp[hi]) ⟨F,st.2.extBut B.extBut G⟩ B
 done:=fun s Q E st O=>Iw J st.1 st.2 (by simp) O
def F2(K:y3)(a:Addr):It:=
 ⟨fun i H=>∃xs x,SqT K H a xs/\xs[i]?=some x,fun i H x H'=>∃T v,x=.ref T/\H T=none/\H'=upd H T (.tup [.int i,v])/\∀xs,SqT K H a xs->xs[i]?=some v,fun i H=>∃xs,SqT K H a xs/\xs.length<=i⟩
theorem WM{P:yl}{w:y07}{K:y3}{ln:List Expr}{kt:Nat}{pt:Pos}(a e M:Addr)(lc:e≠M)(lr:e≠a)(lv:a≠M):Turn P w K (.Tuple ln kt pt) (F2 K a) [e,M] e (fun i h=>(∃B,IsEnum h e M i B)/\h.IsTupleIter M a i) where
 mem:=by simp
 obj:=fun i h st b hb=>by
  obtain⟨⟨B,J⟩,hi⟩:=st;rcases List.mem_cons.mp hb with rfl|hb
  ·exact⟨_,J,fun v z=>by cases z⟩
  ·obtain rfl:=List.mem_singleton.mp hb;obtain⟨o,e',c,d⟩:=hi;exact⟨o,e',fun v z=>by rw[d] at z; cases z⟩
 keep:=fun i h h' st k=>by
  obtain⟨⟨B,J⟩,hi⟩:=st;exact⟨⟨B,k e (by simp) _ J⟩,hi.at fun o q=>k M (by simp) o q⟩
 item:=by
  intro X hP hw hK hc i pins s σ H E I hf st hg;subst hP hw hK;obtain⟨⟨B,J⟩,O⟩:=st;obtain⟨xs,x,hq,hx⟩:=hg;obtain⟨F,rv,p,hz⟩:=I.tuple hq;obtain⟨u,hu,ru⟩:=rv.get hx;have Z:F.toArray[i]?=some u:=by simpa using hu
  have lq:i<F.toArray.size:=by
   rcases Nat.lt_or_ge i F.toArray.size with c|c
   ·exact c
   ·rw[y1v c] at Z; cases Z
  refine wpAny_pyNext_enum_itemD (WL (A:=X.A.in1) (show X.A.in1.handled=none from I.ok.hd hc) M a lv F.toArray) J ⟨O,p⟩ lq lc (by simp[lc,lr]) fun y h1 tk hy ho lj hT hsz hk=>?_;have lh:F.toArray[i]?=some y:=hy;obtain rfl:u=y:=by rw[Z] at lh; exact yz lh
  have lm:=lj.1;refine⟨_,rfl,wpAny_letOwnedTupleGo_enum ho fun h2 ls lp=>?_⟩;have Y:e<s.heap.objs.size:=yd J;have G:Heap.SameBut e h1 h2:=lp;have kk:∀b o,b∉[e,M]->s.heap.get? b=some o->h2.get? b=some o:=fun b o hb q=>G.extBut b o (fun z=>hb (by simp[z])) (hk b o (fun z=>hb (by simp[z])) (fun z=>hb (by simp[z])) q);have I1:Inv X pins σ H {s with heap:=h2,toks:=tk+1}:=I.turnedL kk hf;have lg:H s.heap.objs.size=none:=I.hok.fresh (yb _);have lx:h2.get? s.heap.objs.size=some {cls:=.type "tuple",data:=.seq #[.int i tk,u]}:=G.extBut _ _ (y19 Y) hT;have I2:Inv X pins σ (upd H s.heap.objs.size (.tup [.int i,x])) {s with heap:=h2,toks:=tk+1}:=
   I1.track lg (I.fpOk (yb _) lg) (show ObjOk X.prog X.w _ h2 _ (.tup [.int i,x]) from⟨LH,[.int i tk,u],.cons ⟨_,rfl⟩ (.cons ru .nil),⟨_,lx,rfl,⟨_,rfl⟩,rfl⟩⟩)
  refine⟨.ref s.heap.objs.size,_,I2,rfl,⟨s.heap.objs.size,x,rfl,lg,rfl,fun ys hy=>by rw[I.tuple_inj hy hq]; exact hx⟩,⟨⟨u,by simpa using ls⟩,lm.at fun o q=>(G.2 M lc.symm).trans q⟩,fun b hb=>?_⟩;have lu:b<s.heap.objs.size:=by
   rcases List.mem_cons.mp hb with rfl|hb
   ·exact Y
   ·obtain rfl:=List.mem_singleton.mp hb;obtain⟨o,e',_⟩:=O;exact yd e'
  rw[AB (yj lu)];exact(hf b hb).1
 done:=by
  intro X hP hw hK hc i pins s σ H E I hf st hg;subst hP hw hK;obtain⟨⟨B,J⟩,O⟩:=st;obtain⟨xs,hq,hx⟩:=hg;obtain⟨F,rv,p,hz⟩:=I.tuple hq;have hl:=rv.length;exact WK (I.ok.hd hc) J O p (by simp; lia) fun h' eb=>⟨rfl,I.turnedL (t':=s.toks) (fun b o hb q=>eb b o (fun z=>hb (by simp[z])) q) hf⟩
 self:=fun _ _ _ _ _ st h=>by
  obtain⟨⟨B,J⟩,_⟩:=st;exact wpAny_pyIter_enum J h
section
variable{X:Cx}
def LM(K:y3)(ta:TA):TI:=fun σ H R=>ta σ H fun vs H1=>∃a,vs=[.ref a]/\(∃xs,SqT K H1 a xs)/\R (F2 K a) H1
theorem Oz{G:List Expr}{kt:Nat}{pt p pos:Pos}{l:Expr}{ta:TA} (hg:Gl X "enumerate") (hm:X.mg "enumerate" = none) (ha:PA X [l] ta) (M:Er l=false:=by rfl):PI X (.Tuple G kt pt) (.Call (.Name "enumerate" p) [l] [] pos) (LM X.K ta):=by
 refine⟨?_⟩;intro pins s σ H R I h;refine Call_ (EO I hg hm boot_enumerate (y1c (thn (ha pos pins s σ H _ I h) fun us z ⟨vs,H1,J,Z,q1⟩=>?_) (CN M) rfl));obtain⟨a,e,⟨xs,hq⟩,q⟩:=q1;subst e;cases Z with
 |cons r Y=>
  cases Y;cases r;obtain⟨lc,rv,pl,hz⟩:=J.tuple hq;have F:a<z.heap.objs.size:=by
   obtain⟨o,e,_⟩:=pl;exact yd e
  refine WJ pl fun h' O hi hsz hk=>?_;have I2:Inv X pins σ H1 {z with heap:=h'}:=J.kept (t':=z.toks) hk;refine wpAny_pyIter_enum O ?_;refine⟨z.heap.objs.size+1,[z.heap.objs.size+1,z.heap.objs.size],_,_,H1,rfl,I2,WM a _ _ (Nat.succ_ne_self _) (y19 (y2f F)) (yj F),⟨⟨_,O⟩,hi⟩,fun b hb=>?_,q⟩;have B:z.heap.objs.size<=b:=by
   rcases List.mem_cons.mp hb with rfl|hb
   ·exact Nat.le_succ _
   ·obtain rfl:=List.mem_singleton.mp hb;exact yb _
  exact J.fpOk B (J.hok.fresh B)
theorem P0{K:y3}{a:Addr}{xs:List V}{g:TG}{tb:TS}{D:Ends}{σ:St}{H:Hp}(z:Nat->St->Hp->Prop)(h0:z 0 σ H)(Y:∀i σ H,i<=xs.length->z i σ H->SqT K H a xs)
  (O:∀i x σ H T,xs[i]?=some x->z i σ H->H T=none->g (.ref T) σ (upd H T (.tup [.int i,x])) fun B H2=>tb {D with nx:=z (i+1),ct:=z (i+1),bk:=D.nx} B H2) (hd:∀ σ H,z xs.length σ H->D.nx σ H) :
  ∃W:Nat->Nat->St->Hp->Prop,(∃m,W 0 m σ H)/\∀i m σ H,W i m σ H->
   ((F2 K a).stop i H/\D.nx σ H)\/((F2 K a).go i H/\∃N:St->Hp->Prop,(∀ F H',N F H'->∃J,J<m/\W (i+1) J F H')/\∀x H',(F2 K a).yld i H x H'->g x σ H' fun B H2=>tb {D with nx:=N,ct:=N,bk:=D.nx} B H2):=by
 refine⟨fun i m σ H=>m=xs.length-i/\i<=xs.length/\z i σ H,⟨xs.length,by simp,y05 _,h0⟩,?_⟩
 rintro i m σ H ⟨rfl,hi,p⟩
 have q:=Y i σ H hi p
 by_cases G:i<xs.length
 ·refine .inr ⟨⟨xs,xs[i],q,by simp[G]⟩,z (i+1),fun F H' M=>⟨xs.length-(i+1),by lia,rfl,G,M⟩,fun x H' y=>?_⟩
  obtain⟨T,v,rfl,Z,rfl,y⟩:=y
  exact O i v σ H T (y xs q) p Z
 ·have e:i=xs.length:=by lia
  subst e
  exact .inl ⟨⟨xs,q,yb _⟩,hd σ H p⟩
end
end L2
namespace L2
open PySem PySem.Spec PyProof.Rows
section
variable{prog:yl}{w:y07}{A:y0a}{E:ya->y9->Prop}{s:y9}{S:Addr}
end
def BY(P:yl)(w:y07)(p:Addr)(ks:List Str):HO:=.ext (W2 (PySem.strKind P w) strOf p (!W3 w) ks)
section
variable{X:Cx}
end
end L2
namespace L2
open PySem PySem.Spec PyProof.Rows PySem.W
def CA(r:Nat->Nat)(n:Nat):Nat->Nat->(Bool->y9->Prop)->y9->Prop:=fun i j C s=>i<n/\j<n/\C (decide (r i<r j)) s
theorem P3{z:Type}{r:Nat->Nat}{q:Nat->Nat->(Bool->y9->Prop)->y9->Prop}{Q:z->y9->Prop}(hc:∀i j C,i<n->j<n->C (decide (r i<r j)) s->q i j C s) :
  ∀(t:KasT z),t.kasWp (CA r n) (fun a s'=>Q a s) s->t.kasWp q Q s
 |.ret a,h=>h
 |.ask i j k,⟨h1,h2,h⟩=>hc i j _ h1 h2 (P3 hc (k _) h)
section
variable{r:Nat->Nat}{n:Nat}{s:y9}
theorem Hn{q:Type}{i j:Nat}{B z:KasT q}{Q:q->y9->Prop}(hi:i<n)(F:j<n)(h1:r i<r j->B.kasWp (CA r n) Q s)(h2:¬ r i<r j->z.kasWp (CA r n) Q s):(KasT.ask i j fun c=>if c=true then B else z).kasWp (CA r n) Q s:=by
 refine⟨hi,F,?_⟩;by_cases c:r i<r j
 ·have:=h1 c;simpa [c] using this
 ·have:=h2 c;simpa [c] using this
def rk(r:Nat->Nat)(p:Array Nat)(i:Nat):Nat:=r (p.getD i 0)
def Asc(r:Nat->Nat)(p:Array Nat)(m:Nat):Prop:=∀i j,i<j->j<m->rk r p i<rk r p j
def Dsc(r:Nat->Nat)(p:Array Nat)(m:Nat):Prop:=∀i j,i<j->j<m->rk r p j<rk r p i
structure PermN(r:Nat->Nat)(n:Nat)(p:Array Nat):Prop where
 sz:p.size=n
 lt:∀i,i<n->p.getD i 0<n
 inj:∀i j,i<n->j<n->rk r p i=rk r p j->i=j
 pm:p.toList.Perm (List.range n)
theorem PermN.of(hr:∀i j,i<n->j<n->r i=r j->i=j)(h:p.toList.Perm (List.range n)):PermN r n p:=by
 have F:p.size=n:=by simpa using h.length_eq
 have B:∀i,i<n->p.getD i 0<n:=fun i hi=>by
  have q:i<p.size:=by lia
  have:p.getD i 0∈p.toList:=by simp[Array.getD,q]
  simpa using h.mem_iff.mp this
 refine⟨F,B,fun i j hi J e=>?_,h⟩;have M:=hr _ _ (B i hi) (B j J) e;have G:p.toList.Nodup:=h.nodup_iff.mpr List.nodup_range;have q:i<p.size:=by lia
 have z:j<p.size:=by lia
 have:p.toList[i]'(by simpa using q)=p.toList[j]'(by simpa using z):=by simpa [Array.getD,q,z] using M
 exact(y2j G).mp this
theorem Ix{p q:Array Nat}{i j:Nat}(h:p[i]?=q[j]?):p.getD i 0=q.getD j 0:=by
 have B:p.getD i 0=(p[i]?).getD 0:=by simp
 have z:q.getD j 0=(q[j]?).getD 0:=by simp
 rw[B,z,h]
theorem LN{p:Array Nat}(P:PermN r n p){Q:Nat->y9->Prop}:∀(f m:Nat),1<=m->m+f<=n->Asc r p m->(∀k,m<=k->k<=m+f->Asc r p k->(k<m+f->rk r p k<rk r p (k-1))->Q k s)->(kas_asc p f m).kasWp (CA r n) Q s
 |0,m,h1,h2,h,q=>q m (yb _) (yb _) h (fun z=>absurd z (by lia))
 |f+1,m,h1,h2,h,q=>by
  refine Hn (P.lt _ (by lia)) (P.lt _ (by lia)) (fun c=>?_) (fun(c:¬ rk r p m<rk r p (m-1))=>?_)
  ·exact q m (yb _) (by lia) h (fun _=>c)
  ·refine LN P f (m+1) (by lia) (by lia) (fun i j F Z=>?_) fun k Y O J G=>q k (by lia) (by lia) J (fun z=>G (by lia));have B:rk r p (m-1)<rk r p m:=by
    have:rk r p (m-1)≠rk r p m:=fun e=>by have:=P.inj _ _ (by lia) (by lia) e; lia
    lia
   by_cases e:j=m
   ·subst e;by_cases M:i=j-1
    ·rw[M]; exact B
    ·exact y0w (h i (j-1) (by lia) (by lia)) B
   ·exact h i j F (by lia)
theorem P4{p:Array Nat}(P:PermN r n p){Q:Array Nat×Nat×Nat->y9->Prop}:∀(f m:Nat),1<=m->m+f<=n->Dsc r p m->(∀k,m<=k->k<=m+f->Dsc r p k->Q (p,k,0) s)->(kas_desc f p m 0).kasWp (CA r n) Q s
 |0,m,h1,h2,h,q=>q m (yb _) (yb _) h
 |f+1,m,h1,h2,h,q=>by
  refine Hn (P.lt _ (by lia)) (P.lt _ (by lia)) (fun c=>?_) (fun(c:¬ rk r p m<rk r p (m-1))=>?_)
  ·rw[if_neg (by lia)];refine P4 P f (m+1) (by lia) (by lia) (fun i j B O=>?_) fun k M J F=>q k (by lia) (by lia) F;by_cases e:j=m
   ·subst e;by_cases G:i=j-1
    ·rw[G]; exact c
    ·exact y0w c (h i (j-1) (by lia) (by lia))
   ·exact h i j B (by lia)
  ·have z:rk r p (m-1)<rk r p m:=by
    have:rk r p (m-1)≠rk r p m:=fun e=>by have:=P.inj _ _ (by lia) (by lia) e; lia
    lia
   refine Hn (P.lt _ (by lia)) (P.lt _ (by lia)) (fun c=>?_) (fun c=>absurd z c);exact q m (yb _) (by lia) h
theorem WN(hr:∀i j,i<n->j<n->r i=r j->i=j)(P:PermN r n p)(i j:Nat):PermN r n (kas_rev p i j):=
 .of hr ((Array.perm_iff_toList_perm.mp (mirror_perm _ _ _ _)).trans P.pm)
theorem P5{p:Array Nat}{m:Nat}(hm:m<=p.size)(k:Nat)(hk:k<m):rk r (kas_rev p 0 m) k=rk r p (m-1-k):=by
 have e:=getElem?_mirror_all (xs:=p) (i:=0) hm k;rw[if_pos (by lia)] at e;show r _=r _;rw[show kas_rev p 0 m=mirror p 0 m ((m-0) / 2) from rfl,Ix e];congr 2;lia
theorem WO(hr:∀i j,i<n->j<n->r i=r j->i=j)(P:PermN r n p){Q:Nat×Array Nat->y9->Prop}(h1:1<=m)(h2:m<=n)(h:Dsc r p m)
  (q:∀k z,PermN r n z->1<=k->k<=n->Asc r z k->Q (k,z) s):(kas_tail3 m n p).kasWp (CA r n) Q s:=by
 unfold kas_tail3;rw[y2q];have B:=WN hr P 0 m;refine LN B (n-m) m h1 (by lia) (fun i j J G=>?_) fun k O M F _=>q k _ B (by lia) (by lia) F;rw[P5 (by rw[P.sz]; exact h2) _ (by lia),P5 (by rw[P.sz]; exact h2) _ G];exact h _ _ (by lia) (by lia)
theorem WP(hr:∀i j,i<n->j<n->r i=r j->i=j)(P:PermN r n p){Q:Nat×Array Nat->y9->Prop}(h2:m+1<=n)(h:Dsc r p (m+1))
  (q:∀k z,PermN r n z->1<=k->k<=n->Asc r z k->Q (k,z) s):(kas_descPart m n p).kasWp (CA r n) Q s:=by
 unfold kas_descPart;rw[y2q];refine P4 P (n-(m+1)) (m+1) (by lia) (by lia) h fun k M J B=>?_;rw[if_neg (show ¬ (p,k,0).2.2>0 from y0t 0)];have G:1<=k:=by lia
 have F:k<=n:=by lia
 exact WO hr P G F B q
theorem WQ(hr:∀i j,i<n->j<n->r i=r j->i=j){p:Array Nat}(P:PermN r n p){Q:Nat×Array Nat->y9->Prop}(h1:1<=n)
  (q:∀k z,PermN r n z->1<=k->k<=n->Asc r z k->Q (k,z) s):(kas_count n p).kasWp (CA r n) Q s:=by
 unfold kas_count;rw[y2q];refine LN P (n-1) 1 (yb _) (by lia) (fun i j F O=>by lia) fun m G Y B M=>?_;by_cases e:m=n
 ·rw[if_pos (by simpa using e)];exact q m p P G (by lia) B
 ·rw[if_neg (by simpa using e)];by_cases J:m>1
  ·rw[if_pos J];refine Hn (P.lt _ (by lia)) (P.lt _ (by lia)) (fun c=>?_) (fun c=>absurd (B 0 (m-1) (by lia) (by lia)) c);exact q m p P G (by lia) B
  ·rw[if_neg J];obtain rfl:m=1:=by lia
   refine WP hr P (by lia) (fun i j F O=>?_) q;obtain rfl:i=0:=by lia
   obtain rfl:j=1:=by lia
   exact M (by lia)
theorem LO{p:Array Nat}(P:PermN r n p){k:Nat}(hk:k<n)(z:Asc r p k){Q:Nat->y9->Prop}:∀(f l u:Nat),l<=u->u<=k->u-l<=f->(∀i,i<l->rk r p i<rk r p k)->(∀i,u<=i->i<k->rk r p k<rk r p i)->
  (∀m,m<=k->(∀i,i<m->rk r p i<rk r p k)->(∀i,m<=i->i<k->rk r p k<rk r p i)->Q m s)->(kas_place p k f l u).kasWp (CA r n) Q s
 |0,l,u,h1,h2,F,lo,hi,q=>by
  obtain rfl:l=u:=by lia
  exact q l h2 lo hi
 |f+1,l,u,h1,h2,F,lo,hi,q=>by
  unfold kas_place;by_cases e:l ≥ u
  ·rw[if_pos e];obtain rfl:l=u:=by lia
   exact q l h2 lo hi
  ·rw[if_neg e];refine Hn (P.lt _ hk) (P.lt _ (by lia)) (fun c=>?_) (fun(c:¬ rk r p k<rk r p ((l+u) / 2))=>?_)
   ·refine LO P hk z f l ((l+u) / 2) (by lia) (by lia) (by lia) lo (fun i h1 h2=>?_) q;by_cases B:i=(l+u) / 2
    ·rw[B]; exact c
    ·exact y0w c (z _ _ (by lia) h2)
   ·have c':rk r p ((l+u) / 2)<rk r p k:=by
     have:rk r p ((l+u) / 2)≠rk r p k:=fun e=>by have:=P.inj _ _ (by lia) hk e; lia
     lia
    refine LO P hk z f ((l+u) / 2+1) u (by lia) h2 (by lia) (fun i h1=>?_) hi q;by_cases B:i=(l+u) / 2
    ·rw[B]; exact c'
    ·exact y0w (z _ _ (show i<(l+u) / 2 by lia) (by lia)) c'
theorem P6(hr:∀i j,i<n->j<n->r i=r j->i=j){Q:Array Nat->y9->Prop}:∀(f:Nat) (p:Array Nat) (k:Nat),PermN r n p->k+f=n->Asc r p k->(∀B,PermN r n B->Asc r B n->Q B s)->(kas_bin f p k).kasWp (CA r n) Q s
 |0,p,k,P,e,h,q=>by
  obtain rfl:k=n:=e;exact q p P h
 |f+1,p,k,P,e,h,q=>by
  rw[show kas_bin (f+1) p k=(kas_place p k k 0 k).bind fun l=>kas_bin f (bubble p k (k-l)) (k+1) from rfl,y2q];have hk:k<n:=by lia
  refine LO P hk h k 0 k (y05 _) (yb _) (by lia) (fun i z=>absurd z (by lia)) (fun i z J=>absurd J (by lia)) fun m Z O M=>?_;refine P6 hr f _ (k+1) (.of hr ((Array.perm_iff_toList_perm.mp (bubble_perm _ _ _)).trans P.pm)) (by lia) (fun i j Y hj=>?_) q;have at_:∀x,rk r (bubble p k (k-m)) x=if x=m then rk r p k else if m<x/\x<=k then rk r p (x-1) else rk r p x:=fun x=>by
   have z:=getElem?_bubble (xs:=p) (src:=k) (by rw[P.sz]; exact hk) (k-m) (by lia) x;rw[show k-(k-m)=m by lia] at z;show r _=_;by_cases G:x=m
   ·rw[if_pos G] at z |-;rw[Ix z,rk]
   ·rw[if_neg G] at z |-;by_cases F:m<x/\x<=k
    ·rw[if_pos F] at z |-;rw[Ix z,rk]
    ·rw[if_neg F] at z |-;rw[Ix z,rk]
  rw[at_,at_];repeat' split
  all_goals first
   |(exfalso; lia)
   |exact O _ (by lia)
   |exact M _ (by lia) (by lia)
   |exact h _ _ (by lia) (by lia)
theorem WR(hr:∀i j,i<n->j<n->r i=r j->i=j)(h1:1<=n){Q:Array Nat->y9->Prop}(q:∀p,PermN r n p->Asc r p n->Q p s):(kas_sort n).kasWp (CA r n) Q s:=by
 unfold kas_sort;rw[y2q];refine WQ hr (.of hr (by simp)) h1 fun k p P F B z=>?_;dsimp only;by_cases e:k<n
 ·rw[if_pos e,show max k 1=k by lia];exact P6 hr _ p k P (by lia) z q
 ·rw[if_neg e];obtain rfl:k=n:=by lia
  exact q p P z
end
section
variable{prog:yl}{w:y07}{A:y0a}{E:ya->y9->Prop}{s:y9}{a:Addr}{L:Bool}
theorem D8(h:n<=1000):n<=yn:=by rw[sizeLine_eq]; lia
theorem P7{r:Nat->Nat}{P:PySem.Fin->y9->Prop} (Y:s.heap.get? a=some (y1e "list" vs.toArray n)) (lg:vs.length<64) (hr:∀i j,i<vs.length->j<vs.length->r i=r j->i=j)
  (hR:2<=vs.length->∀h':Heap,(∀b o,b≠a->s.heap.get? b=some o->h'.get? b=some o)->∃k,(∀(E:ya->y9->Prop) (Q:SortKind->y9->Prop),Q k {s with heap:=h'}->yy (y03 prog w) A (keyKind' vs.toArray) Q E {s with heap:=h'})/\
   ∀i j,i<vs.length->j<vs.length->∀(E:ya->y9->Prop) (Q:Bool->y9->Prop),Q (decide (r i<r j)) {s with heap:=h'}->yy (y03 prog w) A (keyLt' k (vs.getD i .none) (vs.getD j .none)) Q E {s with heap:=h'})
  (h:∀p,PermN r vs.length p->Asc r p vs.length->P (.done (.ret .none)) {s with heap:=sortedHeap s.heap a vs (p.toList.map fun i=>vs.getD i .none).toArray}) :
  yy (y03 prog w) A (Builtin.«list.sort» ⟨[.ref a],[]⟩) P E s:=by
 rw[list_sort_plain];have O:vs.length<=yn:=D8 (by lia);have ha:a<s.heap.objs.size:=yd Y;refine y8 (listItems_at Y rfl ?_);refine y8 (listUpdate_at Y rfl ?_ (by simpa using O) (y05 _));obtain⟨e1,J⟩:∃e1,(s.heap.update a (Obj.mapSeq fun _=>#[])).get? a=some (y1e "list" #[] e1):=⟨_,get?_update_seq Y (fun _=>#[])⟩;refine y8 (seqEpoch_at J rfl ?_);refine y8 (wpAny_newTuple ?_ (by simpa using O));refine y8 (y2u ?_ (y05 _));refine y16 ?_;have B:(((s.heap.update a (Obj.mapSeq fun _=>#[])).push (y1e "tuple" vs.toArray 0)).push (y1e "list" #[] 0)).get? a=some (y1e "list" #[] e1):=by
  rw[Heap.get?_push_ne _ _ _ (by rw[y3u,Heap.size_update]; exact yj (y2f ha)),Heap.get?_push_ne _ _ _ (by rw[Heap.size_update]; exact yj ha)];exact J
 have F:∀b o,b≠a->s.heap.get? b=some o->(((s.heap.update a (Obj.mapSeq fun _=>#[])).push (y1e "tuple" vs.toArray 0)).push (y1e "list" #[] 0)).get? b=some o:=fun b o hb e=>by
  refine y6 _ (y6 _ ?_);rw[Heap.get?_update_ne _ _ _ _ hb];exact e
 show yy (y03 prog w) A _ P E {s with heap:=((s.heap.update a (Obj.mapSeq fun _=>#[])).push (y1e "tuple" vs.toArray 0)).push (y1e "list" #[] 0)};dsimp only;have hsz:vs.toArray.size=vs.length:=by simp
 by_cases h2:vs.toArray.size<2
 ·rw[if_pos h2,if_pos h2];refine y8 (ye ?_);rw[StateT.run_pure];refine y8 (ye ?_);dsimp only;refine y8 (seqEpoch_at B rfl ?_);refine y8 (listUpdate_at B rfl ?_ (y05 _) (by rw[Array.size_map]; show(pairsOf vs).size<=_; rw[pairsOf_size]; exact y38 O));simp only[bne_self_eq_false,y15,if_false];have e:(arrOf (SortSt.mk' general' (vs.toArray.zip vs.toArray) #[] 7 none)).map (·.2)=vs.toArray:=by
   show(vs.toArray.zip vs.toArray).map (·.2)=_;apply Array.toList_inj.mp;simp[List.map_snd_zip]
  rw[e];have z:=h (List.toArray (List.range vs.length)) (.of hr (by simp)) (fun i j lh hj=>by rw[hsz] at h2; lia);have ev:((List.toArray (List.range vs.length)).toList.map fun i=>vs.getD i Value.none)=vs:=by
   refine y1u (by simp) fun i h1 h2=>?_;simp[h2]
  rw[ev] at z;exact ye z
 ·rw[if_neg h2,if_neg h2];rw[hsz] at h2;obtain⟨kk,hK,lc⟩:=hR (by lia) _ F;refine y8 (hK _ _ ?_);refine y8 (y18 (kat_run (κ:=kk) (Q:=fun q s'=>∃p:Array Nat,PermN r vs.length p/\Asc r p vs.length/\arrOf q=p.map (kas_item (vs.toArray.zip vs.toArray))/\failedOf q=none/\s' = {s with heap:=((s.heap.update a (Obj.mapSeq fun _=>#[])).push (y1e "tuple" vs.toArray 0)).push (y1e "list" #[] 0)})
   (G:=fun p s'=>PermN r vs.length p/\Asc r p vs.length/\s' = {s with heap:=((s.heap.update a (Obj.mapSeq fun _=>#[])).push (y1e "tuple" vs.toArray 0)).push (y1e "list" #[] 0)})
   rfl (by lia) lg (fun p' q s' a1 a2 a3 ⟨a4,a5,a6⟩=>⟨p',a4,a5,a2,a3,a6⟩) (P3 (r:=r) (fun i j C hi hj hc=>lc i j hi hj _ _ hc) _ (WR hr (by lia) fun p Z P2=>⟨Z,P2,rfl⟩))) ?_ fun _ _ e=>e)
  rintro⟨⟨⟩,q⟩ s' ⟨p,Z,P2,M,hf,rfl⟩;dsimp only at M hf |-;have e:=kat_snds (ks:=vs) (vs:=vs) rfl M;refine y8 (seqEpoch_at B rfl ?_);refine y8 (listUpdate_at B rfl ?_ (y05 _) (by rw[e,y01,y4,y0f,Z.sz]; exact y38 O));rw[hf];simp only[bne_self_eq_false,y15,if_false,e];exact ye (h p Z P2)
theorem WS{G β:Type}{f:G->β}{l m:List β}(h:l.Perm m):∀ps:List G,m=ps.map f->∃z:List G,z.Perm ps/\l=z.map f:=by
 induction h with
 |nil=>
  intro ps e;cases ps with
  |nil=>exact⟨[],.refl _,rfl⟩
  |cons _ _=>cases e
 |cons x _ ih=>
  intro ps e;cases ps with
  |nil=>cases e
  |cons p ps=>
   injection e with F B;obtain⟨z,q,Z⟩:=ih ps B;exact⟨p::z,q.cons p,by rw[yc,<- Z,F]⟩
 |swap x y l=>
  intro ps e;match ps,e with
  |p::q::ps,e=>
   injection e with F B;injection B with B Z;exact⟨q::p::ps,.swap ..,by rw[yc,yc,<- F,<- B,<- Z]⟩
 |trans _ _ Y O=>
  intro ps e;obtain⟨M,q1,F⟩:=O ps e;obtain⟨J,q2,B⟩:=Y M F;exact⟨J,q2.trans q1,B⟩
end
theorem P8:∀x:List Int,ltI x x=false
 |[]=>rfl
 |a::x=>by rw[ltI,if_pos rfl]; exact P8 x
section
variable{prog:yl}{w:y07}{A:y0a}{E:ya->y9->Prop}{s:y9}{S:Addr}
theorem P9:∀{vs:List ya},(∀v∈vs,∃b p,v=.ref b/\p≠[]/\IsTupleKey (intKind prog w) h p b)->∃fs,KatTups h vs fs/\fs.length=vs.length/\∀f∈fs,∃n t,f=.int n t
 |[],_=>⟨[],.nil,rfl,fun f h=>absurd h (by simp)⟩
 |v::vs,hv=>by
  obtain⟨fs,k,l,f⟩:=P9 fun x hx=>hv x (.tail _ hx);obtain⟨b,p,rfl,F,o,q,n,B,hc,hd,hi⟩:=hv v (.head _);obtain⟨q⟩:=q;cases hi with
  |nil=>exact absurd rfl F
  |@cons i v x vs h1 hx=>
   obtain⟨z,rfl⟩:=LJ h1;refine⟨.int i z::fs,.cons B hc hd rfl k,by simp[l],fun g hg=>?_⟩;rcases List.mem_cons.mp hg with rfl|hg
   ·exact⟨_,_,rfl⟩
   ·exact f g hg
def adV:V->Addr
 |.ref a=>a
 |_=>0
def RisP(ps:List (List Int)):Prop:=(∀p∈ps,p≠[])/\ps.Pairwise (fun p q=>ltI p q=true)/\ps.length<=60
end
section
variable{X:Cx}{pins:List (Addr×Obj)}{σ:St}{H:Hp}{s:y9}
theorem PB(I:Inv X pins σ H s):∀{ps:List (List Int)} {vs:List V},DtA H vs (ps.map pathD)->vs=(vs.map adV).map V.ref/\vs.length=ps.length/\∀j,j<(vs.map adV).length->IsTupleKey (intKind X.prog X.w) s.heap (ps.getD j []) ((vs.map adV).getD j 0)
 |[],_,.nil=>⟨rfl,rfl,fun j h=>absurd h (by simp)⟩
 |p::ps,_,.cons d t=>by
  obtain⟨e,l,f⟩:=PB I t;cases d with
  |@tup a xs ds B q=>
   obtain⟨b,eb,kb⟩:=I.path (v:=.ref a) (p:=p) (Dt.tup B q) (show RelV (.ref a) (.ref a) from rfl);cases eb;refine⟨by rw[yc,yc,<- e]; rfl,by simp[l],fun j z=>?_⟩;cases j with
   |zero=>exact kb
   |succ j=>exact f j (by simpa using z)
theorem RisP.lt(R:RisP ps)(hi:i<ps.length)(q:j<ps.length):ltI (ps.getD i []) (ps.getD j [])=decide (i<j):=by
 have F:∀i j,i<j->j<ps.length->ltI (ps.getD i []) (ps.getD j [])=true:=fun i j B q=>by
  rw[yq,yq,yf (by lia),yf q];exact List.pairwise_iff_getElem.mp R.2.1 i j (by lia) q B
 rcases Nat.lt_trichotomy i j with z|rfl|z
 ·rw[F i j z q,decide_eq_true z]
 ·rw[P8,decide_eq_false (y0t _)]
 ·rw[Ox (F j i z hi),decide_eq_false (by lia)]
theorem PD:∀as:List Addr,Vals (as.map V.ref) (as.map Value.ref)
 |[]=>.nil
 |a::as=>.cons rfl (PD as)
end
section
variable{prog:yl}{w:y07}{A:y0a}{E:ya->y9->Prop}{s:y9}
def WT(K:y3)(ta:TA)(tc:TE):TE:=fun σ H Q=>ta σ H fun vs H1=>tc σ H1 fun y H2=>∃(a:Addr) (ns:List Int) (d:Int),vs=[.ref a]/\y=.int d/\SqL K H2 a (ns.map V.int)/\∀M,((ns=[]/\M=d)\/(M∈ns/\∀a∈ns,a<=M))->Q (.int M) H2
def WU(K:y3):List V->Hp->VK->Prop:=fun xs H Q=>∃(a:Addr) (ns:List Int),xs=[.ref a]/\SqL K H a (ns.map V.int)/\Q (.int ns.sum) H
end
section
variable{X:Cx}
theorem WV{K:y3}{ta:TA}{g:TG}{tt:TT}{te:TE}{q:List (Option Nat)}{σ:St}{H:Hp}{Q:VK}:CM (LM K ta) g tt te q σ H Q=ta σ H fun vs H1=>∃a,vs=[.ref a]/\(∃xs,SqT K H1 a xs)/\BN (F2 K a) g tt te Q (subσ q σ) H1:=rfl
def WW:V->List V->Hp->VK->Prop:=fun x vs H Q=>∃(l:Addr) (q:List Str) (y:Str),x=.ref l/\vs=[.str y]/\H l=some (.lst (q.map V.str))/\Q (.int (q.count y:Nat)) H
theorem Inv.grow{t':Nat}(I:Inv X pins σ H s)(k:∀b u,s.heap.get? b=some u->h'.get? b=some u)(z:Same H H')(B:∀b,b<s.heap.objs.size->H b=none->H' b=none)
  (F:∀b u,H b=none->H' b=some u->ObjOk X.prog X.w H' h' b u):Inv X pins σ H' {s with heap:=h',toks:=t'}:=by
 refine I.un ⟨fun b u q _ _ _=>k b u q,fun b u q _ _ _=>⟨u.slots,k b u q⟩,fun b u q n _=>B b (yd q) n,fun b u q _=>⟨u,k b u q⟩,fun b xs q=>z _ _ q,fun b u xs q=>z _ _ q,fun b ps q=>⟨#[],by rw[z _ _ q]; simp⟩⟩ fun b u e=>?_;cases hb:H b with
 |none=>exact F b u hb e
 |some G=>
  have:=z _ _ hb;rw[e] at this;cases this;exact(I.hok b u hb).stay (fun c v _ q=>k c v q) (fun c q=>z _ _ q) fun c xs q=>z _ _ q
def Ho(v d:Addr):HO:=.ext fun h=>h.IsItemsView v d
def LP:V->List V->Hp->VK->Prop:=fun x vs H Q=>∃(d:Addr) (kvs:List (Key×V)),x=.ref d/\vs=[]/\H d=some (.dK kvs)/\∀p,H p=none->Q (.ref p) (upd H p (Ho p d))
def Iy(p:Str×Int):Dm:=.tup [.str p.1,.int p.2]
def WX:List V->Hp->VK->Prop:=fun xs H Q=>∃(v d:Addr) (kvs:List (Str×Int)) (z:Str->Nat),xs=[.ref v]/\H v=some (Ho v d)/\H d=some (.dK (kvs.map fun p=>(Sum.inr p.1,V.int p.2)))/\kvs.length<64/\
 (∀p∈kvs,∀q∈kvs,decide (p.1.cps.toList<q.1.cps.toList)=decide (z p.1<z q.1)/\(z p.1=z q.1->p.1=q.1))/\
 ∀(l:Addr) (H':Hp) (ws:List V) (B:List (Str×Int)),Same H H'->H l=none->H' l=some (.lst ws)->DtA H' ws (B.map Iy)->B.Perm kvs->B.Pairwise (fun p q=>z p.1<z q.1)->Q (.ref l) H'
end
section
variable{prog:yl}{w:y07}{A:y0a}{E:ya->y9->Prop}{s:y9}
theorem WY{Q:Bool->y9->Prop}(ha:s.heap.get? a=some ox)(F:ox.data=.seq xs n)(hc:s.heap.get? c=some oy)(B:oy.data=.seq ys m)
  (ex:xs.toList=[.str x t,d]) (z:ys.toList=[.str y u,e]) (q:x≠y) (h:Q (decide (x.cps.toList<y.cps.toList)) s):yy (y03 prog w) A (keyLt' (tuples' true) (.ref a) (.ref c)) Q E s:=by
 refine kat_lt ha F hc B ?_;rw[ex,z,y1i];refine kat_cons (wpAny_eqBool_str ?_);rw[decide_eq_false q];exact kat_no (oneLt_str h)
end
section
variable{prog:yl}{w:y07}{A:y0a}{E:ya->y9->Prop}{s:y9}{K:Type} [DecidableEq K] {knd:PySem.KeyKind prog w K}
theorem WZ{Q:List ya->y9->Prop}(hh:A.handled=none)(hv:s.heap.IsItemsView r d)(hm:s.heap.DictAt knd d kvs ep)(hn:kvs.length<=yn)
  (q:∀(h':Heap) (tk:Nat) (as:List Addr),s.heap.objs.size<=h'.objs.size->(∀b o,s.heap.get? b=some o->h'.get? b=some o)->as.length=kvs.length->KdxG knd kvs s.heap.objs.size h' as->Q (as.map Value.ref) {s with heap:=h',toks:=tk}) :
  yy (y03 prog w) A (collect (.ref r)) Q E s:=by
 have hr:r<s.heap.objs.size:=let ⟨_,ho,_⟩:=hv; yd ho
 have hd:d<s.heap.objs.size:=hm.lt_size
 unfold collect
 refine y8 (wpAny_runValue (y1t PySem.F.entry_proto_collect ?_))
 rw[y12 PySem.F.plain_proto_collect]
 refine y8 (y2u (ye ⟨y2v y27 _,y1t PySem.F.entry_list_iadd ?_⟩))
 rw[y12 y27]
 have e0:(s.heap.push (y1e "list" #[] 0)).get? s.heap.objs.size=some (y1e "list" #[] 0):=yg _ rfl
 show yy _ _ (Builtin.List.listExtendWith (.ref s.heap.objs.size) (.ref r) (.ref s.heap.objs.size)) _ _ {s with heap:=s.heap.push (y1e "list" #[] 0)}
 have fin:∀(v:Result) (s':y9),(∃(h':Heap) (tk:Nat) (acc:Array ya) (c:Nat) (as:List Addr),v=.ok (.ret (.ref s.heap.objs.size))/\s' = {s with heap:=h',toks:=tk}/\h'.get? s.heap.objs.size=some {cls:=.type "list",dict:=none,data:=.seq acc c,slots:=#[]}/\acc.toList=as.map Value.ref/\Q (as.map Value.ref) {s with heap:=h',toks:=tk})->
   (match v with|.ok (.ret v)=>yy (y03 prog w) A (match v with|.ref a=>(do match (<- load a).data with|.seq xs _=>pure xs.toList|_=>unsupported "internal:collect")|_=>unsupported "internal:collect") Q E s'|.ok _=>False|.error e=>E e s'):=by
  rintro v s' ⟨h',tk,acc,c,as,rfl,rfl,hS,hacc,hq⟩
  refine y8 (wpAny_load hS (ye ?_))
  rw[hacc]
  exact hq
 refine y18 (kdx_extend (A:=A) (s:={s with heap:=s.heap.push (y1e "list" #[] 0)}) (knd:=knd) (kvs:=kvs) (ep:=ep)
  (R:=fun v s'=>∃(h':Heap) (tk:Nat) (acc:Array ya) (c:Nat) (as:List Addr),v=.ok (.ret (.ref s.heap.objs.size))/\s' = {s with heap:=h',toks:=tk}/\h'.get? s.heap.objs.size=some {cls:=.type "list",dict:=none,data:=.seq acc c,slots:=#[]}/\acc.toList=as.map Value.ref/\Q (as.map Value.ref) {s with heap:=h',toks:=tk})
  hh (let ⟨o,ho,x⟩:=hv; ⟨o,y6 _ ho,x⟩) (hm.push _) s.heap.objs.size (y19 hr) (yj hd) (.ref s.heap.objs.size) 0 e0 (fun h' tk acc c as hk hS hl g hacc=>⟨h',tk,acc,c,as,rfl,rfl,hS,hacc,?_⟩) hn) (fun f s' z=>?_) (fun e s' z=>fin _ _ z)
 ·refine q h' tk as (y1a (yd hS)) (fun b o e=>hk b o (yj (yd e)) (y6 _ e)) hl (g.low ?_)
  show s.heap.objs.size<=(s.heap.push _).objs.size
  rw[y11]
  exact Nat.le_succ _
 ·cases f with
  |done f=>exact fin _ _ z
  |again c=>exact⟨z.1,y1w z.2 fun r s2 y=>fin r s2 y⟩
def D9:List Addr->List (List V)->Hp->Hp
 |a::as,x::xs,H=>upd (D9 as xs H) a (.tup x)
 |_,_,H=>H
theorem LQ:∀{as:List Addr} {xs:List (List V)} {H:Hp} {b:Addr},b∉as->D9 as xs H b=H b
 |[],_,_,_,_=>rfl
 |a::as,[],_,_,_=>rfl
 |a::as,x::xs,H,b,h=>by
  rw[D9,AB (show b≠a from fun z=>h (by rw[z]; exact y00))];exact LQ fun z=>h (.tail _ z)
theorem LR:∀{as:List Addr} {xs:List (List V)} {H:Hp} {j:Nat} {a:Addr} {x:List V},as.Pairwise (· < ·)->as[j]?=some a->xs[j]?=some x->D9 as xs H a=some (.tup x)
 |[],_,_,_,_,_,_,h,_=>by simp at h
 |a::as,[],_,_,_,_,_,_,h=>by simp at h
 |a::as,x::xs,H,0,b,y,_,h1,h2=>by
  have G:a=b:=by simpa using h1
  have F:x=y:=by simpa using h2
  subst G F;exact A6
 |a::as,x::xs,H,j+1,b,y,B,h1,h2=>by
  obtain⟨p1,p2⟩:=List.pairwise_cons.mp B;have q:as[j]?=some b:=by simpa using h1
  have z:=p1 b (yi q);rw[D9,AB (y19 z)];exact LR p2 q (by simpa using h2)
theorem Wa:∀{as:List Addr} {xs:List (List V)} {H:Hp} {b:Addr} {u:HO},as.length=xs.length->as.Pairwise (· < ·)->b∈as->D9 as xs H b=some u->∃(j:Nat) (x:List V),as[j]?=some b/\xs[j]?=some x/\u=.tup x:=by
 intro as xs H b u G q hb e;obtain⟨j,B,F⟩:=List.getElem_of_mem hb;have h1:as[j]?=some b:=by rw[yf B,F]
 have h2:xs[j]?=some xs[j]:=yf (by lia);have z:=LR (H:=H) q h1 h2;rw[e] at z;cases z;exact⟨j,_,h1,h2,rfl⟩
end
section
variable{X:Cx}
theorem Wb:MtM X "dict.items" LP:=by
 intro pins s σ H x vs v us Q I G J h;obtain⟨d,kvs,rfl,rfl,Y,q⟩:=h;cases G;cases J;obtain⟨z,hd,xs,M,B⟩:=LD I.hok Y;have O:s.TypeIs (.ref d) "dict":=B.typeIs;refine y3l F.slot_dict_items O F.entry_dict_items (F.args_dict_items_1 _) (meets_dict_items (AU X.prog X.w) d hd) ⟨⟨_,B⟩,?_⟩;have e:=yg s.heap (o:={cls:=.type "dict_items",data:=.fields #[.ref d]}) rfl;refine⟨.ref s.heap.objs.size,_,I.laid (t':=s.toks) (fun b u q=>y6 _ q) (yb _) (show ObjOk X.prog X.w _ _ _ (Ho s.heap.objs.size d) from⟨⟨_,e,rfl,rfl⟩,⟨_,e⟩,fun h1 h2 ⟨o,Z,r⟩ y=>⟨o,y _ Z,r⟩⟩),rfl,q _ (I.hok.fresh (yb _))⟩
theorem PF{kvs:List (Str×Int)}:∀{vs:List (Key×ya)},KV (kvs.map fun p=>((Sum.inr p.1:Key),V.int p.2)) vs->∀(j:Nat) (k:Key) (x:ya),vs[j]?=some (k,x)->∃p t,kvs[j]?=some p/\k=Sum.inr p.1/\x=.int p.2 t:=by
 induction kvs with
 |nil=>
  intro vs q j k x e;cases q;simp at e
 |cons p kvs B=>
  intro vs q j k x e;cases q with
  |cons z rt=>
   cases j with
   |zero=>
    obtain⟨h1,t,h2⟩:=z;simp only[y0r,y1h] at e;subst e;exact⟨p,t,rfl,h1.symm,h2⟩
   |succ j=>exact B rt j k x (by simpa using e)
theorem LS{q:Type}{f:q->V}{g:q->Dm}:∀{l:List q},(∀i∈l,Dt H (f i) (g i))->DtA H (l.map f) (l.map g)
 |[],_=>.nil
 |i::l,h=>.cons (h i (.head _)) (LS fun j z=>h j (.tail _ z))
theorem PH{q:Type}{f:q->V}{g:q->ya}:∀{l:List q},(∀i∈l,RelV (f i) (g i))->Vals (l.map f) (l.map g)
 |[],_=>.nil
 |i::l,h=>.cons (h i (.head _)) (PH fun j z=>h j (.tail _ z))
theorem Wc(hc:X.calm=true):B3 X (.builtin "sorted") WX:=by
 intro pins s σ H xs us Q I r h;obtain⟨v,d,kvs,ρ,rfl,hv,hd,lU,ln,q⟩:=h;obtain⟨u,rfl,r1⟩:=r.one;cases r1;have view:s.heap.IsItemsView v d:=(show ObjOk X.prog X.w H s.heap v (Ho v d) from I.hok v _ hv).1;obtain⟨zl,lS,xs,lh,dd⟩:=LD I.hok hd;obtain⟨ep,da⟩:=dd.dictAt;have lR:xs.length=kvs.length:=by have:=lh.length; rw[y4] at this; exact this.symm
 refine y2x kind_sorted plain_sorted entry_sorted (args_sorted1 _) ?_;unfold Builtin.«sorted»;refine y8 (m:=checkCount "sorted" 1 1 _) (ye (y8 (WZ (A:=X.A.in1) (by simpa using I.ok.hd hc) view da (D8 (by lia)) fun h1 tk as hsz k1 lT g=>?_)));have Y:as.length=kvs.length:=by lia
 have M:∀j a,as[j]?=some a->∃(p:Str×Int) (t u:Tok),kvs[j]?=some p/\h1.get? a=some {cls:=.type "tuple",data:=.seq #[.str p.1 t,.int p.2 u]}:=fun j a ha=>by
  obtain⟨key,k,x,Z,G,e3⟩:=g.pairs j a ha;obtain⟨p,t,e4,rfl,rfl⟩:=PF lh j k x Z;rcases CH (show DW (Sum.inr p.1) key=true from G) with⟨i,t',e5,rfl⟩|⟨y,t',e5,rfl⟩
  ·cases e5
  ·cases e5;exact⟨p,t',t,e4,e3⟩
 have ly:(kvs.map (·.1)).Nodup:=by
  have z:=da.nodup;have e:xs.map (·.1)=kvs.map fun p=>(Sum.inr p.1:Key):=by
   refine List.ext_getElem? fun j=>?_;rw[ym,ym];cases ej:xs[j]? with
   |none=>
    have:kvs[j]?=none:=by rw[List.getElem?_eq_none_iff] at ej |-; lia
    rw[this]; rfl
   |some kx=>
    obtain⟨k,x⟩:=kx;obtain⟨p,t,e4,e5,_⟩:=PF lh j k x ej;rw[e4,e5]; rfl
  rw[e] at z;exact List.pairwise_map.mpr ((List.pairwise_map.mp z).imp fun h e=>h (by rw[e]))
 have hD:∀i,i<kvs.length->kvs[i]?=some (kvs.getD i (⟨#[]⟩,0)):=fun i hi=>by
  rw[yq,yf hi]; rfl
 have hA:∀i,i<kvs.length->as[i]?=some (as.getD i 0):=fun i hi=>by
  rw[yq,yf (by lia)]; rfl
 have B:∀i,i<kvs.length->kvs.getD i (⟨#[]⟩,0)∈kvs:=fun i hi=>yi (hD i hi);have lQ:∀i,i<kvs.length->∃t u,h1.get? (as.getD i 0)=some {cls:=.type "tuple",data:=.seq #[.str (kvs.getD i (⟨#[]⟩,0)).1 t,.int (kvs.getD i (⟨#[]⟩,0)).2 u]}:=fun i hi=>by
  obtain⟨p,t,u,Z,G⟩:=M i _ (hA i hi);rw[hD i hi] at Z;cases Z;exact⟨t,u,G⟩
 have lp:(as.map Value.ref).length=kvs.length:=by rw[y4,Y]
 have lc:∀i,i<kvs.length->(as.map Value.ref).getD i .none=.ref (as.getD i 0):=fun i hi=>by
  rw[yq,ym,hA i hi]; rfl
 have lr:∀i j,i<kvs.length->j<kvs.length->(kvs.getD i (⟨#[]⟩,0)).1=(kvs.getD j (⟨#[]⟩,0)).1->i=j:=fun i j hi F e=>by
  have lP:i<(kvs.map (·.1)).length:=by rw[y4]; exact hi
  have O:j<(kvs.map (·.1)).length:=by rw[y4]; exact F
  refine(y2j (h₀:=lP) (h₁:=O) ly).mp ?_;rw[y2i,y2i];have a1:=hD i hi;have a2:=hD j F;rw[yf hi] at a1;rw[yf F] at a2;rw[yz a1,yz a2];exact e
 refine y8 (y2u ?_ (D8 (by lia)));have eL:(h1.push (y1e "list" (as.map Value.ref).toArray 0)).get? h1.objs.size=some (y1e "list" (as.map Value.ref).toArray 0):=yg _ rfl;refine y8 (y16 (y0j slot_list_sort ⟨_,eL,rfl⟩ entry_list_sort (P7 (r:=fun i=>ρ (kvs.getD i (⟨#[]⟩,0)).1) eL (by lia) (fun i j hi F e=>lr i j (by lia) (by lia) ((ln _ (B i (by lia)) _ (B j (by lia))).2 e)) (fun h2 h' kp=>?_) fun p P1 P2=>⟨_,rfl,?_⟩) (args_list_sort _)))
 ·have J:∀i,i<kvs.length->∃t u,h'.get? (as.getD i 0)=some {cls:=.type "tuple",data:=.seq #[.str (kvs.getD i (⟨#[]⟩,0)).1 t,.int (kvs.getD i (⟨#[]⟩,0)).2 u]}:=fun i hi=>by
   obtain⟨t,u,e⟩:=lQ i hi;exact⟨t,u,kp _ _ (yj (yd e)) (y6 _ e)⟩
  have lj:∀(l:List Nat),(∀i∈l,i<kvs.length)->∃fs,KatTups h' (l.map fun i=>(as.map Value.ref).getD i .none) fs/\fs.length=l.length/\∀f∈fs,∃x t,f=.str x t:=by
   intro l;induction l with
   |nil=>intro _; exact⟨[],.nil,rfl,fun f hf=>absurd hf (by simp)⟩
   |cons i l ih=>
    intro hl;obtain⟨fs,k,lf,ff⟩:=ih fun j F=>hl j (.tail _ F);obtain⟨t,u,e⟩:=J i (hl i (.head _));refine⟨.str (kvs.getD i (⟨#[]⟩,0)).1 t::fs,?_,by simp[lf],fun f hf=>?_⟩
    ·rw[yc,lc i (hl i (.head _))];exact .cons e rfl rfl rfl k
    ·rcases List.mem_cons.mp hf with rfl|hf
     ·exact⟨_,_,rfl⟩
     ·exact ff f hf
  obtain⟨fs,kt,fl,ff⟩:=lj (List.range kvs.length) fun i hi=>List.mem_range.mp hi;have ev:((List.range kvs.length).map fun i=>(as.map Value.ref).getD i .none)=as.map Value.ref:=by
   refine y1u (by simp[Y]) fun i h1 h2=>?_;simp at h2;simp[h2]
  rw[ev] at kt;rw[y3o] at fl;refine⟨tuples' true,fun E Q hQ=>kat_kind (T:=.type "str") kt (by lia) (fun v hv=>?_) rfl hQ,fun i j hi F E Q hQ=>?_⟩
  ·obtain⟨x,t,rfl⟩:=ff v hv;exact Looks.of_pure rfl
  ·rw[lp] at hi F;rw[lc i hi,lc j F];obtain⟨t1,u1,Z⟩:=J i hi;obtain⟨t2,u2,G⟩:=J j F;by_cases lx:i=j
   ·subst lx;rw[decide_eq_false (y0t _)] at hQ;rw[Z] at G;refine kat_lt Z rfl Z rfl ?_;refine kat_cons (wpAny_eqBool_str ?_);rw[decide_eq_true rfl];refine kat_yes (kat_cons (wpAny_eqBool_int ?_));rw[show((kvs.getD i (⟨#[]⟩,0)).2==(kvs.getD i (⟨#[]⟩,0)).2)=true from beq_self_eq_true _];refine kat_yes (kat_nil ?_);simpa using hQ
   ·refine WY Z rfl G rfl rfl rfl (fun z=>lx (lr i j hi F z)) ?_;rw[(ln _ (B i hi) _ (B j F)).1];exact hQ
 ·refine ye ⟨_,rfl,?_⟩;rw[lp] at P1 P2;obtain⟨n,en⟩:=sortedHeap_at (out:=(p.toList.map fun i=>(as.map Value.ref).getD i Value.none).toArray) eL;have ls:∀i∈p.toList,i<kvs.length:=fun i hi=>List.mem_range.mp (P1.pm.mem_iff.mp hi);have lg:∀b u,h1.get? b=some u->(sortedHeap (h1.push (y1e "list" (as.map Value.ref).toArray 0)) h1.objs.size (as.map Value.ref) (p.toList.map fun i=>(as.map Value.ref).getD i Value.none).toArray).get? b=some u:=fun b u hu=>by
   have lb:=yd hu;rw[sortedHeap_old (yj lb) (by rw[y3u]; exact y2f lb)];exact y6 _ hu
  have lq:∀a∈as,s.heap.objs.size<=a/\a<h1.objs.size:=fun a ha=>⟨y1a (g.above a ha),g.there ha⟩;have nL:h1.objs.size∉as:=fun z=>absurd (lq _ z).2 (y0t _);have lm:∀b,b<s.heap.objs.size->upd (D9 as (kvs.map fun p=>[V.str p.1,V.int p.2]) H) h1.objs.size (.lst (p.toList.map fun i=>V.ref (as.getD i 0))) b=H b:=fun b hb=>by
   rw[AB (yj (yw hb hsz)),LQ fun z=>absurd (lq b z).1 (by lia)]
  have sm:Same H (upd (D9 as (kvs.map fun p=>[V.str p.1,V.int p.2]) H) h1.objs.size (.lst (p.toList.map fun i=>V.ref (as.getD i 0)))):=fun b u e=>by
   rw[lm b (I.hok b u e).lt]; exact e
  have atT:∀i,i<kvs.length->upd (D9 as (kvs.map fun p=>[V.str p.1,V.int p.2]) H) h1.objs.size (.lst (p.toList.map fun i=>V.ref (as.getD i 0))) (as.getD i 0)=some (.tup [V.str (kvs.getD i (⟨#[]⟩,0)).1,V.int (kvs.getD i (⟨#[]⟩,0)).2]):=fun i hi=>by
   have ha:=hA i hi;rw[AB fun z=>nL (by rw[<- z]; exact yi ha)];exact LR g.rise ha (by rw[ym,hD i hi]; rfl)
  refine⟨.ref h1.objs.size,_,I.grow (t':=tk) (fun b u e=>lg b u (k1 b u e)) sm (fun b hb e=>(lm b hb).trans e) (fun b u Z G=>?_),rfl,q h1.objs.size _ _ (p.toList.map fun i=>kvs.getD i (⟨#[]⟩,0)) sm (I.hok.fresh hsz) A6 ?_ ?_ ?_⟩
  ·by_cases hb:b=h1.objs.size
   ·subst hb;rw[A6] at G;cases G;refine⟨?_,(p.toList.map fun i=>(as.map Value.ref).getD i Value.none),n,PH fun i hi=>?_,by simpa [y1e] using en⟩
    ·rw[y4,y0f,P1.sz];exact D8 (by lia)
    ·rw[lc i (ls i hi)]; rfl
   ·rw[AB hb] at G;by_cases lv:b∈as
    ·obtain⟨j,x,ej,ex,rfl⟩:=Wa (by rw[y4]; exact Y) g.rise lv G;obtain⟨p',t,u,e4,e5⟩:=M j b ej;rw[ym,e4] at ex;cases ex;exact⟨LH,[.str p'.1 t,.int p'.2 u],.cons ⟨t,rfl⟩ (.cons ⟨u,rfl⟩ .nil),⟨_,lg b _ e5,rfl,⟨0,rfl⟩,rfl⟩⟩
    ·rw[LQ lv,Z] at G;cases G
  ·rw[y0m];refine LS fun i hi=>?_;exact .tup (atT i (ls i hi)) (.cons (.str _) (.cons (.int _) .nil))
  ·have z:=P1.pm.map fun i=>kvs.getD i ((⟨#[]⟩:Str),(0:Int));refine z.trans (.of_eq ?_);refine y1u (by simp) fun i h1 h2=>?_;simp[h2]
  ·rw[List.pairwise_map,List.pairwise_iff_getElem];intro i j hi F lu;have O:j<p.size:=by simpa using F
   have z:=P2 i j lu (by rw[<- P1.sz]; exact O);simpa [rk,Array.getD,O,y0w lu O] using z
theorem Iz:entryFor table "dict.update.loop" = some Builtin.«dict.update.loop»:=entryFor_of_tree (by kernel_rfl)
theorem Dp:plainId "dict.update.loop" = true:=by decide+kernel
theorem J0(h:n<=200000):n<=yn:=y0d h (by decide)
theorem We:typeLookup (.type "list") "keys" = pure none:=by rw[typeLookup_type,builtinLookup_eq_fast]; kernel_rfl
end
section
variable{prog:yl}{w:y07}{A:y0a}{E:ya->y9->Prop}{s:y9}{a:Addr}
theorem Wf{z:Array ya}{n:Nat}{Q:Option ya->y9->Prop}(Y:A.handled=none) (hx:s.heap.get? a=some {cls:=.type "list",data:=.seq z n}) (q:∀h' tk,(∀b o,s.heap.get? b=some o->h'.get? b=some o)->Q none {s with heap:=h',toks:=tk}) :
  yy (y03 prog w) A (getAttr? (.ref a) "keys") Q E s:=by
 obtain⟨J,g,d,tk,os⟩:=s;have hT:Shared.TypeIs ⟨J,g,d,tk,os⟩ (.ref a) "list":=⟨_,hx,rfl⟩;have G:Shared.TypeIs ⟨J,g,d,tk+1,os⟩ (.ref a) "list":=⟨_,hx,rfl⟩;have f1:=sub_AttributeError;have f3:=F.slot_list_getattribute.lookup;have f4:=F.slot_list_getattribute.bind (.ref a);have f5:=am_list_getattr_none;unfold getAttr? getAttrBy? getAttrBy;repeat (any_goals (first|assumption|((with_reducible show yy _ _ (call (Value.builtin "list.__getattribute__") _ _) _ _ _); refine y3v F.slot_list_getattribute G am_entry_list_getattribute (F.args_list_getattribute_2 _ _) (meets_getattribute_miss_list a z n #[] "keys" _ We (by decide+kernel)) ⟨hx,Y,fun h' M e B=>?_⟩)|wp_step))
 obtain⟨t',Z,he⟩:=B.there;show yy _ _ (getattributeRaised _ _ _ _ _ _ _) _ _ _;unfold getattributeRaised;repeat (any_goals (first|assumption|wp_step))
 exact q _ _ fun b O e=>B.keeps b O e
theorem LT{h h':Heap}{D:Addr}{xs:List (List Key×Addr×ya)}(x:h.DictOfH (tupleKind (AU prog w)) D xs)(q:∀o,h.get? D=some o->h'.get? D=some o)(kk:∀y∈xs,(tupleKind (AU prog w)).is h' y.1 y.2.1):h'.DictOfH (tupleKind (AU prog w)) D xs:=by
 obtain⟨o,es,ep,J,G,F,B,_,z⟩:=x;exact⟨o,es,ep,q o J,G,F,B,kk,z⟩
theorem J1(x:(tupleKind (AU prog w)).is h p a)(k:∀o,h.get? a=some o->h'.get? a=some o):(tupleKind (AU prog w)).is h' p a:=by
 obtain⟨o,i,n,e,r⟩:=x;exact⟨o,i,n,k _ e,r⟩
theorem Wg{Q:List ya->y9->Prop}(e:s.heap.get? a=some o) (c:o.cls=.type "tuple") (d:o.data=.seq its k) (hi:its.toList=[.ref b,v]) (q:Q [.ref b,v] s):yy (y03 prog w) A (Builtin.Dict.pairItems (.ref a)) Q E s:=by
 unfold Builtin.Dict.pairItems;refine y8 (y2o (T:="tuple") ⟨_,e,c⟩ ?_);rw[if_pos (by decide)];refine y8 (wpAny_seqItems e d (ye ?_));show Q its.toList s;rw[hi];exact q
theorem Wh{R:Result->y9->Prop}{G:Array GenState->Array GenState->Prop}{P:Nat->ya->Prop}{St:Nat->y9->Prop}{rw_ ka:Nat->Addr}{va:Nat->ya}{ks:Nat->List Key}(W:WalksS prog w A.in1 I fp wr G n P St)(lj:D∉fp)
  (lc:∀i v,P i v->v=.ref (rw_ i)) (lh:∀i j,i<n->j<n->ks i=ks j->i=j) (hn:n<=100000) (J:∀i,i<n->rw_ i∉D::wr/\ka i∉D::wr) (hu:A.units+8<cLine) :
  ∀(m i:Nat) (s:y9),i+m=n->St i s->s.heap.DictOfH (tupleKind (AU prog w)) D ((List.range i).map fun j=>(ks j,ka j,va j))->
   (∀j,j<n->(∃o B k,s.heap.get? (rw_ j)=some o/\o.cls=.type "tuple"/\o.data=.seq B k/\B.toList=[.ref (ka j),va j])/\(tupleKind (AU prog w)).is s.heap (ks j) (ka j))->
   (∀s',Moved (D::wr) G s s'->s'.heap.DictOfH (tupleKind (AU prog w)) D ((List.range n).map fun j=>(ks j,ka j,va j))->R (.ok (.ret .none)) s')->
   codeAny (y03 prog w) A (.builtin "dict.update.loop" ⟨[.ref D,.ref I,rawInt i,.none],[]⟩) R s:=by
 have hw:D∉wr:=fun z=>lj (W.sub _ z)
 have hm:∀b∈wr,b∈D::wr:=fun b z=>.tail _ z
 intro m
 induction m with
 |zero=>
  intro i s e st x hk q
  obtain rfl:i=n:=e
  refine y1t Iz ?_
  rw[y12 Dp]
  refine y8 (W.done s _ _ st fun s' M=>?_)
  show yy _ _ (Builtin.Dict.addKeywords D [] >>= _) _ _ _
  refine y8 (ye (ye (q s' (M.mono hm) (LT x (fun o z=>M.heap D o hw z) fun y hy=>?_))))
  obtain⟨j,F,rfl⟩:=List.mem_map.mp hy
  have F:=List.mem_range.mp F
  exact J1 (hk j F).2 fun o z=>M.heap _ o (fun z=>(J j F).2 (hm _ z)) z
 |succ m ih=>
  intro i s e st x hk q
  refine y1t Iz ?_
  rw[y12 Dp]
  refine y8 (W.item i s _ _ (by lia) st fun v s1 hP lm M=>?_)
  obtain rfl:=lc i v hP
  have hi:i<n:=by lia
  have Y:∀j,j<n->(∃o B k,s1.heap.get? (rw_ j)=some o/\o.cls=.type "tuple"/\o.data=.seq B k/\B.toList=[.ref (ka j),va j])/\(tupleKind (AU prog w)).is s1.heap (ks j) (ka j):=fun j F=>by
   obtain⟨⟨o,B,k,e1,r⟩,O⟩:=hk j F;exact⟨⟨o,B,k,M.heap _ o (fun z=>(J j F).1 (hm _ z)) e1,r⟩,J1 O fun o z=>M.heap _ o (fun z=>(J j F).2 (hm _ z)) z⟩
  have x1:s1.heap.DictOfH (tupleKind (AU prog w)) D ((List.range i).map fun j=>(ks j,ka j,va j)):=LT x (fun o z=>M.heap D o hw z) fun y hy=>by
   obtain⟨j,F,rfl⟩:=List.mem_map.mp hy;exact(Y j (by have:=List.mem_range.mp F; lia)).2
  obtain⟨⟨o,B,k,e1,e2,e3,e4⟩,O⟩:=Y i hi;refine y8 (y16 (y8 (wpAny_tryCatch (Wg e1 e2 e3 e4 (y16 (wpAny_dictSet_heap (by show A.units+1<cLine; lia) O x1 (fun h' x' sb=>?_) ?_))))))
  ·have lg:atKey ((List.range i).map fun j=>(ks j,ka j,va j)) (ks i)=none:=atKey_none_of_get fun j p z=>by
    rw[ym] at z;cases ej:(List.range i)[j]? with
    |none=>rw[ej] at z; cases z
    |some j'=>
     rw[ej] at z;have lq:=List.mem_range.mp (yi ej);have:ks j'=ks i:=by simpa using congrArg Prod.fst (yz z)
     have:=lh j' i (by lia) hi this;lia
   rw[storedH_new lg] at x';have er:((List.range i).map fun j=>(ks j,ka j,va j))++[(ks i,ka i,va i)]=(List.range (i+1)).map fun j=>(ks j,ka j,va j):=by
    rw[List.range_succ,y02]; rfl
   rw[er] at x';have lp:∀j,j<n->(∃o B k,h'.get? (rw_ j)=some o/\o.cls=.type "tuple"/\o.data=.seq B k/\B.toList=[.ref (ka j),va j])/\(tupleKind (AU prog w)).is h' (ks j) (ka j):=fun j F=>by
    obtain⟨⟨o,B,k,e1,r⟩,O⟩:=Y j F;exact⟨⟨o,B,k,(sb.2 _ fun z=>(J j F).1 (by rw[z]; exact y00)).trans e1,r⟩,J1 O fun o z=>(sb.2 _ fun z=>(J j F).2 (by rw[z]; exact y00)).trans z⟩
   refine ye ⟨y2v Dp _,ih (i+1) _ (by lia) (W.frame _ s1 _ _ lm (y0p _ _) fun b Z o z=>?_) x' lp fun s2 ln O=>q s2 (Moved.trans W.gtrans ((M.mono hm).then_heap (y0p _ _) fun b o Z z=>?_) ln) O⟩
   ·rw[sb.2 b fun z:b=D=>lj (z ▸ Z)]; exact z
   ·rw[sb.2 b fun z:b=D=>Z (z ▸ y00)]; exact z
  ·rw[y4,y3o];exact J0 (by lia)
end
def Wi:List V->Hp->VK->Prop:=fun xs H Q=>∃(a:Addr) (vs:List V) (l:List Rw2),xs=[.ref a]/\H a=some (.lst vs)/\DtA H vs (l.map LL)/\(l.map (·.1)).Nodup/\l.length<=100000/\
 ∀(p:Addr) (kvs:List (List Key×V)),H p=none->Paired (fun(kv:List Key×V) (r:Rw2)=>kv.1=r.1.map Sum.inl/\Dt H kv.2 r.2) kvs l->Q (.ref p) (upd H p (.dT kvs))
structure Prw where
 r:Addr
 k:Addr
 x:V
 u:ya
instance:Inhabited Prw:=⟨⟨0,0,.non,.none⟩⟩
section
variable{X:Cx}{pins:List (Addr×Obj)}{σ:St}{H:Hp}{s:y9}
def LU(X:Cx)(H:Hp)(h:Heap)(l:Rw2)(q:Prw):Prop:=H q.r=some (.tup [.ref q.k,q.x])/\H q.k=some (.tup (l.1.map V.int))/\Dt H q.x l.2/\RelV q.x q.u/\(∃o z k,h.get? q.r=some o/\o.cls=.type "tuple"/\o.data=.seq z k/\z.toList=[.ref q.k,q.u])/\(tupleKind (AU X.prog X.w)).is h (l.1.map Sum.inl) q.k
theorem PJ(I:Inv X pins σ H s):∀{l:List Rw2} {vs:List V} {us:List ya},DtA H vs (l.map LL)->Vals vs us->∃F:List Prw,us=F.map (fun q=>Value.ref q.r)/\Paired (LU X H s.heap) l F
 |[],_,_,.nil,.nil=>⟨[],rfl,.nil⟩
 |r::l,_,_,.cons d t,.cons M rt=>by
  obtain⟨F,e,Z⟩:=PJ I t rt;cases d with
  |tup J B=>
   cases M;obtain⟨lc,z,⟨o,ho,hc,n,hd⟩,_⟩:=I.tuple (SqT.of J);cases B with
   |cons d1 B=>
    cases B with
    |cons d2 B=>
     cases B;cases z with
     |cons Y z=>
      cases z with
      |cons q2 z=>
       cases z;cases d1 with
       |tup G O=>
        have eb:=D7 O;subst eb;cases Y;refine⟨⟨_,_,_,_⟩::F,by rw[e]; rfl,.cons ⟨J,G,d2,q2,⟨o,_,n,ho,hc,hd,rfl⟩,?_⟩ Z⟩;refine Ew I.hok ?_;rw[G,y0m];rfl
theorem DA{z q:Type}{R:z->q->Prop}:∀{l:List z} {m:List q},Paired R l m->l.length=m.length/\∀(j:Nat) (a:z) (b:q),l[j]?=some a->m[j]?=some b->R a b
 |[],_,.nil=>⟨rfl,fun j a b h=>by simp at h⟩
 |x::l,_,.cons r t=>by
  obtain⟨h1,h2⟩:=DA t;refine⟨by simp[h1],fun j a b ha hb=>?_⟩;cases j with
  |zero=>
   have F:=yz ha;have B:=yz hb;subst F B;exact r
  |succ j=>exact h2 j a b (by simpa using ha) (by simpa using hb)
theorem PK{z q F B:Type}{R:z->q->Prop}{S:F->B->Prop}{f:z->q->F}{g:z->q->B}:∀{l:List z} {m:List q},Paired R l m->(∀a b,R a b->S (f a b) (g a b))->Paired S (List.zipWith f l m) (List.zipWith g l m)
 |[],_,.nil,_=>.nil
 |_::_,_,.cons r t,h=>.cons (h _ _ r) (PK t h)
theorem Wj(hc:X.calm=true)(hu:X.A.units+64<cLine):B3 X (.type "dict") Wi:=by
 intro pins s σ H xs us Q I r h;obtain⟨a,vs,l,rfl,hH,hd,ln,hz,q⟩:=h;obtain⟨u,rfl,r1⟩:=r.one;cases r1;obtain⟨z,Y,n,rv,hl,e⟩:=I.lstM hH;obtain⟨B,eq,pq⟩:=PJ I hd rv;subst eq;obtain⟨lu,lr⟩:=DA pq;refine callType_codes (Q₁:=fun lc O=>lc=.ref s.heap.objs.size/\O = {s with heap:=s.heap.push {cls:=.type "dict",data:=.dict #[]}}) F.kt_called_dict (F.kt_typeCall_dict_1 _) F.entry_dict_init (kt_code_dict_new _ ⟨rfl,rfl⟩) ?_;rintro lc O ⟨rfl,rfl⟩;have J:(s.heap.push {cls:=.type "dict",data:=.dict #[]}).DictOfH (tupleKind (AU X.prog X.w)) s.heap.objs.size []:=Heap.DictOfH.new s.heap;refine⟨J.typeIs,F.args_dict_init_2 _ _,?_⟩;unfold Builtin.«dict.__init__»;refine y8 ?_;unfold Builtin.Dict.selfAndRest;refine y8 (y3j J.typeIs ?_);show yy _ _ (pure (s.heap.objs.size,[Value.ref a])) _ _ _;refine ye ?_;show yy _ _ (Builtin.Dict.updateFrom "dict.__init__" s.heap.objs.size (.ref a) [] .none) _ _ _;unfold Builtin.Dict.updateFrom;have e1:(s.heap.push {cls:=.type "dict",data:=.dict #[]}).get? a=some {cls:=.type "list",data:=.seq (B.map fun q=>Value.ref q.r).toArray n}:=y6 _ e;refine y8 (y2o (T:="list") ⟨_,e1,rfl⟩ ?_);rw[if_pos (by decide)];refine y8 (Wf (by simpa using I.ok.hd hc) e1 fun h2 lh k2=>?_);refine y1r (fun _=>?_) (fun c=>absurd rfl c);have e2:=k2 a _ e1;have eD:=k2 _ _ (yg s.heap (o:={cls:=.type "dict",data:=.dict #[]}) rfl);have lD:s.heap.objs.size<h2.objs.size:=yd eD;have la:a<s.heap.objs.size:=yd e;have lg:h2.IsList a (B.map fun q=>Value.ref q.r).toArray:=⟨_,e2,rfl,n,rfl⟩;refine y8 (y3r (y8 (y3s (s:={s with heap:=h2,toks:=lh}) lg (ye ⟨y2v Dp _,?_⟩))));have W:=(Walks.list (prog:=X.prog) (w:=X.w) (A:=X.A.in1.in1) (by simpa using I.ok.hd hc) h2.objs.size a (yj (y0w la lD)) (B.map fun q=>Value.ref q.r).toArray).toS;have hsz:(B.map fun q=>Value.ref q.r).toArray.size=B.length:=by simp
 rw[hsz] at W;have Z:∀j,j<B.length->B[j]?=some (B.getD j default):=fun j G=>by
  rw[yq,yf G]; rfl
 have M:∀j,j<B.length->l[j]?=some (l.getD j ([],.non)):=fun j G=>by
  rw[yq,yf (by lia)]; rfl
 have ok:∀j,j<B.length->LU X H s.heap (l.getD j ([],.non)) (B.getD j default):=fun j G=>lr j _ _ (M j G) (Z j G);have kp:∀b o,s.heap.get? b=some o->(h2.push {cls:=.type "list_iterator",data:=.fields #[.ref a,.int 0 0]}).get? b=some o:=fun b o q=>y6 _ (k2 b o (y6 _ q));refine Wh (A:=X.A.in1) (D:=s.heap.objs.size) (rw_:=fun j=>(B.getD j default).r) (ka:=fun j=>(B.getD j default).k) (va:=fun j=>(B.getD j default).u) (ks:=fun j=>(l.getD j ([],.non)).1.map Sum.inl) W ?_ (fun i v hv=>?_) (fun i j hi G z=>?_) (by lia) (fun j G=>?_) (by show X.A.units+1+8<cLine; lia) B.length 0 _ (Nat.zero_add _) ⟨⟨_,yg _ rfl,rfl,rfl⟩,lg.push _⟩ ?_ (fun j G=>?_) fun s' mv x=>?_
 ·simp only[yv,yp,or_false,not_or];exact⟨yj lD,y19 la⟩
 ·have hi:i<B.length:=by
   refine Classical.byContradiction fun z=>?_;rw[y1v (by rw[hsz]; lia)] at hv;cases hv
  have z:(B.map fun q=>Value.ref q.r)[i]?=some v:=by simpa using hv
  rw[ym,Z i hi] at z;exact(yz z).symm
 ·have e':(l.getD i ([],Dm.non)).1=(l.getD j ([],Dm.non)).1:=by
   have inj:∀(x y:List Int),x.map (Sum.inl:Int->Key)=y.map Sum.inl->x=y:=by
    intro x;induction x with
    |nil=>intro y h; cases y with|nil=>rfl|cons _ _=>cases h
    |cons a x ih=>
     intro y h;cases y with
     |nil=>cases h
     |cons b y=>
      rw[yc,yc] at h;injection h with h1 h2;injection h1 with h1;rw[h1,ih y h2]
   exact inj _ _ z
  have lq:i<(l.map (·.1)).length:=by rw[y4]; lia
  have lp:j<(l.map (·.1)).length:=by rw[y4]; lia
  refine(y2j (h₀:=lq) (h₁:=lp) ln).mp ?_;rw[y2i,y2i];have a1:=M i hi;have a2:=M j G;rw[yf (by lia)] at a1;rw[yf (by lia)] at a2;rw[yz a1,yz a2];exact e'
 ·obtain⟨_,_,_,_,⟨o,Y,k,g1,_⟩,o2,ls,lv,g2,_⟩:=ok j G;have b1:=yd g1;have b2:=yd g2;simp only[yv,yp,or_false,not_or];exact⟨⟨yj b1,yj (y0w b1 lD)⟩,yj b2,yj (y0w b2 lD)⟩
 ·exact LT J (fun o z=>y6 _ (k2 _ o z)) fun y hy=>absurd hy (by simp)
 ·obtain⟨_,_,_,_,⟨o,Y,k,g1,r1⟩,x2⟩:=ok j G;exact⟨⟨o,Y,k,kp _ _ g1,r1⟩,J1 x2 fun o z=>kp _ o z⟩
 ·obtain⟨h',g',d',lj,lm⟩:=s';have z1:g'=s.gens:=mv.gens;have z2:d'=s.drawn:=mv.drawn;have z3:lm=s.os:=mv.os;subst z1 z2 z3;refine⟨rfl,?_⟩;have kf:∀b o,s.heap.get? b=some o->h'.get? b=some o:=fun b o q=>by
   have lb:=yd q;refine mv.heap b o ?_ (kp b o q);simp only[yv,yp,or_false,not_or];exact⟨yj lb,yj (y0w lb lD)⟩
  obtain⟨oD,es,ep,f1,f2,f3,f4,f5,f6⟩:=x;have ez:((List.range B.length).map fun j=>((l.getD j ([],Dm.non)).1.map (Sum.inl:Int->Key),(B.getD j default).k,(B.getD j default).u))=List.zipWith (fun(r:Rw2) (q:Prw)=>(r.1.map Sum.inl,q.k,q.u)) l B:=by
   refine y1u (by simp; lia) fun j h1 h2=>?_;have G:j<B.length:=by simpa using h1
   have a1:=M j G;have a2:=Z j G;rw[yf (by lia)] at a1;rw[yf G] at a2;rw[y2i,List.getElem_range,List.getElem_zipWith,yz a1,yz a2]
  rw[ez] at f4 f6;refine⟨.ref s.heap.objs.size,_,I.laid (t':=lj) kf (yb _) (show ObjOk X.prog X.w _ _ _ (.dT (List.zipWith (fun(r:Rw2) (q:Prw)=>(r.1.map Sum.inl,q.x)) l B)) from⟨?_,?_,_,?_,oD,es,ep,f1,f2,f3,f4,f6⟩),rfl,q _ _ (I.hok.fresh (yb _)) ?_⟩
  ·rw[List.length_zipWith];exact J0 (by lia)
  ·have:=I.big;exact beq_eq_false_iff_ne.mpr (y19 this)
  ·refine PK pq fun r q ok=>⟨rfl,?_,ok.2.2.2.1⟩;rw[AB (yj (I.hok _ _ ok.2.1).lt),ok.2.1,y0m];rfl
  ·have key:∀{l:List Rw2} {B:List Prw},Paired (LU X H s.heap) l B->Paired (fun(kv:List Key×V) (r:Rw2)=>kv.1=r.1.map Sum.inl/\Dt H kv.2 r.2) (List.zipWith (fun(r:Rw2) (q:Prw)=>(r.1.map Sum.inl,q.x)) l B) l:=by
    intro l B pq;induction pq with
    |nil=>exact .nil
    |cons r t ih=>exact .cons ⟨rfl,r.2.2.1⟩ ih
   exact key pq
end
def PL(td:TE):TE:=fun σ H Q=>td σ H fun x H1=>LP x [] H1 Q
theorem Wl(ho:PE X o td) (B:attributeBase o "items" X.env (eval o X.env)=eval o X.env:=by rfl)
  (G:((backTo cpos (starEach [] X.env)).all (fun x=>!x.1)&&(backToKw cpos (keywordEach [] X.env)).all (fun x=>x.1.isSome)
   && decide (([]:List Expr).length+([]:List Keyword).length+(if([]:List Keyword).isEmpty then 0 else 1)<30))=true:=by rfl)
  (z:(apos.endLine==cpos.line)=true:=by rfl):PE X (.Call (.Attribute o "items" apos) [] [] cpos) (PL td):=by
 refine⟨?_⟩;intro pins s σ H Q I h;refine y3t B G z y34 PySem.F.slot_dict_items PySem.F.type_dict_items (thn (ho pins s σ H _ I h) fun u Z ⟨x,H1,M,rx,q1⟩=>?_);obtain⟨d,kvs,rfl,_,J,q⟩:=q1;obtain rfl:u=Value.ref d:=rx;obtain⟨Y,O,_⟩:=LE M (.inl ⟨kvs,.inl J⟩);refine⟨Y,O,?_⟩;refine y2b rfl (PyProof.Rows.evalArgs_nil3 ?_);exact Wb pins Z σ H1 (.ref d) [] (.ref d) [] Q M rfl .nil ⟨d,kvs,rfl,rfl,J,q⟩
def PM(i j k:Nat)(ta:TA):TS:=fun D σ H=>ta σ H fun vs H1=>∃u v w,vs=[u,v,w]/\D.nx (((σ.set i (some u)).set j (some v)).set k (some w)) H1
end L2
namespace L2
open PySem PySem.Spec PyProof.Rows
def Bq(c:Addr)(q:Str):HO:=.ext fun h=>h.CodeRec (.ref c) q
structure LamD where
 qual:Str
 params:Arguments
 body:Expr
 scope:Scope
def CB(D:LamD)(cl:List (Str×Addr))(f c':Addr):HO:=.ext fun h=>∃z q,h.get? f=some (PySem.W.kla_obj "<lambda>" D.qual D.params D.body D.scope cl z c' q)
def J2(P:Addr)(pos:Pos)(D:LamD)(cl:List (Str×Addr)):TE:=fun σ H Q=>∃ps,H P=some (.tbl ps)/\TriplesOk ps.toList/\
  ((codeAmong pos ps.toList=none/\∀c' f,H c'=none->H f=none->c'≠f->Q (.ref f) (upd (upd (upd H P (.tbl (ps ++ #[rawInt pos.line,rawInt pos.col,.ref c']))) c' (Bq c' D.qual)) f (CB D cl f c')))\/
   (∃c',codeAmong pos ps.toList=some (.ref c')/\H c'=some (Bq c' D.qual)/\∀f,H f=none->Q (.ref f) (upd H f (CB D cl f c'))))
section
variable{X:Cx}
theorem PN(lp:defaultsOf params X.env=([],[]))(lq:closureFor scope X.env=pure cl)(M:X.env.code=.ref c)(C:PySem.W.CodeHd X.base c P)(hB:X.base.BuiltinsAt X.mg P)(lx:yu≠P) :
  PE X (.Lambda params body scope pos) (J2 P pos ⟨X.env.qual ++ "<lambda>",params,body,scope⟩ cl):=by
 refine⟨?_⟩;intro pins s σ H Q I h;obtain⟨ps,O,ht,h⟩:=h;have C':PySem.W.CodeHd s.heap c P:=C.keeps I.bk;have hb:s.heap.BuiltinsAt X.mg P:=by
  obtain⟨bm,ob,a1,a2,a3,a4,a5,a6⟩:=hB;exact⟨bm,ob,a1,a2,a3,a4,I.bk _ _ a5,a6⟩
 have hg:s.heap.Ns yu X.mg:=I.mod.glob.keeps I.bk;have lr:s.heap.get? P=some (PySem.W.tabObj ps):=I.hok P _ O;refine PySem.W.kla_eval lp ?_;rcases h with⟨lv,h⟩|⟨c',hf,lR,h⟩
 ·refine PySem.W.kla_makeFunction lq I.ok.glob hg M C' lr ht lv lx hb fun c' ls h' tk hx Z ln hrec lh=>?_;have lc:H c'=none:=I.hok.fresh Z;have hsz:s.heap.objs.size<=h'.objs.size:=y1a (y1k Z ln);have J:H h'.objs.size=none:=I.hok.fresh hsz;have lm:c'≠h'.objs.size:=yj ln;have lP:P≠c':=Ag O lc;have ly:P≠h'.objs.size:=Ag O J;have q:=h c' h'.objs.size lc J lm;generalize hH:upd (upd (upd H P (.tbl (ps ++ #[rawInt pos.line,rawInt pos.col,.ref c']))) c' (Bq c' (X.env.qual ++ "<lambda>"))) h'.objs.size (CB ⟨X.env.qual ++ "<lambda>",params,body,scope⟩ cl h'.objs.size c')=H' at q;have lg:∀b,b≠P->b≠c'->b≠h'.objs.size->H' b=H b:=fun b h1 h2 h3=>by
   rw[<- hH,AB h3,AB h2,AB h1]
  have lu:H' P=some (.tbl (ps ++ #[rawInt pos.line,rawInt pos.col,.ref c'])):=by rw[<- hH,AB ly,AB lP,A6]
  have G:∀b u,H b=some u->b≠P->H' b=some u:=fun b u e n=>(lg b n (Ag e lc) (Ag e J)).trans e;have kp:∀b o,b≠P->s.heap.get? b=some o->(h'.push (PySem.W.kla_obj "<lambda>" (X.env.qual ++ "<lambda>") params body scope cl ((X.mg "__name__").getD .none) c' ls)).get? b=some o:=fun b o n e=>y6 _ (hx b o n e);have nP:∀b,H b=none->b≠P:=fun b e z=>by rw[z,O] at e; cases e
  refine⟨.ref h'.objs.size,H',I.un (t':=tk) ⟨fun b o e n _ _=>kp b o (nP b n) e,fun b o e n _ _=>⟨o.slots,kp b o (nP b n) e⟩,fun b o e n _=>?_,fun b o e _=>?_,fun b xs e=>G b _ e fun z=>(by rw[z,O] at e; cases e),fun b o u e=>G b _ e fun z=>(by rw[z,O] at e; cases e),fun b qs e=>?_⟩ fun b u e=>?_,rfl,q⟩
  ·have Y:=yd e;rw[lg b (nP b n) (yj (yw Y Z)) (yj (yw Y hsz))];exact n
  ·by_cases F:b=P
   ·exact⟨_,by rw[F]; exact y6 _ lh⟩
   ·exact⟨o,kp b o F e⟩
  ·by_cases F:b=P
   ·rw[F,O] at e;cases e;exact⟨_,by rw[F]; exact lu⟩
   ·exact⟨#[],by rw[G b _ e F]; simp⟩
  ·by_cases h3:b=h'.objs.size
   ·have B:=e;rw[<- hH,h3,A6] at B;cases B;rw[h3];exact⟨⟨_,_,yg _ rfl⟩,⟨_,yg _ rfl⟩,fun h1 h2 ⟨pm,ct,z⟩ k=>⟨pm,ct,k _ z⟩⟩
   ·by_cases h2:b=c'
    ·have B:=e;rw[<- hH,h2,AB lm,A6] at B;cases B;rw[h2];obtain⟨lQ,oc,vs,t,e2,lj,hd,hv⟩:=hrec;cases e2;exact⟨⟨_,oc,vs,t,rfl,y6 _ lj,hd,hv⟩,⟨oc,y6 _ lj⟩,fun h1 h2 ⟨c3,oc,vs,t,e3,z,zd,zv⟩ k=>by cases e3; exact⟨_,oc,vs,t,rfl,k _ z,zd,zv⟩⟩
    ·by_cases h1:b=P
     ·rw[h1,lu] at e;cases e;rw[h1];exact y6 _ lh
     ·rw[lg b h1 h2 h3] at e;refine(I.hok b u e).stay (fun d v hd B=>kp d v ?_ B) (fun d B=>G d _ B fun z=>(by rw[z,O] at B; cases B)) fun d xs B=>G d _ B fun z=>(by rw[z,O] at B; cases B);rcases hd with hd|hd
      ·rw[hd]; exact h1
      ·exact fun z=>by rw[z,O] at hd; cases hd
 ·refine PySem.W.kla_makeFunctionHit lq I.ok.glob hg M C' lr ht hf hb fun ls h' tk hk hsz=>?_;have J:H h'.objs.size=none:=I.hok.fresh hsz;refine⟨.ref h'.objs.size,upd H h'.objs.size _,I.laid (t':=tk) (fun b u e=>y6 _ (hk b u e)) hsz ?_,rfl,h _ J⟩;exact⟨⟨_,_,yg _ rfl⟩,⟨_,yg _ rfl⟩,fun h1 h2 ⟨pm,ct,z⟩ k=>⟨pm,ct,k _ z⟩⟩
def At(c:Addr)(o:Obj):HO:=.ext fun h=>h.get? c=some o
def BC(cs:List Addr)(H:Hp):Hp:=fun b=>if b∈cs then none else H b
def BW(cs:List Addr)(H H':Hp):Hp:=fun b=>if b∈cs then H b else H' b
theorem Hq(h:b∈cs):BC cs H b=none:=by unfold BC; rw[if_pos h]
theorem BP(h:b∉cs):BC cs H b=H b:=by unfold BC; rw[if_neg h]
theorem LV(h:b∈cs):BW cs H H' b=H b:=by unfold BW; rw[if_pos h]
theorem Dq(h:b∉cs):BW cs H H' b=H' b:=by unfold BW; rw[if_neg h]
theorem F3(h:H b=none):BC cs H b=none:=by
 by_cases hb:b∈cs
 ·exact Hq hb
 ·rw[BP hb]; exact h
theorem Wm(h:BC cs H b=some u):b∉cs/\H b=some u:=by
 by_cases hb:b∈cs
 ·rw[Hq hb] at h; cases h
 ·exact⟨hb,by rw[BP hb] at h; exact h⟩
def AreCells(cs:List Addr)(H:Hp):Prop:=∀c∈cs,∃o,H c=some (At c o)
theorem AreCells.not(h:AreCells cs H)(e:H b=some u)(n:∀o,u≠At b o):b∉cs:=fun hb=>by
 obtain⟨o,q⟩:=h b hb;rw[e] at q;cases q;exact n o rfl
theorem HOk.hid(x:HOk P w H h)(k:AreCells cs H):HOk P w (BC cs H) h:=fun a o e=>by
 obtain⟨_,B⟩:=Wm e;refine(x a o B).stay (fun _ _ _ q=>q) (fun b q=>?_) fun b xs q=>?_
 ·rw[BP (k.not q fun o=>by unfold At; intro z; cases z)]; exact q
 ·rw[BP (k.not q fun o=>by unfold At; intro z; cases z)]; exact q
theorem HOk.ret(x:HOk P w H h)(F:HOk P w H' h')(k:AreCells cs H)(G:∀c∈cs,H' c=none)(B:∀c∈cs,∀o,h.get? c=some o->h'.get? c=some o):HOk P w (BW cs H H') h':=fun a o e=>by
 have out:∀{b:Addr} {u:HO},H' b=some u->BW cs H H' b=some u:=fun {b u} e=>by rw[Dq fun hb=>by rw[G b hb] at e; cases e]; exact e
 by_cases ha:a∈cs
 ·rw[LV ha] at e;obtain⟨J,q⟩:=k a ha;rw[q] at e;cases e;obtain⟨z,_,st⟩:=x a _ q;exact⟨B a ha _ z,⟨_,B a ha _ z⟩,st⟩
 ·rw[Dq ha] at e;exact(F a o e).stay (fun _ _ _ q=>q) (fun b q=>out q) fun b xs q=>out q
theorem Un.ret(u:Un fs [] (BC cs H) H' h h')(k:AreCells cs H):Un fs [] H (BW cs H H') h h':=by
 have F:∀{b:Addr},H b=none->b∉cs:=fun {b} n hb=>by
  obtain⟨o,q⟩:=k b hb;rw[n] at q; cases q
 refine⟨fun b o e n hb hx=>u.keep b o e (F3 n) hb hx,fun b o e n hb hx=>u.slot b o e (F3 n) hb hx,fun b o e n hx=>?_,u.there,fun b xs e=>?_,fun b o v e=>?_,fun b ps e=>?_⟩
 ·rw[Dq (F n)];exact u.free b o e (F3 n) hx
 ·have B:=k.not e fun o=>by unfold At; intro z; cases z
  rw[Dq B];exact u.tups b xs (by rw[BP B]; exact e)
 ·have B:=k.not e fun o=>by unfold At; intro z; cases z
  rw[Dq B];exact u.frzs b o v (by rw[BP B]; exact e)
 ·have B:=k.not e fun o=>by unfold At; intro z; cases z
  rw[Dq B];exact u.tbls b ps (by rw[BP B]; exact e)
structure LamScope(ps fr:List Str)(cl:List (Str×Addr))(sc:Scope):Prop where
 kind:sc.kind=.function
 co:sc.isCoroutine=false
 gen:sc.isGenerator=false
 nd:(ps++fr).Nodup
 par:∀x∈ps,sc.names.lookup x=some .local
 free:∀x∈fr,sc.names.lookup x=some .free
 nocell:∀y∈sc.names,y.2≠.cell
 has:∀y∈sc.names,y.2=.free->∃c,cl.lookup y.1=some c
 inj:∀x y c,cl.lookup x=some c->cl.lookup y=some c->x=y
 look:∀x c,(x,c)∈cl->cl.lookup x=some c
def cxL(P:yl)(w:y07)(K:y3)(mg:Str->Option ya)(base:Heap)(N:List Str)(D:LamD)(cl:List (Str×Addr))(f c':Addr)(A:y0a)(outer:List PySem.Env)(s:y9)(H:Hp)(E:XK):Cx where
 prog:=P
 w:=w
 K:=K
 mg:=mg
 base:=base
 A:=A.deeper (PySem.W.envX D.qual D.scope s.heap.objs.size f (.ref c') cl)
 N:=N
 s₀:=s
 H₀:=BC (cl.map (·.2)) H
 env:=PySem.W.envX D.qual D.scope s.heap.objs.size f (.ref c') cl
 outer:=outer
 stack:=PySem.W.envX D.qual D.scope s.heap.objs.size f (.ref c') cl::outer
 ex:=[]
 calm:=true
 fn:=fun _=>false
 pn:=[]
 xe:=fun e s'=>yy (y03 P w) (A.deeper (PySem.W.envX D.qual D.scope s.heap.objs.size f (.ref c') cl)) (leaving (PySem.W.envX D.qual D.scope s.heap.objs.size f (.ref c') cl) e) (fun _ q=>CX0 outer H s E e q) (fun z q=>CX0 outer H s E z q) s'
theorem PP:∀{ps:List Str} {us:List ya} {i:Nat},ps.Nodup->ps[i]?=some x->us[i]?=some v->(ps.zip us).lookup x=some v
 |[],_,_,_,h,_=>by simp at h
 |_::_,[],_,_,_,h=>by simp at h
 |p::ps,u::us,0,B,h1,h2=>by
  simp at h1 h2; subst h1; subst h2;simp[y1i,List.lookup]
 |p::ps,u::us,i+1,B,h1,h2=>by
  have F:=List.nodup_cons.mp B;have q:ps[i]?=some x:=by simpa using h1
  have z:(x==p)=false:=by
   rw[beq_eq_false_iff_ne];rintro rfl;exact F.1 (yi q)
  rw[y1i,List.lookup,z];exact PP F.2 q (by simpa using h2)
theorem Wn{x:Str}{v:ya}{ps:List Str}{us:List ya}{i:Nat}(q:ps.Nodup)(z:ps.length=us.length)(h1:ps[i]?=some x)(h2:us[i]?=some v):(ps.zip us).reverse.lookup x=some v:=by
 have e:(ps.zip us).reverse=ps.reverse.zip us.reverse:=by
  apply List.ext_getElem?;intro j;simp[List.zip,List.reverse_zipWith z]
 have hi:i<ps.length:=(List.getElem?_eq_some_iff.mp h1).1;rw[e];refine PP (i:=ps.length-1-i) (by unfold List.Nodup; rw[List.pairwise_reverse]; exact q.imp y0y) ?_ ?_
 ·rw[List.getElem?_reverse (by lia)];rw[show ps.length-1-(ps.length-1-i)=i by lia];exact h1
 ·rw[List.getElem?_reverse (by lia)];rw[show us.length-1-(ps.length-1-i)=i by lia];exact h2
theorem Wo{P:yl}{w:y07}{K:y3}{mg:Str->Option ya}{base:Heap}{ps fr:List Str}{D:LamD}{cl:List (Str×Addr)}{f c':Addr}{A:y0a}{outer:List PySem.Env}{s:y9}{h1:Heap}{tk:Nat}{H:Hp}{E:XK}{us:List ya}{vs ws:List V}
  (S:LamScope ps fr cl D.scope) (hd:A.handled=none) (F:Env0 P w K mg base A outer s H) (hl:vs.length=ps.length) (r:Vals vs us) (lg:ws.length=fr.length)
  (G:∀c∈cl.map (·.2),∃o x,H c=some (At c o)/\o.data=.cell x)
  (hw:∀(i:Nat) (x:Str) (v:V),fr[i]?=some x->ws[i]?=some v->∃c o u,cl.lookup x=some c/\H c=some (At c o)/\o.data=.cell (some u)/\RelV v u)
  (lc:h1.Ns s.heap.objs.size fun x=>(ps.zip us).reverse.lookup x) (hk:∀b o,s.heap.get? b=some o->h1.get? b=some o) :
  Inv (cxL P w K mg base (ps++fr) D cl f c' A outer s H E) [] ((vs++ws).map some) (BC (cl.map (·.2)) H) {s with heap:=h1,toks:=tk}:=by
 have ac:AreCells (cl.map (·.2)) H:=fun c hc=>by
  obtain⟨o,_,q,_⟩:=G c hc;exact⟨o,q⟩
 have Z:∀{x:Str} {c:Addr},cl.lookup x=some c->c∈cl.map (·.2):=fun {x c} h=>List.mem_map.mpr ⟨(x,c),y0l h,rfl⟩;have J:∀b:Addr,b∉(cxL P w K mg base (ps++fr) D cl f c' A outer s H E).ex:=fun b z=>absurd (show b∈([]:List Addr) from z) (by simp);have Y:∀{c:Addr} {o:Obj},H c=some (At c o)->s.heap.get? c=some o:=fun q=>(F.hok _ _ q).1;refine⟨⟨F.mod,S.kind,rfl,rfl,yb _,fun y z c h1 h2=>S.inj y z c h1 h2,fun y hy=>?_,fun y c h=>Bool.noConfusion (show false=true from h),fun _=>hd,Around.frames_deeper F.frames,.inr ⟨rfl,rfl⟩,fun b z=>absurd z (J b),fun b o e=>⟨(F.bs b o e).1,F3 (F.bs b o e).2⟩,F.bsz,fun b _ _=>J b,fun b z=>absurd z (J b),F.funs,fun b hb=>F3 (F.frf b hb)⟩,
  rfl,F.bare,Un.kept hk,⟨_,lc,fun i y v h1 h2 h3=>?_⟩,fun y c h=>?_,F3 (F.hok.fresh (yb _)),fun y c h=>Hq (Z h),fun p hp=>absurd (show p∈([]:List (Addr×Obj)) from hp) (by simp),(F.hok.hid ac).kept hk,?_⟩
 ·have hy:D.scope.names.lookup y=some .cell\/D.scope.names.lookup y=some .free:=hy;rcases hy with hy|hy
  ·exact absurd rfl (S.nocell _ (y0l hy))
  ·exact S.has _ (y0l hy) rfl
 ·have B:(ps++fr)[i]?=some y:=h1;rw[ym] at h2;by_cases hi:i<ps.length
  ·rw[y31 hi] at B;rw[y31 (by lia)] at h2;cases O:vs[i]? with
   |none=>rw[O] at h2; cases h2
   |some a=>
    rw[O] at h2;cases h2;obtain⟨u,hu,rv⟩:=r.get O;exact⟨u,rv,.inl ⟨S.par y (yi B),Wn (List.nodup_append.mp S.nd).1 (by rw[<- hl,r.length]) B hu⟩⟩
  ·rw[y2s (by lia)] at B;rw[y2s (by lia),hl] at h2;cases O:ws[i-ps.length]? with
   |none=>rw[O] at h2; cases h2
   |some a=>
    rw[O] at h2;cases h2;obtain⟨c,o,u,hc,q,M,rv⟩:=hw _ _ _ B O;exact⟨u,rv,.inr ⟨.inr (S.free y (yi B)),c,hc,o,hk _ _ (Y q),M⟩⟩
 ·obtain⟨o,x,q,M⟩:=G c (Z h);exact⟨x,o,hk _ _ (Y q),M⟩
 ·show _=(ps++fr).length;rw[y4,yt,yt,hl,lg]
theorem PQ{P:yl}{w:y07}{K:y3}{mg:Str->Option ya}{base:Heap}{k:Nat}{ps fr:List Str}{D:LamD}{cl:List (Str×Addr)}{f c':Addr}{A:y0a}{outer:List PySem.Env}{s:y9}{H:Hp}{us:List ya}{vs ws:List V}{Q:VK}
  (S:LamScope ps fr cl D.scope) (hr:Room (k+1) A) (O:Env0 P w K mg base A outer s H) (hf:H f=some (CB D cl f c')) (hc:H c'=some (Bq c' D.qual)) (hl:vs.length=ps.length) (r:Vals vs us) (lh:ws.length=fr.length)
  (B:∀c∈cl.map (·.2),∃o x,H c=some (At c o)/\o.data=.cell x)
  (hw:∀(i:Nat) (x:Str) (v:V),fr[i]?=some x->ws[i]?=some v->∃c o u,cl.lookup x=some c/\H c=some (At c o)/\o.data=.cell (some u)/\RelV v u)
  (M:∀fd:y0v,fd.params=D.params->fd.defaults=.none->fd.kwdefaults=.none->fd.scope=D.scope->bindArgs fd ⟨us,[]⟩=pure (ps.zip us))
  (G:Room k (A.deeper (PySem.W.envX D.qual D.scope s.heap.objs.size f (.ref c') cl))->∃t,PE (cxL P w K mg base (ps++fr) D cl f c' A outer s H E0) D.body t/\t ((vs++ws).map some) (BC (cl.map (·.2)) H) fun v H'=>(∀c∈cl.map (·.2),H' c=none)->Q v (BW (cl.map (·.2)) H H')) :
  codeAny (y03 P w) A (.call (.ref f) ⟨us,[]⟩) (CR CX0 outer P w H s Q E0) s:=by
 obtain⟨⟨pm,ln,lj⟩,_⟩:=O.hok f _ hf;obtain⟨lm,_⟩:=O.hok c' _ hc;have ac:AreCells (cl.map (·.2)) H:=fun c hc=>by
  obtain⟨o,_,q,_⟩:=B c hc;exact⟨o,q⟩
 have lc:s.heap.NoLimit:=O.mod.nolimit.keeps fun b o e=>(O.bs b o e).1;refine PySem.W.kla_callFunE hr.depth lj rfl S.co S.gen rfl lm ?_;rw[M _ rfl rfl rfl rfl];refine ye (wpAny_newFunctionEnv S.nocell (fun y hy=>S.par _ (y3b hy).1) (fun h₁ lg Y=>⟨lc.fresh _ Y,?_⟩) S.kind);show codeAny _ _ (.expr D.body (PySem.W.envX D.qual D.scope s.heap.objs.size f (.ref c') cl)) _ _;have F:∀b o,s.heap.get? b=some o->h₁.get? b=some o:=fun b o e=>Y.extBut b o (yj (yd e)) (y6 _ e);obtain⟨t,ht,q⟩:=G (hr.deeper _);have I:=Wo (K:=K) (f:=f) (c':=c') (E:=E0) (tk:=s.toks+(ps.zip us).length) S hr.hd O hl r lh B hw lg F;refine PySem.W.kla_codeExpr (y18 (ht [] _ _ _ _ I q) (fun u s' hs=>?_) fun e s' hs=>hs);obtain⟨v,H',J,rv,Z⟩:=hs;have nC:∀c∈cl.map (·.2),H' c=none:=fun c hc=>by
  obtain⟨⟨x,c2⟩,hm,rfl⟩:=List.mem_map.mp hc;exact J.freeC x c2 (S.look x c2 hm)
 replace Z:=Z nC;refine⟨v,BW (cl.map (·.2)) H H',J.os,J.bare,Un.ret (cs:=cl.map fun x=>x.2) (H:=H) J.base ac,HOk.ret O.hok J.hok ac nC fun c hc o e=>?_,rv,Z⟩;refine J.base.keep c o e (Hq hc) (fun z=>?_) (by show c∉([]:List Addr); simp);obtain⟨o',q'⟩:=ac c hc;have:=O.frf c z;rw[q'] at this;cases this
def GP(P:yl)(w:y07)(K:y3)(mg:Str->Option ya)(base:Heap)(k:Nat)(f:Addr)(H:Hp)(vs:List V)(Q:VK):Prop:=
 ∀(A:y0a) (outer:List PySem.Env) (s:y9) (us:List ya),Room k A->Env0 P w K mg base A outer s H->Vals vs us->codeAny (y03 P w) A (.call (.ref f) ⟨us,[]⟩) (CR CX0 outer P w H s Q E0) s
def IsLam(H:Hp)(f:Addr):Prop:=∃D cl c',H f=some (CB D cl f c')
end
theorem IsLam.at(h:IsLam H f)(I:Inv X pins σ H s):PySem.W.FnAt f s.heap:=by
 obtain⟨D,cl,c',e⟩:=h;obtain⟨⟨B,z,q⟩,_⟩:=I.hok f _ e;exact⟨_,_,_,_,q⟩
def PR(R:Addr->Hp->List V->VK->Prop)(i:Nat)(t:TA):TE:=fun σ H Q=>∃f,σ[i]?=some (some (.ref f))/\IsLam H f/\t σ H fun vs H1=>IsLam H1 f/\R f H1 vs Q
theorem J3(hN:X.N[i]?=some x)(hv:Vis X.env.scope x)(hr:Room j X.A)(hk:k<=j)(ha:PA X (e::es) t)
  (hd:(x==("__debug__" : Str))=false:=by decide) (M:(x==("__classdict__" : Str))=false:=by decide) (B:BB (e::es)=true:=by rfl) :
  PE X (.Call (.Name x p) (e::es) [] pos) (PR (GP X.prog X.w X.K X.mg X.base k) i t):=by
 have z:=B;rw[BB,yk,y0e] at z;have he:=CN (es:=es) (env:=X.env) z.1;have F:=D0 (pos:=pos) (env:=X.env) z.2;refine⟨?_⟩;intro pins s σ H Q I h;obtain⟨f,ei,hl,h⟩:=h;refine y1m (thn (AQ (pos:=p) hN hv hd M pins s σ H (fun Y H'=>Y=.ref f/\IsLam H' f/\t σ H' fun vs H1=>IsLam H1 f/\GP X.prog X.w X.K X.mg X.base k f H1 vs Q) I (isV.i ei ⟨rfl,hl,h⟩)) fun u s0 ⟨Y,H',Z,r',ex,J,h'⟩=>?_);subst ex;cases r';refine PySem.W.callWith_F (first:=[]) (J.at Z) (thn (ha pos pins s0 σ H' _ Z h') fun us s1 ⟨vs,H1,O,r,G,q⟩=>⟨G.at O,?_⟩) he F;refine wpAny_call (y1w (q X.A X.stack s1 us (hr.mono hk) O.env0 r) fun r s' hq=>?_);cases r with
 |error e=>exact False.elim hq
 |ok fl=>
  cases fl with
  |ret u=>exact O.after hq
  |next=>exact False.elim hq
  |brk=>exact False.elim hq
  |cont=>exact False.elim hq
def LW(sp:Sp)(c:Addr)(i:Nat)(t:TA):TE:=fun σ H Q=>t σ H fun vs H1=>∃v,σ[i]?=some (some v)/\∀o u,o.data=.cell (some u)->RelV v u->H1 c=none->sp vs (upd H1 c (At c o)) (fun y H2=>H2 c=some (At c o)/\Q y (BC [c] H2)) E0
theorem Wp(C:Callee X.prog X.w X.K X.mg X.base x ps k sp)(hr:Room j X.A)(hk:k<=j)(ha:PA X (e::es) t)
  (hN:X.N[i]?=some y) (hc:X.env.cells.lookup y=some c) (hy:X.env.kindOf y=some .cell) (lh:X.fn y=true) (hg:Gl X x:=by rfl)
  (lx:(x==("__debug__" : Str))=false:=by decide) (lq:BB (e::es)=true:=by rfl) :
  PE X (.Call (.Name x p) (e::es) [] pos) (LW sp c i t):=by
 have O:=lq;rw[BB,yk,y0e] at O;have he:=CN (es:=es) (env:=X.env) O.1;have lr:=D0 (pos:=pos) (env:=X.env) O.2;obtain⟨f,fd,F,hm,lv,hb⟩:=C;refine⟨?_⟩;intro pins s σ H Q I h;refine y1m (IY I hg hm ?_ lx);refine y2p (h₀:=X.base) I.ok.mod.kin lv (thn (ha pos pins s σ H _ I h) fun us s1 ⟨vs,H1,M,r,v,ei,q⟩=>⟨M.kIn,?_⟩) he lr;obtain⟨m,hn,hl⟩:=id M.loc;obtain⟨u,ru,l⟩:=hl i y v hN ei (.inr (.inl hy));have lc:s1.heap.IsCell c (some u):=by
  rcases l with⟨lg,_⟩|⟨_,c2,e2,z⟩
  ·rw[hy] at lg; cases lg
  ·rw[hc] at e2; cases e2; exact z
 obtain⟨o,ho,hd⟩:=lc;have J:H1 c=none:=M.freeC y c hc;have q':=q o u hd ru J;have hH:HOk X.prog X.w (upd H1 c (At c o)) s1.heap:=fun b w e=>by
  by_cases hb:b=c
  ·subst hb;rw[A6] at e;cases e;exact⟨ho,⟨o,ho⟩,fun h1 h2 z k=>k _ z⟩
  ·rw[AB hb] at e;exact(M.hok b w e).stay (fun _ _ _ q=>q) (fun d z=>by rw[AB (Ag z J)]; exact z) fun d xs z=>by rw[AB (Ag z J)]; exact z
 have ln:c∉frs X.stack:=fun z=>by
  rcases List.mem_cons.mp (M.stkSub c z) with z|z
  ·exact M.cne y c hc z
  ·obtain⟨_,G,ls,_⟩:=M.ok.funs.mem z;exact absurd (yw (yd ls) (M.ok.cab y c lh hc)) (y0t _)
 have e0:Env0 X.prog X.w X.K X.mg X.base X.A X.stack s1 (upd H1 c (At c o)):=by
  have z:=M.env0;refine⟨z.frames,z.mod,fun b G e=>⟨(z.bs b G e).1,?_⟩,z.bsz,z.funs,fun b hb=>?_,hH,z.bare⟩
  ·rw[AB fun w=>?_]
   ·exact(z.bs b G e).2
   ·subst w;have:=yd (M.ok.bs b G e).1;exact absurd (yw this (M.ok.cab y b lh hc)) (y0t _)
  ·rw[AB fun w=>ln (by rw[<- w]; exact hb)];exact z.frf b hb
 have lu:us.length=ps.length:=by rw[<- r.length]; exact F.len _ _ _ _ q'
 have lm:=hb s1 us M.kIn (by rw[y0n]; exact lu);rw[y0n] at lm;refine wpAny_call (y1w (F.run X.A X.stack s1 _ ⟨us,[]⟩ us vs _ E0 (hr.mono hk) e0 lm r q') fun r s' hq=>?_);cases r with
 |error e=>exact False.elim hq
 |ok fl=>
  cases fl with
  |next=>exact False.elim hq
  |brk=>exact False.elim hq
  |cont=>exact False.elim hq
  |ret u2=>
   obtain⟨v2,H2,os,bare,Z,hok,rv,lj,q2⟩:=hq;have ac:AreCells [c] H2:=fun b hb=>by
    rw[y0k] at hb;subst hb;exact⟨o,lj⟩
   obtain⟨hh,g,d,tk,lp⟩:=s';obtain rfl:lp=s1.os:=os;have ly:hh.get? c=some o:=(hok c _ lj).1;refine⟨v2,BC [c] H2,M.call (h':=hh) (g':=g) (d':=d) (t':=tk) (ch:=[]) ⟨fun b G e n hb hx=>?_,fun b G e n hb hx=>?_,fun b G e n hx=>?_,fun b G e hx=>Z.there b G e hx,fun b xs e=>?_,fun b G w e=>?_,fun b qs e=>?_⟩ (hok.hid ac) bare (fun b z=>absurd z (by simp)),rv,q2⟩
   ·by_cases B:b=c
    ·subst B; rw[ho] at e; cases e; exact ly
    ·exact Z.keep b G e (by rw[AB B]; exact n) hb hx
   ·by_cases B:b=c
    ·subst B; exact absurd hb ln
    ·exact Z.slot b G e (by rw[AB B]; exact n) hb hx
   ·by_cases B:b=c
    ·subst B; exact Hq (List.mem_singleton.mpr rfl)
    ·exact F3 (Z.free b G e (by rw[AB B]; exact n) hx)
   ·have Y:b≠c:=Ag e J;rw[BP (by simpa using Y)];exact Z.tups b xs (by rw[AB Y]; exact e)
   ·have Y:b≠c:=Ag e J;rw[BP (by simpa using Y)];exact Z.frzs b G w (by rw[AB Y]; exact e)
   ·have Y:b≠c:=Ag e J;rw[BP (by simpa using Y)];exact Z.tbls b qs (by rw[AB Y]; exact e)
def Hr(mg:Str->Option ya)(base:Heap)(tabs:List (Addr×Addr)):Prop:=∀q∈tabs,PySem.W.CodeHd base q.1 q.2/\base.BuiltinsAt mg q.2/\yu≠q.2
theorem Wq{P:yl}{w:y07}{K:y3}{mg mb:Str->Option ya}{k:Nat}{fa a:Addr}{fd:y0v}{x:Str}{sp:Sp}{B:y9}{vs:List ya}{ns:List Int}{tabs:List (Addr×Addr)}
  (KX:K.In B.heap) (lm:B.heap.Ns yu mg) (hb:B.heap.Ns builtinsNs mb) (lU:∀x:Str,x≠"__name__"->mb x=bootBuiltins x) (lx:B.heap.NoLimit) (hg:B.gens = #[])
  (ha:B.heap.get? a=some {cls:=.type "list",data:=.seq vs.toArray}) (hi:IntsAre vs ns) (hl:ns.length<=yn) (hr:Room k callerA)
  (Y:PySem.W.TabsAt tabs B.heap) (hB:∀q∈tabs,B.heap.BuiltinsAt mg q.2) (hK:PySem.W.noTabs K=true)
  (F:∀base:Heap,K.In base->base.Ns yu mg->Hr mg base tabs->FnOk P w K mg base CX0 k fa fd [x] sp) (ln:∀(s:y9) (u:ya),BindsTo s fd ⟨[u],[]⟩ [(x,u)])
  (lT:∀H:Hp,(∀q∈tabs,H q.2=some (.tbl #[]))->SqL K H a (ns.map V.int)->sp [.ref a] H (fun v _=>v=.bl true) fun _ _ _=>False) :
  codeAny (y03 P w) callerA (.call (.ref fa) ⟨[.ref a],[]⟩) (fun r s'=>r=.ok (.ret (.bool true))/\OldK B.heap s'.heap/\s'.os=B.os/\AllBare s'.gens) B:=by
 have rv:=OS hi;have lu:=hi.length;have ls:∀q∈tabs,K.lookup q.2=none:=fun q hq=>by
  cases e:K.lookup q.2 with
  |none=>rfl
  |some o=>
   have h1:=KX _ _ e;rw[(Y q hq).2] at h1;cases h1;have h2:=List.all_eq_true.mp hK (q.2,_) (PySem.W.mem_of_lookupK e);exact absurd (show false=true from h2) yo
 have aT:a∉tabs.map (·.2):=fun z=>by
  obtain⟨q,hq,e⟩:=List.mem_map.mp z;have h1:=(Y q hq).2;rw[e,ha] at h1;cases h1
 have lh:∀H:Hp,(∀b,H b=none\/(∃o xs,b=a/\H b=some (.frz o (.lst xs)))\/(b∈tabs.map (·.2)/\H b=some (.tbl #[])))->(∀q∈tabs,H q.2=some (.tbl #[]))->SqL K H a (ns.map V.int)->HOk P w H B.heap->(H a≠none->K.lookup a=none)->
   codeAny (y03 P w) callerA (.call (.ref fa) ⟨[.ref a],[]⟩) (fun r s'=>r=.ok (.ret (.bool true))/\OldK B.heap s'.heap/\s'.os=B.os/\AllBare s'.gens) B:=by
  intro H hO lV hS lv lX
  have base_of:∀{b:Addr} {o:Obj},B.heap.get? b=some o->H b=none->(Cb B.heap H).get? b=some o:=fun e n=>UD e n
  have J:∀{b:Addr},b∈tabs.map (·.2)->B.heap.get? b=some (PySem.W.tabObj #[]):=fun {b} hb=>by
   obtain⟨q,hq,rfl⟩:=List.mem_map.mp hb
   exact(Y q hq).2
  have lj:∀{b:Addr} {o:Obj},B.heap.get? b=some o->b≠a->b∉tabs.map (·.2)->H b=none:=fun {b o} e n1 n2=>by
   rcases hO b with z|⟨_,_,z,_⟩|⟨z,_⟩
   ·exact z
   ·exact absurd z n1
   ·exact absurd z n2
  have O:∀{b:Addr} {m:Str->Option ya},B.heap.Ns b m->(Cb B.heap H).Ns b m:=fun {b m} ⟨o,es,ep,e,d,r⟩=>by
   refine⟨o,es,ep,base_of e (lj e (fun z=>?_) fun z=>?_),d,r⟩
   ·rw[z,ha] at e; cases e; cases d
   ·rw[J z] at e; cases e; cases d
  have ly:K.In (Cb B.heap H):=fun b o e=>base_of (KX b o e) (by
   rcases hO b with z|⟨_,_,z,z2⟩|⟨z,_⟩
   ·exact z
   ·have:=lX (by rw[<- z,z2]; simp)
    rw[z,this] at e
    cases e
   ·obtain⟨q,hq,rfl⟩:=List.mem_map.mp z
    rw[ls q hq] at e
    cases e)
  have hM:Mod K mg (Cb B.heap H):=⟨ly,O lm,⟨mb,O hb,lU⟩,let ⟨mc,h1,h2⟩:=lx; ⟨mc,O h1,h2⟩⟩
  have lW:Hr mg (Cb B.heap H) tabs:=fun q hq=>by
   obtain⟨o,lR,lP,tf,lp,tg,lS,lr,tt,Z,r1,r2,r⟩:=(Y q hq).1
   obtain⟨bm,ob,b1,b2,b3,b4,b5,b6,b7,b8⟩:=hB q hq
   refine⟨⟨o,lR,lP,tf,lp,tg,lS,lr,tt,base_of Z (lj Z (fun z=>?_) fun z=>?_),r1,r2,r⟩,⟨bm,ob,b1,b2,b3,b4,base_of b5 (lj b5 (fun z=>?_) fun z=>?_),b6,b7,b8⟩,fun z=>?_⟩
   ·rw[z,ha] at Z; cases Z; exact absurd (show Value.type "list" = Value.type "code" from r1) (by simp)
   ·rw[J z] at Z; cases Z; cases r1
   ·rw[z,ha] at b5; cases b5; exact absurd (show Value.type "list" = Value.type "module" from b6) (by simp)
   ·rw[J z] at b5; cases b5; cases b6
   ·obtain⟨o',es,ep,e',d,_⟩:=lm
    rw[z,(Y q hq).2] at e'
    cases e'
    cases d
  have e0:Env0 P w K mg (Cb B.heap H) callerA [] B H:=⟨rfl,hM,fun b o e=>UE e,Nat.le_of_eq (UC _ _),trivial,fun b hb=>absurd (show b∈([]:List Addr) from hb) (by simp),lv,.of_eq hg⟩
  refine y1w ((F _ ly (O lm) lW).run callerA [] B H ⟨[.ref a],[]⟩ [.ref a] [.ref a] _ _ hr e0 (ln B (.ref a)) (.cons rfl .nil) (lT H lV hS)) fun r s' h=>?_
  cases r with
  |error e=>exact False.elim h
  |ok fl=>
   cases fl with
   |next=>exact False.elim h
   |brk=>exact False.elim h
   |cont=>exact False.elim h
   |ret u=>
    obtain⟨v,H',os,lQ,un,lg,r',q⟩:=h
    have q':v=.bl true:=q
    subst q'
    obtain rfl:u=Value.bool true:=r'
    refine⟨rfl,⟨fun b o e=>?_,fun b o e=>un.there b o e (by simp)⟩,os,lQ⟩
    rcases hO b with z|⟨ob,xs,_,z⟩|⟨hb,z⟩
    ·exact .inl (un.keep b o e z (by intro z; exact absurd (show b∈([]:List Addr) from z) (by simp)) (by simp))
    ·have z2:=un.frzs b ob _ z
     obtain⟨Z,_⟩:=lv b _ z
     obtain⟨e2,_⟩:=lg b _ z2
     rw[e] at Z; cases Z
     exact .inl e2
    ·obtain⟨lc,z2⟩:=un.tbls b _ z
     have e2:s'.heap.get? b=some {cls:=.none,data:=.fields (#[]++lc)}:=lg b _ z2
     rw[J hb] at e
     cases e
     obtain⟨q,hq,rfl⟩:=List.mem_map.mp hb
     exact .inr (.inl ⟨((Y q hq).1.tab (Y q hq).2).isCodeTable,rfl,#[],lc,rfl,e2⟩)
 have lq:∀q∈tabs,q.2∈tabs.map (·.2):=fun q hq=>List.mem_map.mpr ⟨q,hq,rfl⟩;cases hk:K.lookup a with
 |some o=>
  have e:=KX a o hk;rw[ha] at e;cases e;refine lh (fun b=>if b∈tabs.map (·.2) then some (.tbl #[]) else none) (fun b=>?_) (fun q hq=>if_pos (lq q hq)) (.inr ⟨_,vs.toArray,_,hk,rfl,rfl,rfl,by rw[y01,lu]; exact hl,by simpa using rv⟩) (fun b u z=>?_) fun z=>absurd (if_neg aT) z
  ·by_cases hb:b∈tabs.map (·.2)
   ·exact .inr (.inr ⟨hb,if_pos hb⟩)
   ·exact .inl (if_neg hb)
  ·by_cases hb:b∈tabs.map (·.2)
   ·have M:=(if_pos hb).symm.trans z;cases M;obtain⟨q,hq,rfl⟩:=List.mem_map.mp hb;exact(Y q hq).2
   ·have M:=(if_neg hb).symm.trans z;cases M
 |none=>
  refine lh (fun b=>if b∈tabs.map (·.2) then some (.tbl #[]) else if b=a then some (.frz {cls:=.type "list",data:=.seq vs.toArray} (.lst (ns.map V.int))) else none) (fun b=>?_) (fun q hq=>if_pos (lq q hq)) (.inl (.inr ⟨{cls:=.type "list",data:=.seq vs.toArray},(if_neg aT).trans (if_pos rfl)⟩)) (fun b u z=>?_) fun _=>hk
  ·by_cases hb:b∈tabs.map (·.2)
   ·exact .inr (.inr ⟨hb,if_pos hb⟩)
   ·by_cases G:b=a
    ·exact .inr (.inl ⟨_,_,G,(if_neg hb).trans (if_pos G)⟩)
    ·exact .inl ((if_neg hb).trans (if_neg G))
  ·by_cases hb:b∈tabs.map (·.2)
   ·have M:=(if_pos hb).symm.trans z;cases M;obtain⟨q,hq,rfl⟩:=List.mem_map.mp hb;exact(Y q hq).2
   ·have z1:=(if_neg hb).symm.trans z;by_cases G:b=a
    ·have M:=(if_pos G).symm.trans z1;cases M;subst G;exact⟨ha,by rw[y4]; exact hl,vs,_,rv,ha⟩
    ·have M:=(if_neg G).symm.trans z1;cases M
theorem Wr{l:PySem.W.OpenLaw}{n k:Nat}{q:yl}{J:List Str}{XP:(Str->Option ya)->Heap->Prop}{YP:y07->Heap->Prop}{d:DefRec}{K:Params->y3}{sp:y07->Sp}{x:Str}{tabs:List (Str×Addr×Addr)}
  (hn:l.most=some n) (lh:n<=yn) (lm:d.params.defaults=[]) (hr:Room k callerA)
  (hY:∀(w:y07) (h:Heap),YP w h->(K w.params).In h)
  (hK:∀w:y07,PySem.W.noTabs (K w.params)=true) (hrec:∀t∈tabs,∃e,(recsOf q).find? (fun e=>e.name==t.1)=some e) (htab:∀(w:y07),∀t∈tabs,PySem.W.tabIn (K w.params) t.1=some (t.2.1,t.2.2))
  (F:∀(w:y07) (mg:Str->Option ya) (fa:Addr) (h:Heap),(K w.params).In h->h.Ns yu mg->mg d.name=some (.ref fa)->
   ∃fd:y0v,(∀(s:y9) (u:ya),BindsTo s fd ⟨[u],[]⟩ [(x,u)])/\
    ∀base:Heap,(K w.params).In base->base.Ns yu mg->Hr mg base (tabs.map (·.2))->FnOk l.prog w (K w.params) mg base CX0 k fa fd [x] (sp w))
  (lg:∀(w:y07) (H:Hp) (a:Addr) (ns:List Int),ns.length<=n->(∀q∈tabs.map (·.2),H q.2=some (.tbl #[]))->SqL (K w.params) H a (ns.map V.int)->sp w [.ref a] H (fun v _=>v=.bl true) fun _ _ _=>False) :
  PySem.W.WalkO q J XP YP l.row.toRowW d [] (fun f vs=>PySem.call f vs):=by
 refine Att.VS hn lm fun w s₀ O mg mb fa o pm cd lq a vs ns G Y ho hd lp lj lc M B hg=>?_;have KX:=hY w _ Y;obtain⟨fd,hb,hF⟩:=F w mg fa _ KX G.T.g lj;have hT:PySem.W.TabsAt (tabs.map (·.2)) O.heap:=fun t ht=>by
  obtain⟨t',Z,rfl⟩:=List.mem_map.mp ht;obtain⟨e,he⟩:=hrec t' Z;exact PySem.W.tab_of G.T KX he (htab w t' Z)
 refine Wq KX G.T.g G.T.b G.T.builtins G.T.nolimit hg lc M (y0d B lh) hr hT (fun t ht=>?_) (hK w) hF hb fun H hO hS=>lg w H a ns B hO hS;obtain⟨bm,ob,b1,b2,b3,b4,b5,b6⟩:=G.T.bmain;refine⟨bm,ob,b1,b2,fun z=>?_,fun z=>?_,b3,b4,b5,b6⟩
 ·obtain⟨o',es,ep,e',ln,_⟩:=G.T.g;rw[z,e'] at b3;cases b3;rw[ln] at b6;cases b6
 ·rw[z,(hT t ht).2] at b3;cases b3;cases b4
theorem Ws{K:y3}{a b:Addr}{xs ys:List V}{g:TG}{tb:TS}{D:Ends}{σ:St}{H:Hp}(Z:xs.length=ys.length)(z:Nat->St->Hp->Prop)(h0:z 0 σ H)(hl:∀i σ H,i<=xs.length->z i σ H->SqT K H a xs/\SqT K H b ys)
  (hs:∀i x y σ H T,xs[i]?=some x->ys[i]?=some y->z i σ H->H T=none->g (.ref T) σ (upd H T (.tup [x,y])) fun B H2=>tb {D with nx:=z (i+1),ct:=z (i+1),bk:=D.nx} B H2) (hd:∀ σ H,z xs.length σ H->D.nx σ H) :
  ∃W:Nat->Nat->St->Hp->Prop,(∃m,W 0 m σ H)/\∀i m σ H,W i m σ H->
   ((D5 K a b).stop i H/\D.nx σ H)\/((D5 K a b).go i H/\∃N:St->Hp->Prop,(∀ F H',N F H'->∃J,J<m/\W (i+1) J F H')/\∀x H',(D5 K a b).yld i H x H'->g x σ H' fun B H2=>tb {D with nx:=N,ct:=N,bk:=D.nx} B H2):=by
 refine⟨fun i m σ H=>m=xs.length-i/\i<=xs.length/\z i σ H,⟨xs.length,by simp,y05 _,h0⟩,?_⟩
 rintro i m σ H ⟨rfl,hi,p⟩
 have q:=hl i σ H hi p
 by_cases G:i<xs.length
 ·refine .inr ⟨⟨xs,ys,xs[i],ys[i]'(by lia),q.1,q.2,by simp[G],by simp⟩,z (i+1),fun F H' Y=>⟨xs.length-(i+1),by lia,rfl,G,Y⟩,fun x H' y=>?_⟩
  obtain⟨T,u,v,rfl,hT,rfl,O,M⟩:=y
  exact hs i u v σ H T (O xs q.1) (M ys q.2) p hT
 ·have e:i=xs.length:=by lia
  subst e
  exact .inl ⟨⟨xs,ys,q.1,q.2,.inl (yb _)⟩,hd σ H p⟩
end L2
namespace L2
open PySem PySem.Spec PyProof.Rows PySem.W
section
variable{prog:yl}{w:y07}{A:y0a}{E:ya->y9->Prop}{s:y9}{a:Addr}
theorem Wt{Q:List ya->y9->Prop}(e:s.heap.get? a=some o) (c:o.cls=.type "tuple") (d:o.data=.seq its k) (hi:its.toList=[u,v]) (q:Q [u,v] s):yy (y03 prog w) A (Builtin.Dict.pairItems (.ref a)) Q E s:=by
 unfold Builtin.Dict.pairItems;refine y8 (y2o (T:="tuple") ⟨_,e,c⟩ ?_);rw[if_pos (by decide)];refine y8 (wpAny_seqItems e d (ye ?_));show Q its.toList s;rw[hi];exact q
def GQ(ks:Nat->Key)(va:Nat->ya):Nat->List (Key×ya)
 |0=>[]
 |n+1=>stored (GQ ks va n) (ks n) (va n)
theorem LX(ks:Nat->Key)(va:Nat->ya):∀n,(GQ ks va n).length<=n
 |0=>yb _
 |n+1=>y0d (stored_length_le _ _ _) (Nat.succ_le_succ (LX ks va n))
theorem LY{h h':Heap}{D:Addr}{xs:List (Key×ya)}(x:h.DictOf (AU prog w) D xs)(q:∀o,h.get? D=some o->h'.get? D=some o):h'.DictOf (AU prog w) D xs:=
 let ⟨o,es,ep,ho,r⟩:=x; ⟨o,es,ep,q o ho,r⟩
theorem Wu{R:Result->y9->Prop}{I D:Addr}{fp J:List Addr}{G:Array GenState->Array GenState->Prop}{n:Nat}{P:Nat->ya->Prop}{St:Nat->y9->Prop}{rw_:Nat->Addr}{kv va:Nat->ya}{ks:Nat->Key}(W:WalksS prog w A.in1 I fp J G n P St)(lc:D∉fp)
  (O:∀i v,P i v->v=.ref (rw_ i)) (lj:∀i,i<n->(AU prog w).is (ks i) (kv i)=true) (hn:n<=100000) (Y:∀i,i<n->rw_ i∉D::J) :
  ∀(m i:Nat) (s:y9),i+m=n->St i s->s.heap.DictOf (AU prog w) D (GQ ks va i)->
   (∀j,j<n->(∃o B k,s.heap.get? (rw_ j)=some o/\o.cls=.type "tuple"/\o.data=.seq B k/\B.toList=[kv j,va j]))->
   (∀s',Moved (D::J) G s s'->s'.heap.DictOf (AU prog w) D (GQ ks va n)->R (.ok (.ret .none)) s')->
   codeAny (y03 prog w) A (.builtin "dict.update.loop" ⟨[.ref D,.ref I,rawInt i,.none],[]⟩) R s:=by
 have hw:D∉J:=fun z=>lc (W.sub _ z)
 have hm:∀b∈J,b∈D::J:=fun b z=>.tail _ z
 intro m
 induction m with
 |zero=>
  intro i s e st x hk q
  obtain rfl:i=n:=e
  refine y1t Iz ?_
  rw[y12 Dp]
  refine y8 (W.done s _ _ st fun s' M=>?_)
  show yy _ _ (Builtin.Dict.addKeywords D [] >>= _) _ _ _
  exact y8 (ye (ye (q s' (M.mono hm) (LY x (fun o z=>M.heap D o hw z)))))
 |succ m ih=>
  intro i s e st x hk q
  refine y1t Iz ?_
  rw[y12 Dp]
  refine y8 (W.item i s _ _ (by lia) st fun v s1 hP lg M=>?_)
  obtain rfl:=O i v hP
  have hi:i<n:=by lia
  have Z:∀j,j<n->(∃o B k,s1.heap.get? (rw_ j)=some o/\o.cls=.type "tuple"/\o.data=.seq B k/\B.toList=[kv j,va j]):=fun j hj=>by
   obtain⟨o,B,k,e1,r⟩:=hk j hj;exact⟨o,B,k,M.heap _ o (fun z=>(Y j hj) (hm _ z)) e1,r⟩
  have x1:s1.heap.DictOf (AU prog w) D (GQ ks va i):=LY x (fun o z=>M.heap D o hw z);obtain⟨o,B,k,e1,e2,e3,e4⟩:=Z i hi;refine y8 (y16 (y8 (wpAny_tryCatch (Wt e1 e2 e3 e4 (y16 (wpAny_dictSet_pairs (lj i hi) x1 (fun h' x' sb=>?_) ?_))))))
  ·have lm:∀j,j<n->(∃o B k,h'.get? (rw_ j)=some o/\o.cls=.type "tuple"/\o.data=.seq B k/\B.toList=[kv j,va j]):=fun j hj=>by
    obtain⟨o,B,k,e1,r⟩:=Z j hj;exact⟨o,B,k,(sb.2 _ fun z=>(Y j hj) (by rw[z]; exact y00)).trans e1,r⟩
   refine ye ⟨y2v Dp _,ih (i+1) _ (by lia) (W.frame _ s1 _ _ lg (y0p _ _) fun b F o z=>?_) x' lm fun s2 lh x2=>q s2 (Moved.trans W.gtrans ((M.mono hm).then_heap (y0p _ _) fun b o F z=>?_) lh) x2⟩
   ·rw[sb.2 b fun z:b=D=>lc (z ▸ F)]; exact z
   ·rw[sb.2 b fun z:b=D=>F (z ▸ y00)]; exact z
  ·exact y0d (LX ks va i) (J0 (by lia))
end
section
variable{X:Cx}{pins:List (Addr×Obj)}{σ:St}{H:Hp}{s:y9}
structure Pkw where
 r:Addr
 k:ya
 u:ya
instance:Inhabited Pkw:=⟨⟨0,.none,.none⟩⟩
def LZ(H:Hp)(h:Heap)(l:Str×Int)(q:Pkw):Prop:=RelV (.str l.1) q.k/\RelV (.int l.2) q.u/\(∃o z k,h.get? q.r=some o/\o.cls=.type "tuple"/\o.data=.seq z k/\z.toList=[q.k,q.u])
theorem PU(I:Inv X pins σ H s):∀{l:List (Str×Int)} {vs:List V} {us:List ya},DtA H vs (l.map Iy)->Vals vs us->∃F:List Pkw,us=F.map (fun q=>Value.ref q.r)/\Paired (LZ H s.heap) l F
 |[],_,_,.nil,.nil=>⟨[],rfl,.nil⟩
 |r::l,_,_,.cons d t,.cons G rt=>by
  obtain⟨F,e,M⟩:=PU I t rt;cases d with
  |tup Z B=>
   cases G;obtain⟨O,z,⟨o,Y,hc,n,hd⟩,_⟩:=I.tuple (SqT.of Z);cases B with
   |cons d1 B=>
    cases B with
    |cons d2 B=>
     cases B;cases d1;cases d2;cases z with
     |cons J z=>
      cases z with
      |cons q2 z=>
       cases z;exact⟨⟨_,_,_⟩::F,by rw[e]; rfl,.cons ⟨J,q2,o,_,n,Y,hc,hd,rfl⟩ M⟩
theorem Wv(F:Paired (LZ H h) l qs):∀n,n<=l.length->KV ((l.take n).foldl (fun k r=>AM k (Sum.inr r.1) (V.int r.2)) ([]:List (Key×V))) (GQ (fun j=>Sum.inr (l.getD j ("",0)).1) (fun j=>(qs.getD j default).u) n):=by
 obtain⟨z,q⟩:=DA F;intro n;induction n with
 |zero=>intro _; exact .nil
 |succ n G=>
  intro J;have B:l[n]?=some (l.getD n ("",0)):=by rw[yq,yf (by lia)]; rfl
  have hq:qs[n]?=some (qs.getD n default):=by rw[yq,yf (by lia)]; rfl
  have e:l.take (n+1)=l.take n++[l.getD n ("",0)]:=by rw[List.take_succ,B]; rfl
  rw[e,y1n];exact(G (by lia)).put _ (q n _ _ B hq).2.1
end
def Ww(h:Heap)(l:List PySem.Env)(x T:Addr)(C:ya):Prop:=(∃B:Heap,h.FunFrames B l)/\x∉frs l/\T∉frs l/\T≠x/\∃(q:Obj) (vs:Array ya) (F:Obj) (z:Array ya) (G:ya),h.get? x=some q/\q.cls=C/\vs[0]?=some G/\q.data=.fields vs/\vs[1]?=some (.ref T)/\h.get? T=some F/\F.data=.fields z/\z[3]?=some .none
section
variable{P:yl}{w:y07}{h h':Heap}{l:List PySem.Env}{x T:Addr}{H:Hp}
end
def CX1(P:yl)(w:y07):CXT:=fun outer H s E e s'=>∃(x T C:Addr) (H':Hp),e=.ref x/\s'.os=s.os/\AllBare s'.gens/\Un (frs outer) [] H H' s.heap s'.heap/\HOk P w H' s'.heap/\Ww s'.heap outer x T (.ref C)/\s.heap.get? x=none/\s.heap.get? T=none/\H' x=none/\H' T=none/\E (.ref C) none H'
section
variable{P:yl}{w:y07}{K:y3}{mg:Str->Option ya}{base:Heap}{N:List Str}{qual:Str}{scope:Scope}{f:Addr}{cd:ya}{A:y0a}{outer:List PySem.Env}{s₀:y9}{H₀:Hp}{E:XK}
end
section
variable{P:yl}{w:y07}{K:y3}{mg:Str->Option ya}{base:Heap}
end
section
variable{X:Cx}{pins:List (Addr×Obj)}{σ:St}{H:Hp}{s:y9}{h':Heap}{x T:Addr}
end
section
variable{X:Cx}{pins:List (Addr×Obj)}{σ:St}{H:Hp}{s:y9}{e:ya}
end
end L2
namespace L2
open PySem PySem.Spec PyProof.Rows PySem.W PySem.Builtin PySem.Builtin.ObjectAttr PySem.Builtin.Getset_descriptor PySem.Calls
section
variable{prog:yl}{w:y07}{A:y0a}{E:ya->y9->Prop}{s:y9}{K:y3}{x C:Addr}
end
section
variable{X:Cx}
end
section
variable{P:yl}{w:y07}{K:y3}{mg:Str->Option ya}{base:Heap}{N:List Str}{qual:Str}{scope:Scope}{f:Addr}{cd:ya}{A:y0a}{outer:List PySem.Env}{s₀:y9}{H₀:Hp}{E:XK}
end
end L2
namespace L2
open PySem PySem.Spec PyProof.Rows PySem.W
def Wx(s:Stmt)(j:Nat):Stmt:=match s with
 |.ClassDef _ _ _ b _ _ _ _ _ _ _=>(b[j]?).getD s
 |_=>s
structure CalleeI(P:yl)(w:y07)(K:y3)(mg:Str->Option ya)(base:Heap)(C:Addr)(ps:List Str)(k:Nat)(sp:Sp):Prop where
 ex:∃f fd,FnOk P w K mg base CX0 k f fd ps sp/\Mk K C f/\Binds K fd ps []
section
variable{X:Cx}{C:Addr}{m x:Str}{ps:List Str}{k j:Nat}{sp:Sp}{o e:Expr}{es:List Expr}{ta:TE}{t:TA}{p apos pos:Pos}{pl:Sem Bool}
theorem Wy(M:CalleeI X.prog X.w X.K X.mg X.base C ps k sp)(hr:Room j X.A)(hk:k+1<=j)(hg:Gl X x)(hm:X.mg x=some (.ref C))(ha:PA X (e::es) t) (G:(x==("__debug__" : Str))=false:=by decide) (B:BB (e::es)=true:=by rfl) :
  PE X (.Call (.Name x p) (e::es) [] pos) (Hf C sp [] E0 t):=by
 obtain⟨f,fd,F,J,hb⟩:=M;have q:=B;rw[BB,yk,y0e] at q;exact Uq J F (hr.mono hk) hg hm hb .nil (fun _ _ _ _ _ _ _ z=>z.elim) ha G (CN q.1) (D0 q.2)
end
section
variable{P:yl}{w:y07}{K:y3}{mg:Str->Option ya}{base:Heap}{k:Nat}{ps fr N:List Str}{D:LamD}{cl:List (Str×Addr)}{f c':Addr}{A:y0a}{outer:List PySem.Env}{s:y9}{H:Hp}{us:List ya}{vs ws:List V}{Q:VK}{E:XK}
end
section
variable{X:Cx}{C:Addr}{m x:Str}{ps:List Str}{k j:Nat}{sp:Sp}{o e:Expr}{es:List Expr}{ta:TE}{t:TA}{p apos pos:Pos}{pl:Sem Bool}{E:XK}
abbrev Hs(d:Addr)(i n ep:Nat):Obj:={cls:=.type "dict_keyiterator",data:=.fields #[.ref d,.int i 0,.int n 0,.int ep 0]}
end
section
variable{prog:yl}{w:y07}{A:y0a}{E:ya->y9->Prop}{s:y9}{d I:Addr}{es:Array DictEntry}{ep i:Nat}{o:Obj}
set_option maxHeartbeats 4000000 in
theorem JA{Q:Option ya->y9->Prop}(O:A.handled=none)(G:s.heap.get? I=some (Hs d i es.size ep))(e:s.heap.get? d=some o)(J:o.data=.dict es ep)
  (M:∀h' q,es[i]?=some q->Heap.SameBut I s.heap h'->h'.get? I=some (Hs d (i+1) es.size ep)->Q (some q.key) {s with heap:=h'})
  (q2:∀h',es[i]?=none->Heap.ExtBut I s.heap h'->Q none {s with heap:=h'}):yy (y03 prog w) A (pyNext (.ref I)) Q E s:=by
 have z:s.TypeIs (.ref I) "dict_keyiterator":=⟨_,G,rfl⟩;unfold pyNext;refine y8 (y3q (y0u (name:="__next__") z F.slot_dict_keyiterator_next (y0j F.slot_dict_keyiterator_next z F.entry_dict_keyiterator_next ?_ (F.args_dict_keyiterator_next_1 _))));unfold Builtin.«dict_keyiterator.__next__»;wp_walk using y1s e J,y32 e J;rw[if_neg (show ¬ ((i:Int)<0) by lia),show((i:Int)).toNat=i from rfl];cases B:es[i]? with
 |some q=>
  wp_walk;refine⟨_,rfl,ye ?_⟩;rw[if_neg (show ¬ (Builtin.Dict_items.ownsTuple ((Manifest.find? "dict_keyiterator").elim "dict_keyiterator" fun x=>x.tpName)=true) by decide+kernel),if_neg]
  ·exact M _ q B (y0i ..) (y0z _ G rfl)
  ·decide+kernel
 |none=>
  wp_walk;rw[raiseNew];wp_walk;refine wpAny_of_eq isSubtype_stop (ye ?_);exact q2 _ B (((y0i ..).extBut.push _).push _)
set_option maxHeartbeats 4000000 in
theorem La{Q:ya->y9->Prop}(lo:(d==sysModules)=false)(e:s.heap.get? d=some o)(x:o.ExactDict)(z:o.data=.dict es ep)(q:Q (.ref s.heap.objs.size) {s with heap:=s.heap.push (Hs d 0 es.size ep)}):yy (y03 prog w) A (pyIter (.ref d)) Q E s:=by
 have B:s.TypeIs (.ref d) "dict":=⟨_,e,x.1⟩;refine wpAny_pyIter_slot B F.slot_dict_iter (y0j F.slot_dict_iter B F.entry_dict_iter ?_ (F.args_dict_iter_1 _));unfold Builtin.«dict.__iter__»;wp_walk using y1s e z,y32 e z;rw[x.1,if_neg (by decide)];wp_walk using y1s e z,y32 e z;exact⟨_,rfl,"dict_keyiterator",_,⟨_,yg _ rfl,rfl⟩,F.slot_dict_keyiterator_next.lookup,q⟩
theorem Wz(hh:A.handled=none)(M:d≠I):Walks prog w A I [I,d] [I] es.size (fun i v=>∃z,es[i]?=some z/\v=z.key) (fun i h=>h.get? I=some (Hs d i es.size ep)/\∃o,h.get? d=some o/\o.data=.dict es ep) where
 sub:=fun b hb=>by simp at hb; simp[hb]
 frame:=fun _ _ _ st hk=>⟨hk I (by simp) _ st.1,let ⟨o,e,B⟩:=st.2; ⟨o,hk d (by simp) o e,B⟩⟩
 item:=fun i s Q E hi st J=>by
  obtain⟨Y,o,e,B⟩:=st;refine JA hh Y e B (fun h' z q F G=>?_) (fun h' Z _=>?_)
  ·exact J z.key h' s.toks ⟨z,q,rfl⟩ ⟨G,o,(F.2 d M).trans e,B⟩ fun b o hb e=>(F.2 b (fun h=>hb (by simp[h]))).trans e
  ·rw[y2y hi] at Z;cases Z
 done:=fun s Q E st J=>by
  obtain⟨Y,o,e,B⟩:=st;refine JA hh Y e B (fun h' z q _ _=>?_) (fun h' _ O=>J h' s.toks fun b o hb e=>O b o (fun h=>hb (by simp[h])) e);rw[y1v (yb _)] at q;cases q
 self:=fun _ s Q E st J=>wpAny_pyIter_keyiter ⟨_,st.1,rfl,rfl⟩ J
theorem X0(lo:(d==sysModules)=false):KdlSrc prog w "dict" d d es.size (fun i v=>∃q,es[i]?=some q/\v=q.key) (fun h=>∃o,h.get? d=some o/\o.ExactDict/\o.data=.dict es ep) where
 type:=fun _ ⟨o,e,x,_⟩=>⟨o,e,x.1⟩
 there:=fun _ ⟨o,e,_⟩=>⟨yd e,yd e⟩
 keep:=fun _ _ ⟨o,e,r⟩ hk=>⟨o,hk d (.inl rfl) o e,r⟩
 notList:=by decide
 notTuple:=by decide
 hint:=fun _ _ _ _ ⟨o,e,x,_⟩ hq=>kdl_hint_dict ⟨o,e,x.1⟩ hq
 iter:=fun _ s B ⟨o,e,x,z⟩=>⟨_,_,(fun _ _ hq=>La lo e x z hq),Wz (ep:=ep) B (yj (yd e)),⟨yg _ rfl,o,y6 _ e,z⟩⟩
end
def Itd(d:Addr)(o:Obj)(u:HO)(ks:List V):It:=⟨fun i H=>H d=some (.frz o u)/\i<ks.length,fun i H x H'=>H'=H/\ks[i]?=some x,fun i H=>H d=some (.frz o u)/\ks.length<=i⟩
section
variable{X:Cx}{pins:List (Addr×Obj)}{σ:St}{H:Hp}{s:y9}
theorem Inv.freeze(I:Inv X pins σ H s)(e:H d=some u)(M:s.heap.get? d=some o)(B:∀xs,u≠.tup xs)(F:∀x,u≠.own x)(J:∀o v,u≠.frz o v)(G:∀ps,u≠.tbl ps):Inv X pins σ (upd H d (.frz o u)) s:=by
 have out:∀{b:Addr} {v:HO},H b=some v->v≠u->(upd H d (.frz o u)) b=some v:=fun {b v} q n=>by rw[AB (BL q e n)]; exact q
 have hok:HOk X.prog X.w (upd H d (.frz o u)) s.heap:=fun a v q=>by
  by_cases ha:a=d
  ·subst ha;rw[A6] at q;cases q;exact⟨M,(I.hok a u e).stay (fun _ _ _ q=>q) (fun b q=>out q (y0y (F _))) fun b xs q=>out q (y0y (B _))⟩
  ·rw[AB ha] at q;exact(I.hok a v q).stay (fun _ _ _ q=>q) (fun b q=>out q (y0y (F _))) fun b xs q=>out q (y0y (B _))
 obtain⟨h,O,Y,tk,os⟩:=s;refine I.un (h':=h) (t':=tk) ⟨fun b z q n _ _=>q,fun b z q n _ _=>⟨z.slots,q⟩,fun b z q n _=>?_,fun b z q _=>⟨z,q⟩,fun b xs q=>out q (y0y (B _)),fun b z v q=>out q (y0y (J _ _)),fun b ps q=>⟨#[],by rw[out q (y0y (G _))]; simp⟩⟩ hok;rw[AB (y0y (Ag e n))];exact n
theorem PV{P:yl}{w:y07}{K:y3}{tg:Expr}{d F:Addr}{o:Obj}{u:HO}{ks:List V}{es:Array DictEntry}{ep:Nat}(od:o.data=.dict es ep)(hk:Paired (fun(v:V) (G:DictEntry)=>RelV v G.key) ks es.toList):Turn P w K tg (Itd d o u ks) [F] F (fun i h=>h.get? F=some (Hs d i es.size ep)) where
 mem:=by simp
 obj:=fun i h st b hb=>by
  have e:b=F:=by simpa using hb
  subst e;exact⟨_,st,fun v z=>by cases z⟩
 keep:=fun i h h' st k=>k F (by simp) _ st;item:=by
  intro X O hw Y hc i pins s σ H E I hf st hg;subst O hw Y;obtain⟨hd,hi⟩:=hg;obtain⟨J,_⟩:=(show ObjOk X.prog X.w H s.heap d (.frz o u) from I.hok d _ hd);obtain⟨f0,f1,f2,f3,f4,Z⟩:=hf F (by simp);have hl:ks.length=es.size:=by rw[hk.length]; simp
  refine JA (I.ok.hd hc) st J od (fun h' G q sb B=>?_) (fun h' M _=>?_)
  ·have I1:Inv X pins σ H {s with heap:=h'}:=I.turned (t':=s.toks) (fun b ob hb e=>(sb.2 b hb).trans e) f0 f1 f3 f4 Z;obtain⟨v,hv,rv⟩:∃v,ks[i]?=some v/\RelV v G.key:=by
    obtain⟨v,hv⟩:∃v,ks[i]?=some v:=⟨ks[i],yf hi⟩;exact⟨v,hv,(DA hk).2 i v G hv (by rw[Array.getElem?_toList]; exact q)⟩
   exact⟨_,rfl,IZ (s:={s with heap:=h'}) B rfl rfl (by decide) ⟨v,H,I1,rv,⟨rfl,hv⟩,B,fun b hb=>(hf b hb).1⟩⟩
  ·rw[y2y (by lia)] at M;cases M
 done:=by
  intro X O hw Y hc i pins s σ H E I hf st hg;subst O hw Y;obtain⟨hd,hi⟩:=hg;obtain⟨J,_⟩:=(show ObjOk X.prog X.w H s.heap d (.frz o u) from I.hok d _ hd);obtain⟨f0,f1,f2,f3,f4,Z⟩:=hf F (by simp);have hl:ks.length=es.size:=by rw[hk.length]; simp
  refine JA (I.ok.hd hc) st J od (fun h' G q sb B=>?_) (fun h' M eb=>?_)
  ·rw[y1v (by lia)] at q;cases q
  ·exact⟨rfl,I.turned (t':=s.toks) (fun b o hb e=>eb b o hb e) f0 f1 f3 f4 Z⟩
 self:=fun _ _ _ _ _ st h=>wpAny_pyIter_keyiter ⟨_,st,rfl,rfl⟩ h
def Lb(tl:TE):TI:=fun σ H R=>tl σ H fun x H1=>∃d kvs,x=.ref d/\Rd H1 d (.dK kvs)/\∀o,R (Itd d o (.dK kvs) (kvs.map fun kv=>kV kv.1)) (upd H1 d (.frz o (.dK kvs)))
def Lc(tl:TE):TI:=fun σ H R=>tl σ H fun x H1=>∃d kvs,x=.ref d/\Rd H1 d (.dT kvs)/\∀(o:Obj) (as:List Addr),Paired (fun(kv:List Key×V) (a:Addr)=>H1 a=some (.tup (kv.1.map kV))) kvs as->R (Itd d o (.dT kvs) (as.map V.ref)) (upd H1 d (.frz o (.dT kvs)))
theorem Ld:∀{es:List DictEntry} {vs:List (Key×ya)} {kvs:List (Key×V)},Pairs (AU prog w) es vs->KV kvs vs->Paired (fun(v:V) (F:DictEntry)=>RelV v F.key) (kvs.map fun kv=>kV kv.1) es
 |[],_,_,.nil,.nil=>.nil
 |e::es,v::vs,kv::kvs,.cons h _ t,.cons r rt=>.cons (by
   obtain⟨B,_⟩:=r
   show RelV (kV kv.1) e.key
   rcases CH (show DW v.1 e.key=true from h) with⟨i,t,z,q⟩|⟨x,t,z,q⟩
   ·rw[B,z,q]; exact⟨_,rfl⟩
   ·rw[B,z,q]; exact⟨_,rfl⟩) (Ld t rt)
theorem Rd.frozen(r:Rd H d u)(x:HOk P w H s.heap)(q:s.heap.get? d=some o):H d=some u\/upd H d (.frz o u)=H:=by
 rcases r with r|⟨o',r⟩
 ·exact .inl r
 ·obtain⟨e,_⟩:=(show ObjOk P w H s.heap d (.frz o' u) from x d _ r);rw[q] at e;cases e;refine .inr (funext fun b=>?_);by_cases hb:b=d
  ·rw[hb,A6,r]
  ·rw[AB hb]
theorem Inv.frozen(I:Inv X pins σ H s)(r:Rd H d u)(q:s.heap.get? d=some o)(G:∀xs,u≠.tup xs)(F:∀x,u≠.own x)(B:∀o v,u≠.frz o v)(z:∀ps,u≠.tbl ps):Inv X pins σ (upd H d (.frz o u)) s:=by
 rcases r.frozen I.hok q with e|e
 ·exact I.freeze e q G F B z
 ·rw[e]; exact I
theorem JB{tg l:Expr}{tl:TE}(hl:PE X l tl):PI X tg l (Lb tl):=by
 refine⟨?_⟩;intro pins s σ H R I h;refine thn (hl pins s σ H _ I h) fun v B ⟨x,H1,F,O,Y⟩=>?_;obtain⟨d,kvs,e,hr,q⟩:=Y;subst e;cases O;obtain⟨hz,lo,vs,M,o,es,ep,G,hx,hd,hk,Z,hn⟩:=(show ObjOk X.prog X.w H1 B.heap d (.dK kvs) from hr.ok F.hok);have J:=F.frozen hr G (by intro xs z; cases z) (by intro xs z; cases z) (by intro xs y z; cases z) (by intro xs z; cases z);refine La lo G hx hd ?_;refine⟨B.heap.objs.size,[B.heap.objs.size],_,_,_,rfl,J.kept (t':=B.toks) fun b o e=>y6 _ e,PV (o:=o) (u:=.dK kvs) hd (Ld Z M),yg _ rfl,fun b hb=>?_,q o⟩;have e:b=B.heap.objs.size:=by simpa using hb
 subst e;exact F.fpOk (yb _) (J.hok.fresh (yb _))
theorem PX{xs:List (List Key×Addr×ya)}{kvs:List (List Key×V)}:∀{kvs:List (List Key×V)} {xs:List (List Key×Addr×ya)},Paired (fun(p:List Key×V) (q:List Key×Addr×ya)=>p.1=q.1/\H q.2.1=some (.tup (p.1.map kV))/\RelV p.2 q.2.2) kvs xs->
  Paired (fun(kv:List Key×V) (a:Addr)=>H a=some (.tup (kv.1.map kV))) kvs (xs.map (·.2.1))/\Paired (fun(v:V) (z:DictEntry)=>RelV v z.key) ((xs.map (·.2.1)).map V.ref) (xs.map (entryOfKey (tupleKind (AU X.prog X.w))))
 |[],_,.nil=>⟨.nil,.nil⟩
 |_::_,_::_,.cons r t=>let ⟨a,b⟩:=PX (xs:=[]) (kvs:=[]) t; ⟨.cons r.2.1 a,.cons rfl b⟩
theorem PY{tg l:Expr}{tl:TE}(hl:PE X l tl):PI X tg l (Lc tl):=by
 refine⟨?_⟩;intro pins s σ H R I h;refine thn (hl pins s σ H _ I h) fun v B ⟨x,H1,G,Y,Z⟩=>?_;obtain⟨d,kvs,e,hr,q⟩:=Z;subst e;cases Y;obtain⟨hz,lo,xs,O,o,es,ep,J,hx,hd,F,hn⟩:=(show ObjOk X.prog X.w H1 B.heap d (.dT kvs) from hr.ok G.hok);have M:=G.frozen hr J (by intro xs z; cases z) (by intro xs z; cases z) (by intro xs y z; cases z) (by intro xs z; cases z);obtain⟨ka,kb⟩:=PX (X:=X) (xs:=[]) (kvs:=[]) O;refine La lo J hx hd ?_;refine⟨B.heap.objs.size,[B.heap.objs.size],_,_,_,rfl,M.kept (t':=B.toks) fun b o e=>y6 _ e,PV (o:=o) (u:=.dT kvs) hd (F ▸ kb),yg _ rfl,fun b hb=>?_,q o _ ka⟩;have e:b=B.heap.objs.size:=by simpa using hb
 subst e;exact G.fpOk (yb _) (M.hok.fresh (yb _))
end
section
variable{d:Addr}{o:Obj}{u:HO}{ks:List V}{g:TG}{tb:TS}{D:Ends}{σ:St}{H:Hp}{tt:TT}{te:TE}{Q:VK}
theorem JC(z:Nat->St->Hp->Prop)(Z:z 0 σ H)(Y:∀i σ H,i<=ks.length->z i σ H->H d=some (.frz o u))
  (O:∀i x σ H,ks[i]?=some x->z i σ H->g x σ H fun B H2=>tb {D with nx:=z (i+1),ct:=z (i+1),bk:=D.nx} B H2) (hd:∀ σ H,z ks.length σ H->D.nx σ H) :
  ∃W:Nat->Nat->St->Hp->Prop,(∃m,W 0 m σ H)/\∀i m σ H,W i m σ H->
   ((Itd d o u ks).stop i H/\D.nx σ H)\/((Itd d o u ks).go i H/\∃N:St->Hp->Prop,(∀ F H',N F H'->∃J,J<m/\W (i+1) J F H')/\∀x H',(Itd d o u ks).yld i H x H'->g x σ H' fun B H2=>tb {D with nx:=N,ct:=N,bk:=D.nx} B H2):=by
 refine⟨fun i m σ H=>m=ks.length-i/\i<=ks.length/\z i σ H,⟨ks.length,by simp,y05 _,Z⟩,?_⟩
 rintro i m σ H ⟨rfl,hi,p⟩
 have q:=Y i σ H hi p
 by_cases G:i<ks.length
 ·refine .inr ⟨⟨q,G⟩,z (i+1),fun F H' M=>⟨ks.length-(i+1),by lia,rfl,G,M⟩,fun x H' y=>?_⟩
  obtain⟨e,y⟩:=y
  subst e
  exact O i x σ _ y p
 ·have e:i=ks.length:=by lia
  subst e
  exact .inl ⟨⟨q,yb _⟩,hd σ H p⟩
theorem PZ(B:Nat->List V->St->Hp->Prop)(h0:B 0 [] σ H)(hz:ks.length<yn)(hy:∀i ys σ H,B i ys σ H->ys.length<=i)(hl:∀i ys σ H,i<=ks.length->B i ys σ H->H d=some (.frz o u))
  (Z:∀i ys x σ H,ks[i]?=some x->B i ys σ H->g x σ H fun z H2=>tt z H2 fun b G=>if b=true then te z G (fun v H4=>B (i+1) (ys++[v]) z H4) else B (i+1) ys z G)
  (hd:∀ys σ H,B ks.length ys σ H->∀p,H p=none->Q (.ref p) (upd H p (.lst ys))):BN (Itd d o u ks) g tt te Q σ H:=by
 refine⟨fun i m ys σ H=>m=ks.length-i/\i<=ks.length/\B i ys σ H,⟨ks.length,by simp,y05 _,h0⟩,?_⟩;rintro i m ys σ H ⟨rfl,hi,p⟩;have q:=hl i ys σ H hi p;have Y:=hy i ys σ H p;by_cases F:i<ks.length
 ·refine .inr ⟨⟨q,F⟩,by lia,B (i+1),fun M J H' O=>⟨ks.length-(i+1),by lia,rfl,F,O⟩,fun x H' y=>?_⟩;obtain⟨e,y⟩:=y;subst e;exact Z i ys x σ _ y p
 ·have e:i=ks.length:=by lia
  subst e;exact .inl ⟨⟨q,yb _⟩,by lia,hd ys σ H p⟩
theorem Pa:∀a b:List Int,a≠b->ltI a b=true\/ltI b a=true
 |[],[],h=>absurd rfl h
 |[],_::_,_=>.inl rfl
 |_::_,[],_=>.inr rfl
 |x::a,y::b,h=>by
  unfold ltI;by_cases e:x=y
  ·subst e;simp only[if_pos];exact Pa a b fun z=>h (by rw[z])
  ·rw[if_neg e,if_neg (y0y e)];simp only[decide_eq_true_eq];lia
theorem Le:∀{a b c:List Int},ltI a b=true->ltI b c=true->ltI a c=true
 |[],_::_,_::_,_,_=>rfl
 |[],[],_,h,_=>by simp[ltI] at h
 |_,_::_,[],_,h=>by simp[ltI] at h
 |_::_,[],_,h,_=>by simp[ltI] at h
 |x::a,y::b,z::c,h1,h2=>by
  unfold ltI at h1 h2 |-;by_cases B:x=y
  ·subst B;rw[if_pos rfl] at h1;by_cases q:x=z
   ·subst q;rw[if_pos rfl] at h2 |-;exact Le h1 h2
   ·rw[if_neg q] at h2 |-;exact h2
  ·rw[if_neg B] at h1;have G:=of_decide_eq_true h1;by_cases q:y=z
   ·subst q;rw[if_neg B];exact h1
   ·rw[if_neg q] at h2;have F:=of_decide_eq_true h2;rw[if_neg (by lia)];exact decide_eq_true (by lia)
theorem Pb{F:Type}(x:List Int×F):∀z:List (List Int×F),z.Pairwise (fun p q=>ltI p.1 q.1=true)->(∀y∈z,y.1≠x.1)->∃B:List (List Int×F),B.Perm (x::z)/\B.Pairwise (fun p q=>ltI p.1 q.1=true)
 |[],_,_=>⟨[x],.refl _,List.pairwise_singleton _ _⟩
 |y::z,h,n=>by
  obtain⟨h1,h2⟩:=List.pairwise_cons.mp h;rcases Pa x.1 y.1 (y0y (n y (.head _))) with c|c
  ·exact⟨x::y::z,.refl _,List.pairwise_cons.mpr ⟨fun w hw=>by
    rcases List.mem_cons.mp hw with rfl|hw
    ·exact c
    ·exact Le c (h1 w hw),h⟩⟩
  ·obtain⟨B,p,r⟩:=Pb x z h2 fun w hw=>n w (.tail _ hw);refine⟨y::B,(p.cons y).trans (.swap ..),List.pairwise_cons.mpr ⟨fun w hw=>?_,r⟩⟩;rcases List.mem_cons.mp (p.mem_iff.mp hw) with rfl|hw
   ·exact c
   ·exact h1 w hw
theorem Pc{B:Type}:∀l:List (List Int×B),(l.map (·.1)).Nodup->∃z:List (List Int×B),z.Perm l/\z.Pairwise (fun p q=>ltI p.1 q.1=true)
 |[],_=>⟨[],.refl _,.nil⟩
 |x::l,h=>by
  obtain⟨h1,h2⟩:=List.nodup_cons.mp h;obtain⟨z,p,r⟩:=Pc l h2;obtain⟨F,J,G⟩:=Pb x z r fun y hy e=>h1 (List.mem_map.mpr ⟨y,p.mem_iff.mp hy,e⟩);exact⟨F,J.trans (p.cons x),G⟩
end
section
variable{prog:yl}{w:y07}{A:y0a}{E:ya->y9->Prop}{s:y9}{d:Addr}{es:Array DictEntry}{ep:Nat}{o:Obj}
theorem Pd{Q:List ya->y9->Prop}(hh:A.handled=none)(lo:(d==sysModules)=false)(e:s.heap.get? d=some o)(x:o.ExactDict)(dd:o.data=.dict es ep)(hn:es.size<=yn)
  (q:∀(h':Heap) (tk:Nat),s.heap.objs.size<=h'.objs.size->(∀b u,s.heap.get? b=some u->h'.get? b=some u)->Q (es.toList.map (·.key)) {s with heap:=h',toks:=tk}):yy (y03 prog w) A (collect (.ref d)) Q E s:=by
 have ld:=yd e
 unfold collect
 refine y8 (wpAny_runValue (y1t PySem.F.entry_proto_collect ?_))
 rw[y12 PySem.F.plain_proto_collect]
 refine y8 (y2u (ye ⟨y2v y27 _,y1t PySem.F.entry_list_iadd ?_⟩))
 rw[y12 y27]
 have e0:(s.heap.push (y1e "list" #[] 0)).get? s.heap.objs.size=some (y1e "list" #[] 0):=yg _ rfl
 show yy _ _ (Builtin.List.listExtendWith (.ref s.heap.objs.size) (.ref d) (.ref s.heap.objs.size)) _ _ {s with heap:=s.heap.push (y1e "list" #[] 0)}
 have fin:∀(v:Result) (s':y9),(∃(h':Heap) (tk:Nat) (acc:Array ya) (c:Nat),v=.ok (.ret (.ref s.heap.objs.size))/\s' = {s with heap:=h',toks:=tk}/\h'.get? s.heap.objs.size=some {cls:=.type "list",dict:=none,data:=.seq acc c,slots:=#[]}/\Q acc.toList {s with heap:=h',toks:=tk})->
   (match v with|.ok (.ret v)=>yy (y03 prog w) A (match v with|.ref a=>(do match (<- load a).data with|.seq xs _=>pure xs.toList|_=>unsupported "internal:collect")|_=>unsupported "internal:collect") Q E s'|.ok _=>False|.error e=>E e s'):=by
  rintro v s' ⟨h',tk,acc,c,rfl,rfl,hS,hq⟩
  exact y8 (wpAny_load hS (ye hq))
 refine y18 (kdl_extend (A:=A) (s:={s with heap:=s.heap.push (y1e "list" #[] 0)})
  (R:=fun v s'=>∃(h':Heap) (tk:Nat) (acc:Array ya) (c:Nat),v=.ok (.ret (.ref s.heap.objs.size))/\s' = {s with heap:=h',toks:=tk}/\h'.get? s.heap.objs.size=some {cls:=.type "list",dict:=none,data:=.seq acc c,slots:=#[]}/\Q acc.toList {s with heap:=h',toks:=tk})
  (X0 (ep:=ep) (es:=es) lo) hh ⟨o,y6 _ e,x,dd⟩ s.heap.objs.size (y19 ld) (y19 ld) (.ref s.heap.objs.size) 0 e0 (fun h' tk acc c hk hS hacc=>⟨h',tk,acc,c,rfl,rfl,hS,?_⟩) hn) (fun f s' z=>?_) (fun e s' z=>fin _ _ z)
 ·have ea:acc.toList=es.toList.map (·.key):=by
   refine y1u (by simp[hacc.1]) fun i h1 h2=>?_
   have hi:i<acc.size:=by simpa using h1
   obtain⟨en,h3,h4⟩:=hacc.2 i acc[i] (by simp[hi])
   have hi2:i<es.size:=by simpa using h2
   rw[y2y hi2] at h3
   cases h3
   simp[h4]
  rw[ea]
  exact q h' tk (y1a (yd hS)) (fun b u z=>hk b u (yj (yd z)) (y6 _ z))
 ·cases f with
  |done f=>exact fin _ _ z
  |again c=>exact⟨z.1,y1w z.2 fun r s2 y=>fin r s2 y⟩
theorem X1{as:List Addr}{ps:Nat->List Int}{Q:ya->y9->Prop}(hh:A.handled=none)(lo:(d==sysModules)=false)(e:s.heap.get? d=some o)(x:o.ExactDict)(dd:o.data=.dict es ep)(hp:(es.toList.map (·.key)).Perm (as.map Value.ref))(hk:∀j,j<as.length->IsTupleKey (intKind prog w) s.heap (ps j) (as.getD j 0))
  (ln:∀j,j<as.length->ps j≠[]) (lp:∀i j,i<as.length->j<as.length->ltI (ps i) (ps j)=decide (i<j)) (hb:as.length<=60)
  (q:∀(h':Heap) (tk:Nat) (l:Addr) (n:Nat),s.heap.objs.size<=l->(∀b u,s.heap.get? b=some u->h'.get? b=some u)->h'.get? l=some (y1e "list" (as.map Value.ref).toArray n)->
   Q (.ref l) {s with heap:=h',toks:=tk}):yy (y03 prog w) A (call (.builtin "sorted") [.ref d]) Q E s:=by
 have lr:es.size=as.length:=by simpa using hp.length_eq
 refine y2x kind_sorted plain_sorted entry_sorted (args_sorted1 _) ?_
 unfold Builtin.«sorted»
 refine y8 (m:=checkCount "sorted" 1 1 _) (ye (y8 (Pd (by simpa using hh) lo e x dd (D8 (by lia)) fun h1 lh z1 k1=>?_)))
 have Z:=hp
 generalize es.toList.map (·.key)=vs at Z hp |-
 have er:as.map Value.ref=(List.range as.length).map fun i=>Value.ref (as.getD i 0):=by
  refine y1u (by simp) fun i h1 h2=>?_;simp at h1;simp[h1]
 obtain⟨B,pr,ev⟩:=WS Z _ er;have lm:B.length=as.length:=by simpa using pr.length_eq
 have lq:vs.length=as.length:=by rw[ev,y4,lm]
 have F:∀i,i<as.length->B.getD i 0<as.length:=fun i hi=>by
  rw[yq,yf (by lia)];exact List.mem_range.mp (pr.mem_iff.mp (y2h _))
 have Y:∀i,i<as.length->vs.getD i .none=.ref (as.getD (B.getD i 0) 0):=fun i hi=>by
  have h1:i<B.length:=by lia
  simp[ev,h1]
 have lc:∀i j,i<vs.length->j<vs.length->B.getD i 0=B.getD j 0->i=j:=fun i j hi O z=>by
  have nd:B.Nodup:=pr.nodup_iff.mpr List.nodup_range;have h1:i<B.length:=by lia
  have h2:j<B.length:=by lia
  rw[yq,yq,yf h1,yf h2] at z;exact(y2j nd).mp z
 refine y8 (y2u ?_ (D8 (by lia)));have eL:(h1.push (y1e "list" vs.toArray 0)).get? h1.objs.size=some (y1e "list" vs.toArray 0):=yg _ rfl;have J:∀b u,s.heap.get? b=some u->(h1.push (y1e "list" vs.toArray 0)).get? b=some u/\b≠h1.objs.size:=fun b u hu=>by
  have lb:=yd (k1 b u hu);exact⟨y6 _ (k1 b u hu),yj lb⟩
 refine y8 (y16 (y0j slot_list_sort ⟨_,eL,rfl⟩ entry_list_sort (P7 (r:=fun i=>B.getD i 0) eL (by lia) lc (fun h2 h' kp=>?_) fun p P1 P2=>⟨_,rfl,?_⟩) (args_list_sort _)))
 ·have M:∀j,j<as.length->IsTupleKey (intKind prog w) h' (ps j) (as.getD j 0):=fun j O=>by
   obtain⟨o,lj,n,e,r⟩:=hk j O;exact⟨o,lj,n,kp _ _ (J _ _ e).2 (J _ _ e).1,r⟩
  obtain⟨fs,kt,fl,fi⟩:=P9 (prog:=prog) (w:=w) (h:=h') (vs:=vs) fun v hv=>by
   rw[ev] at hv;obtain⟨j,O,rfl⟩:=List.mem_map.mp hv;have G:=List.mem_range.mp (pr.mem_iff.mp O);exact⟨_,_,rfl,ln j G,M j G⟩
  refine⟨tuples' true,fun E Q hQ=>kat_kind (T:=.type "int") kt (by lia) (fun v hv=>?_) rfl hQ,fun i j hi O E Q hQ=>?_⟩
  ·obtain⟨n,t,rfl⟩:=fi v hv;exact Looks.of_pure rfl
  ·rw[Y i (by lia),Y j (by lia)];refine WH (M _ (F i (by lia))) (M _ (F j (by lia))) ?_;rw[lp _ _ (F i (by lia)) (F j (by lia))];exact hQ
 ·refine ye ⟨_,rfl,?_⟩;have eo:(p.toList.map fun i=>vs.getD i Value.none)=as.map Value.ref:=by
   have e1:(p.toList.map fun i=>vs.getD i Value.none)=(p.toList.map fun i=>B.getD i 0).map fun i=>Value.ref (as.getD i 0):=by
    rw[y0m];refine y3h fun i hi=>?_;have:=List.mem_range.mp (P1.pm.mem_iff.mp hi);exact Y i (by lia)
   have e2:(p.toList.map fun i=>B.getD i 0)=List.range as.length:=by
    refine y2r (le:=(· < ·)) (fun x y _ _ a b=>by lia) ?_ List.pairwise_lt_range ?_
    ·rw[List.pairwise_iff_getElem];intro i j hi O lg;have G:j<p.size:=by simpa using O
     have z:=P2 i j lg (by rw[<- P1.sz]; exact G);simpa [rk,Array.getD,G,y0w lg G] using z
    ·have z:=P1.pm.map fun i=>B.getD i 0;refine z.trans ?_;have:((List.range vs.length).map fun i=>B.getD i 0)=B:=by
      refine y1u (by simp; lia) fun i h1 h2=>?_;simp[h2]
     rw[this];exact pr
   rw[e1,e2,er]
  rw[eo];obtain⟨n,en⟩:=sortedHeap_at (out:=(as.map Value.ref).toArray) eL;refine q _ lh h1.objs.size n z1 (fun b u hu=>?_) en;have lb:=yd (k1 b u hu);rw[sortedHeap_old (yj lb) (by rw[y3u]; exact y2f lb)];exact y6 _ (k1 b u hu)
theorem Lf(H:Hp):∀p:List Int,DtA H (p.map V.int) (p.map Dm.int)
 |[]=>.nil
 |x::p=>.cons (.int x) (Lf H p)
end
theorem X2(I:Inv X pins σ H s)(h:H a=some (.tup (p.map V.int))):IsTupleKey (intKind X.prog X.w) s.heap p a:=by
 have:=(PB (ps:=[p]) (vs:=[.ref a]) I (.cons (.tup h (Lf H p)) .nil)).2.2 0 (show 0<1 by decide);exact this
def X3:List V->Hp->VK->Prop:=fun xs H Q=>∃(d:Addr) (kvs:List (List Key×V)) (ps:List (List Int)),xs=[.ref d]/\Rd H d (.dT kvs)/\kvs.map (·.1)=ps.map (·.map Sum.inl)/\(∀p∈ps,p≠[])/\ps.length<=60/\
 ∀(l:Addr) (vs:List V) (z:List (List Int)),H l=none->z.Perm ps->z.Pairwise (fun p q=>ltI p q=true)->DtA H vs (z.map pathD)->Q (.ref l) (upd H l (.lst vs))
theorem Pe{H:Hp}:∀{kvs:List (List Key×V)} {ys:List (List Key×Addr×ya)} {ps:List (List Int)},Paired (fun(p:List Key×V) (q:List Key×Addr×ya)=>p.1=q.1/\H q.2.1=some (.tup (p.1.map kV))/\RelV p.2 q.2.2) kvs ys->kvs.map (·.1)=ps.map (·.map Sum.inl)->
  ps.length=ys.length/\ys.map (·.1)=ps.map (·.map Sum.inl)/\∀y∈ps.zip (ys.map (·.2.1)),H y.2=some (.tup (y.1.map V.int))
 |[],_,[],.nil,_=>⟨rfl,rfl,fun y h=>absurd h (by simp)⟩
 |[],_,_::_,.nil,h=>by simp at h
 |_::_,_::_,[],.cons _ _,h=>by simp at h
 |kv::kvs,y::ys,p::ps,.cons r t,h=>by
  rw[yc,yc] at h;injection h with h1 h2;obtain⟨l,e,m⟩:=Pe t h2;refine⟨by rw[yh,yh,l],by rw[yc,yc,e,<- r.1,h1],fun x hx=>?_⟩;rw[yc,y1i] at hx;rcases List.mem_cons.mp hx with rfl|hx
  ·have:=r.2.1;rw[h1,y0m] at this;exact this
  ·exact m x hx
theorem JD{X:Cx}(hc:X.calm=true):B3 X (.builtin "sorted") X3:=by
 intro pins s σ H xs us Q I r h;obtain⟨d,kvs,ps,rfl,hr,Y,M,hb,q⟩:=h;obtain⟨u,rfl,r1⟩:=r.one;cases r1;obtain⟨hz,lo,ys,rx,o,es,ep,ho,hx,hd,lc,hn⟩:=(show ObjOk X.prog X.w H s.heap d (.dT kvs) from hr.ok I.hok);obtain⟨hl,Z,J⟩:=Pe rx Y;have O:ps.Nodup:=by
  rw[Z] at hn;exact(List.pairwise_map.mp hn).imp fun h e=>h (by rw[e])
 have e1:(ps.zip (ys.map (·.2.1))).map (·.1)=ps:=List.map_fst_zip (by rw[y4]; lia);have e2:(ps.zip (ys.map (·.2.1))).map (·.2)=ys.map (·.2.1):=List.map_snd_zip (by rw[y4]; lia);obtain⟨z,pz,rz⟩:=Pc (ps.zip (ys.map (·.2.1))) (by rw[e1]; exact O);have zl:z.length=ps.length:=by rw[pz.length_eq,List.length_zip,y4]; lia
 have R:RisP (z.map (·.1)):=⟨fun p hp=>M p (by rw[<- e1]; exact(pz.map (·.1)).mem_iff.mp hp),List.pairwise_map.mpr rz,by rw[y4]; lia⟩;have pv:(es.toList.map (·.key)).Perm ((z.map (·.2)).map Value.ref):=by
  rw[lc,y0m,show((fun x:DictEntry=>x.key) ∘ entryOfKey (tupleKind (AU X.prog X.w)))=(fun y:List Key×Addr×ya=>Value.ref y.2.1) from rfl];have:=((pz.map (·.2)).map Value.ref).symm;rw[e2,y0m] at this;exact this
 have at_:∀{j:Nat} (F:j<z.length),H z[j].2=some (.tup (z[j].1.map V.int)):=fun F=>J _ (pz.mem_iff.mp (y2h F));refine X1 (as:=z.map (·.2)) (ps:=fun j=>(z.map (·.1)).getD j []) (I.ok.hd hc) lo ho hx hd pv (fun j F=>?_) (fun j F=>?_) (fun i j hi F=>R.lt (by simpa using hi) (by simpa using F)) (by rw[y4]; lia) fun h' tk l n G k en=>?_
 ·have B:j<z.length:=by simpa using F
  have:=X2 I (at_ B);simpa [B] using this
 ·have B:j<z.length:=by simpa using F
  refine R.1 _ ?_;rw[yq,yf (by simpa using B)];exact y2h _
 ·refine⟨.ref l,_,I.laid (t':=tk) k G (show ObjOk X.prog X.w _ _ _ (.lst ((z.map (·.2)).map V.ref)) from⟨?_,(z.map (·.2)).map Value.ref,n,PD _,by simpa [y1e] using en⟩),rfl,q l _ (z.map (·.1)) (I.hok.fresh G) ?_ R.2.1 ?_⟩
  ·rw[y4,y4];exact D8 (by lia)
  ·have:=pz.map (·.1);rw[e1] at this;exact this
  ·rw[y0m,y0m];exact LS fun y hy=>.tup (J y (pz.mem_iff.mp hy)) (Lf H y.1)
def FlK(K:y3)(H:Hp)(x:V)(d:Dm):Prop:=Dt H x d\/∃(p:Addr) (q:List Int),x=.ref p/\d=.tup (q.map Dm.int)/\SqT K H p (q.map V.int)
section
variable{X:Cx}{pins:List (Addr×Obj)}{σ:St}{H:Hp}{s:y9}
theorem Pf:∀{z:List Int} {us:List ya},Vals (z.map V.int) us->∃as,ReadsAll h us (Af (z.map Dm.int)) as
 |[],_,.nil=>⟨[],by rw[y20,Af]; exact .nil⟩
 |i::z,_,.cons r t=>by
  obtain⟨u,rfl⟩:=r;obtain⟨as,q⟩:=Pf t;exact⟨[]++as,by rw[yc,Af,Dm.dat]; exact .cons (.int i u) q⟩
theorem FlK.reads(I:Inv X pins σ H s)(h:FlK X.K H x d)(F:d.shut=true)(r:RelV x u):∃as,Reads s.heap u d.dat as:=by
 rcases h with h|⟨p,J,rfl,rfl,h⟩
 ·exact Dt.reads I h F r
 ·cases r;obtain⟨B,z,⟨o,G,hc,n,hd⟩,_⟩:=I.tuple h;obtain⟨as,q⟩:=Pf (h:=s.heap) z;exact⟨as,by rw[Dm.dat]; exact .tuple G hc hd (by simpa using q)⟩
def EqK(K:y3)(H:Hp)(x y:V)(b:Bool):Prop:=∃d e,FlK K H x d/\FlK K H y e/\(d.shut=true/\SeqAt.shaped d.dat=true)/\(e.shut=true/\SeqAt.shaped e.dat=true)/\b=PyData.eqv d.dat e.dat
def Ht(K:y3):R2:=fun x y H Q=>∃b,EqK K H x y b/\Q (.bl b) H
theorem kEq(Z:X.A.units+64<cLine):OpR X (y09 .Eq) (Ht X.K):=by
 intro pins s σ H x y v u Q I M J h;obtain⟨b,⟨d,e,dx,dy,⟨G,F⟩,⟨B,z⟩,rfl⟩,q⟩:=h;obtain⟨as,Y⟩:=dx.reads I G M;obtain⟨bs,O⟩:=dy.reads I B J;exact eq_dataH Y O F z Z ⟨.bl _,H,I,rfl,q⟩
theorem Pg:∀{ks:List Str} {es:List DictEntry},Paired (fun(v:V) (q:DictEntry)=>RelV v q.key) (ks.map V.str) es->StrsAre (es.map (·.key)) ks
 |[],_,h=>by
  cases h;exact .nil
 |x::ks,_,h=>by
  cases h with
  |cons r t=>
   obtain⟨tk,e⟩:∃tk,_=Value.str x tk:=r;rw[yc,e];exact .cons x tk (Pg t)
end
section
variable{prog:yl}{w:y07}{A:y0a}{E:ya->y9->Prop}{s:y9}{d:Addr}{es:Array DictEntry}{ep:Nat}{o:Obj}
theorem X4{Q:ya->y9->Prop}(hh:A.handled=none)(lo:(d==sysModules)=false)(e:s.heap.get? d=some o)(x:o.ExactDict)(dd:o.data=.dict es ep)(z:StrsAre (es.toList.map (·.key)) ks)(lh:ks.length<64)
  (q:∀(h':Heap) (tk:Nat) (l:Addr) (out:Array ya) (n:Nat) (B:List Str),s.heap.objs.size<=l->(∀b u,s.heap.get? b=some u->h'.get? b=some u)->h'.get? l=some (y1e "list" out n)->StrsAre out.toList B->B.Perm ks->sortedS B=true->
   Q (.ref l) {s with heap:=h',toks:=tk}):yy (y03 prog w) A (call (.builtin "sorted") [.ref d]) Q E s:=by
 have lc:es.size=ks.length:=by
  have:=z.length;rw[y4,y0f] at this;exact this
 refine y2x kind_sorted plain_sorted entry_sorted (args_sorted1 _) ?_;unfold Builtin.«sorted»;refine y8 (m:=checkCount "sorted" 1 1 _) (ye (y8 (Pd (by simpa using hh) lo e x dd (D8 (by lia)) fun h1 F z1 Z=>?_)));generalize es.toList.map (·.key)=vs at z |-;have lg:vs.length=ks.length:=z.length;refine y8 (y2u ?_ (D8 (by lia)));have J:(h1.push (y1e "list" vs.toArray 0)).get? h1.objs.size=some (y1e "list" vs.toArray 0):=yg _ rfl;refine y8 (y16 (y0j slot_list_sort ⟨_,J,rfl⟩ entry_list_sort (list_sort_treeK PyProof.Rows.strKind_oneLt J z.keysOf (fun O M B9 e=>keyKind_strs (by rw[<- e]; exact z)) (by lia) fun G hp hs=>⟨_,rfl,?_⟩) (args_list_sort _)));obtain⟨B,a1,a2,a3⟩:=sorted_out_str z hp hs;refine ye ⟨_,rfl,?_⟩;obtain⟨n,en⟩:=sortedHeap_at (out:=(arrOf G).map (·.2)) J;refine q _ F h1.objs.size _ n B z1 (fun b u hu=>?_) en a1 a2 a3;have Y:=yd (Z b u hu);rw[sortedHeap_old (yj Y) (by rw[y3u]; exact y2f Y)];exact y6 _ (Z b u hu)
end
def X5:List V->Hp->VK->Prop:=fun xs H Q=>∃(d:Addr) (kvs:List (Key×V)) (ks:List Str),xs=[.ref d]/\Rd H d (.dK kvs)/\kvs.map (·.1)=ks.map Sum.inr/\ks.length<64/\
 ∀(l:Addr) (q:List Str),H l=none->q.Perm ks->sortedS q=true->Q (.ref l) (upd H l (.lst (q.map V.str)))
theorem Lg(hc:X.calm=true):B3 X (.builtin "sorted") X5:=by
 intro pins s σ H xs us Q I r h;obtain⟨d,kvs,ks,rfl,hr,z,B,q⟩:=h;obtain⟨u,rfl,Y⟩:=r.one;cases Y;obtain⟨hz,lo,vs,O,o,es,ep,ho,hx,hd,hk,Z,hn⟩:=(show ObjOk X.prog X.w H s.heap d (.dK kvs) from hr.ok I.hok);have F:=Ld Z O;have ek:(kvs.map fun kv=>kV kv.1)=ks.map V.str:=by
  have:(kvs.map (·.1)).map kV=(ks.map Sum.inr).map kV:=by rw[z]
  rw[y0m,y0m] at this;exact this
 rw[ek] at F;refine X4 (I.ok.hd hc) lo ho hx hd (Pg F) B fun h' tk l out n G J k en a1 M a3=>?_;refine⟨.ref l,_,I.laid (t':=tk) k J (show ObjOk X.prog X.w _ _ _ (.lst (G.map V.str)) from⟨?_,out.toList,n,Ol a1,?_⟩),rfl,q l G (I.hok.fresh J) M a3⟩
 ·rw[y4,M.length_eq];exact y1a (An (by lia))
 ·simpa [y1e] using en
def JE(K:y3):R2:=fun x y H Q=>Dk x y H Q\/OP K x y H Q
theorem X6(q:X.A.units<cLine):OpR X (y09 .Lt) (JE X.K):=gLtS.or (VB q)
def Lh(prog:yl)(w:y07)(A:y0a)(s:y9)(v u:ya):Prop:=∀(E:ya->y9->Prop) (Q:Bool->y9->Prop),(∀b,Q b s)->yy (y03 prog w) A (eqBool v u) Q E s
section
variable{prog:yl}{w:y07}{A:y0a}{E:ya->y9->Prop}{s:y9}
theorem X7{a b:Addr}(h:∀(E:ya->y9->Prop) (Q:ya->y9->Prop),(∀c,Q (.bool c) s)->yy (y03 prog w) A (y09 .Eq (.ref a) (.ref b)) Q E s):Lh prog w A s (.ref a) (.ref b):=fun E Q q=>by
 unfold eqBool;refine y16 (y1r (fun _=>y8 (y3r (ye (q _)))) fun _=>?_);exact y8 (h E _ fun c=>y17 (q c))
theorem Ph{K:Type} [DecidableEq K] {kb:List (K×ya)}:∀(ka:List (K×ya)),(∀x∈ka,∀y∈kb,∃e,SeqAt.EqAt A s x.2 y.2 e)->∃r,KeqHits A s kb ka r
 |[],_=>⟨_,.nil⟩
 |(k,v)::r,h=>by
  obtain⟨b,hb⟩:=Ph r fun x hx=>h x (yx _ hx);cases e:valueAt kb k with
  |none=>exact⟨_,.miss e⟩
  |some y=>
   obtain⟨z,q,B⟩:∃z∈kb,z.2=y:=by
    unfold valueAt at e;obtain⟨z,q,F⟩:=Option.map_eq_some_iff.mp e;exact⟨z,List.mem_of_find?_eq_some q,F⟩
   obtain⟨c,hc⟩:=h _ y00 z q;exact⟨_,.hit e (B ▸ hc) hb⟩
variable{κ:Type} [DecidableEq κ] {knd:HeapKind prog w κ}
theorem X8{nm:String}{a b:Addr}{xs ys:List (κ×Addr×ya)}{Q:Bool->y9->Prop}(ha:(a==sysModules)=false)(hb:(b==sysModules)=false)(da:s.heap.DictOfH knd a xs)(db:s.heap.DictOfH knd b ys)(hu:knd.room A)(he:∀x∈xs,∀y∈ys,Lh prog w A s x.2.2 y.2.2)(h:∀r,Q r s):yy (y03 prog w) A (Builtin.Dict.samePairs nm a b) Q E s:=by
 obtain⟨oa,es,ep,B,_,F,O,lg,_⟩:=da;obtain⟨ob,lh,lj,G,_,J,M,lc,Z⟩:=db;have hsz:es.size=xs.length:=size_of_entries O;unfold Builtin.Dict.samePairs Builtin.Dict.showsAll;rw[ha,hb,if_neg yo];refine y8 (ye (y8 (ye (y8 (y1s B F ?_)))));refine y8 (y1s G J (y1r (fun _=>y8 (y3r (ye (h _)))) fun _=>?_));refine y8 (y32 B F (y8 ?_));rw[Std.Legacy.Range.forIn_eq_forIn_range'];refine wpAny_forIn_list _ (fun B9 q s'=>s'=s/\q=(none,())/\∀i∈B9,i<es.size) _ ?_ ?_ _ _ ⟨rfl,rfl,fun i hi=>by simpa [Std.Legacy.Range.size] using hi⟩
 ·rintro i B9 q s' ⟨rfl,rfl,hr⟩;have hi:i<xs.length:=by have:=hr i y00; lia
  refine y8 (y1s B F ?_);rw[entry_at O i,yf hi];have Y:=y2h hi;generalize xs[i]=z at Y;show yy _ _ (holding _ _ >>= _) _ _ _;refine y8 (y16 (y8 (wpAny_dictFind_heap hu (lg z Y) G J M lc Z (fun _=>ye ?_) fun j p hj=>?_)))
  ·exact ye (ye (h _))
  ·refine y8 (y1s G J ?_);rw[entry_at M j,hj];refine y16 (he z Y _ (yi hj) _ _ fun c=>?_);cases c with
   |false=>exact ye (ye (h _))
   |true=>
    refine y8 (y32 B F ?_);refine y1r (fun z=>absurd z (by simp)) fun _=>?_;exact ye ⟨rfl,rfl,fun i hi=>hr i (yx _ hi)⟩
 ·rintro q s' ⟨rfl,rfl,_⟩;exact ye (h _)
theorem X9{a b:Addr}{xs ys:List (κ×Addr×ya)}{Q:ya->y9->Prop}(ha:(a==sysModules)=false)(hb:(b==sysModules)=false)(q:s.heap.DictOfH knd a xs)(B:s.heap.DictOfH knd b ys)(hv:A.units<cLine)(G:knd.room A.in1)(J:∀x∈xs,∀y∈ys,Lh prog w A.in1 s x.2.2 y.2.2)(h:∀r,Q (.bool r) s):yy (y03 prog w) A (y09 .Eq (.ref a) (.ref b)) Q E s:=by
 refine wpAny_richCompare_same_room (op:=.Eq) q.typeIs B.typeIs F.slot_dict_eq (y0j F.slot_dict_eq q.typeIs F.entry_dict_eq ?_ (F.args_dict_eq_2 _ _)) hv;show yy _ _ (Builtin.Dict.dictSlotArgs "__eq__" _ >>= _) _ _ s;unfold Builtin.Dict.dictSlotArgs;refine y8 (y8 (y3j q.typeIs (ye (y8 (wpAny_isInstance (T:="dict") B.typeIs F.sub_dict_dict ?_)))));refine y1r (fun z=>absurd z (by simp)) fun _=>y8 (ye (y8 (ye (y8 (X8 ha hb q B G J fun r=>?_)))));exact ye ⟨_,rfl,(fun x=>nomatch x),h _⟩
def DDs(H:Hp)(a:Addr):Prop:=∃kvs,Rd H a (.dT kvs)/\∀x∈kvs,∃d q,x.2=.ref d/\Rd H d (.dK q)/\∀y∈q,∃m,Dt H y.2 m/\m.shut=true/\SeqAt.shaped m.dat=true
def Pj(_:y3):R2:=fun x y H Q=>∃a b,x=.ref a/\y=.ref b/\DDs H a/\DDs H b/\∀c,Q (.bl c) H
end
section
variable{X:Cx}
theorem Pk{κ:Type}{l:List (κ×V)}{m:List (κ×ya)}(h:KV l m):∀y∈m,∃x∈l,RelV x.2 y.2:=by
 unfold KV at h;induction h with
 |nil=>intro y hy; cases hy
 |cons r _ q=>
  intro y hy;rcases List.mem_cons.mp hy with rfl|hy
  ·exact⟨_,y00,r.2⟩
  ·obtain⟨x,hx,e⟩:=q y hy;exact⟨x,yx _ hx,e⟩
theorem Pl{H:Hp}{l:List (List Key×V)}{m:List (List Key×Addr×ya)}(h:KT H l m):∀y∈m,∃x∈l,RelV x.2 y.2.2:=by
 unfold KT at h;induction h with
 |nil=>intro y hy; cases hy
 |cons r _ q=>
  intro y hy;rcases List.mem_cons.mp hy with rfl|hy
  ·exact⟨_,y00,r.2.2⟩
  ·obtain⟨x,hx,e⟩:=q y hy;exact⟨x,yx _ hx,e⟩
theorem Room.units2{k:Nat}{A:y0a}(r:Room k A):A.units+200<cLine:=by have:=r.un; lia
theorem XA(hu:X.A.units+200<cLine):OpR X (y09 .Eq) (Pj X.K):=by
 intro pins s σ H x y v u Q I F B h;obtain⟨a,b,rfl,rfl,⟨ka,J,va⟩,⟨kb,G,vb⟩,q⟩:=h;cases F; cases B;obtain⟨_,na,xs,ta,da⟩:=D4 I.hok J;obtain⟨_,nb,ys,tb,db⟩:=D4 I.hok G;have u1:X.A.in1.units=X.A.units+1:=rfl;have u2:X.A.in1.in1.in1.units=X.A.units+3:=rfl;refine X9 na nb da db (by lia) (show X.A.in1.units<cLine by lia) (fun⟨pk,pa,pv⟩ hp ⟨rk,lg,rv⟩ hr=>?_) fun c=>⟨.bl c,H,I,rfl,q c⟩;obtain⟨p0,Z,rp⟩:=Pl ta _ hp;obtain⟨r0,Y,rr⟩:=Pl tb _ hr;obtain⟨d1,k1,e1,R1,D1⟩:=va p0 Z;obtain⟨d2,k2,e2,R2,D2⟩:=vb r0 Y;rw[e1] at rp;rw[e2] at rr;cases rp; cases rr;obtain⟨_,n1,m1,t1,f1⟩:=Ce I.hok R1;obtain⟨_,n2,m2,t2,f2⟩:=Ce I.hok R2;refine X7 fun E Q q=>?_;obtain⟨z,hz⟩:=Ph (A:=X.A.in1.in1) (s:=s) (kb:=m2) m1 fun x hx y hy=>by
  obtain⟨x0,O,F⟩:=Pk t1 x hx;obtain⟨y0,M,B⟩:=Pk t2 y hy;obtain⟨m,dm,s1,s2⟩:=D1 x0 O;obtain⟨m',lc,s3,s4⟩:=D2 y0 M;obtain⟨as,J⟩:=Dt.reads I dm s1 F;obtain⟨bs,G⟩:=Dt.reads I lc s3 B;exact⟨_,SeqAt.eqAt_reads _ _ _ s _ _ as bs J G (SeqAt.canLay_of_shaped s2) (SeqAt.canLay_of_shaped s4) (SeqAt.room_of_shaped s2 (by show X.A.units+2+64<cLine; lia))⟩
 exact keq_eq n1 n2 f1 f2 (show X.A.units+1<cLine by lia) (fun _=>hz) (q _)
theorem XB:typeLookup (.type "tuple") "keys" = pure none:=by rw[typeLookup_type,builtinLookup_eq_fast]; kernel_rfl
end
section
variable{prog:yl}{w:y07}{A:y0a}{E:ya->y9->Prop}{s:y9}{a:Addr}
theorem XD{z:Array ya}{n:Nat}{J:Array (Option ya)}{Q:Option ya->y9->Prop}(Z:A.handled=none) (hx:s.heap.get? a=some {cls:=.type "tuple",data:=.seq z n,slots:=J}) (q:∀h' tk,(∀b o,s.heap.get? b=some o->h'.get? b=some o)->Q none {s with heap:=h',toks:=tk}) :
  yy (y03 prog w) A (getAttr? (.ref a) "keys") Q E s:=by
 obtain⟨M,g,d,tk,os⟩:=s;have hT:Shared.TypeIs ⟨M,g,d,tk,os⟩ (.ref a) "tuple":=⟨_,hx,rfl⟩;have G:Shared.TypeIs ⟨M,g,d,tk+1,os⟩ (.ref a) "tuple":=⟨_,hx,rfl⟩;have f1:=sub_AttributeError;have f3:=F.slot_tuple_getattribute.lookup;have f4:=F.slot_tuple_getattribute.bind (.ref a);have f5:=am_tuple_getattr_none;unfold getAttr? getAttrBy? getAttrBy;repeat (any_goals (first|assumption|((with_reducible show yy _ _ (call (Value.builtin "tuple.__getattribute__") _ _) _ _ _); refine y3v F.slot_tuple_getattribute G am_entry_tuple_getattribute (F.args_tuple_getattribute_2 _ _) (meets_getattribute_miss_tuple a z n J "keys" _ XB (by decide+kernel)) ⟨hx,Z,fun h' O e B=>?_⟩)|wp_step))
 obtain⟨t',u',he⟩:=B.there;show yy _ _ (getattributeRaised _ _ _ _ _ _ _) _ _ _;unfold getattributeRaised;repeat (any_goals (first|assumption|wp_step))
 exact q _ _ fun b Y e=>B.keeps b Y e
end
def XE:List V->Hp->VK->Prop:=fun xs H Q=>∃(a:Addr) (vs:List V) (l:List (Str×Int)),xs=[.ref a]/\H a=some (.tup vs)/\DtA H vs (l.map Iy)/\l.length<=1000/\
 ∀(p:Addr),H p=none->Q (.ref p) (upd H p (.dK (l.foldl (fun k r=>AM k (Sum.inr r.1) (V.int r.2)) [])))
section
variable{X:Cx}{pins:List (Addr×Obj)}{σ:St}{H:Hp}{s:y9}
theorem XF(hc:X.calm=true):B3 X (.type "dict") XE:=by
 intro pins s σ H xs us Q I r h;obtain⟨a,vs,l,rfl,hH,hd,hz,q⟩:=h;obtain⟨u,rfl,r1⟩:=r.one;cases r1;obtain⟨z,Y,rv,o,e,ln,⟨n,lm⟩,lj⟩:=(show ObjOk X.prog X.w H s.heap a (.tup vs) from I.hok a _ hH);have hl:=rv.length;obtain⟨c0,d0,a0,sl⟩:=o;simp only at ln lm lj;subst ln lm lj;obtain⟨B,eq,pq⟩:=PU I hd rv;subst eq;obtain⟨lc,lv⟩:=DA pq;refine callType_codes (Q₁:=fun Z M=>Z=.ref s.heap.objs.size/\M = {s with heap:=s.heap.push {cls:=.type "dict",data:=.dict #[]}}) F.kt_called_dict (F.kt_typeCall_dict_1 _) F.entry_dict_init (kt_code_dict_new _ ⟨rfl,rfl⟩) ?_;rintro Z M ⟨rfl,rfl⟩;have G:(s.heap.push {cls:=.type "dict",data:=.dict #[]}).DictOf (AU X.prog X.w) s.heap.objs.size []:=Heap.DictOf.new s.heap;refine⟨G.typeIs,F.args_dict_init_2 _ _,?_⟩;unfold Builtin.«dict.__init__»;refine y8 ?_;unfold Builtin.Dict.selfAndRest;refine y8 (y3j G.typeIs ?_);show yy _ _ (pure (s.heap.objs.size,[Value.ref a])) _ _ _;refine ye ?_;show yy _ _ (Builtin.Dict.updateFrom "dict.__init__" s.heap.objs.size (.ref a) [] .none) _ _ _;unfold Builtin.Dict.updateFrom;have e1:(s.heap.push {cls:=.type "dict",data:=.dict #[]}).get? a=some {cls:=.type "tuple",data:=.seq (B.map fun q=>Value.ref q.r).toArray n,slots:=sl}:=y6 _ e;refine y8 (y2o (T:="tuple") ⟨_,e1,rfl⟩ ?_);rw[if_pos (by decide)];refine y8 (XD (by simpa using I.ok.hd hc) e1 fun h2 lp k2=>?_);refine y1r (fun _=>?_) (fun c=>absurd rfl c);have e2:=k2 a _ e1;have eD:=k2 _ _ (yg s.heap (o:={cls:=.type "dict",data:=.dict #[]}) rfl);have lD:s.heap.objs.size<h2.objs.size:=yd eD;have la:a<s.heap.objs.size:=yd e;have lg:h2.IsTuple a (B.map fun q=>Value.ref q.r).toArray:=⟨_,e2,rfl,n,rfl⟩;refine y8 (y3r (y8 (y1l (s:={s with heap:=h2,toks:=lp}) lg (ye ⟨y2v Dp _,?_⟩))));have W:=(Walks.tuple (prog:=X.prog) (w:=X.w) (A:=X.A.in1.in1) (by simpa using I.ok.hd hc) h2.objs.size a (yj (y0w la lD)) (B.map fun q=>Value.ref q.r).toArray).toS;have hsz:(B.map fun q=>Value.ref q.r).toArray.size=B.length:=by simp
 rw[hsz] at W;have lh:∀j,j<B.length->B[j]?=some (B.getD j default):=fun j J=>by
  rw[yq,yf J]; rfl
 have lu:∀j,j<B.length->l[j]?=some (l.getD j ("",0)):=fun j J=>by
  rw[yq,yf (by lia)]; rfl
 have ok:∀j,j<B.length->LZ H s.heap (l.getD j ("",0)) (B.getD j default):=fun j J=>lv j _ _ (lu j J) (lh j J);have kp:∀b o,s.heap.get? b=some o->(h2.push {cls:=.type "tuple_iterator",data:=.fields #[.ref a,.int 0 0]}).get? b=some o:=fun b o q=>y6 _ (k2 b o (y6 _ q));refine Wu (A:=X.A.in1) (D:=s.heap.objs.size) (rw_:=fun j=>(B.getD j default).r) (kv:=fun j=>(B.getD j default).k) (va:=fun j=>(B.getD j default).u) (ks:=fun j=>Sum.inr (l.getD j ("",0)).1) W ?_ (fun i v hv=>?_) (fun i hi=>Ev (k:=Sum.inr (l.getD i ("",0)).1) (ok i hi).1) (by lia) (fun j J=>?_) B.length 0 _ (Nat.zero_add _) ⟨⟨_,yg _ rfl,rfl,rfl⟩,lg.push _⟩ ?_ (fun j J=>?_) fun s' mv x=>?_
 ·simp only[yv,yp,or_false,not_or];exact⟨yj lD,y19 la⟩
 ·have hi:i<B.length:=by
   refine Classical.byContradiction fun z=>?_;rw[y1v (by rw[hsz]; lia)] at hv;cases hv
  have z:(B.map fun q=>Value.ref q.r)[i]?=some v:=by simpa using hv
  rw[ym,lh i hi] at z;exact(yz z).symm
 ·obtain⟨_,_,o,Y,k,g1,_⟩:=ok j J;have b1:=yd g1;simp only[yv,yp,or_false,not_or];exact⟨yj b1,yj (y0w b1 lD)⟩
 ·exact LY G (fun o z=>y6 _ (k2 _ o z))
 ·obtain⟨_,_,o,Y,k,g1,r1⟩:=ok j J;exact⟨o,Y,k,kp _ _ g1,r1⟩
 ·obtain⟨h',g',d',lq,lr⟩:=s';have z1:g'=s.gens:=mv.gens;have z2:d'=s.drawn:=mv.drawn;have z3:lr=s.os:=mv.os;subst z1 z2 z3;refine⟨rfl,?_⟩;have kf:∀b o,s.heap.get? b=some o->h'.get? b=some o:=fun b o q=>by
   have lb:=yd q;refine mv.heap b o ?_ (kp b o q);simp only[yv,yp,or_false,not_or];exact⟨yj lb,yj (y0w lb lD)⟩
  have O:=Wv pq l.length (yb _);rw[y0h,lc] at O;have ls:=O.length;have lx:=LX (fun j=>(Sum.inr (l.getD j ("",0)).1:Key)) (fun j=>(B.getD j default).u) B.length;refine⟨.ref s.heap.objs.size,_,I.laid (t':=lq) kf (yb _) (show ObjOk X.prog X.w _ _ _ (.dK (l.foldl (fun k r=>AM k (Sum.inr r.1) (V.int r.2)) [])) from⟨?_,?_,_,O,x⟩),rfl,q _ (I.hok.fresh (yb _))⟩
  ·rw[ls];exact J0 (by lia)
  ·have:=I.big;exact beq_eq_false_iff_ne.mpr (y19 this)
end
def JF(sp:Sp):Sp:=fun vs H Q E=>sp vs H Q E\/∃d k,Rd H d (.dT k)/\∀o,sp vs (upd H d (.frz o (.dT k))) (fun v H2=>H2 d=some (.frz o (.dT k))->Q v H2) E
theorem FnOk.fz{P:yl}{w:y07}{K:y3}{mg:Str->Option ya}{base:Heap}{k:Nat}{f:Addr}{fd:y0v}{ps:List Str}{sp:Sp}(F:FnOk P w K mg base CX0 k f fd ps sp):FnOk P w K mg base CX0 k f fd ps (JF sp):=by
 refine⟨fun vs H Q E h=>?_,fun A outer s H args us vs Q E hr B hb hv h=>?_⟩
 ·rcases h with h|⟨d,k,hd,h⟩
  ·exact F.len vs _ _ E h
  ·exact F.len vs _ _ E (h default)
 rcases h with h|⟨d,k,hd|⟨o,hd⟩,h⟩
 ·exact F.run A outer s H args us vs Q E hr B hb hv h
 rotate_left
 ·have eu:upd H d (.frz o (.dT k))=H:=by
   funext b;by_cases z:b=d
   ·subst z;rw[A6,hd]
   ·rw[AB z]
  have h:=h o;rw[eu] at h;refine y1w (F.run A outer s _ args us vs _ E hr B hb hv h) fun r s' q=>?_;cases r with
  |ok fl=>
   cases fl with
   |ret u=>
    obtain⟨v,H',x1,Z,G,Y,O,M⟩:=q;exact⟨v,H',x1,Z,G,Y,O,M (G.frzs d o _ hd)⟩
   |_=>exact q
  |error e=>exact q
 obtain⟨o,ho⟩:∃o,s.heap.get? d=some o:=by
  obtain⟨_,_,_,_,o,_,_,e,_⟩:=(show ObjOk P w H s.heap d (.dT k) from B.hok d _ hd);exact⟨o,e⟩
 have out:∀{b:Addr} {v:HO},H b=some v->v≠.dT k->(upd H d (.frz o (.dT k))) b=some v:=fun {b v} q n=>by rw[AB (BL q hd n)]; exact q
 have non:∀{b:Addr},H b=none->(upd H d (.frz o (.dT k))) b=none:=fun {b} q=>by rw[AB (y0y (Ag hd q))]; exact q
 have st:∀{a:Addr} {v:HO},H a=some v->ObjOk P w (upd H d (.frz o (.dT k))) s.heap a v:=fun {a v} q=>(B.hok a v q).stay (fun _ _ _ q=>q) (fun b q=>out q (by intro z; cases z)) fun b xs q=>out q (by intro z; cases z);have e0:Env0 P w K mg base A outer s (upd H d (.frz o (.dT k))):=⟨B.frames,B.mod,fun b o e=>⟨(B.bs b o e).1,non (B.bs b o e).2⟩,B.bsz,B.funs,fun b hb=>non (B.frf b hb),fun a v q=>by
  by_cases ha:a=d
  ·subst ha
   rw[A6] at q
   cases q
   exact⟨ho,st hd⟩
  ·rw[AB ha] at q
   exact st q,B.bare⟩
 refine y1w (F.run A outer s _ args us vs _ E hr e0 hb hv (h o)) fun r s' q=>?_;cases r with
 |ok fl=>
  cases fl with
  |ret u=>
   obtain⟨v,H',x1,Z,G,Y,O,M⟩:=q;exact⟨v,H',x1,Z,⟨fun b J e n=>G.keep b J e (non n),fun b J e n=>G.slot b J e (non n),fun b J e n=>G.free b J e (non n),G.there,fun b xs e=>G.tups b xs (out e (by intro z; cases z)),fun b J v e=>G.frzs b J v (out e (by intro z; cases z)),fun b ps e=>G.tbls b ps (out e (by intro z; cases z))⟩,Y,O,M (G.frzs d o _ A6)⟩
  |_=>exact q
 |error e=>exact q
end L2
set_option maxHeartbeats 0
namespace SR
open PySem L2
abbrev CDF(x:Str):Prop:=(x==("__classdict__" : Str))=false
abbrev DBF(x:Str):Prop:=(x==("__debug__" : Str))=false
abbrev GLF(s:Stmt)(x:Str):Prop:=(defScope s).names.lookup x=some NameKind.globalImplicit
def VD(s:Scope)(x:Str):Prop:=Vis s x/\(x==("__debug__" : Str))=false/\(x==("__classdict__" : Str))=false
abbrev VE(s:Stmt)(x:Str):Prop:=VD (defScope s) x
theorem ve1{s:Stmt}{x:Str} (h:(defScope s).names.lookup x=some NameKind.local/\(x==("__debug__" : Str))=false/\(x==("__classdict__" : Str))=false):VE s x:=⟨.inl h.1,h.2⟩
theorem ve2{s:Stmt}{x:Str} (h:(defScope s).names.lookup x=some NameKind.cell/\(x==("__debug__" : Str))=false/\(x==("__classdict__" : Str))=false):VE s x:=⟨.inr (.inl h.1),h.2⟩
theorem A2{X:Cx}{x:Str}{pos:Pos}(i:Nat)(q:X.N[i]?=some x)(h:VD X.env.scope x):PE X (.Name x pos) (Az i):=AQ q h.1 h.2.1 h.2.2
local macro_rules | `(tactic| walk_at "vc")=>`(tactic| first | exact Or.inl rfl | exact Or.inr (Or.inl rfl) | exact Or.inr (Or.inr rfl))
def top(i:Nat):Stmt:=PySem.Challenge.pw_smallrooms_k35_whole_at_whiles.main.body.getD i (.Pass ⟨0,0,0,0⟩)
theorem Hu:bootBuiltins "all" = some (.builtin "all"):=by decide+kernel
theorem XG:bootBuiltins "bool" = some (.type "bool"):=by decide+kernel
theorem GR:bootBuiltins "dict" = some (.type "dict"):=by decide+kernel
theorem XH:bootBuiltins "int" = some (.type "int"):=by decide+kernel
theorem GS:bootBuiltins "isinstance" = some (.builtin "isinstance"):=by decide+kernel
theorem JG:bootBuiltins "len" = some (.builtin "len"):=by decide+kernel
theorem DB:bootBuiltins "max" = some (.builtin "max"):=by decide+kernel
theorem GT:bootBuiltins "min" = some (.builtin "min"):=by decide+kernel
theorem Dr:bootBuiltins "sorted" = some (.builtin "sorted"):=by decide+kernel
theorem XI:bootBuiltins "str" = some (.type "str"):=by decide+kernel
theorem GU:bootBuiltins "tuple" = some (.type "tuple"):=by decide+kernel
theorem Pm:CDF "_law_notes":=by decide+kernel
theorem JH:CDF "_law_one":=by decide+kernel
theorem Li:CDF "_law_row":=by decide+kernel
theorem XJ:CDF "_law_worth":=by decide+kernel
theorem XL:CDF "_law_worths":=by decide+kernel
theorem XM:CDF "book":=by decide+kernel
theorem Pn:CDF "heads":=by decide+kernel
theorem XN:CDF "is_row":=by decide+kernel
theorem Po:CDF "low_or_high":=by decide+kernel
theorem JJ:CDF "name":=by decide+kernel
theorem XO:CDF "notes":=by decide+kernel
theorem XQ:CDF "number":=by decide+kernel
theorem Pp:CDF "one":=by decide+kernel
theorem JK:CDF "other":=by decide+kernel
theorem Ds:CDF "path":=by decide+kernel
theorem XR:CDF "row":=by decide+kernel
theorem XS:CDF "rows":=by decide+kernel
theorem JL:CDF "settle":=by decide+kernel
theorem XT:CDF "wants":=by decide+kernel
theorem Ps:CDF "word":=by decide+kernel
theorem Pt:CDF "worth":=by decide+kernel
theorem XU:DBF "NARROWING_PASSES":=by decide+kernel
theorem XV:DBF "PLAIN_PASSES":=by decide+kernel
theorem DC:DBF "WIDE":=by decide+kernel
theorem XW:DBF "Walk":=by decide+kernel
theorem Pu:DBF "ZERO":=by decide+kernel
theorem XX:DBF "_law_all_worths":=by decide+kernel
theorem XY:DBF "_law_cell":=by decide+kernel
theorem Pw:DBF "_law_notes":=by decide+kernel
theorem JM:DBF "_law_one":=by decide+kernel
theorem JN:DBF "_law_pick":=by decide+kernel
theorem Lj:DBF "_law_row":=by decide+kernel
theorem XZ:DBF "_law_worth":=by decide+kernel
theorem Xa:DBF "_law_worths":=by decide+kernel
theorem Hv:DBF "all":=by decide+kernel
theorem Px:DBF "are_rising_rows":=by decide+kernel
theorem Xb:DBF "behind":=by decide+kernel
theorem Xc:DBF "behind_question":=by decide+kernel
theorem Hw:DBF "between":=by decide+kernel
theorem Xd:DBF "book":=by decide+kernel
theorem Py:DBF "book_of":=by decide+kernel
theorem Xe:DBF "bool":=by decide+kernel
theorem GV:DBF "dict":=by decide+kernel
theorem Pz:DBF "do_block":=by decide+kernel
theorem Xf:DBF "do_deed":=by decide+kernel
theorem Xg:DBF "do_if":=by decide+kernel
theorem Xh:DBF "do_set":=by decide+kernel
theorem Xi:DBF "do_while":=by decide+kernel
theorem Q0:DBF "go_block":=by decide+kernel
theorem Xj:DBF "go_deed":=by decide+kernel
theorem Xk:DBF "go_if":=by decide+kernel
theorem Xl:DBF "go_set":=by decide+kernel
theorem Xm:DBF "go_while":=by decide+kernel
theorem Xn:DBF "grown":=by decide+kernel
theorem Q1:DBF "grown_to_hold":=by decide+kernel
theorem Xo:DBF "hastened":=by decide+kernel
theorem Q2:DBF "heads":=by decide+kernel
theorem Xp:DBF "heads_of":=by decide+kernel
theorem Xq:DBF "int":=by decide+kernel
theorem Xr:DBF "is_book_within":=by decide+kernel
theorem Q3:DBF "is_held":=by decide+kernel
theorem Q4:DBF "is_paper":=by decide+kernel
theorem Xs:DBF "is_paper_row":=by decide+kernel
theorem Xt:DBF "is_path":=by decide+kernel
theorem Xu:DBF "is_row":=by decide+kernel
theorem Xv:DBF "is_shelf_row":=by decide+kernel
theorem Lk:DBF "is_tuple_of":=by decide+kernel
theorem Q5:DBF "is_whole":=by decide+kernel
theorem Ll:DBF "is_whole_from":=by decide+kernel
theorem Lm:DBF "is_within":=by decide+kernel
theorem GW:DBF "isinstance":=by decide+kernel
theorem JO:DBF "joined":=by decide+kernel
theorem Xw:DBF "joined_books":=by decide+kernel
theorem Q6:DBF "joined_to":=by decide+kernel
theorem Xx:DBF "left_by_same":=by decide+kernel
theorem Xy:DBF "left_of_name":=by decide+kernel
theorem Xz:DBF "left_of_one":=by decide+kernel
theorem Y0:DBF "left_of_other":=by decide+kernel
theorem JP:DBF "len":=by decide+kernel
theorem Q7:DBF "low_or_high":=by decide+kernel
theorem DD:DBF "max":=by decide+kernel
theorem Ln:DBF "met":=by decide+kernel
theorem GX:DBF "min":=by decide+kernel
theorem JQ:DBF "name":=by decide+kernel
theorem YA:DBF "names_at_first":=by decide+kernel
theorem YB:DBF "narrowed":=by decide+kernel
theorem Lo:DBF "noted":=by decide+kernel
theorem YC:DBF "notes":=by decide+kernel
theorem YD:DBF "notes_by":=by decide+kernel
theorem YE:DBF "number":=by decide+kernel
theorem Q8:DBF "one":=by decide+kernel
theorem JR:DBF "other":=by decide+kernel
theorem YF:DBF "paper_for":=by decide+kernel
theorem YG:DBF "paper_of":=by decide+kernel
theorem Du:DBF "path":=by decide+kernel
theorem JS:DBF "reckon":=by decide+kernel
theorem JT:DBF "reckoned_from":=by decide+kernel
theorem YH:DBF "row":=by decide+kernel
theorem YI:DBF "rows":=by decide+kernel
theorem YJ:DBF "run":=by decide+kernel
theorem Q9:DBF "run_by":=by decide+kernel
theorem JU:DBF "settle":=by decide+kernel
theorem YK:DBF "shelf_of":=by decide+kernel
theorem JV:DBF "show":=by decide+kernel
theorem YL:DBF "shown":=by decide+kernel
theorem QA:DBF "side_of":=by decide+kernel
theorem Dv:DBF "sorted":=by decide+kernel
theorem YM:DBF "str":=by decide+kernel
theorem QB:DBF "stretch_of":=by decide+kernel
theorem Lp:DBF "stretch_of_ends":=by decide+kernel
theorem YN:DBF "stretch_of_same":=by decide+kernel
theorem YO:DBF "traced":=by decide+kernel
theorem GY:DBF "tuple":=by decide+kernel
theorem QC:DBF "walk_by_paper":=by decide+kernel
theorem Lq:DBF "walked":=by decide+kernel
theorem YQ:DBF "wants":=by decide+kernel
theorem Lr:DBF "with_left":=by decide+kernel
theorem QD:DBF "word":=by decide+kernel
theorem QE:DBF "worth":=by decide+kernel
theorem Ls:DBF "worth_of":=by decide+kernel
theorem Hx:("all" : Str)≠"__name__":=by decide+kernel
theorem YR:("bool" : Str)≠"__name__":=by decide+kernel
theorem GZ:("dict" : Str)≠"__name__":=by decide+kernel
theorem YS:("int" : Str)≠"__name__":=by decide+kernel
theorem Ga:("isinstance" : Str)≠"__name__":=by decide+kernel
theorem JW:("len" : Str)≠"__name__":=by decide+kernel
theorem DE:("max" : Str)≠"__name__":=by decide+kernel
theorem Gb:("min" : Str)≠"__name__":=by decide+kernel
theorem Dw:("sorted" : Str)≠"__name__":=by decide+kernel
theorem YT:("str" : Str)≠"__name__":=by decide+kernel
theorem Gc:("tuple" : Str)≠"__name__":=by decide+kernel
abbrev F4:Stmt:=top 6
theorem YU:FnScope ["thing"] ["thing"] (defScope F4):=⟨rfl,rfl,rfl,by decide+kernel,rfl,by decide+kernel,by decide+kernel⟩
theorem YV:GLF F4 "bool":=by decide+kernel
theorem YW:GLF F4 "int":=by decide+kernel
theorem QF:GLF F4 "isinstance":=by decide+kernel
theorem QG:VE F4 "thing":=ve1 (by decide+kernel)
abbrev F5:Stmt:=top 7
theorem YX:FnScope ["thing","low","high"] ["thing","low","high"] (defScope F5):=⟨rfl,rfl,rfl,by decide+kernel,rfl,by decide+kernel,by decide+kernel⟩
theorem YY:GLF F5 "is_whole":=by decide+kernel
theorem YZ:VE F5 "high":=ve1 (by decide+kernel)
theorem Ya:VE F5 "low":=ve1 (by decide+kernel)
theorem Lu:VE F5 "thing":=ve1 (by decide+kernel)
abbrev Dx:Stmt:=top 8
theorem Yb:FnScope ["thing","many"] ["thing","many"] (defScope Dx):=⟨rfl,rfl,rfl,by decide+kernel,rfl,by decide+kernel,by decide+kernel⟩
theorem Yc:GLF Dx "isinstance":=by decide+kernel
theorem Yd:GLF Dx "len":=by decide+kernel
theorem Ye:GLF Dx "tuple":=by decide+kernel
theorem Yf:VE Dx "many":=ve1 (by decide+kernel)
theorem QH:VE Dx "thing":=ve1 (by decide+kernel)
abbrev F6:Stmt:=top 9
theorem Yg:FnScope ["thing"] ["thing"] (defScope F6):=⟨rfl,rfl,rfl,by decide+kernel,rfl,by decide+kernel,by decide+kernel⟩
theorem Yh:GLF F6 "all":=by decide+kernel
theorem Yi:GLF F6 "isinstance":=by decide+kernel
theorem Yj:GLF F6 "tuple":=by decide+kernel
theorem QI:VE F6 "thing":=ve1 (by decide+kernel)
abbrev Dy:Stmt:=top 10
theorem Yk:FnScope ["thing","is_row"] ["thing","is_row"] (defScope Dy):=⟨rfl,rfl,rfl,by decide+kernel,rfl,by decide+kernel,by decide+kernel⟩
theorem QJ:GLF Dy "all":=by decide+kernel
theorem Yl:GLF Dy "isinstance":=by decide+kernel
theorem Ym:GLF Dy "tuple":=by decide+kernel
theorem Yn:GLF Dy "zip":=by decide+kernel
theorem JX:VE Dy "thing":=ve1 (by decide+kernel)
abbrev C4:Stmt:=top 12
theorem Yo:FnScope ["program","worths"] ["program","worths"] (defScope C4):=⟨rfl,rfl,rfl,by decide+kernel,rfl,by decide+kernel,by decide+kernel⟩
theorem Yp:GLF C4 "run_by":=by decide+kernel
theorem Yq:VE C4 "program":=ve1 (by decide+kernel)
theorem Yr:VE C4 "worths":=ve1 (by decide+kernel)
abbrev BQ:Stmt:=top 13
theorem sc_traced:FnScope ["program","worths","rows"] ["program","worths"] (defScope BQ):=⟨rfl,rfl,rfl,by decide+kernel,rfl,by decide+kernel,by decide+kernel⟩
theorem Ys:(defScope BQ).names.lookup ("rows" : Str)=some NameKind.cell:=by decide+kernel
theorem Yt:GLF BQ "run_by":=by decide+kernel
theorem Yu:Loc (defScope BQ) "rows":=Or.inr (by decide+kernel)
theorem Yv:VE BQ "program":=ve1 (by decide+kernel)
theorem Yw:VE BQ "rows":=ve2 (by decide+kernel)
theorem Yx:VE BQ "worths":=ve1 (by decide+kernel)
abbrev Br:Stmt:=top 14
theorem sc_run_by:FnScope ["program","worths","settle","names","refusal"] ["program","worths","settle"] (defScope Br):=⟨rfl,rfl,rfl,by decide+kernel,rfl,by decide+kernel,by decide+kernel⟩
theorem Yy:GLF Br "do_block":=by decide+kernel
theorem Yz:GLF Br "names_at_first":=by decide+kernel
theorem Z0:GLF Br "sorted":=by decide+kernel
theorem ZA:GLF Br "tuple":=by decide+kernel
theorem ZB:Loc (defScope Br) "names":=Or.inl (by decide+kernel)
theorem ZC:Loc (defScope Br) "refusal":=Or.inl (by decide+kernel)
theorem QK:VE Br "names":=ve1 (by decide+kernel)
theorem QL:VE Br "program":=ve1 (by decide+kernel)
theorem QM:VE Br "refusal":=ve1 (by decide+kernel)
theorem ZD:VE Br "settle":=ve1 (by decide+kernel)
theorem ZE:VE Br "worths":=ve1 (by decide+kernel)
abbrev F7:Stmt:=top 15
theorem ZF:FnScope ["worth","path","rows"] ["worth","path","rows"] (defScope F7):=⟨rfl,rfl,rfl,by decide+kernel,rfl,by decide+kernel,by decide+kernel⟩
theorem QN:GLF F7 "WIDE":=by decide+kernel
theorem Lv:VE F7 "path":=ve1 (by decide+kernel)
theorem ZG:VE F7 "rows":=ve1 (by decide+kernel)
theorem Hy:VE F7 "worth":=ve1 (by decide+kernel)
abbrev Bl:Stmt:=top 16
theorem sc_names_at_first:FnScope ["ins","worths","names","row","worth"] ["ins","worths"] (defScope Bl):=⟨rfl,rfl,rfl,by decide+kernel,rfl,by decide+kernel,by decide+kernel⟩
theorem ZH:GLF Bl "is_tuple_of":=by decide+kernel
theorem ZI:GLF Bl "is_whole_from":=by decide+kernel
theorem ZJ:GLF Bl "len":=by decide+kernel
theorem ZK:GLF Bl "zip":=by decide+kernel
theorem ZL:Loc (defScope Bl) "names":=Or.inl (by decide+kernel)
theorem ZM:Loc (defScope Bl) "row":=Or.inl (by decide+kernel)
theorem ZN:Loc (defScope Bl) "worth":=Or.inl (by decide+kernel)
theorem QO:VE Bl "ins":=ve1 (by decide+kernel)
theorem QP:VE Bl "names":=ve1 (by decide+kernel)
theorem Lx:VE Bl "row":=ve1 (by decide+kernel)
theorem QQ:VE Bl "worth":=ve1 (by decide+kernel)
theorem QR:VE Bl "worths":=ve1 (by decide+kernel)
abbrev BZ:Stmt:=top 17
theorem sc_do_block:FnScope ["block","path","names","settle","at","deed","refusal"] ["block","path","names","settle"] (defScope BZ):=⟨rfl,rfl,rfl,by decide+kernel,rfl,by decide+kernel,by decide+kernel⟩
theorem ZO:GLF BZ "do_deed":=by decide+kernel
theorem ZP:GLF BZ "enumerate":=by decide+kernel
theorem ZQ:Loc (defScope BZ) "at":=Or.inl (by decide+kernel)
theorem ZR:Loc (defScope BZ) "deed":=Or.inl (by decide+kernel)
theorem ZS:Loc (defScope BZ) "refusal":=Or.inl (by decide+kernel)
theorem ZT:VE BZ "at":=ve1 (by decide+kernel)
theorem ZU:VE BZ "block":=ve1 (by decide+kernel)
theorem ZV:VE BZ "deed":=ve1 (by decide+kernel)
theorem ZW:VE BZ "names":=ve1 (by decide+kernel)
theorem ZX:VE BZ "path":=ve1 (by decide+kernel)
theorem QS:VE BZ "refusal":=ve1 (by decide+kernel)
theorem ZY:VE BZ "settle":=ve1 (by decide+kernel)
abbrev CP:Stmt:=top 18
theorem ZZ:FnScope ["deed","path","names","settle"] ["deed","path","names","settle"] (defScope CP):=⟨rfl,rfl,rfl,by decide+kernel,rfl,by decide+kernel,by decide+kernel⟩
theorem Za:GLF CP "do_if":=by decide+kernel
theorem Zb:GLF CP "do_set":=by decide+kernel
theorem Zc:GLF CP "do_while":=by decide+kernel
theorem Hz:VE CP "deed":=ve1 (by decide+kernel)
theorem Ly:VE CP "names":=ve1 (by decide+kernel)
theorem Lz:VE CP "path":=ve1 (by decide+kernel)
theorem M0:VE CP "settle":=ve1 (by decide+kernel)
abbrev CQ:Stmt:=top 19
theorem sc_do_set:FnScope ["deed","path","names","settle","had"] ["deed","path","names","settle"] (defScope CQ):=⟨rfl,rfl,rfl,by decide+kernel,rfl,by decide+kernel,by decide+kernel⟩
theorem Zd:GLF CQ "reckon":=by decide+kernel
theorem Ze:Loc (defScope CQ) "had":=Or.inl (by decide+kernel)
theorem QT:VE CQ "deed":=ve1 (by decide+kernel)
theorem M4:VE CQ "had":=ve1 (by decide+kernel)
theorem QU:VE CQ "names":=ve1 (by decide+kernel)
theorem Zf:VE CQ "path":=ve1 (by decide+kernel)
theorem Zg:VE CQ "settle":=ve1 (by decide+kernel)
abbrev QV:Stmt:=top 20
abbrev Ba:Stmt:=top 21
theorem sc_do_while:FnScope ["deed","path","names","settle","done","had","refusal"] ["deed","path","names","settle"] (defScope Ba):=⟨rfl,rfl,rfl,by decide+kernel,rfl,by decide+kernel,by decide+kernel⟩
theorem Zh:GLF Ba "do_block":=by decide+kernel
theorem Zi:GLF Ba "reckon":=by decide+kernel
theorem QW:Loc (defScope Ba) "done":=Or.inl (by decide+kernel)
theorem Zj:Loc (defScope Ba) "had":=Or.inl (by decide+kernel)
theorem Zk:Loc (defScope Ba) "refusal":=Or.inl (by decide+kernel)
theorem M5:VE Ba "deed":=ve1 (by decide+kernel)
theorem QX:VE Ba "done":=ve1 (by decide+kernel)
theorem M6:VE Ba "had":=ve1 (by decide+kernel)
theorem QY:VE Ba "names":=ve1 (by decide+kernel)
theorem M7:VE Ba "path":=ve1 (by decide+kernel)
theorem QZ:VE Ba "refusal":=ve1 (by decide+kernel)
theorem Qa:VE Ba "settle":=ve1 (by decide+kernel)
abbrev Bm:Stmt:=top 22
theorem sc_reckon:FnScope ["term","path","names","settle","one","other"] ["term","path","names","settle"] (defScope Bm):=⟨rfl,rfl,rfl,by decide+kernel,rfl,by decide+kernel,by decide+kernel⟩
theorem Qb:GLF Bm "reckon":=by decide+kernel
theorem Zl:GLF Bm "worth_of":=by decide+kernel
theorem Zm:Loc (defScope Bm) "one":=Or.inl (by decide+kernel)
theorem Zn:Loc (defScope Bm) "other":=Or.inl (by decide+kernel)
theorem M8:VE Bm "names":=ve1 (by decide+kernel)
theorem M9:VE Bm "one":=ve1 (by decide+kernel)
theorem JY:VE Bm "other":=ve1 (by decide+kernel)
theorem Ge:VE Bm "path":=ve1 (by decide+kernel)
theorem JZ:Vis (defScope Bm) "settle":=Or.inl (by decide+kernel)
theorem Qc:VE Bm "settle":=ve1 (by decide+kernel)
theorem Dz:VE Bm "term":=ve1 (by decide+kernel)
abbrev E1:Stmt:=top 23
theorem Zo:FnScope ["word","one","other"] ["word","one","other"] (defScope E1):=⟨rfl,rfl,rfl,by decide+kernel,rfl,by decide+kernel,by decide+kernel⟩
theorem Zp:GLF E1 "max":=by decide+kernel
theorem Zq:GLF E1 "min":=by decide+kernel
theorem E2:VE E1 "one":=ve1 (by decide+kernel)
theorem E3:VE E1 "other":=ve1 (by decide+kernel)
theorem F8:VE E1 "word":=ve1 (by decide+kernel)
abbrev F9:Stmt:=top 25
theorem Zr:FnScope ["one","other"] ["one","other"] (defScope F9):=⟨rfl,rfl,rfl,by decide+kernel,rfl,by decide+kernel,by decide+kernel⟩
theorem Zs:GLF F9 "max":=by decide+kernel
theorem Zt:GLF F9 "min":=by decide+kernel
theorem Ja:VE F9 "one":=ve1 (by decide+kernel)
theorem Jb:VE F9 "other":=ve1 (by decide+kernel)
abbrev E4:Stmt:=top 26
theorem Zu:FnScope ["one","other"] ["one","other"] (defScope E4):=⟨rfl,rfl,rfl,by decide+kernel,rfl,by decide+kernel,by decide+kernel⟩
theorem Zv:GLF E4 "between":=by decide+kernel
theorem Zw:GLF E4 "max":=by decide+kernel
theorem Zx:GLF E4 "min":=by decide+kernel
theorem MA:VE E4 "one":=ve1 (by decide+kernel)
theorem MB:VE E4 "other":=ve1 (by decide+kernel)
abbrev Gf:Stmt:=top 27
theorem Zy:FnScope ["one","other"] ["one","other"] (defScope Gf):=⟨rfl,rfl,rfl,by decide+kernel,rfl,by decide+kernel,by decide+kernel⟩
theorem Zz:GLF Gf "met":=by decide+kernel
theorem Qd:VE Gf "one":=ve1 (by decide+kernel)
theorem a7:VE Gf "other":=ve1 (by decide+kernel)
abbrev I0:Stmt:=top 28
theorem a8:FnScope ["low","high"] ["low","high"] (defScope I0):=⟨rfl,rfl,rfl,by decide+kernel,rfl,by decide+kernel,by decide+kernel⟩
theorem Qf:VE I0 "high":=ve1 (by decide+kernel)
theorem Qg:VE I0 "low":=ve1 (by decide+kernel)
abbrev Bb:Stmt:=top 29
theorem sc_stretch_of:FnScope ["word","one","other","below","above"] ["word","one","other"] (defScope Bb):=⟨rfl,rfl,rfl,by decide+kernel,rfl,by decide+kernel,by decide+kernel⟩
theorem Qh:GLF Bb "between":=by decide+kernel
theorem a9:GLF Bb "joined":=by decide+kernel
theorem aA:GLF Bb "max":=by decide+kernel
theorem aB:GLF Bb "min":=by decide+kernel
theorem MC:GLF Bb "stretch_of_ends":=by decide+kernel
theorem aC:GLF Bb "stretch_of_same":=by decide+kernel
theorem aD:Loc (defScope Bb) "above":=Or.inl (by decide+kernel)
theorem aE:Loc (defScope Bb) "below":=Or.inl (by decide+kernel)
theorem aF:VE Bb "above":=ve1 (by decide+kernel)
theorem aG:VE Bb "below":=ve1 (by decide+kernel)
theorem Jc:VE Bb "one":=ve1 (by decide+kernel)
theorem FA:VE Bb "other":=ve1 (by decide+kernel)
theorem I8:VE Bb "word":=ve1 (by decide+kernel)
abbrev aH:Stmt:=top 30
abbrev DF:Stmt:=top 31
theorem sc_stretch_of_ends:FnScope ["word","one","other","ends"] ["word","one","other"] (defScope DF):=⟨rfl,rfl,rfl,by decide+kernel,rfl,by decide+kernel,by decide+kernel⟩
theorem aI:GLF DF "max":=by decide+kernel
theorem aJ:GLF DF "min":=by decide+kernel
theorem aK:Loc (defScope DF) "ends":=Or.inl (by decide+kernel)
theorem MD:VE DF "ends":=ve1 (by decide+kernel)
theorem ME:VE DF "one":=ve1 (by decide+kernel)
theorem aL:VE DF "other":=ve2 (by decide+kernel)
abbrev DG:Stmt:=top 33
theorem aM:FnScope ["term","book"] ["term","book"] (defScope DG):=⟨rfl,rfl,rfl,by decide+kernel,rfl,by decide+kernel,by decide+kernel⟩
theorem aN:GLF DG "WIDE":=by decide+kernel
theorem aO:GLF DG "met":=by decide+kernel
theorem Qi:GLF DG "reckoned_from":=by decide+kernel
theorem aP:GLF DG "stretch_of":=by decide+kernel
theorem MF:VE DG "book":=ve1 (by decide+kernel)
theorem E5:VE DG "term":=ve1 (by decide+kernel)
abbrev Cg:Stmt:=top 34
theorem aQ:FnScope ["term","book","is_so"] ["term","book","is_so"] (defScope Cg):=⟨rfl,rfl,rfl,by decide+kernel,rfl,by decide+kernel,by decide+kernel⟩
theorem aR:GLF Cg "behind_question":=by decide+kernel
theorem aS:GLF Cg "dict":=by decide+kernel
theorem aU:GLF Cg "left_of_name":=by decide+kernel
theorem aV:GLF Cg "with_left":=by decide+kernel
theorem Jd:VE Cg "book":=ve1 (by decide+kernel)
theorem Qj:VE Cg "is_so":=ve1 (by decide+kernel)
theorem Gg:VE Cg "term":=ve1 (by decide+kernel)
abbrev BD:Stmt:=top 35
theorem sc_behind_question:FnScope ["term","book","is_so","one","other","left","own"] ["term","book","is_so"] (defScope BD):=⟨rfl,rfl,rfl,by decide+kernel,rfl,by decide+kernel,by decide+kernel⟩
theorem aW:GLF BD "dict":=by decide+kernel
theorem aX:GLF BD "left_of_one":=by decide+kernel
theorem aY:GLF BD "left_of_other":=by decide+kernel
theorem Qk:GLF BD "reckoned_from":=by decide+kernel
theorem Ql:GLF BD "with_left":=by decide+kernel
theorem MG:Loc (defScope BD) "left":=Or.inl (by decide+kernel)
theorem aZ:Loc (defScope BD) "one":=Or.inl (by decide+kernel)
theorem aa:Loc (defScope BD) "other":=Or.inl (by decide+kernel)
theorem ad:Loc (defScope BD) "own":=Or.inl (by decide+kernel)
theorem MH:VE BD "book":=ve1 (by decide+kernel)
theorem Qm:VE BD "is_so":=ve1 (by decide+kernel)
theorem I9:VE BD "left":=ve1 (by decide+kernel)
theorem MI:VE BD "one":=ve1 (by decide+kernel)
theorem Qn:VE BD "other":=ve1 (by decide+kernel)
theorem ae:VE BD "own":=ve1 (by decide+kernel)
theorem DH:VE BD "term":=ve1 (by decide+kernel)
abbrev DI:Stmt:=top 36
theorem sc_with_left:FnScope ["book","name","stretch","left"] ["book","name","stretch"] (defScope DI):=⟨rfl,rfl,rfl,by decide+kernel,rfl,by decide+kernel,by decide+kernel⟩
theorem af:GLF DI "dict":=by decide+kernel
theorem ag:Loc (defScope DI) "left":=Or.inl (by decide+kernel)
theorem ah:VE DI "book":=ve1 (by decide+kernel)
theorem Qo:VE DI "left":=ve1 (by decide+kernel)
theorem aj:VE DI "name":=ve1 (by decide+kernel)
theorem Qp:VE DI "stretch":=ve1 (by decide+kernel)
abbrev ak:Stmt:=top 37
abbrev CS:Stmt:=top 38
theorem al:FnScope ["word","own","other","is_so"] ["word","own","other","is_so"] (defScope CS):=⟨rfl,rfl,rfl,by decide+kernel,rfl,by decide+kernel,by decide+kernel⟩
theorem Qq:GLF CS "between":=by decide+kernel
theorem am:GLF CS "left_by_same":=by decide+kernel
theorem ao:GLF CS "max":=by decide+kernel
theorem ap:GLF CS "min":=by decide+kernel
theorem Qr:VE CS "is_so":=ve1 (by decide+kernel)
theorem MJ:VE CS "other":=ve1 (by decide+kernel)
theorem IA:VE CS "own":=ve1 (by decide+kernel)
theorem aq:VE CS "word":=ve1 (by decide+kernel)
abbrev ar:Stmt:=top 39
abbrev au:Stmt:=top 40
abbrev E6:Stmt:=Wx (top 46) 0
theorem av:FnScope ["self","heads"] ["self","heads"] (defScope E6):=⟨rfl,rfl,rfl,by decide+kernel,rfl,by decide+kernel,by decide+kernel⟩
theorem aw:VE E6 "heads":=ve1 (by decide+kernel)
theorem MK:VE E6 "self":=ve1 (by decide+kernel)
abbrev DJ:Stmt:=top 47
theorem sc_shown:FnScope ["program","paper","notes"] ["program","paper"] (defScope DJ):=⟨rfl,rfl,rfl,by decide+kernel,rfl,by decide+kernel,by decide+kernel⟩
theorem ax:GLF DJ "notes_by":=by decide+kernel
theorem ay:GLF DJ "sorted":=by decide+kernel
theorem b9:Loc (defScope DJ) "notes":=Or.inr (by decide+kernel)
theorem bA:VE DJ "notes":=ve2 (by decide+kernel)
theorem bB:VE DJ "paper":=ve1 (by decide+kernel)
theorem bC:VE DJ "program":=ve1 (by decide+kernel)
abbrev Gh:Stmt:=top 48
theorem bD:FnScope ["program","thing"] ["program","thing"] (defScope Gh):=⟨rfl,rfl,rfl,by decide+kernel,rfl,by decide+kernel,by decide+kernel⟩
theorem bE:GLF Gh "walk_by_paper":=by decide+kernel
theorem bF:VE Gh "program":=ve1 (by decide+kernel)
theorem bG:VE Gh "thing":=ve1 (by decide+kernel)
abbrev FB:Stmt:=top 49
theorem bH:FnScope ["program"] ["program"] (defScope FB):=⟨rfl,rfl,rfl,by decide+kernel,rfl,by decide+kernel,by decide+kernel⟩
theorem bI:GLF FB "grown_to_hold":=by decide+kernel
theorem bJ:GLF FB "narrowed":=by decide+kernel
theorem bK:GLF FB "paper_of":=by decide+kernel
theorem Qs:VE FB "program":=ve1 (by decide+kernel)
abbrev E7:Stmt:=top 50
theorem sc_notes_by:FnScope ["program","paper","walk"] ["program","paper"] (defScope E7):=⟨rfl,rfl,rfl,by decide+kernel,rfl,by decide+kernel,by decide+kernel⟩
theorem bL:GLF E7 "walk_by_paper":=by decide+kernel
theorem bM:Loc (defScope E7) "walk":=Or.inl (by decide+kernel)
theorem bN:VE E7 "paper":=ve1 (by decide+kernel)
theorem bO:VE E7 "program":=ve1 (by decide+kernel)
theorem Qt:VE E7 "walk":=ve1 (by decide+kernel)
abbrev Bs:Stmt:=top 51
theorem sc_walk_by_paper:FnScope ["program","thing","heads","walk"] ["program","thing"] (defScope Bs):=⟨rfl,rfl,rfl,by decide+kernel,rfl,by decide+kernel,by decide+kernel⟩
theorem bP:GLF Bs "are_rising_rows":=by decide+kernel
theorem bQ:GLF Bs "heads_of":=by decide+kernel
theorem bR:GLF Bs "is_held":=by decide+kernel
theorem bS:GLF Bs "is_paper_row":=by decide+kernel
theorem bT:GLF Bs "walked":=by decide+kernel
theorem bV:Loc (defScope Bs) "heads":=Or.inl (by decide+kernel)
theorem bW:Loc (defScope Bs) "walk":=Or.inl (by decide+kernel)
theorem Qu:VE Bs "heads":=ve1 (by decide+kernel)
theorem bX:VE Bs "program":=ve1 (by decide+kernel)
theorem Qv:VE Bs "thing":=ve1 (by decide+kernel)
theorem Qw:VE Bs "walk":=ve1 (by decide+kernel)
abbrev E8:Stmt:=top 52
theorem bY:FnScope ["thing"] ["thing"] (defScope E8):=⟨rfl,rfl,rfl,by decide+kernel,rfl,by decide+kernel,by decide+kernel⟩
theorem bZ:GLF E8 "are_rising_rows":=by decide+kernel
theorem ba:GLF E8 "is_path":=by decide+kernel
theorem bc:GLF E8 "is_shelf_row":=by decide+kernel
theorem be:GLF E8 "is_tuple_of":=by decide+kernel
theorem ML:VE E8 "thing":=ve1 (by decide+kernel)
abbrev DK:Stmt:=top 53
theorem bf:FnScope ["thing"] ["thing"] (defScope DK):=⟨rfl,rfl,rfl,by decide+kernel,rfl,by decide+kernel,by decide+kernel⟩
theorem MM:GLF DK "WIDE":=by decide+kernel
theorem bg:GLF DK "is_tuple_of":=by decide+kernel
theorem Qx:GLF DK "is_whole_from":=by decide+kernel
theorem bi:GLF DK "isinstance":=by decide+kernel
theorem bj:GLF DK "str":=by decide+kernel
theorem IB:VE DK "thing":=ve1 (by decide+kernel)
abbrev CT:Stmt:=top 54
theorem sc_heads_of:FnScope ["paper","heads","path","shelf"] ["paper"] (defScope CT):=⟨rfl,rfl,rfl,by decide+kernel,rfl,by decide+kernel,by decide+kernel⟩
theorem bn:GLF CT "book_of":=by decide+kernel
theorem bp:Loc (defScope CT) "heads":=Or.inl (by decide+kernel)
theorem br:Loc (defScope CT) "path":=Or.inl (by decide+kernel)
theorem bt:Loc (defScope CT) "shelf":=Or.inl (by decide+kernel)
theorem Qy:VE CT "heads":=ve1 (by decide+kernel)
theorem bx:VE CT "paper":=ve1 (by decide+kernel)
theorem bz:VE CT "path":=ve1 (by decide+kernel)
theorem c7:VE CT "shelf":=ve1 (by decide+kernel)
abbrev CC:Stmt:=top 55
theorem sc_book_of:FnScope ["shelf","book","name","low","high"] ["shelf"] (defScope CC):=⟨rfl,rfl,rfl,by decide+kernel,rfl,by decide+kernel,by decide+kernel⟩
theorem c8:Loc (defScope CC) "book":=Or.inl (by decide+kernel)
theorem c9:Loc (defScope CC) "high":=Or.inl (by decide+kernel)
theorem cA:Loc (defScope CC) "low":=Or.inl (by decide+kernel)
theorem cB:Loc (defScope CC) "name":=Or.inl (by decide+kernel)
theorem Qz:VE CC "book":=ve1 (by decide+kernel)
theorem cC:VE CC "high":=ve1 (by decide+kernel)
theorem cD:VE CC "low":=ve1 (by decide+kernel)
theorem cE:VE CC "name":=ve1 (by decide+kernel)
theorem cF:VE CC "shelf":=ve1 (by decide+kernel)
abbrev Gi:Stmt:=top 56
theorem cG:FnScope ["heads"] ["heads"] (defScope Gi):=⟨rfl,rfl,rfl,by decide+kernel,rfl,by decide+kernel,by decide+kernel⟩
theorem cH:GLF Gi "sorted":=by decide+kernel
theorem cI:GLF Gi "tuple":=by decide+kernel
theorem cJ:VE Gi "heads":=ve2 (by decide+kernel)
abbrev Gj:Stmt:=top 57
theorem cK:FnScope ["book"] ["book"] (defScope Gj):=⟨rfl,rfl,rfl,by decide+kernel,rfl,by decide+kernel,by decide+kernel⟩
theorem cL:GLF Gj "sorted":=by decide+kernel
theorem cM:GLF Gj "tuple":=by decide+kernel
theorem cN:VE Gj "book":=ve2 (by decide+kernel)
abbrev FC:Stmt:=top 58
theorem cO:FnScope ["wants","heads"] ["wants","heads"] (defScope FC):=⟨rfl,rfl,rfl,by decide+kernel,rfl,by decide+kernel,by decide+kernel⟩
theorem cP:GLF FC "all":=by decide+kernel
theorem R0:GLF FC "sorted":=by decide+kernel
theorem cQ:VE FC "heads":=ve2 (by decide+kernel)
theorem R3:VE FC "wants":=ve2 (by decide+kernel)
abbrev FD:Stmt:=top 59
theorem cR:FnScope ["one","other"] ["one","other"] (defScope FD):=⟨rfl,rfl,rfl,by decide+kernel,rfl,by decide+kernel,by decide+kernel⟩
theorem cS:GLF FD "all":=by decide+kernel
theorem R4:GLF FD "sorted":=by decide+kernel
theorem R5:VE FD "one":=ve2 (by decide+kernel)
theorem cT:VE FD "other":=ve2 (by decide+kernel)
abbrev Ch:Stmt:=top 60
theorem sc_walked:FnScope ["program","heads","walk"] ["program","heads"] (defScope Ch):=⟨rfl,rfl,rfl,by decide+kernel,rfl,by decide+kernel,by decide+kernel⟩
theorem cU:GLF Ch "Walk":=by decide+kernel
theorem cV:GLF Ch "book_of":=by decide+kernel
theorem cW:GLF Ch "go_block":=by decide+kernel
theorem cX:Loc (defScope Ch) "walk":=Or.inl (by decide+kernel)
theorem cY:VE Ch "heads":=ve1 (by decide+kernel)
theorem R6:VE Ch "program":=ve1 (by decide+kernel)
theorem R7:VE Ch "walk":=ve1 (by decide+kernel)
abbrev Bt:Stmt:=top 61
theorem sc_go_block:FnScope ["block","path","book","walk","at","deed"] ["block","path","book","walk"] (defScope Bt):=⟨rfl,rfl,rfl,by decide+kernel,rfl,by decide+kernel,by decide+kernel⟩
theorem cZ:GLF Bt "enumerate":=by decide+kernel
theorem ca:GLF Bt "go_deed":=by decide+kernel
theorem cb:Loc (defScope Bt) "at":=Or.inl (by decide+kernel)
theorem ce:Loc (defScope Bt) "book":=Or.inl (by decide+kernel)
theorem cf:Loc (defScope Bt) "deed":=Or.inl (by decide+kernel)
theorem cg:VE Bt "at":=ve1 (by decide+kernel)
theorem ck:VE Bt "block":=ve1 (by decide+kernel)
theorem MN:VE Bt "book":=ve1 (by decide+kernel)
theorem cm:VE Bt "deed":=ve1 (by decide+kernel)
theorem cn:VE Bt "path":=ve1 (by decide+kernel)
theorem cp:VE Bt "walk":=ve1 (by decide+kernel)
abbrev Ci:Stmt:=top 62
theorem cq:FnScope ["deed","path","book","walk"] ["deed","path","book","walk"] (defScope Ci):=⟨rfl,rfl,rfl,by decide+kernel,rfl,by decide+kernel,by decide+kernel⟩
theorem cr:GLF Ci "go_if":=by decide+kernel
theorem cu:GLF Ci "go_set":=by decide+kernel
theorem cv:GLF Ci "go_while":=by decide+kernel
theorem MO:VE Ci "book":=ve1 (by decide+kernel)
theorem IC:VE Ci "deed":=ve1 (by decide+kernel)
theorem MP:VE Ci "path":=ve1 (by decide+kernel)
theorem MQ:VE Ci "walk":=ve1 (by decide+kernel)
abbrev C5:Stmt:=top 63
theorem sc_go_set:FnScope ["deed","path","book","walk","has","end"] ["deed","path","book","walk"] (defScope C5):=⟨rfl,rfl,rfl,by decide+kernel,rfl,by decide+kernel,by decide+kernel⟩
theorem cw:GLF C5 "dict":=by decide+kernel
theorem cx:GLF C5 "show":=by decide+kernel
theorem cy:Loc (defScope C5) "end":=Or.inl (by decide+kernel)
theorem cz:Loc (defScope C5) "has":=Or.inl (by decide+kernel)
theorem R8:VE C5 "book":=ve1 (by decide+kernel)
theorem R9:VE C5 "deed":=ve1 (by decide+kernel)
theorem RA:VE C5 "end":=ve1 (by decide+kernel)
theorem RB:VE C5 "has":=ve1 (by decide+kernel)
theorem dA:VE C5 "path":=ve1 (by decide+kernel)
theorem dB:VE C5 "walk":=ve1 (by decide+kernel)
abbrev dC:Stmt:=top 64
abbrev BJ:Stmt:=top 65
theorem sc_go_while:FnScope ["deed","path","book","walk","head","has","end"] ["deed","path","book","walk"] (defScope BJ):=⟨rfl,rfl,rfl,by decide+kernel,rfl,by decide+kernel,by decide+kernel⟩
theorem dD:GLF BJ "go_block":=by decide+kernel
theorem dE:GLF BJ "joined_books":=by decide+kernel
theorem dF:GLF BJ "joined_to":=by decide+kernel
theorem dG:GLF BJ "show":=by decide+kernel
theorem RC:GLF BJ "side_of":=by decide+kernel
theorem dH:Loc (defScope BJ) "end":=Or.inl (by decide+kernel)
theorem dI:Loc (defScope BJ) "has":=Or.inl (by decide+kernel)
theorem dJ:Loc (defScope BJ) "head":=Or.inl (by decide+kernel)
theorem RD:VE BJ "book":=ve1 (by decide+kernel)
theorem Je:VE BJ "deed":=ve1 (by decide+kernel)
theorem dL:VE BJ "end":=ve1 (by decide+kernel)
theorem RE:VE BJ "has":=ve1 (by decide+kernel)
theorem MR:VE BJ "head":=ve1 (by decide+kernel)
theorem Jf:VE BJ "path":=ve1 (by decide+kernel)
theorem Jg:VE BJ "walk":=ve1 (by decide+kernel)
abbrev CD:Stmt:=top 66
theorem sc_side_of:FnScope ["term","has","book","is_so","can_be"] ["term","has","book","is_so"] (defScope CD):=⟨rfl,rfl,rfl,by decide+kernel,rfl,by decide+kernel,by decide+kernel⟩
theorem RF:GLF CD "ZERO":=by decide+kernel
theorem dM:GLF CD "behind":=by decide+kernel
theorem RG:GLF CD "is_within":=by decide+kernel
theorem dN:Loc (defScope CD) "can_be":=Or.inl (by decide+kernel)
theorem dO:VE CD "book":=ve1 (by decide+kernel)
theorem dP:VE CD "can_be":=ve1 (by decide+kernel)
theorem RH:VE CD "has":=ve1 (by decide+kernel)
theorem RJ:VE CD "is_so":=ve1 (by decide+kernel)
theorem dQ:VE CD "term":=ve1 (by decide+kernel)
abbrev Bu:Stmt:=top 67
theorem sc_show:FnScope ["term","path","book","walk","one","other"] ["term","path","book","walk"] (defScope Bu):=⟨rfl,rfl,rfl,by decide+kernel,rfl,by decide+kernel,by decide+kernel⟩
theorem MS:GLF Bu "noted":=by decide+kernel
theorem RK:GLF Bu "show":=by decide+kernel
theorem dS:GLF Bu "stretch_of":=by decide+kernel
theorem dU:Loc (defScope Bu) "one":=Or.inl (by decide+kernel)
theorem dW:Loc (defScope Bu) "other":=Or.inl (by decide+kernel)
theorem MT:VE Bu "book":=ve1 (by decide+kernel)
theorem RL:VE Bu "one":=ve1 (by decide+kernel)
theorem dX:VE Bu "other":=ve1 (by decide+kernel)
theorem ID:VE Bu "path":=ve1 (by decide+kernel)
theorem E9:VE Bu "term":=ve1 (by decide+kernel)
theorem IE:VE Bu "walk":=ve1 (by decide+kernel)
abbrev EA:Stmt:=top 68
theorem dY:FnScope ["stretch","path","walk"] ["stretch","path","walk"] (defScope EA):=⟨rfl,rfl,rfl,by decide+kernel,rfl,by decide+kernel,by decide+kernel⟩
theorem dZ:GLF EA "WIDE":=by decide+kernel
theorem dg:GLF EA "met":=by decide+kernel
theorem dj:VE EA "path":=ve1 (by decide+kernel)
theorem MU:VE EA "stretch":=ve1 (by decide+kernel)
theorem dk:VE EA "walk":=ve1 (by decide+kernel)
abbrev Cj:Stmt:=top 69
theorem sc_joined_books:FnScope ["one","other","both","name"] ["one","other"] (defScope Cj):=⟨rfl,rfl,rfl,by decide+kernel,rfl,by decide+kernel,by decide+kernel⟩
theorem dq:GLF Cj "joined":=by decide+kernel
theorem du:Loc (defScope Cj) "both":=Or.inl (by decide+kernel)
theorem eB:Loc (defScope Cj) "name":=Or.inl (by decide+kernel)
theorem RM:VE Cj "both":=ve1 (by decide+kernel)
theorem Jh:VE Cj "name":=ve1 (by decide+kernel)
theorem Ji:VE Cj "one":=ve1 (by decide+kernel)
theorem Jj:VE Cj "other":=ve1 (by decide+kernel)
abbrev Ck:Stmt:=top 70
theorem sc_joined_to:FnScope ["book","other","both","name"] ["book","other"] (defScope Ck):=⟨rfl,rfl,rfl,by decide+kernel,rfl,by decide+kernel,by decide+kernel⟩
theorem eC:GLF Ck "joined":=by decide+kernel
theorem eE:Loc (defScope Ck) "both":=Or.inl (by decide+kernel)
theorem eG:Loc (defScope Ck) "name":=Or.inl (by decide+kernel)
theorem RN:VE Ck "book":=ve1 (by decide+kernel)
theorem RO:VE Ck "both":=ve1 (by decide+kernel)
theorem MV:VE Ck "name":=ve1 (by decide+kernel)
theorem eJ:VE Ck "other":=ve1 (by decide+kernel)
abbrev Bv:Stmt:=top 71
theorem sc_grown_to_hold:FnScope ["program","heads","passes","wants"] ["program","heads"] (defScope Bv):=⟨rfl,rfl,rfl,by decide+kernel,rfl,by decide+kernel,by decide+kernel⟩
theorem eM:GLF Bv "PLAIN_PASSES":=by decide+kernel
theorem eO:GLF Bv "grown":=by decide+kernel
theorem eQ:GLF Bv "is_held":=by decide+kernel
theorem eT:GLF Bv "walked":=by decide+kernel
theorem eU:Loc (defScope Bv) "heads":=Or.inl (by decide+kernel)
theorem RP:Loc (defScope Bv) "passes":=Or.inl (by decide+kernel)
theorem eV:Loc (defScope Bv) "wants":=Or.inl (by decide+kernel)
theorem Jk:VE Bv "heads":=ve1 (by decide+kernel)
theorem RQ:VE Bv "passes":=ve1 (by decide+kernel)
theorem eW:VE Bv "program":=ve1 (by decide+kernel)
theorem RS:VE Bv "wants":=ve1 (by decide+kernel)
abbrev C6:Stmt:=top 72
theorem sc_narrowed:FnScope ["program","heads","turn","less"] ["program","heads"] (defScope C6):=⟨rfl,rfl,rfl,by decide+kernel,rfl,by decide+kernel,by decide+kernel⟩
theorem eX:GLF C6 "NARROWING_PASSES":=by decide+kernel
theorem ef:GLF C6 "grown_to_hold":=by decide+kernel
theorem et:GLF C6 "range":=by decide+kernel
theorem fA:GLF C6 "walked":=by decide+kernel
theorem fB:Loc (defScope C6) "heads":=Or.inl (by decide+kernel)
theorem fC:Loc (defScope C6) "less":=Or.inl (by decide+kernel)
theorem fD:Loc (defScope C6) "turn":=Or.inl (by decide+kernel)
theorem Jl:VE C6 "heads":=ve1 (by decide+kernel)
theorem RT:VE C6 "less":=ve1 (by decide+kernel)
theorem RU:VE C6 "program":=ve1 (by decide+kernel)
abbrev Bw:Stmt:=top 73
theorem sc_grown:FnScope ["heads","wants","is_hasty","greater","path","before"] ["heads","wants","is_hasty"] (defScope Bw):=⟨rfl,rfl,rfl,by decide+kernel,rfl,by decide+kernel,by decide+kernel⟩
theorem fE:GLF Bw "hastened":=by decide+kernel
theorem fF:GLF Bw "joined_to":=by decide+kernel
theorem fG:Loc (defScope Bw) "before":=Or.inl (by decide+kernel)
theorem fH:Loc (defScope Bw) "greater":=Or.inl (by decide+kernel)
theorem fI:Loc (defScope Bw) "path":=Or.inl (by decide+kernel)
theorem RV:VE Bw "before":=ve1 (by decide+kernel)
theorem Jm:VE Bw "greater":=ve1 (by decide+kernel)
theorem fJ:VE Bw "heads":=ve1 (by decide+kernel)
theorem fK:VE Bw "is_hasty":=ve1 (by decide+kernel)
theorem IF:VE Bw "path":=ve1 (by decide+kernel)
theorem RW:VE Bw "wants":=ve1 (by decide+kernel)
abbrev BR:Stmt:=top 74
theorem sc_hastened:FnScope ["before","book","greater","name","old","low","high"] ["before","book"] (defScope BR):=⟨rfl,rfl,rfl,by decide+kernel,rfl,by decide+kernel,by decide+kernel⟩
theorem RX:GLF BR "WIDE":=by decide+kernel
theorem fL:GLF BR "joined":=by decide+kernel
theorem fM:Loc (defScope BR) "greater":=Or.inl (by decide+kernel)
theorem fN:Loc (defScope BR) "high":=Or.inl (by decide+kernel)
theorem fO:Loc (defScope BR) "low":=Or.inl (by decide+kernel)
theorem fP:Loc (defScope BR) "name":=Or.inl (by decide+kernel)
theorem fQ:Loc (defScope BR) "old":=Or.inl (by decide+kernel)
theorem fR:VE BR "before":=ve1 (by decide+kernel)
theorem FE:VE BR "book":=ve1 (by decide+kernel)
theorem RY:VE BR "greater":=ve1 (by decide+kernel)
theorem fS:VE BR "high":=ve1 (by decide+kernel)
theorem fT:VE BR "low":=ve1 (by decide+kernel)
theorem EB:VE BR "name":=ve1 (by decide+kernel)
theorem RZ:VE BR "old":=ve1 (by decide+kernel)
abbrev Gk:Stmt:=top 76
theorem fV:FnScope ["_law_script","_law_k"] ["_law_script","_law_k"] (defScope Gk):=⟨rfl,rfl,rfl,by decide+kernel,rfl,by decide+kernel,by decide+kernel⟩
theorem Ra:GLF Gk "len":=by decide+kernel
theorem Jn:VE Gk "_law_k":=ve1 (by decide+kernel)
theorem IG:VE Gk "_law_script":=ve1 (by decide+kernel)
abbrev DL:Stmt:=top 77
theorem sc_law_pick:FnScope ["_law_script","_law_k","_law_many","_law_drawn"] ["_law_script","_law_k","_law_many"] (defScope DL):=⟨rfl,rfl,rfl,by decide+kernel,rfl,by decide+kernel,by decide+kernel⟩
theorem fW:GLF DL "_law_cell":=by decide+kernel
theorem fX:Loc (defScope DL) "_law_drawn":=Or.inl (by decide+kernel)
theorem MW:VE DL "_law_drawn":=ve1 (by decide+kernel)
theorem Rb:VE DL "_law_k":=ve1 (by decide+kernel)
theorem fY:VE DL "_law_many":=ve1 (by decide+kernel)
theorem fZ:VE DL "_law_script":=ve1 (by decide+kernel)
abbrev Bn:Stmt:=top 82
theorem sc_law_all_worths:FnScope ["_law_program_here","_law_made","_law_name","_law_low","_law_high","_law_longer","_law_worths"] ["_law_program_here"] (defScope Bn):=⟨rfl,rfl,rfl,by decide+kernel,rfl,by decide+kernel,by decide+kernel⟩
theorem fc:GLF Bn "range":=by decide+kernel
theorem fe:Loc (defScope Bn) "_law_high":=Or.inl (by decide+kernel)
theorem fg:Loc (defScope Bn) "_law_longer":=Or.inl (by decide+kernel)
theorem fh:Loc (defScope Bn) "_law_low":=Or.inl (by decide+kernel)
theorem Rc:Loc (defScope Bn) "_law_made":=Or.inl (by decide+kernel)
theorem fj:Loc (defScope Bn) "_law_name":=Or.inl (by decide+kernel)
theorem fk:Loc (defScope Bn) "_law_worths":=Or.inr (by decide+kernel)
theorem fm:VE Bn "_law_high":=ve1 (by decide+kernel)
theorem Re:VE Bn "_law_longer":=ve1 (by decide+kernel)
theorem fo:VE Bn "_law_low":=ve1 (by decide+kernel)
theorem Rf:VE Bn "_law_made":=ve1 (by decide+kernel)
theorem fq:VE Bn "_law_program_here":=ve1 (by decide+kernel)
abbrev AS:Stmt:=top 83
theorem sc_law:FnScope ["_law_script","_law_low","_law_high","_law_goal","_law_word","_law_body","_law_ask","_law_program_here","_law_top","_law_paper","_law_notes","_law_less","_law_worths","_law_told"] ["_law_script"] (defScope AS):=⟨rfl,rfl,rfl,by decide+kernel,rfl,by decide+kernel,by decide+kernel⟩
theorem ft:GLF AS "_law_all_worths":=by decide+kernel
theorem Jo:GLF AS "_law_pick":=by decide+kernel
theorem Rg:GLF AS "dict":=by decide+kernel
theorem Rh:GLF AS "is_paper":=by decide+kernel
theorem MX:GLF AS "max":=by decide+kernel
theorem fu:GLF AS "paper_for":=by decide+kernel
theorem fw:GLF AS "run":=by decide+kernel
theorem fx:GLF AS "shown":=by decide+kernel
theorem fy:GLF AS "traced":=by decide+kernel
theorem g6:Loc (defScope AS) "_law_ask":=Or.inl (by decide+kernel)
theorem g7:Loc (defScope AS) "_law_body":=Or.inl (by decide+kernel)
theorem g8:Loc (defScope AS) "_law_goal":=Or.inl (by decide+kernel)
theorem g9:Loc (defScope AS) "_law_high":=Or.inl (by decide+kernel)
theorem gA:Loc (defScope AS) "_law_less":=Or.inl (by decide+kernel)
theorem gB:Loc (defScope AS) "_law_low":=Or.inl (by decide+kernel)
theorem gC:Loc (defScope AS) "_law_notes":=Or.inr (by decide+kernel)
theorem gD:Loc (defScope AS) "_law_paper":=Or.inl (by decide+kernel)
theorem gE:Loc (defScope AS) "_law_program_here":=Or.inl (by decide+kernel)
theorem gF:Loc (defScope AS) "_law_told":=Or.inl (by decide+kernel)
theorem gG:Loc (defScope AS) "_law_top":=Or.inl (by decide+kernel)
theorem gH:Loc (defScope AS) "_law_word":=Or.inl (by decide+kernel)
theorem gI:Loc (defScope AS) "_law_worths":=Or.inl (by decide+kernel)
theorem gJ:VE AS "_law_ask":=ve1 (by decide+kernel)
theorem gK:VE AS "_law_body":=ve1 (by decide+kernel)
theorem EC:VE AS "_law_goal":=ve1 (by decide+kernel)
theorem Ri:VE AS "_law_high":=ve1 (by decide+kernel)
theorem gL:VE AS "_law_less":=ve1 (by decide+kernel)
theorem CU:VE AS "_law_low":=ve1 (by decide+kernel)
theorem Jp:VE AS "_law_notes":=ve2 (by decide+kernel)
theorem Rj:VE AS "_law_paper":=ve1 (by decide+kernel)
theorem FF:VE AS "_law_program_here":=ve1 (by decide+kernel)
theorem Jq:VE AS "_law_script":=ve1 (by decide+kernel)
theorem Rk:VE AS "_law_told":=ve1 (by decide+kernel)
theorem Jr:VE AS "_law_top":=ve1 (by decide+kernel)
theorem gM:VE AS "_law_word":=ve1 (by decide+kernel)
theorem MY:VE AS "_law_worths":=ve1 (by decide+kernel)
abbrev Cl(J:It)(g:TG)(tb:TS)(D:Ends)(σ:St)(H:Hp):Prop:=∃W:Nat->Nat->St->Hp->Prop,(∃m,W 0 m σ H)/\∀i m σ H,W i m σ H->
 (J.stop i H/\D.nx σ H)\/(J.go i H/\∃N:St->Hp->Prop,(∀ q H',N q H'->∃B,B<m/\W (i+1) B q H')/\∀x H',J.yld i H x H'->g x σ H' fun z H2=>tb {D with nx:=N,ct:=N,bk:=D.nx} z H2)
theorem Gm:CJ (Ku K tl) g tb D σ H=tl σ H fun x H1=>isRf x fun a=>(∃xs,SqT K H1 a xs)/\Cl (Itt K a) g tb D σ H1:=rfl
theorem Gn:CJ (Kt K tl) g tb D σ H=tl σ H fun x H1=>isRf x fun a=>(∃xs,SqL K H1 a xs)/\Cl (Itl K a) g tb D σ H1:=rfl
theorem Go:CJ (Nt ta) g tb D σ H=ta σ H fun vs H1=>∃j:Int,vs=[.int j]/\-(2^62)<=j/\j<2^62/\Cl (Itr 0 j.toNat) g tb D σ H1:=rfl
theorem Gp:CM (Ku K tl) g tt te mp σ H Q=tl σ H fun x H1=>isRf x fun a=>(∃xs,SqT K H1 a xs)/\BN (Itt K a) g tt te Q (subσ mp σ) H1:=rfl
theorem Gq:CM (Kt K tl) g tt te mp σ H Q=tl σ H fun x H1=>isRf x fun a=>(∃xs,SqL K H1 a xs)/\BN (Itl K a) g tt te Q (subσ mp σ) H1:=rfl
theorem Gs:CM (Vd tl) g tt te mp σ H Q=tl σ H fun x H1=>∃z,x=.str z/\BN (Its z) g tt te Q (subσ mp σ) H1:=rfl
inductive Wd where
 |add|sub|mul|quo|less|same|min|max
 deriving DecidableEq
def Wd.str:Wd->Str
 |.add=>"add" | .sub=>"sub" | .mul=>"mul" | .quo=>"quo" | .less=>"less" | .same=>"same" | .min=>"min" | .max=>"max"
inductive T where
 |num (i:Int)|nm (x:Str)|op (w:Wd) (a b:T)
def T.enc:T->Dm
 |.num i=>.tup [.str "num",.int i]
 |.nm x=>.tup [.str "name",.str x]
 |.op w a b=>.tup [.str w.str,a.enc,b.enc]
def T.ok(g:List Str):Nat->T->Prop
 |0,_=>False
 |_+1,.num i=>-32768<=i/\i<=32767
 |_+1,.nm x=>x∈g
 |n+1,.op _ a b=>T.ok g n a/\T.ok g n b
inductive D where
 |set (x:Str) (t:T)|ite (t:T) (b c:List D)|whl (t:T) (m:Int) (b:List D)
mutual
def D.enc:D->Dm
 |.set x t=>.tup [.str "set",.str x,t.enc]
 |.ite t b c=>.tup [.str "if",t.enc,.tup (Av b),.tup (Av c)]
 |.whl t m b=>.tup [.str "while",t.enc,.int m,.tup (Av b)]
def Av:List D->List Dm
 |[]=>[]
 |d::r=>d.enc::Av r
end
theorem MZ:∀b:List D,(Av b).length=b.length
 |[]=>by simp[Av]
 |d::b=>by rw[Av,yh,yh,MZ b]
def pool:List Str:=["a","b","s","zz"]
def T.knows(p:List Str):T->Bool
 |.num _=>true
 |.nm x=>p.contains x
 |.op _ a b=>a.knows p&&b.knows p
mutual
def kbD(p:List Str):D->Option (List Str)
 |.set x t=>if t.knows p then some (p++[x]) else none
 |.ite t b c=>if t.knows p then(match kbB p b,kbB p c with|some q,some r=>some (q.filter fun x=>r.contains x)|_,_=>none) else none
 |.whl t _ b=>if t.knows p then(match kbB p b with|some _=>some p|none=>none) else none
def kbB(p:List Str):List D->Option (List Str)
 |[]=>some p
 |d::r=>match kbD p d with
  |some q=>kbB q r
  |none=>none
end
def Sub(g p:List Str):Prop:=∀x∈g,x∈p
theorem Sub.refl(g:List Str):Sub g g:=fun _ h=>h
theorem Sub.trans(h:Sub a b)(k:Sub b c):Sub a c:=fun x hx=>k x (h x hx)
theorem gN(B:0<=k)(h:k<(xs.length:Int)):∃v,xs[k.toNat]?=some v/\atI xs k=some v:=by
 have hk:k.toNat<xs.length:=by lia
 have z:k=((k.toNat:Nat):Int):=by lia
 refine⟨xs[k.toNat],yf hk,?_⟩;have q:atI xs ((k.toNat:Nat):Int)=some xs[k.toNat]:=Ai (yf hk);rw[<- z] at q;exact q
theorem Rl{z:Type}{c:z->V}{ns:List z}{k:Int}(B:0<=k)(h:k<(ns.length:Int)):∃v∈ns,atI (ns.map c) k=some (c v):=by
 obtain⟨v,q,F⟩:=gN (xs:=ns.map c) B (by rw[y4]; exact h);rw[ym] at q;cases e:ns[k.toNat]? with
 |none=>rw[e] at q; cases q
 |some i=>rw[e] at q; cases q; exact⟨i,yi e,F⟩
theorem gO(ns:List Int):(ns.map V.int).all okV=true:=by simp[okV]
theorem zl(n:Nat)(h:n<=1000):n<=yn:=y1a (An h)
theorem Rm(h:SqL K H a xs):LB K (.ref a) H xs.length:=.inl ⟨a,xs,rfl,.inl h,rfl⟩
theorem gP(h:SqT K H a xs):LB K (.ref a) H xs.length:=.inl ⟨a,xs,rfl,.inr h,rfl⟩
theorem gQ(h:SqL K H a xs)(z:xs.all okV=true)(q:SqL K H p []):Im K (.ref a) (.ref p) H xs.isEmpty:=.inr (.inl ⟨a,p,xs,[],rfl,rfl,h,q,z,rfl,(Va xs).symm⟩)
def Wd.worth:Wd->Int->Int->Int
 |.add,a,b=>a+b
 |.sub,a,b=>a-b
 |.mul,a,b=>a*b
 |.quo,a,b=>a.fdiv b
 |.less,a,b=>if a<b then 1 else 0
 |.same,a,b=>if a=b then 1 else 0
 |.min,a,b=>if b<a then b else a
 |.max,a,b=>if b>a then b else a
def Sgn(w:Wd)(c d:Int):Prop:=w=.quo->(0<c\/d<0)
abbrev S:=Option (Int×Int)
def Val(w:Wd)(a b c d v:Int):Prop:=∃x y,a<=x/\x<=b/\c<=y/\y<=d/\(w=.quo->y≠0)/\v=w.worth x y
def ValE(w:Wd)(a b c d v:Int):Prop:=∃x y,(x=a\/x=b)/\(y=c\/y=d\/y = -1\/y=1)/\a<=x/\x<=b/\c<=y/\y<=d/\(w=.quo->y≠0)/\v=w.worth x y
def IsS(w:Wd)(a b c d:Int)(r:S):Prop:=match r with
 |none=>∀v,¬ Val w a b c d v
 |some (lo,hi)=>Val w a b c d lo/\Val w a b c d hi/\(∀v,Val w a b c d v->lo<=v/\v<=hi)/\(w≠.same->ValE w a b c d lo/\ValE w a b c d hi)
theorem ValE.val{w:Wd}{a b c d v:Int}(h:ValE w a b c d v):Val w a b c d v:=by
 obtain⟨x,y,_,_,h1,h2,F,B,z,q⟩:=h;exact⟨x,y,h1,h2,F,B,z,q⟩
theorem IsS.unique{w:Wd}{a b c d:Int}{r q:S}(h:IsS w a b c d r)(h':IsS w a b c d q):r=q:=by
 match r,q,h,h' with
 |none,none,_,_=>rfl
 |none,some (lo,hi),h,h'=>exact absurd h'.1 (h lo)
 |some (lo,hi),none,h,h'=>exact absurd h.1 (h' lo)
 |some (lo,hi),some (z,B),h,h'=>
  have M:=h.2.2.1 _ h'.1;have J:=h.2.2.1 _ h'.2.1;have G:=h'.2.2.1 _ h.1;have F:=h'.2.2.1 _ h.2.1;have:lo=z:=by lia
  have:hi=B:=by lia
  subst_vars; rfl
structure Hull(ns:List Int)(lo hi:Int):Prop where
 l:lo∈ns
 h:hi∈ns
 all:∀a∈ns,lo<=a/\a<=hi
def BE(w:Wd)(a b c d:Int):List Int:=[w.worth a c,w.worth b c,w.worth a d,w.worth b d]
theorem Rn{a b c d:Int}(h1:b<=a)(h2:c<=d):Wd.worth .less a c<=Wd.worth .less b d:=by
 show(if a<c then(1:Int) else 0)<=if b<d then 1 else 0;split<;>split<;>lia
theorem Ro{a b c d:Int}(h1:a<=b)(h2:c<=d):Wd.worth .min a c<=Wd.worth .min b d:=by
 show(if c<a then c else a)<=if d<b then d else b;split<;>split<;>lia
theorem Rp{a b c d:Int}(h1:a<=b)(h2:c<=d):Wd.worth .max a c<=Wd.worth .max b d:=by
 show(if c>a then c else a)<=if d>b then d else b;split<;>split<;>lia
def plW(w:Wd):Prop:=w=.add\/w=.sub\/w=.less\/w=.min\/w=.max
theorem gR{w:Wd}(M:plW w){a b c d lo hi:Int}(O:c<=d)(hq:Sgn w c d)(h:Hull (BE w a b c d) lo hi){v:Int}(hv:Val w a b c d v):lo<=v/\v<=hi:=by
 obtain⟨x,y,h1,h2,z,q,_,rfl⟩:=hv;have F:=h.all (w.worth a c) (by simp[BE]);have J:=h.all (w.worth b c) (by simp[BE]);have G:=h.all (w.worth a d) (by simp[BE]);have B:=h.all (w.worth b d) (by simp[BE]);clear h hq;rcases M with rfl|rfl|rfl|rfl|rfl
 ·exact⟨y1b F.1 (Int.add_le_add h1 z),y1b (Int.add_le_add h2 q) B.2⟩
 ·exact⟨y1b G.1 (Int.sub_le_sub h1 q),y1b (Int.sub_le_sub h2 z) J.2⟩
 ·exact⟨y1b J.1 (Rn h2 z),y1b (Rn h1 q) G.2⟩
 ·exact⟨y1b F.1 (Ro h1 z),y1b (Ro h2 q) B.2⟩
 ·exact⟨y1b F.1 (Rp h1 z),y1b (Rp h2 q) B.2⟩
theorem Js{w:Wd}{a b c d v:Int}(B:a<=b)(q:c<=d)(hq:Sgn w c d)(h:v∈BE w a b c d):ValE w a b c d v:=by
 have hc:w=.quo->c≠0:=fun e=>by rcases hq e with z|z<;>lia
 have hd:w=.quo->d≠0:=fun e=>by rcases hq e with z|z<;>lia
 simp only[BE,yv,yp,or_false] at h;rcases h with rfl|rfl|rfl|rfl
 ·exact⟨a,c,.inl rfl,.inl rfl,y08 _,B,y08 _,q,hc,rfl⟩
 ·exact⟨b,c,.inr rfl,.inl rfl,B,y08 _,y08 _,q,hc,rfl⟩
 ·exact⟨a,d,.inl rfl,.inr (.inl rfl),y08 _,B,q,y08 _,hd,rfl⟩
 ·exact⟨b,d,.inr rfl,.inr (.inl rfl),B,y08 _,q,y08 _,hd,rfl⟩
theorem Jt{w:Wd}(B:plW w){a b c d lo hi:Int}(z:a<=b)(q:c<=d)(hq:Sgn w c d)(h:Hull (BE w a b c d) lo hi):IsS w a b c d (some (lo,hi)):=
 ⟨(Js z q hq h.l).val,(Js z q hq h.h).val,fun _ hv=>gR B q hq h hv,fun _=>⟨Js z q hq h.l,Js z q hq h.h⟩⟩
def bet(l h:Int):S:=if l>h then none else some (l,h)
def mn(i j:Int):Int:=if j<i then j else i
def mx(i j:Int):Int:=if j>i then j else i
def DM:S->S->S
 |none,y=>y
 |x,none=>x
 |some (a,b),some (c,d)=>some (mn a c,mx b d)
def BS:S->S->S
 |none,_=>none
 |_,none=>none
 |some (a,b),some (c,d)=>bet (mx a c) (mn b d)
def Bc(x y:S):Bool:=decide (BS x y=x)
def rng(lo:Int)(n:Nat):List Int:=(List.range n).map fun(i:Nat)=>lo+(i:Int)
theorem Gu(CX:CXT)(P:yl)(w:y07)(K:y3)(mg:Str->Option ya)(base:Heap)(N:List Str)(qual:Str)(scope:Scope)(f:Addr)(cd:ya)(A:y0a)(outer:List Env)(s:y9)(H:Hp)(E:XK):(BH CX P w K mg base N qual scope f cd A outer s H E).K=K:=rfl
theorem Gv(CX:CXT)(P:yl)(w:y07)(K:y3)(mg:Str->Option ya)(base:Heap)(N:List Str)(qual:Str)(scope:Scope)(f:Addr)(cd:ya)(A:y0a)(outer:List Env)(s:y9)(H:Hp)(E:XK):(BH CX P w K mg base N qual scope f cd A outer s H E).nox.K=K:=rfl
theorem Gw(X:Cx)(q:List Str)(scope:Scope)(cl:List (Str×Addr))(C:Addr)(s₀:y9)(H₀:Hp)(ex:List Addr):(B7 X q scope cl C s₀ H₀ ex).K=X.K:=rfl
theorem Gx{K:y3}{ta:TA}{g:TG}{tb:TS}{D:Ends}{σ:St}{H:Hp}:CJ (Vz K ta) g tb D σ H=ta σ H fun vs H1=>∃a,vs=[.ref a]/\(∃xs,SqL K H1 a xs)/\Cl (Ite K a) g tb D σ H1:=rfl
theorem Gy{K:y3}{ta:TA}{g:TG}{tb:TS}{D:Ends}{σ:St}{H:Hp}:CJ (W0 K ta) g tb D σ H=ta σ H fun vs H1=>∃a b,vs=[.ref a,.ref b]/\(∃xs,SqL K H1 a xs)/\(∃ys,SqL K H1 b ys)/\Cl (Itz K a b) g tb D σ H1:=rfl
theorem Gz{ta:TA}{g:TG}{tb:TS}{D:Ends}{σ:St}{H:Hp}:CJ (Kv ta) g tb D σ H=ta σ H fun vs H1=>∃i j:Int,vs=[.int i,.int j]/\(-(2^62)<=i/\i<2^62/\-(2^62)<=j/\j<2^62)/\Cl (Itr i (j-i).toNat) g tb D σ H1:=rfl
theorem H0:CM (W1 K tl) g tt te mp σ H Q=tl σ H fun x H1=>∃a,x=.ref a/\(((∃xs,SqL K H1 a xs)/\BN (Itl K a) g tt te Q (subσ mp σ) H1)\/((∃xs,SqT K H1 a xs)/\BN (Itt K a) g tt te Q (subσ mp σ) H1)):=rfl
theorem Ju(CX:CXT)(P:yl)(w:y07)(K:y3)(mg:Str->Option ya)(base:Heap)(N:List Str)(qual:Str)(scope:Scope)(f:Addr)(cd:ya)(A:y0a)(outer:List Env)(s:y9)(H:Hp)(E:XK):(BH CX P w K mg base N qual scope f cd A outer s H E).prog=P:=rfl
theorem Jv(CX:CXT)(P:yl)(w:y07)(K:y3)(mg:Str->Option ya)(base:Heap)(N:List Str)(qual:Str)(scope:Scope)(f:Addr)(cd:ya)(A:y0a)(outer:List Env)(s:y9)(H:Hp)(E:XK):(BH CX P w K mg base N qual scope f cd A outer s H E).w=w:=rfl
theorem Jw(CX:CXT)(P:yl)(w:y07)(K:y3)(mg:Str->Option ya)(base:Heap)(N:List Str)(qual:Str)(scope:Scope)(f:Addr)(cd:ya)(A:y0a)(outer:List Env)(s:y9)(H:Hp)(E:XK):(BH CX P w K mg base N qual scope f cd A outer s H E).nox.prog=P:=rfl
theorem Jx(CX:CXT)(P:yl)(w:y07)(K:y3)(mg:Str->Option ya)(base:Heap)(N:List Str)(qual:Str)(scope:Scope)(f:Addr)(cd:ya)(A:y0a)(outer:List Env)(s:y9)(H:Hp)(E:XK):(BH CX P w K mg base N qual scope f cd A outer s H E).nox.w=w:=rfl
theorem Jy(CX:CXT)(P:yl)(w:y07)(K:y3)(mg:Str->Option ya)(base:Heap)(N:List Str)(qual:Str)(scope:Scope)(f:Addr)(cd:ya)(A:y0a)(outer:List Env)(s:y9)(H:Hp)(E:XK):(BH CX P w K mg base N qual scope f cd A outer s H E).mg=mg:=rfl
theorem Jz(CX:CXT)(P:yl)(w:y07)(K:y3)(mg:Str->Option ya)(base:Heap)(N:List Str)(qual:Str)(scope:Scope)(f:Addr)(cd:ya)(A:y0a)(outer:List Env)(s:y9)(H:Hp)(E:XK):(BH CX P w K mg base N qual scope f cd A outer s H E).nox.mg=mg:=rfl
theorem K0(CX:CXT)(P:yl)(w:y07)(K:y3)(mg:Str->Option ya)(base:Heap)(N:List Str)(qual:Str)(scope:Scope)(f:Addr)(cd:ya)(A:y0a)(outer:List Env)(s:y9)(H:Hp)(E:XK):(BH CX P w K mg base N qual scope f cd A outer s H E).base=base:=rfl
theorem K6(CX:CXT)(P:yl)(w:y07)(K:y3)(mg:Str->Option ya)(base:Heap)(N:List Str)(qual:Str)(scope:Scope)(f:Addr)(cd:ya)(A:y0a)(outer:List Env)(s:y9)(H:Hp)(E:XK):(BH CX P w K mg base N qual scope f cd A outer s H E).nox.base=base:=rfl
theorem K7(X:Cx)(q:List Str)(scope:Scope)(cl:List (Str×Addr))(C:Addr)(s₀:y9)(H₀:Hp)(ex:List Addr):(B7 X q scope cl C s₀ H₀ ex).prog=X.prog:=rfl
theorem K8(X:Cx)(q:List Str)(scope:Scope)(cl:List (Str×Addr))(C:Addr)(s₀:y9)(H₀:Hp)(ex:List Addr):(B7 X q scope cl C s₀ H₀ ex).w=X.w:=rfl
theorem K9(X:Cx)(q:List Str)(scope:Scope)(cl:List (Str×Addr))(C:Addr)(s₀:y9)(H₀:Hp)(ex:List Addr):(B7 X q scope cl C s₀ H₀ ex).mg=X.mg:=rfl
theorem KA(X:Cx)(q:List Str)(scope:Scope)(cl:List (Str×Addr))(C:Addr)(s₀:y9)(H₀:Hp)(ex:List Addr):(B7 X q scope cl C s₀ H₀ ex).base=X.base:=rfl
theorem KC:CM (LK K ta) g tt te mp σ H Q=ta σ H fun vs H1=>∃a b,vs=[.ref a,.ref b]/\(∃xs,SqT K H1 a xs)/\(∃ys,SqT K H1 b ys)/\BN (D5 K a b) g tt te Q (subσ mp σ) H1:=rfl
local macro_rules | `(tactic| walk_at "rd")=>`(tactic| simp only[↓FW,↓FX,↓Fr,↓Fs,↓FZ,↓Fa,↓Ft,↓Fu,↓Fv,↓Fw,↓FR,↓EN,↓FS,FT,FU,FV,FY,CI,Fo,Fp,Fq,Fb,Fc,Fd,Fe,Ff,Fg,C9,B2,Dd,tOp,Az,tC,Da,B6,Cw,Cv,DZ,EV,Fm,EU,ET,tCB,BG,CK,Cy,tUn,rU,rI0,rI,Cs,tOr,EQ,tB,ER,Fi,ES,tIf,G9,GF,Ea,Dl,Ez,Dn,Ex,GE,Do,Fl,tSl,Ed,Ee,Ef,GJ,GI,GK,F0,Gx,Gy,Gz,H0,Dg,Ec,tBM,
 qEq,qNe,qIn,G4,El,Em,G5,En,Ek,Ep,GA,Eu,Es,Et,G8,rIx,Di,B0,Eg,Fx,Ej,Fy,G0,G3,Dk,Eh,Ei,EW,Fk,Cz,
 Gm,Gn,Go,Gp,Gq,Gs,Gu,Gv,Gw,Nat.reduceAdd,Nat.reduceSub,y30,y2z,y1z,
 y0r,y13,y1x,y1y,y26,y1h,V.int.injEq,V.ref.injEq,V.str.injEq,V.bl.injEq,V.ty.injEq,
 reduceCtorEq,false_and,and_false,and_true,true_and,exists_false,exists_const,false_or,or_false,exists_eq_left,exists_eq_left',exists_eq_right,exists_eq_right',exists_and_left,decide_eq_true_eq,y0e,y1q,exists_eq,true_or,or_true,y15,if_true,if_false,y1j,y2n,y2g,decide_true,decide_false,y21,y25,y0s,y0o,bne_self_eq_false,beq_self_eq_true])
section
variable{P:yl}{w:y07}{K:y3}{mg:Str->Option ya}{base:Heap}{f:Addr}{fd:y0v}
def Rq(K:y3):Sp:=fun vs H Q _=>∃(a:Addr) (ns:List Int) (k:Int),vs=[.ref a,.int k]/\SqL K H a (ns.map V.int)/\0<=k/\∀(i:Int) (H':Hp),Same H H'->Q (.int i) H'
theorem gS(F:Fun K "_law_cell" "_law_cell" Gk f fd) (b_len:mg "len" = none):FnOk P w K mg base CX0 1 f fd ["_law_script","_law_k"] (Rq K):=by
 refine F.ok fV (fun vs H Q E h=>?_) (fun Y A outer s H vs Q E hr h=>?_)
 ·obtain⟨a,ns,k,rfl,_⟩:=h;rfl
 obtain⟨a,ns,k,rfl,B,O,q⟩:=h;refine⟨_,(A5 (AJ (AH Ha (A2 1 rfl Jn) (AZ Io Ra b_len JG (A3 (A2 0 rfl IG) pa_nil) JW JP) (AF _)) (A7 (AA (A8 L6 (A2 0 rfl IG) (A2 1 rfl Jn) (fun _ _=>rfl)))) AI)
 (A5 (AJ (AH (gEq hr.units) (A2 0 rfl IG) (Dh pa_nil) (AF _)) (A7 (AA A4)) AI)
 (A7 (AA (AT Cd (AT HZ (A8 L6 (A2 0 rfl IG) (AT Ic (A2 1 rfl Jn) (AZ Io Ra b_len JG (A3 (A2 0 rfl IG) pa_nil) JW JP)) (fun _ _=>rfl)) A4) (A2 1 rfl Jn)))))),?_⟩
 walk_at "rd";refine⟨_,Rm B,?_⟩;rw[y4];split
 ·rename_i hk;obtain⟨i,_,e⟩:=Rl (c:=V.int) O hk;exact⟨_,B,_,e,q i H (Same.refl _)⟩
 ·refine⟨y05 _,fun p M=>?_⟩;have z:=AD M (.lst []);refine⟨_,gQ (z.seq B) (gO ns) (SqL.of A6),?_⟩;split
  ·exact q 0 _ z
  ·rename_i G;have J:0<(ns.length:Int):=by
    cases ns with
    |nil=>exact absurd rfl G
    |cons a r=>simp only[yh]; lia
   obtain⟨i,_,e⟩:=Rl (c:=V.int) (ns:=ns) (k:=k % (ns.length:Int)) (Int.emod_nonneg _ (by lia)) (y3m _ J);exact⟨_,Rm (z.seq B),by rw[y4]; exact J,_,z.seq B,_,by rw[y4]; exact e,i,rfl,.inr ⟨by decide,by decide⟩,q _ _ z⟩
def Rr(K:y3):Sp:=fun vs H Q _=>∃(a:Addr) (ns:List Int) (k m:Int),vs=[.ref a,.int k,.int m]/\SqL K H a (ns.map V.int)/\0<=k/\0<m/\∀(i:Int) (H':Hp),0<=i->i<m->Same H H'->Q (.int i) H'
theorem gT(F:Fun K "_law_pick" "_law_pick" DL f fd) (c_law_cell:Callee P w K mg base "_law_cell" ["_law_script","_law_k"] 1 (Rq K)):FnOk P w K mg base CX0 2 f fd ["_law_script","_law_k","_law_many"] (Rr K):=by
 refine F.ok sc_law_pick (fun vs H Q E h=>?_) (fun J A outer s H vs Q E hr h=>?_)
 ·obtain⟨a,ns,k,m,rfl,_⟩:=h;rfl
 obtain⟨a,ns,k,m,rfl,B,G,hm,q⟩:=h;refine⟨_,(A5 (AK (i:=3) sc_law_pick.nd rfl fX (AT Ic (AT HZ (AT Cd (AC c_law_cell hr (by lia) (A3 (A2 0 rfl fZ) (A3 (A2 1 rfl Rb) pa_nil)) fW XY) (AT HZ A4 (AT Cd (A2 1 rfl Rb) A4))) A4) A4) (AE rfl))
 (A7 (AA (AT Ic (AT Ic (AT Cd (AT HZ (A2 3 rfl MW) (A2 3 rfl MW)) (AT UW (A2 3 rfl MW) A4)) A4) (A2 2 rfl fY))))),?_⟩
 walk_at "rd";refine⟨a,ns,k,rfl,B,G,fun i H' z=>?_⟩;walk_at "rd";refine⟨.inl ⟨by decide,by decide⟩,.inr ⟨by decide,by decide⟩,by decide,?_⟩;have O:0<=(i+6151*(k+1))*40692 % 2147483399:=Int.emod_nonneg _ (by decide);have M:(i+6151*(k+1))*40692 % 2147483399<2147483399:=y3m _ (by decide);refine⟨.inl ⟨by lia,by lia⟩,⟨by decide,by decide⟩,by decide,hm,q _ _ (Int.emod_nonneg _ (by lia)) (y3m _ hm) z⟩
structure Df(K:y3)(mg:Str->Option ya)(x:Str)(st:Stmt)(ps:List Str)(f:Addr)(fd:y0v):Prop where
 F:Fun K x x st f fd
 m:mg x=some (.ref f)
 b:Binds K fd ps []
theorem Df.callee(d:Df K mg x st ps f fd)(h:FnOk P w K mg base CX0 k f fd ps sp):Callee P w K mg base x ps k sp:=⟨f,fd,h,d.m,d.F.kp,d.b⟩
theorem FG(s:Same H H')(h:H p=none):Same H (upd H' p o):=fun b u q=>by rw[AB (Ag q h)]; exact s b u q
end
theorem KD{K:y3}{ta:TA}{g:TG}{tb:TS}{D:Ends}{σ:St}{H:Hp}:CJ (LM K ta) g tb D σ H=ta σ H fun vs H1=>∃a,vs=[.ref a]/\(∃xs,SqT K H1 a xs)/\Cl (F2 K a) g tb D σ H1:=rfl
theorem gU{K:y3}{ta:TA}{g:TG}{tb:TS}{D:Ends}{σ:St}{H:Hp}:CJ (LK K ta) g tb D σ H=ta σ H fun vs H1=>∃a b,vs=[.ref a,.ref b]/\(∃xs,SqT K H1 a xs)/\(∃ys,SqT K H1 b ys)/\Cl (D5 K a b) g tb D σ H1:=rfl
theorem gW:CM (Kv ta) g tt te mp σ H Q=ta σ H fun vs H1=>∃i j:Int,vs=[.int i,.int j]/\(-(2^62)<=i/\i<2^62/\-(2^62)<=j/\j<2^62)/\BN (Itr i (j-i).toNat) g tt te Q (subσ mp σ) H1:=rfl
local macro_rules | `(tactic| walk_at "rd7")=>`(tactic| simp only[↓FW,↓FX,↓Fr,↓Fs,↓FZ,↓Fa,↓Ft,↓Fu,↓Fv,↓Fw,↓FR,↓EN,↓FS,FT,FU,FV,FY,CI,Fo,Fp,Fq,Fb,Fc,Fd,Fe,Ff,Fg,gW,PR,gU,PM,WT,PL,LP,WU,WW,Hl,WV,C9,B2,Dd,tOp,Az,tC,Da,B6,Cw,Cv,DZ,EV,Fm,EU,ET,tCB,BG,CK,Cy,tUn,rU,rI0,rI,Cs,tOr,EQ,tB,ER,Fi,ES,tIf,G9,GF,Ea,Dl,Ez,Dn,Ex,GE,Do,Fl,tSl,Ed,Ee,Ef,GJ,GI,GK,F0,Gx,KD,Gy,Gz,H0,Ju,Jv,Jw,Jx,Jy,K0,Jz,K6,K7,K8,K9,KA,KC,GM,GN,VI,tDX,F1,Dg,Ec,tBM,
 qEq,qNe,qIn,G4,El,Em,G5,En,Ek,Ep,GA,Eu,Es,Et,G8,rIx,Di,B0,Eg,Fx,Fy,G0,G3,Dk,Eh,Ei,EW,Fk,Cz,
 Gm,Gn,Go,Gp,Gq,Gs,Gu,Gv,Gw,Nat.reduceAdd,Nat.reduceSub,y30,y2z,y1z,
 y0r,y13,y1x,y1y,y26,y1h,V.int.injEq,V.ref.injEq,V.str.injEq,V.bl.injEq,V.ty.injEq,
 reduceCtorEq,false_and,and_false,and_true,true_and,exists_false,exists_const,false_or,or_false,exists_eq_left,exists_eq_left',exists_eq_right,exists_eq_right',exists_and_left,decide_eq_true_eq,y0e,y1q,exists_eq,true_or,or_true,y15,if_true,if_false,y1j,y2n,y2g,decide_true,decide_false,y21,y25,y0s,y0o,bne_self_eq_false,beq_self_eq_true])
local macro_rules | `(tactic| walk_at "rw")=>`(tactic| simp only[↓FW,↓FX,↓Fr,↓Fs,↓FZ,↓Fa,↓Ft,↓Fu,↓Fv,↓Fw,↓FR,↓EN,↓FS,FT,FU,FV,FY,CI,Fo,Fp,Fq,Fb,Fc,Fd,Fe,Ff,Fg,C9,Hj,He,Ht,B2,Dd,tOp,Az,tC,Da,B6,Cw,Cv,DZ,EV,Fm,EU,ET,tCB,BG,CK,Cy,tUn,rU,rI0,rI,Cs,tOr,EQ,tB,ER,Fi,ES,tIf,G9,GF,Ea,Dl,Ez,Dn,Ex,GE,Do,Fl,tSl,Ed,Ee,Ef,GJ,GI,GK,F0,Gx,Gy,Gz,H0,Dg,Ec,tBM,
 qEq,qNe,qIn,G4,El,Em,G5,En,Ek,Ep,GA,Eu,Es,Et,G8,rIx,Di,B0,Eg,Fx,Fy,G0,G3,Dk,Eh,Ei,EW,Fk,Cz,
 Gm,Gn,Go,Gp,Gq,Gs,Gu,Gv,Gw,Nat.reduceAdd,Nat.reduceSub,y30,y2z,y1z,
 y0r,y13,y1x,y1y,y26,y1h,V.int.injEq,V.ref.injEq,V.str.injEq,V.bl.injEq,V.ty.injEq,
 reduceCtorEq,false_and,and_false,and_true,true_and,exists_false,exists_const,false_or,or_false,exists_eq_left,exists_eq_left',exists_eq_right,exists_eq_right',exists_and_left,decide_eq_true_eq,y0e,y1q,exists_eq,true_or,or_true,y15,if_true,if_false,y1j,y2n,y2g,decide_true,decide_false,y21,y25,y0s,y0o,bne_self_eq_false,beq_self_eq_true])
section
variable{P:yl}{w:y07}{K:y3}{mg:Str->Option ya}{base:Heap}{f:Addr}{fd:y0v}
theorem AN{a b:TS}{D:Ends}{σ:St}{H:Hp}(h:∀N:St->Hp->Prop,N=b D->a {D with nx:=N} σ H):C9 a b D σ H:=h _ rfl
def AO:S->Dm
 |none=>.non
 |some (a,b)=>.tup [.int a,.int b]
theorem Rt(s:S):(AO s).shut=true/\SeqAt.shaped (AO s).dat=true:=by
 match s with
 |none=>exact⟨rfl,rfl⟩
 |some (a,b)=>exact⟨rfl,rfl⟩
theorem gX(s t:S):PyData.eqv (AO s).dat (AO t).dat=decide (s=t):=by
 match s,t with
 |none,none=>rfl
 |none,some (c,d)=>rfl
 |some (a,b),none=>rfl
 |some (a,b),some (c,d)=>
  simp only[AO,Dm.dat,Af,PyData.eqv,PyData.eqvAll,Bool.and_true];rw[y2a];simp
theorem dtS{H:Hp}{x:V}{s:S}(h:Dt H x (AO s)):(s=none/\x=.non)\/∃a b p,s=some (a,b)/\x=.ref p/\H p=some (.tup [.int a,.int b]):=by
 match s,h with
 |none,.non=>exact .inl ⟨rfl,rfl⟩
 |some (a,b),.tup e r=>
  rcases r with _|⟨z,_|⟨q,_|_⟩⟩;cases z; cases q;exact .inr ⟨a,b,_,rfl,rfl,e⟩
theorem Cm{H:Hp}{p:Addr}{a b:Int}(h:H p=some (.tup [.int a,.int b])):Dt H (.ref p) (AO (some (a,b))):=.tup h (.cons (.int a) (.cons (.int b) .nil))
theorem eqW(w v:Wd):Im K (.str w.str) (.str v.str) H (decide (w=v)):=.inl ⟨rfl,by cases w<;>cases v<;>decide+kernel⟩
def IH:Sp:=fun vs H Q _=>∃(w:Wd) (a b:Int),vs=[.str w.str,.int a,.int b]/\(w=.quo->b≠0)/\b.natAbs<1073741824/\Q (.int (w.worth a b)) H
theorem gY(F:Fun K "worth_of" "worth_of" E1 f fd) (b_min:mg "min" = none) (b_max:mg "max" = none):FnOk P w K mg base CX0 1 f fd ["word","one","other"] IH:=by
 refine F.ok Zo (fun vs H Q E h=>?_) (fun z A outer s H vs Q E hr h=>?_)
 ·obtain⟨w,a,b,rfl,_⟩:=h;rfl
 obtain⟨w,a,b,rfl,hq,hb,q⟩:=h;refine⟨_,(A5 (AJ (AH (gEq hr.units) (A2 0 rfl F8) AR (AF _)) (A7 (AA (AT Cd (A2 1 rfl E2) (A2 2 rfl E3)))) AI)
 (A5 (AJ (AH (gEq hr.units) (A2 0 rfl F8) AR (AF _)) (A7 (AA (AT Fn (A2 1 rfl E2) (A2 2 rfl E3)))) AI)
 (A5 (AJ (AH (gEq hr.units) (A2 0 rfl F8) AR (AF _)) (A7 (AA (AT HZ (A2 1 rfl E2) (A2 2 rfl E3)))) AI)
 (A5 (AJ (AH (gEq hr.units) (A2 0 rfl F8) AR (AF _)) (A7 (AA (AT UX (A2 1 rfl E2) (A2 2 rfl E3)))) AI)
 (A5 (AJ (AH (gEq hr.units) (A2 0 rfl F8) AR (AF _)) (A7 (AA (HW (AH Ha (A2 1 rfl E2) (A2 2 rfl E3) (AF _)) A4 A4))) AI)
 (A5 (AJ (AH (gEq hr.units) (A2 0 rfl F8) AR (AF _)) (A7 (AA (HW (AH G6 (A2 1 rfl E2) (A2 2 rfl E3) (AF _)) A4 A4))) AI)
 (A5 (AJ (AH (gEq hr.units) (A2 0 rfl F8) AR (AF _)) (A7 (AA (AZ (Hb rfl) Zq b_min GT (A3 (A2 1 rfl E2) (A3 (A2 2 rfl E3) pa_nil)) Gb GX))) AI)
 (A7 (AA (AZ (De rfl) Zp b_max DB (A3 (A2 1 rfl E2) (A3 (A2 2 rfl E3) pa_nil)) DE DD)))))))))),?_⟩
 walk_at "rd";have hm:CMul a b:=.inr ⟨by lia,by lia⟩;refine⟨_,eqW w .add,?_⟩;split
 ·rename_i e; cases of_decide_eq_true e; exact q
 rename_i Z;refine⟨_,eqW w .sub,?_⟩;split
 ·rename_i e; cases of_decide_eq_true e; exact q
 rename_i Y;refine⟨_,eqW w .mul,?_⟩;split
 ·rename_i e; cases of_decide_eq_true e; exact⟨hm,q⟩
 rename_i O;refine⟨_,eqW w .quo,?_⟩;split
 ·rename_i e; cases of_decide_eq_true e; exact⟨⟨hq rfl,hb⟩,q⟩
 rename_i M;refine⟨_,eqW w .less,?_⟩;split
 ·rename_i e; cases of_decide_eq_true e;have q:Q (.int (if a<b then 1 else 0)) H:=q;split
  ·rename_i c; rw[if_pos c] at q; exact q
  ·rename_i c; rw[if_neg c] at q; exact q
 rename_i J;refine⟨_,eqW w .same,?_⟩;split
 ·rename_i e; cases of_decide_eq_true e;have q:Q (.int (if a=b then 1 else 0)) H:=q;split
  ·rename_i c; rw[if_pos c] at q; exact q
  ·rename_i c; rw[if_neg c] at q; exact q
 rename_i G;refine⟨_,eqW w .min,?_⟩;split
 ·rename_i e; cases of_decide_eq_true e; exact⟨_,_,⟨rfl,rfl⟩,q⟩
 rename_i B;have e:w=.max:=by
  cases w<;>first|rfl|exact absurd rfl (by assumption)
 cases e;exact⟨_,_,⟨rfl,rfl⟩,q⟩
def KE:Sp:=fun vs H Q _=>∃(l h:Int),vs=[.int l,.int h]/\∀(r:V) (H':Hp),Same H H'->Dt H' r (AO (bet l h))->Q r H'
theorem gZ(F:Fun K "between" "between" I0 f fd):FnOk P w K mg base CX0 1 f fd ["low","high"] KE:=by
 refine F.ok a8 (fun vs H Q E h=>?_) (fun B A outer s H vs Q E hr h=>?_)
 ·obtain⟨l,h,rfl,_⟩:=h;rfl
 obtain⟨l,h,rfl,q⟩:=h;refine⟨_,(A5 (AJ (AH Ky (A2 0 rfl Qg) (A2 1 rfl Qf) (AF _)) (A7 (AA AY)) AI)
 (A7 (AA (AW (A3 (A2 0 rfl Qg) (A3 (A2 1 rfl Qf) pa_nil)))))),?_⟩
 walk_at "rd";split
 ·rename_i c;rw[show bet l h=none from if_pos c] at q;exact q _ _ (Same.refl _) .non
 ·rename_i c;rw[show bet l h=some (l,h) from if_neg c] at q;exact⟨zl 2 (by decide),fun p z=>q _ _ (AD z _) (Cm A6)⟩
def DN(g:S->S->S):Sp:=fun vs H Q _=>∃(x y:V) (s t:S),vs=[x,y]/\Dt H x (AO s)/\Dt H y (AO t)/\∀(r:V) (H':Hp),Same H H'->Dt H' r (AO (g s t))->Q r H'
theorem gb(F:Fun K "joined" "joined" F9 f fd) (b_min:mg "min" = none) (b_max:mg "max" = none):FnOk P w K mg base CX0 1 f fd ["one","other"] (DN DM):=by
 refine F.ok Zr (fun vs H Q E h=>?_) (fun M A outer s H vs Q E hr h=>?_)
 ·obtain⟨x,y,s,t,rfl,_⟩:=h;rfl
 obtain⟨x,y,s,t,rfl,hx,hy,q⟩:=h;refine⟨_,(A5 (AJ (AH BX (A2 0 rfl Ja) AY (AF _)) (A7 (AA (A2 1 rfl Jb))) AI)
 (A5 (AJ (AH BX (A2 1 rfl Jb) AY (AF _)) (A7 (AA (A2 0 rfl Ja))) AI)
 (A7 (AA (AW (A3 (AZ (Hb rfl) Zt b_min GT (A3 (A8 A9 (A2 0 rfl Ja) A4 (fun _ _=>rfl)) (A3 (A8 A9 (A2 1 rfl Jb) A4 (fun _ _=>rfl)) pa_nil)) Gb GX) (A3 (AZ (De rfl) Zs b_max DB (A3 (A8 A9 (A2 0 rfl Ja) A4 (fun _ _=>rfl)) (A3 (A8 A9 (A2 1 rfl Jb) A4 (fun _ _=>rfl)) pa_nil)) DE DD) pa_nil))))))),AN fun Y J=>?_⟩
 rcases dtS hx with⟨rfl,rfl⟩|⟨a,b,p,rfl,rfl,G⟩<;>rcases dtS hy with⟨rfl,rfl⟩|⟨c,d,p2,rfl,rfl,z⟩<;>walk_at "rd"
 ·exact q _ _ (Same.refl _) hy
 ·exact q _ _ (Same.refl _) hy
 ·rw[J];walk_at "rd";exact q _ _ (Same.refl _) hx
 ·rw[J];walk_at "rd";exact⟨_,SqT.of G,_,rfl,_,SqT.of z,_,rfl,_,_,⟨rfl,rfl⟩,_,SqT.of G,_,rfl,_,SqT.of z,_,rfl,_,_,⟨rfl,rfl⟩,zl 2 (by decide),fun O B=>q _ _ (AD B _) (Cm A6)⟩
def gc(w:Wd)(s t r:S):Prop:=match s,t with
 |some (a,b),some (c,d)=>∃lo hi,r=some (lo,hi)/\Hull (BE w a b c d) lo hi
 |_,_=>r=none
def ge(w:Wd)(t:S):Prop:=match t with
 |none=>True
 |some (c,d)=>(w=.quo->c≠0/\d≠0)/\c.natAbs<1073741824/\d.natAbs<1073741824
def Ru:Sp:=fun vs H Q _=>∃(w:Wd) (x y:V) (s t:S),vs=[.str w.str,x,y]/\Dt H x (AO s)/\Dt H y (AO t)/\ge w t/\∀(r:V) (H':Hp) (o:S),Same H H'->gc w s t o->Dt H' r (AO o)->Q r H'
def gf(H:Hp)(w:Wd)(p2:Addr)(ns:List Int)(k:Int)(i:Nat)(ys:List V)(q:St)(H':Hp):Prop:=H'=H/\(∃t,q=[t,some (.str w.str),some (.ref p2)])/\ys=((ns.take i).map fun x=>w.worth x k).map V.int
theorem gj(F:Fun K "stretch_of_ends" "stretch_of_ends" DF f fd) (b_min:mg "min" = none) (b_max:mg "max" = none) (c_worth_of:Callee P w K mg base "worth_of" ["word","one","other"] 1 IH):FnOk P w K mg base CX0 2 f fd ["word","one","other"] Ru:=by
 refine F.ok sc_stretch_of_ends (fun vs H Q E h=>?_) (fun ls A outer s H vs Q E hr h=>?_)
 ·obtain⟨w,x,y,s,t,rfl,_⟩:=h;rfl
 obtain⟨w,x,y,s,t,rfl,hx,hy,lj,q⟩:=h;refine⟨_,(A5 (AJ (PW.pt (Cu (AH BX (A2 1 rfl ME) AY (AF _)) (Ct (AH BX (A2 2 rfl aL) AY (AF _))))) (A7 (AA AY)) AI)
 (A5 (VW (i:=3) ["low_or_high","word","other"] [none,some 0,some 2] sc_stretch_of_ends.nd rfl aK rfl (CompS.of (by rfl)) (Db (A2 1 rfl ME)) (fun _ _ _ _ _=>(Ab (i:=0) (show List.Nodup (["low_or_high","word","other"]:List Str) from by decide+kernel) rfl (Or.inl rfl))) (fun _ _ _ _ _=>C1) (fun _ _ _ _ _=>(AC c_worth_of hr (by lia) (A3 (AQ (i:=1) rfl (by walk_at "vc") QD Ps) (A3 (AQ (i:=0) rfl (by walk_at "vc") Q7 Po) (A3 (A8 (ixK (r:=B0) (K:=K) A9 rfl) (AQ (i:=2) rfl (by walk_at "vc") JR JK) A4 (fun _ _=>rfl)) pa_nil))) rfl Ls)))
 (A5 (HX (L8 y33 PySem.F.slot_list_extend PySem.F.type_list_extend OR (A2 3 rfl MD) (A3 (C2 ["low_or_high","word","other"] [none,some 0,some 2] rfl (CompS.of (by rfl)) (Db (A2 1 rfl ME)) (fun _ _ _ _ _=>(Ab (i:=0) (show List.Nodup (["low_or_high","word","other"]:List Str) from by decide+kernel) rfl (Or.inl rfl))) (fun _ _ _ _ _=>C1) (fun _ _ _ _ _=>(AC c_worth_of hr (by lia) (A3 (AQ (i:=1) rfl (by walk_at "vc") QD Ps) (A3 (AQ (i:=0) rfl (by walk_at "vc") Q7 Po) (A3 (A8 (ixK (r:=B0) (K:=K) A9 rfl) (AQ (i:=2) rfl (by walk_at "vc") JR JK) A4 (fun _ _=>rfl)) pa_nil))) rfl Ls))) pa_nil)) (AE rfl))
 (A7 (AA (AW (A3 (AZ (Vk rfl) aJ b_min GT (A3 (A2 3 rfl MD) pa_nil) Gb GX) (A3 (AZ (Vl rfl) aI b_max DB (A3 (A2 3 rfl MD) pa_nil) DE DD) pa_nil)))))))),AN fun N1 e1=>?_⟩
 rcases dtS hx with⟨rfl,rfl⟩|⟨a,b,p,rfl,rfl,hp⟩<;>rcases dtS hy with⟨rfl,rfl⟩|⟨c,d,p2,rfl,rfl,lc⟩<;>walk_at "rd"
 ·exact q _ _ none (Same.refl _) rfl .non
 ·exact q _ _ none (Same.refl _) rfl .non
 ·exact q _ _ none (Same.refl _) rfl .non
 ·rw[e1];walk_at "rd";obtain⟨Z,hc,hd⟩:=lj;have J:∀(H1:Hp) (j k:Int) (t:Option V) (Q':VK),H1 p=some (.tup [.int a,.int b])->H1 p2=some (.tup [.int c,.int d])->atI [V.int c,V.int d] j=some (.int k)->(w=.quo->k≠0)->k.natAbs<1073741824->
    (∀z,H1 z=none->Q' (.ref z) (upd H1 z (.lst ([w.worth a k,w.worth b k].map V.int))))->
    BN (Itt K p) (B6 0) Cz (Cy IH [] E0 (BG (Az 1) (BG (Az 0) (BG (tOp (B0 K) (Az 2) (tC (V.int j))) CK)))) Q' [t,some (V.str w.str),some (V.ref p2)] H1:=by
   intro H1 j k t Q' g1 g2 hj lq hk fin
   refine Ik (K:=K) (a:=p) (xs:=[a,b].map V.int) (gf H1 w p2 [a,b] k) ⟨rfl,⟨_,rfl⟩,rfl⟩ (An (by simp)) ?_ ?_ ?_ ?_
   ·rintro i ys M H' ⟨_,_,rfl⟩
    rw[y4,y4,y04]
    lia
   ·rintro i ys M H' _ ⟨rfl,_,_⟩
    exact SqT.of g1
   ·rintro i ys v M H' B ⟨rfl,⟨t,rfl⟩,rfl⟩
    rw[ym] at B
    cases O:([a,b]:List Int)[i]? with
    |none=>rw[O] at B; cases B
    |some x=>
     rw[O] at B
     have ev:V.int x=v:=by simpa using B
     subst ev
     walk_at "rd"
     refine⟨_,SqT.of g2,_,hj,w,x,k,rfl,lq,hk,rfl,⟨_,rfl⟩,?_⟩
     rw[y0q,O,y02,y02]
     rfl
   ·rintro ys M H' ⟨rfl,_,rfl⟩ z G
    exact fin z G
  refine⟨⟨_,SqT.of hp⟩,J H 0 c none _ hp lc rfl (fun e=>(Z e).1) hc fun z G=>?_⟩;have Y:=AD G (.lst ([w.worth a c,w.worth b c].map V.int));have e3:(upd H z (.lst ([w.worth a c,w.worth b c].map V.int))) z=_:=A6;generalize upd H z (.lst ([w.worth a c,w.worth b c].map V.int))=U1 at Y e3 |-;refine⟨.inl ⟨rfl,_,SqL.of e3⟩,⟨_,SqT.of (Y _ _ hp)⟩,J U1 1 d none _ (Y _ _ hp) (Y _ _ lc) rfl (fun e=>(Z e).2) hd fun p4 ln=>?_⟩;have s2:=AD ln (.lst ([w.worth a d,w.worth b d].map V.int));have e4:(upd U1 p4 (.lst ([w.worth a d,w.worth b d].map V.int))) p4=_:=A6;generalize upd U1 p4 (.lst ([w.worth a d,w.worth b d].map V.int))=U2 at s2 e4 |-;have e5:upd U2 z (.lst (([w.worth a c,w.worth b c].map V.int)++([w.worth a d,w.worth b d].map V.int))) z=some (.lst ((BE w a b c d).map V.int)):=A6;have s3:Same H (upd U2 z (.lst (([w.worth a c,w.worth b c].map V.int)++([w.worth a d,w.worth b d].map V.int)))):=FG (Y.trans s2) G;refine⟨_,rfl,_,rfl,_,s2 _ _ e3,_,e4,zl 4 (by decide),?_⟩;generalize upd U2 z (.lst (([w.worth a c,w.worth b c].map V.int)++([w.worth a d,w.worth b d].map V.int)))=U3 at e5 s3 |-;refine⟨_,rfl,_,SqL.of e5,by simp[BE],fun lo lp lg=>⟨_,rfl,_,SqL.of e5,by simp[BE],fun hi lr lh=>⟨zl 2 (by decide),fun p5 lm=>?_⟩⟩⟩;exact q _ _ (some (lo,hi)) (s3.trans (AD lm _)) ⟨lo,hi,rfl,lp,lr,fun v hv=>⟨lg v hv,lh v hv⟩⟩ (Cm A6)
def OfRel(w:Wd)(s t r:S):Prop:=match s,t with
 |some (a,b),some (c,d)=>IsS w a b c d r
 |_,_=>r=none
def okS(n:Nat)(s:S):Prop:=match s with
 |none=>True
 |some (a,b)=>a<=b/\a.natAbs<n/\b.natAbs<n
def Ma:Sp:=fun vs H Q _=>∃(w:Wd) (x y:V) (s t:S),vs=[.str w.str,x,y]/\plW w/\Dt H x (AO s)/\Dt H y (AO t)/\okS 1073741824 s/\okS 1073741824 t/\∀(r:V) (H':Hp) (o:S),Same H H'->OfRel w s t o->Dt H' r (AO o)->Q r H'
theorem gk(F:Fun K "stretch_of" "stretch_of" Bb f fd) (b_min:mg "min" = none) (b_max:mg "max" = none) (c_between:Callee P w K mg base "between" ["low","high"] 1 KE) (c_joined:Callee P w K mg base "joined" ["one","other"] 1 (DN DM))
  (c_stretch_of_same:Callee P w K mg base "stretch_of_same" ["one","other"] 0 (fun _ _ _ _=>False)) (c_stretch_of_ends:Callee P w K mg base "stretch_of_ends" ["word","one","other"] 2 Ru):FnOk P w K mg base CX0 4 f fd ["word","one","other"] Ma:=by
 refine F.ok sc_stretch_of (fun vs H Q E h=>?_) (fun lc A outer s H vs Q E hr h=>?_)
 ·obtain⟨w,x,y,s,t,rfl,_⟩:=h;rfl
 obtain⟨w,x,y,s,t,rfl,hw,hx,hy,M,G,q⟩:=h;refine⟨_,(A5 (AJ (AH (gEq hr.units) (A2 0 rfl I8) AR (AF _)) (A7 (AA (AC c_stretch_of_same hr (by lia) (A3 (A2 1 rfl Jc) (A3 (A2 2 rfl FA) pa_nil)) aC YN))) AI)
 (A5 (AJ (PW.pt (HV (AH (gEq hr.units) (A2 0 rfl I8) AR (AF _)) (HU (AH Eo (A2 2 rfl FA) AY (AF _))))) (A5 (AK (i:=3) sc_stretch_of.nd rfl aE (AC c_between hr (by lia) (A3 (A8 A9 (A2 2 rfl FA) A4 (fun _ _=>rfl)) (A3 (AZ (Hb rfl) aB b_min GT (A3 (A8 A9 (A2 2 rfl FA) A4 (fun _ _=>rfl)) (A3 (Nv Ny A4) pa_nil)) Gb GX) pa_nil)) Qh Hw) (AE rfl))
 (A5 (AK (i:=4) sc_stretch_of.nd rfl aD (AC c_between hr (by lia) (A3 (AZ (De rfl) aA b_max DB (A3 (A8 A9 (A2 2 rfl FA) A4 (fun _ _=>rfl)) (A3 A4 pa_nil)) DE DD) (A3 (A8 A9 (A2 2 rfl FA) A4 (fun _ _=>rfl)) pa_nil)) Qh Hw) (AE rfl))
 (A7 (AA (AC c_joined hr (by lia) (A3 (AC c_stretch_of_ends hr (by lia) (A3 (A2 0 rfl I8) (A3 (A2 1 rfl Jc) (A3 (A2 3 rfl aG) pa_nil))) MC Lp) (A3 (AC c_stretch_of_ends hr (by lia) (A3 (A2 0 rfl I8) (A3 (A2 1 rfl Jc) (A3 (A2 4 rfl aF) pa_nil))) MC Lp) pa_nil)) a9 JO))))) AI)
 (A7 (AA (AC c_stretch_of_ends hr (by lia) (A3 (A2 0 rfl I8) (A3 (A2 1 rfl Jc) (A3 (A2 2 rfl FA) pa_nil))) MC Lp))))),?_⟩
 walk_at "rd";have Y:w≠.same:=by rcases hw with rfl|rfl|rfl|rfl|rfl<;>decide
 have J:w≠.quo:=by rcases hw with rfl|rfl|rfl|rfl|rfl<;>decide
 refine⟨_,eqW w .same,?_⟩;rw[if_neg (by simpa using Y)];refine⟨_,eqW w .quo,?_⟩;rw[if_neg (by simpa using J)];refine⟨w,x,y,s,t,rfl,hx,hy,?_,fun r H' o O B dr=>q r H' o O ?_ dr⟩
 ·match t,G with
  |none,_=>trivial
  |some (c,d),G=>exact⟨fun z=>absurd z J,G.2.1,G.2.2⟩
 ·match s,t,M,G,B with
  |none,none,_,_,B=>exact B
  |none,some (c,d),_,_,B=>exact B
  |some (a,b),none,_,_,B=>exact B
  |some (a,b),some (c,d),M,G,B=>
   obtain⟨lo,hi,rfl,Z⟩:=B;exact Jt hw M.1 G.1 (fun z=>absurd z J) Z
end
theorem Same.seqT{K:y3}{H H':Hp}{a:Addr}{xs:List V}(e:Same H H')(h:SqT K H a xs):SqT K H' a xs:=by
 rcases h with(h|⟨o,h⟩)|h
 ·exact .inl (.inl (e _ _ h))
 ·exact .inl (.inr ⟨o,e _ _ h⟩)
 ·exact .inr h
def StK(K:y3)(H:Hp)(x:V)(s:S):Prop:=(s=none/\x=.non)\/∃a b p,s=some (a,b)/\x=.ref p/\SqT K H p [.int a,.int b]
theorem StK.of{K:y3}{H:Hp}{x:V}{s:S}(h:Dt H x (AO s)):StK K H x s:=by
 rcases dtS h with h|⟨a,b,p,h1,h2,q⟩
 ·exact .inl h
 ·exact .inr ⟨a,b,p,h1,h2,SqT.of q⟩
theorem StK.same{K:y3}{H H':Hp}{x:V}{s:S}(h:StK K H x s)(e:Same H H'):StK K H' x s:=by
 rcases h with h|⟨a,b,p,h1,h2,q⟩
 ·exact .inl h
 ·exact .inr ⟨a,b,p,h1,h2,Same.seqT e q⟩
theorem StK.fl{K:y3}{H:Hp}{x:V}{s:S}(h:StK K H x s):FlK K H x (AO s):=by
 rcases h with⟨rfl,rfl⟩|⟨a,b,p,rfl,rfl,q⟩
 ·exact .inl .non
 ·exact .inr ⟨p,[a,b],rfl,rfl,q⟩
theorem gm{K:y3}{H:Hp}{x y:V}{s t:S}(h:StK K H x s)(k:StK K H y t):EqK K H x y (decide (s=t)):=
 ⟨_,_,h.fl,k.fl,Rt s,Rt t,(gX s t).symm⟩
section
variable{P:yl}{w:y07}{K:y3}{mg:Str->Option ya}{base:Heap}{f:Addr}{fd:y0v}
theorem Callee.imp{x:Str}{ps:List Str}{k:Nat}{sp q:Sp}(h:Callee P w K mg base x ps k sp)(i:∀vs H Q E,q vs H Q E->sp vs H Q E):Callee P w K mg base x ps k q:=by
 obtain⟨f,fd,a,b,c,d⟩:=h;exact⟨f,fd,a.imp i,b,c,d⟩
def KF(K:y3)(g:S->S->S):Sp:=fun vs H Q _=>∃(x y:V) (s t:S),vs=[x,y]/\StK K H x s/\StK K H y t/\∀(r:V) (H':Hp),Same H H'->Dt H' r (AO (g s t))->Q r H'
theorem gn{g:S->S->S}(vs:List V)(H:Hp)(Q:VK)(E:XK)(h:DN g vs H Q E):KF K g vs H Q E:=by
 obtain⟨x,y,s,t,e,h1,h2,q⟩:=h;exact⟨x,y,s,t,e,.of h1,.of h2,q⟩
theorem gp(F:Fun K "met" "met" E4 f fd) (b_min:mg "min" = none) (b_max:mg "max" = none) (c_between:Callee P w K mg base "between" ["low","high"] 1 KE):FnOk P w K mg base CX0 2 f fd ["one","other"] (KF K BS):=by
 refine F.ok Zu (fun vs H Q E h=>?_) (fun O A outer s H vs Q E hr h=>?_)
 ·obtain⟨x,y,s,t,rfl,_⟩:=h;rfl
 obtain⟨x,y,s,t,rfl,hx,hy,q⟩:=h;refine⟨_,(A5 (AJ (PW.pt (Cu (AH BX (A2 0 rfl MA) AY (AF _)) (Ct (AH BX (A2 1 rfl MB) AY (AF _))))) (A7 (AA AY)) AI)
 (A7 (AA (AC c_between hr (by lia) (A3 (AZ (De rfl) Zw b_max DB (A3 (A8 A9 (A2 0 rfl MA) A4 (fun _ _=>rfl)) (A3 (A8 A9 (A2 1 rfl MB) A4 (fun _ _=>rfl)) pa_nil)) DE DD) (A3 (AZ (Hb rfl) Zx b_min GT (A3 (A8 A9 (A2 0 rfl MA) A4 (fun _ _=>rfl)) (A3 (A8 A9 (A2 1 rfl MB) A4 (fun _ _=>rfl)) pa_nil)) Gb GX) pa_nil)) Zv Hw)))),AN fun Y M=>?_⟩
 rcases hx with⟨rfl,rfl⟩|⟨a,b,p,rfl,rfl,G⟩<;>rcases hy with⟨rfl,rfl⟩|⟨c,d,p2,rfl,rfl,z⟩<;>walk_at "rd"
 ·exact q _ _ (Same.refl _) .non
 ·exact q _ _ (Same.refl _) .non
 ·exact q _ _ (Same.refl _) .non
 ·rw[M];walk_at "rd";exact⟨_,G,_,rfl,_,z,_,rfl,_,_,⟨rfl,rfl⟩,_,G,_,rfl,_,z,_,rfl,_,_,⟨rfl,rfl⟩,_,_,rfl,fun r H' J B=>q _ _ J B⟩
def Mb(K:y3):Sp:=fun vs H Q _=>∃(x y:V) (s t:S),vs=[x,y]/\StK K H x s/\StK K H y t/\∀(H':Hp),Same H H'->Q (.bl (Bc s t)) H'
theorem gq(F:Fun K "is_within" "is_within" Gf f fd) (c_met:Callee P w K mg base "met" ["one","other"] 2 (KF K BS)):FnOk P w K mg base CX0 3 f fd ["one","other"] (Mb K):=by
 refine F.ok Zy (fun vs H Q E h=>?_) (fun G A outer s H vs Q E hr h=>?_)
 ·obtain⟨x,y,s,t,rfl,_⟩:=h;rfl
 obtain⟨x,y,s,t,rfl,hx,hy,q⟩:=h;refine⟨_,(A7 (AA (Dc (kEq hr.units) (AC c_met hr (by lia) (A3 (A2 0 rfl Qd) (A3 (A2 1 rfl a7) pa_nil)) Zz Ln) (A2 0 rfl Qd) (AF _)))),?_⟩;walk_at "rw";refine⟨x,y,s,t,rfl,hx,hy,fun r H' z B=>?_⟩;exact⟨_,gm (.of B) (hx.same z),q _ z⟩
def Rv(o:Int×Int)(v:Int):S:=if v=o.1 then bet (o.1+1) o.2 else if v=o.2 then bet o.1 (o.2-1) else some o
def Rx(o p:Int×Int)(q:Bool):S:=if q=true then BS (some o) (some p) else if p.1≠p.2 then some o else Rv o p.1
end
def HA(w:Wd)(o p:Int×Int)(q:Bool):S:=if w=.same then Rx o p q else if q=true then bet o.1 (mn o.2 (p.2-1)) else bet (mx o.1 p.1) o.2
def Ry(w:Wd)(o p:Int×Int)(q:Bool):S:=if w=.same then Rx o p q else if q=true then bet (mx o.1 (p.1+1)) o.2 else bet o.1 (mn o.2 p.2)
def gs(s:S)(q:Bool):S:=match s with
 |none=>none
 |some o=>if q=true then Rv o 0 else BS (some o) (some (0,0))
section
variable{P:yl}{w:y07}{K:y3}{mg:Str->Option ya}{base:Heap}{f:Addr}{fd:y0v}
theorem KG{H:Hp}{x:V}{o:Int×Int}(h:Dt H x (AO (some o))):∃p,x=.ref p/\H p=some (.tup [.int o.1,.int o.2]):=by
 rcases dtS h with⟨e,_⟩|⟨a,b,p,e,hx,q⟩
 ·cases e
 ·cases e; exact⟨p,hx,q⟩
def Rz(g:Wd->Int×Int->Int×Int->Bool->S):Sp:=fun vs H Q _=>∃(w:Wd) (x y:V) (o p:Int×Int) (q:Bool),vs=[.str w.str,x,y,.bl q]/\w=.less/\Dt H x (AO (some o))/\Dt H y (AO (some p))/\∀(r:V) (H':Hp),Same H H'->Dt H' r (AO (g w o p q))->Q r H'
theorem gu(F:Fun K "left_of_one" "left_of_one" CS f fd) (b_min:mg "min" = none) (b_max:mg "max" = none) (c_between:Callee P w K mg base "between" ["low","high"] 1 KE) (c_left_by_same:Callee P w K mg base "left_by_same" ["own","beside","is_so"] 0 (fun _ _ _ _=>False)):FnOk P w K mg base CX0 4 f fd ["word","own","other","is_so"] (Rz HA):=by
 refine F.ok al (fun vs H Q E h=>?_) (fun O A outer s H vs Q E hr h=>?_)
 ·obtain⟨w,x,y,o,p,M,rfl,_⟩:=h;rfl
 obtain⟨w,x,y,o,p,M,rfl,rfl,hx,hy,q⟩:=h;obtain⟨Z,rfl,z⟩:=KG hx;obtain⟨Y,rfl,B⟩:=KG hy;refine⟨_,(A5 (AJ (AH (gEq hr.units) (A2 0 rfl aq) AR (AF _)) (A7 (AA (AC c_left_by_same hr (by lia) (A3 (A2 1 rfl IA) (A3 (A2 2 rfl MJ) (A3 (A2 3 rfl Qr) pa_nil))) am Xx))) AI)
 (A5 (AJ (Be (A2 3 rfl Qr)) (A7 (AA (AC c_between hr (by lia) (A3 (A8 A9 (A2 1 rfl IA) A4 (fun _ _=>rfl)) (A3 (AZ (Hb rfl) ap b_min GT (A3 (A8 A9 (A2 1 rfl IA) A4 (fun _ _=>rfl)) (A3 (AT Fn (A8 A9 (A2 2 rfl MJ) A4 (fun _ _=>rfl)) A4) pa_nil)) Gb GX) pa_nil)) Qq Hw))) AI)
 (A7 (AA (AC c_between hr (by lia) (A3 (AZ (De rfl) ao b_max DB (A3 (A8 A9 (A2 1 rfl IA) A4 (fun _ _=>rfl)) (A3 (A8 A9 (A2 2 rfl MJ) A4 (fun _ _=>rfl)) pa_nil)) DE DD) (A3 (A8 A9 (A2 1 rfl IA) A4 (fun _ _=>rfl)) pa_nil)) Qq Hw))))),?_⟩
 walk_at "rd";refine⟨_,eqW .less .same,?_⟩;rw[if_neg (by decide)];cases M with
 |true=>
  rw[if_pos rfl];refine⟨_,SqT.of z,_,rfl,_,SqT.of z,_,rfl,_,SqT.of B,_,rfl,_,rfl,_,_,⟨rfl,rfl⟩,_,_,rfl,fun r H' G J=>q r H' G ?_⟩;unfold HA;rw[if_neg (by decide),if_pos rfl]; exact J
 |false=>
  rw[if_neg (by simp)];refine⟨_,SqT.of z,_,rfl,_,SqT.of B,_,rfl,_,_,⟨rfl,rfl⟩,_,SqT.of z,_,rfl,_,_,rfl,fun r H' G J=>q r H' G ?_⟩;unfold HA;rw[if_neg (by decide),if_neg (by simp)]; exact J
abbrev Bk:=List (Str×Int×Int)
def BkR(H:Hp)(kvs:List (Key×V))(bk:Bk):Prop:=Paired (fun(p:Key×V) (q:Str×Int×Int)=>p.1=.inr q.1/\Dt H p.2 (AO (some q.2))) kvs bk
theorem BkR.kp{H H':Hp}{kvs:List (Key×V)}{bk:Bk}(h:BkR H kvs bk)(k:Kp H H'):BkR H' kvs bk:=Paired.mapP h fun _ _ z=>⟨z.1,z.2.kp k⟩
def look:Bk->Str->S
 |[],_=>none
 |q::r,x=>if q.1=x then some q.2 else look r x
def Ao(bk:Bk)(x:Str)(s:Int×Int):Bk:=if(bk.any fun q=>decide (q.1=x))=true then bk.map (fun q=>if q.1=x then(q.1,s) else q) else bk++[(x,s)]
theorem BkR.look{H:Hp}{kvs:List (Key×V)}{bk:Bk}(h:BkR H kvs bk)(x:Str):(look bk x=none/\AX kvs (.inr x)=none)\/∃s v,look bk x=some s/\AX kvs (.inr x)=some v/\Dt H v (AO (some s)):=by
 unfold BkR at h;induction h with
 |nil=>exact .inl ⟨rfl,rfl⟩
 |cons B _ F=>
  rename_i p q _ _ _;obtain⟨e,d⟩:=B;by_cases hx:q.1=x
  ·refine .inr ⟨q.2,p.2,?_,Bi (by rw[e,hx]),d⟩;unfold SR.look;rw[if_pos hx]
  ·rw[Bj (by rw[e]; intro z; exact hx (Sum.inr.inj z))];unfold SR.look;rw[if_neg hx];exact F
theorem BkR.any{H:Hp}{kvs:List (Key×V)}{bk:Bk}(h:BkR H kvs bk)(x:Str):(kvs.any fun kv=>decide (kv.1=(Sum.inr x:Key)))=bk.any fun q=>decide (q.1=x):=by
 unfold BkR at h;induction h with
 |nil=>rfl
 |cons z _ B=>
  rename_i p q _ _ _;rw[y1p,y1p,B,z.1,Nk]
theorem BkR.put_map{H:Hp}{x:Str}{v:V}{s:Int×Int}(d:Dt H v (AO (some s))){kvs:List (Key×V)}{bk:Bk}(h:BkR H kvs bk):BkR H (kvs.map fun kv=>if kv.1=Sum.inr x then(kv.1,v) else kv) (bk.map fun q=>if q.1=x then(q.1,s) else q):=by
 unfold BkR at h |-;induction h with
 |nil=>exact .nil
 |cons B _ F=>
  rename_i p q _ _ _;rw[yc,yc];refine .cons ?_ F;by_cases hx:q.1=x
  ·rw[if_pos hx,if_pos (show p.1=Sum.inr x by rw[B.1,hx])];exact⟨B.1,d⟩
  ·rw[if_neg hx,if_neg (show ¬ p.1=Sum.inr x by rw[B.1]; intro z; exact hx (Sum.inr.inj z))];exact B
theorem BkR.put{H:Hp}{kvs:List (Key×V)}{bk:Bk}(h:BkR H kvs bk)(x:Str){v:V}{s:Int×Int}(d:Dt H v (AO (some s))):BkR H (AM kvs (.inr x) v) (Ao bk x s):=by
 unfold AM Ao;rw[h.any x];split
 ·exact h.put_map d
 ·exact y36 h ⟨rfl,d⟩
theorem BkR.length{H:Hp}{kvs:List (Key×V)}{bk:Bk}(h:BkR H kvs bk):kvs.length=bk.length:=y28 h
theorem Rd.same{H H':Hp}{a:Addr}{u:HO}(r:Rd H a u)(s:Same H H'):Rd H' a u:=r.imp (s _ _) fun⟨o,e⟩=>⟨o,s _ _ e⟩
theorem DGet.kr{H:Hp}{a:Addr}{kvs:List (Key×V)}{k:Key}(e:Rd H a (.dK kvs)):DGet H a (kV k) (AX kvs k):=.inl ⟨kvs,k,e,rfl,rfl⟩
def IsBk(H:Hp)(d:Addr)(bk:Bk):Prop:=∃kvs,Rd H d (.dK kvs)/\BkR H kvs bk
theorem IsBk.same{H H':Hp}{d:Addr}{bk:Bk}(h:IsBk H d bk)(s:Same H H'):IsBk H' d bk:=by
 obtain⟨kvs,e,r⟩:=h;exact⟨kvs,Rd.same e s,r.kp s.kp⟩
def CF(H:Hp)(r:V)(o:Option Bk):Prop:=match o with
 |none=>r=.non
 |some bk=>∃d,r=.ref d/\IsBk H d bk
theorem ED(h:H p=some (.dK kvs)):Kp H (upd H p (.dK kvs')):=
 ⟨fun b zs e=>by rw[AB (BL e h (by intro z; cases z))]; exact e,fun b zs e=>⟨zs,by rw[AB (BL e h (by intro z; cases z))]; exact e⟩⟩
def Mc:Sp:=fun vs H Q _=>∃(d:Addr) (x:Str) (v:V) (bk:Bk) (s:S),vs=[.ref d,.str x,v]/\IsBk H d bk/\bk.length<=910/\Dt H v (AO s)/\∀(r:V) (H':Hp),Same H H'->CF H' r (s.map (Ao bk x))->Q r H'
theorem gw(F:Fun K "with_left" "with_left" DI f fd) (b_dict:mg "dict" = none):FnOk P w K mg base CX0 1 f fd ["book","name","stretch"] Mc:=by
 refine F.ok sc_with_left (fun vs H Q E h=>?_) (fun Z A outer s H vs Q E hr h=>?_)
 ·obtain⟨d,x,v,bk,s,rfl,_⟩:=h;rfl
 obtain⟨d,x,v,bk,s,rfl,⟨kvs,hd,O⟩,Y,hv,q⟩:=h;refine⟨_,(A5 (AJ (AH BX (A2 2 rfl Qp) AY (AF _)) (A7 (AA AY)) AI)
 (A5 (AK (i:=3) sc_with_left.nd rfl ag (D3 Iu af b_dict GR (A3 (A2 0 rfl ah) pa_nil) GZ GV) (AE rfl))
 (A5 (C3 hr.units1 (A2 3 rfl Qo) (A2 1 rfl aj) (A2 2 rfl Qp) (AE rfl))
 (A7 (AA (A2 3 rfl Qo)))))),?_⟩
 rcases dtS hv with⟨rfl,rfl⟩|⟨a,b,p,rfl,rfl,hp⟩<;>walk_at "rd"
 ·exact q _ _ (Same.refl _) rfl
 ·refine⟨_,hd,fun z B=>?_⟩;have G:=AD B (HO.dK kvs);have J:upd H z (HO.dK kvs) z=_:=A6;have M:∀o,Same H (upd (upd H z (HO.dK kvs)) z o):=fun o=>FG G B;generalize upd H z (HO.dK kvs)=U at G J M |-;refine⟨_,DPut.k (k:=.inr x) J (by rw[O.length]; exact An (by lia)),?_⟩;refine q _ _ (M _) ⟨z,rfl,_,.inl A6,?_⟩;exact(O.kp ((G.kp).trans (ED J))).put x (hv.kp ((G.kp).trans (ED J)))
def II(bk:Bk):T->S
 |.num i=>some (i,i)
 |.nm x=>look bk x
 |.op _ _ _=>none
def gx:T->Prop
 |.op _ _ _=>False
 |_=>True
def S0:Sp:=fun vs H Q _=>∃(v:V) (t:T) (d:Addr) (bk:Bk),vs=[v,.ref d]/\Dt H v t.enc/\gx t/\IsBk H d bk/\∀(r:V) (H':Hp),Same H H'->Dt H' r (AO (II bk t))->Q r H'
theorem gy{rw:Addr} (F:Fun K "reckoned_from" "reckoned_from" DG f fd) (g_WIDE:GC mg "WIDE" (.ref rw)) (c_met:Callee P w K mg base "met" ["one","other"] 2 (DN BS)) (c_stretch_of:Callee P w K mg base "stretch_of" ["word","one","other"] 4 Ma)
  (c_reckoned_from:Callee P w K mg base "reckoned_from" ["term","book"] 0 (fun _ _ _ _=>False)):FnOk P w K mg base CX0 5 f fd ["term","book"] S0:=by
 refine F.ok aM (fun vs H Q E h=>?_) (fun Z A outer s H vs Q E hr h=>?_)
 ·obtain⟨v,t,d,bk,rfl,_⟩:=h;rfl
 obtain⟨v,t,d,bk,rfl,hv,O,⟨kvs,hd,M⟩,q⟩:=h;refine⟨_,(A5 (AJ (AH (gEq hr.units) (A8 A9 (A2 0 rfl E5) A4 (fun _ _=>rfl)) AR (AF _)) (A7 (AA (AW (A3 (A8 A9 (A2 0 rfl E5) A4 (fun _ _=>rfl)) (A3 (A8 A9 (A2 0 rfl E5) A4 (fun _ _=>rfl)) pa_nil))))) AI)
 (A5 (AJ (AH (gEq hr.units) (A8 A9 (A2 0 rfl E5) A4 (fun _ _=>rfl)) AR (AF _)) (A7 (AA (Ir hr.units1 (A2 1 rfl MF) (A8 A9 (A2 0 rfl E5) A4 (fun _ _=>rfl)) ⟨rfl,rfl,rfl,rfl⟩))) AI)
 (A7 (AA (AC c_met hr (by lia) (A3 (AC c_stretch_of hr (by lia) (A3 (A8 A9 (A2 0 rfl E5) A4 (fun _ _=>rfl)) (A3 (AC c_reckoned_from hr (by lia) (A3 (A8 A9 (A2 0 rfl E5) A4 (fun _ _=>rfl)) (A3 (A2 1 rfl MF) pa_nil)) Qi JT) (A3 (AC c_reckoned_from hr (by lia) (A3 (A8 A9 (A2 0 rfl E5) A4 (fun _ _=>rfl)) (A3 (A2 1 rfl MF) pa_nil)) Qi JT) pa_nil))) aP QB) (A3 (Bg g_WIDE aN DC) pa_nil)) aO Ln))))),?_⟩
 match t,hv,O with
 |.num i,hv,_=>
  obtain⟨pv,xs,rfl,z,J⟩:=hv.tupI;rcases J with _|⟨d1,_|⟨d2,_|_⟩⟩;cases d1; cases d2;walk_at "rd";refine⟨_,SqT.of z,_,rfl,_,.inl ⟨rfl,rfl⟩,?_⟩;rw[if_pos (by decide+kernel)];exact⟨_,SqT.of z,_,rfl,_,SqT.of z,_,rfl,zl 2 (by decide),fun p Y=>q _ _ (AD Y _) (Cm A6)⟩
 |.nm x,hv,_=>
  obtain⟨pv,xs,rfl,z,J⟩:=hv.tupI;rcases J with _|⟨d1,_|⟨d2,_|_⟩⟩;cases d1; cases d2;walk_at "rd";refine⟨_,SqT.of z,_,rfl,_,.inl ⟨rfl,rfl⟩,?_⟩;rw[if_neg (by decide+kernel)];refine⟨_,SqT.of z,_,rfl,_,.inl ⟨rfl,rfl⟩,?_⟩;rw[if_pos (by decide+kernel)];refine⟨.inl ⟨_,hd⟩,_,SqT.of z,_,rfl,_,DGet.kr (k:=.inr x) hd,?_⟩;have q:∀(r:V) (H':Hp),Same H H'->Dt H' r (AO (look bk x))->Q r H':=q;rcases M.look x with⟨G,B⟩|⟨sx,vx,G,B,dx⟩
  ·rw[B];rw[G] at q;exact q _ _ (Same.refl _) .non
  ·rw[B];rw[G] at q;exact q _ _ (Same.refl _) dx
theorem HB(bk:Bk)(x:Str)(s:Int×Int):(Ao bk x s).length<=bk.length+1:=by
 unfold Ao;split
 ·rw[y4]; lia
 ·rw[yt]; simp
end
def bq1(w:Wd)(a:T)(z q:Int×Int)(bk:Bk)(B:Bool):Option Bk:=match a with
 |.nm x=>(HA w z q B).map (Ao bk x)
 |_=>some bk
def bq2(w:Wd)(b:T)(q:Int×Int)(bk:Bk)(z:Bool):Option Bk:=match b with
 |.nm y=>(match look bk y with|some own=>(Ry w own q z).map (Ao bk y)|none=>none)
 |_=>some bk
def bq(w:Wd)(a b:T)(bk:Bk)(F:Bool):Option Bk:=match II bk a,II bk b with
 |some z,some q=>(match bq1 w a z q bk F with|some B=>bq2 w b z B F|none=>none)
 |_,_=>none
def bhd(t:T)(bk:Bk)(q:Bool):Option Bk:=match t with
 |.nm x=>(gs (look bk x) q).map (Ao bk x)
 |.op w a b=>bq w a b bk q
 |.num _=>some bk
section
variable{P:yl}{w:y07}{K:y3}{mg:Str->Option ya}{base:Heap}{f:Addr}{fd:y0v}
def S1:Sp:=fun vs H Q _=>∃(v:V) (x:Str) (g:Int) (d:Addr) (bk:Bk) (q:Bool),vs=[v,.ref d,.bl q]/\Dt H v (T.op .less (.nm x) (.num g)).enc/\IsBk H d bk/\bk.length<=900/\∀(r:V) (H':Hp),Same H H'->CF H' r (bq .less (.nm x) (.num g) bk q)->Q r H'
theorem gz(F:Fun K "behind_question" "behind_question" BD f fd) (b_dict:mg "dict" = none) (c_reckoned_from:Callee P w K mg base "reckoned_from" ["term","book"] 5 S0) (c_with_left:Callee P w K mg base "with_left" ["book","name","stretch"] 1 Mc)
  (c_left_of_one:Callee P w K mg base "left_of_one" ["word","own","other","is_so"] 4 (Rz HA)) (c_left_of_other:Callee P w K mg base "left_of_other" ["word","own","one","is_so"] 0 (fun _ _ _ _=>False)):FnOk P w K mg base CX0 6 f fd ["term","book","is_so"] S1:=by
 refine F.ok sc_behind_question (fun vs H Q E h=>?_) (fun lx A outer s H vs Q E hr h=>?_)
 ·obtain⟨v,x,g,d,bk,so,rfl,_⟩:=h;rfl
 obtain⟨v,x,g,d,bk,so,rfl,hv,O,lu,q⟩:=h;obtain⟨pv,xs,rfl,B,da⟩:=hv.tupI;rcases da with _|⟨d1,_|⟨d2,_|⟨d3,_|_⟩⟩⟩;cases d1;rename_i va vb;refine⟨_,(A5 (AK (i:=3) sc_behind_question.nd rfl aZ (AC c_reckoned_from hr (by lia) (A3 (A8 A9 (A2 0 rfl DH) A4 (fun _ _=>rfl)) (A3 (A2 1 rfl MH) pa_nil)) Qk JT) (AE rfl))
 (A5 (AK (i:=4) sc_behind_question.nd rfl aa (AC c_reckoned_from hr (by lia) (A3 (A8 A9 (A2 0 rfl DH) A4 (fun _ _=>rfl)) (A3 (A2 1 rfl MH) pa_nil)) Qk JT) (AE rfl))
 (A5 (AJ (PW.pt (Cu (AH BX (A2 3 rfl MI) AY (AF _)) (Ct (AH BX (A2 4 rfl Qn) AY (AF _))))) (A7 (AA AY)) AI)
 (A5 (AK (i:=5) sc_behind_question.nd rfl MG (D3 Iu aW b_dict GR (A3 (A2 1 rfl MH) pa_nil) GZ GV) (AE rfl))
 (A5 (AJ (AH (gEq hr.units) (A8 A9 (A8 A9 (A2 0 rfl DH) A4 (fun _ _=>rfl)) A4 (fun _ _=>rfl)) AR (AF _)) (A7 (AK (i:=5) sc_behind_question.nd rfl MG (AC c_with_left hr (by lia) (A3 (A2 5 rfl I9) (A3 (A8 A9 (A8 A9 (A2 0 rfl DH) A4 (fun _ _=>rfl)) A4 (fun _ _=>rfl)) (A3 (AC c_left_of_one hr (by lia) (A3 (A8 A9 (A2 0 rfl DH) A4 (fun _ _=>rfl)) (A3 (A2 3 rfl MI) (A3 (A2 4 rfl Qn) (A3 (A2 2 rfl Qm) pa_nil)))) aX Xz) pa_nil))) Ql Lr) (AE rfl))) AI)
 (A5 (AJ (PW.pt (HV (AH Eo (A2 5 rfl I9) AY (AF _)) (HU (AH (gEq hr.units) (A8 A9 (A8 A9 (A2 0 rfl DH) A4 (fun _ _=>rfl)) A4 (fun _ _=>rfl)) AR (AF _))))) (A5 (AK (i:=6) sc_behind_question.nd rfl ad (Ar hr.units1 (A2 5 rfl I9) (A8 A9 (A8 A9 (A2 0 rfl DH) A4 (fun _ _=>rfl)) A4 (fun _ _=>rfl)) (fun _ _=>rfl)) (AE rfl))
 (A7 (AK (i:=5) sc_behind_question.nd rfl MG (AC c_with_left hr (by lia) (A3 (A2 5 rfl I9) (A3 (A8 A9 (A8 A9 (A2 0 rfl DH) A4 (fun _ _=>rfl)) A4 (fun _ _=>rfl)) (A3 (AC c_left_of_other hr (by lia) (A3 (A8 A9 (A2 0 rfl DH) A4 (fun _ _=>rfl)) (A3 (A2 6 rfl ae) (A3 (A2 3 rfl MI) (A3 (A2 2 rfl Qm) pa_nil)))) aY Y0) pa_nil))) Ql Lr) (AE rfl)))) AI)
 (A7 (AA (A2 5 rfl I9))))))))),?_⟩
 walk_at "rd";refine⟨_,SqT.of B,_,rfl,va,.nm x,d,bk,rfl,d2,trivial,O,fun r1 H1 s1 Y=>?_⟩;refine⟨_,SqT.of (s1 _ _ B),_,rfl,vb,.num g,d,bk,rfl,d3.kp s1.kp,trivial,O.same s1,fun r2 H2 s2 lq=>?_⟩;have G:=s1.trans s2;have Y:=Y.kp s2.kp;rcases dtS Y with⟨e1,rfl⟩|⟨l1,h1,p1,e1,rfl,lg⟩
 ·walk_at "rd";refine q _ _ G ?_;unfold bq;rw[e1]; exact rfl
 rcases dtS lq with⟨e2,rfl⟩|⟨l2,h2,p2,e2,rfl,ln⟩
 ·walk_at "rd";refine q _ _ G ?_;unfold bq;rw[e1,e2]; exact rfl
 walk_at "rd";obtain⟨kvs,hd,rb⟩:=O.same G;refine⟨kvs,hd,fun pd lj=>?_⟩;have Z:=AD lj (HO.dK kvs);have bU:IsBk (upd H2 pd (HO.dK kvs)) pd bk:=⟨kvs,.inl A6,rb.kp Z.kp⟩;generalize upd H2 pd (HO.dK kvs)=U at Z bU |-;have z:=G.trans Z;obtain⟨pa,xa,rfl,lc,ls⟩:=d2.tupI;rcases ls with _|⟨z1,_|⟨z2,_|_⟩⟩;cases z1; cases z2;obtain⟨pb,xb,rfl,lm,lr⟩:=d3.tupI;rcases lr with _|⟨z3,_|⟨z4,_|_⟩⟩;cases z3; cases z4;refine⟨_,SqT.of (z _ _ B),_,rfl,_,rfl,_,SqT.of (z _ _ lc),_,rfl,_,.inl ⟨rfl,rfl⟩,?_⟩;rw[if_pos (by decide+kernel)];refine⟨_,SqT.of (z _ _ B),_,rfl,_,rfl,_,SqT.of (z _ _ lc),_,rfl,_,SqT.of (z _ _ B),_,rfl,?_⟩;refine⟨.less,_,_,(l1,h1),(l2,h2),so,rfl,rfl,(Cm lg).kp Z.kp,(Cm ln).kp Z.kp,fun r4 H4 s4 lp=>?_⟩;refine⟨pd,x,r4,bk,_,rfl,bU.same s4,by lia,lp,fun r5 H5 s5 J=>?_⟩;cases M:HA .less (l1,h1) (l2,h2) so with
 |none=>
  rw[M] at J;cases J;rw[if_neg (by simp)];refine q _ _ (z.trans (s4.trans s5)) ?_;unfold bq;rw[e1,e2];dsimp only[bq1];rw[M]; exact rfl
 |some sl=>
  rw[M] at J;obtain⟨dl,rfl,lh⟩:=J;walk_at "rd";have sx:=z.trans (s4.trans s5);have lv:=(Cm lg).kp (Z.trans (s4.trans s5)).kp;have hq:bq .less (.nm x) (.num g) bk so=bq2 .less (.num g) (l1,h1) (Ao bk x sl) so:=by
   unfold bq;rw[e1,e2];dsimp only[bq1];rw[M]; rfl
  generalize Ao bk x sl=bk1 at lh hq;refine⟨_,SqT.of (sx _ _ B),_,rfl,_,rfl,?_⟩;refine⟨_,SqT.of (sx _ _ lm),_,rfl,_,.inl ⟨rfl,rfl⟩,?_⟩;rw[if_neg (by decide+kernel)];exact q _ _ sx (by rw[hq]; exact⟨dl,rfl,lh⟩)
def isQ(t:T):Prop:=∃x g,t=.op .less (.nm x) (.num g)
def hG:Sp:=fun vs H Q _=>∃(v:V) (t:T) (d:Addr) (bk:Bk) (q:Bool),vs=[v,.ref d,.bl q]/\Dt H v t.enc/\isQ t/\IsBk H d bk/\bk.length<=900/\∀(r:V) (H':Hp),Same H H'->CF H' r (bhd t bk q)->Q r H'
theorem hJ(F:Fun K "behind" "behind" Cg f fd) (b_dict:mg "dict" = none) (c_with_left:Callee P w K mg base "with_left" ["book","name","stretch"] 1 Mc) (c_left_of_name:Callee P w K mg base "left_of_name" ["own","is_so"] 0 (fun _ _ _ _=>False))
  (c_behind_question:Callee P w K mg base "behind_question" ["term","book","is_so"] 6 S1):FnOk P w K mg base CX0 7 f fd ["term","book","is_so"] hG:=by
 refine F.ok aQ (fun vs H Q E h=>?_) (fun Y A outer s H vs Q E hr h=>?_)
 ·obtain⟨v,t,d,bk,J,rfl,_⟩:=h;rfl
 obtain⟨v,t,d,bk,J,rfl,hv,M,G,B,q⟩:=h;refine⟨_,(A5 (AJ (AH (gEq hr.units) (A8 A9 (A2 0 rfl Gg) A4 (fun _ _=>rfl)) AR (AF _)) (A7 (AA (AC c_with_left hr (by lia) (A3 (A2 1 rfl Jd) (A3 (A8 A9 (A2 0 rfl Gg) A4 (fun _ _=>rfl)) (A3 (AC c_left_of_name hr (by lia) (A3 (Ir hr.units1 (A2 1 rfl Jd) (A8 A9 (A2 0 rfl Gg) A4 (fun _ _=>rfl)) ⟨rfl,rfl,rfl,rfl⟩) (A3 (A2 2 rfl Qj) pa_nil)) aU Xy) pa_nil))) aV Lr))) AI)
 (A5 (AJ (PW.pt (Cu (AH (gEq hr.units) (A8 A9 (A2 0 rfl Gg) A4 (fun _ _=>rfl)) AR (AF _)) (Ct (AH (gEq hr.units) (A8 A9 (A2 0 rfl Gg) A4 (fun _ _=>rfl)) AR (AF _))))) (A7 (AA (AC c_behind_question hr (by lia) (A3 (A2 0 rfl Gg) (A3 (A2 1 rfl Jd) (A3 (A2 2 rfl Qj) pa_nil))) aR Xc))) AI)
 (A7 (AA (D3 Iu aS b_dict GR (A3 (A2 1 rfl Jd) pa_nil) GZ GV))))),?_⟩
 obtain⟨x,g,rfl⟩:=M;obtain⟨pv,xs,rfl,z,O⟩:=id hv.tupI;rcases O with _|⟨d1,_|⟨d2,_|⟨d3,_|_⟩⟩⟩;cases d1;walk_at "rd";refine⟨_,SqT.of z,_,rfl,_,.inl ⟨rfl,rfl⟩,?_⟩;rw[if_neg (by decide+kernel)];refine⟨_,SqT.of z,_,rfl,_,eqW .less .less,?_⟩;rw[if_pos (by decide)];exact⟨_,x,g,d,bk,J,rfl,hv,G,B,q⟩
abbrev Pth:=List Int
abbrev Nts:=List (Pth×Int×Int)
def AL(p:Pth):List Key:=p.map Sum.inl
theorem BK:∀p:Pth,(AL p).map kV=p.map V.int
 |[]=>rfl
 |i::r=>by
  show kV (.inl i)::(AL r).map kV=.int i::r.map V.int;rw[BK r]; rfl
theorem FH:∀{p q:Pth},AL p=AL q->p=q
 |[],[],_=>rfl
 |[],_::_,h=>by cases h
 |_::_,[],h=>by cases h
 |i::p,j::q,h=>by
  have h:Sum.inl i::AL p=(Sum.inl j:Key)::AL q:=h;injection h with h1 h2;injection h1 with h1;rw[h1,FH h2]
theorem S2(p q:Pth):decide (AL p=AL q)=decide (p=q):=by
 rw[decide_eq_decide];exact⟨FH,fun h=>by rw[h]⟩
def PtA(H:Hp)(v:V)(p:Pth):Prop:=∃a,v=.ref a/\H a=some (.tup (p.map V.int))
theorem PtA.kp{H H':Hp}{v:V}{p:Pth}(h:PtA H v p)(k:Kp H H'):PtA H' v p:=by
 obtain⟨a,e,h⟩:=h;exact⟨a,e,k.t _ _ h⟩
end
theorem HC(h:PtA H v p)(hb:H b=some (.tup (q.map V.int)))(z:p.length+q.length<=1000)(k:∀r H',Same H H'->PtA H' r (p++q)->Q r H'):Ej K v (.ref b) H Q:=by
 obtain⟨a,rfl,ha⟩:=h;refine⟨a,b,_,_,rfl,rfl,SqT.of ha,SqT.of hb,by rw[y4,y4]; exact zl _ z,fun e=>?_,fun _ e=>?_,fun _ _ c hc=>?_⟩
 ·have e:p=[]:=by simpa using e
  subst e;exact k _ _ (Same.refl _) ⟨b,rfl,hb⟩
 ·have e:q=[]:=by simpa using e
  subst e;exact k _ _ (Same.refl _) ⟨a,rfl,by rw[y0n]; exact ha⟩
 ·exact k _ _ (AD hc _) ⟨c,rfl,by rw[A6,y02]⟩
def NtR(H:Hp)(kvs:List (List Key×V))(ns:Nts):Prop:=Paired (fun(p:List Key×V) (q:Pth×Int×Int)=>p.1=AL q.1/\Dt H p.2 (AO (some q.2))) kvs ns
theorem NtR.kp{H H':Hp}{kvs:List (List Key×V)}{ns:Nts}(h:NtR H kvs ns)(k:Kp H H'):NtR H' kvs ns:=Paired.mapP h fun _ _ z=>⟨z.1,z.2.kp k⟩
def B8(ns:Nts)(p:Pth)(s:Int×Int):Nts:=if(ns.any fun q=>decide (q.1=p))=true then ns.map (fun q=>if q.1=p then(q.1,s) else q) else ns++[(p,s)]
theorem hV(ns:Nts)(p:Pth)(s:Int×Int):(B8 ns p s).length<=ns.length+1:=by
 unfold B8;split
 ·rw[y4]; lia
 ·rw[yt]; simp
theorem NtR.any{H:Hp}{kvs:List (List Key×V)}{ns:Nts}(h:NtR H kvs ns)(p:Pth):(kvs.any fun kv=>decide (kv.1=AL p))=ns.any fun q=>decide (q.1=p):=by
 unfold NtR at h;induction h with
 |nil=>rfl
 |cons z _ B=>
  rename_i a q _ _ _;rw[y1p,y1p,B,z.1,S2]
theorem NtR.put_map{H:Hp}{p:Pth}{v:V}{s:Int×Int}(d:Dt H v (AO (some s))){kvs:List (List Key×V)}{ns:Nts}(h:NtR H kvs ns):NtR H (kvs.map fun kv=>if kv.1=AL p then(kv.1,v) else kv) (ns.map fun q=>if q.1=p then(q.1,s) else q):=by
 unfold NtR at h |-;induction h with
 |nil=>exact .nil
 |cons B _ F=>
  rename_i a q _ _ _;rw[yc,yc];refine .cons ?_ F;by_cases hx:q.1=p
  ·rw[if_pos hx,if_pos (show a.1=AL p by rw[B.1,hx])];exact⟨B.1,d⟩
  ·rw[if_neg hx,if_neg (show ¬ a.1=AL p by rw[B.1]; intro z; exact hx (FH z))];exact B
theorem NtR.put{H:Hp}{kvs:List (List Key×V)}{ns:Nts}(h:NtR H kvs ns)(p:Pth){v:V}{s:Int×Int}(d:Dt H v (AO (some s))):NtR H (AM kvs (AL p) v) (B8 ns p s):=by
 unfold AM B8;rw[h.any p];split
 ·exact h.put_map d
 ·exact y36 h ⟨rfl,d⟩
theorem NtR.length{H:Hp}{kvs:List (List Key×V)}{ns:Nts}(h:NtR H kvs ns):kvs.length=ns.length:=y28 h
def SB(n:Addr)(H H':Hp):Prop:=∀b o,H b=some o->H' b=some o\/(∃q kvs,(o=.dK kvs\/∃z,o=.frz z (.dK kvs))/\H' b=some (.frz q (.dK kvs)))\/(n=n/\∃k k',o=.dT k/\H' b=some (.dT k'))
theorem SB.of{n:Addr}{H H':Hp}(s:Same H H'):SB n H H':=fun b o h=>.inl (s b o h)
theorem SB.trans{n:Addr}{H H1 H2:Hp}(a:SB n H H1)(b:SB n H1 H2):SB n H H2:=fun c o h=>by
 rcases a c o h with h1|⟨z,kvs,e,h1⟩|⟨_,k,k',e,h1⟩
 ·exact b c o h1
 ·rcases b c _ h1 with h2|⟨B,F,q|⟨_,q⟩,h2⟩|⟨_,_,_,q,_⟩
  ·exact .inr (.inl ⟨z,kvs,e,h2⟩)
  ·cases q
  ·cases q;exact .inr (.inl ⟨B,kvs,e,h2⟩)
  ·cases q
 ·rcases b c _ h1 with h2|⟨_,_,q|⟨_,q⟩,_⟩|⟨_,J,G,q,h2⟩
  ·exact .inr (.inr ⟨rfl,k,k',e,h2⟩)
  ·cases q
  ·cases q
  ·exact .inr (.inr ⟨rfl,k,G,e,h2⟩)
theorem SB.stay{n:Addr}{H H':Hp}(s:SB n H H'){b:Addr}{o:HO}(h:H b=some o)(F:∀k,o≠.dK k)(B:∀k,o≠.dT k)(z:∀q u,o≠.frz q u):H' b=some o:=by
 rcases s b o h with h1|⟨_,_,e|⟨_,e⟩,_⟩|⟨_,_,_,e,_⟩
 ·exact h1
 ·exact absurd e (F _)
 ·exact absurd e (z _ _)
 ·exact absurd e (B _)
theorem SB.kp{n:Addr}{H H':Hp}(s:SB n H H'):Kp H H':=⟨fun b xs h=>s.stay h (fun _ z=>by cases z) (fun _ z=>by cases z) (fun _ _ z=>by cases z),fun b xs h=>⟨xs,s.stay h (fun _ z=>by cases z) (fun _ z=>by cases z) (fun _ _ z=>by cases z)⟩⟩
theorem SB.ins{n:Addr}{H H':Hp}(s:SB n H H'){a C dx:Addr}{fs:List (Str×V)}(h:H a=some (.ins C dx fs)):H' a=some (.ins C dx fs):=s.stay h (fun _ z=>by cases z) (fun _ z=>by cases z) (fun _ _ z=>by cases z)
theorem SB.bk{n:Addr}{H H':Hp}(s:SB n H H'){d:Addr}{bk:Bk}(h:IsBk H d bk):IsBk H' d bk:=by
 obtain⟨kvs,e,r⟩:=h;refine⟨kvs,?_,r.kp s.kp⟩;rcases e with e|⟨o,e⟩
 ·rcases s _ _ e with h1|⟨q,_,e|⟨_,e⟩,h1⟩|⟨_,_,_,e,_⟩
  ·exact .inl h1
  ·cases e; exact .inr ⟨q,h1⟩
  ·cases e
  ·cases e
 ·rcases s _ _ e with h1|⟨q,_,e|⟨_,e⟩,h1⟩|⟨_,_,_,e,_⟩
  ·exact .inr ⟨o,h1⟩
  ·cases e
  ·cases e; exact .inr ⟨q,h1⟩
  ·cases e
abbrev Hds:=List (Pth×Bk)
def HdR(H:Hp)(kvs:List (List Key×V))(l:Hds):Prop:=Paired (fun(p:List Key×V) (q:Pth×Bk)=>p.1=AL q.1/\∃d,p.2=.ref d/\IsBk H d q.2) kvs l
theorem HdR.sb{n:Addr}{H H':Hp}{kvs:List (List Key×V)}{l:Hds}(h:HdR H kvs l)(s:SB n H H'):HdR H' kvs l:=Paired.mapP h fun _ _ ⟨e,d,q,k⟩=>⟨e,d,q,s.bk k⟩
theorem HdR.length{H:Hp}{kvs:List (List Key×V)}{l:Hds}(h:HdR H kvs l):kvs.length=l.length:=y28 h
def B4:Hds->Pth->Option Bk
 |[],_=>none
 |q::r,p=>if q.1=p then some q.2 else B4 r p
def BT(l:Hds)(p:Pth)(b:Bk):Hds:=if(l.any fun q=>decide (q.1=p))=true then l.map (fun q=>if q.1=p then(q.1,b) else q) else l++[(p,b)]
theorem HD(l:Hds)(p:Pth)(b:Bk):(BT l p b).length<=l.length+1:=by
 unfold BT;split
 ·rw[y4]; lia
 ·rw[yt]; simp
theorem HdR.look{H:Hp}{kvs:List (List Key×V)}{l:Hds}(h:HdR H kvs l)(p:Pth):(B4 l p=none/\AX kvs (AL p)=none)\/∃b d,B4 l p=some b/\AX kvs (AL p)=some (.ref d)/\IsBk H d b:=by
 unfold HdR at h;induction h with
 |nil=>exact .inl ⟨rfl,rfl⟩
 |cons B _ F=>
  rename_i u q _ _ _;obtain⟨e,d,G,k⟩:=B;by_cases hx:q.1=p
  ·refine .inr ⟨q.2,d,?_,by rw[Bi (by rw[e,hx]),G],k⟩;unfold B4;rw[if_pos hx]
  ·rw[Bj (by rw[e]; intro z; exact hx (FH z))];unfold B4;rw[if_neg hx];exact F
theorem HdR.any{H:Hp}{kvs:List (List Key×V)}{l:Hds}(h:HdR H kvs l)(p:Pth):(kvs.any fun kv=>decide (kv.1=AL p))=l.any fun q=>decide (q.1=p):=by
 unfold HdR at h;induction h with
 |nil=>rfl
 |cons z _ B=>
  rename_i a q _ _ _;rw[y1p,y1p,B,z.1,S2]
theorem HdR.put_map{H:Hp}{p:Pth}{d:Addr}{b:Bk}(k:IsBk H d b){kvs:List (List Key×V)}{l:Hds}(h:HdR H kvs l):HdR H (kvs.map fun kv=>if kv.1=AL p then(kv.1,V.ref d) else kv) (l.map fun q=>if q.1=p then(q.1,b) else q):=by
 unfold HdR at h |-;induction h with
 |nil=>exact .nil
 |cons B _ F=>
  rename_i a q _ _ _;rw[yc,yc];refine .cons ?_ F;by_cases hx:q.1=p
  ·rw[if_pos hx,if_pos (show a.1=AL p by rw[B.1,hx])];exact⟨B.1,d,rfl,k⟩
  ·rw[if_neg hx,if_neg (show ¬ a.1=AL p by rw[B.1]; intro z; exact hx (FH z))];exact B
theorem HdR.put{H:Hp}{kvs:List (List Key×V)}{l:Hds}(h:HdR H kvs l)(p:Pth){d:Addr}{b:Bk}(k:IsBk H d b):HdR H (AM kvs (AL p) (.ref d)) (BT l p b):=by
 unfold AM BT;rw[h.any p];split
 ·exact h.put_map k
 ·exact y36 h ⟨rfl,d,rfl,k⟩
abbrev NW:=Nts×Hds
abbrev wkF3(z n q:Addr):List (Str×V):=[("heads",.ref z),("notes",.ref n),("wants",.ref q)]
structure Wk(K:y3)(H:Hp)(a n:Addr)(hd:Hds)(st:NW):Prop where
 ob:∃C dx hA wA,H a=some (.ins C dx (wkF3 hA n wA))/\Cls K C/\(NoAttr K C "heads"/\NoAttr K C "notes"/\NoAttr K C "wants")/\(n≠wA/\n≠hA/\wA≠hA)/\(∃hk,H hA=some (.dT hk)/\HdR H hk hd)/\∃wk,H wA=some (.dT wk)/\HdR H wk st.2
 nt:∃kvs,H n=some (.dT kvs)/\NtR H kvs st.1
theorem Wk.same{K:y3}{H H':Hp}{a n:Addr}{hd:Hds}{st:NW}(h:Wk K H a n hd st)(s:Same H H'):Wk K H' a n hd st:=by
 obtain⟨⟨C,dx,J,z,e,c,d,G,⟨hk,Y,F⟩,q,O,B⟩,kvs,M,r⟩:=h;have sb:SB 0 H H':=.of s;exact⟨⟨C,dx,J,z,s _ _ e,c,d,G,⟨hk,s _ _ Y,F.sb sb⟩,q,s _ _ O,B.sb sb⟩,kvs,s _ _ M,r.kp s.kp⟩
theorem wkF_ne:(("wants" : Str) == "heads")=false/\(("wants" : Str) == "notes")=false/\(("notes" : Str) == "heads")=false:=by decide+kernel
theorem hX{q n z:Addr}:(wkF3 q n z).lookup ("heads" : Str)=some (V.ref q):=by simp only[wkF3,List.lookup,beq_self_eq_true]
theorem S3{z n q:Addr}:(wkF3 z n q).lookup ("notes" : Str)=some (V.ref n):=by simp only[wkF3,List.lookup,wkF_ne.2.2,beq_self_eq_true]
theorem KH{z n q:Addr}:(wkF3 z n q).lookup ("wants" : Str)=some (V.ref q):=by simp only[wkF3,List.lookup,wkF_ne.1,wkF_ne.2.1,beq_self_eq_true]
def AV:Int×Int:=(-32768,32767)
theorem OfRel.unique{w:Wd}{s t r q:S}(h:OfRel w s t r)(k:OfRel w s t q):r=q:=by
 match s,t,h,k with
 |none,none,h,k=>exact h.trans k.symm
 |none,some _,h,k=>exact h.trans k.symm
 |some _,none,h,k=>exact h.trans k.symm
 |some (a,b),some (c,d),h,k=>exact IsS.unique h k
open Classical in
noncomputable def stF (w:Wd) (s t:S):S:=if h:∃r,OfRel w s t r then h.choose else none
theorem KI{w:Wd}{s t r:S}(h:OfRel w s t r):stF w s t=r:=by
 have e:∃r,OfRel w s t r:=⟨r,h⟩;unfold stF;rw[dif_pos e];exact OfRel.unique e.choose_spec h
def KJ(s:S)(p:Pth)(ns:Nts):Nts:=match s with
 |none=>ns
 |some r=>B8 ns p r
theorem Md(s:S)(p:Pth)(ns:Nts):(KJ s p ns).length<=ns.length+1:=by
 cases s with
 |none=>exact Nat.le_succ _
 |some r=>exact hV ns p r
def HE(s:S)(p:Pth)(ns:Nts):S×Nts:=(BS s (some AV),KJ s p ns)
theorem Me(s:S):okS 1073741824 (BS s (some AV)):=by
 match s with
 |none=>trivial
 |some (a,b)=>
  show okS _ (bet (mx a (-32768)) (mn b 32767));unfold bet;split
  ·trivial
  ·rename_i h;unfold mx mn at *;refine⟨?_,?_,?_⟩<;>(repeat' split at h)<;>(repeat' split)<;>lia
def T.sz:T->Nat
 |.op _ a b=>a.sz+b.sz+1
 |.num _=>1
 |.nm _=>1
noncomputable def shS (bk:Bk):T->Pth->Nts->S×Nts
 |.num i,p,ns=>HE (some (i,i)) p ns
 |.nm x,p,ns=>HE (look bk x) p ns
 |.op w a b,p,ns=>
  if(shS bk a (p++[0]) ns).1=none then(none,(shS bk a (p++[0]) ns).2)
  else HE (stF w (shS bk a (p++[0]) ns).1 (shS bk b (p++[1]) (shS bk a (p++[0]) ns).2).1) p (shS bk b (p++[1]) (shS bk a (p++[0]) ns).2).2
theorem EE(bk:Bk):∀(t:T) (p:Pth) (ns:Nts),(shS bk t p ns).2.length<=ns.length+t.sz
 |.num i,p,ns=>by rw[shS]; exact Md (some (i,i)) p ns
 |.nm x,p,ns=>by rw[shS]; exact Md (look bk x) p ns
 |.op w a b,p,ns=>by
  have h1:=EE bk a (p++[0]) ns;have h2:=EE bk b (p++[1]) (shS bk a (p++[0]) ns).2;rw[shS,T.sz];split
  ·dsimp only; lia
  ·have:=Md (stF w (shS bk a (p++[0]) ns).1 (shS bk b (p++[1]) (shS bk a (p++[0]) ns).2).1) p (shS bk b (p++[1]) (shS bk a (p++[0]) ns).2).2;dsimp only[HE]; lia
theorem S4(bk:Bk)(t:T)(p:Pth)(ns:Nts):okS 1073741824 (shS bk t p ns).1:=by
 cases t with
 |num i=>rw[shS]; exact Me (some (i,i))
 |nm x=>rw[shS]; exact Me (look bk x)
 |op w a b=>
  rw[shS];split
  ·trivial
  ·exact Me _
section
variable{P:yl}{w:y07}{K:y3}{mg:Str->Option ya}{base:Heap}{f:Addr}{fd:y0v}
def S5(K:y3):Sp:=fun vs H Q _=>∃(v pv:V) (s:S) (p:Pth) (a n:Addr) (hd:Hds) (ns:Nts) (ws:Hds),vs=[v,pv,.ref a]/\Dt H v (AO s)/\PtA H pv p/\Wk K H a n hd (ns,ws)/\ns.length<=900/\∀(r:V) (H':Hp),SB n H H'->Wk K H' a n hd ((HE s p ns).2,ws)->Dt H' r (AO (HE s p ns).1)->Q r H'
theorem i4{rw:Addr} (F:Fun K "noted" "noted" EA f fd) (g_WIDE:GC mg "WIDE" (.ref rw)) (hW:∀H,SqT K H rw [.int (-32768),.int 32767]) (c_met:Callee P w K mg base "met" ["one","other"] 2 (KF K BS)):FnOk P w K mg base CX0 3 f fd ["stretch","path","walk"] (S5 K):=by
 refine F.ok dY (fun vs H Q E h=>?_) (fun lg A outer s H vs Q E hr h=>?_)
 ·obtain⟨v,pv,s,p,a,n,G,ns,ws,rfl,_⟩:=h;rfl
 obtain⟨v,pv,s,p,a,n,G,ns,ws,rfl,hv,hp,hw,hl,q⟩:=h;refine⟨_,(A5 (AJ (AH Eo (A2 0 rfl MU) AY (AF _)) (A7 (C3 hr.units1 (Eb (A2 2 rfl dk) rfl) (A2 1 rfl dj) (A2 0 rfl MU) (AE rfl))) AI)
 (A7 (AA (AC c_met hr (by lia) (A3 (A2 0 rfl MU) (A3 (Bg g_WIDE dZ DC) pa_nil)) dg Ln)))),?_⟩
 rcases dtS hv with⟨rfl,rfl⟩|⟨l,h,B,rfl,rfl,lc⟩<;>walk_at "rw"
 ·exact⟨_,_,none,some AV,rfl,.of hv,.inr ⟨_,_,rw,rfl,rfl,hW _⟩,fun r H' z Y=>q r H' (.of z) (hw.same z) Y⟩
 ·obtain⟨pa,rfl,O⟩:=hp;obtain⟨⟨C,dx,hA,Z,e,c,d,J,⟨hk,e4,r4⟩,wk,e5,r5⟩,kvs,e2,r⟩:=hw;have r:NtR H kvs ns:=r;refine⟨C,dx,_,e,c,d.2.1,_,S3,n,rfl,_,DPut.t (k:=AL p) e2 (by rw[BK]; exact O) (by rw[r.length]; exact An (by lia)),?_⟩;have sb:SB n H (upd H n (.dT (AM kvs (AL p) (.ref B)))):=fun b o hb=>by
   by_cases hn:b=n
   ·subst hn;rw[e2] at hb;cases hb;exact .inr (.inr ⟨rfl,_,_,rfl,A6⟩)
   ·exact .inl (by rw[AB hn]; exact hb)
  have e3:upd H n (.dT (AM kvs (AL p) (.ref B))) n=_:=A6;have e6:upd H n (.dT (AM kvs (AL p) (.ref B))) hA=_:=(AB J.2.1.symm).trans e4;have e7:upd H n (.dT (AM kvs (AL p) (.ref B))) Z=_:=(AB J.1.symm).trans e5;generalize upd H n (.dT (AM kvs (AL p) (.ref B)))=U at sb e3 e6 e7 |-;have M:Wk K U a n G (B8 ns p (l,h),ws):=⟨⟨C,dx,hA,Z,sb.ins e,c,d,J,⟨hk,e6,r4.sb sb⟩,wk,e7,r5.sb sb⟩,_,e3,(r.kp sb.kp).put p (hv.kp sb.kp)⟩;exact⟨_,_,some (l,h),some AV,rfl,.of (hv.kp sb.kp),.inr ⟨_,_,rw,rfl,rfl,hW _⟩,fun r H' z Y=>q r H' (sb.trans (.of z)) (M.same z) Y⟩
def T.dp:Nat->T->Prop
 |0,_=>False
 |n+1,.op w a b=>plW w/\T.dp n a/\T.dp n b
 |_+1,_=>True
def HF(K:y3)(k:Nat):Sp:=fun vs H Q _=>∃(v pv:V) (t:T) (p:Pth) (d a n:Addr) (bk:Bk) (hd:Hds) (ns:Nts) (ws:Hds),vs=[v,pv,.ref d,.ref a]/\Dt H v t.enc/\T.dp k t/\PtA H pv p/\IsBk H d bk/\Wk K H a n hd (ns,ws)/\ns.length+t.sz<=900/\p.length+k<=900/\∀(r:V) (H':Hp),SB n H H'->Wk K H' a n hd ((shS bk t p ns).2,ws)->Dt H' r (AO (shS bk t p ns).1)->Q r H'
theorem i5{k:Nat}{G F B z:Str}:FnOk P w K mg base CX0 k f fd [G,F,B,z] (HF K 0):=by
 have q:∀vs H Q E,¬ HF K 0 vs H Q E:=fun vs H Q E h=>by
  obtain⟨v,pv,t,p,d,a,n,bk,J,ns,ws,_,_,h,_⟩:=h;exact h.elim
 exact⟨fun vs H Q E h=>absurd h (q vs H Q E),fun A outer s H args us vs Q E _ _ _ _ h=>absurd h (q vs H Q E)⟩
theorem HG{n:Nat} (F:Fun K "show" "show" Bu f fd) (c_noted:Callee P w K mg base "noted" ["stretch","path","walk"] 3 (S5 K)) (c_stretch_of:Callee P w K mg base "stretch_of" ["word","one","other"] 4 Ma)
  (c_show:Callee P w K mg base "show" ["term","path","book","walk"] (n+5) (HF K n)):FnOk P w K mg base CX0 (n+6) f fd ["term","path","book","walk"] (HF K (n+1)):=by
 refine F.ok sc_show (fun vs H Q E h=>?_) (fun lS A outer s H vs Q E hr h=>?_)
 ·obtain⟨v,pv,t,p,d,a,n,bk,G,ns,ws,rfl,_⟩:=h;rfl
 obtain⟨v,pv,t,p,d,a,O,bk,G,ns,ws,rfl,hv,ht,hp,lg,hw,hl,lP,q⟩:=h;refine⟨_,(A5 (AJ (AH (gEq hr.units) (A8 A9 (A2 0 rfl E9) A4 (fun _ _=>rfl)) AR (AF _)) (A7 (AA (AC c_noted hr (by lia) (A3 (AW (A3 (A8 A9 (A2 0 rfl E9) A4 (fun _ _=>rfl)) (A3 (A8 A9 (A2 0 rfl E9) A4 (fun _ _=>rfl)) pa_nil))) (A3 (A2 1 rfl ID) (A3 (A2 3 rfl IE) pa_nil))) MS Lo))) AI)
 (A5 (AJ (AH (gEq hr.units) (A8 A9 (A2 0 rfl E9) A4 (fun _ _=>rfl)) AR (AF _)) (A7 (AA (AC c_noted hr (by lia) (A3 (Ir hr.units1 (A2 2 rfl MT) (A8 A9 (A2 0 rfl E9) A4 (fun _ _=>rfl)) ⟨rfl,rfl,rfl,rfl⟩) (A3 (A2 1 rfl ID) (A3 (A2 3 rfl IE) pa_nil))) MS Lo))) AI)
 (A5 (AK (i:=4) sc_show.nd rfl dU (AC c_show hr (by lia) (A3 (A8 A9 (A2 0 rfl E9) A4 (fun _ _=>rfl)) (A3 (AT Bf (A2 1 rfl ID) (AW (A3 A4 pa_nil))) (A3 (A2 2 rfl MT) (A3 (A2 3 rfl IE) pa_nil)))) RK JV) (AE rfl))
 (A5 (AJ (AH BX (A2 4 rfl RL) AY (AF _)) (A7 (AA AY)) AI)
 (A5 (AK (i:=5) sc_show.nd rfl dW (AC c_show hr (by lia) (A3 (A8 A9 (A2 0 rfl E9) A4 (fun _ _=>rfl)) (A3 (AT Bf (A2 1 rfl ID) (AW (A3 A4 pa_nil))) (A3 (A2 2 rfl MT) (A3 (A2 3 rfl IE) pa_nil)))) RK JV) (AE rfl))
 (A7 (AA (AC c_noted hr (by lia) (A3 (AC c_stretch_of hr (by lia) (A3 (A8 A9 (A2 0 rfl E9) A4 (fun _ _=>rfl)) (A3 (A2 4 rfl RL) (A3 (A2 5 rfl dX) pa_nil))) dS QB) (A3 (A2 1 rfl ID) (A3 (A2 3 rfl IE) pa_nil))) MS Lo)))))))),AN fun N1 e1=>?_⟩
 match t,hv,ht,hl with
 |.num i,hv,_,hl=>
  obtain⟨lm,xs,rfl,B,da⟩:=hv.tupI;rcases da with _|⟨d1,_|⟨d2,_|_⟩⟩;cases d1; cases d2;walk_at "rw";refine⟨_,SqT.of B,_,rfl,_,.inl ⟨rfl,rfl⟩,?_⟩;rw[if_pos (by decide+kernel)];rw[T.sz] at hl;refine⟨_,SqT.of B,_,rfl,_,SqT.of B,_,rfl,zl 2 (by decide),fun p1 lc=>?_⟩;have s1:=AD lc (HO.tup [.int i,.int i]);refine⟨_,_,some (i,i),p,a,O,G,ns,ws,rfl,Cm A6,hp.kp s1.kp,hw.same s1,by lia,fun r H' s2 w2 dr=>?_⟩;rw[shS] at q;exact q r H' (SB.trans (.of s1) s2) w2 dr
 |.nm x,hv,_,hl=>
  obtain⟨lm,xs,rfl,B,da⟩:=hv.tupI;rcases da with _|⟨d1,_|⟨d2,_|_⟩⟩;cases d1; cases d2;walk_at "rw";refine⟨_,SqT.of B,_,rfl,_,.inl ⟨rfl,rfl⟩,?_⟩;rw[if_neg (by decide+kernel)];show N1 _ _;rw[e1];refine AN fun N2 e2=>?_;walk_at "rw";refine⟨_,SqT.of B,_,rfl,_,.inl ⟨rfl,rfl⟩,?_⟩;rw[if_pos (by decide+kernel)];rw[T.sz] at hl;obtain⟨kvs,hd,rb⟩:=lg;refine⟨.inl ⟨_,hd⟩,_,SqT.of B,_,rfl,_,DGet.kr (k:=.inr x) hd,?_⟩;rw[shS] at q;rcases rb.look x with⟨z1,z2⟩|⟨sx,vx,z1,z2,dx⟩
  ·rw[z2];rw[z1] at q;exact⟨_,_,none,p,a,O,G,ns,ws,rfl,.non,hp,hw,by lia,q⟩
  ·rw[z2];rw[z1] at q;exact⟨_,_,some sx,p,a,O,G,ns,ws,rfl,dx,hp,hw,by lia,q⟩
 |.op w ta tb,hv,ht,hl=>
  obtain⟨lm,xs,rfl,B,da⟩:=hv.tupI;rcases da with _|⟨d1,_|⟨d2,_|⟨d3,_|_⟩⟩⟩;cases d1;rename_i va vb;rw[T.sz] at hl;have lR:=EE bk ta (p++[0]) ns;walk_at "rw";refine⟨_,SqT.of B,_,rfl,_,.inl ⟨rfl,rfl⟩,?_⟩;rw[if_neg (by cases w<;>decide+kernel)];show N1 _ _;rw[e1];refine AN fun N2 e2=>?_;walk_at "rw";refine⟨_,SqT.of B,_,rfl,_,.inl ⟨rfl,rfl⟩,?_⟩;rw[if_neg (by cases w<;>decide+kernel)];show N2 _ _;rw[e2];walk_at "rw";refine⟨_,SqT.of B,_,rfl,zl 1 (by decide),fun p1 lc=>?_⟩;have s1:=AD lc (HO.tup [.int 0]);have e3:upd H p1 (HO.tup [.int 0]) p1=_:=A6;generalize upd H p1 (HO.tup [.int 0])=U at s1 e3 |-;refine HC (q:=[0]) (hp.kp s1.kp) e3 (by simp; lia) fun r2 H2 s2 lr=>?_;have M:=s1.trans s2;refine⟨va,r2,ta,p++[0],d,a,O,bk,G,ns,ws,rfl,d2.kp M.kp,ht.2.1,lr,lg.same M,hw.same M,by lia,by simp; lia,fun r3 H3 s3 w3 ln=>?_⟩;have J:SB O H H3:=SB.trans (.of M) s3;rw[shS] at q;rcases dtS ln with⟨z,rfl⟩|⟨l,h,pp,z,rfl,ly⟩
  ·walk_at "rw";rw[if_pos z] at q;exact q _ _ J w3 .non
  ·rw[if_neg (by rw[z]; simp)] at q;walk_at "rw";refine⟨_,SqT.of (J.kp.t _ _ B),_,rfl,zl 1 (by decide),fun p4 ls=>?_⟩;have s4:=AD ls (HO.tup [.int 1]);have e4:upd H3 p4 (HO.tup [.int 1]) p4=_:=A6;generalize upd H3 p4 (HO.tup [.int 1])=U4 at s4 e4 |-;refine HC (q:=[1]) ((hp.kp J.kp).kp s4.kp) e4 (by simp; lia) fun r5 H5 s5 lq=>?_;have Z:=s4.trans s5;have Y:SB O H H5:=J.trans (.of Z);refine⟨vb,r5,tb,p++[1],d,a,O,bk,G,(shS bk ta (p++[0]) ns).2,ws,rfl,d3.kp Y.kp,ht.2.2,lq,Y.bk lg,w3.same Z,by lia,by simp; lia,fun r6 H6 s6 w6 lx=>?_⟩;have lj:=Y.trans s6;have lQ:=EE bk tb (p++[1]) (shS bk ta (p++[0]) ns).2;refine⟨_,SqT.of (lj.kp.t _ _ B),_,rfl,w,_,r6,_,_,rfl,ht.1,(ln.kp Z.kp).kp s6.kp,lx,S4 _ _ _ _,S4 _ _ _ _,fun r7 H7 o s7 lp lv=>?_⟩;rw[KI lp] at q;have lh:=lj.trans (.of s7);exact⟨r7,pv,o,p,a,O,G,(shS bk tb (p++[1]) (shS bk ta (p++[0]) ns).2).2,ws,rfl,lv,hp.kp lh.kp,w6.same s7,by lia,fun r8 H8 s8 w8 lu=>q r8 H8 (lh.trans s8) w8 lu⟩
theorem Mf{tl:TE}{g:TG}{tb:TS}{D:Ends}{σ:St}{H:Hp}:CJ (Lb tl) g tb D σ H=tl σ H fun x H1=>∃d kvs,x=.ref d/\Rd H1 d (.dK kvs)/\∀o,Cl (Itd d o (.dK kvs) (kvs.map fun kv=>kV kv.1)) g tb D σ (upd H1 d (.frz o (.dK kvs))):=rfl
theorem Mg{tl:TE}{g:TG}{tt:TT}{te:TE}{q:List (Option Nat)}{σ:St}{H:Hp}{Q:VK}:CM (Lc tl) g tt te q σ H Q=tl σ H fun x H1=>∃d kvs,x=.ref d/\Rd H1 d (.dT kvs)/\∀(o:Obj) (as:List Addr),Paired (fun(kv:List Key×V) (a:Addr)=>H1 a=some (.tup (kv.1.map kV))) kvs as->BN (Itd d o (.dT kvs) (as.map V.ref)) g tt te Q (subσ q σ) (upd H1 d (.frz o (.dT kvs))):=rfl
def jn(s t:Int×Int):Int×Int:=(mn s.1 t.1,mx s.2 t.2)
theorem Mh(s t:Int×Int):DM (some s) (some t)=some (jn s t):=by
 obtain⟨a,b⟩:=s;obtain⟨c,d⟩:=t;rfl
def CV(B q z:Bk)(x:Str):Bk:=match look B x,look q x with
 |some s,some t=>Ao z x (jn s t)
 |_,_=>z
def IJ(B z:Bk):Bk:=(B.map fun q=>q.1).foldl (CV B z) []
theorem i6(B q z:Bk)(x:Str):(CV B q z x).length<=z.length+1:=by
 unfold CV;split
 ·exact HB _ _ _
 ·lia
theorem Mi(B q:Bk):∀(xs:List Str) (z:Bk),(xs.foldl (CV B q) z).length<=z.length+xs.length
 |[],z=>yb _
 |x::r,z=>by
  have h1:=i6 B q z x;have h2:=Mi B q r (CV B q z x);rw[y1d,yh];lia
theorem i7(B z:Bk):(IJ B z).length<=B.length:=by
 have:=Mi B z (B.map fun q=>q.1) [];rw[y4] at this;simpa [IJ] using this
def Mj:Option Bk->Option Bk->Option Bk
 |none,o=>o
 |some a,none=>some a
 |some a,some b=>some (IJ a b)
abbrev Bh:=T->Bk->Bool->Option Bk
def Ad(bh:Bh)(t:T)(q:S)(bk:Bk)(z:Bool):Option Bk:=if(if z=true then !Bc q (some (0,0)) else Bc (some (0,0)) q)=true then bh t bk z else none
def jtS(s:Int×Int):S->Int×Int
 |none=>s
 |some t=>jn s t
def Cn(z q B:Bk)(x:Str):Bk:=match look z x with
 |some s=>Ao B x (jtS s (look q x))
 |none=>B
def jtB(z B:Bk):Bk:=(z.map fun q=>q.1).foldl (Cn z B) []
theorem i8(B q z:Bk)(x:Str):(Cn B q z x).length<=z.length+1:=by
 unfold Cn;split
 ·exact HB _ _ _
 ·lia
theorem Ml(B q:Bk):∀(xs:List Str) (z:Bk),(xs.foldl (Cn B q) z).length<=z.length+xs.length
 |[],z=>yb _
 |x::r,z=>by
  have h1:=i8 B q z x;have h2:=Ml B q r (Cn B q z x);rw[y1d,yh];lia
theorem Mm(B z:Bk):(jtB B z).length<=B.length:=by
 have:=Ml B z (B.map fun q=>q.1) [];rw[y4] at this;simpa [jtB] using this
def Aj(hd:Hds)(p:Pth)(bk:Bk):Bk:=jtB bk ((B4 hd p).getD [])
def EF(bk:Bk):Option Bk->Bk
 |none=>bk
 |some e=>IJ bk e
mutual
noncomputable def wkD (bh:Bh) (hd:Hds):D->Pth->Bk->NW->Option Bk×NW
 |.set x t,p,bk,st=>((shS bk t (p++[0]) st.1).1.map (Ao bk x),((shS bk t (p++[0]) st.1).2,st.2))
 |.ite t b c,p,bk,st=>
  (Mj (wkB bh hd b (p++[1]) 0 (Ad bh t (shS bk t (p++[0]) st.1).1 bk true) ((shS bk t (p++[0]) st.1).2,st.2)).1
   (wkB bh hd c (p++[2]) 0 (Ad bh t (shS bk t (p++[0]) st.1).1 bk false) (wkB bh hd b (p++[1]) 0 (Ad bh t (shS bk t (p++[0]) st.1).1 bk true) ((shS bk t (p++[0]) st.1).2,st.2)).2).1,
   (wkB bh hd c (p++[2]) 0 (Ad bh t (shS bk t (p++[0]) st.1).1 bk false) (wkB bh hd b (p++[1]) 0 (Ad bh t (shS bk t (p++[0]) st.1).1 bk true) ((shS bk t (p++[0]) st.1).2,st.2)).2).2)
 |.whl t _ b,p,bk,st=>
  (Ad bh t (shS (Aj hd p bk) t (p++[0]) st.1).1 (Aj hd p bk) false,
   ((wkB bh hd b (p++[1]) 0 (Ad bh t (shS (Aj hd p bk) t (p++[0]) st.1).1 (Aj hd p bk) true) ((shS (Aj hd p bk) t (p++[0]) st.1).2,st.2)).2.1,
    BT (wkB bh hd b (p++[1]) 0 (Ad bh t (shS (Aj hd p bk) t (p++[0]) st.1).1 (Aj hd p bk) true) ((shS (Aj hd p bk) t (p++[0]) st.1).2,st.2)).2.2 p
     (EF bk (wkB bh hd b (p++[1]) 0 (Ad bh t (shS (Aj hd p bk) t (p++[0]) st.1).1 (Aj hd p bk) true) ((shS (Aj hd p bk) t (p++[0]) st.1).2,st.2)).1)))
noncomputable def wkB (bh:Bh) (hd:Hds):List D->Pth->Int->Option Bk->NW->Option Bk×NW
 |[],_,_,o,st=>(o,st)
 |_::_,_,_,none,st=>(none,st)
 |d::r,p,i,some bk,st=>wkB bh hd r p (i+1) (wkD bh hd d (p++[i]) bk st).1 (wkD bh hd d (p++[i]) bk st).2
end
mutual
def D.sz:D->Nat
 |.set _ t=>t.sz+3
 |.ite t b c=>t.sz+szB b+szB c+6
 |.whl t _ b=>t.sz+szB b+3
def szB:List D->Nat
 |[]=>1
 |d::r=>d.sz+szB r
end
def HH(bh:Bh):Prop:=∀t bk z q,bh t bk z=some q->q.length<=bk.length+2
theorem KK{bh:Bh}(hb:HH bh){t:T}{q:S}{bk B:Bk}{z:Bool}(h:Ad bh t q bk z=some B):B.length<=bk.length+2:=by
 unfold Ad at h;generalize (if z=true then !Bc q (some (0,0)) else Bc (some (0,0)) q)=c at h;cases c with
 |true=>exact hb _ _ _ _ h
 |false=>cases h
theorem i9{a b:Option Bk}{c:Bk}{k:Nat}(h:Mj a b=some c)(ha:∀x,a=some x->x.length<=k)(hb:∀x,b=some x->x.length<=k):c.length<=k:=by
 match a,b,h with
 |none,b,h=>exact hb _ h
 |some x,none,h=>exact ha _ h
 |some x,some y,h=>
  have h:some (IJ x y)=some c:=h;injection h with h;have:=i7 x y;have:=ha x rfl;rw[<- h]; lia
mutual
theorem S6{bh:Bh}{hd:Hds}(hb:HH bh):∀(d:D) (p:Pth) (bk:Bk) (st:NW),((wkD bh hd d p bk st).2.1.length<=st.1.length+d.sz/\(wkD bh hd d p bk st).2.2.length<=st.2.length+d.sz)/\∀q,(wkD bh hd d p bk st).1=some q->q.length<=bk.length+d.sz
 |.set x t,p,bk,st=>by
  have h1:=EE bk t (p++[0]) st.1;rw[wkD,D.sz];refine⟨by dsimp only; lia,fun q h=>?_⟩;dsimp only at h;cases z:(shS bk t (p++[0]) st.1).1 with
  |none=>rw[z] at h; cases h
  |some r=>
   rw[z] at h;have h:some (Ao bk x r)=some q:=h;injection h with h;have:=HB bk x r;rw[<- h]; lia
 |.ite t b c,p,bk,st=>by
  have h1:=EE bk t (p++[0]) st.1;have h2:=IK (hd:=hd) hb b (p++[1]) 0 (Ad bh t (shS bk t (p++[0]) st.1).1 bk true) ((shS bk t (p++[0]) st.1).2,st.2);have B:=IK (hd:=hd) hb c (p++[2]) 0 (Ad bh t (shS bk t (p++[0]) st.1).1 bk false) (wkB bh hd b (p++[1]) 0 (Ad bh t (shS bk t (p++[0]) st.1).1 bk true) ((shS bk t (p++[0]) st.1).2,st.2)).2;rw[wkD,D.sz];refine⟨by have:=h2.1; have:=B.1; dsimp only at *; lia,fun q h=>?_⟩;refine i9 h (fun x hx=>?_) (fun x hx=>?_)
  ·obtain⟨y,e,l⟩:=h2.2 x hx;have:=KK hb e;lia
  ·obtain⟨y,e,l⟩:=B.2 x hx;have:=KK hb e;lia
 |.whl t m b,p,bk,st=>by
  have h1:=EE (Aj hd p bk) t (p++[0]) st.1;have h2:=IK (hd:=hd) hb b (p++[1]) 0 (Ad bh t (shS (Aj hd p bk) t (p++[0]) st.1).1 (Aj hd p bk) true) ((shS (Aj hd p bk) t (p++[0]) st.1).2,st.2);have F:(Aj hd p bk).length<=bk.length:=Mm _ _;rw[wkD,D.sz];refine⟨?_,fun q h=>?_⟩
  ·have:=h2.1;dsimp only at *;have:=HD (wkB bh hd b (p++[1]) 0 (Ad bh t (shS (Aj hd p bk) t (p++[0]) st.1).1 (Aj hd p bk) true) ((shS (Aj hd p bk) t (p++[0]) st.1).2,st.2)).2.2 p (EF bk (wkB bh hd b (p++[1]) 0 (Ad bh t (shS (Aj hd p bk) t (p++[0]) st.1).1 (Aj hd p bk) true) ((shS (Aj hd p bk) t (p++[0]) st.1).2,st.2)).1);lia
  ·have:=KK hb h;lia
theorem IK{bh:Bh}{hd:Hds}(hb:HH bh):∀(b:List D) (p:Pth) (i:Int) (o:Option Bk) (st:NW),((wkB bh hd b p i o st).2.1.length<=st.1.length+szB b/\(wkB bh hd b p i o st).2.2.length<=st.2.length+szB b)/\∀q,(wkB bh hd b p i o st).1=some q->∃bk,o=some bk/\q.length<=bk.length+szB b
 |[],p,i,o,st=>by
  rw[wkB];exact⟨⟨y0p _ _,y0p _ _⟩,fun q h=>⟨q,h,y0p _ _⟩⟩
 |d::r,p,i,none,st=>by
  rw[wkB];exact⟨⟨y0p _ _,y0p _ _⟩,fun q h=>by cases h⟩
 |d::r,p,i,some bk,st=>by
  have h1:=S6 (hd:=hd) hb d (p++[i]) bk st;have h2:=IK (hd:=hd) hb r p (i+1) (wkD bh hd d (p++[i]) bk st).1 (wkD bh hd d (p++[i]) bk st).2;rw[wkB,szB];refine⟨by have:=h1.1; have:=h2.1; lia,fun q h=>?_⟩;obtain⟨y,e,l⟩:=h2.2 q h;have:=h1.2 y e;exact⟨bk,rfl,by lia⟩
end
def Fz(H H':Hp):Prop:=∀b o,H b=some o->H' b=some o\/∃q kvs,(o=.dK kvs\/∃z,o=.frz z (.dK kvs))/\H' b=some (.frz q (.dK kvs))
theorem Fz.of{H H':Hp}(s:Same H H'):Fz H H':=fun b o h=>.inl (s b o h)
theorem Fz.trans{H H1 H2:Hp}(a:Fz H H1)(b:Fz H1 H2):Fz H H2:=fun c o h=>by
 rcases a c o h with h1|⟨z,kvs,e,h1⟩
 ·exact b c o h1
 ·rcases b c _ h1 with h2|⟨B,F,q|⟨_,q⟩,h2⟩
  ·exact .inr ⟨z,kvs,e,h2⟩
  ·cases q
  ·cases q;exact .inr ⟨B,kvs,e,h2⟩
theorem Fz.sb{n:Addr}{H H':Hp}(s:Fz H H'):SB n H H':=fun b o h=>(s b o h).imp_right .inl
theorem Fz.bk{H H':Hp}(s:Fz H H'){d:Addr}{bk:Bk}(h:IsBk H d bk):IsBk H' d bk:=SB.bk (n:=0) s.sb h
theorem Fz.kp{H H':Hp}(s:Fz H H'):Kp H H':=SB.kp (n:=0) s.sb
theorem Fz.stay{H H':Hp}(s:Fz H H'){b:Addr}{o:HO}(h:H b=some o)(B:∀k,o≠.dK k)(z:∀q u,o≠.frz q u):H' b=some o:=by
 rcases s b o h with h1|⟨_,_,e|⟨_,e⟩,_⟩
 ·exact h1
 ·exact absurd e (B _)
 ·exact absurd e (z _ _)
theorem Fz.dT{H H':Hp}(s:Fz H H'){b:Addr}{k:List (List Key×V)}(h:H b=some (.dT k)):H' b=some (.dT k):=s.stay h (fun _ z=>by cases z) (fun _ _ z=>by cases z)
theorem Fz.frz{H:Hp}{d:Addr}{kvs:List (Key×V)}(o:Obj)(h:Rd H d (.dK kvs)):Fz H (upd H d (.frz o (.dK kvs))):=fun b u e=>by
 by_cases hb:b=d
 ·subst hb;rcases h with h|⟨q,h⟩
  ·rw[e] at h; cases h;exact .inr ⟨o,kvs,.inl rfl,A6⟩
  ·rw[e] at h; cases h;exact .inr ⟨o,kvs,.inr ⟨_,rfl⟩,A6⟩
 ·exact .inl (by rw[AB hb]; exact e)
theorem Fz.upd{H H':Hp}(s:Fz H H'){p:Addr}(h:H p=none)(o:HO):Fz H (upd H' p o):=fun b u e=>by
 have hb:b≠p:=Ag e h;rw[AB hb];exact s b u e
end
local macro_rules | `(tactic| walk_at "rx")=>`(tactic| simp only[Hl,↓FW,↓FX,↓Fr,↓Fs,↓FZ,↓Fa,↓Ft,↓Fu,↓Fv,↓Fw,↓FR,↓EN,↓FS,FT,FU,FV,FY,CI,Fo,Fp,Fq,Fb,Fc,Fd,Fe,Ff,Fg,C9,Ih,Hf,Ju,Jv,Jw,Jx,Jy,K0,Jz,K6,K7,K8,K9,KA,KC,GM,GN,Mf,KD,Mg,Iq,Hj,He,Ht,B2,Dd,tOp,Az,tC,Da,B6,Cw,Cv,DZ,EV,Fm,EU,ET,tCB,BG,CK,Cy,tUn,rU,rI0,rI,Cs,tOr,EQ,tB,ER,Fi,ES,tIf,G9,GF,Ea,Dl,Ez,Dn,Ex,GE,Do,Fl,tSl,Ed,Ee,Ef,GJ,GI,GK,F0,Gx,Gy,Gz,H0,Dg,Ec,tBM,
 qEq,qNe,qIn,G4,El,Em,G5,En,Ek,Ep,GA,Eu,Es,Et,G8,rIx,Di,B0,Eg,Fx,Fy,G0,G3,Dk,Eh,Ei,EW,Fk,Cz,
 Gm,Gn,Go,Gp,Gq,Gs,Gu,Gv,Gw,Nat.reduceAdd,Nat.reduceSub,y30,y2z,y1z,
 y0r,y13,y1x,y1y,y26,y1h,V.int.injEq,V.ref.injEq,V.str.injEq,V.bl.injEq,V.ty.injEq,
 reduceCtorEq,false_and,and_false,and_true,true_and,exists_false,exists_const,false_or,or_false,exists_eq_left,exists_eq_left',exists_eq_right,exists_eq_right',exists_and_left,decide_eq_true_eq,y0e,y1q,exists_eq,true_or,or_true,y15,if_true,if_false,y1j,y2n,y2g,decide_true,decide_false,y21,y25,y0s,y0o,bne_self_eq_false,beq_self_eq_true])
theorem Wk.fz{K:y3}{H H':Hp}{a n:Addr}{hd:Hds}{st:NW}(h:Wk K H a n hd st)(s:Fz H H'):Wk K H' a n hd st:=by
 obtain⟨⟨C,dx,J,z,e,c,d,G,⟨hk,Y,F⟩,q,O,B⟩,kvs,M,r⟩:=h;have sb:SB 0 H H':=s.sb;exact⟨⟨C,dx,J,z,sb.ins e,c,d,G,⟨hk,s.dT Y,F.sb sb⟩,q,s.dT O,B.sb sb⟩,kvs,s.dT M,r.kp s.kp⟩
section
variable{P:yl}{w:y07}{K:y3}{mg:Str->Option ya}{base:Heap}{f:Addr}{fd:y0v}
def S7(Pq:T->Prop)(bh:Bh):Sp:=fun vs H Q _=>∃(v:V) (t:T) (d:Addr) (bk:Bk) (q:Bool),vs=[v,.ref d,.bl q]/\Dt H v t.enc/\Pq t/\IsBk H d bk/\bk.length<=900/\∀(r:V) (H':Hp),Same H H'->CF H' r (bh t bk q)->Q r H'
def S8(Pq:T->Prop)(bh:Bh):Sp:=fun vs H Q _=>∃(v hv:V) (t:T) (q:S) (d:Addr) (bk:Bk) (z:Bool),vs=[v,hv,.ref d,.bl z]/\Dt H v t.enc/\Pq t/\Dt H hv (AO q)/\IsBk H d bk/\bk.length<=900/\∀(r:V) (H':Hp),Same H H'->CF H' r (Ad bh t q bk z)->Q r H'
theorem iB{Pq:T->Prop}{bh:Bh}{M:Addr} (F:Fun K "side_of" "side_of" CD f fd) (g_ZERO:GC mg "ZERO" (.ref M)) (hZ:∀H,SqT K H M [.int 0,.int 0]) (c_is_within:Callee P w K mg base "is_within" ["one","other"] 3 (Mb K))
  (c_behind:Callee P w K mg base "behind" ["term","book","is_so"] 7 (S7 Pq bh)):FnOk P w K mg base CX0 8 f fd ["term","has","book","is_so"] (S8 Pq bh):=by
 refine F.ok sc_side_of (fun vs H Q E h=>?_) (fun lc A outer s H vs Q E hr h=>?_)
 ·obtain⟨v,hv,t,z,d,bk,Y,rfl,_⟩:=h;rfl
 obtain⟨v,hv,t,z,d,bk,Y,rfl,dv,hq,dh,J,hl,q⟩:=h;refine⟨_,(A5 (AK (i:=4) sc_side_of.nd rfl dN (HW (Be (A2 3 rfl RJ)) (Np (AC c_is_within hr (by lia) (A3 (A2 1 rfl RH) (A3 (Bg g_ZERO RF Pu) pa_nil)) RG Lm)) (AC c_is_within hr (by lia) (A3 (Bg g_ZERO RF Pu) (A3 (A2 1 rfl RH) pa_nil)) RG Lm)) (AE rfl))
 (A5 (AJ (Cc (Be (A2 4 rfl dP))) (A7 (AA AY)) AI)
 (A7 (AA (AC c_behind hr (by lia) (A3 (A2 0 rfl dQ) (A3 (A2 2 rfl dO) (A3 (A2 3 rfl RJ) pa_nil))) dM Xb))))),?_⟩
 have Z:StK K H (.ref M) (some (0,0)):=.inr ⟨_,_,M,rfl,rfl,hZ _⟩;unfold Ad at q;cases Y with
 |true=>
  rw[if_pos rfl] at q;walk_at "rx";refine⟨_,_,z,some (0,0),rfl,.of dh,Z,fun H1 B=>?_⟩;cases hc:Bc z (some (0,0)) with
  |true=>
   rw[hc,if_neg (by simp)] at q;walk_at "rx";exact q _ _ B rfl
  |false=>
   rw[hc,if_pos (by simp)] at q;walk_at "rx";exact⟨v,t,d,bk,true,rfl,dv.kp B.kp,hq,J.same B,hl,fun r H' O G=>q r H' (B.trans O) G⟩
 |false=>
  rw[if_neg (show ¬ false=true from yo)] at q;walk_at "rx";refine⟨_,_,some (0,0),z,rfl,Z,.of dh,fun H1 B=>?_⟩;cases hc:Bc (some (0,0)) z with
  |false=>
   rw[hc,if_neg (by simp)] at q;walk_at "rx";exact q _ _ B rfl
  |true=>
   rw[hc,if_pos rfl] at q;walk_at "rx";exact⟨v,t,d,bk,false,rfl,dv.kp B.kp,hq,J.same B,hl,fun r H' O G=>q r H' (B.trans O) G⟩
def S9:Sp:=fun vs H Q _=>∃(x y:V) (s t:Option Bk),vs=[x,y]/\CF H x s/\CF H y t/\(∀b,s=some b->b.length<=900)/\∀(r:V) (H':Hp),Fz H H'->CF H' r (Mj s t)->Q r H'
theorem BkR.key_at{H:Hp}{kvs:List (Key×V)}{bk:Bk}(h:BkR H kvs bk):(kvs.map fun kv=>kV kv.1)=bk.map fun q=>V.str q.1:=by
 unfold BkR at h;induction h with
 |nil=>rfl
 |cons z _ B=>
  rename_i p q _ _ _;rw[yc,yc,B,z.1]; rfl
theorem FI:∀{bk:Bk} {x:Str},x∈bk.map (fun q=>q.1)->∃s,look bk x=some s
 |[],_,h=>by cases h
 |q::r,x,h=>by
  rw[look];by_cases e:q.1=x
  ·exact⟨q.2,if_pos e⟩
  ·rw[if_neg e];rw[yc,yv] at h;exact FI (h.resolve_left fun z=>e z.symm)
def JI(H:Hp)(d1 d2 B:Addr)(o:Obj)(kvs:List (Key×V))(F G:Bk)(i:Nat)(z:St)(H':Hp):Prop:=
 Fz H H'/\H' d1=some (.frz o (.dK kvs))/\(∃t,z=[some (.ref d1),some (.ref d2),some (.ref B),t])/\∃kv,H' B=some (.dK kv)/\BkR H' kv (((F.map fun q=>q.1).take i).foldl (CV F G) [])
theorem iC(F:Fun K "joined_books" "joined_books" Cj f fd) (c_joined:Callee P w K mg base "joined" ["one","other"] 1 (DN DM)):FnOk P w K mg base CX0 2 f fd ["one","other"] S9:=by
 refine F.ok sc_joined_books (fun vs H Q E h=>?_) (fun lW A outer s H vs Q E hr h=>?_)
 ·obtain⟨x,y,s,t,rfl,_⟩:=h;rfl
 obtain⟨x,y,s,t,rfl,hx,hy,M,q⟩:=h;refine⟨_,(A5 (AJ (AH BX (A2 0 rfl Ji) AY (AF _)) (A7 (AA (A2 1 rfl Jj))) AI)
 (A5 (AJ (AH BX (A2 1 rfl Jj) AY (AF _)) (A7 (AA (A2 0 rfl Ji))) AI)
 (A5 (AK (i:=2) sc_joined_books.nd rfl du Ey (AE rfl))
 (A5 (C0 y0g rfl (JB (A2 0 rfl Ji)) (Ab (i:=3) sc_joined_books.nd rfl eB)
 (A7 (AJ (UJ (Oj hr.units1 (A2 3 rfl Jh) (A2 1 rfl Jj))) (A7 (C3 hr.units1 (A2 2 rfl RM) (A2 3 rfl Jh) (AC c_joined hr (by lia) (A3 (Ar hr.units1 (A2 0 rfl Ji) (A2 3 rfl Jh) (fun _ _=>rfl)) (A3 (Ar hr.units1 (A2 1 rfl Jj) (A2 3 rfl Jh) (fun _ _=>rfl)) pa_nil)) dq JO) (AE rfl))) AI)))
 (A7 (AA (A2 2 rfl RM))))))),?_⟩
 match s,t,hx,hy,M,q with
 |none,t,hx,hy,_,q=>
  cases hx;walk_at "rx";exact q _ _ (.of (Same.refl _)) hy
 |some G,none,⟨d1,e1,h1⟩,hy,_,q=>
  cases hy; cases e1;walk_at "rx";exact q _ _ (.of (Same.refl _)) ⟨d1,rfl,h1⟩
 |some G,some b2,⟨d1,e1,h1⟩,⟨d2,e2,h2⟩,M,q=>
  cases e1; cases e2;have hl:=M G rfl;walk_at "rx";intro Z lg;have s1:=AD lg (HO.dK []);have eb:upd H Z (HO.dK []) Z=_:=A6;have lj:d1≠Z:=by
   intro z;subst z;obtain⟨kvs,e|⟨_,e⟩,_⟩:=h1<;>rw[lg] at e<;>cases e
  generalize upd H Z (HO.dK [])=U at s1 eb |-;obtain⟨kvs,hd,rb⟩:=id (h1.same s1);refine⟨kvs,hd,fun o=>?_⟩;have sF:Fz U (upd U d1 (.frz o (.dK kvs))):=Fz.frz o hd;have eF:upd U d1 (.frz o (.dK kvs)) d1=_:=A6;have lp:upd U d1 (.frz o (.dK kvs)) Z=some (.dK []):=by rw[AB (y0y lj)]; exact eb
  generalize upd U d1 (.frz o (.dK kvs))=UF at sF eF lp |-;have ls:Fz H UF:=Fz.trans (.of s1) sF;rw[rb.key_at];refine JC (JI H d1 d2 Z o kvs G b2) ⟨ls,eF,⟨_,rfl⟩,[],lp,.nil⟩ ?_ ?_ ?_
  ·rintro i lh H' _ ⟨_,h,_⟩;exact h
  ·rintro i v lh H' hv ⟨sb,hf,⟨t,rfl⟩,kv,Y,B⟩;rw[ym] at hv;cases hq:G[i]? with
   |none=>rw[hq] at hv; cases hv
   |some J=>
    rw[hq] at hv;have ev:V.str J.1=v:=by simpa using hv
    subst ev;have lm:J.1∈G.map (fun q=>q.1):=List.mem_map.mpr ⟨J,yi hq,rfl⟩;have ly:((G.map fun q=>q.1).take (i+1))=((G.map fun q=>q.1).take i)++[J.1]:=by
     rw[y0q,ym,hq]; rfl
    have lV:i<G.length:=(List.getElem?_eq_some_iff.mp hq).1;obtain⟨sx,lP⟩:=FI lm;obtain⟨k1,lR,r1⟩:=sb.bk h1;obtain⟨k2,lQ,r2⟩:=sb.bk h2;rcases r1.look J.1 with⟨z,_⟩|⟨lx,v1,z1,lr,lU⟩
    ·rw[lP] at z; cases z
    have g1:=DGet.kr (k:=.inr J.1) lR;have g2:=DGet.kr (k:=.inr J.1) lQ;rw[lr] at g1;have O:=Mi G b2 ((G.map fun q=>q.1).take i) [];rw[y04,y0b] at O;unfold JI;rw[ly,y1n];generalize ((G.map fun q=>q.1).take i).foldl (CV G b2) []=acc at B O |-;show _;rcases r2.look J.1 with⟨z2,lc⟩|⟨lv,v2,z2,lc,lT⟩
    ·rw[lc] at g2;walk_at "rx";refine⟨_,g2,?_⟩;refine⟨sb,hf,⟨_,rfl⟩,kv,Y,?_⟩;show BkR H' kv (CV G b2 acc J.1);unfold CV;rw[z1,z2]; exact B
    ·rw[lc] at g2;walk_at "rx";refine⟨_,g2,?_⟩;refine⟨v1,g1,v2,g2,v1,v2,some lx,some lv,rfl,lU,lT,fun r4 H4 s4 lq=>?_⟩;rw[Mh] at lq;refine⟨_,DPut.k (k:=.inr J.1) (s4 _ _ Y) (by rw[B.length]; exact An (by lia)),?_⟩;have ln:Kp H4 (upd H4 Z (.dK (AM kv (.inr J.1) r4))):=ED (s4 _ _ Y);have lu:Fz H H4:=sb.trans (.of s4);have lS:upd H4 Z (.dK (AM kv (.inr J.1) r4)) d1=some (.frz o (.dK kvs)):=by rw[AB lj]; exact s4 _ _ hf
     refine⟨lu.upd lg _,lS,⟨_,rfl⟩,_,A6,?_⟩;show BkR _ _ (CV G b2 acc J.1);unfold CV;rw[z1,z2];exact(B.kp (s4.kp.trans ln)).put _ (lq.kp ln)
  ·rintro lh H' ⟨sb,hf,⟨t,rfl⟩,kv,Y,B⟩;walk_at "rx";rw[y4,y2d (by rw[y4]; exact yb _)] at B;exact q _ _ sb ⟨Z,rfl,kv,.inl Y,B⟩
def FJ(Pq:T->Prop):Nat->List D->Prop
 |0,_=>False
 |n+1,b=>∀d∈b,match d with
  |.set _ t=>T.dp 6 t
  |.ite _ _ _=>False
  |.whl t _ b=>T.dp 6 t/\Pq t/\FJ Pq n b
def Mn(Pq:T->Prop)(n:Nat)(d:D):Prop:=match d with
 |.set _ t=>T.dp 6 t
 |.ite _ _ _=>False
 |.whl t _ b=>T.dp 6 t/\Pq t/\FJ Pq n b
def SA:D->Prop
 |.set _ t=>T.dp 6 t
 |_=>False
def SC(Pq:T->Prop)(n:Nat):D->Prop
 |.whl t _ b=>T.dp 6 t/\Pq t/\FJ Pq n b
 |_=>False
def HJ(K:y3)(bh:Bh)(m:Nat)(ok:D->Prop):Sp:=fun vs H Q _=>∃(B pv:V) (q:D) (p:Pth) (d a z:Addr) (bk:Bk) (hd:Hds) (st:NW),vs=[B,pv,.ref d,.ref a]/\Dt H B q.enc/\ok q/\PtA H pv p/\IsBk H d bk/\Wk K H a z hd st/\(st.1.length+q.sz<=900/\st.2.length+q.sz<=900)/\bk.length+q.sz<=900/\p.length+m<=900/\
 ∀(r:V) (H':Hp),SB z H H'->Wk K H' a z hd (wkD bh hd q p bk st).2->CF H' r (wkD bh hd q p bk st).1->Q r H'
def IL(K:y3)(bh:Bh)(Pq:T->Prop)(n:Nat):Sp:=fun vs H Q _=>∃(B pv z:V) (b:List D) (p:Pth) (a q:Addr) (o:Option Bk) (hd:Hds) (st:NW),vs=[B,pv,z,.ref a]/\Dt H B (.tup (Av b))/\FJ Pq n b/\PtA H pv p/\CF H z o/\Wk K H a q hd st/\(st.1.length+szB b<=900/\st.2.length+szB b<=900)/\(∀bk,o=some bk->bk.length+szB b<=900)/\p.length+(2*n+10)<=900/\
 ∀(r:V) (H':Hp),SB q H H'->Wk K H' a q hd (wkB bh hd b p 0 o st).2->CF H' r (wkB bh hd b p 0 o st).1->Q r H'
theorem iD{bh:Bh}{Pq:T->Prop}{k:Nat}{G F B z:Str}:FnOk P w K mg base CX0 k f fd [G,F,B,z] (IL K bh Pq 0):=by
 have q:∀vs H Q E,¬ IL K bh Pq 0 vs H Q E:=fun vs H Q E h=>by
  obtain⟨Y,pv,M,b,p,a,O,o,J,st,_,_,h,_⟩:=h;exact h.elim
 exact⟨fun vs H Q E h=>absurd h (q vs H Q E),fun A outer s H args us vs Q E _ _ _ _ h=>absurd h (q vs H Q E)⟩
theorem iE{bh:Bh} (F:Fun K "go_set" "go_set" C5 f fd) (b_dict:mg "dict" = none) (c_show:Callee P w K mg base "show" ["term","path","book","walk"] 11 (HF K 6)):FnOk P w K mg base CX0 12 f fd ["deed","path","book","walk"] (HJ K bh 8 SA):=by
 refine F.ok sc_go_set (fun vs H Q E h=>?_) (fun lp A outer s H vs Q E hr h=>?_)
 ·obtain⟨dv,pv,dd,p,d,a,nn,bk,lc,st,rfl,_⟩:=h;rfl
 obtain⟨dv,pv,dd,p,d,a,nn,bk,lc,st,rfl,hv,ht,hp,lg,hw,hl,J,ln,q⟩:=h;match dd,ht,hv,hl,J,q with
 |.set x t,ht,hv,hl,J,q=>
  rw[D.sz] at hl J;rw[wkD] at q;obtain⟨pd,xs,rfl,Y,da⟩:=hv.tupI;rcases da with _|⟨d1,_|⟨d2,_|⟨d3,_|_⟩⟩⟩;cases d1; cases d2;rename_i vt;refine⟨_,(A5 (AK (i:=4) sc_go_set.nd rfl cz (AC c_show hr (by lia) (A3 (A8 A9 (A2 0 rfl R9) A4 (fun _ _=>rfl)) (A3 (AT Bf (A2 1 rfl dA) (AW (A3 A4 pa_nil))) (A3 (A2 2 rfl R8) (A3 (A2 3 rfl dB) pa_nil)))) cx JV) (AE rfl))
 (A5 (AJ (AH BX (A2 4 rfl RB) AY (AF _)) (A7 (AA AY)) AI)
 (A5 (AK (i:=5) sc_go_set.nd rfl cy (D3 Iu cw b_dict GR (A3 (A2 2 rfl R8) pa_nil) GZ GV) (AE rfl))
 (A5 (C3 hr.units1 (A2 5 rfl RA) (A8 A9 (A2 0 rfl R9) A4 (fun _ _=>rfl)) (A2 4 rfl RB) (AE rfl))
 (A7 (AA (A2 5 rfl RA))))))),?_⟩
  walk_at "rx"
  refine⟨_,SqT.of Y,_,rfl,zl 1 (by decide),fun p1 lj=>?_⟩
  have s1:=AD lj (HO.tup [.int 0])
  have e1:upd H p1 (HO.tup [.int 0]) p1=_:=A6
  generalize upd H p1 (HO.tup [.int 0])=U at s1 e1 |-
  refine HC (q:=[0]) (hp.kp s1.kp) e1 (by simp; lia) fun r2 H2 s2 lh=>?_
  have G:=s1.trans s2
  refine⟨vt,r2,t,p++[0],d,a,nn,bk,lc,st.1,st.2,rfl,d3.kp G.kp,ht,lh,lg.same G,hw.same G,by lia,by simp; lia,fun r3 H3 s3 w3 M=>?_⟩
  have B:SB nn H H3:=SB.trans (.of G) s3
  rcases dtS M with⟨z,rfl⟩|⟨l,h,pp,z,rfl,lm⟩
  ·walk_at "rx"
   rw[z] at q
   exact q _ _ B w3 rfl
  ·walk_at "rx"
   rw[z] at q
   obtain⟨kvs,hd,rb⟩:=B.bk lg
   refine⟨kvs,hd,fun O Z=>?_⟩
   have s4:=AD Z (HO.dK kvs)
   have e4:upd H3 O (HO.dK kvs) O=_:=A6
   have s5:∀o,Same H3 (upd (upd H3 O (HO.dK kvs)) O o):=fun o=>FG s4 Z
   generalize upd H3 O (HO.dK kvs)=U4 at s4 e4 s5 |-
   refine⟨_,SqT.of (s4 _ _ (B.kp.t _ _ Y)),_,rfl,_,DPut.k (k:=.inr x) e4 (by rw[rb.length]; exact An (by lia)),?_⟩
   have hk:=s4.kp.trans (ED (kvs':=AM kvs (.inr x) (V.ref pp)) e4)
   rw[z] at M
   exact q _ _ (B.trans (.of (s5 _))) (w3.same (s5 _)) ⟨O,rfl,_,.inl A6,(rb.kp hk).put x (M.kp hk)⟩
def KL:Sp:=fun vs H Q _=>∃(d1 d2:Addr) (q z:Bk),vs=[.ref d1,.ref d2]/\IsBk H d1 q/\IsBk H d2 z/\q.length<=900/\∀(r:Addr) (H':Hp),Fz H H'->IsBk H' r (jtB q z)->Q (.ref r) H'
def TI(H:Hp)(d1 d2 B:Addr)(o:Obj)(kvs:List (Key×V))(F G:Bk)(i:Nat)(z:St)(H':Hp):Prop:=
 Fz H H'/\H' d1=some (.frz o (.dK kvs))/\(∃t,z=[some (.ref d1),some (.ref d2),some (.ref B),t])/\∃kv,H' B=some (.dK kv)/\BkR H' kv (((F.map fun q=>q.1).take i).foldl (Cn F G) [])
theorem iF(F:Fun K "joined_to" "joined_to" Ck f fd) (c_joined:Callee P w K mg base "joined" ["one","other"] 1 (DN DM)):FnOk P w K mg base CX0 2 f fd ["book","other"] KL:=by
 refine F.ok sc_joined_to (fun vs H Q E h=>?_) (fun lW A outer s H vs Q E hr h=>?_)
 ·obtain⟨d1,d2,J,b2,rfl,_⟩:=h;rfl
 obtain⟨d1,d2,J,b2,rfl,h1,h2,hl,q⟩:=h;refine⟨_,(A5 (AK (i:=2) sc_joined_to.nd rfl eE Ey (AE rfl))
 (A5 (C0 y0g rfl (JB (A2 0 rfl RN)) (Ab (i:=3) sc_joined_to.nd rfl eG)
 (A7 (C3 hr.units1 (A2 2 rfl RO) (A2 3 rfl MV) (AC c_joined hr (by lia) (A3 (Ar hr.units1 (A2 0 rfl RN) (A2 3 rfl MV) (fun _ _=>rfl)) (A3 (Ir hr.units1 (A2 1 rfl eJ) (A2 3 rfl MV) ⟨rfl,rfl,rfl,rfl⟩) pa_nil)) eC JO) (AE rfl))))
 (A7 (AA (A2 2 rfl RO))))),AN fun N1 e1=>?_⟩
 walk_at "rx";intro O lh;rw[e1];refine AN fun N2 e2=>?_;walk_at "rx";have s1:=AD lh (HO.dK []);have eb:upd H O (HO.dK []) O=_:=A6;have ln:d1≠O:=by
  intro z;subst z;obtain⟨kvs,e|⟨_,e⟩,_⟩:=h1<;>rw[lh] at e<;>cases e
 generalize upd H O (HO.dK [])=U at s1 eb |-;obtain⟨kvs,hd,rb⟩:=id (h1.same s1);refine⟨kvs,hd,fun o=>?_⟩;have sF:Fz U (upd U d1 (.frz o (.dK kvs))):=Fz.frz o hd;have eF:upd U d1 (.frz o (.dK kvs)) d1=_:=A6;have ls:upd U d1 (.frz o (.dK kvs)) O=some (.dK []):=by rw[AB (y0y ln)]; exact eb
 generalize upd U d1 (.frz o (.dK kvs))=UF at sF eF ls |-;have lx:Fz H UF:=Fz.trans (.of s1) sF;rw[rb.key_at];refine JC (TI H d1 d2 O o kvs J b2) ⟨lx,eF,⟨_,rfl⟩,[],ls,.nil⟩ ?_ ?_ ?_
 ·rintro i lm H' _ ⟨_,h,_⟩;exact h
 ·rintro i v lm H' hv ⟨sb,hf,⟨t,rfl⟩,kv,Z,G⟩;rw[ym] at hv;cases hq:J[i]? with
  |none=>rw[hq] at hv; cases hv
  |some B=>
   rw[hq] at hv;have ev:V.str B.1=v:=by simpa using hv
   subst ev;have lp:B.1∈J.map (fun q=>q.1):=List.mem_map.mpr ⟨B,yi hq,rfl⟩;have lQ:((J.map fun q=>q.1).take (i+1))=((J.map fun q=>q.1).take i)++[B.1]:=by
    rw[y0q,ym,hq]; rfl
   have lV:i<J.length:=(List.getElem?_eq_some_iff.mp hq).1;obtain⟨sx,lR⟩:=FI lp;obtain⟨k1,lS,r1⟩:=sb.bk h1;obtain⟨k2,lr,r2⟩:=sb.bk h2;rcases r1.look B.1 with⟨z,_⟩|⟨lg,v1,z1,lv,lU⟩
   ·rw[lR] at z; cases z
   have g1:=DGet.kr (k:=.inr B.1) lS;have g2:=DGet.kr (k:=.inr B.1) lr;rw[lv] at g1;have M:=Ml J b2 ((J.map fun q=>q.1).take i) [];rw[y04,y0b] at M;unfold TI;rw[lQ,y1n];generalize ((J.map fun q=>q.1).take i).foldl (Cn J b2) []=acc at G M |-;have fin:∀(v2:V) (o2:S),Dt H' v2 (AO o2)->look b2 B.1=o2->DN DM [v1,v2] H' (fun x H1=>∃Y,DPut H1 O (V.str B.1) x Y/\(Fz H Y/\Y d1=some (.frz o (.dK kvs))/\(∃t,some (V.str B.1)=t)/\∃kv,Y O=some (.dK kv)/\BkR Y kv ([B.1].foldl (Cn J b2) acc))) E0:=by
    intro v2 o2 lj z2;refine⟨v1,v2,some lg,o2,rfl,lU,lj,fun r4 Y s4 lu=>?_⟩;have ej:DM (some lg) o2=some (jtS lg o2):=by
     cases o2 with
     |none=>rfl
     |some t=>exact Mh _ _
    rw[ej] at lu;refine⟨_,DPut.k (k:=.inr B.1) (s4 _ _ Z) (by rw[G.length]; exact An (by lia)),?_⟩;have lq:Kp Y (upd Y O (.dK (AM kv (.inr B.1) r4))):=ED (s4 _ _ Z);have ly:Fz H Y:=sb.trans (.of s4);have lT:upd Y O (.dK (AM kv (.inr B.1) r4)) d1=some (.frz o (.dK kvs)):=by rw[AB ln]; exact s4 _ _ hf
    refine⟨ly.upd lh _,lT,⟨_,rfl⟩,_,A6,?_⟩;show BkR _ _ (Cn J b2 acc B.1);unfold Cn;rw[z1,z2];exact(G.kp (s4.kp.trans lq)).put _ (lu.kp lq)
   walk_at "rx";refine⟨v1,g1,.inl ⟨_,lr⟩,_,g2,?_⟩;rcases r2.look B.1 with⟨z2,lc⟩|⟨lP,v2,z2,lc,lj⟩
   ·rw[lc];exact fin .non none .non z2
   ·rw[lc];exact fin v2 (some lP) lj z2
 ·rintro lm H' ⟨sb,hf,⟨t,rfl⟩,kv,Z,G⟩;show N2 _ _;rw[e2];walk_at "rx";rw[y4,y2d (by rw[y4]; exact yb _)] at G;exact q _ _ sb ⟨kv,.inl Z,G⟩
theorem SD{bh:Bh}{Pq:T->Prop}{n:Nat}(hg:HH bh) (F:Fun K "go_while" "go_while" BJ f fd) (c_joined_to:Callee P w K mg base "joined_to" ["book","other"] 2 KL) (c_show:Callee P w K mg base "show" ["term","path","book","walk"] 11 (HF K 6)) (c_side_of:Callee P w K mg base "side_of" ["term","has","book","is_so"] 8 (S8 Pq bh)) (c_joined_books:Callee P w K mg base "joined_books" ["one","other"] 2 S9)
  (c_go_block:Callee P w K mg base "go_block" ["block","path","book","walk"] (3*n+12) (IL K bh Pq n)):FnOk P w K mg base CX0 (3*n+13) f fd ["deed","path","book","walk"] (HJ K bh (2*n+11) (SC Pq n)):=by
 refine F.ok sc_go_while (fun vs H Q E h=>?_) (fun cdv A outer s H vs Q E hr h=>?_)
 ·obtain⟨dv,pv,dd,p,d,a,nn,bk,hds,st,rfl,_⟩:=h
  rfl
 obtain⟨dv,pv,dd,p,d,a,nn,bk,hds,st,rfl,hv,ht,hp,hbk,hw,hl,hlb,hpl,q⟩:=h
 match dd,ht,hv,hl,hlb,q with
 |.whl t m b,⟨ht,hpq,hb⟩,hv,hl,hlb,q=>
  rw[D.sz] at hl hlb
  rw[wkD] at q
  obtain⟨pd,xs,rfl,hpd,da⟩:=hv.tupI
  rcases da with _|⟨d1,_|⟨d2,_|⟨d3,_|⟨d4,_|_⟩⟩⟩⟩
  cases d1
  rename_i vt vm vb
  have g0:(Aj hds p bk).length<=bk.length:=Mm _ _
  have g1:=EE (Aj hds p bk) t (p++[0]) st.1
  obtain⟨pa,epa,hpa⟩:=id hp
  refine⟨_,(A5 (AK (i:=4) sc_go_while.nd rfl dJ (AC c_joined_to hr (by lia) (A3 (A2 2 rfl RD) (A3 (LG hr.units1 (Eb (A2 3 rfl Jg) rfl) (A2 1 rfl Jf) Ey ⟨rfl,rfl,rfl,rfl⟩) pa_nil)) dF Q6) (AE rfl))
 (A5 (AK (i:=5) sc_go_while.nd rfl dI (AC c_show hr (by lia) (A3 (A8 A9 (A2 0 rfl Je) A4 (fun _ _=>rfl)) (A3 (AT Bf (A2 1 rfl Jf) (AW (A3 A4 pa_nil))) (A3 (A2 4 rfl MR) (A3 (A2 3 rfl Jg) pa_nil)))) dG JV) (AE rfl))
 (A5 (AK (i:=6) sc_go_while.nd rfl dH (AC c_go_block hr (by lia) (A3 (A8 A9 (A2 0 rfl Je) A4 (fun _ _=>rfl)) (A3 (AT Bf (A2 1 rfl Jf) (AW (A3 A4 pa_nil))) (A3 (AC c_side_of hr (by lia) (A3 (A8 A9 (A2 0 rfl Je) A4 (fun _ _=>rfl)) (A3 (A2 5 rfl RE) (A3 (A2 4 rfl MR) (A3 BA pa_nil)))) RC QA) (A3 (A2 3 rfl Jg) pa_nil)))) dD Q0) (AE rfl))
 (A5 (C3 hr.units1 (Eb (A2 3 rfl Jg) rfl) (A2 1 rfl Jf) (AC c_joined_books hr (by lia) (A3 (A2 2 rfl RD) (A3 (A2 6 rfl dL) pa_nil)) dE Xw) (AE rfl))
 (A7 (AA (AC c_side_of hr (by lia) (A3 (A8 A9 (A2 0 rfl Je) A4 (fun _ _=>rfl)) (A3 (A2 5 rfl RE) (A3 (A2 4 rfl MR) (A3 BA pa_nil)))) RC QA))))))),AN fun N1 e1=>?_⟩
  walk_at "rx"
  obtain⟨⟨C,dx,hA,wA,e,c,nd,ne,⟨hk,e4,r4⟩,wk,e5,r5⟩,kvs,e6,r6⟩:=id hw
  have B9:∀(ha:Addr) (H2:Hp),Fz H H2->IsBk H2 ha (Aj hds p bk)->N1 [some (V.ref pd),some pv,some (V.ref d),some (V.ref a),some (V.ref ha),none,none] H2:=by
   intro ha H2 f2 hh
   have sb2:SB nn H H2:=f2.sb
   have w2:=hw.fz f2
   generalize Aj hds p bk=hb' at g0 g1 hh q
   rw[e1]
   refine AN fun N2 e2=>?_
   walk_at "rx"
   refine⟨_,SqT.of (sb2.kp.t _ _ hpd),_,rfl,zl 1 (by decide),fun p1 hp1=>?_⟩
   have s1:=AD hp1 (HO.tup [.int 0])
   have f1:upd H2 p1 (HO.tup [.int 0]) p1=_:=A6
   generalize upd H2 p1 (HO.tup [.int 0])=U at s1 f1 |-
   refine HC (q:=[0]) ((hp.kp sb2.kp).kp s1.kp) f1 (by simp; lia) fun r2 H3 s2 hr2=>?_
   have s12:=s1.trans s2
   have sb3:SB nn H H3:=sb2.trans (.of s12)
   refine⟨vt,r2,t,p++[0],ha,a,nn,hb',hds,st.1,st.2,rfl,d2.kp sb3.kp,ht,hr2,hh.same s12,w2.same s12,by lia,by simp; lia,fun r4' H4 s4 w4 dr4=>?_⟩
   have sb4:=sb3.trans s4
   have hh4:=s4.bk (hh.same s12)
   generalize shS hb' t (p++[0]) st.1=sh at g1 w4 dr4 q
   rw[e2]
   refine AN fun N3 e3=>?_
   walk_at "rx"
   refine⟨_,SqT.of (sb4.kp.t _ _ hpd),_,rfl,zl 1 (by decide),fun p5 hp5=>?_⟩
   have s5:=AD hp5 (HO.tup [.int 1])
   have f5:upd H4 p5 (HO.tup [.int 1]) p5=_:=A6
   generalize upd H4 p5 (HO.tup [.int 1])=U5 at s5 f5 |-
   refine HC (q:=[1]) ((hp.kp sb4.kp).kp s5.kp) f5 (by simp; lia) fun r6' H6 s6 hr6=>?_
   have s56:=s5.trans s6
   have sb6:SB nn H H6:=sb4.trans (.of s56)
   refine⟨_,SqT.of (sb6.kp.t _ _ hpd),_,rfl,vt,r4',t,sh.1,ha,hb',true,rfl,d2.kp sb6.kp,hpq,dr4.kp s56.kp,hh4.same s56,by lia,fun r7 H7 s7 hr7=>?_⟩
   have sb7:=sb6.trans (.of s7)
   have gs1:∀bk',Ad bh t sh.1 hb' true=some bk'->bk'.length+szB b<=900:=fun bk' e=>by
    have:=KK hg e
    lia
   have g2:=IK (hd:=hds) hg b (p++[1]) 0 (Ad bh t sh.1 hb' true) (sh.2,st.2)
   refine⟨vb,r6',r7,b,p++[1],a,nn,_,hds,(sh.2,st.2),rfl,d4.kp sb7.kp,hb,hr6.kp s7.kp,hr7,(w4.same s56).same s7,by dsimp only at *; lia,gs1,by simp; lia,fun r8 H8 s8 w8 hr8=>?_⟩
   have sb8:=sb7.trans s8
   have hh8:=s8.bk ((hh4.same s56).same s7)
   have dr8:Dt H8 r4' (AO sh.1):=((dr4.kp s56.kp).kp s7.kp).kp s8.kp
   have gs2:∀bk',(wkB bh hds b (p++[1]) 0 (Ad bh t sh.1 hb' true) (sh.2,st.2)).1=some bk'->bk'.length<=900:=fun bk' e=>by
    obtain⟨y,e2,l⟩:=g2.2 bk' e
    have:=gs1 y e2
    lia
   generalize wkB bh hds b (p++[1]) 0 (Ad bh t sh.1 hb' true) (sh.2,st.2)=wb at g2 gs2 w8 hr8 q
   rw[e3]
   refine AN fun N4 e4'=>?_
   walk_at "rx"
   refine⟨.ref d,r8,some bk,wb.1,rfl,⟨d,rfl,sb8.bk hbk⟩,hr8,fun x e=>by cases e; lia,fun r9 H9 f9 hr9=>?_⟩
   obtain⟨dw,er9,hdw⟩:∃dw,r9=.ref dw/\IsBk H9 dw (EF bk wb.1):=by
    rcases wb with⟨_|eb,st'⟩
    ·exact hr9
    ·exact hr9
   subst er9
   have w9:=w8.fz f9
   have sb9:SB nn H H9:=sb8.trans f9.sb
   obtain⟨⟨C',dx',hA',wA',k1,k2,k3,k4,⟨hk',k5,k6⟩,wk',k7,k8⟩,kvs',k9,k10⟩:=w9
   obtain⟨pa9,epa9,hpa9⟩:=hp.kp sb9.kp
   subst epa9
   have lw:wk'.length<=900:=by
    have:=g2.1.2
    rw[k8.length]
    dsimp only at *
    lia
   refine⟨_,_,_,k1,k2,k3.2.2,_,KH,_,rfl,_,DPut.t (k:=AL p) k7 (by rw[BK]; exact hpa9) (An (by lia)),?_⟩
   have sU:SB nn H9 (upd H9 wA' (.dT (AM wk' (AL p) (.ref dw)))):=fun b o hb=>by
    by_cases hn:b=wA'
    ·subst hn
     rw[k7] at hb
     cases hb
     exact .inr (.inr ⟨rfl,_,_,rfl,A6⟩)
    ·exact .inl (by rw[AB hn]; exact hb)
   have u1:upd H9 wA' (.dT (AM wk' (AL p) (.ref dw))) wA'=_:=A6
   have u2:upd H9 wA' (.dT (AM wk' (AL p) (.ref dw))) hA'=_:=(AB k4.2.2.symm).trans k5
   have u3:upd H9 wA' (.dT (AM wk' (AL p) (.ref dw))) nn=_:=(AB k4.1).trans k9
   generalize upd H9 wA' (.dT (AM wk' (AL p) (.ref dw)))=U9 at sU u1 u2 u3 |-
   have wU:Wk K U9 a nn hds (wb.2.1,BT wb.2.2 p (EF bk wb.1)):=⟨⟨C',dx',hA',wA',sU.ins k1,k2,k3,k4,⟨hk',u2,k6.sb sU⟩,_,u1,(k8.sb sU).put p (sU.bk hdw)⟩,kvs',u3,k10.kp sU.kp⟩
   have sbU:=sb9.trans sU
   rw[e4']
   walk_at "rx"
   exact⟨_,SqT.of (sbU.kp.t _ _ hpd),_,rfl,vt,r4',t,sh.1,ha,hb',false,rfl,d2.kp sbU.kp,hpq,(dr8.kp f9.kp).kp sU.kp,sU.bk (f9.bk hh8),by lia,fun r10 H10 s10 hr10=>q _ _ (sbU.trans (.of s10)) (wU.same s10) hr10⟩
  subst epa
  refine⟨C,dx,_,e,c,nd.1,_,hX,hA,rfl,.inr ⟨hk,.inl e4⟩,fun pz hz=>?_⟩
  have s0:=AD hz (HO.dK [])
  refine⟨_,DGet.t (k:=AL p) (s0 _ _ e4) (by rw[BK]; exact s0 _ _ hpa),?_⟩
  have fin:∀(do':Addr) (bo:Bk),IsBk (upd H pz (HO.dK [])) do' bo->(B4 hds p).getD []=bo->KL [V.ref d,V.ref do'] (upd H pz (HO.dK [])) (fun x H1=>N1 [some (V.ref pd),some (V.ref pa),some (V.ref d),some (V.ref a),some x,none,none] H1) E0:=by
   intro do' bo ho eo
   exact⟨d,do',bk,bo,rfl,hbk.same s0,ho,by lia,fun r H' f hr'=>B9 r H' (Fz.trans (.of s0) f) (by unfold Aj; rw[eo]; exact hr')⟩
  rcases r4.look p with⟨z1,z2⟩|⟨b0,d0,z1,z2,hb0⟩
  ·rw[z2]
   exact fin pz [] ⟨[],.inl A6,.nil⟩ (by rw[z1]; rfl)
  ·rw[z2]
   exact fin d0 b0 (hb0.same s0) (by rw[z1]; rfl)
theorem SE{bh:Bh}{Pq:T->Prop}{n:Nat} (F:Fun K "go_deed" "go_deed" Ci f fd) (c_go_set:Callee P w K mg base "go_set" ["deed","path","book","walk"] 12 (HJ K bh 8 SA)) (c_go_if:Callee P w K mg base "go_if" ["deed","path","book","walk"] 0 (fun _ _ _ _=>False))
  (c_go_while:Callee P w K mg base "go_while" ["deed","path","book","walk"] (3*n+13) (HJ K bh (2*n+11) (SC Pq n))):FnOk P w K mg base CX0 (3*n+14) f fd ["deed","path","book","walk"] (HJ K bh (2*n+11) (Mn Pq n)):=by
 refine F.ok cq (fun vs H Q E h=>?_) (fun lg A outer s H vs Q E hr h=>?_)
 ·obtain⟨dv,pv,dd,p,d,a,Y,bk,J,st,rfl,_⟩:=h;rfl
 obtain⟨dv,pv,dd,p,d,a,Y,bk,J,st,rfl,hv,G,hp,O,hw,M,z,lc,q⟩:=h;refine⟨_,(A5 (AJ (AH (gEq hr.units) (A8 A9 (A2 0 rfl IC) A4 (fun _ _=>rfl)) AR (AF _)) (A7 (AA (AC c_go_set hr (by lia) (A3 (A2 0 rfl IC) (A3 (A2 1 rfl MP) (A3 (A2 2 rfl MO) (A3 (A2 3 rfl MQ) pa_nil)))) cu Xl))) AI)
 (A5 (AJ (AH (gEq hr.units) (A8 A9 (A2 0 rfl IC) A4 (fun _ _=>rfl)) AR (AF _)) (A7 (AA (AC c_go_if hr (by lia) (A3 (A2 0 rfl IC) (A3 (A2 1 rfl MP) (A3 (A2 2 rfl MO) (A3 (A2 3 rfl MQ) pa_nil)))) cr Xk))) AI)
 (A7 (AA (AC c_go_while hr (by lia) (A3 (A2 0 rfl IC) (A3 (A2 1 rfl MP) (A3 (A2 2 rfl MO) (A3 (A2 3 rfl MQ) pa_nil)))) cv Xm))))),AN fun N1 e1=>?_⟩
 match dd,G,hv,M,z,q with
 |.set x t,G,hv,M,z,q=>
  obtain⟨pd,xs,rfl,B,Z⟩:=id hv.tupI;rcases Z with _|⟨d1,_|⟨d2,_|⟨d3,_|_⟩⟩⟩;cases d1;walk_at "rx";refine⟨_,SqT.of B,_,rfl,_,.inl ⟨rfl,rfl⟩,?_⟩;rw[if_pos (by decide+kernel)];exact⟨_,pv,.set x t,p,d,a,Y,bk,J,st,rfl,hv,G,hp,O,hw,M,z,by lia,q⟩
 |.ite t b c,G,hv,M,z,q=>exact G.elim
 |.whl t m b,G,hv,M,z,q=>
  obtain⟨pd,xs,rfl,B,Z⟩:=id hv.tupI;rcases Z with _|⟨d1,_|⟨d2,_|⟨d3,_|⟨d4,_|_⟩⟩⟩⟩;cases d1;walk_at "rx";refine⟨_,SqT.of B,_,rfl,_,.inl ⟨rfl,rfl⟩,?_⟩;rw[if_neg (by decide+kernel)];show N1 _ _;rw[e1];refine AN fun N2 e2=>?_;walk_at "rx";refine⟨_,SqT.of B,_,rfl,_,.inl ⟨rfl,rfl⟩,?_⟩;rw[if_neg (by decide+kernel)];show N2 _ _;rw[e2];walk_at "rx";exact⟨_,pv,.whl t m b,p,d,a,Y,bk,J,st,rfl,hv,G,hp,O,hw,M,z,by lia,q⟩
theorem Mo:∀{b:List D} {ds:List V} {H:Hp} {i:Nat} {x:V},DtA H ds (Av b)->ds[i]?=some x->∃d,b[i]?=some d/\Dt H x d.enc
 |[],ds,H,i,x,h,hx=>by
  rw[Av] at h;cases h; cases hx
 |d::b,ds,H,i,x,h,hx=>by
  rw[Av] at h;cases h with
  |cons h1 h2=>
   cases i with
   |zero=>
    rw[y0r] at hx;cases hx;exact⟨d,rfl,h1⟩
   |succ i=>
    rw[y13] at hx |-;exact Mo h2 hx
theorem iG{Pq:T->Prop}{n:Nat}{b:List D}(h:FJ Pq (n+1) b){d:D}(hd:d∈b):Mn Pq n d:=by
 have:=h d hd;cases d<;>exact this
def BI(K:y3)(bh:Bh)(H:Hp)(J pv:V)(a B:Addr)(b:List D)(p:Pth)(hd:Hds)(res:Option Bk×NW)(i:Nat)(q:St)(H':Hp):Prop:=
 SB B H H'/\∃(z:V) (o:Option Bk) (st:NW),(∃G F,q=[some J,some pv,some z,some (.ref a),G,F])/\CF H' z o/\Wk K H' a B hd st/\wkB bh hd (b.drop i) p i o st=res/\(st.1.length+szB (b.drop i)<=900/\st.2.length+szB (b.drop i)<=900)/\∀bk,o=some bk->bk.length+szB (b.drop i)<=900
theorem SF{bh:Bh}{Pq:T->Prop}{n:Nat}(hg:HH bh) (F:Fun K "go_block" "go_block" Bt f fd) (b_enumerate:mg "enumerate" = none) (c_go_deed:Callee P w K mg base "go_deed" ["deed","path","book","walk"] (3*n+14) (HJ K bh (2*n+11) (Mn Pq n))):FnOk P w K mg base CX0 (3*(n+1)+12) f fd ["block","path","book","walk"] (IL K bh Pq (n+1)):=by
 refine F.ok sc_go_block (fun vs H Q E h=>?_) (fun lR A outer s H vs Q E hr h=>?_)
 ·obtain⟨bv,pv,ov,b,p,a,nn,o,G,st,rfl,_⟩:=h;rfl
 obtain⟨bv,pv,ov,b,p,a,nn,o,G,st,rfl,hv,lr,hp,ho,hw,hl,B,ly,q⟩:=h;obtain⟨pb,xs,rfl,lg,da⟩:=hv.tupI;have lm:xs.length=b.length:=by rw[da.length,MZ]
 refine⟨_,(A5 (C0 y0g rfl (Oz cZ b_enumerate (A3 (A2 0 rfl ck) pa_nil)) (EY (n:=2) rfl (BV (Ab (i:=4) sc_go_block.nd rfl cb) (BV (Ab (i:=5) sc_go_block.nd rfl cf) EX)))
 (A5 (AJ (AH BX (A2 2 rfl MN) AY (AF _)) (A7 (AA AY)) AI)
 (A7 (AK (i:=2) sc_go_block.nd rfl ce (AC c_go_deed hr (by lia) (A3 (A2 5 rfl cm) (A3 (AT Bf (A2 1 rfl cn) (AW (A3 (A2 4 rfl cg) pa_nil))) (A3 (A2 2 rfl MN) (A3 (A2 3 rfl cp) pa_nil)))) ca Xj) (AE rfl)))))
 (A7 (AA (A2 2 rfl MN)))),?_⟩
 walk_at "rx";refine⟨⟨_,SqT.of lg⟩,?_⟩;refine P0 (xs:=xs) (BI K bh H (.ref pb) pv a nn b p G (wkB bh G b p 0 o st)) ⟨.of (Same.refl _),ov,o,st,⟨_,_,rfl⟩,ho,hw,rfl,hl,B⟩ ?_ ?_ ?_
 ·rintro i lc H' _ ⟨sb,_⟩;exact SqT.of (sb.kp.t _ _ lg)
 ·rintro i x lc H' T hx ⟨sb,ov,o,O,⟨t1,t2,rfl⟩,ho,hw,z,hl,B⟩ hT;obtain⟨dd,J,_⟩:=Mo da hx;have s1:=AD hT (HO.tup [V.int i,x]);have e1:upd H' T (HO.tup [V.int i,x]) T=_:=A6;generalize upd H' T (HO.tup [V.int i,x])=U at s1 e1 |-;have Y:SB nn H U:=sb.trans (.of s1);obtain⟨lQ,M,dx⟩:=Mo (DtA.kp Y.kp da) hx;rw[J] at M;cases M;have lh:dd∈b:=yi J;have ls:i<b.length:=(List.getElem?_eq_some_iff.mp J).1;have lu:b.drop i=dd::b.drop (i+1):=by
   rw[List.drop_eq_getElem_cons ls];congr 1;have:=(List.getElem?_eq_some_iff.mp J).2;exact this
  rw[lu] at z hl B;rw[szB] at hl B;walk_at "rx";refine⟨_,SqT.of e1,rfl,_,_,rfl,_,_,rfl,rfl,?_⟩;match o,ho,z,B with
  |none,ho,z,_=>
   cases ho;walk_at "rx";rw[wkB] at z;rw[<- z] at q;exact q _ _ Y (hw.same s1) rfl
  |some bk,⟨d,e,lv⟩,z,B=>
   cases e;have B:=B bk rfl;walk_at "rx";rw[wkB] at z;refine⟨zl 1 (by decide),fun p2 lq=>?_⟩;have s2:=AD lq (HO.tup [.int i]);have e2:upd U p2 (HO.tup [.int i]) p2=_:=A6;generalize upd U p2 (HO.tup [.int i])=U2 at s2 e2 |-;refine HC (q:=[(i:Int)]) ((hp.kp Y.kp).kp s2.kp) e2 (by simp; lia) fun r3 H3 s3 lp=>?_;have Z:=s1.trans (s2.trans s3);have lj:SB nn H H3:=sb.trans (.of Z);have gl:=S6 (hd:=G) hg dd (p++[(i:Int)]) bk O;refine⟨x,r3,dd,p++[(i:Int)],d,a,nn,bk,G,O,rfl,dx.kp (s2.trans s3).kp,iG lr lh,lp,lv.same Z,hw.same Z,by lia,by lia,by simp; lia,fun r4 H4 s4 w4 ln=>?_⟩;have lP:=gl.1;refine⟨lj.trans s4,r4,_,_,⟨_,_,rfl⟩,ln,w4,?_,by lia,fun lx e=>by have:=gl.2 lx e; lia⟩;rw[<- z]; rfl
 ·rintro lc H' ⟨sb,ov,o,O,⟨t1,t2,rfl⟩,ho,hw,z,hl,B⟩;rw[lm,List.drop_length,wkB] at z;walk_at "rx";rw[<- z] at q;exact q _ _ sb hw ho
def tyD:Dm->String
 |.non=>"NoneType" | .bl _=>"bool" | .int _=>"int" | .str _=>"str" | .tup _=>"tuple" | .lst=>"list"
theorem KM(h:Dt H v d):TyOf K H v (.type (tyD d)):=by
 cases h with
 |non=>exact .non
 |bl b=>exact .bl b
 |int i=>exact .int i
 |str x=>exact .str x
 |tup e _=>exact .tup e
 |lst e=>exact .lst e
def isT:Dm->Bool
 |.tup _=>true
 |_=>false
def isI:Dm->Bool
 |.int _=>true
 |.bl _=>true
 |_=>false
def isB:Dm->Bool
 |.bl _=>true
 |_=>false
def isS:Dm->Bool
 |.str _=>true
 |_=>false
theorem Mp(h:Dt H v d):∃t,TyOf K H v t/\PySem.W.kitOne K t (.type "tuple")=some (isT d):=⟨_,KM h,by cases d<;>rfl⟩
theorem DO(h:Dt H v (.tup [a,b])):∃p x y,v=.ref p/\H p=some (.tup [x,y])/\Dt H x a/\Dt H y b:=by
 obtain⟨p,xs,rfl,e,r⟩:=h.tupI;rcases r with _|⟨z,_|⟨q,_|_⟩⟩;exact⟨p,_,_,rfl,e,z,q⟩
theorem EG(h:Dt H v (.tup [a,b,c])):∃p x y z,v=.ref p/\H p=some (.tup [x,y,z])/\Dt H x a/\Dt H y b/\Dt H z c:=by
 obtain⟨p,xs,rfl,e,r⟩:=h.tupI;rcases r with _|⟨F,_|⟨B,_|⟨q,_|_⟩⟩⟩;exact⟨p,_,_,_,rfl,e,F,B,q⟩
theorem Mq(h:Dt H v (.tup [a,b,c,d])):∃p x y z u,v=.ref p/\H p=some (.tup [x,y,z,u])/\Dt H x a/\Dt H y b/\Dt H z c/\Dt H u d:=by
 obtain⟨p,xs,rfl,e,r⟩:=h.tupI;rcases r with _|⟨G,_|⟨F,_|⟨B,_|⟨q,_|_⟩⟩⟩⟩;exact⟨p,_,_,_,_,rfl,e,G,F,B,q⟩
theorem iH(h:Dt H v d):∃t,TyOf K H v t/\PySem.W.kitOne K t (.type "int")=some (isI d):=⟨_,KM h,by cases d<;>rfl⟩
theorem SG(h:Dt H v d):∃t,TyOf K H v t/\PySem.W.kitOne K t (.type "bool")=some (isB d):=⟨_,KM h,by cases d<;>rfl⟩
def DP:Dm->Bool
 |.int _=>true
 |_=>false
def DQ(d:Dm)(lo hi:Int):Bool:=match d with
 |.int i=>decide (lo<=i)&&decide (i<=hi)
 |_=>false
def EH(d:Dm)(n:Int):Bool:=match d with
 |.tup ds=>decide ((ds.length:Int)=n)
 |_=>false
def Mr(g:Dm->Bool):Sp:=fun vs H Q _=>∃v d,vs=[v]/\Dt H v d/\∀H',Same H H'->Q (.bl (g d)) H'
theorem iI(F:Fun K "is_whole" "is_whole" F4 f fd) (b_isinstance:mg "isinstance" = none) (b_int:mg "int" = none) (b_bool:mg "bool" = none):FnOk P w K mg base CX0 1 f fd ["thing"] (Mr DP):=by
 refine F.ok YU (fun vs H Q E h=>?_) (fun B A outer s H vs Q E hr h=>?_)
 ·obtain⟨v,d,rfl,_⟩:=h;rfl
 obtain⟨v,d,rfl,hd,q⟩:=h;refine⟨_,(A7 (AA (DY (AZ G7 QF b_isinstance GS (A3 (A2 0 rfl QG) (A3 (Fh (v:=V.ty "int") YW b_int XH rfl YS Xq) pa_nil)) Ga GW) (Fj (Np (AZ G7 QF b_isinstance GS (A3 (A2 0 rfl QG) (A3 (Fh (v:=V.ty "bool") YV b_bool XG rfl YR Xe) pa_nil)) Ga GW)))))),?_⟩;walk_at "rd";refine⟨_,_,⟨rfl,rfl⟩,_,iH hd,?_⟩;have z:=q H (Same.refl _);cases d with
 |int i=>exact⟨_,_,⟨rfl,rfl⟩,_,SG hd,z⟩
 |bl b=>exact⟨_,_,⟨rfl,rfl⟩,_,SG hd,z⟩
 |non=>exact z
 |str x=>exact z
 |tup ds=>exact z
 |lst=>exact z
def Ms:Sp:=fun vs H Q _=>∃v d lo hi,vs=[v,.int lo,.int hi]/\Dt H v d/\∀H',Same H H'->Q (.bl (DQ d lo hi)) H'
theorem iJ(F:Fun K "is_whole_from" "is_whole_from" F5 f fd) (c_is_whole:Callee P w K mg base "is_whole" ["thing"] 1 (Mr DP)):FnOk P w K mg base CX0 2 f fd ["thing","low","high"] Ms:=by
 refine F.ok YX (fun vs H Q E h=>?_) (fun J A outer s H vs Q E hr h=>?_)
 ·obtain⟨v,d,lo,hi,rfl,_⟩:=h;rfl
 obtain⟨v,d,lo,hi,rfl,hd,q⟩:=h;refine⟨_,(A7 (AA (DY (AC c_is_whole hr (by lia) (A3 (A2 0 rfl Lu) pa_nil) YY Q5) (DY (Dc Ie (A2 1 rfl Ya) (A2 0 rfl Lu) (AF _)) (Fj (Dc Ie (A2 0 rfl Lu) (A2 2 rfl YZ) (AF _))))))),?_⟩;walk_at "rd";refine⟨v,d,rfl,hd,fun H1 G=>?_⟩;have z:=q H1 G;cases hd with
 |int i=>
  walk_at "rd";simp only[DP,if_true];replace z:Q (.bl (decide (lo<=i)&&decide (i<=hi))) H1:=z;split
  ·rename_i B;rw[decide_eq_true B,y0s] at z;exact z
  ·rename_i B;rw[decide_eq_false B,y0o] at z;exact z
 |_=>exact⟨_,rfl,z⟩
def KN:Sp:=fun vs H Q _=>∃v d n,vs=[v,.int n]/\Dt H v d/\∀H',Same H H'->Q (.bl (EH d n)) H'
theorem iK(F:Fun K "is_tuple_of" "is_tuple_of" Dx f fd) (b_isinstance:mg "isinstance" = none) (b_len:mg "len" = none) (b_tuple:mg "tuple" = none):FnOk P w K mg base CX0 1 f fd ["thing","many"] KN:=by
 refine F.ok Yb (fun vs H Q E h=>?_) (fun B A outer s H vs Q E hr h=>?_)
 ·obtain⟨v,d,n,rfl,_⟩:=h;rfl
 obtain⟨v,d,n,rfl,hd,q⟩:=h;refine⟨_,(A7 (AA (DY (AZ G7 Yc b_isinstance GS (A3 (A2 0 rfl QH) (A3 (Fh (v:=V.ty "tuple") Ye b_tuple GU rfl Gc GY) pa_nil)) Ga GW) (Fj (Dc G6 (AZ Io Yd b_len JG (A3 (A2 0 rfl QH) pa_nil) JW JP) (A2 1 rfl Yf) (AF _)))))),?_⟩;walk_at "rd";refine⟨_,_,⟨rfl,rfl⟩,_,Mp hd,?_⟩;have z:=q H (Same.refl _);cases hd with
 |tup e r=>
  refine⟨_,gP (SqT.of e),?_⟩;rw[r.length];exact z
 |_=>exact z
mutual
def Co:Dm->Prop
 |.str z=>z.length<=1000
 |.tup ds=>smallA ds/\ds.length<=1000
 |_=>True
def smallA:List Dm->Prop
 |[]=>True
 |d::r=>Co d/\smallA r
end
theorem smallA.get:∀{ds:List Dm} {i:Nat} {d:Dm},smallA ds->ds[i]?=some d->Co d
 |[],_,_,_,e=>by simp at e
 |x::r,0,d,h,e=>by
  simp at e; subst e;rw[smallA] at h;exact h.1
 |x::r,i+1,d,h,e=>by
  rw[smallA] at h;exact smallA.get h.2 (by simpa using e)
theorem iL{H:Hp}{v:V}{d:Dm}(h:Dt H v d):∃t,TyOf K H v t/\PySem.W.kitOne K t (.type "str")=some (isS d):=⟨_,KM h,by cases d<;>rfl⟩
def DR:List Dm->List Int
 |.int i::r=>i::DR r
 |_=>[]
theorem KO:∀p:List Int,DR (p.map Dm.int)=p
 |[]=>rfl
 |i::p=>by rw[yc,DR,KO p]
def ltR:Dm->Dm->Bool
 |.tup (.str x::_),.tup (.str y::_)=>decide (x.cps.toList<y.cps.toList)
 |.tup (.tup p::_),.tup (.tup q::_)=>HT.BM (DR p) (DR q)
 |_,_=>false
def Cp(ds:List Dm):List Bool:=List.zipWith ltR ds ds.tail
def CW(R:Dm->Bool)(d:Dm):Bool:=match d with
 |.tup q=>q.all R&&(Cp q).all id
 |_=>false
inductive CmpD:Dm->Dm->Prop
 |txt {x y:Str} {r s:List Dm}:CmpD (.tup (.str x::r)) (.tup (.str y::s))
 |pth {p q:List Int} {r s:List Dm}:CmpD (.tup (pathD p::r)) (.tup (pathD q::s))
def EI(R:Dm->Bool):Sp:=fun vs H Q _=>∃v d,vs=[v]/\Dt H v d/\Co d/\∀H',Same H H'->Q (.bl (R d)) H'
def iM(H:Hp)(R:Dm->Bool)(z:Addr)(ds:List Dm)(i:Nat)(ys:List V)(q:St)(H':Hp):Prop:=Same H H'/\(∃t,q=[t,some (.ref z)])/\ys=((ds.take i).map R).map V.bl
def iN(H:Hp)(ds:List Dm)(i:Nat)(ys:List V)(q:St)(H':Hp):Prop:=Same H H'/\(∃t u,q=[t,u])/\ys=((Cp ds).take i).map V.bl
def Mt(P:yl)(w:y07)(K:y3)(mg:Str->Option ya)(base:Heap)(kk:Nat)(R:Dm->Bool):Sp:=fun vs H Q _=>∃v d q,vs=[v,.ref q]/\Dt H v d/\Co d/\GL P w K mg base kk q (EI R)/\(∀a b,R a=true->R b=true->CmpD a b)/\∀H',Same H H'->Q (.bl (CW R d)) H'
theorem SH{H:Hp}:∀{xs:List V} {p:List Int},DtA H xs (p.map Dm.int)->xs=p.map V.int
 |_,[],h=>by cases h; rfl
 |_,i::p,h=>by
  cases h with
  |cons d r=>cases d; rw[SH r]; rfl
theorem Mu{H:Hp}{v:V}{p:List Int}(d:Dt H v (pathD p)):∃a,v=.ref a/\H a=some (.tup (p.map V.int)):=by
 obtain⟨a,xs,rfl,ha,q⟩:=d.tupI;rw[SH q] at ha;exact⟨a,rfl,ha⟩
theorem iO{H:Hp}{x y:V}{a b:Dm}(c:CmpD a b)(dx:Dt H x a)(M:Dt H y b):∃p q xs ys v u,x=.ref p/\y=.ref q/\H p=some (.tup (v::xs))/\H q=some (.tup (u::ys))/\∀Q:VK,Q (.bl (ltR a b)) H->JE K v u H Q:=by
 cases c with
 |txt=>
  obtain⟨p,xs,rfl,F,J⟩:=dx.tupI;obtain⟨q,ys,rfl,hq,G⟩:=M.tupI;cases J with
  |cons d1 _=>
   cases G with
   |cons d2 _=>
    cases d1; cases d2;exact⟨p,q,_,_,_,_,rfl,rfl,F,hq,fun Q h=>.inl ⟨_,_,rfl,rfl,h⟩⟩
 |@pth B z r s=>
  obtain⟨p,xs,rfl,F,J⟩:=dx.tupI;obtain⟨q,ys,rfl,hq,G⟩:=M.tupI;cases J with
  |cons d1 _=>
   cases G with
   |cons d2 _=>
    obtain⟨Y,h1⟩:=Mu d1;obtain⟨O,h2⟩:=Mu d2;exact⟨p,q,_,_,_,_,rfl,rfl,F,hq,fun Q h=>.inr ⟨_,_,B,z,h1.1,h2.1,SqT.of h1.2,SqT.of h2.2,by
     have:ltR (.tup (pathD B::r)) (.tup (pathD z::s))=HT.BM B z:=by
      show HT.BM (DR (B.map Dm.int)) (DR (z.map Dm.int))=_
      rw[KO,KO]
     rw[<- this]; exact h⟩⟩
theorem SI{kk:Nat}{R:Dm->Bool} (F:Fun K "are_rising_rows" "are_rising_rows" Dy f fd) (b_isinstance:mg "isinstance" = none) (b_tuple:mg "tuple" = none) (b_all:mg "all" = none) (b_zip:mg "zip" = none):FnOk P w K mg base CX0 (kk+1) f fd ["thing","is_row"] (Mt P w K mg base kk R):=by
 refine F.ok Yk (fun vs H Q E h=>?_) (fun ly A outer s H vs Q E hr h=>?_)
 ·obtain⟨v,d,fi,rfl,_⟩:=h;rfl
 obtain⟨v,d,fi,rfl,hd,hz,hH,hc,q⟩:=h;refine⟨_,(A5 (AJ (PW.pt (Cu (Cc (Be (AZ G7 Yl b_isinstance GS (A3 (A2 0 rfl JX) (A3 (Fh (v:=V.ty "tuple") Ym b_tuple GU rfl Gc GY) pa_nil)) Ga GW))) (Ct (Cc (Be (AZ (Hi rfl) QJ b_all Hu (A3 (C2 ["row","is_row"] [none,some 1] rfl (CompS.of (by rfl)) (Db (A2 0 rfl JX)) (fun _ _ _ _ _=>(Ab (i:=0) (show List.Nodup (["row","is_row"]:List Str) from by decide+kernel) rfl (Or.inl rfl))) (fun _ _ _ _ _=>C1) (fun _ _ _ _ _=>(WE (P:=P) (w:=w) (K:=K) (mg:=mg) (base:=base) (i:=1) (k:=kk) rfl rfl rfl rfl rfl rfl (by walk_at "vc") hr (by lia) (A3 (AQ (i:=0) rfl (by walk_at "vc") YH XR) pa_nil) Xu XN))) pa_nil) Hx Hv)))))) (A7 (AA BA)) AI)
 (A7 (AA (AZ (Hi rfl) QJ b_all Hu (A3 (C2 ["one","other"] [none,none] rfl (CompS.of (by rfl)) (On Yn b_zip (A3 (A2 0 rfl JX) (A3 (OO Oo (A2 0 rfl JX) (ON A4) OM) pa_nil))) (fun _ _ _ _ _=>(Vi (n:=2) (K:=K) rfl rfl (BV (Ab (i:=0) (show List.Nodup (["one","other"]:List Str) from by decide+kernel) rfl (Or.inl rfl)) (BV (Ab (i:=1) (show List.Nodup (["one","other"]:List Str) from by decide+kernel) rfl (Or.inl rfl)) EX)))) (fun _ _ _ _ _=>C1) (fun _ _ _ _ _=>(Dc (opK (r:=JE) (K:=K) (X6 hr.units0) rfl) (A8 (ixK (r:=B0) (K:=K) A9 rfl) (AQ (i:=0) rfl (by walk_at "vc") Q8 Pp) A4 (fun _ _=>rfl)) (A8 (ixK (r:=B0) (K:=K) A9 rfl) (AQ (i:=1) rfl (by walk_at "vc") JR JK) A4 (fun _ _=>rfl)) (AF _)))) pa_nil) Hx Hv)))),AN fun N1 e1=>?_⟩
 walk_at "rx";refine⟨_,_,⟨rfl,rfl⟩,_,Mp hd,?_⟩;cases hd with
 |@tup pa xs ds e r=>
  simp only[isT,y1j,if_false];have lc:=hz;rw[Co] at lc;obtain⟨lu,lx⟩:=lc;have lg:xs.length=ds.length:=r.length;refine⟨_,rfl,⟨_,SqT.of e⟩,?_⟩;refine Ik (K:=K) (a:=pa) (xs:=xs) (iM H R fi ds) ⟨Same.refl _,⟨none,rfl⟩,rfl⟩ (An (by lia)) ?_ ?_ ?_ ?_
  ·rintro i ys B H' ⟨_,_,rfl⟩;rw[y4,y4,y04];lia
  ·rintro i ys B H' _ ⟨J,_,_⟩;exact SqT.of (J _ _ e)
  ·rintro i ys v B H' lp ⟨J,⟨t,rfl⟩,rfl⟩;obtain⟨d,G,dd⟩:=r.get lp;walk_at "rx";refine⟨EI R,hH,v,d,rfl,dd.kp J.kp,lu.get G,fun H2 M=>⟨J.trans M,⟨_,rfl⟩,?_⟩⟩;rw[y0q,G,y02,y02];rfl
  rintro ys B H1 ⟨J,_,rfl⟩ pl lq;rw[lg,y0h];have Y:=J.trans (AD lq (HO.lst ((ds.map R).map V.bl)));have e2:upd H1 pl (HO.lst ((ds.map R).map V.bl)) pl=_:=A6;generalize upd H1 pl (HO.lst ((ds.map R).map V.bl))=U1 at Y e2 |-;refine⟨_,rfl,ds.map R,SqL.of e2,?_⟩;have lj:(ds.map R).all id=ds.all R:=by rw[y3d]; rfl
  have q0:∀H',Same H H'->Q (.bl (ds.all R&&(Cp ds).all id)) H':=q;rw[lj];cases ha:ds.all R with
  |false=>
   rw[if_pos rfl];rw[ha,y0o] at q0;exact q0 _ Y
  |true=>
   rw[if_neg (by decide)];rw[ha,y0s] at q0;have all:∀r∈ds,R r=true:=List.all_eq_true.mp ha;show N1 _ _;rw[e1];walk_at "rx";have zc:∀(H1:Hp) (b:Addr),Same H H1->H1 b=some (.tup xs.tail)->BN (D5 K pa b) (Cw K 2 (Cv (B6 0) (Cv (B6 1) DZ))) Cz (tOp (JE K) (tOp (B0 K) (Az 0) (tC (V.int 0))) (tOp (B0 K) (Az 1) (tC (V.int 0)))) (fun x H1=>∃p,x=V.ref p/\∃x,SqL K H1 p (List.map V.bl x)/\Q (V.bl (x.all id)) H1) (subσ [none,none] [some (V.ref pa),some (V.ref fi)]) H1:=by
    intro H1 b J eb;have lm:(Cp ds).length=xs.tail.length:=by
     unfold Cp;rw[List.length_zipWith,List.length_tail,List.length_tail,lg];lia
    refine WD (xs:=xs) (ys:=xs.tail) (by simp) (iN H1 ds) ⟨Same.refl _,⟨none,none,rfl⟩,rfl⟩ (An (by rw[List.length_tail]; lia)) ?_ ?_ ?_ ?_
    ·rintro i ys B H' ⟨_,_,rfl⟩;rw[y4,y04];lia
    ·rintro i ys B H' _ ⟨M,_,_⟩;exact⟨SqT.of (M _ _ (J _ _ e)),SqT.of (M _ _ eb)⟩
    ·rintro i zs x y B H' T hx hy ⟨M,⟨t,u,rfl⟩,rfl⟩ hT;have ln:xs[i+1]?=some y:=by rw[List.getElem?_tail] at hy; exact hy
     obtain⟨d,G,dd⟩:=r.get hx;obtain⟨d2,lh,lv⟩:=r.get ln;have Z:=J.trans (M.trans (AD hT (HO.tup [x,y])));obtain⟨p,p',O,yr,v0,w0,rfl,rfl,hp,lr,ls⟩:=iO (K:=K) (hc d d2 (all d (yi G)) (all d2 (yi lh))) (dd.kp Z.kp) (lv.kp Z.kp);walk_at "rx";refine⟨_,SqT.of A6,rfl,_,_,rfl,_,_,rfl,rfl,?_⟩;walk_at "rx";refine⟨_,SqT.of hp,_,Ai (j:=0) rfl,_,SqT.of lr,_,Ai (j:=0) rfl,ls _ ⟨M.trans (AD hT _),⟨_,_,rfl⟩,?_⟩⟩;have ez:(Cp ds)[i]?=some (ltR d d2):=by
      unfold Cp;rw[List.getElem?_zipWith,G,List.getElem?_tail,lh];all_goals rfl
     rw[y0q,ez,y02];rfl
    ·rintro zs B H' ⟨M,_,rfl⟩ p hp;rw[<- lm,y0h];exact⟨_,rfl,Cp ds,SqL.of A6,q0 _ (J.trans (M.trans (AD hp _)))⟩
   have e3:=Y _ _ e;refine⟨xs,SqT.of e3,?_⟩;cases xs with
   |nil=>exact .inl ⟨⟨rfl,rfl⟩,_,_,⟨rfl,rfl⟩,⟨_,SqT.of e3⟩,⟨_,SqT.of e3⟩,zc _ _ Y e3⟩
   |cons x0 O=>
    refine .inr ⟨fun z=>?_,fun p hp=>?_⟩
    ·have:=z.1;rw[show(some (1:Int))=some ((1:Nat):Int) from rfl,HT.OH,yh] at this;lia
    ·have ec:CL (x0::O) (some 1) none=O:=by
      unfold CL;rw[show(some (1:Int))=some ((1:Nat):Int) from rfl,HT.OH,HT.V3,yh,show min 1 (O.length+1)=1 by lia];all_goals simp
     rw[ec];have Z:=Y.trans (AD hp (HO.tup O));exact⟨_,_,⟨rfl,rfl⟩,⟨_,SqT.of (Z _ _ e)⟩,⟨_,SqT.of A6⟩,zc _ _ Z A6⟩
 |_=>exact q H (Same.refl _)
theorem Cq{c:TT}{a b:TS}{D:Ends}{σ:St}{H:Hp}(h:∀Y Z:St->Hp->Prop,Y=a D->Z=b D->B2 c (fun _=>Y) (fun _=>Z) D σ H):B2 c a b D σ H:=h _ _ rfl rfl
def Mv(a b:Dm):Bool:=match a with
 |.int l=>DQ b l 32767
 |_=>false
def Bo:Dm->Bool
 |.tup [.str _,a,b]=>DQ a (-32768) 32767&&Mv a b
 |_=>false
theorem Mw{d:Dm}{lo hi:Int}(h:DQ d lo hi=true):∃i,d=.int i/\lo<=i/\i<=hi:=by
 match d,h with
 |.int i,h=>
  have h:(decide (lo<=i)&&decide (i<=hi))=true:=h;rw[yk] at h;exact⟨i,rfl,of_decide_eq_true h.1,of_decide_eq_true h.2⟩
theorem iP{H:Hp}{xs:List V}{ds:List Dm}(h:DtA H xs ds)(l:((ds.length:Nat):Int)=3):∃x y z a b c,xs=[x,y,z]/\ds=[a,b,c]/\Dt H x a/\Dt H y b/\Dt H z c:=by
 have l:ds.length=3:=by lia
 rcases h with _|⟨h1,_|⟨h2,_|⟨q,_|⟨_,_⟩⟩⟩⟩
 ·cases l
 ·cases l
 ·cases l
 ·exact⟨_,_,_,_,_,_,rfl,rfl,h1,h2,q⟩
 ·cases l
theorem iQ{H:Hp}{xs:List V}{ds:List Dm}(h:DtA H xs ds)(l:((ds.length:Nat):Int)=2):∃x y a b,xs=[x,y]/\ds=[a,b]/\Dt H x a/\Dt H y b:=by
 have l:ds.length=2:=by lia
 rcases h with _|⟨h1,_|⟨h2,_|⟨_,_⟩⟩⟩
 ·cases l
 ·cases l
 ·exact⟨_,_,_,_,rfl,rfl,h1,h2⟩
 ·cases l
theorem iS{d:Dm}(h:EH d 3=false):Bo d=false:=by
 cases d with
 |tup ds=>
  match ds,h with
  |[],_=>rfl
  |[a],_=>cases a<;>rfl
  |[a,_],_=>cases a<;>rfl
  |[_,_,_],h=>exact absurd h (by simp[EH])
  |a::_::_::_::_,_=>cases a<;>rfl
 |_=>rfl
theorem iT{rw:Addr} (F:Fun K "is_shelf_row" "is_shelf_row" DK f fd) (b_isinstance:mg "isinstance" = none) (b_str:mg "str" = none) (g_WIDE:GC mg "WIDE" (.ref rw)) (hW:∀H,SqT K H rw [.int (-32768),.int 32767]) (c_is_tuple_of:Callee P w K mg base "is_tuple_of" ["thing","many"] 1 KN) (c_is_whole_from:Callee P w K mg base "is_whole_from" ["thing","low","high"] 2 Ms):FnOk P w K mg base CX0 3 f fd ["thing"] (EI Bo):=by
 refine F.ok bf (fun vs H Q E h=>?_) (fun lc A outer s H vs Q E hr h=>?_)
 ·obtain⟨v,d,rfl,_⟩:=h;rfl
 obtain⟨v,d,rfl,hd,hz,q⟩:=h;refine⟨_,(A5 (AJ (PW.pt (Cu (Cc (Be (AC c_is_tuple_of hr (by lia) (A3 (A2 0 rfl IB) (A3 A4 pa_nil)) bg Lk))) (Ct (Cc (Be (AZ G7 bi b_isinstance GS (A3 (A8 A9 (A2 0 rfl IB) A4 (fun _ _=>rfl)) (A3 (Fh (v:=V.ty "str") bj b_str XI rfl YT YM) pa_nil)) Ga GW)))))) (A7 (AA BA)) AI)
 (A7 (AA (DY (AC c_is_whole_from hr (by lia) (A3 (A8 A9 (A2 0 rfl IB) A4 (fun _ _=>rfl)) (A3 (A8 A9 (Bg g_WIDE MM DC) A4 (fun _ _=>rfl)) (A3 (A8 A9 (Bg g_WIDE MM DC) A4 (fun _ _=>rfl)) pa_nil))) Qx Ll) (Fj (AC c_is_whole_from hr (by lia) (A3 (A8 A9 (A2 0 rfl IB) A4 (fun _ _=>rfl)) (A3 (A8 A9 (A2 0 rfl IB) A4 (fun _ _=>rfl)) (A3 (A8 A9 (Bg g_WIDE MM DC) A4 (fun _ _=>rfl)) pa_nil))) Qx Ll)))))),AN fun N1 e1=>Cq fun Y Z eY eZ=>?_⟩
 walk_at "rx";refine⟨v,d,3,rfl,hd,fun H1 B=>?_⟩;walk_at "rx";have J:Bo d=false->∀H',Same H H'->Y [some v] H':=fun z H' s'=>by
  rw[eY];walk_at "rx";rw[z] at q;exact q _ s'
 cases M:EH d 3 with
 |false=>rw[if_pos rfl]; exact J (iS M) _ B
 |true=>
  rw[if_neg (by decide)];match d,M,hd with
  |.tup ds,M,hd=>
   have M:((ds.length:Nat):Int)=3:=of_decide_eq_true M;obtain⟨pa,xs,rfl,O,da⟩:=hd.tupI;obtain⟨x,y,z,a,b,c,rfl,rfl,d1,d2,d3⟩:=iP da M;refine⟨pa,rfl,_,SqT.of (B _ _ O),_,Ai (j:=0) rfl,_,_,⟨rfl,rfl⟩,_,iL (d1.kp B.kp),?_⟩;match a,d1 with
   |.str n,_=>
    rw[if_neg (show ¬ isS (.str n)=false from fun z=>nomatch z)];rw[eZ];show N1 _ _;rw[e1];walk_at "rx";refine⟨_,SqT.of (B _ _ O),_,Ai (j:=1) rfl,_,hW _,_,Ai (j:=0) rfl,_,hW _,_,Ai (j:=1) rfl,y,b,_,_,rfl,d2.kp B.kp,fun H2 s2=>⟨_,rfl,?_⟩⟩;have q:∀H',Same H H'->Q (.bl (DQ b (-32768) 32767&&Mv b c)) H':=q;cases hb:DQ b (-32768) 32767 with
    |false=>
     rw[if_neg (by decide)];rw[hb,y0o] at q;exact q _ (B.trans s2)
    |true=>
     rw[if_pos rfl];obtain⟨i,rfl,_,_⟩:=Mw hb;rw[hb,y0s] at q;cases d2;have G:=B.trans s2;exact⟨_,SqT.of (G _ _ O),_,Ai (j:=2) rfl,_,SqT.of (G _ _ O),_,Ai (j:=1) rfl,_,hW _,_,Ai (j:=1) rfl,z,c,_,_,rfl,d3.kp G.kp,fun H3 s3=>q _ (G.trans s3)⟩
   |.non,_=>exact J rfl _ B
   |.bl _,_=>exact J rfl _ B
   |.int _,_=>exact J rfl _ B
   |.tup _,_=>exact J rfl _ B
   |.lst,_=>exact J rfl _ B
def EJ:Dm->Bool
 |.tup ds=>ds.all DP
 |_=>false
def iU(H:Hp)(ds:List Dm)(i:Nat)(ys:List V)(q:St)(H':Hp):Prop:=Same H H'/\(∃t,q=[t])/\ys=((ds.take i).map DP).map V.bl
theorem iV(F:Fun K "is_path" "is_path" F6 f fd) (b_isinstance:mg "isinstance" = none) (b_tuple:mg "tuple" = none) (b_all:mg "all" = none) (c_is_whole:Callee P w K mg base "is_whole" ["thing"] 1 (Mr DP)):FnOk P w K mg base CX0 2 f fd ["thing"] (EI EJ):=by
 refine F.ok Yg (fun vs H Q E h=>?_) (fun lc A outer s H vs Q E hr h=>?_)
 ·obtain⟨v,d,rfl,_⟩:=h;rfl
 obtain⟨v,d,rfl,hd,hz,q⟩:=h;refine⟨_,(A7 (AA (DY (AZ G7 Yi b_isinstance GS (A3 (A2 0 rfl QI) (A3 (Fh (v:=V.ty "tuple") Yj b_tuple GU rfl Gc GY) pa_nil)) Ga GW) (Fj (AZ (Hi rfl) Yh b_all Hu (A3 (C2 ["number"] [none] rfl (CompS.of (by rfl)) (Db (A2 0 rfl QI)) (fun _ _ _ _ _=>(Ab (i:=0) (show List.Nodup (["number"]:List Str) from by decide+kernel) rfl (Or.inl rfl))) (fun _ _ _ _ _=>C1) (fun _ _ _ _ _=>(AC c_is_whole hr (by lia) (A3 (AQ (i:=0) rfl (by walk_at "vc") YE XQ) pa_nil) rfl Q5))) pa_nil) Hx Hv))))),?_⟩;walk_at "rx";refine⟨_,_,⟨rfl,rfl⟩,_,Mp hd,?_⟩;cases hd with
 |@tup Z xs ds e r=>
  rw[if_pos (show isT (.tup ds)=true from rfl)];rw[Co] at hz;have G:xs.length=ds.length:=r.length;refine⟨_,rfl,⟨_,SqT.of e⟩,?_⟩;refine Ik (K:=K) (a:=Z) (xs:=xs) (iU H ds) ⟨Same.refl _,⟨none,rfl⟩,rfl⟩ (An (by lia)) ?_ ?_ ?_ ?_
  ·rintro i ys z H' ⟨_,_,rfl⟩;rw[y4,y4,y04];lia
  ·rintro i ys z H' _ ⟨B,_,_⟩;exact SqT.of (B _ _ e)
  ·rintro i ys v z H' J ⟨B,⟨t,rfl⟩,rfl⟩;obtain⟨d,O,dd⟩:=r.get J;walk_at "rx";refine⟨v,d,rfl,dd.kp B.kp,fun H2 Y=>⟨B.trans Y,⟨_,rfl⟩,?_⟩⟩;rw[y0q,O,y02,y02];rfl
  ·rintro ys z H1 ⟨B,_,rfl⟩ pl M;rw[G,y0h];refine⟨_,rfl,ds.map DP,SqL.of A6,?_⟩;rw[show(ds.map DP).all id=EJ (.tup ds) by rw[y3d]; rfl];exact q _ (B.trans (AD M _))
 |_=>exact q H (Same.refl _)
def Bd:Dm->Bool
 |.tup [a,b]=>EJ a&&CW Bo b
 |_=>false
theorem iW{d:Dm}(h:EH d 2=false):Bd d=false:=by
 cases d with
 |tup ds=>
  match ds,h with
  |[],_=>rfl
  |[_],_=>rfl
  |[_,_],h=>exact absurd h (by simp[EH])
  |_::_::_::_,_=>rfl
 |_=>rfl
theorem iZ(a b:Dm)(ha:Bo a=true)(hb:Bo b=true):CmpD a b:=by
 have key:∀d,Bo d=true->∃x r,d=.tup (.str x::r):=by
  intro d h;match d,h with
  |.tup [.str x,y,z],_=>exact⟨x,_,rfl⟩
 obtain⟨x,r,rfl⟩:=key a ha;obtain⟨y,s,rfl⟩:=key b hb;exact .txt
theorem SJ:∀{ds:List Dm},ds.all DP=true->∃p:List Int,ds=p.map Dm.int
 |[],_=>⟨[],rfl⟩
 |.int i::r,h=>by
  rw[List.all_cons,yk] at h;obtain⟨p,e⟩:=SJ h.2;exact⟨i::p,by rw[e]; rfl⟩
theorem ic{d:Dm}(h:EJ d=true):∃p,d=pathD p:=by
 match d,h with
 |.tup ds,h=>
  obtain⟨p,e⟩:=SJ h;exact⟨p,by rw[e]; rfl⟩
theorem Mx{d:Dm}(h:Bd d=true):∃p b,d=.tup [pathD p,b]/\CW Bo b=true:=by
 match d,h with
 |.tup [a,b],h=>
  have h:(EJ a&&CW Bo b)=true:=h;rw[yk] at h;obtain⟨p,e⟩:=ic h.1;exact⟨p,b,by rw[e],h.2⟩
theorem ie(a b:Dm)(ha:Bd a=true)(hb:Bd b=true):CmpD a b:=by
 obtain⟨p,r,rfl,_⟩:=Mx ha;obtain⟨q,s,rfl,_⟩:=Mx hb;exact .pth
theorem ig{J:Addr} (F:Fun K "is_paper_row" "is_paper_row" E8 f fd) (g_is_shelf_row:GC mg "is_shelf_row" (.ref J)) (hH:GL P w K mg base 3 J (EI Bo)) (c_is_tuple_of:Callee P w K mg base "is_tuple_of" ["thing","many"] 1 KN) (c_is_path:Callee P w K mg base "is_path" ["thing"] 2 (EI EJ))
  (c_are_rising_rows:Callee P w K mg base "are_rising_rows" ["thing","is_row"] 4 (Mt P w K mg base 3 Bo)):FnOk P w K mg base CX0 5 f fd ["thing"] (EI Bd):=by
 refine F.ok bY (fun vs H Q E h=>?_) (fun lc A outer s H vs Q E hr h=>?_)
 ·obtain⟨v,d,rfl,_⟩:=h;rfl
 obtain⟨v,d,rfl,hd,B,q⟩:=h;refine⟨_,(A7 (AA (DY (AC c_is_tuple_of hr (by lia) (A3 (A2 0 rfl ML) (A3 A4 pa_nil)) be Lk) (DY (AC c_is_path hr (by lia) (A3 (A8 A9 (A2 0 rfl ML) A4 (fun _ _=>rfl)) pa_nil) ba Xt) (Fj (AC c_are_rising_rows hr (by lia) (A3 (A8 A9 (A2 0 rfl ML) A4 (fun _ _=>rfl)) (A3 (Bg g_is_shelf_row bc Xv) pa_nil)) bZ Px)))))),?_⟩;walk_at "rx";refine⟨v,d,2,rfl,hd,fun H1 G=>⟨_,rfl,?_⟩⟩;cases h2:EH d 2 with
 |false=>
  rw[if_neg (by decide)];rw[iW h2] at q;exact q _ G
 |true=>
  rw[if_pos rfl];match d,h2,hd,B with
  |.tup ds,h2,hd,B=>
   have h2:((ds.length:Nat):Int)=2:=of_decide_eq_true h2;obtain⟨M,xs,rfl,O,da⟩:=hd.tupI;obtain⟨x,y,a,b,rfl,rfl,d1,d2⟩:=iQ da h2;rw[Co,smallA,smallA] at B;have q:∀H',Same H H'->Q (.bl (EJ a&&CW Bo b)) H':=q;refine⟨M,rfl,_,SqT.of (G _ _ O),_,Ai (j:=0) rfl,x,a,rfl,d1.kp G.kp,B.1.1,fun H2 Z=>⟨_,rfl,?_⟩⟩;have z:=G.trans Z;cases ha:EJ a with
   |false=>
    rw[if_neg (by decide)];rw[ha,y0o] at q;exact q _ z
   |true=>
    rw[if_pos rfl];rw[ha,y0s] at q;exact⟨M,rfl,_,SqT.of (z _ _ O),_,Ai (j:=1) rfl,y,b,J,rfl,d2.kp z.kp,B.1.2.1,hH,iZ,fun H3 Y=>q _ (z.trans Y)⟩
theorem CY{z:Type}{f:z->Dm}{H:Hp}{xs:List V}{b:List z}{i:Nat}{x:V}(h:DtA H xs (b.map f))(hx:xs[i]?=some x):∃d,b[i]?=some d/\Dt H x (f d):=by
 obtain⟨e,q,B⟩:=h.get hx;rw[ym] at q;cases hb:b[i]? with
 |none=>rw[hb] at q; cases q
 |some d=>
  rw[hb] at q;have:f d=e:=by simpa using q
  subst this;exact⟨d,rfl,B⟩
theorem HK{q:Type}{l:List q}{i:Nat}{x:q}(h:l[i]?=some x):l.take (i+1)=l.take i++[x]:=by
 rw[y0q,h]; rfl
abbrev Rw:=Str×Int×Int
def CZ(r:Rw):Dm:=.tup [.str r.1,.int r.2.1,.int r.2.2]
def Ca(q:List Rw):Bk:=q.foldl (fun b r=>Ao b r.1 r.2) []
def My:Sp:=fun vs H Q _=>∃(v:V) (q:List Rw),vs=[v]/\Dt H v (.tup (q.map CZ))/\q.length<=900/\∀(d:Addr) (H':Hp),Same H H'->IsBk H' d (Ca q)->Q (.ref d) H'
theorem Mz:∀(q:List Rw) (b:Bk),(q.foldl (fun b r=>Ao b r.1 r.2) b).length<=b.length+q.length
 |[],b=>yb _
 |r::z,b=>by
  have h1:=HB b r.1 r.2;have h2:=Mz z (Ao b r.1 r.2);rw[y1d,yh];lia
def OI(H:Hp)(v:V)(B:Addr)(q:List Rw)(i:Nat)(z:St)(H':Hp):Prop:=
 Same H H'/\(∃J G F,z=[some v,some (.ref B),J,G,F])/\∃kv,H' B=some (.dK kv)/\BkR H' kv (Ca (q.take i))
theorem ii(F:Fun K "book_of" "book_of" CC f fd):FnOk P w K mg base CX0 1 f fd ["shelf"] My:=by
 refine F.ok sc_book_of (fun vs H Q E h=>?_) (fun ls A outer s H vs Q E hr h=>?_)
 ·obtain⟨v,z,rfl,_⟩:=h;rfl
 obtain⟨v,z,rfl,hv,hl,q⟩:=h;obtain⟨pv,xs,rfl,lc,da⟩:=hv.tupI;have lj:xs.length=z.length:=by rw[da.length,y4]
 refine⟨_,(A5 (AK (i:=1) sc_book_of.nd rfl c8 Ey (AE rfl))
 (A5 (C0 y0g rfl (Db (A2 0 rfl cF)) (EY (n:=3) rfl (BV (Ab (i:=2) sc_book_of.nd rfl cB) (BV (Ab (i:=3) sc_book_of.nd rfl cA) (BV (Ab (i:=4) sc_book_of.nd rfl c9) EX))))
 (A7 (C3 hr.units1 (A2 1 rfl Qz) (A2 2 rfl cE) (AW (A3 (A2 3 rfl cD) (A3 (A2 4 rfl cC) pa_nil))) (AE rfl))))
 (A7 (AA (A2 1 rfl Qz))))),?_⟩
 walk_at "rx";intro M lh;have s1:=AD lh (HO.dK []);have eb:upd H M (HO.dK []) M=_:=A6;generalize upd H M (HO.dK [])=U at s1 eb |-;refine⟨⟨_,SqT.of (s1 _ _ lc)⟩,?_⟩;refine Kw (K:=K) (a:=pv) (xs:=xs) (OI H (.ref pv) M z) ⟨s1,⟨_,_,_,rfl⟩,[],eb,.nil⟩ ?_ ?_ ?_
 ·rintro i O H' _ ⟨J,_⟩;exact SqT.of (J _ _ lc)
 ·rintro i x O H' hx ⟨J,⟨t1,t2,t3,rfl⟩,kv,G,B⟩;obtain⟨r,Z,dr⟩:=CY da hx;obtain⟨ra,ys,rfl,lm,lq⟩:=dr.tupI;rcases lq with _|⟨u1,_|⟨u2,_|⟨u3,_|_⟩⟩⟩;cases u1; cases u2; cases u3;have lr:i<z.length:=(List.getElem?_eq_some_iff.mp Z).1;walk_at "rx";refine⟨_,SqT.of (J _ _ lm),rfl,_,_,rfl,_,_,rfl,_,_,rfl,rfl,zl 2 (by decide),fun p3 ln=>?_⟩;have Y:=AD ln (HO.tup [V.int r.2.1,V.int r.2.2]);have e3:upd H' p3 (HO.tup [V.int r.2.1,V.int r.2.2]) p3=_:=A6;generalize upd H' p3 (HO.tup [V.int r.2.1,V.int r.2.2])=U3 at Y e3 |-;have lp:=Mz (z.take i) [];rw[y04,y0b] at lp;refine⟨_,DPut.k (k:=.inr r.1) (Y _ _ G) (by rw[B.length]; exact An (by unfold Ca; lia)),?_⟩;have lg:Kp U3 (upd U3 M (.dK (AM kv (.inr r.1) (.ref p3)))):=ED (Y _ _ G);refine⟨FG (J.trans Y) lh,⟨_,_,_,rfl⟩,_,A6,?_⟩;rw[HK Z];show BkR _ _ (List.foldl _ _ _);rw[y1n];exact(B.kp (Y.kp.trans lg)).put r.1 ((Cm e3).kp lg)
 ·rintro O H' ⟨J,⟨t1,t2,t3,rfl⟩,kv,G,B⟩;rw[lj,y0h] at B;walk_at "rx";exact q M H' J ⟨kv,.inl G,B⟩
abbrev Ppr:=List (Pth×List Rw)
def HL(r:Pth×List Rw):Dm:=.tup [pathD r.1,.tup (r.2.map CZ)]
def Ax(q:Ppr):Hds:=q.foldl (fun l r=>BT l r.1 (Ca r.2)) []
theorem SK:∀(q:Ppr) (l:Hds),(q.foldl (fun l r=>BT l r.1 (Ca r.2)) l).length<=l.length+q.length
 |[],l=>yb _
 |r::z,l=>by
  have h1:=HD l r.1 (Ca r.2);have h2:=SK z (BT l r.1 (Ca r.2));rw[y1d,yh];lia
def SL:Sp:=fun vs H Q _=>∃(v:V) (q:Ppr),vs=[v]/\Dt H v (.tup (q.map HL))/\q.length<=900/\(∀r∈q,r.2.length<=900)/\∀(d:Addr) (kvs:List (List Key×V)) (H':Hp),Same H H'->H d=none->H' d=some (.dT kvs)->HdR H' kvs (Ax q)->Q (.ref d) H'
def HOI(H:Hp)(v:V)(z:Addr)(G:Ppr)(i:Nat)(q:St)(H':Hp):Prop:=
 Same H H'/\(∃F B,q=[some v,some (.ref z),F,B])/\∃kv,H' z=some (.dT kv)/\HdR H' kv (Ax (G.take i))
theorem ij(F:Fun K "heads_of" "heads_of" CT f fd) (c_book_of:Callee P w K mg base "book_of" ["shelf"] 1 My):FnOk P w K mg base CX0 2 f fd ["paper"] SL:=by
 refine F.ok sc_heads_of (fun vs H Q E h=>?_) (fun lu A outer s H vs Q E hr h=>?_)
 ·obtain⟨v,pp,rfl,_⟩:=h;rfl
 obtain⟨v,pp,rfl,hv,hl,lj,q⟩:=h;obtain⟨pv,xs,rfl,lc,da⟩:=hv.tupI;have lg:xs.length=pp.length:=by rw[da.length,y4]
 refine⟨_,(A5 (AK (i:=1) sc_heads_of.nd rfl bp Hk (AE rfl))
 (A5 (C0 y0g rfl (Db (A2 0 rfl bx)) (EY (n:=2) rfl (BV (Ab (i:=2) sc_heads_of.nd rfl br) (BV (Ab (i:=3) sc_heads_of.nd rfl bt) EX)))
 (A7 (C3 hr.units1 (A2 1 rfl Qy) (A2 2 rfl bz) (AC c_book_of hr (by lia) (A3 (A2 3 rfl c7) pa_nil) bn Py) (AE rfl))))
 (A7 (AA (A2 1 rfl Qy))))),AN fun N1 e1=>?_⟩
 walk_at "rx";intro Y O;rw[e1];refine AN fun N2 e2=>?_;walk_at "rx";have s1:=AD O (HO.dT []);have eb:upd H Y (HO.dT []) Y=_:=A6;generalize upd H Y (HO.dT [])=U at s1 eb |-;refine⟨⟨_,SqT.of (s1 _ _ lc)⟩,?_⟩;refine Kw (K:=K) (a:=pv) (xs:=xs) (HOI H (.ref pv) Y pp) ⟨s1,⟨_,_,rfl⟩,[],eb,.nil⟩ ?_ ?_ ?_
 ·rintro i Z H' _ ⟨B,_⟩;exact SqT.of (B _ _ lc)
 ·rintro i x Z H' hx ⟨B,⟨t1,t2,rfl⟩,kv,M,z⟩;obtain⟨r,J,dr⟩:=CY da hx;obtain⟨ra,ys,rfl,lh,lr⟩:=dr.tupI;rcases lr with _|⟨u1,_|⟨u2,_|_⟩⟩;rename_i x1 x2;have ls:i<pp.length:=(List.getElem?_eq_some_iff.mp J).1;obtain⟨pk,lq,lm⟩:=Mu u1;subst lq;walk_at "rx";refine⟨_,SqT.of (B _ _ lh),rfl,_,_,rfl,_,_,rfl,rfl,x2,r.2,rfl,u2.kp B.kp,lj r (yi J),fun bd H3 s3 lp=>?_⟩;have ln:=SK (pp.take i) [];rw[y04,y0b] at ln;have G:=s3 _ _ M;refine⟨_,DPut.t (k:=AL r.1) G (by rw[BK]; exact s3 _ _ (B _ _ lm)) (by rw[z.length]; exact An (by unfold Ax; lia)),?_⟩;have sU:SB 0 H3 (upd H3 Y (.dT (AM kv (AL r.1) (.ref bd)))):=fun b o hb=>by
   by_cases hn:b=Y
   ·subst hn;rw[G] at hb;cases hb;exact .inr (.inr ⟨rfl,_,_,rfl,A6⟩)
   ·exact .inl (by rw[AB hn]; exact hb)
  refine⟨FG (B.trans s3) O,⟨_,_,rfl⟩,_,A6,?_⟩;rw[HK J];show HdR _ _ (List.foldl _ _ _);rw[y1n];exact((z.sb (n:=0) (.of s3)).sb sU).put r.1 (sU.bk lp)
 ·rintro Z H' ⟨B,⟨t1,t2,rfl⟩,kv,M,z⟩;rw[lg,y0h] at z;show N2 _ _;rw[e2];walk_at "rx";exact q Y kv H' B O M z
def Chg(o:HO):Prop:=(∃k,o=.dK k)\/(∃k,o=.dT k)\/(∃a k,o=.frz a (.dK k))\/(∃a k,o=.frz a (.dT k))\/∃c d f,o=.ins c d f
structure Keeps(H H':Hp):Prop where
 a:∀b o,¬ Chg o->H b=some o->H' b=some o
theorem ik{xs:List V}:¬ Chg (.tup xs):=by rintro(⟨_,z⟩|⟨_,z⟩|⟨_,_,z⟩|⟨_,_,z⟩|⟨_,_,_,z⟩)<;>cases z
theorem il{xs:List V}:¬ Chg (.lst xs):=by rintro(⟨_,z⟩|⟨_,z⟩|⟨_,_,z⟩|⟨_,_,z⟩|⟨_,_,_,z⟩)<;>cases z
theorem Keeps.t{H H':Hp}(h:Keeps H H'):∀b xs,H b=some (.tup xs)->H' b=some (.tup xs):=fun b xs e=>h.a b _ ik e
theorem Keeps.l{H H':Hp}(h:Keeps H H'):∀b xs,H b=some (.lst xs)->H' b=some (.lst xs):=fun b xs e=>h.a b _ il e
theorem Keeps.kp{H H':Hp}(h:Keeps H H'):Kp H H':=⟨h.t,fun b xs e=>⟨xs,h.l b xs e⟩⟩
theorem Keeps.trans{H H1 H2:Hp}(h:Keeps H H1)(k:Keeps H1 H2):Keeps H H2:=⟨fun b o c e=>k.a b o c (h.a b o c e)⟩
theorem Same.keeps{H H':Hp}(s:Same H H'):Keeps H H':=⟨fun b o _ e=>s b _ e⟩
theorem SB.keeps{n:Addr}{H H':Hp}(s:SB n H H'):Keeps H H':=⟨fun b o c h=>by
 rcases s b o h with h1|⟨q,kvs,e|⟨z,e⟩,h1⟩|⟨_,k,k',e,h1⟩
 ·exact h1
 ·exact absurd (.inl ⟨_,e⟩) c
 ·exact absurd (.inr (.inr (.inl ⟨_,_,e⟩))) c
 ·exact absurd (.inr (.inl ⟨_,e⟩)) c⟩
theorem N0{H:Hp}{x:Addr}{k:List (List Key×V)}{o:HO}(h:Rd H x (.dT k)):Keeps H (upd H x o):=
 ⟨fun b o c e=>by rw[AB (fun z=>by rcases h with h|⟨_,h⟩<;>(rw[z,h] at e; cases e); exact c (.inr (.inl ⟨_,rfl⟩)); exact c (.inr (.inr (.inr (.inl ⟨_,_,rfl⟩)))))]; exact e⟩
structure WkC(K:y3)(C:Addr):Prop where
 c:Cls K C
 nh:NoAttr K C "heads"
 nn:NoAttr K C "notes"
 nw:NoAttr K C "wants"
abbrev wkF(hv:V)(n q:Addr):List (Str×V):=[("heads",hv),("notes",.ref n),("wants",.ref q)]
theorem io(hv:V)(n q:Addr):Ap ("wants" : Str) (V.ref q) (Ap ("notes" : Str) (V.ref n) (Ap ("heads" : Str) hv []))=wkF hv n q:=by
 rfl
def SM(C:Addr):Sp:=fun vs H Q _=>∃(x dx:Addr) (hv:V),vs=[.ref x,hv]/\H x=some (.ins C dx [])/\∀(n q:Addr) (H':Hp),(∀b o,b≠x->H b=some o->H' b=some o)->H' x=some (.ins C dx (wkF hv n q))->H' n=some (.dT [])->H' q=some (.dT [])->n≠q->H n=none->H q=none->Q .non H'
theorem ip{C:Addr} (F:Fun K "__init__" "Walk.__init__" E6 f fd) (t:WkC K C):FnOk P w K mg base CX0 1 f fd ["self","heads"] (SM C):=by
 refine F.ok av (fun vs H Q E h=>?_) (fun lg A outer s H vs Q E hr h=>?_)
 ·obtain⟨x,dx,hv,rfl,_⟩:=h;rfl
 obtain⟨x,dx,hv,rfl,hx,q⟩:=h;refine⟨_,(A5 (L4 (f:="heads") (A2 0 rfl MK) (A2 1 rfl aw) (AE rfl))
 (A5 (L4 (f:="notes") (A2 0 rfl MK) Hk (AE rfl))
 (A7 (L4 (f:="wants") (A2 0 rfl MK) Hk (AE rfl))))),?_⟩
 walk_at "rx";refine⟨_,_,_,hx,t.c,t.nh,by decide,fun n hn=>?_⟩;have Z:upd H x (.ins C dx (Ap ("heads" : Str) hv [])) x=_:=A6;have m1:∀b o,b≠x->H b=some o->(upd H x (.ins C dx (Ap ("heads" : Str) hv []))) b=some o:=fun b o z e=>by rw[AB z]; exact e
 generalize upd H x (.ins C dx (Ap ("heads" : Str) hv []))=H1 at Z m1 hn |-;have s2:=AD hn (HO.dT []);have en:upd H1 n (HO.dT []) n=_:=A6;have J:=s2 _ _ Z;generalize upd H1 n (HO.dT [])=H2 at s2 en J |-;refine⟨_,_,_,J,t.c,t.nn,(show 1<1000 from by decide),fun O B=>?_⟩;have nx:n≠x:=BL en J (by intro z; cases z);have Y:upd H2 x (.ins C dx (Ap ("notes" : Str) (.ref n) (Ap ("heads" : Str) hv []))) x=_:=A6;have m3:∀b o,b≠x->H2 b=some o->(upd H2 x (.ins C dx (Ap ("notes" : Str) (.ref n) (Ap ("heads" : Str) hv [])))) b=some o:=fun b o z e=>by rw[AB z]; exact e
 generalize upd H2 x (.ins C dx (Ap ("notes" : Str) (.ref n) (Ap ("heads" : Str) hv [])))=H3 at Y m3 B |-;have s4:=AD B (HO.dT []);have ew:upd H3 O (HO.dT []) O=_:=A6;have G:=s4 _ _ Y;generalize upd H3 O (HO.dT [])=H4 at s4 ew G |-;refine⟨_,_,_,G,t.c,t.nw,(show 2<1000 from by decide),?_⟩;have wx:O≠x:=BL ew G (by intro z; cases z);rw[io];have lc:=m3 _ _ nx en;refine q n O _ (fun b o z e=>?_) A6 ?_ ?_ ?_ ?_ ?_
 ·rw[AB z];exact s4 _ _ (m3 _ _ z (s2 _ _ (m1 _ _ z e)))
 ·rw[AB nx];exact s4 _ _ lc
 ·rw[AB wx];exact ew
 ·intro z;subst z;rw[lc] at B;cases B
 ·cases M:H n with
  |none=>rfl
  |some o=>
   rw[m1 _ _ nx M] at hn;cases hn
 ·cases M:H O with
  |none=>rfl
  |some o=>
   rw[m3 _ _ wx (s2 _ _ (m1 _ _ wx M))] at B;cases B
noncomputable def walkB (bh:Bh) (hd:Hds) (rows:List Rw) (b:List D):NW:=(wkB bh hd b [] 0 (some (Ca rows)) ([],[])).2
def DS(Pq:T->Prop)(n:Nat)(q:List Rw)(b:List D):Prop:=FJ Pq n b/\q.length+szB b<=900/\2*n+10<=900
abbrev CG(q:List Rw)(b:List D):Dm:=.tup [.tup (q.map CZ),.tup (Av b)]
structure KB(H H':Hp):Prop where
 k:Keeps H H'
 b:∀d bk,IsBk H d bk->IsBk H' d bk
theorem KB.trans{H H1 H2:Hp}(x:KB H H1)(y:KB H1 H2):KB H H2:=⟨x.k.trans y.k,fun d bk z=>y.b d bk (x.b d bk z)⟩
theorem KB.of{H H':Hp}(s:Same H H'):KB H H':=⟨Same.keeps s,fun d bk z=>IsBk.same z s⟩
def KP(K:y3)(Pq:T->Prop)(bh:Bh)(n:Nat)(C:Addr):Sp:=fun vs H Q _=>∃(G:V) (B:Addr) (hk:List (List Key×V)) (z:Hds) (q:List Rw) (b:List D),vs=[G,.ref B]/\Dt H G (CG q b)/\H B=some (.dT hk)/\HdR H hk z/\DS Pq n q b/\
 ∀(a dx F J:Addr) (H':Hp),KB H H'->H' a=some (.ins C dx (wkF3 B F J))->Wk K H' a F z (walkB bh z q b)->Q (.ref a) H'
theorem iq{Pq:T->Prop}{bh:Bh}{n:Nat}{C:Addr} (F:Fun K "walked" "walked" Ch f fd) (m_Walk:mg "Walk" = some (.ref C)) (t:WkC K C) (c_Walk_init:CalleeI P w K mg base C ["self","heads"] 1 (SM C)) (c_book_of:Callee P w K mg base "book_of" ["shelf"] 1 My)
  (c_go_block:Callee P w K mg base "go_block" ["block","path","book","walk"] (3*n+12) (IL K bh Pq n)):FnOk P w K mg base CX0 (3*n+13) f fd ["program","heads"] (KP K Pq bh n C):=by
 refine F.ok sc_walked (fun vs H Q E h=>?_) (fun lQ A outer s H vs Q E hr h=>?_)
 ·obtain⟨gv,hA,hk,lc,B,b,rfl,_⟩:=h;rfl
 obtain⟨gv,hA,hk,lc,B,b,rfl,hg,Z,lu,⟨lq,hsz,hn⟩,q⟩:=h;obtain⟨pg,xs,rfl,lh,da⟩:=hg.tupI;rcases da with _|⟨d1,_|⟨d2,_|_⟩⟩;rename_i vr vb;refine⟨_,(A5 (AK (i:=2) sc_walked.nd rfl cX (Wy c_Walk_init hr (by lia) cU m_Walk (A3 (A2 1 rfl cY) pa_nil) XW) (AE rfl))
 (A5 (HX (AC c_go_block hr (by lia) (A3 (A8 A9 (A2 0 rfl R6) A4 (fun _ _=>rfl)) (A3 (AW pa_nil) (A3 (AC c_book_of hr (by lia) (A3 (A8 A9 (A2 0 rfl R6) A4 (fun _ _=>rfl)) pa_nil) cV Py) (A3 (A2 2 rfl R7) pa_nil)))) cW Q0) (AE rfl))
 (A7 (AA (A2 2 rfl R7))))),?_⟩
 walk_at "rx";intro x dx hx lv ly;have lj:upd (upd H dx (HO.own x)) x (HO.ins C dx []) x=_:=A6;have s0:Same H (upd (upd H dx (HO.own x)) x (HO.ins C dx [])):=fun b o e=>by
  rw[AB (Ag e hx),AB (Ag e lv)]; exact e
 generalize upd (upd H dx (HO.own x)) x (HO.ins C dx [])=U at lj s0 |-;refine⟨x,dx,_,rfl,lj,fun nn wA H1 m1 lg ls ln lr O M=>?_⟩;refine⟨rfl,?_⟩;have s1:Same H H1:=fun b o e=>m1 b o (Ag e hx) (s0 _ _ e);have n1:nn≠hA:=fun z=>by rw[z,s0 _ _ Z] at O; cases O
 have n2:wA≠hA:=fun z=>by rw[z,s0 _ _ Z] at M; cases M
 refine⟨_,SqT.of (s1 _ _ lh),_,rfl,y05 _,fun p2 lp=>?_⟩;have s2:=AD lp (HO.tup []);have e2:upd H1 p2 (HO.tup []) p2=_:=A6;generalize upd H1 p2 (HO.tup [])=U2 at s2 e2 |-;have Y:=s1.trans s2;refine⟨_,SqT.of (Y _ _ lh),_,rfl,vr,B,rfl,d1.kp Y.kp,by lia,fun db H3 s3 lx=>?_⟩;have G:=Y.trans s3;have J:=s2.trans s3;have lm:Wk K H3 x nn lc ([],[]):=⟨⟨C,dx,hA,wA,J _ _ lg,t.c,⟨t.nh,t.nn,t.nw⟩,⟨lr,n1,n2⟩,⟨hk,G _ _ Z,lu.sb (n:=0) (.of G)⟩,[],J _ _ ln,.nil⟩,[],J _ _ ls,.nil⟩;have lP:(Ca B).length<=B.length:=by
  have:=Mz B [];rw[y0b,Nat.zero_add] at this;exact this
 refine⟨vb,_,_,b,[],x,nn,some (Ca B),lc,([],[]),rfl,d2.kp G.kp,lq,⟨p2,rfl,s3 _ _ e2⟩,⟨db,rfl,lx⟩,lm,by simp; lia,fun bk e=>by cases e; lia,by simp; lia,fun r H4 s4 w4 _=>?_⟩;exact q x dx nn wA H4 ⟨(Same.keeps G).trans s4.keeps,fun d bk z=>s4.bk (z.same G)⟩ (s4.ins (J _ _ lg)) w4
abbrev leS(x y:Str):Prop:=x.cps.toList<=y.cps.toList
theorem SN:∀(l:List Str) (p:Str),PyProof.Rows.risingS p l=true->(p::l).Pairwise leS
 |[],p,_=>List.pairwise_singleton _ _
 |x::l,p,h=>by
  rw[PyProof.Rows.risingS,yk] at h;have q:=SN l x h.2;have h1:leS p x:=by
   have h2:=h.1;rw[PyProof.Rows.ltCps_eq,y0e,decide_eq_false_iff_not] at h2;exact h2
  refine List.pairwise_cons.mpr ⟨fun y hy=>?_,q⟩;rcases List.mem_cons.mp hy with rfl|hy
  ·exact h1
  ·exact List.le_trans h1 ((List.pairwise_cons.mp q).1 y hy)
theorem SO{l:List Str}(h:PyProof.Rows.sortedS l=true):l.Pairwise leS:=by
 cases l with
 |nil=>exact .nil
 |cons x l=>exact SN l x h
theorem iu{x y:Str}(h1:leS x y)(h2:leS y x):x=y:=by
 have:=List.le_antisymm h1 h2;obtain⟨⟨a⟩⟩:=x;obtain⟨⟨b⟩⟩:=y;have:a=b:=this;rw[this]
theorem iz{l m:List Str}(h1:PyProof.Rows.sortedS l=true)(h2:PyProof.Rows.sortedS m=true)(q:l.Perm m):l=m:=
 y2r (le:=leS) (fun x y _ _ u v=>iu u v) (SO h1) (SO h2) q
theorem SQ:∀l m:List Str,eqL (l.map V.str) (m.map V.str)=decide (l=m)
 |[],[]=>rfl
 |[],_::_=>by simp[eqL,BO,PyData.eqv,PyData.eqvAll]
 |_::_,[]=>by simp[eqL,BO,PyData.eqv,PyData.eqvAll]
 |x::l,y::m=>by
  have q:=SQ l m;unfold eqL at q |-;simp only[yc,BO,PyData.eqv,PyData.eqvAll] at q |-;rw[q];by_cases e:x=y
  ·subst e;simp
  ·simp[e]
open Classical in
noncomputable def withinB (b1 b2:Bk):Bool:=decide ((b1.map (·.1)).Perm (b2.map (·.1)))&&b1.all fun q=>match look b1 q.1,look b2 q.1 with
 |some s,some t=>Bc (some s) (some t)
 |_,_=>false
theorem BkR.keys{H:Hp}{kvs:List (Key×V)}{bk:Bk}(h:BkR H kvs bk):kvs.map (·.1)=(bk.map (·.1)).map Sum.inr:=by
 unfold BkR at h;induction h with
 |nil=>rfl
 |cons q _ z=>rw[yc,yc,yc,z,q.1]
theorem SS{tl:TE}{g:TG}{tt:TT}{te:TE}{q:List (Option Nat)}{σ:St}{H:Hp}{Q:VK}:CM (Lb tl) g tt te q σ H Q=tl σ H fun x H1=>∃d kvs,x=.ref d/\Rd H1 d (.dK kvs)/\∀o,BN (Itd d o (.dK kvs) (kvs.map fun kv=>kV kv.1)) g tt te Q (subσ q σ) (upd H1 d (.frz o (.dK kvs))):=rfl
local macro_rules | `(tactic| walk_at "rz")=>`(tactic| simp only[Hl,SS,↓FW,↓FX,↓Fr,↓Fs,↓FZ,↓Fa,↓Ft,↓Fu,↓Fv,↓Fw,↓FR,↓EN,↓FS,FT,FU,FV,FY,CI,Fo,Fp,Fq,Fb,Fc,Fd,Fe,Ff,Fg,C9,Ih,Hf,Ju,Jv,Jw,Jx,Jy,K0,Jz,K6,K7,K8,K9,KA,KC,GM,GN,Mf,KD,Mg,Iq,Hj,He,Ht,B2,Dd,tOp,Az,tC,Da,B6,Cw,Cv,DZ,EV,Fm,EU,ET,tCB,BG,CK,Cy,tUn,rU,rI0,rI,Cs,tOr,EQ,tB,ER,Fi,ES,tIf,G9,GF,Ea,Dl,Ez,Dn,Ex,GE,Do,Fl,tSl,Ed,Ee,Ef,GJ,GI,GK,F0,Gx,Gy,Gz,H0,Dg,Ec,tBM,
 qEq,qNe,qIn,G4,El,Em,G5,En,Ek,Ep,GA,Eu,Es,Et,G8,rIx,Di,B0,Eg,Fx,Fy,G0,G3,Dk,Eh,Ei,EW,Fk,Cz,
 Gm,Gn,Go,Gp,Gq,Gs,Gu,Gv,Gw,Nat.reduceAdd,Nat.reduceSub,y30,y2z,y1z,
 y0r,y13,y1x,y1y,y26,y1h,V.int.injEq,V.ref.injEq,V.str.injEq,V.bl.injEq,V.ty.injEq,
 reduceCtorEq,false_and,and_false,and_true,true_and,exists_false,exists_const,false_or,or_false,exists_eq_left,exists_eq_left',exists_eq_right,exists_eq_right',exists_and_left,decide_eq_true_eq,y0e,y1q,exists_eq,true_or,or_true,y15,if_true,if_false,y1j,y2n,y2g,decide_true,decide_false,y21,y25,y0s,y0o,bne_self_eq_false,beq_self_eq_true])
def ST:Sp:=fun vs H Q _=>∃(d1 d2:Addr) (B z:Bk),vs=[.ref d1,.ref d2]/\IsBk H d1 B/\IsBk H d2 z/\(B.length<64/\z.length<64)/\(∀q∈B,PyData.strOk q.1=true)/\(∀q∈z,PyData.strOk q.1=true)/\∀(H':Hp),Fz H H'->Q (.bl (withinB B z)) H'
def BWI(U:Hp)(d1 d2:Addr)(o:Obj)(kvs:List (Key×V))(B F:Bk)(i:Nat)(ys:List V)(z:St)(H':Hp):Prop:=Same U H'/\H' d1=some (.frz o (.dK kvs))/\(∃t,z=[t,some (.ref d1),some (.ref d2)])/\ys=((B.take i).map fun q=>match look B q.1,look F q.1 with
 |some s,some t=>Bc (some s) (some t)
 |_,_=>false).map V.bl
theorem SU{l:List Str}(h:∀x∈l,PyData.strOk x=true):(l.map V.str).all okV=true:=by
 rw[y3d,y2k];exact fun x hx=>h x hx
theorem j0(F:Fun K "is_book_within" "is_book_within" FD f fd) (b_sorted:mg "sorted" = none) (b_all:mg "all" = none) (c_is_within:Callee P w K mg base "is_within" ["one","other"] 3 (Mb K)):FnOk P w K mg base CX0 4 f fd ["one","other"] ST:=by
 refine F.ok cR (fun vs H Q E h=>?_) (fun lX A outer s H vs Q E hr h=>?_)
 ·obtain⟨d1,d2,G,b2,rfl,_⟩:=h;rfl
 obtain⟨d1,d2,G,b2,rfl,h1,h2,hl,lQ,lP,q⟩:=h;obtain⟨k1,r1,p1⟩:=id h1;obtain⟨k2,r2,p2⟩:=id h2;refine⟨_,(A5 (AJ (AH (gNe hr.units) (AZ (Lg rfl) R4 b_sorted Dr (A3 (A2 0 rfl R5) pa_nil) Dw Dv) (AZ (Lg rfl) R4 b_sorted Dr (A3 (A2 1 rfl cT) pa_nil) Dw Dv) (AF _)) (A7 (AA BA)) AI)
 (A7 (AA (AZ (Hi rfl) cS b_all Hu (A3 (C2 ["name","one","other"] [none,some 0,some 1] rfl (CompS.of (by rfl)) (JB (A2 0 rfl R5)) (fun _ _ _ _ _=>(Ab (i:=0) (show List.Nodup (["name","one","other"]:List Str) from by decide+kernel) rfl (Or.inl rfl))) (fun _ _ _ _ _=>C1) (fun _ _ _ _ _=>(AC c_is_within hr (by lia) (A3 (Ar hr.units1 (AQ (i:=1) rfl (by walk_at "vc") Q8 Pp) (AQ (i:=0) rfl (by walk_at "vc") JQ JJ) (fun _ _=>rfl)) (A3 (Ar hr.units1 (AQ (i:=2) rfl (by walk_at "vc") JR JK) (AQ (i:=0) rfl (by walk_at "vc") JQ JJ) (fun _ _=>rfl)) pa_nil)) rfl Lm))) pa_nil) Hx Hv)))),AN fun N1 e1=>Cq fun Y Z eY eZ=>?_⟩
 walk_at "rz";refine⟨d1,k1,G.map (·.1),rfl,r1,p1.keys,by rw[y4]; exact hl.1,fun l1 m1 lS lg lr=>?_⟩;have s1:=AD lS (HO.lst (m1.map V.str));have f1:upd H l1 (HO.lst (m1.map V.str)) l1=_:=A6;generalize upd H l1 (HO.lst (m1.map V.str))=U1 at s1 f1 |-;refine⟨d2,k2,b2.map (·.1),rfl,Rd.same r2 s1,p2.keys,by rw[y4]; exact hl.2,fun l2 m2 lR lc lq=>?_⟩;have s2:=AD lR (HO.lst (m2.map V.str));have f2:upd U1 l2 (HO.lst (m2.map V.str)) l2=_:=A6;generalize upd U1 l2 (HO.lst (m2.map V.str))=U2 at s2 f2 |-;have M:=s1.trans s2;have lm:∀{b:Bk} {m:List Str},(∀q∈b,PyData.strOk q.1=true)->m.Perm (b.map (·.1))->∀x∈m,PyData.strOk x=true:=fun ho pm x hx=>by
  obtain⟨q,hq,rfl⟩:=List.mem_map.mp (pm.mem_iff.mp hx);exact ho q hq
 refine⟨_,.inr ⟨l1,rfl,l2,rfl,_,SqL.of (s2 _ _ f1),_,SqL.of f2,SU (lm lQ lg),SU (lm lP lc),rfl⟩,?_⟩;rw[SQ];have hk:(m1=m2)↔(G.map (·.1)).Perm (b2.map (·.1)):=⟨fun e=>lg.symm.trans (e ▸ lc),fun h=>iz lr lq (lg.trans (h.trans lc.symm))⟩;by_cases hm:m1=m2
 ·rw[decide_eq_true hm,if_neg (by decide)];have q:∀H',Fz H H'->Q (.bl (G.all fun q=>match look G q.1,look b2 q.1 with|some s,some t=>Bc (some s) (some t)|_,_=>false)) H':=fun H' f=>by
   have:=q H' f;unfold withinB at this;rw[decide_eq_true (hk.mp hm),y0s] at this;exact this
  rw[eZ];show N1 _ _;rw[e1];walk_at "rz";obtain⟨kv,hd,rb⟩:=h1.same M;refine⟨kv,hd,fun o=>?_⟩;have sF:Fz U2 (upd U2 d1 (.frz o (.dK kv))):=Fz.frz o hd;have eF:upd U2 d1 (.frz o (.dK kv)) d1=_:=A6;generalize upd U2 d1 (.frz o (.dK kv))=UF at sF eF |-;have fz:Fz H UF:=Fz.trans (.of M) sF;rw[rb.key_at];refine PZ (BWI UF d1 d2 o kv G b2) ⟨Same.refl _,eF,⟨_,rfl⟩,by rw[List.take_zero]; rfl⟩ (by rw[y4]; exact An (by lia)) ?_ ?_ ?_ ?_
  ·rintro i ys J H' ⟨_,_,_,rfl⟩;rw[y4,y4,y04];lia
  ·rintro i ys J H' _ ⟨_,h,_⟩;exact h
  ·rintro i ys v J H' hv ⟨sU,hf,⟨t,rfl⟩,rfl⟩;rw[ym] at hv;cases hq:G[i]? with
   |none=>rw[hq] at hv; cases hv
   |some O=>
    rw[hq] at hv;have ev:V.str O.1=v:=by simpa using hv
    subst ev;have B:O.1∈G.map (·.1):=List.mem_map.mpr ⟨O,yi hq,rfl⟩;have lh:=(hk.mp hm).mem_iff.mp B;obtain⟨sx,lx⟩:=FI B;obtain⟨sy,lv⟩:=FI lh;have fU:Fz H H':=fz.trans (.of sU);obtain⟨g1,lU,lu⟩:=fU.bk h1;obtain⟨g2,lT,ls⟩:=fU.bk h2;rcases lu.look O.1 with⟨z,_⟩|⟨u1,v1,z1,lp,lW⟩
    ·rw[lx] at z; cases z
    rcases ls.look O.1 with⟨z,_⟩|⟨u2,v2,z2,ln,lV⟩
    ·rw[lv] at z; cases z
    have a1:=DGet.kr (k:=.inr O.1) lU;have a2:=DGet.kr (k:=.inr O.1) lT;rw[lp] at a1;rw[ln] at a2;walk_at "rz";refine⟨v1,a1,v2,a2,v1,v2,some u1,some u2,rfl,.of lW,.of lV,fun H2 lj=>⟨sU.trans lj,lj _ _ hf,⟨_,rfl⟩,?_⟩⟩;rw[y0q,hq,y02,y02];simp only[Option.toList_some,yc,y20,z1,z2]
  ·rintro ys J H' ⟨sU,_,_,rfl⟩ pl ly;rw[y4,y0h];refine⟨pl,rfl,_,SqL.of A6,?_⟩;rw[y3d];exact q _ (fz.trans (.of (sU.trans (AD ly _))))
 ·rw[decide_eq_false hm,if_pos rfl];rw[eY];walk_at "rz";have:=q U2 (.of M);unfold withinB at this;rw[decide_eq_false (fun z=>hm (hk.mpr z)),y0o] at this;exact this
def Fine(n:Nat)(d:Dm):Prop:=d.shut=true/\d.dat.canLay0=true/\d.dat.depth<=n
theorem NA:∀{ds:List Dm},(∀d∈ds,Fine n d)->CO ds=true/\PyData.canLayAll0 (Af ds)=true/\PyData.depthAll (Af ds)<=n
 |[],_=>⟨by simp[CO],by simp[Af,PyData.canLayAll0],by simp[Af,PyData.depthAll]⟩
 |d::ds,h=>by
  obtain⟨a,b,c⟩:=NA (ds:=ds) fun e q=>h e (.tail _ q);obtain⟨x,y,z⟩:=h d (.head _);refine⟨by simp[CO,x,a],by simp[Af,PyData.canLayAll0,y,b],?_⟩;simp only[Af,PyData.depthAll];lia
theorem SV(h:∀d∈ds,Fine n d):Fine (n+1) (.tup ds):=by
 obtain⟨a,b,c⟩:=NA h;exact⟨by simpa [Dm.shut] using a,by simpa [Dm.dat,PyData.canLay0] using b,by simp only[Dm.dat,PyData.depth]; lia⟩
theorem SW(n:Nat)(i:Int):Fine n (.int i):=⟨by simp[Dm.shut],by simp[Dm.dat,PyData.canLay0],by simp[Dm.dat,PyData.depth]⟩
theorem Fine.eq(h:Fine n d)(k:n<=64):d.shut=true/\SeqAt.shaped d.dat=true:=⟨h.1,by
 unfold SeqAt.shaped
 rw[h.2.1,y0s,decide_eq_true_eq]
 exact y0d h.2.2 k⟩
theorem j2(p:List Int):Fine 1 (pathD p):=SV fun d hd=>by
 obtain⟨i,_,rfl⟩:=List.mem_map.mp hd;exact SW _ _
theorem SX:∀p q:List Int,PyData.eqvAll (Af (p.map Dm.int)) (Af (q.map Dm.int))=decide (p=q)
 |[],[]=>by simp[Af,PyData.eqvAll]
 |[],_::_=>by simp[Af,PyData.eqvAll]
 |_::_,[]=>by simp[Af,PyData.eqvAll]
 |x::p,y::q=>by
  have z:=SX p q;simp only[yc,Af,PyData.eqvAll,Dm.dat,PyData.eqv];rw[z];by_cases e:x=y
  ·subst e; simp
  ·simp[e]
theorem SY:∀p q:List Pth,PyData.eqvAll (Af (p.map pathD)) (Af (q.map pathD))=decide (p=q)
 |[],[]=>by simp[Af,PyData.eqvAll]
 |[],_::_=>by simp[Af,PyData.eqvAll]
 |_::_,[]=>by simp[Af,PyData.eqvAll]
 |x::p,y::q=>by
  have z:=SY p q;have h1:PyData.eqv (pathD x).dat (pathD y).dat=decide (x=y):=by
   show PyData.eqv (Dm.tup (x.map Dm.int)).dat (Dm.tup (y.map Dm.int)).dat=_;simp only[Dm.dat,PyData.eqv];exact SX x y
  simp only[yc,Af,PyData.eqvAll];rw[z,h1];by_cases e:x=y
  ·subst e; simp
  ·simp[e]
theorem j4{l m:List Pth}(h1:l.Pairwise fun p q=>ltI p q=true)(h2:m.Pairwise fun p q=>ltI p q=true)(z:l.Perm m):l=m:=
 y2r (le:=fun p q=>ltI p q=true) (fun x y _ _ u v=>absurd rfl (Ow (Le u v))) h1 h2 z
open Classical in
noncomputable def heldB (ws hd:Hds):Bool:=decide ((ws.map (·.1)).Perm (hd.map (·.1)))&&ws.all fun q=>match B4 ws q.1,B4 hd q.1 with
 |some a,some b=>withinB a b
 |_,_=>false
theorem HdR.keys{H:Hp}{kvs:List (List Key×V)}{l:Hds}(h:HdR H kvs l):kvs.map (·.1)=(l.map (·.1)).map (·.map Sum.inl):=by
 unfold HdR at h;induction h with
 |nil=>rfl
 |cons q _ z=>rw[yc,yc,yc,z,q.1]; rfl
theorem IM:∀{l:Hds} {p:Pth},p∈l.map (·.1)->∃b,B4 l p=some b/\(p,b)∈l
 |[],_,h=>by cases h
 |q::r,p,h=>by
  rw[B4];by_cases e:q.1=p
  ·exact⟨q.2,if_pos e,by rw[<- e]; exact y00⟩
  ·rw[if_neg e];rw[yc,yv] at h;obtain⟨b,h1,h2⟩:=IM (h.resolve_left fun z=>e z.symm);exact⟨b,h1,yx _ h2⟩
theorem DA{z q:Type}{R:z->q->Prop}:∀{l:List z} {m:List q} {i:Nat} {b:q},Paired R l m->m[i]?=some b->∃a,l[i]?=some a/\R a b
 |_,_,0,b,.cons r _,h=>by
  have h:some _=some b:=h;cases h;exact⟨_,rfl,r⟩
 |_,_,i+1,b,.cons _ t,h=>by
  obtain⟨a,e,r⟩:=DA t (i:=i) (by simpa using h);exact⟨a,by simpa using e,r⟩
 |_,_,_,_,.nil,h=>by simp at h
theorem HdR.at_{H:Hp}:∀{kvs:List (List Key×V)} {l:Hds} {i:Nat} {kv:List Key×V},HdR H kvs l->kvs[i]?=some kv->∃q,l[i]?=some q/\kv.1=AL q.1
 |_,_,0,kv,.cons r _,h=>by
  have h:some _=some kv:=h;cases h;exact⟨_,rfl,r.1⟩
 |_,_,i+1,kv,.cons _ t,h=>by
  obtain⟨q,e,r⟩:=HdR.at_ (i:=i) t (by simpa using h);exact⟨q,by simpa using e,r⟩
 |_,_,_,_,.nil,h=>by simp at h
theorem HdR.mono{H H':Hp}{kvs:List (List Key×V)}{l:Hds}(h:HdR H kvs l)(k:∀d b,IsBk H d b->IsBk H' d b):HdR H' kvs l:=Paired.mapP h fun _ _ ⟨e,d,q,z⟩=>⟨e,d,q,k d _ z⟩
structure HeldR(wA:Addr)(H H':Hp):Prop where
 st:∀c o,c≠wA->(∀k,o≠.dK k)->(∀a k,o≠.frz a (.dK k))->H c=some o->H' c=some o
 bk:∀d b,IsBk H d b->IsBk H' d b
 rd:∀k,Rd H wA (.dT k)->Rd H' wA (.dT k)
theorem HeldR.of{q:Addr}{H H':Hp}(s:Same H H'):HeldR q H H':=⟨fun c o _ _ _ e=>s c o e,fun d b h=>h.same s,fun k h=>Rd.same h s⟩
theorem HeldR.trans{q:Addr}{H H1 H2:Hp}(a:HeldR q H H1)(b:HeldR q H1 H2):HeldR q H H2:=⟨fun c o F B z e=>b.st c o F B z (a.st c o F B z e),fun d k h=>b.bk d k (a.bk d k h),fun k h=>b.rd k (a.rd k h)⟩
theorem HeldR.fz{q:Addr}{H H':Hp}(s:Fz H H'):HeldR q H H':=⟨fun c o _ F B e=>by
 rcases s c o e with h1|⟨_,_,z|⟨_,z⟩,_⟩
 ·exact h1
 ·exact absurd z (F _)
 ·exact absurd z (B _ _),fun d b h=>s.bk h,fun k h=>by
 rcases h with h|⟨o,h⟩
 ·exact .inl (s.dT h)
 ·rcases s _ _ h with h1|⟨_,_,e|⟨_,e⟩,_⟩
  ·exact .inr ⟨o,h1⟩
  ·cases e
  ·cases e⟩
theorem HeldR.frz{q:Addr}{H:Hp}{k:List (List Key×V)}(o:Obj)(h:Rd H q (.dT k)):HeldR q H (upd H q (.frz o (.dT k))):=⟨fun c u n _ _ e=>by rw[AB n]; exact e,fun d b hb=>by
 have B:d≠q:=fun z=>by
  obtain⟨kv,r,_⟩:=hb
  rw[z] at r
  rcases r with r|⟨_,r⟩<;>rcases h with h|⟨_,h⟩<;>(rw[r] at h; cases h)
 have kp:Kp H (upd H q (.frz o (.dT k))):=(N0 (o:=.frz o (.dT k)) h).kp
 obtain⟨kv,r,p⟩:=hb
 exact⟨kv,Or.elim r (fun r=>.inl ((AB B).trans r)) (fun⟨F,r⟩=>.inr ⟨F,(AB B).trans r⟩),p.kp kp⟩,fun G h2=>by
 have:G=k:=by rcases h with h|⟨_,h⟩<;>rcases h2 with h2|⟨_,h2⟩<;>(rw[h] at h2; cases h2<;>rfl)
 exact .inr ⟨o,by rw[A6,this]⟩⟩
def BksOk(l:Hds):Prop:=l.length<=60/\(∀q∈l,q.1≠[])/\∀q∈l,q.2.length<64/\∀r∈q.2,PyData.strOk r.1=true
def NB:Sp:=fun vs H Q _=>∃(q z:Addr) (B hk:List (List Key×V)) (ws hd:Hds),vs=[.ref q,.ref z]/\Rd H q (.dT B)/\HdR H B ws/\H z=some (.dT hk)/\HdR H hk hd/\q≠z/\BksOk ws/\BksOk hd/\∀(H':Hp),HeldR q H H'->Q (.bl (heldB ws hd)) H'
def j5(U:Hp)(B G:Addr)(o:Obj)(F:List (List Key×V))(ws hd:Hds)(i:Nat)(ys:List V)(z:St)(H':Hp):Prop:=Fz U H'/\H' B=some (.frz o (.dT F))/\(∃t,z=[t,some (.ref B),some (.ref G)])/\ys=((ws.take i).map fun q=>match B4 ws q.1,B4 hd q.1 with
 |some a,some b=>withinB a b
 |_,_=>false).map V.bl
theorem j6(F:Fun K "is_held" "is_held" FC f fd) (b_sorted:mg "sorted" = none) (b_all:mg "all" = none) (c_is_book_within:Callee P w K mg base "is_book_within" ["one","other"] 4 ST):FnOk P w K mg base CX0 5 f fd ["wants","heads"] NB:=by
 refine F.ok cO (fun vs H Q E h=>?_) (fun mh A outer s H vs Q E hr h=>?_)
 ·obtain⟨G,hA,J,hk,ws,hd,rfl,_⟩:=h;rfl
 obtain⟨G,hA,J,hk,ws,hd,rfl,hw,M,hh,lq,lV,ow,oh,q⟩:=h;refine⟨_,(A5 (AJ (AH (LI hr.units) (AZ (JD rfl) R0 b_sorted Dr (A3 (A2 0 rfl R3) pa_nil) Dw Dv) (AZ (JD rfl) R0 b_sorted Dr (A3 (A2 1 rfl cQ) pa_nil) Dw Dv) (AF _)) (A7 (AA BA)) AI)
 (A7 (AA (AZ (Hi rfl) cP b_all Hu (A3 (C2 ["path","wants","heads"] [none,some 0,some 1] rfl (CompS.of (by rfl)) (PY (A2 0 rfl R3)) (fun _ _ _ _ _=>(Ab (i:=0) (show List.Nodup (["path","wants","heads"]:List Str) from by decide+kernel) rfl (Or.inl rfl))) (fun _ _ _ _ _=>C1) (fun _ _ _ _ _=>(AC c_is_book_within hr (by lia) (A3 (Ar hr.units1 (AQ (i:=1) rfl (by walk_at "vc") YQ XT) (AQ (i:=0) rfl (by walk_at "vc") Du Ds) (fun _ _=>rfl)) (A3 (Ar hr.units1 (AQ (i:=2) rfl (by walk_at "vc") Q2 Pn) (AQ (i:=0) rfl (by walk_at "vc") Du Ds) (fun _ _=>rfl)) pa_nil)) rfl Xr))) pa_nil) Hx Hv)))),AN fun N1 e1=>Cq fun Y Z eY eZ=>?_⟩
 walk_at "rz";refine⟨G,J,ws.map (·.1),rfl,hw,M.keys,(fun p hp=>by obtain⟨q,hq,rfl⟩:=List.mem_map.mp hp; exact ow.2.1 q hq),by rw[y4]; exact ow.1,fun l1 v1 m1 lX ls lT mf=>?_⟩;have s1:=AD lX (HO.lst v1);have f1:upd H l1 (HO.lst v1) l1=_:=A6;generalize upd H l1 (HO.lst v1)=U1 at s1 f1 |-;refine⟨hA,hk,hd.map (·.1),rfl,.inl (s1 _ _ hh),lq.keys,(fun p hp=>by obtain⟨q,hq,rfl⟩:=List.mem_map.mp hp; exact oh.2.1 q hq),by rw[y4]; exact oh.1,fun l2 v2 m2 lW lr lS me=>?_⟩;have s2:=AD lW (HO.lst v2);have f2:upd U1 l2 (HO.lst v2) l2=_:=A6;generalize upd U1 l2 (HO.lst v2)=U2 at s2 f2 |-;have B:=s1.trans s2;have fin:∀m:List Pth,CO (m.map pathD)=true/\SeqAt.shaped (.list (Af (m.map pathD)))=true:=fun m=>by
  obtain⟨a1,a2,a3⟩:=NA (n:=1) (ds:=m.map pathD) fun d hd=>by obtain⟨p,_,rfl⟩:=List.mem_map.mp hd; exact j2 p
  refine⟨a1,?_⟩;unfold SeqAt.shaped;rw[yk,decide_eq_true_eq];exact⟨by simpa [PyData.canLay0] using a2,by simp only[PyData.depth]; lia⟩
 refine⟨decide (m1=m2),⟨l1,l2,_,_,_,_,rfl,rfl,SqL.of (s2 _ _ f1),SqL.of f2,(mf.kp B.kp),me.kp s2.kp,(fin m1).1,(fin m2).1,(fin m1).2,(fin m2).2,?_⟩,?_⟩
 ·rw[<- SY];simp only[PyData.eqv]
 have lm:(m1=m2)↔(ws.map (·.1)).Perm (hd.map (·.1)):=⟨fun e=>ls.symm.trans (e ▸ lr),fun h=>j4 lT lS (ls.trans (h.trans lr.symm))⟩;by_cases hm:m1=m2
 ·rw[decide_eq_true hm,if_neg (by decide)];have q:∀H',HeldR G H H'->Q (.bl (ws.all fun q=>match B4 ws q.1,B4 hd q.1 with|some a,some b=>withinB a b|_,_=>false)) H':=fun H' f=>by
   have:=q H' f;unfold heldB at this;rw[decide_eq_true (lm.mp hm),y0s] at this;exact this
  rw[eZ];show N1 _ _;rw[e1];walk_at "rz";refine⟨J,Rd.same hw B,fun o as pr=>?_⟩;have hF:=HeldR.frz o (Rd.same hw B);have kF:Keeps U2 (upd U2 G (.frz o (.dT J))):=N0 (Rd.same hw B);have eF:upd U2 G (.frz o (.dT J)) G=_:=A6;have lx:upd U2 G (.frz o (.dT J)) hA=_:=(AB lV.symm).trans (B _ _ hh);generalize upd U2 G (.frz o (.dT J))=UF at hF kF eF lx |-;have lu:HeldR G H UF:=(HeldR.of B).trans hF;have lZ:as.length=ws.length:=by rw[<- M.length]; exact(y28 pr).symm
  refine PZ (j5 UF G hA o J ws hd) ⟨.of (Same.refl _),eF,⟨_,rfl⟩,by rw[List.take_zero]; rfl⟩ (by rw[y4]; have:=ow.1; exact An (by lia)) ?_ ?_ ?_ ?_
  ·rintro i ys lh H' ⟨_,_,_,rfl⟩;rw[y4,y4,y04];lia
  ·rintro i ys lh H' _ ⟨_,h,_⟩;exact h
  ·rintro i ys v lh H' hv ⟨fU,hf,⟨t,rfl⟩,rfl⟩;rw[ym] at hv;cases ha:as[i]? with
   |none=>rw[ha] at hv; cases hv
   |some a=>
    rw[ha] at hv;have ev:V.ref a=v:=by simpa using hv
    subst ev;obtain⟨kv,lY,ea⟩:=DA pr ha;obtain⟨qq,lv,ma⟩:=HdR.at_ M lY;rw[ma,BK] at ea;have O:qq.1∈ws.map (·.1):=List.mem_map.mpr ⟨qq,yi lv,rfl⟩;have lj:=(lm.mp hm).mem_iff.mp O;have ly:H' a=some (.tup (qq.1.map V.int)):=fU.kp.t _ _ (kF.t _ _ ea);have lP:∀d b,IsBk H d b->IsBk H' d b:=fun d b h=>fU.bk (lu.bk d b h);obtain⟨b1,lp,lg⟩:=IM O;obtain⟨b2,ln,lc⟩:=IM lj;rcases(M.mono lP).look qq.1 with⟨z,_⟩|⟨c1,d1,z1,lR,k1⟩
    ·rw[lp] at z; cases z
    rcases(lq.mono lP).look qq.1 with⟨z,_⟩|⟨c2,d2,z2,lQ,k2⟩
    ·rw[ln] at z; cases z
    rw[lp] at z1; cases z1;rw[ln] at z2; cases z2;have md:H' hA=some (.dT hk):=fU.dT lx;have g1:DGet H' G (.ref a) (some (.ref d1)):=.inr ⟨J,AL qq.1,a,.inr ⟨o,hf⟩,rfl,by rw[BK]; exact ly,lR.symm⟩;have g2:DGet H' hA (.ref a) (some (.ref d2)):=.inr ⟨hk,AL qq.1,a,.inl md,rfl,by rw[BK]; exact ly,lQ.symm⟩;walk_at "rz";refine⟨_,g1,_,g2,d1,d2,b1,b2,rfl,k1,k2,⟨(ow.2.2 _ lg).1,(oh.2.2 _ lc).1⟩,(ow.2.2 _ lg).2,(oh.2.2 _ lc).2,fun H2 f2=>⟨fU.trans f2,?_,⟨_,rfl⟩,?_⟩⟩
    ·rcases f2 _ _ hf with h1|⟨_,_,e|⟨_,e⟩,_⟩
     ·exact h1
     ·cases e
     ·cases e
    ·rw[y0q,lv,y02,y02];simp only[Option.toList_some,yc,y20,lp,ln]
  ·rintro ys lh H' ⟨fU,_,_,rfl⟩ pl lU;rw[y4,lZ,y0h];refine⟨pl,rfl,_,SqL.of A6,?_⟩;rw[y3d];exact q _ (lu.trans ((HeldR.fz fU).trans (.of (AD lU _))))
 ·rw[decide_eq_false hm,if_pos rfl];rw[eY];walk_at "rz";have:=q U2 (.of B);unfold heldB at this;rw[decide_eq_false (fun z=>hm (lm.mpr z)),y0o] at this;exact this
def KQ:Dm->Rw
 |.tup [.str x,.int l,.int h]=>(x,l,h)
 |_=>("",0,0)
def KR:Dm->Pth×List Rw
 |.tup [.tup p,.tup q]=>(DR p,q.map KQ)
 |_=>([],[])
def As:Dm->Ppr
 |.tup ds=>ds.map KR
 |_=>[]
theorem j7:∀{d:Dm},Bo d=true->d=CZ (KQ d)
 |.tup [.str x,a,b],h=>by
  have h:(DQ a (-32768) 32767&&Mv a b)=true:=h;rw[yk] at h;obtain⟨i,rfl,_,_⟩:=Mw h.1;obtain⟨j,rfl,_,_⟩:=Mw (show DQ b i 32767=true from h.2);rfl
theorem NC{q:Type}{g:q->q}:∀{l:List q},(∀x∈l,x=g x)->l=l.map g
 |[],_=>rfl
 |x::l,h=>by
  rw[yc,<- NC fun y hy=>h y (yx _ hy),<- h x y00]
theorem j8{d:Dm}(h:Bd d=true):d=HL (KR d):=by
 obtain⟨p,b,rfl,hb⟩:=Mx h;match b,hb with
 |.tup q,hb=>
  have hb:(q.all Bo&&(Cp q).all id)=true:=hb;rw[yk] at hb;have hr:q=(q.map KQ).map CZ:=by
   rw[y0m];exact NC fun x hx=>j7 (List.all_eq_true.mp hb.1 x hx)
  show Dm.tup [pathD p,.tup q]=.tup [pathD (DR (p.map Dm.int)),.tup ((q.map KQ).map CZ)];rw[KO,<- hr]
theorem j9{d:Dm}(h:CW Bd d=true):d=.tup ((As d).map HL):=by
 match d,h with
 |.tup ds,h=>
  have h:(ds.all Bd&&(Cp ds).all id)=true:=h;rw[yk] at h;have hr:ds=(ds.map KR).map HL:=by
   rw[y0m];exact NC fun x hx=>j8 (List.all_eq_true.mp h.1 x hx)
  show Dm.tup ds=.tup ((ds.map KR).map HL);rw[<- hr]
noncomputable def papB (bh:Bh) (rows:List Rw) (b:List D) (d:Dm):Bool:=CW Bd d&&heldB (walkB bh (Ax (As d)) rows b).2 (Ax (As d))
theorem HeldR.keeps{q:Addr}{H H':Hp}{k:List (List Key×V)}(h:HeldR q H H')(hw:H q=some (.dT k)):Keeps H H':=⟨fun c o n e=>h.st c o (fun z=>by
 rw[z,hw] at e
 cases e
 exact n (.inr (.inl ⟨_,rfl⟩))) (fun k z=>n (.inl ⟨k,z⟩)) (fun a k z=>n (.inr (.inr (.inl ⟨a,k,z⟩)))) e⟩
def ND(K:y3)(Pq:T->Prop)(bh:Bh)(n:Nat):Sp:=fun vs H Q _=>∃(B v:V) (q:List Rw) (b:List D) (d:Dm),vs=[B,v]/\Dt H B (CG q b)/\DS Pq n q b/\Dt H v d/\Co d/\(CW Bd d=true->BksOk (Ax (As d))/\BksOk (walkB bh (Ax (As d)) q b).2/\(As d).length<=900/\∀r∈As d,r.2.length<=900)/\
 (papB bh q b d=false->∀H',Keeps H H'->Q .non H')/\
 (papB bh q b d=true->∀(a z C dx G F:Addr) (kvs:List (List Key×V)) (H':Hp),Keeps H H'->H' a=some (.ins C dx (wkF3 G z F))->Cls K C->NoAttr K C "notes"->H' z=some (.dT kvs)->NtR H' kvs (walkB bh (Ax (As d)) q b).1->Q (.ref a) H')
theorem jA{Pq:T->Prop}{bh:Bh}{n:Nat}{C fi:Addr} (F:Fun K "walk_by_paper" "walk_by_paper" Bs f fd) (t:WkC K C) (g_is_paper_row:GC mg "is_paper_row" (.ref fi)) (hH:GL P w K mg base 5 fi (EI Bd)) (c_are_rising_rows:Callee P w K mg base "are_rising_rows" ["thing","is_row"] 6 (Mt P w K mg base 5 Bd)) (c_heads_of:Callee P w K mg base "heads_of" ["paper"] 2 SL)
  (c_walked:Callee P w K mg base "walked" ["program","heads"] (3*n+13) (KP K Pq bh n C)) (c_is_held:Callee P w K mg base "is_held" ["wants","heads"] 5 NB):FnOk P w K mg base CX0 (3*n+14) f fd ["program","thing"] (ND K Pq bh n):=by
 refine F.ok sc_walk_by_paper (fun vs H Q E h=>?_) (fun ls A outer s H vs Q E hr h=>?_)
 ·obtain⟨gv,v,q,b,d,rfl,_⟩:=h;rfl
 obtain⟨gv,v,q,b,d,rfl,hg,lh,hd,hz,lj,qn,qy⟩:=h;refine⟨_,(A5 (AJ (Cc (Be (AC c_are_rising_rows hr (by lia) (A3 (A2 1 rfl Qv) (A3 (Bg g_is_paper_row bS Xs) pa_nil)) bP Px))) (A7 (AA AY)) AI)
 (A5 (AK (i:=2) sc_walk_by_paper.nd rfl bV (AC c_heads_of hr (by lia) (A3 (A2 1 rfl Qv) pa_nil) bQ Xp) (AE rfl))
 (A5 (AK (i:=3) sc_walk_by_paper.nd rfl bW (AC c_walked hr (by lia) (A3 (A2 0 rfl bX) (A3 (A2 2 rfl Qu) pa_nil)) bT Lq) (AE rfl))
 (A5 (AJ (Cc (Be (AC c_is_held hr (by lia) (A3 (Eb (A2 3 rfl Qw) rfl) (A3 (A2 2 rfl Qu) pa_nil)) bR Q3))) (A7 (AA AY)) AI)
 (A7 (AA (A2 3 rfl Qw))))))),AN fun N1 e1=>Cq fun Y Z eY eZ=>?_⟩
 walk_at "rz";refine⟨v,d,fi,rfl,hd,hz,hH,ie,fun H1 s1=>⟨_,rfl,?_⟩⟩;cases hR:CW Bd d with
 |false=>
  rw[if_pos rfl,eY];walk_at "rz";exact qn (by unfold papB; rw[hR]; rfl) H1 (Same.keeps s1)
 |true=>
  rw[if_neg (by decide),eZ];show N1 _ _;rw[e1];obtain⟨bo,bw,l1,l2⟩:=lj hR;have ln:Dt H v (.tup ((As d).map HL)):=j9 hR ▸ hd;have hP:papB bh q b d=heldB (walkB bh (Ax (As d)) q b).2 (Ax (As d)):=by unfold papB; rw[hR]; rfl
  rw[hP] at qn qy;generalize hpp:As d=pp at *;refine AN fun N2 e2=>?_;walk_at "rz";refine⟨v,pp,rfl,ln.kp s1.kp,l1,l2,fun M hk H2 s2 _ eA rA=>?_⟩;have G:=s1.trans s2;rw[e2];refine AN fun N3 e3=>?_;walk_at "rz";refine⟨gv,M,hk,Ax pp,q,b,rfl,hg.kp G.kp,eA,rA,lh,fun a dx nn O H3 k3 ea wk=>?_⟩;obtain⟨⟨C',lr,J,B,e,c1,⟨d1,d2,d3⟩,⟨n1,n2,n3⟩,⟨lm,eh,rh⟩,lc,ew,lg⟩,kvs,en,rn⟩:=wk;rw[ea] at e;have ez:C=C'/\dx=lr/\wkF3 M nn O=wkF3 J nn B:=by injection e with e; injection e with x1 x2 x3; exact⟨x1,x2,x3⟩
  obtain⟨rfl,rfl,ez⟩:=ez;have e5:M=J/\O=B:=by simpa [wkF3] using ez
  obtain⟨rfl,rfl⟩:=e5;rw[e3];refine AN fun N4 e4=>Cq fun Y2 Z2 lq lp=>?_;walk_at "rz";refine⟨_,_,_,ea,c1,d3,_,KH,O,M,lc,lm,_,_,rfl,.inl ew,lg,eh,rh,n3,bw,bo,fun H4 h4=>?_⟩;have kk:Keeps H H4:=(Same.keeps G).trans (k3.k.trans (h4.keeps ew));refine⟨_,rfl,?_⟩;cases hB:heldB (walkB bh (Ax pp) q b).2 (Ax pp) with
  |false=>
   rw[if_pos rfl,lq];walk_at "rz";exact qn hB H4 kk
  |true=>
   rw[if_neg (by decide),lp];show N4 _ _;rw[e4];walk_at "rz";exact qy hB a nn C dx M O kvs H4 kk (h4.st _ _ (BL ea ew (by intro z; cases z)) (fun _ z=>by cases z) (fun _ _ z=>by cases z) ea) c1 d2 (h4.st _ _ n1 (fun _ z=>by cases z) (fun _ _ z=>by cases z) en) (rn.kp (h4.keeps ew).kp)
def Aa:Nts->Pth->S
 |[],_=>none
 |q::r,p=>if q.1=p then some q.2 else Aa r p
theorem NtR.look{H:Hp}{kvs:List (List Key×V)}{ns:Nts}(h:NtR H kvs ns)(p:Pth):(Aa ns p=none/\AX kvs (AL p)=none)\/∃s v,Aa ns p=some s/\AX kvs (AL p)=some v/\Dt H v (AO (some s)):=by
 unfold NtR at h;induction h with
 |nil=>exact .inl ⟨rfl,rfl⟩
 |cons B _ F=>
  rename_i a q _ _ _;obtain⟨e,d⟩:=B;by_cases hx:q.1=p
  ·refine .inr ⟨q.2,a.2,?_,Bi (by rw[e,hx]),d⟩;rw[Aa,if_pos hx]
  ·rw[Bj (by rw[e]; intro z; exact hx (FH z))];rw[Aa,if_neg hx];exact F
theorem NtR.keys{H:Hp}{kvs:List (List Key×V)}{ns:Nts}(h:NtR H kvs ns):kvs.map (·.1)=(ns.map (·.1)).map (·.map Sum.inl):=by
 unfold NtR at h;induction h with
 |nil=>rfl
 |cons q _ z=>
  rw[yc,yc,yc,z,q.1]; rfl
theorem KS:∀{ns:Nts} {p:Pth},p∈ns.map (·.1)->∃s,Aa ns p=some s
 |[],_,h=>by cases h
 |q::r,p,h=>by
  rw[Aa];by_cases e:q.1=p
  ·exact⟨q.2,if_pos e⟩
  ·rw[if_neg e];rw[yc,yv] at h;exact KS (h.resolve_left fun z=>e z.symm)
def KU(bh:Bh)(q:List Rw)(b:List D)(d:Dm):Prop:=Co d/\(CW Bd d=true->BksOk (Ax (As d))/\BksOk (walkB bh (Ax (As d)) q b).2/\(As d).length<=900/\∀r∈As d,r.2.length<=900)
def SZ(Pq:T->Prop)(bh:Bh)(n:Nat):Sp:=fun vs H Q _=>∃(z v:V) (q:List Rw) (b:List D) (d:Dm),vs=[z,v]/\Dt H z (CG q b)/\DS Pq n q b/\Dt H v d/\KU bh q b d/\∀H',Keeps H H'->Q (.bl (papB bh q b d)) H'
theorem jB{Pq:T->Prop}{bh:Bh}{n:Nat} (F:Fun K "is_paper" "is_paper" Gh f fd) (c_walk_by_paper:Callee P w K mg base "walk_by_paper" ["program","thing"] (3*n+14) (ND K Pq bh n)):FnOk P w K mg base CX0 (3*n+15) f fd ["program","thing"] (SZ Pq bh n):=by
 refine F.ok bD (fun vs H Q E h=>?_) (fun Y A outer s H vs Q E hr h=>?_)
 ·obtain⟨M,v,z,b,d,rfl,_⟩:=h;rfl
 obtain⟨M,v,z,b,d,rfl,hg,B,hd,⟨O,J⟩,q⟩:=h;refine⟨_,(A7 (AA (Dc Eo (AC c_walk_by_paper hr (by lia) (A3 (A2 0 rfl bF) (A3 (A2 1 rfl bG) pa_nil)) bE QC) AY (AF _)))),?_⟩;walk_at "rz";refine⟨M,v,z,b,d,rfl,hg,B,hd,O,J,fun G H' k=>?_,fun G a nn C dx hA Z kvs H' k e c1 c2 en rn=>?_⟩
 ·rw[G] at q;exact q H' k
 ·rw[G] at q;exact q H' k
def Sa(Pq:T->Prop)(bh:Bh)(n:Nat):Sp:=fun vs H Q _=>∃(B v:V) (q:List Rw) (b:List D) (d:Dm),vs=[B,v]/\Dt H B (CG q b)/\DS Pq n q b/\Dt H v d/\KU bh q b d/\papB bh q b d=true/\∀(z:Addr) (kvs:List (List Key×V)) (H':Hp),Keeps H H'->H' z=some (.dT kvs)->NtR H' kvs (walkB bh (Ax (As d)) q b).1->Q (.ref z) H'
theorem jC{Pq:T->Prop}{bh:Bh}{n:Nat} (F:Fun K "notes_by" "notes_by" E7 f fd) (c_walk_by_paper:Callee P w K mg base "walk_by_paper" ["program","thing"] (3*n+14) (ND K Pq bh n)):FnOk P w K mg base CX0 (3*n+15) f fd ["program","paper"] (Sa Pq bh n):=by
 refine F.ok sc_notes_by (fun vs H Q E h=>?_) (fun lc A outer s H vs Q E hr h=>?_)
 ·obtain⟨M,v,B,b,d,rfl,_⟩:=h;rfl
 obtain⟨M,v,B,b,d,rfl,hg,G,hd,⟨Z,J⟩,hp,q⟩:=h;refine⟨_,(A5 (AK (i:=2) sc_notes_by.nd rfl bM (AC c_walk_by_paper hr (by lia) (A3 (A2 0 rfl bO) (A3 (A2 1 rfl bN) pa_nil)) bL QC) (AE rfl))
 (A5 (AJ (AH BX (A2 2 rfl Qt) AY (AF _)) (A7 Ks) AI)
 (A7 (AA (Eb (A2 2 rfl Qt) rfl))))),?_⟩
 walk_at "rz";refine⟨M,v,B,b,d,rfl,hg,G,hd,Z,J,fun z=>(by rw[hp] at z; cases z),fun _ a Y C dx hA wA kvs H' k e c1 c2 en O=>?_⟩;walk_at "rz";exact⟨_,_,_,e,c1,c2,_,S3,q Y kvs H' k en O⟩
def KW(ns:Nts)(p:Pth):Dm:=match Aa ns p with
 |some s=>.tup [pathD p,.int s.1,.int s.2]
 |none=>.non
def Sb(Pq:T->Prop)(bh:Bh)(n:Nat):Sp:=fun vs H Q _=>∃(B v:V) (z:List Rw) (b:List D) (d:Dm),vs=[B,v]/\Dt H B (CG z b)/\DS Pq n z b/\Dt H v d/\KU bh z b d/\papB bh z b d=true/\(∀q∈(walkB bh (Ax (As d)) z b).1,q.1≠[])/\(walkB bh (Ax (As d)) z b).1.length<=60/\
 ∀(l:Addr) (vs:List V) (ps:List Pth) (H':Hp),Keeps H H'->ps.Perm ((walkB bh (Ax (As d)) z b).1.map (·.1))->ps.Pairwise (fun p q=>ltI p q=true)->H' l=some (.lst vs)->DtA H' vs (ps.map (KW (walkB bh (Ax (As d)) z b).1))->Q (.ref l) H'
def HI(U:Hp)(z:Addr)(ns:Nts)(ps:List Pth)(i:Nat)(ys:List V)(q:St)(H':Hp):Prop:=Same U H'/\(∃t,q=[t,some (.ref z)])/\DtA H' ys ((ps.take i).map (KW ns))/\i<=ps.length
theorem jD{Pq:T->Prop}{bh:Bh}{n:Nat} (F:Fun K "shown" "shown" DJ f fd) (b_sorted:mg "sorted" = none) (c_notes_by:Callee P w K mg base "notes_by" ["program","paper"] (3*n+15) (Sa Pq bh n)):FnOk P w K mg base CX0 (3*n+16) f fd ["program","paper"] (Sb Pq bh n):=by
 refine F.ok sc_shown (fun vs H Q E h=>?_) (fun lT A outer s H vs Q E hr h=>?_)
 ·obtain⟨gv,v,G,b,d,rfl,_⟩:=h;rfl
 obtain⟨gv,v0,G,b,d0,rfl,hg,lm,lP,lx,lv,lh,Z,q⟩:=h;refine⟨_,(A5 (AK (i:=2) sc_shown.nd rfl b9 (AC c_notes_by hr (by lia) (A3 (A2 0 rfl bC) (A3 (A2 1 rfl bB) pa_nil)) ax YD) (AE rfl))
 (A7 (AA (C2 ["path","notes"] [none,some 2] rfl (CompS.of (by rfl)) (EZ (AZ (JD rfl) ay b_sorted Dr (A3 (A2 2 rfl bA) pa_nil) Dw Dv)) (fun _ _ _ _ _=>(Ab (i:=0) (show List.Nodup (["path","notes"]:List Str) from by decide+kernel) rfl (Or.inl rfl))) (fun _ _ _ _ _=>C1) (fun _ _ _ _ _=>(AT (opK (r:=Ej) (K:=K) Bf rfl) (AW (A3 (AQ (i:=0) rfl (by walk_at "vc") Du Ds) pa_nil)) (Ar hr.units1 (AQ (i:=1) rfl (by walk_at "vc") YC XO) (AQ (i:=0) rfl (by walk_at "vc") Du Ds) (fun _ _=>rfl)))))))),?_⟩
 walk_at "rz";refine⟨gv,v0,G,b,d0,rfl,hg,lm,lP,lx,lv,fun nn kvs H1 k1 e1 r1=>?_⟩;generalize (walkB bh (Ax (As d0)) G b).1=ns at lh Z q r1;refine⟨nn,kvs,ns.map (·.1),rfl,.inl e1,r1.keys,?_,by rw[y4]; exact Z,fun l vs ps hl Y lq dvs=>?_⟩
 ·intro p hp;obtain⟨z,hz,rfl⟩:=List.mem_map.mp hp;exact lh z hz
 have s2:=AD hl (HO.lst vs);have e2:upd H1 l (HO.lst vs) l=_:=A6;generalize upd H1 l (HO.lst vs)=U at s2 e2 |-;have ln:vs.length=ps.length:=by rw[dvs.length,y4]
 have lS:ps.length<=60:=by rw[Y.length_eq,y4]; exact Z
 refine⟨l,rfl,⟨_,SqL.of e2⟩,?_⟩;refine Hh (K:=K) (a:=l) (xs:=vs) (HI U nn ns ps) ⟨Same.refl _,⟨_,rfl⟩,.nil,y05 _⟩ (An (by lia)) ?_ ?_ ?_ ?_
 ·rintro i ys M H' ⟨_,_,d,hi⟩;rw[d.length,y4,y04];lia
 ·rintro i ys M H' _ ⟨s3,_⟩;exact SqL.of (s3 _ _ e2)
 ·rintro i ys x M H' hx ⟨s3,⟨t,rfl⟩,d,hi⟩;obtain⟨p,hp,dp⟩:=CY dvs hx;have lj:p∈ns.map (·.1):=Y.mem_iff.mp (yi hp);obtain⟨sv,lp⟩:=KS lj;obtain⟨px,lR,rfl,O,lQ⟩:=dp.tupI;rw[D7 lQ] at O;have B:=s2.trans s3;rcases(r1.kp B.kp).look p with⟨z,_⟩|⟨lc,v,z1,z2,dv⟩
  ·rw[lp] at z; cases z
  have g:=DGet.t (B _ _ e1) (k:=AL p) (b:=px) (by rw[BK]; exact B _ _ O);rw[z2] at g;walk_at "rz";refine⟨zl 1 (by decide),fun p3 lu=>?_⟩;have J:=AD lu (HO.tup [V.ref px]);have e4:upd H' p3 (HO.tup [V.ref px]) p3=_:=A6;have g4:=DGet.t (J _ _ (B _ _ e1)) (k:=AL p) (b:=px) (by rw[BK]; exact J _ _ (B _ _ O));rw[z2] at g4;generalize upd H' p3 (HO.tup [V.ref px])=U4 at J e4 g4 |-;refine⟨v,g4,?_⟩;obtain⟨pv,rfl,lr⟩:=KG (dv.kp J.kp);refine⟨p3,pv,_,_,rfl,rfl,SqT.of e4,SqT.of lr,zl 3 (by decide),fun z=>(by cases z),fun _ z=>(by cases z),fun _ _ p5 ls=>?_⟩;have s5:=AD ls (HO.tup ([V.ref px]++[V.int lc.1,V.int lc.2]));have ly:i<ps.length:=(List.getElem?_eq_some_iff.mp hp).1;refine⟨s3.trans (J.trans s5),⟨_,rfl⟩,?_,ly⟩;rw[HK hp,y02];refine DtA.append (DtA.kp (J.trans s5).kp d) (.cons ?_ .nil);unfold KW;rw[z1];exact .tup A6 (.cons (dp.kp (B.trans (J.trans s5)).kp) (.cons (.int _) (.cons (.int _) .nil)))
 ·rintro ys M H' ⟨s3,_,d,hi⟩ pl lg;rw[ln,y0h] at d;have J:=AD lg (HO.lst ys);exact q pl ys ps _ (k1.trans (Same.keeps (s2.trans (s3.trans J)))) Y lq A6 (DtA.kp J.kp d)
theorem Al{a b:TS}{D:Ends}{σ:St}{H:Hp}(h:∀N:St->Hp->Prop,N=b D->a {D with nx:=N} σ H):C9 a b D σ H:=h _ rfl
def pair:List Str:=["a","b"]
structure okRows(rows:List Rw):Prop where
 len:rows.length<=2
 nm:rows.map (·.1)=pair.take rows.length
 lo:∀r∈rows,-6<=r.2.1/\r.2.1<=r.2.2/\r.2.2<=8
theorem Sc:∀p:List Int,DtA H (p.map V.int) (p.map Dm.int)
 |[]=>.nil
 |i::p=>.cons (.int i) (Sc p)
theorem FK{K:y3}{H:Hp}{Q:VK}{x y:V}{p q:List Int}(dx:Dt H x (pathD p))(B:Dt H y (pathD q))(F:p.length+q.length<=1000)(h:∀z H',Same H H'->Dt H' z (pathD (p++q))->Q z H'):Ej K x y H Q:=by
 obtain⟨a,xs,rfl,ha,M⟩:=dx.tupI;obtain⟨b,ys,rfl,hb,J⟩:=B.tupI;have G:=D7 M;have eb:=D7 J;subst G eb;refine⟨a,b,_,_,rfl,rfl,SqT.of ha,SqT.of hb,?_,fun e=>?_,fun _ e=>?_,fun _ _ r hr=>?_⟩
 ·rw[y4,y4];exact y1a (An F)
 ·have:p=[]:=by simpa using e
  subst this;exact h _ _ (Same.refl _) B
 ·have:q=[]:=by simpa using e
  subst this;rw[y0n] at h;exact h _ _ (Same.refl _) dx
 ·refine h _ _ (AD hr _) (.tup A6 ?_);rw[<- y02];exact Sc _
theorem FL:Dt (upd H r (.tup [.int i])) (.ref r) (pathD [i]):=.tup A6 (.cons (.int i) .nil)
theorem Sd:∀(b:List D) (i:Nat),(Av b)[i]?=(b[i]?).map D.enc
 |[],i=>by simp[Av]
 |d::b,0=>by simp[Av]
 |d::b,i+1=>by simp[Av,Sd b i]
theorem jE{H:Hp}{xs:List V}{b:List D}{i:Nat}{x:V}(h:DtA H xs (Av b))(hx:xs[i]?=some x):∃d,b[i]?=some d/\Dt H x d.enc:=by
 obtain⟨e,q,z⟩:=h.get hx;rw[Sd] at q;cases hb:b[i]? with
 |none=>rw[hb] at q; cases q
 |some d=>
  rw[hb] at q;have:d.enc=e:=by simpa using q
  subst this;exact⟨d,rfl,z⟩
def okW:Nat->List D->Prop
 |0,_=>False
 |n+1,b=>b.length<=7/\∀d∈b,match d with
  |.set x t=>x∈pool/\t.ok pool 5
  |.ite _ _ _=>False
  |.whl t m b=>t.ok pool 5/\okW n b
abbrev Se(n:Nat)(d:D):Prop:=match d with
 |.set x t=>x∈pool/\t.ok pool 5
 |.ite _ _ _=>False
 |.whl t m b=>t.ok pool 5/\okW n b
def D.kind:D->Str
 |.set _ _=>"set"
 |.ite _ _ _=>"if"
 |.whl _ _ _=>"while"
theorem Sf:∀(l m:List Str),l.Nodup->(∀x∈l,x∈m)->l.length<=m.length
 |[],m,_,_=>by simp
 |x::l,m,h,z=>by
  rw[List.nodup_cons] at h;have hx:=z x (.head _);have B:=Sf l (m.erase x) h.2 fun y hy=>by
   have q:y≠x:=fun e=>h.1 (e ▸ hy);exact(List.mem_erase_of_ne q).mpr (z y (.tail _ hy))
  have e:=List.length_erase_of_mem hx;have F:=List.length_pos_of_mem hx;rw[yh];lia
def T.word:T->Str
 |.num _=>"num"
 |.nm _=>"name"
 |.op w _ _=>w.str
abbrev Cnt:=List (Str×Int)
def kvC(c:Cnt):List (Key×V):=c.map fun p=>((Sum.inr p.1:Key),V.int p.2)
def Au(c:Cnt)(x:Str):Option Int:=(c.find? fun p=>decide (p.1=x)).map (·.2)
def Ay(c:Cnt)(x:Str)(i:Int):Cnt:=if(c.any fun p=>decide (p.1=x))=true then c.map (fun p=>if p.1=x then(p.1,i) else p) else c++[(x,i)]
theorem inr_eq:((Sum.inr x:Key)=Sum.inr y)↔x=y:=⟨fun h=>by injection h,fun h=>by rw[h]⟩
theorem Sg(x:Str):∀c:Cnt,AX (kvC c) (Sum.inr x)=(Au c x).map V.int
 |[]=>rfl
 |p::c=>by
  have q:=Sg x c;unfold AX kvC Au at q |-;rw[yc,y14,y14];by_cases e:p.1=x
  ·simp[e]
  ·have B:¬ (Sum.inr p.1:Key)=Sum.inr x:=fun z=>e (inr_eq.mp z);simp only[e,B,decide_false];exact q
theorem jF(x:Str)(c:Cnt):((kvC c).any fun kv=>decide (kv.1=Sum.inr x))=c.any fun p=>decide (p.1=x):=by
 unfold kvC;rw[List.any_map];congr 1;funext p;show decide ((Sum.inr p.1:Key)=Sum.inr x)=decide (p.1=x);by_cases e:p.1=x
 ·rw[decide_eq_true e,decide_eq_true (inr_eq.mpr e)]
 ·rw[decide_eq_false e,decide_eq_false fun z=>e (inr_eq.mp z)]
theorem Sh(x:Str)(i:Int)(c:Cnt):AM (kvC c) (Sum.inr x) (V.int i)=kvC (Ay c x i):=by
 unfold AM Ay;rw[jF];split
 ·unfold kvC;rw[y0m,y0m];refine y3h fun p _=>?_;show(if(Sum.inr p.1:Key)=Sum.inr x then _ else _)=_;by_cases e:p.1=x
  ·simp[e]
  ·simp[e]
 ·simp[kvC]
theorem Si(c:Cnt)(x:Str)(i:Int):(Ay c x i).map (·.1)=if x∈c.map (·.1) then c.map (·.1) else c.map (·.1)++[x]:=by
 unfold Ay;have q:(c.any fun p=>decide (p.1=x))=true↔x∈c.map (·.1):=by
  rw[List.any_eq_true,List.mem_map];constructor
  ·rintro⟨p,B,e⟩; exact⟨p,B,of_decide_eq_true e⟩
  ·rintro⟨p,B,e⟩; exact⟨p,B,decide_eq_true e⟩
 by_cases h:x∈c.map (·.1)
 ·rw[if_pos (q.mpr h),if_pos h,y0m];refine y3h fun p _=>?_;show(if p.1=x then(p.1,i) else p).1=p.1;split<;>rfl
 ·rw[if_neg fun z=>h (q.mp z),if_neg h,y02];rfl
theorem jG{H:Hp}{v:V}{t:T}(h:Dt H v t.enc):∃a y xs,v=.ref a/\H a=some (.tup (.str t.word::y::xs)):=by
 cases t with
 |num i=>
  rw[T.enc] at h;obtain⟨a,B,z,rfl,ha,q,F⟩:=DO h;cases q;exact⟨_,_,_,rfl,ha⟩
 |nm x=>
  rw[T.enc] at h;obtain⟨a,B,z,rfl,ha,q,F⟩:=DO h;cases q;exact⟨_,_,_,rfl,ha⟩
 |op w a b=>
  rw[T.enc] at h;obtain⟨a,B,z,G,rfl,ha,q,F,J⟩:=EG h;cases q;exact⟨_,_,_,rfl,ha⟩
theorem jH{H:Hp}{v:V}{d:D}(h:Dt H v d.enc):∃a xs,v=.ref a/\H a=some (.tup (.str d.kind::xs)):=by
 cases d with
 |set x t=>
  rw[D.enc] at h;obtain⟨a,F,B,z,rfl,ha,q,J,G⟩:=EG h;cases q;exact⟨_,_,rfl,ha⟩
 |ite t b c=>
  rw[D.enc] at h;obtain⟨a,F,B,z,M,rfl,ha,q,J,G,O⟩:=Mq h;cases q;exact⟨_,_,rfl,ha⟩
 |whl t m b=>
  rw[D.enc] at h;obtain⟨a,F,B,z,M,rfl,ha,q,J,G,O⟩:=Mq h;cases q;exact⟨_,_,rfl,ha⟩
theorem BU:atI (x::xs) 0=some x:=Ai (j:=0) rfl
abbrev RI:=List Int×Int
inductive Rs where
 |had (i:Int)
 |ref (w:Str) (p:List Int)
def Rs.enc:Rs->Dm
 |.had i=>.tup [.str "had",.int i]
 |.ref w p=>.tup [.str "refused",.str w,pathD p]
def IN(r:RI):Dm:=.tup [pathD r.1,.int r.2]
def BY(i:Int)(p:List Int):Rs:=if i < -32768 then .ref "over" p else if i>32767 then .ref "over" p else .had i
def SameB(l:Addr)(H H':Hp):Prop:=∀a o,a≠l->H a=some o->H' a=some o
theorem SameB.of(h:Same H H'):SameB l H H':=fun a o _ e=>h a o e
theorem SameB.trans(a:SameB l H H1)(b:SameB l H1 H2):SameB l H H2:=fun x o n e=>b x o n (a x o n e)
theorem SameB.kp(h:SameB l H H')(F:H l=some (.lst xs))(B:H' l=some (.lst ys)):Kp H H':=
 ⟨fun b zs q=>h b _ (fun z=>by rw[z,F] at q; cases q) q,fun b zs q=>by
  by_cases hb:b=l
  ·subst hb; exact⟨ys,B⟩
  ·exact⟨zs,h b _ hb q⟩⟩
def DT:Sp:=fun vs H Q _=>∃(q pv:V) (p:List Int) (l:Addr) (xs:List V),vs=[q,pv,.ref l]/\Dt H pv (pathD p)/\H l=some (.lst xs)/\xs.length<yn/\
 ((q=.non/\∀r H',Same H H'->Dt H' r (Rs.ref "zero" p).enc->Q r H')\/∃i,q=.int i/\∀(r y:V) (H':Hp),SameB l H H'->H' l=some (.lst (xs++[y]))->Dt H' y (IN (p,i))->Dt H' r (BY i p).enc->Q r H')
theorem jI(F:Fun K "settled" "settled" F7 f fd) (g_WIDE:GC mg "WIDE" (.ref ai)) (hI:∀H,SqT K H ai [.int (-32768),.int 32767]):FnOk P w K mg base CX0 1 f fd ["worth","path","rows"] DT:=by
 refine F.ok ZF (fun vs H Q E h=>?_) (fun lc A outer s H vs Q E hr h=>?_)
 ·obtain⟨wv,pv,p,l,xs,rfl,_⟩:=h;rfl
 obtain⟨wv,pv,p,l,xs,rfl,hp,hl,hx,h⟩:=h;refine⟨_,(A5 (AJ (AH BX (A2 0 rfl Hy) AY (AF _)) (A7 (AA (AW (A3 AR (A3 AR (A3 (A2 1 rfl Lv) pa_nil)))))) AI)
 (A5 (HX (L8 y33 PySem.F.slot_list_append PySem.F.type_list_append VO (A2 2 rfl ZG) (A3 (AW (A3 (A2 1 rfl Lv) (A3 (A2 0 rfl Hy) pa_nil))) pa_nil)) (AE rfl))
 (A5 (AJ (PW.pt (Cu (AH Ha (A2 0 rfl Hy) (A8 A9 (Bg g_WIDE QN DC) A4 (fun _ _=>rfl)) (AF _)) (Ct (AH Ky (A2 0 rfl Hy) (A8 A9 (Bg g_WIDE QN DC) A4 (fun _ _=>rfl)) (AF _))))) (A7 (AA (AW (A3 AR (A3 AR (A3 (A2 1 rfl Lv) pa_nil)))))) AI)
 (A7 (AA (AW (A3 AR (A3 (A2 0 rfl Hy) pa_nil)))))))),Al fun N1 e1=>?_⟩
 walk_at "rd7";rcases h with⟨rfl,q⟩|⟨i,rfl,q⟩
 ·rw[if_pos rfl];refine⟨by decide,fun r B=>?_⟩;have J:=AD B (HO.tup [V.str "refused",V.str "zero",pv]);exact q _ _ J (.tup A6 (.cons (.str _) (.cons (.str _) (.cons (hp.kp J.kp) .nil))))
 ·rw[if_neg (by intro z; cases z),e1];refine Al fun N2 e2=>?_;walk_at "rd7";refine⟨.inl ⟨rfl,_,SqL.of hl⟩,by decide,fun y hy=>?_⟩;have J:=AD hy (HO.tup [pv,V.int i]);have O:=J _ _ hl;refine⟨xs,O,hx,?_⟩;have Z:y≠l:=fun z=>by rw[z,hl] at hy; cases hy
  have k2:Kp (upd H y (HO.tup [pv,V.int i])) (upd (upd H y (HO.tup [pv,V.int i])) l (HO.lst (xs++[V.ref y]))):=Kp.set O;have sB:SameB l H (upd (upd H y (HO.tup [pv,V.int i])) l (HO.lst (xs++[V.ref y]))):=fun a o n e=>by rw[AB n]; exact J _ _ e
  have hU:(upd (upd H y (HO.tup [pv,V.int i])) l (HO.lst (xs++[V.ref y]))) l=some (.lst (xs++[V.ref y])):=A6;have dy:Dt (upd (upd H y (HO.tup [pv,V.int i])) l (HO.lst (xs++[V.ref y]))) (.ref y) (IN (p,i)):=.tup (by rw[AB Z]; exact A6) (.cons (hp.kp (J.kp.trans k2)) (.cons (.int _) .nil));have dp:=hp.kp (J.kp.trans k2);generalize upd (upd H y (HO.tup [pv,V.int i])) l (HO.lst (xs++[V.ref y]))=U at k2 sB hU dy dp |-;rw[e2];walk_at "rd7";have fin:∀(r:Addr) (o:List V),U r=none->Dt (upd U r (HO.tup o)) (.ref r) (BY i p).enc->Q (.ref r) (upd U r (HO.tup o)):=fun r o h1 h2=>by
   have Y:=AD h1 (HO.tup o);exact q _ _ _ (sB.trans (SameB.of Y)) (Y _ _ hU) (dy.kp Y.kp) h2
  refine⟨_,hI U,_,Ai (j:=0) rfl,_,rfl,?_⟩;split
  ·rename_i G;refine⟨by decide,fun r B=>fin r _ B ?_⟩;rw[BY,if_pos G];exact .tup A6 (.cons (.str _) (.cons (.str _) (.cons (dp.kp (AD B _).kp) .nil)))
  ·rename_i G;refine⟨_,hI U,_,Ai (j:=1) rfl,_,rfl,?_⟩;split
   ·rename_i M;refine⟨by decide,fun r B=>fin r _ B ?_⟩;rw[BY,if_neg G,if_pos M];exact .tup A6 (.cons (.str _) (.cons (.str _) (.cons (dp.kp (AD B _).kp) .nil)))
   ·rename_i M;refine⟨by decide,fun r B=>fin r _ B ?_⟩;rw[BY,if_neg G,if_neg M];exact .tup A6 (.cons (.str _) (.cons (.int _) .nil))
def KY(st:Stmt):Expr:=match defBody st with
 |[.Return (some (.Call _ [_,_,e] _ _)) _]=>e
 |[_,.Expr (.Call _ [_,_,e] _ _) _,_]=>e
 |_=>.Name "" ⟨0,0,0,0⟩
def Sj(q:Str)(e:Expr):LamD:=match e with
 |.Lambda ps b sc _=>⟨q,ps,b,sc⟩
 |_=>⟨q,{posonlyargs:=[],args:=[],vararg:=none,kwonlyargs:=[],kw_defaults:=[],kwarg:=none,defaults:=[]},.Name "" ⟨0,0,0,0⟩,{kind:=.function,names:=[],isGenerator:=false,isCoroutine:=false}⟩
def Sk(e:Expr):Pos:=match e with
 |.Lambda _ _ _ p=>p
 |_=>⟨0,0,0,0⟩
abbrev dR:LamD:=Sj ("run" ++ ".<locals>." ++ "<lambda>") (KY C4)
abbrev dT:LamD:=Sj ("traced" ++ ".<locals>." ++ "<lambda>") (KY BQ)
theorem jJ:∀y∈dR.scope.names,y.2≠.free:=by decide+kernel
theorem jK:LamScope ["worth","path"] [] [] dR.scope:=⟨rfl,rfl,rfl,by decide+kernel,by decide+kernel,by simp,by decide+kernel,fun y hy e=>absurd e (jJ y hy),by simp,by simp⟩
theorem jL:∀y∈dT.scope.names,y.2=.free->y.1 = "rows":=by decide+kernel
theorem jM(c:Addr):LamScope ["worth","path"] ["rows"] [("rows",c)] dT.scope:=by
 refine⟨rfl,rfl,rfl,by decide+kernel,by decide+kernel,by decide+kernel,by decide+kernel,fun y hy e=>⟨c,?_⟩,fun x y c' h1 h2=>?_,fun x c' h=>?_⟩
 ·rw[jL y hy e];rfl
 ·have key:∀z:Str,([("rows",c)]:List (Str×Addr)).lookup z=some c'->z = "rows":=fun z h=>by
   by_cases e:z = "rows"
   ·exact e
   ·have:(z==("rows" : Str))=false:=by simpa using e
    rw[List.lookup,this] at h;cases h
  rw[key x h1,key y h2]
 ·rw[y0k] at h;cases h;rfl
def SetOk(f:Addr)(lo:Option Addr)(H:Hp):Prop:=match lo with
 |none=>∃c',H f=some (CB dR [] f c')/\H c'=some (Bq c' dR.qual)
 |some l=>∃c' c o,H f=some (CB dT [("rows",c)] f c')/\H c'=some (Bq c' dT.qual)/\H c=some (At c o)/\o.data=.cell (some (.ref l))
theorem SetOk.lam(h:SetOk f lo H):IsLam H f:=by
 cases lo with
 |none=>obtain⟨c',e,_⟩:=h; exact⟨_,_,_,e⟩
 |some l=>obtain⟨c',c,o,e,_⟩:=h; exact⟨_,_,_,e⟩
def KpE(H H':Hp):Prop:=∀a q,H a=some (.ext q)->H' a=some (.ext q)
theorem Same.kpE(s:Same H H'):KpE H H':=fun a q h=>s _ _ h
theorem SetOk.kp(h:SetOk f lo H)(k:KpE H H'):SetOk f lo H':=by
 cases lo with
 |none=>obtain⟨c',e,q⟩:=h; exact⟨c',k _ _ e,k _ _ q⟩
 |some l=>obtain⟨c',c,o,e,q,B,z⟩:=h; exact⟨c',c,o,k _ _ e,k _ _ q,k _ _ B,z⟩
def Gr(lo:Option Addr)(H H':Hp)(q:List RI):Prop:=(∀a o,some a≠lo->H a=some o->H' a=some o)/\∀l,lo=some l->∃xs ys,H l=some (.lst xs)/\H' l=some (.lst (xs++ys))/\DtA H' ys (q.map IN)
def HasL(lo:Option Addr)(H:Hp)(n:Nat):Prop:=∀l,lo=some l->∃xs,H l=some (.lst xs)/\xs.length+n<yn
theorem Gr.kp(h:Gr lo H H' rs):Kp H H':=by
 cases lo with
 |none=>exact⟨fun b xs e=>h.1 b _ (by simp) e,fun b xs e=>⟨xs,h.1 b _ (by simp) e⟩⟩
 |some l=>
  obtain⟨xs,ys,z,q,_⟩:=h.2 l rfl;exact SameB.kp (fun a o n e=>h.1 a o (by simpa using n) e) z q
theorem Gr.kpE(h:Gr lo H H' rs):KpE H H':=fun a B e=>by
 refine h.1 a _ (fun z=>?_) e;obtain⟨xs,ys,q,_⟩:=h.2 a z.symm;rw[q] at e;cases e
theorem Gr.keep(h:Gr lo H H' rs)(e:H a=some o)(n:∀xs,o≠.lst xs):H' a=some o:=h.1 a o (fun z=>by
 obtain⟨xs,ys,q,_⟩:=h.2 a z.symm
 rw[q] at e
 cases e
 exact n _ rfl) e
theorem Gr.trans(a:Gr lo H H1 r1)(b:Gr lo H1 H2 r2):Gr lo H H2 (r1++r2):=by
 refine⟨fun x o n e=>b.1 x o n (a.1 x o n e),fun l q=>?_⟩;obtain⟨xs,ys,J,G,d1⟩:=a.2 l q;obtain⟨B,zs,z,F,d2⟩:=b.2 l q;rw[G] at z;cases z;exact⟨xs,ys++zs,J,by rw[F,y22],by rw[y02]; exact(d1.kp b.kp).append d2⟩
theorem Gr.same(s:Same H H')(h:HasL lo H n):Gr lo H H' []:=by
 refine⟨fun a o _ e=>s a o e,fun l q=>?_⟩;obtain⟨xs,e,_⟩:=h l q;exact⟨xs,[],e,by rw[y0n]; exact s _ _ e,.nil⟩
theorem HasL.on(h:HasL lo H n)(g:Gr lo H H' rs)(k:rs.length+m<=n):HasL lo H' m:=fun l q=>by
 obtain⟨xs,e,z⟩:=h l q;obtain⟨F,ys,B,G,d⟩:=g.2 l q;rw[e] at B;cases B;have:=d.length;rw[y4] at this;exact⟨_,G,by rw[yt]; lia⟩
theorem HasL.same(h:HasL lo H n)(s:Same H H'):HasL lo H' n:=fun l q=>by
 obtain⟨xs,e,z⟩:=h l q;exact⟨xs,s _ _ e,z⟩
theorem HasL.mono(h:HasL lo H n)(k:m<=n):HasL lo H m:=fun l q=>by
 obtain⟨xs,e,z⟩:=h l q;exact⟨xs,e,by lia⟩
theorem jN(H:Hp):BC [] H=H:=by funext b; exact BP (by simp)
theorem jO(H H':Hp):BW [] H H'=H':=by funext b; exact Dq (by simp)
theorem jP:dR.scope.names.lookup ("settled" : Str)=some NameKind.globalImplicit:=by decide+kernel
theorem jQ:dT.scope.names.lookup ("settled" : Str)=some NameKind.globalImplicit:=by decide+kernel
theorem jR:Vis dR.scope "worth":=Or.inl (by decide+kernel)
theorem jS:Vis dR.scope "path":=Or.inl (by decide+kernel)
theorem jT:Vis dT.scope "worth":=Or.inl (by decide+kernel)
theorem jU:Vis dT.scope "path":=Or.inl (by decide+kernel)
theorem jV:Vis dT.scope "rows":=Or.inr (Or.inr (by decide+kernel))
theorem jW(B:us.length=2):∀fd:y0v,fd.params=dR.params->fd.defaults=.none->fd.kwdefaults=.none->fd.scope=dR.scope->bindArgs fd ⟨us,[]⟩=pure ((["worth","path"]:List Str).zip us):=by
 intro fd h1 h2 G F;obtain⟨name,qual,params,body,scope,q,z,defaults,kwdefaults,J,M,Y,code,ct,O⟩:=fd;cases h1;cases h2;cases G;cases F;match us,B with
 |[_,_],_=>rfl
theorem jX(B:us.length=2):∀fd:y0v,fd.params=dT.params->fd.defaults=.none->fd.kwdefaults=.none->fd.scope=dT.scope->bindArgs fd ⟨us,[]⟩=pure ((["worth","path"]:List Str).zip us):=by
 intro fd h1 h2 G F;obtain⟨name,qual,params,body,scope,q,z,defaults,kwdefaults,J,M,Y,code,ct,O⟩:=fd;cases h1;cases h2;cases G;cases F;match us,B with
 |[_,_],_=>rfl
theorem Sl:DBF "settled":=by decide+kernel
theorem Sm(c_settled:Callee P w K mg base "settled" ["worth","path","rows"] 1 DT) {H:Hp} {x pv:V} {p:List Int} {Q:VK} {c':Addr} (hf:H f=some (CB dR [] f c')) (hc:H c'=some (Bq c' dR.qual)) (G:Dt H pv (pathD p))
  (q:∀l,H l=none->DT [x,pv,.ref l] (upd H l (.lst [])) Q E0):GP P w K mg base 2 f H [x,pv] Q:=by
 intro A outer s us hr F r;have B:us.length=2:=r.length.symm;refine PQ (k:=1) (ps:=["worth","path"]) (fr:=[]) (ws:=[]) jK hr F hf hc rfl r rfl (by simp) (by simp) (jW B) fun z=>?_;refine⟨_,AC c_settled z (by lia) (A3 (AQ (i:=0) rfl jR QE Pt) (A3 (AQ (i:=1) rfl jS Du Ds) (A3 (Dh pa_nil) pa_nil))) jP Sl,?_⟩;rw[y20,jN];simp only[jO,yp,false_implies,implies_true,true_implies];walk_at "rd7";refine⟨by decide,fun l B=>q l B⟩
theorem Sn(c_settled:Callee P w K mg base "settled" ["worth","path","rows"] 1 DT) {H:Hp} {x pv:V} {p:List Int} {Q:VK} {c' c l:Addr} {o:Obj} (hf:H f=some (CB dT [("rows",c)] f c')) (hc:H c'=some (Bq c' dT.qual)) (z:H c=some (At c o)) (G:o.data=.cell (some (.ref l))) (O:Dt H pv (pathD p))
  (q:DT [x,pv,.ref l] (BC [c] H) (fun v H'=>H' c=none->Q v (BW [c] H H')) E0):GP P w K mg base 2 f H [x,pv] Q:=by
 intro A outer s us hr M r;have J:us.length=2:=r.length.symm;refine PQ (k:=1) (ps:=["worth","path"]) (fr:=["rows"]) (ws:=[.ref l]) (jM c) hr M hf hc rfl r rfl (fun Y B=>?_) (fun i x v h1 h2=>?_) (jX J) fun F=>?_
 ·rw[yc,y20,y0k] at B;subst B;exact⟨o,_,z,G⟩
 ·match i,h1,h2 with
  |0,h1,h2=>
   cases h1;cases h2;exact⟨c,o,_,rfl,z,G,rfl⟩
  |i+1,h1,_=>simp at h1
 refine⟨_,AC c_settled F (by lia) (A3 (AQ (i:=0) rfl jT QE Pt) (A3 (AQ (i:=1) rfl jU Du Ds) (A3 (AQ (i:=2) rfl jV YI XS) pa_nil))) jQ Sl,?_⟩;rw[yc,y20];simp only[y0k,forall_eq];walk_at "rd7";exact q
theorem NE(hc:H c=some (At c o)):Kp H (BC [c] H):=by
 have out:∀{b:Addr} {u:HO},H b=some u->(∀ q,u≠.ext q)->BC [c] H b=some u:=fun {b u} e n=>by
  rw[BP fun z=>by
   rw[List.mem_singleton.mp z,hc] at e
   cases e
   exact n _ rfl]
  exact e
 exact⟨fun b xs e=>out e fun q z=>(by cases z),fun b xs e=>⟨xs,out e fun q z=>(by cases z)⟩⟩
theorem HM(q:H' c=none)(e:H' b=some u):BW [c] H H' b=some u:=by
 rw[Dq fun z=>by
  rw[List.mem_singleton.mp z,q] at e
  cases e]
 exact e
theorem NF(q:H' c=none):Kp H' (BW [c] H H'):=⟨fun b xs e=>HM q e,fun b xs e=>⟨xs,HM q e⟩⟩
theorem NG(c_settled:Callee P w K mg base "settled" ["worth","path","rows"] 1 DT) {H:Hp} {pv:V} {p:List Int} {i:Int} {lo:Option Addr} {Q:VK} (hS:SetOk f lo H) (hL:HasL lo H 1) (M:Dt H pv (pathD p))
  (q:∀r H',Gr lo H H' [(p,i)]->Dt H' r (BY i p).enc->Q r H'):GP P w K mg base 2 f H [.int i,pv] Q:=by
 cases lo with
 |none=>
  obtain⟨c',hf,hc⟩:=hS;refine Sm c_settled hf hc M fun l B=>?_;have s1:=AD B (HO.lst []);refine⟨_,pv,p,l,[],rfl,M.kp s1.kp,A6,by decide,.inr ⟨i,rfl,fun r y H' Y G dy dr=>q r H' ⟨fun a o _ e=>Y a o (Ag e B) (s1 _ _ e),fun l' z=>by cases z⟩ dr⟩⟩
 |some l=>
  obtain⟨c',c,o,hf,hc,F,ho⟩:=hS;obtain⟨xs,B,hz⟩:=hL l rfl;have Z:l≠c:=fun z=>by rw[z,F] at B; unfold At at B; cases B
  refine Sn c_settled hf hc F ho M ⟨_,pv,p,l,xs,rfl,M.kp (NE F),by rw[BP (by simpa using Z)]; exact B,by lia,.inr ⟨i,rfl,fun r y H' Y G dy dr O=>?_⟩⟩;refine q r _ ⟨fun a u na e=>?_,fun l2 e2=>?_⟩ (dr.kp (NF O))
  ·by_cases J:a=c
   ·subst J;rw[LV (by simp)];exact e
   ·exact HM O (Y a u (fun z=>na (by rw[z])) (by rw[BP (by simpa using J)]; exact e))
  ·cases e2;exact⟨xs,[y],B,HM O G,.cons (dy.kp (NF O)) .nil⟩
theorem jY(c_settled:Callee P w K mg base "settled" ["worth","path","rows"] 1 DT) {H:Hp} {pv:V} {p:List Int} {lo:Option Addr} {Q:VK} (hS:SetOk f lo H) (hL:HasL lo H 1) (O:Dt H pv (pathD p))
  (q:∀r H',Gr lo H H' []->Dt H' r (Rs.ref "zero" p).enc->Q r H'):GP P w K mg base 2 f H [.non,pv] Q:=by
 cases lo with
 |none=>
  obtain⟨c',hf,hc⟩:=hS;refine Sm c_settled hf hc O fun l B=>?_;have s1:=AD B (HO.lst []);exact⟨_,pv,p,l,[],rfl,O.kp s1.kp,A6,by decide,.inl ⟨rfl,fun r H' M dr=>q r H' (Gr.same (n:=0) (s1.trans M) fun l' z=>(by cases z)) dr⟩⟩
 |some l=>
  obtain⟨c',c,o,hf,hc,F,ho⟩:=hS;obtain⟨xs,B,hz⟩:=hL l rfl;have Y:l≠c:=fun z=>by rw[z,F] at B; unfold At at B; cases B
  have G:BC [c] H l=some (.lst xs):=by rw[BP (by simpa using Y)]; exact B
  refine Sn c_settled hf hc F ho O ⟨_,pv,p,l,xs,rfl,O.kp (NE F),G,by lia,.inl ⟨rfl,fun r H' M dr Z=>?_⟩⟩;refine q r _ ⟨fun a u na e=>?_,fun l2 e2=>?_⟩ (dr.kp (NF Z))
  ·by_cases J:a=c
   ·subst J;rw[LV (by simp)];exact e
   ·exact HM Z (M a u (by rw[BP (by simpa using J)]; exact e))
  ·cases e2;exact⟨xs,[],B,by rw[y0n]; exact HM Z (M _ _ G),.nil⟩
def evT(c:Cnt):T->List Int->Rs×List RI
 |.num i,p=>(BY i p,[(p,i)])
 |.nm x,p=>(BY ((Au c x).getD 0) p,[(p,(Au c x).getD 0)])
 |.op w a b,p=>match evT c a (p++[0]) with
  |(.ref u q,z)=>(.ref u q,z)
  |(.had x,z)=>match evT c b (p++[1]) with
   |(.ref u q,B)=>(.ref u q,z++B)
   |(.had y,B)=>if w=.quo/\y=0 then(.ref "zero" p,z++B) else(BY (w.worth x y) p,z++B++[(p,w.worth x y)])
abbrev Ref:=Str×List Int
abbrev Out:=Option Ref×Cnt×List RI
def Am(cond:Cnt->Rs×List RI)(body:Cnt->Out)(p:List Int):Nat->Cnt->Out
 |k,c=>match cond c with
  |(.ref u q,r)=>(some (u,q),c,r)
  |(.had v,r)=>if v=0 then(none,c,r) else match k with
   |0=>(some ("long",p),c,r)
   |k+1=>match body c with
    |(some e,B,z)=>(some e,B,r++z)
    |(none,B,z)=>match Am cond body p k B with
     |(e,G,F)=>(e,G,r++z++F)
mutual
def evD(p:List Int):D->Cnt->Out
 |.set x t,c=>match evT c t (p++[0]) with
  |(.ref u q,r)=>(some (u,q),c,r)
  |(.had v,r)=>(none,Ay c x v,r)
 |.ite t b F,c=>match evT c t (p++[0]) with
  |(.ref u q,r)=>(some (u,q),c,r)
  |(.had v,r)=>if v≠0 then(match evB (p++[1]) 0 b c with|(e,B,z)=>(e,B,r++z)) else(match evB (p++[2]) 0 F c with|(e,B,z)=>(e,B,r++z))
 |.whl t m b,c=>Am (fun c=>evT c t (p++[0])) (fun c=>evB (p++[1]) 0 b c) p m.toNat c
def evB(p:List Int)(k:Int):List D->Cnt->Out
 |[],c=>(none,c,[])
 |d::r,c=>match evD (p++[k]) d c with
  |(some e,q,w)=>(some e,q,w)
  |(none,q,w)=>match evB p (k+1) r q with
   |(e,B,z)=>(e,B,w++z)
end
def Has(c:Cnt)(g:List Str):Prop:=∀x∈g,∃v,Au c x=some v/\-32768<=v/\v<=32767
theorem NH(h:BY i p=.had v):v=i/\-32768<=i/\i<=32767:=by
 unfold BY at h;split at h
 ·cases h
 ·split at h
  ·cases h
  ·cases h;lia
theorem So:∀(t:T) (p:List Int) {v:Int} {r:List RI},evT c t p=(.had v,r)->-32768<=v/\v<=32767
 |.num i,p,v,r,h=>by
  rw[evT] at h;obtain⟨rfl,h1,h2⟩:=NH (congrArg Prod.fst h);exact⟨h1,h2⟩
 |.nm x,p,v,r,h=>by
  rw[evT] at h;obtain⟨rfl,h1,h2⟩:=NH (congrArg Prod.fst h);exact⟨h1,h2⟩
 |.op w a b,p,v,r,h=>by
  rw[evT] at h;split at h
  ·cases h
  ·split at h
   ·cases h
   ·split at h
    ·cases h
    ·obtain⟨rfl,h1,h2⟩:=NH (congrArg Prod.fst h);exact⟨h1,h2⟩
theorem Sq{c:Cnt}{w:Wd}{a b:T}{p:List Int}{u:Str}{q:List Int}{r:List RI}(h:evT c a (p++[0])=(.ref u q,r)):evT c (.op w a b) p=(.ref u q,r):=by rw[evT,h]
theorem NI{c:Cnt}{w:Wd}{a b:T}{p:List Int}{u:Str}{q:List Int}{x:Int}{r s:List RI}(h:evT c a (p++[0])=(.had x,r))(h2:evT c b (p++[1])=(.ref u q,s)):evT c (.op w a b) p=(.ref u q,r++s):=by rw[evT,h]; simp only[h2]
theorem NJ(h:evT c a (p++[0])=(.had x,r))(h2:evT c b (p++[1])=(.had 0,s)):evT c (.op .quo a b) p=(.ref "zero" p,r++s):=by rw[evT,h]; simp[h2]
theorem NK{c:Cnt}{w:Wd}{a b:T}{p:List Int}{x y:Int}{r s:List RI}(h:evT c a (p++[0])=(.had x,r))(h2:evT c b (p++[1])=(.had y,s))(q:¬ (w=.quo/\y=0)):evT c (.op w a b) p=(BY (w.worth x y) p,r++s++[(p,w.worth x y)]):=by rw[evT,h]; simp only[h2]; rw[if_neg q]
theorem jZ(c:Cnt)(w:Wd)(a b:T)(p:List Int):(evT c a (p++[0])).2.length<=(evT c (.op w a b) p).2.length:=by
 cases h:evT c a (p++[0]) with
 |mk F J=>
  cases F with
  |ref u q=>rw[Sq h]; exact yb _
  |had x=>
   cases h2:evT c b (p++[1]) with
   |mk B G=>
    cases B with
    |ref u q=>rw[NI h h2]; simp
    |had y=>
     by_cases z:w=.quo/\y=0
     ·obtain⟨rfl,rfl⟩:=z;rw[NJ h h2]; simp
     ·rw[NK h h2 z]; simp only[yt,yh,y0b]; lia
theorem ja{c:Cnt}{w:Wd}{a b:T}{p:List Int}{x:Int}{r:List RI}(h:evT c a (p++[0])=(.had x,r)):r.length+(evT c b (p++[1])).2.length<=(evT c (.op w a b) p).2.length:=by
 cases h2:evT c b (p++[1]) with
 |mk B F=>
  cases B with
  |ref u q=>rw[NI h h2]; simp
  |had y=>
   by_cases z:w=.quo/\y=0
   ·obtain⟨rfl,rfl⟩:=z;rw[NJ h h2]; simp
   ·rw[NK h h2 z]; simp only[yt,yh,y0b]; lia
def EK(n:Nat):Sp:=fun vs H Q _=>∃(v:V) (t:T) (pv:V) (p:List Int) (d f:Addr) (c:Cnt) (g:List Str) (lo:Option Addr),vs=[v,pv,.ref d,.ref f]/\Dt H v t.enc/\Dt H pv (pathD p)/\t.ok g n/\n<=5/\p.length+n<=100/\H d=some (.dK (kvC c))/\Has c g/\SetOk f lo H/\HasL lo H ((evT c t p).2.length+1)/\
 ∀(r:V) (H':Hp),Gr lo H H' (evT c t p).2->Dt H' r (evT c t p).1.enc->Q r H'
theorem jb:FnOk P w K mg base CX0 k f fd [n1,n2,n3,n4] (EK 0):=by
 have q:∀vs H Q E,¬ EK 0 vs H Q E:=fun vs H Q E h=>by
  obtain⟨v,t,pv,p,d,f,c,g,lo,_,_,_,h,_⟩:=h;exact h.elim
 exact⟨fun vs H Q E h=>absurd h (q vs H Q E),fun A outer s H args us vs Q E _ _ _ _ h=>absurd h (q vs H Q E)⟩
theorem C7:Im K (.str x) (.str z) H (decide (x=z)):=.inl ⟨rfl,by simp⟩
theorem jc{t:T} (h:t.word = "num"):∃i,t=.num i:=by
 cases t with
 |num i=>exact⟨i,rfl⟩
 |nm x=>exact absurd h (show ¬ ("name" : Str) = "num" by decide+kernel)
 |op w a b=>exact absurd h (show ¬ w.str = "num" by cases w<;>decide+kernel)
theorem jd{t:T} (h:t.word = "name"):∃x,t=.nm x:=by
 cases t with
 |num i=>exact absurd h (show ¬ ("num" : Str) = "name" by decide+kernel)
 |nm x=>exact⟨x,rfl⟩
 |op w a b=>exact absurd h (show ¬ w.str = "name" by cases w<;>decide+kernel)
theorem je{t:T} (h1:¬ t.word = "num") (h2:¬ t.word = "name"):∃w a b,t=.op w a b:=by
 cases t with
 |num i=>exact absurd rfl h1
 |nm x=>exact absurd rfl h2
 |op w a b=>exact⟨w,a,b,rfl⟩
theorem FM{H:Hp}{v:V}{r:Rs}(h:Dt H v r.enc):∃a,v=.ref a/\((∃i,r=.had i/\H a=some (.tup [.str "had",.int i]))\/∃u q y,r=.ref u q/\H a=some (.tup [.str "refused",.str u,y])):=by
 cases r with
 |had i=>
  rw[Rs.enc] at h;obtain⟨a,J,G,rfl,ha,B,z⟩:=DO h;cases B; cases z;exact⟨a,rfl,.inl ⟨i,rfl,ha⟩⟩
 |ref u q=>
  rw[Rs.enc] at h;obtain⟨a,J,G,F,rfl,ha,B,z,M⟩:=EG h;cases B; cases z;exact⟨a,rfl,.inr ⟨u,q,F,rfl,ha⟩⟩
theorem KZ:¬ ("had" : Str) = "refused":=by decide+kernel
theorem jf{n:Nat} (F:Fun K "reckon" "reckon" Bm f fd) (c_worth_of:Callee P w K mg base "worth_of" ["word","one","other"] 1 IH) (c_settled:Callee P w K mg base "settled" ["worth","path","rows"] 1 DT) (c_reckon:Callee P w K mg base "reckon" ["term","path","names","settle"] (n+2) (EK n)):FnOk P w K mg base CX0 (n+3) f fd ["term","path","names","settle"] (EK (n+1)):=by
 refine F.ok sc_reckon (fun vs H Q E h=>?_) (fun lY A outer s H vs Q E hr h=>?_)
 ·obtain⟨v,t,pv,p,d,f,c,g,lo,rfl,_⟩:=h;rfl
 obtain⟨v,t,pv,p,d,fs,c,g,lo,rfl,hv,hp,ln,hn,lX,hd,hh,hS,hL,q⟩:=h;obtain⟨va,y,tx,rfl,J⟩:=jG hv;refine⟨_,(A5 (AJ (AH (gEq hr.units) (A8 A9 (A2 0 rfl Dz) A4 (fun _ _=>rfl)) AR (AF _)) (A7 (AA (J3 (i:=3) (k:=2) rfl JZ hr (by lia) (A3 (A8 A9 (A2 0 rfl Dz) A4 (fun _ _=>rfl)) (A3 (A2 1 rfl Ge) pa_nil)) JU JL))) AI)
 (A5 (AJ (AH (gEq hr.units) (A8 A9 (A2 0 rfl Dz) A4 (fun _ _=>rfl)) AR (AF _)) (A7 (AA (J3 (i:=3) (k:=2) rfl JZ hr (by lia) (A3 (Ar hr.units1 (A2 2 rfl M8) (A8 A9 (A2 0 rfl Dz) A4 (fun _ _=>rfl)) (fun _ _=>rfl)) (A3 (A2 1 rfl Ge) pa_nil)) JU JL))) AI)
 (A5 (AK (i:=4) sc_reckon.nd rfl Zm (AC c_reckon hr (by lia) (A3 (A8 A9 (A2 0 rfl Dz) A4 (fun _ _=>rfl)) (A3 (AT Bf (A2 1 rfl Ge) (AW (A3 A4 pa_nil))) (A3 (A2 2 rfl M8) (A3 (A2 3 rfl Qc) pa_nil)))) Qb JS) (AE rfl))
 (A5 (AJ (AH (gEq hr.units) (A8 A9 (A2 4 rfl M9) A4 (fun _ _=>rfl)) AR (AF _)) (A7 (AA (A2 4 rfl M9))) AI)
 (A5 (AK (i:=5) sc_reckon.nd rfl Zn (AC c_reckon hr (by lia) (A3 (A8 A9 (A2 0 rfl Dz) A4 (fun _ _=>rfl)) (A3 (AT Bf (A2 1 rfl Ge) (AW (A3 A4 pa_nil))) (A3 (A2 2 rfl M8) (A3 (A2 3 rfl Qc) pa_nil)))) Qb JS) (AE rfl))
 (A5 (AJ (AH (gEq hr.units) (A8 A9 (A2 5 rfl JY) A4 (fun _ _=>rfl)) AR (AF _)) (A7 (AA (A2 5 rfl JY))) AI)
 (A5 (AJ (PW.pt (HV (AH (gEq hr.units) (A8 A9 (A2 0 rfl Dz) A4 (fun _ _=>rfl)) AR (AF _)) (HU (AH G6 (A8 A9 (A2 5 rfl JY) A4 (fun _ _=>rfl)) A4 (AF _))))) (A7 (AA (J3 (i:=3) (k:=2) rfl JZ hr (by lia) (A3 AY (A3 (A2 1 rfl Ge) pa_nil)) JU JL))) AI)
 (A7 (AA (J3 (i:=3) (k:=2) rfl JZ hr (by lia) (A3 (AC c_worth_of hr (by lia) (A3 (A8 A9 (A2 0 rfl Dz) A4 (fun _ _=>rfl)) (A3 (A8 A9 (A2 4 rfl M9) A4 (fun _ _=>rfl)) (A3 (A8 A9 (A2 5 rfl JY) A4 (fun _ _=>rfl)) pa_nil))) Zl Ls) (A3 (A2 1 rfl Ge) pa_nil)) JU JL)))))))))),Al fun N1 e1=>?_⟩
 walk_at "rd7";refine⟨_,SqT.of J,_,BU,_,C7,?_⟩;split
 ·rename_i hw;obtain⟨i,rfl⟩:=jc (of_decide_eq_true hw);rw[T.enc] at hv;obtain⟨a2,x0,x1,ea,G,t0,t1⟩:=DO hv;cases ea;cases t1;rw[G] at J;cases J;rw[evT] at hL q;refine⟨hS.lam,_,SqT.of G,_,Ai (j:=1) rfl,hS.lam,?_⟩;exact NG c_settled hS (hL.mono (by simp)) hp q
 rename_i lR;rw[e1];refine Al fun N2 e2=>?_;walk_at "rd7";refine⟨_,SqT.of J,_,BU,_,C7,?_⟩;split
 ·rename_i hw;obtain⟨x,rfl⟩:=jd (of_decide_eq_true hw);rw[T.enc] at hv;obtain⟨a2,x0,x1,ea,G,t0,t1⟩:=DO hv;cases ea;cases t1;rw[G] at J;cases J;rw[evT] at hL q;obtain⟨w,lg,_⟩:=hh x ln;rw[lg] at hL q;have hg:DGet H d (.str x) (some (.int w)):=by
   have:=DGet.k (k:=Sum.inr x) hd;rw[Sg,lg] at this;exact this
  refine⟨hS.lam,_,SqT.of G,_,Ai (j:=1) rfl,_,hg,hS.lam,?_⟩;exact NG c_settled hS (hL.mono (by simp)) hp q
 rename_i lg;obtain⟨wd,ta,tb,rfl⟩:=je (fun z=>lR (decide_eq_true z)) fun z=>lg (decide_eq_true z);rw[e2];refine Al fun N3 e3=>?_;walk_at "rd7";have lW:=hv;rw[T.enc] at hv;obtain⟨a2,x0,xa,xb,ea,G,t0,da,db⟩:=EG hv;cases ea;cases t0;clear J;refine⟨_,SqT.of G,_,Ai (j:=1) rfl,by decide,fun p1 h1=>?_⟩;have s1:=AD h1 (HO.tup [V.int 0]);refine FK (hp.kp s1.kp) FL (by simp; lia) fun z H1 s2 dz=>?_;have Y:=s1.trans s2;have l1:=jZ c wd ta tb p;refine⟨xa,ta,z,_,d,fs,c,g,lo,rfl,da.kp Y.kp,dz,ln.1,by lia,by simp; lia,Y _ _ hd,hh,hS.kp (Same.kpE Y),(hL.same Y).mono (by lia),fun r1 H2 g1 lq=>?_⟩;have G1:Gr lo H H2 (evT c ta (p++[0])).2:=(Gr.same Y hL).trans g1;clear g1 s1 s2 Y;obtain⟨b1,rfl,M⟩:=FM lq;rcases Z:evT c ta (p++[0]) with⟨r1,w1⟩;rw[Z] at G1 lq M;rw[e3];refine Al fun N4 e4=>?_;walk_at "rd7";rcases M with⟨i1,rfl,M⟩|⟨u,qq,y1,rfl,M⟩;rotate_left
 ·refine⟨_,SqT.of M,_,BU,_,C7,?_⟩;rw[if_pos (decide_eq_true rfl)];rw[Sq Z] at q;exact q _ _ G1 lq
 refine⟨_,SqT.of M,_,BU,_,C7,?_⟩;rw[if_neg (by rw[decide_eq_true_eq]; exact KZ)];have ly:=G1.keep G (by intro xs z; cases z);have lT:=G1.keep hd (by intro xs z; cases z);have lu:=hp.kp G1.kp;have lV:=db.kp G1.kp;have lP:=hS.kp G1.kpE;have l2:=ja (w:=wd) (b:=tb) Z;have lj:HasL lo H2 ((evT c tb (p++[1])).2.length+1):=hL.on G1 (by show w1.length+_<=_; lia);rw[e4];refine Al fun N5 e5=>?_;walk_at "rd7";refine⟨_,SqT.of ly,_,Ai (j:=2) rfl,by decide,fun p2 h2=>?_⟩;have s3:=AD h2 (HO.tup [V.int 1]);refine FK (lu.kp s3.kp) FL (by simp; lia) fun z2 H3 s4 lU=>?_;have O:=s3.trans s4;refine⟨xb,tb,z2,_,d,fs,c,g,lo,rfl,lV.kp O.kp,lU,ln.2,by lia,by simp; lia,O _ _ lT,hh,lP.kp (Same.kpE O),lj.same O,fun r2 H4 g2 lp=>?_⟩;have G2:Gr lo H2 H4 (evT c tb (p++[1])).2:=(Gr.same O lj).trans g2;clear g2 s3 s4 O;obtain⟨b2,rfl,B⟩:=FM lp;rcases lh:evT c tb (p++[1]) with⟨r2,w2⟩;rw[lh] at G2 lp B lj;have lv:=G2.keep M (by intro xs z; cases z);have lx:=G2.keep ly (by intro xs z; cases z);have ls:=lu.kp G2.kp;have lc:=lP.kp G2.kpE;have lr:=G1.trans G2;rw[e5];refine Al fun N6 e6=>?_;walk_at "rd7";rcases B with⟨i2,rfl,B⟩|⟨u,qq,y1,rfl,B⟩;rotate_left
 ·refine⟨_,SqT.of B,_,BU,_,C7,?_⟩;rw[if_pos (decide_eq_true rfl)];rw[NI Z lh] at q;exact q _ _ lr lp
 refine⟨_,SqT.of B,_,BU,_,C7,?_⟩;rw[if_neg (by rw[decide_eq_true_eq]; exact KZ)];have lQ:HasL lo H4 1:=lj.on G2 (yb _);have lg:=So tb (p++[1]) lh;rw[e6];refine Al fun N7 e7=>?_;walk_at "rd7";refine⟨_,SqT.of lx,_,BU,_,C7,?_⟩;have lm:(wd=.quo->i2≠0)->N7 [some (V.ref va),some pv,some (V.ref d),some (V.ref fs),some (V.ref b1),some (V.ref b2)] H4:=fun hq=>by
  rw[e7];walk_at "rd7";rw[NK Z lh (fun z=>hq z.1 z.2)] at q;refine⟨lc.lam,_,SqT.of lx,_,BU,_,SqT.of lv,_,Ai (j:=1) rfl,_,SqT.of B,_,Ai (j:=1) rfl,wd,i1,i2,rfl,hq,by lia,?_⟩;refine⟨lc.lam,NG c_settled lc lQ ls fun r H' g dr=>q r H' (lr.trans g) dr⟩
 split
 ·rename_i hq;have lS:wd=.quo:=by
   have:=of_decide_eq_true hq;cases wd<;>first|rfl|exact absurd this (by decide+kernel)
  subst lS;refine⟨_,SqT.of B,_,Ai (j:=1) rfl,_,rfl,?_⟩;split
  ·rename_i hz;subst hz;rw[NJ Z lh] at q;refine⟨lc.lam,lc.lam,jY c_settled lc lQ ls fun r H' g dr=>q r H' ?_ dr⟩;have:=lr.trans g;rw[y0n] at this;exact this
  ·rename_i hz;exact lm fun _=>hz
 ·rename_i hq;exact lm fun z=>absurd (decide_eq_true (by rw[z]; rfl)) hq
theorem Sr(d:Df K mg "reckon" Bm ["term","path","names","settle"] f fd) (c_worth_of:Callee P w K mg base "worth_of" ["word","one","other"] 1 IH) (c_settled:Callee P w K mg base "settled" ["worth","path","rows"] 1 DT):∀n:Nat,Callee P w K mg base "reckon" ["term","path","names","settle"] (n+2) (EK n)
 |0=>d.callee jb
 |n+1=>d.callee (jf d.F c_worth_of c_settled (Sr d c_worth_of c_settled n))
def Gd(d:Addr)(lo:Option Addr)(H H':Hp)(q:List RI):Prop:=(∀a o,a≠d->some a≠lo->H a=some o->H' a=some o)/\∀l,lo=some l->∃xs ys,H l=some (.lst xs)/\H' l=some (.lst (xs++ys))/\DtA H' ys (q.map IN)
theorem Gr.gd(h:Gr lo H H' rs):Gd d lo H H' rs:=⟨fun a o _ n e=>h.1 a o n e,h.2⟩
theorem Gd.keep(h:Gd d lo H H' rs)(hd:H d=some (.dK k))(e:H a=some o)(B:∀xs,o≠.lst xs)(q:∀k,o≠.dK k):H' a=some o:=h.1 a o (fun z=>by
 rw[z,hd] at e
 cases e
 exact q _ rfl) (fun z=>by
 obtain⟨xs,ys,F,_⟩:=h.2 a z.symm
 rw[F] at e
 cases e
 exact B _ rfl) e
theorem Gd.kp(h:Gd d lo H H' rs)(hd:H d=some (.dK k)):Kp H H':=by
 refine⟨fun b xs e=>h.keep hd e (fun _ z=>by cases z) (fun _ z=>by cases z),fun b xs e=>?_⟩;by_cases hb:some b=lo
 ·obtain⟨q,ys,F,B,_⟩:=h.2 b hb.symm;exact⟨_,B⟩
 ·exact⟨xs,h.1 b _ (fun z=>by rw[z,hd] at e; cases e) hb e⟩
theorem Gd.kpE(h:Gd d lo H H' rs)(hd:H d=some (.dK k)):KpE H H':=fun a q e=>h.keep hd e (fun _ z=>by cases z) fun _ z=>by cases z
theorem Gd.trans(a:Gd d lo H H1 r1)(b:Gd d lo H1 H2 r2)(hd:H1 d=some (.dK k)):Gd d lo H H2 (r1++r2):=by
 refine⟨fun x o z q e=>b.1 x o z q (a.1 x o z q e),fun l B=>?_⟩;obtain⟨xs,ys,O,M,d1⟩:=a.2 l B;obtain⟨G,zs,F,J,d2⟩:=b.2 l B;rw[M] at F;cases F;exact⟨xs,ys++zs,O,by rw[J,y22],by rw[y02]; exact(d1.kp (b.kp hd)).append d2⟩
theorem Gd.put(h:Gr lo H H' rs)(hd:H' d=some (.dK k)):Gd d lo H (upd H' d (.dK e)) rs:=by
 refine⟨fun a o F B z=>by rw[AB F]; exact h.1 a o B z,fun l G=>?_⟩;obtain⟨xs,ys,J,q,d1⟩:=h.2 l G;exact⟨xs,ys,J,by rw[AB fun z=>by rw[z,hd] at q; cases q]; exact q,d1.kp (ED hd)⟩
theorem HasL.onD(h:HasL lo H n)(g:Gd d lo H H' rs)(k:rs.length+m<=n):HasL lo H' m:=fun l q=>by
 obtain⟨xs,e,z⟩:=h l q;obtain⟨F,ys,B,G,d⟩:=g.2 l q;rw[e] at B;cases B;have:=d.length;rw[y4] at this;exact⟨_,G,by rw[yt]; lia⟩
def KeyOk(c:Cnt):Prop:=(c.map (·.1)).Nodup/\∀p∈c,p.1∈pool
theorem KeyOk.put(h:KeyOk c)(hx:x∈pool)(v:Int):KeyOk (Ay c x v):=by
 refine⟨?_,fun p z=>?_⟩
 ·rw[Si];split
  ·exact h.1
  ·rename_i B;exact List.nodup_append.mpr ⟨h.1,by simp,fun a ha b hb e=>B (by rw[y0k] at hb; rw[<- hb,<- e]; exact ha)⟩
 ·have hm:p.1∈(Ay c x v).map (·.1):=List.mem_map.mpr ⟨p,z,rfl⟩;rw[Si] at hm;split at hm
  ·obtain⟨q,hq,e⟩:=List.mem_map.mp hm;rw[<- e]; exact h.2 q hq
  ·rcases List.mem_append.mp hm with hm|hm
   ·obtain⟨q,hq,e⟩:=List.mem_map.mp hm;rw[<- e]; exact h.2 q hq
   ·rw[y0k] at hm;rw[hm]; exact hx
theorem KeyOk.len(h:KeyOk c):c.length<=4:=by
 have:=Sf (c.map (·.1)) pool h.1 fun x hx=>by
  obtain⟨q,hq,e⟩:=List.mem_map.mp hx;rw[<- e]; exact h.2 q hq
 rw[y4] at this;exact this
theorem Ka:∀(c:Cnt) (x:Str) (v:Int),Au (Ay c x v) x=some v:=by
 intro c x v;unfold Ay;split
 ·rename_i h;induction c with
  |nil=>simp at h
  |cons p c z=>
   by_cases e:p.1=x
   ·simp[Au,e]
   ·have h':(c.any fun p=>decide (p.1=x))=true:=by simpa [e] using h
    have:=z h';unfold Au at this |-;rw[yc,if_neg e,y14];simpa [e] using this
 ·rename_i h;have B:∀p∈c,p.1≠x:=fun p q e=>h (List.any_eq_true.mpr ⟨p,q,decide_eq_true e⟩);unfold Au;rw[List.find?_append,List.find?_eq_none.mpr (fun p q=>by simpa using B p q)];simp
theorem NL:∀(c:Cnt) {x y:Str} (v:Int),y≠x->Au (Ay c x v) y=Au c y:=by
 intro c x y v B;unfold Ay;split
 ·rename_i F;clear F;induction c with
  |nil=>rfl
  |cons p c G=>
   unfold Au at G |-;rw[yc,y14,y14];by_cases e:p.1=x
   ·rw[if_pos e];have:¬ p.1=y:=fun z=>B (z.symm.trans e);simpa [this] using G
   ·rw[if_neg e];by_cases J:p.1=y
    ·simp[J]
    ·simpa [J] using G
 ·unfold Au;rw[List.find?_append];cases hf:c.find? fun p=>decide (p.1=y) with
  |none=>simp[y0y B]
  |some q=>simp
theorem Has.put(h:Has c g)(h1 : -32768<=v)(h2:v<=32767):Has (Ay c x v) (g++[x]):=fun y hy=>by
 by_cases e:y=x
 ·rw[e,Ka];exact⟨v,rfl,h1,h2⟩
 ·rw[NL c v e];rcases List.mem_append.mp hy with hy|hy
  ·exact h y hy
  ·exact absurd (List.mem_singleton.mp hy) e
theorem Has.sub(h:Has c g)(s:Sub g' g):Has c g':=fun x hx=>h x (s x hx)
theorem Kb:∀{n:Nat} {t:T},T.ok pool n t->t.knows g=true->T.ok g n t
 |0,_,h,_=>h.elim
 |n+1,.num i,h,_=>h
 |n+1,.nm x,h,k=>show x∈g by simpa [T.knows] using k
 |n+1,.op w a b,h,k=>by
  rw[T.knows,yk] at k;exact⟨Kb h.1 k.1,Kb h.2 k.2⟩
mutual
theorem jg:∀(d:D) (p q:List Str),kbD p d=some q->Sub p q
 |.set x t,p,q,h=>by
  rw[kbD] at h;split at h
  ·cases h;exact fun y hy=>y2m _ hy
  ·cases h
 |.ite t b c,p,q,h=>by
  rw[kbD] at h;split at h
  ·cases hb:kbB p b with
   |none=>rw[hb] at h; cases h
   |some z=>
    cases hc:kbB p c with
    |none=>rw[hb,hc] at h; cases h
    |some q2=>
     rw[hb,hc] at h;cases h;exact fun y hy=>List.mem_filter.mpr ⟨IO b p z hb y hy,by simpa using IO c p q2 hc y hy⟩
  ·cases h
 |.whl t m b,p,q,h=>by
  rw[kbD] at h;split at h
  ·cases hb:kbB p b with
   |none=>rw[hb] at h; cases h
   |some z=>
    rw[hb] at h;cases h;exact Sub.refl p
  ·cases h
theorem IO:∀(b:List D) (p q:List Str),kbB p b=some q->Sub p q
 |[],p,q,h=>by
  rw[kbB] at h;cases h;exact Sub.refl p
 |d::r,p,q,h=>by
  rw[kbB] at h;cases hd:kbD p d with
  |none=>rw[hd] at h; cases h
  |some z=>
   rw[hd] at h;exact(jg d p z hd).trans (IO r z q h)
end
def NM(o:Option Ref)(H':Hp)(r:V):Prop:=match o with
 |none=>r=.non
 |some e=>Dt H' r (Rs.ref e.1 e.2).enc
def HN(n:Nat):Sp:=fun vs H Q _=>∃(v:V) (b:List D) (pv:V) (p:List Int) (d f:Addr) (c:Cnt) (g g':List Str) (lo:Option Addr),vs=[v,pv,.ref d,.ref f]/\Dt H v (.tup (Av b))/\Dt H pv (pathD p)/\okW n b/\n<=4/\p.length+2*n<=90/\kbB g b=some g'/\H d=some (.dK (kvC c))/\KeyOk c/\Has c g/\SetOk f lo H/\HasL lo H ((evB p 0 b c).2.2.length+1)/\
 ∀(r:V) (H':Hp),Gd d lo H H' (evB p 0 b c).2.2->H' d=some (.dK (kvC (evB p 0 b c).2.1))->NM (evB p 0 b c).1 H' r->Q r H'
def DU(ks:List Str)(n:Nat):Sp:=fun vs H Q _=>∃(v:V) (e:D) (pv:V) (p:List Int) (d f:Addr) (c:Cnt) (g g':List Str) (lo:Option Addr),vs=[v,pv,.ref d,.ref f]/\e.kind∈ks/\Dt H v e.enc/\Dt H pv (pathD p)/\Se n e/\n<=3/\p.length+2*n<=89/\kbD g e=some g'/\H d=some (.dK (kvC c))/\KeyOk c/\Has c g/\SetOk f lo H/\HasL lo H ((evD p e c).2.2.length+1)/\
 ∀(r:V) (H':Hp),Gd d lo H H' (evD p e c).2.2->H' d=some (.dK (kvC (evD p e c).2.1))->NM (evD p e c).1 H' r->Q r H'
theorem Kc(h:evT c t (p++[0])=(.ref u q,r)):evD p (.set x t) c=(some (u,q),c,r):=by rw[evD,h]
theorem Kd(h:evT c t (p++[0])=(.had v,r)):evD p (.set x t) c=(none,Ay c x v,r):=by rw[evD,h]
theorem jh(c:Cnt)(x:Str)(t:T)(p:List Int):(evD p (.set x t) c).2.2=(evT c t (p++[0])).2:=by
 rcases h:evT c t (p++[0]) with⟨r,w⟩;cases r with
 |had v=>rw[Kd h]
 |ref u q=>rw[Kc h]
theorem ji(h:evT c t (p++[0])=(.ref u q,r)):evD p (.ite t b b2) c=(some (u,q),c,r):=by rw[evD,h]
theorem jj(h:evT c t (p++[0])=(.had v,r))(hv:v≠0):evD p (.ite t b b2) c=((evB (p++[1]) 0 b c).1,(evB (p++[1]) 0 b c).2.1,r++(evB (p++[1]) 0 b c).2.2):=by rw[evD,h]; simp[hv]
theorem jk(h:evT c t (p++[0])=(.had 0,r)):evD p (.ite t b b2) c=((evB (p++[2]) 0 b2 c).1,(evB (p++[2]) 0 b2 c).2.1,r++(evB (p++[2]) 0 b2 c).2.2):=by rw[evD,h]; simp
theorem Ss(h:kbD g (.ite t b b2)=some g'):t.knows g=true/\(∃q,kbB g b=some q)/\∃q,kbB g b2=some q:=by
 rw[kbD] at h;split at h
 ·rename_i hk;cases hb:kbB g b with
  |none=>rw[hb] at h; cases h
  |some z=>
   cases hc:kbB g b2 with
   |none=>rw[hb,hc] at h; cases h
   |some q2=>exact⟨hk,⟨z,rfl⟩,q2,rfl⟩
 ·cases h
theorem Su(h:kbD g (.whl t m b)=some g'):t.knows g=true/\g'=g/\∃q,kbB g b=some q:=by
 rw[kbD] at h;split at h
 ·rename_i hk;cases hb:kbB g b with
  |none=>rw[hb] at h; cases h
  |some z=>
   rw[hb] at h;cases h;exact⟨hk,rfl,z,rfl⟩
 ·cases h
theorem jl{cond:Cnt->Rs×List RI}{body:Cnt->Out}(B:Cnt->Prop)(hb:∀c,B c->B (body c).2.1):∀(k:Nat) (c:Cnt),B c->B (Am cond body p k c).2.1:=by
 intro k;induction k with
 |zero=>
  intro c h;rw[Am];rcases cond c with⟨r,w⟩;cases r with
  |ref u q=>exact h
  |had v=>by_cases hv:v=0<;>simp[hv,h]
 |succ k F=>
  intro c h;rw[Am];rcases cond c with⟨r,w⟩;cases r with
  |ref u q=>exact h
  |had v=>
   by_cases hv:v=0
   ·simp[hv,h]
   ·have h1:=hb c h;rcases z:body c with⟨e,G,J⟩;rw[z] at h1;cases e with
    |some e=>simp[hv,z,h1]
    |none=>
     have h2:=F G h1;simp only[hv,if_false,z];exact h2
theorem jm{cond:Cnt->Rs×List RI}{body:Cnt->Out}(B:Cnt->Prop)(hb:∀c,B c->(body c).1=none->B (body c).2.1):∀(k:Nat) (c:Cnt),B c->(Am cond body p k c).1=none->B (Am cond body p k c).2.1:=by
 intro k;induction k with
 |zero=>
  intro c h;rw[Am];rcases cond c with⟨r,w⟩;cases r with
  |ref u q=>exact fun _=>h
  |had v=>by_cases hv:v=0<;>simp[hv,h]
 |succ k F=>
  intro c h;rw[Am];rcases cond c with⟨r,w⟩;cases r with
  |ref u q=>exact fun _=>h
  |had v=>
   by_cases hv:v=0
   ·simp[hv,h]
   ·have h1:=hb c h;rcases z:body c with⟨e,G,J⟩;rw[z] at h1;cases e with
    |some e=>simp[hv,z]
    |none=>
     have h2:=F G (h1 rfl);simp only[hv,if_false,z];exact h2
mutual
theorem Sv:∀(e:D) (n:Nat) (p:List Int) (c:Cnt),Se n e->KeyOk c->KeyOk (evD p e c).2.1
 |.set x t,n,p,c,h,k=>by
  rcases z:evT c t (p++[0]) with⟨r,w⟩;cases r with
  |ref u q=>rw[Kc z]; exact k
  |had v=>rw[Kd z]; exact k.put h.1 v
 |.ite t b G,n,p,c,h,k=>h.elim
 |.whl t m b,n,p,c,h,k=>by
  rw[evD];exact jl KeyOk (fun F B=>Ke b n (p++[1]) 0 F h.2 B) _ c k
theorem Ke:∀(b:List D) (n:Nat) (p:List Int) (i:Int) (c:Cnt),okW n b->KeyOk c->KeyOk (evB p i b c).2.1
 |[],n,p,i,c,h,k=>by rw[evB]; exact k
 |e::r,0,p,i,c,h,k=>h.elim
 |e::r,n+1,p,i,c,h,k=>by
  have h1:=Sv e n (p++[i]) c (h.2 e (.head _)) k;rw[evB];rcases q:evD (p++[i]) e c with⟨o,z,w⟩;rw[q] at h1;cases o with
  |some u=>exact h1
  |none=>exact Ke r (n+1) p (i+1) z ⟨by have:=h.1; rw[yh] at this; lia,fun d hd=>h.2 d (.tail _ hd)⟩ h1
end
mutual
theorem Sx:∀(e:D) (p:List Int) (c:Cnt) (g g':List Str),kbD g e=some g'->Has c g->(evD p e c).1=none->Has (evD p e c).2.1 g'
 |.set x t,p,c,g,g',hk,h=>by
  rcases B:evT c t (p++[0]) with⟨r,w⟩;cases r with
  |ref u q=>rw[Kc B]; exact fun z=>by cases z
  |had v=>
   rw[Kd B];intro _;rw[kbD] at hk;split at hk
   ·cases hk;have:=So t (p++[0]) B;exact h.put this.1 this.2
   ·cases hk
 |.ite t b O,p,c,g,g',hk,h=>by
  rcases B:evT c t (p++[0]) with⟨r,w⟩;cases r with
  |ref u q=>rw[ji B]; exact fun z=>by cases z
  |had v=>
   obtain⟨_,⟨F,h1⟩,q2,h2⟩:=Ss hk;have sub:Sub g' F/\Sub g' q2:=by
    have G:=(Ss hk).1;rw[kbD,if_pos G,h1,h2] at hk;cases hk;exact⟨fun x hx=>(List.mem_filter.mp hx).1,fun x hx=>by simpa using(List.mem_filter.mp hx).2⟩
   by_cases hv:v=0
   ·subst hv;rw[jk B];exact fun z=>(IP O (p++[2]) 0 c g q2 h2 h z).sub sub.2
   ·rw[jj B hv];exact fun z=>(IP b (p++[1]) 0 c g F h1 h z).sub sub.1
 |.whl t m b,p,c,g,g',hk,h=>by
  obtain⟨_,rfl,F,h1⟩:=Su hk;rw[evD];exact jm (fun c=>Has c g') (fun M J z=>(IP b (p++[1]) 0 M g' F h1 J z).sub (IO b g' F h1)) _ c h
theorem IP:∀(b:List D) (p:List Int) (i:Int) (c:Cnt) (g g':List Str),kbB g b=some g'->Has c g->(evB p i b c).1=none->Has (evB p i b c).2.1 g'
 |[],p,i,c,g,g',hk,h=>by
  rw[kbB] at hk;cases hk;rw[evB];exact fun _=>h
 |e::r,p,i,c,g,g',hk,h=>by
  rw[kbB] at hk;cases hd:kbD g e with
  |none=>rw[hd] at hk; cases hk
  |some q=>
   rw[hd] at hk;have h1:=Sx e (p++[i]) c g q hd h;rw[evB];rcases B:evD (p++[i]) e c with⟨o,F,w⟩;rw[B] at h1;cases o with
   |some u=>exact fun z=>by cases z
   |none=>exact IP r p (i+1) F q g' hk (h1 rfl)
end
def Bx(q:List RI)(o:Out):Out:=(o.1,o.2.1,q++o.2.2)
theorem Sy{cond:Cnt->Rs×List RI}{body:Cnt->Out}(h:cond c=(.ref u q,r)):Am cond body p k c=(some (u,q),c,r):=by
 cases k<;>rw[Am,h]
theorem Sz{cond:Cnt->Rs×List RI}{body:Cnt->Out}(h:cond c=(.had 0,r)):Am cond body p k c=(none,c,r):=by
 cases k<;>rw[Am,h]<;>simp
theorem T0{cond:Cnt->Rs×List RI}{body:Cnt->Out}(h:cond c=(.had v,r))(hv:v≠0):Am cond body p 0 c=((some (("long" : Str),p),c,r):Out):=by
 rw[Am,h];simp[hv]
theorem NN{cond:Cnt->Rs×List RI}{body:Cnt->Out}(h:cond c=(.had v,r))(hv:v≠0)(hb:body c=(some e,c1,r1)):Am cond body p (k+1) c=(some e,c1,r++r1):=by
 rw[Am,h];simp[hv,hb]
theorem NO{cond:Cnt->Rs×List RI}{body:Cnt->Out}(h:cond c=(.had v,r))(hv:v≠0)(hb:body c=(none,c1,r1)):Am cond body p (k+1) c=Bx (r++r1) (Am cond body p k c1):=by
 rw[Am,h];simp[hv,hb,Bx]
def WhI(H:Hp)(va:Addr)(pv:V)(d fs:Addr)(lo:Option Addr)(g:List Str)(t:T)(b:List D)(p:List Int)(M:Nat)(out:Out)(k:Nat)(σ:St)(B:Hp):Prop:=∃(j:Nat) (q:Cnt) (z:List RI) (G F:Option V),σ=[some (.ref va),some pv,some (.ref d),some (.ref fs),some (.int j),G,F]/\j+k=M/\Gd d lo H B z/\B d=some (.dK (kvC q))/\KeyOk q/\Has q g/\out=Bx z (Am (fun c=>evT c t (p++[0])) (fun c=>evB (p++[1]) 0 b c) p k q)
theorem jo(cond:Cnt->Rs×List RI)(body:Cnt->Out)(p:List Int)(k:Nat)(c:Cnt):(cond c).2.length<=(Am cond body p k c).2.2.length:=by
 rcases h:cond c with⟨r,w⟩;cases r with
 |ref u q=>rw[Sy h]; exact yb _
 |had v=>
  by_cases hv:v=0
  ·subst hv;rw[Sz h]; exact yb _
  ·cases k with
   |zero=>rw[T0 h hv]; exact yb _
   |succ k=>
    rcases hb:body c with⟨e,B,z⟩;cases e with
    |some e=>rw[NN h hv hb]; simp
    |none=>rw[NO h hv hb]; simp only[Bx,yt]; lia
theorem jp{cond:Cnt->Rs×List RI}{body:Cnt->Out}(h:cond c=(.had v,r))(hv:v≠0):r.length+(body c).2.2.length<=(Am cond body p (k+1) c).2.2.length:=by
 rcases hb:body c with⟨e,z,q⟩;cases e with
 |some e=>rw[NN h hv hb]; simp
 |none=>rw[NO h hv hb]; simp only[Bx,yt]; lia
theorem T3{p:List Int}{k:Int}{e:D}{r:List D}{c q:Cnt}{u:Ref}{w:List RI}(h:evD (p++[k]) e c=(some u,q,w)):evB p k (e::r) c=(some u,q,w):=by rw[evB,h]
theorem T4{p:List Int}{k:Int}{e:D}{r:List D}{c q:Cnt}{w:List RI}(h:evD (p++[k]) e c=(none,q,w)):evB p k (e::r) c=Bx w (evB p (k+1) r q):=by rw[evB,h]; rfl
theorem jq(p:List Int)(k:Int)(e:D)(r:List D)(c:Cnt):(evD (p++[k]) e c).2.2.length<=(evB p k (e::r) c).2.2.length:=by
 rcases h:evD (p++[k]) e c with⟨o,q,w⟩;cases o with
 |some u=>rw[T3 h]; exact yb _
 |none=>rw[T4 h]; simp[Bx]
theorem jr(h:kbB g (e::r)=some g'):∃q,kbD g e=some q/\kbB q r=some g':=by
 rw[kbB] at h;cases hd:kbD g e with
 |none=>rw[hd] at h; cases h
 |some q=>rw[hd] at h; exact⟨q,rfl,h⟩
theorem T5{q:Type}:∀{l:List q} {i:Nat} {x:q},l[i]?=some x->l.drop i=x::l.drop (i+1)
 |[],_,_,h=>by simp at h
 |a::l,0,x,h=>by simp at h; simp[h]
 |a::l,i+1,x,h=>by
  have:l[i]?=some x:=by simpa using h
  simpa using T5 this
def BkI(H:Hp)(O:Addr)(pv:V)(d fs:Addr)(lo:Option Addr)(g':List Str)(b:List D)(p:List Int)(out:Out)(i:Nat)(σ:St)(F:Hp):Prop:=∃(q:Cnt) (B:List Str) (z:List RI) (M J G:Option V),σ=[some (.ref O),some pv,some (.ref d),some (.ref fs),M,J,G]/\Gd d lo H F z/\F d=some (.dK (kvC q))/\KeyOk q/\Has q B/\kbB B (b.drop i)=some g'/\out=Bx z (evB p i (b.drop i) q)
theorem js(F:Fun K "do_set" "do_set" CQ f fd) (c_reckon:Callee P w K mg base "reckon" ["term","path","names","settle"] 7 (EK 5)):FnOk P w K mg base CX0 8 f fd ["deed","path","names","settle"] (DU ["set"] n):=by
 refine F.ok sc_do_set (fun vs H Q E h=>?_) (fun lp A outer s H vs Q E hr h=>?_)
 ·obtain⟨v,e,pv,p,d,f,c,g,g',lo,rfl,_⟩:=h;rfl
 obtain⟨v,e,pv,p,d,fs,c,g,g',lo,rfl,hk,hv,hp,lh,hn,ln,J,hd,lj,hh,hS,hL,q⟩:=h;obtain⟨x,t,rfl⟩:∃x t,e=.set x t:=by
  cases e with
  |set x t=>exact⟨x,t,rfl⟩
  |ite t b c=>exact absurd (List.mem_singleton.mp hk) (show ¬ ("if" : Str) = "set" by decide+kernel)
  |whl t m b=>exact absurd (List.mem_singleton.mp hk) (show ¬ ("while" : Str) = "set" by decide+kernel)
 rw[D.enc] at hv;obtain⟨va,x0,x1,xt,rfl,lc,t0,t1,dt⟩:=EG hv;cases t0;cases t1;rw[kbD] at J;have lm:t.knows g=true:=by
  cases hz:t.knows g with
  |true=>rfl
  |false=>rw[hz] at J; cases J
 have lg:=jh c x t p;refine⟨_,(A5 (AK (i:=4) sc_do_set.nd rfl Ze (AC c_reckon hr (by lia) (A3 (A8 A9 (A2 0 rfl QT) A4 (fun _ _=>rfl)) (A3 (AT Bf (A2 1 rfl Zf) (AW (A3 A4 pa_nil))) (A3 (A2 2 rfl QU) (A3 (A2 3 rfl Zg) pa_nil)))) Zd JS) (AE rfl))
 (A5 (AJ (AH (gEq hr.units) (A8 A9 (A2 4 rfl M4) A4 (fun _ _=>rfl)) AR (AF _)) (A7 (AA (A2 4 rfl M4))) AI)
 (A5 (C3 hr.units1 (A2 2 rfl QU) (A8 A9 (A2 0 rfl QT) A4 (fun _ _=>rfl)) (A8 A9 (A2 4 rfl M4) A4 (fun _ _=>rfl)) (AE rfl))
 (A7 (AA AY))))),Al fun N1 e1=>?_⟩
 walk_at "rd7";refine⟨_,SqT.of lc,_,Ai (j:=2) rfl,by decide,fun p1 h1=>?_⟩;have s1:=AD h1 (HO.tup [V.int 0]);refine FK (hp.kp s1.kp) FL (by simp; lia) fun z H1 s2 dz=>?_;have G:=s1.trans s2;refine⟨xt,t,z,_,d,fs,c,g,lo,rfl,dt.kp G.kp,dz,Kb lh.2 lm,by decide,by simp; lia,G _ _ hd,hh,hS.kp (Same.kpE G),by rw[<- lg]; exact hL.same G,fun r1 H2 g1 Y=>?_⟩;have G1:Gr lo H H2 (evT c t (p++[0])).2:=(Gr.same G hL).trans g1;clear g1 s1 s2 G;have O:=G1.keep hd (by intro xs z; cases z);have Z:=G1.keep lc (by intro xs z; cases z);obtain⟨b1,rfl,B⟩:=FM Y;rcases M:evT c t (p++[0]) with⟨r1,w1⟩;rw[M] at G1 Y B;rw[e1];refine Al fun N2 e2=>?_;walk_at "rd7";rcases B with⟨i1,rfl,B⟩|⟨u,qq,y1,rfl,B⟩;rotate_left
 ·refine⟨_,SqT.of B,_,BU,_,C7,?_⟩;rw[if_pos (decide_eq_true rfl)];rw[Kc M] at q;exact q _ _ G1.gd O Y
 refine⟨_,SqT.of B,_,BU,_,C7,?_⟩;rw[if_neg (by rw[decide_eq_true_eq]; exact KZ)];rw[e2];walk_at "rd7";rw[Kd M] at q;refine⟨_,SqT.of B,_,Ai (j:=1) rfl,_,SqT.of Z,_,Ai (j:=1) rfl,_,DPut.k (k:=Sum.inr x) O ?_,?_⟩
 ·unfold kvC;rw[y4];exact y1k lj.len (by decide)
 ·exact q _ _ (Gd.put G1 O) (by rw[A6,Sh]) rfl
theorem jt(F:Fun K "do_while" "do_while" Ba f fd) (c_reckon:Callee P w K mg base "reckon" ["term","path","names","settle"] 7 (EK 5)) (c_do_block:Callee P w K mg base "do_block" ["block","path","names","settle"] (3*n+8) (HN n)):FnOk P w K mg base CX0 (3*n+9) f fd ["deed","path","names","settle"] (DU ["while"] n):=by
 refine F.ok sc_do_while (fun vs H Q E h=>?_) (fun mo A outer s H vs Q E hr h=>?_)
 ·obtain⟨v,e,pv,p,d,f,c,g,g',lo,rfl,_⟩:=h;rfl
 obtain⟨v,e,pv,p,d,fs,c,g,g',lo,rfl,hk,hv,hp,lr,hn,ml,ma,hd,lY,hh,hS,hL,q⟩:=h;obtain⟨t,m,b,rfl⟩:∃t m b,e=.whl t m b:=by
  cases e with
  |set x t=>exact absurd (List.mem_singleton.mp hk) (show ¬ ("set" : Str) = "while" by decide+kernel)
  |ite t b c=>exact absurd (List.mem_singleton.mp hk) (show ¬ ("if" : Str) = "while" by decide+kernel)
  |whl t m b=>exact⟨t,m,b,rfl⟩
 rw[D.enc] at hv;obtain⟨va,x0,xt,xm,xb,rfl,lV,t0,dt,dm,db⟩:=Mq hv;cases t0;cases dm;obtain⟨lZ,rfl,q1,lq⟩:=Su ma;refine⟨_,(A5 (AK (i:=4) sc_do_while.nd rfl QW A4 (AE rfl))
 (A7 (Nq y0g (Be BA)
 (A5 (AK (i:=5) sc_do_while.nd rfl Zj (AC c_reckon hr (by lia) (A3 (A8 A9 (A2 0 rfl M5) A4 (fun _ _=>rfl)) (A3 (AT Bf (A2 1 rfl M7) (AW (A3 A4 pa_nil))) (A3 (A2 2 rfl QY) (A3 (A2 3 rfl Qa) pa_nil)))) Zi JS) (AE rfl))
 (A5 (AJ (AH (gEq hr.units) (A8 A9 (A2 5 rfl M6) A4 (fun _ _=>rfl)) AR (AF _)) (A7 (AA (A2 5 rfl M6))) AI)
 (A5 (AJ (AH G6 (A8 A9 (A2 5 rfl M6) A4 (fun _ _=>rfl)) A4 (AF _)) (A7 (AA AY)) AI)
 (A5 (AJ (AH O5 (A2 4 rfl QX) (A8 A9 (A2 0 rfl M5) A4 (fun _ _=>rfl)) (AF _)) (A7 (AA (AW (A3 AR (A3 AR (A3 (A2 1 rfl M7) pa_nil)))))) AI)
 (A5 (AK (i:=6) sc_do_while.nd rfl Zk (AC c_do_block hr (by lia) (A3 (A8 A9 (A2 0 rfl M5) A4 (fun _ _=>rfl)) (A3 (AT Bf (A2 1 rfl M7) (AW (A3 A4 pa_nil))) (A3 (A2 2 rfl QY) (A3 (A2 3 rfl Qa) pa_nil)))) Zh Pz) (AE rfl))
 (A5 (AJ (AH Eo (A2 6 rfl QZ) AY (AF _)) (A7 (AA (A2 6 rfl QZ))) AI)
 (A7 (AK (i:=4) sc_do_while.nd rfl QW (AT Cd (A2 4 rfl QX) A4) (AE rfl)))))))))))),Al fun N1 e1=>?_⟩
 walk_at "rd7";rw[e1];have ln:evD p (.whl t m b) c=Bx [] (Am (fun c=>evT c t (p++[0])) (fun c=>evB (p++[1]) 0 b c) p m.toNat c):=by rw[evD]; rfl
 generalize evD p (.whl t m b) c=out at hL q ln;refine⟨WhI H va pv d fs lo g' t b p m.toNat out,⟨m.toNat,0,c,[],none,none,rfl,by lia,(Gr.same (Same.refl H) hL).gd,hd,lY,hh,ln⟩,?_⟩;rintro k σ Hc ⟨j,Y,rs,x5,x6,rfl,mm,gd,lu,lQ,ls,Z⟩;simp only[tB,tC,↓EN,if_true];refine⟨fun lU H'=>∃k',k'<k/\WhI H va pv d fs lo g' t b p m.toNat out k' lU H',fun _ _ h=>h,Al fun N2 e2=>?_⟩;walk_at "rd7";have lj:=gd.keep hd lV (by intro xs z; cases z) (by intro xs z; cases z);have lp:=gd.kp hd;have lT:=hS.kp (gd.kpE hd);have ly:=hp.kp lp;have mf:=dt.kp lp;have mh:=db.kp lp;have l1:=jo (fun c=>evT c t (p++[0])) (fun c=>evB (p++[1]) 0 b c) p k Y;have lo1:out.2.2.length=rs.length+(Am (fun c=>evT c t (p++[0])) (fun c=>evB (p++[1]) 0 b c) p k Y).2.2.length:=by rw[Z,Bx,yt]
 have lg:HasL lo Hc ((Am (fun c=>evT c t (p++[0])) (fun c=>evB (p++[1]) 0 b c) p k Y).2.2.length+1):=hL.onD gd (by lia);refine⟨_,SqT.of lj,_,Ai (j:=1) rfl,by decide,fun p1 h1=>?_⟩;have s1:=AD h1 (HO.tup [V.int 0]);refine FK (ly.kp s1.kp) FL (by simp; lia) fun z H1 s2 dz=>?_;have O:=s1.trans s2;refine⟨xt,t,z,_,d,fs,Y,g',lo,rfl,mf.kp O.kp,dz,Kb lr.1 lZ,by decide,by simp; lia,O _ _ lu,ls,lT.kp (Same.kpE O),(lg.same O).mono (by lia),fun r1 H2 g1 lx=>?_⟩;have G1:Gr lo Hc H2 (evT Y t (p++[0])).2:=(Gr.same O lg).trans g1;clear g1 s1 s2 O;have G:=G1.keep lu (by intro xs z; cases z);have lm:=G1.keep lj (by intro xs z; cases z);have lP:=ly.kp G1.kp;have mi:=mh.kp G1.kp;have md:=lT.kp G1.kpE;obtain⟨b1,rfl,J⟩:=FM lx;rcases B:evT Y t (p++[0]) with⟨r1,w1⟩;rw[B] at G1 lx J;have GD:=gd.trans G1.gd lu;have mj:w1.length<=(Am (fun c=>evT c t (p++[0])) (fun c=>evB (p++[1]) 0 b c) p k Y).2.2.length:=by
  have z:=l1;simp only[B] at z;exact z
 rw[e2];refine Al fun N3 e3=>?_;walk_at "rd7";rcases J with⟨i1,rfl,J⟩|⟨u,qq,y1,rfl,J⟩;rotate_left
 ·refine⟨_,SqT.of J,_,BU,_,C7,?_⟩;rw[if_pos (decide_eq_true rfl)];rw[Sy (cond:=fun c=>evT c t (p++[0])) B] at Z;subst Z;exact q _ _ GD G lx
 refine⟨_,SqT.of J,_,BU,_,C7,?_⟩;rw[if_neg (by rw[decide_eq_true_eq]; exact KZ)];rw[e3];refine Al fun N4 e4=>?_;walk_at "rd7";refine⟨_,SqT.of J,_,Ai (j:=1) rfl,_,rfl,?_⟩;by_cases hz:i1=0
 ·subst hz;rw[Sz (cond:=fun c=>evT c t (p++[0])) B] at Z;subst Z;rw[if_pos (by decide)];exact q _ _ GD G rfl
 rw[if_neg (by simpa using hz)];rw[e4];refine Al fun N5 e5=>?_;walk_at "rd7";refine⟨_,SqT.of lm,_,Ai (j:=2) rfl,_,rfl,?_⟩;cases k with
 |zero=>
  rw[T0 (cond:=fun c=>evT c t (p++[0])) B hz] at Z;subst Z;rw[if_pos (by lia)];refine⟨by decide,fun r lW=>?_⟩;have s3:=AD lW (HO.tup [V.str "refused",V.str "long",pv]);refine q _ _ ?_ (s3 _ _ G) (.tup A6 (.cons (.str _) (.cons (.str _) (.cons (lP.kp s3.kp) .nil))));have lh:HasL lo H2 0:=lg.on G1 (by show w1.length+_<=_; lia);have:=GD.trans (Gr.same s3 lh).gd G;rw[y0n] at this;exact this
 |succ k=>
  rw[if_neg (by lia)];have l2:=jp (cond:=fun c=>evT c t (p++[0])) (body:=fun c=>evB (p++[1]) 0 b c) (p:=p) (k:=k) B hz;have lh:HasL lo H2 ((evB (p++[1]) 0 b Y).2.2.length+1):=lg.on G1 (by show w1.length+_<=_; lia);rw[e5];refine Al fun N6 e6=>?_;walk_at "rd7";refine⟨_,SqT.of lm,_,Ai (j:=3) rfl,by decide,fun p2 h2=>?_⟩;have s3:=AD h2 (HO.tup [V.int 1]);refine FK (lP.kp s3.kp) FL (by simp; lia) fun z2 H3 s4 me=>?_;have M:=s3.trans s4;refine⟨xb,b,z2,_,d,fs,Y,g',q1,lo,rfl,mi.kp M.kp,me,lr.2,by lia,by simp; lia,lq,M _ _ G,lQ,ls,md.kp (Same.kpE M),lh.same M,fun r2 H4 g2 lv lc=>?_⟩;have GB:=GD.trans (((Gr.same M lh).gd).trans g2 (M _ _ G)) G;have lR:=Ke b n (p++[1]) 0 Y lr.2 lQ;have lS:=IP b (p++[1]) 0 Y g' q1 lq ls;rcases hb:evB (p++[1]) 0 b Y with⟨ee,c4,w4⟩;rw[hb] at lv lc GB lR lS;rw[e6];refine Al fun N7 e7=>?_;walk_at "rd7";cases ee with
  |some er=>
   rw[NN (cond:=fun c=>evT c t (p++[0])) (body:=fun c=>evB (p++[1]) 0 b c) B hz hb] at Z;subst Z;have lX:r2≠.non:=by
    obtain⟨a4,rfl,_⟩:=FM (r:=Rs.ref er.1 er.2) lc;intro z;cases z
   rw[if_pos (decide_eq_false lX)];refine q _ _ ?_ lv lc;show Gd d lo H H4 (rs++(w1++w4));rw[<- y22];exact GB
  |none=>
   rw[NO (cond:=fun c=>evT c t (p++[0])) (body:=fun c=>evB (p++[1]) 0 b c) B hz hb] at Z;cases lc;rw[if_neg (by simp),e7];walk_at "rd7";refine⟨k,by lia,j+1,c4,rs++(w1++w4),_,_,rfl,by lia,?_,lv,lR,(lS rfl).sub (IO b g' q1 lq),?_⟩
   ·rw[<- y22];exact GB
   ·rw[Z];simp only[Bx,y22]
theorem ju{n k:Nat}:FnOk P w K mg base CX0 k f fd ["deed","path","names","settle"] (DU ["if"] n):=by
 have z:∀vs H Q E,¬ DU ["if"] n vs H Q E:=fun vs H Q E h=>by
  obtain⟨v,e,pv,p,d,fs,c,g,g',lo,_,hk,hv,B,q,_⟩:=h;cases e with
  |ite t b c=>exact q
  |set x t=>exact absurd (List.mem_singleton.mp hk) (show ¬ ("set" : Str) = "if" by decide+kernel)
  |whl t m b=>exact absurd (List.mem_singleton.mp hk) (show ¬ ("while" : Str) = "if" by decide+kernel)
 exact⟨fun vs H Q E h=>absurd h (z vs H Q E),fun A outer s H args us vs Q E _ _ _ _ h=>absurd h (z vs H Q E)⟩
theorem jv(F:Fun K "do_deed" "do_deed" CP f fd) (c_do_set:Callee P w K mg base "do_set" ["deed","path","names","settle"] 8 (DU ["set"] n)) (c_do_if:Callee P w K mg base "do_if" ["deed","path","names","settle"] (3*n+9) (DU ["if"] n)) (c_do_while:Callee P w K mg base "do_while" ["deed","path","names","settle"] (3*n+9) (DU ["while"] n)):FnOk P w K mg base CX0 (3*n+10) f fd ["deed","path","names","settle"] (DU ["set","if","while"] n):=by
 refine F.ok ZZ (fun vs H Q E h=>?_) (fun O A outer s H vs Q E hr h=>?_)
 ·obtain⟨v,e,pv,p,d,f,c,g,g',lo,rfl,_⟩:=h;rfl
 obtain⟨v,e,pv,p,d,fs,c,g,g',lo,rfl,hk,hv,h⟩:=h;obtain⟨va,xs,rfl,q⟩:=jH hv;refine⟨_,(A5 (AJ (AH (gEq hr.units) (A8 A9 (A2 0 rfl Hz) A4 (fun _ _=>rfl)) AR (AF _)) (A7 (AA (AC c_do_set hr (by lia) (A3 (A2 0 rfl Hz) (A3 (A2 1 rfl Lz) (A3 (A2 2 rfl Ly) (A3 (A2 3 rfl M0) pa_nil)))) Zb Xh))) AI)
 (A5 (AJ (AH (gEq hr.units) (A8 A9 (A2 0 rfl Hz) A4 (fun _ _=>rfl)) AR (AF _)) (A7 (AA (AC c_do_if hr (by lia) (A3 (A2 0 rfl Hz) (A3 (A2 1 rfl Lz) (A3 (A2 2 rfl Ly) (A3 (A2 3 rfl M0) pa_nil)))) Za Xg))) AI)
 (A7 (AA (AC c_do_while hr (by lia) (A3 (A2 0 rfl Hz) (A3 (A2 1 rfl Lz) (A3 (A2 2 rfl Ly) (A3 (A2 3 rfl M0) pa_nil)))) Zc Xi))))),Al fun Z M=>?_⟩
 walk_at "rd7";refine⟨_,SqT.of q,_,BU,_,C7,?_⟩;split
 ·rename_i z;exact⟨_,e,pv,p,d,fs,c,g,g',lo,rfl,by rw[of_decide_eq_true z]; simp,hv,h⟩
 rename_i G;rw[M];refine Al fun Y J=>?_;walk_at "rd7";refine⟨_,SqT.of q,_,BU,_,C7,?_⟩;split
 ·rename_i z;exact⟨_,e,pv,p,d,fs,c,g,g',lo,rfl,by rw[of_decide_eq_true z]; simp,hv,h⟩
 rename_i B;rw[J];walk_at "rd7";refine⟨_,e,pv,p,d,fs,c,g,g',lo,rfl,?_,hv,h⟩;simp only[yv,yp,or_false] at hk |-;rcases hk with hk|hk|hk
 ·exact absurd (decide_eq_true hk) G
 ·exact absurd (decide_eq_true hk) B
 ·exact hk
theorem jw(F:Fun K "do_block" "do_block" BZ f fd) (b_enumerate:mg "enumerate" = none) (c_do_deed:Callee P w K mg base "do_deed" ["deed","path","names","settle"] (3*n+10) (DU ["set","if","while"] n)):FnOk P w K mg base CX0 (3*n+11) f fd ["block","path","names","settle"] (HN (n+1)):=by
 refine F.ok sc_do_block (fun vs H Q E h=>?_) (fun lV A outer s H vs Q E hr h=>?_)
 ·obtain⟨v,b,pv,p,d,f,c,g,g',lo,rfl,_⟩:=h;rfl
 obtain⟨v,b,pv,p,d,fs,c,g,g',lo,rfl,hv,hp,lP,hn,lU,lT,hd,lR,hh,hS,hL,q⟩:=h;obtain⟨ab,xs,rfl,lv,ls⟩:=hv.tupI;have ly:xs.length=b.length:=by rw[ls.length,MZ]
 have Z:evB p 0 b c=Bx [] (evB p ((0:Nat):Int) (b.drop 0) c):=by rw[List.drop_zero]; rfl
 generalize evB p 0 b c=out at hL q Z;refine⟨_,(A5 (C0 y0g rfl (Oz ZP b_enumerate (A3 (A2 0 rfl ZU) pa_nil)) (EY (n:=2) rfl (BV (Ab (i:=4) sc_do_block.nd rfl ZQ) (BV (Ab (i:=5) sc_do_block.nd rfl ZR) EX)))
 (A5 (AK (i:=6) sc_do_block.nd rfl ZS (AC c_do_deed hr (by lia) (A3 (A2 5 rfl ZV) (A3 (AT Bf (A2 1 rfl ZX) (AW (A3 (A2 4 rfl ZT) pa_nil))) (A3 (A2 2 rfl ZW) (A3 (A2 3 rfl ZY) pa_nil)))) ZO Xf) (AE rfl))
 (A7 (AJ (AH Eo (A2 6 rfl QS) AY (AF _)) (A7 (AA (A2 6 rfl QS))) AI))))
 (A7 (AA AY))),Al fun N1 e1=>?_⟩
 walk_at "rd7";refine⟨⟨_,SqT.of lv⟩,?_⟩;refine P0 (xs:=xs) (BkI H ab pv d fs lo g' b p out) ?s ?l ?t ?d
 case s=>exact⟨c,g,[],_,_,_,rfl,(Gr.same (Same.refl H) hL).gd,hd,lR,hh,by rw[List.drop_zero]; exact lT,Z⟩
 case l=>
  rintro i σ Hc _ ⟨Y,gi,rs,_,_,_,rfl,gd,_⟩;exact SqT.of (gd.keep hd lv (by intro xs z; cases z) (by intro xs z; cases z))
 case d=>
  rintro σ Hc ⟨Y,gi,rs,_,_,_,rfl,gd,J,lc,lg,G,O⟩;show N1 _ _;rw[e1];walk_at "rd7";rw[ly,List.drop_length,evB] at O;subst O;refine q _ _ ?_ J rfl;show Gd d lo H Hc (rs++[]);rw[y0n];exact gd
 case t=>
  rintro i x σ Hc Tu hx ⟨Y,gi,rs,_,_,_,rfl,gd,J,lc,lg,G,O⟩ hT;obtain⟨e,lu,dx⟩:=jE ls hx;have lr:=lP.2 e (yi lu);rw[T5 lu] at O G;obtain⟨q1,ln,lS⟩:=jr G;have s2:=AD hT (HO.tup [V.int i,x]);walk_at "rd7";refine⟨_,SqT.of A6,rfl,_,_,rfl,_,_,rfl,rfl,by decide,fun p1 h1=>?_⟩;have s3:=AD h1 (HO.tup [V.int i]);have lj:=s2.trans s3;have lm:=gd.kp hd;refine FK ((hp.kp lm).kp lj.kp) FL (by simp; lia) fun z H1 s4 dz=>?_;have B:=lj.trans s4;have l1:=jq p i e (b.drop (i+1)) Y;have lo1:out.2.2.length=rs.length+(evB p i (e::b.drop (i+1)) Y).2.2.length:=by rw[O,Bx,yt]
  have lx:HasL lo Hc ((evB p i (e::b.drop (i+1)) Y).2.2.length+1):=hL.onD gd (by lia);refine⟨x,e,z,_,d,fs,Y,gi,q1,lo,rfl,by cases e<;>simp[D.kind],(dx.kp lm).kp B.kp,dz,lr,by lia,by simp; lia,ln,B _ _ J,lc,lg,(hS.kp (gd.kpE hd)).kp (Same.kpE B),(lx.same B).mono (by lia),fun r2 H4 g2 lh M=>?_⟩;have GB:=gd.trans (((Gr.same B lx).gd).trans g2 (B _ _ J)) J;have lp:=Sv e n (p++[(i:Int)]) Y lr lc;have lq:=Sx e (p++[(i:Int)]) Y gi q1 ln lg;rcases hb:evD (p++[(i:Int)]) e Y with⟨ee,c4,w4⟩;rw[hb] at lh M GB lp lq;cases ee with
  |some er=>
   rw[T3 hb] at O;subst O;have lQ:r2≠.non:=by
    obtain⟨a4,rfl,_⟩:=FM (r:=Rs.ref er.1 er.2) M;intro z;cases z
   show if decide (r2=V.non)=false then Q r2 H4 else _;rw[if_pos (decide_eq_false lQ)];exact q _ _ GB lh M
  |none=>
   rw[T4 hb] at O;cases M;show if decide (V.non=V.non)=false then Q V.non H4 else _;rw[if_neg (by simp)];refine⟨c4,q1,rs++w4,_,_,_,rfl,GB,lh,lp,lq rfl,lS,?_⟩;rw[O];simp only[Bx,y22];rfl
theorem jx:FnOk P w K mg base CX0 k f fd [n1,n2,n3,n4] (HN 0):=by
 have q:∀vs H Q E,¬ HN 0 vs H Q E:=fun vs H Q E h=>by
  obtain⟨v,b,pv,p,d,f,c,g,g',lo,_,_,_,h,_⟩:=h;exact h.elim
 exact⟨fun vs H Q E h=>absurd h (q vs H Q E),fun A outer s H args us vs Q E _ _ _ _ h=>absurd h (q vs H Q E)⟩
theorem T6(d:Df K mg "do_block" BZ ["block","path","names","settle"] f fd) (d2:Df K mg "do_deed" CP ["deed","path","names","settle"] f2 fd2) (d3:Df K mg "do_set" CQ ["deed","path","names","settle"] f3 fd3) (d4:Df K mg "do_if" QV ["deed","path","names","settle"] f4 fd4) (q:Df K mg "do_while" Ba ["deed","path","names","settle"] f5 fd5) (b_enumerate:mg "enumerate" = none) (c_reckon:Callee P w K mg base "reckon" ["term","path","names","settle"] 7 (EK 5)):∀n:Nat,Callee P w K mg base "do_block" ["block","path","names","settle"] (3*n+8) (HN n)
 |0=>d.callee jx
 |n+1=>d.callee (jw d.F b_enumerate (d2.callee (jv d2.F (d3.callee (js d3.F c_reckon)) (d4.callee ju) (q.callee (jt q.F c_reckon (T6 d d2 d3 d4 q b_enumerate c_reckon n))))))
def stB:Cnt->List Rw->List Int->Cnt
 |c,r::q,w::ws=>stB (Ay c r.1 w) q ws
 |c,_,_=>c
def Fits:List Rw->List Int->Prop
 |[],[]=>True
 |r::q,w::ws=>r.2.1<=w/\w<=r.2.2/\Fits q ws
 |_,_=>False
theorem Fits.len:∀{q:List Rw} {ws:List Int},Fits q ws->q.length=ws.length
 |[],[],_=>rfl
 |_::z,_::ws,h=>by rw[yh,yh,Fits.len h.2.2]
 |[],_::_,h=>h.elim
 |_::_,[],h=>h.elim
theorem Fits.at:∀{q:List Rw} {ws:List Int} {i:Nat} {r:Rw} {w:Int},Fits q ws->q[i]?=some r->ws[i]?=some w->r.2.1<=w/\w<=r.2.2
 |r::F,w::ws,0,_,_,h,z,B=>by
  simp at z B;subst z; subst B;exact⟨h.1,h.2.1⟩
 |r::F,w::ws,i+1,_,_,h,z,B=>Fits.at h.2.2 (by simpa using z) (by simpa using B)
 |[],[],_,_,_,_,z,_=>by simp at z
 |[],_::_,_,_,_,h,_,_=>h.elim
 |_::_,[],_,_,_,h,_,_=>h.elim
theorem T7:∀{q:List Rw} {ws:List Int} {i:Nat} {r:Rw} {w:Int} (c:Cnt),q[i]?=some r->ws[i]?=some w->stB c (q.take (i+1)) (ws.take (i+1))=Ay (stB c (q.take i) (ws.take i)) r.1 w
 |r::F,w::ws,0,_,_,c,B,z=>by
  simp at B z;subst B; subst z;simp[stB]
 |r::F,w::ws,i+1,_,_,c,B,z=>by
  have:=T7 (i:=i) (Ay c r.1 w) (show F[i]?=some _ by simpa using B) (show ws[i]?=some _ by simpa using z);simpa [stB] using this
 |[],_,_,_,_,_,B,_=>by simp at B
 |_::_,[],_,_,_,_,_,z=>by simp at z
theorem NP:∀(q:List Rw) (ws:List Int) (c:Cnt),(∀r∈q,r.1∈pool)->KeyOk c->KeyOk (stB c q ws)
 |[],_,c,_,h=>by simpa [stB] using h
 |_::_,[],c,_,h=>by simpa [stB] using h
 |r::z,w::ws,c,hr,h=>by
  rw[stB];exact NP z ws _ (fun x hx=>hr x (.tail _ hx)) (h.put (hr r (.head _)) w)
theorem T8:∀(q:List Rw) (ws:List Int) (c:Cnt) (g:List Str),Fits q ws->(∀r∈q,-6<=r.2.1/\r.2.2<=8)->Has c g->Has (stB c q ws) (g++q.map (·.1))
 |[],[],c,g,_,_,h=>by simpa [stB] using h
 |r::z,w::ws,c,g,hf,hr,h=>by
  rw[stB,yc,show g++r.1::z.map (·.1)=(g++[r.1])++z.map (·.1) by simp];have h1:=hr r (.head _);exact T8 z ws _ _ hf.2.2 (fun x hx=>hr x (.tail _ hx)) (h.put (by have:=hf.1; lia) (by have:=hf.2.1; lia))
 |[],_::_,_,_,h,_,_=>h.elim
 |_::_,[],_,_,h,_,_=>h.elim
theorem T9(h:okRows rows):∀r∈rows,r.1∈pool:=fun r hr=>by
 have h1:r.1∈rows.map (·.1):=List.mem_map.mpr ⟨r,hr,rfl⟩;rw[h.nm] at h1;have h2:=List.mem_of_mem_take h1;simp only[pair,yv,yp,or_false] at h2;rcases h2 with h2|h2<;>rw[h2]<;>decide+kernel
theorem KeyOk.nil:KeyOk []:=⟨.nil,fun p h=>by simp at h⟩
def TB:Sp:=fun vs H Q _=>∃(B z:V) (q:List Rw) (ws:List Int),vs=[B,z]/\Dt H B (.tup (q.map CZ))/\Dt H z (pathD ws)/\okRows q/\Fits q ws/\∀(d:Addr) (H':Hp),Same H H'->H d=none->H' d=some (.dK (kvC (stB [] q ws)))->Q (.ref d) H'
def FsI(H:Hp)(J G d:Addr)(q:List Rw)(ws:List Int)(i:Nat)(σ:St)(z:Hp):Prop:=∃(F B:Option V),σ=[some (.ref J),some (.ref G),some (.ref d),F,B]/\Same H z/\z d=some (.dK (kvC (stB [] (q.take i) (ws.take i))))
theorem jy(F:Fun K "names_at_first" "names_at_first" Bl f fd) (b_len:mg "len" = none) (b_zip:mg "zip" = none) (c_is_tuple_of:Callee P w K mg base "is_tuple_of" ["thing","many"] 1 KN) (c_is_whole_from:Callee P w K mg base "is_whole_from" ["thing","low","high"] 2 Ms):FnOk P w K mg base CX0 3 f fd ["ins","worths"] TB:=by
 refine F.ok sc_names_at_first (fun vs H Q E h=>?_) (fun lv A outer s H vs Q E hr h=>?_)
 ·obtain⟨iv,wv,z,ws,rfl,_⟩:=h;rfl
 obtain⟨iv,wv,z,ws,rfl,hi,hw,lh,J,q⟩:=h;obtain⟨ia,is,rfl,O,lq⟩:=hi.tupI;obtain⟨wa,us,rfl,lg,lp⟩:=hw.tupI;have Z:is.length=z.length:=by rw[lq.length,y4]
 have lu:us.length=ws.length:=by rw[lp.length,y4]
 have G:=J.len;refine⟨_,(A5 (AJ (Cc (Be (AC c_is_tuple_of hr (by lia) (A3 (A2 1 rfl QR) (A3 (AZ Io ZJ b_len JG (A3 (A2 0 rfl QO) pa_nil) JW JP) pa_nil)) ZH Lk))) (A7 Ks) AI)
 (A5 (AK (i:=2) sc_names_at_first.nd rfl ZL Ey (AE rfl))
 (A5 (C0 y0g rfl (On ZK b_zip (A3 (A2 0 rfl QO) (A3 (A2 1 rfl QR) pa_nil))) (EY (n:=2) rfl (BV (Ab (i:=3) sc_names_at_first.nd rfl ZM) (BV (Ab (i:=4) sc_names_at_first.nd rfl ZN) EX)))
 (A5 (AJ (Cc (Be (AC c_is_whole_from hr (by lia) (A3 (A2 4 rfl QQ) (A3 (A8 A9 (A2 3 rfl Lx) A4 (fun _ _=>rfl)) (A3 (A8 A9 (A2 3 rfl Lx) A4 (fun _ _=>rfl)) pa_nil))) ZI Ll))) (A7 Ks) AI)
 (A7 (C3 hr.units1 (A2 2 rfl QP) (A8 A9 (A2 3 rfl Lx) A4 (fun _ _=>rfl)) (A2 4 rfl QQ) (AE rfl)))))
 (A7 (AA (A2 2 rfl QP)))))),Al fun N1 e1=>?_⟩
 walk_at "rd7";refine⟨_,.inl ⟨ia,is,rfl,.inr (SqT.of O),rfl⟩,?_⟩;refine⟨_,_,_,rfl,hw,fun H1 s1=>⟨_,rfl,?_⟩⟩;have hy:EH (pathD ws) (is.length:Int)=true:=by
  show decide _=true;rw[decide_eq_true_eq,y4,Z,G]
 rw[if_neg (by rw[hy]; decide)];rw[e1];refine Al fun N2 e2=>?_;walk_at "rd7";intro d lm;have s2:=AD lm (HO.dK []);have M:=s1.trans s2;have ln:H d=none:=s1.free lm;rw[e2];refine Al fun N3 e3=>?_;walk_at "rd7";refine⟨_,_,⟨rfl,rfl⟩,⟨_,SqT.of (M _ _ O)⟩,⟨_,SqT.of (M _ _ lg)⟩,?_⟩;refine Ws (xs:=is) (ys:=us) (by lia) (FsI H ia wa d z ws) ?s ?l ?t ?d
 case s=>exact⟨_,_,rfl,M,A6⟩
 case l=>
  rintro i σ Hc _ ⟨_,_,rfl,sc,_⟩;exact⟨SqT.of (sc _ _ O),SqT.of (sc _ _ lg)⟩
 case d=>
  rintro σ Hc ⟨_,_,rfl,sc,hc⟩;show N3 _ _;rw[e3];walk_at "rd7";rw[Z,y0h,G,y0h] at hc;exact q d Hc sc ln hc
 case t=>
  rintro i x y σ Hc T hx hy ⟨_,_,rfl,sc,hc⟩ hT;obtain⟨r,lj,dr⟩:=CY lq hx;obtain⟨Y,lc,dw⟩:=CY lp hy;cases dw;obtain⟨ra,r0,r1,r2,rfl,lr,t0,t1,t2⟩:=EG dr;cases t0; cases t1; cases t2;have s3:=AD hT (HO.tup [V.ref ra,V.int Y]);have B:=s3 _ _ (sc _ _ lr);have hf:=J.at lj lc;have hk:=NP (z.take i) (ws.take i) [] (fun r hr=>T9 lh r (List.mem_of_mem_take hr)) KeyOk.nil;walk_at "rd7";refine⟨_,SqT.of A6,rfl,_,_,rfl,_,_,rfl,rfl,_,rfl,_,SqT.of B,_,Ai (j:=1) rfl,_,rfl,_,SqT.of B,_,Ai (j:=2) rfl,?_⟩;refine⟨_,_,_,_,rfl,.int Y,fun H2 s4=>⟨_,rfl,?_⟩⟩;have hy:DQ (.int Y) r.2.1 r.2.2=true:=by
   show(decide (r.2.1<=Y)&&decide (Y<=r.2.2))=true;simp[hf.1,hf.2]
  rw[if_neg (by rw[hy]; decide)];have ls:=s4 _ _ (s3 _ _ hc);refine⟨_,rfl,_,SqT.of (s4 _ _ B),_,BU,_,DPut.k (k:=Sum.inr r.1) ls ?_,?_⟩
  ·unfold kvC;rw[y4];exact y1k hk.len (by decide)
  ·refine⟨_,_,rfl,FG (sc.trans (s3.trans s4)) ln,?_⟩;rw[A6,Sh,T7 [] lj lc]
def Bp(x:Str):Nat:=if x = "a" then 0 else if x = "b" then 1 else if x = "s" then 2 else 3
theorem jz:(pool.all fun x=>pool.all fun y=>(decide (x.cps.toList<y.cps.toList)==decide (Bp x<Bp y))&&(!(decide (Bp x=Bp y)) || decide (x=y)))=true:=by decide+kernel
theorem kA(hx:x∈pool)(hy:y∈pool):decide (x.cps.toList<y.cps.toList)=decide (Bp x<Bp y)/\(Bp x=Bp y->x=y):=by
 have h:=jz;rw[y2k] at h;have h1:=h x hx;rw[y2k] at h1;have h2:=h1 y hy;rw[yk,Bool.or_eq_true] at h2;refine⟨beq_iff_eq.mp h2.1,fun e=>?_⟩;rcases h2.2 with z|z
 ·rw[decide_eq_true e] at z; cases z
 ·exact of_decide_eq_true z
def TC(o:Out)(H':Hp)(r:V):Prop:=match o.1 with
 |some e=>Dt H' r (Rs.ref e.1 e.2).enc
 |none=>∃z:Cnt,z.Perm o.2.1/\z.Pairwise (fun p q=>Bp p.1<Bp q.1)/\Dt H' r (.tup [.str "told",.tup (z.map Iy)])
abbrev evP(q:List Rw)(b:List D)(ws:List Int):Out:=evB [] 0 b (stB [] q ws)
def IQ:Sp:=fun vs H Q _=>∃(B z:V) (q:List Rw) (b:List D) (ws:List Int) (f:Addr) (g':List Str) (lo:Option Addr),vs=[B,z,.ref f]/\Dt H B (.tup [.tup (q.map CZ),.tup (Av b)])/\Dt H z (pathD ws)/\okRows q/\Fits q ws/\okW 4 b/\kbB (q.map (·.1)) b=some g'/\SetOk f lo H/\HasL lo H ((evP q b ws).2.2.length+1)/\
 ∀(r:V) (H':Hp),Gr lo H H' (evP q b ws).2.2->TC (evP q b ws) H' r->Q r H'
theorem Gd.gr(h:Gd d lo H1 H' rs)(s:Same H H1)(hd:H d=none)(B:∀l,lo=some l->∃xs,H l=some (.lst xs)):Gr lo H H' rs:=by
 refine⟨fun a o n e=>h.1 a o (Ag e hd) n (s _ _ e),fun l e=>?_⟩;obtain⟨xs,hx⟩:=B l e;obtain⟨z,ys,q,F,d2⟩:=h.2 l e;rw[s _ _ hx] at q;cases q;exact⟨xs,ys,hx,F,d2⟩
theorem HasL.has(h:HasL lo H n):∀l,lo=some l->∃xs,H l=some (.lst xs):=fun l e=>by
 obtain⟨xs,hx,_⟩:=h l e;exact⟨xs,hx⟩
theorem kB(F:Fun K "run_by" "run_by" Br f fd) (b_sorted:mg "sorted" = none) (b_tuple:mg "tuple" = none) (c_names_at_first:Callee P w K mg base "names_at_first" ["ins","worths"] 3 TB) (c_do_block:Callee P w K mg base "do_block" ["block","path","names","settle"] 20 (HN 4)):FnOk P w K mg base CX0 21 f fd ["program","worths","settle"] IQ:=by
 refine F.ok sc_run_by (fun vs H Q E h=>?_) (fun lx A outer s H vs Q E hr h=>?_)
 ·obtain⟨gv,wv,B,b,ws,f,g',lo,rfl,_⟩:=h;rfl
 obtain⟨gv,wv,B,b,ws,fs,g',lo,rfl,hg,hw,J,lc,lg,ls,hS,hL,q⟩:=h;obtain⟨ga,iv,bv,rfl,lj,di,db⟩:=DO hg;refine⟨_,(A5 (AK (i:=3) sc_run_by.nd rfl ZB (AC c_names_at_first hr (by lia) (A3 (A8 A9 (A2 0 rfl QL) A4 (fun _ _=>rfl)) (A3 (A2 1 rfl ZE) pa_nil)) Yz YA) (AE rfl))
 (A5 (AK (i:=4) sc_run_by.nd rfl ZC (AC c_do_block hr (by lia) (A3 (A8 A9 (A2 0 rfl QL) A4 (fun _ _=>rfl)) (A3 (AW pa_nil) (A3 (A2 3 rfl QK) (A3 (A2 2 rfl ZD) pa_nil)))) Yy Pz) (AE rfl))
 (A5 (AJ (AH Eo (A2 4 rfl QM) AY (AF _)) (A7 (AA (A2 4 rfl QM))) AI)
 (A7 (AA (AW (A3 AR (A3 (D3 L7 ZA b_tuple GU (A3 (AZ (Wc rfl) Z0 b_sorted Dr (A3 (Wl (A2 3 rfl QK)) pa_nil) Dw Dv) pa_nil) Gc GY) pa_nil)))))))),Al fun N1 e1=>?_⟩
 walk_at "rd7";refine⟨_,SqT.of lj,_,BU,iv,wv,B,ws,rfl,di,hw,J,lc,fun d H1 s1 lu hd=>?_⟩;rw[e1];refine Al fun N2 e2=>?_;walk_at "rd7";refine⟨_,SqT.of (s1 _ _ lj),_,Ai (j:=1) rfl,y05 _,fun p0 lq=>?_⟩;have s2:=AD lq (HO.tup []);have O:=s1.trans s2;have lh:=NP B ws [] (T9 J) KeyOk.nil;have hh:=T8 B ws [] [] lc (fun r hr=>⟨(J.lo r hr).1,(J.lo r hr).2.2⟩) (fun x hx=>by simp at hx);rw[List.nil_append] at hh;refine⟨bv,b,.ref p0,[],d,fs,stB [] B ws,_,g',lo,rfl,db.kp O.kp,.tup A6 .nil,lg,by decide,by decide,ls,s2 _ _ hd,lh,hh,hS.kp (Same.kpE O),hL.same O,fun r H3 gd Y ho=>?_⟩;have G:Gr lo H H3 (evP B b ws).2.2:=gd.gr O lu hL.has;have M:=Ke b 4 [] 0 _ lg lh;rw[e2];refine Al fun N3 e3=>?_;walk_at "rd7";change NM (evP B b ws).1 H3 r at ho;change H3 d=some (.dK (kvC (evP B b ws).2.1)) at Y;change KeyOk (evP B b ws).2.1 at M;rcases Z:evP B b ws with⟨oo,cc,rr⟩;rw[Z] at ho Y M G q;cases oo with
 |some er=>
  have lr:r≠.non:=by
   obtain⟨a4,rfl,_⟩:=FM (r:=Rs.ref er.1 er.2) ho;intro z;cases z
  rw[if_pos (decide_eq_false lr)];exact q _ _ G ho
 |none=>
  cases ho;rw[if_neg (by simp),e3];walk_at "rd7";refine⟨_,Y,fun p hp=>?_⟩;have s6:=AD hp (Ho p d);refine⟨p,d,cc,Bp,rfl,A6,s6 _ _ Y,y1k M.len (by decide),fun x hx y hy=>kA (M.2 x hx) (M.2 y hy),fun l7 H7 wt mt s7 f7 h7 d7 lp ln=>?_⟩;refine⟨_,rfl,_,.inl ⟨SqL.of h7,fun l8 h8=>⟨by decide,fun p9 h9=>?_⟩⟩⟩;have s8:=AD h8 (HO.tup wt);have s9:=AD h9 (HO.tup [V.str "told",V.ref l8]);have lm:=s6.trans (s7.trans (s8.trans s9));have lv:HasL lo H3 0:=by
   have:=hL.on G (m:=0) (by rw[Z]; show rr.length+0<=rr.length+1; lia);exact this
  have GG:=G.trans (Gr.same lm lv);rw[y0n] at GG;exact q _ _ GG ⟨mt,lp,ln,.tup A6 (.cons (.str _) (.cons (.tup (s9 _ _ A6) (d7.kp (s8.trans s9).kp)) .nil))⟩
structure FunC(K:y3)(x qual:Str)(st:Stmt)(f:Addr)(fd:y0v)(c:Addr):Prop where
 ex:∃(oc:ya) (od:Option Addr) (kV doc pm:ya) (an:Option Addr) (ct:ya) (osl:Array (Option ya)),
  fd=PySem.W.fnOf x qual (defArgs st) (defBody st) (defScope st) .none kV doc pm an (.ref c) ct/\K.lookup f=some ⟨oc,od,.func fd,osl⟩/\PySem.W.codeIn K (.ref c) qual=true
 kp:PySem.W.keepIn K (.ref f)=true
theorem FunC.ok{mg:Str->Option ya}(F:FunC K x qual st f fd c)(S:FnScope N ps (defScope st))(len:∀vs H Q E,sp vs H Q E->vs.length=ps.length)
  (z:∀(A:y0a) (outer:List PySem.Env) (s:y9) (H:Hp) (vs:List V) (Q:VK) (E:XK),Room k (A.deeper (PyProof.Rows.envOfC qual (defScope st) s.heap.objs.size f (.ref c)))->sp vs H Q E->
   ∃t,PSs (BH CX0 P w K mg base N qual (defScope st) f (.ref c) A outer s H E).nox (defBody st) t/\t {nx:=fun _ H'=>Q .non H',rt:=Q} (L2.start N vs) H):FnOk P w K mg base CX0 (k+1) f fd ps sp:=by
 obtain⟨oc,Z,kV,O,Y,an,ct,J,rfl,M,G⟩:=F.ex
 refine OG M G S len fun A outer s H vs Q E hr B=>?_
 obtain⟨t,h,q⟩:=z A outer s H vs Q E hr B
 exact⟨t,h.nox,q⟩
def TabAt(z:Addr)(pos:Pos)(q:Str)(H:Hp):Prop:=H z=some (.tbl #[])\/∃c',H z=some (.tbl (#[] ++ #[rawInt pos.line,rawInt pos.col,.ref c']))/\H c'=some (Bq c' q)
theorem SameB.kpT(h:SameB pt H H')(q:H pt=some (.tbl ps)):Kp H H':=
 ⟨fun b xs e=>h b _ (BL e q (by intro z; cases z)) e,fun b xs e=>⟨xs,h b _ (BL e q (by intro z; cases z)) e⟩⟩
abbrev posR:Pos:=Sk (KY C4)
abbrev posT:Pos:=Sk (KY BQ)
def TD(z:Addr):Sp:=fun vs H Q _=>∃(F B:V) (q:List Rw) (b:List D) (ws:List Int) (g':List Str),vs=[F,B]/\Dt H F (.tup [.tup (q.map CZ),.tup (Av b)])/\Dt H B (pathD ws)/\okRows q/\Fits q ws/\okW 4 b/\kbB (q.map (·.1)) b=some g'/\TabAt z posR dR.qual H/\
 ∀(r:V) (H':Hp),SameB z H H'->TabAt z posR dR.qual H'->TC (evP q b ws) H' r->Q r H'
def TF(z:Addr):Sp:=fun vs H Q _=>∃(F B:V) (q:List Rw) (b:List D) (ws:List Int) (g':List Str),vs=[F,B]/\Dt H F (.tup [.tup (q.map CZ),.tup (Av b)])/\Dt H B (pathD ws)/\okRows q/\Fits q ws/\okW 4 b/\kbB (q.map (·.1)) b=some g'/\(evP q b ws).2.2.length+1<yn/\TabAt z posT dT.qual H/\
 ∀(l:Addr) (ys:List V) (H':Hp),SameB z H H'->H l=none->TabAt z posT dT.qual H'->H' l=some (.lst ys)->DtA H' ys ((evP q b ws).2.2.map IN)->Q (.ref l) H'
theorem kC(pos:Pos)(c':Addr):TriplesOk (#[] ++ #[rawInt pos.line,rawInt pos.col,Value.ref c']).toList:=by simp[TriplesOk,rawInt]
theorem kE(pos:Pos)(c':Addr):codeAmong pos (#[] ++ #[rawInt pos.line,rawInt pos.col,Value.ref c']).toList=some (.ref c'):=by simp[codeAmong,rawInt]
theorem TH{F:Addr}{pos:Pos}{D:LamD}{cl:List (Str×Addr)}{σ:St}{H:Hp}{Q:VK}(B:TabAt F pos D.qual H)(q:∀(z c':Addr) (H2:Hp),SameB F H H2->Kp H H2->H z=none->H2 z=some (CB D cl z c')->H2 c'=some (Bq c' D.qual)->TabAt F pos D.qual H2->Q (.ref z) H2):J2 F pos D cl σ H Q:=by
 rcases B with B|⟨c',B,G⟩
 ·refine⟨#[],B,trivial,.inl ⟨rfl,fun c' z h1 h2 M=>?_⟩⟩;have Z:F≠c':=Ag B h1;have Y:F≠z:=Ag B h2;have O:SameB F H (upd (upd (upd H F (.tbl (#[] ++ #[rawInt pos.line,rawInt pos.col,.ref c']))) c' (Bq c' D.qual)) z (CB D cl z c')):=fun a o n e=>by rw[AB (Ag e h2),AB (Ag e h1),AB n]; exact e
  exact q z c' _ O (O.kpT B) h2 A6 (by rw[AB M,A6]) (.inr ⟨c',by rw[AB Y,AB Z,A6],by rw[AB M,A6]⟩)
 ·refine⟨_,B,kC pos c',.inr ⟨c',kE pos c',G,fun z h1=>?_⟩⟩;have J:=AD h1 (CB D cl z c');exact q z c' _ (SameB.of J) J.kp h1 A6 (J _ _ G) (.inr ⟨c',J _ _ B,J _ _ G⟩)
theorem TabAt.kp(h:TabAt pt pos q H)(k:∀a o,(∀xs,o≠.lst xs)->H a=some o->H' a=some o):TabAt pt pos q H':=by
 rcases h with h|⟨c',h1,h2⟩
 ·exact .inl (k _ _ (by intro xs z; cases z) h)
 ·exact .inr ⟨c',k _ _ (by intro xs z; cases z) h1,k _ _ (by intro xs z; cases z) h2⟩
theorem kG(F:FunC K "run" "run" C4 f fd c) (hC:PySem.W.CodeHd base c pt) (hB:base.BuiltinsAt mg pt) (lg:yu≠pt) (c_run_by:Callee P w K mg base "run_by" ["program","worths","settle"] 21 IQ):FnOk P w K mg base CX0 22 f fd ["program","worths"] (TD pt):=by
 refine F.ok Yo (fun vs H Q E h=>?_) (fun A outer s H vs Q E hr h=>?_)
 ·obtain⟨Y,O,B,b,ws,g',rfl,_⟩:=h;rfl
 obtain⟨Y,O,B,b,ws,g',rfl,hg,hw,J,M,Z,lc,hT,q⟩:=h;refine⟨_,(A7 (AA (AC c_run_by hr (by lia) (A3 (A2 0 rfl Yq) (A3 (A2 1 rfl Yr) (A3 (PN (c:=c) (P:=pt) rfl rfl rfl hC hB lg) pa_nil))) Yp Q9))),?_⟩;walk_at "rd7";show J2 pt posR dR [] [some Y,some O] H fun x H1=>IQ [Y,O,x] H1 Q E0;refine TH hT fun fa c' H2 sB kp lj hf hc lh=>?_;refine⟨Y,O,B,b,ws,fa,g',none,rfl,hg.kp kp,hw.kp kp,J,M,Z,lc,⟨c',hf,hc⟩,fun l z=>(by cases z),fun r H' G ho=>q r H' (fun a o n e=>G.1 a o (by simp) (sB a o n e)) (lh.kp fun a o _ e=>G.1 a o (by simp) e) ho⟩
theorem kH(F:FunC K "traced" "traced" BQ f fd c) (hC:PySem.W.CodeHd base c pt) (hB:base.BuiltinsAt mg pt) (lq:yu≠pt) (c_run_by:Callee P w K mg base "run_by" ["program","worths","settle"] 21 IQ):FnOk P w K mg base CX0 22 f fd ["program","worths"] (TF pt):=by
 refine F.ok sc_traced (fun vs H Q E h=>?_) (fun A outer s H vs Q E hr h=>?_)
 ·obtain⟨gv,wv,J,b,ws,g',rfl,_⟩:=h;rfl
 obtain⟨gv,wv,J,b,ws,g',rfl,hg,hw,lc,lh,ln,lp,hz,hT,q⟩:=h;have hcl_rows:(BH CX0 P w K mg base ["program","worths","rows"] "traced" (defScope BQ) f (.ref c) A outer s H E).nox.env.cells.lookup ("rows" : Str)=some (s.heap.objs.size+1):=rfl;refine⟨_,(A5 (AK (i:=2) sc_traced.nd rfl Yu (Dh pa_nil) (AE rfl))
 (A5 (HX (Wp (i:=2) c_run_by hr (by lia) (A3 (A2 0 rfl Yv) (A3 (A2 1 rfl Yx) (A3 (PN (c:=c) (P:=pt) rfl rfl rfl hC hB lq) pa_nil))) rfl hcl_rows Ys rfl Yt Q9) (AE rfl))
 (A7 (AA (A2 2 rfl Yw))))),Al fun N1 e1=>?_⟩
 walk_at "rd7";refine⟨y05 _,fun l hl=>?_⟩;have s1:=AD hl (HO.lst []);have lg:(upd H l (HO.lst [])) l=some (.lst []):=A6;generalize upd H l (HO.lst [])=H1 at s1 lg |-;rw[e1];refine Al fun N2 e2=>?_;walk_at "rd7";show LW IQ (s.heap.objs.size+1) 2 (BG (Az 0) (BG (Az 1) (BG (J2 pt posT dT [("rows",s.heap.objs.size+1)]) CK))) [some gv,some wv,some (V.ref l)] H1 fun x H1=>N2 [some gv,some wv,some (V.ref l)] H1;clear hcl_rows;generalize s.heap.objs.size+1=cc;simp only[LW];walk_at "rd7";have ls:TabAt pt posT dT.qual H1:=hT.kp fun a o _ e=>s1 _ _ e;have lm:l≠pt:=fun z=>by
  rcases hT with h|⟨_,h,_⟩<;>(rw[<- z,hl] at h; cases h)
 refine TH ls fun fa c' H2 sB kp lv hf hc lr=>?_;refine fun o u hd ru Y=>?_;cases ru;have O:=AD Y (At cc o);have lj:(upd H2 cc (At cc o)) cc=some (At cc o):=A6;have B:=sB l _ lm lg;have lu:l≠cc:=Ag B Y;have Z:=s1.kp.trans (kp.trans O.kp);refine⟨gv,wv,J,b,ws,fa,g',some l,rfl,hg.kp Z,hw.kp Z,lc,lh,ln,lp,⟨c',cc,o,O _ _ hf,O _ _ hc,lj,hd⟩,fun l' z=>?_,fun r H4 G ho=>?_⟩
 ·cases z;exact⟨[],O _ _ B,by simpa using hz⟩
 have M:=G.keep lj (by intro xs z; unfold At at z; cases z);refine⟨M,?_⟩;obtain⟨xs,ys,e3,e4,d4⟩:=G.2 l rfl;rw[O _ _ B] at e3;cases e3;have out:∀{a:Addr} {o':HO},H4 a=some o'->H2 a≠none->BC [cc] H4 a=some o':=fun {a o'} e n=>by
  rw[BP (fun z=>n (by rw[List.mem_singleton.mp z]; exact Y))];exact e
 rw[e2];walk_at "rd7";refine q l ys _ (fun a o' n e=>?_) hl (lr.kp fun a o' n e=>out (G.keep (O _ _ e) n) (by rw[e]; simp)) ?_ (d4.kp (NE M))
 ·have h2:=sB a o' n (s1 _ _ e);exact out (G.1 a o' (fun z=>by cases z; rw[hl] at e; cases e) (O _ _ h2)) (by rw[h2]; simp)
 ·exact out (by simpa using e4) (by rw[B]; simp)
theorem kI{tl:TE}{g:TG}{tb:TS}{D:Ends}{σ:St}{H:Hp}:CJ (Lc tl) g tb D σ H=tl σ H fun x H1=>∃d kvs,x=.ref d/\Rd H1 d (.dT kvs)/\∀(o:Obj) (as:List Addr),Paired (fun(kv:List Key×V) (a:Addr)=>H1 a=some (.tup (kv.1.map kV))) kvs as->Cl (Itd d o (.dT kvs) (as.map V.ref)) g tb D σ (upd H1 d (.frz o (.dT kvs))):=rfl
def hsS(s:Int×Int)(o:S):Int×Int:=jn s (if s.1=(o.getD s).1 then s.1 else -32768,if s.2=(o.getD s).2 then s.2 else 32767)
def DV(q z B:Bk)(x:Str):Bk:=match look z x with
 |some s=>Ao B x (hsS s (look q x))
 |none=>B
def Kf(z B:Bk):Bk:=(B.map fun q=>q.1).foldl (DV z B) []
theorem kJ(B q z:Bk)(x:Str):(DV B q z x).length<=z.length+1:=by
 unfold DV;split
 ·exact HB _ _ _
 ·lia
theorem TJ(B q:Bk):∀(xs:List Str) (z:Bk),(xs.foldl (DV B q) z).length<=z.length+xs.length
 |[],z=>yb _
 |x::r,z=>by
  have h1:=kJ B q z x;have h2:=TJ B q r (DV B q z x);rw[y1d,yh];lia
theorem NQ{v:V}{σ:St}{H:Hp}{Q:St->Hp->Prop}{i:Nat}(h:Q (σ.set i (some v)) H):B6 i v σ H Q:=by
 unfold B6;rw[CI];exact h
theorem NR{H:Hp}{x:V}{a b:Int}(h:Dt H x (AO (some (a,b)))):∃p,x=.ref p/\H p=some (.tup [.int a,.int b]):=by
 rcases dtS h with⟨z,_⟩|⟨_,_,p,z,e,q⟩
 ·cases z
 ·cases z;exact⟨p,e,q⟩
local macro_rules | `(tactic| walk_at "rq")=>`(tactic| simp only[Pj,kI,Hl,UL,PM,SS,↓FW,↓FX,↓Fr,↓Fs,↓FZ,↓Fa,↓Ft,↓Fu,↓Fv,↓Fw,↓FR,↓EN,↓FS,FT,FU,FV,FY,CI,Fo,Fp,Fq,Fb,Fc,Fd,Fe,Ff,Fg,C9,Ih,Hf,Ju,Jv,Jw,Jx,Jy,K0,Jz,K6,K7,K8,K9,KA,KC,GM,GN,Mf,KD,Mg,Iq,Hj,He,Ht,B2,Dd,tOp,Az,tC,Da,B6,Cw,Cv,DZ,EV,Fm,EU,ET,tCB,BG,CK,Cy,tUn,rU,rI0,rI,Cs,tOr,EQ,tB,ER,Fi,ES,tIf,G9,GF,Ea,Dl,Ez,Dn,Ex,GE,Do,Fl,tSl,Ed,Ee,Ef,GJ,GI,GK,F0,Gx,Gy,Gz,H0,Dg,Ec,tBM,
 qEq,qNe,qIn,G4,El,Em,G5,En,Ek,Ep,GA,Eu,Es,Et,G8,rIx,Di,B0,Eg,Fx,Fy,G0,G3,Dk,Eh,Ei,EW,Fk,Cz,
 Gm,Gn,Go,Gp,Gq,Gs,Gu,Gv,Gw,Nat.reduceAdd,Nat.reduceSub,y30,y2z,y1z,
 y0r,y13,y1x,y1y,y26,y1h,V.int.injEq,V.ref.injEq,V.str.injEq,V.bl.injEq,V.ty.injEq,
 reduceCtorEq,false_and,and_false,and_true,true_and,exists_false,exists_const,false_or,or_false,exists_eq_left,exists_eq_left',exists_eq_right,exists_eq_right',exists_and_left,decide_eq_true_eq,y0e,y1q,exists_eq,true_or,or_true,y15,if_true,if_false,y1j,y2n,y2g,decide_true,decide_false,y21,y25,y0s,y0o,bne_self_eq_false,beq_self_eq_true])
def TK:Sp:=fun vs H Q _=>∃(d1 d2:Addr) (z q:Bk),vs=[.ref d1,.ref d2]/\IsBk H d1 z/\IsBk H d2 q/\q.length<=900/\∀(r:Addr) (H':Hp),Fz H H'->H r=none->IsBk H' r (Kf z q)->Q (.ref r) H'
def HaI(H:Hp)(d1 d2 B:Addr)(o:Obj)(kvs:List (Key×V))(Y F:Bk)(i:Nat)(z:St)(H':Hp):Prop:=
 Fz H H'/\H' d2=some (.frz o (.dK kvs))/\(∃O M J G,z=[some (.ref d1),some (.ref d2),some (.ref B),O,M,J,G])/\∃kv,H' B=some (.dK kv)/\BkR H' kv (((F.map fun q=>q.1).take i).foldl (DV Y F) [])
theorem kK{rw:Addr} (F:Fun K "hastened" "hastened" BR f fd) (g_WIDE:GC mg "WIDE" (.ref rw)) (hW:∀H,SqT K H rw [.int (-32768),.int 32767]) (c_joined:Callee P w K mg base "joined" ["one","other"] 1 (DN DM)):FnOk P w K mg base CX0 2 f fd ["before","book"] TK:=by
 refine F.ok sc_hastened (fun vs H Q E h=>?_) (fun md A outer s H vs Q E hr h=>?_)
 ·obtain⟨d1,d2,b1,O,rfl,_⟩:=h;rfl
 obtain⟨d1,d2,b1,O,rfl,h1,h2,hl,q⟩:=h;refine⟨_,(A5 (AK (i:=2) sc_hastened.nd rfl fM Ey (AE rfl))
 (A5 (C0 y0g rfl (JB (A2 1 rfl FE)) (Ab (i:=3) sc_hastened.nd rfl fP)
 (A5 (AK (i:=4) sc_hastened.nd rfl fQ (LG hr.units1 (A2 0 rfl fR) (A2 3 rfl EB) (Ar hr.units1 (A2 1 rfl FE) (A2 3 rfl EB) (fun _ _=>rfl)) ⟨rfl,rfl,rfl,rfl⟩) (AE rfl))
 (A5 (AK (i:=5) sc_hastened.nd rfl fO (HW (AH G6 (A8 A9 (Ar hr.units1 (A2 1 rfl FE) (A2 3 rfl EB) (fun _ _=>rfl)) A4 (fun _ _=>rfl)) (A8 A9 (A2 4 rfl RZ) A4 (fun _ _=>rfl)) (AF _)) (A8 A9 (Ar hr.units1 (A2 1 rfl FE) (A2 3 rfl EB) (fun _ _=>rfl)) A4 (fun _ _=>rfl)) (A8 A9 (Bg g_WIDE RX DC) A4 (fun _ _=>rfl))) (AE rfl))
 (A5 (AK (i:=6) sc_hastened.nd rfl fN (HW (AH G6 (A8 A9 (Ar hr.units1 (A2 1 rfl FE) (A2 3 rfl EB) (fun _ _=>rfl)) A4 (fun _ _=>rfl)) (A8 A9 (A2 4 rfl RZ) A4 (fun _ _=>rfl)) (AF _)) (A8 A9 (Ar hr.units1 (A2 1 rfl FE) (A2 3 rfl EB) (fun _ _=>rfl)) A4 (fun _ _=>rfl)) (A8 A9 (Bg g_WIDE RX DC) A4 (fun _ _=>rfl))) (AE rfl))
 (A7 (C3 hr.units1 (A2 2 rfl RY) (A2 3 rfl EB) (AC c_joined hr (by lia) (A3 (Ar hr.units1 (A2 1 rfl FE) (A2 3 rfl EB) (fun _ _=>rfl)) (A3 (AW (A3 (A2 5 rfl fT) (A3 (A2 6 rfl fS) pa_nil))) pa_nil)) fL JO) (AE rfl)))))))
 (A7 (AA (A2 2 rfl RY))))),AN fun N1 e1=>?_⟩
 walk_at "rq";intro J lj;rw[e1];refine AN fun N2 e2=>?_;walk_at "rq";have s1:=AD lj (HO.dK []);have eb:upd H J (HO.dK []) J=_:=A6;have ls:d2≠J:=by
  intro z;subst z;obtain⟨kvs,e|⟨_,e⟩,_⟩:=h2<;>rw[lj] at e<;>cases e
 generalize upd H J (HO.dK [])=U at s1 eb |-;obtain⟨kvs,hd,rb⟩:=id (h2.same s1);refine⟨kvs,hd,fun o=>?_⟩;have sF:Fz U (upd U d2 (.frz o (.dK kvs))):=Fz.frz o hd;have eF:upd U d2 (.frz o (.dK kvs)) d2=_:=A6;have ly:upd U d2 (.frz o (.dK kvs)) J=some (.dK []):=by rw[AB (y0y ls)]; exact eb
 generalize upd U d2 (.frz o (.dK kvs))=UF at sF eF ly |-;have lR:Fz H UF:=Fz.trans (.of s1) sF;rw[rb.key_at];refine JC (HaI H d1 d2 J o kvs b1 O) ⟨lR,eF,⟨_,_,_,_,rfl⟩,[],ly,.nil⟩ ?_ ?_ ?_
 ·rintro i lq H' _ ⟨_,h,_⟩;exact h
 ·rintro i v lq H' hv ⟨sb,hf,⟨t1,t2,t3,t4,rfl⟩,kv,lh,Z⟩;rw[ym] at hv;cases hq:O[i]? with
  |none=>rw[hq] at hv; cases hv
  |some B=>
   rw[hq] at hv;have ev:V.str B.1=v:=by simpa using hv
   subst ev;have lu:B.1∈O.map (fun q=>q.1):=List.mem_map.mpr ⟨B,yi hq,rfl⟩;have lT:((O.map fun q=>q.1).take (i+1))=((O.map fun q=>q.1).take i)++[B.1]:=by
    rw[y0q,ym,hq]; rfl
   have ma:i<O.length:=(List.getElem?_eq_some_iff.mp hq).1;obtain⟨sx,lU⟩:=FI lu;obtain⟨k1,lx,r1⟩:=sb.bk h1;obtain⟨k2,lW,r2⟩:=sb.bk h2;rcases r2.look B.1 with⟨z,_⟩|⟨⟨G,M⟩,v2,z2,lQ,lp⟩
   ·rw[lU] at z; cases z
   have g1:=DGet.kr (k:=.inr B.1) lx;have g2:=DGet.kr (k:=.inr B.1) lW;rw[lQ] at g2;have ln:=TJ b1 O ((O.map fun q=>q.1).take i) [];rw[y04,y0b] at ln;refine NQ ?_;show C9 _ _ _ [some (.ref d1),some (.ref d2),some (.ref J),some (.str B.1),t2,t3,t4] H';refine AN fun M1 f1=>?_;walk_at "rq";refine⟨.inl ⟨_,lx⟩,v2,g2,_,g1,?_⟩;obtain⟨ol,oh,vo,e3,ho,lY⟩:∃ol oh vo,(AX k1 (Sum.inr B.1)).getD v2=vo/\(look b1 B.1).getD (G,M)=(ol,oh)/\Dt H' vo (AO (some (ol,oh))):=by
    rcases r1.look B.1 with⟨z1,lm⟩|⟨⟨ol,oh⟩,v1,z1,lm,lZ⟩
    ·exact⟨G,M,_,rfl,congrArg (Option.getD · (G,M)) z1,by rw[lm]; exact lp⟩
    ·exact⟨ol,oh,_,rfl,congrArg (Option.getD · (G,M)) z1,by rw[lm]; exact lZ⟩
   rw[e3];show M1 _ _;rw[f1];obtain⟨p2,rfl,lg⟩:=NR lp;obtain⟨po,rfl,lr⟩:=NR lY;have fin:∀lo hi:Int,(if G=ol then G else -32768)=lo->(if M=oh then M else 32767)=hi->(Dn (Az 2) (Az 3) (Cy (DN DM) [] E0 (BG (Dl (Az 1) (Az 3)) (BG (Dg (BG (Az 5) (BG (Az 6) CK))) CK)))) {nx:=HaI H d1 d2 J o kvs b1 O (i+1),rt:=Q} [some (.ref d1),some (.ref d2),some (.ref J),some (.str B.1),some (.ref po),some (.int lo),some (.int hi)] H':=by
    intro lo hi el eh;walk_at "rq";refine⟨_,g2,zl 2 (by decide),fun p3 lV=>?_⟩;have s3:=AD lV (HO.tup [.int lo,.int hi]);have e3:upd H' p3 (HO.tup [.int lo,.int hi]) p3=_:=A6;generalize upd H' p3 (HO.tup [.int lo,.int hi])=U3 at s3 e3 |-;refine⟨_,_,some (G,M),some (lo,hi),rfl,lp.kp s3.kp,Cm e3,fun r4 H4 s4 lP=>?_⟩;rw[Mh] at lP;have Y:=s3.trans s4;refine⟨_,DPut.k (k:=.inr B.1) (Y _ _ lh) (by rw[Z.length]; exact An (by lia)),?_⟩;have lv:Kp H4 (upd H4 J (.dK (AM kv (.inr B.1) r4))):=ED (Y _ _ lh);have lS:Fz H H4:=sb.trans (.of Y);have lX:upd H4 J (.dK (AM kv (.inr B.1) r4)) d2=some (.frz o (.dK kvs)):=by rw[AB ls]; exact Y _ _ hf
    refine⟨lS.upd lj _,lX,⟨_,_,_,_,rfl⟩,_,A6,?_⟩;rw[lT,y1n];have ez:∀lc,[B.1].foldl (DV b1 O) lc=Ao lc B.1 (jn (G,M) (lo,hi)):=fun lc=>by
     show DV b1 O lc B.1=_;unfold DV;rw[z2];show Ao lc B.1 (jn (G,M) _)=_;rw[ho];simp only[el,eh]
    rw[ez];exact(Z.kp (Y.kp.trans lv)).put _ (lP.kp lv)
   refine AN fun M2 f2=>?_;walk_at "rq";refine⟨_,g2,_,rfl,_,SqT.of lg,_,rfl,_,SqT.of lr,_,rfl,_,rfl,_,rfl,?_⟩;have m2:M2 [some (.ref d1),some (.ref d2),some (.ref J),some (.str B.1),some (.ref po),some (.int (if G=ol then G else -32768)),t4] H':=by
    rw[f2];refine AN fun M3 f3=>?_;generalize hlo:(if G=ol then G else -32768)=lo;walk_at "rq";refine⟨_,g2,_,rfl,_,SqT.of lg,_,rfl,_,SqT.of lr,_,rfl,_,rfl,_,rfl,?_⟩;have m3:M3 [some (.ref d1),some (.ref d2),some (.ref J),some (.str B.1),some (.ref po),some (.int lo),some (.int (if M=oh then M else 32767))] H':=by
     rw[f3];exact fin _ _ hlo rfl
    by_cases c:M=oh
    ·rw[if_pos c];rw[if_pos c] at m3;exact⟨_,g2,_,rfl,_,SqT.of lg,_,rfl,m3⟩
    ·rw[if_neg c];rw[if_neg c] at m3;exact⟨_,hW _,_,rfl,m3⟩
   by_cases c:G=ol
   ·rw[if_pos c];rw[if_pos c] at m2;exact⟨_,g2,_,rfl,_,SqT.of lg,_,rfl,m2⟩
   ·rw[if_neg c];rw[if_neg c] at m2;exact⟨_,hW _,_,rfl,m2⟩
 ·rintro lq H' ⟨sb,hf,⟨t1,t2,t3,t4,rfl⟩,kv,lh,Z⟩;show N2 _ _;rw[e2];walk_at "rq";rw[y4,y2d (by rw[y4]; exact yb _)] at Z;exact q _ _ sb lj ⟨kv,.inl lh,Z⟩
def Cr(hd ws:Hds)(q:Bool)(z:Hds)(p:Pth):Hds:=match B4 ws p with
 |some b=>if q=true then BT (BT z p (jtB b ((B4 hd p).getD []))) p (Kf ((B4 hd p).getD []) (jtB b ((B4 hd p).getD []))) else BT z p (jtB b ((B4 hd p).getD []))
 |none=>z
def grownB(hd ws:Hds)(z:Bool):Hds:=(ws.map fun q=>q.1).foldl (Cr hd ws z) []
theorem kL(hd ws:Hds)(q:Bool)(z:Hds)(p:Pth):(Cr hd ws q z p).length<=z.length+2:=by
 unfold Cr;split
 ·split
  ·exact y0d (HD _ _ _) (Nat.succ_le_succ (HD _ _ _))
  ·exact y38 (HD _ _ _)
 ·exact y0p _ _
theorem TL(hd ws:Hds)(q:Bool):∀(xs:List Pth) (z:Hds),(xs.foldl (Cr hd ws q) z).length<=z.length+2*xs.length
 |[],z=>y0p _ _
 |x::r,z=>by
  have h1:=kL hd ws q z x;have h2:=TL hd ws q r (Cr hd ws q z x);rw[y1d,yh];lia
theorem NS{H:Hp}{p:Addr}{k k':List (List Key×V)}(h:H p=some (.dT k)):SB 0 H (upd H p (.dT k')):=fun b o e=>by
 by_cases hb:b=p
 ·subst hb;rw[h] at e;cases e;exact .inr (.inr ⟨rfl,_,_,rfl,A6⟩)
 ·exact .inl (by rw[AB hb]; exact e)
theorem HeldR.put{q:Addr}{H H':Hp}{p:Addr}{k k':List (List Key×V)}(h:HeldR q H H')(B:H p=none)(hk:H' p=some (.dT k)):HeldR q H (upd H' p (.dT k')):=
 ⟨fun c o J G F e=>by rw[AB (Ag e B)]; exact h.st c o J G F e,fun d b hb=>SB.bk (NS hk) (h.bk d b hb),fun k hw=>by
  have n:q≠p:=by rcases hw with z|⟨_,z⟩<;>exact Ag z B
  rcases h.rd k hw with z|⟨o,z⟩
  ·exact .inl (by rw[AB n]; exact z)
  ·exact .inr ⟨o,by rw[AB n]; exact z⟩⟩
end
local macro_rules | `(tactic| walk_at "rq")=>`(tactic| simp only[Pj,kI,Hl,UL,PM,SS,↓FW,↓FX,↓Fr,↓Fs,↓FZ,↓Fa,↓Ft,↓Fu,↓Fv,↓Fw,↓FR,↓EN,↓FS,FT,FU,FV,FY,CI,Fo,Fp,Fq,Fb,Fc,Fd,Fe,Ff,Fg,C9,Ih,Hf,Ju,Jv,Jw,Jx,Jy,K0,Jz,K6,K7,K8,K9,KA,KC,GM,GN,Mf,KD,Mg,Iq,Hj,He,Ht,B2,Dd,tOp,Az,tC,Da,B6,Cw,Cv,DZ,EV,Fm,EU,ET,tCB,BG,CK,Cy,tUn,rU,rI0,rI,Cs,tOr,EQ,tB,ER,Fi,ES,tIf,G9,GF,Ea,Dl,Ez,Dn,Ex,GE,Do,Fl,tSl,Ed,Ee,Ef,GJ,GI,GK,F0,Gx,Gy,Gz,H0,Dg,Ec,tBM,
 qEq,qNe,qIn,G4,El,Em,G5,En,Ek,Ep,GA,Eu,Es,Et,G8,rIx,Di,B0,Eg,Fx,Fy,G0,G3,Dk,Eh,Ei,EW,Fk,Cz,
 Gm,Gn,Go,Gp,Gq,Gs,Gu,Gv,Gw,Nat.reduceAdd,Nat.reduceSub,y30,y2z,y1z,
 y0r,y13,y1x,y1y,y26,y1h,V.int.injEq,V.ref.injEq,V.str.injEq,V.bl.injEq,V.ty.injEq,
 reduceCtorEq,false_and,and_false,and_true,true_and,exists_false,exists_const,false_or,or_false,exists_eq_left,exists_eq_left',exists_eq_right,exists_eq_right',exists_and_left,decide_eq_true_eq,y0e,y1q,exists_eq,true_or,or_true,y15,if_true,if_false,y1j,y2n,y2g,decide_true,decide_false,y21,y25,y0s,y0o,bne_self_eq_false,beq_self_eq_true])
theorem HeldR.kp{q:Addr}{H H':Hp}{k:List (List Key×V)}(h:HeldR q H H')(hw:Rd H q (.dT k)):Kp H H':=
 have n:∀{b:Addr} {o:HO},H b=some o->(∀k,o≠.dT k)->(∀B u,o≠.frz B u)->b≠q:=fun {b o} e G F z=>by
  subst z;rcases hw with w|⟨_,w⟩<;>(rw[e] at w; cases w)
  ·exact G _ rfl
  ·exact F _ _ rfl
 ⟨fun b xs e=>h.st b _ (n e (fun _ z=>by cases z) (fun _ _ z=>by cases z)) (fun _ z=>by cases z) (fun _ _ z=>by cases z) e,fun b xs e=>⟨xs,h.st b _ (n e (fun _ z=>by cases z) (fun _ _ z=>by cases z)) (fun _ z=>by cases z) (fun _ _ z=>by cases z) e⟩⟩
theorem HdR.fz{H H':Hp}{kvs:List (List Key×V)}{l:Hds}(h:HdR H kvs l)(s:Fz H H'):HdR H' kvs l:=h.mono fun _ _ z=>s.bk z
theorem Fz.frT{H H':Hp}(s:Fz H H'){b:Addr}{o:Obj}{k:List (List Key×V)}(h:H b=some (.frz o (.dT k))):H' b=some (.frz o (.dT k)):=by
 rcases s _ _ h with h1|⟨_,_,e|⟨_,e⟩,_⟩
 ·exact h1
 ·cases e
 ·cases e
theorem IsBk.none{H:Hp}{p:Addr}(h:H p=some (.dK [])):IsBk H p []:=⟨[],.inl h,.nil⟩
section
variable{P:yl}{w:y07}{K:y3}{mg:Str->Option ya}{base:Heap}{f:Addr}{fd:y0v}
def TM:Sp:=fun vs H Q _=>∃(F B:Addr) (z:Bool) (hk G:List (List Key×V)) (hd ws:Hds),vs=[.ref F,.ref B,.bl z]/\H F=some (.dT hk)/\HdR H hk hd/\Rd H B (.dT G)/\HdR H G ws/\F≠B/\ws.length<=60/\(∀q∈ws,q.2.length<=900)/\
 ∀(r:Addr) (kvs:List (List Key×V)) (H':Hp),HeldR B H H'->H r=none->H' r=some (.dT kvs)->HdR H' kvs (grownB hd ws z)->Q (.ref r) H'
def GrI(H:Hp)(O F g:Addr)(z:Bool)(o:Obj)(G:List (List Key×V))(hd ws:Hds)(i:Nat)(B:St)(H':Hp):Prop:=
 HeldR F H H'/\H' F=some (.frz o (.dT G))/\(∃M J,B=[some (.ref O),some (.ref F),some (.bl z),some (.ref g),M,J])/\∃kv,H' g=some (.dT kv)/\HdR H' kv (((ws.map fun q=>q.1).take i).foldl (Cr hd ws z) [])
theorem kM(F:Fun K "grown" "grown" Bw f fd) (c_joined_to:Callee P w K mg base "joined_to" ["book","other"] 2 KL) (c_hastened:Callee P w K mg base "hastened" ["before","book"] 2 TK):FnOk P w K mg base CX0 3 f fd ["heads","wants","is_hasty"] TM:=by
 refine F.ok sc_grown (fun vs H Q E h=>?_) (fun mE A outer s H vs Q E hr h=>?_)
 ·obtain⟨hA,J,B,hk,Y,hd,ws,rfl,_⟩:=h;rfl
 obtain⟨hA,J,B,hk,Y,hd,ws,rfl,eh,rh,lq,lp,my,hl,mz,q⟩:=h;refine⟨_,(A5 (AK (i:=3) sc_grown.nd rfl fH Hk (AE rfl))
 (A5 (C0 y0g rfl (PY (A2 1 rfl RW)) (Ab (i:=4) sc_grown.nd rfl fI)
 (A5 (AK (i:=5) sc_grown.nd rfl fG (LG hr.units1 (A2 0 rfl fJ) (A2 4 rfl IF) Ey ⟨rfl,rfl,rfl,rfl⟩) (AE rfl))
 (A5 (C3 hr.units1 (A2 3 rfl Jm) (A2 4 rfl IF) (AC c_joined_to hr (by lia) (A3 (Ar hr.units1 (A2 1 rfl RW) (A2 4 rfl IF) (fun _ _=>rfl)) (A3 (A2 5 rfl RV) pa_nil)) fF Q6) (AE rfl))
 (A7 (AJ (Be (A2 2 rfl fK)) (A7 (C3 hr.units1 (A2 3 rfl Jm) (A2 4 rfl IF) (AC c_hastened hr (by lia) (A3 (A2 5 rfl RV) (A3 (Ar hr.units1 (A2 3 rfl Jm) (A2 4 rfl IF) (fun _ _=>rfl)) pa_nil)) fE Xo) (AE rfl))) AI)))))
 (A7 (AA (A2 3 rfl Jm))))),AN fun N1 e1=>?_⟩
 walk_at "rq";intro g hg;rw[e1];refine AN fun N2 e2=>?_;walk_at "rq";have s1:=AD hg (HO.dT []);have eg:upd H g (HO.dT []) g=_:=A6;have hU:∀b xs,upd H g (HO.dT []) b=some (.tup xs)->H b=some (.tup xs):=fun b xs e=>by
  unfold upd at e;split at e
  ·cases e
  ·exact e
 generalize upd H g (HO.dT [])=U at s1 eg hU |-;have lV:Rd U J (.dT Y):=Rd.same lq s1;refine⟨Y,lV,fun o as ha=>?_⟩;have lr:g≠J:=fun z=>by subst z; rcases lq with z|⟨_,z⟩<;>(rw[hg] at z; cases z)
 have sF:HeldR J U (upd U J (.frz o (.dT Y))):=HeldR.frz o lV;have eF:upd U J (.frz o (.dT Y)) J=_:=A6;have me:upd U J (.frz o (.dT Y)) g=some (.dT []):=by rw[AB lr]; exact eg
 generalize upd U J (.frz o (.dT Y))=UF at sF eF me |-;have mh:HeldR J H UF:=HeldR.trans (.of s1) sF;have mC:as.length=ws.length:=by rw[<- ha.length]; exact lp.length
 refine JC (GrI H hA J g B o Y hd ws) ⟨mh,eF,⟨_,_,rfl⟩,[],me,.nil⟩ ?_ ?_ ?_
 ·rintro i lS H' _ ⟨_,h,_⟩;exact h
 ·rintro i v lS H' hv ⟨sb,hf,⟨t1,t2,rfl⟩,kv,lx,M⟩;rw[ym] at hv;cases hq:as[i]? with
  |none=>rw[hq] at hv; cases hv
  |some pa=>
   rw[hq] at hv;have ev:V.ref pa=v:=by simpa using hv
   subst ev;obtain⟨kq,mB,ma⟩:=DA ha hq;obtain⟨G,ls,ek⟩:=HdR.at_ lp mB;rw[ek,BK] at ma;have lu:=(sb.kp lq).t _ _ (hU _ _ ma);have lY:G.1∈ws.map (fun q=>q.1):=List.mem_map.mpr ⟨G,yi ls,rfl⟩;have mq:((ws.map fun q=>q.1).take (i+1))=((ws.map fun q=>q.1).take i)++[G.1]:=by
    rw[y0q,ym,ls]; rfl
   have mD:i<ws.length:=(List.getElem?_eq_some_iff.mp ls).1;have lh:=TL hd ws B ((ws.map fun q=>q.1).take i) [];rw[y04,y0b] at lh;obtain⟨b1,lQ,ml⟩:=IM lY;have lm:=mz _ ml;have md:=sb.st hA _ my (fun _ z=>by cases z) (fun _ _ z=>by cases z) eh;have mj:=rh.mono sb.bk;unfold GrI;rw[mq,y1n];generalize ((ws.map fun q=>q.1).take i).foldl (Cr hd ws B) []=acc at M lh |-;show B6 4 _ _ _ _;refine NQ ?_;show C9 _ _ _ [some (.ref hA),some (.ref J),some (.bl B),some (.ref g),some (.ref pa),t2] H';refine AN fun M1 f1=>?_;walk_at "rq";refine⟨.inr ⟨_,.inl md⟩,fun p0 mr=>?_⟩;have Z:=AD mr (HO.dK []);have e0:upd H' p0 (HO.dK []) p0=_:=A6;generalize upd H' p0 (HO.dK [])=U0 at Z e0 |-;have lT:HeldR J H U0:=sb.trans (.of Z);refine⟨_,.inr ⟨hk,AL G.1,pa,.inl (Z _ _ md),rfl,by rw[BK]; exact Z _ _ lu,rfl⟩,?_⟩;obtain⟨db,bb,e3,ib,eb⟩:∃db bb,(AX hk (AL G.1)).getD (.ref p0)=.ref db/\IsBk U0 db bb/\(B4 hd G.1).getD []=bb:=by
    rcases mj.look G.1 with⟨z1,z2⟩|⟨b2,d2,z1,z2,i2⟩
    ·exact⟨p0,[],congrArg (Option.getD · (V.ref p0)) z2,.none e0,congrArg (Option.getD · []) z1⟩
    ·exact⟨d2,b2,congrArg (Option.getD · (V.ref p0)) z2,i2.same Z,congrArg (Option.getD · []) z1⟩
   rw[e3];show M1 _ _;rw[f1];refine AN fun M2 f2=>?_;walk_at "rq";rcases(lp.mono lT.bk).look G.1 with⟨z,_⟩|⟨mF,d1,z1,mf,i1⟩
   ·rw[lQ] at z; cases z
   rw[lQ] at z1;cases z1;have mo:Rd U0 J (.dT Y):=.inr ⟨_,Z _ _ hf⟩;refine⟨_,.inr ⟨Y,AL G.1,pa,mo,rfl,by rw[BK]; exact Z _ _ lu,mf.symm⟩,d1,db,b1,bb,rfl,i1,ib,lm,fun r H2 O ir=>?_⟩;have lj:=O.dT (Z _ _ lx);have lg:=O.kp.t _ _ (Z _ _ lu);have lZ:kv.length<yn:=by rw[M.length]; exact An (by lia)
   refine⟨_,DPut.t (k:=AL G.1) lj (by rw[BK]; exact lg) lZ,?_⟩;have mi:HeldR J H H2:=lT.trans (.fz O);have ln:=mi.put (k':=AM kv (AL G.1) (.ref r)) hg lj;have sD:=NS (k':=AM kv (AL G.1) (.ref r)) lj;have e4:upd H2 g (.dT (AM kv (AL G.1) (.ref r))) g=_:=A6;have lP:upd H2 g (.dT (AM kv (AL G.1) (.ref r))) J=some (.frz o (.dT Y)):=by
    rw[AB (y0y lr)];exact O.frT (Z _ _ hf)
   have lc:upd H2 g (.dT (AM kv (AL G.1) (.ref r))) pa=some (.tup (G.1.map V.int)):=by
    rw[AB (BL lg lj (by intro z; cases z))];exact lg
   have r3:HdR _ (AM kv (AL G.1) (.ref r)) (BT acc G.1 (jtB b1 bb)):=(((M.mono fun _ _ z=>O.bk (z.same Z)).sb sD).put G.1 (sD.bk ir));have lW:=sD.bk ir;have lX:=sD.bk (O.bk ib);generalize upd H2 g (.dT (AM kv (AL G.1) (.ref r)))=H3 at ln e4 lP lc r3 lW lX |-;show M2 _ _;rw[f2];walk_at "rq";have lR:[G.1].foldl (Cr hd ws B) acc=Cr hd ws B acc G.1:=rfl;rw[lR];unfold Cr;rw[lQ,eb];cases B with
   |false=>
    rw[if_neg (by decide)];exact⟨ln,lP,⟨_,rfl⟩,_,e4,r3⟩
   |true=>
    rw[if_pos rfl];have lv:=r3.length;have:=HD acc G.1 (jtB b1 bb);have gv:AX (AM kv (AL G.1) (.ref r)) (AL G.1)=some (.ref r):=by rw[LC,if_pos rfl]
    refine⟨_,.inr ⟨_,AL G.1,pa,.inl e4,rfl,by rw[BK]; exact lc,gv.symm⟩,db,r,bb,_,rfl,lX,lW,by have:=Mm b1 bb; have:b1.length<=900:=lm; lia,fun r2 H4 f4 _ mm=>?_⟩;have ly:=f4.dT e4;refine⟨_,DPut.t (k:=AL G.1) ly (by rw[BK]; exact f4.kp.t _ _ lc) (by rw[lv]; exact An (by lia)),?_⟩;have lU:=NS (k':=AM (AM kv (AL G.1) (.ref r)) (AL G.1) (.ref r2)) ly;refine⟨(ln.trans (.fz f4)).put hg ly,?_,⟨_,rfl⟩,_,A6,((r3.fz f4).sb lU).put G.1 (lU.bk mm)⟩;rw[AB (y0y lr)];exact f4.frT lP
 ·rintro lS H' ⟨sb,hf,⟨t1,t2,rfl⟩,kv,lx,M⟩;show N2 _ _;rw[e2];walk_at "rq";rw[y4,mC,y2d (by rw[y4]; exact yb _)] at M;exact q _ _ _ sb hg lx M
structure Gth(bh:Bh)(rows:List Rw)(b:List D)(G:Hds->Prop)(μ:Hds->Nat):Prop where
 ok:∀h,G h->BksOk h/\BksOk (walkB bh h rows b).2
 mu:∀h,G h->μ h<=100
 st:∀h,G h->heldB (walkB bh h rows b).2 h=false->∀c,G (grownB h (walkB bh h rows b).2 c)
 dn:∀h,G h->heldB (walkB bh h rows b).2 h=false->μ (grownB h (walkB bh h rows b).2 true)<μ h
 wt:∀h,G h->G (walkB bh h rows b).2
 nz:∀h,G h->heldB (walkB bh h rows b).2 h=true->h≠[]
end
theorem HeldR.kb{q:Addr}{H H':Hp}{k:List (List Key×V)}(h:HeldR q H H')(hw:Rd H q (.dT k)):KB H H':=⟨⟨fun c o n e=>h.st c o (fun z=>by
 subst z
 rcases hw with w|⟨_,w⟩<;>(rw[w] at e; cases e)
 ·exact n (.inr (.inl ⟨_,rfl⟩))
 ·exact n (.inr (.inr (.inr (.inl ⟨_,_,rfl⟩))))) (fun k z=>n (.inl ⟨k,z⟩)) (fun a k z=>n (.inr (.inr (.inl ⟨a,k,z⟩)))) e⟩,h.bk⟩
theorem Wk.open{K:y3}{H:Hp}{a M C dx G z:Addr}{B:Hds}{st:NW}(J:Wk K H a M B st)(ea:H a=some (.ins C dx (wkF3 G M z))):Cls K C/\NoAttr K C "wants"/\z≠G/\(∃hk,H G=some (.dT hk)/\HdR H hk B)/\∃J,H z=some (.dT J)/\HdR H J st.2:=by
 obtain⟨⟨C',Y,F,q,e,c1,⟨d1,d2,d3⟩,⟨n1,n2,n3⟩,eh,ew⟩,_⟩:=J;rw[ea] at e;have O:C=C'/\dx=Y/\wkF3 G M z=wkF3 F M q:=by injection e with e; injection e with x1 x2 Z; exact⟨x1,x2,Z⟩
 obtain⟨rfl,rfl,O⟩:=O;have e5:G=F/\z=q:=by simpa [wkF3] using O
 obtain⟨rfl,rfl⟩:=e5;exact⟨c1,d3,n3,eh,ew⟩
section
variable{P:yl}{w:y07}{K:y3}{mg:Str->Option ya}{base:Heap}{f:Addr}{fd:y0v}
def NT(Pq:T->Prop)(bh:Bh)(n:Nat):Sp:=fun vs H Q _=>∃(J:V) (F:Addr) (hk:List (List Key×V)) (B:Hds) (q:List Rw) (b:List D) (G:Hds->Prop) (M:Hds->Nat),vs=[J,.ref F]/\Dt H J (CG q b)/\H F=some (.dT hk)/\HdR H hk B/\DS Pq n q b/\Gth bh q b G M/\G B/\
 ∀(r:Addr) (kvs:List (List Key×V)) (z:Hds) (H':Hp),KB H H'->H' r=some (.dT kvs)->HdR H' kvs z->G z->z≠[]->Q (.ref r) H'
def TN(H:Hp)(J:V)(G:Hds->Prop)(F:Hds->Nat)(m:Nat)(z:St)(H':Hp):Prop:=
 KB H H'/\∃(B:Addr) (hk:List (List Key×V)) (q:Hds) (p:Nat),(∃t,z=[some J,some (.ref B),some (.int p),t])/\H' B=some (.dT hk)/\HdR H' hk q/\G q/\m=if 60<=p then F q else 200-p
theorem kN{Pq:T->Prop}{bh:Bh}{n:Nat}{C:Addr} (F:Fun K "grown_to_hold" "grown_to_hold" Bv f fd) (g_PLAIN_PASSES:GC mg "PLAIN_PASSES" (.int 60)) (c_walked:Callee P w K mg base "walked" ["program","heads"] (3*n+13) (KP K Pq bh n C)) (c_is_held:Callee P w K mg base "is_held" ["wants","heads"] 5 NB)
  (c_grown:Callee P w K mg base "grown" ["heads","wants","is_hasty"] 3 TM):FnOk P w K mg base CX0 (3*n+14) f fd ["program","heads"] (NT Pq bh n):=by
 refine F.ok sc_grown_to_hold (fun vs H Q E h=>?_) (fun lv A outer s H vs Q E hr h=>?_)
 ·obtain⟨gv,M,hk,B,J,b,G,μ,rfl,_⟩:=h;rfl
 obtain⟨gv,M,hk,B,J,b,G,μ,rfl,hg,eA,rA,lq,Y,g0,q⟩:=h;refine⟨_,(A5 (AK (i:=2) sc_grown_to_hold.nd rfl RP A4 (AE rfl))
 (A7 (Nq y0g (Be BA)
 (A5 (AK (i:=3) sc_grown_to_hold.nd rfl eV (Eb (AC c_walked hr (by lia) (A3 (A2 0 rfl eW) (A3 (A2 1 rfl Jk) pa_nil)) eT Lq) rfl) (AE rfl))
 (A5 (AJ (Be (AC c_is_held hr (by lia) (A3 (A2 3 rfl RS) (A3 (A2 1 rfl Jk) pa_nil)) eQ Q3)) (A7 (AA (A2 1 rfl Jk))) AI)
 (A5 (AK (i:=1) sc_grown_to_hold.nd rfl eU (AC c_grown hr (by lia) (A3 (A2 1 rfl Jk) (A3 (A2 3 rfl RS) (A3 (Dc O5 (A2 2 rfl RQ) (Bg g_PLAIN_PASSES eM XV) (AF _)) pa_nil))) eO Xn) (AE rfl))
 (A7 (AK (i:=2) sc_grown_to_hold.nd rfl RP (AT Cd (A2 2 rfl RQ) A4) (AE rfl))))))))),AN fun N1 e1=>?_⟩
 walk_at "rq";show N1 _ _;rw[e1];refine⟨TN H gv G μ,⟨_,.of (Same.refl _),M,hk,B,0,⟨_,rfl⟩,eA,rA,g0,rfl⟩,?_⟩;rintro m lr H' ⟨kb,M,hk,B,p,⟨t,rfl⟩,eA,rA,Z,rfl⟩;obtain⟨bo,bw⟩:=Y.ok _ Z;have lu:=Y.mu _ Z;walk_at "rq";refine⟨fun lp H2=>∃m',m'<(if 60<=p then μ B else 200-p)/\TN H gv G μ m' lp H2,fun _ _ z=>z,?_⟩;refine⟨gv,M,hk,B,J,b,rfl,hg.kp kb.k.kp,eA,rA,lq,fun a dx nn wA H3 k3 ea wk=>?_⟩;obtain⟨c1,d3,n3,⟨O,eh,rh⟩,lc,ew,lh⟩:=wk.open ea;refine⟨a,rfl,_,_,_,ea,c1,d3,_,KH,wA,M,lc,O,_,_,rfl,.inl ew,lh,eh,rh,n3,bw,bo,fun H4 h4=>⟨_,rfl,?_⟩⟩;have lg:=h4.rd _ (.inl ew);have lm:=(kb.trans k3).trans (h4.kb (.inl ew));have ln:=h4.st M _ (y0y n3) (fun _ z=>by cases z) (fun _ _ z=>by cases z) eh;have lj:=rh.mono h4.bk;cases hB:heldB (walkB bh B J b).2 B with
 |true=>
  rw[if_pos rfl];exact q M O B H4 lm ln lj Z (Y.nz _ Z hB)
 |false=>
  rw[if_neg (by decide)];refine⟨M,wA,decide (60<=(p:Int)),O,lc,B,_,rfl,ln,lj,lg,lh.mono h4.bk,y0y n3,bw.1,fun q hq=>y1a (y0w (bw.2.2 q hq).1 (by decide)),fun r kvs H5 h5 ls er rr=>?_⟩;refine⟨_,?_,lm.trans (h5.kb lg),r,kvs,_,p+1,⟨_,rfl⟩,er,rr,Y.st _ Z hB _,rfl⟩;by_cases c:60<=p
  ·rw[if_pos c,if_pos (y38 c),decide_eq_true (show(60:Int)<=p by lia)];exact Y.dn _ Z hB
  ·have:=Y.mu _ (Y.st _ Z hB (decide (60<=(p:Int))));rw[if_neg c];split<;>lia
theorem kO(s:Int×Int):(AO (some s)).shut=true/\SeqAt.shaped (AO (some s)).dat=true:=⟨rfl,rfl⟩
theorem BkR.val{H:Hp}{kvs:List (Key×V)}{bk:Bk}(h:BkR H kvs bk):∀y∈kvs,∃m,Dt H y.2 m/\m.shut=true/\SeqAt.shaped m.dat=true:=by
 unfold BkR at h;induction h with
 |nil=>intro y hy; cases hy
 |cons q _ z=>
  intro y hy;rcases List.mem_cons.mp hy with rfl|hy
  ·exact⟨_,q.2,kO _⟩
  ·exact z y hy
theorem HdR.dds{H:Hp}{a:Addr}{kvs:List (List Key×V)}{l:Hds}(h:HdR H kvs l)(r:Rd H a (.dT kvs)):DDs H a:=⟨kvs,r,by
 clear r
 unfold HdR at h
 induction h with
 |nil=>intro y hy; cases hy
 |cons q _ F=>
  intro y hy
  rcases List.mem_cons.mp hy with rfl|hy
  ·obtain⟨_,d,e,B,z,G⟩:=q
   exact⟨d,B,e,z,G.val⟩
  ·exact F y hy⟩
def TQ(Pq:T->Prop)(bh:Bh)(n:Nat):Sp:=fun vs H Q _=>∃(J:V) (F:Addr) (hk:List (List Key×V)) (z:Hds) (q:List Rw) (b:List D) (G:Hds->Prop) (M:Hds->Nat),vs=[J,.ref F]/\Dt H J (CG q b)/\H F=some (.dT hk)/\HdR H hk z/\DS Pq n q b/\Gth bh q b G M/\G z/\z≠[]/\
 ∀(r:Addr) (kvs:List (List Key×V)) (B:Hds) (H':Hp),KB H H'->Rd H' r (.dT kvs)->HdR H' kvs B->G B->B≠[]->Q (.ref r) H'
def kP(H:Hp)(F:V)(G:Hds->Prop)(_:Nat)(z:St)(H':Hp):Prop:=
 KB H H'/\∃(B:Addr) (hk:List (List Key×V)) (q:Hds),(∃t u,z=[some F,some (.ref B),t,u])/\H' B=some (.dT hk)/\HdR H' hk q/\G q/\q≠[]
theorem kQ{Pq:T->Prop}{bh:Bh}{n:Nat}{C:Addr} (F:Fun K "narrowed" "narrowed" C6 f fd) (b_range:mg "range" = none) (g_NARROWING_PASSES:GC mg "NARROWING_PASSES" (.int 6)) (c_walked:Callee P w K mg base "walked" ["program","heads"] (3*n+13) (KP K Pq bh n C))
  (c_grown_to_hold:Callee P w K mg base "grown_to_hold" ["program","heads"] (3*n+14) (JF (NT Pq bh n))):FnOk P w K mg base CX0 (3*n+15) f fd ["program","heads"] (TQ Pq bh n):=by
 refine F.ok sc_narrowed (fun vs H Q E h=>?_) (fun lq A outer s H vs Q E hr h=>?_)
 ·obtain⟨gv,B,hk,z,J,b,G,μ,rfl,_⟩:=h;rfl
 obtain⟨gv,B,hk,z,J,b,G,μ,rfl,hg,eA,rA,lh,gt,g0,z0,q⟩:=h;refine⟨_,(A5 (C0 y0g rfl (UQ et b_range (A3 (Bg g_NARROWING_PASSES eX XU) pa_nil)) (Ab (i:=2) sc_narrowed.nd rfl fD)
 (A5 (AK (i:=3) sc_narrowed.nd rfl fC (AC c_grown_to_hold hr (by lia) (A3 (A2 0 rfl RU) (A3 (Eb (AC c_walked hr (by lia) (A3 (A2 0 rfl RU) (A3 (A2 1 rfl Jl) pa_nil)) fA Lq) rfl) pa_nil)) ef Q1) (AE rfl))
 (A5 (AJ (AH (XA hr.units2) (A2 3 rfl RT) (A2 1 rfl Jl) (AF _)) (A7 (AA (A2 1 rfl Jl))) AI)
 (A7 (AK (i:=1) sc_narrowed.nd rfl fB (A2 3 rfl RT) (AE rfl))))))
 (A7 (AA (A2 1 rfl Jl)))),AN fun N1 e1=>?_⟩
 walk_at "rq";refine⟨by decide,by decide,?_⟩;refine UT (kP H gv G) ⟨.of (Same.refl _),B,hk,z,⟨_,_,rfl⟩,eA,rA,g0,z0⟩ ?_ ?_
 ·rintro i lm H' _ ⟨kb,B,hk,z,⟨t,u,rfl⟩,eA,rA,gh,zh⟩;walk_at "rq";refine⟨gv,B,hk,z,J,b,rfl,hg.kp kb.k.kp,eA,rA,lh,fun a dx nn wA H3 k3 ea wk=>?_⟩;obtain⟨c1,d3,n3,⟨M,eh,rh⟩,Y,ew,ln⟩:=wk.open ea;refine⟨a,rfl,_,_,_,ea,c1,d3,_,KH,.inr ⟨B,M,.inl eh,fun o=>?_⟩⟩;have fz:HeldR B H3 (upd H3 B (.frz o (.dT M))):=HeldR.frz o (.inl eh);have lj:upd H3 B (.frz o (.dT M)) wA=some (.dT Y):=by rw[AB n3]; exact ew
  have O:=(kb.trans k3).trans (fz.kb (.inl eh));generalize upd H3 B (.frz o (.dT M))=U at fz lj O |-;refine⟨gv,wA,Y,_,J,b,G,μ,rfl,hg.kp O.k.kp,lj,ln.mono fz.bk,lh,gt,gt.wt _ gh,fun r kvs lp H5 lg er rr g5 z5 hf=>?_⟩;have Z:=(rh.mono fz.bk).mono lg.b;have lc:=O.trans lg;refine⟨r,rfl,rr.dds (.inl er),Z.dds (.inr ⟨o,hf⟩),fun c=>?_⟩;cases c with
  |true=>
   rw[if_pos rfl];exact q B M z H5 lc (.inr ⟨o,hf⟩) Z gh zh
  |false=>
   rw[if_neg (by decide)];exact⟨lc,r,kvs,lp,⟨_,_,rfl⟩,er,rr,g5,z5⟩
 ·rintro lm H' ⟨kb,B,hk,z,⟨t,u,rfl⟩,eA,rA,gh,zh⟩;show N1 _ _;rw[e1];walk_at "rq";exact q B hk z H' kb (.inl eA) rA gh zh
def TR:Sp:=fun vs H Q _=>∃d bk,vs=[.ref d]/\IsBk H d bk/\bk.length<64/\∀r H',Same H H'->Q (.ref r) H'
def ShI(U:Hp)(d:Addr)(i:Nat)(ys:List V)(q:St)(H':Hp):Prop:=Same U H'/\(∃t,q=[t,some (.ref d)])/\ys.length=i
theorem kS(F:Fun K "shelf_of" "shelf_of" Gj f fd) (b_sorted:mg "sorted" = none) (b_tuple:mg "tuple" = none):FnOk P w K mg base CX0 1 f fd ["book"] TR:=by
 refine F.ok cK (fun vs H Q E h=>?_) (fun ls A outer s H vs Q E hr h=>?_)
 ·obtain⟨d,bk,rfl,_⟩:=h;rfl
 obtain⟨d,bk,rfl,hb,hl,q⟩:=h;obtain⟨kv,rd,rb⟩:=id hb;refine⟨_,(A7 (AA (D3 L7 cM b_tuple GU (A3 (C2 ["name","book"] [none,some 0] rfl (CompS.of (by rfl)) (EZ (AZ (Lg rfl) cL b_sorted Dr (A3 (A2 0 rfl cN) pa_nil) Dw Dv)) (fun _ _ _ _ _=>(Ab (i:=0) (show List.Nodup (["name","book"]:List Str) from by decide+kernel) rfl (Or.inl rfl))) (fun _ _ _ _ _=>C1) (fun _ _ _ _ _=>(AT (opK (r:=Ej) (K:=K) Bf rfl) (AW (A3 (AQ (i:=0) rfl (by walk_at "vc") JQ JJ) pa_nil)) (Ar hr.units1 (AQ (i:=1) rfl (by walk_at "vc") Xd XM) (AQ (i:=0) rfl (by walk_at "vc") JQ JJ) (fun _ _=>rfl))))) pa_nil) Gc GY))),?_⟩;walk_at "rq";refine⟨d,kv,bk.map (·.1),rfl,rd,rb.keys,by rw[y4]; exact hl,fun l M lp pm sm=>?_⟩;have Z:=AD lp (HO.lst (M.map V.str));have e1:upd H l (HO.lst (M.map V.str)) l=_:=A6;generalize upd H l (HO.lst (M.map V.str))=U at Z e1 |-;have lr:(M.map V.str).length<=900:=by have:=pm.length_eq; rw[y4] at this |-; lia
 refine⟨l,rfl,⟨_,SqL.of e1⟩,?_⟩;refine Hh (K:=K) (a:=l) (xs:=M.map V.str) (ShI U d) ⟨Same.refl _,⟨_,rfl⟩,rfl⟩ (An (by lia)) ?_ ?_ ?_ ?_
 ·rintro i ys B H' ⟨_,_,d⟩;exact Nat.le_of_eq d
 ·rintro i ys B H' _ ⟨J,_⟩;exact SqL.of (J _ _ e1)
 ·rintro i ys x B H' hx ⟨J,⟨t,rfl⟩,rfl⟩;rw[ym] at hx;cases hm:M[ys.length]? with
  |none=>rw[hm] at hx; cases hx
  |some nm=>
   rw[hm] at hx;cases hx;obtain⟨sv,lc⟩:=FI (pm.mem_iff.mp (yi hm));walk_at "rq";refine⟨zl 1 (by decide),fun Y lm=>?_⟩;have G:=AD lm (HO.tup [V.str nm]);have O:upd H' Y (HO.tup [V.str nm]) Y=_:=A6;generalize upd H' Y (HO.tup [V.str nm])=U4 at G O |-;obtain⟨k4,r4,b4⟩:=hb.same (Z.trans (J.trans G));rcases b4.look nm with⟨z,_⟩|⟨lq,v,z1,z2,dv⟩
   ·rw[lc] at z; cases z
   have g:=DGet.kr (k:=.inr nm) r4;rw[z2] at g;refine⟨v,g,?_⟩;obtain⟨pv,rfl,lg⟩:=KG dv;refine⟨Y,pv,_,_,rfl,rfl,SqT.of O,SqT.of lg,zl 3 (by decide),fun z=>(by cases z),fun _ z=>(by cases z),fun _ _ p5 lj=>?_⟩;exact⟨J.trans (G.trans (AD lj _)),⟨_,rfl⟩,by simp⟩
 ·rintro ys B H' ⟨J,_,d⟩ pl lh;have G:=AD lh (HO.lst ys);have O:upd H' pl (HO.lst ys) pl=_:=A6;generalize upd H' pl (HO.lst ys)=U4 at G O |-;exact⟨pl,rfl,ys,.inl ⟨SqL.of O,fun l2 ln=>q _ _ (Z.trans (J.trans (G.trans (AD ln _))))⟩⟩
def PpR(H:Hp)(x:V)(p:Pth):Prop:=∃a q s,x=.ref a/\H a=some (.tup [.ref q,s])/\H q=some (.tup (p.map V.int))
def TU:Sp:=fun vs H Q _=>∃z hk q,vs=[.ref z]/\Rd H z (.dT hk)/\HdR H hk q/\BksOk q/\
 ∀r xs ps H',Same H H'->ps.Perm (q.map (·.1))->H' r=some (.tup xs)->Paired (PpR H') xs ps->Q (.ref r) H'
def PoI(U:Hp)(z:Addr)(ps:List Pth)(i:Nat)(ys:List V)(q:St)(H':Hp):Prop:=Same U H'/\(∃t,q=[t,some (.ref z)])/\Paired (PpR H') ys (ps.take i)/\i<=ps.length
theorem PpR.same{H H':Hp}{x:V}{p:Pth}(h:PpR H x p)(s:Same H H'):PpR H' x p:=by
 obtain⟨a,q,v,e,h1,h2⟩:=h;exact⟨a,q,v,e,s _ _ h1,s _ _ h2⟩
theorem kT(F:Fun K "paper_of" "paper_of" Gi f fd) (b_sorted:mg "sorted" = none) (b_tuple:mg "tuple" = none) (c_shelf_of:Callee P w K mg base "shelf_of" ["book"] 1 TR):FnOk P w K mg base CX0 2 f fd ["heads"] TU:=by
 refine F.ok cG (fun vs H Q E h=>?_) (fun ls A outer s H vs Q E hr h=>?_)
 ·obtain⟨hA,hk,lc,rfl,_⟩:=h;rfl
 obtain⟨hA,hk,lc,rfl,rA,hh,⟨b1,b2,b3⟩,q⟩:=h;refine⟨_,(A7 (AA (D3 L7 cI b_tuple GU (A3 (C2 ["path","heads"] [none,some 0] rfl (CompS.of (by rfl)) (EZ (AZ (JD rfl) cH b_sorted Dr (A3 (A2 0 rfl cJ) pa_nil) Dw Dv)) (fun _ _ _ _ _=>(Ab (i:=0) (show List.Nodup (["path","heads"]:List Str) from by decide+kernel) rfl (Or.inl rfl))) (fun _ _ _ _ _=>C1) (fun _ _ _ _ _=>(AW (A3 (AQ (i:=0) rfl (by walk_at "vc") Du Ds) (A3 (AC c_shelf_of hr (by lia) (A3 (Ar hr.units1 (AQ (i:=1) rfl (by walk_at "vc") Q2 Pn) (AQ (i:=0) rfl (by walk_at "vc") Du Ds) (fun _ _=>rfl)) pa_nil) rfl YK) pa_nil))))) pa_nil) Gc GY))),?_⟩;walk_at "rq";refine⟨hA,hk,lc.map (·.1),rfl,rA,hh.keys,fun p hp=>?_,by rw[y4]; exact b1,fun l vs ps hl pm pw dvs=>?_⟩
 ·obtain⟨z,hz,rfl⟩:=List.mem_map.mp hp;exact b2 z hz
 have s1:=AD hl (HO.lst vs);have e1:upd H l (HO.lst vs) l=_:=A6;generalize upd H l (HO.lst vs)=U at s1 e1 |-;have lj:vs.length=ps.length:=by rw[dvs.length,y4]
 have lr:ps.length<=60:=by rw[pm.length_eq,y4]; exact b1
 refine⟨l,rfl,⟨_,SqL.of e1⟩,?_⟩;refine Hh (K:=K) (a:=l) (xs:=vs) (PoI U hA ps) ⟨Same.refl _,⟨_,rfl⟩,.nil,y05 _⟩ (An (by lia)) ?_ ?_ ?_ ?_
 ·rintro i ys G H' ⟨_,_,d,hi⟩;rw[d.length,y04];lia
 ·rintro i ys G H' _ ⟨O,_⟩;exact SqL.of (O _ _ e1)
 ·rintro i ys x G H' hx ⟨O,⟨t,rfl⟩,d,hi⟩;obtain⟨p,hp,dp⟩:=CY dvs hx;obtain⟨bb,lg,lh⟩:=IM (pm.mem_iff.mp (yi hp));obtain⟨px,lq,rfl,M,lp⟩:=dp.tupI;rw[D7 lp] at M;have B:=s1.trans O;rcases(hh.mono fun _ _ z=>z.same B).look p with⟨z,_⟩|⟨b',db,z1,z2,ib⟩
  ·rw[lg] at z; cases z
  rw[lg] at z1;cases z1;walk_at "rq";refine⟨_,.inr ⟨hk,AL p,px,Rd.same rA B,rfl,by rw[BK]; exact B _ _ M,z2.symm⟩,db,bb,rfl,ib,(b3 _ lh).1,fun r H4 Y=>⟨zl 2 (by decide),fun p5 lm=>?_⟩⟩;have s5:=AD lm (HO.tup [V.ref px,V.ref r]);have J:=Y.trans s5;refine⟨O.trans J,⟨_,rfl⟩,?_,(List.getElem?_eq_some_iff.mp hp).1⟩;rw[HK hp];exact y36 (Paired.mapP d fun _ _ z=>z.same J) ⟨p5,px,_,rfl,A6,J _ _ (B _ _ M)⟩
 ·rintro ys G H' ⟨O,_,d,_⟩ pl Z;have Y:=AD Z (HO.lst ys);have e4:upd H' pl (HO.lst ys) pl=_:=A6;generalize upd H' pl (HO.lst ys)=U4 at Y e4 |-;rw[lj,y0h] at d;refine⟨pl,rfl,ys,.inl ⟨SqL.of e4,fun l2 ln=>?_⟩⟩;have s5:=AD ln (HO.tup ys);exact q l2 ys ps _ (s1.trans (O.trans (Y.trans s5))) pm A6 (Paired.mapP d fun _ _ z=>z.same (Y.trans s5))
def TV(Pq:T->Prop)(bh:Bh)(n:Nat):Sp:=fun vs H Q _=>∃(B:V) (q:List Rw) (b:List D) (G:Hds->Prop) (F:Hds->Nat),vs=[B]/\Dt H B (CG q b)/\DS Pq n q b/\Gth bh q b G F/\G []/\
 ∀r xs ps z H',Keeps H H'->G z->z≠[]->ps.Perm (z.map (·.1))->H' r=some (.tup xs)->Paired (PpR H') xs ps->Q (.ref r) H'
theorem kU{Pq:T->Prop}{bh:Bh}{n:Nat} (F:Fun K "paper_for" "paper_for" FB f fd) (c_grown_to_hold:Callee P w K mg base "grown_to_hold" ["program","heads"] (3*n+14) (NT Pq bh n)) (c_narrowed:Callee P w K mg base "narrowed" ["program","heads"] (3*n+15) (TQ Pq bh n))
  (c_paper_of:Callee P w K mg base "paper_of" ["heads"] 2 TU):FnOk P w K mg base CX0 (3*n+16) f fd ["program"] (TV Pq bh n):=by
 refine F.ok bH (fun vs H Q E h=>?_) (fun ln A outer s H vs Q E hr h=>?_)
 ·obtain⟨gv,z,b,G,M,rfl,_⟩:=h;rfl
 obtain⟨gv,z,b,G,M,rfl,hg,J,gt,g0,q⟩:=h;refine⟨_,(A7 (AA (AC c_paper_of hr (by lia) (A3 (AC c_narrowed hr (by lia) (A3 (A2 0 rfl Qs) (A3 (AC c_grown_to_hold hr (by lia) (A3 (A2 0 rfl Qs) (A3 Hk pa_nil)) bI Q1) pa_nil)) bJ YB) pa_nil) bK YG))),?_⟩;walk_at "rq";intro d0 lh;have O:=AD lh (HO.dT []);have e1:upd H d0 (HO.dT []) d0=_:=A6;generalize upd H d0 (HO.dT [])=U at O e1 |-;refine⟨gv,d0,[],[],z,b,G,M,rfl,hg.kp O.kp,e1,.nil,J,gt,g0,fun r1 k1 h1 H1 lg lm Z g1 z1=>?_⟩;have B:=(KB.of O).trans lg;refine⟨gv,r1,k1,h1,z,b,G,M,rfl,hg.kp B.k.kp,lm,Z,J,gt,g1,z1,fun r2 k2 h2 H2 lc lj Y g2 z2=>?_⟩;exact⟨r2,k2,h2,rfl,lj,Y,(gt.ok _ g2).1,fun r xs ps H' s3 pm er pr=>q r xs ps h2 H' (B.trans lc |>.k.trans (Same.keeps s3)) g2 z2 pm er pr⟩
theorem Fits.snoc:∀{q:List Rw} {ws:List Int} {r:Rw} {w:Int},Fits q ws->r.2.1<=w->w<=r.2.2->Fits (q++[r]) (ws++[w])
 |[],[],r,w,_,h1,h2=>⟨h1,h2,trivial⟩
 |a::q,b::ws,r,w,h,h1,h2=>⟨h.1,h.2.1,Fits.snoc h.2.2 h1 h2⟩
 |[],_::_,_,_,h,_,_=>h.elim
 |_::_,[],_,_,h,_,_=>h.elim
def TW:Sp:=fun vs H Q _=>∃(B:V) (q:List Rw) (F:Dm),vs=[B]/\Dt H B (.tup [.tup (q.map CZ),F])/\okRows q/\∀(l:Addr) (H':Hp) (xs:List V) (z:List (List Int)),Same H H'->H l=none->H' l=some (.lst xs)->DtA H' xs (z.map pathD)->(∀ws∈z,Fits q ws)->Q (.ref l) H'
def AwI(H:Hp)(Y:Addr)(z:List Rw)(i:Nat)(σ:St)(B:Hp):Prop:=∃(l:Addr) (xs:List V) (q:List (List Int)) (O M J G F:Option V),σ=[some (.ref Y),some (.ref l),O,M,J,G,F]/\Same H B/\H l=none/\B l=some (.lst xs)/\DtA B xs (q.map pathD)/\(∀ws∈q,Fits (z.take i) ws)/\q.length<=15^i
theorem kW(z:Nat->List V->St->Hp->Prop)(Z:z 0 [] σ H)(hz:n<yn)(hy:∀i zs σ H,z i zs σ H->zs.length<=i)
  (Y:∀i zs σ H,i<n->z i zs σ H->g (.int (lo+i)) σ H fun q H2=>tt q H2 fun b F=>if b=true then te q F (fun v H4=>z (i+1) (zs++[v]) q H4) else z (i+1) zs q F)
  (hd:∀zs σ H,z n zs σ H->∀p,H p=none->Q (.ref p) (upd H p (.lst zs))):BN (Itr lo n) g tt te Q σ H:=by
 refine⟨fun i m zs σ H=>m=n-i/\i<=n/\z i zs σ H,⟨n,by simp,y05 _,Z⟩,?_⟩;rintro i m zs σ H ⟨rfl,hi,p⟩;have O:=hy i zs σ H p;by_cases B:i<n
 ·refine .inr ⟨B,by lia,z (i+1),fun J G H' M=>⟨n-(i+1),by lia,rfl,B,M⟩,fun x H' y=>?_⟩;obtain⟨e,y⟩:=y;subst e y;exact Y i zs σ _ B p
 ·have e:i=n:=by lia
  subst e;exact .inl ⟨yb _,by lia,hd zs σ H p⟩
def AwJ(H:Hp)(Z:Addr)(l:Addr)(xs:List V)(F:List (List Int))(G:Addr)(z:List Rw)(Y O M:V)(j:Nat)(σ:St)(B:Hp):Prop:=∃(ys:List V) (q:List (List Int)) (J:Option V),σ=[some (.ref Z),some (.ref l),some Y,some O,some M,some (.ref G),J]/\Same H B/\B G=some (.lst ys)/\DtA B ys (q.map pathD)/\(∀ws∈q,Fits z ws)/\q.length<=15*j/\B l=some (.lst xs)/\DtA B xs (F.map pathD)
def AwC(U:Hp)(pv:V)(ws:List Int)(lo:Int)(i:Nat)(ys:List V)(q:St)(H':Hp):Prop:=Same U H'/\(∃t,q=[t,some pv])/\DtA H' ys (((List.range i).map fun(k:Nat)=>ws++[lo+(k:Int)]).map pathD)/\ys.length<=i
theorem kX(F:Fun K "_law_all_worths" "_law_all_worths" Bn f fd) (b_range:mg "range" = none):FnOk P w K mg base CX0 1 f fd ["_law_program_here"] TW:=by
 refine F.ok sc_law_all_worths (fun vs H Q E h=>?_) (fun mj A outer s H vs Q E hr h=>?_)
 ·obtain⟨gv,z,bd,rfl,_⟩:=h;rfl
 obtain⟨gv,z,bd,rfl,hg,M,q⟩:=h;obtain⟨ga,iv,bv,rfl,lY,di,db⟩:=DO hg;obtain⟨ia,is,rfl,lP,lR⟩:=di.tupI;have lT:is.length=z.length:=by rw[lR.length,y4]
 refine⟨_,(A5 (AK (i:=1) sc_law_all_worths.nd rfl Rc (Dh (A3 (AW pa_nil) pa_nil)) (AE rfl))
 (A5 (C0 y0g rfl (Db (A8 A9 (A2 0 rfl fq) A4 (fun _ _=>rfl))) (EY (n:=3) rfl (BV (Ab (i:=2) sc_law_all_worths.nd rfl fj) (BV (Ab (i:=3) sc_law_all_worths.nd rfl fh) (BV (Ab (i:=4) sc_law_all_worths.nd rfl fe) EX))))
 (A5 (AK (i:=5) sc_law_all_worths.nd rfl fg (Dh pa_nil) (AE rfl))
 (A5 (C0 y0g rfl (EZ (A2 1 rfl Rf)) (Ab (i:=6) sc_law_all_worths.nd rfl fk)
 (A7 (HX (L8 y33 PySem.F.slot_list_extend PySem.F.type_list_extend OR (A2 5 rfl Re) (A3 (C2 ["_law_worth","_law_worths"] [none,some 6] rfl (CompS.of (by rfl)) (UR fc b_range (A3 (A2 3 rfl fo) (A3 (AT Cd (A2 4 rfl fm) A4) pa_nil))) (fun _ _ _ _ _=>(Ab (i:=0) (show List.Nodup (["_law_worth","_law_worths"]:List Str) from by decide+kernel) rfl (Or.inl rfl))) (fun _ _ _ _ _=>C1) (fun _ _ _ _ _=>(AT (opK (r:=Ej) (K:=K) Bf rfl) (AQ (i:=1) rfl (by walk_at "vc") Xa XL) (AW (A3 (AQ (i:=0) rfl (by walk_at "vc") XZ XJ) pa_nil))))) pa_nil)) (AE rfl))))
 (A7 (AK (i:=1) sc_law_all_worths.nd rfl Rc (A2 5 rfl Re) (AE rfl))))))
 (A7 (AA (A2 1 rfl Rf))))),Al fun N1 e1=>?_⟩
 walk_at "rd7";refine⟨y05 _,fun Y h0=>⟨by decide,fun l0 ly=>?_⟩⟩;have s1:=AD h0 (HO.tup []);have s2:=AD ly (HO.lst [V.ref Y]);have lc:=s1.trans s2;have d0:Dt (upd (upd H Y (HO.tup [])) l0 (HO.lst [V.ref Y])) (.ref Y) (pathD []):=.tup (s2 _ _ A6) .nil;have lx:H l0=none:=s1.free ly;have lu:(upd (upd H Y (HO.tup [])) l0 (HO.lst [V.ref Y])) l0=some (.lst [V.ref Y]):=A6;generalize upd (upd H Y (HO.tup [])) l0 (HO.lst [V.ref Y])=H1 at lc d0 lu |-;rw[e1];refine Al fun N2 e2=>?_;walk_at "rd7";refine⟨_,SqT.of (lc _ _ lY),_,BU,ia,rfl,⟨_,SqT.of (lc _ _ lP)⟩,?_⟩;refine Kw (xs:=is) (AwI H ga z) ?s ?l ?t ?d
 case s=>exact⟨l0,[.ref Y],[[]],_,_,_,_,_,rfl,lc,lx,lu,.cons d0 .nil,fun ws h=>by rw[y0k] at h; subst h; exact trivial,by decide⟩
 case l=>
  rintro i σ Hc _ ⟨l,xs,B,_,_,_,_,_,rfl,sc,_⟩;exact SqT.of (sc _ _ lP)
 case d=>
  rintro σ Hc ⟨l,xs,B,_,_,_,_,_,rfl,sc,ls,hl,dx,hf,_⟩;show N2 _ _;rw[e2];walk_at "rd7";rw[lT,y0h] at hf;exact q l Hc xs B sc ls hl dx hf
 case t=>
  rintro i x σ Hc hx ⟨l,xs,B,_,_,_,_,_,rfl,sc,ls,hl,dx,hf,O⟩;obtain⟨r,lm,dr⟩:=CY lR hx;obtain⟨ra,r0,r1,r2,rfl,lW,t0,t1,t2⟩:=EG dr;cases t0; cases t1; cases t2;have lq:=sc _ _ lW;walk_at "rd7";refine⟨_,SqT.of lq,rfl,_,_,rfl,_,_,rfl,_,_,rfl,rfl,y05 _,fun pr lg=>?_⟩;have s3:=AD lg (HO.lst []);have lv:=s3 _ _ hl;refine⟨⟨_,SqL.of lv⟩,?_⟩;have me:=M.lo r (yi lm);have lU:xs.length=B.length:=by rw[dx.length,y4]
  have mh:i<2:=yw (List.getElem?_eq_some_iff.mp lm).1 M.len;have mi:B.length<=15:=by
   have:i=0\/i=1:=by lia
   rcases this with rfl|rfl
   ·exact y0d O (by decide)
   ·exact y0d O (by decide)
  refine Nu (xs:=xs) (AwJ H ga l xs B pr (z.take (i+1)) (.str r.1) (.int r.2.1) (.int r.2.2)) ?S ?L ?T ?D
  case S=>exact⟨[],[],_,rfl,sc.trans s3,A6,.nil,fun ws h=>by simp at h,by simp,lv,dx.kp s3.kp⟩
  case L=>
   rintro j σ Hd _ ⟨ys,Z,_,rfl,sd,hp,dy,hv,J,lh,lj⟩;exact SqL.of lh
  case D=>
   rintro σ Hd ⟨ys,Z,_,rfl,sd,hp,dy,hv,J,lh,lj⟩;walk_at "rd7";refine⟨pr,ys,Z,_,_,_,_,_,rfl,sd,sc.free lg,hp,dy,hv,?_⟩;rw[lU] at J;rw[Nat.pow_succ,Nat.mul_comm];exact y0d J (Nat.mul_le_mul_left _ O)
  case T=>
   rintro j y σ Hd hy ⟨ys,Z,_,rfl,sd,hp,dy,hv,J,lh,lj⟩;obtain⟨ws,lV,dw⟩:=CY lj hy;have lQ:=hf ws (yi lV);walk_at "rd7";have hn:(r.2.2+1-r.2.1).toNat<=15:=by lia
   have lS:l≠pr:=Ag hl lg;have md:ws.length<=2:=by
    have h1:=lQ.len;have h2:=M.len;rw[y04] at h1;lia
   refine⟨.inl ⟨rfl,_,SqL.of hp⟩,_,_,⟨rfl,rfl⟩,⟨by lia,by lia,by lia,by lia⟩,?_⟩;refine kW (AwC Hd y ws r.2.1) ⟨Same.refl _,⟨_,rfl⟩,.nil,yb _⟩ (y1k hn (by decide)) ?_ ?_ ?_
   ·rintro k zs ln H' ⟨_,_,_,hz⟩;exact hz
   ·rintro k zs ln H' hk ⟨sU,⟨t,rfl⟩,dz,hz⟩;walk_at "rd7";refine⟨by decide,fun p1 h1=>?_⟩;have s4:=AD h1 (HO.tup [V.int (r.2.1+k)]);refine FK ((dw.kp sU.kp).kp s4.kp) FL (by simp; lia) fun v H4 s5 dv=>?_;have lp:=s4.trans s5;refine⟨sU.trans lp,⟨_,rfl⟩,?_,by rw[yt,List.length_singleton]; lia⟩;rw[List.range_succ,y02,y02];exact(dz.kp lp.kp).append (.cons dv .nil)
   ·rintro zs ln H' ⟨sU,_,dz,hz⟩ pe lX;have s6:=AD lX (HO.lst zs);have G:=sU.trans s6;have lr:=G _ _ hp;have ma:ys.length<=15*j:=by rw[dy.length,y4]; exact J
    have hj:j<xs.length:=(List.getElem?_eq_some_iff.mp hy).1;have lZ:ys.length<=225:=by lia
    refine⟨pe,rfl,ys,lr,zs,A6,y1a (An (by lia)),?_⟩;have k7:Kp (upd H' pe (HO.lst zs)) (upd (upd H' pe (HO.lst zs)) pr (HO.lst (ys++zs))):=Kp.set lr;refine⟨ys++zs,Z++(List.range (r.2.2+1-r.2.1).toNat).map (fun(k:Nat)=>ws++[r.2.1+(k:Int)]),_,rfl,FG (sd.trans G) (sc.free lg),A6,?_,?_,?_,by rw[AB lS]; exact G _ _ lh,lj.kp (G.kp.trans k7)⟩
    ·rw[y02];exact(dy.kp (G.kp.trans k7)).append (dz.kp (s6.kp.trans k7))
    ·intro w hw;rcases List.mem_append.mp hw with hw|hw
     ·exact hv w hw
     ·obtain⟨k,hk,rfl⟩:=List.mem_map.mp hw;have mf:=List.mem_range.mp hk;rw[HK lm];exact lQ.snoc (by lia) (by lia)
    ·rw[yt,y4,y3o];lia
end
section
theorem TX:∀(x:Int) (l:List Int),∃lo hi,Hull (x::l) lo hi
 |x,[]=>⟨x,x,.head _,.head _,fun v hv=>by rw[List.mem_singleton.mp hv]; exact⟨y08 _,y08 _⟩⟩
 |x,y::l=>by
  obtain⟨lo,hi,h1,h2,q⟩:=TX y l;have k:=q lo h1;rcases Int.le_total x lo with e|e
  ·refine⟨x,hi,.head _,.tail _ h2,fun v hv=>?_⟩;rcases List.mem_cons.mp hv with rfl|hv
   ·exact⟨y08 _,y1b e k.2⟩
   ·exact⟨y1b e (q v hv).1,(q v hv).2⟩
  ·rcases Int.le_total hi x with i|i
   ·refine⟨lo,x,.tail _ h1,.head _,fun v hv=>?_⟩;rcases List.mem_cons.mp hv with rfl|hv
    ·exact⟨e,y08 _⟩
    ·exact⟨(q v hv).1,y1b (q v hv).2 i⟩
   ·refine⟨lo,hi,.tail _ h1,.tail _ h2,fun v hv=>?_⟩;rcases List.mem_cons.mp hv with rfl|hv
    ·exact⟨e,i⟩
    ·exact q v hv
theorem kY(w:Wd)(a b c d:Int):∃lo hi,Hull (BE w a b c d) lo hi:=TX _ _
theorem kZ{a b c d:Int}(B:a<=b)(q:c<=d):stF .add (some (a,b)) (some (c,d))=some (a+c,b+d):=
 KI (s:=some (a,b)) (t:=some (c,d)) (Jt (.inl rfl) B q (fun z=>by cases z) ⟨by simp[BE,Wd.worth],by simp[BE,Wd.worth],by simp only[BE,Wd.worth,yv,yp,or_false]; intro v hv; lia⟩)
theorem TY{a b c d:Int}(B:a<=b)(q:c<=d):stF .less (some (a,b)) (some (c,d))=some (if b<c then 1 else 0,if a<d then 1 else 0):=
 KI (s:=some (a,b)) (t:=some (c,d)) (Jt (.inr (.inr (.inl rfl))) B q (fun z=>by cases z) ⟨by simp[BE,Wd.worth],by simp[BE,Wd.worth],by simp only[BE,Wd.worth,yv,yp,or_false]; intro v hv; (repeat' split at hv)<;>(repeat' split)<;>lia⟩)
def inW(s:Int×Int):Prop:=-32768<=s.1/\s.1<=s.2/\s.2<=32767
theorem NU{s:Int×Int}(h:inW s):BS (some s) (some AV)=some s:=by
 obtain⟨a,b⟩:=s;obtain⟨h1,h2,q⟩:=h;simp only at h1 h2 q;show bet (mx a (-32768)) (mn b 32767)=some (a,b);rw[show mx a (-32768)=a by unfold mx; rw[if_neg (by lia)],show mn b 32767=b by unfold mn; rw[if_neg (by lia)]];unfold bet;rw[if_neg (by lia)]
theorem IR{bk:Bk}{i:Int}(h:inW (i,i))(p:Pth)(ns:Nts):shS bk (.num i) p ns=(some (i,i),B8 ns p (i,i)):=by
 rw[shS];show(BS (some (i,i)) (some AV),B8 ns p (i,i))=_;rw[NU h]
theorem FN{bk:Bk}{x:Str}{s:Int×Int}(e:look bk x=some s)(h:inW s)(p:Pth)(ns:Nts):shS bk (.nm x) p ns=(some s,B8 ns p s):=by
 rw[shS,e];show(BS (some s) (some AV),B8 ns p s)=_;rw[NU h]
theorem NV{bk:Bk}{w:Wd}{a b:T}{p:Pth}{ns F B:Nts}{z q r:Int×Int}(J:shS bk a (p++[0]) ns=(some z,F))(G:shS bk b (p++[1]) F=(some q,B))(e:stF w (some z) (some q)=some r)(h:inW r):shS bk (.op w a b) p ns=(some r,B8 B p r):=by
 rw[shS,J,G];rw[if_neg (by simp)];show(BS (stF w (some z) (some q)) (some AV),KJ (stF w (some z) (some q)) p B)=_;rw[e,NU h];rfl
theorem HP{bh:Bh}{hd:Hds}{x:Str}{t:T}{p:Pth}{bk:Bk}{st:NW}{s:Int×Int}{q:Nts}(e:shS bk t (p++[0]) st.1=(some s,q)):wkD bh hd (.set x t) p bk st=(some (Ao bk x s),(q,st.2)):=by
 rw[wkD,e];rfl
theorem By{bh:Bh}{hd:Hds}{d:D}{r:List D}{p:Pth}{i:Int}{bk:Bk}{st:NW}{o:Option Bk}{q:NW}(e:wkD bh hd d (p++[i]) bk st=(o,q)):wkB bh hd (d::r) p i (some bk) st=wkB bh hd r p (i+1) o q:=by
 rw[wkB,e]
theorem IS{bh:Bh}{hd:Hds}{r:List D}{p:Pth}{i:Int}{st:NW}:wkB bh hd r p i none st=(none,st):=by
 cases r<;>rw[wkB]
theorem HQ{bh:Bh}{hd:Hds}{p:Pth}{i:Int}{o:Option Bk}{st:NW}:wkB bh hd [] p i o st=(o,st):=by rw[wkB]
theorem NX{bh:Bh}{hd:Hds}{t:T}{m:Int}{b:List D}{p:Pth}{bk hb:Bk}{st:NW}{s:S}{F:Nts}{B z:Option Bk}{q:NW}(J:Aj hd p bk=hb)(e:shS hb t (p++[0]) st.1=(s,F))(G:Ad bh t s hb true=z)(M:wkB bh hd b (p++[1]) 0 z (F,st.2)=(B,q)):wkD bh hd (.whl t m b) p bk st=(Ad bh t s hb false,(q.1,BT q.2 p (EF bk B))):=by
 subst G;rw[wkD,J,e];simp only;rw[M]
abbrev q2(g:Int):T:=.op .less (.nm "a") (.num g)
theorem TZ(g:Int):T.dp 6 (q2 g)/\isQ (q2 g):=⟨⟨.inr (.inr (.inl rfl)),trivial,trivial⟩,_,_,rfl⟩
theorem kc{ws hd:Hds}(h:¬ (ws.map (·.1)).Perm (hd.map (·.1))):heldB ws hd=false:=by
 unfold heldB;rw[decide_eq_false h,y0o]
theorem NY{p:Pth}{a b:Bk}:heldB [(p,a)] [(p,b)]=withinB a b:=by
 unfold heldB;rw[decide_eq_true (show(List.map (fun x=>x.1) [(p,a)]).Perm (List.map (fun x=>x.1) [(p,b)]) from List.Perm.refl _)];show(true&&((match (if p=p then some a else none),(if p=p then some b else none) with|some a,some b=>withinB a b|_,_=>false)&&true))=_;rw[if_pos rfl,if_pos rfl];simp
theorem kd:BksOk []:=⟨by decide,fun _ h=>(by cases h),fun _ h=>(by cases h)⟩
theorem Ta{a b c d:Int}(h:a<=b):Bc (some (a,b)) (some (c,d))=decide (c<=a/\b<=d):=by
 unfold Bc;show decide (bet (mx a c) (mn b d)=some (a,b))=_;apply decide_eq_decide.mpr;unfold bet mx mn;constructor
 ·intro e;by_cases z:c>a
  ·rw[if_pos z] at e;generalize (if d<b then d else b)=m at e;by_cases q:c>m
   ·rw[if_pos q] at e;cases e
   ·rw[if_neg q] at e;have:=congrArg Prod.fst (yz e);simp only at this;lia
  ·rw[if_neg z] at e;by_cases B:d<b
   ·rw[if_pos B] at e;split at e
    ·cases e
    ·have e:=yz e;have:=congrArg Prod.snd e;simp only at this;lia
   ·lia
 ·rintro⟨h1,h2⟩;rw[if_neg (show ¬ c>a by lia),if_neg (show ¬ d<b by lia),if_neg (by lia)]
theorem ke:PyData.strOk ("a" : Str)=true:=by decide+kernel
abbrev bk2(A S:Int×Int):Bk:=[("a",A),("s",S)]
theorem sas:("a" : Str)≠"s"/\("s" : Str)≠"a":=by decide+kernel
def B5(w:Wd):List D:=[.set "s" (.op w (.nm "s") (.nm "a")),.set "a" (.op .add (.nm "a") (.num 1))]
def Ak(w:Wd)(g:Int):List D:=[.set "s" (.num 0),.whl (q2 g) 20 (B5 w),.set "b" (.nm "a")]
theorem Tb(g lo hi:Int)(S:Int×Int):bhd (q2 g) (bk2 (lo,hi) S) true=(bet lo (mn hi (g-1))).map fun r=>bk2 r S:=by
 have z:bq1 .less (.nm "a") (lo,hi) (g,g) (bk2 (lo,hi) S) true=(bet lo (mn hi (g-1))).map fun r=>bk2 r S:=by
  show(bet lo (mn hi (g-1))).map (Ao (bk2 (lo,hi) S) "a")=_;cases bet lo (mn hi (g-1))<;>rfl
 show(match bq1 .less (.nm "a") (lo,hi) (g,g) (bk2 (lo,hi) S) true with|some q=>bq2 .less (.num g) (lo,hi) q true|none=>none)=_;rw[z];cases bet lo (mn hi (g-1))<;>rfl
theorem Tc(g lo hi:Int)(S:Int×Int):bhd (q2 g) (bk2 (lo,hi) S) false=(bet (mx lo g) hi).map fun r=>bk2 r S:=by
 have z:bq1 .less (.nm "a") (lo,hi) (g,g) (bk2 (lo,hi) S) false=(bet (mx lo g) hi).map fun r=>bk2 r S:=by
  show(bet (mx lo g) hi).map (Ao (bk2 (lo,hi) S) "a")=_;cases bet (mx lo g) hi<;>rfl
 show(match bq1 .less (.nm "a") (lo,hi) (g,g) (bk2 (lo,hi) S) false with|some q=>bq2 .less (.num g) (lo,hi) q false|none=>none)=_;rw[z];cases bet (mx lo g) hi<;>rfl
theorem Kg{s:S}{r:Int×Int}(h:BS s (some AV)=some r):inW r:=by
 match s with
 |none=>cases h
 |some (a,b)=>
  have h:bet (mx a (-32768)) (mn b 32767)=some r:=h;unfold bet at h;split at h
  ·cases h
  ·injection h with h;subst h;unfold mx mn at *;refine⟨?_,?_,?_⟩<;>dsimp only<;>(repeat' split at *)<;>lia
theorem Kh{bh:Bh}{hd:Hds}{x:Str}{t:T}{p:Pth}{bk:Bk}{st:NW}:∃o q,wkD bh hd (.set x t) p bk st=(o,(q,st.2))/\(o=none\/∃r,inW r/\o=some (Ao bk x r)):=by
 rw[wkD];refine⟨_,_,rfl,?_⟩;cases h:(shS bk t (p++[0]) st.1).1 with
 |none=>exact .inl rfl
 |some r=>
  refine .inr ⟨r,?_,rfl⟩;cases t with
  |num i=>rw[shS] at h; exact Kg (s:=some (i,i)) h
  |nm x=>rw[shS] at h; exact Kg (s:=look bk x) h
  |op w a b=>
   rw[shS] at h;split at h
   ·cases h
   ·exact Kg h
theorem EL{s t:Int×Int}(h1:inW s)(h2:inW t):inW (jn s t):=by
 obtain⟨J,G,F⟩:=h1;obtain⟨B,z,q⟩:=h2;unfold jn mn mx;refine⟨?_,?_,?_⟩<;>dsimp only<;>(repeat' split)<;>lia
theorem kg(B R:Int×Int):Kf [] (bk2 B R)=bk2 (hsS B none) (hsS R none):=rfl
theorem EM:inW (0,0):=⟨by decide,by decide,by decide⟩
theorem NZ{w:Wd}{g:Int}{A0 A R:Int×Int}{hd:Hds}(hA:inW A0)(hh:Aj hd [1] (bk2 A0 (0,0))=bk2 A R)(iA:inW A):∃Aw Sw,(walkB bhd hd [("a",A0)] (Ak w g)).2=[([1],bk2 Aw Sw)]/\inW Aw/\inW Sw:=by
 unfold walkB Ak;rw[By (HP (IR EM _ _))];have body:∀(o:Option Bk) (n:Nts),(o=none\/∃r,inW r/\o=some (bk2 r R))->∃q B,wkB bhd hd (B5 w) ([1]++[1]) 0 o (n,[])=(q,(B,[]))/\(q=none\/∃X Y,inW X/\inW Y/\q=some (bk2 X Y)):=fun o n ho=>by
  rcases ho with rfl|⟨r,ir,rfl⟩
  ·exact⟨none,n,IS,.inl rfl⟩
  ·obtain⟨q,B,e1,h1⟩:=Kh (bh:=bhd) (hd:=hd) (x:="s") (t:=.op w (.nm "s") (.nm "a")) (p:=[1]++[1]++[0]) (bk:=bk2 r R) (st:=(n,[]));unfold B5;rw[By e1];rcases h1 with rfl|⟨y,J,rfl⟩
   ·exact⟨none,B,IS,.inl rfl⟩
   ·obtain⟨F,G,Z,h2⟩:=Kh (bh:=bhd) (hd:=hd) (x:="a") (t:=.op .add (.nm "a") (.num 1)) (p:=[1]++[1]++[0+1]) (bk:=bk2 r y) (st:=(B,[]));refine⟨F,G,(By Z).trans HQ,?_⟩;rcases h2 with h2|⟨x,M,h2⟩
    ·exact .inl h2
    ·exact .inr ⟨x,y,M,J,h2⟩
 have so:∀s:S,Ad bhd (q2 g) s (bk2 A R) true=none\/∃r,inW r/\Ad bhd (q2 g) s (bk2 A R) true=some (bk2 r R):=fun s=>by
  unfold Ad;generalize (if true=true then !Bc s (some (0,0)) else Bc (some (0,0)) s)=c;cases c with
  |false=>exact .inl rfl
  |true=>
   obtain⟨lo,hi⟩:=A;obtain⟨i1,i2,i3⟩:=iA;rw[if_pos rfl,Tb];by_cases hc:lo>mn hi (g-1)
   ·rw[show bet lo (mn hi (g-1))=none by unfold bet; rw[if_pos hc]];exact .inl rfl
   ·rw[show bet lo (mn hi (g-1))=some (lo,mn hi (g-1)) by unfold bet; rw[if_neg hc]];refine .inr ⟨(lo,mn hi (g-1)),⟨i1,?_,?_⟩,rfl⟩
    ·dsimp only at *; lia
    ·dsimp only at *; unfold mn at *; split<;>lia
 have O:Ao (Ca [("a",A0)]) "s" (0,0)=bk2 A0 (0,0):=rfl;rw[O];obtain⟨q,B,e1,h1⟩:=body _ (shS (bk2 A R) (q2 g) ([1]++[0]) (B8 [] ([]++[0]++[0]) (0,0))).2 (so (shS (bk2 A R) (q2 g) ([1]++[0]) (B8 [] ([]++[0]++[0]) (0,0))).1);rw[By (NX (p:=[]++[0+1]) (st:=(B8 [] ([]++[0]++[0]) (0,0),[])) hh rfl rfl e1)];have fin:∃G F,wkB bhd hd [.set "b" (.nm "a")] [] (0+1+1) (Ad bhd (q2 g) (shS (bk2 A R) (q2 g) ([1]++[0]) (B8 [] ([]++[0]++[0]) (0,0))).1 (bk2 A R) false) (B,BT [] [1] (EF (bk2 A0 (0,0)) q))=(F,(G,BT [] [1] (EF (bk2 A0 (0,0)) q))):=by
  cases Ad bhd (q2 g) (shS (bk2 A R) (q2 g) ([1]++[0]) (B8 [] ([]++[0]++[0]) (0,0))).1 (bk2 A R) false with
  |none=>exact⟨_,_,IS⟩
  |some bk=>
   obtain⟨o,n,e,_⟩:=Kh (bh:=bhd) (hd:=hd) (x:="b") (t:=.nm "a") (p:=[]++[0+1+1]) (bk:=bk) (st:=(B,BT [] [1] (EF (bk2 A0 (0,0)) q)));exact⟨_,_,(By e).trans HQ⟩
 obtain⟨G,F,Z⟩:=fin;have e3:=congrArg (fun z=>z.2.2) Z;rcases h1 with rfl|⟨x,y,M,J,rfl⟩
 ·exact⟨_,_,e3,hA,EM⟩
 ·exact⟨_,_,e3,EL hA M,EL EM J⟩
def em(s:Int×Int):Nat:=(if s.1 = -32768 then 0 else 1)+if s.2=32767 then 0 else 1
def muH:Hds->Nat
 |[(_,[(_,A),(_,R)])]=>em A+em R
 |_=>5
def GH(hd:Hds):Prop:=hd=[]\/∃A R,hd=[([1],bk2 A R)]/\inW A/\inW R
theorem Td{X A:Int×Int}(F:inW X)(G:inW A):hsS (jn X A) (some A)=(if X.1<A.1 then -32768 else A.1,if X.2>A.2 then 32767 else A.2):=by
 obtain⟨Y,O,M⟩:=F;obtain⟨a1,a2,Z⟩:=G;obtain⟨x,y⟩:=X;obtain⟨a,b⟩:=A;simp only at *;have B:(jn (x,y) (a,b)).1=if x<a then x else a:=by
  show mn x a=_;unfold mn;by_cases h:a<x
  ·rw[if_pos h,if_neg (by lia)]
  ·rw[if_neg h];split
   ·rfl
   ·lia
 have z:(jn (x,y) (a,b)).2=if y>b then y else b:=by
  show mx y b=_;unfold mx;by_cases h:b>y
  ·rw[if_pos h,if_neg (by lia)]
  ·rw[if_neg h];split
   ·rfl
   ·lia
 unfold hsS;rw[show((some (a,b):S).getD (jn (x,y) (a,b)))=(a,b) from rfl];generalize jn (x,y) (a,b)=J at B z |-;obtain⟨p,q⟩:=J;simp only at B z |-;subst B z;show(mn _ _,mx _ _)=_;refine Prod.ext ?_ ?_<;>dsimp only
 ·by_cases h:x<a
  ·simp only[if_pos h];rw[if_neg (show ¬ x=a by lia)];unfold mn;split<;>lia
  ·simp only[if_neg h,if_true];unfold mn;rw[if_neg (show ¬ a<a by lia)]
 ·by_cases h:y>b
  ·simp only[if_pos h];rw[if_neg (show ¬ y=b by lia)];unfold mx;split<;>lia
  ·simp only[if_neg h,if_true];unfold mx;rw[if_neg (show ¬ b>b by lia)]
theorem Te{X A:Int×Int}(z:inW X)(q:inW A):inW (hsS (jn X A) (some A)):=by
 rw[Td z q];obtain⟨G,F,B⟩:=q;refine⟨?_,?_,?_⟩<;>dsimp only<;>(repeat' split)<;>lia
theorem Tf{X A:Int×Int}(q:inW X)(B:inW A):em (hsS (jn X A) (some A))<=em A/\(¬ (A.1<=X.1/\X.2<=A.2)->em (hsS (jn X A) (some A))<em A):=by
 rw[Td q B];obtain⟨G,_,F⟩:=q;unfold em;dsimp only;have h1:(if(if X.1<A.1 then(-32768:Int) else A.1) = -32768 then 0 else 1)<=(if A.1 = -32768 then 0 else 1)/\(X.1<A.1->(if(if X.1<A.1 then(-32768:Int) else A.1) = -32768 then 0 else 1)<(if A.1 = -32768 then 0 else 1)):=by
  by_cases h:X.1<A.1
  ·rw[if_pos h,if_pos rfl,if_neg (show ¬ A.1 = -32768 by lia)];exact⟨by decide,fun _=>by decide⟩
  ·rw[if_neg h];exact⟨yb _,fun z=>absurd z h⟩
 have h2:(if(if X.2>A.2 then(32767:Int) else A.2)=32767 then 0 else 1)<=(if A.2=32767 then 0 else 1)/\(X.2>A.2->(if(if X.2>A.2 then(32767:Int) else A.2)=32767 then 0 else 1)<(if A.2=32767 then 0 else 1)):=by
  by_cases h:X.2>A.2
  ·rw[if_pos h,if_pos rfl,if_neg (show ¬ A.2=32767 by lia)];exact⟨by decide,fun _=>by decide⟩
  ·rw[if_neg h];exact⟨yb _,fun z=>absurd z h⟩
 refine⟨Nat.add_le_add h1.1 h2.1,fun J=>?_⟩;by_cases k:X.1<A.1
 ·exact Nat.add_lt_add_of_lt_of_le (h1.2 k) h2.1
 ·exact Nat.add_lt_add_of_le_of_lt h1.1 (h2.2 (by lia))
theorem Na{X Y A R:Int×Int}(z:inW X)(q:inW Y):withinB (bk2 X Y) (bk2 A R)=decide ((A.1<=X.1/\X.2<=A.2)/\(R.1<=Y.1/\Y.2<=R.2)):=by
 unfold withinB;rw[decide_eq_true (show(List.map (fun x=>x.1) (bk2 X Y)).Perm (List.map (fun x=>x.1) (bk2 A R)) from List.Perm.refl _)];show(true&&(Bc (some X) (some A)&&(Bc (some Y) (some R)&&true)))=_;rw[show some X=some (X.1,X.2) from rfl,show some A=some (A.1,A.2) from rfl,show some Y=some (Y.1,Y.2) from rfl,show some R=some (R.1,R.2) from rfl,Ta z.2.1,Ta q.2.1];simp
theorem Ki(A R:Int×Int):BksOk [([1],bk2 A R)]:=by
 refine⟨show 1<=60 by decide,fun q hq=>?_,fun q hq=>?_⟩<;>(rw[y0k] at hq; subst hq)
 ·simp
 ·refine⟨show 2<64 by decide,fun r hr=>?_⟩;simp only[yv,yp,or_false] at hr;rcases hr with rfl|rfl
  ·exact ke
  ·exact(show PyData.strOk ("s" : Str)=true by decide+kernel)
theorem Kj(s:Int×Int):em s<=2:=by
 unfold em;split<;>split<;>decide
theorem Tg(z q:Int×Int)(c:Bool):grownB [] [([1],bk2 z q)] c=[([1],bk2 z q)]:=by
 have h:∀s:Int×Int,hsS s none=s:=fun s=>by
  show jn s (if s.1=s.1 then s.1 else _,if s.2=s.2 then s.2 else _)=_;rw[if_pos rfl,if_pos rfl];unfold jn mn mx;rw[if_neg (Int.lt_irrefl _),if_neg (Int.lt_irrefl _)]
 cases c with
 |false=>rfl
 |true=>
  show [([1],Kf [] (bk2 z q))]=_;rw[kg,h,h]
theorem kh{w:Wd}{g:Int}{A0:Int×Int}(O:inW A0):Gth bhd [("a",A0)] (Ak w g) GH muH:=by
 have J:∀h,GH h->∃q B,(walkB bhd h [("a",A0)] (Ak w g)).2=[([1],bk2 q B)]/\inW q/\inW B:=fun h hg=>by
  rcases hg with rfl|⟨A,R,rfl,G,M⟩
  ·exact NZ O rfl O
  ·exact NZ O rfl (EL O G)
 refine⟨fun h hg=>?_,fun h hg=>?_,fun h hg hb c=>?_,fun h hg hb=>?_,fun h hg=>?_,fun h hg hb=>?_⟩
 ·obtain⟨q,B,e,_⟩:=J h hg;rw[e];refine⟨?_,Ki _ _⟩;rcases hg with rfl|⟨A,R,rfl,_⟩
  ·exact kd
  ·exact Ki _ _
 ·rcases hg with rfl|⟨A,R,rfl,_⟩
  ·exact(show 5<=100 by decide)
  ·exact y0d (Nat.add_le_add (Kj A) (Kj R)) (by decide)
 ·obtain⟨q,B,e,iw,F⟩:=J h hg;rw[e];rcases hg with rfl|⟨A,R,rfl,G,M⟩
  ·rw[Tg];exact .inr ⟨_,_,rfl,iw,F⟩
  ·cases c with
   |false=>exact .inr ⟨_,_,rfl,EL iw G,EL F M⟩
   |true=>exact .inr ⟨_,_,rfl,Te iw G,Te F M⟩
 ·obtain⟨q,B,e,iw,F⟩:=J h hg;rw[e] at hb |-;rcases hg with rfl|⟨A,R,rfl,G,M⟩
  ·rw[Tg];exact y1k (Nat.add_le_add (Kj q) (Kj B)) (by decide)
  ·rw[NY,Na iw F,decide_eq_false_iff_not] at hb;have Z:=Tf iw G;have Y:=Tf F M;show em (hsS (jn q A) (some A))+em (hsS (jn B R) (some R))<em A+em R;by_cases c:A.1<=q.1/\q.2<=A.2
   ·exact Nat.add_lt_add_of_le_of_lt Z.1 (Y.2 fun z=>hb ⟨c,z⟩)
   ·exact Nat.add_lt_add_of_lt_of_le (Z.2 c) Y.1
 ·obtain⟨q,B,e,iw,F⟩:=J h hg;rw[e];exact .inr ⟨_,_,rfl,iw,F⟩
 ·obtain⟨q,B,e,_⟩:=J h hg;rw[e] at hb;rintro rfl;rw[kc (fun z=>by have:=z.length_eq; simp at this)] at hb;cases hb
theorem ki{bk:Bk}{w:Wd}{a b:T}{p:Pth}{ns F B:Nts}{z q r m:Int×Int}(J:shS bk a (p++[0]) ns=(some z,F))(G:shS bk b (p++[1]) F=(some q,B))(e:stF w (some z) (some q)=some r)(h:BS (some r) (some AV)=some m):shS bk (.op w a b) p ns=(some m,B8 B p r):=by
 rw[shS,J,G];rw[if_neg (by simp)];show(BS (stF w (some z) (some q)) (some AV),KJ (stF w (some z) (some q)) p B)=_;rw[e,h];rfl
def four(w:Wd):Prop:=w=.add\/w=.sub\/w=.min\/w=.max
theorem Nb{w:Wd}(hw:four w){x y:Int}:(w.worth x y).natAbs<=x.natAbs+y.natAbs:=by
 rcases hw with rfl|rfl|rfl|rfl<;>simp only[Wd.worth]<;>(try split)<;>lia
theorem st4{w:Wd}(hw:four w){a b c d:Int}(B:a<=b)(q:c<=d):∃r,stF w (some (a,b)) (some (c,d))=some r/\∀x y,a<=x->x<=b->c<=y->y<=d->r.1<=w.worth x y/\w.worth x y<=r.2:=by
 have F:w≠.quo:=by rcases hw with rfl|rfl|rfl|rfl<;>decide
 have G:plW w:=by
  rcases hw with rfl|rfl|rfl|rfl
  ·exact .inl rfl
  ·exact .inr (.inl rfl)
  ·exact .inr (.inr (.inr (.inl rfl)))
  ·exact .inr (.inr (.inr (.inr rfl)))
 obtain⟨lo,hi,h⟩:=kY w a b c d;have k:=Jt G B q (fun z=>absurd z F) h;exact⟨(lo,hi),KI (s:=some (a,b)) (t:=some (c,d)) k,fun x y h1 h2 M J=>k.2.2.1 _ ⟨x,y,h1,h2,M,J,fun z=>absurd z F,rfl⟩⟩
theorem kj{r:Int×Int}{v:Int}(h1:r.1<=v)(h2:v<=r.2)(z : -32768<=v)(q:v<=32767):∃m,BS (some r) (some AV)=some m:=by
 refine⟨_,(show bet (mx r.1 (-32768)) (mn r.2 32767)=some (mx r.1 (-32768),mn r.2 32767) from ?_)⟩;unfold bet;rw[if_neg (by unfold mx mn; (repeat' split)<;>lia)]
structure Lw(w:Wd)(lo hi g:Int):Prop where
 w:four w
 l : -4<=lo/\lo<=4
 h:lo<=hi/\hi<=lo+3
 g:lo-2<=g/\g<=lo+6
variable{w:Wd}{lo hi g L:Int}{hd:Hds}
theorem iw{a b:Int}(h1 : -32768<=a)(h2:a<=b)(q:b<=32767):inW (a,b):=⟨h1,h2,q⟩
theorem kl(h:g-1<=L):mn L (g-1)=g-1:=by
 unfold mn;split<;>lia
abbrev nsA(lo g L z:Int)(R:Int×Int):Nts:=[([0,0],(0,0)),([1,0,0],(lo,L)),([1,0,1],(g,g)),([1,0],(z,1)),([1,1,0,0,0],AV),([1,1,0,0,1],(lo,g-1)),([1,1,0,0],R),([1,1,1,0,0],(lo,g-1)),([1,1,1,0,1],(1,1)),([1,1,1,0],(lo+1,g))]
theorem Th(l:Lw w lo hi g)(hg:lo<g)(hL:g-1<=L)(lc:L<=100)(Z:Aj hd [1] (bk2 (lo,hi) (0,0))=bk2 (lo,L) AV):∃R m,(∀x y,-32768<=x->x<=32767->lo<=y->y<=g-1->R.1<=w.worth x y/\w.worth x y<=R.2)/\inW m/\
  wkD bhd hd (.whl (q2 g) 20 (B5 w)) [1] (bk2 (lo,hi) (0,0)) ([([0,0],(0,0))],[])=(Ad bhd (q2 g) (some (if L<g then 1 else 0,1)) (bk2 (lo,L) AV) false,(nsA lo g L (if L<g then 1 else 0) R,[([1],bk2 (jn (lo,hi) (lo+1,g)) (jn (0,0) m))])):=by
 obtain⟨hw,l1,l2,l3⟩:=l;obtain⟨R,eR,z⟩:=st4 hw (show(-32768:Int)<=32767 by decide) (show lo<=g-1 by lia);have B:=z 0 lo (by decide) (by decide) (y08 _) (by lia);have b0:=Nb hw (x:=0) (y:=lo);obtain⟨m,em⟩:=kj B.1 B.2 (by lia) (by lia);refine⟨R,m,z,Kg em,?_⟩;have es:stF .less (some (lo,L)) (some (g,g))=some (if L<g then 1 else 0,1):=by
  rw[TY (by lia) (y08 _),if_pos hg]
 have G:inW (if L<g then 1 else 0,1):=⟨by dsimp only; split<;>decide,by dsimp only; split<;>decide,by dsimp only; decide⟩;have eS:Ad bhd (q2 g) (some (if L<g then 1 else 0,1)) (bk2 (lo,L) AV) true=some (bk2 (lo,g-1) AV):=by
  have:Ad bhd (q2 g) (some (if L<g then 1 else 0,1)) (bk2 (lo,L) AV) true=bhd (q2 g) (bk2 (lo,L) AV) true:=by split<;>rfl
  rw[this,Tb,kl hL,show bet lo (g-1)=some (lo,g-1) by unfold bet; rw[if_neg (by lia)]];rfl
 have M:inW (lo,L):=iw (by lia) (by lia) (by lia);have O:inW (g,g):=iw (by lia) (by lia) (by lia);have q:inW (lo,g-1):=iw (by lia) (by lia) (by lia);have Y:inW (1,1):=⟨by decide,by decide,by decide⟩;have F:inW AV:=⟨by decide,by decide,by decide⟩;have J:inW (lo+1,g-1+1):=iw (by lia) (by lia) (by lia);have a1:look (bk2 (lo,L) AV) "a" = some (lo,L):=rfl;have a2:look (bk2 (lo,g-1) AV) "s" = some AV:=rfl;have a3:look (bk2 (lo,g-1) AV) "a" = some (lo,g-1):=rfl;have a4:look (Ao (bk2 (lo,g-1) AV) "s" m) "a" = some (lo,g-1):=rfl;have body:wkB bhd hd (B5 w) ([1]++[1]) 0 (some (bk2 (lo,g-1) AV)) (B8 (B8 (B8 [([0,0],(0,0))] ([1]++[0]++[0]) (lo,L)) ([1]++[0]++[1]) (g,g)) ([1]++[0]) (if L<g then 1 else 0,1),[])=(some (bk2 (lo+1,g-1+1) m),(nsA lo g L (if L<g then 1 else 0) R,[])):=by
  unfold B5;rw[By (HP (ki (FN a2 F _ _) (FN a3 q _ _) eR em)),By (HP (NV (FN a4 q _ _) (IR Y _ _) (kZ (by lia) (by decide)) J)),HQ,Int.sub_add_cancel];rfl
 rw[NX Z (NV (FN a1 M _ _) (IR O _ _) es G) eS body,Int.sub_add_cancel];rfl
def nsW(lo g L:Int)(R:Int×Int):Nts:=if lo<g then nsA lo g L 0 R++[([2,0],(g,L))] else [([0,0],(0,0)),([1,0,0],(lo,L)),([1,0,1],(g,g)),([1,0],(0,0)),([2,0],(lo,L))]
theorem Nc{R:NW->Prop} (h:R (wkB bhd hd [.whl (q2 g) 20 (B5 w),.set "b" (.nm "a")] [] 1 (some (bk2 (lo,hi) (0,0))) ([([0,0],(0,0))],[])).2):R (walkB bhd hd [("a",(lo,hi))] (Ak w g)):=by
 unfold walkB Ak;rw[By (HP (IR EM _ _))];exact h
theorem km(l:Lw w lo hi g)(h1:hi<=L)(h2:g<=L)(B:L<=100)(J:Aj hd [1] (bk2 (lo,hi) (0,0))=bk2 (lo,L) AV):∃R X,(lo<g->∀x y,-32768<=x->x<=32767->lo<=y->y<=g-1->R.1<=w.worth x y/\w.worth x y<=R.2)/\inW X/\
  walkB bhd hd [("a",(lo,hi))] (Ak w g)=(nsW lo g L R,[([1],bk2 (lo,if lo<g then mx hi g else hi) X)]):=by
 have M:=l;obtain⟨hw,l1,l2,l3⟩:=M;by_cases hg:lo<g
 ·obtain⟨R,m,Y,O,e⟩:=Th l hg (by lia) B J;refine⟨R,jn (0,0) m,fun _=>Y,EL EM O,Nc (R:=fun z=>z=_) ?_⟩;rw[if_neg (show ¬ L<g by lia)] at e;have F:Ad bhd (q2 g) (some (0,1)) (bk2 (lo,L) AV) false=some (bk2 (g,L) AV):=by
   show bhd (q2 g) (bk2 (lo,L) AV) false=_;rw[Tc,show mx lo g=g by unfold mx; rw[if_pos (by lia)],show bet g L=some (g,L) by unfold bet; rw[if_neg (by lia)]];rfl
  rw[F] at e;have q:look (bk2 (g,L) AV) "a" = some (g,L):=rfl;rw[By e,By (HP (FN q (iw (by lia) (by lia) (by lia)) _ _)),HQ];unfold nsW;rw[if_pos hg,if_pos hg];have Z:jn (lo,hi) (lo+1,g)=(lo,mx hi g):=by
   unfold jn;dsimp only;rw[show mn lo (lo+1)=lo by unfold mn; rw[if_neg (by lia)]]
  rw[Z];rfl
 ·refine⟨(0,0),(0,0),fun z=>absurd z hg,EM,Nc (R:=fun z=>z=_) ?_⟩;have es:stF .less (some (lo,L)) (some (g,g))=some (0,0):=by
   rw[TY (by lia) (y08 _),if_neg (by lia),if_neg hg]
  have q:look (bk2 (lo,L) AV) "a" = some (lo,L):=rfl;have G:inW (lo,L):=iw (by lia) (by lia) (by lia);have F:Ad bhd (q2 g) (some (0,0)) (bk2 (lo,L) AV) false=some (bk2 (lo,L) AV):=by
   show bhd (q2 g) (bk2 (lo,L) AV) false=_;rw[Tc,show mx lo g=lo by unfold mx; rw[if_neg (by lia)],show bet lo L=some (lo,L) by unfold bet; rw[if_neg (by lia)]];rfl
  have e:=NX (m:=20) (p:=[1]) (st:=([([0,0],(0,0))],[])) J (NV (FN q G _ _) (IR (iw (by lia) (by lia) (by lia)) _ _) es EM) (show Ad bhd (q2 g) (some (0,0)) (bk2 (lo,L) AV) true=none from rfl) (IS (r:=B5 w));rw[F] at e;rw[By e,By (HP (FN q G _ _)),HQ];unfold nsW;rw[if_neg hg,if_neg hg];rfl
def C8(lo L:Int):Dm:=.tup [.tup [.tup [.int 1],.tup [.tup [.str "a",.int lo,.int L],.tup [.str "s",.int (-32768),.int 32767]]]]
theorem Kk(lo L:Int):Ax (As (C8 lo L))=[([1],bk2 (lo,L) AV)]:=rfl
theorem Nd{L0:Int}(h1:lo<=hi)(h2:lo<=L0):Aj (Ax (As (C8 lo L0))) [1] (bk2 (lo,hi) (0,0))=bk2 (lo,mx hi L0) AV:=by
 rw[Kk];show bk2 (mn lo lo,mx hi L0) (jn (0,0) AV)=_;rw[show mn lo lo=lo by unfold mn; rw[if_neg (Int.lt_irrefl _)]];rfl
theorem kn{L0:Int}(h1 : -4<=lo)(h2:lo<=L0)(q:L0<=100):CW Bd (C8 lo L0)=true:=by
 have e:ltR (.tup [.str "a",.int lo,.int L0]) (.tup [.str "s",.int (-32768),.int 32767])=true:=by
  show(decide (("a" : Str).cps.toList<("s" : Str).cps.toList))=true;decide+kernel
 show((((true&&true)&&((((decide (-32768<=lo)&&decide (lo<=32767))&&(decide (lo<=L0)&&decide (L0<=32767)))&&(_&&true))&&(ltR _ _&&true)))&&true)&&true)=true;rw[e,decide_eq_true (show -32768<=lo by lia),decide_eq_true (show lo<=32767 by lia),decide_eq_true h2,decide_eq_true (show L0<=32767 by lia)];rfl
end
section
variable{w:Wd}{lo hi g L:Int}{hd:Hds}
theorem ko{o:Option Bk}{n:Nts}{ws:Hds}(e:wkD bhd hd (.whl (q2 g) 20 (B5 w)) [1] (bk2 (lo,hi) (0,0)) ([([0,0],(0,0))],[])=(o,(n,ws))):(walkB bhd hd [("a",(lo,hi))] (Ak w g)).2=ws:=by
 refine Nc (R:=fun z=>z.2=ws) ?_;rw[By e];cases o with
 |none=>rw[IS]
 |some bk=>
  obtain⟨o,B,q,_⟩:=Kh (bh:=bhd) (hd:=hd) (x:="b") (t:=.nm "a") (p:=[]++[1+1]) (bk:=bk) (st:=(n,ws));rw[By q,HQ]
theorem Ti(l:Lw w lo hi g){L0:Int}(h1:lo<=L0)(h2:L0<=100):KU bhd [("a",(lo,hi))] (Ak w g) (C8 lo L0):=by
 obtain⟨_,B,q,z⟩:=l;refine⟨?_,fun _=>⟨?_,?_,(show 1<=900 by decide),fun r hr=>?_⟩⟩
 ·show(smallA _/\_);simp only[smallA,Co,and_true,true_and,yh,y0b];decide+kernel
 ·rw[Kk];exact Ki _ _
 ·obtain⟨G,F,e,_⟩:=NZ (w:=w) (g:=g) (A0:=(lo,hi)) (iw (by lia) (by lia) (by lia)) (Nd q.1 h1) (iw (by lia) (by unfold mx; split<;>lia) (by unfold mx; split<;>lia));rw[e];exact Ki _ _
 ·have e:As (C8 lo L0)=([([1],[("a",(lo,L0)),("s",AV)])]:Ppr):=rfl;rw[e,y0k] at hr;subst hr;exact(show 2<=900 by decide)
theorem ku{a b:Int}(h:a<=b):mx a b=b:=by
 unfold mx;split<;>lia
theorem ky(l:Lw w lo hi g)(h1:hi<=L)(h2:g<=L)(B:L<=100):∃R,(lo<g->∀x y,-32768<=x->x<=32767->lo<=y->y<=g-1->R.1<=w.worth x y/\w.worth x y<=R.2)/\(walkB bhd (Ax (As (C8 lo L))) [("a",(lo,hi))] (Ak w g)).1=nsW lo g L R/\papB bhd [("a",(lo,hi))] (Ak w g) (C8 lo L)=true:=by
 have O:=l;obtain⟨_,M,J,l3⟩:=O;have z:=Nd (L0:=L) J.1 (by lia);rw[ku h1] at z;obtain⟨R,X,Z,q,e⟩:=km l h1 h2 B z;refine⟨R,Z,by rw[e],?_⟩;unfold papB;rw[e,kn M.1 (by lia) B,Kk,NY,y0s];have Y:inW (lo,if lo<g then mx hi g else hi):=iw (by lia) (by unfold mx; (repeat' split)<;>lia) (by unfold mx; (repeat' split)<;>lia);rw[Na Y q,decide_eq_true];obtain⟨G,x2,F⟩:=q;refine⟨⟨y08 _,?_⟩,G,F⟩;dsimp only;unfold mx;(repeat' split)<;>lia
theorem kz(l:Lw w lo hi g)(hg:lo<g)(h1:hi<=L)(h2:g<=L)(M:L=hi\/L=g):papB bhd [("a",(lo,hi))] (Ak w g) (C8 lo (L-1))=false:=by
 have z:=l;obtain⟨_,J,q,G⟩:=z;have F:=Nd (L0:=L-1) q.1 (by lia);obtain⟨R,m,_,B,e⟩:=Th l hg (L:=mx hi (L-1)) (by unfold mx; split<;>lia) (by unfold mx; split<;>lia) F;unfold papB;rw[ko e,Kk,NY,Na (EL (iw (by lia) q.1 (by lia)) (iw (by lia) (by lia) (by lia))) (EL EM B),decide_eq_false,Bool.and_false];rintro⟨⟨_,h⟩,_⟩;have h:mx hi g<=L-1:=h;unfold mx at h;split at h<;>lia
theorem l9{c:Cnt}{x:Str}{v:Int}(h:Au c x=some v):(x,v)∈c:=by
 unfold Au at h;obtain⟨p,q,e⟩:=Option.map_eq_some_iff.mp h;have h1:=List.find?_some q;have h1:p.1=x:=by simpa using h1
 have h2:=List.mem_of_find?_eq_some q;rw[<- h1,<- e];exact h2
theorem Nf{i:Int}{p:List Int}(h1 : -32768<=i)(h2:i<=32767):BY i p=.had i:=by
 unfold BY;rw[if_neg (by lia),if_neg (by lia)]
theorem IT{c:Cnt}{x:Str}{v:Int}{p:List Int}(e:Au c x=some v)(h1 : -32768<=v)(h2:v<=32767):evT c (.nm x) p=(.had v,[(p,v)]):=by
 rw[evT,e];show(BY v p,_)=_;rw[Nf h1 h2];rfl
theorem Ng{c:Cnt}{v:Int}{p:List Int}(h1 : -32768<=v)(h2:v<=32767):evT c (.num v) p=(.had v,[(p,v)]):=by
 rw[evT,Nf h1 h2]
theorem Nh{c:Cnt}{o:Wd}{a b:T}{x y:Int}{p:List Int}{B q:List RI}(n:o≠.quo)(G:evT c a (p++[0])=(.had x,B))(F:evT c b (p++[1])=(.had y,q))(h1 : -32768<=o.worth x y)(h2:o.worth x y<=32767):evT c (.op o a b) p=(.had (o.worth x y),B++q++[(p,o.worth x y)]):=by
 rw[evT,G];dsimp only;rw[F];dsimp only;rw[if_neg (fun z=>n z.1),Nf h1 h2]
theorem Kl{c:Cnt}{x:Str}{t:T}{p:List Int}{v:Int}{r:List RI}(e:evT c t (p++[0])=(.had v,r)):evD p (.set x t) c=(none,Ay c x v,r):=by
 rw[evD,e]
theorem IU{d:D}{b:List D}{p:List Int}{k:Int}{c q:Cnt}{r:List RI}(e:evD (p++[k]) d c=(none,q,r)):evB p k (d::b) c=((evB p (k+1) b q).1,(evB p (k+1) b q).2.1,r++(evB p (k+1) b q).2.2):=by
 rw[evB,e]
theorem Tj{p:List Int}{k:Int}{c:Cnt}:evB p k [] c=(none,c,[]):=by rw[evB]
def Gd1(ns:Nts)(r:RI):Prop:=∃s,Aa ns r.1=some s/\s.1<=r.2/\r.2<=s.2
end
section
variable{w:Wd}{lo hi g L:Int}{R:Int×Int}
theorem FO(hg:lo<g):Aa (nsW lo g L R) [0,0]=some (0,0)/\Aa (nsW lo g L R) [1,0,0]=some (lo,L)/\Aa (nsW lo g L R) [1,0,1]=some (g,g)/\Aa (nsW lo g L R) [1,0]=some (0,1)/\Aa (nsW lo g L R) [1,1,0,0,0]=some AV/\Aa (nsW lo g L R) [1,1,0,0,1]=some (lo,g-1)/\Aa (nsW lo g L R) [1,1,0,0]=some R/\Aa (nsW lo g L R) [1,1,1,0,0]=some (lo,g-1)/\Aa (nsW lo g L R) [1,1,1,0,1]=some (1,1)/\Aa (nsW lo g L R) [1,1,1,0]=some (lo+1,g)/\Aa (nsW lo g L R) [2,0]=some (g,L):=by
 unfold nsW;rw[if_pos hg];exact⟨rfl,rfl,rfl,rfl,rfl,rfl,rfl,rfl,rfl,rfl,rfl⟩
theorem IV(hg:¬ lo<g):Aa (nsW lo g L R) [0,0]=some (0,0)/\Aa (nsW lo g L R) [1,0,0]=some (lo,L)/\Aa (nsW lo g L R) [1,0,1]=some (g,g)/\Aa (nsW lo g L R) [1,0]=some (0,0)/\Aa (nsW lo g L R) [2,0]=some (lo,L)/\Aa (nsW lo g L R) [1,1,0,0]=none:=by
 unfold nsW;rw[if_neg hg];exact⟨rfl,rfl,rfl,rfl,rfl,rfl⟩
theorem BF{ns:Nts}{r:RI}{s:Int×Int}(e:Aa ns r.1=some s)(h1:s.1<=r.2)(h2:r.2<=s.2):Gd1 ns r:=⟨s,e,h1,h2⟩
abbrev IW(v g:Int):List RI:=[([1,0,0],v),([1,0,1],g),([1,0],if v<g then 1 else 0)]
theorem Tk(l:Lw w lo hi g){c:Cnt}{v:Int} (e:Au c "a" = some v) (h1:lo<=v) (h2:v<=100):evT c (q2 g) ([1]++[0])=(.had (if v<g then 1 else 0),IW v g):=by
 obtain⟨_,B,z,q⟩:=l;have:=Nh (o:=.less) (p:=[1]++[0]) (by decide) (IT e (p:=[1]++[0]++[0]) (by lia) (by lia)) (Ng (c:=c) (v:=g) (p:=[1]++[0]++[1]) (by lia) (by lia)) (by show -32768<=(if v<g then(1:Int) else 0); split<;>lia) (by show(if v<g then(1:Int) else 0)<=32767; split<;>lia);exact this
abbrev Ni(w:Wd)(v u:Int):List RI:=[([1,1,0,0,0],u),([1,1,0,0,1],v),([1,1,0,0],w.worth u v),([1,1,1,0,0],v),([1,1,1,0,1],1),([1,1,1,0],v+1)]
theorem lA(l:Lw w lo hi g){c:Cnt}{v u:Int} (z:Au c "a" = some v) (es:Au c "s" = some u) (h1:lo<=v) (h2:v<=100) (M:u.natAbs<=1000):evB ([1]++[1]) 0 (B5 w) c=(none,Ay (Ay c "s" (w.worth u v)) "a" (v+1),Ni w v u):=by
 obtain⟨hw,J,G,F⟩:=l;have hb:=Nb hw (x:=u) (y:=v);have B:w≠.quo:=by rcases hw with rfl|rfl|rfl|rfl<;>decide
 have q:Au (Ay c "s" (w.worth u v)) "a" = some v:=(NL c _ sas.1).trans z;unfold B5;rw[IU (Kl (Nh B (IT es (by lia) (by lia)) (IT z (by lia) (by lia)) (by lia) (by lia))),IU (Kl (Nh (o:=.add) (by decide) (IT q (by lia) (by lia)) (Ng (by decide) (by decide)) (by show -32768<=v+1; lia) (by show v+1<=32767; lia))),Tj];rfl
theorem lB(l:Lw w lo hi g)(h1:hi<=L)(h2:g<=L)(h3:L<=100)(hR:lo<g->∀x y,-32768<=x->x<=32767->lo<=y->y<=g-1->R.1<=w.worth x y/\w.worth x y<=R.2):∀(n k:Nat) (v u:Int) (c:Cnt),Au c "a" = some v->Au c "s" = some u->lo<=v->v<=L->g-v<=n->n<=k->u.natAbs+100*n<=1000->
  ∃c' B,Am (fun c=>evT c (q2 g) ([1]++[0])) (fun c=>evB ([1]++[1]) 0 (B5 w) c) [1] k c=(none,c',B)/\Au c' "a" = some (mx v g)/\B.length<=9*n+3/\∀r∈B,Gd1 (nsW lo g L R) r:=by
 have l':=l;obtain⟨hw,l1,l2,l3⟩:=l';have F:∀(k:Nat) (v:Int) (c:Cnt),Au c "a" = some v->lo<=v->v<=L->¬ v<g->∃c' B,Am (fun c=>evT c (q2 g) ([1]++[0])) (fun c=>evB ([1]++[1]) 0 (B5 w) c) [1] k c=(none,c',B)/\Au c' "a" = some (mx v g)/\B.length<=3/\∀r∈B,Gd1 (nsW lo g L R) r:=fun k v c G q z hv=>by
  have Y:=Tk l G q (by lia);rw[if_neg hv] at Y;refine⟨c,IW v g,?_,by rw[G,show mx v g=v by unfold mx; rw[if_neg (by lia)]],(show 3<=3 by decide),?_⟩
  ·unfold Am;rw[Y];rfl
  ·intro r hr;simp only[IW,yv,yp,or_false] at hr;by_cases hg:lo<g
   ·obtain⟨_,O,M,J,_⟩:=FO (L:=L) (R:=R) hg;rcases hr with rfl|rfl|rfl
    ·exact BF O q z
    ·exact BF M (y08 _) (y08 _)
    ·exact BF J (by dsimp only; split<;>decide) (by dsimp only; split<;>decide)
   ·obtain⟨_,O,M,J,_⟩:=IV (L:=L) (R:=R) hg;rcases hr with rfl|rfl|rfl
    ·exact BF O q z
    ·exact BF M (y08 _) (y08 _)
    ·exact BF J (by dsimp only; rw[if_neg hv]; decide) (by dsimp only; rw[if_neg hv]; decide)
 intro n;induction n with
 |zero=>
  intro k v u c G es q z hn _ _;exact F k v c G q z (by lia)
 |succ n ih=>
  intro k v u c G es q z hn hk hu;by_cases hv:v<g
  ·obtain⟨k',rfl⟩:∃k',k=k'+1:=⟨k-1,by lia⟩;have hb:=Nb hw (x:=u) (y:=v);have Y:=Tk l G q (by lia);have eb:=lA l G es q (by lia) (by lia);obtain⟨c',B,e,e2,e3,Z⟩:=ih k' (v+1) (w.worth u v) (Ay (Ay c "s" (w.worth u v)) "a" (v+1)) (Ka _ _ _) ((NL _ _ sas.2).trans (Ka _ _ _)) (by lia) (by lia) (by lia) (by lia) (by lia);refine⟨c',IW v g++Ni w v u++B,?_,?_,?_,?_⟩
   ·unfold Am;rw[Y];dsimp only;rw[if_neg (by rw[if_pos hv]; decide),eb];dsimp only;rw[e]
   ·rw[e2,show mx (v+1) g=mx v g by unfold mx; (repeat' split)<;>lia]
   ·simp only[yt,yh,y0b];lia
   ·intro r hr;obtain⟨_,O,M,J,k4,k5,k6,k7,k8,k9,_⟩:=FO (L:=L) (R:=R) (show lo<g by lia);have kR:=hR (by lia) u v (by lia) (by lia) q (by lia);rcases List.mem_append.mp hr with hr|hr
    ·simp only[IW,Ni,List.cons_append,List.nil_append,yv,yp,or_false] at hr;rcases hr with rfl|rfl|rfl|rfl|rfl|rfl|rfl|rfl|rfl
     ·exact BF O q z
     ·exact BF M (y08 _) (y08 _)
     ·exact BF J (by dsimp only; split<;>decide) (by dsimp only; split<;>decide)
     ·exact BF k4 (show -32768<=u by lia) (show u<=32767 by lia)
     ·exact BF k5 q (show v<=g-1 by lia)
     ·exact BF k6 kR.1 kR.2
     ·exact BF k7 q (show v<=g-1 by lia)
     ·exact BF k8 (y08 _) (y08 _)
     ·exact BF k9 (show lo+1<=v+1 by lia) (show v+1<=g by lia)
    ·exact Z r hr
  ·obtain⟨c',B,e,e2,e3,Z⟩:=F k v c G q z hv;exact⟨c',B,e,e2,by lia,Z⟩
theorem lC(l:Lw w lo hi g)(h1:hi<=L)(h2:g<=L)(Z:L<=100)(Y:lo<g->∀x y,-32768<=x->x<=32767->lo<=y->y<=g-1->R.1<=w.worth x y/\w.worth x y<=R.2){v:Int}(B:lo<=v)(O:v<=hi) :
  ∃c' q,evP [("a",(lo,hi))] (Ak w g) [v]=(none,c',q)/\((("b" : Str),mx v g):Str×Int)∈c'/\q.length<=100/\∀r∈q,Gd1 (nsW lo g L R) r:=by
 have M:=l;obtain⟨hw,l1,l2,l3⟩:=M;have e0:stB [] [("a",(lo,hi))] [v]=[(("a" : Str),v)]:=rfl;obtain⟨J,F,e1,ea,n1,G⟩:=lB l h1 h2 Z Y 8 20 v 0 [(("a" : Str),v),(("s" : Str),(0:Int))] rfl rfl B (by lia) (by lia) (by lia) (by decide);have ex:evD ([]++[0+1]) (.whl (q2 g) 20 (B5 w)) (Ay [(("a" : Str),v)] "s" 0)=(none,J,F):=by
  rw[evD];exact e1
 have hm:lo<=mx v g/\mx v g<=L/\g<=mx v g:=by unfold mx; split<;>lia
 refine⟨Ay J "b" (mx v g),[([0,0],0)]++(F++([([2,0],mx v g)]++[])),?_,l9 (Ka _ _ _),by simp only[yt,yh,y0b]; lia,?_⟩
 ·unfold evP Ak;rw[e0,IU (Kl (Ng (by decide) (by decide))),IU ex,IU (Kl (IT ea (by lia) (by lia))),Tj];rfl
 ·intro r hr;simp only[y0n,List.cons_append,List.nil_append,yv,List.mem_append,yp,or_false] at hr;by_cases hg:lo<g
  ·obtain⟨z,_,_,_,_,_,_,_,_,_,kb⟩:=FO (L:=L) (R:=R) hg;rcases hr with rfl|hr|rfl
   ·exact BF z (y08 _) (y08 _)
   ·exact G r hr
   ·exact BF kb hm.2.2 hm.2.1
  ·obtain⟨z,_,_,_,kb,_⟩:=IV (L:=L) (R:=R) hg;rcases hr with rfl|hr|rfl
   ·exact BF z (y08 _) (y08 _)
   ·exact G r hr
   ·exact BF kb hm.1 hm.2.1
end
section
variable{P:yl}{w:y07}{K:y3}{mg:Str->Option ya}{base:Heap}{f:Addr}{fd:y0v}
theorem slK{X:Cx}{r:y3->V->Option Int->Option Int->Hp->VK->Prop}{K:y3}(h:SlR X (r X.K))(e:X.K=K):SlR X (r K):=e ▸ h
theorem HR{x:DX}{σ:St}{H:Hp}{Q:VK}(z:Nat->Dm){vo:List Nat}(e:Env z σ H vo [])(h:x.chk vo []=true)(q:∀v H',Same H H'->Dt H' v (x.val z)->Q v H'):tDX x σ H Q:=⟨z,e.fit h,q⟩
def FP:List (Pth×Dm)->Pth->Option Dm
 |[],_=>none
 |q::r,p=>if q.1=p then some q.2 else FP r p
theorem Tl{H:Hp}{kvs:List (List Key×V)}{l:List (Pth×Dm)}(h:Paired (fun(kv:List Key×V) (r:Pth×Dm)=>kv.1=r.1.map Sum.inl/\Dt H kv.2 r.2) kvs l)(p:Pth):(FP l p=none/\AX kvs (AL p)=none)\/∃d v,FP l p=some d/\AX kvs (AL p)=some v/\Dt H v d:=by
 induction h with
 |nil=>exact .inl ⟨rfl,rfl⟩
 |cons B _ F=>
  rename_i a q _ _ _;obtain⟨e,d⟩:=B;by_cases hx:q.1=p
  ·refine .inr ⟨q.2,a.2,?_,Bi (by rw[e,hx]; rfl),d⟩;rw[FP,if_pos hx]
  ·rw[Bj (by rw[e]; intro z; exact hx (FH z))];rw[FP,if_neg hx];exact F
theorem Tm{q:Nat->Dm}{σ:St}{H:Hp}{i j:Nat}{v w:V}(B:σ[i]?=some (some v))(z:σ[j]?=some (some w))(d1:Dt H v (q i))(d2:Dt H w (q j)):Env q σ H [i,j] []:=⟨fun k h=>by
 simp only[yv,yp,or_false] at h
 rcases h with rfl|rfl
 ·exact⟨_,B,d1⟩
 ·exact⟨_,z,d2⟩,fun _ h=>(by cases h)⟩
theorem Tn(a b:Int):Fine 1 (.tup [.int a,.int b]):=SV fun d hd=>by
 simp only[yv,yp,or_false] at hd;rcases hd with rfl|rfl<;>exact SW _ _
theorem Nj{H:Hp}{x y:V}{a b c d:Int}(dx:Dt H x (.tup [.int a,.int b]))(q:Dt H y (.tup [.int c,.int d])):EqD H x y (decide ((a,b)=(c,d))):=
 ⟨_,_,dx,q,(Tn a b).eq (by decide),(Tn c d).eq (by decide),by simp[Dm.dat,Af,PyData.eqv,PyData.eqvAll]; rfl⟩
theorem To{z q:TT}{a b:TS}{D:Ends}{σ:St}{H:Hp}(h:∀Y Z:Hp->Prop,(Y=fun H1=>a D σ H1)->(Z=fun H1=>B2 q a b D σ H1)->z σ H (fun c H1=>if c=true then Y H1 else Z H1)):B2 (tOr z q) a b D σ H:=by
 have:=h _ _ rfl rfl;unfold B2 at this;unfold B2 tOr;simpa using this
theorem Tp{z q:TT}{a b:TS}{D:Ends}{σ:St}{H:Hp}(h:∀Y Z:Hp->Prop,(Y=fun H1=>B2 q a b D σ H1)->(Z=fun H1=>b D σ H1)->z σ H (fun c H1=>if c=true then Y H1 else Z H1)):B2 (Cs z q) a b D σ H:=by
 have:=h _ _ rfl rfl;unfold B2 at this;unfold B2 Cs;simpa using this
theorem dx0{x:DX}{σ:St}{H:Hp}{Q:VK}(h:x.chk [] []=true)(q:∀v H',Same H H'->Dt H' v (x.val fun _=>.non)->Q v H'):tDX x σ H Q:=HR (fun _=>.non) (vo:=[]) ⟨fun _ h=>(by cases h),fun _ h=>(by cases h)⟩ h q
theorem Tq{U:Hp}{p:Addr}(q:U p=none)(a b:Int):Same U (upd U p (HO.tup [V.int a,V.int b]))/\Dt (upd U p (HO.tup [V.int a,V.int b])) (.ref p) (.tup [.int a,.int b]):=⟨AD q _,.tup A6 (.cons (.int _) (.cons (.int _) .nil))⟩
def FQ(ns:Nts)(p:Pth):Pth×Dm:=(p,AO (Aa ns p))
def NtP(U:Hp)(kvs:List (List Key×V))(ns:Nts):Prop:=∃ps:List Pth,Paired (fun(kv:List Key×V) (r:Pth×Dm)=>kv.1=r.1.map Sum.inl/\Dt U kv.2 r.2) kvs (ps.map (FQ ns))/\ps.Perm (ns.map (·.1))
theorem NtP.kp{U U':Hp}{kvs:List (List Key×V)}{ns:Nts}(h:NtP U kvs ns)(k:Kp U U'):NtP U' kvs ns:=by
 obtain⟨ps,q,B⟩:=h;exact⟨ps,Paired.mapP q fun _ _ z=>⟨z.1,z.2.kp k⟩,B⟩
theorem Km{ns:Nts}{p:Pth}:∀{ps:List Pth},FP (ps.map (FQ ns)) p=if p∈ps then some (AO (Aa ns p)) else none
 |[]=>rfl
 |q::ps=>by
  rw[yc,FP,Km];by_cases e:q=p
  ·subst e;rw[if_pos (show(FQ ns q).1=q from rfl),if_pos y00];rfl
  ·rw[if_neg (show ¬ (FQ ns q).1=p from e)];by_cases h:p∈ps
   ·rw[if_pos h,if_pos (yx _ h)]
   ·rw[if_neg h,if_neg fun z=>h ((List.mem_cons.mp z).resolve_left fun z=>e z.symm)]
theorem Tr:∀{ns:Nts} {p:Pth},p∉ns.map (·.1)->Aa ns p=none
 |[],_,_=>rfl
 |q::ns,p,h=>by
  rw[yc,yv,not_or] at h;rw[Aa,if_neg fun z=>h.1 z.symm];exact Tr h.2
theorem NtP.ask{U:Hp}{kvs:List (List Key×V)}{ns:Nts}{pD:Addr}{p:Pth}{y:V}(h:NtP U kvs ns)(M:Rd U pD (.dT kvs))(O:Dt U y (pathD p)):(Aa ns p=none/\DGet U pD y none)\/∃s v,Aa ns p=some s/\DGet U pD y (some v)/\Dt U v (AO (some s)):=by
 obtain⟨ps,B,F⟩:=h;obtain⟨b,xs,rfl,hb,Z⟩:=O.tupI;have e:=D7 Z;subst e;have g:DGet U pD (.ref b) (AX kvs (AL p)):=.inr ⟨kvs,AL p,b,M,rfl,by rw[BK]; exact hb,rfl⟩;by_cases q:p∈ps
 ·obtain⟨s,G⟩:=KS (F.mem_iff.mp q);rcases Tl B p with⟨z,_⟩|⟨d,v,z,J,Y⟩
  ·rw[Km,if_pos q] at z;cases z
  ·rw[Km,if_pos q,G] at z;cases z;rw[J] at g;exact .inr ⟨s,v,G,g,Y⟩
 ·rcases Tl B p with⟨_,z⟩|⟨d,v,z,_⟩
  ·rw[z] at g;exact .inl ⟨Tr fun z=>q (F.mem_iff.mpr z),g⟩
  ·rw[Km,if_neg q] at z;cases z
theorem NtP.get{U:Hp}{kvs:List (List Key×V)}{ns:Nts}{pD:Addr}{p:Pth}{y:V}{a b:Int}(h:NtP U kvs ns)(B:Rd U pD (.dT kvs))(F:Dt U y (pathD p))(q:Aa ns p=some (a,b)):∃v,DGet U pD y (some v)/\Dt U v (.tup [.int a,.int b]):=by
 rcases h.ask B F with⟨z,_⟩|⟨s,v,z,g,d⟩
 ·rw[q] at z; cases z
 ·rw[q] at z; cases z;exact⟨v,g,d⟩
def IX(lo hi g top:Int)(q:Wd):Nat->Dm
 |1=>.int lo
 |2=>.int hi
 |3=>.int g
 |4=>.str q.str
 |5=>.tup (Av (B5 q))
 |6=>T.enc (q2 g)
 |8=>.int top
 |_=>.non
theorem Ts{q:Nat->Dm}{σ:St}{H:Hp}{i:Nat}{v:V}(z:σ[i]?=some (some v))(d1:Dt H v (q i)):Env q σ H [i] []:=⟨fun k h=>by
 rw[y0k] at h
 subst h
 exact⟨_,z,d1⟩,fun _ h=>(by cases h)⟩
theorem lE{q:Nat->Dm}{σ:St}{H:Hp}{i j l m:Nat}{v w u x:V}(G:σ[i]?=some (some v))(F:σ[j]?=some (some w))(B:σ[l]?=some (some u))(z:σ[m]?=some (some x))(d1:Dt H v (q i))(d2:Dt H w (q j))(d3:Dt H u (q l))(d4:Dt H x (q m)):Env q σ H [i,j,l,m] []:=⟨fun k h=>by
 simp only[yv,yp,or_false] at h
 rcases h with rfl|rfl|rfl|rfl
 ·exact⟨_,G,d1⟩
 ·exact⟨_,F,d2⟩
 ·exact⟨_,B,d3⟩
 ·exact⟨_,z,d4⟩,fun _ h=>(by cases h)⟩
theorem Kn(A:Int×Int){q:Wd}(hw:plW q)(g:Int):DS isQ 2 [("a",A)] (Ak q g):=by
 have hb:FJ isQ 1 (B5 q):=fun d hd=>by
  simp only[B5,yv,yp,or_false] at hd;rcases hd with rfl|rfl
  ·exact⟨hw,trivial,trivial⟩
  ·exact⟨.inl rfl,trivial,trivial⟩
 refine⟨fun d hd=>?_,by unfold Ak B5; simp only[szB,D.sz,T.sz,yh,y0b]; decide,by decide⟩;simp only[Ak,yv,yp,or_false] at hd;rcases hd with rfl|rfl|rfl
 ·trivial
 ·exact⟨(TZ g).1,(TZ g).2,hb⟩
 ·trivial
theorem lF(lo g L:Int)(R:Int×Int):((nsW lo g L R).map (·.1)).Nodup/\(nsW lo g L R).length<=11/\∀q∈nsW lo g L R,q.1≠[]:=by
 have k:∀l:List Pth,(nsW lo g L R).map (·.1)=l->l.Nodup->l.length<=11->[]∉l->((nsW lo g L R).map (·.1)).Nodup/\(nsW lo g L R).length<=11/\∀q∈nsW lo g L R,q.1≠[]:=fun l e h1 h2 B=>⟨e ▸ h1,by rw[<- e,y4] at h2; exact h2,fun q hq z=>B (e ▸ List.mem_map.mpr ⟨q,hq,z⟩)⟩;by_cases hg:lo<g
 ·exact k [[0,0],[1,0,0],[1,0,1],[1,0],[1,1,0,0,0],[1,1,0,0,1],[1,1,0,0],[1,1,1,0,0],[1,1,1,0,1],[1,1,1,0],[2,0]] (by unfold nsW; rw[if_pos hg]; all_goals rfl) (by decide) (by decide) (by decide)
 ·exact k [[0,0],[1,0,0],[1,0,1],[1,0],[2,0]] (by unfold nsW; rw[if_neg hg]; all_goals rfl) (by decide) (by decide) (by decide)
def ScL(U:Hp)(ns:Nts)(ps:List Pth)(i:Nat)(ys:List V)(q:St)(H':Hp):Prop:=Same U H'/\(∃t,q=[t])/\DtA H' ys (((ps.take i).map (FQ ns)).map LL)/\i<=ps.length
theorem Ko{ps:Array ya}:¬ Chg (.tbl ps):=by rintro(⟨_,z⟩|⟨_,z⟩|⟨_,_,z⟩|⟨_,_,z⟩|⟨_,_,_,z⟩)<;>cases z
theorem TabAt.same(h:TabAt pt pos q H)(s:Same H H'):TabAt pt pos q H':=h.kp fun a o _ e=>s a o e
theorem TabAt.keeps{B:Addr}{pos:Pos}{q:Str}{H H':Hp}(h:TabAt B pos q H)(k:Keeps H H'):TabAt B pos q H':=by
 have F:∀ps,¬ Chg (.tbl ps):=by rintro ps (⟨_,z⟩|⟨_,z⟩|⟨_,_,z⟩|⟨_,_,z⟩|⟨_,_,_,z⟩)<;>cases z
 have G:∀c q,¬ Chg (Bq c q):=by rintro c q (⟨_,z⟩|⟨_,z⟩|⟨_,_,z⟩|⟨_,_,z⟩|⟨_,_,_,z⟩)<;>(unfold Bq at z; cases z)
 rcases h with h|⟨c',h1,h2⟩
 ·exact .inl (k.a _ _ (F _) h)
 ·exact .inr ⟨c',k.a _ _ (F _) h1,k.a _ _ (G _ _) h2⟩
theorem TabAt.ne(h:TabAt p1 pos q H)(s:SameB p2 H H')(n:p1≠p2)(B:∃ps,H p2=some (.tbl ps)):TabAt p1 pos q H':=by
 obtain⟨ps,B⟩:=B;rcases h with h|⟨c',h,hc⟩
 ·exact .inl (s _ _ n h)
 ·exact .inr ⟨c',s _ _ n h,s _ _ (BL hc B (by intro z; unfold Bq at z; cases z)) hc⟩
theorem TabAt.tb{z:Addr}{pos:Pos}{q:Str}{H:Hp}(h:TabAt z pos q H):∃ps,H z=some (.tbl ps):=by
 rcases h with h|⟨c',h,_⟩
 ·exact⟨_,h⟩
 ·exact⟨_,h⟩
structure LF(U:Hp)(p1 p2 pD:Addr)(kvs:List (List Key×V))(nts:Nts)(vp:V)(pe:Dm):Prop where
 t1:TabAt p1 posR dR.qual U
 t2:TabAt p2 posT dT.qual U
 dp:Dt U vp pe
 rd:Rd U pD (.dT kvs)
 np:NtP U kvs nts
section
variable{U U':Hp}{p1 p2 pD:Addr}{kvs:List (List Key×V)}{nts:Nts}{vp:V}{pe:Dm}
theorem LF.same(h:LF U p1 p2 pD kvs nts vp pe)(s:Same U U'):LF U' p1 p2 pD kvs nts vp pe:=⟨h.t1.same s,h.t2.same s,h.dp.kp s.kp,Rd.same h.rd s,h.np.kp s.kp⟩
theorem LF.keeps(h:LF U p1 p2 pD kvs nts vp pe)(s:Keeps U U')(q:Rd U' pD (.dT kvs)):LF U' p1 p2 pD kvs nts vp pe:=⟨h.t1.keeps s,h.t2.keeps s,h.dp.kp s.kp,q,h.np.kp s.kp⟩
theorem LF.fz(h:LF U p1 p2 pD kvs nts vp pe)(o:Obj):LF (upd U pD (.frz o (.dT kvs))) p1 p2 pD kvs nts vp pe:=h.keeps (N0 h.rd) (.inr ⟨o,A6⟩)
theorem LF.rdB(h:LF U p1 p2 pD kvs nts vp pe){p:Addr}{ps:Array ya}(s:SameB p U U')(q:U p=some (.tbl ps)):Rd U' pD (.dT kvs):=by
 rcases h.rd with z|⟨o,z⟩
 ·exact .inl (s _ _ (BL z q (by intro y; cases y)) z)
 ·exact .inr ⟨o,s _ _ (BL z q (by intro y; cases y)) z⟩
theorem LF.run1(h:LF U p1 p2 pD kvs nts vp pe)(n:p1≠p2)(s:SameB p1 U U')(t:TabAt p1 posR dR.qual U'):LF U' p1 p2 pD kvs nts vp pe:=by
 obtain⟨ps,q⟩:=h.t1.tb;have kp:=s.kpT q;exact⟨t,h.t2.ne s (y0y n) ⟨_,q⟩,h.dp.kp kp,h.rdB s q,h.np.kp kp⟩
theorem LF.run2(h:LF U p1 p2 pD kvs nts vp pe)(n:p1≠p2)(s:SameB p2 U U')(t:TabAt p2 posT dT.qual U'):LF U' p1 p2 pD kvs nts vp pe:=by
 obtain⟨ps,q⟩:=h.t2.tb;have kp:=s.kpT q;exact⟨h.t1.ne s n ⟨_,q⟩,t,h.dp.kp kp,h.rdB s q,h.np.kp kp⟩
end
theorem lG{l:List DX}{σ:St}{H:Hp}{Q:List V->Hp->Prop}(h:GO [] [] l=true)(q:∀vs H',Same H H'->DtA H' vs (D6 (fun _=>.non) l)->Q vs H'):F1 l σ H Q:=⟨_,Env.fitA (vo:=[]) (vt:=[]) ⟨fun _ h=>(by cases h),fun _ h=>(by cases h)⟩ h,q⟩
def P1I(U:Hp)(z:Addr)(i:Nat)(ys:List V)(q:St)(H':Hp):Prop:=H'=U/\(∃t,q=[t])/\ys=[V.ref z].take i
theorem okR{lo hi:Int}(h1 : -4<=lo)(h2:lo<=hi)(q:hi<=7):okRows [("a",(lo,hi))]:=⟨show 1<=2 by decide,rfl,fun r hr=>by
 rw[y0k] at hr
 subst hr
 exact⟨by dsimp only; lia,h2,by dsimp only; lia⟩⟩
theorem lH{z:Wd}{g:Int}(h1 : -6<=g)(h2:g<=10):okW 4 (Ak z g):=by
 have ha:("a" : Str)∈pool:=by decide+kernel
 have hb:("b" : Str)∈pool:=by decide+kernel
 have q:("s" : Str)∈pool:=by decide+kernel
 have B:okW 3 (B5 z):=by
  refine⟨show 2<=7 by decide,fun d hd=>?_⟩;simp only[B5,yv,yp,or_false] at hd;rcases hd with rfl|rfl
  ·exact⟨q,q,ha⟩
  ·exact⟨ha,ha,(⟨by decide,by decide⟩:(-32768:Int)<=1/\(1:Int)<=32767)⟩
 refine⟨show 3<=7 by decide,fun d hd=>?_⟩;simp only[Ak,yv,yp,or_false] at hd;rcases hd with rfl|rfl|rfl
 ·exact⟨q,(⟨by decide,by decide⟩:(-32768:Int)<=0/\(0:Int)<=32767)⟩
 ·exact⟨⟨ha,(⟨by lia,by lia⟩ : -32768<=g/\g<=32767)⟩,B⟩
 ·exact⟨hb,ha⟩
theorem kbW(A:Int×Int)(q:Wd)(g:Int):kbB (([("a",A)]:List Rw).map (·.1)) (Ak q g)=some (["a","s","b"]:List Str):=by with_unfolding_all rfl
theorem Lw.oR{q:Wd}{lo hi g:Int}(l:Lw q lo hi g):okRows [("a",(lo,hi))]:=okR l.l.1 l.h.1 (by have:=l.l.2; have:=l.h.2; lia)
theorem Lw.oW{q:Wd}{lo hi g:Int}(l:Lw q lo hi g):okW 4 (Ak q g):=lH (by have:=l.l.1; have:=l.g.1; lia) (by have:=l.l.2; have:=l.g.2; lia)
theorem Lw.iA{q:Wd}{lo hi g:Int}(l:Lw q lo hi g):inW (lo,hi):=iw (by have:=l.l.1; lia) l.h.1 (by have:=l.l.2; have:=l.h.2; lia)
theorem lI{a b:Int}:mx a b=if a>b then a else b:=by
 unfold mx;(repeat' split)<;>lia
def WlI(l:Addr)(xs:List V)(p1 p2 pD:Addr)(kvs:List (List Key×V))(nts:Nts)(vp:V)(pe:Dm)(st:List (Option V))(z:List (List Int))(_:Nat)(q:St)(H':Hp):Prop:=LF H' p1 p2 pD kvs nts vp pe/\(∃t u,q=st++[t,u])/\H' l=some (.lst xs)/\DtA H' xs (z.map pathD)
theorem lJ{lo hi:Int}{ws:List Int} (h:Fits [("a",(lo,hi))] ws):∃v,ws=[v]/\lo<=v/\v<=hi:=by
 rcases ws with _|⟨v,_|⟨u,ws⟩⟩
 ·exact h.elim
 ·exact⟨v,rfl,h.1,h.2.1⟩
 ·exact h.2.2.elim
theorem Tt{x:Str}:∀(l:List (Str×Int)) (q:List (Key×V)),x∉l.map (·.1)->AX (l.foldl (fun k r=>AM k (Sum.inr r.1) (V.int r.2)) q) (Sum.inr x)=AX q (Sum.inr x)
 |[],_,_=>rfl
 |r::l,q,h=>by
  rw[yc,yv,not_or] at h;rw[y1d,Tt l _ h.2,LC,if_neg fun z=>h.1 (by injection z)]
theorem Tv{x:Str}{v:Int}:∀(l:List (Str×Int)) (q:List (Key×V)),(l.map (·.1)).Nodup->(x,v)∈l->AX (l.foldl (fun k r=>AM k (Sum.inr r.1) (V.int r.2)) q) (Sum.inr x)=some (V.int v)
 |r::l,q,z,h=>by
  rw[yc,List.nodup_cons] at z;rcases List.mem_cons.mp h with e|h
  ·subst e;rw[y1d,Tt l _ z.1,LC,if_pos rfl]
  ·rw[y1d];exact Tv l _ z.2 h
theorem lK(B:Cnt)(h:B.Pairwise fun p q=>Bp p.1<Bp q.1):(B.map (·.1)).Nodup/\B.length<=4:=by
 refine⟨List.pairwise_map.mpr (h.imp fun z e=>by rw[e] at z; exact y0t _ z),?_⟩;have hr:∀x,Bp x<4:=fun x=>by
  unfold Bp;(repeat' split)<;>decide
 rcases B with _|⟨a,_|⟨b,_|⟨c,_|⟨d,_|⟨e,B⟩⟩⟩⟩⟩<;>try (simp only[yh,y0b]; decide)
 simp only[List.pairwise_cons,yv] at h;have h1:=h.1 b (.inl rfl);have h2:=h.2.1 c (.inl rfl);have G:=h.2.2.1 d (.inl rfl);have F:=h.2.2.2.1 e (.inl rfl);have:=hr e.1;lia
def TrI(U:Hp)(pD:Addr)(_:Nat)(ys:List V)(q:St)(H':Hp):Prop:=H'=U/\(∃t,q=[t,some (.ref pD)])/\ys=[]
def Kq(K:y3)(p1 p2:Addr):Sp:=fun vs H Q _=>∃(a:Addr) (ns:List Int),vs=[.ref a]/\SqL K H a (ns.map V.int)/\ns.length<=63/\H p1=some (.tbl #[])/\H p2=some (.tbl #[])/\∀H',Q (.bl true) H'
theorem lL(mY:p1≠p2) (F:Fun K "law" "law" AS f fd) (b_dict:mg "dict" = none) (b_max:mg "max" = none) (c_law_pick:Callee P w K mg base "_law_pick" ["_law_script","_law_k","_law_many"] 2 (Rr K)) (c_is_paper:Callee P w K mg base "is_paper" ["program","thing"] 21 (JF (SZ isQ bhd 2))) (c_shown:Callee P w K mg base "shown" ["program","paper"] 22 (Sb isQ bhd 2)) (c_paper_for:Callee P w K mg base "paper_for" ["program"] 22 (JF (TV isQ bhd 2)))
  (c_law_all_worths:Callee P w K mg base "_law_all_worths" ["_law_program_here"] 1 TW) (c_run:Callee P w K mg base "run" ["program","worths"] 22 (TD p1)) (c_traced:Callee P w K mg base "traced" ["program","worths"] 22 (TF p2)):FnOk P w K mg base CX0 23 f fd ["_law_script"] (Kq K p1 p2):=by
 refine F.ok sc_law (fun vs H Q E h=>?_) (fun oQ A outer s H vs Q E hr h=>?_)
 ·obtain⟨a,ns,rfl,_⟩:=h;rfl
 obtain⟨a,ns,rfl,hS,oO,mm,lx,q⟩:=h;refine⟨_,(A5 (AK (i:=1) sc_law.nd rfl gB (AT Fn (AC c_law_pick hr (by lia) (A3 (A2 0 rfl Jq) (A3 A4 (A3 A4 pa_nil))) Jo JN) A4) (AE rfl))
 (A5 (AK (i:=2) sc_law.nd rfl g9 (AT Cd (A2 1 rfl CU) (AC c_law_pick hr (by lia) (A3 (A2 0 rfl Jq) (A3 A4 (A3 A4 pa_nil))) Jo JN)) (AE rfl))
 (A5 (AK (i:=3) sc_law.nd rfl g8 (AT Fn (AT Cd (A2 1 rfl CU) (AC c_law_pick hr (by lia) (A3 (A2 0 rfl Jq) (A3 A4 (A3 A4 pa_nil))) Jo JN)) A4) (AE rfl))
 (A5 (AK (i:=4) sc_law.nd rfl gH (A8 L6 (Dh (A3 AR (A3 AR (A3 AR (A3 AR pa_nil))))) (AC c_law_pick hr (by lia) (A3 (A2 0 rfl Jq) (A3 A4 (A3 A4 pa_nil))) Jo JN) (fun _ _=>rfl)) (AE rfl))
 (A5 (AK (i:=5) sc_law.nd rfl g7 (Ae (AG (Ae (AG Aq (AG Aq (AG (Ae (AG (Cf (A2 4 rfl gM)) (AG (Ae (AG Aq (AG Aq Ac))) (AG (Ae (AG Aq (AG Aq Ac))) Ac)))) Ac)))) (AG (Ae (AG Aq (AG Aq (AG (Ae (AG Aq (AG (Ae (AG Aq (AG Aq Ac))) (AG (Ae (AG Aq (AG B1 Ac))) Ac)))) Ac)))) Ac))) (AE rfl))
 (A5 (AK (i:=6) sc_law.nd rfl g6 (Ae (AG Aq (AG (Ae (AG Aq (AG Aq Ac))) (AG (Ae (AG Aq (AG (Cf (A2 3 rfl EC)) Ac))) Ac)))) (AE rfl))
 (A5 (AK (i:=7) sc_law.nd rfl gE (Ae (AG (Ae (AG (Ae (AG Aq (AG (Cf (A2 1 rfl CU)) (AG (Cf (A2 2 rfl Ri)) Ac)))) Ac)) (AG (Ae (AG (Ae (AG Aq (AG Aq (AG (Ae (AG Aq (AG B1 Ac))) Ac)))) (AG (Ae (AG Aq (AG (Cf (A2 6 rfl gJ)) (AG B1 (AG (Cf (A2 5 rfl gK)) Ac))))) (AG (Ae (AG Aq (AG Aq (AG (Ae (AG Aq (AG Aq Ac))) Ac)))) Ac)))) Ac))) (AE rfl))
 (A5 (AK (i:=8) sc_law.nd rfl gG (AZ (De rfl) MX b_max DB (A3 (A2 3 rfl EC) (A3 (A2 2 rfl Ri) pa_nil)) DE DD) (AE rfl))
 (A5 (AK (i:=9) sc_law.nd rfl gD (Ae (AG (Ae (AG (Ae (AG B1 Ac)) (AG (Ae (AG (Ae (AG Aq (AG (Cf (A2 1 rfl CU)) (AG (Cf (A2 8 rfl Jr)) Ac)))) (AG (Ae (AG Aq (AG Ov (AG B1 Ac)))) Ac))) Ac))) Ac)) (AE rfl))
 (A5 (AJ (AH OZ (AC c_is_paper hr (by lia) (A3 (A2 7 rfl FF) (A3 (A2 9 rfl Rj) pa_nil)) Rh Q4) BA (AF _)) (A7 (AA BA)) AI)
 (A5 (AK (i:=10) sc_law.nd rfl gC (D3 (Wj rfl hr.units) Rg b_dict GR (A3 (C2 ["_law_row"] [none] rfl (CompS.of (by rfl)) (EZ (AC c_shown hr (by lia) (A3 (A2 7 rfl FF) (A3 (A2 9 rfl Rj) pa_nil)) fx YL)) (fun _ _ _ _ _=>(Ab (i:=0) (show List.Nodup (["_law_row"]:List Str) from by decide+kernel) rfl (Or.inl rfl))) (fun _ _ _ _ _=>C1) (fun _ _ _ _ _=>(AW (A3 (A8 (ixK (r:=B0) (K:=K) A9 rfl) (AQ (i:=0) rfl (by walk_at "vc") Lj Li) A4 (fun _ _=>rfl)) (A3 (OO (slK (r:=GN) (K:=K) Oo rfl) (AQ (i:=0) rfl (by walk_at "vc") Lj Li) (ON A4) OM) pa_nil))))) pa_nil) GZ GV) (AE rfl))
 (A5 (AJ (PW.pt (Cu (AH (dNe hr.units) (Ar hr.units1 (A2 10 rfl Jp) (Ae (AG B1 (AG B1 Ac))) (fun _ _=>rfl)) (AW (A3 (AZ (De rfl) MX b_max DB (A3 (A2 3 rfl EC) (A3 (A2 1 rfl CU) pa_nil)) DE DD) (A3 (A2 8 rfl Jr) pa_nil))) (AF _)) (Ct (AH (dNe hr.units) (Ar hr.units1 (A2 10 rfl Jp) (Ae (AG B1 (AG B1 (AG B1 Ac)))) (fun _ _=>rfl)) (Ae (AG (Cf (A2 1 rfl CU)) (AG (Cf (A2 8 rfl Jr)) Ac))) (AF _))))) (A7 (AA BA)) AI)
 (A5 (AJ (AH (gNe hr.units) (UI (Oj hr.units1 (Ae (AG B1 (AG B1 (AG B1 (AG B1 Ac))))) (A2 10 rfl Jp))) (Dc Ha (A2 1 rfl CU) (A2 3 rfl EC) (AF _)) (AF _)) (A7 (AA BA)) AI)
 (A5 (AJ (PW.pt (HV (AH Ha (A2 1 rfl CU) (A2 3 rfl EC) (AF _)) (HU (AH (dNe hr.units) (Ar hr.units1 (A2 10 rfl Jp) (Ae (AG B1 (AG B1 (AG B1 (AG B1 (AG B1 Ac)))))) (fun _ _=>rfl)) (AW (A3 (A2 1 rfl CU) (A3 (AT Fn (A2 3 rfl EC) A4) pa_nil))) (AF _))))) (A7 (AA BA)) AI)
 (A5 (AK (i:=11) sc_law.nd rfl gA (AW (A3 (AW (A3 (Ae (AG B1 Ac)) (A3 (AW (A3 (AW (A3 AR (A3 (A2 1 rfl CU) (A3 (AT Fn (A2 8 rfl Jr) A4) pa_nil)))) (A3 (Ae (AG Aq (AG Ov (AG B1 Ac)))) pa_nil))) pa_nil))) pa_nil)) (AE rfl))
 (A5 (AJ (PW.pt (HV (AH Ky (A2 3 rfl EC) (A2 1 rfl CU) (AF _)) (HU (AH OZ (AC c_is_paper hr (by lia) (A3 (A2 7 rfl FF) (A3 (A2 11 rfl gL) pa_nil)) Rh Q4) BA (AF _))))) (A7 (AA BA)) AI)
 (A5 (AJ (AH (LI hr.units) (C2 ["_law_row"] [none] rfl (CompS.of (by rfl)) (Db (AC c_paper_for hr (by lia) (A3 (A2 7 rfl FF) pa_nil) fu YF)) (fun _ _ _ _ _=>(Ab (i:=0) (show List.Nodup (["_law_row"]:List Str) from by decide+kernel) rfl (Or.inl rfl))) (fun _ _ _ _ _=>C1) (fun _ _ _ _ _=>(A8 (ixK (r:=B0) (K:=K) A9 rfl) (AQ (i:=0) rfl (by walk_at "vc") Lj Li) A4 (fun _ _=>rfl)))) (Dh (AG (Ae (AG B1 Ac)) Ac)) (AF _)) (A7 (AA BA)) AI)
 (A5 (C0 y0g rfl (EZ (AC c_law_all_worths hr (by lia) (A3 (A2 7 rfl FF) pa_nil) ft XX)) (Ab (i:=12) sc_law.nd rfl gI)
 (A5 (AK (i:=13) sc_law.nd rfl gF (AC c_run hr (by lia) (A3 (A2 7 rfl FF) (A3 (A2 12 rfl MY) pa_nil)) fw YJ) (AE rfl))
 (A5 (AJ (PW.pt (Cu (AH (gNe hr.units) (A8 A9 (A2 13 rfl Rk) A4 (fun _ _=>rfl)) AR (AF _)) (Ct (AH Vh (Ar hr.units1 (D3 (XF rfl) Rg b_dict GR (A3 (A8 A9 (A2 13 rfl Rk) A4 (fun _ _=>rfl)) pa_nil) GZ GV) AR (fun _ _=>rfl)) (AZ (De rfl) MX b_max DB (A3 (A2 3 rfl EC) (A3 (A8 A9 (A2 12 rfl MY) A4 (fun _ _=>rfl)) pa_nil)) DE DD) (AF _))))) (A7 (AA BA)) AI)
 (A7 (AJ (AH (LI hr.units) (C2 ["_law_one","_law_notes"] [none,some 10] rfl (CompS.of (by rfl)) (EZ (AC c_traced hr (by lia) (A3 (A2 7 rfl FF) (A3 (A2 12 rfl MY) pa_nil)) fy YO)) (fun _ _ _ _ _=>(Ab (i:=0) (show List.Nodup (["_law_one","_law_notes"]:List Str) from by decide+kernel) rfl (Or.inl rfl))) (fun _ _ _ _ _=>(VT (Cc (Ub Ie Ie (A8 (ixK (r:=B0) (K:=K) A9 rfl) (Ar hr.units1 (AQ (i:=1) rfl (by walk_at "vc") Pw Pm) (A8 (ixK (r:=B0) (K:=K) A9 rfl) (AQ (i:=0) rfl (by walk_at "vc") JM JH) A4 (fun _ _=>rfl)) (fun _ _=>rfl)) A4 (fun _ _=>rfl)) (A8 (ixK (r:=B0) (K:=K) A9 rfl) (AQ (i:=0) rfl (by walk_at "vc") JM JH) A4 (fun _ _=>rfl)) (A8 (ixK (r:=B0) (K:=K) A9 rfl) (Ar hr.units1 (AQ (i:=1) rfl (by walk_at "vc") Pw Pm) (A8 (ixK (r:=B0) (K:=K) A9 rfl) (AQ (i:=0) rfl (by walk_at "vc") JM JH) A4 (fun _ _=>rfl)) (fun _ _=>rfl)) A4 (fun _ _=>rfl)))))) (fun _ _ _ _ _=>(AQ (i:=0) rfl (by walk_at "vc") JM JH))) (Dh pa_nil) (AF _)) (A7 (AA BA)) AI)))))
 (A7 (AA BA)))))))))))))))))))),AN fun N1 e1=>?_⟩
 walk_at "rq";refine⟨a,ns,0,9,rfl,hS,by decide,by decide,fun i0 H1 nE nD s1=>⟨i0,rfl,?_⟩⟩;rw[e1];refine AN fun N2 e2=>?_;walk_at "rq";refine⟨a,ns,1,4,rfl,s1.seq hS,by decide,by decide,fun i1 H2 nB nA s2=>⟨i1,rfl,?_⟩⟩;have lX:=s1.trans s2;rw[e2];refine AN fun N3 e3=>?_;walk_at "rq";refine⟨a,ns,2,9,rfl,lX.seq hS,by decide,by decide,fun i2 H3 ny nv O=>⟨i2,rfl,?_⟩⟩;have mB:=lX.trans O;rw[e3];refine AN fun N4 e4=>?_;have l0:(-4<=i0-4/\i0-4<=4)/\(i0-4<=i0-4+i1/\i0-4+i1<=i0-4+3)/\(i0-4-2<=i0-4+i2-2/\i0-4+i2-2<=i0-4+6):=by lia
 generalize i0-4+i2-2=g at l0 |-;generalize i0-4+i1=hi at l0 |-;generalize i0-4=lo at l0 |-;clear nE nD nB nA ny nv;walk_at "rq";refine⟨zl 4 (by decide),fun l4 ly=>?_⟩;have s4:=AD ly (HO.lst [V.str "add",V.str "sub",V.str "min",V.str "max"]);have f4:upd H3 l4 (HO.lst [V.str "add",V.str "sub",V.str "min",V.str "max"]) l4=_:=A6;generalize upd H3 l4 (HO.lst [V.str "add",V.str "sub",V.str "min",V.str "max"])=U4 at s4 f4 |-;have lW:=mB.trans s4;refine⟨a,ns,3,4,rfl,lW.seq hS,by decide,by decide,fun i3 H5 nu nr s5=>?_⟩;have lV:=lW.trans s5;obtain⟨M,mf,mX⟩:∃M,four M/\atI [V.str "add",V.str "sub",V.str "min",V.str "max"] i3=some (V.str M.str):=by
  have:i3=0\/i3=1\/i3=2\/i3=3:=by lia
  rcases this with rfl|rfl|rfl|rfl
  ·exact⟨.add,.inl rfl,rfl⟩
  ·exact⟨.sub,.inr (.inl rfl),rfl⟩
  ·exact⟨.min,.inr (.inr (.inl rfl)),rfl⟩
  ·exact⟨.max,.inr (.inr (.inr rfl)),rfl⟩
 refine⟨_,i3,rfl,SqL.of (s5 _ _ f4),_,mX,?_⟩;have lw:Lw M lo hi g:=⟨mf,l0.1,l0.2.1,l0.2.2⟩;have lh:plW M:=by
  rcases mf with rfl|rfl|rfl|rfl
  ·exact .inl rfl
  ·exact .inr (.inl rfl)
  ·exact .inr (.inr (.inr (.inl rfl)))
  ·exact .inr (.inr (.inr (.inr rfl)))
 have lc:=lV _ _ mm;have Y:=lV _ _ lx;clear s1 s2 O s4 s5 lX mB lW f4 mX nu nr mf;rw[e4];refine AN fun N5 e5=>HR (IX lo hi g 0 M) (vo:=[4]) (Ts rfl (.str _)) rfl fun v5 H6 s6 d5=>?_;have d5:Dt H6 v5 (.tup (Av (B5 M))):=d5;show N5 _ _;rw[e5];refine AN fun N6 e6=>HR (IX lo hi g 0 M) (vo:=[3]) (Ts rfl (.int _)) rfl fun v6 H7 s7 d6=>?_;have d6:Dt H7 v6 (T.enc (q2 g)):=d6;show N6 _ _;rw[e6];refine AN fun N7 e7=>HR (IX lo hi g 0 M) (vo:=[1,2,5,6]) (lE rfl rfl rfl rfl (.int _) (.int _) (d5.kp s7.kp) d6) rfl fun vp H8 s8 dp=>?_;have dp:Dt H8 vp (CG [("a",(lo,hi))] (Ak M g)):=dp;show N7 _ _;rw[e7];refine AN fun N8 e8=>?_;walk_at "rq";refine⟨_,_,⟨rfl,rfl⟩,?_⟩;have G:hi<=mx g hi/\g<=mx g hi/\(mx g hi=hi\/mx g hi=g)/\mx g hi<=100:=by unfold mx; split<;>lia
 show N8 [some (.ref a),some (.int lo),some (.int hi),some (.int g),some (.str M.str),some v5,some v6,some vp,some (.int (mx g hi)),none,none,none,none,none] H8;generalize mx g hi=top at G |-;rw[e8];refine AN fun N9 e9=>HR (IX lo hi g top M) (vo:=[1,8]) (Tm rfl rfl (.int _) (.int _)) rfl fun v9 H9 s9 d9=>?_;have d9:Dt H9 v9 (C8 lo top):=d9;show N9 _ _;have lU:=s6.trans (s7.trans (s8.trans s9));have lc:=lU _ _ lc;have Y:=lU _ _ Y;have dp:=dp.kp s9.kp;clear s6 s7 s8 s9 lU d5 d6 lV;rw[e9];refine AN fun oV oA=>?_;walk_at "rq";obtain⟨R,hR,eN,lP⟩:=ky lw G.1 G.2.1 G.2.2.2;have nM:lo<=top:=by lia
 have mC:=Ti lw nM G.2.2.2;refine .inl ⟨vp,v9,[("a",(lo,hi))],Ak M g,C8 lo top,rfl,dp,Kn _ lh _,d9,mC,fun oX lp=>⟨_,rfl,?_⟩⟩;rw[lP,if_neg (by decide),oA];have lc:=lp.a _ _ Ko lc;have Y:=lp.a _ _ Ko Y;have dp:=dp.kp lp.kp;have d9:=d9.kp lp.kp;clear lp;refine AN fun oU ou=>?_;walk_at "rq";obtain⟨ma,lZ,lY⟩:=lF lo g top R;refine⟨vp,v9,[("a",(lo,hi))],Ak M g,C8 lo top,rfl,dp,Kn _ lh _,d9,mC,lP,by rw[eN]; exact lY,by rw[eN]; lia,fun l vs ps oJ lu Z nK hl dvs=>?_⟩;rw[eN] at Z dvs;have lc:=lu.a _ _ Ko lc;have Y:=lu.a _ _ Ko Y;have dp:=dp.kp lu.kp;clear lu d9 eN nK;generalize hns:nsW lo g top R=nts at ma lZ lY Z dvs;have lj:vs.length=ps.length:=by rw[dvs.length,y4]
 have lg:ps.length<=11:=by rw[Z.length_eq,y4]; exact lZ
 refine⟨l,rfl,⟨_,SqL.of hl⟩,?_⟩;refine Hh (K:=K) (a:=l) (xs:=vs) (ScL oJ nts ps) ⟨Same.refl _,⟨_,rfl⟩,.nil,y05 _⟩ (An (by rw[lj]; exact y0d lg (by decide))) ?_ ?_ ?_ ?_
 ·rintro i ys J H' ⟨_,_,d,hi⟩;rw[d.length,y4,y4,y04];lia
 ·rintro i ys J H' _ ⟨O,_⟩;exact SqL.of (O _ _ hl)
 ·rintro i ys x J H' hx ⟨O,⟨t,rfl⟩,d,hi⟩;obtain⟨p,hp,dp⟩:=CY dvs hx;obtain⟨sv,mJ⟩:=KS (Z.mem_iff.mp (yi hp));unfold KW at dp;rw[mJ] at dp;obtain⟨pp,y0,y1,y2,rfl,lm,u0,u1,u2⟩:=EG (dp.kp O.kp);walk_at "rq";refine⟨_,SqT.of lm,y0,rfl,_,SqT.of lm,.inr ⟨show ¬(HT.sIx 3 0 (some 1)=0/\HT.sIx 3 3 none=3) by decide,fun p1 mm=>⟨zl 2 (by decide),fun p2 lx=>?_⟩⟩⟩;have t1:=AD mm (HO.tup (CL [y0,y1,y2] (some 1) none));have m8:Dt (upd H' p1 (HO.tup (CL [y0,y1,y2] (some 1) none))) (.ref p1) (AO (some sv)):=.tup A6 (.cons (u1.kp t1.kp) (.cons (u2.kp t1.kp) .nil));generalize upd H' p1 (HO.tup (CL [y0,y1,y2] (some 1) none))=U1 at t1 m8 lx |-;have t2:=AD lx (HO.tup [y0,V.ref p1]);refine⟨O.trans (t1.trans t2),⟨_,rfl⟩,?_,(List.getElem?_eq_some_iff.mp hp).1⟩;rw[HK hp,y02,y02];refine DtA.append (DtA.kp (t1.trans t2).kp d) (.cons ?_ .nil);show Dt _ _ (.tup [pathD p,AO (Aa nts p)]);rw[mJ];exact .tup A6 (.cons (u0.kp (t1.trans t2).kp) (.cons (m8.kp t2.kp) .nil))
 rintro ys J H' ⟨O,_,d,_⟩ pl lQ;rw[lj,y0h] at d;have t1:=AD lQ (HO.lst ys);have el:upd H' pl (HO.lst ys) pl=_:=A6;have d:=DtA.kp t1.kp d;generalize upd H' pl (HO.lst ys)=U1 at t1 el d |-;refine⟨pl,ys,ps.map (FQ nts),rfl,el,d,by rw[y0m]; exact(by simpa [Function.comp_def,FQ] using Z.nodup_iff.mpr ma),by rw[y4]; lia,fun pD kvs mQ pr=>?_⟩;have t2:=AD mQ (HO.dT kvs);have rd:Rd (upd U1 pD (HO.dT kvs)) pD (.dT kvs):=.inl A6;have np:NtP (upd U1 pD (HO.dT kvs)) kvs nts:=⟨ps,Paired.mapP pr fun _ _ z=>⟨z.1,z.2.kp t2.kp⟩,Z⟩;have O:=O.trans (t1.trans t2);have B:LF (upd U1 pD (HO.dT kvs)) p1 p2 pD kvs nts vp _:=⟨.inl (O _ _ lc),.inl (O _ _ Y),dp.kp O.kp,rd,np⟩;generalize upd U1 pD (HO.dT kvs)=U at B |-;clear t1 t2 el d lQ mQ pr lg lj dvs hl Z O ma lZ lY rd np lc Y dp;rw[ou];refine AN fun oI ot=>To fun Y1 Z1 oP nY=>?_;walk_at "rq";have mF:Aa nts [2,0]=some (mx g lo,top):=by
  rw[<- hns];by_cases hg:lo<g
  ·rw[(FO hg).2.2.2.2.2.2.2.2.2.2,show mx g lo=g by unfold mx; rw[if_neg (by lia)]]
  ·rw[(IV hg).2.2.2.2.1,show mx g lo=lo by unfold mx; split<;>lia]
 have mG:Aa nts [1,0,0]=some (lo,top):=by
  rw[<- hns];by_cases hg:lo<g
  ·exact(FO hg).2.1
  ·exact(IV hg).2.1
 refine dx0 rfl fun y H2 s2 dy=>?_;obtain⟨v,gv,dv⟩:=(B.same s2).np.get (B.same s2).rd (p:=[2,0]) dy mF;refine⟨v,gv,g,lo,⟨rfl,rfl⟩,zl 2 (by decide),fun p hp=>?_⟩;obtain⟨t1,dt⟩:=Tq hp (mx g lo) top;refine⟨_,Nj (dv.kp t1.kp) dt,?_⟩;have t1:Same H2 (upd H2 p (HO.tup [V.int (if lo>g then lo else g),V.int top])):=t1;generalize upd H2 p (HO.tup [V.int (if lo>g then lo else g),V.int top])=U2 at t1 |-;rw[decide_eq_true rfl,if_neg (by decide),nY];have B:=B.same (s2.trans t1);clear s2 t1 dt dv gv dy hp mF;show B2 _ _ _ _ _ _;refine Cq fun Y2 Z2 _ nX=>?_;walk_at "rq";refine dx0 rfl fun y H2 s2 dy=>?_;obtain⟨v,gv,dv⟩:=(B.same s2).np.get (B.same s2).rd (p:=[1,0,0]) dy mG;refine⟨v,gv,HR (IX lo hi g top M) (vo:=[1,8]) (Tm rfl rfl (.int _) (.int _)) rfl fun y2 H3 O mZ=>⟨_,Nj (dv.kp O.kp) mZ,?_⟩⟩;rw[decide_eq_true rfl,if_neg (by decide),nX];have B:=B.same (s2.trans O);clear s2 O dv gv dy mZ mG;show oI _ _;rw[ot];refine AN fun oH oq=>Cq fun Y3 Z3 _ nW=>?_;walk_at "rq";refine dx0 rfl fun y H4 s4 dy=>?_;have key:∃o,DGet H4 pD y o/\o.isSome=decide (lo<g):=by
  rcases(B.same s4).np.ask (B.same s4).rd (p:=[1,1,0,0]) dy with⟨z,gv⟩|⟨s,v,z,gv,_⟩
  ·refine⟨none,gv,(decide_eq_false fun hg=>?_).symm⟩;rw[<- hns,(FO hg).2.2.2.2.2.2.1] at z;cases z
  ·refine⟨some v,gv,(decide_eq_true (Decidable.byContradiction fun hg=>?_)).symm⟩;rw[<- hns,(IV hg).2.2.2.2.2] at z;cases z
 obtain⟨o,gv,eo⟩:=key;refine⟨o,gv,?_⟩;refine⟨_,⟨rfl,rfl⟩,?_⟩;rw[decide_eq_true eo,if_neg (by decide),nW];have B:=B.same s4;clear s4 dy gv eo;show oH _ _;rw[oq];refine AN fun oG om=>?_;have nj:∀U,LF U p1 p2 pD kvs nts vp (CG [("a",(lo,hi))] (Ak M g))->oG [some (.ref a),some (.int lo),some (.int hi),some (.int g),some (.str M.str),some v5,some v6,some vp,some (.int top),some v9,some (.ref pD),none,none,none] U:=fun U B=>by
  rw[om];refine AN fun oF oj=>?_;walk_at "rq";refine dx0 rfl fun y1 H1 s1 d1=>⟨zl 3 (by decide),fun pa mP=>dx0 rfl fun y2 H2 s2 d2=>⟨zl 2 (by decide),fun pb mO=>⟨zl 2 (by decide),fun pc mN=>⟨zl 1 (by decide),fun pd mM=>?_⟩⟩⟩⟩;have ta:=AD mP (HO.tup [V.str "a",V.int lo,V.int (top-1)]);have da:Dt _ (V.ref pa) (.tup [.str "a",.int lo,.int (top-1)]):=.tup (A6 (H:=H1)) (.cons (.str _) (.cons (.int _) (.cons (.int _) .nil)));have tb:=AD mO (HO.tup [V.ref pa,y2]);have tc:=AD mN (HO.tup [y1,V.ref pb]);have td:=AD mM (HO.tup [V.ref pc]);have dd:Dt _ (V.ref pd) (C8 lo (top-1)):=.tup (A6 (o:=.tup [V.ref pc])) (.cons (.tup (td _ _ A6) (.cons (d1.kp (ta.trans (s2.trans (tb.trans (tc.trans td)))).kp) (.cons (.tup ((tc.trans td) _ _ A6) (.cons (da.kp (s2.trans (tb.trans (tc.trans td))).kp) (.cons (d2.kp (tb.trans (tc.trans td)).kp) .nil))) .nil))) .nil);have B:=B.same (s1.trans (ta.trans (s2.trans (tb.trans (tc.trans td)))));generalize upd (upd (upd H2 pb (HO.tup [V.ref pa,y2])) pc (HO.tup [y1,V.ref pb])) pd (HO.tup [V.ref pc])=U at B dd |-;clear ta da tb tc td s1 s2 d1 d2 mP mO mN mM;show oF _ _;rw[oj];refine AN fun oE og=>?_;have ng:∀U,LF U p1 p2 pD kvs nts vp (CG [("a",(lo,hi))] (Ak M g))->oE [some (.ref a),some (.int lo),some (.int hi),some (.int g),some (.str M.str),some v5,some v6,some vp,some (.int top),some v9,some (.ref pD),some (.ref pd),none,none] U:=fun U B=>by
   rw[og];refine AN fun oS n9=>?_;walk_at "rq";refine .inr ⟨pD,kvs,B.rd,fun o=>⟨vp,[("a",(lo,hi))],Ak M g,GH,muH,rfl,(B.fz o).dp,Kn _ lh _,kh lw.iA,.inl rfl,fun r xs ps oN H7 k7 gh zh pm er pr hf=>?_⟩⟩;have B:=(B.fz o).keeps k7 (.inr ⟨o,hf⟩);rcases gh with rfl|⟨A1,R1,rfl,_⟩
   ·exact absurd rfl zh
   have nO:ps=[[1]]:=List.perm_singleton.mp pm;subst nO;rcases pr with _|⟨⟨ra,pa,sv,rfl,h1,h2⟩,_|_⟩;clear pm zh k7 hf;refine⟨r,rfl,⟨_,SqT.of er⟩,?_⟩;refine Ik (K:=K) (a:=r) (xs:=[V.ref ra]) (P1I H7 pa) ⟨rfl,⟨_,rfl⟩,rfl⟩ (An (show 1<=1000 by decide)) ?_ ?_ ?_ ?_
   ·rintro i ys J H' ⟨_,_,rfl⟩;rw[y04];lia
   ·rintro i ys J H' _ ⟨rfl,_⟩;exact SqT.of er
   ·rintro i ys x J H' hx ⟨rfl,⟨t,rfl⟩,rfl⟩;cases i with
    |succ i=>cases hx
    |zero=>
     cases hx;walk_at "rq";exact⟨_,SqT.of h1,_,rfl,rfl,⟨_,rfl⟩,rfl⟩
   rintro ys J H' ⟨rfl,_,rfl⟩ pl lg;have t1:=AD lg (HO.lst [V.ref pa]);have el:upd H' pl (HO.lst [V.ref pa]) pl=_:=A6;have B:=B.same t1;have my:Dt (upd H' pl (HO.lst [V.ref pa])) (.ref pa) (pathD [1]):=.tup (t1 _ _ h2) (.cons (.int _) .nil);show F1 _ _ (upd H' pl (HO.lst [V.ref pa])) _;generalize upd H' pl (HO.lst [V.ref pa])=U1 at B el my |-;refine lG rfl fun vs H8 s8 d8=>?_;have lj:vs.length=1:=d8.length;refine⟨by rw[lj]; exact zl 1 (by decide),fun p8 lv=>?_⟩;have t8:=AD lv (HO.lst vs);refine⟨_,⟨pl,p8,_,vs,[pathD [1]],[pathD [1]],rfl,rfl,SqL.of (t8 _ _ (s8 _ _ el)),SqL.of A6,.cons (my.kp (s8.trans t8).kp) .nil,d8.kp t8.kp,rfl,rfl,rfl,rfl,rfl⟩,?_⟩;rw[if_neg (by decide)];have B:=B.same (s8.trans t8);generalize upd H8 p8 (HO.lst vs)=U2 at B |-;clear t1 el my s8 t8 d8 lj lv lg h1 h2 er;rw[n9];refine AN fun oC n8=>?_;walk_at "rq";refine⟨vp,[("a",(lo,hi))],.tup (Av (Ak M g)),rfl,B.dp,lw.oR,fun l H9 xs nk s9 oM hl lq mV=>⟨l,rfl,⟨_,SqL.of hl⟩,?_⟩⟩;refine Nu (xs:=xs) (WlI l xs p1 p2 pD kvs nts vp (CG [("a",(lo,hi))] (Ak M g)) [some (.ref a),some (.int lo),some (.int hi),some (.int g),some (.str M.str),some v5,some v6,some vp,some (.int top),some v9,some (.ref pD),some (.ref pd)] nk) ⟨B.same s9,⟨_,_,rfl⟩,hl,lq⟩ ?_ ?_ ?_
   ·rintro i J H' _ ⟨_,_,h,_⟩;exact SqL.of h
   ·rintro i x J H' hx ⟨B,⟨t,u,rfl⟩,hl,lq⟩;obtain⟨ws,nG,mr⟩:=CY lq hx;obtain⟨v,rfl,mi,mh⟩:=lJ (mV _ (yi nG));obtain⟨c',rs,eP,mW,mK,mU⟩:=lC lw G.1 G.2.1 G.2.2.2 hR mi mh;rw[hns] at mU;refine NQ ?_;show C9 _ _ _ [some (.ref a),some (.int lo),some (.int hi),some (.int g),some (.str M.str),some v5,some v6,some vp,some (.int top),some v9,some (.ref pD),some (.ref pd),some x,u] H';refine AN fun M1 f1=>?_;walk_at "rq";refine⟨vp,x,[("a",(lo,hi))],Ak M g,[v],_,rfl,B.dp,mr,lw.oR,⟨mi,mh,trivial⟩,lw.oW,kbW _ _ _,B.t1,fun r H1 sB tb ho=>?_⟩;rw[eP] at ho;obtain⟨ms,mp,mw,dr⟩:=ho;obtain⟨_,hT⟩:=B.t1.tb;have me:=sB.kpT hT;have mH:=B.run1 mY sB tb;have mT:=sB _ _ (BL hl hT (by intro z; cases z)) hl;have lS:=DtA.kp me lq;have lr:=mr.kp me;show M1 _ _;rw[f1];refine AN fun M2 f2=>To fun Y8 Z8 _ nR=>?_;walk_at "rq";obtain⟨pr,x0,x1,rfl,ml,u0,u1⟩:=DO dr;cases u0;obtain⟨pm,nq,rfl,Z,m9⟩:=u1.tupI;refine⟨pr,rfl,_,SqT.of ml,_,rfl,_,⟨rfl,rfl⟩,?_⟩;rw[decide_eq_true rfl,if_neg (by decide),nR];show B2 _ _ _ _ _ _;refine Cq fun Y9 Z9 _ nQ=>?_;walk_at "rq";obtain⟨mE,mD⟩:=lK ms mw;refine⟨_,SqT.of ml,_,rfl,pm,nq,ms,rfl,Z,m9,y0d mD (by decide),fun p3 mR=>?_⟩;have O:=AD mR (HO.dK (ms.foldl (fun k r=>AM k (Sum.inr r.1) (V.int r.2)) []));have e3:upd H1 p3 (HO.dK (ms.foldl (fun k r=>AM k (Sum.inr r.1) (V.int r.2)) [])) p3=_:=A6;generalize upd H1 p3 (HO.dK (ms.foldl (fun k r=>AM k (Sum.inr r.1) (V.int r.2)) []))=U3 at O e3 |-;have gv:=DGet.kr (k:=.inr "b") (.inl e3);rw[Tv ms [] mE (mp.mem_iff.mpr mW)] at gv;obtain⟨px,oK,rfl,mj,oB⟩:=(lr.kp O.kp).tupI;rw[D7 oB] at mj;have ln:=mH.same O;have mo:=O _ _ mT;have lR:=DtA.kp O.kp lS;have lT:=lr.kp O.kp;refine⟨p3,rfl,_,gv,px,rfl,_,SqT.of mj,_,rfl,_,_,⟨rfl,rfl⟩,_,rfl,?_⟩;rw[decide_eq_true (show mx v g=(if v>g then v else g) from lI),if_neg (by decide),nQ];clear gv mj mH mT lS lr O mR m9 Z ml mE mD mw mp dr mW sB tb hT me B hl lq mr;show M2 _ _;rw[f2];walk_at "rq";refine⟨vp,.ref px,[("a",(lo,hi))],Ak M g,[v],_,rfl,ln.dp,lT,lw.oR,⟨mi,mh,trivial⟩,lw.oW,kbW _ _ _,by rw[eP]; exact An (y0d (Nat.succ_le_succ mK) (by decide)),ln.t2,fun l4 ys H4 ls mS mz ly mq=>?_⟩;rw[eP] at mq;obtain⟨_,Y⟩:=ln.t2.tb;have mI:=ls.kpT Y;have md:=ln.run2 mY ls mz;have nN:=ls _ _ (BL mo Y (by intro z; cases z)) mo;have m7:=DtA.kp mI lR;clear ls mz Y mI ln mo lR lT mS;have nF:ys.length=rs.length:=by rw[mq.length,y4]
    refine⟨l4,rfl,⟨_,SqL.of ly⟩,?_⟩;refine Hh (K:=K) (a:=l4) (xs:=ys) (TrI H4 pD) ⟨rfl,⟨_,rfl⟩,rfl⟩ (An (by rw[nF]; exact y0d mK (by decide))) ?_ ?_ ?_ ?_
    ·rintro i zs J H' ⟨_,_,rfl⟩;exact y05 _
    ·rintro i zs J H' _ ⟨rfl,_⟩;exact SqL.of ly
    ·rintro i zs x J H' hx ⟨rfl,⟨t,rfl⟩,rfl⟩;obtain⟨r,hr,dr⟩:=CY mq hx;obtain⟨pp,y0,y1,rfl,lm,u0,u1⟩:=DO dr;cases u1;obtain⟨s,nJ,nI,nH⟩:=mU r (yi hr);obtain⟨vv,gv,dv⟩:=md.np.get md.rd u0 (a:=s.1) (b:=s.2) nJ;obtain⟨pv,rfl,mL⟩:=NR dv;walk_at "rq";refine⟨_,SqT.of lm,_,rfl,_,gv,pv,rfl,_,SqT.of mL,_,rfl,?_⟩;refine⟨_,SqT.of lm,_,rfl,_,rfl,_,rfl,?_⟩;rw[if_pos nI];refine⟨_,SqT.of lm,_,rfl,_,gv,pv,rfl,_,SqT.of mL,_,rfl,_,rfl,_,rfl,?_⟩;rw[decide_eq_true nH,if_neg (by decide)];exact⟨rfl,⟨_,rfl⟩,rfl⟩
    rintro zs J H' ⟨rfl,_,rfl⟩ pl lg;have t1:=AD lg (HO.lst []);refine⟨y05 _,fun p8 lv=>?_⟩;have t8:=AD lv (HO.lst []);refine⟨_,⟨pl,p8,_,[],[],[],rfl,rfl,SqL.of (t8 _ _ A6),SqL.of A6,.nil,.nil,rfl,rfl,rfl,rfl,rfl⟩,?_⟩;rw[if_neg (by decide)];exact⟨md.same (t1.trans t8),⟨_,_,rfl⟩,(t1.trans t8) _ _ nN,DtA.kp (t1.trans t8).kp m7⟩
   ·rintro J H' ⟨_,⟨t,u,rfl⟩,_⟩;show oC _ _;rw[n8];walk_at "rq";exact q _
  refine Tp fun Y6 Z6 nZ nT=>?_;walk_at "rq";by_cases hg:g>lo
  ·rw[if_pos hg,nZ];show B2 _ _ _ _ _ _;refine Cq fun Y7 Z7 _ nS=>?_;walk_at "rq";refine .inr ⟨pD,kvs,B.rd,fun o=>⟨vp,.ref pd,[("a",(lo,hi))],Ak M g,C8 lo (top-1),rfl,(B.fz o).dp,Kn _ lh _,dd.kp ((HeldR.frz o B.rd).kp B.rd),Ti lw (by lia) (by lia),fun H6 k6 hf=>⟨_,rfl,?_⟩⟩⟩;rw[kz lw hg G.1 G.2.1 G.2.2.1,if_neg (by decide),nS];exact ng _ ((B.fz o).keeps k6 (.inr ⟨o,hf⟩))
  ·rw[if_neg hg,nT];exact ng _ B
 refine Tp fun Y4 Z4 n0 nV=>?_;walk_at "rq";by_cases hg:lo<g
 ·rw[if_pos hg,n0];show B2 _ _ _ _ _ _;refine Cq fun Y5 Z5 _ nU=>?_;walk_at "rq";refine dx0 rfl fun y H5 s5 dy=>?_;obtain⟨v,gv,dv⟩:=(B.same s5).np.get (B.same s5).rd (p:=[1,1,1,0,0]) dy (by rw[<- hns]; exact(FO hg).2.2.2.2.2.2.2.1);refine⟨v,gv,zl 2 (by decide),fun p hp=>?_⟩;obtain⟨t1,dt⟩:=Tq hp lo (g-1);refine⟨_,Nj (dv.kp t1.kp) dt,?_⟩;rw[decide_eq_true rfl,if_neg (by decide),nU];exact nj _ (B.same (s5.trans t1))
 ·rw[if_neg hg,nV];exact nj _ B
theorem HS{k:Nat}{ps:List Str}:FnOk P w K mg base CX0 k f fd ps (fun _ _ _ _=>False):=⟨fun _ _ _ _ h=>h.elim,fun _ _ _ _ _ _ _ _ _ _ _ _ _ h=>h.elim⟩
theorem Df.held{x:Str}{st:Stmt}{ps:List Str}{k:Nat}{sp:Sp}(d:Df K mg x st ps f fd)(h:FnOk P w K mg base CX0 k f fd ps sp):GL P w K mg base k f sp:=⟨fd,ps,h,d.F.kp,d.b⟩
theorem lM(bk:Bk)(t:T)(J:Bool)(q:Bk)(h:bhd t bk J=some q):q.length<=bk.length+2:=by
 have M:∀(s:S) (bk:Bk) (x:Str) (q:Bk),s.map (Ao bk x)=some q->q.length<=bk.length+1:=fun s bk x q h=>by
  cases s with
  |none=>cases h
  |some r=>
   have h:some (Ao bk x r)=some q:=h;injection h with h;rw[<- h]; exact HB _ _ _
 cases t with
 |num i=>
  have h:some bk=some q:=h;injection h with h;rw[h]; lia
 |nm x=>
  have:=M _ _ _ _ h;lia
 |op w a b=>
  have h:bq w a b bk J=some q:=h;unfold bq at h;cases h1:II bk a with
  |none=>rw[h1] at h; cases h
  |some F=>
   cases h2:II bk b with
   |none=>rw[h1,h2] at h; cases h
   |some B=>
    rw[h1,h2] at h;dsimp only at h;cases G:bq1 w a F B bk J with
    |none=>rw[G] at h; cases h
    |some z=>
     rw[G] at h;dsimp only at h;have Y:z.length<=bk.length+1:=by
      cases a with
      |nm x=>exact M _ _ _ _ G
      |num i=>cases G; lia
      |op _ _ _=>cases G; lia
     cases b with
     |nm y=>
      have h:(match look z y with|some own=>(Ry w own F J).map (Ao z y)|none=>none)=some q:=h;cases O:look z y with
      |none=>rw[O] at h; cases h
      |some own=>
       rw[O] at h;have:=M _ _ _ _ h;lia
     |num i=>cases h; lia
     |op _ _ _=>cases h; lia
theorem Kr:HH bhd:=fun t bk q z h=>lM bk t q z h
end
theorem Tw(h:K.lookup a=some ⟨.type "tuple",o,.seq its n,l⟩) (r:Vals xs its.toList) (q:its.size<=yn:=by decide):∀H,SqT K H a xs:=fun H=>.inr ⟨_,_,_,h,rfl,rfl,q,r⟩
theorem us1{q:List ya->Prop}(h:∀z,q [z])(us:List ya)(l:us.length=1):q us:=by
 rcases us with _|⟨_,_|⟨_,_⟩⟩
 ·cases l
 ·exact h _
 ·cases l
theorem us2{q:List ya->Prop}(h:∀B z,q [B,z])(us:List ya)(l:us.length=2):q us:=by
 rcases us with _|⟨_,_|⟨_,_|⟨_,_⟩⟩⟩
 ·cases l
 ·cases l
 ·exact h _ _
 ·cases l
theorem us3{q:List ya->Prop}(h:∀F B z,q [F,B,z])(us:List ya)(l:us.length=3):q us:=by
 rcases us with _|⟨_,_|⟨_,_|⟨_,_|⟨_,_⟩⟩⟩⟩
 ·cases l
 ·cases l
 ·cases l
 ·exact h _ _ _
 ·cases l
theorem us4{q:List ya->Prop}(h:∀G F B z,q [G,F,B,z])(us:List ya)(l:us.length=4):q us:=by
 rcases us with _|⟨_,_|⟨_,_|⟨_,_|⟨_,_|⟨_,_⟩⟩⟩⟩⟩
 ·cases l
 ·cases l
 ·cases l
 ·cases l
 ·exact h _ _ _ _
 ·cases l
def DfK(K:y3)(x:Str)(st:Stmt)(f:Addr):Prop:=∃F B q kV G z J cd ct,PySem.W.nsIn K yu x=some (some (.ref f))/\K.lookup f=some ⟨F,B,.func (PySem.W.fnOf x x (defArgs st) (defBody st) (defScope st) .none kV G z J cd ct),q⟩/\PySem.W.codeIn K cd x=true/\PySem.W.keepIn K (.ref f)=true
theorem DfK.df{mg:Str->Option ya}(D:DfK K x st f)(X:K.In h)(G:h.Ns yu mg)(ps:List Str)(hb:∀(kV q B:ya) (J:Option Addr) (z ct:ya) (us:List ya),us.length=ps.length->bindArgs (PySem.W.fnOf x x (defArgs st) (defBody st) (defScope st) .none kV q B J z ct) ⟨us,[]⟩=pure (ps.zip us)):∃fd,Df K mg x st ps f fd:=by
 obtain⟨_,_,_,_,_,_,_,_,_,a,l,c,k⟩:=D;have F:=Hg l c k;exact⟨_,F,y1o X G a,F.binds hb⟩
theorem lN{l:PySem.W.OpenLaw}{w:y07}{K:y3}{h:Heap}{mg:Str->Option ya}{fa f0 f1 f2 f3 f4 f5 f6 f7 f8 f9 nu nr nq nk nj ng m9 m8 m7 mZ mY mX mW mV mU mT mS mR mQ mP mO mN mM mL mK mJ mI mH mG mF mE mD mC mB mz my mr mq mo mm ml mj mi mh mf me md ma lZ lY lX lW lV Y:Addr}(X:K.In h)(G:h.Ns yu mg) (lU:mg "law" = some (.ref fa))
  {lP nE ly nD lc O:Option Addr} {lu ls Z:Array (Option ya)} {lR lT ny lx nB lQ lS nv lv nA lg B J z M q:ya}
  {e5 e6:Addr} {t5 t6:Addr}
  {ai az:Addr} {oi oz:Option Addr} {ni nz:Nat} {li lz:Array (Option ya)} {lr lq lm lj ln lp:Tok} {a_Walk:Addr}
  (d0:DfK K "is_whole" F4 f0)
  (d1:DfK K "is_whole_from" F5 f1)
  (d2:DfK K "is_tuple_of" Dx f2)
  (d3:DfK K "is_path" F6 f3)
  (d4:DfK K "are_rising_rows" Dy f4)
  (a5:PySem.W.nsIn K yu "run" = some (some (.ref f5))) (l5:K.lookup f5=some ⟨lR,lP,.func (PySem.W.fnOf "run" "run" (defArgs C4) (defBody C4) (defScope C4) .none lT ny lx nE (.ref e5) nB),lu⟩) (c5:PySem.W.codeIn K (.ref e5) "run" = true) (k5:PySem.W.keepIn K (.ref f5)=true)
  (a6:PySem.W.nsIn K yu "traced" = some (some (.ref f6))) (l6:K.lookup f6=some ⟨lQ,ly,.func (PySem.W.fnOf "traced" "traced" (defArgs BQ) (defBody BQ) (defScope BQ) .none lS nv lv nD (.ref e6) nA),ls⟩) (c6:PySem.W.codeIn K (.ref e6) "traced" = true) (k6:PySem.W.keepIn K (.ref f6)=true)
  (d7:DfK K "run_by" Br f7)
  (d8:DfK K "settled" F7 f8)
  (d9:DfK K "names_at_first" Bl f9)
  (d10:DfK K "do_block" BZ nu)
  (d11:DfK K "do_deed" CP nr)
  (d12:DfK K "do_set" CQ nq)
  (d13:DfK K "do_if" QV nk)
  (d14:DfK K "do_while" Ba nj)
  (d15:DfK K "reckon" Bm ng)
  (d16:DfK K "worth_of" E1 m9)
  (d17:DfK K "joined" F9 m8)
  (d18:DfK K "met" E4 m7)
  (d19:DfK K "is_within" Gf mZ)
  (d20:DfK K "between" I0 mY)
  (d21:DfK K "stretch_of" Bb mX)
  (d22:DfK K "stretch_of_same" aH mW)
  (d23:DfK K "stretch_of_ends" DF mV)
  (d24:DfK K "reckoned_from" DG mU)
  (d25:DfK K "behind" Cg mT)
  (d26:DfK K "behind_question" BD mS)
  (d27:DfK K "with_left" DI mR)
  (d28:DfK K "left_of_name" ak mQ)
  (d29:DfK K "left_of_one" CS mP)
  (d30:DfK K "left_of_other" ar mO)
  (d31:DfK K "left_by_same" au mN)
  (d32:DfK K "shown" DJ mM)
  (d33:DfK K "is_paper" Gh mL)
  (d34:DfK K "paper_for" FB mK)
  (d35:DfK K "notes_by" E7 mJ)
  (d36:DfK K "walk_by_paper" Bs mI)
  (d37:DfK K "is_paper_row" E8 mH)
  (d38:DfK K "is_shelf_row" DK mG)
  (d39:DfK K "heads_of" CT mF)
  (d40:DfK K "book_of" CC mE)
  (d41:DfK K "paper_of" Gi mD)
  (d42:DfK K "shelf_of" Gj mC)
  (d43:DfK K "is_held" FC mB)
  (d44:DfK K "is_book_within" FD mz)
  (d45:DfK K "walked" Ch my)
  (d46:DfK K "go_block" Bt mr)
  (d47:DfK K "go_deed" Ci mq)
  (d48:DfK K "go_set" C5 mo)
  (d49:DfK K "go_if" dC mm)
  (d50:DfK K "go_while" BJ ml)
  (d51:DfK K "side_of" CD mj)
  (d52:DfK K "show" Bu mi)
  (d53:DfK K "noted" EA mh)
  (d54:DfK K "joined_books" Cj mf)
  (d55:DfK K "joined_to" Ck me)
  (d56:DfK K "grown_to_hold" Bv md)
  (d57:DfK K "narrowed" C6 ma)
  (d58:DfK K "grown" Bw lZ)
  (d59:DfK K "hastened" BR lY)
  (d60:DfK K "_law_cell" Gk lX)
  (d61:DfK K "_law_pick" DL lW)
  (d62:DfK K "_law_all_worths" Bn lV)
  (a63:PySem.W.nsIn K yu "law" = some (some (.ref Y))) (l63:K.lookup Y=some ⟨lg,lc,.func (PySem.W.fnOf "law" "law" (defArgs AS) (defBody AS) (defScope AS) .none B J z O q M),Z⟩) (c63:PySem.W.codeIn K q "law" = true) (k63:PySem.W.keepIn K (.ref Y)=true)
  (x_Walk:PySem.W.nsIn K yu "Walk" = some (some (.ref a_Walk)))
  {fm_Walk_init:Addr} {od_Walk_init an_Walk_init:Option Addr} {sl_Walk_init:Array (Option ya)} {oc_Walk_init kV_Walk_init dc_Walk_init pm_Walk_init cd_Walk_init ct_Walk_init:ya} (ma_Walk_init:PySem.W.findIn K (.ref a_Walk) "__init__" = some (some (.ref fm_Walk_init))) (ml_Walk_init:K.lookup fm_Walk_init=some ⟨oc_Walk_init,od_Walk_init,.func (PySem.W.fnOf "__init__" "Walk.__init__" (defArgs E6) (defBody E6) (defScope E6) .none kV_Walk_init dc_Walk_init pm_Walk_init an_Walk_init cd_Walk_init ct_Walk_init),sl_Walk_init⟩) (mc_Walk_init:PySem.W.codeIn K cd_Walk_init "Walk.__init__" = true) (mf_Walk_init:PySem.W.isFn K (.ref fm_Walk_init)=true) (mk_Walk_init:PySem.W.keepIn K (.ref fm_Walk_init)=true)
  (z_all:PySem.W.nsIn K yu "all" = some none)
  (z_bool:PySem.W.nsIn K yu "bool" = some none)
  (z_dict:PySem.W.nsIn K yu "dict" = some none)
  (z_enumerate:PySem.W.nsIn K yu "enumerate" = some none)
  (z_int:PySem.W.nsIn K yu "int" = some none)
  (z_isinstance:PySem.W.nsIn K yu "isinstance" = some none)
  (z_len:PySem.W.nsIn K yu "len" = some none)
  (z_max:PySem.W.nsIn K yu "max" = some none)
  (z_min:PySem.W.nsIn K yu "min" = some none)
  (z_range:PySem.W.nsIn K yu "range" = some none)
  (z_sorted:PySem.W.nsIn K yu "sorted" = some none)
  (z_str:PySem.W.nsIn K yu "str" = some none)
  (z_tuple:PySem.W.nsIn K yu "tuple" = some none)
  (z_zip:PySem.W.nsIn K yu "zip" = some none)
  (pw:PySem.W.nsIn K yu "WIDE" = some (some (.ref ai)))
  (ph:K.lookup ai=some ⟨.type "tuple",oi,.seq #[.int (-32768) lr,.int 32767 lq] ni,li⟩)
  (pz:PySem.W.nsIn K yu "ZERO" = some (some (.ref az)))
  (phz:K.lookup az=some ⟨.type "tuple",oz,.seq #[.int 0 lm,.int 0 lj] nz,lz⟩)
  (t_Walk:WkC K a_Walk)
  (mk_Walk:PySem.W.makesIn K a_Walk=true)
  (kp_Walk:PySem.W.keepIn K (.ref a_Walk)=true)
  (ppp:PySem.W.nsIn K yu "PLAIN_PASSES" = some (some (.int 60 ln)))
  (pnp:PySem.W.nsIn K yu "NARROWING_PASSES" = some (some (.int 6 lp)))
  (n56:t5≠t6)
  : ∃fd:y0v,(∀(s:y9) (v:ya),BindsTo s fd ⟨[v],[]⟩ [("_law_script",v)])/\∀base:Heap,K.In base->base.Ns yu mg->Hr mg base [(e5,t5),(e6,t6)]->FnOk l.prog w K mg base CX0 23 fa fd ["_law_script"] (Kq K t5 t6):=by
 have e:=lU.symm.trans (y1o X G a63);cases e;obtain⟨_,d_is_whole⟩:=d0.df X G ["thing"] fun _ _ _ _ _ _=>us1 fun _=>rfl;have F_is_whole:=d_is_whole.F;obtain⟨_,d_is_whole_from⟩:=d1.df X G ["thing","low","high"] fun _ _ _ _ _ _=>us3 fun _ _ _=>rfl;have F_is_whole_from:=d_is_whole_from.F;obtain⟨_,d_is_tuple_of⟩:=d2.df X G ["thing","many"] fun _ _ _ _ _ _=>us2 fun _ _=>rfl;have F_is_tuple_of:=d_is_tuple_of.F;obtain⟨_,d_is_path⟩:=d3.df X G ["thing"] fun _ _ _ _ _ _=>us1 fun _=>rfl;have F_is_path:=d_is_path.F;obtain⟨_,d_are_rising_rows⟩:=d4.df X G ["thing","is_row"] fun _ _ _ _ _ _=>us2 fun _ _=>rfl;have F_are_rising_rows:=d_are_rising_rows.F;have F_run:=Hg (st:=C4) l5 c5 k5;have B_run:=F_run.binds (ps:=["program","worths"]) fun _ _ _ _ _ _=>us2 fun _ _=>rfl;have d_run:Df K mg "run" C4 ["program","worths"] f5 _:=⟨F_run,y1o X G a5,B_run⟩;have F_traced:=Hg (st:=BQ) l6 c6 k6;have B_traced:=F_traced.binds (ps:=["program","worths"]) fun _ _ _ _ _ _=>us2 fun _ _=>rfl;have d_traced:Df K mg "traced" BQ ["program","worths"] f6 _:=⟨F_traced,y1o X G a6,B_traced⟩;obtain⟨_,d_run_by⟩:=d7.df X G ["program","worths","settle"] fun _ _ _ _ _ _=>us3 fun _ _ _=>rfl;have F_run_by:=d_run_by.F;obtain⟨_,d_settled⟩:=d8.df X G ["worth","path","rows"] fun _ _ _ _ _ _=>us3 fun _ _ _=>rfl;have F_settled:=d_settled.F;obtain⟨_,d_names_at_first⟩:=d9.df X G ["ins","worths"] fun _ _ _ _ _ _=>us2 fun _ _=>rfl;have F_names_at_first:=d_names_at_first.F;obtain⟨_,d_do_block⟩:=d10.df X G ["block","path","names","settle"] fun _ _ _ _ _ _=>us4 fun _ _ _ _=>rfl;have F_do_block:=d_do_block.F;obtain⟨_,d_do_deed⟩:=d11.df X G ["deed","path","names","settle"] fun _ _ _ _ _ _=>us4 fun _ _ _ _=>rfl;have F_do_deed:=d_do_deed.F;obtain⟨_,d_do_set⟩:=d12.df X G ["deed","path","names","settle"] fun _ _ _ _ _ _=>us4 fun _ _ _ _=>rfl;have F_do_set:=d_do_set.F;obtain⟨_,d_do_if⟩:=d13.df X G ["deed","path","names","settle"] fun _ _ _ _ _ _=>us4 fun _ _ _ _=>rfl;have F_do_if:=d_do_if.F;obtain⟨_,d_do_while⟩:=d14.df X G ["deed","path","names","settle"] fun _ _ _ _ _ _=>us4 fun _ _ _ _=>rfl;have F_do_while:=d_do_while.F;obtain⟨_,d_reckon⟩:=d15.df X G ["term","path","names","settle"] fun _ _ _ _ _ _=>us4 fun _ _ _ _=>rfl;have F_reckon:=d_reckon.F;obtain⟨_,d_worth_of⟩:=d16.df X G ["word","one","other"] fun _ _ _ _ _ _=>us3 fun _ _ _=>rfl;have F_worth_of:=d_worth_of.F;obtain⟨_,d_joined⟩:=d17.df X G ["one","other"] fun _ _ _ _ _ _=>us2 fun _ _=>rfl;have F_joined:=d_joined.F;obtain⟨_,d_met⟩:=d18.df X G ["one","other"] fun _ _ _ _ _ _=>us2 fun _ _=>rfl;have F_met:=d_met.F;obtain⟨_,d_is_within⟩:=d19.df X G ["one","other"] fun _ _ _ _ _ _=>us2 fun _ _=>rfl;have F_is_within:=d_is_within.F;obtain⟨_,d_between⟩:=d20.df X G ["low","high"] fun _ _ _ _ _ _=>us2 fun _ _=>rfl;have F_between:=d_between.F;obtain⟨_,d_stretch_of⟩:=d21.df X G ["word","one","other"] fun _ _ _ _ _ _=>us3 fun _ _ _=>rfl;have F_stretch_of:=d_stretch_of.F;obtain⟨_,d_stretch_of_same⟩:=d22.df X G ["one","other"] fun _ _ _ _ _ _=>us2 fun _ _=>rfl;have F_stretch_of_same:=d_stretch_of_same.F;obtain⟨_,d_stretch_of_ends⟩:=d23.df X G ["word","one","other"] fun _ _ _ _ _ _=>us3 fun _ _ _=>rfl;have F_stretch_of_ends:=d_stretch_of_ends.F;obtain⟨_,d_reckoned_from⟩:=d24.df X G ["term","book"] fun _ _ _ _ _ _=>us2 fun _ _=>rfl;have F_reckoned_from:=d_reckoned_from.F;obtain⟨_,d_behind⟩:=d25.df X G ["term","book","is_so"] fun _ _ _ _ _ _=>us3 fun _ _ _=>rfl;have F_behind:=d_behind.F;obtain⟨_,d_behind_question⟩:=d26.df X G ["term","book","is_so"] fun _ _ _ _ _ _=>us3 fun _ _ _=>rfl;have F_behind_question:=d_behind_question.F;obtain⟨_,d_with_left⟩:=d27.df X G ["book","name","stretch"] fun _ _ _ _ _ _=>us3 fun _ _ _=>rfl;have F_with_left:=d_with_left.F;obtain⟨_,d_left_of_name⟩:=d28.df X G ["own","is_so"] fun _ _ _ _ _ _=>us2 fun _ _=>rfl;have F_left_of_name:=d_left_of_name.F;obtain⟨_,d_left_of_one⟩:=d29.df X G ["word","own","other","is_so"] fun _ _ _ _ _ _=>us4 fun _ _ _ _=>rfl;have F_left_of_one:=d_left_of_one.F;obtain⟨_,d_left_of_other⟩:=d30.df X G ["word","own","one","is_so"] fun _ _ _ _ _ _=>us4 fun _ _ _ _=>rfl;have F_left_of_other:=d_left_of_other.F;obtain⟨_,d_left_by_same⟩:=d31.df X G ["own","beside","is_so"] fun _ _ _ _ _ _=>us3 fun _ _ _=>rfl;have F_left_by_same:=d_left_by_same.F;obtain⟨_,d_shown⟩:=d32.df X G ["program","paper"] fun _ _ _ _ _ _=>us2 fun _ _=>rfl;have F_shown:=d_shown.F;obtain⟨_,d_is_paper⟩:=d33.df X G ["program","thing"] fun _ _ _ _ _ _=>us2 fun _ _=>rfl;have F_is_paper:=d_is_paper.F;obtain⟨_,d_paper_for⟩:=d34.df X G ["program"] fun _ _ _ _ _ _=>us1 fun _=>rfl;have F_paper_for:=d_paper_for.F;obtain⟨_,d_notes_by⟩:=d35.df X G ["program","paper"] fun _ _ _ _ _ _=>us2 fun _ _=>rfl;have F_notes_by:=d_notes_by.F;obtain⟨_,d_walk_by_paper⟩:=d36.df X G ["program","thing"] fun _ _ _ _ _ _=>us2 fun _ _=>rfl;have F_walk_by_paper:=d_walk_by_paper.F;obtain⟨_,d_is_paper_row⟩:=d37.df X G ["thing"] fun _ _ _ _ _ _=>us1 fun _=>rfl;have F_is_paper_row:=d_is_paper_row.F;obtain⟨_,d_is_shelf_row⟩:=d38.df X G ["thing"] fun _ _ _ _ _ _=>us1 fun _=>rfl;have F_is_shelf_row:=d_is_shelf_row.F;obtain⟨_,d_heads_of⟩:=d39.df X G ["paper"] fun _ _ _ _ _ _=>us1 fun _=>rfl;have F_heads_of:=d_heads_of.F;obtain⟨_,d_book_of⟩:=d40.df X G ["shelf"] fun _ _ _ _ _ _=>us1 fun _=>rfl;have F_book_of:=d_book_of.F;obtain⟨_,d_paper_of⟩:=d41.df X G ["heads"] fun _ _ _ _ _ _=>us1 fun _=>rfl;have F_paper_of:=d_paper_of.F;obtain⟨_,d_shelf_of⟩:=d42.df X G ["book"] fun _ _ _ _ _ _=>us1 fun _=>rfl;have F_shelf_of:=d_shelf_of.F;obtain⟨_,d_is_held⟩:=d43.df X G ["wants","heads"] fun _ _ _ _ _ _=>us2 fun _ _=>rfl;have F_is_held:=d_is_held.F;obtain⟨_,d_is_book_within⟩:=d44.df X G ["one","other"] fun _ _ _ _ _ _=>us2 fun _ _=>rfl;have F_is_book_within:=d_is_book_within.F;obtain⟨_,d_walked⟩:=d45.df X G ["program","heads"] fun _ _ _ _ _ _=>us2 fun _ _=>rfl;have F_walked:=d_walked.F;obtain⟨_,d_go_block⟩:=d46.df X G ["block","path","book","walk"] fun _ _ _ _ _ _=>us4 fun _ _ _ _=>rfl;have F_go_block:=d_go_block.F;obtain⟨_,d_go_deed⟩:=d47.df X G ["deed","path","book","walk"] fun _ _ _ _ _ _=>us4 fun _ _ _ _=>rfl;have F_go_deed:=d_go_deed.F;obtain⟨_,d_go_set⟩:=d48.df X G ["deed","path","book","walk"] fun _ _ _ _ _ _=>us4 fun _ _ _ _=>rfl;have F_go_set:=d_go_set.F;obtain⟨_,d_go_if⟩:=d49.df X G ["deed","path","book","walk"] fun _ _ _ _ _ _=>us4 fun _ _ _ _=>rfl;have F_go_if:=d_go_if.F;obtain⟨_,d_go_while⟩:=d50.df X G ["deed","path","book","walk"] fun _ _ _ _ _ _=>us4 fun _ _ _ _=>rfl;have F_go_while:=d_go_while.F;obtain⟨_,d_side_of⟩:=d51.df X G ["term","has","book","is_so"] fun _ _ _ _ _ _=>us4 fun _ _ _ _=>rfl;have F_side_of:=d_side_of.F;obtain⟨_,d_show⟩:=d52.df X G ["term","path","book","walk"] fun _ _ _ _ _ _=>us4 fun _ _ _ _=>rfl;have F_show:=d_show.F;obtain⟨_,d_noted⟩:=d53.df X G ["stretch","path","walk"] fun _ _ _ _ _ _=>us3 fun _ _ _=>rfl;have F_noted:=d_noted.F;obtain⟨_,d_joined_books⟩:=d54.df X G ["one","other"] fun _ _ _ _ _ _=>us2 fun _ _=>rfl;have F_joined_books:=d_joined_books.F;obtain⟨_,d_joined_to⟩:=d55.df X G ["book","other"] fun _ _ _ _ _ _=>us2 fun _ _=>rfl;have F_joined_to:=d_joined_to.F;obtain⟨_,d_grown_to_hold⟩:=d56.df X G ["program","heads"] fun _ _ _ _ _ _=>us2 fun _ _=>rfl;have F_grown_to_hold:=d_grown_to_hold.F;obtain⟨_,d_narrowed⟩:=d57.df X G ["program","heads"] fun _ _ _ _ _ _=>us2 fun _ _=>rfl;have F_narrowed:=d_narrowed.F;obtain⟨_,d_grown⟩:=d58.df X G ["heads","wants","is_hasty"] fun _ _ _ _ _ _=>us3 fun _ _ _=>rfl;have F_grown:=d_grown.F;obtain⟨_,d_hastened⟩:=d59.df X G ["before","book"] fun _ _ _ _ _ _=>us2 fun _ _=>rfl;have F_hastened:=d_hastened.F;obtain⟨_,d_law_cell⟩:=d60.df X G ["_law_script","_law_k"] fun _ _ _ _ _ _=>us2 fun _ _=>rfl;have F_law_cell:=d_law_cell.F;obtain⟨_,d_law_pick⟩:=d61.df X G ["_law_script","_law_k","_law_many"] fun _ _ _ _ _ _=>us3 fun _ _ _=>rfl;have F_law_pick:=d_law_pick.F;obtain⟨_,d_law_all_worths⟩:=d62.df X G ["_law_program_here"] fun _ _ _ _ _ _=>us1 fun _=>rfl;have F_law_all_worths:=d_law_all_worths.F;have F_law:=Hg (st:=AS) l63 c63 k63;have F_Walk_init:=Hg (st:=E6) ml_Walk_init mc_Walk_init mk_Walk_init;have B_Walk_init:=F_Walk_init.binds (ps:=["self","heads"]) fun _ _ _ _ _ _=>us2 fun _ _=>rfl;have b_all:=y0c X G z_all;have b_bool:=y0c X G z_bool;have b_dict:=y0c X G z_dict;have b_enumerate:=y0c X G z_enumerate;have b_int:=y0c X G z_int;have b_isinstance:=y0c X G z_isinstance;have b_len:=y0c X G z_len;have b_max:=y0c X G z_max;have b_min:=y0c X G z_min;have b_range:=y0c X G z_range;have b_sorted:=y0c X G z_sorted;have b_str:=y0c X G z_str;have b_tuple:=y0c X G z_tuple;have b_zip:=y0c X G z_zip;refine⟨PySem.W.fnOf "law" "law" (defArgs AS) (defBody AS) (defScope AS) .none B J z O q M,fun s v=>.of_eq rfl,fun base _ _ lh=>?_⟩;have FC_run:FunC K "run" "run" C4 f5 _ e5:=⟨⟨_,_,_,_,_,_,_,_,rfl,l5,c5⟩,k5⟩;obtain⟨tc_run,tb_run,tg_run⟩:=lh (e5,t5) (.head _);have FC_traced:FunC K "traced" "traced" BQ f6 _ e6:=⟨⟨_,_,_,_,_,_,_,_,rfl,l6,c6⟩,k6⟩;obtain⟨tc_traced,tb_traced,tg_traced⟩:=lh (e6,t6) (.tail _ (.head _));have c_worth_of:=d_worth_of.callee (gY (P:=l.prog) (w:=w) (base:=base) F_worth_of b_min b_max);have c_between:=d_between.callee (gZ (P:=l.prog) (w:=w) (base:=base) F_between);have c_joined:=d_joined.callee (gb (P:=l.prog) (w:=w) (base:=base) F_joined b_min b_max);have c_metK:=d_met.callee (gp F_met b_min b_max c_between);have c_met:=Callee.imp c_metK gn;have c_within:=d_is_within.callee (gq F_is_within c_metK);have c_same:=d_stretch_of_same.callee (k:=0) (HS (P:=l.prog) (w:=w) (base:=base));have c_ends:=d_stretch_of_ends.callee (gj F_stretch_of_ends b_min b_max c_worth_of);have c_of:=d_stretch_of.callee (gk F_stretch_of b_min b_max c_between c_joined c_same c_ends);have c_cell:=d_law_cell.callee (gS (P:=l.prog) (w:=w) (base:=base) F_law_cell b_len);have c_pick:=d_law_pick.callee (gT F_law_pick c_cell);have c_bysame:=d_left_by_same.callee (k:=0) (HS (P:=l.prog) (w:=w) (base:=base));have c_lone:=d_left_of_one.callee (gu F_left_of_one b_min b_max c_between c_bysame);have c_lother:=d_left_of_other.callee (k:=0) (HS (P:=l.prog) (w:=w) (base:=base));have c_lname:=d_left_of_name.callee (k:=0) (HS (P:=l.prog) (w:=w) (base:=base));have c_with:=d_with_left.callee (gw (P:=l.prog) (w:=w) (base:=base) F_with_left b_dict);have g_WIDE:GC mg "WIDE" (.ref ai):=⟨_,y1o X G pw,rfl⟩;have hI:∀H,SqT K H ai [.int (-32768),.int 32767]:=Tw ph (.cons ⟨_,rfl⟩ (.cons ⟨_,rfl⟩ .nil)) (show(2:Nat)<=yn by decide);have g_ZERO:GC mg "ZERO" (.ref az):=⟨_,y1o X G pz,rfl⟩;have hZ:∀H,SqT K H az [.int 0,.int 0]:=Tw phz (.cons ⟨_,rfl⟩ (.cons ⟨_,rfl⟩ .nil)) (show(2:Nat)<=yn by decide);have c_rf0:=d_reckoned_from.callee (k:=0) (HS (P:=l.prog) (w:=w) (base:=base));have c_rf:=d_reckoned_from.callee (gy F_reckoned_from g_WIDE c_met c_of c_rf0);have c_bq:=d_behind_question.callee (gz F_behind_question b_dict c_rf c_with c_lone c_lother);have c_bh:Callee l.prog w K mg base "behind" ["term","book","is_so"] 7 (S7 isQ bhd):=d_behind.callee (hJ F_behind b_dict c_with c_lname c_bq);have c_noted:=d_noted.callee (i4 F_noted g_WIDE hI c_metK);have c_sh0:=d_show.callee (k:=5) (i5 (P:=l.prog) (w:=w) (base:=base) (K:=K) (mg:=mg));have c_sh1:=d_show.callee (HG (n:=0) F_show c_noted c_of c_sh0);have c_sh2:=d_show.callee (HG (n:=1) F_show c_noted c_of c_sh1);have c_sh3:=d_show.callee (HG (n:=2) F_show c_noted c_of c_sh2);have c_sh4:=d_show.callee (HG (n:=3) F_show c_noted c_of c_sh3);have c_sh5:=d_show.callee (HG (n:=4) F_show c_noted c_of c_sh4);have c_sh6:=d_show.callee (HG (n:=5) F_show c_noted c_of c_sh5);have c_side:=d_side_of.callee (iB F_side_of g_ZERO hZ c_within c_bh);have c_jb:=d_joined_books.callee (iC F_joined_books c_joined);have c_set:=d_go_set.callee (iE (bh:=bhd) F_go_set b_dict c_sh6);have c_book:=d_book_of.callee (ii (P:=l.prog) (w:=w) (base:=base) F_book_of);have c_jt:=d_joined_to.callee (iF F_joined_to c_joined);have c_gb0:=d_go_block.callee (k:=12) (iD (P:=l.prog) (w:=w) (base:=base) (K:=K) (mg:=mg) (bh:=bhd) (Pq:=isQ));have c_if:=d_go_if.callee (k:=0) (HS (P:=l.prog) (w:=w) (base:=base));have c_wh0:=d_go_while.callee (SD (n:=0) Kr F_go_while c_jt c_sh6 c_side c_jb c_gb0);have c_dd0:=d_go_deed.callee (SE (n:=0) F_go_deed c_set c_if c_wh0);have c_gb1:=d_go_block.callee (SF (n:=0) Kr F_go_block b_enumerate c_dd0);have c_wh1:=d_go_while.callee (SD (n:=1) Kr F_go_while c_jt c_sh6 c_side c_jb c_gb1);have c_dd1:=d_go_deed.callee (SE (n:=1) F_go_deed c_set c_if c_wh1);have c_gb2:=d_go_block.callee (SF (n:=1) Kr F_go_block b_enumerate c_dd1);have c_heads:=d_heads_of.callee (ij F_heads_of c_book);have i_init:CalleeI l.prog w K mg base a_Walk _ 1 _:=⟨_,_,ip (P:=l.prog) (w:=w) (base:=base) F_Walk_init t_Walk,⟨mk_Walk,ma_Walk_init,mf_Walk_init,kp_Walk⟩,B_Walk_init⟩;have c_walked:=d_walked.callee (iq (n:=2) F_walked (y1o X G x_Walk) t_Walk i_init c_book c_gb2);have c_whole:=d_is_whole.callee (iI (P:=l.prog) (w:=w) (base:=base) F_is_whole b_isinstance b_int b_bool);have c_wfrom:=d_is_whole_from.callee (iJ F_is_whole_from c_whole);have c_tupof:=d_is_tuple_of.callee (iK (P:=l.prog) (w:=w) (base:=base) F_is_tuple_of b_isinstance b_len b_tuple);have o_shelf:=iT F_is_shelf_row b_isinstance b_str g_WIDE hI c_tupof c_wfrom;have h_shelf:=d_is_shelf_row.held o_shelf;have c_path:=d_is_path.callee (iV F_is_path b_isinstance b_tuple b_all c_whole);have c_rise3:=d_are_rising_rows.callee (SI (P:=l.prog) (w:=w) (base:=base) (kk:=3) (R:=Bo) F_are_rising_rows b_isinstance b_tuple b_all b_zip);have o_prow:=ig F_is_paper_row ⟨_,d_is_shelf_row.m,rfl⟩ h_shelf c_tupof c_path c_rise3;have h_prow:=d_is_paper_row.held o_prow;have c_rise5:=d_are_rising_rows.callee (SI (P:=l.prog) (w:=w) (base:=base) (kk:=5) (R:=Bd) F_are_rising_rows b_isinstance b_tuple b_all b_zip);have c_ibw:=d_is_book_within.callee (j0 F_is_book_within b_sorted b_all c_within);have c_held:=d_is_held.callee (j6 F_is_held b_sorted b_all c_ibw);have c_wbp:=d_walk_by_paper.callee (jA (n:=2) F_walk_by_paper t_Walk ⟨_,d_is_paper_row.m,rfl⟩ h_prow c_rise5 c_heads c_walked c_held);have c_isp:=d_is_paper.callee (jB (n:=2) F_is_paper c_wbp).fz;have c_notes:=d_notes_by.callee (jC (n:=2) F_notes_by c_wbp);have c_shown:=d_shown.callee (jD (n:=2) F_shown b_sorted c_notes);have g_PP:GC mg "PLAIN_PASSES" (.int 60):=⟨_,y1o X G ppp,⟨_,rfl⟩⟩;have g_NP:GC mg "NARROWING_PASSES" (.int 6):=⟨_,y1o X G pnp,⟨_,rfl⟩⟩;have c_hast:=d_hastened.callee (kK F_hastened g_WIDE hI c_joined);have c_grown:=d_grown.callee (kM F_grown c_jt c_hast);have o_gth:=kN (n:=2) F_grown_to_hold g_PP c_walked c_held c_grown;have c_nar:=d_narrowed.callee (kQ (n:=2) F_narrowed b_range g_NP c_walked (d_grown_to_hold.callee o_gth.fz));have c_shelf:=d_shelf_of.callee (kS (P:=l.prog) (w:=w) (base:=base) F_shelf_of b_sorted b_tuple);have c_pof:=d_paper_of.callee (kT F_paper_of b_sorted b_tuple c_shelf);have c_pfor:=d_paper_for.callee (kU (n:=2) F_paper_for (d_grown_to_hold.callee o_gth) c_nar c_pof).fz;have c_nf:=d_names_at_first.callee (jy F_names_at_first b_len b_zip c_tupof c_wfrom);have c_se:=d_settled.callee (jI (P:=l.prog) (w:=w) (base:=base) F_settled g_WIDE hI);have c_re:=Sr d_reckon c_worth_of c_se 5;have c_do:=T6 d_do_block d_do_deed d_do_set d_do_if d_do_while b_enumerate c_re 4;have c_rb:=d_run_by.callee (kB F_run_by b_sorted b_tuple c_nf c_do);have c_ru:=d_run.callee (kG FC_run tc_run tb_run tg_run c_rb);have c_tr:=d_traced.callee (kH FC_traced tc_traced tb_traced tg_traced c_rb);have c_aw:=d_law_all_worths.callee (kX (P:=l.prog) (w:=w) (base:=base) F_law_all_worths b_range);exact lL n56 F_law b_dict b_max c_pick c_isp c_shown c_pfor c_aw c_ru c_tr
theorem lO{l:PySem.W.OpenLaw}{q:yl}{z:List Str}{XP:(Str->Option ya)->Heap->Prop}{YP:y07->Heap->Prop}{d:DefRec}{K:Params->y3}(M G J B:Addr)(hn:l.most=some 63)(O:d.params.defaults=[])
  (hY:∀(w:y07) (h:Heap),YP w h->(K w.params).In h) (hK:∀w:y07,PySem.W.noTabs (K w.params)=true) (hrec:∀t∈([("run",M,G),("traced",J,B)]:List (Str×Addr×Addr)),∃e,(PyProof.Rows.recsOf q).find? (fun e=>e.name==t.1)=some e) (htab:∀(w:y07),∀t∈([("run",M,G),("traced",J,B)]:List (Str×Addr×Addr)),PySem.W.tabIn (K w.params) t.1=some (t.2.1,t.2.2))
  (F:∀(w:y07) (mg:Str->Option ya) (Z:Addr) (h:Heap),(K w.params).In h->h.Ns yu mg->mg d.name=some (.ref Z)->
   ∃fd:y0v,(∀(s:y9) (u:ya),BindsTo s fd ⟨[u],[]⟩ [("_law_script",u)])/\∀base:Heap,(K w.params).In base->base.Ns yu mg->Hr mg base [(M,G),(J,B)]->FnOk l.prog w (K w.params) mg base CX0 23 Z fd ["_law_script"] (Kq (K w.params) G B)) :
  PySem.W.WalkO q z XP YP l.row.toRowW d [] (fun f vs=>PySem.call f vs):=
 L2.Wr (n:=63) (k:=23) (x:="_law_script") (sp:=fun w=>Kq (K w.params) G B) (tabs:=[("run",M,G),("traced",J,B)]) hn (by decide) O ⟨rfl,by decide,by decide⟩ hY hK hrec htab F (fun _ _ a ns hl Y hS=>⟨a,ns,rfl,hS,hl,Y _ (.head _),Y _ (.tail _ (.head _)),fun _=>rfl⟩)
end SR
namespace PySem.W.Fast
def tw14899948115971725508:=0
def tw10836242955226835038:=0
def tw11295538718366397146:=0
def tw10759094297436101967:=0
def tw9074839052825954146:=0
def tw10342875636404525089:=0
def tw8054258434822559629:=0
def tw3015454529493604194:=0
def tw9424591627108359350:=0
def tw18423457844237291290:=0
def tw12760543109310559996:=0
def tw11739848862035164719:=0
def tw2563599143807824539:=0
def tw1699292962129473411:=0
def tw5894880463114111272:=0
def tw13100665203152578961:=0
def tw501127156658036416:=0
def tw4792520861062356578:=0
def tw362728973074909131:=0
def tw10278676402355540713:=0
def tw13149781737445056994:=0
def tw3406265056784985583:=0
def tw16869535944631448942:=0
def tw17652065983560847676:=0
def tw9791333265265268922:=0
def tw4840082185992176756:=0
def tw14035851103284575554:=0
def tw13926323155155405794:=0
def tw12546789666387794634:=0
def tw3855685335544279190:=0
def tw13712027964146464330:=0
def tw631821877771731790:=0
def tw6987710890126170462:=0
def tw10336238594543791095:=0
def tw753250469288931709:=0
def tw14062069260347647845:=0
def tw14524156820740341215:=0
def tw5186623061501013112:=0
def tw7055458596915061518:=0
def tw17655298514431192201:=0
def tw11576390003231992564:=0
def tw14684645015495162115:=0
def tw3799330929341071819:=0
def tw16483888152549698791:=0
def tw10842788144545270204:=0
def tw9656768204774613384:=0
def tw5888114661770167963:=0
def tw5440083074092717817:=0
def tw897622536776082445:=0
def tw7918927864468597530:=0
def tw5737348143138177867:=0
def tw3506141903914259300:=0
def tw5217525578429693598:=0
def tw15702776500478576485:=0
def tw6503461585054900067:=0
def tw9641366258561503925:=0
def tw8241430525468276375:=0
def tw303791322982075725:=0
def tw9984813440245206477:=0
def tw1513118768142883702:=0
def tw10873229412030406886:=0
def tw7697424994510993779:=0
def tw13241837464315958332:=0
def tw12120088075777305741:=0
def tw2738506702842919418:=0
def tw12949855685720535939:=0
def tw5035395581557632460:=0
def tw12821796805863344696:=0
def tw198247674660536786:=0
def tw12323308044117117174:=0
def tw2839423637071690760:=0
def tw15388082737882182135:=0
def tw2770869280998753390:=0
def tw7192309890118444407:=0
def tw17964907459900264210:=0
def tw14533338410897422279:=0
def tw12800306489718317560:=0
def tw12477049629272560559:=0
def tw16316198709755576119:=0
def tw16835034849038773967:=0
def tw18178377431408972862:=0
def tw11278847568047089650:=0
def tw8256986717857531246:=0
def tw11157575564094068125:=0
def tw3086218274156296713:=0
def tw18232020177583420459:=0
def tw8496226182053817268:=0
def tw5224878254947299342:=0
def tw7695463453778571418:=0
def tw3983443048895103903:=0
def tw5877746253566226167:=0
def tw2320802227777147505:=0
def tw16375230270451729902:=0
def tw2197376806928374791:=0
def tw10204173571712398668:=0
def tw1040665844766562178:=0
def tw17955009373497218226:=0
def tw15031257791916774336:=0
def tw14332508330533309523:=0
def tw7667751648889352:=0
def tw15395364892574993637:=0
def tw15591044778456863913:=0
def tw15777444748487590873:=0
def tw14761005519372855084:=0
def tw18210407491524179872:=0
def tw8890520979874367393:=0
def tw15734234896370031409:=0
def tw1433654696461977438:=0
def tw12191647539399276985:=0
def tw4642537950271965936:=0
def tw13117399504268172902:=0
def tw14695072883619203121:=0
def tw11763367817961777250:=0
def tw17156045761227167608:=0
def tw783288272462820142:=0
def tw8161430100660665278:=0
def tw14917195803640100084:=0
def tw18173123110691977430:=0
def tw13440977426788970453:=0
def tw9555444486762864836:=0
def tw5690181808912761837:=0
def tw7973846869127800463:=0
def tw15523445738713816693:=0
def tw10585707358359650835:=0
def tw16379348989169988910:=0
def tw9113983258811940126:=0
def tw10099428670551761053:=0
def tw5274428580692463103:=0
def tw7768217448723890908:=0
def tw2484049895196680077:=0
def tw9009623304470431963:=0
def tw18067389879509081057:=0
def tw3099612301665015698:=0
def tw739424661569180951:=0
def tw10538594623882438205:=0
def tw6855198681712618860:=0
def tw16329750279614678128:=0
def tw1445028711032417599:=0
def tw2111228442436837020:=0
def tw2904089721509062518:=0
def tw2874844180928533329:=0
def tw4719714630264947506:=0
def tw14937524913895129801:=0
def tw6783053564746310948:=0
def tw11166610367549021934:=0
def tw366187536310593424:=0
def tw10080602059921299608:=0
def tw17267283536682793895:=0
def tw10693440617745918307:=0
def tw3097773333001482373:=0
def tw14823151624631136256:=0
def tw4697169333315225428:=0
def tw10373565677850838412:=0
def tw17656073640925191128:=0
def tw15971225504238197928:=0
def tw4118168182897983945:=0
def tw13991809807459167508:=0
def tw8234604156905689816:=0
def tw8328297990515785757:=0
def tw4408044495862373605:=0
def tw12130257379774546931:=0
def tw11979649119579476592:=0
def tw6637558684735719798:=0
def tw10813604577480262821:=0
def tw15093198858370204917:=0
def tw10504535966818270356:=0
def tw14161314916323427008:=0
def tw2365222225229842663:=0
def tw1516620871066409834:=0
def tw13584719192632042435:=0
def tw7823435684780623121:=0
def tw11065706377549827706:=0
def tw455457998040239656:=0
def tw17999095354126902008:=0
def tw9395587809645380925:=0
def tw15957353054756119971:=0
def tw2515601783357774988:=0
def tw10744021988116436026:=0
def tw13885591110579417820:=0
def tw1703655701955617975:=0
def tw9052055029553012172:=0
def tw16914275641450408515:=0
def tw16146147426776201336:=0
def tw11415777522216667050:=0
def tw16019879233032535031:=0
def tw12760038119286228537:=0
def tw17160130829107500327:=0
def tw4940559810524071218:=0
def tw2538769109229264764:=0
def tw15275340811900680136:=0
def tw6574503509001700104:=0
def tw1601730534819171473:=0
def tw9445091467673556113:=0
def tw12203080537798555201:=0
def tw12935750180358818565:=0
def tw508254063392874787:=0
def tw3355804130425338992:=0
def tw3395895806608305550:=0
def tw9262232797916649057:=0
def tw18357970549984172142:=0
def tw11041801442850981310:=0
def tw5531610701306897074:=0
def tw6546179673546404468:=0
def tw12214544163806237294:=0
def tw15067413690035528217:=0
def tw9589470165858179276:=0
def tw4792338651112289353:=0
def tw13942577176357121033:=0
def tw16076506312371635639:=0
def tw1229176810242312132:=0
def tw6639866285407794484:=0
def tw17765570760271574518:=0
def tw9450857518915102747:=0
def tw12038933662183152860:=0
def tw18336051016763852541:=0
def tw17917839129704028436:=0
def tw15675402859841602823:=0
def tw257875383015629063:=0
def tw8133648981817477231:=0
def tw13133695407629503931:=0
def tw15273416825468103772:=0
def tw9332999065259332577:=0
def tw14915987730143921010:=0
def tw16412855894461343393:=0
def tw7641455468231578321:=0
def tw2610545498419073558:=0
def tw17951493986658520381:=0
def tw16266497962765800089:=0
def tw1383675019291239072:=0
def tw905945812777097226:=0
def tw17424524322712309437:=0
def tw3849452807870723178:=0
def tw13387467572638357245:=0
def tw11901242871634382280:=0
def tw2691892731197379807:=0
def tw1631214012728367344:=0
def tw16969985583375340923:=0
def tw4304508051286989786:=0
def tw2770872973591363601:=0
def tw4849754922820952481:=0
def tw6721981735764469277:=0
def tw1125528077963830494:=0
def tw12193592774871368977:=0
def tw10727213551610793398:=0
def tw2938689179808827528:=0
def tw4729096813112434204:=0
def tw7698048486104681324:=0
def tw7489298453492619575:=0
def tw17107457606346419822:=0
def tw18225572267426634054:=0
def tw5631485562597944351:=0
def tw212489527699768843:=0
def tw3290933262489670845:=0
def tw5928303652240571050:=0
def tw17386781463902526086:=0
def tw12686564744607004768:=0
def tw17454517929666094130:=0
def tw1533410775568274111:=0
def tw15627712618825916072:=0
def tw15526243763085213529:=0
def tw15839988701761251734:=0
def tw16636650795885814802:=0
def tw6004462114338149827:=0
def tw15974750760313776034:=0
def tw1642556274742439548:=0
def tw13032707155376028465:=0
def tw15564318583503640739:=0
def tw11681565431630242556:=0
def tw5145672249973726947:=0
def tw8498310807420816230:=0
def tw14620319391753558257:=0
def tw8959385694196772155:=0
def tw7219363940030443781:=0
def tw16581176829914021678:=0
def tw17601410615696594305:=0
def tw14960584201105309727:=0
def tw15512461474105328249:=0
def tw3482496974524198018:=0
def tw2164168804088531127:=0
def tw17363829896239620542:=0
def tw14537953932882412880:=0
def tw175409617243982234:=0
def tw15695044146334954272:=0
def tw1465777926984640698:=0
def tw11247654128735396209:=0
def tw5714959486896021285:=0
def tw8113858548404349593:=0
def tw6561684138002422145:=0
def tw10388889785367267457:=0
def tw10471600505544033393:=0
def tw847286775113835573:=0
def tw14819307383088699580:=0
def tw1878130336787972226:=0
def tw4730184995103820981:=0
def tw5239522655346667003:=0
def tw12552342667407567728:=0
def tw12975158652255112093:=0
def tw5424246577306478168:=0
def tw1069761800235299089:=0
def tw15546475938171589928:=0
def tw16331386354797239399:=0
def tw16865023803022058692:=0
def tw17334635619157461496:=0
def tw12903528068083342871:=0
def tw6315610833124000298:=0
def tw13504230044524512520:=0
def tw16265231423181086994:=0
def tw7419605907576582786:=0
def tw12713500357890610912:=0
def tw16348038797360718010:=0
def tw2607575549918292329:=0
def tw3461064927893433432:=0
def tw7731410045275283319:=0
def tw6655641636634980543:=0
def tw17153994162388164503:=0
def tw6589331348821038112:=0
def tw9485599170437327979:=0
def tw12234501709380011539:=0
def tw3520107906204334956:=0
def tw7092737554122168433:=0
def tw2586013313286838005:=0
def tw18083499732007604359:=0
def tw13956572388925096468:=0
def tw11156815048416986911:=0
def tw17855972419881543747:=0
def tw256307769758152263:=0
def tw9361700542158190539:=0
def tw13903695455522096842:=0
def tw13631632623374378248:=0
def tw18205399908526705772:=0
def tw2833821531355107607:=0
def tw12286798031254738849:=0
def tw10231392583296152804:=0
def tw4482602438915693437:=0
def tw6112191909148918327:=0
def tw7512880356242383001:=0
def tw8170736456502342744:=0
def tw7528503256629697964:=0
def tw9620283666829723290:=0
def tw13915407832040834431:=0
def tw14652948146358192174:=0
def tw13905323171529943626:=0
def tw15009972169500288312:=0
def tw9391943885519591259:=0
def tw9264297044838086465:=0
def tw8828731287110510150:=0
def tw11982024974824628239:=0
def tw11429668104997513849:=0
def tw15896335190072510625:=0
def tw111715540439120001:=0
def tw12625113875142035832:=0
def tw6893573655735330038:=0
def tw11370984749930602621:=0
def tw10710586459701468210:=0
def tw8948504305255831113:=0
def tw6428647393362291423:=0
def tw11395441127884594211:=0
def tw9214905005238156040:=0
def tw9136211868482600036:=0
def tw6394044003333149028:=0
def tw469384758755547431:=0
def tw11154186036844129578:=0
def tw14165333535209245306:=0
def tw11610012903281461575:=0
def tw10923987802771165927:=0
def tw1838885094789467176:=0
def tw10911210432782059772:=0
def tw810168955907870416:=0
def tw7691017806525286855:=0
def tw5658874688075692543:=0
def tw1493143159529879172:=0
def tw2850088164297252950:=0
def tw11430150571386233516:=0
def tw5237185042307474106:=0
def tw9763177212375236137:=0
def tw4995950532424599949:=0
def tw16098372326190327924:=0
def tw13017733623188867696:=0
def tw4356724468261930108:=0
def tw5803218303146679701:=0
def tw8032290631875550546:=0
def tw1575318507254400486:=0
def tw11683895647959727391:=0
def tw16551587672666485473:=0
def tw974796238739399008:=0
def tw7281865128494060972:=0
def tw8433772371542901011:=0
def tw11377296712847479423:=0
def tw4885023164756009798:=0
def tw7036602545558615887:=0
def tw16545573042009541482:=0
def tw17638186082235418449:=0
def tw991383606173169564:=0
def tw6132063690130178097:=0
def tw7260432889967616025:=0
def tw4283563622695807256:=0
def tw3742586799154205497:=0
def tw15021164631923428763:=0
def tw1793278652130624688:=0
def tw15164564427735806345:=0
def tw14283052318601599952:=0
def tw18411278985173488507:=0
def tw12924506888400775780:=0
def tw1170749699237845377:=0
def tw3061251607006712761:=0
def tw8665433506676605073:=0
def tw1815318118811997545:=0
def tw14484370028027378556:=0
def tw15301624451172808077:=0
def tw11536405636498791271:=0
def tw904933384493509020:=0
def tw7158739673612444834:=0
def tw16832000582568753558:=0
def tw5378871949878792006:=0
def tw17082108917256193088:=0
def tw9942655037481767154:=0
def tw16738968356607805361:=0
def tw10879814241435726580:=0
def tw1798158365679044790:=0
def tw14345725062734888918:=0
def tw11161482973652232355:=0
def tw9577340332823632364:=0
def tw8957328860771815955:=0
def tw17481392825796518334:=0
def tw16395669915990867491:=0
def tw385151914984412279:=0
def tw3371090719969313040:=0
def tw1032309995290543186:=0
def tw4720264445826963676:=0
def tw5464332029566797233:=0
def tw13757191681129640493:=0
def tw6669451474058930819:=0
def tw14565741355773658974:=0
def tw3596518270173575609:=0
def tw16817041314381632756:=0
def tw4960891257070882831:=0
def tw2809152047265325696:=0
def tw8734197654075391052:=0
def tw16606858488112380009:=0
def tw15889765123479521573:=0
def tw7765503060954512953:=0
def tw18106153225213831126:=0
def tw17583269628070296465:=0
def tw9649759160517275947:=0
def tw2032118494207556369:=0
def tw10544360837349886717:=0
def tw9019958196144046336:=0
def tw6907664933389707116:=0
def tw3549516714605121275:=0
def tw11938654611131535799:=0
def tw18397614782431689451:=0
def tw15673189530648024757:=0
def tw3936836513424111305:=0
def tw12413245159513855872:=0
def tw8698813745411578191:=0
def tw5726534720209924544:=0
def tw17140527296289260488:=0
def tw15599081694451631273:=0
def tw14122958304805299744:=0
def tw8158113915388008786:=0
def tw64524640189496797:=0
def tw17220311439012463731:=0
def tw13121138595096868662:=0
def tw2858861643199465437:=0
def tw13991225127839826687:=0
def tw827510119068650867:=0
def tw434983968603462:=0
def tw18188072130300607326:=0
def tw1614171108069863899:=0
def tw5591312871352027609:=0
def tw4210328556237081460:=0
def tw11520899923183167530:=0
def tw8570772967219288302:=0
def tw13417130003208617820:=0
def tw2572405381648722872:=0
def tw11968633403159762045:=0
def tw12576508070769926878:=0
def tw14599392647441551600:=0
def tw6396149892632353201:=0
def tw14151930787856775548:=0
def tw6373466838198812784:=0
def tw3043681962007888921:=0
def tw260733183729655504:=0
def tw16393005122637300316:=0
def tw16491200742533998844:=0
end PySem.W.Fast
open PySem PySem.W PyProof.Rows
local macro_rules | `(tactic| walk_at "df")=>`(tactic| exact⟨_,_,_,_,_,_,_,_,_,by k_is,by k_is,by k_is,by k_is⟩)
set_option maxRecDepth 100000 in
set_option maxHeartbeats 0 in
theorem PySem.Challenge.cw_smallrooms_k35_whole_at_whiles_holds : PySem.Challenge.rw_smallrooms_k35_whole_at_whiles.Holds := by
 w_on; o_law; k_head; (case hw=>w_witness2)
 k_fill
 refine SR.lO (l:=PySem.Challenge.rw_smallrooms_k35_whole_at_whiles) 89 85 96 92 rfl rfl (fun w h Y=>PySem.W.km_in_of Y) (fun w=>by kernel_rfl) ?hrec ?htab ?F
 case hrec=>exact List.forall_mem_cons.mpr ⟨Option.isSome_iff_exists.mp (by kernel_rfl),List.forall_mem_cons.mpr ⟨Option.isSome_iff_exists.mp (by kernel_rfl),fun _ h=>nomatch h⟩⟩
 case htab=>exact fun w=>List.forall_mem_cons.mpr ⟨by kernel_rfl,List.forall_mem_cons.mpr ⟨by kernel_rfl,fun _ h=>nomatch h⟩⟩
 case F=>
  intro w mg fa h KX G hmg
  refine' SR.lN KX G hmg ?d0 ?d1 ?d2 ?d3 ?d4 ?a5 ?l5 ?c5 ?k5 ?a6 ?l6 ?c6 ?k6 ?d7 ?d8 ?d9 ?d10 ?d11 ?d12 ?d13 ?d14 ?d15 ?d16 ?d17 ?d18 ?d19 ?d20 ?d21 ?d22 ?d23 ?d24 ?d25 ?d26 ?d27 ?d28 ?d29 ?d30 ?d31 ?d32 ?d33 ?d34 ?d35 ?d36 ?d37 ?d38 ?d39 ?d40 ?d41 ?d42 ?d43 ?d44 ?d45 ?d46 ?d47 ?d48 ?d49 ?d50 ?d51 ?d52 ?d53 ?d54 ?d55 ?d56 ?d57 ?d58 ?d59 ?d60 ?d61 ?d62 ?a63 ?l63 ?c63 ?k63 ?x_Walk ?ma_Walk_init ?ml_Walk_init ?mc_Walk_init ?mf_Walk_init ?mk_Walk_init ?z_all ?z_bool ?z_dict ?z_enumerate ?z_int ?z_isinstance ?z_len ?z_max ?z_min ?z_range ?z_sorted ?z_str ?z_tuple ?z_zip ?pw ?ph ?pz ?phz ?t_Walk ?mk_Walk ?kp_Walk ?ppp ?pnp ?n56
  (case d0=>walk_at "df"); (case d1=>walk_at "df"); (case d2=>walk_at "df"); (case d3=>walk_at "df")
  (case d4=>walk_at "df"); (case a5=>k_is); (case l5=>k_is); (case c5=>k_is)
  (case k5=>k_is); (case a6=>k_is); (case l6=>k_is); (case c6=>k_is)
  (case k6=>k_is); (case d7=>walk_at "df"); (case d8=>walk_at "df"); (case d9=>walk_at "df")
  (case d10=>walk_at "df"); (case d11=>walk_at "df"); (case d12=>walk_at "df"); (case d13=>walk_at "df")
  (case d14=>walk_at "df"); (case d15=>walk_at "df"); (case d16=>walk_at "df"); (case d17=>walk_at "df")
  (case d18=>walk_at "df"); (case d19=>walk_at "df"); (case d20=>walk_at "df"); (case d21=>walk_at "df")
  (case d22=>walk_at "df"); (case d23=>walk_at "df"); (case d24=>walk_at "df"); (case d25=>walk_at "df")
  (case d26=>walk_at "df"); (case d27=>walk_at "df"); (case d28=>walk_at "df"); (case d29=>walk_at "df")
  (case d30=>walk_at "df"); (case d31=>walk_at "df"); (case d32=>walk_at "df"); (case d33=>walk_at "df")
  (case d34=>walk_at "df"); (case d35=>walk_at "df"); (case d36=>walk_at "df"); (case d37=>walk_at "df")
  (case d38=>walk_at "df"); (case d39=>walk_at "df"); (case d40=>walk_at "df"); (case d41=>walk_at "df")
  (case d42=>walk_at "df"); (case d43=>walk_at "df"); (case d44=>walk_at "df"); (case d45=>walk_at "df")
  (case d46=>walk_at "df"); (case d47=>walk_at "df"); (case d48=>walk_at "df"); (case d49=>walk_at "df")
  (case d50=>walk_at "df"); (case d51=>walk_at "df"); (case d52=>walk_at "df"); (case d53=>walk_at "df")
  (case d54=>walk_at "df"); (case d55=>walk_at "df"); (case d56=>walk_at "df"); (case d57=>walk_at "df")
  (case d58=>walk_at "df"); (case d59=>walk_at "df"); (case d60=>walk_at "df"); (case d61=>walk_at "df")
  (case d62=>walk_at "df"); (case a63=>k_is); (case l63=>k_is); (case c63=>k_is)
  (case k63=>k_is); (case x_Walk=>k_is); (case ma_Walk_init=>k_is); (case ml_Walk_init=>k_is)
  (case mc_Walk_init=>k_is); (case mf_Walk_init=>k_is); (case mk_Walk_init=>k_is); (case z_all=>k_is)
  (case z_bool=>k_is); (case z_dict=>k_is); (case z_enumerate=>k_is); (case z_int=>k_is)
  (case z_isinstance=>k_is); (case z_len=>k_is); (case z_max=>k_is); (case z_min=>k_is)
  (case z_range=>k_is); (case z_sorted=>k_is); (case z_str=>k_is); (case z_tuple=>k_is)
  (case z_zip=>k_is); (case pw=>k_is); (case ph=>k_is); (case pz=>k_is)
  (case phz=>k_is); (case t_Walk=>exact⟨⟨by kernel_rfl,by kernel_rfl,by kernel_rfl,by kernel_rfl⟩,by unfold L2.NoAttr; kernel_rfl,by unfold L2.NoAttr; kernel_rfl,by unfold L2.NoAttr; kernel_rfl⟩); (case mk_Walk=>k_is); (case kp_Walk=>k_is)
  (case ppp=>k_is); (case pnp=>k_is); (case n56=>decide)
