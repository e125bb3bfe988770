import PyProof.Rows.All
import Wide.All
import OpenK.AllK
import Wide.FinOn
import Lean
import PyProof.EqAt
import PyProof.EqKinds
import PyProof.TupleCall
import PyProof.AttrMissHeap
import PySem.Challenge.RW_smallrooms_k10_runs
set_option Elab.async false
set_option linter.all false
set_option maxRecDepth 100000
set_option Elab.async false
set_option linter.all false
set_option maxRecDepth 100000
namespace L2
open PySem PySem.Spec PyProof.Rows
abbrev Key := Sum Int Str
def zmz : Key → Value → Bool
 | .inl k, v => Value.isInt k v
 | .inr x, v => Value.isStrOf x v
def q22 (w : World) : Key → Int
 | .inl k => hashInt k
 | .inr x => hashStr w x
theorem z3k : ∀ {k : Key} {v : Value}, zmz k v = true → (∃ i t, k = Sum.inl i ∧ v = Value.int i t) ∨ (∃ x t, k = Sum.inr x ∧ v = Value.str x t)
 | .inl i, v, h => by
  obtain ⟨t, e⟩ := Value.isInt_shape (k := i) (v := v) h
  exact .inl ⟨i, t, rfl, e⟩
 | .inr x, v, h => by
  obtain ⟨t, e⟩ := Value.isStrOf_shape (x := x) (v := v) h
  exact .inr ⟨x, t, rfl, e⟩
theorem zry (i : Int) (t : Tok) : zmz (.inl i) (.int i t) = true := by simp [zmz, Value.isInt]
theorem zrx (x : Str) (t : Tok) : zmz (.inr x) (.str x t) = true := by simp [zmz, Value.isStrOf]
theorem zzb (a b : Int) : decide ((Sum.inl a : Key) = Sum.inl b) = (a == b) := by
 by_cases e : a = b
 ·subst e; simp
 ·have h : ¬ (Sum.inl a : Key) = Sum.inl b := fun q => e (Sum.inl.inj q)
  rw [decide_eq_false h]
  exact (beq_eq_false_iff_ne.mpr e).symm
theorem zz8 (a b : Str) : decide ((Sum.inr a : Key) = Sum.inr b) = decide (a = b) := by
 by_cases e : a = b
 ·subst e; simp
 ·have h : ¬ (Sum.inr a : Key) = Sum.inr b := fun q => e (Sum.inr.inj q)
  rw [decide_eq_false h, decide_eq_false e]
theorem zza (a : Int) (b : Str) : decide ((Sum.inl a : Key) = Sum.inr b) = false := decide_eq_false (fun q => nomatch q)
theorem zz9 (a : Str) (b : Int) : decide ((Sum.inr a : Key) = Sum.inl b) = false := decide_eq_false (fun q => nomatch q)
def z3j (prog : Program) (w : World) : PySem.KeyKind prog w Key where
 is := zmz
 hash := q22 w
 inj := fun v a b ha hb => by
  rcases z3k ha with ⟨i, t, rfl, rfl⟩ | ⟨x, t, rfl, rfl⟩
  ·rcases z3k hb with ⟨j, u, rfl, e⟩ | ⟨y, u, rfl, e⟩
   ·injection e with e1 _; rw [e1]
   ·exact nomatch e
  ·rcases z3k hb with ⟨j, u, rfl, e⟩ | ⟨y, u, rfl, e⟩
   ·exact nomatch e
   ·injection e with e1 _; rw [e1]
 byValue := fun k v h => by
  rcases z3k h with ⟨i, t, rfl, rfl⟩ | ⟨x, t, rfl, rfl⟩ <;> rfl
 pyHash := fun hv h => by
  rcases z3k hv with ⟨i, t, rfl, rfl⟩ | ⟨x, t, rfl, rfl⟩
  ·exact wpAny_pyHash_int h
  ·exact wpAny_pyHash_str h
 eqBool := fun hu hv h => by
  rcases z3k hu with ⟨i, t, rfl, rfl⟩ | ⟨x, t, rfl, rfl⟩
  ·rcases z3k hv with ⟨j, u, rfl, rfl⟩ | ⟨y, u, rfl, rfl⟩
   ·rw [zzb] at h; exact wpAny_eqBool_int h
   ·rw [zza] at h; exact SeqAt.EqAt.int_str i t y u _ _ _ _ h
  ·rcases z3k hv with ⟨j, u, rfl, rfl⟩ | ⟨y, u, rfl, rfl⟩
   ·rw [zz9] at h; exact SeqAt.EqAt.str_int x t j u _ _ _ _ h
   ·rw [zz8] at h; exact wpAny_eqBool_str h
 «strs» := fun k x t v h => by
  rcases z3k h with ⟨i, u, rfl, e⟩ | ⟨y, u, rfl, e⟩
  ·exact nomatch e
  ·injection e with e1 _
   subst e1
   cases v <;> rfl
theorem zmx (prog : Program) (w : World) (i : Int) (t : Tok) : (z3j prog w).is (.inl i) (.int i t) = true := zry i t
theorem zmw (prog : Program) (w : World) (x : Str) (t : Tok) : (z3j prog w).is (.inr x) (.str x t) = true := zrx x t
end L2
namespace L2
open PySem PySem.Spec PyProof.Rows
inductive V where
 | non | bl (b : Bool) | int (i : Int) | str (x : Str) | byt (b : Array UInt8) | flt (b : UInt64) | ref (a : Addr) | ty (n : String)
 deriving DecidableEq
def RelV : V → Value → Prop
 | .non, u => u = Value.none
 | .bl b, u => u = Value.bool b
 | .int i, u => ∃ t, u = Value.int i t
 | .str x, u => ∃ t, u = Value.str x t
 | .byt b, u => ∃ t, u = Value.bytes b t
 | .flt b, u => ∃ t, u = Value.float b t
 | .ref a, u => u = Value.ref a
 | .ty n, u => u = Value.type n
abbrev Vals : List V → List Value → Prop := Paired RelV
theorem Vals.length {xs : List V} {us : List Value} (r : Vals xs us) : xs.length = us.length := Paired.length r
theorem Vals.get : ∀ {xs : List V} {us : List Value} {i : Nat} {x : V}, Vals xs us → xs[i]? = some x → ∃ u, us[i]? = some u ∧ RelV x u
 | _, _, _, _, .nil, e => by simp at e
 | _, _, 0, _, .cons r _, e => by simp at e; subst e; exact ⟨_, rfl, r⟩
 | _, _, i + 1, x, .cons _ t, e => by
  obtain ⟨u, h1, h2⟩ := Vals.get (i := i) (x := x) t (by simpa using e)
  exact ⟨u, by simpa using h1, h2⟩
theorem Vals.set {x : V} {u : Value} (r : RelV x u) : ∀ {xs : List V} {us : List Value} (i : Nat), Vals xs us → Vals (xs.set i x) (us.set i u)
 | _, _, _, .nil => .nil
 | _, _, 0, .cons _ t => .cons r t
 | _, _, i + 1, .cons q t => .cons q (Vals.set r i t)
theorem Vals.append : ∀ {xs ys : List V} {us ws : List Value}, Vals xs us → Vals ys ws → Vals (xs ++ ys) (us ++ ws)
 | _, _, _, _, .nil, s => s
 | _, _, _, _, .cons r t, s => .cons r (Vals.append t s)
theorem Vals.take : ∀ {xs : List V} {us : List Value} (n : Nat), Vals xs us → Vals (xs.take n) (us.take n)
 | _, _, 0, _ => .nil
 | _, _, _ + 1, .nil => .nil
 | _, _, n + 1, .cons r t => .cons r (Vals.take n t)
theorem Vals.drop : ∀ {xs : List V} {us : List Value} (n : Nat), Vals xs us → Vals (xs.drop n) (us.drop n)
 | _, _, 0, r => r
 | _, _, _ + 1, .nil => .nil
 | _, _, n + 1, .cons _ t => Vals.drop n t
def RelO : Option V → Option Value → Prop
 | some v, some u => RelV v u
 | none, none => True
 | _, _ => False
def KV {κ : Type} : List (κ × V) → List (κ × Value) → Prop := Paired fun (p : κ × V) (q : κ × Value) => p.1 = q.1 ∧ RelV p.2 q.2
def kV : Key → V
 | .inl i => .int i
 | .inr x => .str x
inductive HO where
 | lst (xs : List V)
 | tup (xs : List V)
 | dK (kvs : List (Key × V)) | dT (kvs : List (List Key × V))
 | set (S : Int → Bool) (n : Nat)
 | ins (C dx : Addr) (fs : List (Str × V))
 | own (x : Addr)
 | xd (fs : List (Str × V))
 | met (f x : Addr)
 | rng (lo hi : Int)
 | frz (o : Obj) (u : HO)
 | tbl (ps : Array Value)
 | ext (φ : Heap → Prop)
abbrev Hp := Addr → Option HO
def upd (H : Hp) (a : Addr) (o : HO) : Hp := fun b => if b = a then some o else H b
theorem z01 {H : Hp} {a : Addr} {o : HO} : upd H a o a = some o := by unfold upd; rw [if_pos rfl]
theorem z0e {H : Hp} {a b : Addr} {o : HO} (h : b ≠ a) : upd H a o b = H b := by unfold upd; rw [if_neg h]
theorem z77 {H : Hp} {a b : Addr} {o u : HO} (h : H a = some o) (h' : H b = some u) (d : o ≠ u) : a ≠ b := by
 intro e; subst e; rw [h] at h'; exact d (Option.some.inj h')
theorem z0h {H : Hp} {a b : Addr} {o : HO} (h : H a = some o) (h' : H b = none) : a ≠ b := by
 intro e; subst e; rw [h] at h'; cases h'
section
variable (P : Program) (w : World)
def ObjOk (H : Hp) (h : Heap) (a : Addr) : HO → Prop
 | .lst xs => xs.length ≤ sizeLine ∧ ∃ (its : List Value) (n : Nat), Vals xs its ∧ h.get? a = some { cls := .type "list", data := .seq its.toArray n }
 | .tup xs => xs.length ≤ sizeLine ∧ ∃ its : List Value, Vals xs its ∧ IsTup h a its.toArray
 | .dK kvs => kvs.length ≤ sizeLine ∧ (a == sysModules) = false ∧ ∃ vs, KV kvs vs ∧ h.DictOf (z3j P w) a vs
 | .dT kvs => kvs.length ≤ sizeLine ∧ (a == sysModules) = false ∧ ∃ xs : List (List Key × Addr × Value),
   Paired (fun (p : List Key × V) (q : List Key × Addr × Value) => p.1 = q.1 ∧ H q.2.1 = some (.tup (p.1.map kV)) ∧ RelV p.2 q.2.2) kvs xs ∧
   ∃ o es ep, h.get? a = some o ∧ o.ExactDict ∧ o.data = .dict es ep ∧ es.toList = xs.map (entryOfKey (tupleKind (z3j P w))) ∧ (xs.map (·.1)).Nodup
 | .set S n => h.SetOf (intKind P w) a S n
 | .ins C dx fs => H dx = some (.own a) ∧ fs.length ≤ 1000 ∧ dx ≠ a ∧ h.get? a = some (PySem.W.instObj C dx) ∧
   ∃ mA, h.Ns1 dx mA ∧ (∀ f, RelO (fs.lookup f) (mA f)) ∧ PySem.Within mA (fs.map (·.1))
 | .own _ => ∃ o, h.get? a = some o
 | .xd fs => ∃ mA, h.Ns1 a mA ∧ ∀ f, RelO (fs.lookup f) (mA f)
 | .rng lo hi => ∃ t u v, h.get? a = some { cls := .type "range", data := .fields #[.int lo t, .int hi u, .int 1 v] }
 | .frz o u => h.get? a = some o ∧ ObjOk H h a u
 | .tbl ps => h.get? a = some { cls := .none, data := .fields ps }
 | .met f x => h.get? a = some (PySem.W.methodObj (.ref f) (.ref x))
 | .ext φ => φ h ∧ (∃ o, h.get? a = some o) ∧ ∀ h1 h2 : Heap, φ h1 → (∀ o, h1.get? a = some o → h2.get? a = some o) → φ h2
def HOk (H : Hp) (h : Heap) : Prop := ∀ a o, H a = some o → ObjOk P w H h a o
end
section
variable {P : Program} {w : World} {H H' : Hp} {h h' : Heap} {a : Addr} {o : HO}
theorem ObjOk.lt (x : ObjOk P w H h a o) : a < h.objs.size := by
 cases o with
 | lst xs => obtain ⟨_, _, _, _, e⟩ := x; exact Heap.lt_size e
 | tup xs => obtain ⟨_, _, _, p⟩ := x; exact p.lt
 | dK kvs => obtain ⟨_, _, _, _, o, _, _, e, _⟩ := x; exact Heap.lt_size e
 | dT kvs => obtain ⟨_, _, _, _, o, _, _, e, _⟩ := x; exact Heap.lt_size e
 | set S n => obtain ⟨o, _, _, _, e, _⟩ := x; exact Heap.lt_size e
 | ins C dx fs => obtain ⟨_, _, _, e, _⟩ := x; exact Heap.lt_size e
 | own y => obtain ⟨_, e⟩ := x; exact Heap.lt_size e
 | xd fs => obtain ⟨_, ⟨_, _, _, e, _⟩, _⟩ := x; exact Heap.lt_size e
 | rng lo hi => obtain ⟨_, _, _, e⟩ := x; exact Heap.lt_size e
 | frz ob u => obtain ⟨e, _⟩ := x; exact Heap.lt_size e
 | tbl ps => exact Heap.lt_size (show h.get? a = some _ from x)
 | met f y => exact Heap.lt_size (show h.get? a = some _ from x)
 | ext φ => obtain ⟨_, ⟨_, e⟩, _⟩ := x; exact Heap.lt_size e
theorem Paired.mapP {α β : Type} {F G : α → β → Prop} : ∀ {l₁ : List α} {l₂ : List β}, Paired F l₁ l₂ → (∀ a b, F a b → G a b) → Paired G l₁ l₂
 | _, _, .nil, _ => .nil
 | _, _, .cons r t, f => .cons (f _ _ r) (Paired.mapP t f)
theorem ObjOk.stay (x : ObjOk P w H h a o) (k : ∀ b u, (b = a ∨ H b = some (.own a)) → h.get? b = some u → h'.get? b = some u)
  (ho : ∀ b, H b = some (.own a) → H' b = some (.own a)) (ht : ∀ b xs, H b = some (.tup xs) → H' b = some (.tup xs)) : ObjOk P w H' h' a o := by
 induction o with
 | lst xs => obtain ⟨z, its, n, r, e⟩ := x; exact ⟨z, its, n, r, k _ _ (.inl rfl) e⟩
 | tup xs => obtain ⟨z, its, r, ob, e, c⟩ := x; exact ⟨z, its, r, ob, k _ _ (.inl rfl) e, c⟩
 | dK kvs => obtain ⟨z, y, vs, r, ob, es, ep, e, c⟩ := x; exact ⟨z, y, vs, r, ob, es, ep, k _ _ (.inl rfl) e, c⟩
 | dT kvs =>
  obtain ⟨z, y, xs, r, ob, es, ep, e, c⟩ := x
  exact ⟨z, y, xs, Paired.mapP r fun p q z => ⟨z.1, ht _ _ z.2.1, z.2.2⟩, ob, es, ep, k _ _ (.inl rfl) e, c⟩
 | set S n => obtain ⟨ob, es, ep, t, e, c⟩ := x; exact ⟨ob, es, ep, t, k _ _ (.inl rfl) e, c⟩
 | ins C dx fs =>
  obtain ⟨d, z, ne, e, mA, ⟨od, es, ep, e2, c⟩, r⟩ := x
  exact ⟨ho _ d, z, ne, k _ _ (.inl rfl) e, mA, ⟨od, es, ep, k _ _ (.inr d) e2, c⟩, r⟩
 | own y => obtain ⟨ob, e⟩ := x; exact ⟨ob, k _ _ (.inl rfl) e⟩
 | xd fs => obtain ⟨mA, ⟨od, es, ep, e, c⟩, r⟩ := x; exact ⟨mA, ⟨od, es, ep, k _ _ (.inl rfl) e, c⟩, r⟩
 | rng lo hi => obtain ⟨t, u, v, e⟩ := x; exact ⟨t, u, v, k _ _ (.inl rfl) e⟩
 | frz ob u ih => obtain ⟨e, q⟩ := x; exact ⟨k _ _ (.inl rfl) e, ih q⟩
 | tbl ps =>
  have e : h.get? a = some { cls := .none, data := .fields ps } := x
  show h'.get? a = some { cls := .none, data := .fields ps }
  exact k a _ (.inl rfl) e
 | met f y =>
  have e : h.get? a = some (PySem.W.methodObj (.ref f) (.ref y)) := x
  show h'.get? a = some (PySem.W.methodObj (.ref f) (.ref y))
  exact k a _ (.inl rfl) e
 | ext φ => obtain ⟨p, ⟨o, e⟩, st⟩ := x; exact ⟨st _ _ p fun o q => k _ _ (.inl rfl) q, ⟨o, k _ _ (.inl rfl) e⟩, st⟩
theorem HOk.lt (x : HOk P w H h) (e : H a = some o) : a < h.objs.size := (x a o e).lt
theorem HOk.fresh (x : HOk P w H h) (e : h.objs.size ≤ a) : H a = none := by
 cases q : H a with
 | none => rfl
 | some u => exact absurd (Nat.lt_of_lt_of_le (x.lt q) e) (Nat.lt_irrefl _)
theorem HOk.kept (x : HOk P w H h) (k : ∀ b u, h.get? b = some u → h'.get? b = some u) : HOk P w H h' := fun a o e =>
 (x a o e).stay (fun b u _ q => k b u q) (fun _ q => q) fun _ _ q => q
theorem HOk.laid (x : HOk P w H h) (k : ∀ b u, h.get? b = some u → h'.get? b = some u) (hp : h.objs.size ≤ a) (new : ObjOk P w (upd H a o) h' a o) : HOk P w (upd H a o) h' := fun b u e => by
 have hn := x.fresh hp
 by_cases hb : b = a
 ·subst hb; rw [z01] at e; cases e; exact new
 ·rw [z0e hb] at e
  exact (x b u e).stay (fun c v _ q => k c v q) (fun c q => by rw [z0e (z0h q hn)]; exact q) fun c xs q => by rw [z0e (z0h q hn)]; exact q
end
def Rd (H : Hp) (a : Addr) (u : HO) : Prop := H a = some u ∨ ∃ o, H a = some (.frz o u)
theorem Rd.of {H : Hp} {a : Addr} {u : HO} (h : H a = some u) : Rd H a u := .inl h
theorem Rd.ok {P : Program} {w : World} {H : Hp} {h : Heap} {a : Addr} {u : HO} (r : Rd H a u) (x : HOk P w H h) : ObjOk P w H h a u := by
 rcases r with r | ⟨o, r⟩
 ·exact x a u r
 ·obtain ⟨_, q⟩ := x a _ r
  exact q
def Mut : Option HO → Prop
 | some (.lst _) => True
 | some (.dK _) => True
 | some (.dT _) => True
 | some (.set _ _) => True
 | some (.ins _ _ _) => True
 | some (.ext _) => True
 | _ => False
section
variable {P : Program} {w : World} {H : Hp} {h h' : Heap} {x e : Addr} {o' : HO}
theorem HOk.write (ok : HOk P w H h) (mu : Mut (H x)) (he : e = x ∨ H e = some (.own x)) (k : ∀ b u, b ≠ e → h.get? b = some u → h'.get? b = some u) (heo : ∃ u, h'.get? e = some u)
  (new : ObjOk P w (upd H x o') h' x o') : HOk P w (upd H x o') h' := fun b u q => by
 have nown : ∀ c y, H c = some (.own y) → c ≠ x := fun c y r z => by subst z; rw [r] at mu; exact mu
 have ntup : ∀ c xs, H c = some (.tup xs) → c ≠ x := fun c xs r z => by subst z; rw [r] at mu; exact mu
 by_cases hb : b = x
 ·subst hb; rw [z01] at q; cases q; exact new
 ·rw [z0e hb] at q
  by_cases hbe : b = e
  ·have q' : H b = some (.own x) := by
    rcases he with z | z
    ·exact absurd (hbe.trans z) hb
    ·rw [hbe]; exact z
   rw [q] at q'; cases q'
   obtain ⟨v, hv⟩ := heo
   exact ⟨v, by rw [hbe]; exact hv⟩
  ·refine (ok b u q).stay (fun c v hc r => k c v ?_ r) (fun c r => by rw [z0e (nown c b r)]; exact r) fun c xs r => by rw [z0e (ntup c xs r)]; exact r
   rcases hc with rfl | hc
   ·exact hbe
   ·rintro rfl
    rcases he with z | z
    ·exact nown c b hc z
    ·rw [hc] at z; cases z; exact hb rfl
end
structure Un (fs ex : List Addr) (H H' : Hp) (h h' : Heap) : Prop where
 keep : ∀ b o, h.get? b = some o → H b = none → b ∉ fs → b ∉ ex → h'.get? b = some o
 slot : ∀ b o, h.get? b = some o → H b = none → b ∈ fs → b ∉ ex → ∃ sl, h'.get? b = some { o with slots := sl }
 free : ∀ b o, h.get? b = some o → H b = none → b ∉ ex → H' b = none
 there : ∀ b o, h.get? b = some o → b ∉ ex → ∃ o', h'.get? b = some o'
 tups : ∀ b xs, H b = some (.tup xs) → H' b = some (.tup xs)
 frzs : ∀ b o u, H b = some (.frz o u) → H' b = some (.frz o u)
 tbls : ∀ b ps, H b = some (.tbl ps) → ∃ more, H' b = some (.tbl (ps ++ more))
section
variable {fs fs' ex ex' : List Addr} {H H1 H2 : Hp} {h h1 h2 h' : Heap} {a x e : Addr} {o : HO}
theorem Un.any (u : Un fs ex H H1 h h1) {b : Addr} {ob : Obj} (q : h.get? b = some ob) (n : H b = none) (hx : b ∉ ex) : ∃ sl, h1.get? b = some { ob with slots := sl } := by
 by_cases hb : b ∈ fs
 ·exact u.slot b ob q n hb hx
 ·exact ⟨ob.slots, u.keep b ob q n hb hx⟩
theorem Un.trans (a : Un fs ex H H1 h h1) (b : Un fs ex H1 H2 h1 h2) : Un fs ex H H2 h h2 where
 keep := fun c ob q n hc hx => b.keep c ob (a.keep c ob q n hc hx) (a.free c ob q n hx) hc hx
 slot := fun c ob q n hc hx => by
  obtain ⟨sl, e1⟩ := a.slot c ob q n hc hx
  obtain ⟨sl', e2⟩ := b.slot c _ e1 (a.free c ob q n hx) hc hx
  exact ⟨sl', e2⟩
 free := fun c ob q n hx => by
  obtain ⟨o', e1⟩ := a.there c ob q hx
  exact b.free c o' e1 (a.free c ob q n hx) hx
 there := fun c ob q hx => by
  obtain ⟨o', e1⟩ := a.there c ob q hx
  exact b.there c o' e1 hx
 tups := fun c xs q => b.tups c xs (a.tups c xs q)
 frzs := fun c ob xs q => b.frzs c ob xs (a.frzs c ob xs q)
 tbls := fun c ps q => by
  obtain ⟨m1, e1⟩ := a.tbls c ps q
  obtain ⟨m2, e2⟩ := b.tbls c _ e1
  exact ⟨m1 ++ m2, by rw [e2, Array.append_assoc]⟩
theorem Un.kept (k : ∀ b u, h.get? b = some u → h'.get? b = some u) : Un fs ex H H h h' :=
 ⟨fun b ob q _ _ _ => k b ob q, fun b ob q _ _ _ => ⟨ob.slots, k b ob q⟩, fun _ _ _ n _ => n, fun b ob q _ => ⟨ob, k b ob q⟩, fun _ _ q => q, fun _ _ _ q => q, fun _ ps q => ⟨#[], by rw [q]; simp⟩⟩
theorem Un.refl : Un fs ex H H h h := Un.kept fun _ _ q => q
theorem Un.laid (k : ∀ b u, h.get? b = some u → h'.get? b = some u) (hp : h.objs.size ≤ a) (hn : H a = none) : Un fs ex H (upd H a o) h h' where
 keep := fun b u q _ _ _ => k b u q
 slot := fun b u q _ _ _ => ⟨u.slots, k b u q⟩
 free := fun b u q n _ => by rw [z0e (Nat.ne_of_lt (Nat.lt_of_lt_of_le (Heap.lt_size q) hp))]; exact n
 there := fun b u q _ => ⟨u, k b u q⟩
 tups := fun b xs q => by rw [z0e (z0h q hn)]; exact q
 frzs := fun b u xs q => by rw [z0e (z0h q hn)]; exact q
 tbls := fun b ps q => ⟨#[], by rw [z0e (z0h q hn), q]; simp⟩
theorem Un.write (mu : Mut (H x)) (he : e = x ∨ H e = some (.own x)) (k : ∀ b u, b ≠ e → h.get? b = some u → h'.get? b = some u) (heo : ∃ u, h'.get? e = some u) : Un fs ex H (upd H x o) h h' := by
 have hx : ∀ b, H b = none → b ≠ x := fun b n z => by subst z; rw [n] at mu; exact mu
 have hb : ∀ b, H b = none → b ≠ e := fun b n z => by
  subst z
  rcases he with r | r
  ·exact hx b n r
  ·rw [n] at r; cases r
 have hm : ∀ b u, H b = some u → ¬ Mut (some u) → b ≠ x := fun b u q nm z => by subst z; rw [q] at mu; exact nm mu
 refine ⟨fun b u q n _ _ => k b u (hb b n) q, fun b u q n _ _ => ⟨u.slots, k b u (hb b n) q⟩, fun b u q n _ => by rw [z0e (hx b n)]; exact n, fun b u q _ => ?_,
  fun b xs q => by rw [z0e (hm b _ q fun z => z)]; exact q, fun b u xs q => by rw [z0e (hm b _ q fun z => z)]; exact q, fun b ps q => ⟨#[], by rw [z0e (hm b _ q fun z => z), q]; simp⟩⟩
 by_cases hbe : b = e
 ·subst hbe; exact heo
 ·exact ⟨u, k b u hbe q⟩
end
def trk (h : Heap) (H : Hp) : List Addr := (List.range h.objs.size).filter fun a => (H a).isSome
def zn1 (h : Heap) (H : Hp) : Heap := PySem.W.hideAll h (trk h H)
theorem zl8 (h : Heap) (H : Hp) : (zn1 h H).objs.size = h.objs.size := PySem.W.hideAll_size _ _
theorem zoi {h : Heap} {H : Hp} {b : Addr} {o : Obj} (e : h.get? b = some o) (n : H b = none) : (zn1 h H).get? b = some o :=
 PySem.W.hideAll_get _ e fun hm => by
  have q : (H b).isSome = true := (List.mem_filter.mp hm).2
  rw [n] at q; simp at q
theorem zrl {h : Heap} {H : Hp} {b : Addr} {o : Obj} (e : (zn1 h H).get? b = some o) : h.get? b = some o ∧ H b = none := by
 have e' : h.get? b = some o := PySem.W.of_hideAll (trk h H) e
 refine ⟨e', ?_⟩
 cases q : H b with
 | none => rfl
 | some x =>
  have hm : b ∈ trk h H := List.mem_filter.mpr ⟨List.mem_range.mpr (Heap.lt_size e'), by simp [q]⟩
  have z : (zn1 h H).get? b = none := PySem.W.hideAll_none (trk h H) hm
  rw [z] at e; cases e
def zxg (g h : Heap) (L : Addr) : List (Addr × Obj) := (List.range h.objs.size).filterMap fun a => if a = L ∨ (g.get? a).isSome = true then none else (h.get? a).map fun o => (a, o)
def zti (g h : Heap) (L d : Addr) : List (Addr × Obj) := (zxg g h L).filter fun p => decide (p.1 ≠ d)
end L2
namespace L2
open PySem PySem.Spec PyProof.Rows
structure Mod (K : PySem.W.Frag) (mg : Str → Option Value) (base : Heap) : Prop where
 kin : K.In base
 glob : base.Ns mainGlobals mg
 blt : ∃ mb, base.Ns builtinsNs mb ∧ ∀ x : Str, x ≠ "__name__" → mb x = bootBuiltins x
 nolimit : base.NoLimit
structure Cx where
 prog : Program
 w : World
 K : PySem.W.Frag
 mg : Str → Option Value
 base : Heap
 A : Around
 N : List Str
 s₀ : Shared
 H₀ : Hp
 env : Env
 outer : List Env
 stack : List Env
 ex : List Addr
 fn : Str → Bool
 calm : Bool
 pn : List (Addr × Obj)
 xe : Value → Shared → Prop
def frs (l : List Env) : List Addr := l.filterMap (·.frame)
abbrev Cx.fs (X : Cx) : List Addr := frs X.outer
def Vis (sc : Scope) (x : Str) : Prop := sc.names.lookup x = some .local ∨ sc.names.lookup x = some .cell ∨ sc.names.lookup x = some .free
def Loc (sc : Scope) (x : Str) : Prop := sc.names.lookup x = some .local ∨ sc.names.lookup x = some .cell
def Look (env : Env) (h : Heap) (m : Str → Option Value) (x : Str) (u : Value) : Prop :=
 (env.kindOf x = some .local ∧ m x = some u) ∨ ((env.kindOf x = some .cell ∨ env.kindOf x = some .free) ∧ ∃ c, env.cells.lookup x = some c ∧ h.IsCell c (some u))
structure Cx.Ok (X : Cx) : Prop where
 mod : Mod X.K X.mg X.base
 kind : X.env.scope.kind = .function
 glob : X.env.globals = mainGlobals
 blt : X.env.builtins = builtinsNs
 above : X.s₀.heap.objs.size ≤ X.env.locals
 inj : ∀ x y c, X.env.cells.lookup x = some c → X.env.cells.lookup y = some c → x = y
 has : ∀ x, (X.env.kindOf x = some .cell ∨ X.env.kindOf x = some .free) → ∃ c, X.env.cells.lookup x = some c
 cab : ∀ x c, X.fn x = true → X.env.cells.lookup x = some c → X.s₀.heap.objs.size ≤ c
 hd : X.calm = true → X.A.handled = none
 frames : X.A.frames = some X.stack
 stk : X.stack = X.outer ∨ (X.stack = X.env :: X.outer ∧ X.env.frame = some X.env.locals)
 exf : ∀ b ∈ X.ex, b ≠ X.env.locals ∧ ∀ x c, X.env.cells.lookup x = some c → c ≠ b
 bs : ∀ b o, X.base.get? b = some o → X.s₀.heap.get? b = some o ∧ X.H₀ b = none
 bsz : X.base.objs.size ≤ X.s₀.heap.objs.size
 noex : ∀ b o, X.base.get? b = some o → b ∉ X.ex
 exfs : ∀ b ∈ X.ex, b ∉ X.fs
 funs : X.s₀.heap.FunFrames X.base X.outer
 frf : ∀ b ∈ X.fs, X.H₀ b = none
structure Inv (X : Cx) (pins : List (Addr × Obj)) (σ : List (Option V)) (H : Hp) (s : Shared) : Prop where
 ok : X.Ok
 os : s.os = X.s₀.os
 bare : AllBare s.gens
 base : Un X.fs X.ex X.H₀ H X.s₀.heap s.heap
 loc : ∃ m, s.heap.Ns X.env.locals m ∧ ∀ (i : Nat) (x : Str) (v : V), X.N[i]? = some x → σ[i]? = some (some v) → Vis X.env.scope x → ∃ u, RelV v u ∧ Look X.env s.heap m x u
 cell : ∀ x c, X.env.cells.lookup x = some c → ∃ v, s.heap.IsCell c v
 free : H X.env.locals = none
 freeC : ∀ x c, X.env.cells.lookup x = some c → H c = none
 pin : ∀ p ∈ X.pn ++ pins, s.heap.get? p.1 = some p.2 ∧ H p.1 = none ∧ p.1 ≠ X.env.locals ∧ p.1 ∉ X.fs ∧ ∀ v, p.2.data ≠ .cell v
 hok : HOk X.prog X.w H s.heap
 len : σ.length = X.N.length
section
variable {X : Cx} {pins : List (Addr × Obj)} {σ : List (Option V)} {H H' : Hp} {s : Shared} {h' : Heap}
theorem Cx.Ok.nofr (ok : X.Ok) {b : Addr} {o : Obj} (e : X.base.get? b = some o) : b ∉ X.fs := fun hb => by
 have := (ok.funs.mem hb).1
 rw [e] at this; cases this
theorem Inv.bs (I : Inv X pins σ H s) : ∀ b o, X.base.get? b = some o → s.heap.get? b = some o ∧ H b = none := fun b o e =>
 ⟨I.base.keep b o (I.ok.bs b o e).1 (I.ok.bs b o e).2 (I.ok.nofr e) (I.ok.noex b o e), I.base.free b o (I.ok.bs b o e).1 (I.ok.bs b o e).2 (I.ok.noex b o e)⟩
theorem Inv.bk (I : Inv X pins σ H s) : ∀ b o, X.base.get? b = some o → s.heap.get? b = some o := fun b o e => (I.bs b o e).1
theorem Inv.mod (I : Inv X pins σ H s) : Mod X.K X.mg X.base := I.ok.mod
theorem Inv.kIn (I : Inv X pins σ H s) : X.K.In s.heap := I.ok.mod.kin.keeps I.bk
theorem Inv.nolimit (I : Inv X pins σ H s) : s.heap.NoLimit := I.ok.mod.nolimit.keeps I.bk
theorem Inv.lt (I : Inv X pins σ H s) : X.env.locals < s.heap.objs.size := let ⟨_, hn, _⟩ := I.loc; hn.lt
theorem Inv.sz (I : Inv X pins σ H s) : X.s₀.heap.objs.size ≤ s.heap.objs.size := Nat.le_trans I.ok.above (Nat.le_of_lt I.lt)
theorem Inv.nofs (I : Inv X pins σ H s) {a : Addr} (h : s.heap.objs.size ≤ a) : a ∉ X.fs := fun hb => by
 obtain ⟨_, o, ho, _⟩ := I.ok.funs.mem hb
 exact absurd (Nat.lt_of_lt_of_le (Heap.lt_size ho) (Nat.le_trans I.sz h)) (Nat.lt_irrefl _)
theorem Inv.cne (I : Inv X pins σ H s) : ∀ x c, X.env.cells.lookup x = some c → c ≠ X.env.locals := fun x c e z => by
 obtain ⟨v, o, ho, hd⟩ := I.cell x c e
 obtain ⟨m, ⟨o', es, ep, ho', hd', _⟩, _⟩ := I.loc
 rw [z, ho'] at ho; cases ho; rw [hd'] at hd; cases hd
theorem Inv.funs (I : Inv X pins σ H s) : s.heap.FunFrames X.base X.outer := by
 have all : ∀ (l : List Env), (∀ b ∈ frs l, b ∈ X.fs) → X.s₀.heap.FunFrames X.base l → s.heap.FunFrames X.base l := by
  intro l
  induction l with
  | nil => intro _ _; trivial
  | cons env r ih =>
   intro hs hl
   obtain ⟨hk, ⟨L, o, hf, hn, ho, hd⟩, hr⟩ := hl
   have hL : L ∈ X.fs := hs L (by unfold frs; rw [List.filterMap_cons, hf]; exact List.mem_cons_self)
   obtain ⟨sl, e⟩ := I.base.slot L o ho (I.ok.frf L hL) hL fun z => I.ok.exfs L z hL
   exact ⟨hk, ⟨L, _, hf, hn, e, hd⟩, ih (fun b hb => hs b (by unfold frs; rw [List.filterMap_cons, hf]; exact List.mem_cons_of_mem _ hb)) hr⟩
 exact all X.outer (fun _ hb => hb) I.ok.funs
theorem Inv.stack (I : Inv X pins σ H s) : s.heap.FunFrames X.base X.stack := by
 rcases I.ok.stk with e | ⟨e, hf⟩
 ·rw [e]; exact I.funs
 ·rw [e]
  obtain ⟨m, hn, _⟩ := I.loc
  refine .cons (by rw [I.ok.kind]; decide) hf hn ?_ I.funs
  exact Heap.get?_none_of_le (Nat.le_trans I.ok.bsz I.ok.above)
theorem Inv.stkSub (I : Inv X pins σ H s) : ∀ b ∈ frs X.stack, b ∈ X.env.locals :: X.fs := fun b hb => by
 rcases I.ok.stk with e | ⟨e, hf⟩
 ·rw [e] at hb; exact List.mem_cons_of_mem _ hb
 ·rw [e] at hb
  unfold frs at hb
  rw [List.filterMap_cons, hf] at hb
  exact hb
theorem Inv.stkFree (I : Inv X pins σ H s) : ∀ b ∈ frs X.stack, H b = none := fun b hb => by
 rcases List.mem_cons.mp (I.stkSub b hb) with e | hb
 ·rw [e]; exact I.free
 ·obtain ⟨_, o, ho, _⟩ := I.ok.funs.mem hb
  exact I.base.free b o ho (I.ok.frf b hb) fun z => I.ok.exfs b z hb
theorem Inv.step {g' : Array GenState} {t' : Nat} {d' : Drawn} {ch : List Addr} (I : Inv X pins σ H s)
  (hch : ∀ b ∈ ch, (b ∈ X.ex ∨ X.s₀.heap.objs.size ≤ b) ∧ b ≠ X.env.locals ∧ (∀ x c, X.env.cells.lookup x = some c → c ≠ b) ∧ ∀ p ∈ X.pn ++ pins, p.1 ≠ b)
  (keep : ∀ b o, b ≠ X.env.locals → b ∉ X.fs → b ∉ ch → s.heap.get? b = some o → H b = none → h'.get? b = some o)
  (slot : ∀ b o, b ≠ X.env.locals → b ∈ X.fs → b ∉ ch → s.heap.get? b = some o → H b = none → ∃ sl, h'.get? b = some { o with slots := sl }) (free : ∀ b o, b ∉ ch → s.heap.get? b = some o → H b = none → H' b = none)
  (there : ∀ b o, b ∉ ch → s.heap.get? b = some o → ∃ o', h'.get? b = some o')
  (tups : ∀ b xs, H b = some (.tup xs) → H' b = some (.tup xs)) (frzs : ∀ b o u, H b = some (.frz o u) → H' b = some (.frz o u)) (tbls : ∀ b ps, H b = some (.tbl ps) → ∃ more, H' b = some (.tbl (ps ++ more)))
  (ns : ∀ m, s.heap.Ns X.env.locals m → h'.Ns X.env.locals m) (hok : HOk X.prog X.w H' h') (hg : AllBare g') :
  Inv X pins σ H' { s with heap := h', gens := g', drawn := d', toks := t' } := by
 have neL : ∀ b o, X.s₀.heap.get? b = some o → b ≠ X.env.locals := fun b o e => Nat.ne_of_lt (Nat.lt_of_lt_of_le (Heap.lt_size e) I.ok.above)
 have neC : ∀ b o, X.s₀.heap.get? b = some o → b ∉ X.ex → b ∉ ch := fun b o e hx hb => by
  rcases (hch b hb).1 with z | z
  ·exact hx z
  ·exact absurd (Nat.lt_of_lt_of_le (Heap.lt_size e) z) (Nat.lt_irrefl _)
 have cellK : ∀ x c, X.env.cells.lookup x = some c → ∀ v, s.heap.IsCell c v → h'.IsCell c v := fun x c e v ⟨o, ho, hd⟩ => by
  have nch : c ∉ ch := fun z => (hch c z).2.2.1 x c e rfl
  by_cases hc : c ∈ X.fs
  ·obtain ⟨sl, q⟩ := slot c o (I.cne x c e) hc nch ho (I.freeC x c e)
   exact ⟨_, q, hd⟩
  ·exact ⟨o, keep c o (I.cne x c e) hc nch ho (I.freeC x c e), hd⟩
 refine ⟨I.ok, I.os, hg, ⟨fun b o e n hb hx => ?_, fun b o e n hb hx => ?_, fun b o e n hx => ?_, fun b o e hx => ?_, fun b xs e => tups b xs (I.base.tups b xs e), fun b o xs e => frzs b o xs (I.base.frzs b o xs e), fun b ps e => ?_⟩, ?_, fun x c e => ?_, ?_, fun x c e => ?_, fun p hp => ?_, hok, I.len⟩
 ·exact keep b o (neL b o e) hb (neC b o e hx) (I.base.keep b o e n hb hx) (I.base.free b o e n hx)
 ·obtain ⟨sl, e1⟩ := I.base.slot b o e n hb hx
  obtain ⟨sl', e2⟩ := slot b _ (neL b o e) hb (neC b o e hx) e1 (I.base.free b o e n hx)
  exact ⟨sl', e2⟩
 ·obtain ⟨o', e1⟩ := I.base.there b o e hx
  exact free b o' (neC b o e hx) e1 (I.base.free b o e n hx)
 ·obtain ⟨o', e1⟩ := I.base.there b o e hx
  exact there b o' (neC b o e hx) e1
 ·obtain ⟨m1, e1⟩ := I.base.tbls b ps e
  obtain ⟨m2, e2⟩ := tbls b _ e1
  exact ⟨m1 ++ m2, by rw [e2, Array.append_assoc]⟩
 ·obtain ⟨m, hn, hl⟩ := I.loc
  refine ⟨m, ns m hn, fun i x v e1 e2 e3 => ?_⟩
  obtain ⟨u, r, l⟩ := hl i x v e1 e2 e3
  refine ⟨u, r, ?_⟩
  rcases l with l | ⟨k, c, e, z⟩
  ·exact .inl l
  ·exact .inr ⟨k, c, e, cellK x c e _ z⟩
 ·obtain ⟨v, z⟩ := I.cell x c e
  exact ⟨v, cellK x c e v z⟩
 ·obtain ⟨m, ⟨o, _, _, ho, _⟩, _⟩ := I.loc
  exact free _ o (fun z => (hch _ z).2.1 rfl) ho I.free
 ·obtain ⟨v, o, ho, hd⟩ := I.cell x c e
  exact free c o (fun z => (hch c z).2.2.1 x c e rfl) ho (I.freeC x c e)
 ·obtain ⟨e, n, ne, nf, d⟩ := I.pin p hp
  have nch : p.1 ∉ ch := fun z => (hch p.1 z).2.2.2 p hp rfl
  exact ⟨keep p.1 p.2 ne nf nch e n, free p.1 p.2 nch e n, ne, nf, d⟩
theorem Inv.un {t' : Nat} (I : Inv X pins σ H s) (u : Un X.fs [] H H' s.heap h') (hok : HOk X.prog X.w H' h') : Inv X pins σ H' { s with heap := h', toks := t' } := by
 obtain ⟨m, ⟨o, es, ep, ho, r⟩, _⟩ := id I.loc
 obtain ⟨sl, hL⟩ := u.any ho I.free (by simp)
 exact I.step (g' := s.gens) (d' := s.drawn) (ch := []) (fun _ z => nomatch z) (fun b o _ hb _ e n => u.keep b o e n hb (by simp)) (fun b o _ hb _ e n => u.slot b o e n hb (by simp)) (fun b o _ e n => u.free b o e n (by simp)) (fun b o _ e => u.there b o e (by simp)) u.tups u.frzs u.tbls (fun m' hm => by
  obtain ⟨o', es', ep', ho', r'⟩ := hm
  rw [ho] at ho'; cases ho'
  exact ⟨_, es', ep', hL, r'⟩) hok I.bare
theorem Inv.call {g' : Array GenState} {t' : Nat} {d' : Drawn} {ch : List Addr} (I : Inv X pins σ H s) (u : Un (frs X.stack) ch H H' s.heap h') (hok : HOk X.prog X.w H' h') (hg : AllBare g')
  (hch : ∀ b ∈ ch, (b ∈ X.ex ∨ X.s₀.heap.objs.size ≤ b) ∧ b ≠ X.env.locals ∧ (∀ x c, X.env.cells.lookup x = some c → c ≠ b) ∧ ∀ p ∈ X.pn ++ pins, p.1 ≠ b) :
  Inv X pins σ H' { s with heap := h', gens := g', drawn := d', toks := t' } := by
 obtain ⟨m, ⟨o, es, ep, ho, r⟩, _⟩ := id I.loc
 obtain ⟨sl, hL⟩ := u.any ho I.free fun z => (hch _ z).2.1 rfl
 exact I.step (ch := ch) hch (fun b o hL hb hc e n => u.keep b o e n (fun z => (List.mem_cons.mp (I.stkSub b z)).elim hL hb) hc) (fun b o _ _ hc e n => u.any e n hc) (fun b o hc e n => u.free b o e n hc) (fun b o hc e => u.there b o e hc) u.tups u.frzs u.tbls (fun m' hm => by
  obtain ⟨o', es', ep', ho', r'⟩ := hm
  rw [ho] at ho'; cases ho'
  exact ⟨_, es', ep', hL, r'⟩) hok hg
theorem Inv.turned {t' : Nat} {it : Addr} (I : Inv X pins σ H s) (k : ∀ b o, b ≠ it → s.heap.get? b = some o → h'.get? b = some o) (hn : H it = none) (hL : it ≠ X.env.locals)
  (h1 : it ∈ X.ex ∨ X.s₀.heap.objs.size ≤ it) (h2 : ∀ x c, X.env.cells.lookup x = some c → c ≠ it) (h3 : ∀ p ∈ X.pn ++ pins, p.1 ≠ it) : Inv X pins σ H { s with heap := h', toks := t' } := by
 have nit : ∀ b u, H b = some u → b ≠ it := fun b u e z => by rw [z, hn] at e; cases e
 refine I.step (g' := s.gens) (d' := s.drawn) (ch := [it]) (fun b hb => ?_) (fun b o _ _ hc e _ => k b o (fun z => hc (by simp [z])) e) (fun b o _ _ hc e _ => ⟨o.slots, k b o (fun z => hc (by simp [z])) e⟩) (fun _ _ _ _ n => n)
  (fun b o hc e => ⟨o, k b o (fun z => hc (by simp [z])) e⟩) (fun _ _ e => e) (fun _ _ _ e => e) (fun b ps e => ⟨#[], by rw [e]; simp⟩) (fun m hm => ?_) (fun b u e => ?_) I.bare
 ·have e : b = it := by simpa using hb
  subst e
  exact ⟨h1, hL, h2, h3⟩
 ·obtain ⟨o, es, ep, ho, r⟩ := hm
  exact ⟨o, es, ep, k _ o (Ne.symm hL) ho, r⟩
 ·refine (I.hok b u e).stay (fun c v hc q => k c v ?_ q) (fun _ q => q) fun _ _ q => q
  rcases hc with z | z
  ·rw [z]; exact nit b u e
  ·exact nit c _ z
theorem Inv.tok (I : Inv X pins σ H s) (t : Nat) : Inv X pins σ H { s with toks := t } := I.un (h' := s.heap) (t' := t) Un.refl I.hok
theorem Inv.kept {t' : Nat} (I : Inv X pins σ H s) (k : ∀ b u, s.heap.get? b = some u → h'.get? b = some u) : Inv X pins σ H { s with heap := h', toks := t' } := I.un (Un.kept k) (I.hok.kept k)
theorem Inv.laid {a : Addr} {o : HO} {t' : Nat} (I : Inv X pins σ H s) (k : ∀ b u, s.heap.get? b = some u → h'.get? b = some u) (hp : s.heap.objs.size ≤ a) (new : ObjOk X.prog X.w (upd H a o) h' a o) :
  Inv X pins σ (upd H a o) { s with heap := h', toks := t' } := I.un (Un.laid k hp (I.hok.fresh hp)) (I.hok.laid k hp new)
theorem Inv.write {x e : Addr} {o : HO} {t' : Nat} (I : Inv X pins σ H s) (mu : Mut (H x)) (he : e = x ∨ H e = some (.own x)) (k : ∀ b u, b ≠ e → s.heap.get? b = some u → h'.get? b = some u) (heo : ∃ u, h'.get? e = some u)
  (new : ObjOk X.prog X.w (upd H x o) h' x o) : Inv X pins σ (upd H x o) { s with heap := h', toks := t' } := I.un (Un.write mu he k heo) (I.hok.write mu he k heo new)
theorem Inv.pins_of {pins' : List (Addr × Obj)} (I : Inv X pins σ H s) (h : ∀ p ∈ pins', s.heap.get? p.1 = some p.2 ∧ H p.1 = none ∧ p.1 ≠ X.env.locals ∧ p.1 ∉ X.fs ∧ ∀ v, p.2.data ≠ .cell v) : Inv X pins' σ H s :=
 ⟨I.ok, I.os, I.bare, I.base, I.loc, I.cell, I.free, I.freeC, fun p hp => (List.mem_append.mp hp).elim (fun z => I.pin p (List.mem_append_left _ z)) (h p), I.hok, I.len⟩
theorem zjm {N : List Str} (hN : N.Nodup) {i j : Nat} {x : Str} (a : N[i]? = some x) (b : N[j]? = some x) : i = j := by
 obtain ⟨h1, e1⟩ := List.getElem?_eq_some_iff.mp a
 obtain ⟨h2, e2⟩ := List.getElem?_eq_some_iff.mp b
 exact (List.getElem_inj hN).mp (e1.trans e2.symm)
theorem zqs {M : Model} {A : Around} {E : Value → Shared → Prop} {i : Nat} {x : Str} {v : V} {u : Value} {Q : Unit → Shared → Prop} (I : Inv X pins σ H s) (hN : X.N.Nodup) (hi : X.N[i]? = some x) (hx : Loc X.env.scope x) (r : RelV v u)
  (h : ∀ s', Inv X pins (σ.set i (some v)) H s' → (∃ a, Heap.SameBut a s.heap s'.heap ∧ (a = X.env.locals ∨ X.env.cells.lookup x = some a)) → Q () s') (hf : X.fn x = true ∨ X.env.scope.names.lookup x = some .local := by first | exact .inl rfl | exact .inr rfl | assumption) : wpAny M A (storeName X.env x u) Q E s := by
 obtain ⟨m, hn, hl⟩ := id I.loc
 have hcls : (X.env.scope.kind == .class || (X.env.scope.kind == .module && X.env.locals != X.env.globals)) = false := by rw [I.ok.kind]; rfl
 have hiσ : i < σ.length := by rw [I.len]; exact (List.getElem?_eq_some_iff.mp hi).1
 have cne := I.cne
 have tracked : ∀ {a : Addr} {h' : Heap}, (∃ o, s.heap.get? a = some o ∧ H a = none) → Heap.SameBut a s.heap h' → HOk X.prog X.w H h' := fun {a h'} ha hs b ob e => by
  obtain ⟨_, _, hfree⟩ := ha
  refine (I.hok b ob e).stay (fun c w' hc q => (hs.2 c ?_).trans q) (fun _ q => q) fun _ _ q => q
  rintro rfl
  rcases hc with rfl | hc
  ·rw [hfree] at e; cases e
  ·rw [hfree] at hc; cases hc
 rcases hx with hk | hk
 ·refine wpAny_storeName_local hk hn (fun h' hn' hs => ?_) hcls
  obtain ⟨oL, _, _, hoL, _⟩ := id hn
  refine h _ ⟨I.ok, I.os, I.bare, ⟨fun b o e n hb hx => ?_, fun b o e n hb hx => ?_, I.base.free, fun b o e hx => ?_, I.base.tups, I.base.frzs, I.base.tbls⟩, ⟨_, hn', fun j y v' e1 e2 e3 => ?_⟩, fun y c e => ?_, I.free, I.freeC, fun p hp => ?_, tracked ⟨oL, hoL, I.free⟩ hs, by simpa using I.len⟩ ⟨_, hs, .inl rfl⟩
  ·exact (hs.2 b (Nat.ne_of_lt (Nat.lt_of_lt_of_le (Heap.lt_size e) I.ok.above))).trans (I.base.keep b o e n hb hx)
  ·obtain ⟨sl, e1⟩ := I.base.slot b o e n hb hx
   exact ⟨sl, (hs.2 b (Nat.ne_of_lt (Nat.lt_of_lt_of_le (Heap.lt_size e) I.ok.above))).trans e1⟩
  ·obtain ⟨o', e1⟩ := I.base.there b o e hx
   exact ⟨o', (hs.2 b (Nat.ne_of_lt (Nat.lt_of_lt_of_le (Heap.lt_size e) I.ok.above))).trans e1⟩
  ·by_cases hj : j = i
   ·subst hj
    rw [hi] at e1; cases e1
    rw [List.getElem?_set_self hiσ] at e2
    cases e2
    exact ⟨u, r, .inl ⟨hk, by simp⟩⟩
   ·rw [List.getElem?_set_ne (Ne.symm hj)] at e2
    obtain ⟨u', r', q⟩ := hl j y v' e1 e2 e3
    refine ⟨u', r', ?_⟩
    rcases q with ⟨k, e⟩ | ⟨k, c, e, z⟩
    ·refine .inl ⟨k, ?_⟩
     have : y ≠ x := fun e => hj (zjm hN e1 (e ▸ hi))
     simp [this, e]
    ·exact .inr ⟨k, c, e, z.sameBut hs (cne y c e)⟩
  ·obtain ⟨w', z⟩ := I.cell y c e
   exact ⟨w', z.sameBut hs (cne y c e)⟩
  ·obtain ⟨e, n, ne, nf, d⟩ := I.pin p hp
   exact ⟨(hs.2 p.1 ne).trans e, n, ne, nf, d⟩
 ·have hfn : X.fn x = true := by
   rcases hf with z | z
   ·exact z
   ·rw [z] at hk; cases hk
  obtain ⟨c, hc⟩ := I.ok.has x (.inl hk)
  obtain ⟨w', z⟩ := I.cell x c hc
  refine wpAny_storeName_cell I.ok.kind hk hc z (fun h' hc' hs => ?_)
  obtain ⟨oc, hoc, hocd⟩ := id z
  refine h { s with heap := h' } ⟨I.ok, I.os, I.bare, ⟨fun b o e n hb hx => ?_, fun b o e n hb hx => ?_, I.base.free, fun b o e hx => ?_, I.base.tups, I.base.frzs, I.base.tbls⟩, ⟨m, hn.sameBut hs (Ne.symm (cne x c hc)), fun j y v' e1 e2 e3 => ?_⟩, fun y c' e => ?_, I.free, I.freeC, fun p hp => ?_, tracked ⟨oc, hoc, I.freeC x c hc⟩ hs, by simpa using I.len⟩ ⟨c, hs, .inr hc⟩
  ·exact (hs.2 b (Nat.ne_of_lt (Nat.lt_of_lt_of_le (Heap.lt_size e) (I.ok.cab x c hfn hc)))).trans (I.base.keep b o e n hb hx)
  ·obtain ⟨sl, e1⟩ := I.base.slot b o e n hb hx
   exact ⟨sl, (hs.2 b (Nat.ne_of_lt (Nat.lt_of_lt_of_le (Heap.lt_size e) (I.ok.cab x c hfn hc)))).trans e1⟩
  ·obtain ⟨o', e1⟩ := I.base.there b o e hx
   exact ⟨o', (hs.2 b (Nat.ne_of_lt (Nat.lt_of_lt_of_le (Heap.lt_size e) (I.ok.cab x c hfn hc)))).trans e1⟩
  ·by_cases hj : j = i
   ·subst hj
    rw [hi] at e1; cases e1
    rw [List.getElem?_set_self hiσ] at e2
    cases e2
    exact ⟨u, r, .inr ⟨.inl hk, c, hc, hc'⟩⟩
   ·rw [List.getElem?_set_ne (Ne.symm hj)] at e2
    obtain ⟨u', r', q⟩ := hl j y v' e1 e2 e3
    refine ⟨u', r', ?_⟩
    rcases q with q | ⟨k, c', e, z'⟩
    ·exact .inl q
    ·refine .inr ⟨k, c', e, z'.sameBut hs ?_⟩
     rintro rfl
     exact hj (zjm hN e1 (I.ok.inj _ _ _ e hc ▸ hi))
  ·by_cases hcc : c' = c
   ·subst hcc; exact ⟨_, hc'⟩
   ·obtain ⟨w2, z2⟩ := I.cell y c' e
    exact ⟨w2, z2.sameBut hs hcc⟩
  ·obtain ⟨e, n, ne, nf, d⟩ := I.pin p hp
   refine ⟨(hs.2 p.1 ?_).trans e, n, ne, nf, d⟩
   intro q
   rw [q, hoc] at e
   have q' : oc = p.2 := Option.some.inj e
   exact d w' (by rw [← q']; exact hocd)
theorem zja {M : Model} {A : Around} {E : Value → Shared → Prop} {i : Nat} {x : Str} {v : V} {u : Value} {Q : Unit → Shared → Prop} (I : Inv X pins σ H s) (hN : X.N.Nodup) (hi : X.N[i]? = some x) (hx : Loc X.env.scope x) (r : RelV v u)
  (h : ∀ s', Inv X pins (σ.set i (some v)) H s' → Q () s') (hf : X.fn x = true ∨ X.env.scope.names.lookup x = some .local := by first | exact .inl rfl | exact .inr rfl | assumption) : wpAny M A (storeName X.env x u) Q E s :=
 zqs I hN hi hx r (fun s' I' _ => h s' I') hf
theorem Inv.call' {s' : Shared} {ch : List Addr} (I : Inv X pins σ H s) (ho : s'.os = s.os) (u : Un (frs X.stack) ch H H' s.heap s'.heap) (hok : HOk X.prog X.w H' s'.heap) (hg : AllBare s'.gens)
  (hch : ∀ b ∈ ch, (b ∈ X.ex ∨ X.s₀.heap.objs.size ≤ b) ∧ b ≠ X.env.locals ∧ (∀ x c, X.env.cells.lookup x = some c → c ≠ b) ∧ ∀ p ∈ X.pn ++ pins, p.1 ≠ b) : Inv X pins σ H' s' := by
 obtain ⟨h', g', d', t', o'⟩ := s'
 have e : o' = s.os := ho
 subst e
 exact I.call (g' := g') (t' := t') (d' := d') u hok hg hch
end
abbrev XK := Value → Option Addr → Hp → Prop
abbrev St := List (Option V)
abbrev VK := V → Hp → Prop
abbrev TE := St → Hp → VK → Prop
abbrev TT := St → Hp → (Bool → Hp → Prop) → Prop
abbrev TA := St → Hp → (List V → Hp → Prop) → Prop
structure Ends where
 nx : St → Hp → Prop
 rt : VK
 bk : St → Hp → Prop := fun _ _ => False
 ct : St → Hp → Prop := fun _ _ => False
abbrev TS := Ends → St → Hp → Prop
def EP (X : Cx) (pins : List (Addr × Obj)) (σ : St) (Q : VK) (u : Value) (s' : Shared) : Prop := ∃ v H', Inv X pins σ H' s' ∧ RelV v u ∧ Q v H'
def TP (X : Cx) (pins : List (Addr × Obj)) (σ : St) (Q : Bool → Hp → Prop) (b : Bool) (s' : Shared) : Prop := ∃ H', Inv X pins σ H' s' ∧ Q b H'
def AP (X : Cx) (pins : List (Addr × Obj)) (σ : St) (Q : List V → Hp → Prop) (us : List Value) (s' : Shared) : Prop := ∃ vs H', Inv X pins σ H' s' ∧ Vals vs us ∧ Q vs H'
def SP (X : Cx) (pins : List (Addr × Obj)) (D : Ends) (f : Flow) (s' : Shared) : Prop :=
 match f with
 | .next => ∃ σ' H', Inv X pins σ' H' s' ∧ D.nx σ' H'
 | .brk => ∃ σ' H', Inv X pins σ' H' s' ∧ D.bk σ' H'
 | .cont => ∃ σ' H', Inv X pins σ' H' s' ∧ D.ct σ' H'
 | .ret u => ∃ v σ' H', Inv X pins σ' H' s' ∧ RelV v u ∧ D.rt v H'
def PE (X : Cx) (e : Expr) (t : TE) : Prop :=
 ∀ (pins : List (Addr × Obj)) (s : Shared) (σ : St) (H : Hp) (Q : VK), Inv X pins σ H s → t σ H Q → wpAny (model X.prog X.w) X.A (eval e X.env) (EP X pins σ Q) X.xe s
def PT (X : Cx) (e : Expr) (t : TT) : Prop :=
 ∀ (pins : List (Addr × Obj)) (s : Shared) (σ : St) (H : Hp) (Q : Bool → Hp → Prop), Inv X pins σ H s → t σ H Q → wpAny (model X.prog X.w) X.A (isTrue e X.env (eval e X.env)) (TP X pins σ Q) X.xe s
def PW (X : Cx) (e : Expr) (t : TT) : Prop :=
 ∀ (whole : Sem Value) (pins : List (Addr × Obj)) (s : Shared) (σ : St) (H : Hp) (Q : Bool → Hp → Prop), Inv X pins σ H s → t σ H Q → wpAny (model X.prog X.w) X.A (isTrue e X.env whole) (TP X pins σ Q) X.xe s
theorem PW.pt {X : Cx} {e : Expr} {t : TT} (h : PW X e t) : PT X e t := h _
def PA (X : Cx) (es : List Expr) (t : TA) : Prop :=
 ∀ (pos : Pos) (pins : List (Addr × Obj)) (s : Shared) (σ : St) (H : Hp) (Q : List V → Hp → Prop), Inv X pins σ H s → t σ H Q → wpAny (model X.prog X.w) X.A (spliced (backTo pos (starEach es X.env))) (AP X pins σ Q) X.xe s
def PS (X : Cx) (st : Stmt) (t : TS) : Prop :=
 ∀ (pins : List (Addr × Obj)) (s : Shared) (σ : St) (H : Hp) (D : Ends), Inv X pins σ H s → t D σ H → wpAny (model X.prog X.w) X.A (exec st X.env) (SP X pins D) X.xe s
def PSs (X : Cx) (st : List Stmt) (t : TS) : Prop :=
 ∀ (pins : List (Addr × Obj)) (s : Shared) (σ : St) (H : Hp) (D : Ends), Inv X pins σ H s → t D σ H → wpAny (model X.prog X.w) X.A (execs st X.env) (SP X pins D) X.xe s
theorem thn {α : Type} {t : Sem α} {Q Q' : α → Shared → Prop} {M : Model} {A : Around} {E : Value → Shared → Prop} {s : Shared} (h : wpAny M A t Q E s) (hQ : ∀ a s, Q a s → Q' a s) : wpAny M A t Q' E s := wpAny_mono h hQ fun _ _ x => x
end L2
namespace L2
open PySem PySem.Spec PyProof.Rows
section
variable {X : Cx}
def zqk (i : Nat) : TE := fun σ H Q => ∃ v, σ[i]? = some (some v) ∧ Q v H
def tC (v : V) : TE := fun _ H Q => Q v H
theorem z00 {i : Nat} {x : Str} {pos : Pos} (hN : X.N[i]? = some x) (hv : Vis X.env.scope x) (hd : (x == ("__debug__" : Str)) = false := by decide) (hcd : (x == ("__classdict__" : Str)) = false := by decide) : PE X (.Name x pos) (zqk i) := by
 intro pins s σ H Q I h
 obtain ⟨v, e, h⟩ := h
 obtain ⟨m, hn, hl⟩ := I.loc
 obtain ⟨u, r, l⟩ := hl i x v hN e hv
 have fin : EP X pins σ Q u s := ⟨v, H, I, r, h⟩
 rcases l with ⟨hk, hm⟩ | ⟨hk, c, hc, hcell⟩
 ·exact wpAny_Name (wpAny_loadName_local I.ok.kind hk hn hm fin) hd
 ·rcases hk with hk | hk
  ·exact wpAny_Name (wpAny_loadName_cell I.ok.kind hk hc hcell fin) hd
  ·exact wpAny_Name (wpAny_loadName_free I.ok.kind hk hc hcell fin hcd) hd
theorem z02 {i j pos} : PE X (.Constant (.int i) j pos) (tC (.int i)) := fun _ _ _ H _ I h => wpAny_Constant_int ⟨.int i, H, I.tok _, ⟨_, rfl⟩, h⟩
theorem zw7 {b j pos} : PE X (.Constant (.bool b) j pos) (tC (.bl b)) := fun _ _ _ H _ I h => Constant_bool ⟨.bl b, H, I, rfl, h⟩
theorem zah {j pos} : PE X (.Constant .none j pos) (tC .non) := fun _ _ _ H _ I h => Constant_none ⟨.non, H, I, rfl, h⟩
theorem z0l {x j pos} : PE X (.Constant (.str x) j pos) (tC (.str x)) := fun _ _ _ H _ I h => Calls.Constant_str ⟨.str x, H, I.tok _, ⟨_, rfl⟩, h⟩
def Gl (X : Cx) (x : Str) : Prop := X.env.kindOf x = some .globalImplicit
theorem zd2 {E : Value → Shared → Prop} {pins : List (Addr × Obj)} {s : Shared} {σ : St} {H : Hp} {x : Str} {u : Value} {pos : Pos} {Q : Value → Shared → Prop} (I : Inv X pins σ H s) (hg : Gl X x) (hm : X.mg x = some u) (h : Q u s)
  (hd : (x == ("__debug__" : Str)) = false := by decide) : wpAny (model X.prog X.w) X.A (eval (.Name x pos) X.env) Q E s :=
 Calls.Name_function_global I.ok.kind hg (Calls.loadGlobal_global (by rw [I.ok.glob]; exact I.mod.glob.keeps I.bk) hm h) hd
theorem zhg {E : Value → Shared → Prop} {pins : List (Addr × Obj)} {s : Shared} {σ : St} {H : Hp} {x : Str} {u : Value} {pos : Pos} {Q : Value → Shared → Prop} (I : Inv X pins σ H s) (hg : Gl X x) (hm : X.mg x = none) (hv : bootBuiltins x = some u) (h : Q u s)
  (hn : x ≠ "__name__" := by decide) (hd : (x == ("__debug__" : Str)) = false := by decide) : wpAny (model X.prog X.w) X.A (eval (.Name x pos) X.env) Q E s := by
 obtain ⟨mb, h1, h2⟩ := I.mod.blt
 exact Calls.Name_function_global I.ok.kind hg (Calls.loadGlobal_builtin (by rw [I.ok.glob]; exact I.mod.glob.keeps I.bk) hm (by rw [I.ok.blt]; exact h1.keeps I.bk) ((h2 x hn).trans hv) h) hd
theorem zff {x : Str} {v : V} {u : Value} {pos : Pos} (hg : Gl X x) (hm : X.mg x = some u) (r : RelV v u) (hd : (x == ("__debug__" : Str)) = false := by decide) : PE X (.Name x pos) (tC v) :=
 fun _ _ _ H _ I h => zd2 I hg hm ⟨v, H, I, r, h⟩ hd
theorem zjj {x : Str} {v : V} {u : Value} {pos : Pos} (hg : Gl X x) (hm : X.mg x = none) (hv : bootBuiltins x = some u) (r : RelV v u) (hn : x ≠ "__name__" := by decide) (hd : (x == ("__debug__" : Str)) = false := by decide) : PE X (.Name x pos) (tC v) :=
 fun _ _ _ H _ I h => zhg I hg hm hv ⟨v, H, I, r, h⟩ hn hd
variable {a b : Expr} {ta tb : TE} {pos : Pos}
def tB (t : TE) : TT := fun σ H Q => t σ H fun x H1 => ∃ c, x = .bl c ∧ Q c H1
theorem zkr {e : Expr} {t : TE} (h : PE X e t) (he : ∀ whole, isTrue e X.env whole = (do let v ← whole; standAt e.pos; holding [v] (truthy v)) := by intro _; rfl) : PT X e (tB t) := by
 intro pins s σ H Q I hw
 refine isTrue_plain (thn (h pins s σ H _ I hw) fun v s1 ⟨x, H1, I1, r1, q1⟩ => ?_) (he _)
 obtain ⟨d, rfl, q⟩ := q1
 cases r1
 exact wpAny_truthy_bool ⟨H1, I1, q⟩
variable {tA tB' : TT} {zti : List Expr}
def zvx (t u : TT) : TT := fun σ H Q => t σ H fun c H1 => if c = true then u σ H1 Q else Q false H1
def tOr (t u : TT) : TT := fun σ H Q => t σ H fun c H1 => if c = true then Q true H1 else u σ H1 Q
def zy6 (t : TT) : TT := fun σ H Q => t σ H fun c H1 => Q (!c) H1
theorem zfd (ha : PT X a tA) : PW X (.BoolOp .And [a] pos) tA := by
 intro wh pins s σ H Q I h
 refine isTrue_and (thn (ha pins s σ H Q I h) fun c s1 e => ?_)
 cases c with
 | true => exact isTrue_and_nil e
 | false => exact e
theorem zo3 (ha : PT X a tA) : PW X (.BoolOp .Or [a] pos) tA := by
 intro wh pins s σ H Q I h
 refine isTrue_or (thn (ha pins s σ H Q I h) fun c s1 e => ?_)
 cases c with
 | false => exact isTrue_or_nil e
 | true => exact e
theorem zh6 (ha : PT X a tA) (hb : PW X (.BoolOp .And (b :: zti) pos) tB') : PW X (.BoolOp .And (a :: b :: zti) pos) (zvx tA tB') := by
 intro wh pins s σ H Q I h
 refine isTrue_and (thn (ha pins s σ H _ I h) fun c s1 ⟨H1, I1, q1⟩ => ?_)
 cases c with
 | true => exact hb wh pins s1 σ H1 Q I1 q1
 | false => exact ⟨H1, I1, q1⟩
theorem zr1 (ha : PT X a tA) (hb : PW X (.BoolOp .Or (b :: zti) pos) tB') : PW X (.BoolOp .Or (a :: b :: zti) pos) (tOr tA tB') := by
 intro wh pins s σ H Q I h
 refine isTrue_or (thn (ha pins s σ H _ I h) fun c s1 ⟨H1, I1, q1⟩ => ?_)
 cases c with
 | true => exact ⟨H1, I1, q1⟩
 | false => exact hb wh pins s1 σ H1 Q I1 q1
theorem zks (ha : PT X a tA) : PT X (.UnaryOp .Not a pos) (zy6 tA) := by
 intro pins s σ H Q I h
 exact isTrue_not (ha pins s σ H (fun c H1 => Q (!c) H1) I h)
def zqr (ta tb : TE) : TE := fun σ H Q => ta σ H fun x H1 => ∃ c, x = .bl c ∧ if c = true then tb σ H1 Q else Q (.bl false) H1
def q08 (ta tb : TE) : TE := fun σ H Q => ta σ H fun x H1 => ∃ c, x = .bl c ∧ if c = true then Q (.bl true) H1 else tb σ H1 Q
def zqm (ta : TE) : TE := fun σ H Q => ta σ H fun x H1 => ∃ c, x = .bl c ∧ Q (.bl (!c)) H1
theorem zo8 {op} {t : TE} (h : PE X a t) : PE X (.BoolOp op [a] pos) t := fun pins s σ H Q I hw => BoolOp_one (h pins s σ H Q I hw)
theorem zit (ha : PE X a ta) (hb : PE X (.BoolOp .And (b :: zti) pos) tb) : PE X (.BoolOp .And (a :: b :: zti) pos) (zqr ta tb) := by
 intro pins s σ H Q I h
 refine BoolOp_and (thn (ha pins s σ H _ I h) fun v s1 ⟨x, H1, I1, r1, q1⟩ => ?_)
 obtain ⟨c, rfl, q1⟩ := q1
 cases r1
 refine wpAny_truthy_bool ?_
 cases c with
 | true => exact hb pins s1 σ H1 Q I1 q1
 | false => exact ⟨.bl false, H1, I1, rfl, q1⟩
theorem zyo (ha : PE X a ta) : PE X (.UnaryOp .Not a pos) (zqm ta) := by
 intro pins s σ H Q I h
 refine UnaryOp_ (thn (ha pins s σ H _ I h) fun v s1 ⟨x, H1, I1, r1, q1⟩ => ?_)
 obtain ⟨c, rfl, q1⟩ := q1
 cases r1
 exact not_of (wpAny_truthy_bool ⟨.bl (!c), H1, I1, rfl, q1⟩)
def tIf (t : TT) (ta tb : TE) : TE := fun σ H Q => t σ H fun c H1 => if c = true then ta σ H1 Q else tb σ H1 Q
theorem z7z {c : Expr} (hc : PT X c tA) (ha : PE X a ta) (hb : PE X b tb) : PE X (.IfExp c a b pos) (tIf tA ta tb) := by
 intro pins s σ H Q I h
 refine wpAny_IfExp (thn (hc pins s σ H _ I h) fun d s1 ⟨H1, I1, q1⟩ => ?_)
 cases d with
 | true => exact ha pins s1 σ H1 Q I1 q1
 | false => exact hb pins s1 σ H1 Q I1 q1
end
end L2
namespace L2
open PySem PySem.Spec PyProof.Rows
def SqL (K : PySem.W.Frag) (H : Hp) (a : Addr) (xs : List V) : Prop :=
 Rd H a (.lst xs) ∨
  ∃ (o : Obj) (its : Array Value) (n : Nat), K.lookup a = some o ∧ o.cls = .type "list" ∧ o.dict = none ∧ o.data = .seq its n ∧ its.size ≤ sizeLine ∧ Vals xs its.toList
def SqT (K : PySem.W.Frag) (H : Hp) (a : Addr) (xs : List V) : Prop :=
 Rd H a (.tup xs) ∨
  ∃ (o : Obj) (its : Array Value) (n : Nat), K.lookup a = some o ∧ o.cls = .type "tuple" ∧ o.data = .seq its n ∧ its.size ≤ sizeLine ∧ Vals xs its.toList
def q2c : Value → Option V
 | .none => some .non
 | .bool b => some (.bl b)
 | .int i _ => some (.int i)
 | .str x _ => some (.str x)
 | .bytes b _ => some (.byt b)
 | .float b _ => some (.flt b)
 | .ref a => some (.ref a)
 | .type n => some (.ty n)
 | _ => none
theorem RelV.abs {x : V} {u : Value} (r : RelV x u) : q2c u = some x := by
 cases x with
 | non => cases r; rfl
 | bl _ => cases r; rfl
 | int _ => obtain ⟨t, rfl⟩ := r; rfl
 | str _ => obtain ⟨t, rfl⟩ := r; rfl
 | byt _ => obtain ⟨t, rfl⟩ := r; rfl
 | flt _ => obtain ⟨t, rfl⟩ := r; rfl
 | ref _ => cases r; rfl
 | ty _ => cases r; rfl
theorem RelV.inj {x y : V} {u : Value} (r : RelV x u) (q : RelV y u) : x = y := Option.some.inj (r.abs.symm.trans q.abs)
theorem Vals.inj : ∀ {xs ys : List V} {us : List Value}, Vals xs us → Vals ys us → xs = ys
 | _, _, _, .nil, .nil => rfl
 | _, _, _, .cons r t, .cons r' t' => by rw [r.inj r', Vals.inj t t']
section
variable {X : Cx} {pins : List (Addr × Obj)} {σ : St} {H : Hp} {s : Shared} {a : Addr} {xs ys : List V}
theorem SqL.of {K : PySem.W.Frag} (h : H a = some (.lst xs)) : SqL K H a xs := .inl (.inl h)
theorem SqT.of {K : PySem.W.Frag} (h : H a = some (.tup xs)) : SqT K H a xs := .inl (.inl h)
theorem Inv.list (I : Inv X pins σ H s) (h : SqL X.K H a xs) : ∃ its : List Value, Vals xs its ∧ PlainL s.heap a its.toArray ∧ xs.length ≤ sizeLine := by
 rcases h with h | ⟨o, its, n, hk, hc, hd, hs, hz, r⟩
 ·obtain ⟨z, its, n, r, e⟩ := h.ok I.hok
  exact ⟨its, r, ⟨_, n, e, rfl, rfl, rfl⟩, z⟩
 ·refine ⟨its.toList, r, ⟨o, n, I.kIn a o hk, hc, hd, by simpa using hs⟩, ?_⟩
  have e := r.length
  simp only [Array.length_toList] at e
  omega
theorem Inv.tuple (I : Inv X pins σ H s) (h : SqT X.K H a xs) : ∃ its : List Value, Vals xs its ∧ IsTup s.heap a its.toArray ∧ xs.length ≤ sizeLine := by
 rcases h with h | ⟨o, its, n, hk, hc, hs, hz, r⟩
 ·obtain ⟨z, its, r, p⟩ := h.ok I.hok
  exact ⟨its, r, p, z⟩
 ·refine ⟨its.toList, r, ⟨o, I.kIn a o hk, hc, n, by simpa using hs⟩, ?_⟩
  have e := r.length
  simp only [Array.length_toList] at e
  omega
theorem Inv.list_inj (I : Inv X pins σ H s) (h : SqL X.K H a xs) (h' : SqL X.K H a ys) : xs = ys := by
 obtain ⟨its, r, ⟨o, n, e, _, _, d⟩, _⟩ := I.list h
 obtain ⟨its', r', ⟨o', n', e', _, _, d'⟩, _⟩ := I.list h'
 rw [e] at e'; cases e'
 rw [d] at d'
 injection d' with d1 _
 have : its = its' := by simpa using congrArg Array.toList d1
 subst this
 exact r.inj r'
theorem Inv.tuple_inj (I : Inv X pins σ H s) (h : SqT X.K H a xs) (h' : SqT X.K H a ys) : xs = ys := by
 obtain ⟨its, r, ⟨o, e, _, n, d⟩, _⟩ := I.tuple h
 obtain ⟨its', r', ⟨o', e', _, n', d'⟩, _⟩ := I.tuple h'
 rw [e] at e'; cases e'
 rw [d] at d'
 injection d' with d1 _
 have : its = its' := by simpa using congrArg Array.toList d1
 subst this
 exact r.inj r'
end
abbrev Cx.wish (X : Cx) (E : Value → Shared → Prop) : Cx := { X with xe := E }
abbrev Cx.nox (X : Cx) : Cx := X.wish fun _ _ => False
theorem Cx.Ok.wish {X : Cx} (ok : X.Ok) (E : Value → Shared → Prop) : (X.wish E).Ok :=
 ⟨ok.mod, ok.kind, ok.glob, ok.blt, ok.above, ok.inj, ok.has, ok.cab, ok.hd, ok.frames, ok.stk, ok.exf, ok.bs, ok.bsz, ok.noex, ok.exfs, ok.funs, ok.frf⟩
theorem Cx.Ok.unwish {X : Cx} {E : Value → Shared → Prop} (ok : (X.wish E).Ok) : X.Ok :=
 ⟨ok.mod, ok.kind, ok.glob, ok.blt, ok.above, ok.inj, ok.has, ok.cab, ok.hd, ok.frames, ok.stk, ok.exf, ok.bs, ok.bsz, ok.noex, ok.exfs, ok.funs, ok.frf⟩
section
variable {X : Cx} {pins : List (Addr × Obj)} {σ : St} {H : Hp} {s : Shared} {E : Value → Shared → Prop}
theorem Inv.wish (I : Inv X pins σ H s) (E : Value → Shared → Prop) : Inv (X.wish E) pins σ H s := ⟨I.ok.wish E, I.os, I.bare, I.base, I.loc, I.cell, I.free, I.freeC, I.pin, I.hok, I.len⟩
theorem Inv.unwish (I : Inv (X.wish E) pins σ H s) : Inv X pins σ H s := ⟨I.ok.unwish, I.os, I.bare, I.base, I.loc, I.cell, I.free, I.freeC, I.pin, I.hok, I.len⟩
theorem SP.unwish {D : Ends} {f : Flow} {s' : Shared} (h : SP (X.wish E) pins D f s') : SP X pins D f s' := by
 cases f with
 | next => obtain ⟨σ', H', I, q⟩ := h; exact ⟨σ', H', I.unwish, q⟩
 | brk => obtain ⟨σ', H', I, q⟩ := h; exact ⟨σ', H', I.unwish, q⟩
 | cont => obtain ⟨σ', H', I, q⟩ := h; exact ⟨σ', H', I.unwish, q⟩
 | ret u => obtain ⟨v, σ', H', I, r, q⟩ := h; exact ⟨v, σ', H', I.unwish, r, q⟩
theorem PE.nox {e : Expr} {t : TE} (h : PE X.nox e t) : PE X e t := fun pins s σ H Q I hw =>
 wpAny_mono (h pins s σ H Q (I.wish _) hw) (fun _ _ ⟨v, H', I', r, q⟩ => ⟨v, H', I'.unwish, r, q⟩) fun _ _ z => False.elim z
theorem PT.nox {e : Expr} {t : TT} (h : PT X.nox e t) : PT X e t := fun pins s σ H Q I hw =>
 wpAny_mono (h pins s σ H Q (I.wish _) hw) (fun _ _ ⟨H', I', q⟩ => ⟨H', I'.unwish, q⟩) fun _ _ z => False.elim z
theorem PSs.nox {st : List Stmt} {t : TS} (h : PSs X.nox st t) : PSs X st t := fun pins s σ H D I hw =>
 wpAny_mono (h pins s σ H D (I.wish _) hw) (fun _ _ q => q.unwish) fun _ _ z => False.elim z
end
section
variable {X : Cx} {st : Stmt} {zti : List Stmt} {t u : TS} {e : Expr} {te : TE} {pos : Pos}
def zqn : TS := fun D σ H => D.nx σ H
def zq9 (t u : TS) : TS := fun D σ H => t { D with nx := u D } σ H
theorem z0s : PSs X [] zqn := fun _ _ σ H _ I h => wpAny_execs_nil ⟨σ, H, I, h⟩
theorem z06 (h1 : PS X st t) (h2 : PSs X zti u) : PSs X (st :: zti) (zq9 t u) := by
 intro pins s σ H D I h
 refine wpAny_execs_cons (thn (h1 pins s σ H { D with nx := u D } I h) fun f s1 q => ?_)
 cases f with
 | next =>
  obtain ⟨σ', H', I', q⟩ := q
  exact h2 pins s1 σ' H' D I' q
 | ret v => exact q
 | brk => exact q
 | cont => exact q
theorem z08 (h1 : PS X st t) : PSs X [st] t := by
 intro pins s σ H D I h
 refine wpAny_execs_cons (thn (h1 pins s σ H D I h) fun f s1 q => ?_)
 cases f with
 | next => exact wpAny_execs_nil q
 | ret v => exact q
 | brk => exact q
 | cont => exact q
def znv : TS := fun D σ H => D.bk σ H
def zts : TS := fun D σ H => D.ct σ H
theorem Inv.quiet {pins : List (Addr × Obj)} {σ : St} {H : Hp} {s : Shared} (I : Inv X pins σ H s) : interactive X.env = false := by simp [interactive, I.ok.kind]
def zqo (te : TE) : TS := fun D σ H => te σ H fun _ H1 => D.nx σ H1
theorem z4v (he : PE X e te) (hs : swapsWith e none pos.line X.env = pure false := by rfl) : PS X (.Expr e pos) (zqo te) := by
 intro pins s σ H D I h
 exact wpAny_Expr_any (thn (he pins s σ H _ I h) fun v s1 ⟨x, H1, I1, r1, q1⟩ => ⟨σ, H1, I1, q1⟩) I.quiet hs
def zy5 (te : TE) : TS := fun D σ H => te σ H D.rt
theorem z0q (he : PE X e te) : PS X (.Return (some e) pos) (zy5 te) := by
 intro pins s σ H D I h
 exact wpAny_Return_some (thn (he pins s σ H _ I h) fun v s1 ⟨x, H1, I1, r1, q1⟩ => ⟨x, σ, H1, I1, r1, q1⟩)
def zto : TS := fun D _ H => D.rt .non H
def zth (c : TT) (t u : TS) : TS := fun D σ H => c σ H fun b H1 => if b = true then t D σ H1 else u D σ H1
theorem z2m {c : Expr} {a b : List Stmt} {tc : TT} (hc : PT X c tc) (ha : PSs X a t) (hb : PSs X b u) : PS X (.If c a b pos) (zth tc t u) := by
 intro pins s σ H D I h
 refine wpAny_If (thn (hc pins s σ H _ I h) fun d s1 ⟨H1, I1, q1⟩ => ?_)
 cases d with
 | true => exact ha pins s1 σ H1 D I1 q1
 | false => exact hb pins s1 σ H1 D I1 q1
def zke : TS := fun _ _ _ => False
theorem zo5 : PS X st zke := fun _ _ _ _ _ _ h => h.elim
end
abbrev TG := V → St → Hp → (St → Hp → Prop) → Prop
abbrev TGs := List V → St → Hp → (St → Hp → Prop) → Prop
def PG (X : Cx) (target : Expr) (t : TG) : Prop :=
 ∀ (pins : List (Addr × Obj)) (s : Shared) (σ : St) (H : Hp) (v : V) (u : Value) (Q : St → Hp → Prop), Inv X pins σ H s → RelV v u → t v σ H Q →
  wpAny (model X.prog X.w) X.A (assign target X.env u) (fun _ s' => ∃ σ' H', Inv X pins σ' H' s' ∧ Q σ' H') X.xe s
def PGs (X : Cx) (ts : List Expr) (t : TGs) : Prop :=
 ∀ (pins : List (Addr × Obj)) (s : Shared) (σ : St) (H : Hp) (vs : List V) (us : List Value) (Q : St → Hp → Prop), Inv X pins σ H s → Vals vs us → t vs σ H Q →
  wpAny (model X.prog X.w) X.A (assignInOrder ((assignEach ts X.env).map (·.2)) us) (fun _ s' => ∃ σ' H', Inv X pins σ' H' s' ∧ Q σ' H') X.xe s
section
variable {X : Cx} {pos : Pos}
def zpz (i : Nat) : TG := fun v σ H Q => Q (σ.set i (some v)) H
theorem z1w {i : Nat} {x : Str} (hN : X.N.Nodup) (hi : X.N[i]? = some x) (hx : Loc X.env.scope x) (hf : X.fn x = true ∨ X.env.scope.names.lookup x = some .local := by first | exact .inl rfl | exact .inr rfl | assumption) : PG X (.Name x pos) (zpz i) := by
 intro pins s σ H v u Q I r h
 exact wpAny_assign_Name (zja I hN hi hx r (fun s' I' => ⟨_, H, I', h⟩) hf)
def zzk : TGs := fun vs σ H Q => vs = [] ∧ Q σ H
def zs8 (t : TG) (u : TGs) : TGs := fun vs σ H Q => ∃ v r, vs = v :: r ∧ t v σ H fun σ' H' => u r σ' H' Q
theorem z8g : PGs X [] zzk := by
 intro pins s σ H vs us Q I r h
 obtain ⟨e, h⟩ := h
 subst e
 cases r
 exact assignInOrder_nil ⟨σ, H, I, h⟩
theorem z2d {e : Expr} {es : List Expr} {t : TG} {u : TGs} (h1 : PG X e t) (h2 : PGs X es u)
  (hs : (assignEach (e :: es) X.env).map (·.2) = assign e X.env :: (assignEach es X.env).map (·.2) := by rfl) : PGs X (e :: es) (zs8 t u) := by
 intro pins s σ H vs us Q I r h
 obtain ⟨v, vr, e1, h⟩ := h
 subst e1
 cases r with
 | cons r rr =>
  rw [hs]
  refine assignInOrder_cons (thn (h1 pins s σ H _ _ _ I r h) fun _ s1 ⟨σ1, H1, I1, q1⟩ => ?_)
  exact h2 pins s1 σ1 H1 _ _ Q I1 rr q1
def zxv (K : PySem.W.Frag) (n : Nat) (t : TGs) : TG := fun v σ H Q => ∃ a xs, v = .ref a ∧ SqT K H a xs ∧ xs.length = n ∧ t xs σ H Q
theorem zcv {es : List Expr} {k : Nat} {t : TGs} {n : Nat} (hc : X.calm = true) (h : PGs X es t)
  (hn : (assignEach es X.env).length = n := by rfl) (hst : (assignEach es X.env).findIdx? (·.1) = none := by rfl) : PG X (.Tuple es k pos) (zxv X.K n t) := by
 intro pins s σ H v u Q I r hw
 obtain ⟨a, xs, e1, hq, hl, hw⟩ := hw
 subst e1
 cases r
 obtain ⟨its, rv, ht, hz⟩ := I.tuple hq
 refine assign_Tuple_tuple (I.ok.hd hc) ht (by simp [hn, ← hl, rv.length]) hst fun h' hx => ?_
 have I1 : Inv X pins σ H { s with heap := h' } := I.kept (t' := s.toks) fun b o e => hx b o (Nat.ne_of_lt (Heap.lt_size e)) e
 exact h pins _ σ H xs _ Q I1 (by simpa using rv) hw
def zxq (te : TE) (g : TG) : TS := fun D σ H => te σ H fun x H1 => g x σ H1 D.nx
theorem zo6 {tg e : Expr} {te : TE} {g : TG} (he : PE X e te) (hg : PG X tg g) (hs : swapsWithSole [tg] e pos.line X.env = pure false := by rfl) (hw : swappedStores [tg] e X.env = pure none := by rfl)
  (h1 : (assignEach [tg] X.env).map (·.2) = [assign tg X.env] := by rfl) : PS X (.Assign [tg] e pos) (zxq te g) := by
 intro pins s σ H D I h
 refine wpAny_Assign_stores (thn (he pins s σ H _ I h) fun v s1 ⟨x, H1, I1, r1, q1⟩ => ?_) hs hw
 rw [h1]
 exact thn (hg pins s1 σ H1 x v _ I1 r1 q1) fun _ s2 q => q
theorem z1d {i : Nat} {x : Str} {e : Expr} {te : TE} {pos' : Pos} (hN : X.N.Nodup) (hi : X.N[i]? = some x) (hx : Loc X.env.scope x) (he : PE X e te) (hs : swapsWith e (some (.Name x pos')) pos.line X.env = pure false := by rfl) (hf : X.fn x = true ∨ X.env.scope.names.lookup x = some .local := by first | exact .inl rfl | exact .inr rfl | assumption) :
  PS X (.Assign [.Name x pos'] e pos) (zxq te (zpz i)) := by
 intro pins s σ H D I h
 refine wpAny_Assign_Name (thn (he pins s σ H _ I h) fun v s1 ⟨y, H1, I1, r1, q1⟩ => ?_) hs
 exact zja I1 hN hi hx r1 (fun s2 I2 => ⟨_, H1, I2, q1⟩) hf
end
section
variable {X : Cx} {pos : Pos}
def znq (c : TT) (tb : TS) : TS := fun D σ H => ∃ W : Nat → St → Hp → Prop, (∃ m, W m σ H) ∧ ∀ m σ H, W m σ H →
 c σ H fun b H1 => if b = true then ∃ N : St → Hp → Prop, (∀ σ' H', N σ' H' → ∃ m', m' < m ∧ W m' σ' H') ∧ tb { D with nx := N, ct := N, bk := D.nx } σ H1 else D.nx σ H1
theorem zo4 {c : Expr} {body : List Stmt} {tc : TT} {tb : TS} (hp : PassesOwn (model X.prog X.w) X.A X.env X.xe) (hc : PT X c tc) (hb : PSs X body tb) : PS X (.While c body [] pos) (znq tc tb) := by
 intro pins s σ H D I h
 obtain ⟨W, ⟨m0, w0⟩, turn⟩ := h
 refine wpAny_While (codeAny_whileLoop (fun n s' => ∃ σ' H', Inv X pins σ' H' s' ∧ W n σ' H') ?_ m0 ⟨σ, H, I, w0⟩)
 rintro n s1 ⟨σ1, H1, I1, w1⟩
 refine wpAny_passesOwn hp (thn (hc pins s1 σ1 H1 _ I1 (turn n σ1 H1 w1)) fun b s2 ⟨H2, I2, q2⟩ => ?_)
 cases b with
 | true =>
  obtain ⟨N, hN, q2⟩ := q2
  rw [if_pos rfl]
  refine wpAny_passesOwn hp (thn (hb pins s2 σ1 H2 _ I2 q2) fun f s3 q3 => ?_)
  cases f with
  | next =>
   obtain ⟨σ3, H3, I3, n3⟩ := q3
   obtain ⟨m', hm, w3⟩ := hN σ3 H3 n3
   exact ⟨m', hm, σ3, H3, I3, w3⟩
  | cont =>
   obtain ⟨σ3, H3, I3, n3⟩ := q3
   obtain ⟨m', hm, w3⟩ := hN σ3 H3 n3
   exact ⟨m', hm, σ3, H3, I3, w3⟩
  | brk => exact q3
  | ret v => exact q3
 | false =>
  rw [if_neg Bool.false_ne_true]
  exact wpAny_execs_nil ⟨σ1, H2, I2, q2⟩
end
structure It where
 go : Nat → Hp → Prop
 yld : Nat → Hp → V → Hp → Prop
 stop : Nat → Hp → Prop
def FpOk (X : Cx) (pins : List (Addr × Obj)) (H : Hp) (b : Addr) : Prop :=
 H b = none ∧ b ≠ X.env.locals ∧ b ∉ X.fs ∧ (b ∈ X.ex ∨ X.s₀.heap.objs.size ≤ b) ∧ (∀ x c, X.env.cells.lookup x = some c → c ≠ b) ∧ ∀ p ∈ X.pn ++ pins, p.1 ≠ b
theorem Inv.fpOk {X : Cx} {pins : List (Addr × Obj)} {σ : St} {H H' : Hp} {s : Shared} {b : Addr} (I : Inv X pins σ H s) (hb : s.heap.objs.size ≤ b) (hn : H' b = none) : FpOk X pins H' b := by
 refine ⟨hn, Nat.ne_of_gt (Nat.lt_of_lt_of_le I.lt hb), I.nofs hb, .inr (Nat.le_trans I.sz hb), fun x c e z => ?_, fun p hp z => ?_⟩
 ·obtain ⟨v, q⟩ := I.cell x c e
  exact absurd (Nat.lt_of_lt_of_le q.lt (by rw [z]; exact hb)) (Nat.lt_irrefl _)
 ·exact absurd (Nat.lt_of_lt_of_le (Heap.lt_size (I.pin p hp).1) (by rw [z]; exact hb)) (Nat.lt_irrefl _)
structure Turn (P : Program) (w : World) (K : PySem.W.Frag) (tg : Expr) (J : It) (fp : List Addr) (it : Addr) (tn : Nat → Heap → Prop) : Prop where
 mem : it ∈ fp
 obj : ∀ i h, tn i h → ∀ b ∈ fp, ∃ o, h.get? b = some o ∧ ∀ v, o.data ≠ .cell v
 keep : ∀ i h h', tn i h → (∀ b ∈ fp, ∀ o, h.get? b = some o → h'.get? b = some o) → tn i h'
 item : ∀ (X : Cx), X.prog = P → X.w = w → X.K = K → X.calm = true → ∀ (i : Nat) (pins : List (Addr × Obj)) (s : Shared) (σ : St) (H : Hp) (E : Value → Shared → Prop), Inv X pins σ H s → (∀ b ∈ fp, FpOk X pins H b) → tn i s.heap → J.go i H →
  wpAny (model P w) X.A (pyNext (.ref it)) (fun r s1 => ∃ u, r = some u ∧
   wpAny (model P w) X.A (letOwnedTupleGo tg (.ref it) u) (fun _ s2 => ∃ x H', Inv X pins σ H' s2 ∧ RelV x u ∧ J.yld i H x H' ∧ tn (i + 1) s2.heap ∧ ∀ b ∈ fp, H' b = none) E s1) E s
 done : ∀ (X : Cx), X.prog = P → X.w = w → X.K = K → X.calm = true → ∀ (i : Nat) (pins : List (Addr × Obj)) (s : Shared) (σ : St) (H : Hp) (E : Value → Shared → Prop), Inv X pins σ H s → (∀ b ∈ fp, FpOk X pins H b) → tn i s.heap → J.stop i H →
  wpAny (model P w) X.A (pyNext (.ref it)) (fun r s1 => r = none ∧ Inv X pins σ H s1) E s
 self : ∀ (A : Around) (i : Nat) (s : Shared) (Q : Value → Shared → Prop) (E : Value → Shared → Prop), tn i s.heap → Q (.ref it) s → wpAny (model P w) A (pyIter (.ref it)) Q E s
abbrev TI := St → Hp → (It → Hp → Prop) → Prop
def PIE (X : Cx) (pins : List (Addr × Obj)) (σ : St) (tg : Expr) (R : It → Hp → Prop) (itv : Value) (s2 : Shared) : Prop :=
 ∃ (it : Addr) (fp : List Addr) (tn : Nat → Heap → Prop) (J : It) (H' : Hp), itv = .ref it ∧ Inv X pins σ H' s2 ∧ Turn X.prog X.w X.K tg J fp it tn ∧ tn 0 s2.heap ∧ (∀ b ∈ fp, FpOk X pins H' b) ∧ R J H'
def PI (X : Cx) (tg iter : Expr) (wi : TI) : Prop :=
 ∀ (pins : List (Addr × Obj)) (s : Shared) (σ : St) (H : Hp) (R : It → Hp → Prop), Inv X pins σ H s → wi σ H R →
  wpAny (model X.prog X.w) X.A (eval iter X.env) (fun v s1 => wpAny (model X.prog X.w) X.A (pyIter v) (PIE X pins σ tg R) X.xe s1) X.xe s
theorem zwy {M : Model} {A : Around} {E : Value → Shared → Prop} {s : Shared} {tg : Expr} {it : Addr} {u : Value} {o : Obj} {n : String} {vs : Array Value} {Q : Unit → Shared → Prop} (ho : s.heap.get? it = some o) (hc : o.cls = .type n) (hd : o.data = .fields vs)
    (hn : ["enumerate", "zip", "dict_itemiterator", "dict_reverseitemiterator", "odict_iterator", "itertools.zip_longest", "itertools.pairwise"].contains n = false) (hQ : Q () s) : wpAny M A (letOwnedTupleGo tg (.ref it) u) Q E s := by
  unfold letOwnedTupleGo
  cases tg <;> first
    | exact wpAny_pure hQ
    | (cases u <;> first
        | exact wpAny_pure hQ
        | (refine wpAny_bind (wpAny_load ho ?_)
           rw [hc, hd]
           show wpAny M A (if (["enumerate", "zip", "dict_itemiterator", "dict_reverseitemiterator", "odict_iterator", "itertools.zip_longest", "itertools.pairwise"].contains n && vs[0]? == some (rawInt _)) = true then _ else _) Q E s
           rw [if_neg (by intro h; rw [hn, Bool.false_and] at h; cases h)]
           exact wpAny_pure hQ))
def Itl (K : PySem.W.Frag) (a : Addr) : It :=
 ⟨fun i H => ∃ xs x, SqL K H a xs ∧ xs[i]? = some x, fun i H x H' => H' = H ∧ ∀ xs, SqL K H a xs → xs[i]? = some x, fun i H => ∃ xs, SqL K H a xs ∧ xs.length ≤ i⟩
def Itt (K : PySem.W.Frag) (a : Addr) : It :=
 ⟨fun i H => ∃ xs x, SqT K H a xs ∧ xs[i]? = some x, fun i H x H' => H' = H ∧ ∀ xs, SqT K H a xs → xs[i]? = some x, fun i H => ∃ xs, SqT K H a xs ∧ xs.length ≤ i⟩
def Itr (lo : Int) (n : Nat) : It := ⟨fun i _ => i < n, fun i H x H' => H' = H ∧ x = .int (lo + i), fun i _ => n ≤ i⟩
theorem zqh {P : Program} {w : World} {K : PySem.W.Frag} {tg : Expr} (a it : Addr) : Turn P w K tg (Itl K a) [it] it (fun i h => h.IsListIter it a i) where
 mem := by simp
 obj := fun i h st b hb => by
  have e : b = it := by simpa using hb
  subst e
  obtain ⟨o, e, c, d⟩ := st
  exact ⟨o, e, fun v z => by rw [d] at z; cases z⟩
 keep := fun i h h' st k => st.at fun o e => k it (by simp) o e
 item := by
  intro X hP hw hK hc i pins s σ H E I hf st hg
  subst hP hw hK
  obtain ⟨xs, x, hq, hx⟩ := hg
  obtain ⟨its, rv, p, hz⟩ := I.list hq
  obtain ⟨u, hu, ru⟩ := rv.get hx
  obtain ⟨f0, f1, f2, f3, f4, f5⟩ := hf it (by simp)
  refine wpAny_pyNext_list_item st p.isList (x := u) (by simpa using hu) fun h' st' sb => ?_
  have I1 : Inv X pins σ H { s with heap := h' } := I.turned (t' := s.toks) (fun b o hb e => (sb.2 b hb).trans e) f0 f1 f3 f4 f5
  obtain ⟨o, e, c, d⟩ := id st'
  exact ⟨u, rfl, zwy (s := { s with heap := h' }) e c d (by decide) ⟨x, H, I1, ru, ⟨rfl, fun ys hy => by rw [I.list_inj hy hq]; exact hx⟩, st', fun b hb => (hf b hb).1⟩⟩
 done := by
  intro X hP hw hK hc i pins s σ H E I hf st hg
  subst hP hw hK
  obtain ⟨xs, hq, hx⟩ := hg
  obtain ⟨its, rv, p, hz⟩ := I.list hq
  obtain ⟨f0, f1, f2, f3, f4, f5⟩ := hf it (by simp)
  have hl := rv.length
  exact wpAny_pyNext_list_end (I.ok.hd hc) st p.isList (by simp; omega) fun h' eb => ⟨rfl, I.turned (t' := s.toks) (fun b o hb e => eb b o hb e) f0 f1 f3 f4 f5⟩
 self := fun _ _ _ _ _ st h => wpAny_pyIter_listiter st h
theorem zp4 {P : Program} {w : World} {K : PySem.W.Frag} {tg : Expr} (a it : Addr) : Turn P w K tg (Itt K a) [it] it (fun i h => h.IsTupleIter it a i) where
 mem := by simp
 obj := fun i h st b hb => by
  have e : b = it := by simpa using hb
  subst e
  obtain ⟨o, e, c, d⟩ := st
  exact ⟨o, e, fun v z => by rw [d] at z; cases z⟩
 keep := fun i h h' st k => st.at fun o e => k it (by simp) o e
 item := by
  intro X hP hw hK hc i pins s σ H E I hf st hg
  subst hP hw hK
  obtain ⟨xs, x, hq, hx⟩ := hg
  obtain ⟨its, rv, p, hz⟩ := I.tuple hq
  obtain ⟨u, hu, ru⟩ := rv.get hx
  obtain ⟨f0, f1, f2, f3, f4, f5⟩ := hf it (by simp)
  refine wpAny_pyNext_tuple_item st (show s.heap.IsTuple a its.toArray from p) (x := u) (by simpa using hu) fun h' st' sb => ?_
  have I1 : Inv X pins σ H { s with heap := h' } := I.turned (t' := s.toks) (fun b o hb e => (sb.2 b hb).trans e) f0 f1 f3 f4 f5
  obtain ⟨o, e, c, d⟩ := id st'
  exact ⟨u, rfl, zwy (s := { s with heap := h' }) e c d (by decide) ⟨x, H, I1, ru, ⟨rfl, fun ys hy => by rw [I.tuple_inj hy hq]; exact hx⟩, st', fun b hb => (hf b hb).1⟩⟩
 done := by
  intro X hP hw hK hc i pins s σ H E I hf st hg
  subst hP hw hK
  obtain ⟨xs, hq, hx⟩ := hg
  obtain ⟨its, rv, p, hz⟩ := I.tuple hq
  obtain ⟨f0, f1, f2, f3, f4, f5⟩ := hf it (by simp)
  have hl := rv.length
  exact wpAny_pyNext_tuple_end (I.ok.hd hc) st (show s.heap.IsTuple a its.toArray from p) (by simp; omega) fun h' eb => ⟨rfl, I.turned (t' := s.toks) (fun b o hb e => eb b o hb e) f0 f1 f3 f4 f5⟩
 self := fun _ _ _ _ _ st h => wpAny_pyIter_tupleiter st h
theorem zp5 {P : Program} {w : World} {K : PySem.W.Frag} {tg : Expr} (it : Addr) (lo : Int) (n : Nat) : Turn P w K tg (Itr lo n) [it] it (fun i h => IsRangeIter h it (lo + (i : Nat) * 1) ((n : Int) - (i : Nat)) 1) where
 mem := by simp
 obj := fun i h st b hb => by
  have e : b = it := by simpa using hb
  subst e
  exact ⟨_, st, fun v z => by
   have z' : Data.fields _ = Data.cell v := z
   cases z'⟩
 keep := fun i h h' st k => k it (by simp) _ st
 item := by
  intro X hP hw hK hc i pins s σ H E I hf st hg
  subst hP hw hK
  obtain ⟨f0, f1, f2, f3, f4, f5⟩ := hf it (by simp)
  have W := Walks.range (prog := X.prog) (w := X.w) (I.ok.hd hc) it lo 1 n
  refine W.item i s _ _ hg st fun v h' tk hv st' kk => ?_
  obtain ⟨t, rfl⟩ := hv
  have I1 : Inv X pins σ H { s with heap := h', toks := tk } := I.turned (fun b o hb e => kk b o (by simpa using hb) e) f0 f1 f3 f4 f5
  refine ⟨_, rfl, zwy (s := { s with heap := h', toks := tk }) (n := "range_iterator") st' rfl rfl (by decide) ⟨.int (lo + i), H, I1, ⟨t, ?_⟩, ⟨rfl, rfl⟩, st', fun b hb => (hf b hb).1⟩⟩
  rw [Int.mul_one]
 done := by
  intro X hP hw hK hc i pins s σ H E I hf st hg
  subst hP hw hK
  obtain ⟨f0, f1, f2, f3, f4, f5⟩ := hf it (by simp)
  exact wpAny_pyNext_range_end (I.ok.hd hc) st (by have : n ≤ i := hg; omega) fun h' eb => ⟨rfl, I.turned (t' := s.toks) (fun b o hb e => eb b o hb e) f0 f1 f3 f4 f5⟩
 self := fun _ _ _ _ _ st h => wpAny_pyIter_rangeiter st h
end L2
namespace L2
open PySem PySem.Spec PyProof.Rows
section
variable {X : Cx} {tg : Expr}
def zwx (K : PySem.W.Frag) (tl : TE) : TI := fun σ H R => tl σ H fun x H1 => ∃ a, x = .ref a ∧ (∃ xs, SqL K H1 a xs) ∧ R (Itl K a) H1
def q0z (K : PySem.W.Frag) (tl : TE) : TI := fun σ H R => tl σ H fun x H1 => ∃ a, x = .ref a ∧ (∃ xs, SqT K H1 a xs) ∧ R (Itt K a) H1
theorem zfe {l : Expr} {tl : TE} (hl : PE X l tl) : PI X tg l (zwx X.K tl) := by
 intro pins s σ H R I h
 refine thn (hl pins s σ H _ I h) fun v s1 ⟨x, H1, I1, r1, q1⟩ => ?_
 obtain ⟨a, e, ⟨xs, hq⟩, q⟩ := q1
 subst e
 cases r1
 obtain ⟨its, rv, p, hz⟩ := I1.list hq
 refine wpAny_pyIter_list p.isList ?_
 refine ⟨s1.heap.objs.size, [s1.heap.objs.size], _, _, H1, rfl, I1.kept (t' := s1.toks) fun b o e => Heap.get?_push_of_some _ e, zqh a _, ⟨_, Heap.get?_push_size _ rfl, rfl, rfl⟩, fun b hb => ?_, q⟩
 have e : b = s1.heap.objs.size := by simpa using hb
 subst e
 exact I1.fpOk (Nat.le_refl _) (I1.hok.fresh (Nat.le_refl _))
theorem zyn {l : Expr} {tl : TE} (hl : PE X l tl) : PI X tg l (q0z X.K tl) := by
 intro pins s σ H R I h
 refine thn (hl pins s σ H _ I h) fun v s1 ⟨x, H1, I1, r1, q1⟩ => ?_
 obtain ⟨a, e, ⟨xs, hq⟩, q⟩ := q1
 subst e
 cases r1
 obtain ⟨its, rv, p, hz⟩ := I1.tuple hq
 refine wpAny_pyIter_tuple (show s1.heap.IsTuple a its.toArray from p) ?_
 refine ⟨s1.heap.objs.size, [s1.heap.objs.size], _, _, H1, rfl, I1.kept (t' := s1.toks) fun b o e => Heap.get?_push_of_some _ e, zp4 a _, ⟨_, Heap.get?_push_size _ rfl, rfl, rfl⟩, fun b hb => ?_, q⟩
 have e : b = s1.heap.objs.size := by simpa using hb
 subst e
 exact I1.fpOk (Nat.le_refl _) (I1.hok.fresh (Nat.le_refl _))
theorem zo2 {pins : List (Addr × Obj)} {σ : St} {H : Hp} {s : Shared} {R : It → Hp → Prop} {E : Value → Shared → Prop} {lo hi : Int} {t u v : Tok} {tk : Nat} (I : Inv X pins σ H s) (h1 : -(2 ^ 62) ≤ lo) (h2 : lo < 2 ^ 62) (h3 : -(2 ^ 62) ≤ hi) (h4 : hi < 2 ^ 62)
  (q : R (Itr lo (hi - lo).toNat) H) : wpAny (model X.prog X.w) X.A (pyIter (.ref s.heap.objs.size)) (PIE X pins σ tg R) E { s with heap := s.heap.push { cls := .type "range", data := .fields #[.int lo t, .int hi u, .int 1 v] }, toks := tk } := by
 refine wpAny_pyIter_range (IsRange.new ..) (small_one h1 h2 h3 h4) ?_
 have I1 : Inv X pins σ H { s with heap := s.heap.push { cls := .type "range", data := .fields #[.int lo t, .int hi u, .int 1 v] }, toks := tk } := I.kept fun b o e => Heap.get?_push_of_some _ e
 refine ⟨(s.heap.push { cls := .type "range", data := .fields #[.int lo t, .int hi u, .int 1 v] }).objs.size, [(s.heap.push { cls := .type "range", data := .fields #[.int lo t, .int hi u, .int 1 v] }).objs.size], _, _, H, rfl,
  I1.kept (t' := tk) fun b o e => Heap.get?_push_of_some _ e, zp5 _ lo (hi - lo).toNat, ?_, fun b hb => ?_, q⟩
 ·have e1 : lo + ((0 : Nat) : Int) * 1 = lo := by simp
  have e2 : (((hi - lo).toNat : Nat) : Int) - ((0 : Nat) : Int) = Builtin.Range.rangeSize lo hi 1 := by rw [rangeSize_one]; split <;> omega
  show IsRangeIter _ _ (lo + ((0 : Nat) : Int) * 1) ((((hi - lo).toNat : Nat) : Int) - ((0 : Nat) : Int)) 1
  rw [e1, e2]
  exact Heap.get?_push_size _ rfl
 ·have e : b = (s.heap.push { cls := .type "range", data := .fields #[.int lo t, .int hi u, .int 1 v] }).objs.size := by simpa using hb
  subst e
  exact I1.fpOk (Nat.le_refl _) (I1.hok.fresh (Nat.le_refl _))
def zzh (ta : TA) : TI := fun σ H R => ta σ H fun vs H1 => ∃ j : Int, vs = [.int j] ∧ -(2 ^ 62) ≤ j ∧ j < 2 ^ 62 ∧ R (Itr 0 j.toNat) H1
def zww (ta : TA) : TI := fun σ H R => ta σ H fun vs H1 => ∃ i j : Int, vs = [.int i, .int j] ∧ (-(2 ^ 62) ≤ i ∧ i < 2 ^ 62 ∧ -(2 ^ 62) ≤ j ∧ j < 2 ^ 62) ∧ R (Itr i (j - i).toNat) H1
theorem zh7 {a : Expr} {ta : TA} {p pos : Pos} (hg : Gl X "range") (hm : X.mg "range" = none) (ha : PA X [a] ta) (hs : starEach [a] X.env = [(false, eval a X.env)] := by rfl) : PI X tg (.Call (.Name "range" p) [a] [] pos) (zzh ta) := by
 intro pins s σ H R I h
 refine Call_ (zhg I hg hm boot_range (PyProof.Rows.callWith_type1 (thn (ha pos pins s σ H _ I h) fun us s1 ⟨vs, H1, I1, r1, q1⟩ => ?_) hs rfl))
 obtain ⟨j, e, q1, q2, q⟩ := q1
 subst e
 cases r1 with
 | cons r rr =>
  cases rr
  obtain ⟨t, rfl⟩ := r
  exact call_range_1 (zo2 I1 (by omega) (by omega) q1 q2 (by simpa using q))
theorem zr5 {a b : Expr} {ta : TA} {p pos : Pos} (hg : Gl X "range") (hm : X.mg "range" = none) (ha : PA X [a, b] ta) (hs : starEach [a, b] X.env = [(false, eval a X.env), (false, eval b X.env)] := by rfl) (hs2 : starEach [b] X.env = [(false, eval b X.env)] := by rfl) :
  PI X tg (.Call (.Name "range" p) [a, b] [] pos) (zww ta) := by
 intro pins s σ H R I h
 refine Call_ (zhg I hg hm boot_range (PyProof.Rows.callWith_type1 (thn (ha pos pins s σ H _ I h) fun us s1 ⟨vs, H1, I1, r1, q1⟩ => ?_) (by rw [hs, hs2]) (by rw [hs2]; rfl)))
 obtain ⟨i, j, e, ⟨q1, q2, q3, q4⟩, q⟩ := q1
 subst e
 cases r1 with
 | cons r rr =>
  cases rr with
  | cons r' rr =>
   cases rr
   obtain ⟨t, rfl⟩ := r
   obtain ⟨t', rfl⟩ := r'
   exact call_range_2 (zo2 I1 q1 q2 q3 q4 q)
def ztq (wi : TI) (g : TG) (tb : TS) : TS := fun D σ H => wi σ H fun J H1 => ∃ W : Nat → Nat → St → Hp → Prop, (∃ m, W 0 m σ H1) ∧ ∀ i m σ H, W i m σ H →
 (J.stop i H ∧ D.nx σ H) ∨ (J.go i H ∧ ∃ N : St → Hp → Prop, (∀ σ' H', N σ' H' → ∃ m', m' < m ∧ W (i + 1) m' σ' H') ∧ ∀ x H', J.yld i H x H' → g x σ H' fun σ2 H2 => tb { D with nx := N, ct := N, bk := D.nx } σ2 H2)
def zku (fp : List Addr) (h : Heap) : List (Addr × Obj) := fp.filterMap fun b => (h.get? b).map fun o => (b, o)
theorem zc2 {fp : List Addr} {h : Heap} {b : Addr} {o : Obj} (hb : b ∈ fp) (e : h.get? b = some o) : (b, o) ∈ zku fp h := List.mem_filterMap.mpr ⟨b, hb, by rw [e]; rfl⟩
theorem zrk {fp : List Addr} {h : Heap} {p : Addr × Obj} (hp : p ∈ zku fp h) : p.1 ∈ fp ∧ h.get? p.1 = some p.2 := by
 obtain ⟨b, hb, e⟩ := List.mem_filterMap.mp hp
 cases q : h.get? b with
 | none => rw [q] at e; cases e
 | some o =>
  rw [q] at e
  have e' : (b, o) = p := Option.some.inj e
  subst e'
  exact ⟨hb, q⟩
theorem Inv.pinned {pins : List (Addr × Obj)} {σ : St} {H : Hp} {s : Shared} {fp : List Addr} (I : Inv X pins σ H s) (hf : ∀ b ∈ fp, FpOk X pins H b) (ho : ∀ b ∈ fp, ∃ o, s.heap.get? b = some o ∧ ∀ v, o.data ≠ .cell v) : Inv X (pins ++ zku fp s.heap) σ H s :=
 I.pins_of fun p hp => (List.mem_append.mp hp).elim (fun z => I.pin p (List.mem_append_right _ z)) fun z => by
  obtain ⟨hb, e⟩ := zrk z
  obtain ⟨f0, f1, f2, _⟩ := hf p.1 hb
  obtain ⟨o, e', d⟩ := ho p.1 hb
  rw [e] at e'; cases e'
  exact ⟨e, f0, f1, f2, d⟩
theorem Inv.unpinned {pins pl : List (Addr × Obj)} {σ : St} {H : Hp} {s : Shared} (I : Inv X (pins ++ pl) σ H s) : Inv X pins σ H s := I.pins_of fun p hp => I.pin p (List.mem_append_right _ (List.mem_append_left _ hp))
theorem zcu {iter : Expr} {body : List Stmt} {wi : TI} {g : TG} {tb : TS} {pos : Pos} (hp : PassesOwn (model X.prog X.w) X.A X.env X.xe) (hc : X.calm = true) (hi : PI X tg iter wi) (hg : PG X tg g) (hb : PSs X body tb)
  (hs : ∀ x, foldedSetIterable iter X.env x = pure x := by intro _; rfl) : PS X (.For tg iter body [] pos) (ztq wi g tb) := by
 intro pins s σ H D I h
 refine wpAny_For (thn (hi pins s σ H _ I h) fun v s1 h1 => thn h1 fun itv s2 h2 => ?_) hs
 obtain ⟨it, fp, tn, J, H2, e, I2, T, st2, f2, W, ⟨m0, w0⟩, turn⟩ := h2
 subst e
 have stat : ∀ {H' : Hp}, (∀ b ∈ fp, H' b = none) → ∀ b ∈ fp, FpOk X pins H' b := fun hn b hb => ⟨hn b hb, (f2 b hb).2⟩
 refine codeAny_forLoop_any (fun n s' => ∃ i σ' H', Inv X pins σ' H' s' ∧ tn i s'.heap ∧ (∀ b ∈ fp, H' b = none) ∧ W i n σ' H') ?_ m0 ⟨0, σ, H2, I2, st2, fun b hb => (f2 b hb).1, w0⟩
 rintro n s3 ⟨i, σ3, H3, I3, st3, fr3, w3⟩
 rcases turn i n σ3 H3 w3 with ⟨stop, qn⟩ | ⟨go, N, hN, step⟩
 ·refine wpAny_passesOwn hp (thn (T.done X rfl rfl rfl hc i pins s3 σ3 H3 X.xe I3 (stat fr3) st3 stop) fun r s4 ⟨hr, I4⟩ => ?_)
  subst hr
  exact wpAny_execs_nil ⟨σ3, H3, I4, qn⟩
 ·refine wpAny_passesOwn hp (thn (T.item X rfl rfl rfl hc i pins s3 σ3 H3 X.xe I3 (stat fr3) st3 go) fun r s4 ⟨u, hr, h4⟩ => ?_)
  subst hr
  refine wpAny_passesOwn hp (thn h4 fun _ s5 ⟨x, H5, I5, r5, y5, st5, fr5⟩ => ?_)
  have I5' := I5.pinned (stat fr5) (T.obj _ _ st5)
  refine wpAny_passesOwn hp (thn (hg _ s5 σ3 H5 x u _ I5' r5 (step x H5 y5)) fun _ s6 ⟨σ6, H6, I6, q6⟩ => ?_)
  refine wpAny_passesOwn hp (thn (hb _ s6 σ6 H6 _ I6 q6) fun f s7 q7 => ?_)
  have again : ∀ {σ7 : St} {H7 : Hp}, Inv X (pins ++ zku fp s5.heap) σ7 H7 s7 → N σ7 H7 → ∃ m, m < n ∧ ∃ i σ' H', Inv X pins σ' H' s7 ∧ tn i s7.heap ∧ (∀ b ∈ fp, H' b = none) ∧ W i m σ' H' := fun {σ7 H7} I7 n7 => by
   obtain ⟨m', hm, w7⟩ := hN σ7 H7 n7
   refine ⟨m', hm, i + 1, σ7, H7, I7.unpinned, T.keep _ _ _ st5 fun b hb o e => (I7.pin (b, o) (List.mem_append_right _ (List.mem_append_right _ (zc2 hb e)))).1, fun b hb => ?_, w7⟩
   obtain ⟨o, e, d⟩ := T.obj _ _ st5 b hb
   exact (I7.pin (b, o) (List.mem_append_right _ (List.mem_append_right _ (zc2 hb e)))).2.1
  cases f with
  | next => obtain ⟨σ7, H7, I7, n7⟩ := q7; exact again I7 n7
  | cont => obtain ⟨σ7, H7, I7, n7⟩ := q7; exact again I7 n7
  | brk => obtain ⟨σ7, H7, I7, q7⟩ := q7; exact ⟨σ7, H7, I7.unpinned, q7⟩
  | ret v => obtain ⟨x7, σ7, H7, I7, r7, q7⟩ := q7; exact ⟨x7, σ7, H7, I7.unpinned, r7, q7⟩
end
theorem zok {K : PySem.W.Frag} {a : Addr} {xs : List V} {g : TG} {tb : TS} {D : Ends} {σ : St} {H : Hp} (Pv : Nat → St → Hp → Prop) (h0 : Pv 0 σ H) (hl : ∀ i σ H, i ≤ xs.length → Pv i σ H → SqL K H a xs)
  (hs : ∀ i x σ H, xs[i]? = some x → Pv i σ H → g x σ H fun σ2 H2 => tb { D with nx := Pv (i + 1), ct := Pv (i + 1), bk := D.nx } σ2 H2) (hd : ∀ σ H, Pv xs.length σ H → D.nx σ H) :
  ∃ W : Nat → Nat → St → Hp → Prop, (∃ m, W 0 m σ H) ∧ ∀ i m σ H, W i m σ H →
   ((Itl K a).stop i H ∧ D.nx σ H) ∨ ((Itl K a).go i H ∧ ∃ N : St → Hp → Prop, (∀ σ' H', N σ' H' → ∃ m', m' < m ∧ W (i + 1) m' σ' H') ∧ ∀ x H', (Itl K a).yld i H x H' → g x σ H' fun σ2 H2 => tb { D with nx := N, ct := N, bk := D.nx } σ2 H2) := by
 refine ⟨fun i m σ H => m = xs.length - i ∧ i ≤ xs.length ∧ Pv i σ H, ⟨xs.length, by simp, Nat.zero_le _, h0⟩, ?_⟩
 rintro i m σ H ⟨rfl, hi, p⟩
 have q := hl i σ H hi p
 by_cases hlt : i < xs.length
 ·refine .inr ⟨⟨xs, xs[i], q, by simp [hlt]⟩, Pv (i + 1), fun σ' H' p' => ⟨xs.length - (i + 1), by omega, rfl, hlt, p'⟩, fun x H' y => ?_⟩
  obtain ⟨e, y⟩ := y
  subst e
  exact hs i x σ _ (y xs q) p
 ·have e : i = xs.length := by omega
  subst e
  exact .inl ⟨⟨xs, q, Nat.le_refl _⟩, hd σ H p⟩
theorem zx0 {K : PySem.W.Frag} {a : Addr} {xs : List V} {g : TG} {tb : TS} {D : Ends} {σ : St} {H : Hp} (Pv : Nat → St → Hp → Prop) (h0 : Pv 0 σ H) (hl : ∀ i σ H, i ≤ xs.length → Pv i σ H → SqT K H a xs)
  (hs : ∀ i x σ H, xs[i]? = some x → Pv i σ H → g x σ H fun σ2 H2 => tb { D with nx := Pv (i + 1), ct := Pv (i + 1), bk := D.nx } σ2 H2) (hd : ∀ σ H, Pv xs.length σ H → D.nx σ H) :
  ∃ W : Nat → Nat → St → Hp → Prop, (∃ m, W 0 m σ H) ∧ ∀ i m σ H, W i m σ H →
   ((Itt K a).stop i H ∧ D.nx σ H) ∨ ((Itt K a).go i H ∧ ∃ N : St → Hp → Prop, (∀ σ' H', N σ' H' → ∃ m', m' < m ∧ W (i + 1) m' σ' H') ∧ ∀ x H', (Itt K a).yld i H x H' → g x σ H' fun σ2 H2 => tb { D with nx := N, ct := N, bk := D.nx } σ2 H2) := by
 refine ⟨fun i m σ H => m = xs.length - i ∧ i ≤ xs.length ∧ Pv i σ H, ⟨xs.length, by simp, Nat.zero_le _, h0⟩, ?_⟩
 rintro i m σ H ⟨rfl, hi, p⟩
 have q := hl i σ H hi p
 by_cases hlt : i < xs.length
 ·refine .inr ⟨⟨xs, xs[i], q, by simp [hlt]⟩, Pv (i + 1), fun σ' H' p' => ⟨xs.length - (i + 1), by omega, rfl, hlt, p'⟩, fun x H' y => ?_⟩
  obtain ⟨e, y⟩ := y
  subst e
  exact hs i x σ _ (y xs q) p
 ·have e : i = xs.length := by omega
  subst e
  exact .inl ⟨⟨xs, q, Nat.le_refl _⟩, hd σ H p⟩
theorem zhr {lo : Int} {n : Nat} {g : TG} {tb : TS} {D : Ends} {σ : St} {H : Hp} (Pv : Nat → St → Hp → Prop) (h0 : Pv 0 σ H)
  (hs : ∀ i σ H, i < n → Pv i σ H → g (.int (lo + i)) σ H fun σ2 H2 => tb { D with nx := Pv (i + 1), ct := Pv (i + 1), bk := D.nx } σ2 H2) (hd : ∀ σ H, Pv n σ H → D.nx σ H) :
  ∃ W : Nat → Nat → St → Hp → Prop, (∃ m, W 0 m σ H) ∧ ∀ i m σ H, W i m σ H →
   ((Itr lo n).stop i H ∧ D.nx σ H) ∨ ((Itr lo n).go i H ∧ ∃ N : St → Hp → Prop, (∀ σ' H', N σ' H' → ∃ m', m' < m ∧ W (i + 1) m' σ' H') ∧ ∀ x H', (Itr lo n).yld i H x H' → g x σ H' fun σ2 H2 => tb { D with nx := N, ct := N, bk := D.nx } σ2 H2) := by
 refine ⟨fun i m σ H => m = n - i ∧ i ≤ n ∧ Pv i σ H, ⟨n, by simp, Nat.zero_le _, h0⟩, ?_⟩
 rintro i m σ H ⟨rfl, hi, p⟩
 by_cases hlt : i < n
 ·refine .inr ⟨hlt, Pv (i + 1), fun σ' H' p' => ⟨n - (i + 1), by omega, rfl, hlt, p'⟩, fun x H' y => ?_⟩
  obtain ⟨e, y⟩ := y
  subst e y
  exact hs i σ _ hlt p
 ·have e : i = n := by omega
  subst e
  exact .inl ⟨Nat.le_refl _, hd σ H p⟩
end L2
namespace L2
open PySem PySem.Spec PyProof.Rows
abbrev R2 := V → V → Hp → VK → Prop
def OpR (X : Cx) (f : Value → Value → Sem Value) (r : R2) : Prop :=
 ∀ (pins : List (Addr × Obj)) (s : Shared) (σ : St) (H : Hp) (x y : V) (v u : Value) (Q : VK), Inv X pins σ H s → RelV x v → RelV y u → r x y H Q →
  wpAny (model X.prog X.w) X.A (f v u) (EP X pins σ Q) X.xe s
def UnR (X : Cx) (f : Value → Sem Value) (r : V → Hp → VK → Prop) : Prop :=
 ∀ (pins : List (Addr × Obj)) (s : Shared) (σ : St) (H : Hp) (x : V) (v : Value) (Q : VK), Inv X pins σ H s → RelV x v → r x H Q →
  wpAny (model X.prog X.w) X.A (f v) (EP X pins σ Q) X.xe s
def CallR (X : Cx) (f : Value) (r : List V → Hp → VK → Prop) : Prop :=
 ∀ (pins : List (Addr × Obj)) (s : Shared) (σ : St) (H : Hp) (xs : List V) (us : List Value) (Q : VK), Inv X pins σ H s → Vals xs us → r xs H Q →
  wpAny (model X.prog X.w) X.A (call f us) (EP X pins σ Q) X.xe s
def tOp (r : R2) (ta tb : TE) : TE := fun σ H Q => ta σ H fun x H1 => tb σ H1 fun y H2 => r x y H2 Q
def tUn (r : V → Hp → VK → Prop) (ta : TE) : TE := fun σ H Q => ta σ H fun x H1 => r x H1 Q
def rI (C : Int → Int → Prop) (g : Int → Int → V) : R2 := fun x y H Q => ∃ i j, x = .int i ∧ y = .int j ∧ C i j ∧ Q (g i j) H
def rI0 (g : Int → Int → V) : R2 := fun x y H Q => ∃ i j, x = .int i ∧ y = .int j ∧ Q (g i j) H
def rU (g : Int → V) : V → Hp → VK → Prop := fun x H Q => ∃ i, x = .int i ∧ Q (g i) H
section
variable {X : Cx} {a b c : Expr} {ta tb tc : TE} {pos : Pos}
theorem q18 (ha : PE X a ta) (hb : PE X b tb) {pins : List (Addr × Obj)} {s : Shared} {σ : St} {H : Hp} {R : V → V → Hp → Prop} (I : Inv X pins σ H s)
  (h : ta σ H fun x H1 => tb σ H1 fun y H2 => R x y H2) {Q : Value → Shared → Prop} {f : Value → Value → Sem Value}
  (hf : ∀ v u s2 x y H2, Inv X pins σ H2 s2 → RelV x v → RelV y u → R x y H2 → wpAny (model X.prog X.w) X.A (f v u) Q X.xe s2) :
  wpAny (model X.prog X.w) X.A (eval a X.env) (fun v s₁ => wpAny (model X.prog X.w) X.A (eval b X.env) (fun u s₂ => wpAny (model X.prog X.w) X.A (f v u) Q X.xe s₂) X.xe s₁) X.xe s := by
 refine thn (ha pins s σ H _ I h) fun v s1 ⟨x, H1, I1, r1, q1⟩ => ?_
 refine thn (hb pins s1 σ H1 _ I1 q1) fun u s2 ⟨y, H2, I2, r2, q2⟩ => ?_
 exact hf v u s2 x y H2 I2 r1 r2 q2
theorem z17 {op : Operator} {r : R2} (ho : OpR X (binaryOp op) r) (ha : PE X a ta) (hb : PE X b tb) : PE X (.BinOp a op b pos) (tOp r ta tb) := by
 intro pins s σ H Q I h
 exact wpAny_BinOp (q18 ha hb I h fun v u s2 x y H2 I2 rx ry q => ho pins s2 σ H2 x y v u Q I2 rx ry q)
theorem zi8 {op : UnaryOp} {r : V → Hp → VK → Prop} (ho : UnR X (unaryOp op) r) (ha : PE X a ta) : PE X (.UnaryOp op a pos) (tUn r ta) := by
 intro pins s σ H Q I h
 exact UnaryOp_ (thn (ha pins s σ H _ I h) fun v s1 ⟨x, H1, I1, r1, q1⟩ => ho pins s1 σ H1 x v Q I1 r1 q1)
theorem opI {f : Value → Value → Sem Value} {C : Int → Int → Prop} {g : Int → Int → Int}
  (rule : ∀ (i j : Int) (t u : Tok) (s : Shared) (Q : Value → Shared → Prop) (E : Value → Shared → Prop), C i j → Q (.int (g i j) s.toks) { s with toks := s.toks + 1 } → wpAny (model X.prog X.w) X.A (f (.int i t) (.int j u)) Q E s) :
  OpR X f (rI C fun i j => .int (g i j)) := by
 intro pins s σ H x y v u Q I rx ry h
 obtain ⟨i, j, rfl, rfl, hc, q⟩ := h
 obtain ⟨t, rfl⟩ := rx
 obtain ⟨t', rfl⟩ := ry
 exact rule i j t t' s _ _ hc ⟨.int (g i j), H, I.tok _, ⟨_, rfl⟩, q⟩
theorem q1j {f : Value → Value → Sem Value} {g : Int → Int → Int}
  (rule : ∀ (i j : Int) (t u : Tok) (s : Shared) (Q : Value → Shared → Prop) (E : Value → Shared → Prop), Q (.int (g i j) s.toks) { s with toks := s.toks + 1 } → wpAny (model X.prog X.w) X.A (f (.int i t) (.int j u)) Q E s) :
  OpR X f (rI0 fun i j => .int (g i j)) := by
 intro pins s σ H x y v u Q I rx ry h
 obtain ⟨i, j, rfl, rfl, q⟩ := h
 obtain ⟨t, rfl⟩ := rx
 obtain ⟨t', rfl⟩ := ry
 exact rule i j t t' s _ _ ⟨.int (g i j), H, I.tok _, ⟨_, rfl⟩, q⟩
theorem q0h {f : Value → Value → Sem Value} {g : Int → Int → Bool}
  (rule : ∀ (i j : Int) (t u : Tok) (s : Shared) (Q : Value → Shared → Prop) (E : Value → Shared → Prop), Q (.bool (g i j)) s → wpAny (model X.prog X.w) X.A (f (.int i t) (.int j u)) Q E s) :
  OpR X f (rI0 fun i j => .bl (g i j)) := by
 intro pins s σ H x y v u Q I rx ry h
 obtain ⟨i, j, rfl, rfl, q⟩ := h
 obtain ⟨t, rfl⟩ := rx
 obtain ⟨t', rfl⟩ := ry
 exact rule i j t t' s _ _ ⟨.bl (g i j), H, I, rfl, q⟩
def q2i (i j : Int) : Prop := 0 < j ∧ j < 1073741824
def q1d (i j : Int) : Prop := j ≠ 0 ∧ j.natAbs < 1073741824
def CMul (i j : Int) : Prop := (-(2 ^ 64) < i ∧ i < 2 ^ 64) ∨ (-(2 ^ 64) < j ∧ j < 2 ^ 64)
theorem CMul.ok {i j : Int} (h : CMul i j) : IntMulOk i j := by
 rcases h with ⟨h1, h2⟩ | ⟨h1, h2⟩
 ·exact .of_left (intBits_le_64 h1 h2)
 ·exact .of_right (intBits_le_64 h1 h2)
theorem z2e : OpR X (binaryOp .Add) (rI0 fun i j => .int (i + j)) := q1j fun _ _ _ _ _ _ _ q => add_int q
theorem ze2 : OpR X (binaryOp .Sub) (rI0 fun i j => .int (i - j)) := q1j fun _ _ _ _ _ _ _ q => sub_int q
theorem zai : OpR X (binaryOp .Mult) (rI CMul fun i j => .int (i * j)) := opI fun _ _ _ _ _ _ _ hc q => mul_int q hc.ok
theorem zwb : OpR X (binaryOp .FloorDiv) (rI q2i fun i j => .int (i / j)) := opI fun i j _ _ _ _ _ hc q => by
 have h1 : (0 : Int) < j := hc.1
 have h2 : j < 1073741824 := hc.2
 exact floordiv_int (by omega) (by rw [Int.fdiv_eq_ediv_of_nonneg i (by omega)]; exact q) (.inl (PyProof.noPylong_small (by omega)))
theorem zoc : OpR X (binaryOp .FloorDiv) (rI q1d fun i j => .int (i.fdiv j)) := opI fun _ _ _ _ _ _ _ hc q => floordiv_int hc.1 q (.inl (PyProof.noPylong_small hc.2))
theorem zky : OpR X (binaryOp .Mod) (rI (fun _ j => 0 < j) fun i j => .int (i % j)) := opI fun i j _ _ _ _ _ hc q => by
 have h1 : (0 : Int) < j := hc
 exact mod_int' (by omega) (by rw [Int.fmod_eq_emod_of_nonneg i (by omega)]; exact q)
theorem unI {f : Value → Sem Value} {g : Int → Int}
  (rule : ∀ (i : Int) (t : Tok) (s : Shared) (Q : Value → Shared → Prop) (E : Value → Shared → Prop), Q (.int (g i) s.toks) { s with toks := s.toks + 1 } → wpAny (model X.prog X.w) X.A (f (.int i t)) Q E s) :
  UnR X f (rU fun i => .int (g i)) := by
 intro pins s σ H x v Q I rx h
 obtain ⟨i, rfl, q⟩ := h
 obtain ⟨t, rfl⟩ := rx
 exact rule i t s _ _ ⟨.int (g i), H, I.tok _, ⟨_, rfl⟩, q⟩
theorem zct : UnR X (unaryOp .USub) (rU fun i => .int (-i)) := unI fun _ _ _ _ _ q => neg_int q
end
def q0a : V → V → Bool
 | .non, .non => true | .non, .int _ => true | .int _, .non => true | .non, .bl _ => true | .bl _, .non => true | .non, .str _ => true | .str _, .non => true
 | .int _, .int _ => true | .bl _, .bl _ => true | .str _, .str _ => true | .byt _, .byt _ => true
 | .int _, .str _ => true | .str _, .int _ => true | .bl _, .str _ => true | .str _, .bl _ => true
 | _, _ => false
def rEq : R2 := fun x y H Q => q0a x y = true ∧ Q (.bl (decide (x = y))) H
def rNe : R2 := fun x y H Q => q0a x y = true ∧ Q (.bl (!decide (x = y))) H
theorem zsn {i j : Int} : decide (V.int i = V.int j) = (i == j) := by
 rw [Bool.eq_iff_iff]
 simp
theorem zvl {i j : Bool} : decide (V.bl i = V.bl j) = (i == j) := by
 rw [Bool.eq_iff_iff]
 simp
theorem zsm {i j : Str} : decide (V.str i = V.str j) = (i == j) := by
 rw [Bool.eq_iff_iff]
 simp
theorem zso {i j : Array UInt8} : decide (V.byt i = V.byt j) = (i.toList == j.toList) := by
 rw [Bool.eq_iff_iff]
 cases i
 cases j
 simp
section
variable {X : Cx} {a b c : Expr} {ta tb tc : TE} {pos : Pos}
theorem z34 {pins : List (Addr × Obj)} {σ : St} {H : Hp} {s : Shared} {Q : VK} {k k' : Bool} (I : Inv X pins σ H s) (q : Q (.bl k) H) (e : k = k') : EP X pins σ Q (.bool k') s := by
 subst e
 exact ⟨.bl k, H, I, rfl, q⟩
theorem zyv : OpR X (compareOp .Eq) rEq := by
 intro pins s σ H x y v u Q I rx ry h
 obtain ⟨hs, q⟩ := h
 cases x with
 | non =>
  cases rx
  cases y with
  | non => cases ry; exact PySem.EqNone.eq_none_none (z34 I q (by simp))
  | bl j => cases ry; exact PySem.EqNone.eq_none_bool (z34 I q (by simp))
  | int j => obtain ⟨t', rfl⟩ := ry; exact PySem.EqNone.eq_none_int (z34 I q (by simp))
  | str j => obtain ⟨t', rfl⟩ := ry; exact PySem.EqNone.eq_none_str (z34 I q (by simp))
  | _ => exact absurd (show false = true from hs) Bool.false_ne_true
 | bl i =>
  cases rx
  cases y with
  | non => cases ry; exact PySem.EqNone.eq_bool_none (z34 I q (by simp))
  | bl j => cases ry; exact eq_bool (z34 I q zvl)
  | str j => obtain ⟨t', rfl⟩ := ry; exact PySem.EqMixed.eq_bool_str (z34 I q (by simp))
  | _ => exact absurd (show false = true from hs) Bool.false_ne_true
 | int i =>
  obtain ⟨t, rfl⟩ := rx
  cases y with
  | non => cases ry; exact PySem.EqNone.eq_int_none (z34 I q (by simp))
  | int j => obtain ⟨t', rfl⟩ := ry; exact eq_int (z34 I q zsn)
  | str j => obtain ⟨t', rfl⟩ := ry; exact PySem.EqMixed.eq_int_str (z34 I q (by simp))
  | _ => exact absurd (show false = true from hs) Bool.false_ne_true
 | str i =>
  obtain ⟨t, rfl⟩ := rx
  cases y with
  | non => cases ry; exact PySem.EqNone.eq_str_none (z34 I q (by simp))
  | bl j => cases ry; exact PySem.EqMixed.eq_str_bool (z34 I q (by simp))
  | int j => obtain ⟨t', rfl⟩ := ry; exact PySem.EqMixed.eq_str_int (z34 I q (by simp))
  | str j => obtain ⟨t', rfl⟩ := ry; exact eq_str (z34 I q zsm)
  | _ => exact absurd (show false = true from hs) Bool.false_ne_true
 | byt i =>
  obtain ⟨t, rfl⟩ := rx
  cases y with
  | byt j => obtain ⟨t', rfl⟩ := ry; exact PySem.W.eq_bytes (z34 I q zso)
  | _ => exact absurd (show false = true from hs) Bool.false_ne_true
 | _ => cases y <;> exact absurd (show false = true from hs) Bool.false_ne_true
theorem zyr : OpR X (compareOp .NotEq) rNe := by
 intro pins s σ H x y v u Q I rx ry h
 obtain ⟨hs, q⟩ := h
 cases x with
 | non =>
  cases rx
  cases y with
  | non => cases ry; exact PySem.EqNone.ne_none_none (z34 I q (by simp))
  | bl j => cases ry; exact PySem.EqNone.ne_none_bool (z34 I q (by simp))
  | int j => obtain ⟨t', rfl⟩ := ry; exact PySem.EqNone.ne_none_int (z34 I q (by simp))
  | str j => obtain ⟨t', rfl⟩ := ry; exact PySem.EqNone.ne_none_str (z34 I q (by simp))
  | _ => exact absurd (show false = true from hs) Bool.false_ne_true
 | bl i =>
  cases rx
  cases y with
  | non => cases ry; exact PySem.EqNone.ne_bool_none (z34 I q (by simp))
  | bl j => cases ry; exact ne_bool (z34 I q (congrArg not zvl))
  | str j => obtain ⟨t', rfl⟩ := ry; exact PySem.EqMixed.ne_bool_str (z34 I q (by simp))
  | _ => exact absurd (show false = true from hs) Bool.false_ne_true
 | int i =>
  obtain ⟨t, rfl⟩ := rx
  cases y with
  | non => cases ry; exact PySem.EqNone.ne_int_none (z34 I q (by simp))
  | int j => obtain ⟨t', rfl⟩ := ry; exact ne_int (z34 I q (congrArg not zsn))
  | str j => obtain ⟨t', rfl⟩ := ry; exact PySem.EqMixed.ne_int_str (z34 I q (by simp))
  | _ => exact absurd (show false = true from hs) Bool.false_ne_true
 | str i =>
  obtain ⟨t, rfl⟩ := rx
  cases y with
  | non => cases ry; exact PySem.EqNone.ne_str_none (z34 I q (by simp))
  | bl j => cases ry; exact PySem.EqMixed.ne_str_bool (z34 I q (by simp))
  | int j => obtain ⟨t', rfl⟩ := ry; exact PySem.EqMixed.ne_str_int (z34 I q (by simp))
  | str j => obtain ⟨t', rfl⟩ := ry; exact ne_str (z34 I q (congrArg not zsm))
  | _ => exact absurd (show false = true from hs) Bool.false_ne_true
 | byt i =>
  obtain ⟨t, rfl⟩ := rx
  cases y with
  | byt j => obtain ⟨t', rfl⟩ := ry; exact PySem.W.ne_bytes (z34 I q (congrArg not zso))
  | _ => exact absurd (show false = true from hs) Bool.false_ne_true
 | _ => cases y <;> exact absurd (show false = true from hs) Bool.false_ne_true
theorem zkz : OpR X (compareOp .Lt) (rI0 fun i j => .bl (decide (i < j))) := q0h fun _ _ _ _ _ _ _ q => lt_int q
theorem zu9 : OpR X (compareOp .LtE) (rI0 fun i j => .bl (decide (i ≤ j))) := q0h fun _ _ _ _ _ _ _ q => le_int q
theorem zyt : OpR X (compareOp .Gt) (rI0 fun i j => .bl (decide (j < i))) := q0h fun _ _ _ _ _ _ _ q => gt_int q
theorem q0y : OpR X (compareOp .GtE) (rI0 fun i j => .bl (decide (j ≤ i))) := q0h fun _ _ _ _ _ _ _ q => ge_int q
theorem zrc : OpR X (compareOp .In) (fun x y H Q => ∃ i j, x = .str i ∧ y = .str j ∧ Q (.bl (!(Builtin.Str.occurrences j i 0 j.length 1).isEmpty)) H) := by
 intro pins s σ H x y v u Q I rx ry h
 obtain ⟨i, j, rfl, rfl, q⟩ := h
 obtain ⟨t, rfl⟩ := rx
 obtain ⟨t', rfl⟩ := ry
 exact in_str (z34 I q rfl)
theorem zys : OpR X (compareOp .Is) (fun x y H Q => y = .non ∧ Q (.bl (decide (x = .non))) H) := by
 intro pins s σ H x y v u Q I rx ry h
 obtain ⟨rfl, q⟩ := h
 cases ry
 refine is_none_gen (z34 I q ?_)
 cases x <;> first
  | (cases rx; rfl)
  | (obtain ⟨t, rfl⟩ := rx; rfl)
theorem zwa : OpR X (compareOp .IsNot) (fun x y H Q => y = .non ∧ Q (.bl (!decide (x = .non))) H) := by
 intro pins s σ H x y v u Q I rx ry h
 obtain ⟨rfl, q⟩ := h
 cases ry
 refine isnot_none_gen (z34 I q ?_)
 cases x <;> first
  | (cases rx; rfl)
  | (obtain ⟨t, rfl⟩ := rx; rfl)
theorem OpR.or {f : Value → Value → Sem Value} {r r' : R2} (h : OpR X f r) (h' : OpR X f r') : OpR X f (fun x y H Q => r x y H Q ∨ r' x y H Q) := by
 intro pins s σ H x y v u Q I rx ry q
 rcases q with q | q
 ·exact h pins s σ H x y v u Q I rx ry q
 ·exact h' pins s σ H x y v u Q I rx ry q
theorem z0m (b : Expr) {op : CmpOp} (h : op ≠ .In := by decide) (h2 : op ≠ .NotIn := by decide) : behindInMarks op b = false := by
 have e1 : (op == CmpOp.In) = false := by cases op <;> first | rfl | exact absurd rfl h
 have e2 : (op == CmpOp.NotIn) = false := by cases op <;> first | rfl | exact absurd rfl h2
 cases b <;> simp [behindInMarks, e1, e2]
theorem zji {op : CmpOp} {r : R2} (ho : OpR X (compareOp op) r) (ha : PE X a ta) (hb : PE X b tb) (hm : behindInMarks op b = false) : PE X (.Compare a [op] [b] pos) (tOp r ta tb) := by
 intro pins s σ H Q I h
 exact wpAny_Compare1 (q18 ha hb I h fun v u s2 x y H2 I2 rx ry q => ho pins s2 σ H2 x y v u Q I2 rx ry q) hm
def zj7 (t : TE) : TT := fun σ H Q => t σ H fun x H' => ∃ k, x = .bl k ∧ Q k H'
theorem z0c {op : CmpOp} {r : R2} (ho : OpR X (compareOp op) r) (ha : PE X a ta) (hb : PE X b tb) (hm : behindInMarks op b = false) : PT X (.Compare a [op] [b] pos) (zj7 (tOp r ta tb)) := by
 intro pins s σ H Q I h
 refine wpAny_isTrue_Compare1 (thn (ha pins s σ H _ I h) fun v s1 ⟨x, H1, I1, r1, q1⟩ => thn (hb pins s1 σ H1 _ I1 q1) fun u s2 ⟨y, H2, I2, r2, q2⟩ =>
  thn (ho pins s2 σ H2 x y v u _ I2 r1 r2 q2) fun c s3 ⟨z, H3, I3, r3, k, e, q3⟩ => ?_) hm
 subst e
 cases r3
 exact wpAny_truthy_bool ⟨H3, I3, q3⟩
def zkh (r r' : R2) (ta tb tc : TE) : TE := fun σ H Q => ta σ H fun x H1 => tb σ H1 fun y H2 => r x y H2 fun z H3 => ∃ k, z = .bl k ∧
 (if k = true then tc σ H3 fun w' H4 => r' y w' H4 Q else Q (.bl false) H3)
theorem zu4 {op op' : CmpOp} {r r' : R2} (ho : OpR X (compareOp op) r) (ho' : OpR X (compareOp op') r') (ha : PE X a ta) (hb : PE X b tb) (hc : PE X c tc)
  (hm : lastMarks [op, op'] [b, c] = false := by with_unfolding_all rfl) : PT X (.Compare a [op, op'] [b, c] pos) (zj7 (zkh r r' ta tb tc)) := by
 intro pins s σ H Q I h
 refine isTrue_chain (thn (ha pins s σ H _ I h) fun v s1 ⟨x, H1, I1, r1, q1⟩ => test_link (thn (hb pins s1 σ H1 _ I1 q1) fun u s2 ⟨y, H2, I2, r2, q2⟩ =>
  thn (ho pins s2 σ H2 x y v u _ I2 r1 r2 q2) fun d s3 ⟨z, H3, I3, r3, k, e, q3⟩ => ?_)) hm
 subst e
 cases r3
 refine wpAny_truthy_bool ?_
 cases k with
 | false =>
  obtain ⟨k', e', q'⟩ := q3
  cases e'
  exact ite_ff ⟨H3, I3, q'⟩
 | true =>
  refine ite_tt (test_last (thn (hc pins s3 σ H3 _ I3 q3) fun w' s4 ⟨z', H4, I4, r4, q4⟩ => thn (ho' pins s4 σ H4 y z' u w' _ I4 r2 r4 q4) fun d' s5 ⟨z2, H5, I5, r5, k2, e2, q5⟩ => ?_))
  subst e2
  cases r5
  exact wpAny_truthy_bool ⟨H5, I5, q5⟩
theorem zl4 : (sizeLine : Nat) < 2 ^ 63 := by rw [sizeLine_eq]; decide
theorem zvs {x : V} {us : List Value} (r : Vals [x] us) : ∃ u, us = [u] ∧ RelV x u := by
 cases r with
 | cons r1 r2 => cases r2; exact ⟨_, rfl, r1⟩
theorem zxy {x y : V} {us : List Value} (r : Vals [x, y] us) : ∃ u w', us = [u, w'] ∧ RelV x u ∧ RelV y w' := by
 cases r with
 | cons r1 r2 =>
  cases r2 with
  | cons r3 r4 => cases r4; exact ⟨_, _, rfl, r1, r3⟩
theorem zt5 (hc : X.calm = true) : CallR X (.builtin "max") (fun xs H Q => ∃ i j, xs = [.int i, .int j] ∧ Q (.int (if j > i then j else i)) H) := by
 intro pins s σ H xs us Q I r h
 obtain ⟨i, j, rfl, q⟩ := h
 obtain ⟨u, w', rfl, ⟨t, rfl⟩, ⟨t', rfl⟩⟩ := zxy r
 refine max_two_ints (I.ok.hd hc) fun h' tk k => ⟨_, H, I.kept k, ?_, q⟩
 by_cases hj : j > i
 ·rw [if_pos hj, if_pos hj]; exact ⟨_, rfl⟩
 ·rw [if_neg hj, if_neg hj]; exact ⟨_, rfl⟩
theorem zt4 (hc : X.calm = true) : CallR X (.builtin "min") (fun xs H Q => ∃ i j, xs = [.int i, .int j] ∧ Q (.int (if j < i then j else i)) H) := by
 intro pins s σ H xs us Q I r h
 obtain ⟨i, j, rfl, q⟩ := h
 obtain ⟨u, w', rfl, ⟨t, rfl⟩, ⟨t', rfl⟩⟩ := zxy r
 refine min_two_ints (I.ok.hd hc) fun h' tk k => ⟨_, H, I.kept k, ?_, q⟩
 by_cases hj : j < i
 ·rw [if_pos hj, if_pos hj]; exact ⟨_, rfl⟩
 ·rw [if_neg hj, if_neg hj]; exact ⟨_, rfl⟩
end
end L2
namespace L2
open PySem PySem.Spec PyProof.Rows
structure ObjM (h : Heap) (x dx C : Addr) (mA : Str → Option Value) : Prop where
 obj : h.get? x = some (PySem.W.instObj C dx)
 ns : h.Ns1 dx mA
 ne : dx ≠ x
theorem zrr {h : Heap} {dx : Addr} {mA : Str → Option Value} (n : h.Ns1 dx mA) : ∃ od, h.get? dx = some od ∧ ∀ name, PySem.W.lookIn name od = some (mA name) := by
 obtain ⟨o, es, ep, ho, hd, hk, _, hm⟩ := n
 refine ⟨o, ho, fun name => ?_⟩
 have e := hm name
 unfold nsFind findBy at e
 rw [← Array.find?_toList] at e
 unfold PySem.W.lookIn
 rw [hd]
 dsimp only
 split
 ·rename_i y q
  rw [q] at e
  exact congrArg some e
 ·rename_i q
  rw [q] at e
  have a : es.toList.any (·.refKey) = false := by
   rw [List.any_eq_false]
   intro y hy
   obtain ⟨z, t, hkey⟩ := hk y (Array.mem_toList_iff.mp hy)
   simp [DictEntry.refKey, hkey]
  have a' : ¬ es.toList.any (·.refKey) = true := by rw [a]; exact Bool.false_ne_true
  rw [if_neg a']
  exact congrArg some e
theorem ObjM.look {h : Heap} {x dx C : Addr} {mA : Str → Option Value} (I : ObjM h x dx C mA) : ∃ od, PySem.W.InstAt h x (PySem.W.instObj C dx) C (some od) ∧ ∀ name, PySem.W.lookIn name od = some (mA name) :=
 let ⟨od, ho, hl⟩ := zrr I.ns
 ⟨od, ⟨I.obj, rfl, rfl, ho⟩, hl⟩
section
variable {prog : Program} {w : World} {A : Around} {E : Value → Shared → Prop} {s : Shared} {K : PySem.W.Frag} {x dx C f : Addr} {mA : Str → Option Value} {name : Str} {v : Value}
end
theorem RelO.some_of {v : V} {o : Option Value} (r : RelO (some v) o) : ∃ u, o = some u ∧ RelV v u := by
 cases o with
 | none => exact (show False from r).elim
 | some u => exact ⟨u, rfl, r⟩
section
variable {P : Program} {w : World} {H H' : Hp} {h h' : Heap} {a C dx : Addr} {fs fs' : List (Str × V)}
theorem zwu (hok : HOk P w H h) (e : H a = some (.ins C dx fs)) : ∃ mA, ObjM h a dx C mA ∧ (∀ f, RelO (fs.lookup f) (mA f)) ∧ PySem.Within mA (fs.map (·.1)) ∧ fs.length ≤ 1000 ∧ H dx = some (.own a) := by
 obtain ⟨d, z, ne, ob, mA, n, r, q⟩ := (show ObjOk P w H h a (.ins C dx fs) from hok a _ e)
 exact ⟨mA, ⟨ob, n, ne⟩, r, q, z, d⟩
end
structure Cls (K : PySem.W.Frag) (C : Addr) : Prop where
 pg : PySem.W.plainGet K C Str.empty = true
 hd : PySem.W.hasDictIn K C = true
 po : PySem.W.plainOver K C = true
 sa : PySem.W.findIn K (.ref C) "__setattr__" = some (some (.builtin "object.__setattr__"))
theorem Cls.get {K : PySem.W.Frag} {C : Addr} (c : Cls K C) (f : Str) : PySem.W.plainGet K C f = true := c.pg
structure Con (K : PySem.W.Frag) (C : Addr) (f : Str) (v : V) (u : Value) : Prop where
 at_ : PySem.W.findIn K (.ref C) f = some (some u)
 rel : RelV v u
 get : PySem.W.specialIn K u "__get__" = some none
 cp : PySem.W.copiedNames.contains f = false
structure Meth (K : PySem.W.Frag) (C : Addr) (m : Str) (f : Addr) : Prop where
 at_ : PySem.W.findIn K (.ref C) m = some (some (.ref f))
 fn : PySem.W.isFn K (.ref f) = true
 kp : PySem.W.keepIn K (.ref f) = true
section
variable {X : Cx} {pins : List (Addr × Obj)} {σ : St} {H : Hp} {s : Shared} {a C dx : Addr} {fs : List (Str × V)} {f : Str} {v : V} {A : Around} {E : Value → Shared → Prop}
theorem Inv.made (I : Inv X pins σ H s) : Inv X pins σ (upd (upd H s.heap.objs.size (.own (s.heap.objs.size + 1))) (s.heap.objs.size + 1) (.ins C s.heap.objs.size []))
  { s with heap := (s.heap.push PySem.W.emptyDict).push (PySem.W.instObj C s.heap.objs.size) } := by
 have e1 : (s.heap.push PySem.W.emptyDict).get? s.heap.objs.size = some PySem.W.emptyDict := Heap.get?_push_size s.heap rfl
 have e2 : ((s.heap.push PySem.W.emptyDict).push (PySem.W.instObj C s.heap.objs.size)).get? (s.heap.objs.size + 1) = some (PySem.W.instObj C s.heap.objs.size) := by
  have := Heap.get?_push_size (s.heap.push PySem.W.emptyDict) (o := PySem.W.instObj C s.heap.objs.size) rfl
  rwa [Heap.size_push] at this
 have e3 : (s.heap.push PySem.W.emptyDict).Ns s.heap.objs.size (fun _ => none) := ⟨PySem.W.emptyDict, #[], _, e1, rfl, (fun e he => absurd he (by simp)), fun _ => rfl⟩
 have I1 := I.laid (a := s.heap.objs.size) (o := .own (s.heap.objs.size + 1)) (h' := s.heap.push PySem.W.emptyDict) (t' := s.toks) (fun b u q => Heap.get?_push_of_some _ q) (Nat.le_refl _) ⟨_, e1⟩
 refine I1.laid (a := s.heap.objs.size + 1) (o := .ins C s.heap.objs.size []) (t' := s.toks) (fun b u q => Heap.get?_push_of_some _ q) (Nat.le_of_eq (Heap.size_push _ _)) ?_
 have ne : s.heap.objs.size ≠ s.heap.objs.size + 1 := Nat.ne_of_lt (Nat.lt_succ_self _)
 refine ⟨by rw [z0e ne, z01], Nat.zero_le _, ne, e2, fun _ => none, (Heap.Ns1.of_empty e3).at fun o q => Heap.get?_push_of_some _ q, fun _ => True.intro, fun y hy => absurd rfl hy⟩
end
section
variable {X : Cx} {o e value : Expr} {f : Str} {pos pos' tpos : Pos} {ta tv : TE}
end
section
variable {X : Cx} {pins : List (Addr × Obj)} {σ : St} {H : Hp} {s : Shared} {A : Around} {E : Value → Shared → Prop} {Q : Value → Shared → Prop} {c : Value} {b : Bool}
inductive TyOf (K : PySem.W.Frag) (H : Hp) : V → Value → Prop where
 | non : TyOf K H .non (.type "NoneType")
 | bl (x : Bool) : TyOf K H (.bl x) (.type "bool")
 | int (i : Int) : TyOf K H (.int i) (.type "int")
 | str (x : Str) : TyOf K H (.str x) (.type "str")
 | flt (x : UInt64) : TyOf K H (.flt x) (.type "float")
 | lst {a : Addr} {xs : List V} (e : H a = some (.lst xs)) : TyOf K H (.ref a) (.type "list")
 | frz {a : Addr} {o : Obj} {xs : List V} (e : H a = some (.frz o (.lst xs))) : TyOf K H (.ref a) (.type "list")
 | tup {a : Addr} {xs : List V} (e : H a = some (.tup xs)) : TyOf K H (.ref a) (.type "tuple")
 | dK {a : Addr} {kvs : List (Key × V)} (e : H a = some (.dK kvs)) : TyOf K H (.ref a) (.type "dict")
 | dT {a : Addr} {kvs : List (List Key × V)} (e : H a = some (.dT kvs)) : TyOf K H (.ref a) (.type "dict")
 | ins {a C dx : Addr} {fs : List (Str × V)} (e : H a = some (.ins C dx fs)) (cl : Cls K C) (ha : PySem.W.findIn K (.ref C) "__class__" = some (some (.builtin "object.__class__")))
   (hn : PySem.W.specialIn K (.builtin "object.__class__") "__get__" = some (some (.builtin "getset_descriptor.__get__"))) (htk : PySem.W.takesIn K (.builtin "object.__class__") = some true)
   (hm : PySem.W.mroIn K C (.type "object") = some true) : TyOf K H (.ref a) (.ref C)
theorem zs1 {x : V} {u t : Value} (I : Inv X pins σ H s) (rx : RelV x u) (ty : TyOf X.K H x t) (e : PySem.W.kitOne X.K t c = some b) (h : ∀ tk, Q (.bool b) { s with toks := tk }) :
  wpAny (model X.prog X.w) A (call (.builtin "isinstance") [u, c]) Q E s := by
 cases ty with
 | non => cases (show u = Value.none from rx); exact PySem.W.kia_one PySem.W.kitx_none I.kIn True.intro e (fun z => nomatch z) h
 | bl y => cases (show u = Value.bool y from rx); exact PySem.W.kia_one PySem.W.kitx_bool I.kIn True.intro e (fun z => nomatch z) h
 | int i => obtain ⟨t, q⟩ := (show ∃ t, u = Value.int i t from rx); cases q; exact PySem.W.kia_one PySem.W.kitx_int I.kIn True.intro e (fun z => nomatch z) h
 | str y => obtain ⟨t, q⟩ := (show ∃ t, u = Value.str y t from rx); cases q; exact PySem.W.kia_one PySem.W.kitx_str I.kIn True.intro e (fun z => nomatch z) h
 | flt y => obtain ⟨t, q⟩ := (show ∃ t, u = Value.float y t from rx); cases q; exact PySem.W.kia_one PySem.W.kitx_float I.kIn True.intro e (fun z => nomatch z) h
 | @lst a xs ea =>
  cases (show u = Value.ref a from rx)
  obtain ⟨_, _, n, _, h1⟩ := (show ObjOk X.prog X.w H s.heap a (.lst xs) from I.hok a _ ea)
  exact PySem.W.kia_one PySem.W.kitx_list I.kIn ⟨_, h1, rfl⟩ e (fun z => nomatch z) h
 | @frz a ob xs ea =>
  cases (show u = Value.ref a from rx)
  obtain ⟨_, _, _, n, _, h1⟩ := (show ObjOk X.prog X.w H s.heap a (.frz ob (.lst xs)) from I.hok a _ ea)
  exact PySem.W.kia_one PySem.W.kitx_list I.kIn ⟨_, h1, rfl⟩ e (fun z => nomatch z) h
 | @tup a xs ea =>
  cases (show u = Value.ref a from rx)
  obtain ⟨_, _, _, p⟩ := (show ObjOk X.prog X.w H s.heap a (.tup xs) from I.hok a _ ea)
  obtain ⟨o, h1, h2, _⟩ := p
  exact PySem.W.kia_one PySem.W.kitx_tuple I.kIn ⟨o, h1, h2⟩ e (fun z => nomatch z) h
 | @dK a kvs ea =>
  cases (show u = Value.ref a from rx)
  obtain ⟨_, _, vs, _, p⟩ := (show ObjOk X.prog X.w H s.heap a (.dK kvs) from I.hok a _ ea)
  obtain ⟨o, es, ep, h1, h2, _⟩ := p
  exact PySem.W.kia_one PySem.W.kitx_dict I.kIn ⟨o, h1, h2.1⟩ e (fun z => nomatch z) h
 | @dT a kvs ea =>
  cases (show u = Value.ref a from rx)
  obtain ⟨_, _, xs, _, o, es, ep, h1, h2, _⟩ := (show ObjOk X.prog X.w H s.heap a (.dT kvs) from I.hok a _ ea)
  exact PySem.W.kia_one PySem.W.kitx_dict I.kIn ⟨o, h1, h2.1⟩ e (fun z => nomatch z) h
 | @ins a C dx fs ea cl ha hn htk hm =>
  cases (show u = Value.ref a from rx)
  obtain ⟨mA, O, _⟩ := zwu I.hok ea
  obtain ⟨od, J, _⟩ := O.look
  exact PySem.W.kia_one (PySem.W.kitx_own (cl.get _) cl.hd ha hn htk hm) I.kIn J e (fun z => nomatch z) h
end
end L2
namespace L2
open PySem PySem.Spec PyProof.Rows
structure Room (k : Nat) (A : Around) : Prop where
 hd : A.handled = none
 dp : A.depth + 3 * k + 5 < recursionLimit
 un : A.units + 16 * k + 200 < cLine
theorem Room.mono {j k : Nat} {A : Around} (r : Room k A) (h : j ≤ k) : Room j A := ⟨r.hd, by have := r.dp; omega, by have := r.un; omega⟩
theorem Room.deeper {k : Nat} {A : Around} (r : Room (k + 1) A) (env : Env) : Room k (A.deeper env) :=
 ⟨r.hd, by have := r.dp; show A.depth + 1 + 3 * k + 5 < _; omega, by have := r.un; show A.units + 3 + 16 * k + 200 < _; omega⟩
theorem Room.depth {k : Nat} {A : Around} (r : Room k A) : A.depth < recursionLimit := by have := r.dp; omega
theorem Room.units {k : Nat} {A : Around} (r : Room k A) : A.units + 64 < cLine := by have := r.un; omega
def zvv : TA := fun _ H Q => Q [] H
def zj8 (ta : TE) (tr : TA) : TA := fun σ H Q => ta σ H fun x H1 => tr σ H1 fun xs H2 => Q (x :: xs) H2
section
variable {X : Cx} {e : Expr} {es : List Expr} {te : TE} {t : TA} {pos : Pos}
theorem z03 : PA X [] zvv := fun _ _ _ _ H Q I h => Calls.spliced_nil ⟨[], H, I, .nil, h⟩
theorem zw8 (ha : PE X e te) (hr : PA X es t) (hs : starEach (e :: es) X.env = (false, eval e X.env) :: starEach es X.env := by rfl) : PA X (e :: es) (zj8 te t) := by
 intro pos pins s σ H Q I h
 rw [hs]
 show wpAny _ _ (spliced ((false, eval e X.env) :: backTo pos (starEach es X.env))) _ _ s
 refine Calls.spliced_cons (thn (ha pins s σ H _ I h) fun u s1 ⟨x, H1, I1, r1, q1⟩ => ?_)
 exact thn (hr pos pins s1 σ H1 _ I1 q1) fun us s2 ⟨xs, H2, I2, r2, q2⟩ => ⟨x :: xs, H2, I2, .cons r1 r2, q2⟩
def zy4 (t : TA) : TE := fun σ H Q => t σ H fun xs H1 => xs.length ≤ sizeLine ∧ ∀ p, H1 p = none → Q (.ref p) (upd H1 p (.tup xs))
def zxp (t : TA) : TE := fun σ H Q => t σ H fun xs H1 => xs.length ≤ sizeLine ∧ ∀ p, H1 p = none → Q (.ref p) (upd H1 p (.lst xs))
theorem z14 {x1} (h : PA X es t) : PE X (.Tuple es x1 pos) (zy4 t) := by
 intro pins s σ H Q I hq
 refine wpAny_Tuple_spliced (thn (h pos pins s σ H _ I hq) fun us s1 ⟨xs, H1, I1, r, z, q⟩ => ⟨by rw [← r.length]; exact z, ?_⟩)
 have hf : H1 s1.heap.objs.size = none := I1.hok.fresh (Nat.le_refl _)
 refine ⟨.ref s1.heap.objs.size, upd H1 s1.heap.objs.size (.tup xs), I1.laid (t' := s1.toks) (fun b u e => Heap.get?_push_of_some _ e) (Nat.le_refl _) ?_, rfl, q _ hf⟩
 exact ⟨z, us, r, ⟨_, Heap.get?_push_size _ rfl, rfl, _, rfl⟩⟩
theorem z3h (h : PA X es t) : PE X (.List es pos) (zxp t) := by
 intro pins s σ H Q I hq
 refine wpAny_List_spliced (thn (h pos pins s σ H _ I hq) fun us s1 ⟨xs, H1, I1, r, z, q⟩ => ⟨by rw [← r.length]; exact z, ?_⟩)
 have hf : H1 s1.heap.objs.size = none := I1.hok.fresh (Nat.le_refl _)
 refine ⟨.ref s1.heap.objs.size, upd H1 s1.heap.objs.size (.lst xs), I1.laid (t' := s1.toks) (fun b u e => Heap.get?_push_of_some _ e) (Nat.le_refl _) ?_, rfl, q _ hf⟩
 exact ⟨z, us, 0, r, Heap.get?_push_size _ rfl⟩
end
abbrev Sp := List V → Hp → VK → XK → Prop
abbrev CXT := List Env → Hp → Shared → XK → Value → Shared → Prop
structure Env0 (P : Program) (w : World) (K : PySem.W.Frag) (mg : Str → Option Value) (base : Heap) (A : Around) (outer : List Env) (s : Shared) (H : Hp) : Prop where
 frames : A.frames = some outer
 mod : Mod K mg base
 bs : ∀ b o, base.get? b = some o → s.heap.get? b = some o ∧ H b = none
 bsz : base.objs.size ≤ s.heap.objs.size
 funs : s.heap.FunFrames base outer
 frf : ∀ b ∈ frs outer, H b = none
 hok : HOk P w H s.heap
 bare : AllBare s.gens
def CE (outer : List Env) (P : Program) (w : World) (H : Hp) (s : Shared) (Q : VK) (u : Value) (s' : Shared) : Prop :=
 ∃ v H', s'.os = s.os ∧ AllBare s'.gens ∧ Un (frs outer) [] H H' s.heap s'.heap ∧ HOk P w H' s'.heap ∧ RelV v u ∧ Q v H'
def CR (CX : CXT) (outer : List Env) (P : Program) (w : World) (H : Hp) (s : Shared) (Q : VK) (E : XK) (r : Result) (s' : Shared) : Prop :=
 match r with
 | .ok (.ret u) => CE outer P w H s Q u s'
 | .ok _ => False
 | .error e => CX outer H s E e s'
structure FnOk (P : Program) (w : World) (K : PySem.W.Frag) (mg : Str → Option Value) (base : Heap) (CX : CXT) (k : Nat) (f : Addr) (fd : FuncData) (ps : List Str) (sp : Sp) : Prop where
 len : ∀ vs H Q E, sp vs H Q E → vs.length = ps.length
 run : ∀ (A : Around) (outer : List Env) (s : Shared) (H : Hp) (args : Args) (us : List Value) (vs : List V) (Q : VK) (E : XK), Room k A → Env0 P w K mg base A outer s H → BindsTo s fd args (ps.zip us) → Vals vs us → sp vs H Q E →
  codeAny (model P w) A (.call (.ref f) args) (CR CX outer P w H s Q E) s
section
variable {X : Cx} {pins : List (Addr × Obj)} {σ : St} {H : Hp} {s s' : Shared}
theorem Inv.env0 (I : Inv X pins σ H s) : Env0 X.prog X.w X.K X.mg X.base X.A X.stack s H :=
 ⟨I.ok.frames, I.ok.mod, I.bs, Nat.le_trans I.ok.bsz I.sz, I.stack, I.stkFree, I.hok, I.bare⟩
theorem Inv.after {Q : VK} {u : Value} (I : Inv X pins σ H s) (h : CE X.stack X.prog X.w H s Q u s') : EP X pins σ Q u s' := by
 obtain ⟨v, H', os, bare, un, hok, r, q⟩ := h
 obtain ⟨hh, g, d, t, os'⟩ := s'
 obtain rfl : os' = s.os := os
 exact ⟨v, H', I.call (h' := hh) (g' := g) (d' := d) (t' := t) (ch := []) un hok bare (fun b z => absurd z (by simp)), r, q⟩
end
def zp7 (sp : Sp) (dvs : List V) (E : XK) (t : TA) : TE := fun σ H Q => t σ H fun vs H1 => sp (vs ++ dvs) H1 Q E
def Binds (K : PySem.W.Frag) (fd : FuncData) (ps : List Str) (ds : List Value) : Prop :=
 ∀ (s : Shared) (us : List Value), K.In s.heap → (us ++ ds).length = ps.length → BindsTo s fd ⟨us, []⟩ (ps.zip (us ++ ds))
theorem Binds.all {K : PySem.W.Frag} {fd : FuncData} {ps : List Str} (h : ∀ us : List Value, us.length = ps.length → bindArgs fd ⟨us, []⟩ = pure (ps.zip us)) : Binds K fd ps [] := fun s us _ hl => by
 rw [List.append_nil] at hl ⊢
 exact .of_eq (h us hl)
def ztg (CX : CXT) (X : Cx) (E : XK) : Prop := ∀ (pins : List (Addr × Obj)) (σ : St) (H : Hp) (s : Shared) (e : Value) (s' : Shared), Inv X pins σ H s → CX X.stack H s E e s' → X.xe e s'
section
variable {X : Cx} {CX : CXT} {k : Nat} {f C : Addr} {fd : FuncData} {ps : List Str} {sp : Sp} {dvs : List V} {ds : List Value} {E : XK} {x m : Str} {p pos apos : Pos} {e o : Expr} {es : List Expr} {ta : TE} {t : TA}
theorem zva {pins : List (Addr × Obj)} {σ : St} {H : Hp} {s : Shared} {Q : VK} {us : List Value} {vs : List V} (F : FnOk X.prog X.w X.K X.mg X.base CX k f fd ps sp) (hr : Room k X.A) (hb : Binds X.K fd ps ds) (hd : Vals dvs ds) (hx : ztg CX X E)
  (I : Inv X pins σ H s) (r : Vals vs us) (h : sp (vs ++ dvs) H Q E) : wpAny (model X.prog X.w) X.A (call (.ref f) us) (EP X pins σ Q) X.xe s := by
 have r2 : Vals (vs ++ dvs) (us ++ ds) := r.append hd
 have hl : (us ++ ds).length = ps.length := by rw [← r2.length]; exact F.len _ _ _ _ h
 refine wpAny_call (codeAny_mono (F.run X.A X.stack s H ⟨us, []⟩ (us ++ ds) (vs ++ dvs) Q E hr I.env0 (hb s us I.kIn hl) r2 h) fun r s' hq => ?_)
 cases r with
 | error e => exact hx pins σ H s e s' I hq
 | ok fl =>
  cases fl with
  | ret u => exact I.after hq
  | next => exact False.elim hq
  | brk => exact False.elim hq
  | cont => exact False.elim hq
structure Mk (K : PySem.W.Frag) (C f : Addr) : Prop where
 makes : PySem.W.makesIn K C = true
 init : PySem.W.findIn K (.ref C) "__init__" = some (some (.ref f))
 fn : PySem.W.isFn K (.ref f) = true
 kp : PySem.W.keepIn K (.ref C) = true
end
section
variable {X : Cx} {CX : CXT} {k : Nat} {f C : Addr} {fd : FuncData} {ps ks : List Str} {sp : Sp} {E : XK} {x m : Str} {p pos apos kpos : Pos} {e o : Expr} {es : List Expr} {kws : List Keyword} {te ta : TE} {t tk : TA} {nm : Option Str}
structure KBinds (K : PySem.W.Frag) (fd : FuncData) (ps ks : List Str) (g : List Value → List Value → List Value) (gV : List V → List V → List V) : Prop where
 to : ∀ (s : Shared) (us ws : List Value), K.In s.heap → (g us ws).length = ps.length → BindsTo s fd ⟨us, ks.zip ws⟩ (ps.zip (g us ws))
 rel : ∀ {vs : List V} {us : List Value} {zs : List V} {ws : List Value}, Vals vs us → Vals zs ws → Vals (gV vs zs) (g us ws)
variable {g : List Value → List Value → List Value} {gV : List V → List V → List V}
end
structure FnScope (N P : List Str) (sc : Scope) : Prop where
 kind : sc.kind = .function
 co : sc.isCoroutine = false
 gen : sc.isGenerator = false
 nd : N.Nodup
 pre : N.take P.length = P
 par : ∀ x ∈ P, sc.names.lookup x = some .local ∨ sc.names.lookup x = some .cell
 nofree : ∀ y ∈ sc.names, y.2 ≠ .free
theorem zlv {kindOf : Str → Option NameKind} {x : Str} : ∀ {binds : List (Str × Value)} {m : Str → Option Value}, (∀ v, (x, v) ∉ binds) → bindL kindOf binds m x = m x
 | [], _, _ => rfl
 | (n, v) :: r, m, h => by
  unfold bindL
  rw [zlv fun w hw => h w (List.mem_cons_of_mem _ hw)]
  split
  ·have : x ≠ n := by rintro rfl; exact h v List.mem_cons_self
   simp [this]
  ·rfl
theorem zlx {kindOf : Str → Option NameKind} {x : Str} : ∀ {binds : List (Str × Value)} {m : Str → Option Value}, (∀ v, (x, v) ∉ binds) → bindC kindOf binds m x = m x
 | [], _, _ => rfl
 | (n, v) :: r, m, h => by
  unfold bindC
  rw [zlx fun w hw => h w (List.mem_cons_of_mem _ hw)]
  split
  ·rfl
  ·have : x ≠ n := by rintro rfl; exact h v List.mem_cons_self
   simp [this]
theorem zlw {kindOf : Str → Option NameKind} {x : Str} {v : Value} : ∀ {P : List Str} {vs : List Value} {i : Nat} {m : Str → Option Value}, P.Nodup → P[i]? = some x → vs[i]? = some v → kindOf x = some .local →
  bindL kindOf (P.zip vs) m x = some v
 | [], _, _, _, _, h, _, _ => by simp at h
 | _ :: _, [], _, _, _, _, h, _ => by simp at h
 | p :: P, w :: vs, 0, m, nd, h1, h2, hk => by
  simp at h1 h2; subst h1; subst h2
  show bindL kindOf ((p, w) :: P.zip vs) m p = _
  unfold bindL
  rw [zlv fun v hv => (List.nodup_cons.mp nd).1 (List.of_mem_zip hv).1, if_pos hk]
  simp
 | p :: P, w :: vs, i + 1, m, nd, h1, h2, hk => by
  show bindL kindOf ((p, w) :: P.zip vs) m x = _
  unfold bindL
  exact zlw (i := i) (List.nodup_cons.mp nd).2 (by simpa using h1) (by simpa using h2) hk
theorem zly {kindOf : Str → Option NameKind} {x : Str} {v : Value} : ∀ {P : List Str} {vs : List Value} {i : Nat} {m : Str → Option Value}, P.Nodup → P[i]? = some x → vs[i]? = some v → kindOf x ≠ some .local →
  bindC kindOf (P.zip vs) m x = some v
 | [], _, _, _, _, h, _, _ => by simp at h
 | _ :: _, [], _, _, _, _, h, _ => by simp at h
 | p :: P, w :: vs, 0, m, nd, h1, h2, hk => by
  simp at h1 h2; subst h1; subst h2
  show bindC kindOf ((p, w) :: P.zip vs) m p = _
  unfold bindC
  rw [zlx fun v hv => (List.nodup_cons.mp nd).1 (List.of_mem_zip hv).1, if_neg hk]
  simp
 | p :: P, w :: vs, i + 1, m, nd, h1, h2, hk => by
  show bindC kindOf ((p, w) :: P.zip vs) m x = _
  unfold bindC
  exact zly (i := i) (List.nodup_cons.mp nd).2 (by simpa using h1) (by simpa using h2) hk
def start (N : List Str) (vs : List V) : St := vs.map some ++ List.replicate (N.length - vs.length) none
def z8v (CX : CXT) (P : Program) (w : World) (K : PySem.W.Frag) (mg : Str → Option Value) (base : Heap) (N : List Str) (qual : Str) (scope : Scope) (f : Addr) (cd : Value) (A : Around) (outer : List Env) (s : Shared) (H : Hp) (E : XK) : Cx where
 prog := P
 w := w
 K := K
 mg := mg
 base := base
 A := A.deeper (envOfC qual scope s.heap.objs.size f cd)
 N := N
 s₀ := s
 H₀ := H
 env := envOfC qual scope s.heap.objs.size f cd
 outer := outer
 stack := envOfC qual scope s.heap.objs.size f cd :: outer
 ex := []
 calm := true
 fn := fun _ => true
 pn := []
 xe := fun e s' => wpAny (model P w) (A.deeper (envOfC qual scope s.heap.objs.size f cd)) (leaving (envOfC qual scope s.heap.objs.size f cd) e) (fun _ s'' => CX outer H s E e s'') (fun e' s'' => CX outer H s E e' s'') s'
theorem zow {sc : Scope} {n : Nat} {x : Str} (h : sc.names.lookup x = some .cell) : ∃ c, (cellsFrom n sc.names []).lookup x = some c := by
 have q := PySem.W.cellsFrom_some sc.names n [] (.inl h)
 exact Option.isSome_iff_exists.mp q
theorem zs4 {CX : CXT} {P : Program} {w : World} {K : PySem.W.Frag} {mg : Str → Option Value} {base : Heap} {N ps : List Str} {qual : Str} {scope : Scope} {f : Addr} {cd : Value} {A : Around} {outer : List Env} {s s1 : Shared} {H : Hp} {E : XK} {us : List Value} {vs : List V}
  (S : FnScope N ps scope) (hd : A.handled = none) (e0 : Env0 P w K mg base A outer s H) (hl : vs.length = ps.length) (r : Vals vs us)
  (x : InCallC s s.heap.objs.size (bindL (envOfC qual scope s.heap.objs.size f cd).kindOf (ps.zip us) fun _ => none) (cellsFrom (s.heap.objs.size + 1) scope.names []) (bindC (envOfC qual scope s.heap.objs.size f cd).kindOf (ps.zip us) fun _ => none) s1) :
  Inv (z8v CX P w K mg base N qual scope f cd A outer s H E) [] (start N vs) H s1 := by
 have hpl : ps.length ≤ N.length := by have := congrArg List.length S.pre; rw [List.length_take] at this; omega
 obtain ⟨h1, tk, rfl, hk⟩ := x.done
 have noA : ∀ b : Addr, b ∉ (z8v CX P w K mg base N qual scope f cd A outer s H E).ex := fun b z => absurd (show b ∈ ([] : List Addr) from z) (by simp)
 refine ⟨⟨e0.mod, S.kind, rfl, rfl, Nat.le_refl _, fun y z c h1 h2 => ?_, fun y hy => ?_, fun y c _ h => ?_, fun _ => hd, Around.frames_deeper e0.frames, .inr ⟨rfl, rfl⟩, fun b z => absurd z (noA b), e0.bs, e0.bsz, fun b _ _ => noA b, fun b z => absurd z (noA b), e0.funs, e0.frf⟩,
  rfl, e0.bare, Un.kept hk, ⟨_, x.toInCall.ns, fun i y v h1 h2 h3 => ?_⟩, fun y c h => ⟨_, x.cell y c h⟩, e0.hok.fresh (Nat.le_refl _), fun y c h => ?_, fun p hp => absurd (show p ∈ ([] : List (Addr × Obj)) from hp) (by simp), e0.hok.kept hk, ?_⟩
 ·exact name_of_addr x.apart (PySem.mem_of_lookup h1) (PySem.mem_of_lookup h2)
 ·have hy : scope.names.lookup y = some .cell ∨ scope.names.lookup y = some .free := hy
  rcases hy with hy | hy
  ·exact zow hy
  ·exact absurd rfl (S.nofree _ (PySem.mem_of_lookup hy))
 ·exact Nat.le_of_lt (x.above y c (PySem.mem_of_lookup h))
 ·have hi : i < vs.length := by
   unfold start at h2
   by_cases hi : i < vs.length
   ·exact hi
   ·rw [List.getElem?_append_right (by simpa using hi)] at h2
    rw [List.getElem?_replicate] at h2
    split at h2 <;> cases h2
  have ha : vs[i]? = some v := by
   unfold start at h2
   rw [List.getElem?_append_left (by simpa using hi), List.getElem?_map] at h2
   cases e : vs[i]? with
   | none => rw [e] at h2; cases h2
   | some a => rw [e] at h2; cases h2; rfl
  obtain ⟨u, hu, rv⟩ := r.get ha
  have hp : ps[i]? = some y := by
   rw [← S.pre, List.getElem?_take_of_lt (by omega)]; exact h1
  have ndP : ps.Nodup := by rw [← S.pre]; exact S.nd.sublist (List.take_sublist _ _)
  refine ⟨u, rv, ?_⟩
  rcases S.par y (List.mem_of_getElem? hp) with k | k
  ·exact .inl ⟨k, zlw ndP hp hu k⟩
  ·obtain ⟨c, e⟩ := zow (n := s.heap.objs.size + 1) k
   refine .inr ⟨.inl k, c, e, ?_⟩
   have q := x.cell y c e
   rw [zly ndP hp hu (by show scope.names.lookup y ≠ _; rw [k]; decide)] at q
   exact q
 ·exact e0.hok.fresh (Nat.le_of_lt (x.above y c (PySem.mem_of_lookup h)))
 ·unfold start
  show _ = N.length
  rw [List.length_append, List.length_map, List.length_replicate]
  omega
theorem zur {CX : CXT} {P : Program} {w : World} {K : PySem.W.Frag} {mg : Str → Option Value} {base : Heap} {k : Nat} {f : Addr} {name qual : Str} {params : Arguments} {body : List Stmt} {scope : Scope} {dV kV doc pm cdv ct oc : Value} {an od : Option Addr}
  {osl : Array (Option Value)} {N ps : List Str} {sp : Sp} (lk : K.lookup f = some ⟨oc, od, .func (PySem.W.fnOf name qual params body scope dV kV doc pm an cdv ct), osl⟩) (hcd : PySem.W.codeIn K cdv qual = true) (S : FnScope N ps scope)
  (len : ∀ vs H Q E, sp vs H Q E → vs.length = ps.length)
  (hbody : ∀ (A : Around) (outer : List Env) (s : Shared) (H : Hp) (vs : List V) (Q : VK) (E : XK), Room k (A.deeper (envOfC qual scope s.heap.objs.size f cdv)) → sp vs H Q E →
   ∃ t, PSs (z8v CX P w K mg base N qual scope f cdv A outer s H E) body t ∧ t { nx := fun _ H' => Q .non H', rt := Q } (start N vs) H) :
  FnOk P w K mg base CX (k + 1) f (PySem.W.fnOf name qual params body scope dV kV doc pm an cdv ct) ps sp := by
 refine ⟨len, fun A outer s H args us vs Q E hr e0 hb r hsp => ?_⟩
 have hl := len _ _ _ _ hsp
 have KX : K.In s.heap := e0.mod.kin.keeps fun b o e => (e0.bs b o e).1
 have lim : s.heap.NoLimit := e0.mod.nolimit.keeps fun b o e => (e0.bs b o e).1
 have hkind : ∀ y ∈ ps.zip us, scope.names.lookup y.1 = some .local ∨ (scope.names.lookup y.1 = some .cell ∧ ((cellsFrom (s.heap.objs.size + 1) scope.names []).lookup y.1).isSome = true) := fun ⟨n, v⟩ hy => by
  rcases S.par n (List.of_mem_zip hy).1 with q | q
  ·exact .inl q
  ·exact .inr ⟨q, PySem.W.cellsFrom_some _ _ _ (.inl q)⟩
 refine codeAny_call_function hr.depth (KX _ _ lk) rfl S.co S.gen rfl (PySem.W.codeRec_of KX hcd) (hb _ _ _ _ ?_)
 refine wpAny_newFunctionEnv_cells S.kind hkind fun env he s1 x => ?_
 subst he
 refine ⟨lim.keeps x.toInCall.keep, codeAny_func ?_⟩
 obtain ⟨t, ht, hq⟩ := hbody A outer s H vs Q E (hr.deeper _) hsp
 have I : Inv (z8v CX P w K mg base N qual scope f cdv A outer s H E) [] (start N vs) H s1 := zs4 S hr.hd e0 hl r x
 refine wpAny_mono (ht [] s1 (start N vs) H _ I hq) (fun fl s' hs => ?_) fun e s' hs => hs
 have fin : ∀ {σ' : St} {H' : Hp} {v : V} {u : Value}, Inv (z8v CX P w K mg base N qual scope f cdv A outer s H E) [] σ' H' s' → RelV v u → Q v H' → CE outer P w H s Q u s' :=
  fun {σ' H' v u} J rv q => ⟨v, H', J.os, J.bare, J.base, J.hok, rv, q⟩
 cases fl with
 | ret u =>
  obtain ⟨v, σ', H', J, rv, q⟩ := hs
  exact fin J rv q
 | next =>
  obtain ⟨σ', H', J, q⟩ := hs
  exact fin (v := V.non) (u := Value.none) J rfl q
 | brk =>
  obtain ⟨_, _, _, q⟩ := hs
  exact False.elim q
 | cont =>
  obtain ⟨_, _, _, q⟩ := hs
  exact False.elim q
end L2
namespace L2
open PySem PySem.Spec PyProof.Rows
section
variable {X : Cx} {x : Str} {p pos : Pos} {e : Expr} {es : List Expr} {t : TA} {id T : String} {r : List V → Hp → VK → Prop}
def tCB (r : List V → Hp → VK → Prop) (t : TA) : TE := fun σ H Q => t σ H fun vs H1 => r vs H1 Q
theorem zu7 (hc : CallR X (.builtin id) r) (hg : Gl X x) (hm : X.mg x = none) (hv : bootBuiltins x = some (.builtin id)) (ha : PA X (e :: es) t) (hn : x ≠ "__name__" := by decide) (hdb : (x == ("__debug__" : Str)) = false := by decide)
  (he : starEach (e :: es) X.env = (false, eval e X.env) :: starEach es X.env := by rfl) (hpl : (backTo pos (starEach es X.env)).any (·.1) = false := by rfl) : PE X (.Call (.Name x p) (e :: es) [] pos) (tCB r t) := by
 intro pins s σ H Q I h
 refine wpAny_Call_Name_kw (zhg I hg hm hv ?_ hn hdb)
 exact PyProof.Rows.callWith_builtin1 (thn (ha pos pins s σ H _ I h) fun us s1 ⟨vs, H1, I1, r1, q1⟩ => hc pins s1 σ H1 vs us Q I1 r1 q1) he hpl
theorem zr8 (hc : CallR X (.type T) r) (hg : Gl X x) (hm : X.mg x = none) (hv : bootBuiltins x = some (.type T)) (ha : PA X (e :: es) t) (hn : x ≠ "__name__" := by decide) (hdb : (x == ("__debug__" : Str)) = false := by decide)
  (he : starEach (e :: es) X.env = (false, eval e X.env) :: starEach es X.env := by rfl) (hpl : (backTo pos (starEach es X.env)).any (·.1) = false := by rfl) : PE X (.Call (.Name x p) (e :: es) [] pos) (tCB r t) := by
 intro pins s σ H Q I h
 refine wpAny_Call_Name_kw (zhg I hg hm hv ?_ hn hdb)
 exact PyProof.Rows.callWith_type1 (thn (ha pos pins s σ H _ I h) fun us s1 ⟨vs, H1, I1, r1, q1⟩ => hc pins s1 σ H1 vs us Q I1 r1 q1) he hpl
end
end L2
namespace HT
open PySem PyProof.Rows
section
open PySem.SeqAt
open PySem.AutoSeq1 (wpAny_loadPart')
open PySem.MeetsSeq PySem.MeetsSeq2 PySem.MeetsSeq3
end
section
variable {prog : Program} {w : World} {A : Around} {E : Value → Shared → Prop} {s : Shared}
theorem zxc {t b : Addr} {vs ws : List Value} {Q : Value → Shared → Prop} (ht : IsTup s.heap t vs.toArray) (hb : IsTup s.heap b ws.toArray) (hv : vs ≠ [])
  (h1 : ws = [] → Q (.ref t) s) (h2 : ws ≠ [] → Q (.ref s.heap.objs.size) { s with heap := s.heap.push { cls := .type "tuple", data := .seq (vs ++ ws).toArray } })
  (hsz : vs.length + ws.length ≤ sizeLine) : wpAny (model prog w) A (binaryOp .Add (.ref t) (.ref b)) Q E s := by
 obtain ⟨⟨cls, dd, data, sl⟩, ho, hc, n, hd⟩ := id ht
 obtain ⟨⟨cls2, dd2, data2, sl2⟩, ho2, hc2, n2, hd2⟩ := id hb
 simp only at hc hd hc2 hd2
 subst hc hd hc2 hd2
 have e : vs.toArray ++ ws.toArray = (vs ++ ws).toArray := by simp
 by_cases hw : ws = []
 ·exact concat_meets ⟨_, ho, rfl⟩ ⟨_, ho2, rfl⟩ noFill_tuple_add seq_tuple_add PySem.F.slot_tuple_add PySem.F.entry_tuple_add (PySem.F.args_tuple_add_2 _ _)
   (tuple_addW1 t b vs.toArray ws.toArray n n2 dd dd2 sl sl2 (by simpa using hv) (by simp [hw])) ⟨ho, ho2, h1 hw⟩
 ·refine concat_meets ⟨_, ho, rfl⟩ ⟨_, ho2, rfl⟩ noFill_tuple_add seq_tuple_add PySem.F.slot_tuple_add PySem.F.entry_tuple_add (PySem.F.args_tuple_add_2 _ _)
   (tuple_addW2 t b vs.toArray ws.toArray n n2 dd dd2 sl sl2 (by simpa using hv) (by simpa using hw) (by rw [List.size_toArray, List.size_toArray]; exact hsz)) ⟨ho, ho2, ?_⟩
  rw [e]
  exact h2 hw
def sIx (n d : Nat) : Option Int → Nat
 | none => d
 | some v => if v < 0 then (v + (n : Int)).toNat else min v.toNat n
theorem zo0 (n d : Nat) : sIx n d none = d := rfl
theorem zvz (n d k : Nat) : sIx n d (some (k : Int)) = min k n := by
 show (if (k : Int) < 0 then ((k : Int) + (n : Int)).toNat else min (k : Int).toNat n) = min k n
 rw [if_neg (by omega), Int.toNat_natCast]
theorem zyb (n d : Nat) (hd : d ≤ n) (o : Option Int) : sIx n d o ≤ n := by
 cases o with
 | none => exact hd
 | some v =>
  show (if v < 0 then (v + (n : Int)).toNat else min v.toNat n) ≤ n
  by_cases hv : v < 0
  ·rw [if_pos hv]; omega
  ·rw [if_neg hv]; exact Nat.min_le_right _ _
theorem zt1 (v : Int) (n d : Nat) : (if v < 0 then max (v + (n : Int)) 0 else min v (n : Int)) = ((sIx n d (some v) : Nat) : Int) := by
 show (if v < 0 then max (v + (n : Int)) 0 else min v (n : Int)) = (((if v < 0 then (v + (n : Int)).toNat else min v.toNat n) : Nat) : Int)
 by_cases hv : v < 0
 ·simp only [if_pos hv]; omega
 ·simp only [if_neg hv]; omega
theorem zq7 (lo hi : Option Int) (n : Nat) : Builtin.Slice.sliceAdjust lo hi 1 (n : Int) = (((sIx n 0 lo : Nat) : Int), ((sIx n n hi : Nat) : Int)) := by
 have h1 : ¬ ((1 : Int) < 0) := by omega
 unfold Builtin.Slice.sliceAdjust
 simp only [h1, if_false]
 refine Prod.ext ?_ ?_
 ·cases lo with
  | none => rfl
  | some v => exact zt1 v n 0
 ·cases hi with
  | none => rfl
  | some v => exact zt1 v n n
theorem zph (i j : Nat) : Builtin.Slice.slicePlaces (i : Int) (j : Int) 1 = j - i := by
 unfold Builtin.Slice.slicePlaces
 have h1 : (1 : Int) > 0 := by omega
 simp only [h1, if_true, Int.ediv_one]
 split <;> omega
theorem zin {v : Value} {o : Option Int} {Q : Option Int → Shared → Prop} (p : IsPart v o) (h : Q o s) : wpAny (model prog w) A (Builtin.Slice.slicePartIndex v) Q E s := by
 cases p with
 | none => exact slicePart_none h
 | int i t => exact slicePart_int h
theorem zag {sl : Addr} {vl vu : Value} {lo hi : Option Int} {n : Nat} {Q : Int × Int × Nat → Shared → Prop} (hs : s.heap.IsSliceOf sl vl vu .none) (pl : IsPart vl lo) (pu : IsPart vu hi)
  (h : Q (((sIx n 0 lo : Nat) : Int), 1, sIx n n hi - sIx n 0 lo) s) : wpAny (model prog w) A (Builtin.Slice.sliceApplied (.ref sl) (pure (n : Int))) Q E s := by
 obtain ⟨os, hos, hcs, hds⟩ := id hs
 unfold Builtin.Slice.sliceApplied Builtin.Slice.sliceFields
 refine wpAny_bind (wpAny_bind (wpAny_field hos hds (x := vl) rfl (wpAny_bind (wpAny_field hos hds (x := vu) rfl (wpAny_bind (wpAny_field hos hds (x := .none) rfl (wpAny_pure ?_)))))))
 refine wpAny_bind (slicePart_none ?_)
 show wpAny _ _ (if ((1 : Int) == 0) = true then _ else _) _ _ s
 rw [if_neg (by decide)]
 refine wpAny_bind (zin pl (wpAny_bind (zin pu (wpAny_bind (wpAny_pure ?_)))))
 show wpAny _ _ (match Builtin.Slice.sliceAdjust lo hi 1 (n : Int) with | (lo, hi) => pure (lo, (1 : Int), Builtin.Slice.slicePlaces lo hi 1)) _ _ s
 rw [zq7 lo hi n]
 show wpAny _ _ (pure (((sIx n 0 lo : Nat) : Int), (1 : Int), Builtin.Slice.slicePlaces ((sIx n 0 lo : Nat) : Int) ((sIx n n hi : Nat) : Int) 1)) _ _ s
 rw [zph]
 exact wpAny_pure h
theorem zu6 (xs : Array Value) (i k : Nat) : ((List.range k).filterMap fun (m : Nat) => xs[((i : Int) + (m : Int) * 1).toNat]?).toArray = ((xs.toList.drop i).take k).toArray := by
 have e : (fun (m : Nat) => xs[((i : Int) + (m : Int) * 1).toNat]?) = fun m => xs[i + m]? := by
  funext m
  have : ((i : Int) + (m : Int) * 1).toNat = i + m := by omega
  rw [this]
 rw [e]
 have := pick_run xs i k
 rw [List.filterMap_map] at this
 have e2 : ((fun x => xs[x]?) ∘ fun x => i + x) = fun m => xs[i + m]? := rfl
 rw [e2] at this
 rw [this]
theorem zfp {t sl : Addr} {items : Array Value} {vl vu : Value} {lo hi : Option Int} {Q : Value → Shared → Prop} (ht : IsTup s.heap t items) (hs : s.heap.IsSliceOf sl vl vu .none) (pl : IsPart vl lo) (pu : IsPart vu hi)
  (hw : ¬ (sIx items.size 0 lo = 0 ∧ sIx items.size items.size hi = items.size))
  (h : Q (.ref s.heap.objs.size) { s with heap := s.heap.push { cls := .type "tuple", data := .seq ((items.toList.drop (sIx items.size 0 lo)).take (sIx items.size items.size hi - sIx items.size 0 lo)).toArray } })
  (hsz : items.size ≤ sizeLine) : wpAny (model prog w) A (getItem (.ref t) (.ref sl)) Q E s := by
 have htake : sizeOk (.seq ((items.toList.drop (sIx items.size 0 lo)).take (sIx items.size items.size hi - sIx items.size 0 lo)).toArray) := by
  show ((items.toList.drop (sIx items.size 0 lo)).take (sIx items.size items.size hi - sIx items.size 0 lo)).toArray.size ≤ sizeLine
  rw [List.size_toArray, List.length_take, List.length_drop, Array.length_toList]
  omega
 have hj : sIx items.size items.size hi ≤ items.size := zyb _ _ (Nat.le_refl _) hi
 obtain ⟨os, hos, hcs, hds⟩ := id hs
 have hTs : s.TypeIs (.ref sl) "slice" := ⟨os, hos, hcs⟩
 unfold getItem
 try with_reducible refine wpAny_holding ?_
 first | refine wpAny_bind (wpAny_pure ?_) | skip
 refine wpAny_bind (wpAny_sequenceKey ht.typeIs (by decide) ?_)
 refine wpAny_bind (wpAny_callSpecial?_slot (name := Str.ofString "__getitem__") ht.typeIs PyProof.Rows.slot_tuple_getitem
  (wpAny_call_entry PyProof.Rows.slot_tuple_getitem ht.typeIs entry_tuple_getitem ?_ (args_tuple_getitem _ _)))
 show wpAny _ _ (Builtin.Tuple.tupleItemsOf (.ref t) >>= _) _ _ s
 refine wpAny_bind (tupleItemsOf_ ht ?_)
 refine wpAny_bind (wpAny_typeOf hTs ?_)
 rw [if_pos (by decide)]
 refine wpAny_bind (zag hs pl pu ?_)
 have hno : ¬ ((((sIx items.size 0 lo : Nat) : Int) == 0 && (1 : Int) == 1 && (sIx items.size items.size hi - sIx items.size 0 lo) == items.size) = true) := by
  intro q
  rw [Bool.and_eq_true, Bool.and_eq_true] at q
  have q1 : ((sIx items.size 0 lo : Nat) : Int) = 0 := eq_of_beq q.1.1
  have q2 : sIx items.size items.size hi - sIx items.size 0 lo = items.size := eq_of_beq q.2
  exact hw ⟨by omega, by omega⟩
 show wpAny _ _ (if (((sIx items.size 0 lo : Nat) : Int) == 0 && (1 : Int) == 1 && (sIx items.size items.size hi - sIx items.size 0 lo) == items.size) = true then _ else _) _ _ s
 rw [if_neg hno, zu6]
 first
  | exact wpAny_bind (m := Builtin.Tuple.tupleExact _) (wpAny_newObj_type (wpAny_pure ⟨_, rfl, wpAny_pure h⟩) htake)
  | exact wpAny_bind (m := Builtin.Tuple.tupleExact _) (wpAny_newObj_type (wpAny_bind (wpAny_pure (wpAny_pure ⟨_, rfl, wpAny_pure h⟩))) htake)
  | exact wpAny_bind (wpAny_bind (m := Builtin.Tuple.tupleExact _) (wpAny_newObj_type (wpAny_pure (wpAny_pure ⟨_, rfl, wpAny_pure h⟩)) htake))
  | exact wpAny_bind (wpAny_bind (m := Builtin.Tuple.tupleExact _) (wpAny_newObj_type (wpAny_pure ⟨_, rfl, wpAny_pure h⟩) htake))
end
end HT
namespace L2
open PySem PySem.Spec PyProof.Rows
abbrev TO := St → Hp → (Option Int → Hp → Prop) → Prop
def PO (X : Cx) (e : Option Expr) (t : TO) : Prop :=
 ∀ (pins : List (Addr × Obj)) (s : Shared) (σ : St) (H : Hp) (Q : Option Int → Hp → Prop), Inv X pins σ H s → t σ H Q →
  wpAny (model X.prog X.w) X.A (evalPart e X.env) (fun u s' => ∃ o H', Inv X pins σ H' s' ∧ IsPart u o ∧ Q o H') X.xe s
def zgu : TO := fun _ H Q => Q none H
def zql (t : TE) : TO := fun σ H Q => t σ H fun x H1 => ∃ i, x = .int i ∧ Q (some i) H1
theorem zpw {ns : List Int} : ∀ {us : List Value}, Vals (ns.map V.int) us → IntsAre us ns := by
 induction ns with
 | nil => intro us r; rw [List.map_nil] at r; cases r; exact .nil
 | cons n ns ih =>
  intro us r
  rw [List.map_cons] at r
  cases r with
  | cons r1 r2 =>
   obtain ⟨t, e⟩ := r1
   subst e
   exact .cons n t (ih r2)
section
variable {X : Cx} {e : Expr} {te : TE} {lo hi : Option Expr} {tl th : TO} {pos p2 : Pos}
theorem zmi : PO X none zgu := by
 intro pins s σ H Q I h
 rw [evalPart_none]
 exact wpAny_pure ⟨none, H, I, .none, h⟩
theorem zmh (h : PE X e te) : PO X (some e) (zql te) := by
 intro pins s σ H Q I hw
 rw [evalPart_some]
 refine thn (h pins s σ H _ I hw) fun u s1 ⟨x, H1, I1, r1, q1⟩ => ?_
 obtain ⟨i, rfl, q⟩ := q1
 obtain ⟨t, rfl⟩ := r1
 exact ⟨some i, H1, I1, .int i t, q⟩
def SlR (X : Cx) (r : V → Option Int → Option Int → Hp → VK → Prop) : Prop :=
 ∀ (pins : List (Addr × Obj)) (s : Shared) (σ : St) (H : Hp) (x : V) (v vl vu : Value) (lo hi : Option Int) (sl : Addr) (Q : VK), Inv X pins σ H s → RelV x v → s.heap.IsSliceOf sl vl vu .none → IsPart vl lo → IsPart vu hi → r x lo hi H Q →
  ∃ T id, typeLookup (.type T) "__getitem__" = pure (some (.builtin id)) ∧ s.TypeIs v T ∧ wpAny (model X.prog X.w) X.A (getItem v (.ref sl)) (EP X pins σ Q) X.xe s
theorem SlR.or {r r' : V → Option Int → Option Int → Hp → VK → Prop} (h : SlR X r) (h' : SlR X r') : SlR X (fun x lo hi H Q => r x lo hi H Q ∨ r' x lo hi H Q) := by
 intro pins s σ H x v vl vu lo hi sl Q I rx hs pl pu q
 rcases q with q | q
 ·exact h pins s σ H x v vl vu lo hi sl Q I rx hs pl pu q
 ·exact h' pins s σ H x v vl vu lo hi sl Q I rx hs pl pu q
def tSl (r : V → Option Int → Option Int → Hp → VK → Prop) (te : TE) (tl th : TO) : TE := fun σ H Q => te σ H fun x H1 => tl σ H1 fun l H2 => th σ H2 fun u H3 => r x l u H3 Q
theorem zjh {r : V → Option Int → Option Int → Hp → VK → Prop} (hr : SlR X r) (he : PE X e te) (hl : PO X lo tl) (hu : PO X hi th) : PE X (.Subscript e (.Slice lo hi none p2) pos) (tSl r te tl th) := by
 intro pins s σ H Q I h
 refine Subscript_ (thn (he pins s σ H _ I h) fun v s1 ⟨x, H1, I1, r1, q1⟩ => ?_)
 refine wpAny_Slice (thn (hl pins s1 σ H1 _ I1 q1) fun vl s2 ⟨l, H2, I2, pl, q2⟩ => thn (hu pins s2 σ H2 _ I2 q2) fun vu s3 ⟨u, H3, I3, pu, q3⟩ => ?_)
 rw [evalPart_none]
 refine wpAny_pure ?_
 have I4 : Inv X pins σ H3 { s3 with heap := s3.heap.push { cls := .type "slice", data := .fields #[vl, vu, .none] } } := I3.kept (t' := s3.toks) fun b ob q => Heap.get?_push_of_some _ q
 obtain ⟨T, id, hT, ht, hg⟩ := hr pins { s3 with heap := s3.heap.push { cls := .type "slice", data := .fields #[vl, vu, .none] } } σ H3 x v vl vu l u s3.heap.objs.size Q I4 r1 (Heap.IsSliceOf.new ..) pl pu q3
 show wpAny (model X.prog X.w) X.A (subscriptTail e (.Slice lo hi none p2) v (.ref s3.heap.objs.size)) (EP X pins σ Q) X.xe { s3 with heap := s3.heap.push { cls := .type "slice", data := .fields #[vl, vu, .none] } }
 exact tail_any (ops := [.ref s3.heap.objs.size, v]) ht hT hg (by with_unfolding_all rfl)
def zvn (xs : List V) (lo hi : Option Int) : List V := (xs.drop (HT.sIx xs.length 0 lo)).take (HT.sIx xs.length xs.length hi - HT.sIx xs.length 0 lo)
theorem znf (xs : List V) (lo hi : Option Int) : (zvn xs lo hi).length ≤ xs.length := by
 unfold zvn
 rw [List.length_take, List.length_drop]
 omega
def zyd (K : PySem.W.Frag) : V → Option Int → Option Int → Hp → VK → Prop := fun x lo hi H Q => ∃ a xs, x = .ref a ∧ SqT K H a xs ∧
 ¬ (HT.sIx xs.length 0 lo = 0 ∧ HT.sIx xs.length xs.length hi = xs.length) ∧ ∀ p, H p = none → Q (.ref p) (upd H p (.tup (zvn xs lo hi)))
theorem zya : SlR X (zyd X.K) := by
 intro pins s σ H x v vl vu lo hi sl Q I rx hs pl pu h
 obtain ⟨a, xs, rfl, hx, hw, q⟩ := h
 cases rx
 obtain ⟨its, r, ht, hz⟩ := I.tuple hx
 have hlen : its.toArray.size = xs.length := by rw [List.size_toArray]; exact r.length.symm
 refine ⟨"tuple", _, PyProof.Rows.slot_tuple_getitem.lookup, ht.typeIs, ?_⟩
 refine HT.zfp ht hs pl pu (by rw [hlen]; exact hw) ?_ (by rw [hlen]; exact hz)
 rw [hlen]
 refine ⟨.ref s.heap.objs.size, _, I.laid (t' := s.toks) (o := .tup (zvn xs lo hi)) (fun b ob q => Heap.get?_push_of_some _ q) (Nat.le_refl _) ?_, rfl, q _ (I.hok.fresh (Nat.le_refl _))⟩
 exact ⟨Nat.le_trans (znf xs lo hi) hz, _, (r.drop (HT.sIx xs.length 0 lo)).take (HT.sIx xs.length xs.length hi - HT.sIx xs.length 0 lo), IsTup.new _ _⟩
def q0t (K : PySem.W.Frag) : R2 := fun x y H Q => ∃ a b xs ys, x = .ref a ∧ y = .ref b ∧ SqT K H a xs ∧ SqT K H b ys ∧ xs ≠ [] ∧ xs.length + ys.length ≤ sizeLine ∧
 (ys = [] → Q (.ref a) H) ∧ (ys ≠ [] → ∀ p, H p = none → Q (.ref p) (upd H p (.tup (xs ++ ys))))
theorem Vals.nil_iff {xs : List V} {us : List Value} (r : Vals xs us) : us = [] ↔ xs = [] := by
 cases r with
 | nil => simp
 | cons _ _ => simp
theorem zwc : OpR X (binaryOp .Add) (q0t X.K) := by
 intro pins s σ H x y v u Q I rx ry h
 obtain ⟨a, b, xs, ys, rfl, rfl, ha, hb, hx, hz, q1, q2⟩ := h
 cases rx
 cases ry
 obtain ⟨its, r1, p1, _⟩ := I.tuple ha
 obtain ⟨its2, r2, p2, _⟩ := I.tuple hb
 refine HT.zxc p1 p2 (fun z => hx (r1.nil_iff.mp z)) (fun z => ⟨.ref a, H, I, rfl, q1 (r2.nil_iff.mp z)⟩) (fun z => ?_) (by rw [← r1.length, ← r2.length]; exact hz)
 refine ⟨.ref s.heap.objs.size, _, I.laid (t' := s.toks) (o := .tup (xs ++ ys)) (fun b ob q => Heap.get?_push_of_some _ q) (Nat.le_refl _) ?_, rfl, q2 (fun w => z (r2.nil_iff.mpr w)) _ (I.hok.fresh (Nat.le_refl _))⟩
 exact ⟨by rw [List.length_append]; exact hz, _, r1.append r2, IsTup.new _ _⟩
end
end L2
namespace L2
open PySem PySem.Spec PyProof.Rows
def ixN (n : Nat) (i : Int) : Option Nat := if 0 ≤ i then (if i < n then some i.toNat else none) else if -(n : Int) ≤ i then some (i + n).toNat else none
def atI {α : Type} (xs : List α) (i : Int) : Option α := (ixN xs.length i).bind fun j => xs[j]?
theorem zws {n : Nat} {i : Int} {j : Nat} (h : ixN n i = some j) : seqIndex? i n = some j ∧ j < n ∧ -(n : Int) ≤ i ∧ i < n := by
 unfold ixN at h
 by_cases h0 : 0 ≤ i
 ·rw [if_pos h0] at h
  by_cases h1 : i < n
  ·rw [if_pos h1] at h
   have e : i.toNat = j := Option.some.inj h
   exact ⟨by rw [seqIndex_of h0 h1, e], by omega, by omega, h1⟩
  ·rw [if_neg h1] at h; cases h
 ·rw [if_neg h0] at h
  by_cases h1 : -(n : Int) ≤ i
  ·rw [if_pos h1] at h
   have e : (i + n).toNat = j := Option.some.inj h
   exact ⟨by rw [seqIndex_neg (by omega) h1, e], by omega, h1, by omega⟩
  ·rw [if_neg h1] at h; cases h
theorem znk {α : Type} {xs : List α} {i : Int} {v : α} (h : atI xs i = some v) : ∃ j, seqIndex? i xs.length = some j ∧ xs[j]? = some v ∧ j < xs.length ∧ -(xs.length : Int) ≤ i ∧ i < xs.length := by
 unfold atI at h
 cases e : ixN xs.length i with
 | none => rw [e] at h; cases h
 | some j =>
  rw [e] at h
  obtain ⟨h1, h2, h3, h4⟩ := zws e
  exact ⟨j, h1, h, h2, h3, h4⟩
theorem z0x {α : Type} {xs : List α} {j : Nat} {v : α} (h : xs[j]? = some v) : atI xs (j : Int) = some v := by
 have hj : j < xs.length := (List.getElem?_eq_some_iff.mp h).1
 have e : ixN xs.length (j : Int) = some j := by
  unfold ixN
  rw [if_pos (by omega), if_pos (by omega)]; simp
 unfold atI; rw [e]; exact h
theorem zv5 {α : Type} (xs : List α) (v : α) : atI (xs ++ [v]) (-1) = some v := by
 have hl : (xs ++ [v]).length = xs.length + 1 := by simp
 have e : ixN (xs ++ [v]).length (-1) = some xs.length := by
  unfold ixN
  rw [hl, if_neg (by decide), if_pos (by omega)]
  congr 1
  omega
 unfold atI
 rw [e]
 show (xs ++ [v])[xs.length]? = some v
 simp
def zxj (b : Expr) : Prop := ∀ o i, subscripted b false o i = operate [o, i] (getItem o i)
def IxR (X : Cx) (r : R2) : Prop :=
 ∀ (value slice : Expr) (pins : List (Addr × Obj)) (s : Shared) (σ : St) (H : Hp) (x y : V) (v u : Value) (Q : VK), Inv X pins σ H s → RelV x v → RelV y u → r x y H Q →
  subscripted slice false v u = operate [v, u] (getItem v u) → wpAny (model X.prog X.w) X.A (subscriptTail value slice v u) (EP X pins σ Q) X.xe s
def MtR (X : Cx) (id : String) (r : V → List V → Hp → VK → Prop) : Prop :=
 ∀ (pins : List (Addr × Obj)) (s : Shared) (σ : St) (H : Hp) (x : V) (xs : List V) (v : Value) (us : List Value) (Q : VK), Inv X pins σ H s → RelV x v → Vals xs us → r x xs H Q →
  wpAny (model X.prog X.w) X.A (call (.builtin id) (v :: us)) (EP X pins σ Q) X.xe s
section
variable {X : Cx} {a b : Expr} {ta tb : TE} {pos : Pos}
theorem IxR.or {r r' : R2} (h : IxR X r) (h' : IxR X r') : IxR X (fun x y H Q => r x y H Q ∨ r' x y H Q) := by
 intro value slice pins s σ H x y v u Q I rx ry q hs
 rcases q with q | q
 ·exact h value slice pins s σ H x y v u Q I rx ry q hs
 ·exact h' value slice pins s σ H x y v u Q I rx ry q hs
theorem MtR.or {id : String} {r r' : V → List V → Hp → VK → Prop} (h : MtR X id r) (h' : MtR X id r') : MtR X id (fun x xs H Q => r x xs H Q ∨ r' x xs H Q) := by
 intro pins s σ H x xs v us Q I rx rs q
 rcases q with q | q
 ·exact h pins s σ H x xs v us Q I rx rs q
 ·exact h' pins s σ H x xs v us Q I rx rs q
theorem z0w {r : R2} (hr : IxR X r) (ha : PE X a ta) (hb : PE X b tb) (hs : zxj b) : PE X (.Subscript a b pos) (tOp r ta tb) := by
 intro pins s σ H Q I h
 exact Subscript_ (q18 ha hb I h fun v u s2 x y H2 I2 rx ry q => hr a b pins s2 σ H2 x y v u Q I2 rx ry q (hs _ _))
def zxs (K : PySem.W.Frag) : R2 := fun x y H Q => ∃ p xs i v, x = .ref p ∧ y = .int i ∧ SqL K H p xs ∧ atI xs i = some v ∧ Q v H
def ztj (K : PySem.W.Frag) : R2 := fun x y H Q => ∃ p xs i v, x = .ref p ∧ y = .int i ∧ SqT K H p xs ∧ atI xs i = some v ∧ Q v H
def zxr : R2 := fun x y H Q => ∃ z i c, x = .str z ∧ y = .int i ∧ z.length ≤ sizeLine ∧ atI z.cps.toList i = some c ∧ Q (.str ⟨#[c]⟩) H
theorem ix_list : IxR X (zxs X.K) := by
 intro value slice pins s σ H x y v u Q I rx ry h hs
 obtain ⟨p, xs, i, z, rfl, rfl, hq, he, q⟩ := h
 cases rx
 obtain ⟨t, rfl⟩ := ry
 obtain ⟨its, r, pl, hz⟩ := I.list hq
 obtain ⟨j, h1, h2, h3, h4, h5⟩ := znk he
 obtain ⟨w, ew, rw'⟩ := r.get h2
 have hl := r.length
 have hn := zl4
 have fin : EP X pins σ Q w s := ⟨z, H, I, rw', q⟩
 by_cases h0 : 0 ≤ i
 ·have hj : i.toNat = j := by
   rw [seqIndex_of h0 h5] at h1
   exact Option.some.inj h1
  exact item_listR pl.isList h0 (by omega) (by rw [hj]; simpa using ew) fin hs
 ·have hj : (i + (its.toArray.size : Int)).toNat = j := by
   rw [seqIndex_neg (by omega) h4] at h1
   rw [List.size_toArray, ← hl]
   exact Option.some.inj h1
  exact subscriptTail_builtinR (x := w) pl.isList.typeIs slot_list_getitem.lookup
   (wpAny_getItem_list_neg (Q := fun r s' => r = w ∧ EP X pins σ Q r s') pl.isList (by omega) (by rw [List.size_toArray] <;> omega) (by omega) (by rw [hj]; simpa using ew) ⟨rfl, fin⟩) hs
theorem ix_tup : IxR X (ztj X.K) := by
 intro value slice pins s σ H x y v u Q I rx ry h hs
 obtain ⟨p, xs, i, z, rfl, rfl, hq, he, q⟩ := h
 cases rx
 obtain ⟨t, rfl⟩ := ry
 obtain ⟨its, r, pl, hz⟩ := I.tuple hq
 obtain ⟨j, h1, h2, h3, h4, h5⟩ := znk he
 obtain ⟨w, ew, rw'⟩ := r.get h2
 have hl := r.length
 have hn := zl4
 have fin : EP X pins σ Q w s := ⟨z, H, I, rw', q⟩
 exact subscriptTail_builtinR (x := w) pl.typeIs slot_tuple_getitem.lookup
  (getItem_tuple (j := j) (Q := fun r s' => r = w ∧ EP X pins σ Q r s') pl (by omega) (by omega) (by rw [List.size_toArray, ← hl]; exact h1) (by simpa using ew) ⟨rfl, fin⟩) hs
theorem zzc : IxR X zxr := by
 intro value slice pins s σ H x y v u Q I rx ry h hs
 obtain ⟨z, i, c, rfl, rfl, hz, he, q⟩ := h
 obtain ⟨t, rfl⟩ := rx
 obtain ⟨t', rfl⟩ := ry
 obtain ⟨j, h1, h2, h3, h4, h5⟩ := znk he
 have hl : z.cps.toList.length = z.length := by simp [Str.length]
 rw [hl] at h1 h4 h5
 have hn := zl4
 exact tail_any (typeIs_str s z t) slot_str_getitem.lookup (getItem_str (c := c) (by
  have e1 : decide (i < -(2 ^ 63 : Int)) = false := decide_eq_false (by omega)
  have e2 : decide (i ≥ 2 ^ 63) = false := decide_eq_false (by omega)
  rw [e1, e2, Bool.or_false]) (by rw [h1]; simpa using h2) ⟨.str ⟨#[c]⟩, H, I.tok _, ⟨_, rfl⟩, q⟩) hs
def rIx (K : PySem.W.Frag) : R2 := fun x y H Q => zxs K x y H Q ∨ ztj K x y H Q ∨ zxr x y H Q
theorem zzd : IxR X (rIx X.K) := ix_list.or (ix_tup.or zzc)
theorem Inv.lst {pins : List (Addr × Obj)} {σ : St} {H : Hp} {s : Shared} {p : Addr} {xs : List V} (I : Inv X pins σ H s) (h : H p = some (.lst xs)) :
  ∃ (its : List Value) (n : Nat), Vals xs its ∧ s.heap.get? p = some { cls := .type "list", data := .seq its.toArray n } ∧ xs.length ≤ sizeLine := by
 obtain ⟨z, its, n, r, e⟩ := I.hok p _ h
 exact ⟨its, n, r, e, z⟩
def q0b (K : PySem.W.Frag) : V → Option Int → Option Int → Hp → VK → Prop := fun x lo hi H Q => ∃ a xs, x = .ref a ∧ SqL K H a xs ∧ ∀ p, H p = none → Q (.ref p) (upd H p (.lst (zvn xs lo hi)))
def zb6 : V → Bool
 | .non => true
 | .bl _ => true
 | .int _ => true
 | .str _ => true
 | _ => false
def eqV : V → V → Bool
 | .non, .non => true
 | .bl a, .bl b => a == b
 | .bl a, .int b => (if a then 1 else 0) == b
 | .int a, .bl b => a == (if b then 1 else 0)
 | .int a, .int b => a == b
 | .str a, .str b => a == b
 | _, _ => false
theorem zzm {A : Around} {s : Shared} {y x : V} {u v : Value} (ry : RelV y u) (rx : RelV x v) (fy : zb6 y = true) (fx : zb6 x = true) : SeqAt.EqAt A s u v (eqV y x) := by
 cases y with
 | non =>
  cases ry
  cases x with
  | non => cases rx; exact SeqAt.EqAt.same _
  | bl b => cases rx; exact SeqAt.EqAt.none_bool b
  | int b => obtain ⟨t, rfl⟩ := rx; exact SeqAt.EqAt.none_int b t
  | str b => obtain ⟨t, rfl⟩ := rx; exact SeqAt.EqAt.none_str b t
  | _ => exact absurd (show false = true from fx) Bool.false_ne_true
 | bl a =>
  cases ry
  cases x with
  | non => cases rx; exact SeqAt.EqAt.bool_none a
  | bl b => cases rx; exact SeqAt.EqAt.bool_bool a b
  | int b => obtain ⟨t, rfl⟩ := rx; exact SeqAt.EqAt.bool_int a b t
  | str b => obtain ⟨t, rfl⟩ := rx; exact SeqAt.EqAt.bool_str a b t
  | _ => exact absurd (show false = true from fx) Bool.false_ne_true
 | int a =>
  obtain ⟨t', rfl⟩ := ry
  cases x with
  | non => cases rx; exact SeqAt.EqAt.int_none a t'
  | bl b => cases rx; exact SeqAt.EqAt.int_bool a t' b
  | int b => obtain ⟨t, rfl⟩ := rx; exact SeqAt.EqAt.int_int a t' b t
  | str b => obtain ⟨t, rfl⟩ := rx; exact SeqAt.EqAt.int_str a t' b t
  | _ => exact absurd (show false = true from fx) Bool.false_ne_true
 | str a =>
  obtain ⟨t', rfl⟩ := ry
  cases x with
  | non => cases rx; exact SeqAt.EqAt.str_none a t'
  | bl b => cases rx; exact SeqAt.EqAt.str_bool a t' b
  | int b => obtain ⟨t, rfl⟩ := rx; exact SeqAt.EqAt.str_int a t' b t
  | str b => obtain ⟨t, rfl⟩ := rx; exact SeqAt.EqAt.str_str a t' b t
  | _ => exact absurd (show false = true from fx) Bool.false_ne_true
 | _ => exact absurd (show false = true from fy) Bool.false_ne_true
def eqU (x : V) (u : Value) : Bool := match u with
 | .none => eqV .non x
 | .bool b => eqV (.bl b) x
 | .int i _ => eqV (.int i) x
 | .str z _ => eqV (.str z) x
 | _ => false
theorem zvj {x y : V} {u : Value} (r : RelV y u) (f : zb6 y = true) : eqU x u = eqV y x := by
 cases y with
 | non => cases r; rfl
 | bl b => cases r; rfl
 | int i => obtain ⟨t, rfl⟩ := r; rfl
 | str z => obtain ⟨t, rfl⟩ := r; rfl
 | _ => exact absurd (show false = true from f) Bool.false_ne_true
theorem zi4 {x : V} : ∀ {xs : List V} {us : List Value}, Vals xs us → xs.all zb6 = true → us.any (eqU x) = xs.any fun y => eqV y x
 | _, _, .nil, _ => rfl
 | y :: xs, u :: us, .cons r t, f => by
  rw [List.all_cons, Bool.and_eq_true] at f
  rw [List.any_cons, List.any_cons, zvj r f.1, zi4 t f.2]
theorem ze7 {A : Around} {s : Shared} {x : V} {v : Value} (rx : RelV x v) (fx : zb6 x = true) : ∀ {xs : List V} {us : List Value}, Vals xs us → xs.all zb6 = true → ∀ u ∈ us, SeqAt.EqAt A s u v (eqU x u)
 | _, _, .nil, _ => fun u hu => by cases hu
 | y :: xs, u :: us, .cons r t, f => fun u' hu => by
  rw [List.all_cons, Bool.and_eq_true] at f
  rcases List.mem_cons.mp hu with rfl | hu
  ·rw [zvj r f.1]; exact zzm r rx f.1 fx
  ·exact ze7 rx fx t f.2 u' hu
def inV (x : V) (xs : List V) : Bool := xs.any fun y => eqV y x
def rIn (K : PySem.W.Frag) (neg : Bool) : R2 := fun x y H Q => ∃ p xs, y = .ref p ∧ (SqL K H p xs ∨ SqT K H p xs) ∧ zb6 x = true ∧ xs.all zb6 = true ∧ Q (.bl (if neg then !inV x xs else inV x xs)) H
theorem zrd : OpR X (compareOp .In) (rIn X.K false) := by
 intro pins s σ H x y v u Q I rx ry h
 obtain ⟨p, xs, rfl, hq, fx, fs, q⟩ := h
 cases ry
 rcases hq with hq | hq
 ·obtain ⟨its, r, pl, hz⟩ := I.list hq
  refine SeqAt.in_listAt (eqU x) pl.isList (fun w hw => ze7 rx fx r fs w (by simpa using hw)) ⟨.bl _, H, I, rfl, ?_⟩
  rw [show its.toArray.any (eqU x) = its.any (eqU x) by simp, zi4 r fs]
  exact q
 ·obtain ⟨its, r, pl, hz⟩ := I.tuple hq
  refine SeqAt.in_tupleAt (eqU x) pl (fun w hw => ze7 rx fx r fs w (by simpa using hw)) ⟨.bl _, H, I, rfl, ?_⟩
  rw [show its.toArray.any (eqU x) = its.any (eqU x) by simp, zi4 r fs]
  exact q
theorem zkx : OpR X (compareOp .NotIn) (rIn X.K true) := by
 intro pins s σ H x y v u Q I rx ry h
 obtain ⟨p, xs, rfl, hq, fx, fs, q⟩ := h
 cases ry
 rcases hq with hq | hq
 ·obtain ⟨its, r, pl, hz⟩ := I.list hq
  refine SeqAt.notIn_listAt (eqU x) pl.isList (fun w hw => ze7 rx fx r fs w (by simpa using hw)) ⟨.bl _, H, I, rfl, ?_⟩
  rw [show its.toArray.any (eqU x) = its.any (eqU x) by simp, zi4 r fs]
  exact q
 ·obtain ⟨its, r, pl, hz⟩ := I.tuple hq
  refine SeqAt.notIn_tupleAt (eqU x) pl (fun w hw => ze7 rx fx r fs w (by simpa using hw)) ⟨.bl _, H, I, rfl, ?_⟩
  rw [show its.toArray.any (eqU x) = its.any (eqU x) by simp, zi4 r fs]
  exact q
theorem zkw : OpR X (compareOp .NotIn) (fun x y H Q => ∃ i j, x = .str i ∧ y = .str j ∧ Q (.bl (!(!(Builtin.Str.occurrences j i 0 j.length 1).isEmpty))) H) := by
 intro pins s σ H x y v u Q I rx ry h
 obtain ⟨i, j, rfl, rfl, q⟩ := h
 obtain ⟨t, rfl⟩ := rx
 obtain ⟨t', rfl⟩ := ry
 exact notIn_str ⟨.bl _, H, I, rfl, q⟩
theorem zlu : CallR X (.builtin "len") (fun xs H Q => ∃ p ys, xs = [.ref p] ∧ (SqL X.K H p ys ∨ SqT X.K H p ys) ∧ Q (.int ys.length) H) := by
 intro pins s σ H xs us Q I r h
 obtain ⟨p, ys, rfl, hq, q⟩ := h
 obtain ⟨u, rfl, rx⟩ := zvs r
 cases rx
 have hn := zl4
 rcases hq with hq | hq
 ·obtain ⟨its, r', pl, hz⟩ := I.list hq
  have hlen := r'.length
  exact Calls.call_len_list pl.isList (by simp only [List.size_toArray] <;> omega) ⟨.int ys.length, H, I.tok _, ⟨s.toks + 1, by rw [List.size_toArray, hlen]⟩, q⟩
 ·obtain ⟨its, r', pl, hz⟩ := I.tuple hq
  have hlen := r'.length
  exact len_tuple pl (by simp only [List.size_toArray] <;> omega) ⟨.int ys.length, H, I.tok _, ⟨s.toks + 1, by rw [List.size_toArray, hlen]⟩, q⟩
theorem zlt : CallR X (.builtin "len") (fun xs H Q => ∃ z, xs = [.str z] ∧ z.length ≤ sizeLine ∧ Q (.int z.length) H) := by
 intro pins s σ H xs us Q I r h
 obtain ⟨z, rfl, hz, q⟩ := h
 obtain ⟨u, rfl, t, rfl⟩ := zvs r
 have hn := zl4
 exact len_str (by omega) ⟨.int z.length, H, I.tok _, ⟨_, rfl⟩, q⟩
theorem CallR.or {f : Value} {r r' : List V → Hp → VK → Prop} (h : CallR X f r) (h' : CallR X f r') : CallR X f (fun xs H Q => r xs H Q ∨ r' xs H Q) := by
 intro pins s σ H xs us Q I rs q
 rcases q with q | q
 ·exact h pins s σ H xs us Q I rs q
 ·exact h' pins s σ H xs us Q I rs q
theorem z62 : CallR X (.type "tuple") (fun xs H Q => ∃ p ys, xs = [.ref p] ∧ ((SqL X.K H p ys ∧ ∀ l, H l = none → Q (.ref l) (upd H l (.tup ys))) ∨ (SqT X.K H p ys ∧ Q (.ref p) H))) := by
 intro pins s σ H xs us Q I r h
 obtain ⟨p, ys, rfl, h⟩ := h
 obtain ⟨u, rfl, rx⟩ := zvs r
 cases rx
 rcases h with ⟨hq, q⟩ | ⟨hq, q⟩
 ·obtain ⟨its, r', pl, hz⟩ := I.list hq
  have hlen := r'.length
  refine call_tuple_list pl.isList (fun h' kp => ?_) (by simp only [List.size_toArray] <;> omega)
  have I1 : Inv X pins σ H { s with heap := h' } := I.kept (t' := s.toks) kp
  have I2 : Inv X pins σ (upd H h'.objs.size (.tup ys)) { s with heap := h'.push { cls := .type "tuple", data := .seq its.toArray } } :=
   I1.laid (t' := s.toks) (fun b o e => Heap.get?_push_of_some _ e) (Nat.le_refl _) (show ObjOk X.prog X.w _ _ _ (.tup ys) from ⟨hz, its, r', IsTup.new _ _⟩)
  exact ⟨.ref h'.objs.size, _, I2, rfl, q _ (I1.hok.fresh (Nat.le_refl _))⟩
 ·obtain ⟨its, r', pl, hz⟩ := I.tuple hq
  exact call_tuple_same pl ⟨.ref p, H, I, rfl, q⟩
def tyV (K : PySem.W.Frag) (T : String) (x : V) (H : Hp) : Prop := match x with
 | .str _ => T = "str"
 | .int _ => T = "int"
 | .ref p => (T = "list" ∧ ∃ xs, SqL K H p xs) ∨ (T = "tuple" ∧ ∃ o, K.lookup p = some o ∧ o.cls = .type "tuple" ∧ o.dict = none) ∨
   (T = "dict" ∧ ((∃ kvs, H p = some (.dK kvs)) ∨ ∃ kvs, H p = some (.dT kvs))) ∨ (T = "set" ∧ ∃ S n, H p = some (.set S n))
 | _ => False
theorem zxz {pins : List (Addr × Obj)} {σ : St} {H : Hp} {s : Shared} {T : String} {x : V} {v : Value} (I : Inv X pins σ H s) (r : RelV x v) (ty : tyV X.K T x H) :
  s.TypeIs v T ∧ ∀ a, v = .ref a → ∃ ob, s.heap.get? a = some ob ∧ ob.dict = none := by
 cases x with
 | str z =>
  obtain ⟨t, rfl⟩ := r
  cases (show T = "str" from ty)
  exact ⟨typeIs_str s z t, fun _ e => nomatch e⟩
 | int i =>
  obtain ⟨t, rfl⟩ := r
  cases (show T = "int" from ty)
  exact ⟨typeIs_int s i t, fun _ e => nomatch e⟩
 | ref p =>
  cases r
  rcases ty with ⟨rfl, xs, hq⟩ | ⟨rfl, o, hk, hc, hd⟩ | ⟨rfl, hk⟩ | ⟨rfl, S, n, hk⟩
  ·obtain ⟨its, _, pl, _⟩ := I.list hq
   refine ⟨pl.isList.typeIs, fun a e => ?_⟩
   cases e
   obtain ⟨o, n, e, c, hd, _⟩ := pl
   exact ⟨o, e, hd⟩
  ·refine ⟨⟨o, I.kIn p o hk, hc⟩, fun a e => ?_⟩
   cases e
   exact ⟨o, I.kIn _ o hk, hd⟩
  ·have z : ∃ o, s.heap.get? p = some o ∧ o.ExactDict := by
    rcases hk with ⟨kvs, hk⟩ | ⟨kvs, hk⟩
    ·obtain ⟨_, _, _, _, o, _, _, e, ex, _⟩ := I.hok p _ hk
     exact ⟨o, e, ex⟩
    ·obtain ⟨_, _, _, _, o, _, _, e, ex, _⟩ := I.hok p _ hk
     exact ⟨o, e, ex⟩
   obtain ⟨o, e, ex⟩ := z
   refine ⟨⟨o, e, ex.1⟩, fun a e2 => ?_⟩
   cases e2
   exact ⟨o, e, ex.2.1⟩
  ·obtain ⟨o, _, _, _, e, ex, _⟩ := I.hok p _ hk
   refine ⟨⟨o, e, ex.1⟩, fun a e2 => ?_⟩
   cases e2
   exact ⟨o, e, ex.2.1⟩
 | _ => exact False.elim ty
def tBM (K : PySem.W.Frag) (T : String) (r : V → List V → Hp → VK → Prop) (to : TE) (t : TA) : TE := fun σ H Q => to σ H fun x H1 => tyV K T x H1 ∧ t σ H1 fun xs H2 => r x xs H2 Q
variable {o e : Expr} {es : List Expr} {to : TE} {t : TA} {name : Str} {apos cpos : Pos} {T id : String} {r : V → List V → Hp → VK → Prop}
theorem ze1 (pa : PlainAttrs T) (slot : Slot T name id) (hty : typeOf (.builtin id) = pure (.type "method_descriptor")) (hm : MtR X id r) (ho : PE X o to) (ha : PA X (e :: es) t)
  (hbase : attributeBase o name X.env (eval o X.env) = eval o X.env := by rfl)
  (hfew : ((backTo cpos (starEach (e :: es) X.env)).all (fun x => !x.1) && (backToKw cpos (keywordEach [] X.env)).all (fun x => x.1.isSome)
   && decide ((e :: es).length + ([] : List Keyword).length + (if ([] : List Keyword).isEmpty then 0 else 1) < 30)) = true := by rfl)
  (hline : (apos.endLine == cpos.line) = true := by rfl) (hs : starEach (e :: es) X.env = (false, eval e X.env) :: starEach es X.env := by rfl) (hplain : (backTo cpos (starEach es X.env)).any (·.1) = false := by rfl) :
  PE X (.Call (.Attribute o name apos) (e :: es) [] cpos) (tBM X.K T r to t) := by
 intro pins s σ H Q I h
 refine wpAny_Call_method_late hbase hfew hline rfl (thn (ho pins s σ H _ I h) fun v s1 ⟨x, H1, I1, r1, ty, q1⟩ => ?_)
 obtain ⟨h1, h2⟩ := zxz I1 r1 ty
 refine ⟨T, id, pa, slot, hty, h1, h2, ?_⟩
 have hA := ha cpos pins s1 σ H1 _ I1 q1
 rw [hs] at hA ⊢
 refine Calls.callWith_builtin (by show (false || (backTo cpos (starEach es X.env)).any (·.1)) = false; rw [hplain] <;> rfl) (Calls.evalArgs_plain ?_)
 exact thn hA fun us s2 ⟨vs, H2, I2, r2, q2⟩ => hm pins s2 σ H2 x vs v us Q I2 r1 r2 q2
end
end L2
namespace L2
open PySem PySem.Spec PyProof.Rows
def MtM (X : Cx) (id : String) (r : V → List V → Hp → VK → Prop) : Prop :=
 ∀ (pins : List (Addr × Obj)) (s : Shared) (σ : St) (H : Hp) (x : V) (xs : List V) (v : Value) (us : List Value) (Q : VK), Inv X pins σ H s → RelV x v → Vals xs us → r x xs H Q →
  wpAny (model X.prog X.w) X.A (call (.builtin id) (v :: us)) (EP X pins σ Q) X.xe s
theorem Vals.one : ∀ {x : V} {us : List Value}, Vals [x] us → ∃ u, us = [u] ∧ RelV x u
 | _, _, .cons r .nil => ⟨_, rfl, r⟩
theorem Vals.two : ∀ {x y : V} {us : List Value}, Vals [x, y] us → ∃ u v, us = [u, v] ∧ RelV x u ∧ RelV y v
 | _, _, _, .cons r (.cons q .nil) => ⟨_, _, rfl, r, q⟩
theorem Vals.zero : ∀ {us : List Value}, Vals [] us → us = []
 | _, .nil => rfl
theorem zla (its : List Value) : ∀ (k : Nat) (acc : List Value),
  List.foldl (fun x1 x2 => x1 ++ x2) acc.toArray (List.replicate k its.toArray) = (acc ++ (List.replicate k its).flatten).toArray
 | 0, acc => by simp
 | k + 1, acc => by
  have e : acc.toArray ++ its.toArray = (acc ++ its).toArray := by simp
  have e2 : (acc ++ its) ++ (List.replicate k its).flatten = acc ++ (List.replicate (k + 1) its).flatten := by
   rw [List.replicate_succ, List.flatten_cons, List.append_assoc]
  rw [← e2, ← zla its k (acc ++ its), ← e, List.replicate_succ, List.foldl_cons]
section
variable {X : Cx} {pins : List (Addr × Obj)} {σ : St} {H : Hp} {s : Shared} {l b : Addr} {xs ys zs : List V}
theorem Inv.lset {its its' : List Value} {n : Nat} {f : Array Value → Array Value} {t' : Nat} (I : Inv X pins σ H s) (hH : H l = some (.lst xs))
  (e : s.heap.get? l = some { cls := .type "list", data := .seq its.toArray n }) (hf : f its.toArray = its'.toArray) (hv : Vals ys its') (hz : ys.length ≤ sizeLine) :
  Inv X pins σ (upd H l (.lst ys)) { s with heap := s.heap.update l (Obj.mapSeq f), toks := t' } := by
 have q := PySem.IsL.update e f
 rw [hf] at q
 refine I.write (x := l) (e := l) (by rw [hH]; exact trivial) (.inl rfl) (fun b' u hb hu => (Heap.get?_update_other s.heap (Obj.mapSeq f) (Ne.symm hb)).trans hu) ⟨_, q⟩ ?_
 exact ⟨hz, its', _, hv, q⟩
theorem Inv.lnew {its : List Value} {t' : Nat} (I : Inv X pins σ H s) (hv : Vals ys its) (hz : ys.length ≤ sizeLine) :
  Inv X pins σ (upd H s.heap.objs.size (.lst ys)) { s with heap := s.heap.push { cls := .type "list", data := .seq its.toArray }, toks := t' } :=
 I.laid (fun _ _ q => Heap.get?_push_of_some _ q) (Nat.le_refl _) ⟨hz, its, 0, hv, Heap.get?_push_size _ rfl⟩
theorem Inv.fresh (I : Inv X pins σ H s) : H s.heap.objs.size = none := I.hok.fresh (Nat.le_refl _)
theorem Inv.lstM (I : Inv X pins σ H s) (hH : H l = some (.lst xs)) : xs.length ≤ sizeLine ∧ ∃ (its : List Value) (n : Nat), Vals xs its ∧ xs.length = its.length ∧ s.heap.get? l = some { cls := .type "list", data := .seq its.toArray n } := by
 obtain ⟨z, its, n, r, e⟩ := I.hok l _ hH
 exact ⟨z, its, n, r, r.length, e⟩
theorem zud {n : Nat} (h : n ≤ sizeLine) : Builtin.List.listTooLong n = false := by
 unfold Builtin.List.listTooLong
 exact decide_eq_false (by omega)
end
section
variable {X : Cx}
def zh5 : V → List V → Hp → VK → Prop := fun x vs H Q => ∃ l xs y, x = .ref l ∧ vs = [y] ∧ H l = some (.lst xs) ∧ xs.length < sizeLine ∧ Q .non (upd H l (.lst (xs ++ [y])))
theorem z4w : MtM X "list.append" zh5 := by
 intro pins s σ H x vs v us Q I rx rv h
 obtain ⟨l, xs, y, rfl, rfl, hH, hz, q⟩ := h
 cases rx
 obtain ⟨u, rfl, ru⟩ := rv.one
 obtain ⟨z, its, n, r, hl, e⟩ := I.lstM hH
 refine call_meets F.slot_list_append ⟨_, e, rfl⟩ F.entry_list_append (F.args_list_append_2 _ _) (PySem.list_append l its.toArray n u (by rw [List.size_toArray]; omega)) ⟨e, ?_⟩
 refine ⟨.non, _, I.lset (its' := its ++ [u]) hH e (by simp) (r.append (.cons ru .nil)) ?_, rfl, q⟩
 rw [List.length_append, List.length_singleton]
 omega
def zh4 : V → List V → Hp → VK → Prop := fun x vs H Q => ∃ l b xs zs, x = .ref l ∧ vs = [.ref b] ∧ H l = some (.lst xs) ∧ H b = some (.lst zs) ∧ xs.length + zs.length ≤ sizeLine ∧ Q .non (upd H l (.lst (xs ++ zs)))
theorem zl2 : MtM X "list.extend" zh4 := by
 intro pins s σ H x vs v us Q I rx rv h
 obtain ⟨l, b, xs, zs, rfl, rfl, hH, hB, hz, q⟩ := h
 cases rx
 obtain ⟨u, rfl, ru⟩ := rv.one
 cases ru
 obtain ⟨z, its, n, r, hl, e⟩ := I.lstM hH
 obtain ⟨z2, its2, n2, r2, hl2, e2⟩ := I.lstM hB
 have hsz : its.toArray.size + its2.toArray.size ≤ sizeLine := by rw [List.size_toArray, List.size_toArray]; omega
 have hlong : ¬ (!its.toArray.isEmpty && Builtin.List.listTooLong (its.toArray.size + its2.toArray.size)) = true := by
  rw [zud hsz, Bool.and_false]
  exact Bool.false_ne_true
 refine call_meets F.slot_list_extend ⟨_, e, rfl⟩ F.entry_list_extend (F.args_list_extend_2 _ _)
  (AutoSeq1.list_extend_list_list_0 l its.toArray n b its2.toArray n2 hlong (by rw [List.size_toArray]; omega) (by omega)) ⟨e, e2, ?_⟩
 refine ⟨.non, _, I.lset (its' := its ++ its2) hH e (by simp) (r.append r2) ?_, rfl, q⟩
 rw [List.length_append]
 omega
def zyf : R2 := fun x y H Q => ∃ l b xs zs, x = .ref l ∧ y = .ref b ∧ H l = some (.lst xs) ∧ H b = some (.lst zs) ∧ xs.length + zs.length ≤ sizeLine ∧ ∀ p, H p = none → Q (.ref p) (upd H p (.lst (xs ++ zs)))
theorem zyw : OpR X (binaryOp .Add) zyf := by
 intro pins s σ H x y v u Q I rx ry h
 obtain ⟨l, b, xs, zs, rfl, rfl, hH, hB, hz, q⟩ := h
 cases rx
 cases ry
 obtain ⟨z, its, n, r, hl, e⟩ := I.lstM hH
 obtain ⟨z2, its2, n2, r2, hl2, e2⟩ := I.lstM hB
 refine PySem.P.add_list e e2 ?_ (by rw [List.size_toArray, List.size_toArray]; omega)
 have ea : its.toArray ++ its2.toArray = (its ++ its2).toArray := by simp
 rw [ea]
 exact ⟨.ref _, _, I.lnew (t' := s.toks) (r.append r2) (by rw [List.length_append]; omega), rfl, q _ I.fresh⟩
def q0c : R2 := fun x y H Q => ∃ l k xs, x = .ref l ∧ y = .int k ∧ H l = some (.lst xs) ∧ -(2 ^ 63) ≤ k ∧ k < 2 ^ 63 ∧ xs.length * k.toNat ≤ sizeLine ∧
 ∀ p, H p = none → Q (.ref p) (upd H p (.lst (List.replicate k.toNat xs).flatten))
theorem zwn {α : Type} (xs : List α) (k : Nat) : (List.replicate k xs).flatten.length = k * xs.length := by
 induction k with
 | zero => simp
 | succ k ih => rw [List.replicate_succ, List.flatten_cons, List.length_append, ih, Nat.succ_mul, Nat.add_comm]
end
section
variable {prog : Program} {w : World} {A : Around} {E : Value → Shared → Prop} {s : Shared}
end
section
variable {X : Cx}
end
end L2
namespace Att
open PySem PySem.W PySem.Calls PyProof.Rows
theorem zhi {P : Params} {h : Heap} : ∀ (ns : List Int) (vs : List Value), WellAll P h vs (ns.map WData.int) → IntsAre vs ns := by
 intro ns
 induction ns with
 | nil =>
  intro vs w
  rw [List.map_nil] at w
  cases w
  exact .nil
 | cons n ns ih =>
  intro vs w
  rw [List.map_cons] at w
  cases w with
  | cons a b =>
   cases a
   exact .cons _ _ (ih _ b)
theorem zqv {l : OpenLaw} {n : Nat} (hn : l.most = some n) {P : Params} {h : Heap} {args : List WData} {vals : List Value}
  (hpre : l.row.toRowW.claim.pre args = true) (hwl : WellAll P h vals args) :
  ∃ a vs ns, vals = [Value.ref a] ∧ args = [WData.list (ns.map WData.int)] ∧ h.get? a = some { cls := .type "list", data := .seq vs.toArray } ∧ IntsAre vs ns ∧ ns.length ≤ n := by
 have hsh : WShape.hasAll [] args [.list .int] = true := (pre_splitW hpre).1
 have hc : l.pre.holds [] { args := args } = true := (pre_splitW hpre).2
 obtain ⟨d, r, rfl, h1, h2⟩ := hasAllW_cons hsh
 obtain rfl := hasAllW_nil h2
 obtain ⟨xs, rfl, h3⟩ := hasW_list h1
 obtain ⟨ns, rfl⟩ := items_int h3
 have hlen : ns.length ≤ n := by
  unfold OpenLaw.pre at hc
  have h4 : (WTm.not (.lt (.lit (.int (n : Int))) (.len (.arg 0)))).holds [] { args := [.list (ns.map .int)] } = true := by
   have h4 := (holds_andW hc).1
   rw [hn] at h4
   exact h4
  have h5 := condW_of h4 (w_not (w_lt w_lit (w_len_list (w_arg rfl))))
  rw [List.length_map] at h5
  refine Nat.le_of_not_lt fun q => ?_
  have q' : (n : Int) < ((ns.length : Nat) : Int) := by omega
  first
   | (rw [decide_eq_true q'] at h5; exact absurd h5 (by decide))
   | (simp at h5; omega)
 cases hwl with
 | cons w1 w2 =>
  cases w2
  cases w1 with
  | list ho hall => exact ⟨_, _, ns, rfl, rfl, ho, zhi ns _ hall, hlen⟩
theorem zr2 (l : OpenLaw) (args : List WData) : l.row.toRowW.claim.post args (.bool true) args = true :=
 postW_of (r := l.row.toRowW) (X := (true == true))
  (show WShape.has [] (.bool true) .bool = true by first | rfl | decide | simp [WShape.has, WShape.arms, WShape.armsAll])
  (show (WTm.eq .res (.lit (.bool true))).value [] { args := args, res := some (.bool true), after := args } = some (.bool (true == true)) from w_eq_bool (w_res rfl) w_lit) rfl
theorem zi2 {l : OpenLaw} {n : Nat} {q : Program} {loose : List Str} {XP : (Str → Option Value) → Heap → Prop} {YP : World → Heap → Prop} {d : DefRec}
  (hn : l.most = some n) (hdf : d.params.defaults = [])
  (call : ∀ (w : World) (s₀ s₁ : Shared) (mg mb : Str → Option Value) (fa : Addr) (o : Obj) (pm cd doc : Value) (a : Addr) (vs : List Value) (ns : List Int),
   Ground q loose [] XP w s₀ mg mb s₁.heap → YP w s₁.heap →
   s₁.heap.get? fa = some o → o.data = .func (docDef d.name d.params d.body d.scope pm cd doc) → s₁.heap.CodeRec cd d.name → mg d.name = some (.ref fa) →
   s₁.heap.get? a = some { cls := .type "list", data := .seq vs.toArray } → IntsAre vs ns → ns.length ≤ n → s₁.gens = #[] →
   codeAny (model l.prog w) callerA (.call (.ref fa) ⟨[.ref a], []⟩) (fun r s' => r = .ok (.ret (.bool true)) ∧ OldK s₁.heap s'.heap ∧ s'.os = s₁.os ∧ AllBare s'.gens) s₁) :
  WalkO q loose XP YP l.row.toRowW d [] (fun f vs => PySem.call f vs) := by
 intro w s₀ s₁ mg mb G Y fa o pm cd doc dV kV ho hd hcd hD hmg hg args vals as hpre hlay hrd hwl hlo
 obtain rfl : dV = .none := Dflts.none hD hdf
 obtain rfl : kV = .none := Dflts.noKw hD
 obtain ⟨a, vs, ns, rfl, rfl, hobj, hints, hlen⟩ := zqv hn hpre hwl
 refine enter_call (codeAny_mono (call w s₀ s₁ mg mb fa o pm cd doc a vs ns G Y ho (fd_plain hd) hcd hmg hobj hints hlen hg) fun r s' hq => ?_)
 obtain ⟨rfl, h2, h3, h4⟩ := hq
 exact ⟨.inl ⟨.bool true, .bool true, [], rfl, fun _ => rfl, .bool true, zr2 l _, fun _ => ⟨List.Pairwise.nil, fun _ hm => (nomatch hm)⟩⟩, h2, h3, h4⟩
section
variable {prog : Program} {w : World} {A : Around} {E : Value → Shared → Prop} {s : Shared} {K : Frag}
def q1k (h : Heap) (L d : Addr) : List (Addr × Obj) := (List.range h.objs.size).filterMap fun a => if a = L ∨ a = d then none else (h.get? a).map fun o => (a, o)
end
end Att
namespace L2
open PySem PySem.Spec PyProof.Rows
theorem zgt : ∀ {vs : List Value} {ns : List Int}, IntsAre vs ns → Vals (ns.map V.int) vs
 | _, _, .nil => .nil
 | _, _, .cons n t h => .cons ⟨t, rfl⟩ (zgt h)
def q1b (H : Hp) : Prop := ∀ b, H b = none ∨ ∃ o xs, H b = some (.frz o (.lst xs))
theorem zuj {P : Program} {w : World} {K : PySem.W.Frag} {mg mb : Str → Option Value} {CX : CXT} {k : Nat} {fa a : Addr} {fd : FuncData} {x : Str} {sp : Sp} {s₁ : Shared} {vs : List Value} {ns : List Int}
  (KX : K.In s₁.heap) (hns : s₁.heap.Ns mainGlobals mg) (hb : s₁.heap.Ns builtinsNs mb) (hbb : ∀ x : Str, x ≠ "__name__" → mb x = bootBuiltins x) (hlim : s₁.heap.NoLimit) (hg : s₁.gens = #[])
  (ha : s₁.heap.get? a = some { cls := .type "list", data := .seq vs.toArray }) (hi : IntsAre vs ns) (hl : ns.length ≤ sizeLine) (hr : Room k callerA)
  (F : ∀ base : Heap, K.In base → base.Ns mainGlobals mg → FnOk P w K mg base CX k fa fd [x] sp) (hbind : ∀ (s : Shared) (u : Value), BindsTo s fd ⟨[u], []⟩ [(x, u)])
  (hsp : ∀ H : Hp, q1b H → SqL K H a (ns.map V.int) → sp [.ref a] H (fun v _ => v = .bl true) fun _ _ _ => False)
  (hCX : ∀ H e s', CX [] H s₁ (fun _ _ _ => False) e s' → False) :
  codeAny (model P w) callerA (.call (.ref fa) ⟨[.ref a], []⟩) (fun r s' => r = .ok (.ret (.bool true)) ∧ OldK s₁.heap s'.heap ∧ s'.os = s₁.os ∧ AllBare s'.gens) s₁ := by
 have rv := zgt hi
 have lenV := hi.length
 have core : ∀ H : Hp, q1b H → SqL K H a (ns.map V.int) → HOk P w H s₁.heap → (∀ b, H b ≠ none → b = a) → (H a ≠ none → K.lookup a = none) →
   codeAny (model P w) callerA (.call (.ref fa) ⟨[.ref a], []⟩) (fun r s' => r = .ok (.ret (.bool true)) ∧ OldK s₁.heap s'.heap ∧ s'.os = s₁.os ∧ AllBare s'.gens) s₁ := by
  intro H hO hS hok hA hK
  have base_of : ∀ {b : Addr} {o : Obj}, s₁.heap.get? b = some o → H b = none → (zn1 s₁.heap H).get? b = some o := fun e n => zoi e n
  have noA : ∀ {b : Addr} {o : Obj} {es : Array DictEntry} {ep : Nat}, s₁.heap.get? b = some o → o.data = .dict es ep → H b = none := fun {b o es ep} e d => by
   cases q : H b with
   | none => rfl
   | some u =>
    have e' : b = a := hA b (by rw [q]; simp)
    subst e'
    rw [ha] at e; cases e
    have d' : Data.seq vs.toArray _ = Data.dict es ep := d
    cases d'
  have nsK : ∀ {b : Addr} {m : Str → Option Value}, s₁.heap.Ns b m → (zn1 s₁.heap H).Ns b m := fun {b m} ⟨o, es, ep, e, d, r⟩ => ⟨o, es, ep, base_of e (noA e d), d, r⟩
  have hKb : K.In (zn1 s₁.heap H) := fun b o e => base_of (KX b o e) (by
   cases q : H b with
   | none => rfl
   | some u =>
    have e' : b = a := hA b (by rw [q]; simp)
    subst e'
    rw [hK (by rw [q]; simp)] at e; cases e)
  have hM : Mod K mg (zn1 s₁.heap H) := ⟨hKb, nsK hns, ⟨mb, nsK hb, hbb⟩, let ⟨mc, h1, h2⟩ := hlim; ⟨mc, nsK h1, h2⟩⟩
  have e0 : Env0 P w K mg (zn1 s₁.heap H) callerA [] s₁ H := ⟨rfl, hM, fun b o e => zrl e, Nat.le_of_eq (zl8 _ _), trivial, fun b hb => absurd (show b ∈ ([] : List Addr) from hb) (by simp), hok, .of_eq hg⟩
  refine codeAny_mono ((F _ hKb (nsK hns)).run callerA [] s₁ H ⟨[.ref a], []⟩ [.ref a] [.ref a] _ _ hr e0 (hbind s₁ (.ref a)) (.cons rfl .nil) (hsp H hO hS)) fun r s' h => ?_
  cases r with
  | error e => exact (hCX H e s' h).elim
  | ok fl =>
   cases fl with
   | next => exact False.elim h
   | brk => exact False.elim h
   | cont => exact False.elim h
   | ret u =>
    obtain ⟨v, H', os, bare, un, hok', r', q⟩ := h
    have q' : v = .bl true := q
    subst q'
    obtain rfl : u = Value.bool true := r'
    refine ⟨rfl, OldK.of_keep fun b o e => ?_, os, bare⟩
    cases q : H b with
    | none => exact un.keep b o e q (by intro z; exact absurd (show b ∈ ([] : List Addr) from z) (by simp)) (by simp)
    | some u =>
     rcases hO b with z | ⟨ob, xs, z⟩
     ·rw [q] at z; cases z
     ·have z2 := un.frzs b ob _ z
      obtain ⟨e1, _⟩ := hok b _ z
      obtain ⟨e2, _⟩ := hok' b _ z2
      rw [e] at e1; cases e1
      exact e2
 cases hk : K.lookup a with
 | some o =>
  have e := KX a o hk
  rw [ha] at e
  cases e
  refine core (fun _ => none) (fun _ => .inl rfl) (.inr ⟨_, vs.toArray, _, hk, rfl, rfl, rfl, by rw [List.size_toArray, lenV]; exact hl, by simpa using rv⟩) (fun b u z => by have z' : (none : Option HO) = some u := z; cases z') (fun b z => absurd rfl z) fun z => absurd rfl z
 | none =>
  refine core (fun b => if b = a then some (.frz { cls := .type "list", data := .seq vs.toArray } (.lst (ns.map V.int))) else none) (fun b => ?_) (.inl (.inr ⟨{ cls := .type "list", data := .seq vs.toArray }, if_pos rfl⟩)) (fun b u z => ?_) (fun b z => ?_) fun _ => hk
  ·by_cases hb : b = a
   ·exact .inr ⟨_, _, if_pos hb⟩
   ·exact .inl (if_neg hb)
  ·by_cases hb : b = a
   ·have z' := (if_pos hb).symm.trans z
    cases z'
    subst hb
    exact ⟨ha, by rw [List.length_map]; exact hl, vs, _, rv, ha⟩
   ·have z' := (if_neg hb).symm.trans z
    cases z'
  ·by_cases hb : b = a
   ·exact hb
   ·exact absurd (if_neg hb) z
end L2
namespace L2
open PySem PySem.Spec PyProof.Rows
abbrev KOf {K : PySem.W.Frag} {h : Heap} (_ : K.In h) : PySem.W.Frag := K
theorem q0m {l : PySem.W.OpenLaw} {n k : Nat} {q : Program} {loose : List Str} {XP : (Str → Option Value) → Heap → Prop} {YP : World → Heap → Prop} {d : DefRec} {K : Params → PySem.W.Frag} {CX : World → CXT} {sp : World → Sp} {x : Str}
  (hn : l.most = some n) (hn2 : n ≤ sizeLine) (hdf : d.params.defaults = []) (hr : Room k callerA)
  (hY : ∀ (w : World) (h : Heap), YP w h → (K w.params).In h)
  (F : ∀ (w : World) (mg : Str → Option Value) (fa : Addr) (h : Heap), (K w.params).In h → h.Ns mainGlobals mg → mg d.name = some (.ref fa) →
   ∃ fd : FuncData, (∀ (s : Shared) (u : Value), BindsTo s fd ⟨[u], []⟩ [(x, u)]) ∧
    ∀ base : Heap, (K w.params).In base → base.Ns mainGlobals mg → FnOk l.prog w (K w.params) mg base (CX w) k fa fd [x] (sp w))
  (hsp : ∀ (w : World) (H : Hp) (a : Addr) (ns : List Int), ns.length ≤ n → q1b H → SqL (K w.params) H a (ns.map V.int) → sp w [.ref a] H (fun v _ => v = .bl true) fun _ _ _ => False)
  (hCX : ∀ (w : World) (H : Hp) (s : Shared) (e : Value) (s' : Shared), CX w [] H s (fun _ _ _ => False) e s' → False) :
  PySem.W.WalkO q loose XP YP l.row.toRowW d [] (fun f vs => PySem.call f vs) := by
 refine Att.zi2 hn hdf fun w s₀ s₁ mg mb fa o pm cd doc a vs ns G Y ho hd hcd hmg hobj hints hlen hg => ?_
 have KX := hY w _ Y
 obtain ⟨fd, hb, hF⟩ := F w mg fa _ KX G.T.g hmg
 exact zuj KX G.T.g G.T.b G.T.builtins G.T.nolimit hg hobj hints (Nat.le_trans hlen hn2) hr hF hb (fun H hO hS => hsp w H a ns hlen hO hS) fun H e s' => hCX w H s₁ e s'
end L2
namespace L2
open PySem PySem.Spec PyProof.Rows
def defArgs (s : Stmt) : Arguments := match s with
 | .FunctionDef _ a _ _ _ _ _ _ _ _ => a
 | _ => { posonlyargs := [], args := [], vararg := none, kwonlyargs := [], kw_defaults := [], kwarg := none, defaults := [] }
def defBody (s : Stmt) : List Stmt := match s with
 | .FunctionDef _ _ b _ _ _ _ _ _ _ => b
 | _ => []
def defScope (s : Stmt) : Scope := match s with
 | .FunctionDef _ _ _ _ _ _ sc _ _ _ => sc
 | _ => { kind := .function, names := [], isGenerator := false, isCoroutine := false }
abbrev CX0 : CXT := fun _ _ _ _ _ _ => False
abbrev E0 : XK := fun _ _ _ => False
structure Fun (K : PySem.W.Frag) (x qual : Str) (st : Stmt) (f : Addr) (fd : FuncData) : Prop where
 ex : ∃ (oc : Value) (od : Option Addr) (kV doc pm : Value) (an : Option Addr) (cdv ct : Value) (osl : Array (Option Value)),
  fd = PySem.W.fnOf x qual (defArgs st) (defBody st) (defScope st) .none kV doc pm an cdv ct ∧ K.lookup f = some ⟨oc, od, .func fd, osl⟩ ∧ PySem.W.codeIn K cdv qual = true
 kp : PySem.W.keepIn K (.ref f) = true
section
variable {P : Program} {w : World} {K : PySem.W.Frag} {mg : Str → Option Value} {base : Heap}
theorem Fun.ok {x qual : Str} {st : Stmt} {f : Addr} {fd : FuncData} {N ps : List Str} {k : Nat} {sp : Sp} (F : Fun K x qual st f fd) (S : FnScope N ps (defScope st)) (len : ∀ vs H Q E, sp vs H Q E → vs.length = ps.length)
  (hbody : ∀ (cdv : Value) (A : Around) (outer : List Env) (s : Shared) (H : Hp) (vs : List V) (Q : VK) (E : XK), Room k (A.deeper (envOfC qual (defScope st) s.heap.objs.size f cdv)) → sp vs H Q E →
   ∃ t, PSs (z8v CX0 P w K mg base N qual (defScope st) f cdv A outer s H E).nox (defBody st) t ∧ t { nx := fun _ H' => Q .non H', rt := Q } (start N vs) H) : FnOk P w K mg base CX0 (k + 1) f fd ps sp := by
 obtain ⟨oc, od, kV, doc, pm, an, cdv, ct, osl, rfl, lk, hcd⟩ := F.ex
 refine zur lk hcd S len fun A outer s H vs Q E hr hsp => ?_
 obtain ⟨t, h, q⟩ := hbody cdv A outer s H vs Q E hr hsp
 exact ⟨t, h.nox, q⟩
theorem Fun.binds {x qual : Str} {st : Stmt} {f : Addr} {fd : FuncData} {ps : List Str} (F : Fun K x qual st f fd)
  (h : ∀ (kV doc pm : Value) (an : Option Addr) (cdv ct : Value) (us : List Value), us.length = ps.length → bindArgs (PySem.W.fnOf x qual (defArgs st) (defBody st) (defScope st) .none kV doc pm an cdv ct) ⟨us, []⟩ = pure (ps.zip us)) : Binds K fd ps [] := by
 obtain ⟨oc, od, kV, doc, pm, an, cdv, ct, osl, rfl, lk, hcd⟩ := F.ex
 exact .all (h kV doc pm an cdv ct)
theorem z3y {x qual : Str} {st : Stmt} {f : Addr} {oc : Value} {od an : Option Addr} {osl : Array (Option Value)} {kV doc pm cdv ct : Value} (l : K.lookup f = some ⟨oc, od, .func (PySem.W.fnOf x qual (defArgs st) (defBody st) (defScope st) .none kV doc pm an cdv ct), osl⟩)
  (c : PySem.W.codeIn K cdv qual = true) (k : PySem.W.keepIn K (.ref f) = true) : Fun K x qual st f (PySem.W.fnOf x qual (defArgs st) (defBody st) (defScope st) .none kV doc pm an cdv ct) := ⟨⟨oc, od, kV, doc, pm, an, cdv, ct, osl, rfl, l, c⟩, k⟩
end
theorem z4h {n : Nat} (h : n ≤ 1000) : n < sizeLine := Nat.lt_of_le_of_lt h (by decide)
section
variable {X : Cx}
theorem pv (i : Nat) {x : Str} {pos : Pos} (hN : X.N[i]? = some x := by rfl) (hv : Vis X.env.scope x := by first | exact Or.inl rfl | exact Or.inr (Or.inl rfl) | exact Or.inr (Or.inr rfl)) (hd : (x == ("__debug__" : Str)) = false := by decide)
  (hcd : (x == ("__classdict__" : Str)) = false := by decide) : PE X (.Name x pos) (zqk i) := z00 hN hv hd hcd
end
def Same (H H' : Hp) : Prop := ∀ b o, H b = some o → H' b = some o
theorem Same.refl (H : Hp) : Same H H := fun _ _ h => h
theorem Same.trans {H H1 H2 : Hp} (a : Same H H1) (b : Same H1 H2) : Same H H2 := fun c o h => b c o (a c o h)
theorem Same.free {H H' : Hp} (e : Same H H') {l : Addr} (h : H' l = Option.none) : H l = Option.none := by
 cases q : H l with
 | none => rfl
 | some o =>
  rw [e l o q] at h
  cases h
theorem Same.seq {K : PySem.W.Frag} {H H' : Hp} {a : Addr} {xs : List V} (e : Same H H') (h : SqL K H a xs) : SqL K H' a xs := by
 rcases h with (h | ⟨o, h⟩) | h
 ·exact .inl (.inl (e _ _ h))
 ·exact .inl (.inr ⟨o, e _ _ h⟩)
 ·exact .inr h
end L2
set_option Elab.async false
set_option linter.all false
set_option maxRecDepth 100000
namespace L2
open PySem PySem.Spec PyProof.Rows
theorem zng (env : Env) : ∀ (names : List (Str × NameKind)) (acc : List (Str × Addr)), (∀ y ∈ names, y.2 = .free → ∃ c, env.cells.lookup y.1 = some c) → (∀ x c, acc.lookup x = some c → env.cells.lookup x = some c) →
  ∃ cl, (forIn names acc fun (p : Str × NameKind) (r : List (Str × Addr)) => (match p with | (name, kind) => if (kind == NameKind.free) = true then (do let c ← cellOf env name; pure (ForInStep.yield ((name, c) :: r))) else pure (ForInStep.yield r)) : Sem (List (Str × Addr))) = pure cl ∧
   (∀ x c, cl.lookup x = some c → env.cells.lookup x = some c) ∧ (∀ x, (∃ c, acc.lookup x = some c) → ∃ c, cl.lookup x = some c) ∧ (∀ y ∈ names, y.2 = .free → ∃ c, cl.lookup y.1 = some c)
 | [], acc, _, ha => ⟨acc, by simp, ha, fun _ h => h, fun _ h => absurd h (by simp)⟩
 | (n, k) :: r, acc, hn, ha => by
  by_cases hk : k = .free
  ·obtain ⟨c, hc⟩ := hn (n, k) List.mem_cons_self hk
   have ha' : ∀ x c', ((n, c) :: acc).lookup x = some c' → env.cells.lookup x = some c' := fun x c' h => by
    by_cases hx : x = n
    ·subst hx
     rw [List.lookup_cons_self] at h
     cases h; exact hc
    ·have hx' : (x == n) = false := by simpa using hx
     simp only [List.lookup_cons, hx'] at h
     exact ha x c' h
   obtain ⟨cl, e, p1, p2, p3⟩ := zng env r ((n, c) :: acc) (fun y hy => hn y (List.mem_cons_of_mem _ hy)) ha'
   refine ⟨cl, ?_, p1, fun x ⟨c', hc'⟩ => p2 x ?_, fun y hy hf => ?_⟩
   ·have hco : cellOf env n = pure c := by unfold cellOf; rw [hc]
    rw [List.forIn_cons]
    subst hk
    simp only [beq_self_eq_true, if_true, hco, pure_bind]
    exact e
   ·by_cases hx : x = n
    ·exact ⟨c, by subst hx; rw [List.lookup_cons_self]⟩
    ·have hx' : (x == n) = false := by simpa using hx
     exact ⟨c', by simp only [List.lookup_cons, hx']; exact hc'⟩
   ·rcases List.mem_cons.mp hy with rfl | hy
    ·exact p2 _ ⟨c, by rw [List.lookup_cons_self]⟩
    ·exact p3 y hy hf
  ·obtain ⟨cl, e, p1, p2, p3⟩ := zng env r acc (fun y hy => hn y (List.mem_cons_of_mem _ hy)) ha
   refine ⟨cl, ?_, p1, p2, fun y hy hf => ?_⟩
   ·have hb : (k == NameKind.free) = false := by simpa using hk
    rw [List.forIn_cons]
    simp only [hb, Bool.false_eq_true, if_false, pure_bind]
    exact e
   ·rcases List.mem_cons.mp hy with rfl | hy
    ·exact absurd hf hk
    ·exact p3 y hy hf
theorem zx9 {scope : Scope} {env : Env} (h : ∀ y ∈ scope.names, y.2 = .free → ∃ c, env.cells.lookup y.1 = some c) :
  ∃ cl, closureFor scope env = pure cl ∧ (∀ x c, cl.lookup x = some c → env.cells.lookup x = some c) ∧ (∀ y ∈ scope.names, y.2 = .free → ∃ c, cl.lookup y.1 = some c) := by
 obtain ⟨cl, e, p1, _, p3⟩ := zng env scope.names [] h (fun x c q => by simp at q)
 refine ⟨cl, ?_, p1, p3⟩
 unfold closureFor
 simp only [bind_pure]
 exact e
theorem z8h {env : Env} : ∀ {names : List (Str × NameKind)} {x : Str} {k : NameKind}, (names.map fun (n, k) => if (k == NameKind.free && env.scope.kind == .function && env.kindOf n == some .cell) then (n, NameKind.cell) else (n, k)).lookup x = some k →
  (∀ y ∈ names, y.2 ≠ .cell) → k = .cell ∨ k = .free → names.lookup x = some .free
 | [], _, _, h, _, _ => by simp at h
 | (n, k0) :: r, x, k, h, hc, hk => by
  have ih := @z8h env r x k
  rw [List.map_cons] at h
  cases hx : x == n with
  | true =>
   have hn : k0 ≠ .cell := hc (n, k0) List.mem_cons_self
   simp only [List.lookup_cons, hx]
   by_cases hcnd : (k0 == NameKind.free && env.scope.kind == .function && env.kindOf n == some .cell) = true
   ·have : k0 = .free := by
     simp only [Bool.and_eq_true, beq_iff_eq] at hcnd
     exact hcnd.1.1
    rw [this]
   ·dsimp only at h
    rw [if_neg hcnd] at h
    simp only [List.lookup_cons, hx] at h
    have h : k0 = k := by simpa using h
    subst h
    rcases hk with hk | hk
    ·exact absurd hk hn
    ·rw [hk]
  | false =>
   simp only [List.lookup_cons, hx]
   refine ih ?_ (fun y hy => hc y (List.mem_cons_of_mem _ hy)) hk
   by_cases hcnd : (k0 == NameKind.free && env.scope.kind == .function && env.kindOf n == some .cell) = true
   ·dsimp only at h
    rw [if_pos hcnd] at h
    simp only [List.lookup_cons, hx] at h; exact h
   ·dsimp only at h
    rw [if_neg hcnd] at h
    simp only [List.lookup_cons, hx] at h; exact h
def z6m (X : Cx) (N' : List Str) (scope : Scope) (cl : List (Str × Addr)) (C : Addr) (s₀ : Shared) (H₀ : Hp) (ex : List Addr) : Cx :=
 { X with N := N', s₀ := s₀, H₀ := H₀, env := compEnvC scope cl C X.env, outer := X.stack, stack := X.stack, ex := ex, fn := fun _ => false, pn := [], xe := fun _ _ => False }
def subσ (mp : List (Option Nat)) (σ : St) : St := mp.map fun o => match o with | none => none | some i => (σ[i]?).getD none
def compOk (N : List Str) (on inn : List (Str × NameKind)) (N' : List Str) (mp : List (Option Nat)) : Bool :=
 mp.length == N'.length && (N'.zip mp).all fun p => match p.2 with
  | none => true
  | some i => N[i]? == some p.1 && inn.lookup p.1 == some .free && on.lookup p.1 == some .cell
def PIf (X : Cx) (ifs : List Expr) (t : TT) : Prop :=
 ∀ (pins : List (Addr × Obj)) (s : Shared) (σ : St) (H : Hp) (Q : Bool → Hp → Prop), Inv X pins σ H s → t σ H Q →
  wpAny (model X.prog X.w) X.A (forIn ifs true fun c r => if r = true then do let ok ← isTrue c X.env (eval c X.env); pure (ForInStep.yield ok) else pure (ForInStep.yield r)) (TP X pins σ Q) X.xe s
def zy3 : TT := fun _ H Q => Q true H
theorem zjg {X : Cx} : PIf X [] zy3 := fun pins s σ H Q I h => wpAny_tests_nil ⟨H, I, h⟩
theorem zr4 {X : Cx} {c : Expr} {t : TT} (h : PT X c t) : PIf X [c] t := fun pins s σ H Q I q => wpAny_tests_one (h pins s σ H Q I q)
theorem zsy {prog : Program} {w : World} {A : Around} {s : Shared} {elt target iter : PySem.Expr} {ifs : List PySem.Expr} {scope : Scope} {pos : Pos} {it acc : Value} {env : Env} {R : Result → Shared → Prop} (I : Nat → Shared → Prop)
  (turn : ∀ n s, I n s → wpAny (model prog w) A (pyNext it) (fun r s₁ => match r with
   | none => R (.ok .next) s₁
   | some v => wpAny (model prog w) A (letOwnedTupleGo target it v) (fun _ s₀ => wpAny (model prog w) A (assign target env v) (fun _ s₂ =>
     wpAny (model prog w) A (forIn ifs true fun c r => if r = true then do let ok ← isTrue c env (eval c env); pure (ForInStep.yield ok) else pure (ForInStep.yield r)) (fun ok s₃ => if ok = true then wpAny (model prog w) A (eval elt env) (fun x s₄ =>
      wpAny (model prog w) A (call (.builtin "list.append") [acc, x]) (fun _ s₅ => ∃ m, m < n ∧ I m s₅) (fun _ _ => False) s₄) (fun _ _ => False) s₃
      else ∃ m, m < n ∧ I m s₃) (fun _ _ => False) s₂)
     (fun _ _ => False) s₀) (fun _ _ => False) s₁) (fun _ _ => False) s)
  (n : Nat) (h : I n s) : codeAny (model prog w) A (.compLoop (.ListComp elt [⟨target, iter, ifs, 0⟩] scope pos) 0 it acc env) R s := by
 refine codeAny_loop rfl I (fun n s hI => ?_) n h
 show wpAny _ A ((compTurn (.ListComp elt [⟨target, iter, ifs, 0⟩] scope pos) 0 it acc env).onRaise (fun x => do noteFrame x env; theTreesLotGoes x)) _ _ s
 refine wpAny_noted ?_
 rw [compTurn_list]
 refine wpAny_bind (wpAny_standAt (wpAny_bind (wpAny_mono (turn n s hI) (fun r s₁ h₁ => ?_) fun _ _ h' => h'.elim)))
 cases r with
 | none => exact wpAny_pure h₁
 | some v =>
  refine wpAny_bind (wpAny_mono h₁ (fun _ s₀ h₀' => ?_) fun _ _ h' => h'.elim)
  refine wpAny_bind (wpAny_mono h₀' (fun _ s₂ h₂ => ?_) fun _ _ h' => h'.elim)
  refine wpAny_bind (wpAny_mono h₂ (fun okb s₃ h₃ => ?_) fun _ _ h' => h'.elim)
  cases okb with
  | false => exact wpAny_pure ⟨rfl, h₃⟩
  | true => exact wpAny_bind (wpAny_bind (wpAny_mono h₃ (fun x s₄ h₄ => wpAny_bind (wpAny_mono h₄ (fun _ s₅ h₅ => wpAny_pure (wpAny_pure ⟨rfl, h₅⟩)) fun _ _ h' => h'.elim)) fun _ _ h' => h'.elim))
theorem Inv.track {X : Cx} {pins : List (Addr × Obj)} {σ : St} {H : Hp} {s : Shared} {a : Addr} {o : HO} (I : Inv X pins σ H s) (hn : H a = none) (f : FpOk X pins H a) (new : ObjOk X.prog X.w (upd H a o) s.heap a o) : Inv X pins σ (upd H a o) s := by
 obtain ⟨_, f1, f2, f3, f4, f5⟩ := f
 have na : ∀ b u, H b = some u → b ≠ a := fun b u e => z0h e hn
 have J := I.step (g' := s.gens) (t' := s.toks) (d' := s.drawn) (ch := [a]) (h' := s.heap) (H' := upd H a o) (fun b hb => by
   have e : b = a := by simpa using hb
   subst e
   exact ⟨f3, f1, f4, f5⟩) (fun b o _ _ _ e _ => e) (fun b o _ _ _ e _ => ⟨o.slots, e⟩) (fun b o hb _ n => by rw [z0e (by simpa using hb)]; exact n) (fun b o _ e => ⟨o, e⟩)
  (fun b xs e => by rw [z0e (na b _ e)]; exact e) (fun b o u e => by rw [z0e (na b _ e)]; exact e) (fun b ps e => ⟨#[], by rw [z0e (na b _ e), e]; simp⟩) (fun m hm => hm) (fun b u e => by
   by_cases hb : b = a
   ·subst hb; rw [z01] at e; cases e; exact new
   ·rw [z0e hb] at e
    exact (I.hok b u e).stay (fun c v _ q => q) (fun c q => by rw [z0e (na c _ q)]; exact q) fun c xs q => by rw [z0e (na c _ q)]; exact q) I.bare
 exact J
def zkg (wi : TI) (g : TG) (tt : TT) (te : TE) (mp : List (Option Nat)) : TE := fun σ H Q => wi σ H fun J H1 => ∃ W : Nat → Nat → List V → St → Hp → Prop, (∃ m, W 0 m [] (subσ mp σ) H1) ∧ ∀ i m ys σ H, W i m ys σ H →
 (J.stop i H ∧ ys.length ≤ sizeLine ∧ ∀ p, H p = none → Q (.ref p) (upd H p (.lst ys))) ∨ (J.go i H ∧ ys.length < sizeLine ∧ ∃ N : List V → St → Hp → Prop, (∀ ys' σ' H', N ys' σ' H' → ∃ m', m' < m ∧ W (i + 1) m' ys' σ' H') ∧ ∀ x H', J.yld i H x H' → g x σ H' fun σ2 H2 => tt σ2 H2 fun b H3 =>
  if b = true then te σ2 H3 (fun v H4 => N (ys ++ [v]) σ2 H4) else N ys σ2 H3)
structure CompS (X : Cx) (N' : List Str) (scope : Scope) (mp : List (Option Nat)) : Prop where
 kind : scope.kind = .function
 nocell : ∀ y ∈ scope.names, y.2 ≠ .cell
 locs : ∀ y ∈ scope.names, y.2 = .local → scope.names.lookup y.1 = some .local
 frees : ∀ y ∈ scope.names, y.2 = .free → X.env.scope.names.lookup y.1 = some .cell
 ok : compOk X.N X.env.scope.names scope.names N' mp = true
theorem zq3 {N : List Str} {on inn : List (Str × NameKind)} {N' : List Str} {mp : List (Option Nat)} (h : compOk N on inn N' mp = true) : mp.length = N'.length ∧ ∀ (j : Nat) (x : Str) (i : Nat), N'[j]? = some x → mp[j]? = some (some i) → N[i]? = some x ∧ inn.lookup x = some .free ∧ on.lookup x = some .cell := by
 unfold compOk at h
 rw [Bool.and_eq_true] at h
 obtain ⟨h1, h2⟩ := h
 refine ⟨by simpa using h1, fun j x i e1 e2 => ?_⟩
 have hm : (x, some i) ∈ N'.zip mp := by
  refine List.mem_of_getElem? (i := j) ?_
  rw [List.getElem?_zip_eq_some]
  exact ⟨e1, e2⟩
 have q := List.all_eq_true.mp h2 _ hm
 simp only [Bool.and_eq_true, beq_iff_eq] at q
 exact ⟨q.1.1, q.1.2, q.2⟩
theorem subσ_get {mp : List (Option Nat)} {σ : St} {j : Nat} {v : V} (h : (subσ mp σ)[j]? = some (some v)) : ∃ i, mp[j]? = some (some i) ∧ σ[i]? = some (some v) := by
 unfold subσ at h
 rw [List.getElem?_map] at h
 cases e : mp[j]? with
 | none => rw [e] at h; cases h
 | some o =>
  rw [e] at h
  cases o with
  | none => simp at h
  | some i =>
   refine ⟨i, rfl, ?_⟩
   cases e2 : σ[i]? with
   | none => simp [e2] at h
   | some z =>
    simp [e2] at h
    rw [h]
section
variable {X : Cx} {pins : List (Addr × Obj)} {σ : St} {H : Hp}
theorem zsz {elt tg iter : Expr} {ifs : List Expr} {scope : Scope} {pos : Pos} {N' : List Str} {mp : List (Option Nat)} {g : TG} {tt : TT} {te : TE} {s₂ : Shared} {it : Addr} {fp : List Addr} {tn : Nat → Heap → Prop} {J : It} {cl : List (Str × Addr)}
  {Qe : V → Hp → Prop} {RR : Value → Addr → Result → Shared → Prop} {E : Value → Shared → Prop} (hc : X.calm = true) (S : CompS X N' scope mp)
  (hcl : ∀ x c, cl.lookup x = some c → X.env.cells.lookup x = some c) (hcf : ∀ y ∈ scope.names, y.2 = .free → ∃ c, cl.lookup y.1 = some c)
  (hg : ∀ C s₀ H₀ ex, PG (z6m X N' scope cl C s₀ H₀ ex) tg g) (ht : ∀ C s₀ H₀ ex, PIf (z6m X N' scope cl C s₀ H₀ ex) ifs tt) (he : ∀ C s₀ H₀ ex, PE (z6m X N' scope cl C s₀ H₀ ex) elt te)
  (I : Inv X pins σ H s₂) (T : Turn X.prog X.w X.K tg J fp it tn) (st : tn 0 s₂.heap) (hf : ∀ b ∈ fp, FpOk X pins H b)
  (hw : ∃ W : Nat → Nat → List V → St → Hp → Prop, (∃ m, W 0 m [] (subσ mp σ) H) ∧ ∀ i m ys σ H, W i m ys σ H →
   (J.stop i H ∧ ys.length ≤ sizeLine ∧ ∀ p, H p = none → Qe (.ref p) (upd H p (.lst ys))) ∨ (J.go i H ∧ ys.length < sizeLine ∧ ∃ N : List V → St → Hp → Prop, (∀ ys' σ' H', N ys' σ' H' → ∃ m', m' < m ∧ W (i + 1) m' ys' σ' H') ∧ ∀ x H', J.yld i H x H' → g x σ H' fun σ2 H2 => tt σ2 H2 fun b H3 =>
  if b = true then te σ2 H3 (fun v H4 => N (ys ++ [v]) σ2 H4) else N ys σ2 H3))
  (hR : ∀ (D C : Addr) (H' : Hp) (s' : Shared), Inv X pins σ H' s' → Qe (.ref D) H' → (∃ m, s'.heap.Ns C m) → FpOk X pins H' C → RR (.ref D) C (.ok .next) s') :
  wpAny (model X.prog X.w) X.A (newList []) (fun acc s₃ => wpAny (model X.prog X.w) X.A (newFunctionEnv scope X.env.globals cl [] X.env.qual none .none (some X.env)) (fun cenv s₄ =>
   codeAny (model X.prog X.w) X.A (.compStart (.ListComp elt [⟨tg, iter, ifs, 0⟩] scope pos) 0 (.ref it) acc { cenv with scope := relabel scope X.env }) (RR acc cenv.locals) s₄) E s₃) E s₂ := by
 obtain ⟨W, ⟨m0, w0⟩, turn⟩ := hw
 refine wpAny_newObj_type (wpAny_newFunctionEnv S.nocell (by intro y hy; simp at hy) (fun h₁ hns₁ hsb₁ => ?_) S.kind)
 dsimp only at hns₁ hsb₁ ⊢
 generalize hH2 : s₂.heap.push { cls := .type "list", dict := none, data := .seq ([] : List Value).toArray } = H2 at hns₁ hsb₁ ⊢
 have hCs : H2.objs.size = s₂.heap.objs.size + 1 := by rw [← hH2, Heap.size_push]
 have I3 : Inv X pins σ H { s₂ with heap := H2 } := by
  rw [← hH2]
  exact I.kept (t' := s₂.toks) fun b o e => Heap.get?_push_of_some _ e
 have k1 : ∀ b u, H2.get? b = some u → h₁.get? b = some u := fun b u e => hsb₁.extBut b u (Nat.ne_of_lt (Heap.lt_size e)) (Heap.get?_push_of_some _ e)
 have accOk : FpOk X pins H s₂.heap.objs.size := I.fpOk (Nat.le_refl _) (I.hok.fresh (Nat.le_refl _))
 have COk : FpOk X pins H H2.objs.size := I3.fpOk (Nat.le_refl _) (I3.hok.fresh (Nat.le_refl _))
 have fpLt : ∀ b ∈ fp, b < s₂.heap.objs.size := fun b hb => let ⟨o, e, _⟩ := T.obj 0 _ st b hb; Heap.lt_size e
 have accNf : s₂.heap.objs.size ∉ fp := fun z => absurd (fpLt _ z) (Nat.lt_irrefl _)
 have accNC : s₂.heap.objs.size ≠ H2.objs.size := by rw [hCs]; exact Nat.ne_of_lt (Nat.lt_succ_self _)
 have exAll : ∀ b ∈ s₂.heap.objs.size :: fp, FpOk X pins H b := fun b hb => (List.mem_cons.mp hb).elim (fun e => e ▸ accOk) (hf b)
 have exNC : ∀ b ∈ s₂.heap.objs.size :: fp, b ≠ H2.objs.size := fun b hb => (List.mem_cons.mp hb).elim (fun e => e ▸ accNC) fun z => Nat.ne_of_lt (Nat.lt_trans (fpLt b z) (by rw [hCs]; exact Nat.lt_succ_self _))
 have stkN : ∀ b, FpOk X pins H b → b ∉ frs X.stack := fun b f z => (List.mem_cons.mp (I.stkSub b z)).elim f.2.1 f.2.2.1
 have ok' : (z6m X N' scope cl H2.objs.size { s₂ with heap := H2 } H (s₂.heap.objs.size :: fp)).Ok := by
  refine ⟨I.ok.mod, S.kind, I.ok.glob, I.ok.blt, Nat.le_refl _, fun x y c h1 h2 => I.ok.inj x y c (hcl x c h1) (hcl y c h2), fun x hx => ?_, fun x c hx => absurd hx (by show ¬ false = true; decide), I.ok.hd, I.ok.frames, .inl rfl,
   fun b hb => ⟨exNC b hb, fun x c e => (exAll b hb).2.2.2.2.1 x c (hcl x c e)⟩, fun b o e => I3.bs b o e, Nat.le_trans I.ok.bsz I3.sz, fun b o e hb => ?_, fun b hb => stkN b (exAll b hb), I3.stack, I3.stkFree⟩
  ·have hx' : (relabel scope X.env).names.lookup x = some .cell ∨ (relabel scope X.env).names.lookup x = some .free := hx
   have hfree : scope.names.lookup x = some .free := by
    rcases hx' with z | z
    ·exact z8h z S.nocell (.inl rfl)
    ·exact z8h z S.nocell (.inr rfl)
   exact hcf (x, .free) (PySem.mem_of_lookup hfree) rfl
  ·rcases (exAll b hb).2.2.2.1 with z | z
   ·exact I.ok.noex b o e z
   ·exact absurd (Nat.lt_of_lt_of_le (Heap.lt_size e) (Nat.le_trans I.ok.bsz z)) (Nat.lt_irrefl _)
 obtain ⟨hml, hmp⟩ := zq3 S.ok
 let XC := z6m X N' scope cl H2.objs.size { s₂ with heap := H2 } H (s₂.heap.objs.size :: fp)
 have J4 : Inv (z6m X N' scope cl H2.objs.size { s₂ with heap := H2 } H (s₂.heap.objs.size :: fp)) [] (subσ mp σ) H { s₂ with heap := h₁, toks := s₂.toks + ([] : List (Str × Value)).length } := by
  refine ⟨ok', rfl, I.bare, Un.kept k1, ⟨_, hns₁, fun j x v e1 e2 e3 => ?_⟩, fun x c e => ?_, COk.1, fun x c e => I.freeC x c (hcl x c e), fun p hp => absurd (show p ∈ ([] : List (Addr × Obj)) from hp) (by simp), I3.hok.kept k1, by show (subσ mp σ).length = N'.length; unfold subσ; rw [List.length_map, hml]⟩
  ·obtain ⟨i, q1, q2⟩ := subσ_get e2
   obtain ⟨n1, n2, n3⟩ := hmp j x i e1 q1
   obtain ⟨m, hn, hl⟩ := I3.loc
   obtain ⟨u, ru, lk⟩ := hl i x v n1 q2 (.inr (.inl n3))
   refine ⟨u, ru, ?_⟩
   rcases lk with ⟨z, _⟩ | ⟨_, c, ec, z⟩
   ·have z' : X.env.scope.names.lookup x = some .local := z
    rw [n3] at z'; cases z'
   ·obtain ⟨c', ec'⟩ := hcf (x, .free) (PySem.mem_of_lookup n2) rfl
    have e4 := hcl x c' ec'
    rw [ec] at e4; cases e4
    refine .inr ⟨?_, c, ec', ?_⟩
    ·have z3 : (relabel scope X.env).names.lookup x = some .local ∨ (relabel scope X.env).names.lookup x = some .cell ∨ (relabel scope X.env).names.lookup x = some .free := e3
     rcases z3 with z3 | z3 | z3
     ·exfalso
      have : ∀ (names : List (Str × NameKind)), names.lookup x = some .free → (names.map fun (n, k) => if (k == NameKind.free && X.env.scope.kind == .function && X.env.kindOf n == some .cell) then (n, NameKind.cell) else (n, k)).lookup x ≠ some .local := by
       intro names
       induction names with
       | nil => intro h; simp at h
       | cons p r ih =>
        obtain ⟨n, k⟩ := p
        intro h
        cases hx : x == n with
        | true =>
         simp only [List.lookup_cons, hx] at h
         cases h
         rw [List.map_cons]
         dsimp only
         split <;> simp [List.lookup_cons, hx]
        | false =>
         simp only [List.lookup_cons, hx] at h
         rw [List.map_cons]
         dsimp only
         split <;> (simp only [List.lookup_cons, hx]; exact ih h)
      exact this scope.names n2 z3
     ·exact .inl z3
     ·exact .inr z3
    ·obtain ⟨o, ho, hd⟩ := z
     exact ⟨o, k1 _ _ ho, hd⟩
  ·obtain ⟨v, o, ho, hd⟩ := I3.cell x c (hcl x c e)
   exact ⟨v, o, k1 _ _ ho, hd⟩
 have acc4 : h₁.get? s₂.heap.objs.size = some { cls := .type "list", data := .seq ([] : List Value).toArray 0 } := k1 _ _ (by rw [← hH2]; exact Heap.get?_push_size _ rfl)
 have st4 : tn 0 h₁ := T.keep _ _ _ st fun b _ o e => k1 b o (by rw [← hH2]; exact Heap.get?_push_of_some _ e)
 have fp4 : ∀ {H' : Hp}, (∀ b ∈ fp, H' b = none) → ∀ b ∈ fp, FpOk (z6m X N' scope cl H2.objs.size { s₂ with heap := H2 } H (s₂.heap.objs.size :: fp)) [] H' b := fun hn b hb =>
  ⟨hn b hb, exNC b (List.mem_cons_of_mem _ hb), stkN b (hf b hb), .inl (List.mem_cons_of_mem _ hb), fun x c e => (hf b hb).2.2.2.2.1 x c (hcl x c e), fun p hp => absurd (show p ∈ ([] : List (Addr × Obj)) from hp) (by simp)⟩
 have acc5 : ∀ {H' : Hp}, H' s₂.heap.objs.size = none → FpOk (z6m X N' scope cl H2.objs.size { s₂ with heap := H2 } H (s₂.heap.objs.size :: fp)) [] H' s₂.heap.objs.size := fun hn =>
  ⟨hn, accNC, stkN _ accOk, .inl List.mem_cons_self, fun x c e => accOk.2.2.2.2.1 x c (hcl x c e), fun p hp => absurd (show p ∈ ([] : List (Addr × Obj)) from hp) (by simp)⟩
 have loop : ∀ s₃ : Shared, s₃ = { s₂ with heap := h₁, toks := s₂.toks + ([] : List (Str × Value)).length } →
   codeAny (model X.prog X.w) X.A (.compLoop (.ListComp elt [⟨tg, iter, ifs, 0⟩] scope pos) 0 (.ref it) (.ref s₂.heap.objs.size) (compEnvC scope cl H2.objs.size X.env)) (RR (.ref s₂.heap.objs.size) H2.objs.size) s₃ := by
  rintro s₃ rfl
  refine zsy (fun n s' => ∃ i σ' H' ys its k, Inv (z6m X N' scope cl H2.objs.size { s₂ with heap := H2 } H (s₂.heap.objs.size :: fp)) [] σ' H' s' ∧ tn i s'.heap ∧ (∀ b ∈ fp, H' b = none) ∧ H' s₂.heap.objs.size = none ∧
   Vals ys its ∧ s'.heap.get? s₂.heap.objs.size = some { cls := .type "list", data := .seq its.toArray k } ∧ W i n ys σ' H') ?_ m0 ⟨0, subσ mp σ, H, [], [], 0, J4, st4, fun b hb => (hf b hb).1, accOk.1, .nil, acc4, w0⟩
  rintro n s5 ⟨i, σ5, H5, ys, its, k, J5, st5, fr5, an5, vy, ea, w5⟩
  have zv : its.length = ys.length := vy.length.symm
  have pinOk : ∀ {σ' : St} {H' : Hp} {s' : Shared} {o : Obj}, Inv XC [] σ' H' s' → H' s₂.heap.objs.size = none → s'.heap.get? s₂.heap.objs.size = some o → (∀ v, o.data ≠ .cell v) → Inv XC [(s₂.heap.objs.size, o)] σ' H' s' := fun {σ' H' s' o} J a1 a2 a3 => J.pins_of fun p hp => by
   have e : p = (s₂.heap.objs.size, o) := by simpa using hp
   subst e
   exact ⟨a2, a1, accNC, stkN _ accOk, a3⟩
  have fp5 : ∀ {H' : Hp} {o : Obj}, (∀ b ∈ fp, H' b = none) → ∀ b ∈ fp, FpOk XC [(s₂.heap.objs.size, o)] H' b := fun {H' o} hn b hb => by
   obtain ⟨c1, c2, c3, c4, c5, _⟩ := fp4 hn b hb
   refine ⟨c1, c2, c3, c4, c5, fun p hp => ?_⟩
   have e : p = (s₂.heap.objs.size, o) := by
    have hp' : p ∈ ([] ++ [(s₂.heap.objs.size, o)] : List (Addr × Obj)) := hp
    simpa using hp'
   subst e
   intro z
   exact accNf (by rw [show s₂.heap.objs.size = b from z]; exact hb)
  have noc : ∀ (us : List Value) (k : Nat) (v : Option Value), ({ cls := .type "list", data := .seq us.toArray k } : Obj).data ≠ .cell v := fun us k v z => by
   have z' : Data.seq us.toArray k = Data.cell v := z
   cases z'
  have J5p := pinOk J5 an5 ea (noc its k)
  rcases turn i n ys σ5 H5 w5 with ⟨stop, zl, qn⟩ | ⟨go, zl, N, hN, step⟩
  ·refine thn (T.done XC rfl rfl rfl hc i _ s5 σ5 H5 _ J5p (fp5 fr5) st5 stop) fun r s6 ⟨hr, J6⟩ => ?_
   subst hr
   have I6 : Inv X pins σ H5 s6 := I3.call' (ch := s₂.heap.objs.size :: fp) (show s6.os = _ from J6.os) J6.base J6.hok J6.bare fun b hb => let ⟨_, a1, _, a3, a4, a5⟩ := exAll b hb; ⟨a3, a1, a4, a5⟩
   have ea6 : s6.heap.get? s₂.heap.objs.size = some { cls := .type "list", data := .seq its.toArray k } := (J6.pin _ (List.mem_append_right _ (List.mem_singleton.mpr rfl))).1
   have I7 : Inv X pins σ (upd H5 s₂.heap.objs.size (.lst ys)) s6 := I6.track an5 ⟨an5, accOk.2⟩ ⟨zl, its, k, vy, ea6⟩
   obtain ⟨m, hm, _⟩ := J6.loc
   exact hR _ _ _ s6 I7 (qn _ an5) ⟨m, hm⟩ ⟨by rw [z0e (Ne.symm accNC)]; exact J6.free, COk.2⟩
  ·refine thn (T.item XC rfl rfl rfl hc i _ s5 σ5 H5 _ J5p (fp5 fr5) st5 go) fun r s6 ⟨u, hr, h6⟩ => ?_
   subst hr
   refine thn h6 fun _ s7 ⟨x, H7, J7, r7, y7, st7, fr7⟩ => ?_
   have an7 : H7 s₂.heap.objs.size = none := (J7.pin _ (List.mem_append_right _ (List.mem_singleton.mpr rfl))).2.1
   have J7' := J7.pinned (fp5 fr7) (T.obj _ _ st7)
   refine thn (hg _ _ _ _ _ s7 σ5 H7 x u _ J7' r7 (step x H7 y7)) fun _ s8 ⟨σ8, H8, J8, q8⟩ => ?_
   refine thn (ht _ _ _ _ _ s8 σ8 H8 _ J8 q8) fun b s9 ⟨H9, J9, q9⟩ => ?_
   have zm1 : ∀ {σ' : St} {H' : Hp} {s' : Shared}, Inv XC ([(s₂.heap.objs.size, ({ cls := .type "list", data := .seq its.toArray k } : Obj))] ++ zku fp s7.heap) σ' H' s' →
     Inv XC [] σ' H' s' ∧ tn (i + 1) s'.heap ∧ (∀ b ∈ fp, H' b = none) ∧ H' s₂.heap.objs.size = none ∧ s'.heap.get? s₂.heap.objs.size = some { cls := .type "list", data := .seq its.toArray k } := fun {σ' H' s'} K => by
    have pa := K.pin (s₂.heap.objs.size, { cls := .type "list", data := .seq its.toArray k }) (List.mem_append_right _ (List.mem_append_left _ (List.mem_singleton.mpr rfl)))
    refine ⟨K.pins_of (fun p hp => absurd hp (by simp)), T.keep _ _ _ st7 fun b hb o e => (K.pin (b, o) (List.mem_append_right _ (List.mem_append_right _ (zc2 hb e)))).1, fun b hb => ?_, pa.2.1, pa.1⟩
    obtain ⟨o, e, d⟩ := T.obj _ _ st7 b hb
    exact (K.pin (b, o) (List.mem_append_right _ (List.mem_append_right _ (zc2 hb e)))).2.1
   cases b with
   | false =>
    rw [if_neg Bool.false_ne_true] at q9
    rw [if_neg Bool.false_ne_true]
    obtain ⟨m', hm', w'⟩ := hN _ _ _ q9
    obtain ⟨K1, K2, K3, K4, K5⟩ := zm1 J9
    exact ⟨m', hm', i + 1, σ8, H9, ys, its, k, K1, K2, K3, K4, vy, K5, w'⟩
   | true =>
    rw [if_pos rfl] at q9
    rw [if_pos rfl]
    refine thn (he _ _ _ _ _ s9 σ8 H9 _ J9 q9) fun z s10 ⟨v, H10, J10, r10, q10⟩ => ?_
    obtain ⟨m', hm', w'⟩ := hN _ _ _ q10
    obtain ⟨K1, K2, K3, K4, K5⟩ := zm1 J10
    refine call_meets F.slot_list_append ⟨_, K5, rfl⟩ F.entry_list_append (F.args_list_append_2 _ _) (PySem.list_append s₂.heap.objs.size its.toArray k z (by rw [List.size_toArray]; omega)) ⟨K5, ?_⟩
    have qa := PySem.IsL.update K5 (fun x_1 => x_1.push z)
    have eqa : its.toArray.push z = (its ++ [z]).toArray := by simp
    rw [eqa] at qa
    have kk : ∀ b o, b ≠ s₂.heap.objs.size → s10.heap.get? b = some o → (s10.heap.update s₂.heap.objs.size (Obj.mapSeq fun x_1 => x_1.push z)).get? b = some o := fun b o hb hu => (Heap.get?_update_other s10.heap (Obj.mapSeq fun x_1 => x_1.push z) (Ne.symm hb)).trans hu
    obtain ⟨d0, d1, d2, d3, d4, d5⟩ := acc5 K4
    have K1' := K1.turned (h' := s10.heap.update s₂.heap.objs.size (Obj.mapSeq fun x_1 => x_1.push z)) (t' := s10.toks) kk d0 d1 d3 d4 d5
    exact ⟨m', hm', i + 1, σ8, H10, ys ++ [v], its ++ [z], _, K1', T.keep _ _ _ K2 (fun b hb o e => kk b o (fun y => accNf (by rw [← y]; exact hb)) e), K3, K4, vy.append (.cons r10 .nil), qa, w'⟩
 exact codeAny_compStart_list (loop _ rfl) (T.self _ _ _ _ _ st4 (loop _ rfl))
theorem zfg {elt tg iter : Expr} {ifs : List Expr} {scope : Scope} {pos : Pos} (N' : List Str) (mp : List (Option Nat)) {wi : TI} {g : TG} {tt : TT} {te : TE} (hc : X.calm = true) (S : CompS X N' scope mp) (hi : PI X tg iter wi)
  (hg : ∀ cl C s₀ H₀ ex, PG (z6m X N' scope cl C s₀ H₀ ex) tg g) (ht : ∀ cl C s₀ H₀ ex, PIf (z6m X N' scope cl C s₀ H₀ ex) ifs tt) (he : ∀ cl C s₀ H₀ ex, PE (z6m X N' scope cl C s₀ H₀ ex) elt te)
  (hs : ∀ x, foldedSetIterable iter X.env x = pure x := by intro _; rfl) : PE X (.ListComp elt [⟨tg, iter, ifs, 0⟩] scope pos) (zkg wi g tt te mp) := by
 intro pins s σ H Q I h
 obtain ⟨cl, e0, e1, e2⟩ := zx9 (scope := scope) (env := X.env) fun y hy hf => I.ok.has y.1 (.inl (S.frees y hy hf))
 rw [eval_ListComp]
 refine wpAny_comprehension_free (use := none) rfl hs e0 S.kind S.locs (thn (hi pins s σ H _ I h) fun v s1 h1 => thn h1 fun itv s2 h2 => ?_)
 obtain ⟨it, fp, tn, J, H2, e, I2, T, st2, f2, hw⟩ := h2
 subst e
 refine zsz (Qe := Q) (RR := fun acc C => compPost (model X.prog X.w) X.A X.xe none (EP X pins σ Q) acc C) hc S e1 e2 (hg cl) (ht cl) (he cl) I2 T st2 f2 hw fun D C H' s' I' q ⟨m, hm⟩ ⟨f0, f1, _, f3, f4, f5⟩ => ?_
 exact ⟨m, hm, fun h' sb => ⟨.ref D, H', I'.turned (t' := s'.toks) (fun b o hb e => (sb.2 b hb).trans e) f0 f1 f3 f4 f5, rfl, q⟩⟩
end
section
variable {K : PySem.W.Frag} {a : Addr} {xs : List V} {g : TG} {tt : TT} {te : TE} {σ : St} {H : Hp} {Q : VK}
abbrev zi5 (J : It) (g : TG) (tt : TT) (te : TE) (Q : VK) (σ : St) (H : Hp) : Prop := ∃ W : Nat → Nat → List V → St → Hp → Prop, (∃ m, W 0 m [] σ H) ∧ ∀ i m ys σ H, W i m ys σ H →
 (J.stop i H ∧ ys.length ≤ sizeLine ∧ ∀ p, H p = none → Q (.ref p) (upd H p (.lst ys))) ∨ (J.go i H ∧ ys.length < sizeLine ∧ ∃ N : List V → St → Hp → Prop, (∀ ys' σ' H', N ys' σ' H' → ∃ m', m' < m ∧ W (i + 1) m' ys' σ' H') ∧ ∀ x H', J.yld i H x H' → g x σ H' fun σ2 H2 => tt σ2 H2 fun b H3 =>
  if b = true then te σ2 H3 (fun v H4 => N (ys ++ [v]) σ2 H4) else N ys σ2 H3)
theorem zev (Pv : Nat → List V → St → Hp → Prop) (h0 : Pv 0 [] σ H) (hz : xs.length < sizeLine) (hy : ∀ i ys σ H, Pv i ys σ H → ys.length ≤ i) (hl : ∀ i ys σ H, i ≤ xs.length → Pv i ys σ H → SqL K H a xs)
  (hs : ∀ i ys x σ H, xs[i]? = some x → Pv i ys σ H → g x σ H fun σ2 H2 => tt σ2 H2 fun b H3 => if b = true then te σ2 H3 (fun v H4 => Pv (i + 1) (ys ++ [v]) σ2 H4) else Pv (i + 1) ys σ2 H3)
  (hd : ∀ ys σ H, Pv xs.length ys σ H → ∀ p, H p = none → Q (.ref p) (upd H p (.lst ys))) : zi5 (Itl K a) g tt te Q σ H := by
 refine ⟨fun i m ys σ H => m = xs.length - i ∧ i ≤ xs.length ∧ Pv i ys σ H, ⟨xs.length, by simp, Nat.zero_le _, h0⟩, ?_⟩
 rintro i m ys σ H ⟨rfl, hi, p⟩
 have q := hl i ys σ H hi p
 have hyl := hy i ys σ H p
 by_cases hlt : i < xs.length
 ·refine .inr ⟨⟨xs, xs[i], q, by simp [hlt]⟩, by omega, Pv (i + 1), fun ys' σ' H' p' => ⟨xs.length - (i + 1), by omega, rfl, hlt, p'⟩, fun x H' y => ?_⟩
  obtain ⟨e, y⟩ := y
  subst e
  exact hs i ys x σ _ (y xs q) p
 ·have e : i = xs.length := by omega
  subst e
  exact .inl ⟨⟨xs, q, Nat.le_refl _⟩, by omega, hd ys σ H p⟩
end
end L2
set_option Elab.async false
set_option linter.all false
set_option maxRecDepth 100000
namespace L2
open PySem PySem.Spec PyProof.Rows
section
variable {X : Cx}
def zfx (K : PySem.W.Frag) : R2 := fun x y H Q => ∃ a b xs ys, x = .ref a ∧ y = .ref b ∧ SqT K H a xs ∧ SqT K H b ys ∧ xs.length + ys.length ≤ sizeLine ∧
 (xs = [] → Q (.ref b) H) ∧ (xs ≠ [] → ys = [] → Q (.ref a) H) ∧ (xs ≠ [] → ys ≠ [] → ∀ p, H p = none → Q (.ref p) (upd H p (.tup (xs ++ ys))))
theorem z2s : OpR X (binaryOp .Add) (zfx X.K) := by
 intro pins s σ H x y v u Q I rx ry h
 obtain ⟨a, b, xs, ys, rfl, rfl, ha, hb, hz, q0, q1, q2⟩ := h
 by_cases hx : xs = []
 ·cases rx
  cases ry
  obtain ⟨its, r1, p1, _⟩ := I.tuple ha
  obtain ⟨its2, r2, p2, _⟩ := I.tuple hb
  obtain ⟨⟨cls, dd, data, sl⟩, ho, hc, n, hd⟩ := id p1
  obtain ⟨⟨cls2, dd2, data2, sl2⟩, ho2, hc2, n2, hd2⟩ := id p2
  simp only at hc hd hc2 hd2
  subst hc hd hc2 hd2
  have he : its = [] := r1.nil_iff.mpr hx
  exact concat_meets ⟨_, ho, rfl⟩ ⟨_, ho2, rfl⟩ noFill_tuple_add seq_tuple_add PySem.F.slot_tuple_add PySem.F.entry_tuple_add (PySem.F.args_tuple_add_2 _ _)
   (tuple_addW0 a b its.toArray its2.toArray n n2 dd dd2 sl sl2 (by simp [he])) ⟨ho, ho2, ⟨.ref b, H, I, rfl, q0 hx⟩⟩
 ·exact zwc pins s σ H _ _ v u Q I rx ry ⟨a, b, xs, ys, rfl, rfl, ha, hb, hx, hz, q1 hx, q2 hx⟩
def zos : V → PyData
 | .bl b => .bool b
 | .int i => .int i
 | .str x => .str x
 | _ => .none
theorem zpd {h : Heap} {x : V} {u : Value} (r : RelV x u) (f : zb6 x = true) : Reads h u (zos x) [] := by
 cases x with
 | non => cases r; exact .none
 | bl b => cases r; exact .bool b
 | int i => obtain ⟨t, rfl⟩ := r; exact .int i t
 | str z => obtain ⟨t, rfl⟩ := r; exact .str z t
 | _ => exact absurd (show false = true from f) Bool.false_ne_true
theorem zdz {h : Heap} : ∀ {xs : List V} {us : List Value}, Vals xs us → xs.all zb6 = true → ReadsAll h us (xs.map zos) []
 | _, _, .nil, _ => .nil
 | _ :: _, _ :: _, .cons r t, f => by
  rw [List.all_cons, Bool.and_eq_true] at f
  exact .cons (zpd r f.1) (zdz t f.2)
def okV : V → Bool
 | .non => true
 | .bl _ => true
 | .int _ => true
 | .str z => PyData.strOk z
 | _ => false
theorem okV.flat {x : V} (h : okV x = true) : zb6 x = true := by
 cases x <;> first | rfl | exact absurd (show false = true from h) Bool.false_ne_true
theorem okV.all {xs : List V} (h : xs.all okV = true) : xs.all zb6 = true := List.all_eq_true.mpr fun x hx => okV.flat (List.all_eq_true.mp h x hx)
theorem zoe : ∀ (xs : List V), xs.all okV = true → PyData.canLayAll0 (xs.map zos) = true ∧ PyData.depthAll (xs.map zos) ≤ 1
 | [], _ => by simp [PyData.canLayAll0, PyData.depthAll]
 | x :: xs, hz => by
  rw [List.all_cons, Bool.and_eq_true] at hz
  have h1 : (zos x).canLay0 = true ∧ (zos x).depth ≤ 1 := by
   cases x with
   | str z => exact ⟨by simpa [zos, PyData.canLay0, okV] using hz.1, by simp [zos, PyData.depth]⟩
   | _ => exact ⟨by simp [zos, PyData.canLay0], by simp [zos, PyData.depth]⟩
  have h2 := zoe xs hz.2
  simp only [List.map_cons, PyData.canLayAll0, PyData.depthAll, h1.1, h2.1, Bool.and_self, true_and]
  have a1 := h1.2
  have a2 := h2.2
  omega
theorem z9n {xs : List V} (h : xs.all okV = true) : SeqAt.shaped (.list (xs.map zos)) = true := by
 have q := zoe xs h
 unfold SeqAt.shaped
 simp only [PyData.canLay0, PyData.depth, q.1, Bool.true_and]
 have := q.2
 exact decide_eq_true (by omega)
theorem Inv.readsL {pins : List (Addr × Obj)} {σ : St} {H : Hp} {s : Shared} {a : Addr} {xs : List V} (I : Inv X pins σ H s) (h : SqL X.K H a xs) (f : xs.all okV = true) : ∃ as, Reads s.heap (.ref a) (.list (xs.map zos)) as := by
 obtain ⟨its, r, ⟨o, n, e, c, _, d⟩, _⟩ := I.list h
 exact ⟨_, .list e c d (by simpa using zdz r (okV.all f))⟩
def eqL (xs ys : List V) : Bool := PyData.eqv (.list (xs.map zos)) (.list (ys.map zos))
def q1h (K : PySem.W.Frag) (neg : Bool) : R2 := fun x y H Q => ∃ a b xs ys, x = .ref a ∧ y = .ref b ∧ SqL K H a xs ∧ SqL K H b ys ∧ xs.all okV = true ∧ ys.all okV = true ∧ Q (.bl (if neg then !eqL xs ys else eqL xs ys)) H
theorem zyu (hu : X.A.units + 64 < cLine) : OpR X (compareOp .Eq) (q1h X.K false) := by
 intro pins s σ H x y v u Q I rx ry h
 obtain ⟨a, b, xs, ys, rfl, rfl, ha, hb, fa, fb, q⟩ := h
 cases rx; cases ry
 obtain ⟨as, ra⟩ := I.readsL ha fa
 obtain ⟨bs, rb⟩ := I.readsL hb fb
 exact eq_dataH ra rb (z9n fa) (z9n fb) hu ⟨.bl _, H, I, rfl, q⟩
theorem zyq (hu : X.A.units + 64 < cLine) : OpR X (compareOp .NotEq) (q1h X.K true) := by
 intro pins s σ H x y v u Q I rx ry h
 obtain ⟨a, b, xs, ys, rfl, rfl, ha, hb, fa, fb, q⟩ := h
 cases rx; cases ry
 obtain ⟨as, ra⟩ := I.readsL ha fa
 obtain ⟨bs, rb⟩ := I.readsL hb fb
 exact ne_dataH ra rb (z9n fa) (z9n fb) hu ⟨.bl _, H, I, rfl, q⟩
theorem zsf (xs : List V) : eqL xs [] = xs.isEmpty := by
 cases xs <;> simp [eqL, PyData.eqv, PyData.eqvAll]
theorem zni : CallR X (.builtin "isinstance") (fun xs H Q => ∃ x n t b, xs = [x, .ty n] ∧ TyOf X.K H x t ∧ PySem.W.kitOne X.K t (.type n) = some b ∧ Q (.bl b) H) := by
 intro pins s σ H xs us Q I r h
 obtain ⟨x, n, t, b, rfl, ty, e, q⟩ := h
 obtain ⟨u, u2, rfl, r1, r2⟩ := r.two
 cases r2
 exact zs1 I r1 ty e fun tk => ⟨.bl b, H, I.tok tk, rfl, q⟩
theorem zi1 : ∀ {bs : List Bool} {us : List Value}, Vals (bs.map V.bl) us → us = bs.map Value.bool
 | [], _, .nil => rfl
 | b :: bs, _ :: _, .cons r t => by
  cases r
  rw [zi1 t]; rfl
def Its (z : Str) : It := ⟨fun i _ => i < z.cps.size, fun i H x H' => H' = H ∧ ∃ c, z.cps[i]? = some c ∧ x = .str ⟨#[c]⟩, fun i _ => i = z.cps.size⟩
def q24 (tl : TE) : TI := fun σ H R => tl σ H fun x H1 => ∃ z, x = .str z ∧ R (Its z) H1
open PySem.AutoSeq1 (wpAny_loadPart') in
theorem zxo (l : Addr) (items : Array Value) (n : Nat) (dd : Option Addr) (sl : Array (Option Value)) (x : Int) (u : Tok) (h2 : 2 ≤ x) (hx : x < 2 ^ 62) (hne : items.isEmpty = false) (hz : items.size * x.toNat ≤ sizeLine) :
  Meets (Builtin.«tuple.__mul__» ⟨[.ref l, .int x u], []⟩) (fun _ R s => s.heap.get? l = some { cls := .type "tuple", dict := dd, data := .seq items n, slots := sl } ∧ R (.ok (.ret (Value.ref s.heap.objs.size))) { s with heap := s.heap.push { cls := Value.type "tuple", data := Data.seq (List.foldl (fun x1 x2 => x1 ++ x2) #[] (List.replicate x.toNat items)) }, toks := s.toks }) :=
 .of_wp fun prog w A R s h => by
  obtain ⟨hp, g, d, tk, os⟩ := s; obtain ⟨hl, h⟩ := h
  have f1 := AutoSeq1.idx_int
  have hs : sizeLine = 16777216 := sizeLine_eq
  have hm : ((items.size * x.toNat : Nat) : Int) = (items.size : Int) * x := by
   rw [Int.natCast_mul, Int.toNat_of_nonneg (by omega)]
  have c0 : ¬ (decide (x < -2 ^ 63) || decide (x ≥ 2 ^ 63)) = true := by
   simp only [Bool.or_eq_true, decide_eq_true_eq, not_or]
   omega
  have c1 : ¬ (items.isEmpty || x == 1) = true := by
   rw [hne, Bool.false_or]
   simp only [beq_iff_eq]
   omega
  have c2 : ¬ (decide (x ≤ 0) || items.isEmpty) = true := by
   rw [hne, Bool.or_false]
   simp only [decide_eq_true_eq]
   omega
  have c3 : ¬ ((items.size : Int) * x > (2 ^ 63 - 1) / 8) := by
   rw [← hm]
   have : (2 ^ 63 - 1 : Int) / 8 = 1152921504606846975 := by decide
   rw [this]
   omega
  have c4 : ¬ Builtin.Tuple.tupleTooMany ((items.size : Int) * x) = true := by
   unfold Builtin.Tuple.tupleTooMany
   simp only [decide_eq_true_eq]
   rw [← hm]
   omega
  wp_walk using wpAny_loadPart' hl
  refine PySem.W.KFB.if_not (Bool.eq_false_iff.mpr c0) ?_
  wp_walk using wpAny_loadPart' hl
  refine PySem.W.KFB.if_not (Bool.eq_false_iff.mpr c1) ?_
  refine PySem.W.KFB.if_not (Bool.eq_false_iff.mpr c2) ?_
  dsimp only
  rw [if_neg c3]
  refine PySem.W.KFB.if_not (Bool.eq_false_iff.mpr c4) ?_
  refine wpAny_bind (wpAny_newObj_type (wpAny_pure ⟨_, rfl, h⟩) ?_)
  show (List.foldl (fun x1 x2 => x1 ++ x2) #[] (List.replicate x.toNat items)).size ≤ sizeLine
  have e := zla items.toList x.toNat []
  rw [List.nil_append] at e
  have e2 : items.toList.toArray = items := by simp
  rw [e2] at e
  rw [show ([] : List Value).toArray = #[] from rfl] at e
  rw [e, List.size_toArray, zwn, Array.length_toList, Nat.mul_comm]
  exact hz
def zty (K : PySem.W.Frag) : R2 := fun x y H Q => ∃ l k xs, x = .ref l ∧ y = .int k ∧ SqT K H l xs ∧ 2 ≤ k ∧ k < 2 ^ 62 ∧ xs ≠ [] ∧ xs.length * k.toNat ≤ sizeLine ∧
 ∀ p, H p = none → Q (.ref p) (upd H p (.tup (List.replicate k.toNat xs).flatten))
end
end L2
set_option Elab.async false
set_option linter.all false
set_option maxRecDepth 100000
namespace L2
open PySem PySem.Spec PyProof.Rows
section
variable {X : Cx}
def Seq (K : PySem.W.Frag) (H : Hp) (a : Addr) : Prop := (∃ xs, SqL K H a xs) ∨ ∃ xs, SqT K H a xs
theorem zua (hu : X.A.units + 64 < cLine) : OpR X (compareOp .Eq) (fun x y H Q => ∃ a z, x = .ref a ∧ y = .str z ∧ Seq X.K H a ∧ Q (.bl false) H) := by
 intro pins s σ H x y v u Q I rx ry h
 obtain ⟨a, z, rfl, rfl, hq, q⟩ := h
 cases rx
 obtain ⟨t, rfl⟩ := ry
 show wpAny _ _ (richCompare .Eq _ _) _ _ _
 rcases hq with ⟨xs, hq⟩ | ⟨xs, hq⟩
 ·obtain ⟨its, r, pl, hz⟩ := I.list hq
  exact SeqAt.RcAt.list_str z t pl.isList (by omega) _ _ _ _ ⟨.bl false, H, I, rfl, q⟩
 ·obtain ⟨its, r, pl, hz⟩ := I.tuple hq
  exact SeqAt.RcAt.tuple_str z t (show s.heap.IsTuple a its.toArray from pl) (by omega) _ _ _ _ ⟨.bl false, H, I, rfl, q⟩
def isN : V → Bool
 | .non => true
 | _ => false
def zze : Value → Bool
 | .none => true
 | _ => false
theorem zpl (hu : X.A.units + 64 < cLine) : OpR X (compareOp .In) (fun x y H Q => ∃ p xs, x = .non ∧ y = .ref p ∧ SqL X.K H p xs ∧ (∀ v ∈ xs, v = .non ∨ ∃ a ys, v = .ref a ∧ SqT X.K H a ys) ∧ Q (.bl (xs.any isN)) H) := by
 intro pins s σ H x y v u Q I rx ry h
 obtain ⟨p, xs, rfl, rfl, hq, hall, q⟩ := h
 cases rx; cases ry
 obtain ⟨its, r, pl, hz⟩ := I.list hq
 have hmem : ∀ (xs : List V) (us : List Value), Vals xs us → (∀ v ∈ xs, v = .non ∨ ∃ a ys, v = .ref a ∧ SqT X.K H a ys) → (∀ u ∈ us, SeqAt.EqAt X.A.in1 s u .none (zze u)) ∧ us.any zze = xs.any isN := by
  intro xs us rv
  induction rv with
  | nil => intro _; exact ⟨fun u hu => (by cases hu), rfl⟩
  | cons rr _ ih =>
   intro ha
   obtain ⟨i1, i2⟩ := ih fun v hv => ha v (List.mem_cons_of_mem _ hv)
   rcases ha _ List.mem_cons_self with e | ⟨a, ys, e, hs⟩
   ·subst e
    cases rr
    refine ⟨fun u hu' => ?_, by rw [List.any_cons, List.any_cons, i2]; rfl⟩
    rcases List.mem_cons.mp hu' with rfl | h'
    ·exact SeqAt.EqAt.same _
    ·exact i1 u h'
   ·subst e
    cases rr
    refine ⟨fun u hu' => ?_, by rw [List.any_cons, List.any_cons, i2]; rfl⟩
    rcases List.mem_cons.mp hu' with rfl | h'
    ·obtain ⟨its, _, ht, _⟩ := I.tuple hs
     exact SeqAt.EqAt.tuple_none (show s.heap.IsTuple a its.toArray from ht) (by show X.A.units + 1 < _; omega)
    ·exact i1 u h'
 obtain ⟨h1, h2⟩ := hmem xs its r hall
 refine SeqAt.in_listAt zze pl.isList (fun w hw => h1 w (by simpa using hw)) ⟨.bl _, H, I, rfl, ?_⟩
 rw [show its.toArray.any zze = its.any zze by simp, h2]
 exact q
def q0e : R2 := fun x y H Q => ∃ i j, x = .str i ∧ y = .str j ∧ Q (.bl (!decide (j.cps.toList < i.cps.toList))) H
def q0d : R2 := fun x y H Q => ∃ i j, x = .str i ∧ y = .str j ∧ Q (.bl (decide (i.cps.toList < j.cps.toList))) H
def q0l (K : PySem.W.Frag) (x y : V) (H : Hp) (b : Bool) : Prop := (q0a x y = true ∧ b = decide (x = y)) ∨
 (∃ a c xs ys, x = .ref a ∧ y = .ref c ∧ SqL K H a xs ∧ SqL K H c ys ∧ xs.all okV = true ∧ ys.all okV = true ∧ b = eqL xs ys) ∨ (∃ a z, x = .ref a ∧ y = .str z ∧ Seq K H a ∧ b = false)
def qEq (K : PySem.W.Frag) : R2 := fun x y H Q => ∃ b, q0l K x y H b ∧ Q (.bl b) H
def qNe (K : PySem.W.Frag) : R2 := fun x y H Q => ∃ b, ((q0a x y = true ∧ b = decide (x = y)) ∨ (∃ a c xs ys, x = .ref a ∧ y = .ref c ∧ SqL K H a xs ∧ SqL K H c ys ∧ xs.all okV = true ∧ ys.all okV = true ∧ b = eqL xs ys)) ∧ Q (.bl (!b)) H
def q1p (K : PySem.W.Frag) (x y : V) (H : Hp) (b : Bool) : Prop := (∃ p xs, y = .ref p ∧ (SqL K H p xs ∨ SqT K H p xs) ∧ zb6 x = true ∧ xs.all zb6 = true ∧ b = inV x xs) ∨
 (∃ i j, x = .str i ∧ y = .str j ∧ b = !(Builtin.Str.occurrences j i 0 j.length 1).isEmpty) ∨
 (∃ p xs, x = .non ∧ y = .ref p ∧ SqL K H p xs ∧ (∀ v ∈ xs, v = .non ∨ ∃ a ys, v = .ref a ∧ SqT K H a ys) ∧ b = xs.any isN)
def qIn (K : PySem.W.Frag) : R2 := fun x y H Q => ∃ b, q1p K x y H b ∧ Q (.bl b) H
def zxl (K : PySem.W.Frag) (x y : V) (H : Hp) (b : Bool) : Prop := (∃ p xs, y = .ref p ∧ (SqL K H p xs ∨ SqT K H p xs) ∧ zb6 x = true ∧ xs.all zb6 = true ∧ b = !inV x xs) ∨
 (∃ i j, x = .str i ∧ y = .str j ∧ b = !(!(Builtin.Str.occurrences j i 0 j.length 1).isEmpty)) ∨
 (∃ a p xs, x = .ref a ∧ y = .ref p ∧ Seq K H a ∧ SqT K H p xs ∧ (∀ v ∈ xs, ∃ z, v = .str z) ∧ b = true)
def ziq (K : PySem.W.Frag) : R2 := fun x y H Q => ∃ b, zxl K x y H b ∧ Q (.bl b) H
def zxm (K : PySem.W.Frag) (x : V) (H : Hp) (n : Nat) : Prop := (∃ p ys, x = .ref p ∧ (SqL K H p ys ∨ SqT K H p ys) ∧ n = ys.length) ∨ ∃ z, x = .str z ∧ z.length ≤ sizeLine ∧ n = z.length
def zyh (K : PySem.W.Frag) : List V → Hp → VK → Prop := fun xs H Q => ∃ x n, xs = [x] ∧ zxm K x H n ∧ Q (.int n) H
def zyi : R2 := fun x y H Q => y = .non ∧ Q (.bl (decide (x = .non))) H
def zqy : R2 := fun x y H Q => y = .non ∧ Q (.bl (!decide (x = .non))) H
def q0f : R2 := fun x y H Q => ∃ a b, x = .bl a ∧ y = .bl b ∧ Q (.bl (a == b)) H
def zu0 : R2 := fun x y H Q => ∃ a b, x = .bl a ∧ y = .bl b ∧ Q (.bl (a != b)) H
theorem zmp (hu : X.A.units + 64 < cLine) : OpR X (compareOp .NotIn) (fun x y H Q => ∃ a p xs, x = .ref a ∧ y = .ref p ∧ Seq X.K H a ∧ SqT X.K H p xs ∧ (∀ v ∈ xs, ∃ z, v = .str z) ∧ Q (.bl true) H) := by
 intro pins s σ H x y v u Q I rx ry h
 obtain ⟨a, p, xs, rfl, rfl, hq, hp, hall, q⟩ := h
 cases rx; cases ry
 obtain ⟨its, r, pl, hz⟩ := I.tuple hp
 have hmem : ∀ (xs : List V) (us : List Value), Vals xs us → (∀ v ∈ xs, ∃ z, v = .str z) → ∀ u ∈ us, SeqAt.EqAt X.A.in1 s u (.ref a) ((fun _ => false) u) := by
  intro xs us rv
  induction rv with
  | nil => intro _ u hu; cases hu
  | cons rr _ ih =>
   intro ha u hu'
   rcases List.mem_cons.mp hu' with rfl | h'
   ·obtain ⟨z, e⟩ := ha _ List.mem_cons_self
    subst e
    obtain ⟨t, rfl⟩ := rr
    rcases hq with ⟨ys, hq⟩ | ⟨ys, hq⟩
    ·obtain ⟨its, _, pl, _⟩ := I.list hq
     exact SeqAt.EqAt.str_list z t pl.isList (by show X.A.units + 1 < _; omega)
    ·obtain ⟨its, _, pl, _⟩ := I.tuple hq
     exact SeqAt.EqAt.str_tuple z t (show s.heap.IsTuple a its.toArray from pl) (by show X.A.units + 1 < _; omega)
   ·exact ih (fun v hv => ha v (List.mem_cons_of_mem _ hv)) u h'
 refine SeqAt.notIn_tupleAt (fun _ => false) pl (fun w hw => hmem xs its r hall w (by simpa using hw)) ⟨.bl _, H, I, rfl, ?_⟩
 have e : (!its.toArray.any fun _ => false) = true := by simp
 rw [e]
 exact q
theorem gEq (hu : X.A.units + 64 < cLine) : OpR X (compareOp .Eq) (qEq X.K) := by
 intro pins s σ H x y v u Q I rx ry h
 obtain ⟨b, h, q⟩ := h
 rcases h with ⟨h, rfl⟩ | ⟨a, c, xs, ys, h1, h2, h3, h4, h5, h6, rfl⟩ | ⟨a, z, h1, h2, h3, rfl⟩
 ·exact zyv pins s σ H x y v u Q I rx ry ⟨h, q⟩
 ·exact zyu hu pins s σ H x y v u Q I rx ry ⟨a, c, xs, ys, h1, h2, h3, h4, h5, h6, q⟩
 ·exact zua hu pins s σ H x y v u Q I rx ry ⟨a, z, h1, h2, h3, q⟩
theorem gNe (hu : X.A.units + 64 < cLine) : OpR X (compareOp .NotEq) (qNe X.K) := by
 intro pins s σ H x y v u Q I rx ry h
 obtain ⟨b, h, q⟩ := h
 rcases h with ⟨h, rfl⟩ | ⟨a, c, xs, ys, h1, h2, h3, h4, h5, h6, rfl⟩
 ·exact zyr pins s σ H x y v u Q I rx ry ⟨h, q⟩
 ·exact zyq hu pins s σ H x y v u Q I rx ry ⟨a, c, xs, ys, h1, h2, h3, h4, h5, h6, q⟩
theorem gIn (hu : X.A.units + 64 < cLine) : OpR X (compareOp .In) (qIn X.K) := by
 intro pins s σ H x y v u Q I rx ry h
 obtain ⟨b, h, q⟩ := h
 rcases h with ⟨p, xs, h1, h2, h3, h4, rfl⟩ | ⟨i, j, h1, h2, rfl⟩ | ⟨p, xs, h1, h2, h3, h4, rfl⟩
 ·exact zrd pins s σ H x y v u Q I rx ry ⟨p, xs, h1, h2, h3, h4, q⟩
 ·exact zrc pins s σ H x y v u Q I rx ry ⟨i, j, h1, h2, q⟩
 ·exact zpl hu pins s σ H x y v u Q I rx ry ⟨p, xs, h1, h2, h3, h4, q⟩
theorem zzj (hu : X.A.units + 64 < cLine) : OpR X (compareOp .NotIn) (ziq X.K) := by
 intro pins s σ H x y v u Q I rx ry h
 obtain ⟨b, h, q⟩ := h
 rcases h with ⟨p, xs, h1, h2, h3, h4, rfl⟩ | ⟨i, j, h1, h2, rfl⟩ | ⟨a, p, xs, h1, h2, h3, h4, h5, rfl⟩
 ·exact zkx pins s σ H x y v u Q I rx ry ⟨p, xs, h1, h2, h3, h4, q⟩
 ·exact zkw pins s σ H x y v u Q I rx ry ⟨i, j, h1, h2, q⟩
 ·exact zmp hu pins s σ H x y v u Q I rx ry ⟨a, p, xs, h1, h2, h3, h4, h5, q⟩
theorem zuq : CallR X (.builtin "len") (zyh X.K) := by
 intro pins s σ H xs us Q I r h
 obtain ⟨x, n, rfl, h, q⟩ := h
 rcases h with ⟨p, ys, rfl, h, rfl⟩ | ⟨z, rfl, hz, rfl⟩
 ·exact zlu pins s σ H _ us Q I r ⟨p, ys, rfl, h, q⟩
 ·exact zlt pins s σ H _ us Q I r ⟨z, rfl, hz, q⟩
theorem zbd : OpR X (compareOp .Eq) (rI0 fun i j => .bl (decide (i = j))) := by
 intro pins s σ H x y v u Q I rx ry h
 obtain ⟨i, j, rfl, rfl, q⟩ := h
 refine zyv pins s σ H _ _ v u Q I rx ry ⟨rfl, ?_⟩
 have e : decide (V.int i = V.int j) = decide (i = j) := by simp
 rw [e]; exact q
theorem zob : OpR X (compareOp .NotEq) (rI0 fun i j => .bl (!decide (i = j))) := by
 intro pins s σ H x y v u Q I rx ry h
 obtain ⟨i, j, rfl, rfl, q⟩ := h
 refine zyr pins s σ H _ _ v u Q I rx ry ⟨rfl, ?_⟩
 have e : decide (V.int i = V.int j) = decide (i = j) := by simp
 rw [e]; exact q
theorem q29 : OpR X (compareOp .Is) zyi := zys
theorem zup : OpR X (compareOp .IsNot) zqy := zwa
def zr0 (K : PySem.W.Frag) : List V → Hp → VK → Prop := fun xs H Q => ∃ x n b, xs = [x, .ty n] ∧ (∃ t, TyOf K H x t ∧ PySem.W.kitOne K t (.type n) = some b) ∧ Q (.bl b) H
theorem zwz : CallR X (.builtin "isinstance") (zr0 X.K) := by
 intro pins s σ H xs us Q I r h
 obtain ⟨x, n, b, rfl, ⟨t, h1, h2⟩, q⟩ := h
 exact zni pins s σ H _ us Q I r ⟨x, n, t, b, rfl, h1, h2, q⟩
end
def ziz : Expr → Bool
 | .Starred .. => true
 | _ => false
def z3x : List Expr → Bool
 | [] => true
 | e :: r => !ziz e && z3x r
theorem z1r {e : Expr} {es : List Expr} {env : Env} (h : ziz e = false) : starEach (e :: es) env = (false, eval e env) :: starEach es env := by
 cases e <;> first | rfl | exact absurd (show true = false from h) (by decide)
theorem z3w {pos : Pos} {env : Env} : ∀ {es : List Expr}, z3x es = true → (backTo pos (starEach es env)).any (·.1) = false
 | [], _ => rfl
 | e :: r, h => by
  rw [z3x, Bool.and_eq_true, Bool.not_eq_true'] at h
  rw [z1r h.1]
  have q := z3w (pos := pos) (env := env) h.2
  show (false || (backTo pos (starEach r env)).any (·.1)) = false
  rw [q]; rfl
theorem z07 {X : Cx} {e : Expr} {es : List Expr} {te : TE} {t : TA} (ha : PE X e te) (hr : PA X es t) (h : ziz e = false := by rfl) : PA X (e :: es) (zj8 te t) := zw8 ha hr (z1r h)
structure Callee (P : Program) (w : World) (K : PySem.W.Frag) (mg : Str → Option Value) (base : Heap) (x : Str) (ps : List Str) (k : Nat) (sp : Sp) : Prop where
 ex : ∃ f fd, FnOk P w K mg base CX0 k f fd ps sp ∧ mg x = some (.ref f) ∧ PySem.W.keepIn K (.ref f) = true ∧ Binds K fd ps []
theorem z1y {X : Cx} {x : Str} {ps : List Str} {k j : Nat} {sp : Sp} {e : Expr} {es : List Expr} {t : TA} {p pos : Pos} (C : Callee X.prog X.w X.K X.mg X.base x ps k sp) (hr : Room j X.A) (hk : k ≤ j) (ha : PA X (e :: es) t) (hg : Gl X x := by rfl)
  (hdb : (x == ("__debug__" : Str)) = false := by decide) (hst : z3x (e :: es) = true := by rfl) :
  PE X (.Call (.Name x p) (e :: es) [] pos) (zp7 sp [] E0 t) := by
 have hst' := hst
 rw [z3x, Bool.and_eq_true, Bool.not_eq_true'] at hst'
 have he := z1r (es := es) (env := X.env) hst'.1
 have hpl := z3w (pos := pos) (env := X.env) hst'.2
 obtain ⟨f, fd, F, hm, hkp, hb⟩ := C
 intro pins s σ H Q I h
 refine wpAny_Call_Name_kw (zd2 I hg hm ?_ hdb)
 refine PySem.W.callWith_K (h₀ := X.base) I.ok.mod.kin hkp (thn (ha pos pins s σ H _ I h) fun us s1 ⟨vs, H1, I1, r, q⟩ => ⟨I1.kIn, ?_⟩) he hpl
 exact zva F (hr.mono hk) hb .nil (fun _ _ _ _ _ _ _ z => z.elim) I1 r q
theorem z75 {X : Cx} {x : Str} {p pos : Pos} {e : Expr} {es : List Expr} {t : TA} {id : String} {r : List V → Hp → VK → Prop} (hc : CallR X (.builtin id) r) (hg : Gl X x) (hm : X.mg x = none) (hv : bootBuiltins x = some (.builtin id)) (ha : PA X (e :: es) t) (hn : x ≠ "__name__") (hdb : (x == ("__debug__" : Str)) = false)
  (hst : z3x (e :: es) = true := by rfl) : PE X (.Call (.Name x p) (e :: es) [] pos) (tCB r t) := by
 have hst' := hst
 rw [z3x, Bool.and_eq_true, Bool.not_eq_true'] at hst'
 exact zu7 hc hg hm hv ha hn hdb (z1r hst'.1) (z3w hst'.2)
theorem zml {X : Cx} {x : Str} {p pos : Pos} {e : Expr} {es : List Expr} {t : TA} {T : String} {r : List V → Hp → VK → Prop} (hc : CallR X (.type T) r) (hg : Gl X x) (hm : X.mg x = none) (hv : bootBuiltins x = some (.type T)) (ha : PA X (e :: es) t) (hn : x ≠ "__name__") (hdb : (x == ("__debug__" : Str)) = false)
  (hst : z3x (e :: es) = true := by rfl) : PE X (.Call (.Name x p) (e :: es) [] pos) (tCB r t) := by
 have hst' := hst
 rw [z3x, Bool.and_eq_true, Bool.not_eq_true'] at hst'
 exact zr8 hc hg hm hv ha hn hdb (z1r hst'.1) (z3w hst'.2)
structure GC (mg : Str → Option Value) (x : Str) (v : V) : Prop where
 ex : ∃ u, mg x = some u ∧ RelV v u
theorem zyp {X : Cx} {x : Str} {v : V} {pos : Pos} (h : GC X.mg x v) (hg : Gl X x := by rfl) (hd : (x == ("__debug__" : Str)) = false := by decide) : PE X (.Name x pos) (tC v) := by
 obtain ⟨u, hm, r⟩ := h
 exact zff hg hm r hd
def zt0 (N : List Str) (on : List (Str × NameKind)) (sc : Scope) (N' : List Str) (mp : List (Option Nat)) : Bool :=
 sc.kind == .function && sc.names.all (fun y => y.2 != .cell) && sc.names.all (fun y => y.2 != .local || sc.names.lookup y.1 == some .local) && sc.names.all (fun y => y.2 != .free || on.lookup y.1 == some .cell) && compOk N on sc.names N' mp
theorem CompS.of {X : Cx} {N' : List Str} {sc : Scope} {mp : List (Option Nat)} (h : zt0 X.N X.env.scope.names sc N' mp = true) : CompS X N' sc mp := by
 unfold zt0 at h
 simp only [Bool.and_eq_true, beq_iff_eq] at h
 obtain ⟨⟨⟨⟨h1, h2⟩, h3⟩, h4⟩, h5⟩ := h
 refine ⟨h1, fun y hy => ?_, fun y hy e => ?_, fun y hy e => ?_, h5⟩
 ·have := List.all_eq_true.mp h2 y hy
  simpa using this
 ·have := List.all_eq_true.mp h3 y hy
  simp only [e, Bool.or_eq_true, beq_iff_eq] at this
  rcases this with z | z
  ·exact absurd z (by decide)
  ·exact z
 ·have := List.all_eq_true.mp h4 y hy
  simp only [e, Bool.or_eq_true, beq_iff_eq] at this
  rcases this with z | z
  ·exact absurd z (by decide)
  ·exact z
theorem opK {X : Cx} {K : PySem.W.Frag} {f : Value → Value → Sem Value} {r : PySem.W.Frag → R2} (h : OpR X f (r X.K)) (hK : X.K = K) : OpR X f (r K) := hK ▸ h
theorem ixK {X : Cx} {K : PySem.W.Frag} {r : PySem.W.Frag → R2} (h : IxR X (r X.K)) (hK : X.K = K) : IxR X (r K) := hK ▸ h
theorem zw6 {X : Cx} {K : PySem.W.Frag} {es : List Expr} {k : Nat} {t : TGs} {n : Nat} {pos : Pos} (hK : X.K = K) (hc : X.calm = true) (h : PGs X es t) (hn : (assignEach es X.env).length = n := by rfl) (hst : (assignEach es X.env).findIdx? (·.1) = none := by rfl) : PG X (.Tuple es k pos) (zxv K n t) := hK ▸ zcv hc h hn hst
def zzg : Expr → Bool
 | .ListComp .. => true
 | .SetComp .. => true
 | .DictComp .. => true
 | _ => false
theorem z05 {e : Expr} {t : Option Expr} {l : Nat} {env : Env} (h : zzg e = false) : swapsWith e t l env = pure false := by
 cases e <;> first | rfl | exact absurd (show true = false from h) (by decide)
theorem zp8 {elt : Expr} {gs : List Comprehension} {sc : Scope} {cp p : Pos} {x : Str} {l : Nat} {env : Env} (h : env.scope.names.lookup x = some .cell) : swapsWith (.ListComp elt gs sc cp) (some (.Name x p)) l env = pure false := by
 unfold swapsWith
 have e : (env.kindOf x == some NameKind.local) = false := by
  unfold Env.kindOf
  rw [h]; rfl
 simp only [e, Bool.and_false, Bool.false_and]
inductive Dm where
 | non | bl (b : Bool) | int (i : Int) | str (x : Str) | tup (ds : List Dm) | lst
mutual
inductive Dt (H : Hp) : V → Dm → Prop where
 | non : Dt H .non .non
 | bl (b : Bool) : Dt H (.bl b) (.bl b)
 | int (i : Int) : Dt H (.int i) (.int i)
 | str (x : Str) : Dt H (.str x) (.str x)
 | tup {a : Addr} {xs : List V} {ds : List Dm} : H a = some (.tup xs) → DtA H xs ds → Dt H (.ref a) (.tup ds)
 | lst {a : Addr} {xs : List V} : H a = some (.lst xs) → Dt H (.ref a) .lst
inductive DtA (H : Hp) : List V → List Dm → Prop where
 | nil : DtA H [] []
 | cons {x : V} {xs : List V} {d : Dm} {ds : List Dm} : Dt H x d → DtA H xs ds → DtA H (x :: xs) (d :: ds)
end
structure Kp (H H' : Hp) : Prop where
 t : ∀ b xs, H b = some (.tup xs) → H' b = some (.tup xs)
 l : ∀ b xs, H b = some (.lst xs) → ∃ ys, H' b = some (.lst ys)
theorem Kp.refl (H : Hp) : Kp H H := ⟨fun _ _ h => h, fun _ xs h => ⟨xs, h⟩⟩
theorem Kp.trans {H H1 H2 : Hp} (a : Kp H H1) (b : Kp H1 H2) : Kp H H2 := ⟨fun c xs h => b.t c xs (a.t c xs h), fun c xs h => let ⟨ys, e⟩ := a.l c xs h; b.l c ys e⟩
theorem Same.kp {H H' : Hp} (s : Same H H') : Kp H H' := ⟨fun b xs h => s b _ h, fun b xs h => ⟨xs, s b _ h⟩⟩
theorem z04 {H : Hp} {p : Addr} (h : H p = none) (o : HO) : Same H (upd H p o) := fun b u q => by rw [z0e (z0h q h)]; exact q
theorem Kp.new {H : Hp} {p : Addr} (h : H p = none) (o : HO) : Kp H (upd H p o) := (z04 h o).kp
theorem Kp.set {H : Hp} {p : Addr} {xs ys : List V} (h : H p = some (.lst xs)) : Kp H (upd H p (.lst ys)) :=
 ⟨fun b zs e => by rw [z0e (z77 e h (by intro z; cases z))]; exact e, fun b zs e => by
  by_cases hb : b = p
  ·subst hb; exact ⟨ys, z01⟩
  ·exact ⟨zs, by rw [z0e hb]; exact e⟩⟩
mutual
theorem Dt.kp {H H' : Hp} (k : Kp H H') : ∀ {v : V} {d : Dm}, Dt H v d → Dt H' v d
 | _, _, .non => .non
 | _, _, .bl b => .bl b
 | _, _, .int i => .int i
 | _, _, .str x => .str x
 | _, _, .tup e r => .tup (k.t _ _ e) (DtA.kp k r)
 | _, _, .lst e => let ⟨_, e'⟩ := k.l _ _ e; .lst e'
theorem DtA.kp {H H' : Hp} (k : Kp H H') : ∀ {xs : List V} {ds : List Dm}, DtA H xs ds → DtA H' xs ds
 | _, _, .nil => .nil
 | _, _, .cons r t => .cons (Dt.kp k r) (DtA.kp k t)
end
theorem DtA.length {H : Hp} : ∀ {xs : List V} {ds : List Dm}, DtA H xs ds → xs.length = ds.length
 | _, _, .nil => rfl
 | _, _, .cons _ t => by rw [List.length_cons, List.length_cons, DtA.length t]
theorem DtA.append {H : Hp} : ∀ {xs ys : List V} {ds es : List Dm}, DtA H xs ds → DtA H ys es → DtA H (xs ++ ys) (ds ++ es)
 | _, _, _, _, .nil, h => h
 | _, _, _, _, .cons r t, h => .cons r (DtA.append t h)
theorem DtA.get {H : Hp} : ∀ {xs : List V} {ds : List Dm} {i : Nat} {x : V}, DtA H xs ds → xs[i]? = some x → ∃ d, ds[i]? = some d ∧ Dt H x d
 | _, _, _, _, .nil, e => by simp at e
 | _, _, 0, _, .cons r _, e => by simp at e; subst e; exact ⟨_, rfl, r⟩
 | _, _, i + 1, x, .cons _ t, e => by
  obtain ⟨d, h1, h2⟩ := DtA.get (i := i) (x := x) t (by simpa using e)
  exact ⟨d, by simpa using h1, h2⟩
theorem Dt.tupI {H : Hp} {v : V} {ds : List Dm} (h : Dt H v (.tup ds)) : ∃ a xs, v = .ref a ∧ H a = some (.tup xs) ∧ DtA H xs ds := by
 cases h with
 | tup e r => exact ⟨_, _, rfl, e, r⟩
end L2
set_option Elab.async false
set_option linter.all false
set_option maxRecDepth 100000
namespace L2
open PySem PySem.Spec PyProof.Rows
section
variable {X : Cx}
theorem zfv : ∀ {ns : List Int} {us : List Value}, IntsAre us ns → Vals (ns.map V.int) us
 | _, _, .nil => .nil
 | _, _, .cons n t h => .cons ⟨t, rfl⟩ (zfv h)
def zu1 (K : PySem.W.Frag) : List V → Hp → VK → Prop := fun xs H Q => ∃ (a : Addr) (ns : List Int), xs = [.ref a] ∧ SqL K H a (ns.map V.int) ∧ 0 < ns.length ∧ ∀ M, M ∈ ns → (∀ a ∈ ns, M ≤ a) → Q (.int M) H
def zu2 (K : PySem.W.Frag) : List V → Hp → VK → Prop := fun xs H Q => ∃ (a : Addr) (ns : List Int), xs = [.ref a] ∧ SqL K H a (ns.map V.int) ∧ 0 < ns.length ∧ ∀ M, M ∈ ns → (∀ a ∈ ns, a ≤ M) → Q (.int M) H
def zkp (K : PySem.W.Frag) : List V → Hp → VK → Prop := fun xs H Q => ∃ (a : Addr) (ns : List Int), xs = [.ref a] ∧ SqL K H a (ns.map V.int) ∧ ns.length < 64 ∧ ∀ (l : Addr) (ms : List Int), H l = none → ms.Perm ns → ms.Pairwise (· ≤ ·) → Q (.ref l) (upd H l (.lst (ms.map V.int)))
theorem zls : CallR X (.builtin "sorted") (zkp X.K) := by
 intro pins s σ H xs us Q I r h
 obtain ⟨a, ns, rfl, hq, h64, q⟩ := h
 obtain ⟨u, rfl, r1⟩ := r.one
 cases r1
 obtain ⟨its, rv, pl, hz⟩ := I.list hq
 have hi := zpw rv
 have hlen := rv.length
 rw [List.length_map] at hlen hz
 refine sorted_ints pl.isList hi (by omega) fun out ms a1 a2 a3 => ?_
 obtain ⟨e, he⟩ := sortedAll_at s.heap its out
 refine ⟨.ref (s.heap.objs.size + 1), _, I.laid (t' := s.toks) (fun b o e => sortedAll_old e) (Nat.le_succ _) (show ObjOk X.prog X.w _ _ _ (.lst (ms.map V.int)) from ⟨?_, out.toList, e, zfv a1, ?_⟩), rfl, q _ _ (I.hok.fresh (Nat.le_succ _)) a2 a3⟩
 ·rw [List.length_map, a2.length_eq]; exact hz
 ·simpa [seqObj] using he
def zy8 (t ta tb : TT) : TT := fun σ H Q => t σ H fun c H1 => if c = true then ta σ H1 Q else tb σ H1 Q
theorem zu3 {c a b : Expr} {tc ta tb : TT} {pos : Pos} (hc : PT X c tc) (ha : PT X a ta) (hb : PT X b tb) : PT X (.IfExp c a b pos) (zy8 tc ta tb) := by
 intro pins s σ H Q I h
 refine isTrue_IfExp (thn (hc pins s σ H _ I h) fun d s1 ⟨H1, I1, q1⟩ => ?_)
 cases d with
 | true => exact ha pins s1 σ H1 Q I1 q1
 | false => exact hb pins s1 σ H1 Q I1 q1
mutual
def Dm.dat : Dm → PyData
 | .non => .none
 | .bl b => .bool b
 | .int i => .int i
 | .str x => .str x
 | .tup ds => .tuple (zgf ds)
 | .lst => .none
def zgf : List Dm → List PyData
 | [] => []
 | d :: ds => d.dat :: zgf ds
end
mutual
def Dm.shut : Dm → Bool
 | .tup ds => zh2 ds
 | .lst => false
 | .str x => PyData.strOk x
 | _ => true
def zh2 : List Dm → Bool
 | [] => true
 | d :: ds => d.shut && zh2 ds
end
mutual
theorem Dt.reads {pins : List (Addr × Obj)} {σ : St} {H : Hp} {s : Shared} (I : Inv X pins σ H s) : ∀ {x : V} {d : Dm} {u : Value}, Dt H x d → d.shut = true → RelV x u → ∃ as, Reads s.heap u d.dat as
 | _, _, _, .non, _, r => by cases r; exact ⟨_, .none⟩
 | _, _, _, .bl b, _, r => by cases r; exact ⟨_, .bool b⟩
 | _, _, _, .int i, _, r => by obtain ⟨t, rfl⟩ := r; exact ⟨_, .int i t⟩
 | _, _, _, .str x, _, r => by obtain ⟨t, rfl⟩ := r; exact ⟨_, .str x t⟩
 | _, _, _, .tup e ra, hs, r => by
  cases r
  obtain ⟨its, rv, ⟨o, ho, hc, n, hd⟩, _⟩ := I.tuple (SqT.of e)
  obtain ⟨as, q⟩ := DtA.reads I ra (by simpa [Dm.shut] using hs) rv
  exact ⟨as, by rw [Dm.dat]; exact .tuple ho hc hd (by simpa using q)⟩
 | _, _, _, .lst _, hs, _ => absurd hs (by simp [Dm.shut])
theorem DtA.reads {pins : List (Addr × Obj)} {σ : St} {H : Hp} {s : Shared} (I : Inv X pins σ H s) : ∀ {xs : List V} {ds : List Dm} {us : List Value}, DtA H xs ds → zh2 ds = true → Vals xs us → ∃ as, ReadsAll s.heap us (zgf ds) as
 | _, _, _, .nil, _, .nil => ⟨[], by rw [zgf]; exact .nil⟩
 | _, _, _, .cons r t, hs, .cons rv rt => by
  rw [zh2, Bool.and_eq_true] at hs
  obtain ⟨as, q1⟩ := Dt.reads I r hs.1 rv
  obtain ⟨bs, q2⟩ := DtA.reads I t hs.2 rt
  exact ⟨as ++ bs, by rw [zgf]; exact .cons q1 q2⟩
end
def EqD (H : Hp) (x y : V) (b : Bool) : Prop := ∃ d e, Dt H x d ∧ Dt H y e ∧ (d.shut = true ∧ SeqAt.shaped d.dat = true) ∧ (e.shut = true ∧ SeqAt.shaped e.dat = true) ∧ b = PyData.eqv d.dat e.dat
def q0g (_ : PySem.W.Frag) : R2 := fun x y H Q => ∃ b, EqD H x y b ∧ Q (.bl b) H
def zyg (_ : PySem.W.Frag) : R2 := fun x y H Q => ∃ b, EqD H x y b ∧ Q (.bl (!b)) H
theorem dNe (hu : X.A.units + 64 < cLine) : OpR X (compareOp .NotEq) (zyg X.K) := by
 intro pins s σ H x y v u Q I rx ry h
 obtain ⟨b, ⟨d, e, dx, dy, ⟨s1, s2⟩, ⟨s3, s4⟩, rfl⟩, q⟩ := h
 obtain ⟨as, ra⟩ := Dt.reads I dx s1 rx
 obtain ⟨bs, rb⟩ := Dt.reads I dy s3 ry
 exact ne_dataH ra rb s2 s4 hu ⟨.bl _, H, I, rfl, q⟩
end
end L2
set_option Elab.async false
set_option linter.all false
set_option maxRecDepth 100000
namespace L2
open PySem PySem.Spec PyProof.Rows
section
variable {κ : Type} [DecidableEq κ]
def zno (kvs : List (κ × V)) (k : κ) : Option V := (kvs.find? fun kv => decide (kv.1 = k)).map (·.2)
def zir (kvs : List (κ × V)) (k : κ) (v : V) : List (κ × V) :=
 if (kvs.any fun kv => decide (kv.1 = k)) = true then kvs.map (fun kv => if kv.1 = k then (kv.1, v) else kv) else kvs ++ [(k, v)]
theorem zj5 {p : κ × V} {r : List (κ × V)} {k : κ} (e : p.1 = k) : zno (p :: r) k = some p.2 := by simp [zno, List.find?_cons, e]
theorem zj6 {p : κ × V} {r : List (κ × V)} {k : κ} (e : ¬ p.1 = k) : zno (p :: r) k = zno r k := by simp [zno, List.find?_cons, e]
theorem znn (k : κ) : ∀ kvs : List (κ × V), (kvs.any fun kv => decide (kv.1 = k)) = (zno kvs k).isSome
 | [] => rfl
 | p :: r => by
  rw [List.any_cons]
  by_cases e : p.1 = k
  ·simp only [zj5 e, decide_eq_true e, Bool.true_or, Option.isSome_some]
  ·rw [zj6 e, decide_eq_false e, Bool.false_or]; exact znn k r
theorem zhf (kvs : List (κ × V)) (k : κ) (v : V) : (zir kvs k v).length ≤ kvs.length + 1 := by
 unfold zir
 split
 ·rw [List.length_map]; omega
 ·rw [List.length_append, List.length_cons, List.length_nil]; omega
theorem RelO.isSome_eq {o : Option V} {u : Option Value} (r : RelO o u) : o.isSome = u.isSome := by
 cases o with
 | none => cases u with
  | none => rfl
  | some _ => exact (show False from r).elim
 | some _ => cases u with
  | none => exact (show False from r).elim
  | some _ => rfl
theorem RelO.getD {o : Option V} {u : Option Value} {d : V} {d' : Value} (r : RelO o u) (rd : RelV d d') : RelV (o.getD d) (u.getD d') := by
 cases o with
 | none => cases u with
  | none => exact rd
  | some _ => exact (show False from r).elim
 | some _ => cases u with
  | none => exact (show False from r).elim
  | some _ => exact r
theorem KV.val {kvs : List (κ × V)} {vs : List (κ × Value)} (r : KV kvs vs) (k : κ) : RelO (zno kvs k) (valueAt vs k) := by
 unfold KV at r
 induction r with
 | nil => exact True.intro
 | @cons p q ps qs h t ih =>
  obtain ⟨h1, h2⟩ := h
  by_cases e : p.1 = k
  ·have e' : q.1 = k := h1.symm.trans e
   have b : valueAt (q :: qs) k = some q.2 := by simp [valueAt, List.find?_cons, e']
   rw [zj5 e, b]; exact h2
  ·have e' : ¬ q.1 = k := fun z => e (h1.trans z)
   have b : valueAt (q :: qs) k = valueAt qs k := by simp [valueAt, List.find?_cons, e']
   rw [zj6 e, b]; exact ih
theorem KV.any {kvs : List (κ × V)} {vs : List (κ × Value)} (r : KV kvs vs) (k : κ) : (kvs.any fun kv => decide (kv.1 = k)) = vs.any fun kv => decide (kv.1 = k) := by
 unfold KV at r
 induction r with
 | nil => rfl
 | cons h t ih => rw [List.any_cons, List.any_cons, ih, h.1]
theorem KV.repl {kvs : List (κ × V)} {vs : List (κ × Value)} (r : KV kvs vs) (k : κ) {y : V} {u : Value} (ry : RelV y u) :
  KV (kvs.map fun kv => if kv.1 = k then (kv.1, y) else kv) (vs.map fun kv => if kv.1 = k then (kv.1, u) else kv) := by
 unfold KV at r ⊢
 induction r with
 | nil => exact .nil
 | @cons p q ps qs h t ih =>
  rw [List.map_cons, List.map_cons]
  refine .cons ?_ ih
  obtain ⟨h1, h2⟩ := h
  by_cases e : p.1 = k
  ·rw [if_pos e, if_pos (h1.symm.trans e)]; exact ⟨h1, ry⟩
  ·rw [if_neg e, if_neg (fun z => e (h1.trans z))]; exact ⟨h1, h2⟩
theorem KV.put {kvs : List (κ × V)} {vs : List (κ × Value)} (r : KV kvs vs) (k : κ) {y : V} {u : Value} (ry : RelV y u) : KV (zir kvs k y) (stored vs k u) := by
 unfold zir stored
 rw [r.any k]
 by_cases e : (vs.any fun kv => decide (kv.1 = k)) = true
 ·rw [if_pos e, if_pos e]; exact r.repl k ry
 ·rw [if_neg e, if_neg e]; exact Paired.snoc r ⟨rfl, ry⟩
theorem KV.keys {kvs : List (κ × V)} {vs : List (κ × Value)} (r : KV kvs vs) : kvs.map (·.1) = vs.map (·.1) := by
 unfold KV at r
 induction r with
 | nil => rfl
 | cons h t ih => rw [List.map_cons, List.map_cons, ih, h.1]
theorem KV.length {kvs : List (κ × V)} {vs : List (κ × Value)} (r : KV kvs vs) : kvs.length = vs.length := Paired.length r
end
theorem zul {P : Program} {w : World} {k : Key} {u : Value} (r : RelV (kV k) u) : (z3j P w).is k u = true := by
 cases k with
 | inl i => obtain ⟨t, e⟩ := (show ∃ t, u = Value.int i t from r); subst e; exact zmx P w i t
 | inr x => obtain ⟨t, e⟩ := (show ∃ t, u = Value.str x t from r); subst e; exact zmw P w x t
theorem zl5 {P : Program} {w : World} : ∀ {ks : List Key} {us : List Value}, Vals (ks.map kV) us → ItemsAre (z3j P w) ks us
 | [], _, r => by rw [List.map_nil] at r; cases r; exact .nil
 | k :: ks, _, r => by
  rw [List.map_cons] at r
  cases r with
  | cons h t => exact .cons (zul h) (zl5 t)
abbrev KT (H : Hp) : List (List Key × V) → List (List Key × Addr × Value) → Prop := Paired fun p q => p.1 = q.1 ∧ H q.2.1 = some (.tup (p.1.map kV)) ∧ RelV p.2 q.2.2
theorem KT.val {H : Hp} {kvs : List (List Key × V)} {xs : List (List Key × Addr × Value)} (r : KT H kvs xs) (k : List Key) : RelO (zno kvs k) ((atKey xs k).map (·.2)) := by
 induction r with
 | nil => exact True.intro
 | @cons p q ps qs h t ih =>
  obtain ⟨h1, _, h2⟩ := h
  by_cases e : p.1 = k
  ·have e' : q.1 = k := h1.symm.trans e
   have b : atKey (q :: qs) k = some q.2 := by simp [atKey, List.find?_cons, e']
   rw [zj5 e, b]; exact h2
  ·have e' : ¬ q.1 = k := fun z => e (h1.trans z)
   have b : atKey (q :: qs) k = atKey qs k := by simp [atKey, List.find?_cons, e']
   rw [zj6 e, b]; exact ih
theorem KT.repl {H : Hp} {kvs : List (List Key × V)} {xs : List (List Key × Addr × Value)} (r : KT H kvs xs) (k : List Key) {y : V} {u : Value} (ry : RelV y u) :
  KT H (kvs.map fun kv => if kv.1 = k then (kv.1, y) else kv) (xs.map (putAt k u)) := by
 induction r with
 | nil => exact .nil
 | @cons p q ps qs h t ih =>
  rw [List.map_cons, List.map_cons]
  refine .cons ?_ ih
  obtain ⟨h1, h2, h3⟩ := h
  unfold putAt
  by_cases e : p.1 = k
  ·rw [if_pos e, if_pos (h1.symm.trans e)]; exact ⟨h1, h2, ry⟩
  ·rw [if_neg e, if_neg (fun z => e (h1.trans z))]; exact ⟨h1, h2, h3⟩
theorem KT.put {H : Hp} {kvs : List (List Key × V)} {xs : List (List Key × Addr × Value)} (r : KT H kvs xs) (k : List Key) {b : Addr} {y : V} {u : Value} (hb : H b = some (.tup (k.map kV))) (ry : RelV y u) :
  KT H (zir kvs k y) (storedH xs k b u) := by
 have e : (kvs.any fun kv => decide (kv.1 = k)) = (atKey xs k).isSome := by
  rw [znn, (r.val k).isSome_eq, Option.isSome_map]
 unfold zir storedH
 rw [e]
 by_cases q : (atKey xs k).isSome = true
 ·rw [if_pos q, if_pos q]; exact r.repl k ry
 ·rw [if_neg q, if_neg q]; exact Paired.snoc r ⟨rfl, hb, ry⟩
theorem KT.keeps {H H' : Hp} {kvs : List (List Key × V)} {xs : List (List Key × Addr × Value)} (r : KT H kvs xs) (ht : ∀ b ys, H b = some (.tup ys) → H' b = some (.tup ys)) : KT H' kvs xs :=
 Paired.mapP r fun _ _ z => ⟨z.1, ht _ _ z.2.1, z.2.2⟩
section
variable {P : Program} {w : World} {H : Hp} {h : Heap} {a : Addr}
theorem zyc {u : HO} (ok : HOk P w H h) (e : Rd H a u) : ObjOk P w H h a u := e.ok ok
theorem zsh {kvs : List (Key × V)} (ok : HOk P w H h) (e : Rd H a (.dK kvs)) : kvs.length ≤ sizeLine ∧ (a == sysModules) = false ∧ ∃ vs, KV kvs vs ∧ h.DictOf (z3j P w) a vs :=
 show ObjOk P w H h a (.dK kvs) from zyc ok e
theorem zx2 {kvs : List (Key × V)} (ok : HOk P w H h) (e : H a = some (.dK kvs)) : kvs.length ≤ sizeLine ∧ (a == sysModules) = false ∧ ∃ vs, KV kvs vs ∧ h.DictOf (z3j P w) a vs := zsh ok (.inl e)
theorem zrw {ks : List Key} (ok : HOk P w H h) (e : H a = some (.tup (ks.map kV))) : (tupleKind (z3j P w)).is h ks a := by
 obtain ⟨_, its, r, o, h1, h2, n, h3⟩ := (show ObjOk P w H h a (.tup (ks.map kV)) from ok a _ e)
 exact ⟨o, its.toArray, n, h1, h2, h3, by simpa using zl5 r⟩
theorem zuw {kvs : List (List Key × V)} (ok : HOk P w H h) (e : Rd H a (.dT kvs)) : kvs.length ≤ sizeLine ∧ (a == sysModules) = false ∧
  ∃ xs, KT H kvs xs ∧ h.DictOfH (tupleKind (z3j P w)) a xs := by
 obtain ⟨z, y, xs, r, o, es, ep, h1, h2, h3, h4, h5⟩ := (show ObjOk P w H h a (.dT kvs) from zyc ok e)
 refine ⟨z, y, xs, r, o, es, ep, h1, h2, h3, h4, fun x hx => ?_, h5⟩
 have all : ∀ {l : List (List Key × V)} {m : List (List Key × Addr × Value)}, KT H l m → ∀ x ∈ m, (tupleKind (z3j P w)).is h x.1 x.2.1 := by
  intro l m q
  induction q with
  | nil => intro x hx; exact nomatch hx
  | @cons p q ps qs hq t ih =>
   intro x hx
   rcases List.mem_cons.mp hx with e | hx
   ·subst e
    exact zrw ok (by rw [← hq.1]; exact hq.2.1)
   ·exact ih x hx
 exact all r x hx
theorem q13 {kvs : List (List Key × V)} (ok : HOk P w H h) (e : H a = some (.dT kvs)) : kvs.length ≤ sizeLine ∧ (a == sysModules) = false ∧
  ∃ xs, KT H kvs xs ∧ h.DictOfH (tupleKind (z3j P w)) a xs := zuw ok (.inl e)
end
def DGet (H : Hp) (a : Addr) (y : V) (r : Option V) : Prop :=
 (∃ kvs k, Rd H a (.dK kvs) ∧ y = kV k ∧ r = zno kvs k) ∨ ∃ kvs k b, Rd H a (.dT kvs) ∧ y = .ref b ∧ H b = some (.tup (k.map kV)) ∧ r = zno kvs k
def DPut (H : Hp) (a : Addr) (y v : V) (H' : Hp) : Prop :=
 (∃ kvs k, H a = some (.dK kvs) ∧ y = kV k ∧ kvs.length < sizeLine ∧ H' = upd H a (.dK (zir kvs k v))) ∨
 ∃ kvs k b, H a = some (.dT kvs) ∧ y = .ref b ∧ H b = some (.tup (k.map kV)) ∧ kvs.length < sizeLine ∧ H' = upd H a (.dT (zir kvs k v))
theorem DGet.k {H : Hp} {a : Addr} {kvs : List (Key × V)} {k : Key} (e : H a = some (.dK kvs)) : DGet H a (kV k) (zno kvs k) := .inl ⟨kvs, k, .inl e, rfl, rfl⟩
theorem DGet.t {H : Hp} {a b : Addr} {kvs : List (List Key × V)} {k : List Key} (e : H a = some (.dT kvs)) (eb : H b = some (.tup (k.map kV))) : DGet H a (.ref b) (zno kvs k) := .inr ⟨kvs, k, b, .inl e, rfl, eb, rfl⟩
theorem DPut.k {H : Hp} {a : Addr} {kvs : List (Key × V)} {k : Key} {v : V} (e : H a = some (.dK kvs)) (hl : kvs.length < sizeLine) : DPut H a (kV k) v (upd H a (.dK (zir kvs k v))) := .inl ⟨kvs, k, e, rfl, hl, rfl⟩
theorem DPut.t {H : Hp} {a b : Addr} {kvs : List (List Key × V)} {k : List Key} {v : V} (e : H a = some (.dT kvs)) (eb : H b = some (.tup (k.map kV))) (hl : kvs.length < sizeLine) :
  DPut H a (.ref b) v (upd H a (.dT (zir kvs k v))) := .inr ⟨kvs, k, b, e, rfl, eb, hl, rfl⟩
section
variable {X : Cx} {pins : List (Addr × Obj)} {σ : St} {H : Hp} {s : Shared} {a : Addr} {y v : V} {u r : Value} {o : Option V} {A : Around} {E : Value → Shared → Prop}
theorem Inv.big (I : Inv X pins σ H s) : sysModules < s.heap.objs.size := by
 have h : mainGlobals < s.heap.objs.size := (I.mod.glob.keeps I.bk).lt
 exact Nat.lt_trans (by decide) h
theorem zsw {Q : Value → Shared → Prop} (hu : A.units + 1 < cLine) (I : Inv X pins σ H s) (g : DGet H a y (some v)) (ry : RelV y u) (h : ∀ w' s', Inv X pins σ H s' → RelV v w' → Q w' s') :
  wpAny (model X.prog X.w) A (getItem (.ref a) u) Q E s := by
 rcases g with ⟨kvs, k, e, ey, l⟩ | ⟨kvs, k, b, e, ey, eb, l⟩
 ·subst ey
  obtain ⟨z, hd, vs, rel, dd⟩ := zsh I.hok e
  obtain ⟨w', hw, rw'⟩ := RelO.some_of (v := v) (o := valueAt vs k) (by rw [l]; exact rel.val k)
  exact wpAny_getItem_of (zul ry) dd.mapOf hw (h w' _ (I.tok _) rw')
 ·subst ey
  cases (show u = Value.ref b from ry)
  obtain ⟨z, hd, xs, rel, dd⟩ := zuw I.hok e
  obtain ⟨w', hw, rw'⟩ := RelO.some_of (v := v) (o := (atKey xs k).map (·.2)) (by rw [l]; exact rel.val k)
  obtain ⟨p, hp, hp2⟩ := Option.map_eq_some_iff.mp hw
  refine wpAny_getItem_heap (tupleKind_room_in1 hu) (zrw I.hok eb) dd hp ?_
  rw [hp2]
  exact h w' _ (I.tok _) rw'
theorem zsu {h' : Heap} {t' : Nat} {ob : HO} (I : Inv X pins σ H s) (mu : Mut (H a)) (hs : Heap.SameBut a s.heap h') (he : ∃ q, h'.get? a = some q) (new : ObjOk X.prog X.w (upd H a ob) h' a ob) :
  Inv X pins σ (upd H a ob) { s with heap := h', toks := t' } :=
 I.write (x := a) (e := a) mu (.inl rfl) (fun b q hb z => (hs.2 b hb).trans z) he new
theorem zzp {P : Program} {w : World} {H' : Hp} {h' : Heap} {kvs : List (Key × V)} {vs : List (Key × Value)} (z : kvs.length ≤ sizeLine) (hd : (a == sysModules) = false) (rel : KV kvs vs) (dd : h'.DictOf (z3j P w) a vs) :
  ObjOk P w H' h' a (.dK kvs) := ⟨z, hd, vs, rel, dd⟩
theorem zsv {H' : Hp} {Q : Unit → Shared → Prop} (hu : A.units + 1 < cLine) (I : Inv X pins σ H s) (g : DPut H a y v H') (ry : RelV y u) (rv : RelV v r) (h : ∀ s', Inv X pins σ H' s' → Q () s') :
  wpAny (model X.prog X.w) A (setItem (.ref a) u r) Q E s := by
 rcases g with ⟨kvs, k, e, ey, l, eH⟩ | ⟨kvs, k, b, e, ey, eb, l, eH⟩
 ·subst ey eH
  obtain ⟨z, hd, vs, rel, dd⟩ := zx2 I.hok e
  have hz : vs.length ≤ sizeLine := by rw [← rel.length]; exact z
  have hl : (zir kvs k v).length ≤ sizeLine := by have := zhf kvs k v; omega
  refine wpAny_setItem_pairs (hsz := hz) (zul ry) dd fun h' dd' hs => h _ ?_
  have he : ∃ q, h'.get? a = some q := let ⟨q, _, _, hq, _⟩ := dd'; ⟨q, hq⟩
  exact zsu I (by rw [e]; exact True.intro) hs he (zzp hl hd (rel.put k rv) dd')
 ·subst ey eH
  cases (show u = Value.ref b from ry)
  obtain ⟨z, hd, xs, rel, dd⟩ := q13 I.hok e
  have hz : xs.length ≤ sizeLine := by rw [← Paired.length rel]; exact z
  have hl : (zir kvs k v).length ≤ sizeLine := by have := zhf kvs k v; omega
  refine wpAny_setItem_heap (hsz := hz) (tupleKind_room_in1 hu) (zrw I.hok eb) dd fun h' dd' hs => h _ ?_
  obtain ⟨q, es, ep, hq, h2, h3, h4, _, h5⟩ := dd'
  refine zsu I (by rw [e]; exact True.intro) hs ⟨q, hq⟩ ⟨hl, hd, _, (rel.put k eb rv).keeps fun c ys ec => ?_, q, es, ep, hq, h2, h3, h4, h5⟩
  rw [z0e (z77 ec e (fun z => nomatch z))]
  exact ec
end
section
variable {X : Cx} {pins : List (Addr × Obj)} {σ : St} {H : Hp} {s : Shared} {a : Addr} {kvs : List (Key × V)} {k : Key} {u : Value} {A : Around} {E : Value → Shared → Prop}
end
def q1o (i : Expr) : Prop := ∀ ov iv, subscripted i false ov iv = operate [ov, iv] (getItem ov iv)
theorem zvy {prog : Program} {w : World} {A : Around} {E : Value → Shared → Prop} {s : Shared} {env : Env} {value slice : Expr} {pos : Pos} {T id : String} {Q : Value → Shared → Prop}
  (hl : typeLookup (.type T) "__getitem__" = pure (some (.builtin id))) (hs : q1o slice)
  (h : wpAny (model prog w) A (eval value env) (fun o s₁ => wpAny (model prog w) A (eval slice env) (fun i s₂ => s₂.TypeIs o T ∧ wpAny (model prog w) A (getItem o i) Q E s₂) E s₁) E s) :
  wpAny (model prog w) A (eval (.Subscript value slice pos) env) Q E s := by
 refine Subscript_ (wpAny_mono h (fun o s₁ h₁ => wpAny_mono h₁ (fun i s₂ h₂ => ?_) fun _ _ x => x) fun _ _ x => x)
 obtain ⟨hT, h₂⟩ := h₂
 unfold subscriptTail
 refine wpAny_bind ?_
 rw [getitemInPython_of_ne hT.not_modules]
 refine wpAny_bind (wpAny_specialOf hT hl ?_)
 have fin : wpAny (model prog w) A (subscripted slice false o i) (fun r s₃ => wpAny (model prog w) A (letTemporaryGo value o r >>= fun _ => pure r) Q E s₃) E s₂ := by
  rw [hs o i]
  exact wpAny_operating (wpAny_mono h₂ (fun r s₃ h₃ => wpAny_bind (wpAny_letTemporaryGo (wpAny_pure h₃))) fun _ _ x => x)
 first
  | exact wpAny_pure (wpAny_bind fin)
  | exact wpAny_bind (wpAny_pure (wpAny_bind fin))
  | exact wpAny_bind fin
theorem zn8 {X : Cx} {pins : List (Addr × Obj)} {σ : St} {H : Hp} {s : Shared} {a : Addr} {y : V} {o : Option V} (I : Inv X pins σ H s) (g : DGet H a y o) : s.TypeIs (.ref a) "dict" := by
 rcases g with ⟨kvs, k, e, _, _⟩ | ⟨kvs, k, b, e, _, _, _⟩
 ·obtain ⟨_, _, vs, _, dd⟩ := zsh I.hok e
  exact dd.typeIs
 ·obtain ⟨_, _, xs, _, dd⟩ := zuw I.hok e
  exact dd.typeIs
def zqq (td ty : TE) : TE := fun σ H Q => td σ H fun x H1 => ty σ H1 fun y H2 => ∃ a v, x = .ref a ∧ DGet H2 a y (some v) ∧ Q v H2
def zqw (td ty tv : TE) : TS := fun D σ H => tv σ H fun v H1 => td σ H1 fun x H2 => ty σ H2 fun y H3 => ∃ a H4, x = .ref a ∧ DPut H3 a y v H4 ∧ D.nx σ H4
section
variable {X : Cx} {o i e value : Expr} {pos pos' tpos : Pos} {td ty tv : TE}
theorem zmk (hu : X.A.units + 1 < cLine) (ho : PE X o td) (hi : PE X i ty) (hs : q1o i) : PE X (.Subscript o i pos) (zqq td ty) := by
 intro pins s σ H Q I h
 refine zvy PySem.F.slot_dict_getitem.lookup hs (thn (ho pins s σ H _ I h) fun u s1 ⟨x, H1, I1, rx, q1⟩ => thn (hi pins s1 σ H1 _ I1 q1) fun iv s2 ⟨y, H2, I2, ry, a, v, ex, g, q2⟩ => ?_)
 subst ex
 obtain rfl : u = Value.ref a := rx
 exact ⟨zn8 I2 g, zsw hu I2 g ry fun w' s3 I3 rw' => ⟨v, H2, I3, rw', q2⟩⟩
theorem zjf (hu : X.A.units + 1 < cLine) (ho : PE X o td) (hi : PE X i ty) (hv : PE X value tv) (hs : swapsWith value (some (.Subscript o i pos')) pos.line X.env = pure false) :
  PS X (.Assign [.Subscript o i pos'] value pos) (zqw td ty tv) := by
 intro pins s σ H D I h
 refine wpAny_Assign_Subscript (thn (hv pins s σ H _ I h) fun r s1 ⟨v, H1, I1, rv, q1⟩ => thn (ho pins s1 σ H1 _ I1 q1) fun u s2 ⟨x, H2, I2, rx, q2⟩ => thn (hi pins s2 σ H2 _ I2 q2) fun iv s3 ⟨y, H3, I3, ry, a, H4, ex, g, q3⟩ => ?_) hs
 subst ex
 obtain rfl : u = Value.ref a := rx
 exact zsv hu I3 g ry rv fun s4 I4 => ⟨σ, H4, I4, q3⟩
end
theorem zux {P : Program} {w : World} {H : Hp} (h : Heap) (hb : sysModules < h.objs.size) : ObjOk P w H (h.push { cls := .type "dict", data := .dict #[] }) h.objs.size (.dK []) :=
 ⟨Nat.zero_le _, beq_eq_false_iff_ne.mpr (Ne.symm (Nat.ne_of_lt hb)), [], .nil, Heap.DictOf.new h⟩
def zkf : TE := fun _ H Q => ∀ p, H p = none → Q (.ref p) (upd H p (.dK []))
section
variable {X : Cx} {pos : Pos}
theorem zoa : PE X (.Dict [] [] pos) zkf := fun pins s σ H Q I h =>
 wpAny_Dict_empty ⟨.ref s.heap.objs.size, _, I.laid (a := s.heap.objs.size) (o := .dK []) (t' := s.toks) (fun _ _ q => Heap.get?_push_of_some _ q) (Nat.le_refl _) (zux s.heap I.big), rfl, h _ (I.hok.fresh (Nat.le_refl _))⟩
end
def zil : List (TE × TE) → St → Hp → (List (V × V) → Hp → Prop) → Prop
 | [], _, H, Q => Q [] H
 | (tk, tv) :: r, σ, H, Q => tk σ H fun x H1 => tv σ H1 fun y H2 => zil r σ H2 fun ps H3 => Q ((x, y) :: ps) H3
def zz5 (kvs more : List (Key × V)) : List (Key × V) := more.foldl (fun acc kv => zir acc kv.1 kv.2) kvs
def ztr (trs : List (TE × TE)) : TE := fun σ H Q => ∀ p, H p = none → zil trs σ (upd H p (.dK [])) fun ps H2 => H2 p = some (.dK []) ∧ ∃ kvs : List (Key × V), ps = kvs.map (fun kv => (kV kv.1, kv.2)) ∧ kvs.length ≤ 15 ∧ Q (.ref p) (upd H2 p (.dK (zz5 [] kvs)))
structure M1 (X : Cx) (o : Expr) (m : Str) (apos : Pos) (e : Expr) (cpos : Pos) : Prop where
 base : attributeBase o m X.env (eval o X.env) = eval o X.env
 few : ((backTo cpos (starEach [e] X.env)).all (fun x => !x.1) && (backToKw cpos (keywordEach [] X.env)).all (fun x => x.1.isSome)
  && decide (([e] : List Expr).length + ([] : List Keyword).length + (if ([] : List Keyword).isEmpty then 0 else 1) < 30)) = true
 line : (apos.endLine == cpos.line) = true
 trees : backTo cpos (starEach [e] X.env) = [(false, eval e X.env)]
structure M2 (X : Cx) (o : Expr) (m : Str) (apos : Pos) (e f : Expr) (cpos : Pos) : Prop where
 base : attributeBase o m X.env (eval o X.env) = eval o X.env
 few : ((backTo cpos (starEach [e, f] X.env)).all (fun x => !x.1) && (backToKw cpos (keywordEach [] X.env)).all (fun x => x.1.isSome)
  && decide (([e, f] : List Expr).length + ([] : List Keyword).length + (if ([] : List Keyword).isEmpty then 0 else 1) < 30)) = true
 line : (apos.endLine == cpos.line) = true
 trees : backTo cpos (starEach [e, f] X.env) = [(false, eval e X.env), (false, eval f X.env)]
def IsD (H : Hp) (a : Addr) : Prop := (∃ kvs, Rd H a (.dK kvs)) ∨ ∃ kvs, Rd H a (.dT kvs)
theorem zzf {X : Cx} {pins : List (Addr × Obj)} {σ : St} {H : Hp} {s : Shared} {a : Addr} (I : Inv X pins σ H s) (d : IsD H a) :
  s.TypeIs (.ref a) "dict" ∧ (∀ b, Value.ref a = .ref b → ∃ ob, s.heap.get? b = some ob ∧ ob.dict = none) ∧ (a == sysModules) = false := by
 rcases d with ⟨kvs, e⟩ | ⟨kvs, e⟩
 ·obtain ⟨_, hd, vs, _, dd⟩ := zsh I.hok e
  refine ⟨dd.typeIs, fun b q => ?_, hd⟩
  cases q
  obtain ⟨ob, _, _, h1, h2, _⟩ := dd
  exact ⟨ob, h1, h2.2.1⟩
 ·obtain ⟨_, hd, xs, _, dd⟩ := zuw I.hok e
  refine ⟨dd.typeIs, fun b q => ?_, hd⟩
  cases q
  obtain ⟨ob, _, _, h1, h2, _⟩ := dd
  exact ⟨ob, h1, h2.2.1⟩
section
variable {X : Cx} {pins : List (Addr × Obj)} {σ : St} {H : Hp} {s : Shared} {a : Addr} {y d : V} {u r : Value} {o : Option V} {A : Around} {E : Value → Shared → Prop}
end
def zns (td ty : TE) : TE := fun σ H Q => td σ H fun x H1 => ∃ a, x = .ref a ∧ IsD H1 a ∧ ty σ H1 fun y H2 => ∃ o, DGet H2 a y o ∧ Q (o.getD .non) H2
def zqp (td ty tx : TE) : TE := fun σ H Q => td σ H fun x H1 => ∃ a, x = .ref a ∧ IsD H1 a ∧ ty σ H1 fun y H2 => tx σ H2 fun z H3 => ∃ o, DGet H3 a y o ∧ Q (o.getD z) H3
section
variable {X : Cx} {o e f : Expr} {apos cpos : Pos} {td ty tx : TE}
end
section
variable {X : Cx} {pins : List (Addr × Obj)} {σ : St} {H : Hp} {s : Shared} {a : Addr} {kvs : List (Key × V)} {A : Around} {E : Value → Shared → Prop}
end
section
variable {X : Cx} {pins : List (Addr × Obj)} {σ : St} {H : Hp} {s : Shared} {a : Addr} {y : V} {u : Value} {A : Around} {E : Value → Shared → Prop}
end
end L2
namespace L2
open PySem PySem.Spec PyProof.Rows
section
variable {X : Cx}
end
section
variable {κ : Type} [DecidableEq κ]
end
end L2
set_option Elab.async false
set_option linter.all false
set_option maxRecDepth 100000
namespace L2
open PySem PySem.Spec PyProof.Rows
section
variable {X : Cx}
def q2f (K : PySem.W.Frag) (a : Addr) (f : Int → Option Value) : Prop := ∃ o es ep, K.lookup a = some o ∧ o.ExactDict ∧ o.data = .dict es ep ∧ (∀ e ∈ es, ∃ k, Value.isInt k e.key = true ∧ e.hash = hashInt k) ∧ ∀ k, findBy Value.isInt es k = f k
def ztp (K : PySem.W.Frag) (td ty : TE) : TE := fun σ H Q => td σ H fun x H1 => ty σ H1 fun y H2 => ∃ a k u v f, x = .ref a ∧ y = .int k ∧ q2f K a f ∧ f k = some u ∧ RelV v u ∧ Q v H2
end
end L2
set_option Elab.async false
set_option linter.all false
set_option maxRecDepth 100000
namespace L2
open PySem PySem.Spec PyProof.Rows
section
variable {X : Cx} {pins : List (Addr × Obj)} {σ : List (Option V)} {H : Hp} {s : Shared} {h' : Heap}
theorem Inv.turnedL {t' : Nat} {ch : List Addr} (I : Inv X pins σ H s) (k : ∀ b o, b ∉ ch → s.heap.get? b = some o → h'.get? b = some o) (hf : ∀ b ∈ ch, FpOk X pins H b) : Inv X pins σ H { s with heap := h', toks := t' } := by
 have nit : ∀ b u, H b = some u → b ∉ ch := fun b u e z => by rw [(hf b z).1] at e; cases e
 refine I.step (g' := s.gens) (d' := s.drawn) (ch := ch) (fun b hb => ?_) (fun b o _ _ hc e _ => k b o hc e) (fun b o _ _ hc e _ => ⟨o.slots, k b o hc e⟩) (fun _ _ _ _ n => n)
  (fun b o hc e => ⟨o, k b o hc e⟩) (fun _ _ e => e) (fun _ _ _ e => e) (fun b ps e => ⟨#[], by rw [e]; simp⟩) (fun m hm => ?_) (fun b u e => ?_) I.bare
 ·obtain ⟨_, f1, _, f3, f4, f5⟩ := hf b hb
  exact ⟨f3, f1, f4, f5⟩
 ·obtain ⟨o, es, ep, ho, r⟩ := hm
  exact ⟨o, es, ep, k _ o (fun z => (hf _ z).2.1 rfl) ho, r⟩
 ·refine (I.hok b u e).stay (fun c v hc q => k c v ?_ q) (fun _ q => q) fun _ _ q => q
  rcases hc with z | z
  ·rw [z]; exact nit b u e
  ·exact nit c _ z
end
def Ite (K : PySem.W.Frag) (a : Addr) : It :=
 ⟨fun i H => ∃ xs x, SqL K H a xs ∧ xs[i]? = some x, fun i H x H' => ∃ T v, x = .ref T ∧ H T = none ∧ H' = upd H T (.tup [.int i, v]) ∧ ∀ xs, SqL K H a xs → xs[i]? = some v, fun i H => ∃ xs, SqL K H a xs ∧ xs.length ≤ i⟩
def Itz (K : PySem.W.Frag) (a b : Addr) : It :=
 ⟨fun i H => ∃ xs ys x y, SqL K H a xs ∧ SqL K H b ys ∧ xs[i]? = some x ∧ ys[i]? = some y, fun i H x H' => ∃ T u v, x = .ref T ∧ H T = none ∧ H' = upd H T (.tup [u, v]) ∧ (∀ xs, SqL K H a xs → xs[i]? = some u) ∧ ∀ ys, SqL K H b ys → ys[i]? = some v,
  fun i H => ∃ xs ys, SqL K H a xs ∧ SqL K H b ys ∧ (xs.length ≤ i ∨ ys.length ≤ i)⟩
theorem zqf : (2 : Nat) ≤ sizeLine := by decide
section
variable {X : Cx}
def q12 (K : PySem.W.Frag) (ta : TA) : TI := fun σ H R => ta σ H fun vs H1 => ∃ a, vs = [.ref a] ∧ (∃ xs, SqL K H1 a xs) ∧ R (Ite K a) H1
end
section
variable {X : Cx}
def q23 (K : PySem.W.Frag) (ta : TA) : TI := fun σ H R => ta σ H fun vs H1 => ∃ a b, vs = [.ref a, .ref b] ∧ (∃ xs, SqL K H1 a xs) ∧ (∃ ys, SqL K H1 b ys) ∧ R (Itz K a b) H1
end
end L2
set_option Elab.async false
set_option linter.all false
set_option maxRecDepth 100000
namespace L2
open PySem PySem.Spec PyProof.Rows
theorem Room.units1 {k : Nat} {A : Around} (r : Room k A) : A.units + 1 < cLine := by have := r.un; omega
section
variable {X : Cx}
theorem zij (hc : X.calm = true) : CallR X (.type "list") (fun xs H Q => ∃ (a : Addr) (kvs : List (Key × V)), xs = [.ref a] ∧ Rd H a (.dK kvs) ∧ ∀ l, H l = none → Q (.ref l) (upd H l (.lst (kvs.map fun kv => kV kv.1)))) := by
 intro pins s σ H xs us Q I r h
 obtain ⟨a, kvs, rfl, e, q⟩ := h
 obtain ⟨u, rfl, r1⟩ := r.one
 cases r1
 obtain ⟨z, hd, vs, rel, dd⟩ := zsh I.hok e
 obtain ⟨ep, da⟩ := dd.dictAt
 have hlen : kvs.length = vs.length := rel.length
 refine PySem.W.kdl_call (PySem.W.kdl_dict (knd := z3j X.prog X.w) (kvs := vs) (ep := ep) hd) (I.ok.hd hc) da (by omega) fun h' tk acc c' hk hS hacc => ?_
 have hv : Vals (kvs.map fun kv => kV kv.1) acc.toList := by
  have key : ∀ (kvs : List (Key × V)) (vs : List (Key × Value)), KV kvs vs → ∀ (us : List Value), us.length = vs.length → (∀ (j : Nat) v, us[j]? = some v → ∃ k x, vs[j]? = some (k, x) ∧ (z3j X.prog X.w).is k v = true) → Vals (kvs.map fun kv => kV kv.1) us := by
   intro kvs vs rel
   induction rel with
   | nil =>
    intro us hl _
    have : us = [] := List.length_eq_zero_iff.mp hl
    subst this
    exact .nil
   | cons rr _ ih =>
    rename_i kv0 vv0 _ _ _
    intro us hl hall
    match us, hl with
    | v :: us, hl =>
     refine .cons ?_ (ih us (by simpa using hl) fun j u hu => by simpa using hall (j + 1) u (by simpa using hu))
     obtain ⟨k, x, e1, e2⟩ := hall 0 v rfl
     have ek : vv0.1 = k := by
      have : vv0 = (k, x) := by simpa using e1
      rw [this]
     show RelV (kV kv0.1) v
     rw [rr.1, ek]
     rcases z3k e2 with ⟨i, t, rfl, rfl⟩ | ⟨y, t, rfl, rfl⟩
     ·exact ⟨t, rfl⟩
     ·exact ⟨t, rfl⟩
  exact key kvs vs rel acc.toList (by simpa using hacc.1) fun j v hv => hacc.2 j v (by simpa using hv)
 refine ⟨.ref s.heap.objs.size, _, I.laid (t' := tk) hk (Nat.le_refl _) (show ObjOk X.prog X.w _ _ _ (.lst _) from ⟨by rw [List.length_map]; exact z, acc.toList, c', hv, by simpa using hS⟩), rfl, q _ (I.hok.fresh (Nat.le_refl _))⟩
theorem zim : ∀ {ns : List Str} {us : List Value}, Vals (ns.map V.str) us → StrsAre us ns
 | [], _, .nil => .nil
 | n :: ns, _ :: _, .cons r t => by
  obtain ⟨k, rfl⟩ := r
  exact .cons n k (zim t)
theorem zfu : ∀ {ns : List Str} {us : List Value}, StrsAre us ns → Vals (ns.map V.str) us
 | _, _, .nil => .nil
 | _, _, .cons n t h => .cons ⟨t, rfl⟩ (zfu h)
def zko (K : PySem.W.Frag) : List V → Hp → VK → Prop := fun xs H Q => ∃ (a : Addr) (ns : List Str), xs = [.ref a] ∧ SqL K H a (ns.map V.str) ∧ ns.length < 64 ∧ ∀ (l : Addr) (ms : List Str), H l = none → ms.Perm ns → sortedS ms = true → Q (.ref l) (upd H l (.lst (ms.map V.str)))
theorem zlr : CallR X (.builtin "sorted") (zko X.K) := by
 intro pins s σ H xs us Q I r h
 obtain ⟨a, ns, rfl, hq, h64, q⟩ := h
 obtain ⟨u, rfl, r1⟩ := r.one
 cases r1
 obtain ⟨its, rv, pl, hz⟩ := I.list hq
 have hi := zim rv
 have hlen := rv.length
 rw [List.length_map] at hlen hz
 refine sorted_strs pl.isList hi (by omega) fun out ms a1 a2 a3 => ?_
 obtain ⟨e, he⟩ := sortedAll_at s.heap its out
 refine ⟨.ref (s.heap.objs.size + 1), _, I.laid (t' := s.toks) (fun b o e => sortedAll_old e) (Nat.le_succ _) (show ObjOk X.prog X.w _ _ _ (.lst (ms.map V.str)) from ⟨?_, out.toList, e, zfu a1, ?_⟩), rfl, q _ _ (I.hok.fresh (Nat.le_succ _)) a2 a3⟩
 ·rw [List.length_map, a2.length_eq]; exact hz
 ·simpa [seqObj] using he
def zj9 (r r' r'' : R2) (ta tb tc td : TE) : TT := fun σ H Q => ta σ H fun x H1 => tb σ H1 fun y H2 => r x y H2 fun z H3 => ∃ k, z = .bl k ∧ (if k = true then tc σ H3 fun w H4 => r' y w H4 fun z H5 => ∃ k, z = .bl k ∧
 (if k = true then td σ H5 fun v H6 => r'' w v H6 fun z H7 => ∃ k, z = .bl k ∧ Q k H7 else Q false H5) else Q false H3)
def q25 (K : PySem.W.Frag) (tl : TE) : TI := fun σ H R => tl σ H fun x H1 => ∃ a, x = .ref a ∧ (((∃ xs, SqL K H1 a xs) ∧ R (Itl K a) H1) ∨ ((∃ xs, SqT K H1 a xs) ∧ R (Itt K a) H1))
end
section
variable {X : Cx}
def q1c (K : PySem.W.Frag) (H : Hp) (x y : V) (b : Bool) : Prop := ∃ a c xs ys ds es, x = .ref a ∧ y = .ref c ∧ SqL K H a xs ∧ SqL K H c ys ∧ DtA H xs ds ∧ DtA H ys es ∧ zh2 ds = true ∧ zh2 es = true ∧ SeqAt.shaped (.list (zgf ds)) = true ∧ SeqAt.shaped (.list (zgf es)) = true ∧ b = PyData.eqv (.list (zgf ds)) (.list (zgf es))
def zpf (K : PySem.W.Frag) : R2 := fun x y H Q => ∃ b, q1c K H x y b ∧ Q (.bl b) H
def zqz (K : PySem.W.Frag) : R2 := fun x y H Q => ∃ b, q1c K H x y b ∧ Q (.bl (!b)) H
theorem Inv.readsDL {pins : List (Addr × Obj)} {σ : St} {H : Hp} {s : Shared} {a : Addr} {xs : List V} {ds : List Dm} (I : Inv X pins σ H s) (h : SqL X.K H a xs) (d : DtA H xs ds) (hs : zh2 ds = true) : ∃ as, Reads s.heap (.ref a) (.list (zgf ds)) as := by
 obtain ⟨its, r, ⟨o, n, e, c, _, dd⟩, _⟩ := I.list h
 obtain ⟨as, q⟩ := DtA.reads I d hs r
 exact ⟨_, .list e c dd (by simpa using q)⟩
theorem zzo (hu : X.A.units + 64 < cLine) : OpR X (compareOp .Eq) (zpf X.K) := by
 intro pins s σ H x y v u Q I rx ry h
 obtain ⟨b, ⟨a, c, xs, ys, ds, es, rfl, rfl, h1, h2, d1, d2, s1, s2, s3, s4, rfl⟩, q⟩ := h
 cases rx; cases ry
 obtain ⟨as, ra⟩ := I.readsDL h1 d1 s1
 obtain ⟨bs, rb⟩ := I.readsDL h2 d2 s2
 exact eq_dataH ra rb s3 s4 hu ⟨.bl _, H, I, rfl, q⟩
theorem q0j (hu : X.A.units + 64 < cLine) : OpR X (compareOp .NotEq) (zqz X.K) := by
 intro pins s σ H x y v u Q I rx ry h
 obtain ⟨b, ⟨a, c, xs, ys, ds, es, rfl, rfl, h1, h2, d1, d2, s1, s2, s3, s4, rfl⟩, q⟩ := h
 cases rx; cases ry
 obtain ⟨as, ra⟩ := I.readsDL h1 d1 s1
 obtain ⟨bs, rb⟩ := I.readsDL h2 d2 s2
 exact ne_dataH ra rb s3 s4 hu ⟨.bl _, H, I, rfl, q⟩
end
end L2
set_option Elab.async false
set_option linter.all false
set_option maxRecDepth 100000
namespace L2
open PySem PySem.Spec PyProof.Rows
def Ris (xs : Array Nat) : Prop := xs.toList.Pairwise (· < ·)
theorem Ris.lt {xs : Array Nat} (h : Ris xs) {i j : Nat} (hij : i < j) (hj : j < xs.size) (d : Nat) : xs.getD i d < xs.getD j d := by
 have e := List.pairwise_iff_getElem.mp h i j (by simp; omega) (by simpa using hj) hij
 simpa [Array.getD, hj, Nat.lt_trans hij hj] using e
end L2
set_option Elab.async false
set_option linter.all false
set_option maxRecDepth 100000
namespace L2
open PySem PySem.Spec PyProof.Rows
section
variable {prog : Program} {w : World} {κ : Type} [DecidableEq κ] (knd : PySem.KeyKind prog w κ) (key : Value → κ)
def SetX (a : Addr) (L : Bool) (ks : List κ) (h : Heap) : Prop :=
 ∃ o es ep t, h.get? a = some o ∧ o.ExactSet ∧ o.data = .set es ep t ∧ ElemsOf knd es.toList ∧ ks = es.toList.map (fun e => key e.2) ∧ ks.Nodup ∧ es.size < scanBound ∧ t.fits es.size = true ∧ Ris t.place ∧ t.led = L
variable {knd key} {A : Around} {E : Value → Shared → Prop} {s : Shared} {a : Addr} {L : Bool} {ks : List κ}
theorem SetX.len {h : Heap} (x : SetX knd key a L ks h) : ks.length < scanBound := by
 obtain ⟨o, es, ep, t, _, _, _, _, rfl, _, hb, _⟩ := x
 simpa using hb
abbrev zzx (w : World) : Bool := w.params.followText "set-order"
end
end L2
set_option Elab.async false
set_option linter.all false
set_option maxRecDepth 100000
namespace L2
open PySem PySem.Spec PyProof.Rows
section
variable {prog : Program} {w : World} {A : Around} {E : Value → Shared → Prop} {s : Shared} {S I : Addr} {es : Array (Int × Value)} {ep : Nat} {t : SetTable} {o : Obj}
end
end L2
set_option Elab.async false
set_option linter.all false
set_option maxRecDepth 100000
namespace L2
open PySem PySem.Spec PyProof.Rows
section
variable {prog : Program} {w : World} {A : Around} {E : Value → Shared → Prop} {s : Shared} {S I : Addr} {es : Array (Int × Value)} {ep : Nat} {t : SetTable} {o : Obj}
def q21 : Value → Int
 | .int k _ => k
 | _ => 0
end
end L2
set_option Elab.async false
set_option linter.all false
set_option maxRecDepth 100000
namespace L2
open PySem PySem.Spec PyProof.Rows
def q1g (P : Program) (w : World) (p : Addr) (ks : List Int) : HO := .ext (SetX (intKind P w) q21 p (!zzx w) ks)
def q0v (P : Program) (w : World) (K : PySem.W.Frag) : List V → Hp → VK → Prop := fun xs H Q => ∃ (a : Addr) (ns : List Int), xs = [.ref a] ∧ SqL K H a (ns.map V.int) ∧ ns.length ≤ 1000 ∧
 ∀ (p : Addr) (ks : List Int), H p = none → ks.Nodup → (∀ x, x ∈ ks ↔ x ∈ ns) → ks.length ≤ ns.length → Q (.ref p) (upd H p (q1g P w p ks))
def ztz (P : Program) (w : World) : List V → Hp → VK → Prop := fun xs H Q => ∃ (a : Addr) (ks : List Int), xs = [.ref a] ∧ H a = some (q1g P w a ks) ∧ ks.length < 64 ∧
 ∀ (l : Addr) (ms : List Int), H l = none → ms.Perm ks → ms.Pairwise (· ≤ ·) → Q (.ref l) (upd H l (.lst (ms.map V.int)))
section
variable {X : Cx}
end
end L2
set_option Elab.async false
set_option linter.all false
set_option maxRecDepth 100000
namespace L2
open PySem PyProof.Rows
def znu (L : Addr → Sp → Prop) (i : Nat) (t : TA) : TE := fun σ H Q => ∃ f, σ[i]? = some (some (.ref f)) ∧ ∃ sp, L f sp ∧ t σ H fun vs H1 => sp vs H1 Q E0
end L2
set_option Elab.async false
set_option linter.all false
set_option maxRecDepth 100000
namespace L2
open PySem PyProof.Rows
section
variable {P : Program} {w : World} {A : Around} {E : Value → Shared → Prop} {s : Shared}
theorem zod {it t : Addr} {i : Nat} {its : Array Value} {x : Value} {Q : Value → Shared → Prop} (a : s.heap.IsTupleIter it t i) (b : s.heap.IsTuple t its) (c : its[i]? = some x)
  (q : ∀ h', h'.IsTupleIter it t (i + 1) → Heap.SameBut it s.heap h' → Q x { s with heap := h' }) : wpAny (model P w) A (Builtin.SmallTypes.nextOf (.ref it)) Q E s := by
 have ty := a.typeIs
 obtain ⟨⟨_, dc, _, sl⟩, eo, rfl, rfl⟩ := a
 obtain ⟨⟨_, dl, _, ll⟩, el, rfl, nl, rfl⟩ := b
 rw [Builtin.SmallTypes.nextOf]
 refine wpAny_bind (wpAny_callSpecial?_slot (name := "__next__") ty F.slot_tuple_iterator_next (wpAny_call_entry F.slot_tuple_iterator_next ty F.entry_tuple_iterator_next ?_ (F.args_tuple_iterator_next_1 _)))
 wp_walk
 simp only [Int.toNat_natCast, c]
 wp_walk
 exact ⟨_, rfl, wpAny_pure (q _ ⟨_, Heap.get?_update_self _ eo rfl, rfl, by simp [Obj.mapFields, rawInt]⟩ (Heap.SameBut.update ..))⟩
theorem zc0 {it t : Addr} {i : Nat} {its : Array Value} {Q : Value → Shared → Prop} (hh : A.handled = none) (a : s.heap.IsTupleIter it t i) (b : s.heap.IsTuple t its) (c : its[i]? = none)
  (q : ∀ h' e, Heap.ExtBut it s.heap h' → (∃ o, h'.get? e = some o ∧ o.cls = .type "StopIteration") → E (.ref e) { s with heap := h' }) : wpAny (model P w) A (Builtin.SmallTypes.nextOf (.ref it)) Q E s := by
 have ty := a.typeIs
 obtain ⟨⟨_, dc, _, sl⟩, eo, rfl, rfl⟩ := a
 obtain ⟨⟨_, dl, _, ll⟩, el, rfl, nl, rfl⟩ := b
 rw [Builtin.SmallTypes.nextOf]
 refine wpAny_bind (wpAny_callSpecial?_slot (name := "__next__") ty F.slot_tuple_iterator_next (wpAny_call_entry F.slot_tuple_iterator_next ty F.entry_tuple_iterator_next ?_ (F.args_tuple_iterator_next_1 _)))
 wp_walk
 simp only [Int.toNat_natCast, c]
 have hh' : A.in1.handled = none := hh
 wp_walk
 rw [raiseNew]
 wp_walk
 exact q _ _ (((Heap.SameBut.update ..).extBut.push _).push _) ⟨_, Heap.get?_push_size _ rfl, rfl⟩
theorem zm2 (t u : Addr) (xs ys : Array Value) : Meets (Builtin.«zip.__new__» ⟨[.type "zip", .ref t, .ref u], []⟩) (fun _ R s => s.heap.IsTuple t xs ∧ s.heap.IsTuple u ys ∧
  ∀ h', IsZip h' (s.heap.objs.size + 4) (s.heap.objs.size + 2) (s.heap.objs.size + 3) .none → IsPair h' (s.heap.objs.size + 2) (.ref s.heap.objs.size) (.ref (s.heap.objs.size + 1)) → IsPair h' (s.heap.objs.size + 3) .none .none →
   h'.IsTupleIter s.heap.objs.size t 0 → h'.IsTupleIter (s.heap.objs.size + 1) u 0 → h'.objs.size = s.heap.objs.size + 5 → (∀ c o, s.heap.get? c = some o → h'.get? c = some o) → R (.ok (.ret (.ref (s.heap.objs.size + 4)))) { s with heap := h' }) := by
 refine .of_wp fun prog w A R s h => ?_
 obtain ⟨hp, g, d, tk, os⟩ := s
 obtain ⟨h1, h2, h⟩ := h
 have zz := sub_zip
 have e1 : Heap.IsTuple (Shared.heap ⟨hp, g, d, tk, os⟩) t xs := h1
 have e2 : Heap.IsTuple (Shared.heap ⟨hp.push { cls := .type "tuple_iterator", data := .fields #[.ref t, .int 0 0] }, g, d, tk, os⟩) u ys := Heap.IsTuple.push h2 _
 wp_walk using wpAny_pyIter_tuple e1, wpAny_pyIter_tuple e2
 refine ⟨_, rfl, ?_⟩
 have put : ∀ {k : Heap} {o : Obj} {n : Nat}, n = k.objs.size → o.isFreed = false → (k.push o).get? n = some o := fun e f => by subst e; exact Heap.get?_push_size _ f
 have up : ∀ {k : Heap} {o o' : Obj} {n : Nat}, k.get? n = some o → (k.push o').get? n = some o := fun e => Heap.get?_push_of_some _ e
 simp only [Heap.size_push, Nat.add_assoc, Nat.reduceAdd]
 refine h _ ?_ ?_ ?_ ⟨_, up (up (up (up (put rfl rfl)))), rfl, rfl⟩ ⟨_, up (up (up (put (by simp [Heap.size_push]) rfl))), rfl, rfl⟩ (by simp [Heap.size_push]) fun c o x => up (up (up (up (up x))))
 ·exact put (by simp [Heap.size_push]) rfl
 ·exact up (up (put (by simp [Heap.size_push]) rfl))
 ·exact up (put (by simp [Heap.size_push]) rfl)
def Nx (P : Program) (w : World) (A : Around) (it : Addr) (Q : Value → Shared → Prop) (E : Value → Shared → Prop) (s : Shared) : Prop := wpAny (model P w) A (Builtin.SmallTypes.nextOf (.ref it)) Q E s
theorem zha {it : Addr} {Q : Value → Shared → Prop} (h : Nx P w A it Q E s) : wpAny (model P w) A (Builtin.SmallTypes.nextOf (.ref it)) Q E s := h
end
end L2
set_option Elab.async false
set_option linter.all false
set_option maxRecDepth 100000
namespace L2
open PySem PyProof.Rows
section
variable {P : Program} {w : World} {A : Around} {E : Value → Shared → Prop} {s : Shared}
set_option maxHeartbeats 8000000 in
theorem zp1 {z I O i1 i2 t u : Addr} {k : Nat} {xs ys : Array Value} {x y a b : Value} {Q : Value → Shared → Prop} (D : ZipApart z I O i1 i2 t u) (hz : IsZip s.heap z I O .none) (hI : IsPair s.heap I (.ref i1) (.ref i2)) (hO : IsPair s.heap O a b)
  (h1 : s.heap.IsTupleIter i1 t k) (h2 : s.heap.IsTupleIter i2 u k) (ht : s.heap.IsTuple t xs) (hu : s.heap.IsTuple u ys) (hx : xs[k]? = some x) (hy : ys[k]? = some y)
  (q : ∀ h', IsZip h' z I O (rawInt s.heap.objs.size) → IsPair h' O x y → h'.IsTupleIter i1 t (k + 1) → h'.IsTupleIter i2 u (k + 1) → IsPair h' s.heap.objs.size x y → h'.objs.size = s.heap.objs.size + 1 →
   (∀ c o, c ≠ z → c ≠ O → c ≠ i1 → c ≠ i2 → s.heap.get? c = some o → h'.get? c = some o) → Q (.ref s.heap.objs.size) { s with heap := h' }) :
  wpAny (model P w) A (Builtin.«zip.__next__» ⟨[.ref z], []⟩) (fun fin s' => ∃ v, fin = .done (.ret v) ∧ Q v s') E s := by
 wp_walk using wpAny_onRaise, zha
 have m0 : Heap.SameBut z s.heap (s.heap.update z (Obj.mapFields fun x => x.setIfInBounds 0 Value.ellipsis)) := Heap.SameBut.update ..
 have z0 : IsZip (s.heap.update z (Obj.mapFields fun x => x.setIfInBounds 0 Value.ellipsis)) z I O .ellipsis := Heap.get?_update_self _ hz rfl
 generalize s.heap.update z (Obj.mapFields fun x => x.setIfInBounds 0 Value.ellipsis) = g0 at m0 z0 ⊢
 refine zod (h1.extBut m0.extBut D.i1z) (ht.extBut m0.extBut D.l1z) hx fun g1 j1 m1 => ?_
 have o1 : IsPair g1 O a b := m1.extBut _ _ D.TOi1 (m0.extBut _ _ D.TOz hO)
 wp_walk using wpAny_onRaise, zha
 have m2 : Heap.SameBut O g1 (g1.update O (Obj.mapSeq fun v => v.setIfInBounds 0 x)) := Heap.SameBut.update ..
 have o2 : IsPair (g1.update O (Obj.mapSeq fun v => v.setIfInBounds 0 x)) O x b := Heap.get?_update_self _ o1 rfl
 generalize g1.update O (Obj.mapSeq fun v => v.setIfInBounds 0 x) = g2 at m2 o2 ⊢
 refine zod (((h2.extBut m0.extBut D.i2z).extBut m1.extBut D.i12.symm).extBut m2.extBut D.TOi2.symm) (((hu.extBut m0.extBut D.l2z).extBut m1.extBut D.l2i1).extBut m2.extBut D.l2TO) hy fun g3 j3 m3 => ?_
 have o3 : IsPair g3 O x b := m3.extBut _ _ D.TOi2 o2
 have z3 : IsZip g3 z I O .ellipsis := m3.extBut _ _ D.i2z.symm (m2.extBut _ _ D.TOz.symm (m1.extBut _ _ D.i1z.symm z0))
 wp_walk using wpAny_onRaise, zha
 have m4 : Heap.SameBut O g3 (g3.update O (Obj.mapSeq fun v => v.setIfInBounds (0 + 1) y)) := Heap.SameBut.update ..
 have o4 : IsPair (g3.update O (Obj.mapSeq fun v => v.setIfInBounds (0 + 1) y)) O x y := Heap.get?_update_self _ o3 rfl
 generalize g3.update O (Obj.mapSeq fun v => v.setIfInBounds (0 + 1) y) = g4 at m4 o4 ⊢
 have n4 : g4.objs.size = s.heap.objs.size := m4.1.trans (m3.1.trans (m2.1.trans (m1.1.trans m0.1)))
 rw [show ((fun v : Array Value => v.setIfInBounds (0 + 1) y) #[x, b]).toList.toArray = #[x, y] from rfl]
 have e5 : IsPair (g4.push { cls := .type "tuple", data := .seq #[x, y] }) g4.objs.size x y := Heap.get?_push_size _ rfl
 have z4 : IsZip (g4.push { cls := .type "tuple", data := .seq #[x, y] }) z I O .ellipsis := Heap.get?_push_of_some _ (m4.extBut _ _ D.TOz.symm z3)
 have k5 : ∀ c o, c ≠ z → c ≠ O → c ≠ i1 → c ≠ i2 → s.heap.get? c = some o → (g4.push { cls := .type "tuple", data := .seq #[x, y] }).get? c = some o := fun c o c1 c2 c3 c4 h => Heap.get?_push_of_some _ (m4.extBut _ _ c2 (m3.extBut _ _ c4 (m2.extBut _ _ c2 (m1.extBut _ _ c3 (m0.extBut _ _ c1 h)))))
 have o5 : IsPair (g4.push { cls := .type "tuple", data := .seq #[x, y] }) O x y := Heap.get?_push_of_some _ o4
 have y1 : (g4.push { cls := .type "tuple", data := .seq #[x, y] }).IsTupleIter i1 t (k + 1) := (((j1.extBut m2.extBut D.TOi1.symm).extBut m3.extBut D.i12).extBut m4.extBut D.TOi1.symm).at fun o h => Heap.get?_push_of_some _ h
 have y2 : (g4.push { cls := .type "tuple", data := .seq #[x, y] }).IsTupleIter i2 u (k + 1) := (j3.extBut m4.extBut D.TOi2.symm).at fun o h => Heap.get?_push_of_some _ h
 have s5 : (g4.push { cls := .type "tuple", data := .seq #[x, y] }).objs.size = s.heap.objs.size + 1 := by rw [size_push', n4]
 rw [n4] at e5
 rw [n4]
 generalize g4.push { cls := .type "tuple", data := .seq #[x, y] } = g5 at e5 z4 k5 o5 y1 y2 s5 ⊢
 wp_walk
 have m6 : Heap.SameBut z g5 ((g5.update z (Obj.mapFields fun v => v.setIfInBounds 0 (rawInt s.heap.objs.size))).update z (Obj.mapFields fun v => v.setIfInBounds 1 (Value.bool false))) := (Heap.SameBut.update ..).trans (Heap.SameBut.update ..)
 refine ⟨_, rfl, q _ (Heap.get?_update_self _ (Heap.get?_update_self _ z4 rfl) rfl) (m6.extBut _ _ D.TOz o5) (y1.extBut m6.extBut D.i1z) (y2.extBut m6.extBut D.i2z) (m6.extBut _ _ (Nat.ne_of_gt (Heap.lt_size hz)) e5) (m6.1.trans s5) fun c o c1 c2 c3 c4 h => m6.extBut _ _ c1 (k5 c o c1 c2 c3 c4 h)⟩
set_option maxHeartbeats 8000000 in
theorem zm3 {z I O i1 i2 t u : Addr} {k : Nat} {xs ys : Array Value} {a b : Value} {Q : Fin → Shared → Prop} (hh : A.handled = none) (D : ZipApart z I O i1 i2 t u) (hz : IsZip s.heap z I O .none) (hI : IsPair s.heap I (.ref i1) (.ref i2)) (hO : IsPair s.heap O a b)
  (h1 : s.heap.IsTupleIter i1 t k) (h2 : s.heap.IsTupleIter i2 u k) (ht : s.heap.IsTuple t xs) (hu : s.heap.IsTuple u ys) (hend : xs[k]? = none ∨ ys[k]? = none)
  (q : ∀ h' e, (∀ c o, c ≠ z → c ≠ O → c ≠ i1 → c ≠ i2 → s.heap.get? c = some o → h'.get? c = some o) → (∃ o, h'.get? e = some o ∧ o.cls = .type "StopIteration") → E (.ref e) { s with heap := h' }) :
  wpAny (model P w) A (Builtin.«zip.__next__» ⟨[.ref z], []⟩) Q E s := by
 wp_walk using wpAny_onRaise, zha
 have m0 : Heap.SameBut z s.heap (s.heap.update z (Obj.mapFields fun x => x.setIfInBounds 0 Value.ellipsis)) := Heap.SameBut.update ..
 have z0 : IsZip (s.heap.update z (Obj.mapFields fun x => x.setIfInBounds 0 Value.ellipsis)) z I O .ellipsis := Heap.get?_update_self _ hz rfl
 generalize s.heap.update z (Obj.mapFields fun x => x.setIfInBounds 0 Value.ellipsis) = g0 at m0 z0 ⊢
 cases hx : xs[k]? with
 | none =>
  refine zc0 hh (h1.extBut m0.extBut D.i1z) (ht.extBut m0.extBut D.l1z) hx fun g1 e1 m1 he => ?_
  have z1 : IsZip g1 z I O .ellipsis := m1 _ _ D.i1z.symm z0
  obtain ⟨oe, ho, hc⟩ := he
  have ne : e1 ≠ z := fun x => by subst x; rw [z1] at ho; cases ho; simp at hc
  exact wpAny_setField_rec z1 (by simp) fun h5 _ m5 => q h5 e1 (fun c o c1 c2 c3 c4 h => m5.extBut _ _ c1 (m1 _ _ c3 (m0.extBut _ _ c1 h))) ⟨oe, m5.extBut _ _ ne ho, hc⟩
 | some x =>
  have hy : ys[k]? = none := hend.resolve_left (by rw [hx]; simp)
  refine zod (h1.extBut m0.extBut D.i1z) (ht.extBut m0.extBut D.l1z) hx fun g1 j1 m1 => ?_
  have o1 : IsPair g1 O a b := m1.extBut _ _ D.TOi1 (m0.extBut _ _ D.TOz hO)
  wp_walk using wpAny_onRaise, zha
  have m2 : Heap.SameBut O g1 (g1.update O (Obj.mapSeq fun v => v.setIfInBounds 0 x)) := Heap.SameBut.update ..
  generalize g1.update O (Obj.mapSeq fun v => v.setIfInBounds 0 x) = g2 at m2 ⊢
  refine zc0 hh (((h2.extBut m0.extBut D.i2z).extBut m1.extBut D.i12.symm).extBut m2.extBut D.TOi2.symm) (((hu.extBut m0.extBut D.l2z).extBut m1.extBut D.l2i1).extBut m2.extBut D.l2TO) hy fun g3 e3 m3 he => ?_
  have z3 : IsZip g3 z I O .ellipsis := m3 _ _ D.i2z.symm (m2.extBut _ _ D.TOz.symm (m1.extBut _ _ D.i1z.symm z0))
  obtain ⟨oe, ho, hc⟩ := he
  have ne : e3 ≠ z := fun x => by subst x; rw [z3] at ho; cases ho; simp at hc
  exact wpAny_setField_rec z3 (by simp) fun h5 _ m5 => q h5 e3 (fun c o c1 c2 c3 c4 h => m5.extBut _ _ c1 (m3 _ _ c4 (m2.extBut _ _ c2 (m1.extBut _ _ c3 (m0.extBut _ _ c1 h))))) ⟨oe, m5.extBut _ _ ne ho, hc⟩
end
end L2
set_option Elab.async false
set_option linter.all false
set_option maxRecDepth 100000
namespace L2
open PySem PySem.Spec PyProof.Rows
section
variable {P : Program} {w : World} {A : Around} {E : Value → Shared → Prop} {s : Shared}
theorem zqc {z I O i1 i2 t u : Addr} {k : Nat} {xs ys : Array Value} {x y a b : Value} {Q : Option Value → Shared → Prop} (D : ZipApart z I O i1 i2 t u) (hz : IsZip s.heap z I O .none) (hI : IsPair s.heap I (.ref i1) (.ref i2)) (hO : IsPair s.heap O a b)
  (h1 : s.heap.IsTupleIter i1 t k) (h2 : s.heap.IsTupleIter i2 u k) (ht : s.heap.IsTuple t xs) (hu : s.heap.IsTuple u ys) (hx : xs[k]? = some x) (hy : ys[k]? = some y)
  (q : ∀ h', IsZip h' z I O (rawInt s.heap.objs.size) → IsPair h' O x y → h'.IsTupleIter i1 t (k + 1) → h'.IsTupleIter i2 u (k + 1) → IsPair h' s.heap.objs.size x y → h'.objs.size = s.heap.objs.size + 1 →
   (∀ c o, c ≠ z → c ≠ O → c ≠ i1 → c ≠ i2 → s.heap.get? c = some o → h'.get? c = some o) → Q (some (.ref s.heap.objs.size)) { s with heap := h' }) : wpAny (model P w) A (pyNext (.ref z)) Q E s := by
 have ty : s.TypeIs (.ref z) "zip" := ⟨_, hz, rfl⟩
 rw [pyNext]
 refine wpAny_bind (wpAny_attempt (wpAny_callSpecial?_slot (name := "__next__") ty PySem.F.slot_zip_next (wpAny_call_entry PySem.F.slot_zip_next ty PySem.F.entry_zip_next ?_ (PySem.F.args_zip_next_1 _))))
 exact zp1 D hz hI hO h1 h2 ht hu hx hy fun h' b1 b2 b3 b4 b5 b6 b7 => wpAny_pure (q h' b1 b2 b3 b4 b5 b6 b7)
theorem ztl {z I O i1 i2 t u : Addr} {k : Nat} {xs ys : Array Value} {a b : Value} {Q : Option Value → Shared → Prop} (hh : A.handled = none) (D : ZipApart z I O i1 i2 t u) (hz : IsZip s.heap z I O .none) (hI : IsPair s.heap I (.ref i1) (.ref i2)) (hO : IsPair s.heap O a b)
  (h1 : s.heap.IsTupleIter i1 t k) (h2 : s.heap.IsTupleIter i2 u k) (ht : s.heap.IsTuple t xs) (hu : s.heap.IsTuple u ys) (hend : xs[k]? = none ∨ ys[k]? = none)
  (q : ∀ h', (∀ c o, c ≠ z → c ≠ O → c ≠ i1 → c ≠ i2 → s.heap.get? c = some o → h'.get? c = some o) → Q none { s with heap := h' }) : wpAny (model P w) A (pyNext (.ref z)) Q E s := by
 have ty : s.TypeIs (.ref z) "zip" := ⟨_, hz, rfl⟩
 rw [pyNext]
 refine wpAny_bind (wpAny_attempt (wpAny_callSpecial?_slot (name := "__next__") ty PySem.F.slot_zip_next (wpAny_call_entry PySem.F.slot_zip_next ty PySem.F.entry_zip_next (zm3 (by simpa using hh) D hz hI hO h1 h2 ht hu hend fun h' e hk he => ?_) (PySem.F.args_zip_next_1 _))))
 obtain ⟨o, ho, hc⟩ := he
 exact wpAny_bind (wpAny_isInstance (b := true) ⟨o, ho, hc⟩ isSubtype_stop (wpAny_pure (q _ hk)))
theorem zt3 {t u : Addr} {xs ys : Array Value} {Q : Value → Shared → Prop} (ht : s.heap.IsTuple t xs) (hu : s.heap.IsTuple u ys)
  (h : ∀ h', IsZip h' (s.heap.objs.size + 4) (s.heap.objs.size + 2) (s.heap.objs.size + 3) .none → IsPair h' (s.heap.objs.size + 2) (.ref s.heap.objs.size) (.ref (s.heap.objs.size + 1)) → IsPair h' (s.heap.objs.size + 3) .none .none →
   h'.IsTupleIter s.heap.objs.size t 0 → h'.IsTupleIter (s.heap.objs.size + 1) u 0 → h'.objs.size = s.heap.objs.size + 5 → (∀ c o, s.heap.get? c = some o → h'.get? c = some o) → Q (.ref (s.heap.objs.size + 4)) { s with heap := h' }) :
  wpAny (model P w) A (call (.type "zip") [.ref t, .ref u]) Q E s := by
 refine callType_new PySem.F.called_zip (by decide) (PySem.F.typeCall_zip_2 _ _) (PySem.F.newCall_zip_2 _ _) (fun obj => PySem.F.args_object_init_3 obj _ _) PySem.F.entry_zip_new (zm2 t u xs ys) ⟨ht, hu, fun h' b1 b2 b3 b4 b5 b6 b7 => ?_⟩
 exact ⟨⟨_, b1, rfl⟩, h h' b1 b2 b3 b4 b5 b6 b7⟩
end
def zvq (K : PySem.W.Frag) (a b : Addr) : It :=
 ⟨fun i H => ∃ xs ys x y, SqT K H a xs ∧ SqT K H b ys ∧ xs[i]? = some x ∧ ys[i]? = some y, fun i H x H' => ∃ T u v, x = .ref T ∧ H T = none ∧ H' = upd H T (.tup [u, v]) ∧ (∀ xs, SqT K H a xs → xs[i]? = some u) ∧ ∀ ys, SqT K H b ys → ys[i]? = some v,
  fun i H => ∃ xs ys, SqT K H a xs ∧ SqT K H b ys ∧ (xs.length ≤ i ∨ ys.length ≤ i)⟩
theorem zqg {P : Program} {w : World} {K : PySem.W.Frag} {elts : List Expr} {kt : Nat} {pt : Pos} (a b z TI TO i1 i2 : Addr) (D : ZipApart z TI TO i1 i2 a b) :
  Turn P w K (.Tuple elts kt pt) (zvq K a b) [z, TI, TO, i1, i2] z (fun i h => IsZip h z TI TO .none ∧ IsPair h TI (.ref i1) (.ref i2) ∧ (∃ u v, IsPair h TO u v) ∧ h.IsTupleIter i1 a i ∧ h.IsTupleIter i2 b i) where
 mem := by simp
 obj := fun i h st c hc => by
  obtain ⟨hz, hTI, ⟨u, v, hTO⟩, h1, h2⟩ := st
  simp only [List.mem_cons, List.not_mem_nil, or_false] at hc
  rcases hc with rfl | rfl | rfl | rfl | rfl
  ·exact ⟨_, hz, fun v z => by cases z⟩
  ·exact ⟨_, hTI, fun v z => by cases z⟩
  ·exact ⟨_, hTO, fun v z => by cases z⟩
  ·obtain ⟨o, e', c, d⟩ := h1
   exact ⟨o, e', fun v z => by rw [d] at z; cases z⟩
  ·obtain ⟨o, e', c, d⟩ := h2
   exact ⟨o, e', fun v z => by rw [d] at z; cases z⟩
 keep := fun i h h' st k => by
  obtain ⟨hz, hTI, ⟨u, v, hTO⟩, h1, h2⟩ := st
  exact ⟨k z (by simp) _ hz, k TI (by simp) _ hTI, ⟨u, v, k TO (by simp) _ hTO⟩, h1.at fun o q => k i1 (by simp) o q, h2.at fun o q => k i2 (by simp) o q⟩
 item := by
  intro X hP hw hK hc i pins s σ H E I hf st hg
  subst hP hw hK
  obtain ⟨hz, hTI, ⟨u0, v0, hTO⟩, h1, h2⟩ := st
  obtain ⟨xs, ys, x, y, hq, hq2, hx, hy⟩ := hg
  obtain ⟨its, rv, p, _⟩ := I.tuple hq
  obtain ⟨its2, rv2, p2, _⟩ := I.tuple hq2
  obtain ⟨u, hu, ru⟩ := rv.get hx
  obtain ⟨u2, hu2, ru2⟩ := rv2.get hy
  refine zqc D hz hTI hTO h1 h2 p p2 (x := u) (y := u2) (by simpa using hu) (by simpa using hu2) fun h3 a1 a2 a3 a4 a5 a6 hk => ?_
  refine ⟨_, rfl, wpAny_letOwnedTupleGo_zip a1 fun h4 hz4 hs4 => ?_⟩
  have hs4' : Heap.SameBut z h3 h4 := hs4
  have hzl : z < s.heap.objs.size := Heap.lt_size hz
  have kk : ∀ c o, c ∉ [z, TI, TO, i1, i2] → s.heap.get? c = some o → h4.get? c = some o := fun c o hc' q =>
   hs4'.extBut c o (fun e => hc' (by simp [e])) (hk c o (fun e => hc' (by simp [e])) (fun e => hc' (by simp [e])) (fun e => hc' (by simp [e])) (fun e => hc' (by simp [e])) q)
  have I1 : Inv X pins σ H { s with heap := h4, toks := s.toks } := I.turnedL kk hf
  have hTn : H s.heap.objs.size = none := I.hok.fresh (Nat.le_refl _)
  have hT2 : h4.get? s.heap.objs.size = some { cls := .type "tuple", data := .seq #[u, u2] } := hs4'.extBut _ _ (Nat.ne_of_gt hzl) a5
  have I2 : Inv X pins σ (upd H s.heap.objs.size (.tup [x, y])) { s with heap := h4, toks := s.toks } :=
   I1.track hTn (I.fpOk (Nat.le_refl _) hTn) (show ObjOk X.prog X.w _ h4 _ (.tup [x, y]) from ⟨zqf, [u, u2], .cons ru (.cons ru2 .nil), ⟨_, hT2, rfl, _, rfl⟩⟩)
  refine ⟨.ref s.heap.objs.size, _, I2, rfl, ⟨s.heap.objs.size, x, y, rfl, hTn, rfl, fun zs hz' => by rw [I.tuple_inj hz' hq]; exact hx, fun zs hz' => by rw [I.tuple_inj hz' hq2]; exact hy⟩,
   ⟨hz4, hs4'.extBut _ _ D.TIz (hk _ _ D.TIz D.TITO D.TIi1 D.TIi2 hTI), ⟨_, _, hs4'.extBut _ _ D.TOz a2⟩, a3.at fun o q => (hs4'.2 i1 D.i1z).trans q, a4.at fun o q => (hs4'.2 i2 D.i2z).trans q⟩, fun c hc' => ?_⟩
  have hcl : c < s.heap.objs.size := by
   simp only [List.mem_cons, List.not_mem_nil, or_false] at hc'
   rcases hc' with rfl | rfl | rfl | rfl | rfl
   ·exact hzl
   ·exact Heap.lt_size hTI
   ·exact Heap.lt_size hTO
   ·obtain ⟨o, e', _⟩ := h1; exact Heap.lt_size e'
   ·obtain ⟨o, e', _⟩ := h2; exact Heap.lt_size e'
  rw [z0e (Nat.ne_of_lt hcl)]
  exact (hf c hc').1
 done := by
  intro X hP hw hK hc i pins s σ H E I hf st hg
  subst hP hw hK
  obtain ⟨hz, hTI, ⟨u0, v0, hTO⟩, h1, h2⟩ := st
  obtain ⟨xs, ys, hq, hq2, hend⟩ := hg
  obtain ⟨its, rv, p, _⟩ := I.tuple hq
  obtain ⟨its2, rv2, p2, _⟩ := I.tuple hq2
  have e1 := rv.length
  have e2 := rv2.length
  refine ztl (I.ok.hd hc) D hz hTI hTO h1 h2 p p2 ?_ fun h' hk => ⟨rfl, I.turnedL (t' := s.toks) (fun c o hc' q => hk c o (fun e => hc' (by simp [e])) (fun e => hc' (by simp [e])) (fun e => hc' (by simp [e])) (fun e => hc' (by simp [e])) q) hf⟩
  rcases hend with z | z
  ·exact .inl (by simp; omega)
  ·exact .inr (by simp; omega)
 self := fun _ _ _ _ _ st h => wpAny_pyIter_zip st.1 h
section
variable {X : Cx}
def zwv (K : PySem.W.Frag) (ta : TA) : TI := fun σ H R => ta σ H fun vs H1 => ∃ a b, vs = [.ref a, .ref b] ∧ (∃ xs, SqT K H1 a xs) ∧ (∃ ys, SqT K H1 b ys) ∧ R (zvq K a b) H1
theorem zmj {elts : List Expr} {kt : Nat} {pt p pos : Pos} {l l2 : Expr} {ta : TA} (hg : Gl X "zip") (hm : X.mg "zip" = none) (ha : PA X [l, l2] ta) (hst : ziz l = false := by rfl) (hst2 : ziz l2 = false := by rfl) : PI X (.Tuple elts kt pt) (.Call (.Name "zip" p) [l, l2] [] pos) (zwv X.K ta) := by
 intro pins s σ H R I h
 have hpl := z3w (pos := pos) (env := X.env) (es := [l2]) (by simp [z3x, hst2])
 refine Call_ (zhg I hg hm boot_zip (PyProof.Rows.callWith_type1 (thn (ha pos pins s σ H _ I h) fun us s1 ⟨vs, H1, I1, r1, q1⟩ => ?_) (z1r hst) hpl))
 obtain ⟨a, b, e, ⟨xs, hq⟩, ⟨ys, hq2⟩, q⟩ := q1
 subst e
 cases r1 with
 | cons r rr =>
  cases rr with
  | cons r2 rr =>
   cases rr
   cases r
   cases r2
   obtain ⟨its, rv, pl, _⟩ := I1.tuple hq
   obtain ⟨its2, rv2, pl2, _⟩ := I1.tuple hq2
   have hla : a < s1.heap.objs.size := by obtain ⟨_, e, _⟩ := pl; exact Heap.lt_size e
   have hlb : b < s1.heap.objs.size := by obtain ⟨_, e, _⟩ := pl2; exact Heap.lt_size e
   refine zt3 pl pl2 fun h' hz hTI hTO h1 h2 hsz hk => ?_
   have I2 : Inv X pins σ H1 { s1 with heap := h' } := I1.kept (t' := s1.toks) hk
   refine wpAny_pyIter_zip hz ?_
   refine ⟨s1.heap.objs.size + 4, [s1.heap.objs.size + 4, s1.heap.objs.size + 2, s1.heap.objs.size + 3, s1.heap.objs.size, s1.heap.objs.size + 1], _, _, H1, rfl, I2, zqg a b _ _ _ _ _ (zipApart_new hla hlb), ⟨hz, hTI, ⟨_, _, hTO⟩, h1, h2⟩, fun c hc => ?_, q⟩
   have hle : s1.heap.objs.size ≤ c := by
    simp only [List.mem_cons, List.not_mem_nil, or_false] at hc
    rcases hc with rfl | rfl | rfl | rfl | rfl <;> first | exact Nat.le_refl _ | exact Nat.le_add_right _ _
   exact I1.fpOk hle (I1.hok.fresh hle)
end
section
variable {prog : Program} {w : World} {A : Around} {E : Value → Shared → Prop} {s : Shared}
theorem zda {t sl : Addr} {items : Array Value} {vl vu : Value} {lo hi : Option Int} {Q : Value → Shared → Prop} (ht : IsTup s.heap t items) (hs : s.heap.IsSliceOf sl vl vu .none) (pl : IsPart vl lo) (pu : IsPart vu hi)
  (hw : HT.sIx items.size 0 lo = 0 ∧ HT.sIx items.size items.size hi = items.size) (h : Q (.ref t) s) : wpAny (model prog w) A (getItem (.ref t) (.ref sl)) Q E s := by
 obtain ⟨os, hos, hcs, hds⟩ := id hs
 have ts : s.TypeIs (.ref sl) "slice" := ⟨os, hos, hcs⟩
 unfold getItem
 try with_reducible refine wpAny_holding ?_
 first | refine wpAny_bind (wpAny_pure ?_) | skip
 refine wpAny_bind (wpAny_sequenceKey ht.typeIs (by decide) ?_)
 refine wpAny_bind (wpAny_callSpecial?_slot (name := Str.ofString "__getitem__") ht.typeIs PyProof.Rows.slot_tuple_getitem (wpAny_call_entry PyProof.Rows.slot_tuple_getitem ht.typeIs entry_tuple_getitem ?_ (args_tuple_getitem _ _)))
 show wpAny _ _ (Builtin.Tuple.tupleItemsOf (.ref t) >>= _) _ _ s
 refine wpAny_bind (PyProof.Rows.tupleItemsOf_ ht (wpAny_bind (wpAny_typeOf ts ?_)))
 rw [if_pos (by decide)]
 refine wpAny_bind (HT.zag hs pl pu ?_)
 refine wpAny_ite_split (fun _ => ?_) (fun c => absurd ?_ c)
 ·unfold Builtin.Tuple.tupleIsExact
  refine wpAny_bind (wpAny_bind (wpAny_typeOf ht.typeIs (wpAny_pure ?_)))
  refine wpAny_ite_split (fun _ => ?_) (fun c => absurd (by decide) c)
  exact wpAny_bind (wpAny_rule (wpAny_pure ⟨_, rfl, wpAny_pure h⟩))
 ·rw [hw.1, hw.2]
  simp
end
section
variable {X : Cx}
def zye (K : PySem.W.Frag) : V → Option Int → Option Int → Hp → VK → Prop := fun x lo hi H Q => ∃ a xs, x = .ref a ∧ SqT K H a xs ∧
 (((HT.sIx xs.length 0 lo = 0 ∧ HT.sIx xs.length xs.length hi = xs.length) ∧ Q (.ref a) H) ∨ (¬ (HT.sIx xs.length 0 lo = 0 ∧ HT.sIx xs.length xs.length hi = xs.length) ∧ ∀ p, H p = none → Q (.ref p) (upd H p (.tup (zvn xs lo hi)))))
theorem zm9 : SlR X (zye X.K) := by
 intro pins s σ H x v vl vu lo hi sl Q I rx hs pl pu h
 obtain ⟨a, xs, rfl, hx, ⟨hw, q⟩ | ⟨hw, q⟩⟩ := h
 ·cases rx
  obtain ⟨its, r, ht, hz⟩ := I.tuple hx
  have hlen : its.toArray.size = xs.length := by rw [List.size_toArray]; exact r.length.symm
  exact ⟨"tuple", _, PyProof.Rows.slot_tuple_getitem.lookup, ht.typeIs, zda ht hs pl pu (by rw [hlen]; exact hw) ⟨.ref a, H, I, rfl, q⟩⟩
 ·exact zya pins s σ H (.ref a) v vl vu lo hi sl Q I rx hs pl pu ⟨a, xs, rfl, hx, hw, q⟩
end
theorem zsx {K : PySem.W.Frag} {a b : Addr} {xs ys : List V} {g : TG} {tt : TT} {te : TE} {Q : VK} {σ : St} {H : Hp} (hxy : ys.length ≤ xs.length) (Pv : Nat → List V → St → Hp → Prop) (h0 : Pv 0 [] σ H) (hz : ys.length < sizeLine) (hy : ∀ i zs σ H, Pv i zs σ H → zs.length ≤ i) (hl : ∀ i zs σ H, i ≤ ys.length → Pv i zs σ H → SqT K H a xs ∧ SqT K H b ys)
  (hs : ∀ i zs x y σ H T, xs[i]? = some x → ys[i]? = some y → Pv i zs σ H → H T = none → g (.ref T) σ (upd H T (.tup [x, y])) fun σ2 H2 => tt σ2 H2 fun b H3 => if b = true then te σ2 H3 (fun v H4 => Pv (i + 1) (zs ++ [v]) σ2 H4) else Pv (i + 1) zs σ2 H3)
  (hd : ∀ zs σ H, Pv ys.length zs σ H → ∀ p, H p = none → Q (.ref p) (upd H p (.lst zs))) : zi5 (zvq K a b) g tt te Q σ H := by
 refine ⟨fun i m zs σ H => m = ys.length - i ∧ i ≤ ys.length ∧ Pv i zs σ H, ⟨ys.length, by simp, Nat.zero_le _, h0⟩, ?_⟩
 rintro i m zs σ H ⟨rfl, hi, p⟩
 have q := hl i zs σ H hi p
 have hyl := hy i zs σ H p
 by_cases hlt : i < ys.length
 ·refine .inr ⟨⟨xs, ys, xs[i]'(by omega), ys[i], q.1, q.2, by simp, by simp⟩, by omega, Pv (i + 1), fun ys' σ' H' p' => ⟨ys.length - (i + 1), by omega, rfl, hlt, p'⟩, fun x H' y => ?_⟩
  obtain ⟨T, u, v, rfl, hT, rfl, y1, y2⟩ := y
  exact hs i zs u v σ H T (y1 xs q.1) (y2 ys q.2) p hT
 ·have e : i = ys.length := by omega
  subst e
  exact .inl ⟨⟨xs, ys, q.1, q.2, .inr (Nat.le_refl _)⟩, by omega, hd zs σ H p⟩
end L2
set_option Elab.async false
set_option linter.all false
set_option maxRecDepth 100000
namespace L2
open PySem PySem.Spec PyProof.Rows
inductive DX where
 | c (d : Dm) | var (i : Nat) | tup (l : List DX) | lst (l : List DX) | cat (a b : DX) | lof (a : DX)
def q17 : Dm → Dm → Dm
 | .tup x, .tup y => .tup (x ++ y)
 | _, _ => .non
mutual
def DX.val (ρ : Nat → Dm) : DX → Dm
 | .c d => d
 | .var i => ρ i
 | .tup l => .tup (q0n ρ l)
 | .lst _ => .lst
 | .cat a b => q17 (a.val ρ) (b.val ρ)
 | .lof _ => .lst
def q0n (ρ : Nat → Dm) : List DX → List Dm
 | [] => []
 | x :: r => x.val ρ :: q0n ρ r
end
mutual
def DX.Fit (ρ : Nat → Dm) (σ : St) (H : Hp) : DX → Prop
 | .c _ => True
 | .var i => ∃ v, σ[i]? = some (some v) ∧ Dt H v (ρ i)
 | .tup l => l.length ≤ 1000 ∧ q0k ρ σ H l
 | .lst l => l.length ≤ 1000 ∧ q0k ρ σ H l
 | .cat a b => a.Fit ρ σ H ∧ b.Fit ρ σ H ∧ ∃ x y, a.val ρ = .tup x ∧ b.val ρ = .tup y ∧ x.length + y.length ≤ 1000
 | .lof a => a.Fit ρ σ H ∧ ∃ x, a.val ρ = .tup x
def q0k (ρ : Nat → Dm) (σ : St) (H : Hp) : List DX → Prop
 | [] => True
 | x :: r => x.Fit ρ σ H ∧ q0k ρ σ H r
end
structure Env (ρ : Nat → Dm) (σ : St) (H : Hp) (vo vt : List Nat) : Prop where
 o : ∀ i ∈ vo, ∃ v, σ[i]? = some (some v) ∧ Dt H v (ρ i)
 t : ∀ i ∈ vt, ∃ ds, ρ i = .tup ds ∧ ds.length ≤ 100
def tDX (x : DX) : TE := fun σ H Q => ∃ ρ, x.Fit ρ σ H ∧ ∀ v H', Same H H' → Dt H' v (x.val ρ) → Q v H'
def q09 (l : List DX) : TA := fun σ H Q => ∃ ρ, q0k ρ σ H l ∧ ∀ vs H', Same H H' → DtA H' vs (q0n ρ l) → Q vs H'
section
variable {X : Cx}
end
end L2
set_option Elab.async false
set_option linter.all false
set_option maxRecDepth 100000
namespace L2
open PySem PySem.Spec PyProof.Rows PySem.W
def ltI : List Int → List Int → Bool
 | _, [] => false
 | [], _ :: _ => true
 | a :: x, b :: y => if a = b then ltI x y else decide (a < b)
theorem zvf : ∀ {x y : List Int}, ltI x y = true → ltI y x = false
 | _, [], h => by cases ‹List Int› <;> simp [ltI] at h
 | [], b :: y, _ => by simp [ltI]
 | a :: x, b :: y, h => by
  rw [ltI] at h ⊢
  by_cases e : a = b
  ·subst e
   rw [if_pos rfl] at h ⊢
   exact zvf h
  ·rw [if_neg e] at h
   rw [if_neg (Ne.symm e)]
   simp only [decide_eq_true_eq, decide_eq_false_iff_not] at h ⊢
   omega
section
variable {prog : Program} {w : World} {A : Around} {E : Value → Shared → Prop} {s : Shared}
variable {k : SortKind} {vs : List Value} {st : SortSt}
end
end L2
set_option Elab.async false
set_option linter.all false
set_option maxRecDepth 100000
namespace L2
open PySem PySem.Spec PyProof.Rows PySem.W
section
variable {prog : Program} {w : World} {A : Around} {E : Value → Shared → Prop} {s : Shared}
end
def z3i (p : List Int) : Dm := .tup (p.map Dm.int)
theorem zk0 {H : Hp} : ∀ {xs : List V} {p : List Int}, DtA H xs (p.map Dm.int) → xs = p.map V.int
 | _, [], .nil => rfl
 | _, _ :: _, .cons (.int _) r => by rw [List.map_cons, ← zk0 r]
section
variable {X : Cx} {pins : List (Addr × Obj)} {σ : St} {H : Hp} {s : Shared}
end
end L2
set_option Elab.async false
set_option linter.all false
set_option maxRecDepth 100000
namespace L2
open PySem PyProof.Rows
open AutoSeq1 (wpAny_loadPart')
theorem zlc (l : Addr) (items : Array Value) (n : Nat) (dct : Option Addr) (sl : Array (Option Value)) :
  Meets (Builtin.«enumerate.__new__» ⟨[.type "enumerate", .ref l], []⟩) (fun _ R s => s.heap.get? l = some { cls := .type "tuple", dict := dct, data := .seq items n, slots := sl } ∧
   R (.ok (.ret (.ref (s.heap.push { cls := .type "tuple_iterator", data := .fields #[.ref l, .int 0 0] }).objs.size)))
    { s with heap := (s.heap.push { cls := .type "tuple_iterator", data := .fields #[.ref l, .int 0 0] }).push { cls := .type "enumerate", data := .fields #[.none, .bool false, .ref s.heap.objs.size, rawInt 0, .none, .none] } }) :=
 .of_wp fun prog w A R s h => by
  obtain ⟨hp, g, d, tk, os⟩ := s; obtain ⟨hl, h⟩ := h
  have hsub := sub_enumerate
  have hL : Heap.IsTuple (Shared.heap ⟨hp, g, d, tk, os⟩) l items := ⟨_, hl, rfl, n, rfl⟩
  wp_walk using wpAny_loadPart' hl
  refine wpAny_stack_any fun st => wpAny_pure ?_
  split
  ·rename_i c _ _ _ _ _
   cases (c == Value.type "enumerate")
   ·wp_walk using wpAny_loadPart' hl, wpAny_pyIter_tuple hL
    exact ⟨_, rfl, h⟩
   ·wp_walk using wpAny_loadPart' hl, wpAny_pyIter_tuple hL
    exact ⟨_, rfl, h⟩
  ·wp_walk using wpAny_loadPart' hl, wpAny_pyIter_tuple hL
   exact ⟨_, rfl, h⟩
section
variable {prog : Program} {w : World} {A : Around} {E : Value → Shared → Prop} {s : Shared}
theorem zq5 {l : Addr} {items : Array Value} {Q : Value → Shared → Prop} (hL : s.heap.IsTuple l items)
  (h : ∀ h', IsEnum h' (s.heap.objs.size + 1) s.heap.objs.size 0 .none → h'.IsTupleIter s.heap.objs.size l 0 → h'.objs.size = s.heap.objs.size + 2 →
   (∀ b o, s.heap.get? b = some o → h'.get? b = some o) → Q (.ref (s.heap.objs.size + 1)) { s with heap := h' }) :
  wpAny (model prog w) A (call (.type "enumerate") [.ref l]) Q E s := by
 obtain ⟨⟨c, dct, dt, sl⟩, hl, hc, n, hd⟩ := hL
 replace hc : c = .type "tuple" := hc
 replace hd : dt = .seq items n := hd
 subst hc hd
 refine callType_new F.called_enumerate (by decide) (F.typeCall_enumerate_1 _) (F.newCall_enumerate_1 _) (fun obj => F.args_object_init_2 obj _) F.entry_enumerate_new
  (zlc l items n dct sl) ⟨hl, ?_⟩
 have hz : (s.heap.push { cls := .type "tuple_iterator", data := .fields #[.ref l, .int 0 0] }).objs.size = s.heap.objs.size + 1 := Heap.size_push ..
 show _ ∧ _
 rw [hz]
 have he : IsEnum ((s.heap.push { cls := .type "tuple_iterator", data := .fields #[.ref l, .int 0 0] }).push
   { cls := .type "enumerate", data := .fields #[.none, .bool false, .ref s.heap.objs.size, rawInt 0, .none, .none] }) (s.heap.objs.size + 1) s.heap.objs.size 0 .none := by
  have := Heap.get?_push_size (s.heap.push { cls := .type "tuple_iterator", data := .fields #[.ref l, .int 0 0] })
   (o := { cls := .type "enumerate", data := .fields #[.none, .bool false, .ref s.heap.objs.size, rawInt 0, .none, .none] }) rfl
  rw [hz] at this; exact this
 refine ⟨⟨_, he, rfl⟩, h _ he ⟨_, Heap.get?_push_of_some _ (Heap.get?_push_size _ rfl), rfl, rfl⟩ (by rw [Heap.size_push, hz]) fun b o x => Heap.get?_push_of_some _ (Heap.get?_push_of_some _ x)⟩
theorem zsg {e it l : Addr} {i : Nat} {items : Array Value} {old : Value} {Q : Option Value → Shared → Prop} (hh : A.handled = none) (he : IsEnum s.heap e it i old) (hit : s.heap.IsTupleIter it l i) (hl : s.heap.IsTuple l items) (hx : items[i]? = none)
  (hQ : ∀ h', Heap.ExtBut it s.heap h' → Q none { s with heap := h' }) : wpAny (model prog w) A (pyNext (.ref e)) Q E s := by
 have hT : s.TypeIs (.ref e) "enumerate" := ⟨_, he, rfl⟩
 unfold pyNext
 refine wpAny_bind (wpAny_attempt (wpAny_callSpecial?_slot (name := Str.ofString "__next__") hT F.slot_enumerate_next
  (wpAny_call_entry F.slot_enumerate_next hT F.entry_enumerate_next ?_ (F.args_enumerate_next_1 _))))
 show wpAny _ _ (field (.ref e) 2 >>= _) _ _ _
 refine wpAny_bind (wpAny_field he rfl (x := .ref it) rfl ?_)
 refine wpAny_bind (zc0 hh hit hl hx fun h' x he' hx' => ?_)
 obtain ⟨o, ho, hc⟩ := hx'
 refine wpAny_bind (wpAny_isInstance (T := "StopIteration") (b := true) ⟨o, ho, hc⟩ isSubtype_stop ?_)
 exact wpAny_pure (hQ _ he')
end
theorem zzn {prog : Program} {w : World} {A : Around} (hh : A.handled = none) (it l : Addr) (hne : l ≠ it) (items : Array Value) :
  Draws prog w A it [it, l] items.size (fun i v => items[i]? = some v) (fun i h => h.IsTupleIter it l i ∧ h.IsTuple l items) where
 live := fun _ _ st => let ⟨o, ho, _⟩ := st.1; ⟨o, ho⟩
 frame := fun _ _ _ st hk => ⟨st.1.at fun o e => hk it (by simp) o e, let ⟨o, ho, r⟩ := st.2; ⟨o, hk l (by simp) o ho, r⟩⟩
 item := fun i s Q E hi st hQ => by
  refine zod st.1 st.2 (x := items[i]) (by simp [hi]) fun h' hit' hs' => ?_
  exact hQ _ h' s.toks (by simp [hi]) ⟨hit', st.2.extBut hs'.extBut hne⟩ hs'
 done := fun s Q E st hE => zc0 hh st.1 st.2 (by simp) hE
def zxn (K : PySem.W.Frag) (a : Addr) : It :=
 ⟨fun i H => ∃ xs x, SqT K H a xs ∧ xs[i]? = some x, fun i H x H' => ∃ T v, x = .ref T ∧ H T = none ∧ H' = upd H T (.tup [.int i, v]) ∧ ∀ xs, SqT K H a xs → xs[i]? = some v, fun i H => ∃ xs, SqT K H a xs ∧ xs.length ≤ i⟩
theorem zp6 {P : Program} {w : World} {K : PySem.W.Frag} {elts : List Expr} {kt : Nat} {pt : Pos} (a e it : Addr) (hne : e ≠ it) (hea : e ≠ a) (hai : a ≠ it) : Turn P w K (.Tuple elts kt pt) (zxn K a) [e, it] e (fun i h => (∃ old, IsEnum h e it i old) ∧ h.IsTupleIter it a i) where
 mem := by simp
 obj := fun i h st b hb => by
  obtain ⟨⟨old, he⟩, hi⟩ := st
  rcases List.mem_cons.mp hb with rfl | hb
  ·exact ⟨_, he, fun v z => by cases z⟩
  ·obtain rfl := List.mem_singleton.mp hb
   obtain ⟨o, e', c, d⟩ := hi
   exact ⟨o, e', fun v z => by rw [d] at z; cases z⟩
 keep := fun i h h' st k => by
  obtain ⟨⟨old, he⟩, hi⟩ := st
  exact ⟨⟨old, k e (by simp) _ he⟩, hi.at fun o q => k it (by simp) o q⟩
 item := by
  intro X hP hw hK hc i pins s σ H E I hf st hg
  subst hP hw hK
  obtain ⟨⟨old, he⟩, hit⟩ := st
  obtain ⟨xs, x, hq, hx⟩ := hg
  obtain ⟨its, rv, p, hz⟩ := I.tuple hq
  obtain ⟨u, hu, ru⟩ := rv.get hx
  have hui : its.toArray[i]? = some u := by simpa using hu
  have hlt : i < its.toArray.size := by
   rcases Nat.lt_or_ge i its.toArray.size with c | c
   ·exact c
   ·rw [Array.getElem?_eq_none c] at hui; cases hui
  refine wpAny_pyNext_enum_itemD (zzn (A := X.A.in1) (show X.A.in1.handled = none from I.ok.hd hc) it a hai its.toArray) he ⟨hit, p⟩ hlt hne (by simp [hne, hea]) fun y h1 tk hy ho hst1 hT hsz hk => ?_
  have hy' : its.toArray[i]? = some y := hy
  obtain rfl : u = y := by rw [hui] at hy'; exact Option.some.inj hy'
  have hit1 := hst1.1
  refine ⟨_, rfl, wpAny_letOwnedTupleGo_enum ho fun h2 he2 hs2 => ?_⟩
  have helt : e < s.heap.objs.size := Heap.lt_size he
  have hs2' : Heap.SameBut e h1 h2 := hs2
  have kk : ∀ b o, b ∉ [e, it] → s.heap.get? b = some o → h2.get? b = some o := fun b o hb q => hs2'.extBut b o (fun z => hb (by simp [z])) (hk b o (fun z => hb (by simp [z])) (fun z => hb (by simp [z])) q)
  have I1 : Inv X pins σ H { s with heap := h2, toks := tk + 1 } := I.turnedL kk hf
  have hTn : H s.heap.objs.size = none := I.hok.fresh (Nat.le_refl _)
  have hT2 : h2.get? s.heap.objs.size = some { cls := .type "tuple", data := .seq #[.int i tk, u] } := hs2'.extBut _ _ (Nat.ne_of_gt helt) hT
  have I2 : Inv X pins σ (upd H s.heap.objs.size (.tup [.int i, x])) { s with heap := h2, toks := tk + 1 } :=
   I1.track hTn (I.fpOk (Nat.le_refl _) hTn) (show ObjOk X.prog X.w _ h2 _ (.tup [.int i, x]) from ⟨zqf, [.int i tk, u], .cons ⟨_, rfl⟩ (.cons ru .nil), ⟨_, hT2, rfl, _, rfl⟩⟩)
  refine ⟨.ref s.heap.objs.size, _, I2, rfl, ⟨s.heap.objs.size, x, rfl, hTn, rfl, fun ys hy => by rw [I.tuple_inj hy hq]; exact hx⟩, ⟨⟨u, by simpa using he2⟩, hit1.at fun o q => (hs2'.2 it hne.symm).trans q⟩, fun b hb => ?_⟩
  have hbl : b < s.heap.objs.size := by
   rcases List.mem_cons.mp hb with rfl | hb
   ·exact helt
   ·obtain rfl := List.mem_singleton.mp hb
    obtain ⟨o, e', _⟩ := hit
    exact Heap.lt_size e'
  rw [z0e (Nat.ne_of_lt hbl)]
  exact (hf b hb).1
 done := by
  intro X hP hw hK hc i pins s σ H E I hf st hg
  subst hP hw hK
  obtain ⟨⟨old, he⟩, hit⟩ := st
  obtain ⟨xs, hq, hx⟩ := hg
  obtain ⟨its, rv, p, hz⟩ := I.tuple hq
  have hl := rv.length
  exact zsg (I.ok.hd hc) he hit p (by simp; omega) fun h' eb => ⟨rfl, I.turnedL (t' := s.toks) (fun b o hb q => eb b o (fun z => hb (by simp [z])) q) hf⟩
 self := fun _ _ _ _ _ st h => by
  obtain ⟨⟨old, he⟩, _⟩ := st
  exact wpAny_pyIter_enum he h
section
variable {X : Cx}
def zs5 (K : PySem.W.Frag) (ta : TA) : TI := fun σ H R => ta σ H fun vs H1 => ∃ a, vs = [.ref a] ∧ (∃ xs, SqT K H1 a xs) ∧ R (zxn K a) H1
theorem zo7 {elts : List Expr} {kt : Nat} {pt p pos : Pos} {l : Expr} {ta : TA} (hg : Gl X "enumerate") (hm : X.mg "enumerate" = none) (ha : PA X [l] ta) (hst : ziz l = false := by rfl) : PI X (.Tuple elts kt pt) (.Call (.Name "enumerate" p) [l] [] pos) (zs5 X.K ta) := by
 intro pins s σ H R I h
 refine Call_ (zhg I hg hm boot_enumerate (PyProof.Rows.callWith_type1 (thn (ha pos pins s σ H _ I h) fun us s1 ⟨vs, H1, I1, r1, q1⟩ => ?_) (z1r hst) rfl))
 obtain ⟨a, e, ⟨xs, hq⟩, q⟩ := q1
 subst e
 cases r1 with
 | cons r rr =>
  cases rr
  cases r
  obtain ⟨its, rv, pl, hz⟩ := I1.tuple hq
  have hal : a < s1.heap.objs.size := by
   obtain ⟨o, e, _⟩ := pl
   exact Heap.lt_size e
  refine zq5 pl fun h' he hi hsz hk => ?_
  have I2 : Inv X pins σ H1 { s1 with heap := h' } := I1.kept (t' := s1.toks) hk
  refine wpAny_pyIter_enum he ?_
  refine ⟨s1.heap.objs.size + 1, [s1.heap.objs.size + 1, s1.heap.objs.size], _, _, H1, rfl, I2, zp6 a _ _ (Nat.succ_ne_self _) (Nat.ne_of_gt (Nat.lt_succ_of_lt hal)) (Nat.ne_of_lt hal), ⟨⟨_, he⟩, hi⟩, fun b hb => ?_, q⟩
  have hle : s1.heap.objs.size ≤ b := by
   rcases List.mem_cons.mp hb with rfl | hb
   ·exact Nat.le_succ _
   ·obtain rfl := List.mem_singleton.mp hb
    exact Nat.le_refl _
  exact I1.fpOk hle (I1.hok.fresh hle)
end
theorem zl9 {K : PySem.W.Frag} {a : Addr} {xs : List V} {g : TG} {tb : TS} {D : Ends} {σ : St} {H : Hp} (Pv : Nat → St → Hp → Prop) (h0 : Pv 0 σ H) (hl : ∀ i σ H, i ≤ xs.length → Pv i σ H → SqT K H a xs)
  (hs : ∀ i x σ H T, xs[i]? = some x → Pv i σ H → H T = none → g (.ref T) σ (upd H T (.tup [.int i, x])) fun σ2 H2 => tb { D with nx := Pv (i + 1), ct := Pv (i + 1), bk := D.nx } σ2 H2) (hd : ∀ σ H, Pv xs.length σ H → D.nx σ H) :
  ∃ W : Nat → Nat → St → Hp → Prop, (∃ m, W 0 m σ H) ∧ ∀ i m σ H, W i m σ H →
   ((zxn K a).stop i H ∧ D.nx σ H) ∨ ((zxn K a).go i H ∧ ∃ N : St → Hp → Prop, (∀ σ' H', N σ' H' → ∃ m', m' < m ∧ W (i + 1) m' σ' H') ∧ ∀ x H', (zxn K a).yld i H x H' → g x σ H' fun σ2 H2 => tb { D with nx := N, ct := N, bk := D.nx } σ2 H2) := by
 refine ⟨fun i m σ H => m = xs.length - i ∧ i ≤ xs.length ∧ Pv i σ H, ⟨xs.length, by simp, Nat.zero_le _, h0⟩, ?_⟩
 rintro i m σ H ⟨rfl, hi, p⟩
 have q := hl i σ H hi p
 by_cases hlt : i < xs.length
 ·refine .inr ⟨⟨xs, xs[i], q, by simp [hlt]⟩, Pv (i + 1), fun σ' H' p' => ⟨xs.length - (i + 1), by omega, rfl, hlt, p'⟩, fun x H' y => ?_⟩
  obtain ⟨T, v, rfl, hT, rfl, y⟩ := y
  exact hs i v σ H T (y xs q) p hT
 ·have e : i = xs.length := by omega
  subst e
  exact .inl ⟨⟨xs, q, Nat.le_refl _⟩, hd σ H p⟩
end L2
set_option Elab.async false
set_option linter.all false
set_option maxRecDepth 100000
namespace L2
open PySem PySem.Spec PyProof.Rows
section
variable {prog : Program} {w : World} {A : Around} {E : Value → Shared → Prop} {s : Shared} {S : Addr}
end
def zi6 (P : Program) (w : World) (p : Addr) (ks : List Str) : HO := .ext (SetX (PySem.strKind P w) strOf p (!zzx w) ks)
section
variable {X : Cx}
end
end L2
set_option Elab.async false
set_option linter.all false
set_option maxRecDepth 100000
namespace L2
open PySem PySem.Spec PyProof.Rows PySem.W
def zqb (r : Nat → Nat) (n : Nat) : Nat → Nat → (Bool → Shared → Prop) → Shared → Prop := fun i j C s => i < n ∧ j < n ∧ C (decide (r i < r j)) s
theorem zt7 {α : Type} {r : Nat → Nat} {n : Nat} {cmp : Nat → Nat → (Bool → Shared → Prop) → Shared → Prop} {s : Shared} {Q : α → Shared → Prop} (hc : ∀ i j C, i < n → j < n → C (decide (r i < r j)) s → cmp i j C s) :
  ∀ (t : KasT α), t.kasWp (zqb r n) (fun a s' => Q a s) s → t.kasWp cmp Q s
 | .ret a, h => h
 | .ask i j k, ⟨h1, h2, h⟩ => hc i j _ h1 h2 (zt7 hc (k _) h)
section
variable {r : Nat → Nat} {n : Nat} {s : Shared}
theorem zi3 {α : Type} {i j : Nat} {T1 T2 : KasT α} {Q : α → Shared → Prop} (hi : i < n) (hj : j < n) (h1 : r i < r j → T1.kasWp (zqb r n) Q s) (h2 : ¬ r i < r j → T2.kasWp (zqb r n) Q s) : (KasT.ask i j fun c => if c = true then T1 else T2).kasWp (zqb r n) Q s := by
 refine ⟨hi, hj, ?_⟩
 by_cases c : r i < r j
 ·have := h1 c
  simpa [c] using this
 ·have := h2 c
  simpa [c] using this
def rk (r : Nat → Nat) (p : Array Nat) (i : Nat) : Nat := r (p.getD i 0)
def Asc (r : Nat → Nat) (p : Array Nat) (m : Nat) : Prop := ∀ i j, i < j → j < m → rk r p i < rk r p j
def Dsc (r : Nat → Nat) (p : Array Nat) (m : Nat) : Prop := ∀ i j, i < j → j < m → rk r p j < rk r p i
structure PermN (r : Nat → Nat) (n : Nat) (p : Array Nat) : Prop where
 sz : p.size = n
 lt : ∀ i, i < n → p.getD i 0 < n
 inj : ∀ i j, i < n → j < n → rk r p i = rk r p j → i = j
 pm : p.toList.Perm (List.range n)
theorem PermN.of (hr : ∀ i j, i < n → j < n → r i = r j → i = j) {p : Array Nat} (h : p.toList.Perm (List.range n)) : PermN r n p := by
 have sz : p.size = n := by simpa using h.length_eq
 have lt : ∀ i, i < n → p.getD i 0 < n := fun i hi => by
  have hi' : i < p.size := by omega
  have : p.getD i 0 ∈ p.toList := by simp [Array.getD, hi']
  simpa using h.mem_iff.mp this
 refine ⟨sz, lt, fun i j hi hj e => ?_, h⟩
 have e' := hr _ _ (lt i hi) (lt j hj) e
 have nd : p.toList.Nodup := h.nodup_iff.mpr List.nodup_range
 have hi' : i < p.size := by omega
 have hj' : j < p.size := by omega
 have : p.toList[i]'(by simpa using hi') = p.toList[j]'(by simpa using hj') := by simpa [Array.getD, hi', hj'] using e'
 exact (List.getElem_inj nd).mp this
theorem zjv {p q : Array Nat} {i j : Nat} (h : p[i]? = q[j]?) : p.getD i 0 = q.getD j 0 := by
 have e1 : p.getD i 0 = (p[i]?).getD 0 := by simp
 have e2 : q.getD j 0 = (q[j]?).getD 0 := by simp
 rw [e1, e2, h]
theorem q19 {p : Array Nat} (P : PermN r n p) {Q : Nat → Shared → Prop} : ∀ (f m : Nat), 1 ≤ m → m + f ≤ n → Asc r p m → (∀ k, m ≤ k → k ≤ m + f → Asc r p k → (k < m + f → rk r p k < rk r p (k - 1)) → Q k s) → (kas_asc p f m).kasWp (zqb r n) Q s
 | 0, m, h1, h2, h, q => q m (Nat.le_refl _) (Nat.le_refl _) h (fun z => absurd z (by omega))
 | f + 1, m, h1, h2, h, q => by
  refine zi3 (P.lt _ (by omega)) (P.lt _ (by omega)) (fun c => ?_) (fun (c : ¬ rk r p m < rk r p (m - 1)) => ?_)
  ·exact q m (Nat.le_refl _) (by omega) h (fun _ => c)
  ·refine q19 P f (m + 1) (by omega) (by omega) (fun i j hij hj => ?_) fun k k1 k2 k3 k4 => q k (by omega) (by omega) k3 (fun z => k4 (by omega))
   have last : rk r p (m - 1) < rk r p m := by
    have : rk r p (m - 1) ≠ rk r p m := fun e => by have := P.inj _ _ (by omega) (by omega) e; omega
    omega
   by_cases e : j = m
   ·subst e
    by_cases e2 : i = j - 1
    ·rw [e2]; exact last
    ·exact Nat.lt_trans (h i (j - 1) (by omega) (by omega)) last
   ·exact h i j hij (by omega)
theorem zzq {p : Array Nat} (P : PermN r n p) {Q : Array Nat × Nat × Nat → Shared → Prop} : ∀ (f m : Nat), 1 ≤ m → m + f ≤ n → Dsc r p m → (∀ k, m ≤ k → k ≤ m + f → Dsc r p k → Q (p, k, 0) s) → (kas_desc f p m 0).kasWp (zqb r n) Q s
 | 0, m, h1, h2, h, q => q m (Nat.le_refl _) (Nat.le_refl _) h
 | f + 1, m, h1, h2, h, q => by
  refine zi3 (P.lt _ (by omega)) (P.lt _ (by omega)) (fun c => ?_) (fun (c : ¬ rk r p m < rk r p (m - 1)) => ?_)
  ·rw [if_neg (by omega)]
   refine zzq P f (m + 1) (by omega) (by omega) (fun i j hij hj => ?_) fun k k1 k2 k3 => q k (by omega) (by omega) k3
   by_cases e : j = m
   ·subst e
    by_cases e2 : i = j - 1
    ·rw [e2]; exact c
    ·exact Nat.lt_trans c (h i (j - 1) (by omega) (by omega))
   ·exact h i j hij (by omega)
  ·have last : rk r p (m - 1) < rk r p m := by
    have : rk r p (m - 1) ≠ rk r p m := fun e => by have := P.inj _ _ (by omega) (by omega) e; omega
    omega
   refine zi3 (P.lt _ (by omega)) (P.lt _ (by omega)) (fun c => ?_) (fun c => absurd last c)
   exact q m (Nat.le_refl _) (by omega) h
theorem ztv (hr : ∀ i j, i < n → j < n → r i = r j → i = j) {p : Array Nat} (P : PermN r n p) (i j : Nat) : PermN r n (kas_rev p i j) :=
 .of hr ((Array.perm_iff_toList_perm.mp (mirror_perm _ _ _ _)).trans P.pm)
theorem zvb {p : Array Nat} {m : Nat} (hm : m ≤ p.size) (k : Nat) (hk : k < m) : rk r (kas_rev p 0 m) k = rk r p (m - 1 - k) := by
 have e := getElem?_mirror_all (xs := p) (i := 0) hm k
 rw [if_pos (by omega)] at e
 show r _ = r _
 rw [show kas_rev p 0 m = mirror p 0 m ((m - 0) / 2) from rfl, zjv e]
 congr 2
 omega
theorem zy2 (hr : ∀ i j, i < n → j < n → r i = r j → i = j) {p : Array Nat} (P : PermN r n p) {m : Nat} {Q : Nat × Array Nat → Shared → Prop} (h1 : 1 ≤ m) (h2 : m ≤ n) (h : Dsc r p m)
  (q : ∀ k p', PermN r n p' → 1 ≤ k → k ≤ n → Asc r p' k → Q (k, p') s) : (kas_tail3 m n p).kasWp (zqb r n) Q s := by
 unfold kas_tail3
 rw [KasT.kasWp_bind]
 have P' := ztv hr P 0 m
 refine q19 P' (n - m) m h1 (by omega) (fun i j hij hj => ?_) fun k k1 k2 k3 _ => q k _ P' (by omega) (by omega) k3
 rw [zvb (by rw [P.sz]; exact h2) _ (by omega), zvb (by rw [P.sz]; exact h2) _ hj]
 exact h _ _ (by omega) (by omega)
theorem zsi (hr : ∀ i j, i < n → j < n → r i = r j → i = j) {p : Array Nat} (P : PermN r n p) {m : Nat} {Q : Nat × Array Nat → Shared → Prop} (h2 : m + 1 ≤ n) (h : Dsc r p (m + 1))
  (q : ∀ k p', PermN r n p' → 1 ≤ k → k ≤ n → Asc r p' k → Q (k, p') s) : (kas_descPart m n p).kasWp (zqb r n) Q s := by
 unfold kas_descPart
 rw [KasT.kasWp_bind]
 refine zzq P (n - (m + 1)) (m + 1) (by omega) (by omega) h fun k k1 k2 k3 => ?_
 rw [if_neg (show ¬ (p, k, 0).2.2 > 0 from Nat.lt_irrefl 0)]
 have a1 : 1 ≤ k := by omega
 have a2 : k ≤ n := by omega
 exact zy2 hr P a1 a2 k3 q
theorem zzv (hr : ∀ i j, i < n → j < n → r i = r j → i = j) {p : Array Nat} (P : PermN r n p) {Q : Nat × Array Nat → Shared → Prop} (h1 : 1 ≤ n)
  (q : ∀ k p', PermN r n p' → 1 ≤ k → k ≤ n → Asc r p' k → Q (k, p') s) : (kas_count n p).kasWp (zqb r n) Q s := by
 unfold kas_count
 rw [KasT.kasWp_bind]
 refine q19 P (n - 1) 1 (Nat.le_refl _) (by omega) (fun i j hij hj => by omega) fun m m1 m2 m3 m4 => ?_
 by_cases e : m = n
 ·rw [if_pos (by simpa using e)]
  exact q m p P m1 (by omega) m3
 ·rw [if_neg (by simpa using e)]
  by_cases e2 : m > 1
  ·rw [if_pos e2]
   refine zi3 (P.lt _ (by omega)) (P.lt _ (by omega)) (fun c => ?_) (fun c => absurd (m3 0 (m - 1) (by omega) (by omega)) c)
   exact q m p P m1 (by omega) m3
  ·rw [if_neg e2]
   obtain rfl : m = 1 := by omega
   refine zsi hr P (by omega) (fun i j hij hj => ?_) q
   obtain rfl : i = 0 := by omega
   obtain rfl : j = 1 := by omega
   exact m4 (by omega)
theorem zr3 {p : Array Nat} (P : PermN r n p) {k : Nat} (hk : k < n) (hs : Asc r p k) {Q : Nat → Shared → Prop} : ∀ (f l u : Nat), l ≤ u → u ≤ k → u - l ≤ f → (∀ i, i < l → rk r p i < rk r p k) → (∀ i, u ≤ i → i < k → rk r p k < rk r p i) →
  (∀ m, m ≤ k → (∀ i, i < m → rk r p i < rk r p k) → (∀ i, m ≤ i → i < k → rk r p k < rk r p i) → Q m s) → (kas_place p k f l u).kasWp (zqb r n) Q s
 | 0, l, u, h1, h2, h3, lo, hi, q => by
  obtain rfl : l = u := by omega
  exact q l h2 lo hi
 | f + 1, l, u, h1, h2, h3, lo, hi, q => by
  unfold kas_place
  by_cases e : l ≥ u
  ·rw [if_pos e]
   obtain rfl : l = u := by omega
   exact q l h2 lo hi
  ·rw [if_neg e]
   refine zi3 (P.lt _ hk) (P.lt _ (by omega)) (fun c => ?_) (fun (c : ¬ rk r p k < rk r p ((l + u) / 2)) => ?_)
   ·refine zr3 P hk hs f l ((l + u) / 2) (by omega) (by omega) (by omega) lo (fun i h1 h2 => ?_) q
    by_cases e2 : i = (l + u) / 2
    ·rw [e2]; exact c
    ·exact Nat.lt_trans c (hs _ _ (by omega) h2)
   ·have c' : rk r p ((l + u) / 2) < rk r p k := by
     have : rk r p ((l + u) / 2) ≠ rk r p k := fun e => by have := P.inj _ _ (by omega) hk e; omega
     omega
    refine zr3 P hk hs f ((l + u) / 2 + 1) u (by omega) h2 (by omega) (fun i h1 => ?_) hi q
    by_cases e2 : i = (l + u) / 2
    ·rw [e2]; exact c'
    ·exact Nat.lt_trans (hs _ _ (show i < (l + u) / 2 by omega) (by omega)) c'
theorem q1n (hr : ∀ i j, i < n → j < n → r i = r j → i = j) {Q : Array Nat → Shared → Prop} : ∀ (f : Nat) (p : Array Nat) (k : Nat), PermN r n p → k + f = n → Asc r p k → (∀ p', PermN r n p' → Asc r p' n → Q p' s) → (kas_bin f p k).kasWp (zqb r n) Q s
 | 0, p, k, P, e, h, q => by
  obtain rfl : k = n := e
  exact q p P h
 | f + 1, p, k, P, e, h, q => by
  rw [show kas_bin (f + 1) p k = (kas_place p k k 0 k).bind fun l => kas_bin f (bubble p k (k - l)) (k + 1) from rfl, KasT.kasWp_bind]
  have hk : k < n := by omega
  refine zr3 P hk h k 0 k (Nat.zero_le _) (Nat.le_refl _) (by omega) (fun i z => absurd z (by omega)) (fun i z z' => absurd z' (by omega)) fun m m1 m2 m3 => ?_
  refine q1n hr f _ (k + 1) (.of hr ((Array.perm_iff_toList_perm.mp (bubble_perm _ _ _)).trans P.pm)) (by omega) (fun i j hij hj => ?_) q
  have at_ : ∀ x, rk r (bubble p k (k - m)) x = if x = m then rk r p k else if m < x ∧ x ≤ k then rk r p (x - 1) else rk r p x := fun x => by
   have z := getElem?_bubble (xs := p) (src := k) (by rw [P.sz]; exact hk) (k - m) (by omega) x
   rw [show k - (k - m) = m by omega] at z
   show r _ = _
   by_cases e1 : x = m
   ·rw [if_pos e1] at z ⊢
    rw [zjv z, rk]
   ·rw [if_neg e1] at z ⊢
    by_cases e2 : m < x ∧ x ≤ k
    ·rw [if_pos e2] at z ⊢
     rw [zjv z, rk]
    ·rw [if_neg e2] at z ⊢
     rw [zjv z, rk]
  rw [at_, at_]
  repeat' split
  all_goals first
   | (exfalso; omega)
   | exact m2 _ (by omega)
   | exact m3 _ (by omega) (by omega)
   | exact h _ _ (by omega) (by omega)
theorem q0r (hr : ∀ i j, i < n → j < n → r i = r j → i = j) (h1 : 1 ≤ n) {Q : Array Nat → Shared → Prop} (q : ∀ p, PermN r n p → Asc r p n → Q p s) : (kas_sort n).kasWp (zqb r n) Q s := by
 unfold kas_sort
 rw [KasT.kasWp_bind]
 refine zzv hr (.of hr (by simp)) h1 fun k p P k1 k2 k3 => ?_
 dsimp only
 by_cases e : k < n
 ·rw [if_pos e, show max k 1 = k by omega]
  exact q1n hr _ p k P (by omega) k3 q
 ·rw [if_neg e]
  obtain rfl : k = n := by omega
  exact q p P k3
end
end L2
set_option Elab.async false
set_option linter.all false
set_option maxRecDepth 100000
namespace L2
open PySem PySem.Spec PyProof.Rows PySem.W
structure TabOk (t : SetTable) : Prop where
 dm : t.dummies = #[]
 mz : t.mask = 7 ∧ t.place.size ≤ 4 ∨ t.mask = 31 ∧ t.place.size ≤ 18 ∨ t.mask = 127 ∧ t.place.size ≤ 60
 rs : Ris t.place
theorem TabOk.slot {t : SetTable} (T : TabOk t) (j : Nat) : t.slot j = if t.place[SetTable.below t.place j]? = some j then .live (SetTable.below t.place j) else .empty := by
 unfold SetTable.slot
 have : SetTable.has t.dummies j = false := by rw [T.dm]; rfl
 rw [this]
 simp
end L2
set_option Elab.async false
set_option linter.all false
set_option maxRecDepth 100000
namespace L2
open PySem PySem.Spec PyProof.Rows PySem.W
section
variable {prog : Program} {w : World} {A : Around} {E : Value → Shared → Prop} {s : Shared} {a : Addr} {L : Bool}
theorem zjd {n : Nat} (h : n ≤ 1000) : n ≤ sizeLine := by rw [sizeLine_eq]; omega
theorem zhe {vs : List Value} {a : Addr} {n : Nat} {r : Nat → Nat} {P : PySem.Fin → Shared → Prop} (ho : s.heap.get? a = some (seqObj "list" vs.toArray n)) (h64 : vs.length < 64) (hr : ∀ i j, i < vs.length → j < vs.length → r i = r j → i = j)
  (hR : 2 ≤ vs.length → ∀ h' : Heap, (∀ b o, b ≠ a → s.heap.get? b = some o → h'.get? b = some o) → ∃ k, (∀ (E : Value → Shared → Prop) (Q : SortKind → Shared → Prop), Q k { s with heap := h' } → wpAny (model prog w) A (keyKind' vs.toArray) Q E { s with heap := h' }) ∧
   ∀ i j, i < vs.length → j < vs.length → ∀ (E : Value → Shared → Prop) (Q : Bool → Shared → Prop), Q (decide (r i < r j)) { s with heap := h' } → wpAny (model prog w) A (keyLt' k (vs.getD i .none) (vs.getD j .none)) Q E { s with heap := h' })
  (h : ∀ p, PermN r vs.length p → Asc r p vs.length → P (.done (.ret .none)) { s with heap := sortedHeap s.heap a vs (p.toList.map fun i => vs.getD i .none).toArray }) :
  wpAny (model prog w) A (Builtin.«list.sort» ⟨[.ref a], []⟩) P E s := by
 rw [list_sort_plain]
 have hz : vs.length ≤ sizeLine := zjd (by omega)
 have ha : a < s.heap.objs.size := Heap.lt_size ho
 refine wpAny_bind (listItems_at ho rfl ?_)
 refine wpAny_bind (listUpdate_at ho rfl ?_ (by simpa using hz) (Nat.zero_le _))
 obtain ⟨e1, ho1⟩ : ∃ e1, (s.heap.update a (Obj.mapSeq fun _ => #[])).get? a = some (seqObj "list" #[] e1) := ⟨_, get?_update_seq ho (fun _ => #[])⟩
 refine wpAny_bind (seqEpoch_at ho1 rfl ?_)
 refine wpAny_bind (wpAny_newTuple ?_ (by simpa using hz))
 refine wpAny_bind (wpAny_newList ?_ (Nat.zero_le _))
 refine wpAny_holding ?_
 have ho6 : (((s.heap.update a (Obj.mapSeq fun _ => #[])).push (seqObj "tuple" vs.toArray 0)).push (seqObj "list" #[] 0)).get? a = some (seqObj "list" #[] e1) := by
  rw [Heap.get?_push_ne _ _ _ (by rw [size_push', Heap.size_update]; exact Nat.ne_of_lt (Nat.lt_succ_of_lt ha)), Heap.get?_push_ne _ _ _ (by rw [Heap.size_update]; exact Nat.ne_of_lt ha)]
  exact ho1
 have hkeep : ∀ b o, b ≠ a → s.heap.get? b = some o → (((s.heap.update a (Obj.mapSeq fun _ => #[])).push (seqObj "tuple" vs.toArray 0)).push (seqObj "list" #[] 0)).get? b = some o := fun b o hb e => by
  refine Heap.get?_push_of_some _ (Heap.get?_push_of_some _ ?_)
  rw [Heap.get?_update_ne _ _ _ _ hb]
  exact e
 show wpAny (model prog w) A _ P E { s with heap := ((s.heap.update a (Obj.mapSeq fun _ => #[])).push (seqObj "tuple" vs.toArray 0)).push (seqObj "list" #[] 0) }
 dsimp only
 have hsz : vs.toArray.size = vs.length := by simp
 by_cases h2 : vs.toArray.size < 2
 ·rw [if_pos h2, if_pos h2]
  refine wpAny_bind (wpAny_pure ?_)
  rw [StateT.run_pure]
  refine wpAny_bind (wpAny_pure ?_)
  dsimp only
  refine wpAny_bind (seqEpoch_at ho6 rfl ?_)
  refine wpAny_bind (listUpdate_at ho6 rfl ?_ (Nat.zero_le _) (by rw [Array.size_map]; show (pairsOf vs).size ≤ _; rw [pairsOf_size]; exact Nat.le_succ_of_le hz))
  simp only [bne_self_eq_false, Bool.false_eq_true, if_false]
  have e : (arrOf (SortSt.mk' general' (vs.toArray.zip vs.toArray) #[] 7 none)).map (·.2) = vs.toArray := by
   show (vs.toArray.zip vs.toArray).map (·.2) = _
   apply Array.toList_inj.mp
   simp [List.map_snd_zip]
  rw [e]
  have z := h (List.toArray (List.range vs.length)) (.of hr (by simp)) (fun i j hij hj => by rw [hsz] at h2; omega)
  have ev : ((List.toArray (List.range vs.length)).toList.map fun i => vs.getD i Value.none) = vs := by
   refine List.ext_getElem (by simp) fun i h1 h2 => ?_
   simp [h2]
  rw [ev] at z
  exact wpAny_pure z
 ·rw [if_neg h2, if_neg h2]
  rw [hsz] at h2
  obtain ⟨kk, hK, hRi⟩ := hR (by omega) _ hkeep
  refine wpAny_bind (hK _ _ ?_)
  refine wpAny_bind (wpAny_mono (kat_run (κ := kk) (Q := fun st' s' => ∃ p : Array Nat, PermN r vs.length p ∧ Asc r p vs.length ∧ arrOf st' = p.map (kas_item (vs.toArray.zip vs.toArray)) ∧ failedOf st' = none ∧ s' = { s with heap := ((s.heap.update a (Obj.mapSeq fun _ => #[])).push (seqObj "tuple" vs.toArray 0)).push (seqObj "list" #[] 0) })
   (G := fun p s' => PermN r vs.length p ∧ Asc r p vs.length ∧ s' = { s with heap := ((s.heap.update a (Obj.mapSeq fun _ => #[])).push (seqObj "tuple" vs.toArray 0)).push (seqObj "list" #[] 0) })
   rfl (by omega) h64 (fun p' st' s' a1 a2 a3 ⟨a4, a5, a6⟩ => ⟨p', a4, a5, a2, a3, a6⟩) (zt7 (r := r) (fun i j C hi hj hc => hRi i j hi hj _ _ hc) _ (q0r hr (by omega) fun p P1 P2 => ⟨P1, P2, rfl⟩))) ?_ fun _ _ e => e)
  rintro ⟨⟨⟩, st'⟩ s' ⟨p, P1, P2, har, hf, rfl⟩
  dsimp only at har hf ⊢
  have e := kat_snds (ks := vs) (vs := vs) rfl har
  refine wpAny_bind (seqEpoch_at ho6 rfl ?_)
  refine wpAny_bind (listUpdate_at ho6 rfl ?_ (Nat.zero_le _) (by rw [e, List.size_toArray, List.length_map, Array.length_toList, P1.sz]; exact Nat.le_succ_of_le hz))
  rw [hf]
  simp only [bne_self_eq_false, Bool.false_eq_true, if_false, e]
  exact wpAny_pure (h p P1 P2)
end
theorem zjo : ∀ x : List Int, ltI x x = false
 | [] => rfl
 | a :: x => by rw [ltI, if_pos rfl]; exact zjo x
section
variable {prog : Program} {w : World} {A : Around} {E : Value → Shared → Prop} {s : Shared} {S : Addr}
end
def RisP (ps : List (List Int)) : Prop := (∀ p ∈ ps, p ≠ []) ∧ ps.Pairwise (fun p q => ltI p q = true) ∧ ps.length ≤ 60
section
variable {X : Cx} {pins : List (Addr × Obj)} {σ : St} {H : Hp} {s : Shared}
theorem RisP.lt {ps : List (List Int)} (R : RisP ps) {i j : Nat} (hi : i < ps.length) (hj : j < ps.length) : ltI (ps.getD i []) (ps.getD j []) = decide (i < j) := by
 have up : ∀ i j, i < j → j < ps.length → ltI (ps.getD i []) (ps.getD j []) = true := fun i j hij hj => by
  rw [List.getD_eq_getElem?_getD, List.getD_eq_getElem?_getD, List.getElem?_eq_getElem (by omega), List.getElem?_eq_getElem hj]
  exact List.pairwise_iff_getElem.mp R.2.1 i j (by omega) hj hij
 rcases Nat.lt_trichotomy i j with z | rfl | z
 ·rw [up i j z hj, decide_eq_true z]
 ·rw [zjo, decide_eq_false (Nat.lt_irrefl _)]
 ·rw [zvf (up j i z hi), decide_eq_false (by omega)]
theorem RisP.inj {ps : List (List Int)} (R : RisP ps) {i j : Nat} (hi : i < ps.length) (hj : j < ps.length) (e : ps.getD i [] = ps.getD j []) : i = j := by
 have a := R.lt hi hj
 have b := R.lt hj hi
 rw [e, zjo] at a b
 have a := of_decide_eq_false a.symm
 have b := of_decide_eq_false b.symm
 omega
end
end L2
set_option Elab.async false
set_option linter.all false
set_option maxRecDepth 100000
namespace L2
open PySem PySem.Spec PyProof.Rows PySem.W
section
variable {prog : Program} {w : World} {A : Around} {E : Value → Shared → Prop} {s : Shared}
end
def zvw (K : PySem.W.Frag) (ta : TA) (tc : TE) : TE := fun σ H Q => ta σ H fun vs H1 => tc σ H1 fun y H2 => ∃ (a : Addr) (ns : List Int) (d : Int), vs = [.ref a] ∧ y = .int d ∧ SqL K H2 a (ns.map V.int) ∧ ∀ M, ((ns = [] ∧ M = d) ∨ (M ∈ ns ∧ ∀ a ∈ ns, a ≤ M)) → Q (.int M) H2
def q0u (K : PySem.W.Frag) : List V → Hp → VK → Prop := fun xs H Q => ∃ (a : Addr) (ns : List Int), xs = [.ref a] ∧ SqL K H a (ns.map V.int) ∧ Q (.int ns.sum) H
section
variable {X : Cx}
end
theorem zd0 {K : PySem.W.Frag} {ta : TA} {g : TG} {tt : TT} {te : TE} {mp : List (Option Nat)} {σ : St} {H : Hp} {Q : VK} : zkg (zs5 K ta) g tt te mp σ H Q = ta σ H fun vs H1 => ∃ a, vs = [.ref a] ∧ (∃ xs, SqT K H1 a xs) ∧ zi5 (zxn K a) g tt te Q (subσ mp σ) H1 := rfl
end L2
set_option Elab.async false
set_option linter.all false
set_option maxRecDepth 100000
namespace L2
open PySem PySem.Spec PyProof.Rows PySem.W
def zmf : V → List V → Hp → VK → Prop := fun x vs H Q => ∃ (l : Addr) (ss : List Str) (y : Str), x = .ref l ∧ vs = [.str y] ∧ H l = some (.lst (ss.map V.str)) ∧ Q (.int (ss.count y : Nat)) H
section
variable {X : Cx}
theorem Inv.grow {pins : List (Addr × Obj)} {σ : St} {H H' : Hp} {s : Shared} {h' : Heap} {t' : Nat} (I : Inv X pins σ H s) (k : ∀ b u, s.heap.get? b = some u → h'.get? b = some u) (sm : Same H H') (old : ∀ b, b < s.heap.objs.size → H b = none → H' b = none)
  (new : ∀ b u, H b = none → H' b = some u → ObjOk X.prog X.w H' h' b u) : Inv X pins σ H' { s with heap := h', toks := t' } := by
 refine I.un ⟨fun b u q _ _ _ => k b u q, fun b u q _ _ _ => ⟨u.slots, k b u q⟩, fun b u q n _ => old b (Heap.lt_size q) n, fun b u q _ => ⟨u, k b u q⟩, fun b xs q => sm _ _ q, fun b u xs q => sm _ _ q, fun b ps q => ⟨#[], by rw [sm _ _ q]; simp⟩⟩ fun b u e => ?_
 cases hb : H b with
 | none => exact new b u hb e
 | some u' =>
  have := sm _ _ hb
  rw [e] at this
  cases this
  exact (I.hok b u hb).stay (fun c v _ q => k c v q) (fun c q => sm _ _ q) fun c xs q => sm _ _ q
end
def zl6 (v d : Addr) : HO := .ext fun h => h.IsItemsView v d
def zkn : V → List V → Hp → VK → Prop := fun x vs H Q => ∃ (d : Addr) (kvs : List (Key × V)), x = .ref d ∧ vs = [] ∧ H d = some (.dK kvs) ∧ ∀ p, H p = none → Q (.ref p) (upd H p (zl6 p d))
def zmo (p : Str × Int) : Dm := .tup [.str p.1, .int p.2]
def zpe : List V → Hp → VK → Prop := fun xs H Q => ∃ (v d : Addr) (kvs : List (Str × Int)) (ρ : Str → Nat), xs = [.ref v] ∧ H v = some (zl6 v d) ∧ H d = some (.dK (kvs.map fun p => (Sum.inr p.1, V.int p.2))) ∧ kvs.length < 64 ∧
 (∀ p ∈ kvs, ∀ q ∈ kvs, decide (p.1.cps.toList < q.1.cps.toList) = decide (ρ p.1 < ρ q.1) ∧ (ρ p.1 = ρ q.1 → p.1 = q.1)) ∧
 ∀ (l : Addr) (H' : Hp) (ws : List V) (ms : List (Str × Int)), Same H H' → H l = none → H' l = some (.lst ws) → DtA H' ws (ms.map zmo) → ms.Perm kvs → ms.Pairwise (fun p q => ρ p.1 < ρ q.1) → Q (.ref l) H'
section
variable {prog : Program} {w : World} {A : Around} {E : Value → Shared → Prop} {s : Shared}
theorem zwm {x y : Str} {a c : Addr} {ox oy : Obj} {xs ys : Array Value} {n m : Nat} {t u : Tok} {d e : Value} {Q : Bool → Shared → Prop} (ha : s.heap.get? a = some ox) (da : ox.data = .seq xs n) (hc : s.heap.get? c = some oy) (dc : oy.data = .seq ys m)
  (ex : xs.toList = [.str x t, d]) (ey : ys.toList = [.str y u, e]) (hne : x ≠ y) (h : Q (decide (x.cps.toList < y.cps.toList)) s) : wpAny (model prog w) A (keyLt' (tuples' true) (.ref a) (.ref c)) Q E s := by
 refine kat_lt ha da hc dc ?_
 rw [ex, ey, List.zip_cons_cons]
 refine kat_cons (wpAny_eqBool_str ?_)
 rw [decide_eq_false hne]
 exact kat_no (oneLt_str h)
end
section
variable {prog : Program} {w : World} {A : Around} {E : Value → Shared → Prop} {s : Shared} {K : Type} [DecidableEq K] {knd : PySem.KeyKind prog w K}
theorem zjs {r d : Addr} {kvs : List (K × Value)} {ep : Nat} {Q : List Value → Shared → Prop} (hh : A.handled = none) (hv : s.heap.IsItemsView r d) (hm : s.heap.DictAt knd d kvs ep) (hn : kvs.length ≤ sizeLine)
  (q : ∀ (h' : Heap) (tk : Nat) (as : List Addr), s.heap.objs.size ≤ h'.objs.size → (∀ b o, s.heap.get? b = some o → h'.get? b = some o) → as.length = kvs.length → KdxG knd kvs s.heap.objs.size h' as → Q (as.map Value.ref) { s with heap := h', toks := tk }) :
  wpAny (model prog w) A (collect (.ref r)) Q E s := by
 have hr : r < s.heap.objs.size := let ⟨_, ho, _⟩ := hv; Heap.lt_size ho
 have hd : d < s.heap.objs.size := hm.lt_size
 unfold collect
 refine wpAny_bind (wpAny_runValue (codeAny_builtin PySem.F.entry_proto_collect ?_))
 rw [Around.under_plainId PySem.F.plain_proto_collect]
 refine wpAny_bind (wpAny_newList (wpAny_pure ⟨plainId_quiet PySem.F.plain_list_iadd _, codeAny_builtin PySem.F.entry_list_iadd ?_⟩))
 rw [Around.under_plainId PySem.F.plain_list_iadd]
 have e0 : (s.heap.push (seqObj "list" #[] 0)).get? s.heap.objs.size = some (seqObj "list" #[] 0) := Heap.get?_push_size _ rfl
 show wpAny _ _ (Builtin.List.listExtendWith (.ref s.heap.objs.size) (.ref r) (.ref s.heap.objs.size)) _ _ { s with heap := s.heap.push (seqObj "list" #[] 0) }
 have fin : ∀ (v : Result) (s' : Shared), (∃ (h' : Heap) (tk : Nat) (acc : Array Value) (c : Nat) (as : List Addr), v = .ok (.ret (.ref s.heap.objs.size)) ∧ s' = { s with heap := h', toks := tk } ∧ h'.get? s.heap.objs.size = some { cls := .type "list", dict := none, data := .seq acc c, slots := #[] } ∧ acc.toList = as.map Value.ref ∧ Q (as.map Value.ref) { s with heap := h', toks := tk }) →
   (match v with | .ok (.ret v) => wpAny (model prog w) A (match v with | .ref a => (do match (← load a).data with | .seq xs _ => pure xs.toList | _ => unsupported "internal:collect") | _ => unsupported "internal:collect") Q E s' | .ok _ => False | .error e => E e s') := by
  rintro v s' ⟨h', tk, acc, c, as, rfl, rfl, hS, hacc, hq⟩
  refine wpAny_bind (wpAny_load hS (wpAny_pure ?_))
  rw [hacc]
  exact hq
 refine wpAny_mono (kdx_extend (A := A) (s := { s with heap := s.heap.push (seqObj "list" #[] 0) }) (knd := knd) (kvs := kvs) (ep := ep)
  (R := fun v s' => ∃ (h' : Heap) (tk : Nat) (acc : Array Value) (c : Nat) (as : List Addr), v = .ok (.ret (.ref s.heap.objs.size)) ∧ s' = { s with heap := h', toks := tk } ∧ h'.get? s.heap.objs.size = some { cls := .type "list", dict := none, data := .seq acc c, slots := #[] } ∧ acc.toList = as.map Value.ref ∧ Q (as.map Value.ref) { s with heap := h', toks := tk })
  hh (let ⟨o, ho, x⟩ := hv; ⟨o, Heap.get?_push_of_some _ ho, x⟩) (hm.push _) s.heap.objs.size (Nat.ne_of_gt hr) (Nat.ne_of_lt hd) (.ref s.heap.objs.size) 0 e0 (fun h' tk acc c as hk hS hl g hacc => ⟨h', tk, acc, c, as, rfl, rfl, hS, hacc, ?_⟩) hn) (fun f s' z => ?_) (fun e s' z => fin _ _ z)
 ·refine q h' tk as (Nat.le_of_lt (Heap.lt_size hS)) (fun b o e => hk b o (Nat.ne_of_lt (Heap.lt_size e)) (Heap.get?_push_of_some _ e)) hl (g.low ?_)
  show s.heap.objs.size ≤ (s.heap.push _).objs.size
  rw [Heap.size_push]
  exact Nat.le_succ _
 ·cases f with
  | done f => exact fin _ _ z
  | again c => exact ⟨z.1, codeAny_mono z.2 fun r s2 y => fin r s2 y⟩
end
def ztn : List Addr → List (List V) → Hp → Hp
 | a :: as, x :: xs, H => upd (ztn as xs H) a (.tup x)
 | _, _, H => H
theorem zf5 : ∀ {as : List Addr} {xs : List (List V)} {H : Hp} {b : Addr}, b ∉ as → ztn as xs H b = H b
 | [], _, _, _, _ => rfl
 | a :: as, [], _, _, _ => rfl
 | a :: as, x :: xs, H, b, h => by
  rw [ztn, z0e (show b ≠ a from fun z => h (by rw [z]; exact List.mem_cons_self))]
  exact zf5 fun z => h (.tail _ z)
theorem zm4 : ∀ {as : List Addr} {xs : List (List V)} {H : Hp} {j : Nat} {a : Addr} {x : List V}, as.Pairwise (· < ·) → as[j]? = some a → xs[j]? = some x → ztn as xs H a = some (.tup x)
 | [], _, _, _, _, _, _, h, _ => by simp at h
 | a :: as, [], _, _, _, _, _, _, h => by simp at h
 | a :: as, x :: xs, H, 0, b, y, _, h1, h2 => by
  have e1 : a = b := by simpa using h1
  have e2 : x = y := by simpa using h2
  subst e1 e2
  exact z01
 | a :: as, x :: xs, H, j + 1, b, y, hp, h1, h2 => by
  obtain ⟨p1, p2⟩ := List.pairwise_cons.mp hp
  have h1' : as[j]? = some b := by simpa using h1
  have hlt := p1 b (List.mem_of_getElem? h1')
  rw [ztn, z0e (Nat.ne_of_gt hlt)]
  exact zm4 p2 h1' (by simpa using h2)
theorem zvt : ∀ {as : List Addr} {xs : List (List V)} {H : Hp} {b : Addr} {u : HO}, as.length = xs.length → as.Pairwise (· < ·) → b ∈ as → ztn as xs H b = some u → ∃ (j : Nat) (x : List V), as[j]? = some b ∧ xs[j]? = some x ∧ u = .tup x := by
 intro as xs H b u hl hp hb e
 obtain ⟨j, hj, ej⟩ := List.getElem_of_mem hb
 have h1 : as[j]? = some b := by rw [List.getElem?_eq_getElem hj, ej]
 have h2 : xs[j]? = some xs[j] := List.getElem?_eq_getElem (by omega)
 have z := zm4 (H := H) hp h1 h2
 rw [e] at z
 cases z
 exact ⟨j, _, h1, h2, rfl⟩
section
variable {X : Cx}
theorem zug : MtM X "dict.items" zkn := by
 intro pins s σ H x vs v us Q I rx rv h
 obtain ⟨d, kvs, rfl, rfl, hH, q⟩ := h
 cases rx
 cases rv
 obtain ⟨z, hd, xs, rel, dd⟩ := zx2 I.hok hH
 have hT : s.TypeIs (.ref d) "dict" := dd.typeIs
 refine call_meetsIn F.slot_dict_items hT F.entry_dict_items (F.args_dict_items_1 _) (meets_dict_items (z3j X.prog X.w) d hd) ⟨⟨_, dd⟩, ?_⟩
 have e := Heap.get?_push_size s.heap (o := { cls := .type "dict_items", data := .fields #[.ref d] }) rfl
 refine ⟨.ref s.heap.objs.size, _, I.laid (t' := s.toks) (fun b u q => Heap.get?_push_of_some _ q) (Nat.le_refl _) (show ObjOk X.prog X.w _ _ _ (zl6 s.heap.objs.size d) from ⟨⟨_, e, rfl, rfl⟩, ⟨_, e⟩, fun h1 h2 ⟨o, e1, r⟩ y => ⟨o, y _ e1, r⟩⟩), rfl, q _ (I.hok.fresh (Nat.le_refl _))⟩
theorem zvi {kvs : List (Str × Int)} : ∀ {vs : List (Key × Value)}, KV (kvs.map fun p => ((Sum.inr p.1 : Key), V.int p.2)) vs → ∀ (j : Nat) (k : Key) (x : Value), vs[j]? = some (k, x) → ∃ p t, kvs[j]? = some p ∧ k = Sum.inr p.1 ∧ x = .int p.2 t := by
 induction kvs with
 | nil =>
  intro vs rel j k x e
  cases rel
  simp at e
 | cons p kvs ih =>
  intro vs rel j k x e
  cases rel with
  | cons rr rt =>
   cases j with
   | zero =>
    obtain ⟨h1, t, h2⟩ := rr
    simp only [List.getElem?_cons_zero, Option.some.injEq] at e
    subst e
    exact ⟨p, t, rfl, h1.symm, h2⟩
   | succ j => exact ih rt j k x (by simpa using e)
theorem zoq {α : Type} {H : Hp} {f : α → V} {g : α → Dm} : ∀ {l : List α}, (∀ i ∈ l, Dt H (f i) (g i)) → DtA H (l.map f) (l.map g)
 | [], _ => .nil
 | i :: l, h => .cons (h i (.head _)) (zoq fun j hj => h j (.tail _ hj))
theorem zkd {α : Type} {f : α → V} {g : α → Value} : ∀ {l : List α}, (∀ i ∈ l, RelV (f i) (g i)) → Vals (l.map f) (l.map g)
 | [], _ => .nil
 | i :: l, h => .cons (h i (.head _)) (zkd fun j hj => h j (.tail _ hj))
theorem zaq (hc : X.calm = true) : CallR X (.builtin "sorted") zpe := by
 intro pins s σ H xs us Q I r h
 obtain ⟨v, d, kvs, ρ, rfl, hv, hd, h64, hρ, q⟩ := h
 obtain ⟨u, rfl, r1⟩ := r.one
 cases r1
 have view : s.heap.IsItemsView v d := (show ObjOk X.prog X.w H s.heap v (zl6 v d) from I.hok v _ hv).1
 obtain ⟨zl, hsm, xs, rel, dd⟩ := zx2 I.hok hd
 obtain ⟨ep, da⟩ := dd.dictAt
 have hxl : xs.length = kvs.length := by have := rel.length; rw [List.length_map] at this; exact this.symm
 refine Calls.call_function_entry kind_sorted plain_sorted entry_sorted (args_sorted1 _) ?_
 unfold Builtin.«sorted»
 refine wpAny_bind (m := checkCount "sorted" 1 1 _) (wpAny_pure (wpAny_bind (zjs (A := X.A.in1) (by simpa using I.ok.hd hc) view da (zjd (by omega)) fun h1 tk as hsz k1 hal g => ?_)))
 have hal' : as.length = kvs.length := by omega
 have hpair : ∀ j a, as[j]? = some a → ∃ (p : Str × Int) (t u : Tok), kvs[j]? = some p ∧ h1.get? a = some { cls := .type "tuple", data := .seq #[.str p.1 t, .int p.2 u] } := fun j a ha => by
  obtain ⟨key, k, x, e1, e2, e3⟩ := g.pairs j a ha
  obtain ⟨p, t, e4, rfl, rfl⟩ := zvi rel j k x e1
  rcases z3k (show zmz (Sum.inr p.1) key = true from e2) with ⟨i, t', e5, rfl⟩ | ⟨y, t', e5, rfl⟩
  ·cases e5
  ·cases e5
   exact ⟨p, t', t, e4, e3⟩
 have hnd : (kvs.map (·.1)).Nodup := by
  have z := da.nodup
  have e : xs.map (·.1) = kvs.map fun p => (Sum.inr p.1 : Key) := by
   refine List.ext_getElem? fun j => ?_
   rw [List.getElem?_map, List.getElem?_map]
   cases ej : xs[j]? with
   | none =>
    have : kvs[j]? = none := by rw [List.getElem?_eq_none_iff] at ej ⊢; omega
    rw [this]; rfl
   | some kx =>
    obtain ⟨k, x⟩ := kx
    obtain ⟨p, t, e4, e5, _⟩ := zvi rel j k x ej
    rw [e4, e5]; rfl
  rw [e] at z
  exact List.pairwise_map.mpr ((List.pairwise_map.mp z).imp fun h e => h (by rw [e]))
 have hD : ∀ i, i < kvs.length → kvs[i]? = some (kvs.getD i (⟨#[]⟩, 0)) := fun i hi => by
  rw [List.getD_eq_getElem?_getD, List.getElem?_eq_getElem hi]; rfl
 have hA : ∀ i, i < kvs.length → as[i]? = some (as.getD i 0) := fun i hi => by
  rw [List.getD_eq_getElem?_getD, List.getElem?_eq_getElem (by omega)]; rfl
 have hmem : ∀ i, i < kvs.length → kvs.getD i (⟨#[]⟩, 0) ∈ kvs := fun i hi => List.mem_of_getElem? (hD i hi)
 have hat : ∀ i, i < kvs.length → ∃ t u, h1.get? (as.getD i 0) = some { cls := .type "tuple", data := .seq #[.str (kvs.getD i (⟨#[]⟩, 0)).1 t, .int (kvs.getD i (⟨#[]⟩, 0)).2 u] } := fun i hi => by
  obtain ⟨p, t, u, e1, e2⟩ := hpair i _ (hA i hi)
  rw [hD i hi] at e1
  cases e1
  exact ⟨t, u, e2⟩
 have hvl : (as.map Value.ref).length = kvs.length := by rw [List.length_map, hal']
 have hvd : ∀ i, i < kvs.length → (as.map Value.ref).getD i .none = .ref (as.getD i 0) := fun i hi => by
  rw [List.getD_eq_getElem?_getD, List.getElem?_map, hA i hi]; rfl
 have hne : ∀ i j, i < kvs.length → j < kvs.length → (kvs.getD i (⟨#[]⟩, 0)).1 = (kvs.getD j (⟨#[]⟩, 0)).1 → i = j := fun i j hi hj e => by
  have hi' : i < (kvs.map (·.1)).length := by rw [List.length_map]; exact hi
  have hj' : j < (kvs.map (·.1)).length := by rw [List.length_map]; exact hj
  refine (List.getElem_inj (h₀ := hi') (h₁ := hj') hnd).mp ?_
  rw [List.getElem_map, List.getElem_map]
  have a1 := hD i hi
  have a2 := hD j hj
  rw [List.getElem?_eq_getElem hi] at a1
  rw [List.getElem?_eq_getElem hj] at a2
  rw [Option.some.inj a1, Option.some.inj a2]
  exact e
 refine wpAny_bind (wpAny_newList ?_ (zjd (by omega)))
 have eL : (h1.push (seqObj "list" (as.map Value.ref).toArray 0)).get? h1.objs.size = some (seqObj "list" (as.map Value.ref).toArray 0) := Heap.get?_push_size _ rfl
 refine wpAny_bind (wpAny_holding (wpAny_call_entry slot_list_sort ⟨_, eL, rfl⟩ entry_list_sort (zhe (r := fun i => ρ (kvs.getD i (⟨#[]⟩, 0)).1) eL (by omega) (fun i j hi hj e => hne i j (by omega) (by omega) ((hρ _ (hmem i (by omega)) _ (hmem j (by omega))).2 e)) (fun h2 h' kp => ?_) fun p P1 P2 => ⟨_, rfl, ?_⟩) (args_list_sort _)))
 ·have keep : ∀ i, i < kvs.length → ∃ t u, h'.get? (as.getD i 0) = some { cls := .type "tuple", data := .seq #[.str (kvs.getD i (⟨#[]⟩, 0)).1 t, .int (kvs.getD i (⟨#[]⟩, 0)).2 u] } := fun i hi => by
   obtain ⟨t, u, e⟩ := hat i hi
   exact ⟨t, u, kp _ _ (Nat.ne_of_lt (Heap.lt_size e)) (Heap.get?_push_of_some _ e)⟩
  have tups : ∀ (l : List Nat), (∀ i ∈ l, i < kvs.length) → ∃ fs, KatTups h' (l.map fun i => (as.map Value.ref).getD i .none) fs ∧ fs.length = l.length ∧ ∀ f ∈ fs, ∃ x t, f = .str x t := by
   intro l
   induction l with
   | nil => intro _; exact ⟨[], .nil, rfl, fun f hf => absurd hf (by simp)⟩
   | cons i l ih =>
    intro hl
    obtain ⟨fs, k, lf, ff⟩ := ih fun j hj => hl j (.tail _ hj)
    obtain ⟨t, u, e⟩ := keep i (hl i (.head _))
    refine ⟨.str (kvs.getD i (⟨#[]⟩, 0)).1 t :: fs, ?_, by simp [lf], fun f hf => ?_⟩
    ·rw [List.map_cons, hvd i (hl i (.head _))]
     exact .cons e rfl rfl rfl k
    ·rcases List.mem_cons.mp hf with rfl | hf
     ·exact ⟨_, _, rfl⟩
     ·exact ff f hf
  obtain ⟨fs, kt, fl, ff⟩ := tups (List.range kvs.length) fun i hi => List.mem_range.mp hi
  have ev : ((List.range kvs.length).map fun i => (as.map Value.ref).getD i .none) = as.map Value.ref := by
   refine List.ext_getElem (by simp [hal']) fun i h1 h2 => ?_
   simp at h2
   simp [h2]
  rw [ev] at kt
  rw [List.length_range] at fl
  refine ⟨tuples' true, fun E Q hQ => kat_kind (T := .type "str") kt (by omega) (fun v hv => ?_) rfl hQ, fun i j hi hj E Q hQ => ?_⟩
  ·obtain ⟨x, t, rfl⟩ := ff v hv
   exact Looks.of_pure rfl
  ·rw [hvl] at hi hj
   rw [hvd i hi, hvd j hj]
   obtain ⟨t1, u1, e1⟩ := keep i hi
   obtain ⟨t2, u2, e2⟩ := keep j hj
   by_cases eij : i = j
   ·subst eij
    rw [decide_eq_false (Nat.lt_irrefl _)] at hQ
    rw [e1] at e2
    refine kat_lt e1 rfl e1 rfl ?_
    refine kat_cons (wpAny_eqBool_str ?_)
    rw [decide_eq_true rfl]
    refine kat_yes (kat_cons (wpAny_eqBool_int ?_))
    rw [show ((kvs.getD i (⟨#[]⟩, 0)).2 == (kvs.getD i (⟨#[]⟩, 0)).2) = true from beq_self_eq_true _]
    refine kat_yes (kat_nil ?_)
    simpa using hQ
   ·refine zwm e1 rfl e2 rfl rfl rfl (fun z => eij (hne i j hi hj z)) ?_
    rw [(hρ _ (hmem i hi) _ (hmem j hj)).1]
    exact hQ
 ·refine wpAny_pure ⟨_, rfl, ?_⟩
  rw [hvl] at P1 P2
  obtain ⟨n, en⟩ := sortedHeap_at (out := (p.toList.map fun i => (as.map Value.ref).getD i Value.none).toArray) eL
  have hin : ∀ i ∈ p.toList, i < kvs.length := fun i hi => List.mem_range.mp (P1.pm.mem_iff.mp hi)
  have oldF : ∀ b u, h1.get? b = some u → (sortedHeap (h1.push (seqObj "list" (as.map Value.ref).toArray 0)) h1.objs.size (as.map Value.ref) (p.toList.map fun i => (as.map Value.ref).getD i Value.none).toArray).get? b = some u := fun b u hu => by
   have lb := Heap.lt_size hu
   rw [sortedHeap_old (Nat.ne_of_lt lb) (by rw [size_push']; exact Nat.lt_succ_of_lt lb)]
   exact Heap.get?_push_of_some _ hu
  have hup : ∀ a ∈ as, s.heap.objs.size ≤ a ∧ a < h1.objs.size := fun a ha => ⟨Nat.le_of_lt (g.above a ha), g.there ha⟩
  have nL : h1.objs.size ∉ as := fun z => absurd (hup _ z).2 (Nat.lt_irrefl _)
  have low : ∀ b, b < s.heap.objs.size → upd (ztn as (kvs.map fun p => [V.str p.1, V.int p.2]) H) h1.objs.size (.lst (p.toList.map fun i => V.ref (as.getD i 0))) b = H b := fun b hb => by
   rw [z0e (Nat.ne_of_lt (Nat.lt_of_lt_of_le hb hsz)), zf5 fun z => absurd (hup b z).1 (by omega)]
  have sm : Same H (upd (ztn as (kvs.map fun p => [V.str p.1, V.int p.2]) H) h1.objs.size (.lst (p.toList.map fun i => V.ref (as.getD i 0)))) := fun b u e => by
   rw [low b (I.hok b u e).lt]; exact e
  have atT : ∀ i, i < kvs.length → upd (ztn as (kvs.map fun p => [V.str p.1, V.int p.2]) H) h1.objs.size (.lst (p.toList.map fun i => V.ref (as.getD i 0))) (as.getD i 0) = some (.tup [V.str (kvs.getD i (⟨#[]⟩, 0)).1, V.int (kvs.getD i (⟨#[]⟩, 0)).2]) := fun i hi => by
   have ha := hA i hi
   rw [z0e fun z => nL (by rw [← z]; exact List.mem_of_getElem? ha)]
   exact zm4 g.rise ha (by rw [List.getElem?_map, hD i hi]; rfl)
  refine ⟨.ref h1.objs.size, _, I.grow (t' := tk) (fun b u e => oldF b u (k1 b u e)) sm (fun b hb e => (low b hb).trans e) (fun b u e1 e2 => ?_), rfl, q h1.objs.size _ _ (p.toList.map fun i => kvs.getD i (⟨#[]⟩, 0)) sm (I.hok.fresh hsz) z01 ?_ ?_ ?_⟩
  ·by_cases hb : b = h1.objs.size
   ·subst hb
    rw [z01] at e2
    cases e2
    refine ⟨?_, (p.toList.map fun i => (as.map Value.ref).getD i Value.none), n, zkd fun i hi => ?_, by simpa [seqObj] using en⟩
    ·rw [List.length_map, Array.length_toList, P1.sz]
     exact zjd (by omega)
    ·rw [hvd i (hin i hi)]; rfl
   ·rw [z0e hb] at e2
    by_cases hba : b ∈ as
    ·obtain ⟨j, x, ej, ex, rfl⟩ := zvt (by rw [List.length_map]; exact hal') g.rise hba e2
     obtain ⟨p', t, u, e4, e5⟩ := hpair j b ej
     rw [List.getElem?_map, e4] at ex
     cases ex
     exact ⟨zqf, [.str p'.1 t, .int p'.2 u], .cons ⟨t, rfl⟩ (.cons ⟨u, rfl⟩ .nil), ⟨_, oldF b _ e5, rfl, 0, rfl⟩⟩
    ·rw [zf5 hba, e1] at e2
     cases e2
  ·rw [List.map_map]
   refine zoq fun i hi => ?_
   exact .tup (atT i (hin i hi)) (.cons (.str _) (.cons (.int _) .nil))
  ·have z := P1.pm.map fun i => kvs.getD i ((⟨#[]⟩ : Str), (0 : Int))
   refine z.trans (.of_eq ?_)
   refine List.ext_getElem (by simp) fun i h1 h2 => ?_
   simp [h2]
  ·rw [List.pairwise_map, List.pairwise_iff_getElem]
   intro i j hi hj hij
   have hj' : j < p.size := by simpa using hj
   have z := P2 i j hij (by rw [← P1.sz]; exact hj')
   simpa [rk, Array.getD, hj', Nat.lt_trans hij hj'] using z
end
end L2
set_option Elab.async false
set_option linter.all false
set_option maxRecDepth 100000
namespace L2
open PySem PySem.Spec PyProof.Rows PySem.W
theorem zld : entryFor table "dict.update.loop" = some Builtin.«dict.update.loop» := entryFor_of_tree (by kernel_rfl)
theorem ze0 : plainId "dict.update.loop" = true := by decide +kernel
theorem q1e {n : Nat} (h : n ≤ 200000) : n ≤ sizeLine := Nat.le_trans h (by decide)
theorem zl3 : typeLookup (.type "list") "keys" = pure none := by rw [typeLookup_type, builtinLookup_eq_fast]; kernel_rfl
section
variable {prog : Program} {w : World} {A : Around} {E : Value → Shared → Prop} {s : Shared} {a : Addr}
theorem zwq {its : Array Value} {n : Nat} {Q : Option Value → Shared → Prop} (hh : A.handled = none) (hx : s.heap.get? a = some { cls := .type "list", data := .seq its n }) (q : ∀ h' tk, (∀ b o, s.heap.get? b = some o → h'.get? b = some o) → Q none { s with heap := h', toks := tk }) :
  wpAny (model prog w) A (getAttr? (.ref a) "keys") Q E s := by
 obtain ⟨hp, g, d, tk, os⟩ := s
 have hT : Shared.TypeIs ⟨hp, g, d, tk, os⟩ (.ref a) "list" := ⟨_, hx, rfl⟩
 have hT1 : Shared.TypeIs ⟨hp, g, d, tk + 1, os⟩ (.ref a) "list" := ⟨_, hx, rfl⟩
 have f1 := sub_AttributeError
 have f3 := F.slot_list_getattribute.lookup
 have f4 := F.slot_list_getattribute.bind (.ref a)
 have f5 := am_list_getattr_none
 unfold getAttr? getAttrBy? getAttrBy
 repeat (any_goals (first | assumption | ((with_reducible show wpAny _ _ (call (Value.builtin "list.__getattribute__") _ _) _ _ _); refine call_meets F.slot_list_getattribute hT1 am_entry_list_getattribute (F.args_list_getattribute_2 _ _) (meets_getattribute_miss_list a its n #[] "keys" _ zl3 (by decide +kernel)) ⟨hx, hh, fun h' tk' e hx' => ?_⟩) | wp_step))
 obtain ⟨t', u', he⟩ := hx'.there
 show wpAny _ _ (getattributeRaised _ _ _ _ _ _ _) _ _ _
 unfold getattributeRaised
 repeat (any_goals (first | assumption | wp_step))
 exact q _ _ fun b ob e => hx'.keeps b ob e
end
structure Prw where
 r : Addr
 k : Addr
 x : V
 u : Value
instance : Inhabited Prw := ⟨⟨0, 0, .non, .none⟩⟩
section
variable {X : Cx} {pins : List (Addr × Obj)} {σ : St} {H : Hp} {s : Shared}
theorem zh8 {α β : Type} {R : α → β → Prop} : ∀ {l : List α} {m : List β}, Paired R l m → l.length = m.length ∧ ∀ (j : Nat) (a : α) (b : β), l[j]? = some a → m[j]? = some b → R a b
 | [], _, .nil => ⟨rfl, fun j a b h => by simp at h⟩
 | x :: l, _, .cons r t => by
  obtain ⟨h1, h2⟩ := zh8 t
  refine ⟨by simp [h1], fun j a b ha hb => ?_⟩
  cases j with
  | zero =>
   have e1 := Option.some.inj ha
   have e2 := Option.some.inj hb
   subst e1 e2
   exact r
  | succ j => exact h2 j a b (by simpa using ha) (by simpa using hb)
end
def znr (td : TE) : TE := fun σ H Q => td σ H fun x H1 => zkn x [] H1 Q
theorem zo9 {X : Cx} {o : Expr} {apos cpos : Pos} {td : TE} (ho : PE X o td) (hbase : attributeBase o "items" X.env (eval o X.env) = eval o X.env := by rfl)
  (hfew : ((backTo cpos (starEach [] X.env)).all (fun x => !x.1) && (backToKw cpos (keywordEach [] X.env)).all (fun x => x.1.isSome)
   && decide (([] : List Expr).length + ([] : List Keyword).length + (if ([] : List Keyword).isEmpty then 0 else 1) < 30)) = true := by rfl)
  (hline : (apos.endLine == cpos.line) = true := by rfl) : PE X (.Call (.Attribute o "items" apos) [] [] cpos) (znr td) := by
 intro pins s σ H Q I h
 refine wpAny_Call_method hbase hfew hline PySem.F.plainAttrs_dict PySem.F.slot_dict_items PySem.F.type_dict_items (thn (ho pins s σ H _ I h) fun u s1 ⟨x, H1, I1, rx, q1⟩ => ?_)
 obtain ⟨d, kvs, rfl, _, hH, q⟩ := q1
 obtain rfl : u = Value.ref d := rx
 obtain ⟨t1, t2, _⟩ := zzf I1 (.inl ⟨kvs, .inl hH⟩)
 refine ⟨t1, t2, ?_⟩
 refine Calls.callWith_builtin rfl (PyProof.Rows.evalArgs_nil3 ?_)
 exact zug pins s1 σ H1 (.ref d) [] (.ref d) [] Q I1 rfl .nil ⟨d, kvs, rfl, rfl, hH, q⟩
def zvu (i j k : Nat) (ta : TA) : TS := fun D σ H => ta σ H fun vs H1 => ∃ u v w, vs = [u, v, w] ∧ D.nx (((σ.set i (some u)).set j (some v)).set k (some w)) H1
end L2
set_option Elab.async false
set_option linter.all false
set_option maxRecDepth 100000
namespace L2
open PySem PySem.Spec PyProof.Rows
def zgg (c : Addr) (q : Str) : HO := .ext fun h => h.CodeRec (.ref c) q
structure LamD where
 qual : Str
 params : Arguments
 body : Expr
 scope : Scope
def zqa (D : LamD) (cl : List (Str × Addr)) (f c' : Addr) : HO := .ext fun h => ∃ pm ctv, h.get? f = some (PySem.W.kla_obj "<lambda>" D.qual D.params D.body D.scope cl pm c' ctv)
def zy7 (P : Addr) (pos : Pos) (D : LamD) (cl : List (Str × Addr)) : TE := fun σ H Q => ∃ ps, H P = some (.tbl ps) ∧ TriplesOk ps.toList ∧
  ((codeAmong pos ps.toList = none ∧ ∀ c' f, H c' = none → H f = none → c' ≠ f → Q (.ref f) (upd (upd (upd H P (.tbl (ps ++ #[rawInt pos.line, rawInt pos.col, .ref c']))) c' (zgg c' D.qual)) f (zqa D cl f c'))) ∨
   (∃ c', codeAmong pos ps.toList = some (.ref c') ∧ H c' = some (zgg c' D.qual) ∧ ∀ f, H f = none → Q (.ref f) (upd H f (zqa D cl f c'))))
section
variable {X : Cx}
theorem zr6 {params : Arguments} {body : Expr} {scope : Scope} {pos : Pos} {c P : Addr} {cl : List (Str × Addr)} (hdef : defaultsOf params X.env = ([], [])) (hcl : closureFor scope X.env = pure cl) (hcode : X.env.code = .ref c) (C : PySem.W.CodeHd X.base c P) (hB : X.base.BuiltinsAt X.mg P) (hgP : mainGlobals ≠ P) :
  PE X (.Lambda params body scope pos) (zy7 P pos ⟨X.env.qual ++ "<lambda>", params, body, scope⟩ cl) := by
 intro pins s σ H Q I h
 obtain ⟨ps, hP, ht, h⟩ := h
 have C' : PySem.W.CodeHd s.heap c P := C.keeps I.bk
 have hb : s.heap.BuiltinsAt X.mg P := by
  obtain ⟨bm, ob, a1, a2, a3, a4, a5, a6⟩ := hB
  exact ⟨bm, ob, a1, a2, a3, a4, I.bk _ _ a5, a6⟩
 have hg : s.heap.Ns mainGlobals X.mg := I.mod.glob.keeps I.bk
 have hPo : s.heap.get? P = some (PySem.W.tabObj ps) := I.hok P _ hP
 refine PySem.W.kla_eval hdef ?_
 rcases h with ⟨hnf, h⟩ | ⟨c', hf, hc', h⟩
 ·refine PySem.W.kla_makeFunction hcl I.ok.glob hg hcode C' hPo ht hnf hgP hb fun c' ctv h' tk hx hge hlt hrec htb => ?_
  have hcn : H c' = none := I.hok.fresh hge
  have hsz : s.heap.objs.size ≤ h'.objs.size := Nat.le_of_lt (Nat.lt_of_le_of_lt hge hlt)
  have hfn : H h'.objs.size = none := I.hok.fresh hsz
  have hne : c' ≠ h'.objs.size := Nat.ne_of_lt hlt
  have hPc : P ≠ c' := z0h hP hcn
  have hPf : P ≠ h'.objs.size := z0h hP hfn
  have q := h c' h'.objs.size hcn hfn hne
  generalize hH : upd (upd (upd H P (.tbl (ps ++ #[rawInt pos.line, rawInt pos.col, .ref c']))) c' (zgg c' (X.env.qual ++ "<lambda>"))) h'.objs.size (zqa ⟨X.env.qual ++ "<lambda>", params, body, scope⟩ cl h'.objs.size c') = H' at q
  have far : ∀ b, b ≠ P → b ≠ c' → b ≠ h'.objs.size → H' b = H b := fun b h1 h2 h3 => by
   rw [← hH, z0e h3, z0e h2, z0e h1]
  have atP : H' P = some (.tbl (ps ++ #[rawInt pos.line, rawInt pos.col, .ref c'])) := by rw [← hH, z0e hPf, z0e hPc, z01]
  have old : ∀ b u, H b = some u → b ≠ P → H' b = some u := fun b u e n => (far b n (z0h e hcn) (z0h e hfn)).trans e
  have kp : ∀ b o, b ≠ P → s.heap.get? b = some o → (h'.push (PySem.W.kla_obj "<lambda>" (X.env.qual ++ "<lambda>") params body scope cl ((X.mg "__name__").getD .none) c' ctv)).get? b = some o := fun b o n e => Heap.get?_push_of_some _ (hx b o n e)
  have nP : ∀ b, H b = none → b ≠ P := fun b e z => by rw [z, hP] at e; cases e
  refine ⟨.ref h'.objs.size, H', I.un (t' := tk) ⟨fun b o e n _ _ => kp b o (nP b n) e, fun b o e n _ _ => ⟨o.slots, kp b o (nP b n) e⟩, fun b o e n _ => ?_, fun b o e _ => ?_, fun b xs e => old b _ e fun z => (by rw [z, hP] at e; cases e), fun b o u e => old b _ e fun z => (by rw [z, hP] at e; cases e), fun b qs e => ?_⟩ fun b u e => ?_, rfl, q⟩
  ·have hlt' := Heap.lt_size e
   rw [far b (nP b n) (Nat.ne_of_lt (Nat.lt_of_lt_of_le hlt' hge)) (Nat.ne_of_lt (Nat.lt_of_lt_of_le hlt' hsz))]
   exact n
  ·by_cases hb' : b = P
   ·exact ⟨_, by rw [hb']; exact Heap.get?_push_of_some _ htb⟩
   ·exact ⟨o, kp b o hb' e⟩
  ·by_cases hb' : b = P
   ·rw [hb', hP] at e
    cases e
    exact ⟨_, by rw [hb']; exact atP⟩
   ·exact ⟨#[], by rw [old b _ e hb']; simp⟩
  ·by_cases h3 : b = h'.objs.size
   ·have e' := e
    rw [← hH, h3, z01] at e'
    cases e'
    rw [h3]
    exact ⟨⟨_, _, Heap.get?_push_size _ rfl⟩, ⟨_, Heap.get?_push_size _ rfl⟩, fun h1 h2 ⟨pm, ct, z⟩ k => ⟨pm, ct, k _ z⟩⟩
   ·by_cases h2 : b = c'
    ·have e' := e
     rw [← hH, h2, z0e hne, z01] at e'
     cases e'
     rw [h2]
     obtain ⟨c₂, oc, vs, t, e2, hoc, hd, hv⟩ := hrec
     cases e2
     exact ⟨⟨_, oc, vs, t, rfl, Heap.get?_push_of_some _ hoc, hd, hv⟩, ⟨oc, Heap.get?_push_of_some _ hoc⟩, fun h1 h2 ⟨c3, oc, vs, t, e3, z, zd, zv⟩ k => by cases e3; exact ⟨_, oc, vs, t, rfl, k _ z, zd, zv⟩⟩
    ·by_cases h1 : b = P
     ·rw [h1, atP] at e
      cases e
      rw [h1]
      exact Heap.get?_push_of_some _ htb
     ·rw [far b h1 h2 h3] at e
      refine (I.hok b u e).stay (fun d v hd e' => kp d v ?_ e') (fun d e' => old d _ e' fun z => (by rw [z, hP] at e'; cases e')) fun d xs e' => old d _ e' fun z => (by rw [z, hP] at e'; cases e')
      rcases hd with hd | hd
      ·rw [hd]; exact h1
      ·exact fun z => by rw [z, hP] at hd; cases hd
 ·refine PySem.W.kla_makeFunctionHit hcl I.ok.glob hg hcode C' hPo ht hf hb fun ctv h' tk hk hsz => ?_
  have hfn : H h'.objs.size = none := I.hok.fresh hsz
  refine ⟨.ref h'.objs.size, upd H h'.objs.size _, I.laid (t' := tk) (fun b u e => Heap.get?_push_of_some _ (hk b u e)) hsz ?_, rfl, h _ hfn⟩
  exact ⟨⟨_, _, Heap.get?_push_size _ rfl⟩, ⟨_, Heap.get?_push_size _ rfl⟩, fun h1 h2 ⟨pm, ct, z⟩ k => ⟨pm, ct, k _ z⟩⟩
end
def z6v (c : Addr) (o : Obj) : HO := .ext fun h => h.get? c = some o
def zjt (cs : List Addr) (H : Hp) : Hp := fun b => if b ∈ cs then none else H b
def zm1 (cs : List Addr) (H H' : Hp) : Hp := fun b => if b ∈ cs then H b else H' b
theorem zhj {cs : List Addr} {H : Hp} {b : Addr} (h : b ∈ cs) : zjt cs H b = none := by unfold zjt; rw [if_pos h]
theorem z3s {cs : List Addr} {H : Hp} {b : Addr} (h : b ∉ cs) : zjt cs H b = H b := by unfold zjt; rw [if_neg h]
theorem znj {cs : List Addr} {H H' : Hp} {b : Addr} (h : b ∈ cs) : zm1 cs H H' b = H b := by unfold zm1; rw [if_pos h]
theorem z86 {cs : List Addr} {H H' : Hp} {b : Addr} (h : b ∉ cs) : zm1 cs H H' b = H' b := by unfold zm1; rw [if_neg h]
theorem z7n {cs : List Addr} {H : Hp} {b : Addr} (h : H b = none) : zjt cs H b = none := by
 by_cases hb : b ∈ cs
 ·exact zhj hb
 ·rw [z3s hb]; exact h
theorem zs7 {cs : List Addr} {H : Hp} {b : Addr} {u : HO} (h : zjt cs H b = some u) : b ∉ cs ∧ H b = some u := by
 by_cases hb : b ∈ cs
 ·rw [zhj hb] at h; cases h
 ·exact ⟨hb, by rw [z3s hb] at h; exact h⟩
def AreCells (cs : List Addr) (H : Hp) : Prop := ∀ c ∈ cs, ∃ o, H c = some (z6v c o)
theorem AreCells.not {cs : List Addr} {H : Hp} (h : AreCells cs H) {b : Addr} {u : HO} (e : H b = some u) (n : ∀ o, u ≠ z6v b o) : b ∉ cs := fun hb => by
 obtain ⟨o, q⟩ := h b hb
 rw [e] at q
 cases q
 exact n o rfl
theorem HOk.hid {P : Program} {w : World} {H : Hp} {h : Heap} {cs : List Addr} (x : HOk P w H h) (k : AreCells cs H) : HOk P w (zjt cs H) h := fun a o e => by
 obtain ⟨_, e'⟩ := zs7 e
 refine (x a o e').stay (fun _ _ _ q => q) (fun b q => ?_) fun b xs q => ?_
 ·rw [z3s (k.not q fun o => by unfold z6v; intro z; cases z)]; exact q
 ·rw [z3s (k.not q fun o => by unfold z6v; intro z; cases z)]; exact q
theorem HOk.ret {P : Program} {w : World} {H H' : Hp} {h h' : Heap} {cs : List Addr} (x : HOk P w H h) (x' : HOk P w H' h') (k : AreCells cs H) (hn : ∀ c ∈ cs, H' c = none) (kp : ∀ c ∈ cs, ∀ o, h.get? c = some o → h'.get? c = some o) : HOk P w (zm1 cs H H') h' := fun a o e => by
 have out : ∀ {b : Addr} {u : HO}, H' b = some u → zm1 cs H H' b = some u := fun {b u} e => by rw [z86 fun hb => by rw [hn b hb] at e; cases e]; exact e
 by_cases ha : a ∈ cs
 ·rw [znj ha] at e
  obtain ⟨ob, q⟩ := k a ha
  rw [q] at e
  cases e
  obtain ⟨z, _, st⟩ := x a _ q
  exact ⟨kp a ha _ z, ⟨_, kp a ha _ z⟩, st⟩
 ·rw [z86 ha] at e
  exact (x' a o e).stay (fun _ _ _ q => q) (fun b q => out q) fun b xs q => out q
theorem Un.ret {fs : List Addr} {H H' : Hp} {h h' : Heap} {cs : List Addr} (u : Un fs [] (zjt cs H) H' h h') (k : AreCells cs H) : Un fs [] H (zm1 cs H H') h h' := by
 have nc : ∀ {b : Addr}, H b = none → b ∉ cs := fun {b} n hb => by
  obtain ⟨o, q⟩ := k b hb
  rw [n] at q; cases q
 refine ⟨fun b o e n hb hx => u.keep b o e (z7n n) hb hx, fun b o e n hb hx => u.slot b o e (z7n n) hb hx, fun b o e n hx => ?_, u.there, fun b xs e => ?_, fun b o v e => ?_, fun b ps e => ?_⟩
 ·rw [z86 (nc n)]
  exact u.free b o e (z7n n) hx
 ·have nb := k.not e fun o => by unfold z6v; intro z; cases z
  rw [z86 nb]
  exact u.tups b xs (by rw [z3s nb]; exact e)
 ·have nb := k.not e fun o => by unfold z6v; intro z; cases z
  rw [z86 nb]
  exact u.frzs b o v (by rw [z3s nb]; exact e)
 ·have nb := k.not e fun o => by unfold z6v; intro z; cases z
  rw [z86 nb]
  exact u.tbls b ps (by rw [z3s nb]; exact e)
structure LamScope (ps fr : List Str) (cl : List (Str × Addr)) (sc : Scope) : Prop where
 kind : sc.kind = .function
 co : sc.isCoroutine = false
 gen : sc.isGenerator = false
 nd : (ps ++ fr).Nodup
 par : ∀ x ∈ ps, sc.names.lookup x = some .local
 free : ∀ x ∈ fr, sc.names.lookup x = some .free
 nocell : ∀ y ∈ sc.names, y.2 ≠ .cell
 has : ∀ y ∈ sc.names, y.2 = .free → ∃ c, cl.lookup y.1 = some c
 inj : ∀ x y c, cl.lookup x = some c → cl.lookup y = some c → x = y
 look : ∀ x c, (x, c) ∈ cl → cl.lookup x = some c
def cxL (P : Program) (w : World) (K : PySem.W.Frag) (mg : Str → Option Value) (base : Heap) (N : List Str) (D : LamD) (cl : List (Str × Addr)) (f c' : Addr) (A : Around) (outer : List PySem.Env) (s : Shared) (H : Hp) (E : XK) : Cx where
 prog := P
 w := w
 K := K
 mg := mg
 base := base
 A := A.deeper (PySem.W.envX D.qual D.scope s.heap.objs.size f (.ref c') cl)
 N := N
 s₀ := s
 H₀ := zjt (cl.map (·.2)) H
 env := PySem.W.envX D.qual D.scope s.heap.objs.size f (.ref c') cl
 outer := outer
 stack := PySem.W.envX D.qual D.scope s.heap.objs.size f (.ref c') cl :: outer
 ex := []
 calm := true
 fn := fun _ => false
 pn := []
 xe := fun e s' => wpAny (model P w) (A.deeper (PySem.W.envX D.qual D.scope s.heap.objs.size f (.ref c') cl)) (leaving (PySem.W.envX D.qual D.scope s.heap.objs.size f (.ref c') cl) e) (fun _ s'' => CX0 outer H s E e s'') (fun e' s'' => CX0 outer H s E e' s'') s'
theorem zix {x : Str} {v : Value} : ∀ {ps : List Str} {us : List Value} {i : Nat}, ps.Nodup → ps[i]? = some x → us[i]? = some v → (ps.zip us).lookup x = some v
 | [], _, _, _, h, _ => by simp at h
 | _ :: _, [], _, _, _, h => by simp at h
 | p :: ps, u :: us, 0, nd, h1, h2 => by
  simp at h1 h2; subst h1; subst h2
  simp [List.zip_cons_cons, List.lookup]
 | p :: ps, u :: us, i + 1, nd, h1, h2 => by
  have hn := List.nodup_cons.mp nd
  have h1' : ps[i]? = some x := by simpa using h1
  have hne : (x == p) = false := by
   rw [beq_eq_false_iff_ne]
   rintro rfl
   exact hn.1 (List.mem_of_getElem? h1')
  rw [List.zip_cons_cons, List.lookup, hne]
  exact zix hn.2 h1' (by simpa using h2)
theorem zpv {x : Str} {v : Value} {ps : List Str} {us : List Value} {i : Nat} (nd : ps.Nodup) (hl : ps.length = us.length) (h1 : ps[i]? = some x) (h2 : us[i]? = some v) : (ps.zip us).reverse.lookup x = some v := by
 have e : (ps.zip us).reverse = ps.reverse.zip us.reverse := by
  apply List.ext_getElem?
  intro j
  simp [List.zip, List.reverse_zipWith hl]
 have hi : i < ps.length := (List.getElem?_eq_some_iff.mp h1).1
 rw [e]
 refine zix (i := ps.length - 1 - i) (by unfold List.Nodup; rw [List.pairwise_reverse]; exact nd.imp Ne.symm) ?_ ?_
 ·rw [List.getElem?_reverse (by omega)]
  rw [show ps.length - 1 - (ps.length - 1 - i) = i by omega]
  exact h1
 ·rw [List.getElem?_reverse (by omega)]
  rw [show us.length - 1 - (ps.length - 1 - i) = i by omega]
  exact h2
theorem zwt {P : Program} {w : World} {K : PySem.W.Frag} {mg : Str → Option Value} {base : Heap} {ps fr : List Str} {D : LamD} {cl : List (Str × Addr)} {f c' : Addr} {A : Around} {outer : List PySem.Env} {s : Shared} {h1 : Heap} {tk : Nat} {H : Hp} {E : XK} {us : List Value} {vs ws : List V}
  (S : LamScope ps fr cl D.scope) (hd : A.handled = none) (e0 : Env0 P w K mg base A outer s H) (hl : vs.length = ps.length) (r : Vals vs us) (hlw : ws.length = fr.length)
  (cells : ∀ c ∈ cl.map (·.2), ∃ o x, H c = some (z6v c o) ∧ o.data = .cell x)
  (hw : ∀ (i : Nat) (x : Str) (v : V), fr[i]? = some x → ws[i]? = some v → ∃ c o u, cl.lookup x = some c ∧ H c = some (z6v c o) ∧ o.data = .cell (some u) ∧ RelV v u)
  (hns : h1.Ns s.heap.objs.size fun x => (ps.zip us).reverse.lookup x) (hk : ∀ b o, s.heap.get? b = some o → h1.get? b = some o) :
  Inv (cxL P w K mg base (ps ++ fr) D cl f c' A outer s H E) [] ((vs ++ ws).map some) (zjt (cl.map (·.2)) H) { s with heap := h1, toks := tk } := by
 have ac : AreCells (cl.map (·.2)) H := fun c hc => by
  obtain ⟨o, _, q, _⟩ := cells c hc
  exact ⟨o, q⟩
 have inC : ∀ {x : Str} {c : Addr}, cl.lookup x = some c → c ∈ cl.map (·.2) := fun {x c} h => List.mem_map.mpr ⟨(x, c), PySem.mem_of_lookup h, rfl⟩
 have noA : ∀ b : Addr, b ∉ (cxL P w K mg base (ps ++ fr) D cl f c' A outer s H E).ex := fun b z => absurd (show b ∈ ([] : List Addr) from z) (by simp)
 have isC : ∀ {c : Addr} {o : Obj}, H c = some (z6v c o) → s.heap.get? c = some o := fun q => (e0.hok _ _ q).1
 refine ⟨⟨e0.mod, S.kind, rfl, rfl, Nat.le_refl _, fun y z c h1 h2 => S.inj y z c h1 h2, fun y hy => ?_, fun y c h => Bool.noConfusion (show false = true from h), fun _ => hd, Around.frames_deeper e0.frames, .inr ⟨rfl, rfl⟩, fun b z => absurd z (noA b), fun b o e => ⟨(e0.bs b o e).1, z7n (e0.bs b o e).2⟩, e0.bsz, fun b _ _ => noA b, fun b z => absurd z (noA b), e0.funs, fun b hb => z7n (e0.frf b hb)⟩,
  rfl, e0.bare, Un.kept hk, ⟨_, hns, fun i y v h1 h2 h3 => ?_⟩, fun y c h => ?_, z7n (e0.hok.fresh (Nat.le_refl _)), fun y c h => zhj (inC h), fun p hp => absurd (show p ∈ ([] : List (Addr × Obj)) from hp) (by simp), (e0.hok.hid ac).kept hk, ?_⟩
 ·have hy : D.scope.names.lookup y = some .cell ∨ D.scope.names.lookup y = some .free := hy
  rcases hy with hy | hy
  ·exact absurd rfl (S.nocell _ (PySem.mem_of_lookup hy))
  ·exact S.has _ (PySem.mem_of_lookup hy) rfl
 ·have h1' : (ps ++ fr)[i]? = some y := h1
  rw [List.getElem?_map] at h2
  by_cases hi : i < ps.length
  ·rw [List.getElem?_append_left hi] at h1'
   rw [List.getElem?_append_left (by omega)] at h2
   cases ev : vs[i]? with
   | none => rw [ev] at h2; cases h2
   | some a =>
    rw [ev] at h2
    cases h2
    obtain ⟨u, hu, rv⟩ := r.get ev
    exact ⟨u, rv, .inl ⟨S.par y (List.mem_of_getElem? h1'), zpv (List.nodup_append.mp S.nd).1 (by rw [← hl, r.length]) h1' hu⟩⟩
  ·rw [List.getElem?_append_right (by omega)] at h1'
   rw [List.getElem?_append_right (by omega), hl] at h2
   cases ev : ws[i - ps.length]? with
   | none => rw [ev] at h2; cases h2
   | some a =>
    rw [ev] at h2
    cases h2
    obtain ⟨c, o, u, hc, q, hd', rv⟩ := hw _ _ _ h1' ev
    exact ⟨u, rv, .inr ⟨.inr (S.free y (List.mem_of_getElem? h1')), c, hc, o, hk _ _ (isC q), hd'⟩⟩
 ·obtain ⟨o, x, q, hd'⟩ := cells c (inC h)
  exact ⟨x, o, hk _ _ (isC q), hd'⟩
 ·show _ = (ps ++ fr).length
  rw [List.length_map, List.length_append, List.length_append, hl, hlw]
theorem zrt {P : Program} {w : World} {K : PySem.W.Frag} {mg : Str → Option Value} {base : Heap} {k : Nat} {ps fr : List Str} {D : LamD} {cl : List (Str × Addr)} {f c' : Addr} {A : Around} {outer : List PySem.Env} {s : Shared} {H : Hp} {us : List Value} {vs ws : List V} {Q : VK}
  (S : LamScope ps fr cl D.scope) (hr : Room (k + 1) A) (e0 : Env0 P w K mg base A outer s H) (hf : H f = some (zqa D cl f c')) (hc : H c' = some (zgg c' D.qual)) (hl : vs.length = ps.length) (r : Vals vs us) (hlw : ws.length = fr.length)
  (cells : ∀ c ∈ cl.map (·.2), ∃ o x, H c = some (z6v c o) ∧ o.data = .cell x)
  (hw : ∀ (i : Nat) (x : Str) (v : V), fr[i]? = some x → ws[i]? = some v → ∃ c o u, cl.lookup x = some c ∧ H c = some (z6v c o) ∧ o.data = .cell (some u) ∧ RelV v u)
  (hbind : ∀ fd : FuncData, fd.params = D.params → fd.defaults = .none → fd.kwdefaults = .none → fd.scope = D.scope → bindArgs fd ⟨us, []⟩ = pure (ps.zip us))
  (hbody : Room k (A.deeper (PySem.W.envX D.qual D.scope s.heap.objs.size f (.ref c') cl)) → ∃ t, PE (cxL P w K mg base (ps ++ fr) D cl f c' A outer s H E0) D.body t ∧ t ((vs ++ ws).map some) (zjt (cl.map (·.2)) H) fun v H' => (∀ c ∈ cl.map (·.2), H' c = none) → Q v (zm1 (cl.map (·.2)) H H')) :
  codeAny (model P w) A (.call (.ref f) ⟨us, []⟩) (CR CX0 outer P w H s Q E0) s := by
 obtain ⟨⟨pm, ctv, hfo⟩, _⟩ := e0.hok f _ hf
 obtain ⟨hcr, _⟩ := e0.hok c' _ hc
 have ac : AreCells (cl.map (·.2)) H := fun c hc => by
  obtain ⟨o, _, q, _⟩ := cells c hc
  exact ⟨o, q⟩
 have lim : s.heap.NoLimit := e0.mod.nolimit.keeps fun b o e => (e0.bs b o e).1
 refine PySem.W.kla_callFunE hr.depth hfo rfl S.co S.gen rfl hcr ?_
 rw [hbind _ rfl rfl rfl rfl]
 refine wpAny_pure (wpAny_newFunctionEnv S.nocell (fun y hy => S.par _ (List.of_mem_zip hy).1) (fun h₁ hns hsb => ⟨lim.fresh _ hsb, ?_⟩) S.kind)
 show codeAny _ _ (.expr D.body (PySem.W.envX D.qual D.scope s.heap.objs.size f (.ref c') cl)) _ _
 have hk₁ : ∀ b o, s.heap.get? b = some o → h₁.get? b = some o := fun b o e => hsb.extBut b o (Nat.ne_of_lt (Heap.lt_size e)) (Heap.get?_push_of_some _ e)
 obtain ⟨t, ht, q⟩ := hbody (hr.deeper _)
 have I := zwt (K := K) (f := f) (c' := c') (E := E0) (tk := s.toks + (ps.zip us).length) S hr.hd e0 hl r hlw cells hw hns hk₁
 refine PySem.W.kla_codeExpr (wpAny_mono (ht [] _ _ _ _ I q) (fun u s' hs => ?_) fun e s' hs => hs)
 obtain ⟨v, H', J, rv, qv⟩ := hs
 have nC : ∀ c ∈ cl.map (·.2), H' c = none := fun c hc => by
  obtain ⟨⟨x, c2⟩, hm, rfl⟩ := List.mem_map.mp hc
  exact J.freeC x c2 (S.look x c2 hm)
 replace qv := qv nC
 refine ⟨v, zm1 (cl.map (·.2)) H H', J.os, J.bare, Un.ret (cs := cl.map fun x => x.2) (H := H) J.base ac, HOk.ret e0.hok J.hok ac nC fun c hc o e => ?_, rv, qv⟩
 refine J.base.keep c o e (zhj hc) (fun z => ?_) (by show c ∉ ([] : List Addr); simp)
 obtain ⟨o', q'⟩ := ac c hc
 have := e0.frf c z
 rw [q'] at this
 cases this
def zxw (P : Program) (w : World) (K : PySem.W.Frag) (mg : Str → Option Value) (base : Heap) (k : Nat) (f : Addr) (H : Hp) (vs : List V) (Q : VK) : Prop :=
 ∀ (A : Around) (outer : List PySem.Env) (s : Shared) (us : List Value), Room k A → Env0 P w K mg base A outer s H → Vals vs us → codeAny (model P w) A (.call (.ref f) ⟨us, []⟩) (CR CX0 outer P w H s Q E0) s
def IsLam (H : Hp) (f : Addr) : Prop := ∃ D cl c', H f = some (zqa D cl f c')
theorem IsLam.at {X : Cx} {pins : List (Addr × Obj)} {σ : St} {H : Hp} {s : Shared} {f : Addr} (h : IsLam H f) (I : Inv X pins σ H s) : PySem.W.FnAt f s.heap := by
 obtain ⟨D, cl, c', e⟩ := h
 obtain ⟨⟨pm, ctv, q⟩, _⟩ := I.hok f _ e
 exact ⟨_, _, _, _, q⟩
def znt (R : Addr → Hp → List V → VK → Prop) (i : Nat) (t : TA) : TE := fun σ H Q => ∃ f, σ[i]? = some (some (.ref f)) ∧ IsLam H f ∧ t σ H fun vs H1 => IsLam H1 f ∧ R f H1 vs Q
theorem zgm {X : Cx} {x : Str} {i k j : Nat} {e : Expr} {es : List Expr} {t : TA} {p pos : Pos} (hN : X.N[i]? = some x) (hv : Vis X.env.scope x) (hr : Room j X.A) (hk : k ≤ j) (ha : PA X (e :: es) t)
  (hd : (x == ("__debug__" : Str)) = false := by decide) (hcd : (x == ("__classdict__" : Str)) = false := by decide) (hst : z3x (e :: es) = true := by rfl) :
  PE X (.Call (.Name x p) (e :: es) [] pos) (znt (zxw X.prog X.w X.K X.mg X.base k) i t) := by
 have hst' := hst
 rw [z3x, Bool.and_eq_true, Bool.not_eq_true'] at hst'
 have he := z1r (es := es) (env := X.env) hst'.1
 have hpl := z3w (pos := pos) (env := X.env) hst'.2
 intro pins s σ H Q I h
 obtain ⟨f, ei, hl, h⟩ := h
 refine wpAny_Call_Name_kw (thn (z00 (pos := p) hN hv hd hcd pins s σ H (fun x' H' => x' = .ref f ∧ IsLam H' f ∧ t σ H' fun vs H1 => IsLam H1 f ∧ zxw X.prog X.w X.K X.mg X.base k f H1 vs Q) I ⟨_, ei, rfl, hl, h⟩) fun u s0 ⟨x', H', I', r', ex, hl', h'⟩ => ?_)
 subst ex
 cases r'
 refine PySem.W.callWith_F (first := []) (hl'.at I') (thn (ha pos pins s0 σ H' _ I' h') fun us s1 ⟨vs, H1, I1, r, hl1, q⟩ => ⟨hl1.at I1, ?_⟩) he hpl
 refine wpAny_call (codeAny_mono (q X.A X.stack s1 us (hr.mono hk) I1.env0 r) fun r s' hq => ?_)
 cases r with
 | error e => exact False.elim hq
 | ok fl =>
  cases fl with
  | ret u => exact I1.after hq
  | next => exact False.elim hq
  | brk => exact False.elim hq
  | cont => exact False.elim hq
def zgw (sp : Sp) (c : Addr) (i : Nat) (t : TA) : TE := fun σ H Q => t σ H fun vs H1 => ∃ v, σ[i]? = some (some v) ∧ ∀ o u, o.data = .cell (some u) → RelV v u → H1 c = none → sp vs (upd H1 c (z6v c o)) (fun y H2 => H2 c = some (z6v c o) ∧ Q y (zjt [c] H2)) E0
theorem zr7 {X : Cx} {x y : Str} {c : Addr} {ps : List Str} {i k j : Nat} {sp : Sp} {e : Expr} {es : List Expr} {t : TA} {p pos : Pos} (C : Callee X.prog X.w X.K X.mg X.base x ps k sp) (hr : Room j X.A) (hk : k ≤ j) (ha : PA X (e :: es) t)
  (hN : X.N[i]? = some y) (hc : X.env.cells.lookup y = some c) (hy : X.env.kindOf y = some .cell) (hfn : X.fn y = true) (hg : Gl X x := by rfl)
  (hdb : (x == ("__debug__" : Str)) = false := by decide) (hst : z3x (e :: es) = true := by rfl) :
  PE X (.Call (.Name x p) (e :: es) [] pos) (zgw sp c i t) := by
 have hst' := hst
 rw [z3x, Bool.and_eq_true, Bool.not_eq_true'] at hst'
 have he := z1r (es := es) (env := X.env) hst'.1
 have hpl := z3w (pos := pos) (env := X.env) hst'.2
 obtain ⟨f, fd, F, hm, hkp, hb⟩ := C
 intro pins s σ H Q I h
 refine wpAny_Call_Name_kw (zd2 I hg hm ?_ hdb)
 refine PySem.W.callWith_K (h₀ := X.base) I.ok.mod.kin hkp (thn (ha pos pins s σ H _ I h) fun us s1 ⟨vs, H1, I1, r, v, ei, q⟩ => ⟨I1.kIn, ?_⟩) he hpl
 obtain ⟨m, hn, hl⟩ := id I1.loc
 obtain ⟨u, ru, l⟩ := hl i y v hN ei (.inr (.inl hy))
 have hcell : s1.heap.IsCell c (some u) := by
  rcases l with ⟨hk', _⟩ | ⟨_, c2, e2, z⟩
  ·rw [hy] at hk'; cases hk'
  ·rw [hc] at e2; cases e2; exact z
 obtain ⟨o, ho, hd⟩ := hcell
 have hcn : H1 c = none := I1.freeC y c hc
 have q' := q o u hd ru hcn
 have hH : HOk X.prog X.w (upd H1 c (z6v c o)) s1.heap := fun b w e => by
  by_cases hb : b = c
  ·subst hb
   rw [z01] at e
   cases e
   exact ⟨ho, ⟨o, ho⟩, fun h1 h2 z k => k _ z⟩
  ·rw [z0e hb] at e
   exact (I1.hok b w e).stay (fun _ _ _ q => q) (fun d z => by rw [z0e (z0h z hcn)]; exact z) fun d xs z => by rw [z0e (z0h z hcn)]; exact z
 have cfs : c ∉ frs X.stack := fun z => by
  rcases List.mem_cons.mp (I1.stkSub c z) with z | z
  ·exact I1.cne y c hc z
  ·obtain ⟨_, ob, hob, _⟩ := I1.ok.funs.mem z
   exact absurd (Nat.lt_of_lt_of_le (Heap.lt_size hob) (I1.ok.cab y c hfn hc)) (Nat.lt_irrefl _)
 have e0 : Env0 X.prog X.w X.K X.mg X.base X.A X.stack s1 (upd H1 c (z6v c o)) := by
  have z := I1.env0
  refine ⟨z.frames, z.mod, fun b ob e => ⟨(z.bs b ob e).1, ?_⟩, z.bsz, z.funs, fun b hb => ?_, hH, z.bare⟩
  ·rw [z0e fun w => ?_]
   ·exact (z.bs b ob e).2
   ·subst w
    have := Heap.lt_size (I1.ok.bs b ob e).1
    exact absurd (Nat.lt_of_lt_of_le this (I1.ok.cab y b hfn hc)) (Nat.lt_irrefl _)
  ·rw [z0e fun w => cfs (by rw [← w]; exact hb)]
   exact z.frf b hb
 have hln : us.length = ps.length := by rw [← r.length]; exact F.len _ _ _ _ q'
 have hbd := hb s1 us I1.kIn (by rw [List.append_nil]; exact hln)
 rw [List.append_nil] at hbd
 refine wpAny_call (codeAny_mono (F.run X.A X.stack s1 _ ⟨us, []⟩ us vs _ E0 (hr.mono hk) e0 hbd r q') fun r s' hq => ?_)
 cases r with
 | error e => exact False.elim hq
 | ok fl =>
  cases fl with
  | next => exact False.elim hq
  | brk => exact False.elim hq
  | cont => exact False.elim hq
  | ret u2 =>
   obtain ⟨v2, H2, os, bare, un, hok, rv, hc2, q2⟩ := hq
   have ac : AreCells [c] H2 := fun b hb => by
    rw [List.mem_singleton] at hb
    subst hb
    exact ⟨o, hc2⟩
   obtain ⟨hh, g, d, tk, os'⟩ := s'
   obtain rfl : os' = s1.os := os
   have hco : hh.get? c = some o := (hok c _ hc2).1
   refine ⟨v2, zjt [c] H2, I1.call (h' := hh) (g' := g) (d' := d) (t' := tk) (ch := []) ⟨fun b ob e n hb hx => ?_, fun b ob e n hb hx => ?_, fun b ob e n hx => ?_, fun b ob e hx => un.there b ob e hx, fun b xs e => ?_, fun b ob w e => ?_, fun b qs e => ?_⟩ (hok.hid ac) bare (fun b z => absurd z (by simp)), rv, q2⟩
   ·by_cases hbc : b = c
    ·subst hbc; rw [ho] at e; cases e; exact hco
    ·exact un.keep b ob e (by rw [z0e hbc]; exact n) hb hx
   ·by_cases hbc : b = c
    ·subst hbc; exact absurd hb cfs
    ·exact un.slot b ob e (by rw [z0e hbc]; exact n) hb hx
   ·by_cases hbc : b = c
    ·subst hbc; exact zhj (List.mem_singleton.mpr rfl)
    ·exact z7n (un.free b ob e (by rw [z0e hbc]; exact n) hx)
   ·have nb : b ≠ c := z0h e hcn
    rw [z3s (by simpa using nb)]
    exact un.tups b xs (by rw [z0e nb]; exact e)
   ·have nb : b ≠ c := z0h e hcn
    rw [z3s (by simpa using nb)]
    exact un.frzs b ob w (by rw [z0e nb]; exact e)
   ·have nb : b ≠ c := z0h e hcn
    rw [z3s (by simpa using nb)]
    exact un.tbls b qs (by rw [z0e nb]; exact e)
end L2
set_option Elab.async false
set_option linter.all false
set_option maxRecDepth 100000
namespace L2
open PySem PySem.Spec PyProof.Rows
def q06 (mg : Str → Option Value) (base : Heap) (tabs : List (Addr × Addr)) : Prop := ∀ q ∈ tabs, PySem.W.CodeHd base q.1 q.2 ∧ base.BuiltinsAt mg q.2 ∧ mainGlobals ≠ q.2
theorem zrs {P : Program} {w : World} {K : PySem.W.Frag} {mg mb : Str → Option Value} {k : Nat} {fa a : Addr} {fd : FuncData} {x : Str} {sp : Sp} {s₁ : Shared} {vs : List Value} {ns : List Int} {tabs : List (Addr × Addr)}
  (KX : K.In s₁.heap) (hns : s₁.heap.Ns mainGlobals mg) (hb : s₁.heap.Ns builtinsNs mb) (hbb : ∀ x : Str, x ≠ "__name__" → mb x = bootBuiltins x) (hlim : s₁.heap.NoLimit) (hg : s₁.gens = #[])
  (ha : s₁.heap.get? a = some { cls := .type "list", data := .seq vs.toArray }) (hi : IntsAre vs ns) (hl : ns.length ≤ sizeLine) (hr : Room k callerA)
  (hT : PySem.W.TabsAt tabs s₁.heap) (hB : ∀ q ∈ tabs, s₁.heap.BuiltinsAt mg q.2) (hK : PySem.W.noTabs K = true)
  (F : ∀ base : Heap, K.In base → base.Ns mainGlobals mg → q06 mg base tabs → FnOk P w K mg base CX0 k fa fd [x] sp) (hbind : ∀ (s : Shared) (u : Value), BindsTo s fd ⟨[u], []⟩ [(x, u)])
  (hsp : ∀ H : Hp, (∀ q ∈ tabs, H q.2 = some (.tbl #[])) → SqL K H a (ns.map V.int) → sp [.ref a] H (fun v _ => v = .bl true) fun _ _ _ => False) :
  codeAny (model P w) callerA (.call (.ref fa) ⟨[.ref a], []⟩) (fun r s' => r = .ok (.ret (.bool true)) ∧ OldK s₁.heap s'.heap ∧ s'.os = s₁.os ∧ AllBare s'.gens) s₁ := by
 have rv := zgt hi
 have lenV := hi.length
 have tabK : ∀ q ∈ tabs, K.lookup q.2 = none := fun q hq => by
  cases e : K.lookup q.2 with
  | none => rfl
  | some o =>
   have h1 := KX _ _ e
   rw [(hT q hq).2] at h1
   cases h1
   have h2 := List.all_eq_true.mp hK (q.2, _) (PySem.W.mem_of_lookupK e)
   exact absurd (show false = true from h2) Bool.false_ne_true
 have aT : a ∉ tabs.map (·.2) := fun z => by
  obtain ⟨q, hq, e⟩ := List.mem_map.mp z
  have h1 := (hT q hq).2
  rw [e, ha] at h1
  cases h1
 have core : ∀ H : Hp, (∀ b, H b = none ∨ (∃ o xs, b = a ∧ H b = some (.frz o (.lst xs))) ∨ (b ∈ tabs.map (·.2) ∧ H b = some (.tbl #[]))) → (∀ q ∈ tabs, H q.2 = some (.tbl #[])) → SqL K H a (ns.map V.int) → HOk P w H s₁.heap → (H a ≠ none → K.lookup a = none) →
   codeAny (model P w) callerA (.call (.ref fa) ⟨[.ref a], []⟩) (fun r s' => r = .ok (.ret (.bool true)) ∧ OldK s₁.heap s'.heap ∧ s'.os = s₁.os ∧ AllBare s'.gens) s₁ := by
  intro H hO hTb hS hok hKa
  have base_of : ∀ {b : Addr} {o : Obj}, s₁.heap.get? b = some o → H b = none → (zn1 s₁.heap H).get? b = some o := fun e n => zoi e n
  have tabO : ∀ {b : Addr}, b ∈ tabs.map (·.2) → s₁.heap.get? b = some (PySem.W.tabObj #[]) := fun {b} hb => by
   obtain ⟨q, hq, rfl⟩ := List.mem_map.mp hb
   exact (hT q hq).2
  have noA : ∀ {b : Addr} {o : Obj}, s₁.heap.get? b = some o → b ≠ a → b ∉ tabs.map (·.2) → H b = none := fun {b o} e n1 n2 => by
   rcases hO b with z | ⟨_, _, z, _⟩ | ⟨z, _⟩
   ·exact z
   ·exact absurd z n1
   ·exact absurd z n2
  have nsK : ∀ {b : Addr} {m : Str → Option Value}, s₁.heap.Ns b m → (zn1 s₁.heap H).Ns b m := fun {b m} ⟨o, es, ep, e, d, r⟩ => by
   refine ⟨o, es, ep, base_of e (noA e (fun z => ?_) fun z => ?_), d, r⟩
   ·rw [z, ha] at e; cases e; cases d
   ·rw [tabO z] at e; cases e; cases d
  have hKb : K.In (zn1 s₁.heap H) := fun b o e => base_of (KX b o e) (by
   rcases hO b with z | ⟨_, _, z, z2⟩ | ⟨z, _⟩
   ·exact z
   ·have := hKa (by rw [← z, z2]; simp)
    rw [z, this] at e
    cases e
   ·obtain ⟨q, hq, rfl⟩ := List.mem_map.mp z
    rw [tabK q hq] at e
    cases e)
  have hM : Mod K mg (zn1 s₁.heap H) := ⟨hKb, nsK hns, ⟨mb, nsK hb, hbb⟩, let ⟨mc, h1, h2⟩ := hlim; ⟨mc, nsK h1, h2⟩⟩
  have hTB : q06 mg (zn1 s₁.heap H) tabs := fun q hq => by
   obtain ⟨o, vs', file, tf, flags, tg, inF, text, tt, e1, r1, r2, r⟩ := (hT q hq).1
   obtain ⟨bm, ob, b1, b2, b3, b4, b5, b6, b7, b8⟩ := hB q hq
   refine ⟨⟨o, vs', file, tf, flags, tg, inF, text, tt, base_of e1 (noA e1 (fun z => ?_) fun z => ?_), r1, r2, r⟩, ⟨bm, ob, b1, b2, b3, b4, base_of b5 (noA b5 (fun z => ?_) fun z => ?_), b6, b7, b8⟩, fun z => ?_⟩
   ·rw [z, ha] at e1; cases e1; exact absurd (show Value.type "list" = Value.type "code" from r1) (by simp)
   ·rw [tabO z] at e1; cases e1; cases r1
   ·rw [z, ha] at b5; cases b5; exact absurd (show Value.type "list" = Value.type "module" from b6) (by simp)
   ·rw [tabO z] at b5; cases b5; cases b6
   ·obtain ⟨o', es, ep, e', d, _⟩ := hns
    rw [z, (hT q hq).2] at e'
    cases e'
    cases d
  have e0 : Env0 P w K mg (zn1 s₁.heap H) callerA [] s₁ H := ⟨rfl, hM, fun b o e => zrl e, Nat.le_of_eq (zl8 _ _), trivial, fun b hb => absurd (show b ∈ ([] : List Addr) from hb) (by simp), hok, .of_eq hg⟩
  refine codeAny_mono ((F _ hKb (nsK hns) hTB).run callerA [] s₁ H ⟨[.ref a], []⟩ [.ref a] [.ref a] _ _ hr e0 (hbind s₁ (.ref a)) (.cons rfl .nil) (hsp H hTb hS)) fun r s' h => ?_
  cases r with
  | error e => exact False.elim h
  | ok fl =>
   cases fl with
   | next => exact False.elim h
   | brk => exact False.elim h
   | cont => exact False.elim h
   | ret u =>
    obtain ⟨v, H', os, bare, un, hok', r', q⟩ := h
    have q' : v = .bl true := q
    subst q'
    obtain rfl : u = Value.bool true := r'
    refine ⟨rfl, ⟨fun b o e => ?_, fun b o e => un.there b o e (by simp)⟩, os, bare⟩
    rcases hO b with z | ⟨ob, xs, _, z⟩ | ⟨hb, z⟩
    ·exact .inl (un.keep b o e z (by intro z; exact absurd (show b ∈ ([] : List Addr) from z) (by simp)) (by simp))
    ·have z2 := un.frzs b ob _ z
     obtain ⟨e1, _⟩ := hok b _ z
     obtain ⟨e2, _⟩ := hok' b _ z2
     rw [e] at e1; cases e1
     exact .inl e2
    ·obtain ⟨more, z2⟩ := un.tbls b _ z
     have e2 : s'.heap.get? b = some { cls := .none, data := .fields (#[] ++ more) } := hok' b _ z2
     rw [tabO hb] at e
     cases e
     obtain ⟨q, hq, rfl⟩ := List.mem_map.mp hb
     exact .inr (.inl ⟨((hT q hq).1.tab (hT q hq).2).isCodeTable, rfl, #[], more, rfl, e2⟩)
 have tin : ∀ q ∈ tabs, q.2 ∈ tabs.map (·.2) := fun q hq => List.mem_map.mpr ⟨q, hq, rfl⟩
 cases hk : K.lookup a with
 | some o =>
  have e := KX a o hk
  rw [ha] at e
  cases e
  refine core (fun b => if b ∈ tabs.map (·.2) then some (.tbl #[]) else none) (fun b => ?_) (fun q hq => if_pos (tin q hq)) (.inr ⟨_, vs.toArray, _, hk, rfl, rfl, rfl, by rw [List.size_toArray, lenV]; exact hl, by simpa using rv⟩) (fun b u z => ?_) fun z => absurd (if_neg aT) z
  ·by_cases hb : b ∈ tabs.map (·.2)
   ·exact .inr (.inr ⟨hb, if_pos hb⟩)
   ·exact .inl (if_neg hb)
  ·by_cases hb : b ∈ tabs.map (·.2)
   ·have z' := (if_pos hb).symm.trans z
    cases z'
    obtain ⟨q, hq, rfl⟩ := List.mem_map.mp hb
    exact (hT q hq).2
   ·have z' := (if_neg hb).symm.trans z
    cases z'
 | none =>
  refine core (fun b => if b ∈ tabs.map (·.2) then some (.tbl #[]) else if b = a then some (.frz { cls := .type "list", data := .seq vs.toArray } (.lst (ns.map V.int))) else none) (fun b => ?_) (fun q hq => if_pos (tin q hq)) (.inl (.inr ⟨{ cls := .type "list", data := .seq vs.toArray }, (if_neg aT).trans (if_pos rfl)⟩)) (fun b u z => ?_) fun _ => hk
  ·by_cases hb : b ∈ tabs.map (·.2)
   ·exact .inr (.inr ⟨hb, if_pos hb⟩)
   ·by_cases hba : b = a
    ·exact .inr (.inl ⟨_, _, hba, (if_neg hb).trans (if_pos hba)⟩)
    ·exact .inl ((if_neg hb).trans (if_neg hba))
  ·by_cases hb : b ∈ tabs.map (·.2)
   ·have z' := (if_pos hb).symm.trans z
    cases z'
    obtain ⟨q, hq, rfl⟩ := List.mem_map.mp hb
    exact (hT q hq).2
   ·have z1 := (if_neg hb).symm.trans z
    by_cases hba : b = a
    ·have z' := (if_pos hba).symm.trans z1
     cases z'
     subst hba
     exact ⟨ha, by rw [List.length_map]; exact hl, vs, _, rv, ha⟩
    ·have z' := (if_neg hba).symm.trans z1
     cases z'
theorem ztm {l : PySem.W.OpenLaw} {n k : Nat} {q : Program} {loose : List Str} {XP : (Str → Option Value) → Heap → Prop} {YP : World → Heap → Prop} {d : DefRec} {K : Params → PySem.W.Frag} {sp : World → Sp} {x : Str} {tabs : List (Str × Addr × Addr)}
  (hn : l.most = some n) (hn2 : n ≤ sizeLine) (hdf : d.params.defaults = []) (hr : Room k callerA)
  (hY : ∀ (w : World) (h : Heap), YP w h → (K w.params).In h)
  (hK : ∀ w : World, PySem.W.noTabs (K w.params) = true) (hrec : ∀ t ∈ tabs, ∃ e, (recsOf q).find? (fun e => e.name == t.1) = some e) (htab : ∀ (w : World), ∀ t ∈ tabs, PySem.W.tabIn (K w.params) t.1 = some (t.2.1, t.2.2))
  (F : ∀ (w : World) (mg : Str → Option Value) (fa : Addr) (h : Heap), (K w.params).In h → h.Ns mainGlobals mg → mg d.name = some (.ref fa) →
   ∃ fd : FuncData, (∀ (s : Shared) (u : Value), BindsTo s fd ⟨[u], []⟩ [(x, u)]) ∧
    ∀ base : Heap, (K w.params).In base → base.Ns mainGlobals mg → q06 mg base (tabs.map (·.2)) → FnOk l.prog w (K w.params) mg base CX0 k fa fd [x] (sp w))
  (hsp : ∀ (w : World) (H : Hp) (a : Addr) (ns : List Int), ns.length ≤ n → (∀ q ∈ tabs.map (·.2), H q.2 = some (.tbl #[])) → SqL (K w.params) H a (ns.map V.int) → sp w [.ref a] H (fun v _ => v = .bl true) fun _ _ _ => False) :
  PySem.W.WalkO q loose XP YP l.row.toRowW d [] (fun f vs => PySem.call f vs) := by
 refine Att.zi2 hn hdf fun w s₀ s₁ mg mb fa o pm cd doc a vs ns G Y ho hd hcd hmg hobj hints hlen hg => ?_
 have KX := hY w _ Y
 obtain ⟨fd, hb, hF⟩ := F w mg fa _ KX G.T.g hmg
 have hT : PySem.W.TabsAt (tabs.map (·.2)) s₁.heap := fun t ht => by
  obtain ⟨t', ht', rfl⟩ := List.mem_map.mp ht
  obtain ⟨e, he⟩ := hrec t' ht'
  exact PySem.W.tab_of G.T KX he (htab w t' ht')
 refine zrs KX G.T.g G.T.b G.T.builtins G.T.nolimit hg hobj hints (Nat.le_trans hlen hn2) hr hT (fun t ht => ?_) (hK w) hF hb fun H hO hS => hsp w H a ns hlen hO hS
 obtain ⟨bm, ob, b1, b2, b3, b4, b5, b6⟩ := G.T.bmain
 refine ⟨bm, ob, b1, b2, fun z => ?_, fun z => ?_, b3, b4, b5, b6⟩
 ·obtain ⟨o', es, ep, e', hd', _⟩ := G.T.g
  rw [z, e'] at b3
  cases b3
  rw [hd'] at b6
  cases b6
 ·rw [z, (hT t ht).2] at b3
  cases b3
  cases b4
theorem zoj {K : PySem.W.Frag} {a b : Addr} {xs ys : List V} {g : TG} {tb : TS} {D : Ends} {σ : St} {H : Hp} (hxy : xs.length = ys.length) (Pv : Nat → St → Hp → Prop) (h0 : Pv 0 σ H) (hl : ∀ i σ H, i ≤ xs.length → Pv i σ H → SqT K H a xs ∧ SqT K H b ys)
  (hs : ∀ i x y σ H T, xs[i]? = some x → ys[i]? = some y → Pv i σ H → H T = none → g (.ref T) σ (upd H T (.tup [x, y])) fun σ2 H2 => tb { D with nx := Pv (i + 1), ct := Pv (i + 1), bk := D.nx } σ2 H2) (hd : ∀ σ H, Pv xs.length σ H → D.nx σ H) :
  ∃ W : Nat → Nat → St → Hp → Prop, (∃ m, W 0 m σ H) ∧ ∀ i m σ H, W i m σ H →
   ((zvq K a b).stop i H ∧ D.nx σ H) ∨ ((zvq K a b).go i H ∧ ∃ N : St → Hp → Prop, (∀ σ' H', N σ' H' → ∃ m', m' < m ∧ W (i + 1) m' σ' H') ∧ ∀ x H', (zvq K a b).yld i H x H' → g x σ H' fun σ2 H2 => tb { D with nx := N, ct := N, bk := D.nx } σ2 H2) := by
 refine ⟨fun i m σ H => m = xs.length - i ∧ i ≤ xs.length ∧ Pv i σ H, ⟨xs.length, by simp, Nat.zero_le _, h0⟩, ?_⟩
 rintro i m σ H ⟨rfl, hi, p⟩
 have q := hl i σ H hi p
 by_cases hlt : i < xs.length
 ·refine .inr ⟨⟨xs, ys, xs[i], ys[i]'(by omega), q.1, q.2, by simp [hlt], by simp⟩, Pv (i + 1), fun σ' H' p' => ⟨xs.length - (i + 1), by omega, rfl, hlt, p'⟩, fun x H' y => ?_⟩
  obtain ⟨T, u, v, rfl, hT, rfl, y1, y2⟩ := y
  exact hs i u v σ H T (y1 xs q.1) (y2 ys q.2) p hT
 ·have e : i = xs.length := by omega
  subst e
  exact .inl ⟨⟨xs, ys, q.1, q.2, .inl (Nat.le_refl _)⟩, hd σ H p⟩
end L2
set_option Elab.async false
set_option linter.all false
set_option maxRecDepth 100000
namespace L2
open PySem PySem.Spec PyProof.Rows PySem.W
section
variable {prog : Program} {w : World} {A : Around} {E : Value → Shared → Prop} {s : Shared} {a : Addr}
theorem zmn {a : Addr} {u v : Value} {o : Obj} {its : Array Value} {k : Nat} {Q : List Value → Shared → Prop} (e : s.heap.get? a = some o) (c : o.cls = .type "tuple") (d : o.data = .seq its k) (hi : its.toList = [u, v]) (q : Q [u, v] s) : wpAny (model prog w) A (Builtin.Dict.pairItems (.ref a)) Q E s := by
 unfold Builtin.Dict.pairItems
 refine wpAny_bind (wpAny_typeOf (T := "tuple") ⟨_, e, c⟩ ?_)
 rw [if_pos (by decide)]
 refine wpAny_bind (wpAny_seqItems e d (wpAny_pure ?_))
 show Q its.toList s
 rw [hi]
 exact q
def zp9 (ks : Nat → Key) (va : Nat → Value) : Nat → List (Key × Value)
 | 0 => []
 | n + 1 => stored (zp9 ks va n) (ks n) (va n)
theorem zgy (ks : Nat → Key) (va : Nat → Value) : ∀ n, (zp9 ks va n).length ≤ n
 | 0 => Nat.le_refl _
 | n + 1 => Nat.le_trans (stored_length_le _ _ _) (Nat.succ_le_succ (zgy ks va n))
theorem zdb {h h' : Heap} {D : Addr} {xs : List (Key × Value)} (x : h.DictOf (z3j prog w) D xs) (kD : ∀ o, h.get? D = some o → h'.get? D = some o) : h'.DictOf (z3j prog w) D xs :=
 let ⟨o, es, ep, ho, r⟩ := x; ⟨o, es, ep, kD o ho, r⟩
theorem zmm {R : Result → Shared → Prop} {I D : Addr} {fp wr : List Addr} {G : Array GenState → Array GenState → Prop} {n : Nat} {P : Nat → Value → Prop} {St : Nat → Shared → Prop} {rw_ : Nat → Addr} {kv va : Nat → Value} {ks : Nat → Key} (W : WalksS prog w A.in1 I fp wr G n P St) (hDf : D ∉ fp)
  (hval : ∀ i v, P i v → v = .ref (rw_ i)) (hks : ∀ i, i < n → (z3j prog w).is (ks i) (kv i) = true) (hn : n ≤ 100000) (hnw : ∀ i, i < n → rw_ i ∉ D :: wr) :
  ∀ (m i : Nat) (s : Shared), i + m = n → St i s → s.heap.DictOf (z3j prog w) D (zp9 ks va i) →
   (∀ j, j < n → (∃ o its k, s.heap.get? (rw_ j) = some o ∧ o.cls = .type "tuple" ∧ o.data = .seq its k ∧ its.toList = [kv j, va j])) →
   (∀ s', Moved (D :: wr) G s s' → s'.heap.DictOf (z3j prog w) D (zp9 ks va n) → R (.ok (.ret .none)) s') →
   codeAny (model prog w) A (.builtin "dict.update.loop" ⟨[.ref D, .ref I, rawInt i, .none], []⟩) R s := by
 have hw : D ∉ wr := fun z => hDf (W.sub _ z)
 have hm : ∀ b ∈ wr, b ∈ D :: wr := fun b z => .tail _ z
 intro m
 induction m with
 | zero =>
  intro i s e st x hk q
  obtain rfl : i = n := e
  refine codeAny_builtin zld ?_
  rw [Around.under_plainId ze0]
  refine wpAny_bind (W.done s _ _ st fun s' mv => ?_)
  show wpAny _ _ (Builtin.Dict.addKeywords D [] >>= _) _ _ _
  exact wpAny_bind (wpAny_pure (wpAny_pure (q s' (mv.mono hm) (zdb x (fun o z => mv.heap D o hw z)))))
 | succ m ih =>
  intro i s e st x hk q
  refine codeAny_builtin zld ?_
  rw [Around.under_plainId ze0]
  refine wpAny_bind (W.item i s _ _ (by omega) st fun v s1 hP st1 mv => ?_)
  obtain rfl := hval i v hP
  have hi : i < n := by omega
  have hk1 : ∀ j, j < n → (∃ o its k, s1.heap.get? (rw_ j) = some o ∧ o.cls = .type "tuple" ∧ o.data = .seq its k ∧ its.toList = [kv j, va j]) := fun j hj => by
   obtain ⟨o, its, k, e1, r⟩ := hk j hj
   exact ⟨o, its, k, mv.heap _ o (fun z => (hnw j hj) (hm _ z)) e1, r⟩
  have x1 : s1.heap.DictOf (z3j prog w) D (zp9 ks va i) := zdb x (fun o z => mv.heap D o hw z)
  obtain ⟨o, its, k, e1, e2, e3, e4⟩ := hk1 i hi
  refine wpAny_bind (wpAny_holding (wpAny_bind (wpAny_tryCatch (zmn e1 e2 e3 e4 (wpAny_holding (wpAny_dictSet_pairs (hks i hi) x1 (fun h' x' sb => ?_) ?_))))))
  ·have hk2 : ∀ j, j < n → (∃ o its k, h'.get? (rw_ j) = some o ∧ o.cls = .type "tuple" ∧ o.data = .seq its k ∧ its.toList = [kv j, va j]) := fun j hj => by
    obtain ⟨o, its, k, e1, r⟩ := hk1 j hj
    exact ⟨o, its, k, (sb.2 _ fun z => (hnw j hj) (by rw [z]; exact List.mem_cons_self)).trans e1, r⟩
   refine wpAny_pure ⟨plainId_quiet ze0 _, ih (i + 1) _ (by omega) (W.frame _ s1 _ _ st1 (Nat.le_add_right _ _) fun b hb' o z => ?_) x' hk2 fun s2 mv2 x2 => q s2 (Moved.trans W.gtrans ((mv.mono hm).then_heap (Nat.le_add_right _ _) fun b o hb' z => ?_) mv2) x2⟩
   ·rw [sb.2 b fun z : b = D => hDf (z ▸ hb')]; exact z
   ·rw [sb.2 b fun z : b = D => hb' (z ▸ List.mem_cons_self)]; exact z
  ·exact Nat.le_trans (zgy ks va i) (q1e (by omega))
end
def zyj : List V → Hp → VK → Prop := fun xs H Q => ∃ (a : Addr) (vs : List V) (l : List (Str × Int)), xs = [.ref a] ∧ H a = some (.lst vs) ∧ DtA H vs (l.map zmo) ∧ l.length ≤ 1000 ∧
 ∀ (p : Addr), H p = none → Q (.ref p) (upd H p (.dK (l.foldl (fun k r => zir k (Sum.inr r.1) (V.int r.2)) [])))
section
variable {X : Cx} {pins : List (Addr × Obj)} {σ : St} {H : Hp} {s : Shared}
structure Pkw where
 r : Addr
 k : Value
 u : Value
instance : Inhabited Pkw := ⟨⟨0, .none, .none⟩⟩
def zxk (H : Hp) (h : Heap) (l : Str × Int) (q : Pkw) : Prop := RelV (.str l.1) q.k ∧ RelV (.int l.2) q.u ∧ (∃ o its k, h.get? q.r = some o ∧ o.cls = .type "tuple" ∧ o.data = .seq its k ∧ its.toList = [q.k, q.u])
theorem q1i (I : Inv X pins σ H s) : ∀ {l : List (Str × Int)} {vs : List V} {us : List Value}, DtA H vs (l.map zmo) → Vals vs us → ∃ qs : List Pkw, us = qs.map (fun q => Value.ref q.r) ∧ Paired (zxk H s.heap) l qs
 | [], _, _, .nil, .nil => ⟨[], rfl, .nil⟩
 | r :: l, _, _, .cons d t, .cons rr rt => by
  obtain ⟨qs, e, pq⟩ := q1i I t rt
  cases d with
  | tup e1 ra =>
   cases rr
   obtain ⟨its, rv, ⟨o, ho, hc, n, hd⟩, _⟩ := I.tuple (SqT.of e1)
   cases ra with
   | cons d1 ra =>
    cases ra with
    | cons d2 ra =>
     cases ra
     cases d1
     cases d2
     cases rv with
     | cons q1 rv =>
      cases rv with
      | cons q2 rv =>
       cases rv
       exact ⟨⟨_, _, _⟩ :: qs, by rw [e]; rfl, .cons ⟨q1, q2, o, _, n, ho, hc, hd, rfl⟩ pq⟩
theorem zwp {l : List (Str × Int)} {qs : List Pkw} {H : Hp} {h : Heap} (pq : Paired (zxk H h) l qs) : ∀ n, n ≤ l.length → KV ((l.take n).foldl (fun k r => zir k (Sum.inr r.1) (V.int r.2)) ([] : List (Key × V))) (zp9 (fun j => Sum.inr (l.getD j ("", 0)).1) (fun j => (qs.getD j default).u) n) := by
 obtain ⟨hlen, hat⟩ := zh8 pq
 intro n
 induction n with
 | zero => intro _; exact .nil
 | succ n ih =>
  intro hn
  have hl : l[n]? = some (l.getD n ("", 0)) := by rw [List.getD_eq_getElem?_getD, List.getElem?_eq_getElem (by omega)]; rfl
  have hq : qs[n]? = some (qs.getD n default) := by rw [List.getD_eq_getElem?_getD, List.getElem?_eq_getElem (by omega)]; rfl
  have e : l.take (n + 1) = l.take n ++ [l.getD n ("", 0)] := by rw [List.take_succ, hl]; rfl
  rw [e, List.foldl_append]
  exact (ih (by omega)).put _ (hat n _ _ hl hq).2.1
theorem zq6 (hc : X.calm = true) : CallR X (.type "dict") zyj := by
 intro pins s σ H xs us Q I r h
 obtain ⟨a, vs, l, rfl, hH, hd, hz, q⟩ := h
 obtain ⟨u, rfl, r1⟩ := r.one
 cases r1
 obtain ⟨z, its, n, rv, hl, e⟩ := I.lstM hH
 obtain ⟨qs, eq, pq⟩ := q1i I hd rv
 subst eq
 obtain ⟨hlen, hat⟩ := zh8 pq
 refine callType_codes (Q₁ := fun obj s₁ => obj = .ref s.heap.objs.size ∧ s₁ = { s with heap := s.heap.push { cls := .type "dict", data := .dict #[] } }) F.kt_called_dict (F.kt_typeCall_dict_1 _) F.entry_dict_init (kt_code_dict_new _ ⟨rfl, rfl⟩) ?_
 rintro obj s₁ ⟨rfl, rfl⟩
 have hnew : (s.heap.push { cls := .type "dict", data := .dict #[] }).DictOf (z3j X.prog X.w) s.heap.objs.size [] := Heap.DictOf.new s.heap
 refine ⟨hnew.typeIs, F.args_dict_init_2 _ _, ?_⟩
 unfold Builtin.«dict.__init__»
 refine wpAny_bind ?_
 unfold Builtin.Dict.selfAndRest
 refine wpAny_bind (wpAny_notOrdered_dict hnew.typeIs ?_)
 show wpAny _ _ (pure (s.heap.objs.size, [Value.ref a])) _ _ _
 refine wpAny_pure ?_
 show wpAny _ _ (Builtin.Dict.updateFrom "dict.__init__" s.heap.objs.size (.ref a) [] .none) _ _ _
 unfold Builtin.Dict.updateFrom
 have e1 : (s.heap.push { cls := .type "dict", data := .dict #[] }).get? a = some { cls := .type "list", data := .seq (qs.map fun q => Value.ref q.r).toArray n } := Heap.get?_push_of_some _ e
 refine wpAny_bind (wpAny_typeOf (T := "list") ⟨_, e1, rfl⟩ ?_)
 rw [if_pos (by decide)]
 refine wpAny_bind (zwq (by simpa using I.ok.hd hc) e1 fun h2 tk2 k2 => ?_)
 refine wpAny_ite_split (fun _ => ?_) (fun c => absurd rfl c)
 have e2 := k2 a _ e1
 have eD := k2 _ _ (Heap.get?_push_size s.heap (o := { cls := .type "dict", data := .dict #[] }) rfl)
 have lD : s.heap.objs.size < h2.objs.size := Heap.lt_size eD
 have la : a < s.heap.objs.size := Heap.lt_size e
 have hl2 : h2.IsList a (qs.map fun q => Value.ref q.r).toArray := ⟨_, e2, rfl, n, rfl⟩
 refine wpAny_bind (wpAny_rule (wpAny_bind (wpAny_pyIter_list (s := { s with heap := h2, toks := tk2 }) hl2 (wpAny_pure ⟨plainId_quiet ze0 _, ?_⟩))))
 have W := (Walks.list (prog := X.prog) (w := X.w) (A := X.A.in1.in1) (by simpa using I.ok.hd hc) h2.objs.size a (Nat.ne_of_lt (Nat.lt_trans la lD)) (qs.map fun q => Value.ref q.r).toArray).toS
 have hsz : (qs.map fun q => Value.ref q.r).toArray.size = qs.length := by simp
 rw [hsz] at W
 have hgq : ∀ j, j < qs.length → qs[j]? = some (qs.getD j default) := fun j hj => by
  rw [List.getD_eq_getElem?_getD, List.getElem?_eq_getElem hj]; rfl
 have hgl : ∀ j, j < qs.length → l[j]? = some (l.getD j ("", 0)) := fun j hj => by
  rw [List.getD_eq_getElem?_getD, List.getElem?_eq_getElem (by omega)]; rfl
 have ok : ∀ j, j < qs.length → zxk H s.heap (l.getD j ("", 0)) (qs.getD j default) := fun j hj => hat j _ _ (hgl j hj) (hgq j hj)
 have kp : ∀ b o, s.heap.get? b = some o → (h2.push { cls := .type "list_iterator", data := .fields #[.ref a, .int 0 0] }).get? b = some o := fun b o q => Heap.get?_push_of_some _ (k2 b o (Heap.get?_push_of_some _ q))
 refine zmm (A := X.A.in1) (D := s.heap.objs.size) (rw_ := fun j => (qs.getD j default).r) (kv := fun j => (qs.getD j default).k) (va := fun j => (qs.getD j default).u) (ks := fun j => Sum.inr (l.getD j ("", 0)).1) W ?_ (fun i v hv => ?_) (fun i hi => zul (k := Sum.inr (l.getD i ("", 0)).1) (ok i hi).1) (by omega) (fun j hj => ?_) qs.length 0 _ (Nat.zero_add _) ⟨⟨_, Heap.get?_push_size _ rfl, rfl, rfl⟩, hl2.push _⟩ ?_ (fun j hj => ?_) fun s' mv x => ?_
 ·simp only [List.mem_cons, List.not_mem_nil, or_false, not_or]
  exact ⟨Nat.ne_of_lt lD, Nat.ne_of_gt la⟩
 ·have hi : i < qs.length := by
   refine Classical.byContradiction fun z => ?_
   rw [Array.getElem?_eq_none (by rw [hsz]; omega)] at hv
   cases hv
  have z : (qs.map fun q => Value.ref q.r)[i]? = some v := by simpa using hv
  rw [List.getElem?_map, hgq i hi] at z
  exact (Option.some.inj z).symm
 ·obtain ⟨_, _, o, its, k, g1, _⟩ := ok j hj
  have b1 := Heap.lt_size g1
  simp only [List.mem_cons, List.not_mem_nil, or_false, not_or]
  exact ⟨Nat.ne_of_lt b1, Nat.ne_of_lt (Nat.lt_trans b1 lD)⟩
 ·exact zdb hnew (fun o z => Heap.get?_push_of_some _ (k2 _ o z))
 ·obtain ⟨_, _, o, its, k, g1, r1⟩ := ok j hj
  exact ⟨o, its, k, kp _ _ g1, r1⟩
 ·obtain ⟨h', g', d', tk', os'⟩ := s'
  have z1 : g' = s.gens := mv.gens
  have z2 : d' = s.drawn := mv.drawn
  have z3 : os' = s.os := mv.os
  subst z1 z2 z3
  refine ⟨rfl, ?_⟩
  have kf : ∀ b o, s.heap.get? b = some o → h'.get? b = some o := fun b o q => by
   have lb := Heap.lt_size q
   refine mv.heap b o ?_ (kp b o q)
   simp only [List.mem_cons, List.not_mem_nil, or_false, not_or]
   exact ⟨Nat.ne_of_lt lb, Nat.ne_of_lt (Nat.lt_trans lb lD)⟩
  have rel := zwp pq l.length (Nat.le_refl _)
  rw [List.take_length, hlen] at rel
  have hz' := rel.length
  have hz2 := zgy (fun j => (Sum.inr (l.getD j ("", 0)).1 : Key)) (fun j => (qs.getD j default).u) qs.length
  refine ⟨.ref s.heap.objs.size, _, I.laid (t' := tk') kf (Nat.le_refl _) (show ObjOk X.prog X.w _ _ _ (.dK (l.foldl (fun k r => zir k (Sum.inr r.1) (V.int r.2)) [])) from ⟨?_, ?_, _, rel, x⟩), rfl, q _ (I.hok.fresh (Nat.le_refl _))⟩
  ·rw [hz']
   exact q1e (by omega)
  ·have := I.big
   exact beq_eq_false_iff_ne.mpr (Nat.ne_of_gt this)
end
end L2
set_option Elab.async false
set_option linter.all false
set_option maxRecDepth 100000
namespace L2
open PySem PySem.Spec PyProof.Rows PySem.W
theorem ObjOk.obj {P : Program} {w : World} {H : Hp} {h : Heap} {a : Addr} {o : HO} (x : ObjOk P w H h a o) : ∃ u, h.get? a = some u := by
 cases o with
 | lst xs => obtain ⟨_, _, _, _, e⟩ := x; exact ⟨_, e⟩
 | tup xs => obtain ⟨_, _, _, o, e, _⟩ := x; exact ⟨_, e⟩
 | dK kvs => obtain ⟨_, _, _, _, o, _, _, e, _⟩ := x; exact ⟨_, e⟩
 | dT kvs => obtain ⟨_, _, _, _, o, _, _, e, _⟩ := x; exact ⟨_, e⟩
 | set S n => obtain ⟨o, _, _, _, e, _⟩ := x; exact ⟨_, e⟩
 | ins C dx fs => obtain ⟨_, _, _, e, _⟩ := x; exact ⟨_, e⟩
 | own y => exact x
 | xd fs => obtain ⟨_, ⟨o, _, _, e, _⟩, _⟩ := x; exact ⟨_, e⟩
 | rng lo hi => obtain ⟨_, _, _, e⟩ := x; exact ⟨_, e⟩
 | frz ob u => exact ⟨_, x.1⟩
 | tbl ps => exact ⟨_, (show h.get? a = some { cls := .none, data := .fields ps } from x)⟩
 | met f y => exact ⟨_, (show h.get? a = some (PySem.W.methodObj (.ref f) (.ref y)) from x)⟩
 | ext φ => exact x.2.1
def FlyAt (h : Heap) (l : List PySem.Env) (x T : Addr) (C : Value) : Prop := (∃ B : Heap, h.FunFrames B l) ∧ x ∉ frs l ∧ T ∉ frs l ∧ T ≠ x ∧ ∃ (oe : Obj) (vs : Array Value) (oT : Obj) (ts : Array Value) (a0 : Value), h.get? x = some oe ∧ oe.cls = C ∧ vs[0]? = some a0 ∧ oe.data = .fields vs ∧ vs[1]? = some (.ref T) ∧ h.get? T = some oT ∧ oT.data = .fields ts ∧ ts[3]? = some .none
def zzi (h : Heap) (l : List PySem.Env) (x T : Addr) : Heap := hideAll h (x :: T :: frs l)
theorem FlyAt.flying {h : Heap} {l : List PySem.Env} {x T : Addr} {C : Value} (f : FlyAt h l x T C) : ∃ a0, Heap.FlyingW (zzi h l x T) l x C a0 h := by
 obtain ⟨⟨B, ff⟩, n1, n2, ne, oe, vs, oT, ts, a0, he, hc, h0, hd, h1, hT, hdT, h3⟩ := f
 refine ⟨a0, fun b o q => of_hideAll _ q, hideAll_none _ (.head _), funFrames_hide ff fun env he a ha => ?_, oe, vs, T, oT, ts, he, ⟨hc, h0⟩, hd, h1, hideAll_none _ (.tail _ (.head _)), ne, hT, hdT, h3⟩
 exact .tail _ (.tail _ (List.mem_filterMap.mpr ⟨env, he, ha⟩))
theorem FlyAt.of {B h : Heap} {l : List PySem.Env} {x : Addr} {C a0 : Value} (f : Heap.FlyingW B l x C a0 h) : ∃ T, B.get? T = none ∧ FlyAt h l x T C := by
 obtain ⟨f1, f2, f3, oe, vs, T, oT, ts, he, ⟨hc, h0⟩, hd, h1, hn, ne, hT, hdT, h3⟩ := f
 refine ⟨T, hn, ⟨B, f3⟩, fun z => ?_, fun z => ?_, ne, oe, vs, oT, ts, a0, he, hc, h0, hd, h1, hT, hdT, h3⟩
 ·obtain ⟨_, o, ho, hnf⟩ := f3.mem z
  rw [he] at ho; cases ho
  exact hnf vs hd
 ·obtain ⟨_, o, ho, hnf⟩ := f3.mem z
  rw [hT] at ho; cases ho
  exact hnf ts hdT
section
variable {P : Program} {w : World} {h h' : Heap} {l : List PySem.Env} {x T : Addr} {H : Hp}
theorem zqe (st : (zzi h l x T).StaysIn h') (up : h.UpToSlots h') (ff : ∃ B : Heap, h.FunFrames B l) : Un (frs l) [x, T] H H h h' := by
 have kp : ∀ b o, h.get? b = some o → b ∉ frs l → b ∉ [x, T] → h'.get? b = some o := fun b o q n1 n2 => st b o (hideAll_get _ q (by
  simp only [List.mem_cons, List.not_mem_nil, or_false, not_or] at n2 ⊢
  exact ⟨n2.1, n2.2, n1⟩))
 have sl : ∀ b o, h.get? b = some o → b ∈ frs l → ∃ sl, h'.get? b = some { o with slots := sl } := fun b o q n1 => by
  obtain ⟨B, ff⟩ := ff
  obtain ⟨_, o', ho, hnf⟩ := ff.mem n1
  rw [q] at ho; cases ho
  exact up b o q hnf
 refine ⟨fun b o q _ n1 n2 => kp b o q n1 n2, fun b o q _ n1 _ => sl b o q n1, fun _ _ _ n _ => n, fun b o q n2 => ?_, fun _ _ q => q, fun _ _ _ q => q, fun _ ps q => ⟨#[], by rw [q]; simp⟩⟩
 by_cases n1 : b ∈ frs l
 ·obtain ⟨_, e⟩ := sl b o q n1
  exact ⟨_, e⟩
 ·exact ⟨_, kp b o q n1 n2⟩
theorem zoh (ok : HOk P w H h) (st : (zzi h l x T).StaysIn h') (nx : H x = none) (nT : H T = none) (nf : ∀ b ∈ frs l, H b = none) : HOk P w H h' := fun a o e => by
 have tr : ∀ b u, H b = some u → b ∉ x :: T :: frs l := fun b u q z => by
  rcases List.mem_cons.mp z with rfl | z
  ·rw [nx] at q; cases q
  ·rcases List.mem_cons.mp z with rfl | z
   ·rw [nT] at q; cases q
   ·rw [nf b z] at q; cases q
 refine (ok a o e).stay (fun b u hb q => st b u (hideAll_get _ q ?_)) (fun _ q => q) fun _ _ q => q
 rcases hb with rfl | hb
 ·exact tr _ _ e
 ·exact tr _ _ hb
end
def CX1 (P : Program) (w : World) : CXT := fun outer H s E e s' => ∃ (x T C : Addr) (H' : Hp), e = .ref x ∧ s'.os = s.os ∧ AllBare s'.gens ∧ Un (frs outer) [] H H' s.heap s'.heap ∧ HOk P w H' s'.heap ∧ FlyAt s'.heap outer x T (.ref C) ∧ s.heap.get? x = none ∧ s.heap.get? T = none ∧ H' x = none ∧ H' T = none ∧ E (.ref C) none H'
section
variable {P : Program} {w : World} {K : PySem.W.Frag} {mg : Str → Option Value} {base : Heap} {N : List Str} {qual : Str} {scope : Scope} {f : Addr} {cd : Value} {A : Around} {outer : List PySem.Env} {s₀ : Shared} {H₀ : Hp} {E : XK}
theorem zr9 : ztg (CX1 P w) (z8v (CX1 P w) P w K mg base N qual scope f cd A outer s₀ H₀ E) E := by
 intro pins σ H s e s' I h
 obtain ⟨x, T, C, H', rfl, os, bare, un, hok, fly, nx, nT, hx, hT, q⟩ := h
 have I1 := I.call' os un hok bare (fun b z => absurd z (by simp))
 obtain ⟨a0, fl⟩ := fly.flying
 refine wpAny_leaves_onW I.ok.frames rfl fl fun h' fl' up => ?_
 obtain ⟨T', nT', fly'⟩ := FlyAt.of fl'
 have new0 : ∀ b, s.heap.get? b = none → s₀.heap.get? b = none := fun b z => by
  cases q0 : s₀.heap.get? b with
  | none => rfl
  | some o =>
   obtain ⟨o', e'⟩ := I.base.there b o q0 (by intro z; exact absurd (show b ∈ ([] : List Addr) from z) (by simp))
   rw [z] at e'; cases e'
 have new1 : ∀ b, s'.heap.get? b = none → s₀.heap.get? b = none := fun b z => by
  cases q0 : s₀.heap.get? b with
  | none => rfl
  | some o =>
   obtain ⟨o', e'⟩ := I1.base.there b o q0 (by intro z; exact absurd (show b ∈ ([] : List Addr) from z) (by simp))
   rw [z] at e'; cases e'
 have hL : ∀ b o, s₀.heap.get? b = some o → b ≠ s₀.heap.objs.size := fun b o q0 => Nat.ne_of_lt (Heap.lt_size q0)
 have tT : s₀.heap.get? T' = none ∧ H' T' = none := by
  cases q1 : s'.heap.get? T' with
  | none =>
   refine ⟨new1 _ q1, ?_⟩
   cases q2 : H' T' with
   | none => rfl
   | some u => obtain ⟨o, e'⟩ := (hok _ _ q2).obj; rw [q1] at e'; cases e'
  | some o =>
   have hm : T' ∈ x :: T :: frs (z8v (CX1 P w) P w K mg base N qual scope f cd A outer s₀ H₀ E).stack := by
    refine Classical.byContradiction fun z => ?_
    have := hideAll_get _ q1 z
    rw [show hideAll s'.heap _ = zzi s'.heap _ x T from rfl, nT'] at this
    cases this
   rcases List.mem_cons.mp hm with rfl | hm
   ·exact absurd rfl fly'.2.2.2.1
   ·rcases List.mem_cons.mp hm with rfl | hm
    ·exact ⟨new0 _ nT, hT⟩
    ·obtain ⟨⟨B, ff⟩, _⟩ := fly
     obtain ⟨_, o', ho, hnf⟩ := ff.mem hm
     obtain ⟨sl, hs⟩ := up _ _ ho hnf
     obtain ⟨_, _, _, _, _, _, oT, ts, _, _, _, _, _, _, hT2, hdT, _⟩ := fly'
     rw [hs] at hT2
     cases hT2
     exact absurd hdT (hnf ts)
 have US := zqe (H := H') fl'.1 up fly.1
 have nst : ∀ b o, s₀.heap.get? b = some o → b ∉ frs outer → b ∉ frs (z8v (CX1 P w) P w K mg base N qual scope f cd A outer s₀ H₀ E).stack := fun b o q0 n z => by
  rcases List.mem_cons.mp (I.stkSub b z) with z | z
  ·exact hL b o q0 z
  ·exact n z
 have nxT : ∀ b o, s₀.heap.get? b = some o → b ∉ [x, T] := fun b o q0 z => by
  simp only [List.mem_cons, List.not_mem_nil, or_false] at z
  rcases z with rfl | rfl
  ·rw [new0 _ nx] at q0; cases q0
  ·rw [new0 _ nT] at q0; cases q0
 have exn : ∀ b, b ∉ (z8v (CX1 P w) P w K mg base N qual scope f cd A outer s₀ H₀ E).ex := fun b z => absurd (show b ∈ ([] : List Addr) from z) (by simp)
 refine ⟨x, T', C, H', rfl, os.trans I.os, bare, ?_, zoh hok fl'.1 hx hT I1.stkFree, fly', new0 _ nx, tT.1, hx, tT.2, q⟩
 refine ⟨fun b o q0 n n1 _ => ?_, fun b o q0 n n1 _ => ?_, fun b o q0 n _ => I1.base.free b o q0 n (exn b), fun b o q0 _ => ?_, I1.base.tups, I1.base.frzs, I1.base.tbls⟩
 ·exact US.keep b o (I1.base.keep b o q0 n n1 (exn b)) (I1.base.free b o q0 n (exn b)) (nst b o q0 n1) (nxT b o q0)
 ·obtain ⟨sl, e1⟩ := I1.base.slot b o q0 n n1 (exn b)
  by_cases z : b ∈ frs (z8v (CX1 P w) P w K mg base N qual scope f cd A outer s₀ H₀ E).stack
  ·obtain ⟨sl', e2⟩ := US.slot b _ e1 (I1.base.free b o q0 n (exn b)) z (nxT b o q0)
   exact ⟨sl', e2⟩
  ·exact ⟨sl, US.keep b _ e1 (I1.base.free b o q0 n (exn b)) z (nxT b o q0)⟩
 ·obtain ⟨o', e1⟩ := I1.base.there b o q0 (exn b)
  exact US.there b o' e1 (nxT b o q0)
theorem zw2 {pins : List (Addr × Obj)} {σ : St} {H : Hp} {s : Shared} {h' : Heap} {x C : Addr} {vs : List Value} (I : Inv (z8v (CX1 P w) P w K mg base N qual scope f cd A outer s₀ H₀ E) pins σ H s) (hx : Heap.MadeExcOf s.heap h' x (.ref C) vs) (q : E (.ref C) none H) :
  (z8v (CX1 P w) P w K mg base N qual scope f cd A outer s₀ H₀ E).xe (.ref x) { s with heap := h' } := by
 have ff := I.stack
 have exn : ∀ b, b ∉ (z8v (CX1 P w) P w K mg base N qual scope f cd A outer s₀ H₀ E).ex := fun b z => absurd (show b ∈ ([] : List Addr) from z) (by simp)
 refine wpAny_leaves_madeW (base := hideAll s.heap (frs (z8v (CX1 P w) P w K mg base N qual scope f cd A outer s₀ H₀ E).stack)) (h := s.heap) I.ok.frames rfl (fun b o z => of_hideAll _ z) (funFrames_hide ff fun env he a ha => List.mem_filterMap.mpr ⟨env, he, ha⟩) hx fun h'' t fl _ _ up => ?_
 obtain ⟨T, nT, fly⟩ := FlyAt.of fl
 have kp : ∀ b o, s.heap.get? b = some o → b ∉ frs (z8v (CX1 P w) P w K mg base N qual scope f cd A outer s₀ H₀ E).stack → h''.get? b = some o := fun b o z n => fl.1 b o (hideAll_get _ z n)
 have sl : ∀ b o, s.heap.get? b = some o → b ∈ frs (z8v (CX1 P w) P w K mg base N qual scope f cd A outer s₀ H₀ E).stack → ∃ sl, h''.get? b = some { o with slots := sl } := fun b o z n => by
  obtain ⟨_, o', ho, hnf⟩ := ff.mem n
  rw [z] at ho; cases ho
  exact up b o (hx.keeps b o z) hnf
 have sT : s.heap.get? T = none := by
  cases q1 : s.heap.get? T with
  | none => rfl
  | some o =>
   have hm : T ∈ frs (z8v (CX1 P w) P w K mg base N qual scope f cd A outer s₀ H₀ E).stack := by
    refine Classical.byContradiction fun z => ?_
    have := hideAll_get _ q1 z
    rw [nT] at this
    cases this
   obtain ⟨_, o', ho, hnf⟩ := ff.mem hm
   obtain ⟨sl', hs⟩ := sl _ _ ho hm
   obtain ⟨_, _, _, _, _, _, oT, ts, _, _, _, _, _, _, hT2, hdT, _⟩ := fly
   rw [hs] at hT2
   cases hT2
   exact absurd hdT (hnf ts)
 have new0 : ∀ b, s.heap.get? b = none → s₀.heap.get? b = none := fun b z => by
  cases q0 : s₀.heap.get? b with
  | none => rfl
  | some o =>
   obtain ⟨o', e'⟩ := I.base.there b o q0 (exn b)
   rw [z] at e'; cases e'
 have noH : ∀ b, s.heap.get? b = none → H b = none := fun b z => by
  cases q2 : H b with
  | none => rfl
  | some u => obtain ⟨o, e'⟩ := (I.hok _ _ q2).obj; rw [z] at e'; cases e'
 have nst : ∀ b o, s₀.heap.get? b = some o → b ∉ frs outer → b ∉ frs (z8v (CX1 P w) P w K mg base N qual scope f cd A outer s₀ H₀ E).stack := fun b o q0 n z => by
  rcases List.mem_cons.mp (I.stkSub b z) with z | z
  ·exact Nat.ne_of_lt (Heap.lt_size q0) z
  ·exact n z
 refine ⟨x, T, C, H, rfl, I.os, I.bare, ?_, fun a o e => ?_, fly, new0 _ hx.new, new0 _ sT, noH _ hx.new, noH _ sT, q⟩
 ·refine ⟨fun b o q0 n n1 _ => kp b o (I.base.keep b o q0 n n1 (exn b)) (nst b o q0 n1), fun b o q0 n n1 _ => ?_, fun b o q0 n _ => I.base.free b o q0 n (exn b), fun b o q0 _ => ?_, I.base.tups, I.base.frzs, I.base.tbls⟩
  ·obtain ⟨s1, e1⟩ := I.base.slot b o q0 n n1 (exn b)
   by_cases z : b ∈ frs (z8v (CX1 P w) P w K mg base N qual scope f cd A outer s₀ H₀ E).stack
   ·obtain ⟨s2, e2⟩ := sl b _ e1 z
    exact ⟨s2, e2⟩
   ·exact ⟨s1, kp b _ e1 z⟩
  ·obtain ⟨o', e1⟩ := I.base.there b o q0 (exn b)
   by_cases z : b ∈ frs (z8v (CX1 P w) P w K mg base N qual scope f cd A outer s₀ H₀ E).stack
   ·obtain ⟨s2, e2⟩ := sl b _ e1 z
    exact ⟨_, e2⟩
   ·exact ⟨_, kp b _ e1 z⟩
 ·have tr : ∀ b u, H b = some u → b ∉ frs (z8v (CX1 P w) P w K mg base N qual scope f cd A outer s₀ H₀ E).stack := fun b u z n => by
   rw [I.stkFree b n] at z; cases z
  refine (I.hok a o e).stay (fun b u hb z => kp b u z ?_) (fun _ z => z) fun _ _ z => z
  rcases hb with rfl | hb
  ·exact tr _ _ e
  ·exact tr _ _ hb
theorem zu5 {x : Str} {C : Addr} {bm bmN : List Value} {B Bn newId nid inN initId : String} {e : Expr} {es : List Expr} {t : TA} {np cpos pos : Pos} (O : OwnCls x C bm newId mg base) (Fn : ExcBaseFacts Bn newId inN bmN) (hBn : bm.contains (.type Bn) = true) (FB : ExcBaseFacts B nid initId bm)
  (ha : PA (z8v (CX1 P w) P w K mg base N qual scope f cd A outer s₀ H₀ E) (e :: es) t) (hg : Gl (z8v (CX1 P w) P w K mg base N qual scope f cd A outer s₀ H₀ E) x) (hdb : (x == ("__debug__" : Str)) = false := by decide) (hst : z3x (e :: es) = true := by rfl) :
  PS (z8v (CX1 P w) P w K mg base N qual scope f cd A outer s₀ H₀ E) (.Raise (some (.Call (.Name x np) (e :: es) [] cpos)) none pos) (fun D σ H => t σ H fun vs H1 => vs.length ≤ sizeLine ∧ E (.ref C) none H1) := by
 intro pins s σ H D I h
 obtain ⟨tl, Nn, nm, qq, bs, hdct, sn, sub, ab, col, dd, k0, k1, k2, k3, k5, mN, hC, hN, hni, TT⟩ := O.obj
 refine wpAny_Raise_call_subU (C := C) (nm := nm) (q := qq) (N := Nn) (bs := bs) (bm := tl) (hdct := hdct) (sn := sn) (sub := sub) (ab := ab) (col := col) (dd := dd) (k0 := k0) (k1 := k1) (k2 := k2) (k3 := k3) (k5 := k5) Fn hBn FB (mN := mN) (TT.hasType FB.hasBase) (I.ok.hd rfl) (z3w hst) hni (zd2 I hg O.bound ⟨rfl, ?_⟩ hdb)
 have hst' := hst
 rw [z3x, Bool.and_eq_true, Bool.not_eq_true'] at hst'
 have he := z1r (es := es) (env := (z8v (CX1 P w) P w K mg base N qual scope f cd A outer s₀ H₀ E).env) hst'.1
 have hh := ha cpos pins s σ H _ I h
 rw [he] at hh ⊢
 refine Calls.evalArgs_plain (wpAny_mono hh (fun us s2 h2 => ?_) fun _ _ y => y)
 obtain ⟨vs, H1, I1, r, hz, q⟩ := h2
 exact ⟨rfl, by rw [← r.length]; exact hz, I1.bk _ _ hC, hN.keeps I1.bk, TT.keeps I1.bk, fun h' x' mx => zw2 I1 mx q⟩
end
end L2
set_option Elab.async false
set_option linter.all false
set_option maxRecDepth 100000
namespace L2
open PySem PySem.Spec PyProof.Rows PySem.W
theorem zs3 {v : Value} {a b : Str} (ha : v.isStr a = true) (hb : v.isStr b = true) : a = b := by
 unfold Value.isStr at ha hb
 split at ha <;> simp_all
theorem zw9 {K : PySem.W.Frag} {mg : Str → Option Value} {base : Heap} {x : Str} {C : Addr} {bm : List Value} {newId : String} (M : Mod K mg base) (e : nsIn K mainGlobals x = some (some (.ref C))) (q : excIn K C bm newId = true) : OwnCls x C bm newId mg base := by
 obtain ⟨mb, hb, hbb⟩ := M.blt
 obtain ⟨o, es, ep, ho, hd, hk, hm⟩ := M.glob
 open Classical in
 refine own_of_in (p := default) (loose := es.toList.filterMap fun y => if h : ∃ z, y.key.isStr z = true then some (Classical.choose h) else none) M.kin ⟨M.glob, hb, M.nolimit, hbb, fun z _ hl _ _ _ => ?_⟩ e q
 rw [← hm z]
 unfold nsFind findBy
 rw [Option.map_eq_none_iff, Array.find?_eq_none]
 intro y hy hz
 refine hl (List.mem_filterMap.mpr ⟨y, Array.mem_toList_iff.mpr hy, ?_⟩)
 have h : ∃ z, y.key.isStr z = true := ⟨z, hz⟩
 rw [dif_pos h]
 exact congrArg some (zs3 (Classical.choose_spec h) hz)
structure CalleeX (P : Program) (w : World) (K : PySem.W.Frag) (mg : Str → Option Value) (base : Heap) (x : Str) (ps : List Str) (k : Nat) (sp : Sp) : Prop where
 ex : ∃ f fd, FnOk P w K mg base (CX1 P w) k f fd ps sp ∧ mg x = some (.ref f) ∧ PySem.W.keepIn K (.ref f) = true ∧ Binds K fd ps []
theorem zvd {X : Cx} {x : Str} {ps : List Str} {k j : Nat} {sp : Sp} {e : Expr} {es : List Expr} {t : TA} {p pos : Pos} {E : XK} (C : CalleeX X.prog X.w X.K X.mg X.base x ps k sp) (hx : ztg (CX1 X.prog X.w) X E) (hr : Room j X.A) (hk : k ≤ j) (ha : PA X (e :: es) t) (hg : Gl X x := by rfl)
  (hdb : (x == ("__debug__" : Str)) = false := by decide) (hst : z3x (e :: es) = true := by rfl) :
  PE X (.Call (.Name x p) (e :: es) [] pos) (zp7 sp [] E t) := by
 have hst' := hst
 rw [z3x, Bool.and_eq_true, Bool.not_eq_true'] at hst'
 have he := z1r (es := es) (env := X.env) hst'.1
 have hpl := z3w (pos := pos) (env := X.env) hst'.2
 obtain ⟨f, fd, F, hm, hkp, hb⟩ := C
 intro pins s σ H Q I h
 refine wpAny_Call_Name_kw (zd2 I hg hm ?_ hdb)
 refine PySem.W.callWith_K (h₀ := X.base) I.ok.mod.kin hkp (thn (ha pos pins s σ H _ I h) fun us s1 ⟨vs, H1, I1, r, q⟩ => ⟨I1.kIn, ?_⟩) he hpl
 exact zva F (hr.mono hk) hb .nil hx I1 r q
section
variable {P : Program} {w : World} {K : PySem.W.Frag} {mg : Str → Option Value} {base : Heap}
theorem Fun.okx {x qual : Str} {st : Stmt} {f : Addr} {fd : FuncData} {N ps : List Str} {k : Nat} {sp : Sp} (F : Fun K x qual st f fd) (S : FnScope N ps (defScope st)) (len : ∀ vs H Q E, sp vs H Q E → vs.length = ps.length)
  (hbody : ∀ (cdv : Value) (A : Around) (outer : List PySem.Env) (s : Shared) (H : Hp) (vs : List V) (Q : VK) (E : XK), Room k (A.deeper (envOfC qual (defScope st) s.heap.objs.size f cdv)) → sp vs H Q E →
   ∃ t, PSs (z8v (CX1 P w) P w K mg base N qual (defScope st) f cdv A outer s H E) (defBody st) t ∧ t { nx := fun _ H' => Q .non H', rt := Q } (start N vs) H) : FnOk P w K mg base (CX1 P w) (k + 1) f fd ps sp := by
 obtain ⟨oc, od, kV, doc, pm, an, cdv, ct, osl, rfl, lk, hcd⟩ := F.ex
 exact zur lk hcd S len fun A outer s H vs Q E hr hsp => hbody cdv A outer s H vs Q E hr hsp
theorem Callee.x {x : Str} {ps : List Str} {k : Nat} {sp : Sp} (C : Callee P w K mg base x ps k sp) : CalleeX P w K mg base x ps k sp := by
 obtain ⟨f, fd, F, a, b, c⟩ := C
 refine ⟨f, fd, ⟨F.len, fun A outer s H args us vs Q E hr e0 hb hv hs => codeAny_mono (F.run A outer s H args us vs Q E hr e0 hb hv hs) fun r s' hq => ?_⟩, a, b, c⟩
 cases r with
 | error e => exact False.elim hq
 | ok fl => cases fl <;> exact hq
end
section
variable {X : Cx} {pins : List (Addr × Obj)} {σ : St} {H : Hp} {s : Shared} {h' : Heap} {x T : Addr}
structure Strange (X : Cx) (pins : List (Addr × Obj)) (x : Addr) : Prop where
 new : X.s₀.heap.get? x = none
 loc : x ≠ X.env.locals
 cell : ∀ y c, X.env.cells.lookup y = some c → c ≠ x
 pin : ∀ p ∈ X.pn ++ pins, p.1 ≠ x
theorem Inv.strange (I : Inv X pins σ H s) (hex : X.ex = []) (n : s.heap.get? x = none) : Strange X pins x := by
 refine ⟨?_, ?_, fun y c e z => ?_, fun p hp z => ?_⟩
 ·cases q : X.s₀.heap.get? x with
  | none => rfl
  | some o =>
   obtain ⟨o', e⟩ := I.base.there x o q (by rw [hex]; simp)
   rw [n] at e; cases e
 ·rintro rfl
  obtain ⟨m, ⟨o, _, _, ho, _⟩, _⟩ := I.loc
  rw [n] at ho; cases ho
 ·obtain ⟨v, o, ho, _⟩ := I.cell y c e
  rw [z, n] at ho; cases ho
 ·obtain ⟨e, _⟩ := I.pin p hp
  rw [z, n] at e; cases e
theorem Inv.fly (I : Inv X pins σ H s) (hex : X.ex = []) (st : (zzi s.heap X.stack x T).StaysIn h') (up : s.heap.UpToSlots h') (sx : Strange X pins x) (sT : Strange X pins T) (nx : H x = none) (nT : H T = none) :
  Inv X pins σ H { s with heap := h' } := by
 have US := zqe (H := H) st up ⟨_, I.stack⟩
 have nxT : ∀ b, (b ≠ x) → (b ≠ T) → b ∉ [x, T] := fun b h1 h2 z => by
  simp only [List.mem_cons, List.not_mem_nil, or_false] at z
  exact z.elim h1 h2
 have n0 : ∀ b o, X.s₀.heap.get? b = some o → b ∉ [x, T] := fun b o e => nxT b (fun z => by rw [z, sx.new] at e; cases e) fun z => by rw [z, sT.new] at e; cases e
 have exn : ∀ b, b ∉ X.ex := fun b => by rw [hex]; simp
 have nst : ∀ b o, X.s₀.heap.get? b = some o → b ∉ X.fs → b ∉ frs X.stack := fun b o e n z => by
  rcases List.mem_cons.mp (I.stkSub b z) with z | z
  ·exact Nat.ne_of_lt (Nat.lt_of_lt_of_le (Heap.lt_size e) I.ok.above) z
  ·exact n z
 have cellK : ∀ c v, s.heap.IsCell c v → Heap.IsCell h' c v := fun c v ⟨o, ho, hd⟩ => by
  obtain ⟨sl, e⟩ := up c o ho fun vs z => by rw [hd] at z; cases z
  exact ⟨_, e, hd⟩
 refine ⟨I.ok, I.os, I.bare, ⟨fun b o e n hb hx => ?_, fun b o e n hb hx => ?_, I.base.free, fun b o e hx => ?_, I.base.tups, I.base.frzs, I.base.tbls⟩, ?_, fun y c e => ?_, I.free, I.freeC, fun p hp => ?_, zoh I.hok st nx nT I.stkFree, I.len⟩
 ·exact US.keep b o (I.base.keep b o e n hb hx) (I.base.free b o e n hx) (nst b o e hb) (n0 b o e)
 ·obtain ⟨s1, e1⟩ := I.base.slot b o e n hb hx
  by_cases z : b ∈ frs X.stack
  ·obtain ⟨s2, e2⟩ := US.slot b _ e1 (I.base.free b o e n hx) z (n0 b o e)
   exact ⟨s2, e2⟩
  ·exact ⟨s1, US.keep b _ e1 (I.base.free b o e n hx) z (n0 b o e)⟩
 ·obtain ⟨o', e1⟩ := I.base.there b o e hx
  exact US.there b o' e1 (n0 b o e)
 ·obtain ⟨m, hn, hl⟩ := I.loc
  refine ⟨m, up.ns hn, fun i y v e1 e2 e3 => ?_⟩
  obtain ⟨u, r, l⟩ := hl i y v e1 e2 e3
  refine ⟨u, r, ?_⟩
  rcases l with l | ⟨k, c, e, z⟩
  ·exact .inl l
  ·exact .inr ⟨k, c, e, cellK c _ z⟩
 ·obtain ⟨v, z⟩ := I.cell y c e
  exact ⟨v, cellK c v z⟩
 ·obtain ⟨e, n, ne, nf, d⟩ := I.pin p hp
  have ns : p.1 ∉ frs X.stack := fun z => (List.mem_cons.mp (I.stkSub _ z)).elim ne nf
  exact ⟨US.keep p.1 p.2 e n ns (nxT _ (sx.pin p hp) (sT.pin p hp)), n, ne, nf, d⟩
def HO.exc (x C : Addr) : HO := .ext fun h => ∃ o, h.get? x = some o ∧ o.cls = .ref C
theorem Inv.shown {C : Addr} (I : Inv X pins σ H s) (sx : Strange X pins x) (nx : H x = none) (ho : ∃ o, s.heap.get? x = some o ∧ o.cls = .ref C) : Inv X pins σ (upd H x (HO.exc x C)) s := by
 have oth : ∀ b, b ≠ x → upd H x (HO.exc x C) b = H b := fun b n => z0e n
 have sm : ∀ b u, H b = some u → upd H x (HO.exc x C) b = some u := fun b u e => by
  rw [oth b fun z => by rw [z, nx] at e; cases e]; exact e
 refine ⟨I.ok, I.os, I.bare, ⟨I.base.keep, I.base.slot, fun b o e n hx => ?_, I.base.there, fun b xs e => sm _ _ (I.base.tups b xs e), fun b o u e => sm _ _ (I.base.frzs b o u e), fun b ps e => ?_⟩, I.loc, I.cell, ?_, fun y c e => ?_, fun p hp => ?_, fun b u e => ?_, I.len⟩
 ·rw [oth b fun z => by rw [z, sx.new] at e; cases e]
  exact I.base.free b o e n hx
 ·obtain ⟨m, q⟩ := I.base.tbls b ps e
  exact ⟨m, sm _ _ q⟩
 ·rw [oth _ fun z => sx.loc z.symm]; exact I.free
 ·rw [oth _ (sx.cell y c e)]; exact I.freeC y c e
 ·obtain ⟨e, n, r⟩ := I.pin p hp
  exact ⟨e, by rw [oth _ (sx.pin p hp)]; exact n, r⟩
 ·by_cases hb : b = x
  ·subst hb
   rw [z01] at e
   cases e
   obtain ⟨o, h1, h2⟩ := ho
   exact ⟨⟨o, h1, h2⟩, ⟨o, h1⟩, fun g1 g2 ⟨o, a, b⟩ k => ⟨o, k _ a, b⟩⟩
  ·rw [oth b hb] at e
   exact (I.hok b u e).stay (fun _ _ _ q => q) (fun c q => sm _ _ q) fun _ _ q => sm _ _ q
theorem Inv.gone {i : Nat} {n : Str} {m : Str → Option Value} {v : Option Value} {t' : Nat} (I : Inv X pins σ H s) (hN : X.N.Nodup) (hi : X.N[i]? = some n) (hn : Heap.Ns h' X.env.locals (fun y => if y = n then v else m y)) (hm : s.heap.Ns X.env.locals m) (hs : Heap.SameBut X.env.locals s.heap h') :
  Inv X pins (σ.set i none) H { s with heap := h', toks := t' } := by
 obtain ⟨m0, hn0, hl⟩ := I.loc
 have em : m0 = m := hn0.eq_nsMap.trans hm.eq_nsMap.symm
 subst em
 have cne := I.cne
 have neL : ∀ b o, X.s₀.heap.get? b = some o → b ≠ X.env.locals := fun b o e => Nat.ne_of_lt (Nat.lt_of_lt_of_le (Heap.lt_size e) I.ok.above)
 refine ⟨I.ok, I.os, I.bare, ⟨fun b o e n hb hx => (hs.2 b (neL b o e)).trans (I.base.keep b o e n hb hx), fun b o e n hb hx => ?_, I.base.free, fun b o e hx => ?_, I.base.tups, I.base.frzs, I.base.tbls⟩, ⟨_, hn, fun j y v' e1 e2 e3 => ?_⟩, fun y c e => ?_, I.free, I.freeC, fun p hp => ?_, fun b u e => ?_, by simpa using I.len⟩
 ·obtain ⟨sl, q⟩ := I.base.slot b o e n hb hx
  exact ⟨sl, (hs.2 b (neL b o e)).trans q⟩
 ·obtain ⟨o', q⟩ := I.base.there b o e hx
  exact ⟨o', (hs.2 b (neL b o e)).trans q⟩
 ·by_cases hj : j = i
  ·subst hj
   have hiσ : j < σ.length := by rw [I.len]; exact (List.getElem?_eq_some_iff.mp hi).1
   rw [List.getElem?_set_self hiσ] at e2
   cases e2
  ·rw [List.getElem?_set_ne (Ne.symm hj)] at e2
   obtain ⟨u, r, q⟩ := hl j y v' e1 e2 e3
   refine ⟨u, r, ?_⟩
   rcases q with ⟨k, e⟩ | ⟨k, c, e, z⟩
   ·refine .inl ⟨k, ?_⟩
    have : y ≠ n := fun e => hj (zjm hN e1 (e ▸ hi))
    simp [this, e]
   ·exact .inr ⟨k, c, e, z.sameBut hs (cne y c e)⟩
 ·obtain ⟨w', z⟩ := I.cell y c e
  exact ⟨w', z.sameBut hs (cne y c e)⟩
 ·obtain ⟨e, n, ne, nf, d⟩ := I.pin p hp
  exact ⟨(hs.2 p.1 ne).trans e, n, ne, nf, d⟩
 ·refine (I.hok b u e).stay (fun c w' hc q => (hs.2 c ?_).trans q) (fun _ q => q) fun _ _ q => q
  rintro rfl
  rcases hc with rfl | hc
  ·rw [I.free] at e; cases e
  ·rw [I.free] at hc; cases hc
end
end L2
set_option Elab.async false
set_option linter.all false
set_option maxRecDepth 100000
namespace L2
open PySem PySem.Spec PyProof.Rows PySem.W
abbrev Cx.marked (X : Cx) (e : Value) : Cx := { X with A := X.A.mark (some e), calm := false, xe := fun _ _ => False }
theorem Cx.Ok.marked {X : Cx} {e : Value} (ok : X.Ok) : (X.marked e).Ok :=
 ⟨ok.mod, ok.kind, ok.glob, ok.blt, ok.above, ok.inj, ok.has, ok.cab, (fun z => nomatch z), ok.frames, ok.stk, ok.exf, ok.bs, ok.bsz, ok.noex, ok.exfs, ok.funs, ok.frf⟩
section
variable {X : Cx} {pins : List (Addr × Obj)} {σ : St} {H : Hp} {s : Shared} {e : Value}
theorem Inv.marked (I : Inv X pins σ H s) (ok : (X.marked e).Ok) : Inv (X.marked e) pins σ H s := ⟨ok, I.os, I.bare, I.base, I.loc, I.cell, I.free, I.freeC, I.pin, I.hok, I.len⟩
theorem Inv.unmarked (I : Inv (X.marked e) pins σ H s) (ok : X.Ok) : Inv X pins σ H s := ⟨ok, I.os, I.bare, I.base, I.loc, I.cell, I.free, I.freeC, I.pin, I.hok, I.len⟩
end
def q0p (K : PySem.W.Frag) (Rc : Addr) (i q : Nat) (sp : Sp) (t : TA) : TS := fun D σ H => t σ H fun vs H1 => sp vs H1 (fun _ H2 => D.nx σ H2)
 (fun cls _ H2 => ∃ C, cls = .ref C ∧ exmOne K (.ref C) (.ref Rc) = some true ∧ ∀ x, H2 x = none → D.nx (((σ.set i (some (.ref x))).set q (some (.ref x))).set i none) (upd H2 x (HO.exc x C)))
theorem zyk {X : Cx} {f R n kp : Str} {ps : List Str} {k j i q : Nat} {sp : Sp} {e : Expr} {es : List Expr} {t : TA} {Rc : Addr} {p cpos epos rp kpos npos apos hpos pos : Pos}
  (C : CalleeX X.prog X.w X.K X.mg X.base f ps k sp) (hr : Room j X.A) (hk : k ≤ j) (ha : PA X.nox (e :: es) t) (hex : X.ex = []) (hsk : X.stack = X.env :: X.outer) (hfr : X.env.frame = some X.env.locals)
  (hR : X.mg R = some (.ref Rc)) (hgR : Gl X R) (hN : X.N.Nodup) (hn : X.N[i]? = some n) (hnl : X.env.kindOf n = some .local) (hq : X.N[q]? = some kp) (hkl : X.env.scope.names.lookup kp = some .local) (hiq : i ≠ q)
  (hg : Gl X f := by rfl) (hdb : (f == ("__debug__" : Str)) = false := by decide) (hdR : (R == ("__debug__" : Str)) = false := by decide) (hdn : (n == ("__debug__" : Str)) = false := by decide) (hcn : (n == ("__classdict__" : Str)) = false := by decide) (hst : z3x (e :: es) = true := by rfl)
  (hsw : swapsWith (.Call (.Name f p) (e :: es) [] cpos) none epos.line X.env = pure false := by rfl) (hs2 : swapsWith (.Name n npos) (some (.Name kp kpos)) apos.line X.env = pure false := by rfl) :
  PS X (.Try [.Expr (.Call (.Name f p) (e :: es) [] cpos) epos] [.ExceptHandler (some (.Name R rp)) (some n) [.Assign [.Name kp kpos] (.Name n npos) apos] hpos] [] [] pos) (q0p X.K Rc i q sp t) := by
 intro pins s σ H D I h
 have hst' := hst
 rw [z3x, Bool.and_eq_true, Bool.not_eq_true'] at hst'
 have he := z1r (es := es) (env := X.env) hst'.1
 have hpl := z3w (pos := cpos) (env := X.env) hst'.2
 obtain ⟨g, fd, F, hm, hkp, hb⟩ := C
 refine wpAny_Try_except (wpAny_execs_cons (wpAny_Expr_any (wpAny_Call_Name_kw (zd2 I hg hm ?_ hdb)) I.quiet hsw))
 refine PySem.W.callWith_K (h₀ := X.base) I.ok.mod.kin hkp (wpAny_mono (ha cpos pins s σ H _ (I.wish _) h) (fun us s1 ⟨vs, H1, I1, r, qq⟩ => ⟨I1.kIn, ?_⟩) fun _ _ z => False.elim z) he hpl
 have J := I1.unwish
 have hl : us.length = ps.length := by rw [← r.length]; exact F.len _ _ _ _ qq
 have hbb := hb s1 us J.kIn (by rw [List.append_nil]; exact hl)
 rw [List.append_nil] at hbb
 refine wpAny_call (codeAny_mono (F.run X.A X.stack s1 H1 ⟨us, []⟩ us vs _ _ (hr.mono hk) J.env0 hbb r qq) fun rs s' hq' => ?_)
 cases rs with
 | ok fl =>
  cases fl with
  | ret u =>
   obtain ⟨v, H2, I2, _, q2⟩ := J.after hq'
   exact wpAny_execs_nil (wpAny_execs_nil ⟨σ, H2, I2, q2⟩)
  | next => exact False.elim hq'
  | brk => exact False.elim hq'
  | cont => exact False.elim hq'
 | error ev =>
  obtain ⟨x, T, Ca, H2, rfl, os, bare, un, hok, fly, nx, nT, hx, hT, Cb, hcb, hmat, fin⟩ := hq'
  cases hcb
  have I2 := J.call' os un hok bare (fun b z => absurd z (by simp))
  have sx := J.strange hex nx
  have sT := J.strange hex nT
  obtain ⟨a0, fl⟩ := fly.flying
  have hfs : X.A.frames = some (X.env :: X.outer) := by rw [← hsk]; exact I.ok.frames
  refine wpAny_looks_onW (env := X.env) (outer := X.outer) hfs hfr (by rw [← hsk]; exact fl) fun h3 held up3 => ?_
  refine wpAny_landsW held fun h4 fl4 up4 => ?_
  have up34 := up3.trans up4
  have I4 := I2.fly hex fl4.1 up34 sx sT hx hT
  have okm : (X.marked (.ref x)).Ok := I.ok.marked
  refine wpAny_handleBy_cons (codeAny_handlers_test (zd2 (I4.marked okm) hgR hR ?_ hdR)) (by intro z; cases z)
  obtain ⟨ob, hob, hcl⟩ := fl4.there
  refine (exm_one I4.kIn (hcl ▸ (Looks.ld hob).andThen .now) hmat).here ?_
  refine codeAny_handlers_suite_as (lands_againW fl4 fun h5 fl5 up5 => ?_)
  have I5 := I2.fly hex fl5.1 (up34.trans up5) sx sT hx hT
  obtain ⟨ob5, hob5, hcl5⟩ := fl5.there
  have I6 := (I5.shown sx hx ⟨ob5, hob5, hcl5⟩).marked okm
  refine zja (X := X.marked (.ref x)) I6 hN hn (.inl hnl) (v := .ref x) rfl (fun s7 I7 => ?_) (.inr hnl)
  have pa := z08 (z1d (X := X.marked (.ref x)) (pos := apos) (pos' := kpos) hN hq (.inl hkl) (z00 (pos := npos) hn (.inl hnl) hdn hcn) hs2 (.inr hkl))
  have hil : i < σ.length := by rw [I.len]; exact (List.getElem?_eq_some_iff.mp hn).1
  have w7 := pa pins s7 _ _ { nx := fun σ' H' => σ' = ((σ.set i (some (.ref x))).set q (some (.ref x))) ∧ H' = upd H2 x (HO.exc x Ca), rt := fun _ _ => False } I7 ⟨.ref x, by rw [List.getElem?_set_self hil], rfl, rfl⟩
  refine wpAny_mono w7 (fun fl s8 q8 => ?_) fun _ _ z => False.elim z
  cases fl with
  | ret u => obtain ⟨_, _, _, _, _, z⟩ := q8; exact z.elim
  | brk => obtain ⟨_, _, _, z⟩ := q8; exact z.elim
  | cont => obtain ⟨_, _, _, z⟩ := q8; exact z.elim
  | next =>
   obtain ⟨σ8, H8, I8, rfl, rfl⟩ := q8
   have I8 := I8.unmarked I.ok
   obtain ⟨m, hn8, _⟩ := id I8.loc
   refine wpAny_nameGoes_keeps hnl hn8 (by rw [I.ok.kind]; rfl) fun h9 v9 hn9 hs9 => ?_
   exact ⟨_, _, I8.gone hN hn hn9 hn8 hs9, fin x hx⟩
end L2
set_option Elab.async false
set_option linter.all false
set_option maxRecDepth 100000
namespace L2
open PySem PySem.Spec PyProof.Rows PySem.W PySem.Builtin PySem.Builtin.ObjectAttr PySem.Builtin.Getset_descriptor PySem.Calls
section
variable {prog : Program} {w : World} {A : Around} {E : Value → Shared → Prop} {s : Shared} {K : PySem.W.Frag} {x C : Addr}
theorem zuu {R : Result → Shared → Prop} {tp : Value} (X : K.In s.heap) (L0 : Looks (model prog w) s.heap (typeOf (.ref x)) (.ref C)) (hm : mroIn K C (.type "object") = some true)
  (h : R (.ok (.ret (.ref C))) s) : codeAny (model prog w) A (.call (.builtin "getset_descriptor.__get__") ⟨[.builtin "object.__class__", .ref x, tp], []⟩) R s := by
 obtain ⟨hh, g, dr, t, os⟩ := s
 have L1 := looks_mroIn (M := model prog w) X hm
 refine codeAny_call_builtin KF.slot_gs.plain KF.entry_gs (KF.slot_gs.check _ _ _ _ _ _ _ _ KF.type_class (KF.args_gs _ _ _) ?_)
 unfold Builtin.«getset_descriptor.__get__» descrGet
 rw [dga_obj]
 refine wpAny_bind (wpAny_pure ?_)
 unfold descrGetter descrCheckInstance descrNameAndClass isInstance
 simp only [KF.owner_class]
 repeat lk
 refine ⟨Code.quiet_builtin _ (by decide +kernel), codeAny_builtin KF.entry_class ?_⟩
 unfold Builtin.«object.__class__» shownTypeOf
 repeat lk
 exact h
theorem zut {M : Model} {h : Heap} (X : K.In h) (ha : findIn K (.ref C) "__class__" = some (some (.builtin "object.__class__"))) (hn : specialIn K (.builtin "object.__class__") "__get__" = some (some (.builtin "getset_descriptor.__get__"))) (htk : takesIn K (.builtin "object.__class__") = some true) :
  Looks M h (find (.ref x) (.ref C) "__class__") (.bind (.builtin "getset_descriptor.__get__") (.builtin "object.__class__")) := by
 have L3 := looks_takesIn (M := M) X htk
 exact (looks_findIn X ha).andThen ((show Looks M h (getOf (some (.builtin "object.__class__"))) (some (.builtin "getset_descriptor.__get__")) from looks_specialIn X hn).andThen ((show Looks M h (dataDescriptor? (some (.builtin "object.__class__")) (some (.builtin "getset_descriptor.__get__"))) (some (_, _)) from L3.andThen .now).andThen (Looks.tag .now)))
theorem zsb {tk : Tok} {Q : Fin → Shared → Prop} (X : K.In s.heap) (L0 : Looks (model prog w) s.heap (typeOf (.ref x)) (.ref C)) (ha : findIn K (.ref C) "__class__" = some (some (.builtin "object.__class__"))) (hn : specialIn K (.builtin "object.__class__") "__get__" = some (some (.builtin "getset_descriptor.__get__"))) (htk : takesIn K (.builtin "object.__class__") = some true) (hm : mroIn K C (.type "object") = some true)
  (h : Q (.done (.ret (.ref C))) s) : wpAny (model prog w) A (Builtin.«object.__getattribute__» ⟨[.ref x, .str "__class__" tk], []⟩) Q E s := by
 obtain ⟨hh, g, dr, t, os⟩ := s
 have L1 := zut (M := model prog w) (x := x) X ha hn htk
 unfold Builtin.«object.__getattribute__»
 refine wpAny_bind (wpAny_pure (wpAny_bind (wpAny_pure (wpAny_bind (L0.at (wpAny_bind (L1.at ?_)))))))
 exact wpAny_bind (wpAny_holding (wpAny_call (zuu X L0 hm (wpAny_pure h))))
theorem zsd {M : Model} {nameV : Value} {Q : Unit → Shared → Prop} (L0 : Looks M s.heap (typeOf (.ref x)) (.ref C)) (LB : Looks M s.heap (isSubtype (.ref C) (.type "BaseException")) true) (hq : Q () s) :
  wpAny M A (checkBuiltinCall "BaseException.__getattribute__" ⟨[.ref x, nameV], []⟩) Q E s := by
 obtain ⟨hh, g, dr, t, os⟩ := s
 have hk : builtinKind "BaseException.__getattribute__" = some .slot := by decide +kernel
 have hsplit : splitId "BaseException.__getattribute__" = some ("BaseException", "__getattribute__") := by decide +kernel
 have LI : Looks M hh (isInstance (.ref x) (.type "BaseException")) true := L0.andThen LB
 have ha := F.args_bexc_ga (.ref x) nameV
 simp only [checkBuiltinCall, hk, hsplit]
 refine wpAny_bind (LI.at ?_)
 repeat (first | assumption | wp_step)
theorem zuv {tk : Tok} {R : Result → Shared → Prop} (X : K.In s.heap) (L0 : Looks (model prog w) s.heap (typeOf (.ref x)) (.ref C)) (hb : subIn K (.ref C) (.type "BaseException") = some true) (ha : findIn K (.ref C) "__class__" = some (some (.builtin "object.__class__"))) (hn : specialIn K (.builtin "object.__class__") "__get__" = some (some (.builtin "getset_descriptor.__get__"))) (htk : takesIn K (.builtin "object.__class__") = some true) (hm : mroIn K C (.type "object") = some true)
  (h : R (.ok (.ret (.ref C))) s) : codeAny (model prog w) A (.call (.builtin "BaseException.__getattribute__") ⟨[.ref x, .str "__class__" tk], []⟩) R s :=
 codeAny_call_builtin F.excAttr_ValueError.ga.plain F.entry_bexc_ga (zsd L0 (looks_subIn X hb) (zsb X L0 ha hn htk hm h))
theorem zsc {Q : Option Value → Shared → Prop} (X : K.In s.heap) (L0 : Looks (model prog w) s.heap (typeOf (.ref x)) (.ref C)) (hb : subIn K (.ref C) (.type "BaseException") = some true) (hga : findIn K (.ref C) "__getattribute__" = some (some (.builtin "BaseException.__getattribute__"))) (hgh : findIn K (.ref C) "__getattr__" = some none)
  (ha : findIn K (.ref C) "__class__" = some (some (.builtin "object.__class__"))) (hn : specialIn K (.builtin "object.__class__") "__get__" = some (some (.builtin "getset_descriptor.__get__"))) (htk : takesIn K (.builtin "object.__class__") = some true) (hm : mroIn K C (.type "object") = some true)
  (h : Q (some (.ref C)) { s with toks := s.toks + 1 }) : wpAny (model prog w) A (getAttr? (.ref x) "__class__") Q E s := by
 obtain ⟨hh, g, dr, t, os⟩ := s
 have L1 := looks_findIn (M := model prog w) X hga
 have L2 := looks_findIn (M := model prog w) X hgh
 have hx2 : (Value.builtin "BaseException.__getattribute__" == Value.builtin "object.__getattribute__") = false := by decide +kernel
 have hx1 : (onTheHeap (Value.ref C) && Value.builtin "BaseException.__getattribute__" == Value.builtin "object.__getattribute__") = false := by rw [hx2]; rfl
 have f3 := F.excAttr_ValueError.ga.bind (.ref x)
 unfold getAttr? getAttrBy? getAttrBy
 refine wpAny_bind (wpAny_mkText (wpAny_bind (wpAny_attempt (wpAny_holding (wpAny_bind (L0.at (wpAny_bind (L1.at ?_))))))))
 dsimp only
 rw [hx1, if_neg Bool.false_ne_true]
 unfold getAttrByItsOwn hookBefore callGetattribute boundAndCalled
 refine wpAny_bind (L2.at (wpAny_bind (wpAny_attempt (wpAny_holding ?_))))
 rw [Bool.false_and, if_neg Bool.false_ne_true, f3]
 refine wpAny_bind (wpAny_pure (wpAny_call (zuv (s := ⟨hh, g, dr, t + 1, os⟩) X L0 hb ha hn htk hm ?_)))
 exact handed_on rfl (wpAny_pure h)
structure ExcC (K : PySem.W.Frag) (C : Addr) : Prop where
 cl : (clsIn K C).isSome = true
 hb : subIn K (.ref C) (.type "BaseException") = some true
 hga : findIn K (.ref C) "__getattribute__" = some (some (.builtin "BaseException.__getattribute__"))
 hgh : findIn K (.ref C) "__getattr__" = some none
 ha : findIn K (.ref C) "__class__" = some (some (.builtin "object.__class__"))
 hn : specialIn K (.builtin "object.__class__") "__get__" = some (some (.builtin "getset_descriptor.__get__"))
 htk : takesIn K (.builtin "object.__class__") = some true
 hm : mroIn K C (.type "object") = some true
theorem zuk (c : ExcC K C) : KitX K (.ref x) (.ref C) (fun h => ∃ o, h.get? x = some o ∧ o.cls = .ref C) where
 ty := fun M h _ ⟨o, ho, hc⟩ => hc ▸ (Looks.ld ho).andThen .now
 it := fun _ _ X _ => by
  obtain ⟨cd, hcd⟩ := Option.isSome_iff_exists.mp c.cl
  unfold clsIn at hcd
  split at hcd
  ·rename_i c' d' cd' sl' ho
   intro A' Q' E' s' k q
   unfold isType loadHead
   exact wpAny_bind (wpAny_loadPart (k _ _ (X _ _ ho)) (wpAny_pure q))
  ·cases hcd
 ne := fun h tp dd its n sl X htp => by
  obtain ⟨cd, hcd⟩ := Option.isSome_iff_exists.mp c.cl
  refine Bool.eq_false_iff.mpr fun q => ?_
  have e : C = tp := Value.ref.inj (beq_iff_eq.mp q)
  subst e
  unfold clsIn at hcd
  split at hcd
  ·rename_i c' d' cd' sl' ho
   have z := (X _ _ ho).symm.trans htp
   cases z
  ·cases hcd
 ca := fun X ⟨o, ho, hc⟩ k => zsc X (hc ▸ (Looks.ld ho).andThen .now) c.hb c.hga c.hgh c.ha c.hn c.htk c.hm k
end
section
variable {X : Cx}
def q0w (K : PySem.W.Frag) : List V → Hp → VK → Prop := fun xs H Q => ∃ (x C : Addr) (y : V) (d : Value) (b : Bool), xs = [.ref x, y] ∧ H x = some (HO.exc x C) ∧ RelV y d ∧ (∀ u, RelV y u → u = d) ∧ ExcC K C ∧ kitOne K (.ref C) d = some b ∧ Q (.bl b) H
theorem zc6 : CallR X (.builtin "isinstance") (q0w X.K) := by
 intro pins s σ H xs us Q I r h
 obtain ⟨x, C, y, d, b, rfl, hx, rd, ud, c, e, q⟩ := h
 obtain ⟨u, u2, rfl, r1, r2⟩ := r.two
 cases r1
 cases ud _ r2
 obtain ⟨ho, _⟩ := (show ObjOk X.prog X.w H s.heap x (HO.exc x C) from I.hok x _ hx)
 exact kia_one (zuk c) I.kIn ho e (fun z => nomatch z) fun tk => ⟨.bl b, H, I.tok tk, rfl, q⟩
def zmg : V → List V → Hp → VK → Prop := fun x vs H Q => ∃ (l : Addr) (bs : List Bool) (y : Bool), x = .ref l ∧ vs = [.bl y] ∧ H l = some (.lst (bs.map V.bl)) ∧ Q (.int (bs.count y : Nat)) H
theorem zrm : MtM X "list.count" zmg := by
 intro pins s σ H x vs v us Q I rx rv h
 obtain ⟨l, bs, y, rfl, rfl, hH, q⟩ := h
 cases rx
 obtain ⟨u, rfl, r1⟩ := rv.one
 cases r1
 obtain ⟨z, its, n, r, hl, e⟩ := I.lstM hH
 obtain rfl := zi1 r
 refine call_meets F.slot_list_count ⟨_, e, rfl⟩ F.entry_list_count (F.args_list_count_2 _ _) (SeqAt.list_countAt l _ n _ _ (.bool y) fun u => u == Value.bool y) ⟨e, fun u hu => ?_, ?_⟩
 ·rw [List.mem_toArray] at hu
  obtain ⟨b, hb, rfl⟩ := List.mem_map.mp hu
  intro prog w E Q hq
  refine SeqAt.EqAt.bool_bool b y prog w E Q ?_
  cases b <;> cases y <;> exact hq
 ·refine ⟨.int _, H, I.kept (h' := s.heap) (t' := s.toks + 1) fun b u e => e, ⟨_, rfl⟩, ?_⟩
  rw [List.toList_toArray, show (bs.map Value.bool).countP (fun u => u == Value.bool y) = bs.count y by
   rw [List.countP_map]; exact congrArg (fun f => bs.countP f) (funext fun b => by cases b <;> cases y <;> rfl)]
  exact q
end
section
variable {P : Program} {w : World} {K : PySem.W.Frag} {mg : Str → Option Value} {base : Heap} {N : List Str} {qual : Str} {scope : Scope} {f : Addr} {cd : Value} {A : Around} {outer : List PySem.Env} {s₀ : Shared} {H₀ : Hp} {E : XK}
theorem zkt {x : Str} {C : Addr} {bm bmN : List Value} {B Bn newId nid inN initId : String} {e : Expr} {es : List Expr} {t : TA} {np cpos pos : Pos} (hx : nsIn K mainGlobals x = some (some (.ref C))) (hq : excIn K C bm newId = true) (Fn : ExcBaseFacts Bn newId inN bmN) (hBn : bm.contains (.type Bn) = true) (FB : ExcBaseFacts B nid initId bm)
  (ha : PA (z8v (CX1 P w) P w K mg base N qual scope f cd A outer s₀ H₀ E) (e :: es) t) (hg : Gl (z8v (CX1 P w) P w K mg base N qual scope f cd A outer s₀ H₀ E) x) (hdb : (x == ("__debug__" : Str)) = false := by decide) (hst : z3x (e :: es) = true := by rfl) :
  PS (z8v (CX1 P w) P w K mg base N qual scope f cd A outer s₀ H₀ E) (.Raise (some (.Call (.Name x np) (e :: es) [] cpos)) none pos) (fun D σ H => t σ H fun vs H1 => vs.length ≤ sizeLine ∧ E (.ref C) none H1) :=
 fun pins s σ H D I h => zu5 (zw9 I.mod hx hq) Fn hBn FB ha hg hdb hst pins s σ H D I h
end
end L2
set_option maxHeartbeats 0
namespace SR
open PySem L2
abbrev CDF (x : Str) : Prop := (x == ("__classdict__" : Str)) = false
abbrev DBF (x : Str) : Prop := (x == ("__debug__" : Str)) = false
abbrev GLF (s : Stmt) (x : Str) : Prop := (defScope s).names.lookup x = some NameKind.globalImplicit
def top (i : Nat) : Stmt := PySem.Challenge.pw_smallrooms_k10_runs.main.body.getD i (.Pass ⟨0, 0, 0, 0⟩)
theorem zk9 : bootBuiltins "ValueError" = some (.type "ValueError") := by decide +kernel
theorem zxf : bootBuiltins "bool" = some (.type "bool") := by decide +kernel
theorem zxe : bootBuiltins "dict" = some (.type "dict") := by decide +kernel
theorem q00 : bootBuiltins "int" = some (.type "int") := by decide +kernel
theorem z3b : bootBuiltins "isinstance" = some (.builtin "isinstance") := by decide +kernel
theorem zf0 : bootBuiltins "len" = some (.builtin "len") := by decide +kernel
theorem zxd : bootBuiltins "list" = some (.type "list") := by decide +kernel
theorem zzz : bootBuiltins "max" = some (.builtin "max") := by decide +kernel
theorem zzy : bootBuiltins "min" = some (.builtin "min") := by decide +kernel
theorem zez : bootBuiltins "sorted" = some (.builtin "sorted") := by decide +kernel
theorem zc7 : bootBuiltins "tuple" = some (.type "tuple") := by decide +kernel
theorem z1v : CDF "_law_at" := by decide +kernel
theorem zdm : CDF "_law_bad" := by decide +kernel
theorem z47 : CDF "_law_base" := by decide +kernel
theorem zey : CDF "_law_block_here" := by decide +kernel
theorem zbx : CDF "_law_body" := by decide +kernel
theorem zg1 : CDF "_law_book" := by decide +kernel
theorem z2h : CDF "_law_deed" := by decide +kernel
theorem z7e : CDF "_law_deeds" := by decide +kernel
theorem z3d : CDF "_law_deep" := by decide +kernel
theorem zac : CDF "_law_drawn" := by decide +kernel
theorem zi0 : CDF "_law_due" := by decide +kernel
theorem zab : CDF "_law_every" := by decide +kernel
theorem z52 : CDF "_law_expr" := by decide +kernel
theorem z2b : CDF "_law_faults" := by decide +kernel
theorem zk8 : CDF "_law_first" := by decide +kernel
theorem zlq : CDF "_law_goal" := by decide +kernel
theorem z6o : CDF "_law_here" := by decide +kernel
theorem zlp : CDF "_law_high" := by decide +kernel
theorem zdl : CDF "_law_ins" := by decide +kernel
theorem z4l : CDF "_law_k" := by decide +kernel
theorem z5p : CDF "_law_kept" := by decide +kernel
theorem zex : CDF "_law_kinds" := by decide +kernel
theorem z11 : CDF "_law_known" := by decide +kernel
theorem zcy : CDF "_law_longer" := by decide +kernel
theorem zdk : CDF "_law_low" := by decide +kernel
theorem zg0 : CDF "_law_made" := by decide +kernel
theorem zbw : CDF "_law_many" := by decide +kernel
theorem zlo : CDF "_law_mine" := by decide +kernel
theorem zln : CDF "_law_more" := by decide +kernel
theorem zbv : CDF "_law_most" := by decide +kernel
theorem z51 : CDF "_law_name" := by decide +kernel
theorem zii : CDF "_law_number" := by decide +kernel
theorem z31 : CDF "_law_one" := by decide +kernel
theorem z4e : CDF "_law_other" := by decide +kernel
theorem z85 : CDF "_law_pair" := by decide +kernel
theorem z6n : CDF "_law_path" := by decide +kernel
theorem z0u : CDF "_law_program_here" := by decide +kernel
theorem zhz : CDF "_law_row" := by decide +kernel
theorem z0a : CDF "_law_script" := by decide +kernel
theorem zih : CDF "_law_second" := by decide +kernel
theorem zlm : CDF "_law_seen" := by decide +kernel
theorem z1m : CDF "_law_state" := by decide +kernel
theorem zdj : CDF "_law_way" := by decide +kernel
theorem z50 : CDF "_law_word" := by decide +kernel
theorem zk7 : CDF "_law_words" := by decide +kernel
theorem z1l : CDF "_law_worth_here" := by decide +kernel
theorem z25 : CDF "_law_worths" := by decide +kernel
theorem zk6 : CDF "_law_yours" := by decide +kernel
theorem q16 : CDF "at" := by decide +kernel
theorem zv3 : CDF "block" := by decide +kernel
theorem z61 : CDF "deed" := by decide +kernel
theorem zt2 : CDF "done" := by decide +kernel
theorem q2b : CDF "e" := by decide +kernel
theorem zew : CDF "had" := by decide +kernel
theorem zxb : CDF "high" := by decide +kernel
theorem zox : CDF "ins" := by decide +kernel
theorem zzw : CDF "low" := by decide +kernel
theorem zxa : CDF "many" := by decide +kernel
theorem z2k : CDF "names" := by decide +kernel
theorem zbu : CDF "one" := by decide +kernel
theorem z5e : CDF "other" := by decide +kernel
theorem z3p : CDF "path" := by decide +kernel
theorem z6b : CDF "program" := by decide +kernel
theorem z5o : CDF "refusal" := by decide +kernel
theorem zj3 : CDF "row" := by decide +kernel
theorem znh : CDF "rows" := by decide +kernel
theorem z2o : CDF "settle" := by decide +kernel
theorem zbt : CDF "term" := by decide +kernel
theorem zaa : CDF "thing" := by decide +kernel
theorem zdi : CDF "word" := by decide +kernel
theorem z60 : CDF "worth" := by decide +kernel
theorem z5z : CDF "worths" := by decide +kernel
theorem zne : DBF "BadPaper" := by decide +kernel
theorem zq2 : DBF "BadPlan" := by decide +kernel
theorem zll : DBF "NoProgram" := by decide +kernel
theorem zst : DBF "NoText" := by decide +kernel
theorem zdh : DBF "NoWorths" := by decide +kernel
theorem zlk : DBF "RoomError" := by decide +kernel
theorem zk4 : DBF "ValueError" := by decide +kernel
theorem zss : DBF "WIDE" := by decide +kernel
theorem zer : DBF "_law_all_worths" := by decide +kernel
theorem z1u : DBF "_law_at" := by decide +kernel
theorem zdg : DBF "_law_bad" := by decide +kernel
theorem z46 : DBF "_law_base" := by decide +kernel
theorem z7b : DBF "_law_block" := by decide +kernel
theorem zeq : DBF "_law_block_here" := by decide +kernel
theorem zbs : DBF "_law_body" := by decide +kernel
theorem zfz : DBF "_law_book" := by decide +kernel
theorem zlj : DBF "_law_cell" := by decide +kernel
theorem zhy : DBF "_law_counted" := by decide +kernel
theorem z2g : DBF "_law_deed" := by decide +kernel
theorem z7a : DBF "_law_deeds" := by decide +kernel
theorem z3c : DBF "_law_deep" := by decide +kernel
theorem zft : DBF "_law_do" := by decide +kernel
theorem za6 : DBF "_law_drawn" := by decide +kernel
theorem zhx : DBF "_law_due" := by decide +kernel
theorem za5 : DBF "_law_every" := by decide +kernel
theorem z4z : DBF "_law_expr" := by decide +kernel
theorem z2a : DBF "_law_faults" := by decide +kernel
theorem zk3 : DBF "_law_first" := by decide +kernel
theorem zli : DBF "_law_goal" := by decide +kernel
theorem z6l : DBF "_law_here" := by decide +kernel
theorem zlh : DBF "_law_high" := by decide +kernel
theorem zdf : DBF "_law_ins" := by decide +kernel
theorem z4k : DBF "_law_k" := by decide +kernel
theorem z5n : DBF "_law_kept" := by decide +kernel
theorem zep : DBF "_law_kinds" := by decide +kernel
theorem z0z : DBF "_law_known" := by decide +kernel
theorem zcx : DBF "_law_longer" := by decide +kernel
theorem zde : DBF "_law_low" := by decide +kernel
theorem zfy : DBF "_law_made" := by decide +kernel
theorem zbr : DBF "_law_many" := by decide +kernel
theorem zlg : DBF "_law_mine" := by decide +kernel
theorem zlf : DBF "_law_more" := by decide +kernel
theorem zbq : DBF "_law_most" := by decide +kernel
theorem z4y : DBF "_law_name" := by decide +kernel
theorem zig : DBF "_law_number" := by decide +kernel
theorem z30 : DBF "_law_one" := by decide +kernel
theorem z4d : DBF "_law_other" := by decide +kernel
theorem z84 : DBF "_law_pair" := by decide +kernel
theorem z6k : DBF "_law_path" := by decide +kernel
theorem z1b : DBF "_law_pick" := by decide +kernel
theorem zhw : DBF "_law_program" := by decide +kernel
theorem z0t : DBF "_law_program_here" := by decide +kernel
theorem zge : DBF "_law_reckoned" := by decide +kernel
theorem zhv : DBF "_law_refused" := by decide +kernel
theorem zhu : DBF "_law_row" := by decide +kernel
theorem znd : DBF "_law_run" := by decide +kernel
theorem z09 : DBF "_law_script" := by decide +kernel
theorem zif : DBF "_law_second" := by decide +kernel
theorem zle : DBF "_law_seen" := by decide +kernel
theorem z1k : DBF "_law_state" := by decide +kernel
theorem z7s : DBF "_law_sum" := by decide +kernel
theorem zdd : DBF "_law_way" := by decide +kernel
theorem z4x : DBF "_law_word" := by decide +kernel
theorem zk2 : DBF "_law_words" := by decide +kernel
theorem za4 : DBF "_law_worth" := by decide +kernel
theorem z1j : DBF "_law_worth_here" := by decide +kernel
theorem z24 : DBF "_law_worths" := by decide +kernel
theorem zk1 : DBF "_law_yours" := by decide +kernel
theorem q15 : DBF "at" := by decide +kernel
theorem zv0 : DBF "block" := by decide +kernel
theorem zx7 : DBF "bool" := by decide +kernel
theorem z5y : DBF "deed" := by decide +kernel
theorem zx6 : DBF "dict" := by decide +kernel
theorem z7r : DBF "do_block" := by decide +kernel
theorem zq1 : DBF "do_deed" := by decide +kernel
theorem zuz : DBF "do_if" := by decide +kernel
theorem zsr : DBF "do_set" := by decide +kernel
theorem znc : DBF "do_while" := by decide +kernel
theorem zsq : DBF "done" := by decide +kernel
theorem q2a : DBF "e" := by decide +kernel
theorem zeo : DBF "had" := by decide +kernel
theorem zx5 : DBF "high" := by decide +kernel
theorem zor : DBF "ins" := by decide +kernel
theorem zzu : DBF "int" := by decide +kernel
theorem zcw : DBF "is_tuple_of" := by decide +kernel
theorem znb : DBF "is_whole" := by decide +kernel
theorem zap : DBF "is_whole_from" := by decide +kernel
theorem z3a : DBF "isinstance" := by decide +kernel
theorem zen : DBF "len" := by decide +kernel
theorem zx4 : DBF "list" := by decide +kernel
theorem zzt : DBF "low" := by decide +kernel
theorem zx3 : DBF "many" := by decide +kernel
theorem zzs : DBF "max" := by decide +kernel
theorem zzr : DBF "min" := by decide +kernel
theorem z2j : DBF "names" := by decide +kernel
theorem z9f : DBF "names_at_first" := by decide +kernel
theorem zbp : DBF "one" := by decide +kernel
theorem z5d : DBF "other" := by decide +kernel
theorem z3o : DBF "path" := by decide +kernel
theorem z6a : DBF "program" := by decide +kernel
theorem zbo : DBF "reckon" := by decide +kernel
theorem z5m : DBF "refusal" := by decide +kernel
theorem zj2 : DBF "row" := by decide +kernel
theorem zna : DBF "rows" := by decide +kernel
theorem zvm : DBF "run" := by decide +kernel
theorem zht : DBF "run_by" := by decide +kernel
theorem z2n : DBF "settle" := by decide +kernel
theorem zem : DBF "sorted" := by decide +kernel
theorem zbn : DBF "term" := by decide +kernel
theorem za3 : DBF "thing" := by decide +kernel
theorem zsp : DBF "traced" := by decide +kernel
theorem zc3 : DBF "tuple" := by decide +kernel
theorem zdc : DBF "word" := by decide +kernel
theorem z5x : DBF "worth" := by decide +kernel
theorem zn9 : DBF "worth_of" := by decide +kernel
theorem z5w : DBF "worths" := by decide +kernel
theorem zjn : ("ValueError" : Str) ≠ "__name__" := by decide +kernel
theorem zwl : ("bool" : Str) ≠ "__name__" := by decide +kernel
theorem zwk : ("dict" : Str) ≠ "__name__" := by decide +kernel
theorem zz4 : ("int" : Str) ≠ "__name__" := by decide +kernel
theorem z39 : ("isinstance" : Str) ≠ "__name__" := by decide +kernel
theorem ze6 : ("len" : Str) ≠ "__name__" := by decide +kernel
theorem zwj : ("list" : Str) ≠ "__name__" := by decide +kernel
theorem zz3 : ("max" : Str) ≠ "__name__" := by decide +kernel
theorem zz2 : ("min" : Str) ≠ "__name__" := by decide +kernel
theorem ze5 : ("sorted" : Str) ≠ "__name__" := by decide +kernel
theorem zc1 : ("tuple" : Str) ≠ "__name__" := by decide +kernel
abbrev z42 : Stmt := top 9
theorem zme : FnScope ["thing"] ["thing"] (defScope z42) := ⟨rfl, rfl, rfl, by decide +kernel, rfl, by decide +kernel, by decide +kernel⟩
theorem zgb : GLF z42 "bool" := by decide +kernel
theorem zhp : GLF z42 "int" := by decide +kernel
theorem z66 : GLF z42 "isinstance" := by decide +kernel
theorem z7w : Vis (defScope z42) "thing" := Or.inl (by decide +kernel)
abbrev z1q : Stmt := top 10
theorem zg3 : FnScope ["thing", "low", "high"] ["thing", "low", "high"] (defScope z1q) := ⟨rfl, rfl, rfl, by decide +kernel, rfl, by decide +kernel, by decide +kernel⟩
theorem z8t : GLF z1q "is_whole" := by decide +kernel
theorem zav : Vis (defScope z1q) "high" := Or.inl (by decide +kernel)
theorem zb8 : Vis (defScope z1q) "low" := Or.inl (by decide +kernel)
theorem z4a : Vis (defScope z1q) "thing" := Or.inl (by decide +kernel)
abbrev z26 : Stmt := top 11
theorem zi7 : FnScope ["thing", "many"] ["thing", "many"] (defScope z26) := ⟨rfl, rfl, rfl, by decide +kernel, rfl, by decide +kernel, by decide +kernel⟩
theorem z8u : GLF z26 "isinstance" := by decide +kernel
theorem zeh : GLF z26 "len" := by decide +kernel
theorem zcq : GLF z26 "tuple" := by decide +kernel
theorem zcd : Vis (defScope z26) "many" := Or.inl (by decide +kernel)
theorem z6e : Vis (defScope z26) "thing" := Or.inl (by decide +kernel)
abbrev zdy : Stmt := top 13
theorem zv9 : FnScope ["program", "worths"] ["program", "worths"] (defScope zdy) := ⟨rfl, rfl, rfl, by decide +kernel, rfl, by decide +kernel, by decide +kernel⟩
theorem ze9 : GLF zdy "run_by" := by decide +kernel
theorem zb7 : Vis (defScope zdy) "program" := Or.inl (by decide +kernel)
theorem zcs : Vis (defScope zdy) "worths" := Or.inl (by decide +kernel)
abbrev z3r : Stmt := top 14
theorem sc_traced : FnScope ["program", "worths", "rows"] ["program", "worths"] (defScope z3r) := ⟨rfl, rfl, rfl, by decide +kernel, rfl, by decide +kernel, by decide +kernel⟩
theorem zgh : (defScope z3r).names.lookup ("rows" : Str) = some NameKind.cell := by decide +kernel
theorem zg9 : GLF z3r "run_by" := by decide +kernel
theorem zhc : Loc (defScope z3r) "rows" := Or.inr (by decide +kernel)
theorem zdn : Vis (defScope z3r) "program" := Or.inl (by decide +kernel)
theorem zgq : Vis (defScope z3r) "rows" := Or.inr <| Or.inl (by decide +kernel)
theorem zf1 : Vis (defScope z3r) "worths" := Or.inl (by decide +kernel)
abbrev z38 : Stmt := top 15
theorem sc_run_by : FnScope ["program", "worths", "settle", "names", "refusal"] ["program", "worths", "settle"] (defScope z38) := ⟨rfl, rfl, rfl, by decide +kernel, rfl, by decide +kernel, by decide +kernel⟩
theorem z82 : GLF z38 "do_block" := by decide +kernel
theorem z5l : GLF z38 "names_at_first" := by decide +kernel
theorem zal : GLF z38 "sorted" := by decide +kernel
theorem zbg : GLF z38 "tuple" := by decide +kernel
theorem zak : Loc (defScope z38) "names" := Or.inl (by decide +kernel)
theorem z81 : Loc (defScope z38) "refusal" := Or.inl (by decide +kernel)
theorem z5b : Vis (defScope z38) "names" := Or.inl (by decide +kernel)
theorem z4q : Vis (defScope z38) "program" := Or.inl (by decide +kernel)
theorem z4p : Vis (defScope z38) "refusal" := Or.inl (by decide +kernel)
theorem z8y : Vis (defScope z38) "settle" := Or.inl (by decide +kernel)
theorem z8x : Vis (defScope z38) "worths" := Or.inl (by decide +kernel)
abbrev z4u : Stmt := top 16
theorem zpb : FnScope ["worth", "path", "rows"] ["worth", "path", "rows"] (defScope z4u) := ⟨rfl, rfl, rfl, by decide +kernel, rfl, by decide +kernel, by decide +kernel⟩
theorem zbf : GLF z4u "WIDE" := by decide +kernel
theorem z6p : Vis (defScope z4u) "path" := Or.inl (by decide +kernel)
theorem zg2 : Vis (defScope z4u) "rows" := Or.inl (by decide +kernel)
theorem z3z : Vis (defScope z4u) "worth" := Or.inl (by decide +kernel)
abbrev z0d : Stmt := top 17
theorem sc_names_at_first : FnScope ["ins", "worths", "names", "row", "worth"] ["ins", "worths"] (defScope z0d) := ⟨rfl, rfl, rfl, by decide +kernel, rfl, by decide +kernel, by decide +kernel⟩
theorem z55 : GLF z0d "NoWorths" := by decide +kernel
theorem z4j : GLF z0d "is_tuple_of" := by decide +kernel
theorem z43 : GLF z0d "is_whole_from" := by decide +kernel
theorem z6i : GLF z0d "len" := by decide +kernel
theorem z6h : GLF z0d "zip" := by decide +kernel
theorem z5j : Loc (defScope z0d) "names" := Or.inl (by decide +kernel)
theorem z65 : Loc (defScope z0d) "row" := Or.inl (by decide +kernel)
theorem z5i : Loc (defScope z0d) "worth" := Or.inl (by decide +kernel)
theorem z3l : Vis (defScope z0d) "ins" := Or.inl (by decide +kernel)
theorem z2x : Vis (defScope z0d) "names" := Or.inl (by decide +kernel)
theorem z1z : Vis (defScope z0d) "row" := Or.inl (by decide +kernel)
theorem z2w : Vis (defScope z0d) "worth" := Or.inl (by decide +kernel)
theorem z2q : Vis (defScope z0d) "worths" := Or.inl (by decide +kernel)
abbrev z1o : Stmt := top 18
theorem sc_do_block : FnScope ["block", "path", "names", "settle", "at", "deed", "refusal"] ["block", "path", "names", "settle"] (defScope z1o) := ⟨rfl, rfl, rfl, by decide +kernel, rfl, by decide +kernel, by decide +kernel⟩
theorem zd9 : GLF z1o "do_deed" := by decide +kernel
theorem zbk : GLF z1o "enumerate" := by decide +kernel
theorem zhd : Loc (defScope z1o) "at" := Or.inl (by decide +kernel)
theorem zfk : Loc (defScope z1o) "deed" := Or.inl (by decide +kernel)
theorem zcn : Loc (defScope z1o) "refusal" := Or.inl (by decide +kernel)
theorem zgs : Vis (defScope z1o) "at" := Or.inl (by decide +kernel)
theorem zdp : Vis (defScope z1o) "block" := Or.inl (by decide +kernel)
theorem zf4 : Vis (defScope z1o) "deed" := Or.inl (by decide +kernel)
theorem zdo : Vis (defScope z1o) "names" := Or.inl (by decide +kernel)
theorem zf3 : Vis (defScope z1o) "path" := Or.inl (by decide +kernel)
theorem z6z : Vis (defScope z1o) "refusal" := Or.inl (by decide +kernel)
theorem zcz : Vis (defScope z1o) "settle" := Or.inl (by decide +kernel)
abbrev z3g : Stmt := top 19
theorem zpc : FnScope ["deed", "path", "names", "settle"] ["deed", "path", "names", "settle"] (defScope z3g) := ⟨rfl, rfl, rfl, by decide +kernel, rfl, by decide +kernel, by decide +kernel⟩
theorem zgd : GLF z3g "do_if" := by decide +kernel
theorem zfo : GLF z3g "do_set" := by decide +kernel
theorem zd8 : GLF z3g "do_while" := by decide +kernel
theorem z4g : Vis (defScope z3g) "deed" := Or.inl (by decide +kernel)
theorem z69 : Vis (defScope z3g) "names" := Or.inl (by decide +kernel)
theorem z6u : Vis (defScope z3g) "path" := Or.inl (by decide +kernel)
theorem z5u : Vis (defScope z3g) "settle" := Or.inl (by decide +kernel)
abbrev z4b : Stmt := top 20
theorem sc_do_set : FnScope ["deed", "path", "names", "settle", "had"] ["deed", "path", "names", "settle"] (defScope z4b) := ⟨rfl, rfl, rfl, by decide +kernel, rfl, by decide +kernel, by decide +kernel⟩
theorem zgc : GLF z4b "reckon" := by decide +kernel
theorem zic : Loc (defScope z4b) "had" := Or.inl (by decide +kernel)
theorem zb9 : Vis (defScope z4b) "deed" := Or.inl (by decide +kernel)
theorem z8c : Vis (defScope z4b) "had" := Or.inl (by decide +kernel)
theorem zaf : Vis (defScope z4b) "names" := Or.inl (by decide +kernel)
theorem zgr : Vis (defScope z4b) "path" := Or.inl (by decide +kernel)
theorem zf2 : Vis (defScope z4b) "settle" := Or.inl (by decide +kernel)
abbrev z56 : Stmt := top 21
theorem sc_do_if : FnScope ["deed", "path", "names", "settle", "had"] ["deed", "path", "names", "settle"] (defScope z56) := ⟨rfl, rfl, rfl, by decide +kernel, rfl, by decide +kernel, by decide +kernel⟩
theorem z9e : GLF z56 "do_block" := by decide +kernel
theorem zhq : GLF z56 "reckon" := by decide +kernel
theorem zjp : Loc (defScope z56) "had" := Or.inl (by decide +kernel)
theorem z8e : Vis (defScope z56) "deed" := Or.inl (by decide +kernel)
theorem z9m : Vis (defScope z56) "had" := Or.inl (by decide +kernel)
theorem z7j : Vis (defScope z56) "names" := Or.inl (by decide +kernel)
theorem z8d : Vis (defScope z56) "path" := Or.inl (by decide +kernel)
theorem z6t : Vis (defScope z56) "settle" := Or.inl (by decide +kernel)
abbrev z1n : Stmt := top 22
theorem sc_do_while : FnScope ["deed", "path", "names", "settle", "done", "had", "refusal"] ["deed", "path", "names", "settle"] (defScope z1n) := ⟨rfl, rfl, rfl, by decide +kernel, rfl, by decide +kernel, by decide +kernel⟩
theorem zcr : GLF z1n "do_block" := by decide +kernel
theorem zei : GLF z1n "reckon" := by decide +kernel
theorem z9a : Loc (defScope z1n) "done" := Or.inl (by decide +kernel)
theorem zg8 : Loc (defScope z1n) "had" := Or.inl (by decide +kernel)
theorem zcm : Loc (defScope z1n) "refusal" := Or.inl (by decide +kernel)
theorem z68 : Vis (defScope z1n) "deed" := Or.inl (by decide +kernel)
theorem z91 : Vis (defScope z1n) "done" := Or.inl (by decide +kernel)
theorem z6s : Vis (defScope z1n) "had" := Or.inl (by decide +kernel)
theorem z7x : Vis (defScope z1n) "names" := Or.inl (by decide +kernel)
theorem z67 : Vis (defScope z1n) "path" := Or.inl (by decide +kernel)
theorem z6y : Vis (defScope z1n) "refusal" := Or.inl (by decide +kernel)
theorem z7i : Vis (defScope z1n) "settle" := Or.inl (by decide +kernel)
abbrev z3m : Stmt := top 23
theorem sc_reckon : FnScope ["term", "path", "names", "settle", "one", "other"] ["term", "path", "names", "settle"] (defScope z3m) := ⟨rfl, rfl, rfl, by decide +kernel, rfl, by decide +kernel, by decide +kernel⟩
theorem zam : GLF z3m "reckon" := by decide +kernel
theorem zea : GLF z3m "worth_of" := by decide +kernel
theorem zib : Loc (defScope z3m) "one" := Or.inl (by decide +kernel)
theorem zg5 : Loc (defScope z3m) "other" := Or.inl (by decide +kernel)
theorem z6q : Vis (defScope z3m) "names" := Or.inl (by decide +kernel)
theorem z87 : Vis (defScope z3m) "one" := Or.inl (by decide +kernel)
theorem z5c : Vis (defScope z3m) "other" := Or.inl (by decide +kernel)
theorem z40 : Vis (defScope z3m) "path" := Or.inl (by decide +kernel)
theorem z3e : Vis (defScope z3m) "settle" := Or.inl (by decide +kernel)
theorem z2t : Vis (defScope z3m) "term" := Or.inl (by decide +kernel)
abbrev z3q : Stmt := top 24
theorem zmc : FnScope ["word", "one", "other"] ["word", "one", "other"] (defScope z3q) := ⟨rfl, rfl, rfl, by decide +kernel, rfl, by decide +kernel, by decide +kernel⟩
theorem zhl : GLF z3q "max" := by decide +kernel
theorem zhk : GLF z3q "min" := by decide +kernel
theorem z2f : Vis (defScope z3q) "one" := Or.inl (by decide +kernel)
theorem z1x : Vis (defScope z3q) "other" := Or.inl (by decide +kernel)
theorem z2p : Vis (defScope z3q) "word" := Or.inl (by decide +kernel)
abbrev z4m : Stmt := top 26
theorem zmd : FnScope ["_law_script", "_law_k"] ["_law_script", "_law_k"] (defScope z4m) := ⟨rfl, rfl, rfl, by decide +kernel, rfl, by decide +kernel, by decide +kernel⟩
theorem zbj : GLF z4m "len" := by decide +kernel
theorem z49 : Vis (defScope z4m) "_law_k" := Or.inl (by decide +kernel)
theorem z28 : Vis (defScope z4m) "_law_script" := Or.inl (by decide +kernel)
abbrev z3f : Stmt := top 27
theorem sc_law_pick : FnScope ["_law_script", "_law_k", "_law_many", "_law_drawn"] ["_law_script", "_law_k", "_law_many"] (defScope z3f) := ⟨rfl, rfl, rfl, by decide +kernel, rfl, by decide +kernel, by decide +kernel⟩
theorem zbi : GLF z3f "_law_cell" := by decide +kernel
theorem z9r : Loc (defScope z3f) "_law_drawn" := Or.inl (by decide +kernel)
theorem z48 : Vis (defScope z3f) "_law_drawn" := Or.inl (by decide +kernel)
theorem z7g : Vis (defScope z3f) "_law_k" := Or.inl (by decide +kernel)
theorem zat : Vis (defScope z3f) "_law_many" := Or.inl (by decide +kernel)
theorem z8z : Vis (defScope z3f) "_law_script" := Or.inl (by decide +kernel)
abbrev z22 : Stmt := top 28
theorem sc_law_sum : FnScope ["_law_script", "_law_at", "_law_known", "_law_deep", "_law_way", "_law_words", "_law_one"] ["_law_script", "_law_at", "_law_known", "_law_deep"] (defScope z22) := ⟨rfl, rfl, rfl, by decide +kernel, rfl, by decide +kernel, by decide +kernel⟩
theorem z33 : GLF z22 "_law_pick" := by decide +kernel
theorem z7o : GLF z22 "_law_sum" := by decide +kernel
theorem zid : GLF z22 "len" := by decide +kernel
theorem zcg : Loc (defScope z22) "_law_one" := Or.inl (by decide +kernel)
theorem zcf : Loc (defScope z22) "_law_way" := Or.inl (by decide +kernel)
theorem zax : Loc (defScope z22) "_law_words" := Or.inl (by decide +kernel)
theorem z27 : Vis (defScope z22) "_law_at" := Or.inl (by decide +kernel)
theorem z4t : Vis (defScope z22) "_law_deep" := Or.inl (by decide +kernel)
theorem z2l : Vis (defScope z22) "_law_known" := Or.inl (by decide +kernel)
theorem zc9 : Vis (defScope z22) "_law_one" := Or.inl (by decide +kernel)
theorem z1f : Vis (defScope z22) "_law_script" := Or.inl (by decide +kernel)
theorem zc8 : Vis (defScope z22) "_law_way" := Or.inl (by decide +kernel)
theorem zas : Vis (defScope z22) "_law_words" := Or.inl (by decide +kernel)
abbrev z0j : Stmt := top 29
theorem sc_law_counted : FnScope ["_law_script", "_law_at", "_law_known", "_law_body", "_law_deep", "_law_most", "_law_name", "_law_goal", "_law_more"] ["_law_script", "_law_at", "_law_known", "_law_body", "_law_deep"] (defScope z0j) := ⟨rfl, rfl, rfl, by decide +kernel, rfl, by decide +kernel, by decide +kernel⟩
theorem z29 : GLF z0j "_law_pick" := by decide +kernel
theorem z9z : GLF z0j "_law_sum" := by decide +kernel
theorem zee : GLF z0j "len" := by decide +kernel
theorem z8m : Loc (defScope z0j) "_law_goal" := Or.inl (by decide +kernel)
theorem z8l : Loc (defScope z0j) "_law_more" := Or.inl (by decide +kernel)
theorem z5a : Loc (defScope z0j) "_law_most" := Or.inl (by decide +kernel)
theorem z8k : Loc (defScope z0j) "_law_name" := Or.inl (by decide +kernel)
theorem z1s : Vis (defScope z0j) "_law_at" := Or.inl (by decide +kernel)
theorem z58 : Vis (defScope z0j) "_law_body" := Or.inl (by decide +kernel)
theorem z8a : Vis (defScope z0j) "_law_deep" := Or.inl (by decide +kernel)
theorem z89 : Vis (defScope z0j) "_law_goal" := Or.inl (by decide +kernel)
theorem z3n : Vis (defScope z0j) "_law_known" := Or.inl (by decide +kernel)
theorem z88 : Vis (defScope z0j) "_law_more" := Or.inl (by decide +kernel)
theorem z3v : Vis (defScope z0j) "_law_most" := Or.inl (by decide +kernel)
theorem z3u : Vis (defScope z0j) "_law_name" := Or.inl (by decide +kernel)
theorem z1c : Vis (defScope z0j) "_law_script" := Or.inl (by decide +kernel)
abbrev z0b : Stmt := top 30
theorem sc_law_block : FnScope ["_law_script", "_law_at", "_law_known", "_law_deep", "_law_deeds", "_law_k", "_law_base", "_law_way", "_law_name", "_law_first", "_law_mine", "_law_second", "_law_yours", "_law_body"] ["_law_script", "_law_at", "_law_known", "_law_deep"] (defScope z0b) := ⟨rfl, rfl, rfl, by decide +kernel, rfl, by decide +kernel, by decide +kernel⟩
theorem z8w : (defScope z0b).names.lookup ("_law_known" : Str) = some NameKind.cell := by decide +kernel
theorem z4c : GLF z0b "_law_block" := by decide +kernel
theorem z8s : GLF z0b "_law_counted" := by decide +kernel
theorem z4o : GLF z0b "_law_pick" := by decide +kernel
theorem z6j : GLF z0b "_law_sum" := by decide +kernel
theorem zeg : GLF z0b "range" := by decide +kernel
theorem zef : GLF z0b "tuple" := by decide +kernel
theorem z9v : Loc (defScope z0b) "_law_base" := Or.inl (by decide +kernel)
theorem z9u : Loc (defScope z0b) "_law_body" := Or.inl (by decide +kernel)
theorem z99 : Loc (defScope z0b) "_law_deeds" := Or.inl (by decide +kernel)
theorem z98 : Loc (defScope z0b) "_law_first" := Or.inl (by decide +kernel)
theorem zcl : Loc (defScope z0b) "_law_k" := Or.inl (by decide +kernel)
theorem z5k : Loc (defScope z0b) "_law_known" := Or.inr (by decide +kernel)
theorem z9t : Loc (defScope z0b) "_law_mine" := Or.inl (by decide +kernel)
theorem z9s : Loc (defScope z0b) "_law_name" := Or.inl (by decide +kernel)
theorem z8n : Loc (defScope z0b) "_law_second" := Or.inl (by decide +kernel)
theorem zb2 : Loc (defScope z0b) "_law_way" := Or.inl (by decide +kernel)
theorem z97 : Loc (defScope z0b) "_law_yours" := Or.inr (by decide +kernel)
theorem z6d : Vis (defScope z0b) "_law_at" := Or.inl (by decide +kernel)
theorem z18 : Vis (defScope z0b) "_law_base" := Or.inl (by decide +kernel)
theorem z9l : Vis (defScope z0b) "_law_body" := Or.inl (by decide +kernel)
theorem z2y : Vis (defScope z0b) "_law_deeds" := Or.inl (by decide +kernel)
theorem z1t : Vis (defScope z0b) "_law_deep" := Or.inl (by decide +kernel)
theorem z90 : Vis (defScope z0b) "_law_first" := Or.inl (by decide +kernel)
theorem zcc : Vis (defScope z0b) "_law_k" := Or.inl (by decide +kernel)
theorem z0r : Vis (defScope z0b) "_law_known" := Or.inr <| Or.inl (by decide +kernel)
theorem z9k : Vis (defScope z0b) "_law_mine" := Or.inl (by decide +kernel)
theorem z5s : Vis (defScope z0b) "_law_name" := Or.inl (by decide +kernel)
theorem z0o : Vis (defScope z0b) "_law_script" := Or.inl (by decide +kernel)
theorem z8b : Vis (defScope z0b) "_law_second" := Or.inl (by decide +kernel)
theorem z64 : Vis (defScope z0b) "_law_way" := Or.inl (by decide +kernel)
abbrev z0v : Stmt := top 31
theorem sc_law_program : FnScope ["_law_script", "_law_at", "_law_ins", "_law_k", "_law_low"] ["_law_script", "_law_at"] (defScope z0v) := ⟨rfl, rfl, rfl, by decide +kernel, rfl, by decide +kernel, by decide +kernel⟩
theorem z8r : GLF z0v "_law_block" := by decide +kernel
theorem z44 : GLF z0v "_law_pick" := by decide +kernel
theorem zcp : GLF z0v "range" := by decide +kernel
theorem zco : GLF z0v "tuple" := by decide +kernel
theorem z96 : Loc (defScope z0v) "_law_ins" := Or.inl (by decide +kernel)
theorem zaz : Loc (defScope z0v) "_law_k" := Or.inl (by decide +kernel)
theorem z95 : Loc (defScope z0v) "_law_low" := Or.inl (by decide +kernel)
theorem z37 : Vis (defScope z0v) "_law_at" := Or.inl (by decide +kernel)
theorem z41 : Vis (defScope z0v) "_law_ins" := Or.inl (by decide +kernel)
theorem z4n : Vis (defScope z0v) "_law_k" := Or.inl (by decide +kernel)
theorem z5h : Vis (defScope z0v) "_law_low" := Or.inl (by decide +kernel)
theorem z2c : Vis (defScope z0v) "_law_script" := Or.inl (by decide +kernel)
abbrev z0g : Stmt := top 32
theorem sc_law_all_worths : FnScope ["_law_program_here", "_law_made", "_law_name", "_law_low", "_law_high", "_law_longer", "_law_worths"] ["_law_program_here"] (defScope z0g) := ⟨rfl, rfl, rfl, by decide +kernel, rfl, by decide +kernel, by decide +kernel⟩
theorem za0 : GLF z0g "range" := by decide +kernel
theorem z79 : Loc (defScope z0g) "_law_high" := Or.inl (by decide +kernel)
theorem z6g : Loc (defScope z0g) "_law_longer" := Or.inl (by decide +kernel)
theorem z7l : Loc (defScope z0g) "_law_low" := Or.inl (by decide +kernel)
theorem z4s : Loc (defScope z0g) "_law_made" := Or.inl (by decide +kernel)
theorem z78 : Loc (defScope z0g) "_law_name" := Or.inl (by decide +kernel)
theorem z6f : Loc (defScope z0g) "_law_worths" := Or.inr (by decide +kernel)
theorem z73 : Vis (defScope z0g) "_law_high" := Or.inl (by decide +kernel)
theorem z45 : Vis (defScope z0g) "_law_longer" := Or.inl (by decide +kernel)
theorem z7h : Vis (defScope z0g) "_law_low" := Or.inl (by decide +kernel)
theorem z4r : Vis (defScope z0g) "_law_made" := Or.inl (by decide +kernel)
theorem z59 : Vis (defScope z0g) "_law_program_here" := Or.inl (by decide +kernel)
abbrev z23 : Stmt := top 33
theorem zh3 : FnScope ["_law_word", "_law_one", "_law_other"] ["_law_word", "_law_one", "_law_other"] (defScope z23) := ⟨rfl, rfl, rfl, by decide +kernel, rfl, by decide +kernel, by decide +kernel⟩
theorem zb4 : GLF z23 "sorted" := by decide +kernel
theorem z19 : Vis (defScope z23) "_law_one" := Or.inl (by decide +kernel)
theorem z0y : Vis (defScope z23) "_law_other" := Or.inl (by decide +kernel)
theorem z16 : Vis (defScope z23) "_law_word" := Or.inl (by decide +kernel)
abbrev z0p : Stmt := top 34
theorem sc_law_worth : FnScope ["_law_expr", "_law_path", "_law_state", "_law_book", "_law_seen", "_law_faults", "_law_worth_here", "_law_pair", "_law_k"] ["_law_expr", "_law_path", "_law_state"] (defScope z0p) := ⟨rfl, rfl, rfl, by decide +kernel, rfl, by decide +kernel, by decide +kernel⟩
theorem z7v : GLF z0p "_law_reckoned" := by decide +kernel
theorem z9w : GLF z0p "_law_worth" := by decide +kernel
theorem zeb : GLF z0p "range" := by decide +kernel
theorem z9q : Loc (defScope z0p) "_law_book" := Or.inl (by decide +kernel)
theorem z8i : Loc (defScope z0p) "_law_faults" := Or.inl (by decide +kernel)
theorem zce : Loc (defScope z0p) "_law_k" := Or.inl (by decide +kernel)
theorem z9p : Loc (defScope z0p) "_law_pair" := Or.inl (by decide +kernel)
theorem z9o : Loc (defScope z0p) "_law_seen" := Or.inl (by decide +kernel)
theorem z4i : Loc (defScope z0p) "_law_worth_here" := Or.inl (by decide +kernel)
theorem z9i : Vis (defScope z0p) "_law_book" := Or.inl (by decide +kernel)
theorem z1e : Vis (defScope z0p) "_law_expr" := Or.inl (by decide +kernel)
theorem z2r : Vis (defScope z0p) "_law_faults" := Or.inl (by decide +kernel)
theorem z6w : Vis (defScope z0p) "_law_k" := Or.inl (by decide +kernel)
theorem z36 : Vis (defScope z0p) "_law_pair" := Or.inl (by decide +kernel)
theorem z35 : Vis (defScope z0p) "_law_path" := Or.inl (by decide +kernel)
theorem z9h : Vis (defScope z0p) "_law_seen" := Or.inl (by decide +kernel)
theorem z5g : Vis (defScope z0p) "_law_state" := Or.inl (by decide +kernel)
theorem z2z : Vis (defScope z0p) "_law_worth_here" := Or.inl (by decide +kernel)
abbrev z1i : Stmt := top 35
theorem sc_law_do : FnScope ["_law_block_here", "_law_path", "_law_state", "_law_book", "_law_seen", "_law_faults", "_law_number", "_law_deed", "_law_here", "_law_worth_here", "_law_many"] ["_law_block_here", "_law_path", "_law_state"] (defScope z1i) := ⟨rfl, rfl, rfl, by decide +kernel, rfl, by decide +kernel, by decide +kernel⟩
theorem z9d : GLF z1i "_law_do" := by decide +kernel
theorem z72 : GLF z1i "_law_worth" := by decide +kernel
theorem zd5 : GLF z1i "enumerate" := by decide +kernel
theorem zck : Loc (defScope z1i) "_law_book" := Or.inl (by decide +kernel)
theorem zcj : Loc (defScope z1i) "_law_deed" := Or.inl (by decide +kernel)
theorem zb1 : Loc (defScope z1i) "_law_faults" := Or.inl (by decide +kernel)
theorem zci : Loc (defScope z1i) "_law_here" := Or.inl (by decide +kernel)
theorem z71 : Loc (defScope z1i) "_law_many" := Or.inl (by decide +kernel)
theorem zb0 : Loc (defScope z1i) "_law_number" := Or.inl (by decide +kernel)
theorem zch : Loc (defScope z1i) "_law_seen" := Or.inl (by decide +kernel)
theorem z54 : Loc (defScope z1i) "_law_worth_here" := Or.inl (by decide +kernel)
theorem z7t : Vis (defScope z1i) "_law_block_here" := Or.inl (by decide +kernel)
theorem zcb : Vis (defScope z1i) "_law_book" := Or.inl (by decide +kernel)
theorem z0n : Vis (defScope z1i) "_law_deed" := Or.inl (by decide +kernel)
theorem z21 : Vis (defScope z1i) "_law_faults" := Or.inl (by decide +kernel)
theorem z32 : Vis (defScope z1i) "_law_here" := Or.inl (by decide +kernel)
theorem z6x : Vis (defScope z1i) "_law_many" := Or.inl (by decide +kernel)
theorem zau : Vis (defScope z1i) "_law_number" := Or.inl (by decide +kernel)
theorem zca : Vis (defScope z1i) "_law_path" := Or.inl (by decide +kernel)
theorem z2u : Vis (defScope z1i) "_law_state" := Or.inl (by decide +kernel)
theorem z2i : Vis (defScope z1i) "_law_worth_here" := Or.inl (by decide +kernel)
abbrev z2v : Stmt := top 36
theorem sc_law_run : FnScope ["_law_program_here", "_law_worths", "_law_state"] ["_law_program_here", "_law_worths"] (defScope z2v) := ⟨rfl, rfl, rfl, by decide +kernel, rfl, by decide +kernel, by decide +kernel⟩
theorem zec : GLF z2v "_law_do" := by decide +kernel
theorem zhn : GLF z2v "dict" := by decide +kernel
theorem zhm : GLF z2v "list" := by decide +kernel
theorem zfn : GLF z2v "sorted" := by decide +kernel
theorem zga : GLF z2v "tuple" := by decide +kernel
theorem zie : GLF z2v "zip" := by decide +kernel
theorem zay : Loc (defScope z2v) "_law_state" := Or.inr (by decide +kernel)
theorem z4f : Vis (defScope z2v) "_law_program_here" := Or.inl (by decide +kernel)
theorem z20 : Vis (defScope z2v) "_law_state" := Or.inr <| Or.inl (by decide +kernel)
theorem z9j : Vis (defScope z2v) "_law_worths" := Or.inl (by decide +kernel)
abbrev z0i : Stmt := top 37
theorem sc_law_refused : FnScope ["_law_program_here", "_law_worths", "_law_kept", "e", "_law_kinds"] ["_law_program_here", "_law_worths"] (defScope z0i) := ⟨rfl, rfl, rfl, by decide +kernel, rfl, by decide +kernel, by decide +kernel⟩
theorem z9y : GLF z0i "BadPaper" := by decide +kernel
theorem zb3 : GLF z0i "BadPlan" := by decide +kernel
theorem z9c : GLF z0i "NoProgram" := by decide +kernel
theorem zbh : GLF z0i "NoText" := by decide +kernel
theorem z9x : GLF z0i "NoWorths" := by decide +kernel
theorem z9b : GLF z0i "RoomError" := by decide +kernel
theorem z8q : GLF z0i "ValueError" := by decide +kernel
theorem z1h : GLF z0i "isinstance" := by decide +kernel
theorem zed : GLF z0i "run" := by decide +kernel
theorem z8p : (defScope z0i).names.lookup ("_law_kept" : Str) = some NameKind.local := by decide +kernel
theorem zfl : (defScope z0i).names.lookup ("e" : Str) = some NameKind.local := by decide +kernel
theorem z8j : Loc (defScope z0i) "_law_kept" := Or.inl (by decide +kernel)
theorem z7u : Loc (defScope z0i) "_law_kinds" := Or.inl (by decide +kernel)
theorem z1g : Vis (defScope z0i) "_law_kept" := Or.inl (by decide +kernel)
theorem z53 : Vis (defScope z0i) "_law_kinds" := Or.inl (by decide +kernel)
theorem z5r : Vis (defScope z0i) "_law_program_here" := Or.inl (by decide +kernel)
theorem z7f : Vis (defScope z0i) "_law_worths" := Or.inl (by decide +kernel)
abbrev z63 : Stmt := top 38
theorem sc_law : FnScope ["_law_script", "_law_program_here", "_law_every", "_law_worths", "_law_due", "_law_bad"] ["_law_script"] (defScope z63) := ⟨rfl, rfl, rfl, by decide +kernel, rfl, by decide +kernel, by decide +kernel⟩
theorem zb5 : GLF z63 "_law_all_worths" := by decide +kernel
theorem zan : GLF z63 "_law_pick" := by decide +kernel
theorem zd7 : GLF z63 "_law_program" := by decide +kernel
theorem zd6 : GLF z63 "_law_refused" := by decide +kernel
theorem zho : GLF z63 "_law_run" := by decide +kernel
theorem zj0 : GLF z63 "len" := by decide +kernel
theorem zpy : GLF z63 "run" := by decide +kernel
theorem zju : GLF z63 "traced" := by decide +kernel
theorem zg7 : Loc (defScope z63) "_law_bad" := Or.inl (by decide +kernel)
theorem zg6 : Loc (defScope z63) "_law_due" := Or.inl (by decide +kernel)
theorem ze8 : Loc (defScope z63) "_law_every" := Or.inl (by decide +kernel)
theorem z8o : Loc (defScope z63) "_law_program_here" := Or.inl (by decide +kernel)
theorem z7m : Loc (defScope z63) "_law_worths" := Or.inl (by decide +kernel)
theorem z6r : Vis (defScope z63) "_law_bad" := Or.inl (by decide +kernel)
theorem zae : Vis (defScope z63) "_law_due" := Or.inl (by decide +kernel)
theorem z5t : Vis (defScope z63) "_law_every" := Or.inl (by decide +kernel)
theorem z1a : Vis (defScope z63) "_law_program_here" := Or.inl (by decide +kernel)
theorem z5f : Vis (defScope z63) "_law_script" := Or.inl (by decide +kernel)
theorem z1p : Vis (defScope z63) "_law_worths" := Or.inl (by decide +kernel)
abbrev zvr (J : It) (g : TG) (tb : TS) (D : Ends) (σ : St) (H : Hp) : Prop := ∃ W : Nat → Nat → St → Hp → Prop, (∃ m, W 0 m σ H) ∧ ∀ i m σ H, W i m σ H →
 (J.stop i H ∧ D.nx σ H) ∨ (J.go i H ∧ ∃ N : St → Hp → Prop, (∀ σ' H', N σ' H' → ∃ m', m' < m ∧ W (i + 1) m' σ' H') ∧ ∀ x H', J.yld i H x H' → g x σ H' fun σ2 H2 => tb { D with nx := N, ct := N, bk := D.nx } σ2 H2)
theorem zgj {K : PySem.W.Frag} {tl : TE} {g : TG} {tb : TS} {D : Ends} {σ : St} {H : Hp} : ztq (q0z K tl) g tb D σ H = tl σ H fun x H1 => ∃ a, x = .ref a ∧ (∃ xs, SqT K H1 a xs) ∧ zvr (Itt K a) g tb D σ H1 := rfl
theorem zds {K : PySem.W.Frag} {tl : TE} {g : TG} {tb : TS} {D : Ends} {σ : St} {H : Hp} : ztq (zwx K tl) g tb D σ H = tl σ H fun x H1 => ∃ a, x = .ref a ∧ (∃ xs, SqL K H1 a xs) ∧ zvr (Itl K a) g tb D σ H1 := rfl
theorem zdr {ta : TA} {g : TG} {tb : TS} {D : Ends} {σ : St} {H : Hp} : ztq (zzh ta) g tb D σ H = ta σ H fun vs H1 => ∃ j : Int, vs = [.int j] ∧ -(2 ^ 62) ≤ j ∧ j < 2 ^ 62 ∧ zvr (Itr 0 j.toNat) g tb D σ H1 := rfl
theorem zdu {K : PySem.W.Frag} {tl : TE} {g : TG} {tt : TT} {te : TE} {mp : List (Option Nat)} {σ : St} {H : Hp} {Q : VK} : zkg (q0z K tl) g tt te mp σ H Q = tl σ H fun x H1 => ∃ a, x = .ref a ∧ (∃ xs, SqT K H1 a xs) ∧ zi5 (Itt K a) g tt te Q (subσ mp σ) H1 := rfl
theorem zbz {K : PySem.W.Frag} {tl : TE} {g : TG} {tt : TT} {te : TE} {mp : List (Option Nat)} {σ : St} {H : Hp} {Q : VK} : zkg (zwx K tl) g tt te mp σ H Q = tl σ H fun x H1 => ∃ a, x = .ref a ∧ (∃ xs, SqL K H1 a xs) ∧ zi5 (Itl K a) g tt te Q (subσ mp σ) H1 := rfl
theorem zdv {tl : TE} {g : TG} {tt : TT} {te : TE} {mp : List (Option Nat)} {σ : St} {H : Hp} {Q : VK} : zkg (q24 tl) g tt te mp σ H Q = tl σ H fun x H1 => ∃ z, x = .str z ∧ zi5 (Its z) g tt te Q (subσ mp σ) H1 := rfl
inductive Wd where
 | add | sub | mul | quo | less | same | min | max
 deriving DecidableEq
def Wd.str : Wd → Str
 | .add => "add" | .sub => "sub" | .mul => "mul" | .quo => "quo" | .less => "less" | .same => "same" | .min => "min" | .max => "max"
inductive T where
 | num (i : Int) | nm (x : Str) | op (w : Wd) (a b : T)
def T.enc : T → Dm
 | .num i => .tup [.str "num", .int i]
 | .nm x => .tup [.str "name", .str x]
 | .op w a b => .tup [.str w.str, a.enc, b.enc]
def T.ok (g : List Str) : Nat → T → Prop
 | 0, _ => False
 | _ + 1, .num i => -32768 ≤ i ∧ i ≤ 32767
 | _ + 1, .nm x => x ∈ g
 | n + 1, .op _ a b => T.ok g n a ∧ T.ok g n b
theorem T.ok.mono {g g' : List Str} (hg : ∀ x ∈ g, x ∈ g') : ∀ {n m : Nat} {t : T}, T.ok g n t → n ≤ m → T.ok g' m t
 | 0, _, _, h, _ => h.elim
 | n + 1, 0, _, _, h => absurd h (by omega)
 | n + 1, m + 1, .num i, h, _ => h
 | n + 1, m + 1, .nm x, h, _ => hg x h
 | n + 1, m + 1, .op w a b, h, hm => ⟨T.ok.mono hg h.1 (by omega), T.ok.mono hg h.2 (by omega)⟩
inductive D where
 | set (x : Str) (t : T) | ite (t : T) (b c : List D) | whl (t : T) (m : Int) (b : List D)
mutual
def D.enc : D → Dm
 | .set x t => .tup [.str "set", .str x, t.enc]
 | .ite t b c => .tup [.str "if", t.enc, .tup (zao b), .tup (zao c)]
 | .whl t m b => .tup [.str "while", t.enc, .int m, .tup (zao b)]
def zao : List D → List Dm
 | [] => []
 | d :: r => d.enc :: zao r
end
theorem z7q : ∀ (b c : List D), zao (b ++ c) = zao b ++ zao c
 | [], c => by simp [zao]
 | d :: b, c => by rw [List.cons_append, zao, zao, z7q b c, List.cons_append]
theorem z7p : ∀ b : List D, (zao b).length = b.length
 | [] => by simp [zao]
 | d :: b => by rw [zao, List.length_cons, List.length_cons, z7p b]
def pool : List Str := ["a", "b", "c", "dd"]
def okB : Nat → List D → Prop
 | 0, _ => False
 | n + 1, b => b.length ≤ 6 ∧ ∀ d ∈ b, match d with
  | .set x t => x ∈ pool ∧ t.ok pool 5
  | .ite t b c => t.ok pool 5 ∧ okB n b ∧ okB n c
  | .whl t m b => t.ok pool 5 ∧ 0 ≤ m ∧ m ≤ 20 ∧ okB n b
abbrev okD (n : Nat) (d : D) : Prop := match d with
 | .set x t => x ∈ pool ∧ t.ok pool 5
 | .ite t b c => t.ok pool 5 ∧ okB n b ∧ okB n c
 | .whl t m b => t.ok pool 5 ∧ 0 ≤ m ∧ m ≤ 20 ∧ okB n b
def T.knows (p : List Str) : T → Bool
 | .num _ => true
 | .nm x => p.contains x
 | .op _ a b => a.knows p && b.knows p
mutual
def kbD (p : List Str) : D → Option (List Str)
 | .set x t => if t.knows p then some (p ++ [x]) else none
 | .ite t b c => if t.knows p then (match kbB p b, kbB p c with | some q, some r => some (q.filter fun x => r.contains x) | _, _ => none) else none
 | .whl t _ b => if t.knows p then (match kbB p b with | some _ => some p | none => none) else none
def kbB (p : List Str) : List D → Option (List Str)
 | [] => some p
 | d :: r => match kbD p d with
  | some q => kbB q r
  | none => none
end
theorem ziy (p : List Str) : ∀ (b c : List D), kbB p (b ++ c) = match kbB p b with | some q => kbB q c | none => none
 | [], c => by simp [kbB]
 | d :: b, c => by
  rw [List.cons_append, kbB, kbB]
  cases kbD p d with
  | none => rfl
  | some q => exact ziy q b c
def Sub (g p : List Str) : Prop := ∀ x ∈ g, x ∈ p
theorem Sub.refl (g : List Str) : Sub g g := fun _ h => h
theorem Sub.trans {a b c : List Str} (h : Sub a b) (k : Sub b c) : Sub a c := fun x hx => k x (h x hx)
theorem T.ok.knows {g p : List Str} (hg : Sub g p) : ∀ {n : Nat} {t : T}, T.ok g n t → t.knows p = true
 | 0, _, h => h.elim
 | n + 1, .num i, _ => rfl
 | n + 1, .nm x, h => by simpa [T.knows] using hg x h
 | n + 1, .op w a b, h => by simp [T.knows, T.ok.knows hg h.1, T.ok.knows hg h.2]
def Knows (g : List Str) (b : List D) (g' : List Str) : Prop := ∀ p, Sub g p → ∃ q, kbB p b = some q ∧ Sub g' q ∧ Sub p q
def KnowsD (g : List Str) (d : D) (g' : List Str) : Prop := ∀ p, Sub g p → ∃ q, kbD p d = some q ∧ Sub g' q ∧ Sub p q
theorem Knows.nil (g : List Str) : Knows g [] g := fun p h => ⟨p, by simp [kbB], h, Sub.refl p⟩
theorem Knows.snoc {g g1 g2 : List Str} {b : List D} {d : D} (h : Knows g b g1) (k : KnowsD g1 d g2) : Knows g (b ++ [d]) g2 := fun p hp => by
 obtain ⟨q, e, s1, s2⟩ := h p hp
 obtain ⟨r, e2, s3, s4⟩ := k q s1
 refine ⟨r, ?_, s3, s2.trans s4⟩
 rw [ziy, e]
 simp [kbB, e2]
theorem KnowsD.set {g g' : List Str} {x : Str} {t : T} {n : Nat} (ht : t.ok g n) (hs : ∀ y ∈ g', y ∈ g ∨ y = x) : KnowsD g (.set x t) g' := fun p hp => by
 refine ⟨p ++ [x], by simp [kbD, ht.knows hp], fun y hy => ?_, fun y hy => List.mem_append_left _ hy⟩
 rcases hs y hy with z | z
 ·exact List.mem_append_left _ (hp y z)
 ·exact List.mem_append_right _ (by simp [z])
theorem KnowsD.ite {g m y g' : List Str} {t : T} {b c : List D} {n : Nat} (ht : t.ok g n) (hb : Knows g b m) (hc : Knows g c y) (hs : ∀ x ∈ g', x ∈ m ∧ x ∈ y) : KnowsD g (.ite t b c) g' := fun p hp => by
 obtain ⟨q, e, s1, s2⟩ := hb p hp
 obtain ⟨r, e2, s3, s4⟩ := hc p hp
 refine ⟨q.filter fun x => r.contains x, by simp [kbD, ht.knows hp, e, e2], fun x hx => ?_, fun x hx => ?_⟩
 ·exact List.mem_filter.mpr ⟨s1 x (hs x hx).1, by simpa using s3 x (hs x hx).2⟩
 ·exact List.mem_filter.mpr ⟨s2 x hx, by simpa using s4 x hx⟩
theorem KnowsD.whl {g g1 : List Str} {t : T} {m : Int} {b : List D} {n : Nat} (ht : t.ok g n) (hb : Knows g b g1) : KnowsD g (.whl t m b) g := fun p hp => by
 obtain ⟨q, e, s1, s2⟩ := hb p hp
 exact ⟨p, by simp [kbD, ht.knows hp, e], hp, Sub.refl p⟩
theorem Knows.sub {g g1 : List Str} {b : List D} (h : Knows g b g1) : Knows g b g := fun p hp => by
 obtain ⟨q, e, s1, s2⟩ := h p hp
 exact ⟨q, e, hp.trans s2, s2⟩
theorem zt6 {xs : List V} {k : Int} (h0 : 0 ≤ k) (h : k < (xs.length : Int)) : ∃ v, xs[k.toNat]? = some v ∧ atI xs k = some v := by
 have hk : k.toNat < xs.length := by omega
 have ek : k = ((k.toNat : Nat) : Int) := by omega
 refine ⟨xs[k.toNat], List.getElem?_eq_getElem hk, ?_⟩
 have q : atI xs ((k.toNat : Nat) : Int) = some xs[k.toNat] := z0x (List.getElem?_eq_getElem hk)
 rw [← ek] at q
 exact q
theorem zad {α : Type} {c : α → V} {ns : List α} {k : Int} (h0 : 0 ≤ k) (h : k < (ns.length : Int)) : ∃ v ∈ ns, atI (ns.map c) k = some (c v) := by
 obtain ⟨v, e1, e2⟩ := zt6 (xs := ns.map c) h0 (by rw [List.length_map]; exact h)
 rw [List.getElem?_map] at e1
 cases e : ns[k.toNat]? with
 | none => rw [e] at e1; cases e1
 | some i => rw [e] at e1; cases e1; exact ⟨i, List.mem_of_getElem? e, e2⟩
theorem zz1 (ns : List Int) : (ns.map V.int).all okV = true := by simp [okV]
theorem zve {g : List Str} (h : Sub g pool) : (g.map V.str).all okV = true := by
 simp only [List.all_map, List.all_eq_true]
 intro x hx
 have := h x hx
 simp only [pool, List.mem_cons, List.not_mem_nil, or_false] at this
 rcases this with rfl | rfl | rfl | rfl <;> decide +kernel
theorem zl (n : Nat) (h : n ≤ 1000) : n ≤ sizeLine := Nat.le_of_lt (z4h h)
theorem zxu {K : PySem.W.Frag} {H : Hp} {a : Addr} {xs : List V} (h : SqL K H a xs) : zxm K (.ref a) H xs.length := .inl ⟨a, xs, rfl, .inl h, rfl⟩
theorem q20 {K : PySem.W.Frag} {H : Hp} {a : Addr} {xs : List V} (h : SqT K H a xs) : zxm K (.ref a) H xs.length := .inl ⟨a, xs, rfl, .inr h, rfl⟩
theorem zzl {K : PySem.W.Frag} {H : Hp} {a p : Addr} {xs : List V} (h : SqL K H a xs) (ho : xs.all okV = true) (hp : SqL K H p []) : q0l K (.ref a) (.ref p) H xs.isEmpty := .inr (.inl ⟨a, p, xs, [], rfl, rfl, h, hp, ho, rfl, (zsf xs).symm⟩)
theorem zou (CX : CXT) (P : Program) (w : World) (K : PySem.W.Frag) (mg : Str → Option Value) (base : Heap) (N : List Str) (qual : Str) (scope : Scope) (f : Addr) (cd : Value) (A : Around) (outer : List Env) (s : Shared) (H : Hp) (E : XK) : (z8v CX P w K mg base N qual scope f cd A outer s H E).K = K := rfl
theorem zc5 (CX : CXT) (P : Program) (w : World) (K : PySem.W.Frag) (mg : Str → Option Value) (base : Heap) (N : List Str) (qual : Str) (scope : Scope) (f : Addr) (cd : Value) (A : Around) (outer : List Env) (s : Shared) (H : Hp) (E : XK) : (z8v CX P w K mg base N qual scope f cd A outer s H E).nox.K = K := rfl
theorem zgp (X : Cx) (N' : List Str) (scope : Scope) (cl : List (Str × Addr)) (C : Addr) (s₀ : Shared) (H₀ : Hp) (ex : List Addr) : (z6m X N' scope cl C s₀ H₀ ex).K = X.K := rfl
theorem zdt {K : PySem.W.Frag} {ta : TA} {g : TG} {tb : TS} {D : Ends} {σ : St} {H : Hp} : ztq (q12 K ta) g tb D σ H = ta σ H fun vs H1 => ∃ a, vs = [.ref a] ∧ (∃ xs, SqL K H1 a xs) ∧ zvr (Ite K a) g tb D σ H1 := rfl
theorem zgi {K : PySem.W.Frag} {ta : TA} {g : TG} {tb : TS} {D : Ends} {σ : St} {H : Hp} : ztq (q23 K ta) g tb D σ H = ta σ H fun vs H1 => ∃ a b, vs = [.ref a, .ref b] ∧ (∃ xs, SqL K H1 a xs) ∧ (∃ ys, SqL K H1 b ys) ∧ zvr (Itz K a b) g tb D σ H1 := rfl
theorem zdq {ta : TA} {g : TG} {tb : TS} {D : Ends} {σ : St} {H : Hp} : ztq (zww ta) g tb D σ H = ta σ H fun vs H1 => ∃ i j : Int, vs = [.int i, .int j] ∧ (-(2 ^ 62) ≤ i ∧ i < 2 ^ 62 ∧ -(2 ^ 62) ≤ j ∧ j < 2 ^ 62) ∧ zvr (Itr i (j - i).toNat) g tb D σ H1 := rfl
theorem zdw {K : PySem.W.Frag} {tl : TE} {g : TG} {tt : TT} {te : TE} {mp : List (Option Nat)} {σ : St} {H : Hp} {Q : VK} : zkg (q25 K tl) g tt te mp σ H Q = tl σ H fun x H1 => ∃ a, x = .ref a ∧ (((∃ xs, SqL K H1 a xs) ∧ zi5 (Itl K a) g tt te Q (subσ mp σ) H1) ∨ ((∃ xs, SqT K H1 a xs) ∧ zi5 (Itt K a) g tt te Q (subσ mp σ) H1)) := rfl
theorem zes (CX : CXT) (P : Program) (w : World) (K : PySem.W.Frag) (mg : Str → Option Value) (base : Heap) (N : List Str) (qual : Str) (scope : Scope) (f : Addr) (cd : Value) (A : Around) (outer : List Env) (s : Shared) (H : Hp) (E : XK) : (z8v CX P w K mg base N qual scope f cd A outer s H E).prog = P := rfl
theorem zot (CX : CXT) (P : Program) (w : World) (K : PySem.W.Frag) (mg : Str → Option Value) (base : Heap) (N : List Str) (qual : Str) (scope : Scope) (f : Addr) (cd : Value) (A : Around) (outer : List Env) (s : Shared) (H : Hp) (E : XK) : (z8v CX P w K mg base N qual scope f cd A outer s H E).w = w := rfl
theorem z7c (CX : CXT) (P : Program) (w : World) (K : PySem.W.Frag) (mg : Str → Option Value) (base : Heap) (N : List Str) (qual : Str) (scope : Scope) (f : Addr) (cd : Value) (A : Around) (outer : List Env) (s : Shared) (H : Hp) (E : XK) : (z8v CX P w K mg base N qual scope f cd A outer s H E).nox.prog = P := rfl
theorem zc4 (CX : CXT) (P : Program) (w : World) (K : PySem.W.Frag) (mg : Str → Option Value) (base : Heap) (N : List Str) (qual : Str) (scope : Scope) (f : Addr) (cd : Value) (A : Around) (outer : List Env) (s : Shared) (H : Hp) (E : XK) : (z8v CX P w K mg base N qual scope f cd A outer s H E).nox.w = w := rfl
theorem zk5 (CX : CXT) (P : Program) (w : World) (K : PySem.W.Frag) (mg : Str → Option Value) (base : Heap) (N : List Str) (qual : Str) (scope : Scope) (f : Addr) (cd : Value) (A : Around) (outer : List Env) (s : Shared) (H : Hp) (E : XK) : (z8v CX P w K mg base N qual scope f cd A outer s H E).mg = mg := rfl
theorem za7 (CX : CXT) (P : Program) (w : World) (K : PySem.W.Frag) (mg : Str → Option Value) (base : Heap) (N : List Str) (qual : Str) (scope : Scope) (f : Addr) (cd : Value) (A : Around) (outer : List Env) (s : Shared) (H : Hp) (E : XK) : (z8v CX P w K mg base N qual scope f cd A outer s H E).nox.mg = mg := rfl
theorem zet (CX : CXT) (P : Program) (w : World) (K : PySem.W.Frag) (mg : Str → Option Value) (base : Heap) (N : List Str) (qual : Str) (scope : Scope) (f : Addr) (cd : Value) (A : Around) (outer : List Env) (s : Shared) (H : Hp) (E : XK) : (z8v CX P w K mg base N qual scope f cd A outer s H E).base = base := rfl
theorem z7d (CX : CXT) (P : Program) (w : World) (K : PySem.W.Frag) (mg : Str → Option Value) (base : Heap) (N : List Str) (qual : Str) (scope : Scope) (f : Addr) (cd : Value) (A : Around) (outer : List Env) (s : Shared) (H : Hp) (E : XK) : (z8v CX P w K mg base N qual scope f cd A outer s H E).nox.base = base := rfl
theorem za8 (X : Cx) (N' : List Str) (scope : Scope) (cl : List (Str × Addr)) (C : Addr) (s₀ : Shared) (H₀ : Hp) (ex : List Addr) : (z6m X N' scope cl C s₀ H₀ ex).prog = X.prog := rfl
theorem zgo (X : Cx) (N' : List Str) (scope : Scope) (cl : List (Str × Addr)) (C : Addr) (s₀ : Shared) (H₀ : Hp) (ex : List Addr) : (z6m X N' scope cl C s₀ H₀ ex).w = X.w := rfl
theorem zeu (X : Cx) (N' : List Str) (scope : Scope) (cl : List (Str × Addr)) (C : Addr) (s₀ : Shared) (H₀ : Hp) (ex : List Addr) : (z6m X N' scope cl C s₀ H₀ ex).mg = X.mg := rfl
theorem za9 (X : Cx) (N' : List Str) (scope : Scope) (cl : List (Str × Addr)) (C : Addr) (s₀ : Shared) (H₀ : Hp) (ex : List Addr) : (z6m X N' scope cl C s₀ H₀ ex).base = X.base := rfl
theorem zby {K : PySem.W.Frag} {ta : TA} {g : TG} {tt : TT} {te : TE} {mp : List (Option Nat)} {σ : St} {H : Hp} {Q : VK} : zkg (zwv K ta) g tt te mp σ H Q = ta σ H fun vs H1 => ∃ a b, vs = [.ref a, .ref b] ∧ (∃ xs, SqT K H1 a xs) ∧ (∃ ys, SqT K H1 b ys) ∧ zi5 (zvq K a b) g tt te Q (subσ mp σ) H1 := rfl
local macro_rules | `(tactic| walk_at "rd") => `(tactic| simp only [zq9, zth, zj7, tOp, zqk, tC, zxq, zpz, zxv, zs8, zzk, zy5, zto, zqo, zqn, tCB, zj8, zvv, zp7, tUn, rU, rI0, rI, zvx, tOr, zy6, tB, zqr, q08, zqm, tIf, zy8, ztp, zkh, zqq, zns, zqw, zkf, ztr, zil, zts, tSl, zgu, zql, zyd, zj9, zko, zpf, zqz, zdt, zgi, zdq, zdw, q0v, ztz, zes, zot, z7c, zc4, zk5, zet, za7, z7d, za8, zgo, zeu, za9, zby, znu, zye, q0b, tDX, q09, zy4, zxp, tBM,
 qEq, qNe, qIn, ziq, zyi, zqy, q0f, zu0, zyh, zr0, q0g, zyg, zu1, zu2, zkp, rIx, zxs, ztj, zxr, zyf, zfx, q0c, zty, q0e, q0d, zh5, zh4, zke, znv, zy3,
 zgj, zds, zdr, zdu, zbz, zdv, L2.start, zou, zc5, zgp, List.map_cons, List.map_nil, List.length_cons, List.length_nil, List.replicate_succ, List.replicate_zero, Nat.reduceAdd, Nat.reduceSub, Nat.zero_add, Nat.add_zero, Nat.sub_zero, Nat.sub_self, Nat.add_sub_cancel,
 List.getElem?_cons_zero, List.getElem?_cons_succ, List.set_cons_zero, List.set_cons_succ, List.cons_append, List.nil_append, List.append_nil, List.cons.injEq, Option.some.injEq, V.int.injEq, V.ref.injEq, V.str.injEq, V.bl.injEq, V.ty.injEq,
 reduceCtorEq, false_and, and_false, and_true, true_and, exists_false, exists_const, false_or, or_false, exists_eq_left, exists_eq_left', exists_eq_right, exists_eq_right', exists_and_left, decide_eq_true_eq, Bool.not_eq_true', Bool.decide_eq_true, exists_eq, true_or, or_true, Bool.false_eq_true, if_true, if_false, Bool.true_eq_false, Bool.not_true, Bool.not_false, decide_true, decide_false, List.isEmpty_cons, List.isEmpty_nil, Bool.true_and, Bool.false_and, bne_self_eq_false, beq_self_eq_true])
section
variable {P : Program} {w : World} {K : PySem.W.Frag} {mg : Str → Option Value} {base : Heap} {f : Addr} {fd : FuncData}
def zv8 (K : PySem.W.Frag) : Sp := fun vs H Q _ => ∃ (a : Addr) (ns : List Int) (k : Int), vs = [.ref a, .int k] ∧ SqL K H a (ns.map V.int) ∧ 0 ≤ k ∧ ∀ (i : Int) (H' : Hp), Same H H' → Q (.int i) H'
theorem zwf (F : Fun K "_law_cell" "_law_cell" z4m f fd) (b_len : mg "len" = none) : FnOk P w K mg base CX0 1 f fd ["_law_script", "_law_k"] (zv8 K) := by
 refine F.ok zmd (fun vs H Q E h => ?_) (fun cdv A outer s H vs Q E hr h => ?_)
 ·obtain ⟨a, ns, k, rfl, _⟩ := h
  rfl
 obtain ⟨a, ns, k, rfl, hS, h0, q⟩ := h
 refine ⟨_, (z06 (z2m (z0c zkz (z00 (i := 1) rfl z49 z4k z4l) (z75 zuq zbj b_len zf0 (z07 (z00 (i := 0) rfl z28 z09 z0a) z03) ze6 zen) (z0m _)) (z08 (z0q (z0w ix_list (z00 (i := 0) rfl z28 z09 z0a) (z00 (i := 1) rfl z49 z4k z4l) (fun _ _ => rfl)))) z0s)
 (z06 (z2m (z0c (gEq hr.units) (z00 (i := 0) rfl z28 z09 z0a) (z3h z03) (z0m _)) (z08 (z0q z02)) z0s)
 (z08 (z0q (z17 z2e (z17 zai (z0w ix_list (z00 (i := 0) rfl z28 z09 z0a) (z17 zky (z00 (i := 1) rfl z49 z4k z4l) (z75 zuq zbj b_len zf0 (z07 (z00 (i := 0) rfl z28 z09 z0a) z03) ze6 zen)) (fun _ _ => rfl)) z02) (z00 (i := 1) rfl z49 z4k z4l)))))), ?_⟩
 walk_at "rd"
 refine ⟨_, zxu hS, ?_⟩
 rw [List.length_map]
 split
 ·rename_i hk
  obtain ⟨i, _, e⟩ := zad (c := V.int) h0 hk
  exact ⟨_, hS, _, e, q i H (Same.refl _)⟩
 ·refine ⟨Nat.zero_le _, fun p hp => ?_⟩
  have s1 := z04 hp (.lst [])
  refine ⟨_, zzl (s1.seq hS) (zz1 ns) (SqL.of z01), ?_⟩
  split
  ·exact q 0 _ s1
  ·rename_i hne
   have hl : 0 < (ns.length : Int) := by
    cases ns with
    | nil => exact absurd rfl hne
    | cons a r => simp only [List.length_cons]; omega
   obtain ⟨i, _, e⟩ := zad (c := V.int) (ns := ns) (k := k % (ns.length : Int)) (Int.emod_nonneg _ (by omega)) (Int.emod_lt_of_pos _ hl)
   exact ⟨_, zxu (s1.seq hS), by rw [List.length_map]; exact hl, _, s1.seq hS, _, by rw [List.length_map]; exact e, i, rfl, .inr ⟨by decide, by decide⟩, q _ _ s1⟩
def zdx (K : PySem.W.Frag) : Sp := fun vs H Q _ => ∃ (a : Addr) (ns : List Int) (k m : Int), vs = [.ref a, .int k, .int m] ∧ SqL K H a (ns.map V.int) ∧ 0 ≤ k ∧ 0 < m ∧ ∀ (i : Int) (H' : Hp), 0 ≤ i → i < m → Same H H' → Q (.int i) H'
theorem zwe (F : Fun K "_law_pick" "_law_pick" z3f f fd) (c_law_cell : Callee P w K mg base "_law_cell" ["_law_script", "_law_k"] 1 (zv8 K)) : FnOk P w K mg base CX0 2 f fd ["_law_script", "_law_k", "_law_many"] (zdx K) := by
 refine F.ok sc_law_pick (fun vs H Q E h => ?_) (fun cdv A outer s H vs Q E hr h => ?_)
 ·obtain ⟨a, ns, k, m, rfl, _⟩ := h
  rfl
 obtain ⟨a, ns, k, m, rfl, hS, h0, hm, q⟩ := h
 refine ⟨_, (z06 (z1d (i := 3) sc_law_pick.nd rfl z9r (z17 zky (z17 zai (z17 z2e (z1y c_law_cell hr (by omega) (z07 (z00 (i := 0) rfl z8z z09 z0a) (z07 (z00 (i := 1) rfl z7g z4k z4l) z03)) zbi zlj) (z17 zai z02 (z17 z2e (z00 (i := 1) rfl z7g z4k z4l) z02))) z02) z02) (z05 rfl))
 (z08 (z0q (z17 zky (z17 zky (z17 z2e (z17 zai (z00 (i := 3) rfl z48 za6 zac) (z00 (i := 3) rfl z48 za6 zac)) (z17 zwb (z00 (i := 3) rfl z48 za6 zac) z02)) z02) (z00 (i := 2) rfl zat zbr zbw))))), ?_⟩
 walk_at "rd"
 refine ⟨a, ns, k, rfl, hS, h0, fun i H' s1 => ?_⟩
 walk_at "rd"
 refine ⟨.inl ⟨by decide, by decide⟩, .inr ⟨by decide, by decide⟩, by decide, ?_⟩
 have e1 : 0 ≤ (i + 6151 * (k + 1)) * 40692 % 2147483399 := Int.emod_nonneg _ (by decide)
 have e2 : (i + 6151 * (k + 1)) * 40692 % 2147483399 < 2147483399 := Int.emod_lt_of_pos _ (by decide)
 refine ⟨.inl ⟨by omega, by omega⟩, ⟨by decide, by decide⟩, by decide, hm, q _ _ (Int.emod_nonneg _ (by omega)) (Int.emod_lt_of_pos _ hm) s1⟩
structure Df (K : PySem.W.Frag) (mg : Str → Option Value) (x : Str) (st : Stmt) (ps : List Str) (f : Addr) (fd : FuncData) : Prop where
 F : Fun K x x st f fd
 m : mg x = some (.ref f)
 b : Binds K fd ps []
theorem Df.callee {x : Str} {st : Stmt} {ps : List Str} {k : Nat} {sp : Sp} (d : Df K mg x st ps f fd) (h : FnOk P w K mg base CX0 k f fd ps sp) : Callee P w K mg base x ps k sp := ⟨f, fd, h, d.m, d.F.kp, d.b⟩
theorem zgn (x : Str) : ∀ g : List Str, inV (.str x) (g.map V.str) = g.contains x
 | [] => rfl
 | y :: g => by
  have ih := zgn x g
  unfold inV at ih ⊢
  rw [List.map_cons, List.any_cons, ih, List.contains_cons]
  have e : eqV (.str y) (.str x) = (x == y) := by
   show (y == x) = (x == y)
   rw [Bool.eq_iff_iff, beq_iff_eq, beq_iff_eq]
   exact eq_comm
  rw [e]
theorem zlb (g : List Str) : (g.map V.str).all zb6 = true := by simp [zb6]
theorem z7y {H H' : Hp} {p : Addr} {o : HO} (s : Same H H') (h : H p = none) : Same H (upd H' p o) := fun b u q => by rw [z0e (z0h q h)]; exact s b u q
end
theorem zf6 {K : PySem.W.Frag} {ta : TA} {g : TG} {tb : TS} {D : Ends} {σ : St} {H : Hp} : ztq (zs5 K ta) g tb D σ H = ta σ H fun vs H1 => ∃ a, vs = [.ref a] ∧ (∃ xs, SqT K H1 a xs) ∧ zvr (zxn K a) g tb D σ H1 := rfl
theorem zgv {K : PySem.W.Frag} {ta : TA} {g : TG} {tb : TS} {D : Ends} {σ : St} {H : Hp} : ztq (zwv K ta) g tb D σ H = ta σ H fun vs H1 => ∃ a b, vs = [.ref a, .ref b] ∧ (∃ xs, SqT K H1 a xs) ∧ (∃ ys, SqT K H1 b ys) ∧ zvr (zvq K a b) g tb D σ H1 := rfl
theorem zf7 {ta : TA} {g : TG} {tt : TT} {te : TE} {mp : List (Option Nat)} {σ : St} {H : Hp} {Q : VK} : zkg (zww ta) g tt te mp σ H Q = ta σ H fun vs H1 => ∃ i j : Int, vs = [.int i, .int j] ∧ (-(2 ^ 62) ≤ i ∧ i < 2 ^ 62 ∧ -(2 ^ 62) ≤ j ∧ j < 2 ^ 62) ∧ zi5 (Itr i (j - i).toNat) g tt te Q (subσ mp σ) H1 := rfl
local macro_rules | `(tactic| walk_at "rd7") => `(tactic| simp only [zf7, znt, zgv, zvu, zvw, znr, zkn, q0u, zmf, zqp, zd0, zq9, zth, zj7, tOp, zqk, tC, zxq, zpz, zxv, zs8, zzk, zy5, zto, zqo, zqn, tCB, zj8, zvv, zp7, tUn, rU, rI0, rI, zvx, tOr, zy6, tB, zqr, q08, zqm, tIf, zy8, ztp, zkh, zqq, zns, zqw, zkf, ztr, zil, zts, tSl, zgu, zql, zyd, zj9, zko, zpf, zqz, zdt, zf6, zgi, zdq, zdw,  zes, zot, z7c, zc4, zk5, zet, za7, z7d, za8, zgo, zeu, za9, zby, znu, zye, q0b, tDX, q09, zy4, zxp, tBM,
 qEq, qNe, qIn, ziq, zyi, zqy, q0f, zu0, zyh, zr0, q0g, zyg, zu1, zu2, zkp, rIx, zxs, ztj, zxr, zyf, q0c, zty, q0e, q0d, zh5, zh4, zke, znv, zy3,
 zgj, zds, zdr, zdu, zbz, zdv, L2.start, zou, zc5, zgp, List.map_cons, List.map_nil, List.length_cons, List.length_nil, List.replicate_succ, List.replicate_zero, Nat.reduceAdd, Nat.reduceSub, Nat.zero_add, Nat.add_zero, Nat.sub_zero, Nat.sub_self, Nat.add_sub_cancel,
 List.getElem?_cons_zero, List.getElem?_cons_succ, List.set_cons_zero, List.set_cons_succ, List.cons_append, List.nil_append, List.append_nil, List.cons.injEq, Option.some.injEq, V.int.injEq, V.ref.injEq, V.str.injEq, V.bl.injEq, V.ty.injEq,
 reduceCtorEq, false_and, and_false, and_true, true_and, exists_false, exists_const, false_or, or_false, exists_eq_left, exists_eq_left', exists_eq_right, exists_eq_right', exists_and_left, decide_eq_true_eq, Bool.not_eq_true', Bool.decide_eq_true, exists_eq, true_or, or_true, Bool.false_eq_true, if_true, if_false, Bool.true_eq_false, Bool.not_true, Bool.not_false, decide_true, decide_false, List.isEmpty_cons, List.isEmpty_nil, Bool.true_and, Bool.false_and, bne_self_eq_false, beq_self_eq_true])
section
variable {P : Program} {w : World} {K : PySem.W.Frag} {mg : Str → Option Value} {base : Heap} {f : Addr} {fd : FuncData}
theorem z0f {a b : TS} {D : Ends} {σ : St} {H : Hp} (h : ∀ N : St → Hp → Prop, N = b D → a { D with nx := N } σ H) : zq9 a b D σ H := h _ rfl
theorem zba {c : TT} {a b : TS} {D : Ends} {σ : St} {H : Hp} (h : ∀ Y Z : St → Hp → Prop, Y = a D → Z = b D → zth c (fun _ => Y) (fun _ => Z) D σ H) : zth c a b D σ H := h _ _ rfl rfl
theorem zy1 {t1 t2 : TS} {c : TT} {a b : TS} {D : Ends} {σ : St} {H : Hp} (h : ∀ Y Z : St → Hp → Prop, Y = a D → Z = b D → zq9 t1 (zq9 t2 (zth c (fun _ => Y) (fun _ => Z))) D σ H) : zq9 t1 (zq9 t2 (zth c a b)) D σ H := h _ _ rfl rfl
def zki (K : PySem.W.Frag) (n : Nat) : Sp := fun vs H Q _ => ∃ (a : Addr) (ns : List Int) (k : Int) (kn : Addr) (g : List Str) (d : Nat), vs = [.ref a, .int k, .ref kn, .int d] ∧ SqL K H a (ns.map V.int) ∧ 0 ≤ k ∧ H kn = some (.lst (g.map V.str)) ∧ Sub g pool ∧ 1 ≤ d ∧ d ≤ n ∧
 ∀ (r : V) (H' : Hp) (t : T), Same H H' → Dt H' r t.enc → t.ok g d → Q r H'
theorem zyx {n : Nat} (F : Fun K "_law_sum" "_law_sum" z22 f fd) (b_len : mg "len" = none) (c_law_pick : Callee P w K mg base "_law_pick" ["_law_script", "_law_k", "_law_many"] 2 (zdx K))
  (c_law_sum : Callee P w K mg base "_law_sum" ["_law_script", "_law_at", "_law_known", "_law_deep"] (n + 3) (zki K n)) : FnOk P w K mg base CX0 (n + 4) f fd ["_law_script", "_law_at", "_law_known", "_law_deep"] (zki K (n + 1)) := by
 refine F.ok sc_law_sum (fun vs H Q E h => ?_) (fun cdv A outer s H vs Q E hr h => ?_)
 ·obtain ⟨a, ns, k, kn, g, d, rfl, _⟩ := h
  rfl
 obtain ⟨a, ns, k, kn, g, d, rfl, hS, h0, hk, hg, hd1, hd2, q⟩ := h
 refine ⟨_, (z06 (z1d (i := 4) sc_law_sum.nd rfl zcf (z1y c_law_pick hr (by omega) (z07 (z00 (i := 0) rfl z1f z09 z0a) (z07 (z00 (i := 1) rfl z27 z1u z1v) (z07 z02 z03))) z33 z1b) (z05 rfl))
 (z06 (z2m (PW.pt (zr1 (z0c zbd (z00 (i := 3) rfl z4t z3c z3d) z02 (z0m _)) (zo3 (z0c zkz (z00 (i := 4) rfl zc8 zdd zdj) z02 (z0m _))))) (z06 (z2m (PW.pt (zh6 (z0c (gNe hr.units) (z00 (i := 2) rfl z2l z0z z11) (z3h z03) (z0m _)) (zfd (z0c zyt (z1y c_law_pick hr (by omega) (z07 (z00 (i := 0) rfl z1f z09 z0a) (z07 (z17 z2e (z00 (i := 1) rfl z27 z1u z1v) z02) (z07 z02 z03))) z33 z1b) z02 (z0m _))))) (z08 (z0q (z14 (z07 z0l (z07 (z0w ix_list (z00 (i := 2) rfl z2l z0z z11) (z1y c_law_pick hr (by omega) (z07 (z00 (i := 0) rfl z1f z09 z0a) (z07 (z17 z2e (z00 (i := 1) rfl z27 z1u z1v) z02) (z07 (z75 zuq zid b_len zf0 (z07 (z00 (i := 2) rfl z2l z0z z11) z03) ze6 zen) z03))) z33 z1b) (fun _ _ => rfl)) z03))))) z0s)
 (z08 (z0q (z14 (z07 z0l (z07 (z0w ix_list (z3h (z07 z02 (z07 z02 (z07 (zi8 zct z02) (z07 z02 (z07 z02 (z07 z02 (z07 (zi8 zct z02) (z07 z02 (z07 (zi8 zct z02) (z07 z02 (z07 z02 (z07 (zi8 zct z02) z03))))))))))))) (z1y c_law_pick hr (by omega) (z07 (z00 (i := 0) rfl z1f z09 z0a) (z07 (z17 z2e (z00 (i := 1) rfl z27 z1u z1v) z02) (z07 z02 z03))) z33 z1b) (fun _ _ => rfl)) z03)))))) z0s)
 (z06 (z1d (i := 5) sc_law_sum.nd rfl zax (z3h (z07 z0l (z07 z0l (z07 z0l (z07 z0l (z07 z0l (z07 z0l (z07 z0l (z07 z0l (z07 z0l (z07 z0l z03))))))))))) (z05 rfl))
 (z06 (z1d (i := 6) sc_law_sum.nd rfl zcg (z1y c_law_sum hr (by omega) (z07 (z00 (i := 0) rfl z1f z09 z0a) (z07 (z17 z2e (z17 zai z02 (z00 (i := 1) rfl z27 z1u z1v)) z02) (z07 (z00 (i := 2) rfl z2l z0z z11) (z07 (z17 ze2 (z00 (i := 3) rfl z4t z3c z3d) z02) z03)))) z7o z7s) (z05 rfl))
 (z08 (z0q (z14 (z07 (z0w ix_list (z00 (i := 5) rfl zas zk2 zk7) (z1y c_law_pick hr (by omega) (z07 (z00 (i := 0) rfl z1f z09 z0a) (z07 (z17 z2e (z00 (i := 1) rfl z27 z1u z1v) z02) (z07 z02 z03))) z33 z1b) (fun _ _ => rfl)) (z07 (z00 (i := 6) rfl zc9 z30 z31) (z07 (z1y c_law_sum hr (by omega) (z07 (z00 (i := 0) rfl z1f z09 z0a) (z07 (z17 z2e (z17 zai z02 (z00 (i := 1) rfl z27 z1u z1v)) z02) (z07 (z00 (i := 2) rfl z2l z0z z11) (z07 (z17 ze2 (z00 (i := 3) rfl z4t z3c z3d) z02) z03)))) z7o z7s) z03)))))))))), z0f fun N1 e1 => ?_⟩
 walk_at "rd"
 refine ⟨a, ns, k, 10, rfl, hS, h0, by decide, fun i H1 i0 i1 s1 => ?_⟩
 rw [e1]
 refine z0f fun N2 e2 => zba fun Y Z eY eZ => ?_
 walk_at "rd"
 have leaf : ∀ (H1 : Hp), Same H H1 → Y [some (.ref a), some (.int k), some (.ref kn), some (.int d), some (.int i), none, none] H1 := by
  intro H1 s1
  rw [eY]
  walk_at "rd"
  have num : ∀ (H2 : Hp) (p : Addr), Same H H2 → H2 p = none → zdx K [V.ref a, V.int (k + 3), V.int 12] (upd H2 p (HO.lst [V.int 0, V.int 1, V.int (-1), V.int 2, V.int 3, V.int 7, V.int (-8), V.int 100, V.int (-129), V.int 300, V.int 32767, V.int (-32768)])) (fun y H2 => ∃ x x_1, y = V.int x_1 ∧ SqL K H2 p x ∧ ∃ x_2, atI x x_1 = some x_2 ∧ 2 ≤ sizeLine ∧ ∀ (p : Addr), H2 p = none → Q (V.ref p) (upd H2 p (HO.tup [V.str (Str.ofString "num"), x_2]))) E0 := by
   intro H2 p s2 hp
   have s3 := z04 hp (HO.lst [V.int 0, V.int 1, V.int (-1), V.int 2, V.int 3, V.int 7, V.int (-8), V.int 100, V.int (-129), V.int 300, V.int 32767, V.int (-32768)])
   refine ⟨a, ns, k + 3, 12, rfl, (s2.trans s3).seq hS, by omega, by decide, fun j H3 j0 j1 s4 => ?_⟩
   obtain ⟨v, hv, e⟩ := zad (c := V.int) (ns := [0, 1, -1, 2, 3, 7, -8, 100, -129, 300, 32767, -32768]) (k := j) j0 j1
   refine ⟨_, _, rfl, SqL.of (s4 _ _ z01), _, e, zl 2 (by decide), fun r hr' => ?_⟩
   refine q _ _ (.num v) ((s2.trans s3).trans (s4.trans (z04 hr' _))) (.tup z01 (.cons (.str _) (.cons (.int _) .nil))) ?_
   obtain ⟨d', rfl⟩ : ∃ d', d = d' + 1 := ⟨d - 1, by omega⟩
   show -32768 ≤ v ∧ v ≤ 32767
   simp only [List.mem_cons, List.not_mem_nil, or_false] at hv
   omega
  refine ⟨Nat.zero_le _, fun p hp => ?_⟩
  have s2 := z04 hp (HO.lst [])
  have hk2 : (upd H1 p (HO.lst [])) kn = some (.lst (g.map V.str)) := s2 _ _ (s1 _ _ hk)
  refine ⟨_, .inr ⟨_, SqL.of hk2, _, SqL.of z01, zve hg, rfl, (zsf _).symm⟩, ?_⟩
  split
  ·rename_i hne
   refine ⟨a, ns, k + 1, 3, rfl, (s1.trans s2).seq hS, by omega, by decide, fun j H3 j0 j1 s3 => ?_⟩
   refine ⟨_, rfl, ?_⟩
   have s03 := (s1.trans s2).trans s3
   split
   ·have hk3 := s3 _ _ hk2
    refine ⟨_, zxu (SqL.of hk3), ?_⟩
    have hl : 0 < ((g.map V.str).length : Int) := by
     cases g with
     | nil => exact absurd rfl (Bool.eq_false_iff.mp hne)
     | cons x r => simp only [List.map_cons, List.length_cons]; omega
    refine ⟨a, ns, k + 2, _, rfl, s03.seq hS, by omega, hl, fun m H4 m0 m1 s4 => ?_⟩
    obtain ⟨v, hv, e⟩ := zad (c := V.str) (ns := g) (k := m) m0 (by rw [List.length_map] at m1; exact m1)
    refine ⟨_, _, rfl, SqL.of (s4 _ _ hk3), _, e, zl 2 (by decide), fun r hr' => ?_⟩
    refine q _ _ (.nm v) (s03.trans (s4.trans (z04 hr' _))) (.tup z01 (.cons (.str _) (.cons (.str _) .nil))) ?_
    obtain ⟨d', rfl⟩ : ∃ d', d = d' + 1 := ⟨d - 1, by omega⟩
    exact hv
   ·exact ⟨zl 12 (by decide), fun p2 hp2 => num _ p2 s03 hp2⟩
  ·exact ⟨zl 12 (by decide), fun p2 hp2 => num _ p2 (s1.trans s2) hp2⟩
 split
 ·exact leaf H1 s1
 ·split
  ·exact leaf H1 s1
  ·rename_i hd _
   rw [eZ]
   show N2 _ _
   rw [e2]
   refine z0f fun N3 e3 => ?_
   walk_at "rd"
   refine ⟨zl 10 (by decide), fun p hp => ?_⟩
   rw [e3]
   refine z0f fun N4 e4 => ?_
   walk_at "rd"
   refine ⟨.inl ⟨by decide, by decide⟩, ?_⟩
   have s2 := z04 hp (HO.lst [V.str "add", V.str "sub", V.str "mul", V.str "quo", V.str "less", V.str "same", V.str "min", V.str "max", V.str "add", V.str "less"])
   have s02 := s1.trans s2
   have ed : ((d : Int) - 1) = ((d - 1 : Nat) : Int) := by omega
   have hd3 : 2 ≤ d := by omega
   rw [ed]
   refine ⟨a, ns, _, kn, g, d - 1, rfl, s02.seq hS, by omega, s02 _ _ hk, hg, by omega, by omega, fun r1 H2 t1 s3 d1 k1 => ?_⟩
   have s03 := s02.trans s3
   rw [e4]
   walk_at "rd"
   refine ⟨a, ns, k + 4, 10, rfl, s03.seq hS, by omega, by decide, fun j H3 j0 j1 s4 => ?_⟩
   have s04 := s03.trans s4
   obtain ⟨v, hv, e⟩ := zad (c := fun w : Wd => V.str w.str) (ns := [.add, .sub, .mul, .quo, .less, .same, .min, .max, .add, .less]) (k := j) j0 j1
   refine ⟨_, _, rfl, SqL.of (s4 _ _ (s3 _ _ z01)), _, e, .inl ⟨by decide, by decide⟩, ?_⟩
   rw [ed]
   refine ⟨a, ns, _, kn, g, d - 1, rfl, s04.seq hS, by omega, s04 _ _ hk, hg, by omega, by omega, fun r2 H4 t2 s5 d2 k2 => ?_⟩
   refine ⟨zl 3 (by decide), fun p3 hp3 => ?_⟩
   have s6 := z04 hp3 (HO.tup [V.str v.str, r1, r2])
   refine q _ _ (.op v t1 t2) (s04.trans (s5.trans s6)) (.tup z01 (.cons (.str _) (.cons (d1.kp (s4.trans (s5.trans s6)).kp) (.cons (d2.kp s6.kp) .nil)))) ?_
   obtain ⟨d', rfl⟩ : ∃ d', d = d' + 1 := ⟨d - 1, by omega⟩
   exact ⟨k1, k2⟩
theorem zue {k : Nat} : FnOk P w K mg base CX0 k f fd ["_law_script", "_law_at", "_law_known", "_law_deep"] (zki K 0) := by
 have no : ∀ vs H Q E, ¬ zki K 0 vs H Q E := fun vs H Q E h => by
  obtain ⟨a, ns, k, kn, g, d, _, _, _, _, _, h1, h2, _⟩ := h
  omega
 exact ⟨fun vs H Q E h => absurd h (no vs H Q E), fun A outer s H args us vs Q E _ _ _ _ h => absurd h (no vs H Q E)⟩
theorem zt8 (d : Df K mg "_law_sum" z22 ["_law_script", "_law_at", "_law_known", "_law_deep"] f fd) (b_len : mg "len" = none) (c_law_pick : Callee P w K mg base "_law_pick" ["_law_script", "_law_k", "_law_many"] 2 (zdx K)) :
  ∀ n : Nat, Callee P w K mg base "_law_sum" ["_law_script", "_law_at", "_law_known", "_law_deep"] (n + 3) (zki K n)
 | 0 => d.callee zue
 | n + 1 => d.callee (zyx d.F b_len c_law_pick (zt8 d b_len c_law_pick n))
def zh0 (K : PySem.W.Frag) : Sp := fun vs H Q _ => ∃ (a : Addr) (ns : List Int) (k : Int) (kn : Addr) (g g1 : List Str) (rb : V) (b : List D) (d : Nat) (di : Int), vs = [.ref a, .int k, .ref kn, rb, .int di] ∧ SqL K H a (ns.map V.int) ∧ 0 ≤ k ∧ H kn = some (.lst (g.map V.str)) ∧ Sub g pool ∧ g ≠ [] ∧
 Dt H rb (.tup (zao b)) ∧ okB d b ∧ b.length ≤ 4 ∧ b ≠ [] ∧ Knows g b g1 ∧ 1 ≤ d ∧ ∀ (r : V) (H' : Hp) (e : D), Same H H' → Dt H' r e.enc → okD d e → KnowsD g e g → Q r H'
theorem zpr (F : Fun K "_law_counted" "_law_counted" z0j f fd) (b_len : mg "len" = none) (c_law_pick : Callee P w K mg base "_law_pick" ["_law_script", "_law_k", "_law_many"] 2 (zdx K))
  (c_law_sum : Callee P w K mg base "_law_sum" ["_law_script", "_law_at", "_law_known", "_law_deep"] 6 (zki K 3)) : FnOk P w K mg base CX0 7 f fd ["_law_script", "_law_at", "_law_known", "_law_body", "_law_deep"] (zh0 K) := by
 refine F.ok sc_law_counted (fun vs H Q E h => ?_) (fun cdv A outer s H vs Q E hr h => ?_)
 ·obtain ⟨a, ns, k, kn, g, g1, rb, b, d, di, rfl, _⟩ := h
  rfl
 obtain ⟨a, ns, k, kn, g, g1, rb, b, d, di, rfl, hS, h0, hk, hg, hne, hb, hob, hbl, hbn, hkn, hd1, q⟩ := h
 refine ⟨_, (z06 (z1d (i := 5) sc_law_counted.nd rfl z5a (z0w ix_list (z3h (z07 z02 (z07 z02 (z07 z02 (z07 z02 (z07 z02 z03)))))) (z1y c_law_pick hr (by omega) (z07 (z00 (i := 0) rfl z1c z09 z0a) (z07 (z00 (i := 1) rfl z1s z1u z1v) (z07 z02 z03))) z29 z1b) (fun _ _ => rfl)) (z05 rfl))
 (z06 (z2m (z0c zkz (z00 (i := 4) rfl z8a z3c z3d) z02 (z0m _)) (z08 (z1d (i := 5) sc_law_counted.nd rfl z5a (z17 zky (z00 (i := 5) rfl z3v zbq zbv) z02) (z05 rfl))) z0s)
 (z06 (z2m (z0c zbd (z1y c_law_pick hr (by omega) (z07 (z00 (i := 0) rfl z1c z09 z0a) (z07 (z17 z2e (z00 (i := 1) rfl z1s z1u z1v) z02) (z07 z02 z03))) z29 z1b) z02 (z0m _)) (z08 (z0q (z14 (z07 z0l (z07 (z1y c_law_sum hr (by omega) (z07 (z00 (i := 0) rfl z1c z09 z0a) (z07 (z17 z2e (z00 (i := 1) rfl z1s z1u z1v) z02) (z07 (z00 (i := 2) rfl z3n z0z z11) (z07 z02 z03)))) z9z z7s) (z07 (z00 (i := 5) rfl z3v zbq zbv) (z07 (z00 (i := 3) rfl z58 zbs zbx) z03))))))) z0s)
 (z06 (z1d (i := 6) sc_law_counted.nd rfl z8k (z14 (z07 z0l (z07 (z0w ix_list (z00 (i := 2) rfl z3n z0z z11) (z1y c_law_pick hr (by omega) (z07 (z00 (i := 0) rfl z1c z09 z0a) (z07 (z17 z2e (z00 (i := 1) rfl z1s z1u z1v) z02) (z07 (z75 zuq zee b_len zf0 (z07 (z00 (i := 2) rfl z3n z0z z11) z03) ze6 zen) z03))) z29 z1b) (fun _ _ => rfl)) z03))) (z05 rfl))
 (z06 (z1d (i := 7) sc_law_counted.nd rfl z8m (z14 (z07 z0l (z07 (z0w ix_list (z3h (z07 (zi8 zct z02) (z07 z02 (z07 z02 (z07 z02 z03))))) (z1y c_law_pick hr (by omega) (z07 (z00 (i := 0) rfl z1c z09 z0a) (z07 (z17 z2e (z00 (i := 1) rfl z1s z1u z1v) z02) (z07 z02 z03))) z29 z1b) (fun _ _ => rfl)) z03))) (z05 rfl))
 (z06 (z1d (i := 8) sc_law_counted.nd rfl z8l (z14 (z07 z0l (z07 (z0w ix_tup (z00 (i := 6) rfl z3u z4y z51) z02 (fun _ _ => rfl)) (z07 (z14 (z07 z0l (z07 (z00 (i := 6) rfl z3u z4y z51) (z07 (z14 (z07 z0l (z07 (z17 z2e z02 (z1y c_law_pick hr (by omega) (z07 (z00 (i := 0) rfl z1c z09 z0a) (z07 (z17 z2e (z00 (i := 1) rfl z1s z1u z1v) z02) (z07 z02 z03))) z29 z1b)) z03))) z03)))) z03)))) (z05 rfl))
 (z08 (z0q (z14 (z07 z0l (z07 (z14 (z07 z0l (z07 (z00 (i := 6) rfl z3u z4y z51) (z07 (z00 (i := 7) rfl z89 zli zlq) z03)))) (z07 (z00 (i := 5) rfl z3v zbq zbv) (z07 (z17 z2s (z00 (i := 3) rfl z58 zbs zbx) (z14 (z07 (z00 (i := 8) rfl z88 zlf zln) z03))) z03))))))))))))), z0f fun N1 e1 => ?_⟩
 walk_at "rd"
 have hl : 0 < ((g.map V.str).length : Int) := by
  cases g with
  | nil => exact absurd rfl hne
  | cons x r => simp only [List.map_cons, List.length_cons]; omega
 refine ⟨zl 5 (by decide), fun p hp => ?_⟩
 have s1 := z04 hp (HO.lst [V.int 0, V.int 1, V.int 3, V.int 6, V.int 20])
 refine ⟨a, ns, k, 5, rfl, s1.seq hS, h0, by decide, fun i H2 i0 i1 s2 => ?_⟩
 have s02 := s1.trans s2
 obtain ⟨v, hv, e⟩ := zad (c := V.int) (ns := [0, 1, 3, 6, 20]) (k := i) i0 i1
 have hv2 : 0 ≤ v ∧ v ≤ 20 := by
  simp only [List.mem_cons, List.not_mem_nil, or_false] at hv
  omega
 refine ⟨_, _, rfl, SqL.of (s2 _ _ z01), _, e, ?_⟩
 obtain ⟨ab, xs, rfl, hab, hda⟩ := hb.tupI
 have hxl : xs.length = b.length := by rw [hda.length, z7p]
 have hxs : xs ≠ [] := fun z => hbn (List.length_eq_zero_iff.mp (by rw [← hxl, z]; rfl))
 rw [e1]
 refine z0f fun N2 e2 => ?_
 walk_at "rd"
 suffices key : ∀ mv : Int, 0 ≤ mv ∧ mv ≤ 20 → N2 [some (.ref a), some (.int k), some (.ref kn), some (.ref ab), some (.int di), some (.int mv), none, none, none] H2 by
  split
  ·exact ⟨by decide, key (v % 4) (by omega)⟩
  ·exact key v hv2
 intro mv hv3
 rw [e2]
 refine z0f fun N3 e3 => ?_
 walk_at "rd"
 refine ⟨a, ns, k + 1, 4, rfl, s02.seq hS, by omega, by decide, fun j H3 j0 j1 s3 => ?_⟩
 refine ⟨_, rfl, ?_⟩
 have s03 := s02.trans s3
 split
 ·refine ⟨a, ns, k + 2, kn, g, 2, rfl, s03.seq hS, by omega, s03 _ _ hk, hg, by decide, by decide, fun r1 H4 t1 s4 d1 k1 => ?_⟩
  refine ⟨zl 4 (by decide), fun p2 hp2 => ?_⟩
  exact q _ _ (.whl t1 _ b) (s03.trans (s4.trans (z04 hp2 _))) (.tup z01 (.cons (.str _) (.cons (d1.kp (z04 hp2 _).kp) (.cons (.int _) (.cons (hb.kp (s03.trans (s4.trans (z04 hp2 _))).kp) .nil))))) ⟨k1.mono hg (by decide), by omega, by omega, hob⟩ (KnowsD.whl k1 hkn)
 ·have hk3 := s03 _ _ hk
  rw [e3]
  refine z0f fun N4 e4 => ?_
  walk_at "rd"
  refine ⟨_, zxu (SqL.of hk3), ?_⟩
  refine ⟨a, ns, k + 3, _, rfl, s03.seq hS, by omega, hl, fun m H4 m0 m1 s4 => ?_⟩
  obtain ⟨x, hx, e⟩ := zad (c := V.str) (ns := g) (k := m) m0 (by rw [List.length_map] at m1; exact m1)
  refine ⟨_, _, rfl, SqL.of (s4 _ _ hk3), _, e, zl 2 (by decide), fun pn hpn => ?_⟩
  have s5 := z04 hpn (HO.tup [V.str "name", V.str x])
  rw [e4]
  refine z0f fun N5 e5 => ?_
  walk_at "rd"
  refine ⟨zl 4 (by decide), fun pg hpg => ?_⟩
  have s6 := z04 hpg (HO.lst [V.int (-2), V.int 1, V.int 3, V.int 5])
  have s06 := s03.trans (s4.trans (s5.trans s6))
  refine ⟨a, ns, k + 4, 4, rfl, s06.seq hS, by omega, by decide, fun l H5 l0 l1 s7 => ?_⟩
  obtain ⟨gv, hgv, e2⟩ := zad (c := V.int) (ns := [-2, 1, 3, 5]) (k := l) l0 l1
  have hgv2 : -32768 ≤ gv ∧ gv ≤ 32767 := by
   simp only [List.mem_cons, List.not_mem_nil, or_false] at hgv
   omega
  refine ⟨_, _, rfl, SqL.of (s7 _ _ z01), _, e2, zl 2 (by decide), fun pl hpl => ?_⟩
  have s8 := z04 hpl (HO.tup [V.str "num", V.int gv])
  have s68 := s6.trans (s7.trans s8)
  have s08 := s03.trans (s4.trans (s5.trans s68))
  rw [e5]
  refine z0f fun N6 e6 => ?_
  walk_at "rd"
  refine ⟨_, SqT.of (s68 _ _ z01), V.str x, rfl, ?_⟩
  refine ⟨a, ns, k + 5, 3, rfl, s08.seq hS, by omega, by decide, fun z H6 z0 z1 s9 => ?_⟩
  refine ⟨_, rfl, zl 2 (by decide), fun p1 h1 => ⟨zl 3 (by decide), fun p2 h2 => ⟨zl 3 (by decide), fun p3 h3 => ?_⟩⟩⟩
  rw [e6]
  walk_at "rd"
  refine ⟨zl 3 (by decide), fun p4 h4 => ⟨zl 1 (by decide), fun p5 h5 => ?_⟩⟩
  have u1 := z04 h1 (HO.tup [V.str "num", V.int (1 + z)])
  have u2 := z04 h2 (HO.tup [V.str "add", V.ref pn, V.ref p1])
  have u3 := z04 h3 (HO.tup [V.str "set", V.str x, V.ref p2])
  have u4 := z04 h4 (HO.tup [V.str "less", V.ref pn, V.ref pl])
  have u5 := z04 h5 (HO.tup [V.ref p3])
  have u05 := s08.trans (s9.trans (u1.trans (u2.trans (u3.trans (u4.trans u5)))))
  refine ⟨xs, SqT.of (u05 _ _ hab), [V.ref p3], SqT.of z01, by rw [List.length_singleton]; exact zl _ (by omega), fun h => absurd h hxs, fun _ h => absurd h (by simp), fun _ _ p6 h6 => ⟨zl 4 (by decide), fun p7 h7 => ?_⟩⟩
  have u6 := z04 h6 (HO.tup (xs ++ [V.ref p3]))
  have u67 := u6.trans (z04 h7 (HO.tup [V.str "while", V.ref p4, V.int mv, V.ref p6]))
  have u57 := u5.trans u67
  have dn : Dt (upd H4 pn (HO.tup [V.str "name", V.str x])) (.ref pn) (T.nm x).enc := .tup z01 (.cons (.str _) (.cons (.str _) .nil))
  have dl : Dt (upd H5 pl (HO.tup [V.str "num", V.int gv])) (.ref pl) (T.num gv).enc := .tup z01 (.cons (.str _) (.cons (.int _) .nil))
  have dz : Dt (upd H6 p1 (HO.tup [V.str "num", V.int (1 + z)])) (.ref p1) (T.num (1 + z)).enc := .tup z01 (.cons (.str _) (.cons (.int _) .nil))
  have s9u := s9.trans u1
  have da : Dt _ (.ref p2) (T.op .add (.nm x) (.num (1 + z))).enc := .tup (z01 (H := upd H6 p1 (HO.tup [V.str "num", V.int (1 + z)]))) (.cons (.str _) (.cons (dn.kp (s68.trans (s9u.trans u2)).kp) (.cons (dz.kp u2.kp) .nil)))
  have ds : Dt _ (.ref p3) (D.set x (T.op .add (.nm x) (.num (1 + z)))).enc := .tup z01 (.cons (.str _) (.cons (.str _) (.cons (da.kp u3.kp) .nil)))
  have de : Dt _ (.ref p4) (T.op .less (.nm x) (.num gv)).enc := .tup z01 (.cons (.str _) (.cons (dn.kp (s68.trans (s9u.trans (u2.trans (u3.trans u4)))).kp) (.cons (dl.kp (s9u.trans (u2.trans (u3.trans u4))).kp) .nil)))
  have dB : Dt _ (.ref p6) (.tup (zao b ++ [(D.set x (T.op .add (.nm x) (.num (1 + z)))).enc])) := .tup z01 ((hda.kp (u05.trans u6).kp).append (.cons (ds.kp (u4.trans (u5.trans u6)).kp) .nil))
  rw [show zao b ++ [(D.set x (T.op .add (.nm x) (.num (1 + z)))).enc] = zao (b ++ [D.set x (T.op .add (.nm x) (.num (1 + z)))]) by rw [z7q, zao, zao]] at dB
  have hz : -32768 ≤ 1 + z ∧ 1 + z ≤ 32767 := by omega
  refine q _ _ (.whl (.op .less (.nm x) (.num gv)) _ (b ++ [D.set x (T.op .add (.nm x) (.num (1 + z)))])) (u05.trans u67) (.tup z01 (.cons (.str _) (.cons (de.kp u57.kp) (.cons (.int _) (.cons (dB.kp (z04 h7 _).kp) .nil))))) ⟨⟨hg x hx, hgv2⟩, by omega, by omega, ?_⟩ (KnowsD.whl (n := 2) ⟨hx, hgv2⟩ (hkn.sub.snoc (KnowsD.set (n := 2) (g' := g) ⟨hx, hz⟩ fun y hy => .inl hy)))
  obtain ⟨d', rfl⟩ : ∃ d', d = d' + 1 := ⟨d - 1, by omega⟩
  refine ⟨by rw [List.length_append, List.length_singleton]; omega, fun c hc => ?_⟩
  rcases List.mem_append.mp hc with hc | hc
  ·exact hob.2 c hc
  ·have ec : c = D.set x (T.op .add (.nm x) (.num (1 + z))) := by simpa using hc
   subst ec
   exact ⟨hg x hx, ⟨hg x hx, hz⟩⟩
def zq4 : Nat → Nat
 | 1 => 1 | 2 => 2 | 3 => 6 | _ => 0
def zpi : Nat → Nat
 | 3 => 2 | _ => 1
theorem pg1 (d : Nat) : 1 ≤ zpi d := by unfold zpi; split <;> decide
theorem pgc {d j : Nat} (h1 : 1 ≤ d) (h3 : d ≤ 3) (hj : j ≤ d) : j * zpi d ≤ zq4 d := by
 have : d = 1 ∨ d = 2 ∨ d = 3 := by omega
 rcases this with rfl | rfl | rfl <;> simp only [zpi, zq4] <;> omega
theorem cgp {d : Nat} (h1 : 2 ≤ d) (h3 : d ≤ 3) : zq4 (d - 1) ≤ zpi d := by
 have : d = 2 ∨ d = 3 := by omega
 rcases this with rfl | rfl <;> decide
theorem cg6 (d : Nat) : zq4 d ≤ 6 := by unfold zq4; split <;> decide
theorem zxx {Hy C : Hp → Prop} {G : Prop} (h1 : (∀ Hx, Hy Hx → C Hx) → G) (h2 : ∀ Hx, Hy Hx → C Hx) : G := h1 h2
def zf9 (K : PySem.W.Frag) (n : Nat) : Sp := fun vs H Q _ => ∃ (a : Addr) (ns : List Int) (k : Int) (kn : Addr) (g : List Str) (d : Nat), vs = [.ref a, .int k, .ref kn, .int d] ∧ SqL K H a (ns.map V.int) ∧ 0 ≤ k ∧ H kn = some (.lst (g.map V.str)) ∧ Sub g pool ∧ 1 ≤ d ∧ d ≤ n ∧ d ≤ 3 ∧ g.length + 100 * d ≤ 900 ∧
 ∀ (r rb rk : Addr) (H' : Hp) (b : List D) (g' : List Str), Same H H' → H' r = some (.tup [.ref rb, .ref rk]) → Dt H' (.ref rb) (.tup (zao b)) → H' rk = some (.lst (g'.map V.str)) → okB d b → b.length ≤ d → b ≠ [] → Knows g b g' → Sub g' pool → g'.length ≤ g.length + zq4 d → (rk = kn ∨ H rk = none) → Q (.ref r) H'
def q2h (U3 : Hp) (kc : Addr) (g' : List Str) (x : Str) (i : Nat) (ys : List V) (σ' : St) (H' : Hp) : Prop := H' = U3 ∧ (∃ t, σ' = [t, some (.ref kc)]) ∧ ((i = 0 ∧ ys = []) ∨ (i = 1 ∧ ys = (if g'.contains x then [] else [x]).map V.str))
def q2g (U2 : Hp) (rk2 : Addr) (g1 g2 : List Str) (i : Nat) (ys : List V) (σ' : St) (H' : Hp) : Prop := H' = U2 ∧ (∃ t, σ' = [t, some (.ref rk2)]) ∧ ys = ((g1.take i).filter fun x => g2.contains x).map V.str
def q2j (H : Hp) (kn a : Addr) (k : Int) (d : Nat) (pd : Addr) (g : List Str) (j : Nat) (σ : St) (Hc : Hp) : Prop :=
 ∃ (kc : Addr) (vs : List V) (b : List D) (g' : List Str) (x5 x6 x7 x8 x9 x10 x11 x12 x13 : Option V), σ = [some (.ref a), some (.int k), some (.ref kc), some (.int d), some (.ref pd), x5, x6, x7, x8, x9, x10, x11, x12, x13] ∧
  Same H Hc ∧ Hc pd = some (.lst vs) ∧ DtA Hc vs (zao b) ∧ Hc kc = some (.lst (g'.map V.str)) ∧ kc ≠ pd ∧ Knows g b g' ∧ Sub g' pool ∧ b.length = j ∧ (∀ e ∈ b, okD (d - 1) e) ∧ g'.length ≤ g.length + j * zpi d ∧ (kc = kn ∨ H kc = none)
theorem zuc {n : Nat} (F : Fun K "_law_block" "_law_block" z0b f fd) (b_range : mg "range" = none) (b_tuple : mg "tuple" = none) (c_law_pick : Callee P w K mg base "_law_pick" ["_law_script", "_law_k", "_law_many"] 2 (zdx K))
  (c_law_sum : Callee P w K mg base "_law_sum" ["_law_script", "_law_at", "_law_known", "_law_deep"] 6 (zki K 3)) (c_law_counted : Callee P w K mg base "_law_counted" ["_law_script", "_law_at", "_law_known", "_law_body", "_law_deep"] 7 (zh0 K))
  (c_law_block : Callee P w K mg base "_law_block" ["_law_script", "_law_at", "_law_known", "_law_deep"] (n + 7) (zf9 K n)) : FnOk P w K mg base CX0 (n + 8) f fd ["_law_script", "_law_at", "_law_known", "_law_deep"] (zf9 K (n + 1)) := by
 refine F.ok sc_law_block (fun vs H Q E h => ?_) (fun cdv A outer s H vs Q E hr h => ?_)
 ·obtain ⟨a, ns, k, kn, g, d, rfl, _⟩ := h
  rfl
 obtain ⟨a, ns, k, kn, g, d, rfl, hS, h0, hk, hg, hd1, hd2, hd3, hgb, q⟩ := h
 refine ⟨_, (z06 (z1d (i := 4) sc_law_block.nd rfl z99 (z3h z03) (z05 rfl))
 (z06 (zcu PassesOwn.never rfl (zh7 zeg b_range (z07 (z17 z2e z02 (z1y c_law_pick hr (by omega) (z07 (z00 (i := 0) rfl z0o z09 z0a) (z07 (z00 (i := 1) rfl z6d z1u z1v) (z07 (z00 (i := 3) rfl z1t z3c z3d) z03))) z4o z1b)) z03)) (z1w (i := 5) sc_law_block.nd rfl zcl)
 (z06 (z1d (i := 6) sc_law_block.nd rfl z9v (z17 z2e (z17 zai z02 (z00 (i := 1) rfl z6d z1u z1v)) (z17 zai z02 (z17 z2e (z00 (i := 5) rfl zcc z4k z4l) z02))) (z05 rfl))
 (z06 (z1d (i := 7) sc_law_block.nd rfl zb2 (z1y c_law_pick hr (by omega) (z07 (z00 (i := 0) rfl z0o z09 z0a) (z07 (z00 (i := 6) rfl z18 z46 z47) (z07 z02 z03))) z4o z1b) (z05 rfl))
 (z08 (z2m (PW.pt (zr1 (z0c zkz (z00 (i := 7) rfl z64 zdd zdj) z02 (z0m _)) (zr1 (z0c zbd (z00 (i := 3) rfl z1t z3c z3d) z02 (z0m _)) (zo3 (z0c (gEq hr.units) (z00 (i := 2) rfl z0r z0z z11) (z3h z03) (z0m _)))))) (z06 (z1d (i := 8) sc_law_block.nd rfl z9s (z0w ix_list (z3h (z07 z0l (z07 z0l (z07 z0l (z07 z0l z03))))) (z1y c_law_pick hr (by omega) (z07 (z00 (i := 0) rfl z0o z09 z0a) (z07 (z17 z2e (z00 (i := 6) rfl z18 z46 z47) z02) (z07 z02 z03))) z4o z1b) (fun _ _ => rfl)) (z05 rfl))
 (z06 (z4v (ze1 PySem.F.plainAttrs_list PySem.F.slot_list_append PySem.F.type_list_append z4w (z00 (i := 4) rfl z2y z7a z7e) (z07 (z14 (z07 z0l (z07 (z00 (i := 8) rfl z5s z4y z51) (z07 (z1y c_law_sum hr (by omega) (z07 (z00 (i := 0) rfl z0o z09 z0a) (z07 (z17 z2e (z00 (i := 6) rfl z18 z46 z47) z02) (z07 (z00 (i := 2) rfl z0r z0z z11) (z07 z02 z03)))) z6j z7s) z03)))) z03)) (z05 rfl))
 (z08 (z1d (i := 2) sc_law_block.nd rfl z5k (z17 zyw (z00 (i := 2) rfl z0r z0z z11) (zfg ["_law_one", "_law_known"] [none, some 2] rfl (CompS.of (by rfl)) (zfe (z3h (z07 (z00 (i := 8) rfl z5s z4y z51) z03))) (fun _ _ _ _ _ => (z1w (i := 0) (show List.Nodup (["_law_one", "_law_known"] : List Str) from by decide +kernel) rfl (Or.inl rfl))) (fun _ _ _ _ _ => (zr4 (z0c (opK (r := ziq) (K := K) (zzj hr.units) rfl) (z00 (i := 0) rfl (by first | exact Or.inl rfl | exact Or.inr (Or.inl rfl) | exact Or.inr (Or.inr rfl)) z30 z31) (z00 (i := 1) rfl (by first | exact Or.inl rfl | exact Or.inr (Or.inl rfl) | exact Or.inr (Or.inr rfl)) z0z z11) (by with_unfolding_all rfl)))) (fun _ _ _ _ _ => (z00 (i := 0) rfl (by first | exact Or.inl rfl | exact Or.inr (Or.inl rfl) | exact Or.inr (Or.inr rfl)) z30 z31)))) (z05 rfl))))) (z08 (z2m (z0c zkz (z00 (i := 7) rfl z64 zdd zdj) z02 (z0m _)) (z06 (zo6 (z1y c_law_block hr (by omega) (z07 (z00 (i := 0) rfl z0o z09 z0a) (z07 (z17 z2e (z00 (i := 6) rfl z18 z46 z47) z02) (z07 (z00 (i := 2) rfl z0r z0z z11) (z07 (z17 ze2 (z00 (i := 3) rfl z1t z3c z3d) z02) z03)))) z4c z7b) (zcv (n := 2) rfl (z2d (z1w (i := 9) sc_law_block.nd rfl z98) (z2d (z1w (i := 10) sc_law_block.nd rfl z9t) z8g))))
 (z06 (zo6 (z1y c_law_block hr (by omega) (z07 (z00 (i := 0) rfl z0o z09 z0a) (z07 (z17 z2e (z00 (i := 6) rfl z18 z46 z47) z02) (z07 (z00 (i := 2) rfl z0r z0z z11) (z07 (z17 ze2 (z00 (i := 3) rfl z1t z3c z3d) z02) z03)))) z4c z7b) (zcv (n := 2) rfl (z2d (z1w (i := 11) sc_law_block.nd rfl z8n) (z2d (z1w (i := 12) sc_law_block.nd rfl z97) z8g))))
 (z06 (z4v (ze1 PySem.F.plainAttrs_list PySem.F.slot_list_append PySem.F.type_list_append z4w (z00 (i := 4) rfl z2y z7a z7e) (z07 (z14 (z07 z0l (z07 (z1y c_law_sum hr (by omega) (z07 (z00 (i := 0) rfl z0o z09 z0a) (z07 (z17 z2e (z00 (i := 6) rfl z18 z46 z47) z02) (z07 (z00 (i := 2) rfl z0r z0z z11) (z07 z02 z03)))) z6j z7s) (z07 (z00 (i := 9) rfl z90 zk3 zk8) (z07 (z00 (i := 11) rfl z8b zif zih) z03))))) z03)) (z05 rfl))
 (z08 (z1d (i := 2) sc_law_block.nd rfl z5k (zfg ["_law_one", "_law_yours"] [none, some 12] rfl (CompS.of (by rfl)) (zfe (z00 (i := 10) rfl z9k zlg zlo)) (fun _ _ _ _ _ => (z1w (i := 0) (show List.Nodup (["_law_one", "_law_yours"] : List Str) from by decide +kernel) rfl (Or.inl rfl))) (fun _ _ _ _ _ => (zr4 (z0c (opK (r := qIn) (K := K) (gIn hr.units) rfl) (z00 (i := 0) rfl (by first | exact Or.inl rfl | exact Or.inr (Or.inl rfl) | exact Or.inr (Or.inr rfl)) z30 z31) (z00 (i := 1) rfl (by first | exact Or.inl rfl | exact Or.inr (Or.inl rfl) | exact Or.inr (Or.inr rfl)) zk1 zk6) (by with_unfolding_all rfl)))) (fun _ _ _ _ _ => (z00 (i := 0) rfl (by first | exact Or.inl rfl | exact Or.inr (Or.inl rfl) | exact Or.inr (Or.inr rfl)) z30 z31))) (zp8 z8w)))))) (z06 (z1d (i := 13) sc_law_block.nd rfl z9u (z0w ix_tup (z1y c_law_block hr (by omega) (z07 (z00 (i := 0) rfl z0o z09 z0a) (z07 (z17 z2e (z00 (i := 6) rfl z18 z46 z47) z02) (z07 (z00 (i := 2) rfl z0r z0z z11) (z07 (z17 ze2 (z00 (i := 3) rfl z1t z3c z3d) z02) z03)))) z4c z7b) z02 (fun _ _ => rfl)) (z05 rfl))
 (z08 (z4v (ze1 PySem.F.plainAttrs_list PySem.F.slot_list_append PySem.F.type_list_append z4w (z00 (i := 4) rfl z2y z7a z7e) (z07 (z1y c_law_counted hr (by omega) (z07 (z00 (i := 0) rfl z0o z09 z0a) (z07 (z17 z2e (z00 (i := 6) rfl z18 z46 z47) z02) (z07 (z00 (i := 2) rfl z0r z0z z11) (z07 (z00 (i := 13) rfl z9l zbs zbx) (z07 (z00 (i := 3) rfl z1t z3c z3d) z03))))) z8s zhy) z03)) (z05 rfl)))))))))))
 (z08 (z0q (z14 (z07 (zml z62 zef b_tuple zc7 (z07 (z00 (i := 4) rfl z2y z7a z7e) z03) zc1 zc3) (z07 (z00 (i := 2) rfl z0r z0z z11) z03))))))), ?_⟩
 walk_at "rd"
 refine ⟨Nat.zero_le _, fun pd hpd => ?_⟩
 have s1 := z04 hpd (HO.lst [])
 refine ⟨a, ns, k, d, rfl, s1.seq hS, h0, by omega, fun i H2 i0 i1 s2 => ?_⟩
 have hnk : kn ≠ pd := z0h hk hpd
 refine ⟨_, rfl, by omega, by omega, ?_⟩
 refine zhr (lo := 0) (n := (1 + i).toNat) (q2j H kn a k d pd g) ?start ?step ?done
 case start => exact ⟨kn, [], [], g, none, none, none, none, none, none, none, none, none, rfl, s1.trans s2, s2 _ _ z01, .nil, (s1.trans s2) _ _ hk, hnk, Knows.nil g, hg, rfl, fun e he => absurd he (by simp), by omega, .inl rfl⟩
 case done =>
  rintro σ Hc ⟨kc, vs, b, g', x5, x6, x7, x8, x9, x10, x11, x12, x13, rfl, sc, hv, dv, hkc, hne, hkn, hg', hbl, hok, hgl, hkf⟩
  walk_at "rd"
  refine ⟨vs, .inl ⟨SqL.of hv, fun pb hpb => ⟨zl 2 (by decide), fun pr hpr => ?_⟩⟩⟩
  have sa := z04 hpb (HO.tup vs)
  have sb := z04 hpr (HO.tup [V.ref pb, V.ref kc])
  refine q pr pb kc _ b g' (sc.trans (sa.trans sb)) z01 (.tup (sb _ _ z01) (dv.kp (sa.trans sb).kp)) (sb _ _ (sa _ _ hkc)) ?_ (by omega) (fun z => by rw [z] at hbl; simp at hbl; omega) hkn hg' (Nat.le_trans hgl (Nat.add_le_add_left (pgc hd1 hd3 (by omega)) _)) hkf
  obtain ⟨d', rfl⟩ : ∃ d', d = d' + 1 := ⟨d - 1, by omega⟩
  exact ⟨by omega, fun e he => hok e he⟩
 case step =>
  rintro j σ Hc hj ⟨kc, vs, b, g', x5, x6, x7, x8, x9, x10, x11, x12, x13, rfl, sc, hv, dv, hkc, hne, hkn, hg', hbl, hok, hgl, hkf⟩
  have hjd : j < d := by omega
  have hg7 : g'.length ≤ g.length + 6 := Nat.le_trans hgl (Nat.add_le_add_left (Nat.le_trans (pgc hd1 hd3 (Nat.le_of_lt hjd)) (cg6 d)) _)
  have hvl : vs.length = j := by rw [dv.length, z7p, hbl]
  show zq9 _ (zq9 _ (zth _ _ _)) _ _ _
  refine zy1 fun Y Z eY eZ => ?_
  walk_at "rd"
  refine ⟨.inl ⟨by decide, by decide⟩, .inl ⟨by decide, by decide⟩, ?_⟩
  refine ⟨a, ns, _, 7, rfl, sc.seq hS, by omega, by decide, fun wy H3 w0 w1 s3 => ?_⟩
  walk_at "rd"
  refine zxx (Hy := fun Hx => Same H3 Hx) (C := ?cc) ?kk ?_
  case kk =>
   intro key
   split
   ·generalize hH : H3 = H3n
    exact key H3n (hH ▸ Same.refl _)
   ·split
    ·exact key H3 (Same.refl _)
    ·rename_i hd0
     refine ⟨Nat.zero_le _, fun pe hpe => ?_⟩
     have se := z04 hpe (HO.lst [])
     refine ⟨_, zzl (SqL.of (se _ _ (s3 _ _ hkc))) (zve hg') (SqL.of z01), ?_⟩
     replace s3 := s3.trans se
     generalize upd H3 pe (HO.lst []) = H3e at s3 se ⊢
     split
     ·exact key H3e se
     ·rename_i hne2
      rw [eZ]
      refine zba fun Y2 Z2 eY2 eZ2 => ?_
      walk_at "rd"
      split
      ·rw [eY2]
       refine z0f fun N1 e1 => ?_
       walk_at "rd"
       have hd4 : 2 ≤ d := by
        have : ¬ (d : Int) = 1 := hd0
        omega
       have ed : ((d : Int) - 1) = ((d - 1 : Nat) : Int) := by omega
       rw [ed]
       refine ⟨a, ns, _, kc, g', d - 1, rfl, (sc.trans s3).seq hS, by omega, s3 _ _ hkc, hg', by omega, by omega, by omega, by omega, fun r1 rb1 rk1 H4 b1 g1 s4 hr1 db1 hk1 ob1 lb1 nb1 kn1 sp1 gl1 kf1 => ?_⟩
       refine ⟨_, rfl, _, SqT.of hr1, rfl, _, _, rfl, _, _, rfl, rfl, ?_⟩
       have s34 := s3.trans s4
       rw [e1]
       refine z0f fun N2 e2 => ?_
       walk_at "rd"
       rw [ed]
       refine ⟨a, ns, _, kc, g', d - 1, rfl, (sc.trans s34).seq hS, by omega, s34 _ _ hkc, hg', by omega, by omega, by omega, by omega, fun r2 rb2 rk2 H5 b2 g2 s5 hr2 db2 hk2 ob2 lb2 nb2 kn2 sp2 gl2 kf2 => ?_⟩
       have s35 := s34.trans s5
       refine ⟨_, rfl, _, SqT.of hr2, rfl, _, _, rfl, _, _, rfl, rfl, ?_⟩
       rw [e2]
       refine z0f fun N3 e3 => ?_
       walk_at "rd"
       refine ⟨.inl ⟨rfl, _, SqL.of (s35 _ _ hv)⟩, ?_⟩
       refine ⟨a, ns, _, kc, g', 2, rfl, (sc.trans s35).seq hS, by omega, s35 _ _ hkc, hg', by decide, by decide, fun r3 H6 t3 s6 d3 k3 => ?_⟩
       refine ⟨zl 4 (by decide), fun pt hpt => ?_⟩
       have s7 := z04 hpt (HO.tup [V.str "if", r3, V.ref rb1, V.ref rb2])
       have s57 := s5.trans (s6.trans s7)
       have s67 := s6.trans s7
       have dt : Dt _ (.ref pt) (D.ite t3 b1 b2).enc := .tup z01 (.cons (.str _) (.cons (d3.kp s7.kp) (.cons (db1.kp s57.kp) (.cons (db2.kp s67.kp) .nil))))
       have s37 := s34.trans s57
       have n1 : rk1 ≠ pd := by
        rcases kf1 with z | z
        ·rw [z]; exact hne
        ·intro y; rw [y, s3 _ _ hv] at z; cases z
       have n2 : rk2 ≠ pd := by
        rcases kf2 with z | z
        ·rw [z]; exact hne
        ·intro y; rw [y, s34 _ _ hv] at z; cases z
       have m1 := s57 _ _ hk1
       have m2 := s67 _ _ hk2
       generalize upd H6 pt (HO.tup [V.str "if", r3, V.ref rb1, V.ref rb2]) = U at s7 s57 s67 dt s37 m1 m2 ⊢
       have hv7 := s37 _ _ hv
       refine ⟨vs, hv7, by rw [hvl]; exact z4h (by omega), ?_⟩
       have k8 : Kp U (upd U pd (HO.lst (vs ++ [V.ref pt]))) := Kp.set hv7
       have w1 : (upd U pd (HO.lst (vs ++ [V.ref pt]))) rk1 = some (.lst (g1.map V.str)) := by rw [z0e n1]; exact m1
       have w2 : (upd U pd (HO.lst (vs ++ [V.ref pt]))) rk2 = some (.lst (g2.map V.str)) := by rw [z0e n2]; exact m2
       have vU2 : (upd U pd (HO.lst (vs ++ [V.ref pt]))) pd = some (.lst (vs ++ [V.ref pt])) := z01
       have sU2 : Same H (upd U pd (HO.lst (vs ++ [V.ref pt]))) := z7y (sc.trans s37) hpd
       generalize upd U pd (HO.lst (vs ++ [V.ref pt])) = U2 at k8 w1 w2 vU2 sU2 ⊢
       rw [e3]
       walk_at "rd"
       refine ⟨⟨_, SqL.of w1⟩, ?_⟩
       have hg1 : g1.length ≤ 900 := by
        have := cg6 (d - 1)
        omega
       refine zev (K := K) (a := rk1) (xs := g1.map V.str) (q2g U2 rk2 g1 g2) ⟨rfl, ⟨none, rfl⟩, by simp⟩ (by rw [List.length_map]; exact z4h (by omega)) ?_ ?_ ?_ ?_
       ·rintro i ys σ' H' ⟨_, _, rfl⟩
        rw [List.length_map]
        exact Nat.le_trans (List.length_filter_le _ _) (by rw [List.length_take]; omega)
       ·rintro i ys σ' H' _ ⟨rfl, _, _⟩
        exact SqL.of w1
       ·rintro i ys v σ' H' hxi ⟨rfl, ⟨t, rfl⟩, rfl⟩
        rw [List.getElem?_map] at hxi
        cases hx : g1[i]? with
        | none => rw [hx] at hxi; cases hxi
        | some x =>
         rw [hx] at hxi
         have ev : V.str x = v := by simpa using hxi
         subst ev
         walk_at "rd"
         refine ⟨inV (.str x) (g2.map V.str), .inl ⟨rk2, _, rfl, .inl (SqL.of w2), rfl, zlb g2, rfl⟩, ?_⟩
         rw [zgn]
         have et : g1.take (i + 1) = g1.take i ++ [x] := by rw [List.take_add_one, hx]; rfl
         cases hc : g2.contains x with
         | true => exact ⟨rfl, ⟨_, rfl⟩, by rw [et, List.filter_append, List.map_append, List.filter_cons, hc]; rfl⟩
         | false => exact ⟨rfl, ⟨_, rfl⟩, by rw [et, List.filter_append, List.map_append, List.filter_cons, hc]; simp⟩
       ·rintro ys σ' H' ⟨rfl, _, rfl⟩ pc hpc
        rw [List.length_map, List.take_length]
        have sa := z04 hpc (HO.lst ((g1.filter fun x => g2.contains x).map V.str))
        have hnp : pc ≠ pd := fun z => by rw [z, vU2] at hpc; cases hpc
        have hlf : (g1.filter fun x => g2.contains x).length ≤ g1.length := List.length_filter_le _ _
        refine ⟨pc, vs ++ [V.ref pt], b ++ [D.ite t3 b1 b2], g1.filter fun x => g2.contains x, _, _, _, _, _, _, _, _, _, rfl, sU2.trans sa, sa _ _ vU2, ?_, z01, hnp, hkn.snoc (KnowsD.ite k3 kn1 kn2 ?_), ?_, by rw [List.length_append, List.length_singleton, hbl], ?_, ?_, .inr (sU2.free hpc)⟩
        ·rw [z7q]
         exact (dv.kp (s37.kp.trans (k8.trans sa.kp))).append (.cons (dt.kp (k8.trans sa.kp)) .nil)
        ·intro y hy
         have := List.mem_filter.mp hy
         exact ⟨this.1, by simpa using this.2⟩
        ·exact fun y hy => sp1 y (List.mem_filter.mp hy).1
        ·intro c hc
         rcases List.mem_append.mp hc with hc | hc
         ·exact hok c hc
         ·have ec : c = D.ite t3 b1 b2 := by simpa using hc
          subst ec
          exact ⟨k3.mono hg' (by decide), ob1, ob2⟩
        ·rw [Nat.succ_mul]
         have := cgp hd4 hd3
         omega
      ·rw [eZ2]
       refine z0f fun N1 e1 => ?_
       walk_at "rd"
       have hd4 : 2 ≤ d := by
        have : ¬ (d : Int) = 1 := hd0
        omega
       have ed : ((d : Int) - 1) = ((d - 1 : Nat) : Int) := by omega
       rw [ed]
       have hgn : g' ≠ [] := fun z => hne2 (by rw [z]; rfl)
       refine ⟨a, ns, _, kc, g', d - 1, rfl, (sc.trans s3).seq hS, by omega, s3 _ _ hkc, hg', by omega, by omega, by omega, by omega, fun r1 rb1 rk1 H4 b1 g1 s4 hr1 db1 hk1 ob1 lb1 nb1 kn1 sp1 gl1 kf1 => ?_⟩
       have s34 := s3.trans s4
       refine ⟨_, rfl, _, SqT.of hr1, _, rfl, ?_⟩
       rw [e1]
       walk_at "rd"
       refine ⟨.inl ⟨rfl, _, SqL.of (s34 _ _ hv)⟩, ?_⟩
       refine ⟨a, ns, _, kc, g', g1, _, b1, d - 1, d, rfl, (sc.trans s34).seq hS, by omega, s34 _ _ hkc, hg', hgn, db1, ob1, by omega, nb1, kn1, by omega, fun r2 H5 e2 s5 de2 oe2 ke2 => ?_⟩
       have s35 := s34.trans s5
       refine ⟨vs, s35 _ _ hv, by rw [hvl]; exact z4h (by omega), ?_⟩
       have k8 : Kp H5 (upd H5 pd (HO.lst (vs ++ [r2]))) := Kp.set (s35 _ _ hv)
       refine ⟨kc, vs ++ [r2], b ++ [e2], g', _, _, _, _, _, _, _, _, _, rfl, z7y (sc.trans s35) hpd, z01, ?_, by rw [z0e hne]; exact s35 _ _ hkc, hne, hkn.snoc ke2, hg', by rw [List.length_append, List.length_singleton, hbl], ?_, ?_, hkf⟩
       ·rw [z7q]
        exact (dv.kp (s35.kp.trans k8)).append (.cons (de2.kp k8) .nil)
       ·intro c hc
        rcases List.mem_append.mp hc with hc | hc
        ·exact hok c hc
        ·have ec : c = e2 := by simpa using hc
         subst ec
         exact oe2
       ·rw [Nat.succ_mul]
        omega
  intro Hx sx
  replace s3 := s3.trans sx
  rw [eY]
  refine z0f fun N1 e1 => ?_
  walk_at "rd"
  refine ⟨zl 4 (by decide), fun pm hpm => ?_⟩
  have s4 := z04 hpm (HO.lst [V.str "a", V.str "b", V.str "c", V.str "dd"])
  refine ⟨a, ns, _, 4, rfl, ((sc.trans s3).trans s4).seq hS, by omega, by decide, fun m H4 m0 m1 s5 => ?_⟩
  obtain ⟨x, hx, e⟩ := zad (c := V.str) (ns := pool) (k := m) m0 m1
  have s35 := s3.trans (s4.trans s5)
  refine ⟨_, _, rfl, SqL.of (s5 _ _ z01), _, e, ?_⟩
  rw [e1]
  refine z0f fun N2 e2 => ?_
  walk_at "rd"
  refine ⟨.inl ⟨rfl, _, SqL.of (s35 _ _ hv)⟩, ?_⟩
  refine ⟨a, ns, _, kc, g', 3, rfl, (sc.trans s35).seq hS, by omega, s35 _ _ hkc, hg', by decide, by decide, fun r1 H5 t1 s6 d1 k1 => ?_⟩
  refine ⟨zl 3 (by decide), fun pt hpt => ?_⟩
  have s7 := z04 hpt (HO.tup [V.str "set", V.str x, r1])
  have dt : Dt _ (.ref pt) (D.set x t1).enc := .tup z01 (.cons (.str _) (.cons (.str _) (.cons (d1.kp s7.kp) .nil)))
  have s37 := s35.trans (s6.trans s7)
  generalize upd H5 pt (HO.tup [V.str "set", V.str x, r1]) = U at s7 dt s37 ⊢
  have hv7 := s37 _ _ hv
  refine ⟨vs, hv7, by rw [hvl]; exact z4h (by omega), ?_⟩
  rw [e2]
  walk_at "rd"
  refine ⟨zl 1 (by decide), fun pl hpl => ?_⟩
  have k8 : Kp U (upd U pd (HO.lst (vs ++ [V.ref pt]))) := Kp.set hv7
  have kU2 : (upd U pd (HO.lst (vs ++ [V.ref pt]))) kc = some (.lst (g'.map V.str)) := by rw [z0e hne]; exact s37 _ _ hkc
  have vU2 : (upd U pd (HO.lst (vs ++ [V.ref pt]))) pd = some (.lst (vs ++ [V.ref pt])) := z01
  have sU2 : Same H (upd U pd (HO.lst (vs ++ [V.ref pt]))) := z7y (sc.trans s37) hpd
  generalize upd U pd (HO.lst (vs ++ [V.ref pt])) = U2 at k8 kU2 vU2 sU2 hpl ⊢
  have s9 := z04 hpl (HO.lst [V.str x])
  have hU3 : (upd U2 pl (HO.lst [V.str x])) pl = some (.lst [V.str x]) := z01
  generalize upd U2 pl (HO.lst [V.str x]) = U3 at s9 hU3 ⊢
  refine ⟨⟨_, SqL.of hU3⟩, ?_⟩
  refine zev (K := K) (a := pl) (xs := [V.str x]) (q2h U3 kc g' x) ⟨rfl, ⟨none, rfl⟩, .inl ⟨rfl, rfl⟩⟩ (z4h (by show 1 ≤ 1000; decide)) ?_ ?_ ?_ ?_
  ·rintro i ys σ' H' ⟨_, _, h⟩
   rcases h with ⟨rfl, rfl⟩ | ⟨rfl, rfl⟩
   ·exact Nat.le_refl _
   ·split <;> simp
  ·rintro i ys σ' H' _ ⟨rfl, _, _⟩
   exact SqL.of hU3
  ·rintro i ys v σ' H' hxi ⟨rfl, ⟨t, rfl⟩, h⟩
   rcases h with ⟨rfl, rfl⟩ | ⟨rfl, rfl⟩
   ·have ev : V.str x = v := by simpa using hxi
    subst ev
    walk_at "rd"
    refine ⟨!inV (.str x) (g'.map V.str), .inl ⟨kc, _, rfl, .inl (SqL.of (s9 _ _ kU2)), rfl, zlb g', rfl⟩, ?_⟩
    rw [zgn]
    cases hc : g'.contains x with
    | true => exact ⟨rfl, ⟨_, rfl⟩, .inr ⟨rfl, by rw [hc]; rfl⟩⟩
    | false => exact ⟨rfl, ⟨_, rfl⟩, .inr ⟨rfl, by rw [hc]; rfl⟩⟩
   ·simp at hxi
  ·rintro ys σ' H' ⟨rfl, _, h⟩ pc hpc
   rcases h with ⟨h, _⟩ | ⟨_, rfl⟩
   ·exact absurd h (by simp)
   have sa := z04 hpc (HO.lst ((if g'.contains x then [] else [x]).map V.str))
   refine ⟨_, rfl, _, sa _ _ (s9 _ _ kU2), _, z01, ?_, fun pk hpk => ?_⟩
   ·have e1 : ((if g'.contains x then [] else [x]).map V.str).length ≤ 1 := by split <;> simp
    rw [List.length_map]
    exact zl _ (by omega)
   ·have sb := z04 hpk (HO.lst (g'.map V.str ++ (if g'.contains x then [] else [x]).map V.str))
    have s9b := s9.trans (sa.trans sb)
    have hnp : pk ≠ pd := fun z => by
     have := (s9.trans sa) _ _ vU2
     rw [← z, hpk] at this
     cases this
    refine ⟨pk, vs ++ [V.ref pt], b ++ [D.set x t1], g' ++ (if g'.contains x then [] else [x]), _, _, _, _, _, _, _, _, _, rfl, sU2.trans s9b, s9b _ _ vU2, ?_, ?_, hnp, hkn.snoc (KnowsD.set k1 ?_), ?_, by rw [List.length_append, List.length_singleton, hbl], ?_, ?_, .inr ((sU2.trans (s9.trans sa)).free hpk)⟩
    ·rw [z7q]
     exact (dv.kp (s37.kp.trans (k8.trans s9b.kp))).append (.cons (dt.kp (k8.trans s9b.kp)) .nil)
    ·rw [z01, List.map_append]
    ·intro y hy
     rcases List.mem_append.mp hy with hy | hy
     ·exact .inl hy
     ·cases hc : g'.contains x with
      | true => rw [hc] at hy; simp at hy
      | false => rw [hc] at hy; simp at hy; exact .inr hy
    ·intro y hy
     rcases List.mem_append.mp hy with hy | hy
     ·exact hg' y hy
     ·cases hc : g'.contains x with
      | true => rw [hc] at hy; simp at hy
      | false => rw [hc] at hy; simp at hy; rw [hy]; exact hx
    ·intro c hc
     rcases List.mem_append.mp hc with hc | hc
     ·exact hok c hc
     ·have ec : c = D.set x t1 := by simpa using hc
      subst ec
      exact ⟨hx, k1.mono hg' (by decide)⟩
    ·have e1 : (if g'.contains x then [] else [x]).length ≤ 1 := by split <;> simp
     rw [List.length_append, Nat.succ_mul]
     have := pg1 d
     omega
theorem zps {k : Nat} : FnOk P w K mg base CX0 k f fd ["_law_script", "_law_at", "_law_known", "_law_deep"] (zf9 K 0) := by
 have no : ∀ vs H Q E, ¬ zf9 K 0 vs H Q E := fun vs H Q E h => by
  obtain ⟨a, ns, k, kn, g, d, _, _, _, _, _, h1, h2, _⟩ := h
  omega
 exact ⟨fun vs H Q E h => absurd h (no vs H Q E), fun A outer s H args us vs Q E _ _ _ _ h => absurd h (no vs H Q E)⟩
theorem zlz (dd : Df K mg "_law_block" z0b ["_law_script", "_law_at", "_law_known", "_law_deep"] f fd) (b_range : mg "range" = none) (b_tuple : mg "tuple" = none) (c_law_pick : Callee P w K mg base "_law_pick" ["_law_script", "_law_k", "_law_many"] 2 (zdx K))
  (c_law_sum : Callee P w K mg base "_law_sum" ["_law_script", "_law_at", "_law_known", "_law_deep"] 6 (zki K 3)) (c_law_counted : Callee P w K mg base "_law_counted" ["_law_script", "_law_at", "_law_known", "_law_body", "_law_deep"] 7 (zh0 K)) :
  ∀ n : Nat, Callee P w K mg base "_law_block" ["_law_script", "_law_at", "_law_known", "_law_deep"] (n + 7) (zf9 K n)
 | 0 => dd.callee zps
 | n + 1 => dd.callee (zuc dd.F b_range b_tuple c_law_pick c_law_sum c_law_counted (zlz dd b_range b_tuple c_law_pick c_law_sum c_law_counted n))
abbrev Rw := Str × Int × Int
def z70 (r : Rw) : Dm := .tup [.str r.1, .int r.2.1, .int r.2.2]
def pair : List Str := ["a", "b"]
def q2e (H : Hp) (a : Addr) (k : Int) (pi : Addr) (j : Nat) (σ : St) (Hc : Hp) : Prop := ∃ (vs : List V) (rows : List Rw) (x3 x4 : Option V), σ = [some (.ref a), some (.int k), some (.ref pi), x3, x4] ∧ Same H Hc ∧ Hc pi = some (.lst vs) ∧ DtA Hc vs (rows.map z70) ∧ rows.length = j ∧ rows.map (·.1) = pair.take j ∧ ∀ r ∈ rows, -6 ≤ r.2.1 ∧ r.2.1 ≤ r.2.2 ∧ r.2.2 ≤ 8
def q2d (U : Hp) (rows : List Rw) (i : Nat) (ys : List V) (σ' : St) (H' : Hp) : Prop := H' = U ∧ (∃ t, σ' = [t]) ∧ ys = (rows.take i).map fun r => V.str r.1
structure okRows (rows : List Rw) : Prop where
 len : rows.length ≤ 2
 nm : rows.map (·.1) = pair.take rows.length
 lo : ∀ r ∈ rows, -6 ≤ r.2.1 ∧ r.2.1 ≤ r.2.2 ∧ r.2.2 ≤ 8
def zkk (K : PySem.W.Frag) : Sp := fun vs H Q _ => ∃ (a : Addr) (ns : List Int) (k : Int), vs = [.ref a, .int k] ∧ SqL K H a (ns.map V.int) ∧ 0 ≤ k ∧
 ∀ (r ri rb : Addr) (H' : Hp) (rows : List Rw) (b : List D) (g' : List Str), Same H H' → H' r = some (.tup [.ref ri, .ref rb]) → Dt H' (.ref ri) (.tup (rows.map z70)) → Dt H' (.ref rb) (.tup (zao b)) → okRows rows → okB 3 b → b.length ≤ 3 → b ≠ [] → Knows (rows.map (·.1)) b g' → Q (.ref r) H'
theorem zpo (F : Fun K "_law_program" "_law_program" z0v f fd) (b_range : mg "range" = none) (b_tuple : mg "tuple" = none) (c_law_pick : Callee P w K mg base "_law_pick" ["_law_script", "_law_k", "_law_many"] 2 (zdx K))
  (c_law_block : Callee P w K mg base "_law_block" ["_law_script", "_law_at", "_law_known", "_law_deep"] 10 (zf9 K 3)) : FnOk P w K mg base CX0 11 f fd ["_law_script", "_law_at"] (zkk K) := by
 refine F.ok sc_law_program (fun vs H Q E h => ?_) (fun cdv A outer s H vs Q E hr h => ?_)
 ·obtain ⟨a, ns, k, rfl, _⟩ := h
  rfl
 obtain ⟨a, ns, k, rfl, hS, h0, q⟩ := h
 refine ⟨_, (z06 (z1d (i := 2) sc_law_program.nd rfl z96 (z3h z03) (z05 rfl))
 (z06 (zcu PassesOwn.never rfl (zh7 zcp b_range (z07 (z1y c_law_pick hr (by omega) (z07 (z00 (i := 0) rfl z2c z09 z0a) (z07 (z00 (i := 1) rfl z37 z1u z1v) (z07 z02 z03))) z44 z1b) z03)) (z1w (i := 3) sc_law_program.nd rfl zaz)
 (z06 (z1d (i := 4) sc_law_program.nd rfl z95 (z17 ze2 (z1y c_law_pick hr (by omega) (z07 (z00 (i := 0) rfl z2c z09 z0a) (z07 (z17 z2e (z17 z2e (z00 (i := 1) rfl z37 z1u z1v) z02) (z17 zai z02 (z00 (i := 3) rfl z4n z4k z4l))) (z07 z02 z03))) z44 z1b) z02) (z05 rfl))
 (z08 (z4v (ze1 PySem.F.plainAttrs_list PySem.F.slot_list_append PySem.F.type_list_append z4w (z00 (i := 2) rfl z41 zdf zdl) (z07 (z14 (z07 (z0w ix_list (z3h (z07 z0l (z07 z0l z03))) (z00 (i := 3) rfl z4n z4k z4l) (fun _ _ => rfl)) (z07 (z00 (i := 4) rfl z5h zde zdk) (z07 (z17 z2e (z00 (i := 4) rfl z5h zde zdk) (z1y c_law_pick hr (by omega) (z07 (z00 (i := 0) rfl z2c z09 z0a) (z07 (z17 z2e (z17 z2e (z00 (i := 1) rfl z37 z1u z1v) z02) (z17 zai z02 (z00 (i := 3) rfl z4n z4k z4l))) (z07 z02 z03))) z44 z1b)) z03)))) z03)) (z05 rfl)))))
 (z08 (z0q (z14 (z07 (zml z62 zco b_tuple zc7 (z07 (z00 (i := 2) rfl z41 zdf zdl) z03) zc1 zc3) (z07 (z0w ix_tup (z1y c_law_block hr (by omega) (z07 (z00 (i := 0) rfl z2c z09 z0a) (z07 (z17 z2e (z00 (i := 1) rfl z37 z1u z1v) z02) (z07 (zfg ["_law_row"] [none] rfl (CompS.of (by rfl)) (zfe (z00 (i := 2) rfl z41 zdf zdl)) (fun _ _ _ _ _ => (z1w (i := 0) (show List.Nodup (["_law_row"] : List Str) from by decide +kernel) rfl (Or.inl rfl))) (fun _ _ _ _ _ => zjg) (fun _ _ _ _ _ => (z0w (ixK (r := ztj) (K := K) ix_tup rfl) (z00 (i := 0) rfl (by first | exact Or.inl rfl | exact Or.inr (Or.inl rfl) | exact Or.inr (Or.inr rfl)) zhu zhz) z02 (fun _ _ => rfl)))) (z07 z02 z03)))) z8r z7b) z02 (fun _ _ => rfl)) z03))))))), ?_⟩
 walk_at "rd"
 refine ⟨Nat.zero_le _, fun pi hpi => ?_⟩
 have s1 := z04 hpi (HO.lst [])
 refine ⟨a, ns, k, 3, rfl, s1.seq hS, h0, by decide, fun i H2 i0 i1 s2 => ?_⟩
 refine ⟨_, rfl, by omega, by omega, ?_⟩
 refine zhr (lo := 0) (n := i.toNat) (q2e H a k pi) ?start ?step ?done
 case start => exact ⟨[], [], none, none, rfl, s1.trans s2, s2 _ _ z01, .nil, rfl, rfl, fun r hr => absurd hr (by simp)⟩
 case step =>
  rintro j σ Hc hj ⟨vs, rows, x3, x4, rfl, sc, hv, dv, hl, hnm, hlo⟩
  have hvl : vs.length = j := by rw [dv.length, List.length_map, hl]
  walk_at "rd"
  refine ⟨.inl ⟨by decide, by decide⟩, ?_⟩
  refine ⟨a, ns, _, 13, rfl, sc.seq hS, by omega, by decide, fun lo H3 l0 l1 s3 => ?_⟩
  walk_at "rd"
  refine ⟨.inl ⟨rfl, _, SqL.of (s3 _ _ hv)⟩, zl 2 (by decide), fun pm hpm => ?_⟩
  have s4 := z04 hpm (HO.lst [V.str "a", V.str "b"])
  have hj2 : j = 0 ∨ j = 1 := by omega
  obtain ⟨x, ex, et⟩ : ∃ x : Str, atI (pair.map V.str) (0 + (j : Int)) = some (V.str x) ∧ pair.take (j + 1) = pair.take j ++ [x] := by
   rcases hj2 with rfl | rfl
   ·exact ⟨"a", rfl, rfl⟩
   ·exact ⟨"b", rfl, rfl⟩
  refine ⟨_, SqL.of z01, _, ex, .inl ⟨by decide, by decide⟩, ?_⟩
  refine ⟨a, ns, _, 3, rfl, ((sc.trans s3).trans s4).seq hS, by omega, by decide, fun z H4 z0 z1 s5 => ?_⟩
  refine ⟨_, rfl, zl 3 (by decide), fun pt hpt => ?_⟩
  have s6 := z04 hpt (HO.tup [V.str x, V.int (lo - 6), V.int (lo - 6 + z)])
  have dt : Dt (upd H4 pt (HO.tup [V.str x, V.int (lo - 6), V.int (lo - 6 + z)])) (.ref pt) (z70 (x, lo - 6, lo - 6 + z)) := .tup z01 (.cons (.str _) (.cons (.int _) (.cons (.int _) .nil)))
  have s36 := s3.trans (s4.trans (s5.trans s6))
  generalize upd H4 pt (HO.tup [V.str x, V.int (lo - 6), V.int (lo - 6 + z)]) = U at s6 dt s36 ⊢
  refine ⟨vs, s36 _ _ hv, by rw [hvl]; exact z4h (by omega), ?_⟩
  have k8 : Kp U (upd U pi (HO.lst (vs ++ [V.ref pt]))) := Kp.set (s36 _ _ hv)
  refine ⟨vs ++ [V.ref pt], rows ++ [(x, lo - 6, lo - 6 + z)], _, _, rfl, z7y (sc.trans s36) hpi, z01, ?_, by rw [List.length_append, List.length_singleton, hl], ?_, ?_⟩
  ·rw [List.map_append]
   exact (dv.kp (s36.kp.trans k8)).append (.cons (dt.kp k8) .nil)
  ·rw [List.map_append, hnm, et]; rfl
  ·intro r hr'
   rcases List.mem_append.mp hr' with hr' | hr'
   ·exact hlo r hr'
   ·have er : r = (x, lo - 6, lo - 6 + z) := by simpa using hr'
    subst er
    show -6 ≤ lo - 6 ∧ lo - 6 ≤ lo - 6 + z ∧ lo - 6 + z ≤ 8
    omega
 case done =>
  rintro σ Hc ⟨vs, rows, x3, x4, rfl, sc, hv, dv, hl, hnm, hlo⟩
  walk_at "rd"
  have hvl : vs.length = i.toNat := by rw [dv.length, List.length_map, hl]
  refine ⟨vs, .inl ⟨SqL.of hv, fun pb hpb => ?_⟩⟩
  have sa := z04 hpb (HO.tup vs)
  have dti : Dt _ (.ref pb) (.tup (rows.map z70)) := .tup z01 (dv.kp sa.kp)
  have hv2 := sa _ _ hv
  have dvU := dv.kp sa.kp
  generalize upd Hc pb (HO.tup vs) = U at sa dti hv2 dvU ⊢
  refine ⟨⟨_, SqL.of hv2⟩, ?_⟩
  refine zev (K := K) (a := pi) (xs := vs) (q2d U rows) ⟨rfl, ⟨none, rfl⟩, rfl⟩ (by rw [hvl]; exact z4h (by omega)) ?_ ?_ ?_ ?_
  ·rintro i ys σ' H' ⟨_, _, rfl⟩
   rw [List.length_map, List.length_take]
   omega
  ·rintro i ys σ' H' _ ⟨rfl, _, _⟩
   exact SqL.of hv2
  ·rintro i' ys v σ' H' hxi ⟨rfl, ⟨t, rfl⟩, rfl⟩
   obtain ⟨d, hd, dd⟩ := dvU.get hxi
   rw [List.getElem?_map] at hd
   cases hr' : rows[i']? with
   | none => rw [hr'] at hd; cases hd
   | some r =>
    rw [hr'] at hd
    have ed : z70 r = d := by simpa using hd
    subst ed
    obtain ⟨pa, xs, rfl, hpa, da⟩ := dd.tupI
    rcases da with _ | ⟨d1, _ | ⟨d3, _ | ⟨d5, _ | _⟩⟩⟩
    ·cases d1
     walk_at "rd"
     refine ⟨_, SqT.of hpa, _, rfl, rfl, ⟨_, rfl⟩, ?_⟩
     rw [List.take_add_one, hr', List.map_append]
     rfl
  ·rintro ys σ' H' ⟨rfl, _, rfl⟩ pc hpc
   rw [show vs.length = rows.length by rw [hvl, hl], List.take_length]
   have sb := z04 hpc (HO.lst (rows.map fun r => V.str r.1))
   have hsub : Sub (rows.map (·.1)) pool := by
    rw [hnm]
    intro y hy
    have := List.mem_of_mem_take hy
    simp only [pair, List.mem_cons, List.not_mem_nil, or_false] at this
    rcases this with rfl | rfl <;> decide +kernel
   refine ⟨a, ns, k + 9, pc, rows.map (·.1), 3, rfl, (sc.trans (sa.trans sb)).seq hS, by omega, ?_, hsub, by decide, by decide, by decide, by rw [List.length_map]; omega, fun r rb rk H5 b g' s5 hr' db hkk ob lb nb kn sp gl kf => ?_⟩
   ·rw [z01, List.map_map]; rfl
   ·refine ⟨_, rfl, _, SqT.of hr', _, rfl, zl 2 (by decide), fun pr hpr => ?_⟩
    have sc2 := z04 hpr (HO.tup [V.ref pb, V.ref rb])
    exact q pr pb rb _ rows b g' (sc.trans (sa.trans (sb.trans (s5.trans sc2)))) z01 (dti.kp (sb.trans (s5.trans sc2)).kp) (db.kp sc2.kp) ⟨by omega, by rw [hnm, hl], hlo⟩ ob lb nb kn
end
section
variable {P : Program} {w : World} {K : PySem.W.Frag} {mg : Str → Option Value} {base : Heap} {f : Addr} {fd : FuncData}
def tyD : Dm → String
 | .non => "NoneType" | .bl _ => "bool" | .int _ => "int" | .str _ => "str" | .tup _ => "tuple" | .lst => "list"
theorem q0o {H : Hp} {v : V} {d : Dm} (h : Dt H v d) : TyOf K H v (.type (tyD d)) := by
 cases h with
 | non => exact .non
 | bl b => exact .bl b
 | int i => exact .int i
 | str x => exact .str x
 | tup e _ => exact .tup e
 | lst e => exact .lst e
def isT : Dm → Bool
 | .tup _ => true
 | _ => false
def isI : Dm → Bool
 | .int _ => true
 | .bl _ => true
 | _ => false
def isB : Dm → Bool
 | .bl _ => true
 | _ => false
theorem zpx {H : Hp} {v : V} {d : Dm} (h : Dt H v d) : ∃ t, TyOf K H v t ∧ PySem.W.kitOne K t (.type "tuple") = some (isT d) := ⟨_, q0o h, by cases d <;> rfl⟩
theorem zqj {H : Hp} {v : V} {a b : Dm} (h : Dt H v (.tup [a, b])) : ∃ p x y, v = .ref p ∧ H p = some (.tup [x, y]) ∧ Dt H x a ∧ Dt H y b := by
 obtain ⟨p, xs, rfl, e, r⟩ := h.tupI
 rcases r with _ | ⟨r1, _ | ⟨r2, _ | _⟩⟩
 exact ⟨p, _, _, rfl, e, r1, r2⟩
theorem zqi {H : Hp} {v : V} {a b c : Dm} (h : Dt H v (.tup [a, b, c])) : ∃ p x y z, v = .ref p ∧ H p = some (.tup [x, y, z]) ∧ Dt H x a ∧ Dt H y b ∧ Dt H z c := by
 obtain ⟨p, xs, rfl, e, r⟩ := h.tupI
 rcases r with _ | ⟨r1, _ | ⟨r2, _ | ⟨r3, _ | _⟩⟩⟩
 exact ⟨p, _, _, _, rfl, e, r1, r2, r3⟩
theorem q07 {H : Hp} {v : V} {a b c d : Dm} (h : Dt H v (.tup [a, b, c, d])) : ∃ p x y z u, v = .ref p ∧ H p = some (.tup [x, y, z, u]) ∧ Dt H x a ∧ Dt H y b ∧ Dt H z c ∧ Dt H u d := by
 obtain ⟨p, xs, rfl, e, r⟩ := h.tupI
 rcases r with _ | ⟨r1, _ | ⟨r2, _ | ⟨r3, _ | ⟨r4, _ | _⟩⟩⟩⟩
 exact ⟨p, _, _, _, _, rfl, e, r1, r2, r3, r4⟩
def eqS (d : Dm) (z : Str) : Bool := match d with
 | .str x => decide (x = z)
 | _ => false
def D.term : D → T
 | .set _ t => t
 | .ite t _ _ => t
 | .whl t _ _ => t
theorem Wd.ne (w : Wd) : eqS (.str w.str) "num" = false ∧ eqS (.str w.str) "name" = false := by cases w <;> decide +kernel
theorem zbb {α : Type} {l : List α} {i : Nat} {x : α} (h : l[i]? = some x) : l.take (i + 1) = l.take i ++ [x] := by
 rw [List.take_add_one, h]; rfl
theorem zvk {H : Hp} : ∀ p : List Int, DtA H (p.map V.int) (p.map Dm.int)
 | [] => .nil
 | i :: p => .cons (.int i) (zvk p)
theorem zka {K : PySem.W.Frag} {H : Hp} {Q : VK} {x y : V} {p q : List Int} (dx : Dt H x (z3i p)) (dy : Dt H y (z3i q)) (hz : p.length + q.length ≤ 1000) (h : ∀ z H', Same H H' → Dt H' z (z3i (p ++ q)) → Q z H') : zfx K x y H Q := by
 obtain ⟨a, xs, rfl, ha, da⟩ := dx.tupI
 obtain ⟨b, ys, rfl, hb, db⟩ := dy.tupI
 have ea := zk0 da
 have eb := zk0 db
 subst ea eb
 refine ⟨a, b, _, _, rfl, rfl, SqT.of ha, SqT.of hb, ?_, fun e => ?_, fun _ e => ?_, fun _ _ r hr => ?_⟩
 ·rw [List.length_map, List.length_map]
  exact Nat.le_of_lt (z4h hz)
 ·have : p = [] := by simpa using e
  subst this
  exact h _ _ (Same.refl _) dy
 ·have : q = [] := by simpa using e
  subst this
  rw [List.append_nil] at h
  exact h _ _ (Same.refl _) dx
 ·refine h _ _ (z04 hr _) (.tup z01 ?_)
  rw [← List.map_append]
  exact zvk _
theorem zaw {H : Hp} {r : Addr} {i : Int} : Dt (upd H r (.tup [.int i])) (.ref r) (z3i [i]) := .tup z01 (.cons (.int i) .nil)
theorem zon : ∀ (b : List D) (i : Nat), (zao b)[i]? = (b[i]?).map D.enc
 | [], i => by simp [zao]
 | d :: b, 0 => by simp [zao]
 | d :: b, i + 1 => by simp [zao, zon b i]
theorem zsl {H : Hp} {xs : List V} {b : List D} {i : Nat} {x : V} (h : DtA H xs (zao b)) (hx : xs[i]? = some x) : ∃ d, b[i]? = some d ∧ Dt H x d.enc := by
 obtain ⟨e, he, de⟩ := h.get hx
 rw [zon] at he
 cases hb : b[i]? with
 | none => rw [hb] at he; cases he
 | some d =>
  rw [hb] at he
  have : d.enc = e := by simpa using he
  subst this
  exact ⟨d, rfl, de⟩
theorem zaj {α : Type} {f : α → Dm} {H : Hp} {xs : List V} {b : List α} {i : Nat} {x : V} (h : DtA H xs (b.map f)) (hx : xs[i]? = some x) : ∃ d, b[i]? = some d ∧ Dt H x (f d) := by
 obtain ⟨e, he, de⟩ := h.get hx
 rw [List.getElem?_map] at he
 cases hb : b[i]? with
 | none => rw [hb] at he; cases he
 | some d =>
  rw [hb] at he
  have : f d = e := by simpa using he
  subst this
  exact ⟨d, rfl, de⟩
theorem zz {n : Nat} (h : n ≤ 10000) : n ≤ sizeLine := Nat.le_trans h (by decide)
def D.items : D → List Dm
 | .set x t => [.str "set", .str x, t.enc]
 | .ite t b c => [.str "if", t.enc, .tup (zao b), .tup (zao c)]
 | .whl t m b => [.str "while", t.enc, .int m, .tup (zao b)]
theorem zuy {H : Hp} {v : V} {d : D} (h : Dt H v d.enc) : ∃ a xs, v = .ref a ∧ H a = some (.tup xs) ∧ DtA H xs d.items := by
 cases d <;> (rw [D.enc] at h; exact h.tupI)
end
section
variable {P : Program} {w : World} {K : PySem.W.Frag} {mg : Str → Option Value} {base : Heap} {f : Addr} {fd : FuncData}
def okW : Nat → List D → Prop
 | 0, _ => False
 | n + 1, b => b.length ≤ 7 ∧ ∀ d ∈ b, match d with
  | .set x t => x ∈ pool ∧ t.ok pool 5
  | .ite t b c => t.ok pool 5 ∧ okW n b ∧ okW n c
  | .whl t m b => t.ok pool 5 ∧ okW n b
abbrev zz0 (n : Nat) (d : D) : Prop := match d with
 | .set x t => x ∈ pool ∧ t.ok pool 5
 | .ite t b c => t.ok pool 5 ∧ okW n b ∧ okW n c
 | .whl t m b => t.ok pool 5 ∧ okW n b
theorem ze4 : ∀ {n : Nat} {b : List D}, okB n b → okW n b
 | 0, _, h => h.elim
 | n + 1, b, h => ⟨Nat.le_trans h.1 (by decide), fun d hd => by
  have := h.2 d hd
  cases d with
  | set x t => exact this
  | ite t b c => exact ⟨this.1, ze4 this.2.1, ze4 this.2.2⟩
  | whl t m b => exact ⟨this.1, ze4 this.2.2.2⟩⟩
theorem zwg {n : Nat} {d : D} (h : okD n d) : zz0 n d := by
 cases d with
 | set x t => exact h
 | ite t b c => exact ⟨h.1, ze4 h.2.1, ze4 h.2.2⟩
 | whl t m b => exact ⟨h.1, ze4 h.2.2.2⟩
theorem zl1 : ∀ {n : Nat} {b : List D}, okW n b → okW (n + 1) b
 | 0, _, h => h.elim
 | n + 1, b, h => ⟨h.1, fun d hd => by
  have := h.2 d hd
  cases d with
  | set x t => exact this
  | ite t b c => exact ⟨this.1, zl1 this.2.1, zl1 this.2.2⟩
  | whl t m b => exact ⟨this.1, zl1 this.2⟩⟩
def D.kind : D → Str
 | .set _ _ => "set"
 | .ite _ _ _ => "if"
 | .whl _ _ _ => "while"
theorem zsj {H : Hp} {v : V} {d : D} (h : Dt H v d.enc) : ∃ a xs, v = .ref a ∧ H a = some (.tup (.str d.kind :: xs)) ∧ DtA H (.str d.kind :: xs) d.items := by
 obtain ⟨a, xs, e, ha, dx⟩ := zuy h
 have key : ∃ ys, xs = .str d.kind :: ys := by
  cases d <;> (cases dx with | cons e0 _ => cases e0; exact ⟨_, rfl⟩)
 obtain ⟨ys, rfl⟩ := key
 exact ⟨a, ys, e, ha, dx⟩
end
section
variable {P : Program} {w : World} {K : PySem.W.Frag} {mg : Str → Option Value} {base : Heap} {f : Addr} {fd : FuncData}
def Fine (n : Nat) (d : Dm) : Prop := d.shut = true ∧ d.dat.canLay0 = true ∧ d.dat.depth ≤ n
theorem Fine.mono {n m : Nat} {d : Dm} (h : Fine n d) (k : n ≤ m) : Fine m d := ⟨h.1, h.2.1, Nat.le_trans h.2.2 k⟩
theorem zus {n : Nat} : ∀ {ds : List Dm}, (∀ d ∈ ds, Fine n d) → zh2 ds = true ∧ PyData.canLayAll0 (zgf ds) = true ∧ PyData.depthAll (zgf ds) ≤ n
 | [], _ => ⟨by simp [zh2], by simp [zgf, PyData.canLayAll0], by simp [zgf, PyData.depthAll]⟩
 | d :: ds, h => by
  obtain ⟨a, b, c⟩ := zus (ds := ds) fun e he => h e (.tail _ he)
  obtain ⟨x, y, z⟩ := h d (.head _)
  refine ⟨by simp [zh2, x, a], by simp [zgf, PyData.canLayAll0, y, b], ?_⟩
  simp only [zgf, PyData.depthAll]
  omega
theorem za1 {n : Nat} {ds : List Dm} (h : ∀ d ∈ ds, Fine n d) : Fine (n + 1) (.tup ds) := by
 obtain ⟨a, b, c⟩ := zus h
 exact ⟨by simpa [Dm.shut] using a, by simpa [Dm.dat, PyData.canLay0] using b, by simp only [Dm.dat, PyData.depth]; omega⟩
theorem zjy (n : Nat) (i : Int) : Fine n (.int i) := ⟨by simp [Dm.shut], by simp [Dm.dat, PyData.canLay0], by simp [Dm.dat, PyData.depth]⟩
theorem zej (n : Nat) {x : Str} (h : PyData.strOk x = true) : Fine n (.str x) := ⟨by simpa [Dm.shut] using h, by simpa [Dm.dat, PyData.canLay0] using h, by simp [Dm.dat, PyData.depth]⟩
theorem Fine.eq {n : Nat} {d : Dm} (h : Fine n d) (k : n ≤ 64) : d.shut = true ∧ SeqAt.shaped d.dat = true := ⟨h.1, by
 unfold SeqAt.shaped
 rw [h.2.1, Bool.true_and, decide_eq_true_eq]
 exact Nat.le_trans h.2.2 k⟩
theorem zw5 : ∀ x ∈ pool, PyData.strOk x = true := by
 intro x hx
 simp only [pool, List.mem_cons, List.not_mem_nil, or_false] at hx
 rcases hx with rfl | rfl | rfl | rfl <;> decide +kernel
theorem zbm (p : List Int) : Fine 1 (z3i p) := za1 fun d hd => by
 obtain ⟨i, _, rfl⟩ := List.mem_map.mp hd
 exact zjy _ _
theorem zom {d : PyData} (h : d.canLay0 = true) : PyData.eqv d d = true := SeqAt.eqv_refl d h
theorem zjl : ∀ (l m : List Str), l.Nodup → (∀ x ∈ l, x ∈ m) → l.length ≤ m.length
 | [], m, _, _ => by simp
 | x :: l, m, h, hs => by
  rw [List.nodup_cons] at h
  have hx := hs x (.head _)
  have ih := zjl l (m.erase x) h.2 fun y hy => by
   have hne : y ≠ x := fun e => h.1 (e ▸ hy)
   exact (List.mem_erase_of_ne hne).mpr (hs y (.tail _ hy))
  have e := List.length_erase_of_mem hx
  have hp := List.length_pos_of_mem hx
  rw [List.length_cons]
  omega
end
section
variable {P : Program} {w : World} {K : PySem.W.Frag} {mg : Str → Option Value} {base : Heap} {f : Addr} {fd : FuncData}
def zvc (x : Str) : Int := if x = "a" then 0 else if x = "b" then 1 else if x = "c" then 2 else 3
theorem zyl : ∀ x ∈ pool, ∀ y ∈ pool, PySem.Spec.ltCps y.cps.toList x.cps.toList = false → zvc x ≤ zvc y := by
 intro x hx y hy
 simp only [pool, List.mem_cons, List.not_mem_nil, or_false] at hx hy
 rcases hx with rfl | rfl | rfl | rfl <;> rcases hy with rfl | rfl | rfl | rfl <;> decide +kernel
theorem zio : ∀ (l : List Str) (p : Str), p ∈ pool → (∀ x ∈ l, x ∈ pool) → PyProof.Rows.risingS p l = true → ((p :: l).map zvc).Pairwise (· ≤ ·)
 | [], p, _, _, _ => by simp
 | x :: l, p, hp, hl, h => by
  rw [PyProof.Rows.risingS, Bool.and_eq_true] at h
  have ih := zio l x (hl x (.head _)) (fun y hy => hl y (.tail _ hy)) h.2
  have h1 := zyl p hp x (hl x (.head _)) (by simpa using h.1)
  rw [List.map_cons, List.pairwise_cons]
  refine ⟨fun i hi => ?_, ih⟩
  rw [List.map_cons, List.pairwise_cons] at ih
  rw [List.map_cons] at hi
  rcases List.mem_cons.mp hi with rfl | hi
  ·exact h1
  ·exact Int.le_trans h1 (ih.1 i hi)
theorem zpa {l : List Str} (hl : ∀ x ∈ l, x ∈ pool) (h : PyProof.Rows.sortedS l = true) : (l.map zvc).Pairwise (· ≤ ·) := by
 cases l with
 | nil => simp
 | cons x l => exact zio l x (hl x (.head _)) (fun y hy => hl y (.tail _ hy)) h
end
section
variable {P : Program} {w : World} {K : PySem.W.Frag} {mg : Str → Option Value} {base : Heap} {f : Addr} {fd : FuncData}
end
section
variable {P : Program} {w : World} {K : PySem.W.Frag} {mg : Str → Option Value} {base : Heap} {f : Addr} {fd : FuncData}
def T.word : T → Str
 | .num _ => "num"
 | .nm _ => "name"
 | .op w _ _ => w.str
def ten : List Str := ["num", "name", "add", "sub", "mul", "quo", "less", "same", "min", "max"]
abbrev Cnt := List (Str × Int)
def kvC (c : Cnt) : List (Key × V) := c.map fun p => ((Sum.inr p.1 : Key), V.int p.2)
def zbl (c : Cnt) (x : Str) : Option Int := (c.find? fun p => decide (p.1 = x)).map (·.2)
def zis (c : Cnt) (x : Str) (i : Int) : Cnt := if (c.any fun p => decide (p.1 = x)) = true then c.map (fun p => if p.1 = x then (p.1, i) else p) else c ++ [(x, i)]
def q05 (c : Cnt) (x : Str) : Cnt := zis c x ((zbl c x).getD 0 + 1)
theorem inr_eq {x y : Str} : ((Sum.inr x : Key) = Sum.inr y) ↔ x = y := ⟨fun h => by injection h, fun h => by rw [h]⟩
theorem znm (x : Str) : ∀ c : Cnt, zno (kvC c) (Sum.inr x) = (zbl c x).map V.int
 | [] => rfl
 | p :: c => by
  have ih := znm x c
  unfold zno kvC zbl at ih ⊢
  rw [List.map_cons, List.find?_cons, List.find?_cons]
  by_cases e : p.1 = x
  ·simp [e]
  ·have e' : ¬ (Sum.inr p.1 : Key) = Sum.inr x := fun z => e (inr_eq.mp z)
   simp only [e, e', decide_false]
   exact ih
theorem q03 (x : Str) (c : Cnt) : ((kvC c).any fun kv => decide (kv.1 = Sum.inr x)) = c.any fun p => decide (p.1 = x) := by
 unfold kvC
 rw [List.any_map]
 congr 1
 funext p
 show decide ((Sum.inr p.1 : Key) = Sum.inr x) = decide (p.1 = x)
 by_cases e : p.1 = x
 ·rw [decide_eq_true e, decide_eq_true (inr_eq.mpr e)]
 ·rw [decide_eq_false e, decide_eq_false fun z => e (inr_eq.mp z)]
theorem zkq (x : Str) (i : Int) (c : Cnt) : zir (kvC c) (Sum.inr x) (V.int i) = kvC (zis c x i) := by
 unfold zir zis
 rw [q03]
 split
 ·unfold kvC
  rw [List.map_map, List.map_map]
  refine List.map_congr_left fun p _ => ?_
  show (if (Sum.inr p.1 : Key) = Sum.inr x then _ else _) = _
  by_cases e : p.1 = x
  ·simp [e]
  ·simp [e]
 ·simp [kvC]
def sumC (c : Cnt) : Int := (c.map (·.2)).sum
theorem zgl (c : Cnt) (x : Str) (i : Int) : (zis c x i).map (·.1) = if x ∈ c.map (·.1) then c.map (·.1) else c.map (·.1) ++ [x] := by
 unfold zis
 have hany : (c.any fun p => decide (p.1 = x)) = true ↔ x ∈ c.map (·.1) := by
  rw [List.any_eq_true, List.mem_map]
  constructor
  ·rintro ⟨p, hp, e⟩; exact ⟨p, hp, of_decide_eq_true e⟩
  ·rintro ⟨p, hp, e⟩; exact ⟨p, hp, decide_eq_true e⟩
 by_cases h : x ∈ c.map (·.1)
 ·rw [if_pos (hany.mpr h), if_pos h, List.map_map]
  refine List.map_congr_left fun p _ => ?_
  show (if p.1 = x then (p.1, i) else p).1 = p.1
  split <;> rfl
 ·rw [if_neg fun z => h (hany.mp z), if_neg h, List.map_append]
  rfl
theorem zw3 (i : Int) (x : Str) : ∀ c : Cnt, (c.map (·.1)).Nodup → sumC (zis c x i) = sumC c - (zbl c x).getD 0 + i := by
 have upd_ : ∀ c : Cnt, (c.map (·.1)).Nodup → (∀ v, zbl c x = some v → sumC (c.map fun p => if p.1 = x then (p.1, i) else p) = sumC c - v + i) ∧ (zbl c x = none → (c.map fun p => if p.1 = x then (p.1, i) else p) = c ∧ (c.any fun p => decide (p.1 = x)) = false) ∧ (∀ v, zbl c x = some v → (c.any fun p => decide (p.1 = x)) = true) := by
  intro c
  induction c with
  | nil => intro _; exact ⟨fun v h => (by cases h), fun _ => ⟨rfl, rfl⟩, fun v h => (by cases h)⟩
  | cons p c ih =>
   intro hn
   rw [List.map_cons, List.nodup_cons] at hn
   obtain ⟨i1, i2, i3⟩ := ih hn.2
   by_cases e : p.1 = x
   ·have hno : zbl c x = none := by
     unfold zbl
     cases hf : c.find? fun p => decide (p.1 = x) with
     | none => rfl
     | some q =>
      have h1 := List.mem_of_find?_eq_some hf
      have h2 := of_decide_eq_true (List.find?_some (p := fun p : Str × Int => decide (p.1 = x)) hf)
      exact absurd (List.mem_map.mpr ⟨q, h1, h2.trans e.symm⟩) hn.1
    have hg : zbl (p :: c) x = some p.2 := by unfold zbl; rw [List.find?_cons]; simp [e]
    refine ⟨fun v h => ?_, fun h => (by rw [hg] at h; cases h), fun v h => (by simp [e])⟩
    rw [hg] at h
    have : p.2 = v := Option.some.inj h
    subst this
    rw [List.map_cons, if_pos e, (i2 hno).1]
    simp [sumC]
    omega
   ·have hg : zbl (p :: c) x = zbl c x := by unfold zbl; rw [List.find?_cons]; simp [e]
    rw [hg]
    refine ⟨fun v h => ?_, fun h => ?_, fun v h => ?_⟩
    ·have := i1 v h
     rw [List.map_cons, if_neg e]
     simp only [sumC, List.map_cons, List.sum_cons] at this ⊢
     omega
    ·obtain ⟨j1, j2⟩ := i2 h
     exact ⟨by rw [List.map_cons, if_neg e, j1], by rw [List.any_cons, j2]; simp [e]⟩
    ·rw [List.any_cons, i3 v h]; simp
 intro c hn
 obtain ⟨h1, h2, h3⟩ := upd_ c hn
 unfold zis
 cases hg : zbl c x with
 | none =>
  rw [if_neg (by rw [(h2 hg).2]; decide)]
  simp [sumC]
 | some v =>
  rw [if_pos (h3 v hg), h1 v hg]
  rfl
structure CntOk (c : Cnt) (n : Nat) : Prop where
 nd : (c.map (·.1)).Nodup
 sub : ∀ p ∈ c, p.1 ∈ ten
 tot : sumC c = n
theorem CntOk.nil : CntOk [] 0 := ⟨.nil, fun p h => by simp at h, rfl⟩
theorem CntOk.add {c : Cnt} {n : Nat} (h : CntOk c n) {x : Str} (hx : x ∈ ten) : CntOk (q05 c x) (n + 1) := by
 refine ⟨?_, fun p hp => ?_, ?_⟩
 ·unfold q05
  rw [zgl]
  split
  ·exact h.nd
  ·rename_i hn
   exact List.nodup_append.mpr ⟨h.nd, by simp, fun a ha b hb e => hn (by rw [List.mem_singleton] at hb; rw [← hb, ← e]; exact ha)⟩
 ·have hm : p.1 ∈ (q05 c x).map (·.1) := List.mem_map.mpr ⟨p, hp, rfl⟩
  unfold q05 at hm
  rw [zgl] at hm
  split at hm
  ·obtain ⟨q, hq, e⟩ := List.mem_map.mp hm
   rw [← e]; exact h.sub q hq
  ·rcases List.mem_append.mp hm with hm | hm
   ·obtain ⟨q, hq, e⟩ := List.mem_map.mp hm
    rw [← e]; exact h.sub q hq
   ·rw [List.mem_singleton] at hm
    rw [hm]; exact hx
 ·unfold q05
  rw [zw3 _ _ _ h.nd, h.tot]
  omega
theorem CntOk.len {c : Cnt} {n : Nat} (h : CntOk c n) : c.length ≤ 10 := by
 have := zjl (c.map (·.1)) ten h.nd fun x hx => by
  obtain ⟨q, hq, e⟩ := List.mem_map.mp hx
  rw [← e]; exact h.sub q hq
 rw [List.length_map] at this
 exact this
theorem znp {H : Hp} {v : V} {t : T} (h : Dt H v t.enc) : ∃ a y xs, v = .ref a ∧ H a = some (.tup (.str t.word :: y :: xs)) := by
 cases t with
 | num i =>
  rw [T.enc] at h
  obtain ⟨a, x0, x1, rfl, ha, t0, t1⟩ := zqj h
  cases t0
  exact ⟨_, _, _, rfl, ha⟩
 | nm x =>
  rw [T.enc] at h
  obtain ⟨a, x0, x1, rfl, ha, t0, t1⟩ := zqj h
  cases t0
  exact ⟨_, _, _, rfl, ha⟩
 | op w a b =>
  rw [T.enc] at h
  obtain ⟨a, x0, x1, x2, rfl, ha, t0, t1, t2⟩ := zqi h
  cases t0
  exact ⟨_, _, _, rfl, ha⟩
theorem zsk {H : Hp} {v : V} {d : D} (h : Dt H v d.enc) : ∃ a xs, v = .ref a ∧ H a = some (.tup (.str d.kind :: xs)) := by
 cases d with
 | set x t =>
  rw [D.enc] at h
  obtain ⟨a, x0, x1, x2, rfl, ha, t0, t1, t2⟩ := zqi h
  cases t0
  exact ⟨_, _, rfl, ha⟩
 | ite t b c =>
  rw [D.enc] at h
  obtain ⟨a, x0, x1, x2, x3, rfl, ha, t0, t1, t2, t3⟩ := q07 h
  cases t0
  exact ⟨_, _, rfl, ha⟩
 | whl t m b =>
  rw [D.enc] at h
  obtain ⟨a, x0, x1, x2, x3, rfl, ha, t0, t1, t2, t3⟩ := q07 h
  cases t0
  exact ⟨_, _, rfl, ha⟩
theorem z0k {x : V} {xs : List V} : atI (x :: xs) 0 = some x := z0x (j := 0) rfl
theorem zrv {H : Hp} {p : Addr} {c e : List (Key × V)} (h : H p = some (.dK c)) : Kp H (upd H p (.dK e)) :=
 ⟨fun b zs q => by rw [z0e (z77 q h (by intro z; cases z))]; exact q, fun b zs q => ⟨zs, by rw [z0e (z77 q h (by intro z; cases z))]; exact q⟩⟩
end
section
variable {P : Program} {w : World} {K : PySem.W.Frag} {mg : Str → Option Value} {base : Heap} {f : Addr} {fd : FuncData}
end
section
variable {P : Program} {w : World} {K : PySem.W.Frag} {mg : Str → Option Value} {base : Heap} {f : Addr} {fd : FuncData}
theorem q17 {K : PySem.W.Frag} {H : Hp} {Q : VK} {x y : V} {ds es : List Dm} (dx : Dt H x (.tup ds)) (dy : Dt H y (.tup es)) (hz : ds.length + es.length ≤ 1000) (h : ∀ z H', Same H H' → Dt H' z (.tup (ds ++ es)) → Q z H') : zfx K x y H Q := by
 obtain ⟨a, xs, rfl, ha, da⟩ := dx.tupI
 obtain ⟨b, ys, rfl, hb, db⟩ := dy.tupI
 have la := da.length
 have lb := db.length
 refine ⟨a, b, _, _, rfl, rfl, SqT.of ha, SqT.of hb, ?_, fun e => ?_, fun _ e => ?_, fun _ _ r hr => ?_⟩
 ·exact Nat.le_of_lt (z4h (by omega))
 ·subst e
  have : ds = [] := List.length_eq_zero_iff.mp la.symm
  subst this
  exact h _ _ (Same.refl _) dy
 ·subst e
  have : es = [] := List.length_eq_zero_iff.mp lb.symm
  subst this
  rw [List.append_nil] at h
  exact h _ _ (Same.refl _) dx
 ·have s := z04 hr (HO.tup (xs ++ ys))
  exact h _ _ s (.tup z01 ((da.kp s.kp).append (db.kp s.kp)))
end
section
variable {P : Program} {w : World} {K : PySem.W.Frag} {mg : Str → Option Value} {base : Heap} {f : Addr} {fd : FuncData}
end
section
variable {P : Program} {w : World} {K : PySem.W.Frag} {mg : Str → Option Value} {base : Heap} {f : Addr} {fd : FuncData}
abbrev RI := List Int × Int
inductive Rs where
 | had (i : Int)
 | ref (w : Str) (p : List Int)
def Rs.enc : Rs → Dm
 | .had i => .tup [.str "had", .int i]
 | .ref w p => .tup [.str "refused", .str w, z3i p]
def zm0 (r : RI) : Dm := .tup [z3i r.1, .int r.2]
def zi6 (i : Int) (p : List Int) : Rs := if i < -32768 then .ref "over" p else if i > 32767 then .ref "over" p else .had i
def SameB (l : Addr) (H H' : Hp) : Prop := ∀ a o, a ≠ l → H a = some o → H' a = some o
theorem SameB.of {l : Addr} {H H' : Hp} (h : Same H H') : SameB l H H' := fun a o _ e => h a o e
theorem SameB.trans {l : Addr} {H H1 H2 : Hp} (a : SameB l H H1) (b : SameB l H1 H2) : SameB l H H2 := fun x o n e => b x o n (a x o n e)
theorem SameB.kp {l : Addr} {H H' : Hp} {xs ys : List V} (h : SameB l H H') (hl : H l = some (.lst xs)) (hl' : H' l = some (.lst ys)) : Kp H H' :=
 ⟨fun b zs q => h b _ (fun z => by rw [z, hl] at q; cases q) q, fun b zs q => by
  by_cases hb : b = l
  ·subst hb; exact ⟨ys, hl'⟩
  ·exact ⟨zs, h b _ hb q⟩⟩
def z5v : Sp := fun vs H Q _ => ∃ (wv pv : V) (p : List Int) (l : Addr) (xs : List V), vs = [wv, pv, .ref l] ∧ Dt H pv (z3i p) ∧ H l = some (.lst xs) ∧ xs.length < sizeLine ∧
 ((wv = .non ∧ ∀ r H', Same H H' → Dt H' r (Rs.ref "zero" p).enc → Q r H') ∨ ∃ i, wv = .int i ∧ ∀ (r y : V) (H' : Hp), SameB l H H' → H' l = some (.lst (xs ++ [y])) → Dt H' y (zm0 (p, i)) → Dt H' r (zi6 i p).enc → Q r H')
end
section
variable {P : Program} {w : World} {K : PySem.W.Frag} {mg : Str → Option Value} {base : Heap} {f : Addr} {fd : FuncData}
theorem zpm (F : Fun K "settled" "settled" z4u f fd) {ai : Addr} (g_WIDE : GC mg "WIDE" (.ref ai)) (hI : ∀ H, SqT K H ai [.int (-32768), .int 32767]) : FnOk P w K mg base CX0 1 f fd ["worth", "path", "rows"] z5v := by
 refine F.ok zpb (fun vs H Q E h => ?_) (fun cdv A outer s H vs Q E hr h => ?_)
 ·obtain ⟨wv, pv, p, l, xs, rfl, _⟩ := h
  rfl
 obtain ⟨wv, pv, p, l, xs, rfl, hp, hl, hx, h⟩ := h
 refine ⟨_, (z06 (z2m (z0c q29 (z00 (i := 0) rfl z3z z5x z60) zah (z0m _)) (z08 (z0q (z14 (z07 z0l (z07 z0l (z07 (z00 (i := 1) rfl z6p z3o z3p) z03)))))) z0s)
 (z06 (z4v (ze1 PySem.F.plainAttrs_list PySem.F.slot_list_append PySem.F.type_list_append z4w (z00 (i := 2) rfl zg2 zna znh) (z07 (z14 (z07 (z00 (i := 1) rfl z6p z3o z3p) (z07 (z00 (i := 0) rfl z3z z5x z60) z03))) z03)) (z05 rfl))
 (z06 (z2m (PW.pt (zr1 (z0c zkz (z00 (i := 0) rfl z3z z5x z60) (z0w ix_tup (zyp g_WIDE zbf zss) z02 (fun _ _ => rfl)) (z0m _)) (zo3 (z0c zyt (z00 (i := 0) rfl z3z z5x z60) (z0w ix_tup (zyp g_WIDE zbf zss) z02 (fun _ _ => rfl)) (z0m _))))) (z08 (z0q (z14 (z07 z0l (z07 z0l (z07 (z00 (i := 1) rfl z6p z3o z3p) z03)))))) z0s)
 (z08 (z0q (z14 (z07 z0l (z07 (z00 (i := 0) rfl z3z z5x z60) z03)))))))), z0f fun N1 e1 => ?_⟩
 walk_at "rd7"
 rcases h with ⟨rfl, q⟩ | ⟨i, rfl, q⟩
 ·rw [if_pos rfl]
  refine ⟨by decide, fun r hr' => ?_⟩
  have s1 := z04 hr' (HO.tup [V.str "refused", V.str "zero", pv])
  exact q _ _ s1 (.tup z01 (.cons (.str _) (.cons (.str _) (.cons (hp.kp s1.kp) .nil))))
 ·rw [if_neg (by intro z; cases z), e1]
  refine z0f fun N2 e2 => ?_
  walk_at "rd7"
  refine ⟨.inl ⟨rfl, _, SqL.of hl⟩, by decide, fun y hy => ?_⟩
  have s1 := z04 hy (HO.tup [pv, V.int i])
  have hly := s1 _ _ hl
  refine ⟨xs, hly, hx, ?_⟩
  have nyl : y ≠ l := fun z => by rw [z, hl] at hy; cases hy
  have k2 : Kp (upd H y (HO.tup [pv, V.int i])) (upd (upd H y (HO.tup [pv, V.int i])) l (HO.lst (xs ++ [V.ref y]))) := Kp.set hly
  have sB : SameB l H (upd (upd H y (HO.tup [pv, V.int i])) l (HO.lst (xs ++ [V.ref y]))) := fun a o n e => by rw [z0e n]; exact s1 _ _ e
  have hU : (upd (upd H y (HO.tup [pv, V.int i])) l (HO.lst (xs ++ [V.ref y]))) l = some (.lst (xs ++ [V.ref y])) := z01
  have dy : Dt (upd (upd H y (HO.tup [pv, V.int i])) l (HO.lst (xs ++ [V.ref y]))) (.ref y) (zm0 (p, i)) := .tup (by rw [z0e nyl]; exact z01) (.cons (hp.kp (s1.kp.trans k2)) (.cons (.int _) .nil))
  have dp := hp.kp (s1.kp.trans k2)
  generalize upd (upd H y (HO.tup [pv, V.int i])) l (HO.lst (xs ++ [V.ref y])) = U at k2 sB hU dy dp ⊢
  rw [e2]
  walk_at "rd7"
  have fin : ∀ (r : Addr) (o : List V), U r = none → Dt (upd U r (HO.tup o)) (.ref r) (zi6 i p).enc → Q (.ref r) (upd U r (HO.tup o)) := fun r o h1 h2 => by
   have s3 := z04 h1 (HO.tup o)
   exact q _ _ _ (sB.trans (SameB.of s3)) (s3 _ _ hU) (dy.kp s3.kp) h2
  refine ⟨_, hI U, _, z0x (j := 0) rfl, _, rfl, ?_⟩
  split
  ·rename_i hlt
   refine ⟨by decide, fun r hr' => fin r _ hr' ?_⟩
   rw [zi6, if_pos hlt]
   exact .tup z01 (.cons (.str _) (.cons (.str _) (.cons (dp.kp (z04 hr' _).kp) .nil)))
  ·rename_i hlt
   refine ⟨_, hI U, _, z0x (j := 1) rfl, _, rfl, ?_⟩
   split
   ·rename_i hgt
    refine ⟨by decide, fun r hr' => fin r _ hr' ?_⟩
    rw [zi6, if_neg hlt, if_pos hgt]
    exact .tup z01 (.cons (.str _) (.cons (.str _) (.cons (dp.kp (z04 hr' _).kp) .nil)))
   ·rename_i hgt
    refine ⟨by decide, fun r hr' => fin r _ hr' ?_⟩
    rw [zi6, if_neg hlt, if_neg hgt]
    exact .tup z01 (.cons (.str _) (.cons (.int _) .nil))
end
section
variable {P : Program} {w : World} {K : PySem.W.Frag} {mg : Str → Option Value} {base : Heap} {f : Addr} {fd : FuncData}
def q0i (st : Stmt) : Expr := match defBody st with
 | [.Return (some (.Call _ [_, _, e] _ _)) _] => e
 | [_, .Expr (.Call _ [_, _, e] _ _) _, _] => e
 | _ => .Name "" ⟨0, 0, 0, 0⟩
def q1l (q : Str) (e : Expr) : LamD := match e with
 | .Lambda ps b sc _ => ⟨q, ps, b, sc⟩
 | _ => ⟨q, { posonlyargs := [], args := [], vararg := none, kwonlyargs := [], kw_defaults := [], kwarg := none, defaults := [] }, .Name "" ⟨0, 0, 0, 0⟩, { kind := .function, names := [], isGenerator := false, isCoroutine := false }⟩
def zvh (e : Expr) : Pos := match e with
 | .Lambda _ _ _ p => p
 | _ => ⟨0, 0, 0, 0⟩
abbrev dR : LamD := q1l ("run" ++ ".<locals>." ++ "<lambda>") (q0i zdy)
abbrev dT : LamD := q1l ("traced" ++ ".<locals>." ++ "<lambda>") (q0i z3r)
theorem q1x : ∀ y ∈ dR.scope.names, y.2 ≠ .free := by decide +kernel
theorem q1z : LamScope ["worth", "path"] [] [] dR.scope := ⟨rfl, rfl, rfl, by decide +kernel, by decide +kernel, by simp, by decide +kernel, fun y hy e => absurd e (q1x y hy), by simp, by simp⟩
theorem q1w : ∀ y ∈ dT.scope.names, y.2 = .free → y.1 = "rows" := by decide +kernel
theorem q1y (c : Addr) : LamScope ["worth", "path"] ["rows"] [("rows", c)] dT.scope := by
 refine ⟨rfl, rfl, rfl, by decide +kernel, by decide +kernel, by decide +kernel, by decide +kernel, fun y hy e => ⟨c, ?_⟩, fun x y c' h1 h2 => ?_, fun x c' h => ?_⟩
 ·rw [q1w y hy e]
  rfl
 ·have key : ∀ z : Str, ([("rows", c)] : List (Str × Addr)).lookup z = some c' → z = "rows" := fun z h => by
   by_cases e : z = "rows"
   ·exact e
   ·have : (z == ("rows" : Str)) = false := by simpa using e
    rw [List.lookup, this] at h
    cases h
  rw [key x h1, key y h2]
 ·rw [List.mem_singleton] at h
  cases h
  rfl
def SetOk (f : Addr) (lo : Option Addr) (H : Hp) : Prop := match lo with
 | none => ∃ c', H f = some (zqa dR [] f c') ∧ H c' = some (zgg c' dR.qual)
 | some l => ∃ c' c o, H f = some (zqa dT [("rows", c)] f c') ∧ H c' = some (zgg c' dT.qual) ∧ H c = some (z6v c o) ∧ o.data = .cell (some (.ref l))
theorem SetOk.lam {f : Addr} {lo : Option Addr} {H : Hp} (h : SetOk f lo H) : IsLam H f := by
 cases lo with
 | none => obtain ⟨c', e, _⟩ := h; exact ⟨_, _, _, e⟩
 | some l => obtain ⟨c', c, o, e, _⟩ := h; exact ⟨_, _, _, e⟩
def KpE (H H' : Hp) : Prop := ∀ a φ, H a = some (.ext φ) → H' a = some (.ext φ)
theorem KpE.refl (H : Hp) : KpE H H := fun _ _ h => h
theorem KpE.trans {H H1 H2 : Hp} (a : KpE H H1) (b : KpE H1 H2) : KpE H H2 := fun x φ h => b x φ (a x φ h)
theorem Same.kpE {H H' : Hp} (s : Same H H') : KpE H H' := fun a φ h => s _ _ h
theorem KpE.set {H : Hp} {p : Addr} {o u : HO} (h : H p = some o) (n : ∀ φ, o ≠ .ext φ) : KpE H (upd H p u) := fun a φ e => by
 rw [z0e (z77 e h fun z => n φ z.symm)]
 exact e
theorem SetOk.kp {f : Addr} {lo : Option Addr} {H H' : Hp} (h : SetOk f lo H) (k : KpE H H') : SetOk f lo H' := by
 cases lo with
 | none => obtain ⟨c', e, e2⟩ := h; exact ⟨c', k _ _ e, k _ _ e2⟩
 | some l => obtain ⟨c', c, o, e, e2, e3, e4⟩ := h; exact ⟨c', c, o, k _ _ e, k _ _ e2, k _ _ e3, e4⟩
end
section
variable {P : Program} {w : World} {K : PySem.W.Frag} {mg : Str → Option Value} {base : Heap} {f : Addr} {fd : FuncData}
def Gr (lo : Option Addr) (H H' : Hp) (rs : List RI) : Prop := (∀ a o, some a ≠ lo → H a = some o → H' a = some o) ∧ ∀ l, lo = some l → ∃ xs ys, H l = some (.lst xs) ∧ H' l = some (.lst (xs ++ ys)) ∧ DtA H' ys (rs.map zm0)
def HasL (lo : Option Addr) (H : Hp) (n : Nat) : Prop := ∀ l, lo = some l → ∃ xs, H l = some (.lst xs) ∧ xs.length + n < sizeLine
theorem Gr.kp {lo : Option Addr} {H H' : Hp} {rs : List RI} (h : Gr lo H H' rs) : Kp H H' := by
 cases lo with
 | none => exact ⟨fun b xs e => h.1 b _ (by simp) e, fun b xs e => ⟨xs, h.1 b _ (by simp) e⟩⟩
 | some l =>
  obtain ⟨xs, ys, e1, e2, _⟩ := h.2 l rfl
  exact SameB.kp (fun a o n e => h.1 a o (by simpa using n) e) e1 e2
theorem Gr.kpE {lo : Option Addr} {H H' : Hp} {rs : List RI} (h : Gr lo H H' rs) : KpE H H' := fun a φ e => by
 refine h.1 a _ (fun z => ?_) e
 obtain ⟨xs, ys, e1, _⟩ := h.2 a z.symm
 rw [e1] at e
 cases e
theorem Gr.keep {lo : Option Addr} {H H' : Hp} {rs : List RI} (h : Gr lo H H' rs) {a : Addr} {o : HO} (e : H a = some o) (n : ∀ xs, o ≠ .lst xs) : H' a = some o := h.1 a o (fun z => by
 obtain ⟨xs, ys, e1, _⟩ := h.2 a z.symm
 rw [e1] at e
 cases e
 exact n _ rfl) e
theorem Gr.trans {lo : Option Addr} {H H1 H2 : Hp} {r1 r2 : List RI} (a : Gr lo H H1 r1) (b : Gr lo H1 H2 r2) : Gr lo H H2 (r1 ++ r2) := by
 refine ⟨fun x o n e => b.1 x o n (a.1 x o n e), fun l hl => ?_⟩
 obtain ⟨xs, ys, e1, e2, d1⟩ := a.2 l hl
 obtain ⟨xs', zs, f1, f2, d2⟩ := b.2 l hl
 rw [e2] at f1
 cases f1
 exact ⟨xs, ys ++ zs, e1, by rw [f2, List.append_assoc], by rw [List.map_append]; exact (d1.kp b.kp).append d2⟩
theorem Gr.same {lo : Option Addr} {H H' : Hp} {n : Nat} (s : Same H H') (h : HasL lo H n) : Gr lo H H' [] := by
 refine ⟨fun a o _ e => s a o e, fun l hl => ?_⟩
 obtain ⟨xs, e, _⟩ := h l hl
 exact ⟨xs, [], e, by rw [List.append_nil]; exact s _ _ e, .nil⟩
theorem HasL.on {lo : Option Addr} {H H' : Hp} {rs : List RI} {n m : Nat} (h : HasL lo H n) (g : Gr lo H H' rs) (k : rs.length + m ≤ n) : HasL lo H' m := fun l hl => by
 obtain ⟨xs, e, z⟩ := h l hl
 obtain ⟨xs', ys, e1, e2, d⟩ := g.2 l hl
 rw [e] at e1
 cases e1
 have := d.length
 rw [List.length_map] at this
 exact ⟨_, e2, by rw [List.length_append]; omega⟩
theorem HasL.same {lo : Option Addr} {H H' : Hp} {n : Nat} (h : HasL lo H n) (s : Same H H') : HasL lo H' n := fun l hl => by
 obtain ⟨xs, e, z⟩ := h l hl
 exact ⟨xs, s _ _ e, z⟩
theorem HasL.mono {lo : Option Addr} {H : Hp} {n m : Nat} (h : HasL lo H n) (k : m ≤ n) : HasL lo H m := fun l hl => by
 obtain ⟨xs, e, z⟩ := h l hl
 exact ⟨xs, e, by omega⟩
theorem zuo (H : Hp) : zjt [] H = H := by funext b; exact z3s (by simp)
theorem zv4 (H H' : Hp) : zm1 [] H H' = H' := by funext b; exact z86 (by simp)
theorem q27 : dR.scope.names.lookup ("settled" : Str) = some NameKind.globalImplicit := by decide +kernel
theorem q26 : dT.scope.names.lookup ("settled" : Str) = some NameKind.globalImplicit := by decide +kernel
theorem q1s : Vis dR.scope "worth" := Or.inl (by decide +kernel)
theorem q1v : Vis dR.scope "path" := Or.inl (by decide +kernel)
theorem q1r : Vis dT.scope "worth" := Or.inl (by decide +kernel)
theorem q1u : Vis dT.scope "path" := Or.inl (by decide +kernel)
theorem q1t : Vis dT.scope "rows" := Or.inr (Or.inr (by decide +kernel))
theorem q02 {us : List Value} (hl : us.length = 2) : ∀ fd : FuncData, fd.params = dR.params → fd.defaults = .none → fd.kwdefaults = .none → fd.scope = dR.scope → bindArgs fd ⟨us, []⟩ = pure ((["worth", "path"] : List Str).zip us) := by
 intro fd h1 h2 h3 h4
 obtain ⟨name, qual, params, body, scope, globals, closure, defaults, kwdefaults, doc, pm, an, code, ct, bu⟩ := fd
 cases h1
 cases h2
 cases h3
 cases h4
 match us, hl with
 | [_, _], _ => rfl
theorem q01 {us : List Value} (hl : us.length = 2) : ∀ fd : FuncData, fd.params = dT.params → fd.defaults = .none → fd.kwdefaults = .none → fd.scope = dT.scope → bindArgs fd ⟨us, []⟩ = pure ((["worth", "path"] : List Str).zip us) := by
 intro fd h1 h2 h3 h4
 obtain ⟨name, qual, params, body, scope, globals, closure, defaults, kwdefaults, doc, pm, an, code, ct, bu⟩ := fd
 cases h1
 cases h2
 cases h3
 cases h4
 match us, hl with
 | [_, _], _ => rfl
theorem zj1 : DBF "settled" := by decide +kernel
end
section
variable {P : Program} {w : World} {K : PySem.W.Frag} {mg : Str → Option Value} {base : Heap} {f : Addr} {fd : FuncData}
theorem zz7 (c_settled : Callee P w K mg base "settled" ["worth", "path", "rows"] 1 z5v) {H : Hp} {x pv : V} {p : List Int} {Q : VK} {c' : Addr} (hf : H f = some (zqa dR [] f c')) (hc : H c' = some (zgg c' dR.qual)) (hp : Dt H pv (z3i p))
  (q : ∀ l, H l = none → z5v [x, pv, .ref l] (upd H l (.lst [])) Q E0) : zxw P w K mg base 2 f H [x, pv] Q := by
 intro A outer s us hr e0 r
 have hl : us.length = 2 := r.length.symm
 refine zrt (k := 1) (ps := ["worth", "path"]) (fr := []) (ws := []) q1z hr e0 hf hc rfl r rfl (by simp) (by simp) (q02 hl) fun hr' => ?_
 refine ⟨_, z1y c_settled hr' (by omega) (z07 (z00 (i := 0) rfl q1s z5x z60) (z07 (z00 (i := 1) rfl q1v z3o z3p) (z07 (z3h z03) z03))) q27 zj1, ?_⟩
 rw [List.map_nil, zuo]
 simp only [zv4, List.not_mem_nil, false_implies, implies_true, true_implies]
 walk_at "rd7"
 refine ⟨by decide, fun l hl => q l hl⟩
theorem zz6 (c_settled : Callee P w K mg base "settled" ["worth", "path", "rows"] 1 z5v) {H : Hp} {x pv : V} {p : List Int} {Q : VK} {c' c l : Addr} {o : Obj} (hf : H f = some (zqa dT [("rows", c)] f c')) (hc : H c' = some (zgg c' dT.qual)) (hcl : H c = some (z6v c o)) (ho : o.data = .cell (some (.ref l))) (hp : Dt H pv (z3i p))
  (q : z5v [x, pv, .ref l] (zjt [c] H) (fun v H' => H' c = none → Q v (zm1 [c] H H')) E0) : zxw P w K mg base 2 f H [x, pv] Q := by
 intro A outer s us hr e0 r
 have hl : us.length = 2 := r.length.symm
 refine zrt (k := 1) (ps := ["worth", "path"]) (fr := ["rows"]) (ws := [.ref l]) (q1y c) hr e0 hf hc rfl r rfl (fun c2 hc2 => ?_) (fun i x v h1 h2 => ?_) (q01 hl) fun hr' => ?_
 ·rw [List.map_cons, List.map_nil, List.mem_singleton] at hc2
  subst hc2
  exact ⟨o, _, hcl, ho⟩
 ·match i, h1, h2 with
  | 0, h1, h2 =>
   cases h1
   cases h2
   exact ⟨c, o, _, rfl, hcl, ho, rfl⟩
  | i + 1, h1, _ => simp at h1
 refine ⟨_, z1y c_settled hr' (by omega) (z07 (z00 (i := 0) rfl q1r z5x z60) (z07 (z00 (i := 1) rfl q1u z3o z3p) (z07 (z00 (i := 2) rfl q1t zna znh) z03))) q26 zj1, ?_⟩
 rw [List.map_cons, List.map_nil]
 simp only [List.mem_singleton, forall_eq]
 walk_at "rd7"
 exact q
theorem zru {H : Hp} {c : Addr} {o : Obj} (hc : H c = some (z6v c o)) : Kp H (zjt [c] H) := by
 have out : ∀ {b : Addr} {u : HO}, H b = some u → (∀ φ, u ≠ .ext φ) → zjt [c] H b = some u := fun {b u} e n => by
  rw [z3s fun z => by
   rw [List.mem_singleton.mp z, hc] at e
   cases e
   exact n _ rfl]
  exact e
 exact ⟨fun b xs e => out e fun φ z => (by cases z), fun b xs e => ⟨xs, out e fun φ z => (by cases z)⟩⟩
theorem z9g {H H' : Hp} {c : Addr} (hn : H' c = none) {b : Addr} {u : HO} (e : H' b = some u) : zm1 [c] H H' b = some u := by
 rw [z86 fun z => by
  rw [List.mem_singleton.mp z, hn] at e
  cases e]
 exact e
theorem zmy {H H' : Hp} {c : Addr} (hn : H' c = none) : Kp H' (zm1 [c] H H') := ⟨fun b xs e => z9g hn e, fun b xs e => ⟨xs, z9g hn e⟩⟩
theorem zfa (c_settled : Callee P w K mg base "settled" ["worth", "path", "rows"] 1 z5v) {H : Hp} {pv : V} {p : List Int} {i : Int} {lo : Option Addr} {Q : VK} (hS : SetOk f lo H) (hL : HasL lo H 1) (hp : Dt H pv (z3i p))
  (q : ∀ r H', Gr lo H H' [(p, i)] → Dt H' r (zi6 i p).enc → Q r H') : zxw P w K mg base 2 f H [.int i, pv] Q := by
 cases lo with
 | none =>
  obtain ⟨c', hf, hc⟩ := hS
  refine zz7 c_settled hf hc hp fun l hl => ?_
  have s1 := z04 hl (HO.lst [])
  refine ⟨_, pv, p, l, [], rfl, hp.kp s1.kp, z01, by decide, .inr ⟨i, rfl, fun r y H' sB hl' dy dr => q r H' ⟨fun a o _ e => sB a o (z0h e hl) (s1 _ _ e), fun l' z => by cases z⟩ dr⟩⟩
 | some l =>
  obtain ⟨c', c, o, hf, hc, hcl, ho⟩ := hS
  obtain ⟨xs, hl, hz⟩ := hL l rfl
  have nlc : l ≠ c := fun z => by rw [z, hcl] at hl; unfold z6v at hl; cases hl
  refine zz6 c_settled hf hc hcl ho hp ⟨_, pv, p, l, xs, rfl, hp.kp (zru hcl), by rw [z3s (by simpa using nlc)]; exact hl, by omega, .inr ⟨i, rfl, fun r y H' sB hl' dy dr hn => ?_⟩⟩
  refine q r _ ⟨fun a u na e => ?_, fun l2 e2 => ?_⟩ (dr.kp (zmy hn))
  ·by_cases hac : a = c
   ·subst hac
    rw [znj (by simp)]
    exact e
   ·exact z9g hn (sB a u (fun z => na (by rw [z])) (by rw [z3s (by simpa using hac)]; exact e))
  ·cases e2
   exact ⟨xs, [y], hl, z9g hn hl', .cons (dy.kp (zmy hn)) .nil⟩
theorem zma (c_settled : Callee P w K mg base "settled" ["worth", "path", "rows"] 1 z5v) {H : Hp} {pv : V} {p : List Int} {lo : Option Addr} {Q : VK} (hS : SetOk f lo H) (hL : HasL lo H 1) (hp : Dt H pv (z3i p))
  (q : ∀ r H', Gr lo H H' [] → Dt H' r (Rs.ref "zero" p).enc → Q r H') : zxw P w K mg base 2 f H [.non, pv] Q := by
 cases lo with
 | none =>
  obtain ⟨c', hf, hc⟩ := hS
  refine zz7 c_settled hf hc hp fun l hl => ?_
  have s1 := z04 hl (HO.lst [])
  exact ⟨_, pv, p, l, [], rfl, hp.kp s1.kp, z01, by decide, .inl ⟨rfl, fun r H' s2 dr => q r H' (Gr.same (n := 0) (s1.trans s2) fun l' z => (by cases z)) dr⟩⟩
 | some l =>
  obtain ⟨c', c, o, hf, hc, hcl, ho⟩ := hS
  obtain ⟨xs, hl, hz⟩ := hL l rfl
  have nlc : l ≠ c := fun z => by rw [z, hcl] at hl; unfold z6v at hl; cases hl
  have hlh : zjt [c] H l = some (.lst xs) := by rw [z3s (by simpa using nlc)]; exact hl
  refine zz6 c_settled hf hc hcl ho hp ⟨_, pv, p, l, xs, rfl, hp.kp (zru hcl), hlh, by omega, .inl ⟨rfl, fun r H' s2 dr hn => ?_⟩⟩
  refine q r _ ⟨fun a u na e => ?_, fun l2 e2 => ?_⟩ (dr.kp (zmy hn))
  ·by_cases hac : a = c
   ·subst hac
    rw [znj (by simp)]
    exact e
   ·exact z9g hn (s2 a u (by rw [z3s (by simpa using hac)]; exact e))
  ·cases e2
   exact ⟨xs, [], hl, by rw [List.append_nil]; exact z9g hn (s2 _ _ hlh), .nil⟩
end
section
variable {P : Program} {w : World} {K : PySem.W.Frag} {mg : Str → Option Value} {base : Heap} {f : Addr} {fd : FuncData}
def Wd.worth : Wd → Int → Int → Int
 | .add, a, b => a + b
 | .sub, a, b => a - b
 | .mul, a, b => a * b
 | .quo, a, b => a.fdiv b
 | .less, a, b => if a < b then 1 else 0
 | .same, a, b => if a = b then 1 else 0
 | .min, a, b => if b < a then b else a
 | .max, a, b => if b > a then b else a
def evT (c : Cnt) : T → List Int → Rs × List RI
 | .num i, p => (zi6 i p, [(p, i)])
 | .nm x, p => (zi6 ((zbl c x).getD 0) p, [(p, (zbl c x).getD 0)])
 | .op w a b, p => match evT c a (p ++ [0]) with
  | (.ref u q, r1) => (.ref u q, r1)
  | (.had x, r1) => match evT c b (p ++ [1]) with
   | (.ref u q, r2) => (.ref u q, r1 ++ r2)
   | (.had y, r2) => if w = .quo ∧ y = 0 then (.ref "zero" p, r1 ++ r2) else (zi6 (w.worth x y) p, r1 ++ r2 ++ [(p, w.worth x y)])
abbrev Ref := Str × List Int
abbrev Out := Option Ref × Cnt × List RI
def z57 (cond : Cnt → Rs × List RI) (body : Cnt → Out) (p : List Int) : Nat → Cnt → Out
 | k, c => match cond c with
  | (.ref u q, r) => (some (u, q), c, r)
  | (.had v, r) => if v = 0 then (none, c, r) else match k with
   | 0 => (some ("long", p), c, r)
   | k + 1 => match body c with
    | (some e, c1, r1) => (some e, c1, r ++ r1)
    | (none, c1, r1) => match z57 cond body p k c1 with
     | (e, c2, r2) => (e, c2, r ++ r1 ++ r2)
mutual
def evD (p : List Int) : D → Cnt → Out
 | .set x t, c => match evT c t (p ++ [0]) with
  | (.ref u q, r) => (some (u, q), c, r)
  | (.had v, r) => (none, zis c x v, r)
 | .ite t b b2, c => match evT c t (p ++ [0]) with
  | (.ref u q, r) => (some (u, q), c, r)
  | (.had v, r) => if v ≠ 0 then (match evB (p ++ [1]) 0 b c with | (e, c1, r1) => (e, c1, r ++ r1)) else (match evB (p ++ [2]) 0 b2 c with | (e, c1, r1) => (e, c1, r ++ r1))
 | .whl t m b, c => z57 (fun c => evT c t (p ++ [0])) (fun c => evB (p ++ [1]) 0 b c) p m.toNat c
def evB (p : List Int) (k : Int) : List D → Cnt → Out
 | [], c => (none, c, [])
 | d :: r, c => match evD (p ++ [k]) d c with
  | (some e, c1, w) => (some e, c1, w)
  | (none, c1, w) => match evB p (k + 1) r c1 with
   | (e, c2, w2) => (e, c2, w ++ w2)
end
def T.in (g : List Str) : T → Prop
 | .num _ => True
 | .nm x => x ∈ g
 | .op _ a b => a.in g ∧ b.in g
def Has (c : Cnt) (g : List Str) : Prop := ∀ x ∈ g, ∃ v, zbl c x = some v ∧ -32768 ≤ v ∧ v ≤ 32767
theorem zgk {i v : Int} {p : List Int} (h : zi6 i p = .had v) : v = i ∧ -32768 ≤ i ∧ i ≤ 32767 := by
 unfold zi6 at h
 split at h
 ·cases h
 ·split at h
  ·cases h
  ·cases h
   omega
theorem zn4 {c : Cnt} : ∀ (t : T) (p : List Int) {v : Int} {r : List RI}, evT c t p = (.had v, r) → -32768 ≤ v ∧ v ≤ 32767
 | .num i, p, v, r, h => by
  rw [evT] at h
  obtain ⟨rfl, h1, h2⟩ := zgk (congrArg Prod.fst h)
  exact ⟨h1, h2⟩
 | .nm x, p, v, r, h => by
  rw [evT] at h
  obtain ⟨rfl, h1, h2⟩ := zgk (congrArg Prod.fst h)
  exact ⟨h1, h2⟩
 | .op w a b, p, v, r, h => by
  rw [evT] at h
  split at h
  ·cases h
  ·split at h
   ·cases h
   ·split at h
    ·cases h
    ·obtain ⟨rfl, h1, h2⟩ := zgk (congrArg Prod.fst h)
     exact ⟨h1, h2⟩
theorem zkv {c : Cnt} {w : Wd} {a b : T} {p : List Int} {u : Str} {q : List Int} {r : List RI} (h : evT c a (p ++ [0]) = (.ref u q, r)) : evT c (.op w a b) p = (.ref u q, r) := by rw [evT, h]
theorem zfi {c : Cnt} {w : Wd} {a b : T} {p : List Int} {u : Str} {q : List Int} {x : Int} {r s : List RI} (h : evT c a (p ++ [0]) = (.had x, r)) (h2 : evT c b (p ++ [1]) = (.ref u q, s)) : evT c (.op w a b) p = (.ref u q, r ++ s) := by rw [evT, h]; simp only [h2]
theorem zfh {c : Cnt} {a b : T} {p : List Int} {x : Int} {r s : List RI} (h : evT c a (p ++ [0]) = (.had x, r)) (h2 : evT c b (p ++ [1]) = (.had 0, s)) : evT c (.op .quo a b) p = (.ref "zero" p, r ++ s) := by rw [evT, h]; simp [h2]
theorem ziu {c : Cnt} {w : Wd} {a b : T} {p : List Int} {x y : Int} {r s : List RI} (h : evT c a (p ++ [0]) = (.had x, r)) (h2 : evT c b (p ++ [1]) = (.had y, s)) (h3 : ¬ (w = .quo ∧ y = 0)) : evT c (.op w a b) p = (zi6 (w.worth x y) p, r ++ s ++ [(p, w.worth x y)]) := by rw [evT, h]; simp only [h2]; rw [if_neg h3]
theorem zrb (c : Cnt) (w : Wd) (a b : T) (p : List Int) : (evT c a (p ++ [0])).2.length ≤ (evT c (.op w a b) p).2.length := by
 cases h : evT c a (p ++ [0]) with
 | mk r1 s1 =>
  cases r1 with
  | ref u q => rw [zkv h]; exact Nat.le_refl _
  | had x =>
   cases h2 : evT c b (p ++ [1]) with
   | mk r2 s2 =>
    cases r2 with
    | ref u q => rw [zfi h h2]; simp
    | had y =>
     by_cases h3 : w = .quo ∧ y = 0
     ·obtain ⟨rfl, rfl⟩ := h3
      rw [zfh h h2]; simp
     ·rw [ziu h h2 h3]; simp only [List.length_append, List.length_cons, List.length_nil]; omega
theorem zra {c : Cnt} {w : Wd} {a b : T} {p : List Int} {x : Int} {r : List RI} (h : evT c a (p ++ [0]) = (.had x, r)) : r.length + (evT c b (p ++ [1])).2.length ≤ (evT c (.op w a b) p).2.length := by
 cases h2 : evT c b (p ++ [1]) with
 | mk r2 s2 =>
  cases r2 with
  | ref u q => rw [zfi h h2]; simp
  | had y =>
   by_cases h3 : w = .quo ∧ y = 0
   ·obtain ⟨rfl, rfl⟩ := h3
    rw [zfh h h2]; simp
   ·rw [ziu h h2 h3]; simp only [List.length_append, List.length_cons, List.length_nil]; omega
def z74 (n : Nat) : Sp := fun vs H Q _ => ∃ (v : V) (t : T) (pv : V) (p : List Int) (d f : Addr) (c : Cnt) (g : List Str) (lo : Option Addr), vs = [v, pv, .ref d, .ref f] ∧ Dt H v t.enc ∧ Dt H pv (z3i p) ∧ t.ok g n ∧ n ≤ 5 ∧ p.length + n ≤ 100 ∧ H d = some (.dK (kvC c)) ∧ Has c g ∧ SetOk f lo H ∧ HasL lo H ((evT c t p).2.length + 1) ∧
 ∀ (r : V) (H' : Hp), Gr lo H H' (evT c t p).2 → Dt H' r (evT c t p).1.enc → Q r H'
end
section
variable {P : Program} {w : World} {K : PySem.W.Frag} {mg : Str → Option Value} {base : Heap} {f : Addr} {fd : FuncData}
theorem eqW {H : Hp} (w v : Wd) : q0l K (.str w.str) (.str v.str) H (decide (w = v)) := .inl ⟨rfl, by cases w <;> cases v <;> decide +kernel⟩
def zm6 : Sp := fun vs H Q _ => ∃ (w : Wd) (a b : Int), vs = [.str w.str, .int a, .int b] ∧ (w = .quo → b ≠ 0) ∧ b.natAbs < 1073741824 ∧ Q (.int (w.worth a b)) H
theorem zmr (F : Fun K "worth_of" "worth_of" z3q f fd) (b_min : mg "min" = none) (b_max : mg "max" = none) : FnOk P w K mg base CX0 1 f fd ["word", "one", "other"] zm6 := by
 refine F.ok zmc (fun vs H Q E h => ?_) (fun cdv A outer s H vs Q E hr h => ?_)
 ·obtain ⟨w, a, b, rfl, _⟩ := h
  rfl
 obtain ⟨w, a, b, rfl, hq, hb, q⟩ := h
 refine ⟨_, (z06 (z2m (z0c (gEq hr.units) (z00 (i := 0) rfl z2p zdc zdi) z0l (z0m _)) (z08 (z0q (z17 z2e (z00 (i := 1) rfl z2f zbp zbu) (z00 (i := 2) rfl z1x z5d z5e)))) z0s)
 (z06 (z2m (z0c (gEq hr.units) (z00 (i := 0) rfl z2p zdc zdi) z0l (z0m _)) (z08 (z0q (z17 ze2 (z00 (i := 1) rfl z2f zbp zbu) (z00 (i := 2) rfl z1x z5d z5e)))) z0s)
 (z06 (z2m (z0c (gEq hr.units) (z00 (i := 0) rfl z2p zdc zdi) z0l (z0m _)) (z08 (z0q (z17 zai (z00 (i := 1) rfl z2f zbp zbu) (z00 (i := 2) rfl z1x z5d z5e)))) z0s)
 (z06 (z2m (z0c (gEq hr.units) (z00 (i := 0) rfl z2p zdc zdi) z0l (z0m _)) (z08 (z0q (z17 zoc (z00 (i := 1) rfl z2f zbp zbu) (z00 (i := 2) rfl z1x z5d z5e)))) z0s)
 (z06 (z2m (z0c (gEq hr.units) (z00 (i := 0) rfl z2p zdc zdi) z0l (z0m _)) (z08 (z0q (z7z (z0c zkz (z00 (i := 1) rfl z2f zbp zbu) (z00 (i := 2) rfl z1x z5d z5e) (z0m _)) z02 z02))) z0s)
 (z06 (z2m (z0c (gEq hr.units) (z00 (i := 0) rfl z2p zdc zdi) z0l (z0m _)) (z08 (z0q (z7z (z0c zbd (z00 (i := 1) rfl z2f zbp zbu) (z00 (i := 2) rfl z1x z5d z5e) (z0m _)) z02 z02))) z0s)
 (z06 (z2m (z0c (gEq hr.units) (z00 (i := 0) rfl z2p zdc zdi) z0l (z0m _)) (z08 (z0q (z75 (zt4 rfl) zhk b_min zzy (z07 (z00 (i := 1) rfl z2f zbp zbu) (z07 (z00 (i := 2) rfl z1x z5d z5e) z03)) zz2 zzr))) z0s)
 (z08 (z0q (z75 (zt5 rfl) zhl b_max zzz (z07 (z00 (i := 1) rfl z2f zbp zbu) (z07 (z00 (i := 2) rfl z1x z5d z5e) z03)) zz3 zzs)))))))))), ?_⟩
 walk_at "rd"
 have hm : CMul a b := .inr ⟨by omega, by omega⟩
 refine ⟨_, eqW w .add, ?_⟩
 split
 ·rename_i e; cases of_decide_eq_true e; exact q
 rename_i n1
 refine ⟨_, eqW w .sub, ?_⟩
 split
 ·rename_i e; cases of_decide_eq_true e; exact q
 rename_i n2
 refine ⟨_, eqW w .mul, ?_⟩
 split
 ·rename_i e; cases of_decide_eq_true e; exact ⟨hm, q⟩
 rename_i n3
 refine ⟨_, eqW w .quo, ?_⟩
 split
 ·rename_i e; cases of_decide_eq_true e; exact ⟨⟨hq rfl, hb⟩, q⟩
 rename_i n4
 refine ⟨_, eqW w .less, ?_⟩
 split
 ·rename_i e; cases of_decide_eq_true e
  have q : Q (.int (if a < b then 1 else 0)) H := q
  split
  ·rename_i c; rw [if_pos c] at q; exact q
  ·rename_i c; rw [if_neg c] at q; exact q
 rename_i n5
 refine ⟨_, eqW w .same, ?_⟩
 split
 ·rename_i e; cases of_decide_eq_true e
  have q : Q (.int (if a = b then 1 else 0)) H := q
  split
  ·rename_i c; rw [if_pos c] at q; exact q
  ·rename_i c; rw [if_neg c] at q; exact q
 rename_i n6
 refine ⟨_, eqW w .min, ?_⟩
 split
 ·rename_i e; cases of_decide_eq_true e; exact ⟨_, _, ⟨rfl, rfl⟩, q⟩
 rename_i n7
 have e : w = .max := by
  cases w <;> first | rfl | exact absurd rfl (by assumption)
 cases e
 exact ⟨_, _, ⟨rfl, rfl⟩, q⟩
theorem zmv {k : Nat} {n1 n2 n3 n4 : Str} : FnOk P w K mg base CX0 k f fd [n1, n2, n3, n4] (z74 0) := by
 have no : ∀ vs H Q E, ¬ z74 0 vs H Q E := fun vs H Q E h => by
  obtain ⟨v, t, pv, p, d, f, c, g, lo, _, _, _, h, _⟩ := h
  exact h.elim
 exact ⟨fun vs H Q E h => absurd h (no vs H Q E), fun A outer s H args us vs Q E _ _ _ _ h => absurd h (no vs H Q E)⟩
theorem zfr {H : Hp} {x z : Str} : q0l K (.str x) (.str z) H (decide (x = z)) := .inl ⟨rfl, by simp⟩
theorem znl {t : T} (h : t.word = "num") : ∃ i, t = .num i := by
 cases t with
 | num i => exact ⟨i, rfl⟩
 | nm x => exact absurd h (show ¬ ("name" : Str) = "num" by decide +kernel)
 | op w a b => exact absurd h (show ¬ w.str = "num" by cases w <;> decide +kernel)
theorem zkc {t : T} (h : t.word = "name") : ∃ x, t = .nm x := by
 cases t with
 | num i => exact absurd h (show ¬ ("num" : Str) = "name" by decide +kernel)
 | nm x => exact ⟨x, rfl⟩
 | op w a b => exact absurd h (show ¬ w.str = "name" by cases w <;> decide +kernel)
theorem zqd {t : T} (h1 : ¬ t.word = "num") (h2 : ¬ t.word = "name") : ∃ w a b, t = .op w a b := by
 cases t with
 | num i => exact absurd rfl h1
 | nm x => exact absurd rfl h2
 | op w a b => exact ⟨w, a, b, rfl⟩
theorem zfw {H : Hp} {v : V} {r : Rs} (h : Dt H v r.enc) : ∃ a, v = .ref a ∧ ((∃ i, r = .had i ∧ H a = some (.tup [.str "had", .int i])) ∨ ∃ u q y, r = .ref u q ∧ H a = some (.tup [.str "refused", .str u, y])) := by
 cases r with
 | had i =>
  rw [Rs.enc] at h
  obtain ⟨a, x0, x1, rfl, ha, t0, t1⟩ := zqj h
  cases t0; cases t1
  exact ⟨a, rfl, .inl ⟨i, rfl, ha⟩⟩
 | ref u q =>
  rw [Rs.enc] at h
  obtain ⟨a, x0, x1, x2, rfl, ha, t0, t1, t2⟩ := zqi h
  cases t0; cases t1
  exact ⟨a, rfl, .inr ⟨u, q, x2, rfl, ha⟩⟩
theorem z92 : ¬ ("had" : Str) = "refused" := by decide +kernel
theorem zrh {n : Nat} (F : Fun K "reckon" "reckon" z3m f fd) (c_worth_of : Callee P w K mg base "worth_of" ["word", "one", "other"] 1 zm6) (c_settled : Callee P w K mg base "settled" ["worth", "path", "rows"] 1 z5v) (c_reckon : Callee P w K mg base "reckon" ["term", "path", "names", "settle"] (n + 2) (z74 n)) : FnOk P w K mg base CX0 (n + 3) f fd ["term", "path", "names", "settle"] (z74 (n + 1)) := by
 refine F.ok sc_reckon (fun vs H Q E h => ?_) (fun cdv A outer s H vs Q E hr h => ?_)
 ·obtain ⟨v, t, pv, p, d, f, c, g, lo, rfl, _⟩ := h
  rfl
 obtain ⟨v, t, pv, p, d, fs, c, g, lo, rfl, hv, hp, hok, hn, hpl, hd, hh, hS, hL, q⟩ := h
 obtain ⟨va, y, tx, rfl, hva⟩ := znp hv
 refine ⟨_, (z06 (z2m (z0c (gEq hr.units) (z0w ix_tup (z00 (i := 0) rfl z2t zbn zbt) z02 (fun _ _ => rfl)) z0l (z0m _)) (z08 (z0q (zgm (i := 3) (k := 2) rfl z3e hr (by omega) (z07 (z0w ix_tup (z00 (i := 0) rfl z2t zbn zbt) z02 (fun _ _ => rfl)) (z07 (z00 (i := 1) rfl z40 z3o z3p) z03)) z2n z2o))) z0s)
 (z06 (z2m (z0c (gEq hr.units) (z0w ix_tup (z00 (i := 0) rfl z2t zbn zbt) z02 (fun _ _ => rfl)) z0l (z0m _)) (z08 (z0q (zgm (i := 3) (k := 2) rfl z3e hr (by omega) (z07 (zmk hr.units1 (z00 (i := 2) rfl z6q z2j z2k) (z0w ix_tup (z00 (i := 0) rfl z2t zbn zbt) z02 (fun _ _ => rfl)) (fun _ _ => rfl)) (z07 (z00 (i := 1) rfl z40 z3o z3p) z03)) z2n z2o))) z0s)
 (z06 (z1d (i := 4) sc_reckon.nd rfl zib (z1y c_reckon hr (by omega) (z07 (z0w ix_tup (z00 (i := 0) rfl z2t zbn zbt) z02 (fun _ _ => rfl)) (z07 (z17 z2s (z00 (i := 1) rfl z40 z3o z3p) (z14 (z07 z02 z03))) (z07 (z00 (i := 2) rfl z6q z2j z2k) (z07 (z00 (i := 3) rfl z3e z2n z2o) z03)))) zam zbo) (z05 rfl))
 (z06 (z2m (z0c (gEq hr.units) (z0w ix_tup (z00 (i := 4) rfl z87 zbp zbu) z02 (fun _ _ => rfl)) z0l (z0m _)) (z08 (z0q (z00 (i := 4) rfl z87 zbp zbu))) z0s)
 (z06 (z1d (i := 5) sc_reckon.nd rfl zg5 (z1y c_reckon hr (by omega) (z07 (z0w ix_tup (z00 (i := 0) rfl z2t zbn zbt) z02 (fun _ _ => rfl)) (z07 (z17 z2s (z00 (i := 1) rfl z40 z3o z3p) (z14 (z07 z02 z03))) (z07 (z00 (i := 2) rfl z6q z2j z2k) (z07 (z00 (i := 3) rfl z3e z2n z2o) z03)))) zam zbo) (z05 rfl))
 (z06 (z2m (z0c (gEq hr.units) (z0w ix_tup (z00 (i := 5) rfl z5c z5d z5e) z02 (fun _ _ => rfl)) z0l (z0m _)) (z08 (z0q (z00 (i := 5) rfl z5c z5d z5e))) z0s)
 (z06 (z2m (PW.pt (zh6 (z0c (gEq hr.units) (z0w ix_tup (z00 (i := 0) rfl z2t zbn zbt) z02 (fun _ _ => rfl)) z0l (z0m _)) (zfd (z0c zbd (z0w ix_tup (z00 (i := 5) rfl z5c z5d z5e) z02 (fun _ _ => rfl)) z02 (z0m _))))) (z08 (z0q (zgm (i := 3) (k := 2) rfl z3e hr (by omega) (z07 zah (z07 (z00 (i := 1) rfl z40 z3o z3p) z03)) z2n z2o))) z0s)
 (z08 (z0q (zgm (i := 3) (k := 2) rfl z3e hr (by omega) (z07 (z1y c_worth_of hr (by omega) (z07 (z0w ix_tup (z00 (i := 0) rfl z2t zbn zbt) z02 (fun _ _ => rfl)) (z07 (z0w ix_tup (z00 (i := 4) rfl z87 zbp zbu) z02 (fun _ _ => rfl)) (z07 (z0w ix_tup (z00 (i := 5) rfl z5c z5d z5e) z02 (fun _ _ => rfl)) z03))) zea zn9) (z07 (z00 (i := 1) rfl z40 z3o z3p) z03)) z2n z2o)))))))))), z0f fun N1 e1 => ?_⟩
 walk_at "rd7"
 refine ⟨_, SqT.of hva, _, z0k, _, zfr, ?_⟩
 split
 ·rename_i hw
  obtain ⟨i, rfl⟩ := znl (of_decide_eq_true hw)
  rw [T.enc] at hv
  obtain ⟨a2, x0, x1, ea, ha2, t0, t1⟩ := zqj hv
  cases ea
  cases t1
  rw [ha2] at hva
  cases hva
  rw [evT] at hL q
  refine ⟨hS.lam, _, SqT.of ha2, _, z0x (j := 1) rfl, hS.lam, ?_⟩
  exact zfa c_settled hS (hL.mono (by simp)) hp q
 rename_i hw1
 rw [e1]
 refine z0f fun N2 e2 => ?_
 walk_at "rd7"
 refine ⟨_, SqT.of hva, _, z0k, _, zfr, ?_⟩
 split
 ·rename_i hw
  obtain ⟨x, rfl⟩ := zkc (of_decide_eq_true hw)
  rw [T.enc] at hv
  obtain ⟨a2, x0, x1, ea, ha2, t0, t1⟩ := zqj hv
  cases ea
  cases t1
  rw [ha2] at hva
  cases hva
  rw [evT] at hL q
  obtain ⟨w, hw2, _⟩ := hh x hok
  rw [hw2] at hL q
  have hg : DGet H d (.str x) (some (.int w)) := by
   have := DGet.k (k := Sum.inr x) hd
   rw [znm, hw2] at this
   exact this
  refine ⟨hS.lam, _, SqT.of ha2, _, z0x (j := 1) rfl, _, hg, hS.lam, ?_⟩
  exact zfa c_settled hS (hL.mono (by simp)) hp q
 rename_i hw2
 obtain ⟨wd, ta, tb, rfl⟩ := zqd (fun z => hw1 (decide_eq_true z)) fun z => hw2 (decide_eq_true z)
 rw [e2]
 refine z0f fun N3 e3 => ?_
 walk_at "rd7"
 have hv0 := hv
 rw [T.enc] at hv
 obtain ⟨a2, x0, xa, xb, ea, ha2, t0, da, db⟩ := zqi hv
 cases ea
 cases t0
 clear hva
 refine ⟨_, SqT.of ha2, _, z0x (j := 1) rfl, by decide, fun p1 h1 => ?_⟩
 have s1 := z04 h1 (HO.tup [V.int 0])
 refine zka (hp.kp s1.kp) zaw (by simp; omega) fun z H1 s2 dz => ?_
 have s12 := s1.trans s2
 have l1 := zrb c wd ta tb p
 refine ⟨xa, ta, z, _, d, fs, c, g, lo, rfl, da.kp s12.kp, dz, hok.1, by omega, by simp; omega, s12 _ _ hd, hh, hS.kp (Same.kpE s12), (hL.same s12).mono (by omega), fun r1 H2 g1 dr1 => ?_⟩
 have G1 : Gr lo H H2 (evT c ta (p ++ [0])).2 := (Gr.same s12 hL).trans g1
 clear g1 s1 s2 s12
 obtain ⟨b1, rfl, hb1⟩ := zfw dr1
 rcases he1 : evT c ta (p ++ [0]) with ⟨r1, w1⟩
 rw [he1] at G1 dr1 hb1
 rw [e3]
 refine z0f fun N4 e4 => ?_
 walk_at "rd7"
 rcases hb1 with ⟨i1, rfl, hb1⟩ | ⟨u, qq, y1, rfl, hb1⟩
 rotate_left
 ·refine ⟨_, SqT.of hb1, _, z0k, _, zfr, ?_⟩
  rw [if_pos (decide_eq_true rfl)]
  rw [zkv he1] at q
  exact q _ _ G1 dr1
 refine ⟨_, SqT.of hb1, _, z0k, _, zfr, ?_⟩
 rw [if_neg (by rw [decide_eq_true_eq]; exact z92)]
 have ha3 := G1.keep ha2 (by intro xs z; cases z)
 have hd3 := G1.keep hd (by intro xs z; cases z)
 have hp3 := hp.kp G1.kp
 have db3 := db.kp G1.kp
 have hS3 := hS.kp G1.kpE
 have l2 := zra (w := wd) (b := tb) he1
 have hL3 : HasL lo H2 ((evT c tb (p ++ [1])).2.length + 1) := hL.on G1 (by show w1.length + _ ≤ _; omega)
 rw [e4]
 refine z0f fun N5 e5 => ?_
 walk_at "rd7"
 refine ⟨_, SqT.of ha3, _, z0x (j := 2) rfl, by decide, fun p2 h2 => ?_⟩
 have s3 := z04 h2 (HO.tup [V.int 1])
 refine zka (hp3.kp s3.kp) zaw (by simp; omega) fun z2 H3 s4 dz2 => ?_
 have s34 := s3.trans s4
 refine ⟨xb, tb, z2, _, d, fs, c, g, lo, rfl, db3.kp s34.kp, dz2, hok.2, by omega, by simp; omega, s34 _ _ hd3, hh, hS3.kp (Same.kpE s34), hL3.same s34, fun r2 H4 g2 dr2 => ?_⟩
 have G2 : Gr lo H2 H4 (evT c tb (p ++ [1])).2 := (Gr.same s34 hL3).trans g2
 clear g2 s3 s4 s34
 obtain ⟨b2, rfl, hb2⟩ := zfw dr2
 rcases he2 : evT c tb (p ++ [1]) with ⟨r2, w2⟩
 rw [he2] at G2 dr2 hb2 hL3
 have hb14 := G2.keep hb1 (by intro xs z; cases z)
 have ha4 := G2.keep ha3 (by intro xs z; cases z)
 have hp4 := hp3.kp G2.kp
 have hS4 := hS3.kp G2.kpE
 have G12 := G1.trans G2
 rw [e5]
 refine z0f fun N6 e6 => ?_
 walk_at "rd7"
 rcases hb2 with ⟨i2, rfl, hb2⟩ | ⟨u, qq, y1, rfl, hb2⟩
 rotate_left
 ·refine ⟨_, SqT.of hb2, _, z0k, _, zfr, ?_⟩
  rw [if_pos (decide_eq_true rfl)]
  rw [zfi he1 he2] at q
  exact q _ _ G12 dr2
 refine ⟨_, SqT.of hb2, _, z0k, _, zfr, ?_⟩
 rw [if_neg (by rw [decide_eq_true_eq]; exact z92)]
 have hL4 : HasL lo H4 1 := hL3.on G2 (Nat.le_refl _)
 have hw2 := zn4 tb (p ++ [1]) he2
 rw [e6]
 refine z0f fun N7 e7 => ?_
 walk_at "rd7"
 refine ⟨_, SqT.of ha4, _, z0k, _, zfr, ?_⟩
 have last : (wd = .quo → i2 ≠ 0) → N7 [some (V.ref va), some pv, some (V.ref d), some (V.ref fs), some (V.ref b1), some (V.ref b2)] H4 := fun hq => by
  rw [e7]
  walk_at "rd7"
  rw [ziu he1 he2 (fun z => hq z.1 z.2)] at q
  refine ⟨hS4.lam, _, SqT.of ha4, _, z0k, _, SqT.of hb14, _, z0x (j := 1) rfl, _, SqT.of hb2, _, z0x (j := 1) rfl, wd, i1, i2, rfl, hq, by omega, ?_⟩
  refine ⟨hS4.lam, zfa c_settled hS4 hL4 hp4 fun r H' g dr => q r H' (G12.trans g) dr⟩
 split
 ·rename_i hq
  have hq' : wd = .quo := by
   have := of_decide_eq_true hq
   cases wd <;> first | rfl | exact absurd this (by decide +kernel)
  subst hq'
  refine ⟨_, SqT.of hb2, _, z0x (j := 1) rfl, _, rfl, ?_⟩
  split
  ·rename_i hz
   subst hz
   rw [zfh he1 he2] at q
   refine ⟨hS4.lam, hS4.lam, zma c_settled hS4 hL4 hp4 fun r H' g dr => q r H' ?_ dr⟩
   have := G12.trans g
   rw [List.append_nil] at this
   exact this
  ·rename_i hz
   exact last fun _ => hz
 ·rename_i hq
  exact last fun z => absurd (decide_eq_true (by rw [z]; rfl)) hq
theorem zj4 (d : Df K mg "reckon" z3m ["term", "path", "names", "settle"] f fd) (c_worth_of : Callee P w K mg base "worth_of" ["word", "one", "other"] 1 zm6) (c_settled : Callee P w K mg base "settled" ["worth", "path", "rows"] 1 z5v) : ∀ n : Nat, Callee P w K mg base "reckon" ["term", "path", "names", "settle"] (n + 2) (z74 n)
 | 0 => d.callee zmv
 | n + 1 => d.callee (zrh d.F c_worth_of c_settled (zj4 d c_worth_of c_settled n))
end
section
variable {P : Program} {w : World} {K : PySem.W.Frag} {mg : Str → Option Value} {base : Heap} {f : Addr} {fd : FuncData}
def Gd (d : Addr) (lo : Option Addr) (H H' : Hp) (rs : List RI) : Prop := (∀ a o, a ≠ d → some a ≠ lo → H a = some o → H' a = some o) ∧ ∀ l, lo = some l → ∃ xs ys, H l = some (.lst xs) ∧ H' l = some (.lst (xs ++ ys)) ∧ DtA H' ys (rs.map zm0)
theorem Gr.gd {d : Addr} {lo : Option Addr} {H H' : Hp} {rs : List RI} (h : Gr lo H H' rs) : Gd d lo H H' rs := ⟨fun a o _ n e => h.1 a o n e, h.2⟩
theorem Gd.keep {d : Addr} {lo : Option Addr} {H H' : Hp} {rs : List RI} {k : List (Key × V)} (h : Gd d lo H H' rs) (hd : H d = some (.dK k)) {a : Addr} {o : HO} (e : H a = some o) (n1 : ∀ xs, o ≠ .lst xs) (n2 : ∀ k, o ≠ .dK k) : H' a = some o := h.1 a o (fun z => by
 rw [z, hd] at e
 cases e
 exact n2 _ rfl) (fun z => by
 obtain ⟨xs, ys, e1, _⟩ := h.2 a z.symm
 rw [e1] at e
 cases e
 exact n1 _ rfl) e
theorem Gd.kp {d : Addr} {lo : Option Addr} {H H' : Hp} {rs : List RI} {k : List (Key × V)} (h : Gd d lo H H' rs) (hd : H d = some (.dK k)) : Kp H H' := by
 refine ⟨fun b xs e => h.keep hd e (fun _ z => by cases z) (fun _ z => by cases z), fun b xs e => ?_⟩
 by_cases hb : some b = lo
 ·obtain ⟨xs', ys, e1, e2, _⟩ := h.2 b hb.symm
  exact ⟨_, e2⟩
 ·exact ⟨xs, h.1 b _ (fun z => by rw [z, hd] at e; cases e) hb e⟩
theorem Gd.kpE {d : Addr} {lo : Option Addr} {H H' : Hp} {rs : List RI} {k : List (Key × V)} (h : Gd d lo H H' rs) (hd : H d = some (.dK k)) : KpE H H' := fun a φ e => h.keep hd e (fun _ z => by cases z) fun _ z => by cases z
theorem Gd.trans {d : Addr} {lo : Option Addr} {H H1 H2 : Hp} {r1 r2 : List RI} {k : List (Key × V)} (a : Gd d lo H H1 r1) (b : Gd d lo H1 H2 r2) (hd : H1 d = some (.dK k)) : Gd d lo H H2 (r1 ++ r2) := by
 refine ⟨fun x o n1 n2 e => b.1 x o n1 n2 (a.1 x o n1 n2 e), fun l hl => ?_⟩
 obtain ⟨xs, ys, e1, e2, d1⟩ := a.2 l hl
 obtain ⟨xs', zs, f1, f2, d2⟩ := b.2 l hl
 rw [e2] at f1
 cases f1
 exact ⟨xs, ys ++ zs, e1, by rw [f2, List.append_assoc], by rw [List.map_append]; exact (d1.kp (b.kp hd)).append d2⟩
theorem Gd.put {d : Addr} {lo : Option Addr} {H H' : Hp} {rs : List RI} {k : List (Key × V)} {e : List (Key × V)} (h : Gr lo H H' rs) (hd : H' d = some (.dK k)) : Gd d lo H (upd H' d (.dK e)) rs := by
 refine ⟨fun a o n1 n2 z => by rw [z0e n1]; exact h.1 a o n2 z, fun l hl => ?_⟩
 obtain ⟨xs, ys, e1, e2, d1⟩ := h.2 l hl
 exact ⟨xs, ys, e1, by rw [z0e fun z => by rw [z, hd] at e2; cases e2]; exact e2, d1.kp (zrv hd)⟩
theorem HasL.onD {d : Addr} {lo : Option Addr} {H H' : Hp} {rs : List RI} {n m : Nat} (h : HasL lo H n) (g : Gd d lo H H' rs) (k : rs.length + m ≤ n) : HasL lo H' m := fun l hl => by
 obtain ⟨xs, e, z⟩ := h l hl
 obtain ⟨xs', ys, e1, e2, d⟩ := g.2 l hl
 rw [e] at e1
 cases e1
 have := d.length
 rw [List.length_map] at this
 exact ⟨_, e2, by rw [List.length_append]; omega⟩
def KeyOk (c : Cnt) : Prop := (c.map (·.1)).Nodup ∧ ∀ p ∈ c, p.1 ∈ pool
theorem KeyOk.put {c : Cnt} (h : KeyOk c) {x : Str} (hx : x ∈ pool) (v : Int) : KeyOk (zis c x v) := by
 refine ⟨?_, fun p hp => ?_⟩
 ·rw [zgl]
  split
  ·exact h.1
  ·rename_i hn
   exact List.nodup_append.mpr ⟨h.1, by simp, fun a ha b hb e => hn (by rw [List.mem_singleton] at hb; rw [← hb, ← e]; exact ha)⟩
 ·have hm : p.1 ∈ (zis c x v).map (·.1) := List.mem_map.mpr ⟨p, hp, rfl⟩
  rw [zgl] at hm
  split at hm
  ·obtain ⟨q, hq, e⟩ := List.mem_map.mp hm
   rw [← e]; exact h.2 q hq
  ·rcases List.mem_append.mp hm with hm | hm
   ·obtain ⟨q, hq, e⟩ := List.mem_map.mp hm
    rw [← e]; exact h.2 q hq
   ·rw [List.mem_singleton] at hm
    rw [hm]; exact hx
theorem KeyOk.len {c : Cnt} (h : KeyOk c) : c.length ≤ 4 := by
 have := zjl (c.map (·.1)) pool h.1 fun x hx => by
  obtain ⟨q, hq, e⟩ := List.mem_map.mp hx
  rw [← e]; exact h.2 q hq
 rw [List.length_map] at this
 exact this
theorem zjw : ∀ (c : Cnt) (x : Str) (v : Int), zbl (zis c x v) x = some v := by
 intro c x v
 unfold zis
 split
 ·rename_i h
  induction c with
  | nil => simp at h
  | cons p c ih =>
   by_cases e : p.1 = x
   ·simp [zbl, e]
   ·have h' : (c.any fun p => decide (p.1 = x)) = true := by simpa [e] using h
    have := ih h'
    unfold zbl at this ⊢
    rw [List.map_cons, if_neg e, List.find?_cons]
    simpa [e] using this
 ·rename_i h
  have hn : ∀ p ∈ c, p.1 ≠ x := fun p hp e => h (List.any_eq_true.mpr ⟨p, hp, decide_eq_true e⟩)
  unfold zbl
  rw [List.find?_append, List.find?_eq_none.mpr (fun p hp => by simpa using hn p hp)]
  simp
theorem zn2 : ∀ (c : Cnt) {x y : Str} (v : Int), y ≠ x → zbl (zis c x v) y = zbl c y := by
 intro c x y v hne
 unfold zis
 split
 ·rename_i hany
  clear hany
  induction c with
  | nil => rfl
  | cons p c ih =>
   unfold zbl at ih ⊢
   rw [List.map_cons, List.find?_cons, List.find?_cons]
   by_cases e : p.1 = x
   ·rw [if_pos e]
    have : ¬ p.1 = y := fun z => hne (z.symm.trans e)
    simpa [this] using ih
   ·rw [if_neg e]
    by_cases e2 : p.1 = y
    ·simp [e2]
    ·simpa [e2] using ih
 ·unfold zbl
  rw [List.find?_append]
  cases hf : c.find? fun p => decide (p.1 = y) with
  | none => simp [Ne.symm hne]
  | some q => simp
theorem Has.put {c : Cnt} {g : List Str} (h : Has c g) {x : Str} {v : Int} (h1 : -32768 ≤ v) (h2 : v ≤ 32767) : Has (zis c x v) (g ++ [x]) := fun y hy => by
 by_cases e : y = x
 ·rw [e, zjw]
  exact ⟨v, rfl, h1, h2⟩
 ·rw [zn2 c v e]
  rcases List.mem_append.mp hy with hy | hy
  ·exact h y hy
  ·exact absurd (List.mem_singleton.mp hy) e
theorem Has.sub {c : Cnt} {g g' : List Str} (h : Has c g) (s : Sub g' g) : Has c g' := fun x hx => h x (s x hx)
theorem z76 {g : List Str} : ∀ {n : Nat} {t : T}, T.ok pool n t → t.knows g = true → T.ok g n t
 | 0, _, h, _ => h.elim
 | n + 1, .num i, h, _ => h
 | n + 1, .nm x, h, k => show x ∈ g by simpa [T.knows] using k
 | n + 1, .op w a b, h, k => by
  rw [T.knows, Bool.and_eq_true] at k
  exact ⟨z76 h.1 k.1, z76 h.2 k.2⟩
mutual
theorem zwr : ∀ (d : D) (p q : List Str), kbD p d = some q → Sub p q
 | .set x t, p, q, h => by
  rw [kbD] at h
  split at h
  ·cases h
   exact fun y hy => List.mem_append_left _ hy
  ·cases h
 | .ite t b c, p, q, h => by
  rw [kbD] at h
  split at h
  ·cases hb : kbB p b with
   | none => rw [hb] at h; cases h
   | some q1 =>
    cases hc : kbB p c with
    | none => rw [hb, hc] at h; cases h
    | some q2 =>
     rw [hb, hc] at h
     cases h
     exact fun y hy => List.mem_filter.mpr ⟨zfm b p q1 hb y hy, by simpa using zfm c p q2 hc y hy⟩
  ·cases h
 | .whl t m b, p, q, h => by
  rw [kbD] at h
  split at h
  ·cases hb : kbB p b with
   | none => rw [hb] at h; cases h
   | some q1 =>
    rw [hb] at h
    cases h
    exact Sub.refl p
  ·cases h
theorem zfm : ∀ (b : List D) (p q : List Str), kbB p b = some q → Sub p q
 | [], p, q, h => by
  rw [kbB] at h
  cases h
  exact Sub.refl p
 | d :: r, p, q, h => by
  rw [kbB] at h
  cases hd : kbD p d with
  | none => rw [hd] at h; cases h
  | some q1 =>
   rw [hd] at h
   exact (zwr d p q1 hd).trans (zfm r q1 q h)
end
end
section
variable {P : Program} {w : World} {K : PySem.W.Frag} {mg : Str → Option Value} {base : Heap} {f : Addr} {fd : FuncData}
def q0x (o : Option Ref) (H' : Hp) (r : V) : Prop := match o with
 | none => r = .non
 | some e => Dt H' r (Rs.ref e.1 e.2).enc
def zkm (n : Nat) : Sp := fun vs H Q _ => ∃ (v : V) (b : List D) (pv : V) (p : List Int) (d f : Addr) (c : Cnt) (g g' : List Str) (lo : Option Addr), vs = [v, pv, .ref d, .ref f] ∧ Dt H v (.tup (zao b)) ∧ Dt H pv (z3i p) ∧ okW n b ∧ n ≤ 4 ∧ p.length + 2 * n ≤ 90 ∧ kbB g b = some g' ∧ H d = some (.dK (kvC c)) ∧ KeyOk c ∧ Has c g ∧ SetOk f lo H ∧ HasL lo H ((evB p 0 b c).2.2.length + 1) ∧
 ∀ (r : V) (H' : Hp), Gd d lo H H' (evB p 0 b c).2.2 → H' d = some (.dK (kvC (evB p 0 b c).2.1)) → q0x (evB p 0 b c).1 H' r → Q r H'
def zkl (ks : List Str) (n : Nat) : Sp := fun vs H Q _ => ∃ (v : V) (e : D) (pv : V) (p : List Int) (d f : Addr) (c : Cnt) (g g' : List Str) (lo : Option Addr), vs = [v, pv, .ref d, .ref f] ∧ e.kind ∈ ks ∧ Dt H v e.enc ∧ Dt H pv (z3i p) ∧ zz0 n e ∧ n ≤ 3 ∧ p.length + 2 * n ≤ 89 ∧ kbD g e = some g' ∧ H d = some (.dK (kvC c)) ∧ KeyOk c ∧ Has c g ∧ SetOk f lo H ∧ HasL lo H ((evD p e c).2.2.length + 1) ∧
 ∀ (r : V) (H' : Hp), Gd d lo H H' (evD p e c).2.2 → H' d = some (.dK (kvC (evD p e c).2.1)) → q0x (evD p e c).1 H' r → Q r H'
theorem zfb {c : Cnt} {x : Str} {t : T} {p : List Int} {u : Str} {q : List Int} {r : List RI} (h : evT c t (p ++ [0]) = (.ref u q, r)) : evD p (.set x t) c = (some (u, q), c, r) := by rw [evD, h]
theorem zfc {c : Cnt} {x : Str} {t : T} {p : List Int} {v : Int} {r : List RI} (h : evT c t (p ++ [0]) = (.had v, r)) : evD p (.set x t) c = (none, zis c x v, r) := by rw [evD, h]
theorem zmb (c : Cnt) (x : Str) (t : T) (p : List Int) : (evD p (.set x t) c).2.2 = (evT c t (p ++ [0])).2 := by
 rcases h : evT c t (p ++ [0]) with ⟨r, w⟩
 cases r with
 | had v => rw [zfc h]
 | ref u q => rw [zfb h]
theorem zd4 {c : Cnt} {t : T} {b b2 : List D} {p : List Int} {u : Str} {q : List Int} {r : List RI} (h : evT c t (p ++ [0]) = (.ref u q, r)) : evD p (.ite t b b2) c = (some (u, q), c, r) := by rw [evD, h]
theorem zd3 {c : Cnt} {t : T} {b b2 : List D} {p : List Int} {v : Int} {r : List RI} (h : evT c t (p ++ [0]) = (.had v, r)) (hv : v ≠ 0) : evD p (.ite t b b2) c = ((evB (p ++ [1]) 0 b c).1, (evB (p ++ [1]) 0 b c).2.1, r ++ (evB (p ++ [1]) 0 b c).2.2) := by rw [evD, h]; simp [hv]
theorem zhh {c : Cnt} {t : T} {b b2 : List D} {p : List Int} {r : List RI} (h : evT c t (p ++ [0]) = (.had 0, r)) : evD p (.ite t b b2) c = ((evB (p ++ [2]) 0 b2 c).1, (evB (p ++ [2]) 0 b2 c).2.1, r ++ (evB (p ++ [2]) 0 b2 c).2.2) := by rw [evD, h]; simp
theorem zs0 (c : Cnt) (t : T) (b b2 : List D) (p : List Int) : (evT c t (p ++ [0])).2.length ≤ (evD p (.ite t b b2) c).2.2.length := by
 rcases h : evT c t (p ++ [0]) with ⟨r, w⟩
 cases r with
 | ref u q => rw [zd4 h]; exact Nat.le_refl _
 | had v =>
  by_cases hv : v = 0
  ·subst hv
   rw [zhh h]
   simp
  ·rw [zd3 h hv]
   simp
theorem zof {g g' : List Str} {t : T} {b b2 : List D} (h : kbD g (.ite t b b2) = some g') : t.knows g = true ∧ (∃ q, kbB g b = some q) ∧ ∃ q, kbB g b2 = some q := by
 rw [kbD] at h
 split at h
 ·rename_i hk
  cases hb : kbB g b with
  | none => rw [hb] at h; cases h
  | some q1 =>
   cases hc : kbB g b2 with
   | none => rw [hb, hc] at h; cases h
   | some q2 => exact ⟨hk, ⟨q1, rfl⟩, q2, rfl⟩
 ·cases h
theorem zrz {g g' : List Str} {t : T} {m : Int} {b : List D} (h : kbD g (.whl t m b) = some g') : t.knows g = true ∧ g' = g ∧ ∃ q, kbB g b = some q := by
 rw [kbD] at h
 split at h
 ·rename_i hk
  cases hb : kbB g b with
  | none => rw [hb] at h; cases h
  | some q1 =>
   rw [hb] at h
   cases h
   exact ⟨hk, rfl, q1, rfl⟩
 ·cases h
theorem zuh {cond : Cnt → Rs × List RI} {body : Cnt → Out} {p : List Int} (Pv : Cnt → Prop) (hb : ∀ c, Pv c → Pv (body c).2.1) : ∀ (k : Nat) (c : Cnt), Pv c → Pv (z57 cond body p k c).2.1 := by
 intro k
 induction k with
 | zero =>
  intro c h
  rw [z57]
  rcases cond c with ⟨r, w⟩
  cases r with
  | ref u q => exact h
  | had v => by_cases hv : v = 0 <;> simp [hv, h]
 | succ k ih =>
  intro c h
  rw [z57]
  rcases cond c with ⟨r, w⟩
  cases r with
  | ref u q => exact h
  | had v =>
   by_cases hv : v = 0
   ·simp [hv, h]
   ·have h1 := hb c h
    rcases hbc : body c with ⟨e, c1, r1⟩
    rw [hbc] at h1
    cases e with
    | some e => simp [hv, hbc, h1]
    | none =>
     have h2 := ih c1 h1
     simp only [hv, if_false, hbc]
     exact h2
theorem zro {cond : Cnt → Rs × List RI} {body : Cnt → Out} {p : List Int} (Pv : Cnt → Prop) (hb : ∀ c, Pv c → (body c).1 = none → Pv (body c).2.1) : ∀ (k : Nat) (c : Cnt), Pv c → (z57 cond body p k c).1 = none → Pv (z57 cond body p k c).2.1 := by
 intro k
 induction k with
 | zero =>
  intro c h
  rw [z57]
  rcases cond c with ⟨r, w⟩
  cases r with
  | ref u q => exact fun _ => h
  | had v => by_cases hv : v = 0 <;> simp [hv, h]
 | succ k ih =>
  intro c h
  rw [z57]
  rcases cond c with ⟨r, w⟩
  cases r with
  | ref u q => exact fun _ => h
  | had v =>
   by_cases hv : v = 0
   ·simp [hv, h]
   ·have h1 := hb c h
    rcases hbc : body c with ⟨e, c1, r1⟩
    rw [hbc] at h1
    cases e with
    | some e => simp [hv, hbc]
    | none =>
     have h2 := ih c1 (h1 rfl)
     simp only [hv, if_false, hbc]
     exact h2
mutual
theorem zn5 : ∀ (e : D) (n : Nat) (p : List Int) (c : Cnt), zz0 n e → KeyOk c → KeyOk (evD p e c).2.1
 | .set x t, n, p, c, h, k => by
  rcases he : evT c t (p ++ [0]) with ⟨r, w⟩
  cases r with
  | ref u q => rw [zfb he]; exact k
  | had v => rw [zfc he]; exact k.put h.1 v
 | .ite t b b2, n, p, c, h, k => by
  rcases he : evT c t (p ++ [0]) with ⟨r, w⟩
  cases r with
  | ref u q => rw [zd4 he]; exact k
  | had v =>
   by_cases hv : v = 0
   ·subst hv
    rw [zhh he]
    exact za2 b2 n (p ++ [2]) 0 c h.2.2 k
   ·rw [zd3 he hv]
    exact za2 b n (p ++ [1]) 0 c h.2.1 k
 | .whl t m b, n, p, c, h, k => by
  rw [evD]
  exact zuh KeyOk (fun c1 k1 => za2 b n (p ++ [1]) 0 c1 h.2 k1) _ c k
theorem za2 : ∀ (b : List D) (n : Nat) (p : List Int) (i : Int) (c : Cnt), okW n b → KeyOk c → KeyOk (evB p i b c).2.1
 | [], n, p, i, c, h, k => by rw [evB]; exact k
 | e :: r, 0, p, i, c, h, k => h.elim
 | e :: r, n + 1, p, i, c, h, k => by
  have h1 := zn5 e n (p ++ [i]) c (h.2 e (.head _)) k
  rw [evB]
  rcases he : evD (p ++ [i]) e c with ⟨o, c1, w⟩
  rw [he] at h1
  cases o with
  | some u => exact h1
  | none => exact za2 r (n + 1) p (i + 1) c1 ⟨by have := h.1; rw [List.length_cons] at this; omega, fun d hd => h.2 d (.tail _ hd)⟩ h1
end
mutual
theorem zn6 : ∀ (e : D) (p : List Int) (c : Cnt) (g g' : List Str), kbD g e = some g' → Has c g → (evD p e c).1 = none → Has (evD p e c).2.1 g'
 | .set x t, p, c, g, g', hk, h => by
  rcases he : evT c t (p ++ [0]) with ⟨r, w⟩
  cases r with
  | ref u q => rw [zfb he]; exact fun z => by cases z
  | had v =>
   rw [zfc he]
   intro _
   rw [kbD] at hk
   split at hk
   ·cases hk
    have := zn4 t (p ++ [0]) he
    exact h.put this.1 this.2
   ·cases hk
 | .ite t b b2, p, c, g, g', hk, h => by
  rcases he : evT c t (p ++ [0]) with ⟨r, w⟩
  cases r with
  | ref u q => rw [zd4 he]; exact fun z => by cases z
  | had v =>
   obtain ⟨_, ⟨q1, h1⟩, q2, h2⟩ := zof hk
   have sub : Sub g' q1 ∧ Sub g' q2 := by
    have hkt := (zof hk).1
    rw [kbD, if_pos hkt, h1, h2] at hk
    cases hk
    exact ⟨fun x hx => (List.mem_filter.mp hx).1, fun x hx => by simpa using (List.mem_filter.mp hx).2⟩
   by_cases hv : v = 0
   ·subst hv
    rw [zhh he]
    exact fun z => (zfq b2 (p ++ [2]) 0 c g q2 h2 h z).sub sub.2
   ·rw [zd3 he hv]
    exact fun z => (zfq b (p ++ [1]) 0 c g q1 h1 h z).sub sub.1
 | .whl t m b, p, c, g, g', hk, h => by
  obtain ⟨_, rfl, q1, h1⟩ := zrz hk
  rw [evD]
  exact zro (fun c => Has c g') (fun c1 k1 z => (zfq b (p ++ [1]) 0 c1 g' q1 h1 k1 z).sub (zfm b g' q1 h1)) _ c h
theorem zfq : ∀ (b : List D) (p : List Int) (i : Int) (c : Cnt) (g g' : List Str), kbB g b = some g' → Has c g → (evB p i b c).1 = none → Has (evB p i b c).2.1 g'
 | [], p, i, c, g, g', hk, h => by
  rw [kbB] at hk
  cases hk
  rw [evB]
  exact fun _ => h
 | e :: r, p, i, c, g, g', hk, h => by
  rw [kbB] at hk
  cases hd : kbD g e with
  | none => rw [hd] at hk; cases hk
  | some q1 =>
   rw [hd] at hk
   have h1 := zn6 e (p ++ [i]) c g q1 hd h
   rw [evB]
   rcases he : evD (p ++ [i]) e c with ⟨o, c1, w⟩
   rw [he] at h1
   cases o with
   | some u => exact fun z => by cases z
   | none => exact zfq r p (i + 1) c1 q1 g' hk (h1 rfl)
end
def zar (rs : List RI) (o : Out) : Out := (o.1, o.2.1, rs ++ o.2.2)
theorem z80 {cond : Cnt → Rs × List RI} {body : Cnt → Out} {p : List Int} {k : Nat} {c : Cnt} {u : Str} {q : List Int} {r : List RI} (h : cond c = (.ref u q, r)) : z57 cond body p k c = (some (u, q), c, r) := by
 cases k <;> rw [z57, h]
theorem z7k {cond : Cnt → Rs × List RI} {body : Cnt → Out} {p : List Int} {k : Nat} {c : Cnt} {r : List RI} (h : cond c = (.had 0, r)) : z57 cond body p k c = (none, c, r) := by
 cases k <;> rw [z57, h] <;> simp
theorem zbe {cond : Cnt → Rs × List RI} {body : Cnt → Out} {p : List Int} {c : Cnt} {v : Int} {r : List RI} (h : cond c = (.had v, r)) (hv : v ≠ 0) : z57 cond body p 0 c = ((some (("long" : Str), p), c, r) : Out) := by
 rw [z57, h]
 simp [hv]
theorem z93 {cond : Cnt → Rs × List RI} {body : Cnt → Out} {p : List Int} {k : Nat} {c c1 : Cnt} {v : Int} {r r1 : List RI} {e : Ref} (h : cond c = (.had v, r)) (hv : v ≠ 0) (hb : body c = (some e, c1, r1)) : z57 cond body p (k + 1) c = (some e, c1, r ++ r1) := by
 rw [z57, h]
 simp [hv, hb]
theorem z94 {cond : Cnt → Rs × List RI} {body : Cnt → Out} {p : List Int} {k : Nat} {c c1 : Cnt} {v : Int} {r r1 : List RI} (h : cond c = (.had v, r)) (hv : v ≠ 0) (hb : body c = (none, c1, r1)) : z57 cond body p (k + 1) c = zar (r ++ r1) (z57 cond body p k c1) := by
 rw [z57, h]
 simp [hv, hb, zar]
def WhI (H : Hp) (va : Addr) (pv : V) (d fs : Addr) (lo : Option Addr) (g : List Str) (t : T) (b : List D) (p : List Int) (M : Nat) (out : Out) (k : Nat) (σ : St) (Hc : Hp) : Prop := ∃ (j : Nat) (cj : Cnt) (rs : List RI) (x5 x6 : Option V), σ = [some (.ref va), some pv, some (.ref d), some (.ref fs), some (.int j), x5, x6] ∧ j + k = M ∧ Gd d lo H Hc rs ∧ Hc d = some (.dK (kvC cj)) ∧ KeyOk cj ∧ Has cj g ∧ out = zar rs (z57 (fun c => evT c t (p ++ [0])) (fun c => evB (p ++ [1]) 0 b c) p k cj)
theorem zhb (cond : Cnt → Rs × List RI) (body : Cnt → Out) (p : List Int) (k : Nat) (c : Cnt) : (cond c).2.length ≤ (z57 cond body p k c).2.2.length := by
 rcases h : cond c with ⟨r, w⟩
 cases r with
 | ref u q => rw [z80 h]; exact Nat.le_refl _
 | had v =>
  by_cases hv : v = 0
  ·subst hv
   rw [z7k h]; exact Nat.le_refl _
  ·cases k with
   | zero => rw [zbe h hv]; exact Nat.le_refl _
   | succ k =>
    rcases hb : body c with ⟨e, c1, r1⟩
    cases e with
    | some e => rw [z93 h hv hb]; simp
    | none => rw [z94 h hv hb]; simp only [zar, List.length_append]; omega
theorem zrp {cond : Cnt → Rs × List RI} {body : Cnt → Out} {p : List Int} {k : Nat} {c : Cnt} {v : Int} {r : List RI} (h : cond c = (.had v, r)) (hv : v ≠ 0) : r.length + (body c).2.2.length ≤ (z57 cond body p (k + 1) c).2.2.length := by
 rcases hb : body c with ⟨e, c1, r1⟩
 cases e with
 | some e => rw [z93 h hv hb]; simp
 | none => rw [z94 h hv hb]; simp only [zar, List.length_append]; omega
theorem zek {p : List Int} {k : Int} {e : D} {r : List D} {c c1 : Cnt} {u : Ref} {w : List RI} (h : evD (p ++ [k]) e c = (some u, c1, w)) : evB p k (e :: r) c = (some u, c1, w) := by rw [evB, h]
theorem zel {p : List Int} {k : Int} {e : D} {r : List D} {c c1 : Cnt} {w : List RI} (h : evD (p ++ [k]) e c = (none, c1, w)) : evB p k (e :: r) c = zar w (evB p (k + 1) r c1) := by rw [evB, h]; rfl
theorem zn7 (p : List Int) (k : Int) (e : D) (r : List D) (c : Cnt) : (evD (p ++ [k]) e c).2.2.length ≤ (evB p k (e :: r) c).2.2.length := by
 rcases h : evD (p ++ [k]) e c with ⟨o, c1, w⟩
 cases o with
 | some u => rw [zek h]; exact Nat.le_refl _
 | none => rw [zel h]; simp [zar]
theorem zjr {g g' : List Str} {e : D} {r : List D} (h : kbB g (e :: r) = some g') : ∃ q, kbD g e = some q ∧ kbB q r = some g' := by
 rw [kbB] at h
 cases hd : kbD g e with
 | none => rw [hd] at h; cases h
 | some q => rw [hd] at h; exact ⟨q, rfl, h⟩
theorem zfs {α : Type} : ∀ {l : List α} {i : Nat} {x : α}, l[i]? = some x → l.drop i = x :: l.drop (i + 1)
 | [], _, _, h => by simp at h
 | a :: l, 0, x, h => by simp at h; simp [h]
 | a :: l, i + 1, x, h => by
  have : l[i]? = some x := by simpa using h
  simpa using zfs this
def BkI (H : Hp) (ab : Addr) (pv : V) (d fs : Addr) (lo : Option Addr) (g' : List Str) (b : List D) (p : List Int) (out : Out) (i : Nat) (σ : St) (Hc : Hp) : Prop := ∃ (ci : Cnt) (gi : List Str) (rs : List RI) (x4 x5 x6 : Option V), σ = [some (.ref ab), some pv, some (.ref d), some (.ref fs), x4, x5, x6] ∧ Gd d lo H Hc rs ∧ Hc d = some (.dK (kvC ci)) ∧ KeyOk ci ∧ Has ci gi ∧ kbB gi (b.drop i) = some g' ∧ out = zar rs (evB p i (b.drop i) ci)
end
section
variable {P : Program} {w : World} {K : PySem.W.Frag} {mg : Str → Option Value} {base : Heap} {f : Addr} {fd : FuncData}
theorem zrj {n : Nat} (F : Fun K "do_set" "do_set" z4b f fd) (c_reckon : Callee P w K mg base "reckon" ["term", "path", "names", "settle"] 7 (z74 5)) : FnOk P w K mg base CX0 8 f fd ["deed", "path", "names", "settle"] (zkl ["set"] n) := by
 refine F.ok sc_do_set (fun vs H Q E h => ?_) (fun cdv A outer s H vs Q E hr h => ?_)
 ·obtain ⟨v, e, pv, p, d, f, c, g, g', lo, rfl, _⟩ := h
  rfl
 obtain ⟨v, e, pv, p, d, fs, c, g, g', lo, rfl, hk, hv, hp, hok, hn, hpl, hkb, hd, hky, hh, hS, hL, q⟩ := h
 obtain ⟨x, t, rfl⟩ : ∃ x t, e = .set x t := by
  cases e with
  | set x t => exact ⟨x, t, rfl⟩
  | ite t b c => exact absurd (List.mem_singleton.mp hk) (show ¬ ("if" : Str) = "set" by decide +kernel)
  | whl t m b => exact absurd (List.mem_singleton.mp hk) (show ¬ ("while" : Str) = "set" by decide +kernel)
 rw [D.enc] at hv
 obtain ⟨va, x0, x1, xt, rfl, hva, t0, t1, dt⟩ := zqi hv
 cases t0
 cases t1
 rw [kbD] at hkb
 have hkt : t.knows g = true := by
  cases hz : t.knows g with
  | true => rfl
  | false => rw [hz] at hkb; cases hkb
 have hlen := zmb c x t p
 refine ⟨_, (z06 (z1d (i := 4) sc_do_set.nd rfl zic (z1y c_reckon hr (by omega) (z07 (z0w ix_tup (z00 (i := 0) rfl zb9 z5y z61) z02 (fun _ _ => rfl)) (z07 (z17 z2s (z00 (i := 1) rfl zgr z3o z3p) (z14 (z07 z02 z03))) (z07 (z00 (i := 2) rfl zaf z2j z2k) (z07 (z00 (i := 3) rfl zf2 z2n z2o) z03)))) zgc zbo) (z05 rfl))
 (z06 (z2m (z0c (gEq hr.units) (z0w ix_tup (z00 (i := 4) rfl z8c zeo zew) z02 (fun _ _ => rfl)) z0l (z0m _)) (z08 (z0q (z00 (i := 4) rfl z8c zeo zew))) z0s)
 (z06 (zjf hr.units1 (z00 (i := 2) rfl zaf z2j z2k) (z0w ix_tup (z00 (i := 0) rfl zb9 z5y z61) z02 (fun _ _ => rfl)) (z0w ix_tup (z00 (i := 4) rfl z8c zeo zew) z02 (fun _ _ => rfl)) (z05 rfl))
 (z08 (z0q zah))))), z0f fun N1 e1 => ?_⟩
 walk_at "rd7"
 refine ⟨_, SqT.of hva, _, z0x (j := 2) rfl, by decide, fun p1 h1 => ?_⟩
 have s1 := z04 h1 (HO.tup [V.int 0])
 refine zka (hp.kp s1.kp) zaw (by simp; omega) fun z H1 s2 dz => ?_
 have s12 := s1.trans s2
 refine ⟨xt, t, z, _, d, fs, c, g, lo, rfl, dt.kp s12.kp, dz, z76 hok.2 hkt, by decide, by simp; omega, s12 _ _ hd, hh, hS.kp (Same.kpE s12), by rw [← hlen]; exact hL.same s12, fun r1 H2 g1 dr1 => ?_⟩
 have G1 : Gr lo H H2 (evT c t (p ++ [0])).2 := (Gr.same s12 hL).trans g1
 clear g1 s1 s2 s12
 have hd2 := G1.keep hd (by intro xs z; cases z)
 have hva2 := G1.keep hva (by intro xs z; cases z)
 obtain ⟨b1, rfl, hb1⟩ := zfw dr1
 rcases he1 : evT c t (p ++ [0]) with ⟨r1, w1⟩
 rw [he1] at G1 dr1 hb1
 rw [e1]
 refine z0f fun N2 e2 => ?_
 walk_at "rd7"
 rcases hb1 with ⟨i1, rfl, hb1⟩ | ⟨u, qq, y1, rfl, hb1⟩
 rotate_left
 ·refine ⟨_, SqT.of hb1, _, z0k, _, zfr, ?_⟩
  rw [if_pos (decide_eq_true rfl)]
  rw [zfb he1] at q
  exact q _ _ G1.gd hd2 dr1
 refine ⟨_, SqT.of hb1, _, z0k, _, zfr, ?_⟩
 rw [if_neg (by rw [decide_eq_true_eq]; exact z92)]
 rw [e2]
 walk_at "rd7"
 rw [zfc he1] at q
 refine ⟨_, SqT.of hb1, _, z0x (j := 1) rfl, _, SqT.of hva2, _, z0x (j := 1) rfl, _, DPut.k (k := Sum.inr x) hd2 ?_, ?_⟩
 ·unfold kvC
  rw [List.length_map]
  exact Nat.lt_of_le_of_lt hky.len (by decide)
 ·exact q _ _ (Gd.put G1 hd2) (by rw [z01, zkq]) rfl
theorem zub {n : Nat} (F : Fun K "do_if" "do_if" z56 f fd) (c_reckon : Callee P w K mg base "reckon" ["term", "path", "names", "settle"] 7 (z74 5)) (c_do_block : Callee P w K mg base "do_block" ["block", "path", "names", "settle"] (3 * n + 8) (zkm n)) : FnOk P w K mg base CX0 (3 * n + 9) f fd ["deed", "path", "names", "settle"] (zkl ["if"] n) := by
 refine F.ok sc_do_if (fun vs H Q E h => ?_) (fun cdv A outer s H vs Q E hr h => ?_)
 ·obtain ⟨v, e, pv, p, d, f, c, g, g', lo, rfl, _⟩ := h
  rfl
 obtain ⟨v, e, pv, p, d, fs, c, g, g', lo, rfl, hk, hv, hp, hok, hn, hpl, hkb, hd, hky, hh, hS, hL, q⟩ := h
 obtain ⟨t, b, b2, rfl⟩ : ∃ t b b2, e = .ite t b b2 := by
  cases e with
  | set x t => exact absurd (List.mem_singleton.mp hk) (show ¬ ("set" : Str) = "if" by decide +kernel)
  | ite t b c => exact ⟨t, b, c, rfl⟩
  | whl t m b => exact absurd (List.mem_singleton.mp hk) (show ¬ ("while" : Str) = "if" by decide +kernel)
 rw [D.enc] at hv
 obtain ⟨va, x0, xt, xb, xc, rfl, hva, t0, dt, db, dc⟩ := q07 hv
 cases t0
 obtain ⟨hkt, ⟨q1, hq1⟩, q2, hq2⟩ := zof hkb
 have hlen := zs0 c t b b2 p
 refine ⟨_, (z06 (z1d (i := 4) sc_do_if.nd rfl zjp (z1y c_reckon hr (by omega) (z07 (z0w ix_tup (z00 (i := 0) rfl z8e z5y z61) z02 (fun _ _ => rfl)) (z07 (z17 z2s (z00 (i := 1) rfl z8d z3o z3p) (z14 (z07 z02 z03))) (z07 (z00 (i := 2) rfl z7j z2j z2k) (z07 (z00 (i := 3) rfl z6t z2n z2o) z03)))) zhq zbo) (z05 rfl))
 (z06 (z2m (z0c (gEq hr.units) (z0w ix_tup (z00 (i := 4) rfl z9m zeo zew) z02 (fun _ _ => rfl)) z0l (z0m _)) (z08 (z0q (z00 (i := 4) rfl z9m zeo zew))) z0s)
 (z06 (z2m (z0c zob (z0w ix_tup (z00 (i := 4) rfl z9m zeo zew) z02 (fun _ _ => rfl)) z02 (z0m _)) (z08 (z0q (z1y c_do_block hr (by omega) (z07 (z0w ix_tup (z00 (i := 0) rfl z8e z5y z61) z02 (fun _ _ => rfl)) (z07 (z17 z2s (z00 (i := 1) rfl z8d z3o z3p) (z14 (z07 z02 z03))) (z07 (z00 (i := 2) rfl z7j z2j z2k) (z07 (z00 (i := 3) rfl z6t z2n z2o) z03)))) z9e z7r))) z0s)
 (z08 (z0q (z1y c_do_block hr (by omega) (z07 (z0w ix_tup (z00 (i := 0) rfl z8e z5y z61) z02 (fun _ _ => rfl)) (z07 (z17 z2s (z00 (i := 1) rfl z8d z3o z3p) (z14 (z07 z02 z03))) (z07 (z00 (i := 2) rfl z7j z2j z2k) (z07 (z00 (i := 3) rfl z6t z2n z2o) z03)))) z9e z7r)))))), z0f fun N1 e1 => ?_⟩
 walk_at "rd7"
 refine ⟨_, SqT.of hva, _, z0x (j := 1) rfl, by decide, fun p1 h1 => ?_⟩
 have s1 := z04 h1 (HO.tup [V.int 0])
 refine zka (hp.kp s1.kp) zaw (by simp; omega) fun z H1 s2 dz => ?_
 have s12 := s1.trans s2
 refine ⟨xt, t, z, _, d, fs, c, g, lo, rfl, dt.kp s12.kp, dz, z76 hok.1 hkt, by decide, by simp; omega, s12 _ _ hd, hh, hS.kp (Same.kpE s12), (hL.same s12).mono (by omega), fun r1 H2 g1 dr1 => ?_⟩
 have G1 : Gr lo H H2 (evT c t (p ++ [0])).2 := (Gr.same s12 hL).trans g1
 clear g1 s1 s2 s12
 have hd2 := G1.keep hd (by intro xs z; cases z)
 have hva2 := G1.keep hva (by intro xs z; cases z)
 have hp2 := hp.kp G1.kp
 have db2 := db.kp G1.kp
 have dc2 := dc.kp G1.kp
 have hS2 := hS.kp G1.kpE
 obtain ⟨b1, rfl, hb1⟩ := zfw dr1
 rcases he1 : evT c t (p ++ [0]) with ⟨r1, w1⟩
 rw [he1] at G1 dr1 hb1
 rw [e1]
 refine z0f fun N2 e2 => ?_
 walk_at "rd7"
 rcases hb1 with ⟨i1, rfl, hb1⟩ | ⟨u, qq, y1, rfl, hb1⟩
 rotate_left
 ·refine ⟨_, SqT.of hb1, _, z0k, _, zfr, ?_⟩
  rw [if_pos (decide_eq_true rfl)]
  rw [zd4 he1] at q
  exact q _ _ G1.gd hd2 dr1
 refine ⟨_, SqT.of hb1, _, z0k, _, zfr, ?_⟩
 rw [if_neg (by rw [decide_eq_true_eq]; exact z92)]
 rw [e2]
 refine z0f fun N3 e3 => ?_
 walk_at "rd7"
 refine ⟨_, SqT.of hb1, _, z0x (j := 1) rfl, _, rfl, ?_⟩
 by_cases hz : i1 = 0
 ·subst hz
  rw [zhh he1] at q hL
  simp only [if_true, if_false, not_true, ne_eq, not_false_eq_true]
  rw [e3]
  walk_at "rd7"
  refine ⟨_, SqT.of hva2, _, z0x (j := 3) rfl, by decide, fun p2 h2 => ?_⟩
  have s3 := z04 h2 (HO.tup [V.int 2])
  refine zka (hp2.kp s3.kp) zaw (by simp; omega) fun z2 H3 s4 dz2 => ?_
  have s34 := s3.trans s4
  have hL2 : HasL lo H2 ((evB (p ++ [2]) 0 b2 c).2.2.length + 1) := hL.on G1 (by show w1.length + _ ≤ _; rw [List.length_append]; omega)
  refine ⟨xc, b2, z2, _, d, fs, c, g, q2, lo, rfl, dc2.kp s34.kp, dz2, hok.2.2, by omega, by simp; omega, hq2, s34 _ _ hd2, hky, hh, hS2.kp (Same.kpE s34), hL2.same s34, fun r2 H4 g2 hd4 ho => ?_⟩
  exact q _ _ (G1.gd.trans (((Gr.same s34 hL2).gd).trans g2 (s34 _ _ hd2)) hd2) hd4 ho
 ·rw [zd3 he1 hz] at q hL
  rw [if_pos (decide_eq_false hz)]
  refine ⟨_, SqT.of hva2, _, z0x (j := 2) rfl, by decide, fun p2 h2 => ?_⟩
  have s3 := z04 h2 (HO.tup [V.int 1])
  refine zka (hp2.kp s3.kp) zaw (by simp; omega) fun z2 H3 s4 dz2 => ?_
  have s34 := s3.trans s4
  have hL2 : HasL lo H2 ((evB (p ++ [1]) 0 b c).2.2.length + 1) := hL.on G1 (by show w1.length + _ ≤ _; rw [List.length_append]; omega)
  refine ⟨xb, b, z2, _, d, fs, c, g, q1, lo, rfl, db2.kp s34.kp, dz2, hok.2.1, by omega, by simp; omega, hq1, s34 _ _ hd2, hky, hh, hS2.kp (Same.kpE s34), hL2.same s34, fun r2 H4 g2 hd4 ho => ?_⟩
  exact q _ _ (G1.gd.trans (((Gr.same s34 hL2).gd).trans g2 (s34 _ _ hd2)) hd2) hd4 ho
theorem zmt {n : Nat} (F : Fun K "do_while" "do_while" z1n f fd) (c_reckon : Callee P w K mg base "reckon" ["term", "path", "names", "settle"] 7 (z74 5)) (c_do_block : Callee P w K mg base "do_block" ["block", "path", "names", "settle"] (3 * n + 8) (zkm n)) : FnOk P w K mg base CX0 (3 * n + 9) f fd ["deed", "path", "names", "settle"] (zkl ["while"] n) := by
 refine F.ok sc_do_while (fun vs H Q E h => ?_) (fun cdv A outer s H vs Q E hr h => ?_)
 ·obtain ⟨v, e, pv, p, d, f, c, g, g', lo, rfl, _⟩ := h
  rfl
 obtain ⟨v, e, pv, p, d, fs, c, g, g', lo, rfl, hk, hv, hp, hok, hn, hpl, hkb, hd, hky, hh, hS, hL, q⟩ := h
 obtain ⟨t, m, b, rfl⟩ : ∃ t m b, e = .whl t m b := by
  cases e with
  | set x t => exact absurd (List.mem_singleton.mp hk) (show ¬ ("set" : Str) = "while" by decide +kernel)
  | ite t b c => exact absurd (List.mem_singleton.mp hk) (show ¬ ("if" : Str) = "while" by decide +kernel)
  | whl t m b => exact ⟨t, m, b, rfl⟩
 rw [D.enc] at hv
 obtain ⟨va, x0, xt, xm, xb, rfl, hva, t0, dt, dm, db⟩ := q07 hv
 cases t0
 cases dm
 obtain ⟨hkt, rfl, q1, hq1⟩ := zrz hkb
 refine ⟨_, (z06 (z1d (i := 4) sc_do_while.nd rfl z9a z02 (z05 rfl))
 (z08 (zo4 PassesOwn.never (zkr zw7)
 (z06 (z1d (i := 5) sc_do_while.nd rfl zg8 (z1y c_reckon hr (by omega) (z07 (z0w ix_tup (z00 (i := 0) rfl z68 z5y z61) z02 (fun _ _ => rfl)) (z07 (z17 z2s (z00 (i := 1) rfl z67 z3o z3p) (z14 (z07 z02 z03))) (z07 (z00 (i := 2) rfl z7x z2j z2k) (z07 (z00 (i := 3) rfl z7i z2n z2o) z03)))) zei zbo) (z05 rfl))
 (z06 (z2m (z0c (gEq hr.units) (z0w ix_tup (z00 (i := 5) rfl z6s zeo zew) z02 (fun _ _ => rfl)) z0l (z0m _)) (z08 (z0q (z00 (i := 5) rfl z6s zeo zew))) z0s)
 (z06 (z2m (z0c zbd (z0w ix_tup (z00 (i := 5) rfl z6s zeo zew) z02 (fun _ _ => rfl)) z02 (z0m _)) (z08 (z0q zah)) z0s)
 (z06 (z2m (z0c q0y (z00 (i := 4) rfl z91 zsq zt2) (z0w ix_tup (z00 (i := 0) rfl z68 z5y z61) z02 (fun _ _ => rfl)) (z0m _)) (z08 (z0q (z14 (z07 z0l (z07 z0l (z07 (z00 (i := 1) rfl z67 z3o z3p) z03)))))) z0s)
 (z06 (z1d (i := 6) sc_do_while.nd rfl zcm (z1y c_do_block hr (by omega) (z07 (z0w ix_tup (z00 (i := 0) rfl z68 z5y z61) z02 (fun _ _ => rfl)) (z07 (z17 z2s (z00 (i := 1) rfl z67 z3o z3p) (z14 (z07 z02 z03))) (z07 (z00 (i := 2) rfl z7x z2j z2k) (z07 (z00 (i := 3) rfl z7i z2n z2o) z03)))) zcr z7r) (z05 rfl))
 (z06 (z2m (z0c zup (z00 (i := 6) rfl z6y z5m z5o) zah (z0m _)) (z08 (z0q (z00 (i := 6) rfl z6y z5m z5o))) z0s)
 (z08 (z1d (i := 4) sc_do_while.nd rfl z9a (z17 z2e (z00 (i := 4) rfl z91 zsq zt2) z02) (z05 rfl)))))))))))), z0f fun N1 e1 => ?_⟩
 walk_at "rd7"
 rw [e1]
 have hout : evD p (.whl t m b) c = zar [] (z57 (fun c => evT c t (p ++ [0])) (fun c => evB (p ++ [1]) 0 b c) p m.toNat c) := by rw [evD]; rfl
 generalize evD p (.whl t m b) c = out at hL q hout
 refine ⟨WhI H va pv d fs lo g' t b p m.toNat out, ⟨m.toNat, 0, c, [], none, none, rfl, by omega, (Gr.same (Same.refl H) hL).gd, hd, hky, hh, hout⟩, ?_⟩
 rintro k σ Hc ⟨j, cj, rs, x5, x6, rfl, hjk, gd, hdc, hkc, hhc, ho⟩
 refine ⟨true, rfl, ?_⟩
 show if (true : Bool) = true then _ else _
 rw [if_pos rfl]
 refine ⟨fun σ' H' => ∃ k', k' < k ∧ WhI H va pv d fs lo g' t b p m.toNat out k' σ' H', fun _ _ h => h, z0f fun N2 e2 => ?_⟩
 walk_at "rd7"
 have hvac := gd.keep hd hva (by intro xs z; cases z) (by intro xs z; cases z)
 have kpc := gd.kp hd
 have hSc := hS.kp (gd.kpE hd)
 have hpc := hp.kp kpc
 have dtc := dt.kp kpc
 have dbc := db.kp kpc
 have l1 := zhb (fun c => evT c t (p ++ [0])) (fun c => evB (p ++ [1]) 0 b c) p k cj
 have lo1 : out.2.2.length = rs.length + (z57 (fun c => evT c t (p ++ [0])) (fun c => evB (p ++ [1]) 0 b c) p k cj).2.2.length := by rw [ho, zar, List.length_append]
 have hLc : HasL lo Hc ((z57 (fun c => evT c t (p ++ [0])) (fun c => evB (p ++ [1]) 0 b c) p k cj).2.2.length + 1) := hL.onD gd (by omega)
 refine ⟨_, SqT.of hvac, _, z0x (j := 1) rfl, by decide, fun p1 h1 => ?_⟩
 have s1 := z04 h1 (HO.tup [V.int 0])
 refine zka (hpc.kp s1.kp) zaw (by simp; omega) fun z H1 s2 dz => ?_
 have s12 := s1.trans s2
 refine ⟨xt, t, z, _, d, fs, cj, g', lo, rfl, dtc.kp s12.kp, dz, z76 hok.1 hkt, by decide, by simp; omega, s12 _ _ hdc, hhc, hSc.kp (Same.kpE s12), (hLc.same s12).mono (by omega), fun r1 H2 g1 dr1 => ?_⟩
 have G1 : Gr lo Hc H2 (evT cj t (p ++ [0])).2 := (Gr.same s12 hLc).trans g1
 clear g1 s1 s2 s12
 have hd2 := G1.keep hdc (by intro xs z; cases z)
 have hva2 := G1.keep hvac (by intro xs z; cases z)
 have hp2 := hpc.kp G1.kp
 have db2 := dbc.kp G1.kp
 have hS2 := hSc.kp G1.kpE
 obtain ⟨b1, rfl, hb1⟩ := zfw dr1
 rcases he1 : evT cj t (p ++ [0]) with ⟨r1, w1⟩
 rw [he1] at G1 dr1 hb1
 have GD := gd.trans G1.gd hdc
 have l1w : w1.length ≤ (z57 (fun c => evT c t (p ++ [0])) (fun c => evB (p ++ [1]) 0 b c) p k cj).2.2.length := by
  have z := l1
  simp only [he1] at z
  exact z
 rw [e2]
 refine z0f fun N3 e3 => ?_
 walk_at "rd7"
 rcases hb1 with ⟨i1, rfl, hb1⟩ | ⟨u, qq, y1, rfl, hb1⟩
 rotate_left
 ·refine ⟨_, SqT.of hb1, _, z0k, _, zfr, ?_⟩
  rw [if_pos (decide_eq_true rfl)]
  rw [z80 (cond := fun c => evT c t (p ++ [0])) he1] at ho
  subst ho
  exact q _ _ GD hd2 dr1
 refine ⟨_, SqT.of hb1, _, z0k, _, zfr, ?_⟩
 rw [if_neg (by rw [decide_eq_true_eq]; exact z92)]
 rw [e3]
 refine z0f fun N4 e4 => ?_
 walk_at "rd7"
 refine ⟨_, SqT.of hb1, _, z0x (j := 1) rfl, _, rfl, ?_⟩
 by_cases hz : i1 = 0
 ·subst hz
  rw [z7k (cond := fun c => evT c t (p ++ [0])) he1] at ho
  subst ho
  rw [if_pos (by decide)]
  exact q _ _ GD hd2 rfl
 rw [if_neg (by simpa using hz)]
 rw [e4]
 refine z0f fun N5 e5 => ?_
 walk_at "rd7"
 refine ⟨_, SqT.of hva2, _, z0x (j := 2) rfl, _, rfl, ?_⟩
 cases k with
 | zero =>
  rw [zbe (cond := fun c => evT c t (p ++ [0])) he1 hz] at ho
  subst ho
  rw [if_pos (by omega)]
  refine ⟨by decide, fun r hr' => ?_⟩
  have s3 := z04 hr' (HO.tup [V.str "refused", V.str "long", pv])
  refine q _ _ ?_ (s3 _ _ hd2) (.tup z01 (.cons (.str _) (.cons (.str _) (.cons (hp2.kp s3.kp) .nil))))
  have hL2 : HasL lo H2 0 := hLc.on G1 (by show w1.length + _ ≤ _; omega)
  have := GD.trans (Gr.same s3 hL2).gd hd2
  rw [List.append_nil] at this
  exact this
 | succ k =>
  rw [if_neg (by omega)]
  have l2 := zrp (cond := fun c => evT c t (p ++ [0])) (body := fun c => evB (p ++ [1]) 0 b c) (p := p) (k := k) he1 hz
  have hL2 : HasL lo H2 ((evB (p ++ [1]) 0 b cj).2.2.length + 1) := hLc.on G1 (by show w1.length + _ ≤ _; omega)
  rw [e5]
  refine z0f fun N6 e6 => ?_
  walk_at "rd7"
  refine ⟨_, SqT.of hva2, _, z0x (j := 3) rfl, by decide, fun p2 h2 => ?_⟩
  have s3 := z04 h2 (HO.tup [V.int 1])
  refine zka (hp2.kp s3.kp) zaw (by simp; omega) fun z2 H3 s4 dz2 => ?_
  have s34 := s3.trans s4
  refine ⟨xb, b, z2, _, d, fs, cj, g', q1, lo, rfl, db2.kp s34.kp, dz2, hok.2, by omega, by simp; omega, hq1, s34 _ _ hd2, hkc, hhc, hS2.kp (Same.kpE s34), hL2.same s34, fun r2 H4 g2 hd4 ho4 => ?_⟩
  have GB := GD.trans (((Gr.same s34 hL2).gd).trans g2 (s34 _ _ hd2)) hd2
  have hk4 := za2 b n (p ++ [1]) 0 cj hok.2 hkc
  have hh4 := zfq b (p ++ [1]) 0 cj g' q1 hq1 hhc
  rcases hb : evB (p ++ [1]) 0 b cj with ⟨ee, c4, w4⟩
  rw [hb] at hd4 ho4 GB hk4 hh4
  rw [e6]
  refine z0f fun N7 e7 => ?_
  walk_at "rd7"
  cases ee with
  | some er =>
   rw [z93 (cond := fun c => evT c t (p ++ [0])) (body := fun c => evB (p ++ [1]) 0 b c) he1 hz hb] at ho
   subst ho
   have hne : r2 ≠ .non := by
    obtain ⟨a4, rfl, _⟩ := zfw (r := Rs.ref er.1 er.2) ho4
    intro z
    cases z
   rw [if_pos (decide_eq_false hne)]
   refine q _ _ ?_ hd4 ho4
   show Gd d lo H H4 (rs ++ (w1 ++ w4))
   rw [← List.append_assoc]
   exact GB
  | none =>
   rw [z94 (cond := fun c => evT c t (p ++ [0])) (body := fun c => evB (p ++ [1]) 0 b c) he1 hz hb] at ho
   cases ho4
   rw [if_neg (by simp), e7]
   walk_at "rd7"
   refine ⟨k, by omega, j + 1, c4, rs ++ (w1 ++ w4), _, _, rfl, by omega, ?_, hd4, hk4, (hh4 rfl).sub (zfm b g' q1 hq1), ?_⟩
   ·rw [← List.append_assoc]
    exact GB
   ·rw [ho]
    simp only [zar, List.append_assoc]
end
section
variable {P : Program} {w : World} {K : PySem.W.Frag} {mg : Str → Option Value} {base : Heap} {f : Addr} {fd : FuncData}
theorem zpq {n : Nat} (F : Fun K "do_deed" "do_deed" z3g f fd) (c_do_set : Callee P w K mg base "do_set" ["deed", "path", "names", "settle"] 8 (zkl ["set"] n)) (c_do_if : Callee P w K mg base "do_if" ["deed", "path", "names", "settle"] (3 * n + 9) (zkl ["if"] n)) (c_do_while : Callee P w K mg base "do_while" ["deed", "path", "names", "settle"] (3 * n + 9) (zkl ["while"] n)) : FnOk P w K mg base CX0 (3 * n + 10) f fd ["deed", "path", "names", "settle"] (zkl ["set", "if", "while"] n) := by
 refine F.ok zpc (fun vs H Q E h => ?_) (fun cdv A outer s H vs Q E hr h => ?_)
 ·obtain ⟨v, e, pv, p, d, f, c, g, g', lo, rfl, _⟩ := h
  rfl
 obtain ⟨v, e, pv, p, d, fs, c, g, g', lo, rfl, hk, hv, h⟩ := h
 obtain ⟨va, xs, rfl, hva⟩ := zsk hv
 refine ⟨_, (z06 (z2m (z0c (gEq hr.units) (z0w ix_tup (z00 (i := 0) rfl z4g z5y z61) z02 (fun _ _ => rfl)) z0l (z0m _)) (z08 (z0q (z1y c_do_set hr (by omega) (z07 (z00 (i := 0) rfl z4g z5y z61) (z07 (z00 (i := 1) rfl z6u z3o z3p) (z07 (z00 (i := 2) rfl z69 z2j z2k) (z07 (z00 (i := 3) rfl z5u z2n z2o) z03)))) zfo zsr))) z0s)
 (z06 (z2m (z0c (gEq hr.units) (z0w ix_tup (z00 (i := 0) rfl z4g z5y z61) z02 (fun _ _ => rfl)) z0l (z0m _)) (z08 (z0q (z1y c_do_if hr (by omega) (z07 (z00 (i := 0) rfl z4g z5y z61) (z07 (z00 (i := 1) rfl z6u z3o z3p) (z07 (z00 (i := 2) rfl z69 z2j z2k) (z07 (z00 (i := 3) rfl z5u z2n z2o) z03)))) zgd zuz))) z0s)
 (z08 (z0q (z1y c_do_while hr (by omega) (z07 (z00 (i := 0) rfl z4g z5y z61) (z07 (z00 (i := 1) rfl z6u z3o z3p) (z07 (z00 (i := 2) rfl z69 z2j z2k) (z07 (z00 (i := 3) rfl z5u z2n z2o) z03)))) zd8 znc))))), z0f fun N1 e1 => ?_⟩
 walk_at "rd7"
 refine ⟨_, SqT.of hva, _, z0k, _, zfr, ?_⟩
 split
 ·rename_i z
  exact ⟨_, e, pv, p, d, fs, c, g, g', lo, rfl, by rw [of_decide_eq_true z]; simp, hv, h⟩
 rename_i z1
 rw [e1]
 refine z0f fun N2 e2 => ?_
 walk_at "rd7"
 refine ⟨_, SqT.of hva, _, z0k, _, zfr, ?_⟩
 split
 ·rename_i z
  exact ⟨_, e, pv, p, d, fs, c, g, g', lo, rfl, by rw [of_decide_eq_true z]; simp, hv, h⟩
 rename_i z2
 rw [e2]
 walk_at "rd7"
 refine ⟨_, e, pv, p, d, fs, c, g, g', lo, rfl, ?_, hv, h⟩
 simp only [List.mem_cons, List.not_mem_nil, or_false] at hk ⊢
 rcases hk with hk | hk | hk
 ·exact absurd (decide_eq_true hk) z1
 ·exact absurd (decide_eq_true hk) z2
 ·exact hk
theorem zmu {n : Nat} (F : Fun K "do_block" "do_block" z1o f fd) (b_enumerate : mg "enumerate" = none) (c_do_deed : Callee P w K mg base "do_deed" ["deed", "path", "names", "settle"] (3 * n + 10) (zkl ["set", "if", "while"] n)) : FnOk P w K mg base CX0 (3 * n + 11) f fd ["block", "path", "names", "settle"] (zkm (n + 1)) := by
 refine F.ok sc_do_block (fun vs H Q E h => ?_) (fun cdv A outer s H vs Q E hr h => ?_)
 ·obtain ⟨v, b, pv, p, d, f, c, g, g', lo, rfl, _⟩ := h
  rfl
 obtain ⟨v, b, pv, p, d, fs, c, g, g', lo, rfl, hv, hp, hok, hn, hpl, hkb, hd, hky, hh, hS, hL, q⟩ := h
 obtain ⟨ab, xs, rfl, hab, hda⟩ := hv.tupI
 have hxl : xs.length = b.length := by rw [hda.length, z7p]
 have hout : evB p 0 b c = zar [] (evB p ((0 : Nat) : Int) (b.drop 0) c) := by rw [List.drop_zero]; rfl
 generalize evB p 0 b c = out at hL q hout
 refine ⟨_, (z06 (zcu PassesOwn.never rfl (zo7 zbk b_enumerate (z07 (z00 (i := 0) rfl zdp zv0 zv3) z03)) (zcv (n := 2) rfl (z2d (z1w (i := 4) sc_do_block.nd rfl zhd) (z2d (z1w (i := 5) sc_do_block.nd rfl zfk) z8g)))
 (z06 (z1d (i := 6) sc_do_block.nd rfl zcn (z1y c_do_deed hr (by omega) (z07 (z00 (i := 5) rfl zf4 z5y z61) (z07 (z17 z2s (z00 (i := 1) rfl zf3 z3o z3p) (z14 (z07 (z00 (i := 4) rfl zgs q15 q16) z03))) (z07 (z00 (i := 2) rfl zdo z2j z2k) (z07 (z00 (i := 3) rfl zcz z2n z2o) z03)))) zd9 zq1) (z05 rfl))
 (z08 (z2m (z0c zup (z00 (i := 6) rfl z6z z5m z5o) zah (z0m _)) (z08 (z0q (z00 (i := 6) rfl z6z z5m z5o))) z0s))))
 (z08 (z0q zah))), z0f fun N1 e1 => ?_⟩
 walk_at "rd7"
 refine ⟨⟨_, SqT.of hab⟩, ?_⟩
 refine zl9 (xs := xs) (BkI H ab pv d fs lo g' b p out) ?start ?lst ?step ?done
 case start => exact ⟨c, g, [], _, _, _, rfl, (Gr.same (Same.refl H) hL).gd, hd, hky, hh, by rw [List.drop_zero]; exact hkb, hout⟩
 case lst =>
  rintro i σ Hc _ ⟨ci, gi, rs, _, _, _, rfl, gd, _⟩
  exact SqT.of (gd.keep hd hab (by intro xs z; cases z) (by intro xs z; cases z))
 case done =>
  rintro σ Hc ⟨ci, gi, rs, _, _, _, rfl, gd, hdc, hkc, hhc, hkb2, ho⟩
  show N1 _ _
  rw [e1]
  walk_at "rd7"
  rw [hxl, List.drop_length, evB] at ho
  subst ho
  refine q _ _ ?_ hdc rfl
  show Gd d lo H Hc (rs ++ [])
  rw [List.append_nil]
  exact gd
 case step =>
  rintro i x σ Hc Tu hx ⟨ci, gi, rs, _, _, _, rfl, gd, hdc, hkc, hhc, hkb2, ho⟩ hT
  obtain ⟨e, hbi, dx⟩ := zsl hda hx
  have hdo := hok.2 e (List.mem_of_getElem? hbi)
  rw [zfs hbi] at ho hkb2
  obtain ⟨q1, hq1, hkr⟩ := zjr hkb2
  have s2 := z04 hT (HO.tup [V.int i, x])
  walk_at "rd7"
  refine ⟨_, SqT.of z01, rfl, _, _, rfl, _, _, rfl, rfl, by decide, fun p1 h1 => ?_⟩
  have s3 := z04 h1 (HO.tup [V.int i])
  have s23 := s2.trans s3
  have kpc := gd.kp hd
  refine zka ((hp.kp kpc).kp s23.kp) zaw (by simp; omega) fun z H1 s4 dz => ?_
  have s24 := s23.trans s4
  have l1 := zn7 p i e (b.drop (i + 1)) ci
  have lo1 : out.2.2.length = rs.length + (evB p i (e :: b.drop (i + 1)) ci).2.2.length := by rw [ho, zar, List.length_append]
  have hLc : HasL lo Hc ((evB p i (e :: b.drop (i + 1)) ci).2.2.length + 1) := hL.onD gd (by omega)
  refine ⟨x, e, z, _, d, fs, ci, gi, q1, lo, rfl, by cases e <;> simp [D.kind], (dx.kp kpc).kp s24.kp, dz, hdo, by omega, by simp; omega, hq1, s24 _ _ hdc, hkc, hhc, (hS.kp (gd.kpE hd)).kp (Same.kpE s24), (hLc.same s24).mono (by omega), fun r2 H4 g2 hd4 ho4 => ?_⟩
  have GB := gd.trans (((Gr.same s24 hLc).gd).trans g2 (s24 _ _ hdc)) hdc
  have hk4 := zn5 e n (p ++ [(i : Int)]) ci hdo hkc
  have hh4 := zn6 e (p ++ [(i : Int)]) ci gi q1 hq1 hhc
  rcases hb : evD (p ++ [(i : Int)]) e ci with ⟨ee, c4, w4⟩
  rw [hb] at hd4 ho4 GB hk4 hh4
  cases ee with
  | some er =>
   rw [zek hb] at ho
   subst ho
   have hne : r2 ≠ .non := by
    obtain ⟨a4, rfl, _⟩ := zfw (r := Rs.ref er.1 er.2) ho4
    intro z
    cases z
   show if decide (r2 = V.non) = false then Q r2 H4 else _
   rw [if_pos (decide_eq_false hne)]
   exact q _ _ GB hd4 ho4
  | none =>
   rw [zel hb] at ho
   cases ho4
   show if decide (V.non = V.non) = false then Q V.non H4 else _
   rw [if_neg (by simp)]
   refine ⟨c4, q1, rs ++ w4, _, _, _, rfl, GB, hd4, hk4, hh4 rfl, hkr, ?_⟩
   rw [ho]
   simp only [zar, List.append_assoc]
   rfl
theorem zwi {k : Nat} {n1 n2 n3 n4 : Str} : FnOk P w K mg base CX0 k f fd [n1, n2, n3, n4] (zkm 0) := by
 have no : ∀ vs H Q E, ¬ zkm 0 vs H Q E := fun vs H Q E h => by
  obtain ⟨v, b, pv, p, d, f, c, g, g', lo, _, _, _, h, _⟩ := h
  exact h.elim
 exact ⟨fun vs H Q E h => absurd h (no vs H Q E), fun A outer s H args us vs Q E _ _ _ _ h => absurd h (no vs H Q E)⟩
theorem zta {f2 f3 f4 f5 : Addr} {fd2 fd3 fd4 fd5 : FuncData} (d : Df K mg "do_block" z1o ["block", "path", "names", "settle"] f fd) (d2 : Df K mg "do_deed" z3g ["deed", "path", "names", "settle"] f2 fd2) (d3 : Df K mg "do_set" z4b ["deed", "path", "names", "settle"] f3 fd3) (d4 : Df K mg "do_if" z56 ["deed", "path", "names", "settle"] f4 fd4) (d5 : Df K mg "do_while" z1n ["deed", "path", "names", "settle"] f5 fd5) (b_enumerate : mg "enumerate" = none) (c_reckon : Callee P w K mg base "reckon" ["term", "path", "names", "settle"] 7 (z74 5)) : ∀ n : Nat, Callee P w K mg base "do_block" ["block", "path", "names", "settle"] (3 * n + 8) (zkm n)
 | 0 => d.callee zwi
 | n + 1 => d.callee (zmu d.F b_enumerate (d2.callee (zpq d2.F (d3.callee (zrj d3.F c_reckon)) (d4.callee (zub d4.F c_reckon (zta d d2 d3 d4 d5 b_enumerate c_reckon n))) (d5.callee (zmt d5.F c_reckon (zta d d2 d3 d4 d5 b_enumerate c_reckon n))))))
end
section
variable {P : Program} {w : World} {K : PySem.W.Frag} {mg : Str → Option Value} {base : Heap} {f : Addr} {fd : FuncData}
def stB : Cnt → List Rw → List Int → Cnt
 | c, r :: rs, w :: ws => stB (zis c r.1 w) rs ws
 | c, _, _ => c
def Fits : List Rw → List Int → Prop
 | [], [] => True
 | r :: rs, w :: ws => r.2.1 ≤ w ∧ w ≤ r.2.2 ∧ Fits rs ws
 | _, _ => False
theorem Fits.len : ∀ {rows : List Rw} {ws : List Int}, Fits rows ws → rows.length = ws.length
 | [], [], _ => rfl
 | _ :: rs, _ :: ws, h => by rw [List.length_cons, List.length_cons, Fits.len h.2.2]
 | [], _ :: _, h => h.elim
 | _ :: _, [], h => h.elim
theorem Fits.at : ∀ {rows : List Rw} {ws : List Int} {i : Nat} {r : Rw} {w : Int}, Fits rows ws → rows[i]? = some r → ws[i]? = some w → r.2.1 ≤ w ∧ w ≤ r.2.2
 | r :: rs, w :: ws, 0, _, _, h, e1, e2 => by
  simp at e1 e2
  subst e1; subst e2
  exact ⟨h.1, h.2.1⟩
 | r :: rs, w :: ws, i + 1, _, _, h, e1, e2 => Fits.at h.2.2 (by simpa using e1) (by simpa using e2)
 | [], [], _, _, _, _, e1, _ => by simp at e1
 | [], _ :: _, _, _, _, h, _, _ => h.elim
 | _ :: _, [], _, _, _, h, _, _ => h.elim
theorem zjb : ∀ {rows : List Rw} {ws : List Int} {i : Nat} {r : Rw} {w : Int} (c : Cnt), rows[i]? = some r → ws[i]? = some w → stB c (rows.take (i + 1)) (ws.take (i + 1)) = zis (stB c (rows.take i) (ws.take i)) r.1 w
 | r :: rs, w :: ws, 0, _, _, c, e1, e2 => by
  simp at e1 e2
  subst e1; subst e2
  simp [stB]
 | r :: rs, w :: ws, i + 1, _, _, c, e1, e2 => by
  have := zjb (i := i) (zis c r.1 w) (show rs[i]? = some _ by simpa using e1) (show ws[i]? = some _ by simpa using e2)
  simpa [stB] using this
 | [], _, _, _, _, _, e1, _ => by simp at e1
 | _ :: _, [], _, _, _, _, _, e2 => by simp at e2
theorem zf8 : ∀ (rows : List Rw) (ws : List Int) (c : Cnt), (∀ r ∈ rows, r.1 ∈ pool) → KeyOk c → KeyOk (stB c rows ws)
 | [], _, c, _, h => by simpa [stB] using h
 | _ :: _, [], c, _, h => by simpa [stB] using h
 | r :: rs, w :: ws, c, hr, h => by
  rw [stB]
  exact zf8 rs ws _ (fun x hx => hr x (.tail _ hx)) (h.put (hr r (.head _)) w)
theorem zm5 : ∀ (rows : List Rw) (ws : List Int) (c : Cnt) (g : List Str), Fits rows ws → (∀ r ∈ rows, -6 ≤ r.2.1 ∧ r.2.2 ≤ 8) → Has c g → Has (stB c rows ws) (g ++ rows.map (·.1))
 | [], [], c, g, _, _, h => by simpa [stB] using h
 | r :: rs, w :: ws, c, g, hf, hr, h => by
  rw [stB, List.map_cons, show g ++ r.1 :: rs.map (·.1) = (g ++ [r.1]) ++ rs.map (·.1) by simp]
  have h1 := hr r (.head _)
  exact zm5 rs ws _ _ hf.2.2 (fun x hx => hr x (.tail _ hx)) (h.put (by have := hf.1; omega) (by have := hf.2.1; omega))
 | [], _ :: _, _, _, h, _, _ => h.elim
 | _ :: _, [], _, _, h, _, _ => h.elim
theorem zbc {rows : List Rw} (h : okRows rows) : ∀ r ∈ rows, r.1 ∈ pool := fun r hr => by
 have h1 : r.1 ∈ rows.map (·.1) := List.mem_map.mpr ⟨r, hr, rfl⟩
 rw [h.nm] at h1
 have h2 := List.mem_of_mem_take h1
 simp only [pair, List.mem_cons, List.not_mem_nil, or_false] at h2
 rcases h2 with h2 | h2 <;> rw [h2] <;> decide +kernel
theorem KeyOk.nil : KeyOk [] := ⟨.nil, fun p h => by simp at h⟩
def zqu : Sp := fun vs H Q _ => ∃ (iv wv : V) (rows : List Rw) (ws : List Int), vs = [iv, wv] ∧ Dt H iv (.tup (rows.map z70)) ∧ Dt H wv (z3i ws) ∧ okRows rows ∧ Fits rows ws ∧ ∀ (d : Addr) (H' : Hp), Same H H' → H d = none → H' d = some (.dK (kvC (stB [] rows ws))) → Q (.ref d) H'
def FsI (H : Hp) (ia wa d : Addr) (rows : List Rw) (ws : List Int) (i : Nat) (σ : St) (Hc : Hp) : Prop := ∃ (x3 x4 : Option V), σ = [some (.ref ia), some (.ref wa), some (.ref d), x3, x4] ∧ Same H Hc ∧ Hc d = some (.dK (kvC (stB [] (rows.take i) (ws.take i))))
end
section
variable {P : Program} {w : World} {K : PySem.W.Frag} {mg : Str → Option Value} {base : Heap} {f : Addr} {fd : FuncData}
theorem zun {H : Hp} {v : V} {d : Dm} (h : Dt H v d) : ∃ t, TyOf K H v t ∧ PySem.W.kitOne K t (.type "int") = some (isI d) := ⟨_, q0o h, by cases d <;> rfl⟩
theorem zl7 {H : Hp} {v : V} {d : Dm} (h : Dt H v d) : ∃ t, TyOf K H v t ∧ PySem.W.kitOne K t (.type "bool") = some (isB d) := ⟨_, q0o h, by cases d <;> rfl⟩
def zn0 : Dm → Bool
 | .int _ => true
 | _ => false
def zog (d : Dm) (lo hi : Int) : Bool := match d with
 | .int i => decide (lo ≤ i) && decide (i ≤ hi)
 | _ => false
def zum (d : Dm) (n : Int) : Bool := match d with
 | .tup ds => decide ((ds.length : Int) = n)
 | _ => false
def q1f (g : Dm → Bool) : Sp := fun vs H Q _ => ∃ v d, vs = [v] ∧ Dt H v d ∧ ∀ H', Same H H' → Q (.bl (g d)) H'
theorem zms (F : Fun K "is_whole" "is_whole" z42 f fd) (b_isinstance : mg "isinstance" = none) (b_int : mg "int" = none) (b_bool : mg "bool" = none) : FnOk P w K mg base CX0 1 f fd ["thing"] (q1f zn0) := by
 refine F.ok zme (fun vs H Q E h => ?_) (fun cdv A outer s H vs Q E hr h => ?_)
 ·obtain ⟨v, d, rfl, _⟩ := h
  rfl
 obtain ⟨v, d, rfl, hd, q⟩ := h
 refine ⟨_, (z08 (z0q (zit (z75 zwz z66 b_isinstance z3b (z07 (z00 (i := 0) rfl z7w za3 zaa) (z07 (zjj (v := V.ty "int") zhp b_int q00 rfl zz4 zzu) z03)) z39 z3a) (zo8 (zyo (z75 zwz z66 b_isinstance z3b (z07 (z00 (i := 0) rfl z7w za3 zaa) (z07 (zjj (v := V.ty "bool") zgb b_bool zxf rfl zwl zx7) z03)) z39 z3a)))))), ?_⟩
 walk_at "rd"
 refine ⟨_, _, ⟨rfl, rfl⟩, _, zun hd, ?_⟩
 have q' := q H (Same.refl _)
 cases d with
 | int i => exact ⟨_, _, ⟨rfl, rfl⟩, _, zl7 hd, q'⟩
 | bl b => exact ⟨_, _, ⟨rfl, rfl⟩, _, zl7 hd, q'⟩
 | non => exact q'
 | str x => exact q'
 | tup ds => exact q'
 | lst => exact q'
def zqt : Sp := fun vs H Q _ => ∃ v d lo hi, vs = [v, .int lo, .int hi] ∧ Dt H v d ∧ ∀ H', Same H H' → Q (.bl (zog d lo hi)) H'
theorem zg4 (F : Fun K "is_whole_from" "is_whole_from" z1q f fd) (c_is_whole : Callee P w K mg base "is_whole" ["thing"] 1 (q1f zn0)) : FnOk P w K mg base CX0 2 f fd ["thing", "low", "high"] zqt := by
 refine F.ok zg3 (fun vs H Q E h => ?_) (fun cdv A outer s H vs Q E hr h => ?_)
 ·obtain ⟨v, d, lo, hi, rfl, _⟩ := h
  rfl
 obtain ⟨v, d, lo, hi, rfl, hd, q⟩ := h
 refine ⟨_, (z08 (z0q (zit (z1y c_is_whole hr (by omega) (z07 (z00 (i := 0) rfl z4a za3 zaa) z03) z8t znb) (zit (zji zu9 (z00 (i := 1) rfl zb8 zzt zzw) (z00 (i := 0) rfl z4a za3 zaa) (z0m _)) (zo8 (zji zu9 (z00 (i := 0) rfl z4a za3 zaa) (z00 (i := 2) rfl zav zx5 zxb) (z0m _))))))), ?_⟩
 walk_at "rd"
 refine ⟨v, d, rfl, hd, fun H1 s1 => ?_⟩
 have q' := q H1 s1
 cases hd with
 | int i =>
  walk_at "rd"
  simp only [zn0, if_true]
  replace q' : Q (.bl (decide (lo ≤ i) && decide (i ≤ hi))) H1 := q'
  split
  ·rename_i hlo
   rw [decide_eq_true hlo, Bool.true_and] at q'
   exact q'
  ·rename_i hlo
   rw [decide_eq_false hlo, Bool.false_and] at q'
   exact q'
 | _ => exact ⟨_, rfl, q'⟩
def zm7 : Sp := fun vs H Q _ => ∃ v d n, vs = [v, .int n] ∧ Dt H v d ∧ ∀ H', Same H H' → Q (.bl (zum d n)) H'
theorem zia (F : Fun K "is_tuple_of" "is_tuple_of" z26 f fd) (b_isinstance : mg "isinstance" = none) (b_len : mg "len" = none) (b_tuple : mg "tuple" = none) : FnOk P w K mg base CX0 1 f fd ["thing", "many"] zm7 := by
 refine F.ok zi7 (fun vs H Q E h => ?_) (fun cdv A outer s H vs Q E hr h => ?_)
 ·obtain ⟨v, d, n, rfl, _⟩ := h
  rfl
 obtain ⟨v, d, n, rfl, hd, q⟩ := h
 refine ⟨_, (z08 (z0q (zit (z75 zwz z8u b_isinstance z3b (z07 (z00 (i := 0) rfl z6e za3 zaa) (z07 (zjj (v := V.ty "tuple") zcq b_tuple zc7 rfl zc1 zc3) z03)) z39 z3a) (zo8 (zji zbd (z75 zuq zeh b_len zf0 (z07 (z00 (i := 0) rfl z6e za3 zaa) z03) ze6 zen) (z00 (i := 1) rfl zcd zx3 zxa) (z0m _)))))), ?_⟩
 walk_at "rd"
 refine ⟨_, _, ⟨rfl, rfl⟩, _, zpx hd, ?_⟩
 have q' := q H (Same.refl _)
 cases hd with
 | tup e r =>
  refine ⟨_, q20 (SqT.of e), ?_⟩
  rw [r.length]
  exact q'
 | _ => exact q'
theorem zfj (F : Fun K "names_at_first" "names_at_first" z0d f fd) (b_len : mg "len" = none) (b_zip : mg "zip" = none) (c_is_tuple_of : Callee P w K mg base "is_tuple_of" ["thing", "many"] 1 zm7) (c_is_whole_from : Callee P w K mg base "is_whole_from" ["thing", "low", "high"] 2 zqt) : FnOk P w K mg base CX0 3 f fd ["ins", "worths"] zqu := by
 refine F.ok sc_names_at_first (fun vs H Q E h => ?_) (fun cdv A outer s H vs Q E hr h => ?_)
 ·obtain ⟨iv, wv, rows, ws, rfl, _⟩ := h
  rfl
 obtain ⟨iv, wv, rows, ws, rfl, hi, hw, hrow, hfit, q⟩ := h
 obtain ⟨ia, is, rfl, hia, dia⟩ := hi.tupI
 obtain ⟨wa, us, rfl, hwa, dwa⟩ := hw.tupI
 have lis : is.length = rows.length := by rw [dia.length, List.length_map]
 have lus : us.length = ws.length := by rw [dwa.length, List.length_map]
 have hlen := hfit.len
 refine ⟨_, (z06 (z2m (zks (zkr (z1y c_is_tuple_of hr (by omega) (z07 (z00 (i := 1) rfl z2q z5w z5z) (z07 (z75 zuq z6i b_len zf0 (z07 (z00 (i := 0) rfl z3l zor zox) z03) ze6 zen) z03)) z4j zcw))) (z08 zo5) z0s)
 (z06 (z1d (i := 2) sc_names_at_first.nd rfl z5j zoa (z05 rfl))
 (z06 (zcu PassesOwn.never rfl (zmj z6h b_zip (z07 (z00 (i := 0) rfl z3l zor zox) (z07 (z00 (i := 1) rfl z2q z5w z5z) z03))) (zcv (n := 2) rfl (z2d (z1w (i := 3) sc_names_at_first.nd rfl z65) (z2d (z1w (i := 4) sc_names_at_first.nd rfl z5i) z8g)))
 (z06 (z2m (zks (zkr (z1y c_is_whole_from hr (by omega) (z07 (z00 (i := 4) rfl z2w z5x z60) (z07 (z0w ix_tup (z00 (i := 3) rfl z1z zj2 zj3) z02 (fun _ _ => rfl)) (z07 (z0w ix_tup (z00 (i := 3) rfl z1z zj2 zj3) z02 (fun _ _ => rfl)) z03))) z43 zap))) (z08 zo5) z0s)
 (z08 (zjf hr.units1 (z00 (i := 2) rfl z2x z2j z2k) (z0w ix_tup (z00 (i := 3) rfl z1z zj2 zj3) z02 (fun _ _ => rfl)) (z00 (i := 4) rfl z2w z5x z60) (z05 rfl)))))
 (z08 (z0q (z00 (i := 2) rfl z2x z2j z2k)))))), z0f fun N1 e1 => ?_⟩
 walk_at "rd7"
 refine ⟨_, .inl ⟨ia, is, rfl, .inr (SqT.of hia), rfl⟩, ?_⟩
 refine ⟨_, _, _, rfl, hw, fun H1 s1 => ⟨_, rfl, ?_⟩⟩
 have hy : zum (z3i ws) (is.length : Int) = true := by
  show decide _ = true
  rw [decide_eq_true_eq, List.length_map, lis, hlen]
 rw [if_neg (by rw [hy]; decide)]
 rw [e1]
 refine z0f fun N2 e2 => ?_
 walk_at "rd7"
 intro d hdn
 have s2 := z04 hdn (HO.dK [])
 have s12 := s1.trans s2
 have hdf : H d = none := s1.free hdn
 rw [e2]
 refine z0f fun N3 e3 => ?_
 walk_at "rd7"
 refine ⟨_, _, ⟨rfl, rfl⟩, ⟨_, SqT.of (s12 _ _ hia)⟩, ⟨_, SqT.of (s12 _ _ hwa)⟩, ?_⟩
 refine zoj (xs := is) (ys := us) (by omega) (FsI H ia wa d rows ws) ?start ?lst ?step ?done
 case start => exact ⟨_, _, rfl, s12, z01⟩
 case lst =>
  rintro i σ Hc _ ⟨_, _, rfl, sc, _⟩
  exact ⟨SqT.of (sc _ _ hia), SqT.of (sc _ _ hwa)⟩
 case done =>
  rintro σ Hc ⟨_, _, rfl, sc, hc⟩
  show N3 _ _
  rw [e3]
  walk_at "rd7"
  rw [lis, List.take_length, hlen, List.take_length] at hc
  exact q d Hc sc hdf hc
 case step =>
  rintro i x y σ Hc T hx hy ⟨_, _, rfl, sc, hc⟩ hT
  obtain ⟨r, hri, dr⟩ := zaj dia hx
  obtain ⟨wd, hwi, dw⟩ := zaj dwa hy
  cases dw
  obtain ⟨ra, r0, r1, r2, rfl, hra, t0, t1, t2⟩ := zqi dr
  cases t0; cases t1; cases t2
  have s3 := z04 hT (HO.tup [V.ref ra, V.int wd])
  have hra3 := s3 _ _ (sc _ _ hra)
  have hf := hfit.at hri hwi
  have hk := zf8 (rows.take i) (ws.take i) [] (fun r hr => zbc hrow r (List.mem_of_mem_take hr)) KeyOk.nil
  walk_at "rd7"
  refine ⟨_, SqT.of z01, rfl, _, _, rfl, _, _, rfl, rfl, _, rfl, _, SqT.of hra3, _, z0x (j := 1) rfl, _, rfl, _, SqT.of hra3, _, z0x (j := 2) rfl, ?_⟩
  refine ⟨_, _, _, _, rfl, .int wd, fun H2 s4 => ⟨_, rfl, ?_⟩⟩
  have hy : zog (.int wd) r.2.1 r.2.2 = true := by
   show (decide (r.2.1 ≤ wd) && decide (wd ≤ r.2.2)) = true
   simp [hf.1, hf.2]
  rw [if_neg (by rw [hy]; decide)]
  have hc4 := s4 _ _ (s3 _ _ hc)
  refine ⟨_, rfl, _, SqT.of (s4 _ _ hra3), _, z0k, _, DPut.k (k := Sum.inr r.1) hc4 ?_, ?_⟩
  ·unfold kvC
   rw [List.length_map]
   exact Nat.lt_of_le_of_lt hk.len (by decide)
  ·refine ⟨_, _, rfl, z7y (sc.trans (s3.trans s4)) hdf, ?_⟩
   rw [z01, zkq, zjb [] hri hwi]
end
section
variable {P : Program} {w : World} {K : PySem.W.Frag} {mg : Str → Option Value} {base : Heap} {f : Addr} {fd : FuncData}
def z8f (x : Str) : Nat := if x = "a" then 0 else if x = "b" then 1 else if x = "c" then 2 else 3
theorem zqx : (pool.all fun x => pool.all fun y => (decide (x.cps.toList < y.cps.toList) == decide (z8f x < z8f y)) && (!(decide (z8f x = z8f y)) || decide (x = y))) = true := by decide +kernel
theorem ztx {x y : Str} (hx : x ∈ pool) (hy : y ∈ pool) : decide (x.cps.toList < y.cps.toList) = decide (z8f x < z8f y) ∧ (z8f x = z8f y → x = y) := by
 have h := zqx
 rw [List.all_eq_true] at h
 have h1 := h x hx
 rw [List.all_eq_true] at h1
 have h2 := h1 y hy
 rw [Bool.and_eq_true, Bool.or_eq_true] at h2
 refine ⟨beq_iff_eq.mp h2.1, fun e => ?_⟩
 rcases h2.2 with z | z
 ·rw [decide_eq_true e] at z; cases z
 ·exact of_decide_eq_true z
def zxt (o : Out) (H' : Hp) (r : V) : Prop := match o.1 with
 | some e => Dt H' r (Rs.ref e.1 e.2).enc
 | none => ∃ ms : Cnt, ms.Perm o.2.1 ∧ ms.Pairwise (fun p q => z8f p.1 < z8f q.1) ∧ Dt H' r (.tup [.str "told", .tup (ms.map zmo)])
abbrev evP (rows : List Rw) (b : List D) (ws : List Int) : Out := evB [] 0 b (stB [] rows ws)
def zgz : Sp := fun vs H Q _ => ∃ (gv wv : V) (rows : List Rw) (b : List D) (ws : List Int) (f : Addr) (g' : List Str) (lo : Option Addr), vs = [gv, wv, .ref f] ∧ Dt H gv (.tup [.tup (rows.map z70), .tup (zao b)]) ∧ Dt H wv (z3i ws) ∧ okRows rows ∧ Fits rows ws ∧ okW 4 b ∧ kbB (rows.map (·.1)) b = some g' ∧ SetOk f lo H ∧ HasL lo H ((evP rows b ws).2.2.length + 1) ∧
 ∀ (r : V) (H' : Hp), Gr lo H H' (evP rows b ws).2.2 → zxt (evP rows b ws) H' r → Q r H'
theorem Gd.gr {d : Addr} {lo : Option Addr} {H H1 H' : Hp} {rs : List RI} (h : Gd d lo H1 H' rs) (s : Same H H1) (hd : H d = none) (hl : ∀ l, lo = some l → ∃ xs, H l = some (.lst xs)) : Gr lo H H' rs := by
 refine ⟨fun a o n e => h.1 a o (z0h e hd) n (s _ _ e), fun l e => ?_⟩
 obtain ⟨xs, hx⟩ := hl l e
 obtain ⟨xs', ys, e1, e2, d2⟩ := h.2 l e
 rw [s _ _ hx] at e1
 cases e1
 exact ⟨xs, ys, hx, e2, d2⟩
theorem HasL.has {lo : Option Addr} {H : Hp} {n : Nat} (h : HasL lo H n) : ∀ l, lo = some l → ∃ xs, H l = some (.lst xs) := fun l e => by
 obtain ⟨xs, hx, _⟩ := h l e
 exact ⟨xs, hx⟩
end
section
variable {P : Program} {w : World} {K : PySem.W.Frag} {mg : Str → Option Value} {base : Heap} {f : Addr} {fd : FuncData}
theorem zrg (F : Fun K "run_by" "run_by" z38 f fd) (b_sorted : mg "sorted" = none) (b_tuple : mg "tuple" = none) (c_names_at_first : Callee P w K mg base "names_at_first" ["ins", "worths"] 3 zqu) (c_do_block : Callee P w K mg base "do_block" ["block", "path", "names", "settle"] 20 (zkm 4)) : FnOk P w K mg base CX0 21 f fd ["program", "worths", "settle"] zgz := by
 refine F.ok sc_run_by (fun vs H Q E h => ?_) (fun cdv A outer s H vs Q E hr h => ?_)
 ·obtain ⟨gv, wv, rows, b, ws, f, g', lo, rfl, _⟩ := h
  rfl
 obtain ⟨gv, wv, rows, b, ws, fs, g', lo, rfl, hg, hw, hrow, hfit, hok, hkb, hS, hL, q⟩ := h
 obtain ⟨ga, iv, bv, rfl, hga, di, db⟩ := zqj hg
 refine ⟨_, (z06 (z1d (i := 3) sc_run_by.nd rfl zak (z1y c_names_at_first hr (by omega) (z07 (z0w ix_tup (z00 (i := 0) rfl z4q z6a z6b) z02 (fun _ _ => rfl)) (z07 (z00 (i := 1) rfl z8x z5w z5z) z03)) z5l z9f) (z05 rfl))
 (z06 (z1d (i := 4) sc_run_by.nd rfl z81 (z1y c_do_block hr (by omega) (z07 (z0w ix_tup (z00 (i := 0) rfl z4q z6a z6b) z02 (fun _ _ => rfl)) (z07 (z14 z03) (z07 (z00 (i := 3) rfl z5b z2j z2k) (z07 (z00 (i := 2) rfl z8y z2n z2o) z03)))) z82 z7r) (z05 rfl))
 (z06 (z2m (z0c zup (z00 (i := 4) rfl z4p z5m z5o) zah (z0m _)) (z08 (z0q (z00 (i := 4) rfl z4p z5m z5o))) z0s)
 (z08 (z0q (z14 (z07 z0l (z07 (zml z62 zbg b_tuple zc7 (z07 (z75 (zaq rfl) zal b_sorted zez (z07 (zo9 (z00 (i := 3) rfl z5b z2j z2k)) z03) ze5 zem) z03) zc1 zc3) z03)))))))), z0f fun N1 e1 => ?_⟩
 walk_at "rd7"
 refine ⟨_, SqT.of hga, _, z0k, iv, wv, rows, ws, rfl, di, hw, hrow, hfit, fun d H1 s1 hdn hd => ?_⟩
 rw [e1]
 refine z0f fun N2 e2 => ?_
 walk_at "rd7"
 refine ⟨_, SqT.of (s1 _ _ hga), _, z0x (j := 1) rfl, Nat.zero_le _, fun p0 hp0 => ?_⟩
 have s2 := z04 hp0 (HO.tup [])
 have s12 := s1.trans s2
 have hky := zf8 rows ws [] (zbc hrow) KeyOk.nil
 have hh := zm5 rows ws [] [] hfit (fun r hr => ⟨(hrow.lo r hr).1, (hrow.lo r hr).2.2⟩) (fun x hx => by simp at hx)
 rw [List.nil_append] at hh
 refine ⟨bv, b, .ref p0, [], d, fs, stB [] rows ws, _, g', lo, rfl, db.kp s12.kp, .tup z01 .nil, hok, by decide, by decide, hkb, s2 _ _ hd, hky, hh, hS.kp (Same.kpE s12), hL.same s12, fun r H3 gd hd3 ho => ?_⟩
 have G : Gr lo H H3 (evP rows b ws).2.2 := gd.gr s12 hdn hL.has
 have hk3 := za2 b 4 [] 0 _ hok hky
 rw [e2]
 refine z0f fun N3 e3 => ?_
 walk_at "rd7"
 change q0x (evP rows b ws).1 H3 r at ho
 change H3 d = some (.dK (kvC (evP rows b ws).2.1)) at hd3
 change KeyOk (evP rows b ws).2.1 at hk3
 rcases hout : evP rows b ws with ⟨oo, cc, rr⟩
 rw [hout] at ho hd3 hk3 G q
 cases oo with
 | some er =>
  have hne : r ≠ .non := by
   obtain ⟨a4, rfl, _⟩ := zfw (r := Rs.ref er.1 er.2) ho
   intro z
   cases z
  rw [if_pos (decide_eq_false hne)]
  exact q _ _ G ho
 | none =>
  cases ho
  rw [if_neg (by simp), e3]
  walk_at "rd7"
  refine ⟨_, hd3, fun p hp => ?_⟩
  have s6 := z04 hp (zl6 p d)
  refine ⟨p, d, cc, z8f, rfl, z01, s6 _ _ hd3, Nat.lt_of_le_of_lt hk3.len (by decide), fun x hx y hy => ztx (hk3.2 x hx) (hk3.2 y hy), fun l7 H7 wt mt s7 f7 h7 d7 pm7 pw7 => ?_⟩
  refine ⟨_, rfl, _, .inl ⟨SqL.of h7, fun l8 h8 => ⟨by decide, fun p9 h9 => ?_⟩⟩⟩
  have s8 := z04 h8 (HO.tup wt)
  have s9 := z04 h9 (HO.tup [V.str "told", V.ref l8])
  have s69 := s6.trans (s7.trans (s8.trans s9))
  have hL3 : HasL lo H3 0 := by
   have := hL.on G (m := 0) (by rw [hout]; show rr.length + 0 ≤ rr.length + 1; omega)
   exact this
  have GG := G.trans (Gr.same s69 hL3)
  rw [List.append_nil] at GG
  exact q _ _ GG ⟨mt, pm7, pw7, .tup z01 (.cons (.str _) (.cons (.tup (s9 _ _ z01) (d7.kp (s8.trans s9).kp)) .nil))⟩
end
section
variable {P : Program} {w : World} {K : PySem.W.Frag} {mg : Str → Option Value} {base : Heap} {f : Addr} {fd : FuncData}
structure FunC (K : PySem.W.Frag) (x qual : Str) (st : Stmt) (f : Addr) (fd : FuncData) (c : Addr) : Prop where
 ex : ∃ (oc : Value) (od : Option Addr) (kV doc pm : Value) (an : Option Addr) (ct : Value) (osl : Array (Option Value)),
  fd = PySem.W.fnOf x qual (defArgs st) (defBody st) (defScope st) .none kV doc pm an (.ref c) ct ∧ K.lookup f = some ⟨oc, od, .func fd, osl⟩ ∧ PySem.W.codeIn K (.ref c) qual = true
 kp : PySem.W.keepIn K (.ref f) = true
theorem FunC.ok {P : Program} {w : World} {K : PySem.W.Frag} {mg : Str → Option Value} {base : Heap} {x qual : Str} {st : Stmt} {f c : Addr} {fd : FuncData} {N ps : List Str} {k : Nat} {sp : Sp} (F : FunC K x qual st f fd c) (S : FnScope N ps (defScope st)) (len : ∀ vs H Q E, sp vs H Q E → vs.length = ps.length)
  (hbody : ∀ (A : Around) (outer : List PySem.Env) (s : Shared) (H : Hp) (vs : List V) (Q : VK) (E : XK), Room k (A.deeper (PyProof.Rows.envOfC qual (defScope st) s.heap.objs.size f (.ref c))) → sp vs H Q E →
   ∃ t, PSs (z8v CX0 P w K mg base N qual (defScope st) f (.ref c) A outer s H E).nox (defBody st) t ∧ t { nx := fun _ H' => Q .non H', rt := Q } (L2.start N vs) H) : FnOk P w K mg base CX0 (k + 1) f fd ps sp := by
 obtain ⟨oc, od, kV, doc, pm, an, ct, osl, rfl, lk, hcd⟩ := F.ex
 refine zur lk hcd S len fun A outer s H vs Q E hr hsp => ?_
 obtain ⟨t, h, q⟩ := hbody A outer s H vs Q E hr hsp
 exact ⟨t, h.nox, q⟩
def TabAt (pt : Addr) (pos : Pos) (q : Str) (H : Hp) : Prop := H pt = some (.tbl #[]) ∨ ∃ c', H pt = some (.tbl (#[] ++ #[rawInt pos.line, rawInt pos.col, .ref c'])) ∧ H c' = some (zgg c' q)
theorem SameB.kpT {pt : Addr} {ps : Array Value} {H H' : Hp} (h : SameB pt H H') (hp : H pt = some (.tbl ps)) : Kp H H' :=
 ⟨fun b xs e => h b _ (z77 e hp (by intro z; cases z)) e, fun b xs e => ⟨xs, h b _ (z77 e hp (by intro z; cases z)) e⟩⟩
abbrev zw4 : Pos := zvh (q0i zdy)
abbrev zym : Pos := zvh (q0i z3r)
def zy9 (pt : Addr) : Sp := fun vs H Q _ => ∃ (gv wv : V) (rows : List Rw) (b : List D) (ws : List Int) (g' : List Str), vs = [gv, wv] ∧ Dt H gv (.tup [.tup (rows.map z70), .tup (zao b)]) ∧ Dt H wv (z3i ws) ∧ okRows rows ∧ Fits rows ws ∧ okW 4 b ∧ kbB (rows.map (·.1)) b = some g' ∧ TabAt pt zw4 dR.qual H ∧
 ∀ (r : V) (H' : Hp), SameB pt H H' → TabAt pt zw4 dR.qual H' → zxt (evP rows b ws) H' r → Q r H'
def znx (pt : Addr) : Sp := fun vs H Q _ => ∃ (gv wv : V) (rows : List Rw) (b : List D) (ws : List Int) (g' : List Str), vs = [gv, wv] ∧ Dt H gv (.tup [.tup (rows.map z70), .tup (zao b)]) ∧ Dt H wv (z3i ws) ∧ okRows rows ∧ Fits rows ws ∧ okW 4 b ∧ kbB (rows.map (·.1)) b = some g' ∧ (evP rows b ws).2.2.length + 1 < sizeLine ∧ TabAt pt zym dT.qual H ∧
 ∀ (l : Addr) (ys : List V) (H' : Hp), SameB pt H H' → H l = none → TabAt pt zym dT.qual H' → H' l = some (.lst ys) → DtA H' ys ((evP rows b ws).2.2.map zm0) → Q (.ref l) H'
theorem zmq (pos : Pos) (c' : Addr) : TriplesOk (#[] ++ #[rawInt pos.line, rawInt pos.col, Value.ref c']).toList := by simp [TriplesOk, rawInt]
theorem zre (pos : Pos) (c' : Addr) : codeAmong pos (#[] ++ #[rawInt pos.line, rawInt pos.col, Value.ref c']).toList = some (.ref c') := by simp [codeAmong, rawInt]
theorem zjq {pt : Addr} {pos : Pos} {D : LamD} {cl : List (Str × Addr)} {σ : St} {H : Hp} {Q : VK} (hT : TabAt pt pos D.qual H) (q : ∀ (fa c' : Addr) (H2 : Hp), SameB pt H H2 → Kp H H2 → H fa = none → H2 fa = some (zqa D cl fa c') → H2 c' = some (zgg c' D.qual) → TabAt pt pos D.qual H2 → Q (.ref fa) H2) : zy7 pt pos D cl σ H Q := by
 rcases hT with hT | ⟨c', hT, hc'⟩
 ·refine ⟨#[], hT, trivial, .inl ⟨rfl, fun c' fa h1 h2 hne => ?_⟩⟩
  have n1 : pt ≠ c' := z0h hT h1
  have n2 : pt ≠ fa := z0h hT h2
  have sB : SameB pt H (upd (upd (upd H pt (.tbl (#[] ++ #[rawInt pos.line, rawInt pos.col, .ref c']))) c' (zgg c' D.qual)) fa (zqa D cl fa c')) := fun a o n e => by rw [z0e (z0h e h2), z0e (z0h e h1), z0e n]; exact e
  exact q fa c' _ sB (sB.kpT hT) h2 z01 (by rw [z0e hne, z01]) (.inr ⟨c', by rw [z0e n2, z0e n1, z01], by rw [z0e hne, z01]⟩)
 ·refine ⟨_, hT, zmq pos c', .inr ⟨c', zre pos c', hc', fun fa h1 => ?_⟩⟩
  have s1 := z04 h1 (zqa D cl fa c')
  exact q fa c' _ (SameB.of s1) s1.kp h1 z01 (s1 _ _ hc') (.inr ⟨c', s1 _ _ hT, s1 _ _ hc'⟩)
theorem TabAt.kp {pt : Addr} {pos : Pos} {q : Str} {H H' : Hp} (h : TabAt pt pos q H) (k : ∀ a o, (∀ xs, o ≠ .lst xs) → H a = some o → H' a = some o) : TabAt pt pos q H' := by
 rcases h with h | ⟨c', h1, h2⟩
 ·exact .inl (k _ _ (by intro xs z; cases z) h)
 ·exact .inr ⟨c', k _ _ (by intro xs z; cases z) h1, k _ _ (by intro xs z; cases z) h2⟩
end
section
variable {P : Program} {w : World} {K : PySem.W.Frag} {mg : Str → Option Value} {base : Heap} {f : Addr} {fd : FuncData}
theorem zyy {c pt : Addr} (F : FunC K "run" "run" zdy f fd c) (hC : PySem.W.CodeHd base c pt) (hB : base.BuiltinsAt mg pt) (hgP : mainGlobals ≠ pt) (c_run_by : Callee P w K mg base "run_by" ["program", "worths", "settle"] 21 zgz) : FnOk P w K mg base CX0 22 f fd ["program", "worths"] (zy9 pt) := by
 refine F.ok zv9 (fun vs H Q E h => ?_) (fun A outer s H vs Q E hr h => ?_)
 ·obtain ⟨gv, wv, rows, b, ws, g', rfl, _⟩ := h
  rfl
 obtain ⟨gv, wv, rows, b, ws, g', rfl, hg, hw, hrow, hfit, hok, hkb, hT, q⟩ := h
 refine ⟨_, (z08 (z0q (z1y c_run_by hr (by omega) (z07 (z00 (i := 0) rfl zb7 z6a z6b) (z07 (z00 (i := 1) rfl zcs z5w z5z) (z07 (zr6 (c := c) (P := pt) rfl rfl rfl hC hB hgP) z03))) ze9 zht))), ?_⟩
 walk_at "rd7"
 show zy7 pt zw4 dR [] [some gv, some wv] H fun x H1 => zgz [gv, wv, x] H1 Q E0
 refine zjq hT fun fa c' H2 sB kp hfa hf hc hT2 => ?_
 refine ⟨gv, wv, rows, b, ws, fa, g', none, rfl, hg.kp kp, hw.kp kp, hrow, hfit, hok, hkb, ⟨c', hf, hc⟩, fun l z => (by cases z), fun r H' G ho => q r H' (fun a o n e => G.1 a o (by simp) (sB a o n e)) (hT2.kp fun a o _ e => G.1 a o (by simp) e) ho⟩
theorem zrf {c pt : Addr} (F : FunC K "traced" "traced" z3r f fd c) (hC : PySem.W.CodeHd base c pt) (hB : base.BuiltinsAt mg pt) (hgP : mainGlobals ≠ pt) (c_run_by : Callee P w K mg base "run_by" ["program", "worths", "settle"] 21 zgz) : FnOk P w K mg base CX0 22 f fd ["program", "worths"] (znx pt) := by
 refine F.ok sc_traced (fun vs H Q E h => ?_) (fun A outer s H vs Q E hr h => ?_)
 ·obtain ⟨gv, wv, rows, b, ws, g', rfl, _⟩ := h
  rfl
 obtain ⟨gv, wv, rows, b, ws, g', rfl, hg, hw, hrow, hfit, hok, hkb, hz, hT, q⟩ := h
 have hcl_rows : (z8v CX0 P w K mg base ["program", "worths", "rows"] "traced" (defScope z3r) f (.ref c) A outer s H E).nox.env.cells.lookup ("rows" : Str) = some (s.heap.objs.size + 1) := rfl
 refine ⟨_, (z06 (z1d (i := 2) sc_traced.nd rfl zhc (z3h z03) (z05 rfl))
 (z06 (z4v (zr7 (i := 2) c_run_by hr (by omega) (z07 (z00 (i := 0) rfl zdn z6a z6b) (z07 (z00 (i := 1) rfl zf1 z5w z5z) (z07 (zr6 (c := c) (P := pt) rfl rfl rfl hC hB hgP) z03))) rfl hcl_rows zgh rfl zg9 zht) (z05 rfl))
 (z08 (z0q (z00 (i := 2) rfl zgq zna znh))))), z0f fun N1 e1 => ?_⟩
 walk_at "rd7"
 refine ⟨Nat.zero_le _, fun l hl => ?_⟩
 have s1 := z04 hl (HO.lst [])
 have hll : (upd H l (HO.lst [])) l = some (.lst []) := z01
 generalize upd H l (HO.lst []) = H1 at s1 hll ⊢
 rw [e1]
 refine z0f fun N2 e2 => ?_
 walk_at "rd7"
 show zgw zgz (s.heap.objs.size + 1) 2 (zj8 (zqk 0) (zj8 (zqk 1) (zj8 (zy7 pt zym dT [("rows", s.heap.objs.size + 1)]) zvv))) [some gv, some wv, some (V.ref l)] H1 fun x H1 => N2 [some gv, some wv, some (V.ref l)] H1
 clear hcl_rows
 generalize s.heap.objs.size + 1 = cc
 simp only [zgw]
 walk_at "rd7"
 have hT1 : TabAt pt zym dT.qual H1 := hT.kp fun a o _ e => s1 _ _ e
 have nlp : l ≠ pt := fun z => by
  rcases hT with h | ⟨_, h, _⟩ <;> (rw [← z, hl] at h; cases h)
 refine zjq hT1 fun fa c' H2 sB kp hfa hf hc hT2 => ?_
 refine fun o u hd ru hcn => ?_
 cases ru
 have s3 := z04 hcn (z6v cc o)
 have hcc : (upd H2 cc (z6v cc o)) cc = some (z6v cc o) := z01
 have hl2 := sB l _ nlp hll
 have nlc : l ≠ cc := z0h hl2 hcn
 have kpA := s1.kp.trans (kp.trans s3.kp)
 refine ⟨gv, wv, rows, b, ws, fa, g', some l, rfl, hg.kp kpA, hw.kp kpA, hrow, hfit, hok, hkb, ⟨c', cc, o, s3 _ _ hf, s3 _ _ hc, hcc, hd⟩, fun l' z => ?_, fun r H4 G ho => ?_⟩
 ·cases z
  exact ⟨[], s3 _ _ hl2, by simpa using hz⟩
 have hcc4 := G.keep hcc (by intro xs z; unfold z6v at z; cases z)
 refine ⟨hcc4, ?_⟩
 obtain ⟨xs, ys, e3, e4, d4⟩ := G.2 l rfl
 rw [s3 _ _ hl2] at e3
 cases e3
 have out : ∀ {a : Addr} {o' : HO}, H4 a = some o' → H2 a ≠ none → zjt [cc] H4 a = some o' := fun {a o'} e n => by
  rw [z3s (fun z => n (by rw [List.mem_singleton.mp z]; exact hcn))]
  exact e
 rw [e2]
 walk_at "rd7"
 refine q l ys _ (fun a o' n e => ?_) hl (hT2.kp fun a o' n e => out (G.keep (s3 _ _ e) n) (by rw [e]; simp)) ?_ (d4.kp (zru hcc4))
 ·have h2 := sB a o' n (s1 _ _ e)
  exact out (G.1 a o' (fun z => by cases z; rw [hl] at e; cases e) (s3 _ _ h2)) (by rw [h2]; simp)
 ·exact out (by simpa using e4) (by rw [hl2]; simp)
end
section
variable {P : Program} {w : World} {K : PySem.W.Frag} {mg : Str → Option Value} {base : Heap} {f : Addr} {fd : FuncData}
theorem zn3 (c : Cnt) : ∀ (n : Nat) (t : T) (p : List Int), T.ok pool n t → (evT c t p).2.length + 1 ≤ 2 ^ n
 | 0, _, _, h => h.elim
 | n + 1, .num i, p, _ => by
  rw [evT]
  have : 1 ≤ 2 ^ n := Nat.one_le_two_pow
  simp only [List.length_cons, List.length_nil, Nat.pow_succ]
  omega
 | n + 1, .nm x, p, _ => by
  rw [evT]
  have : 1 ≤ 2 ^ n := Nat.one_le_two_pow
  simp only [List.length_cons, List.length_nil, Nat.pow_succ]
  omega
 | n + 1, .op w a b, p, h => by
  have h1 := zn3 c n a (p ++ [0]) h.1
  have h2 := zn3 c n b (p ++ [1]) h.2
  rw [Nat.pow_succ]
  rcases e1 : evT c a (p ++ [0]) with ⟨r1, w1⟩
  rcases e2 : evT c b (p ++ [1]) with ⟨r2, w2⟩
  rw [e1] at h1
  rw [e2] at h2
  cases r1 with
  | ref u q => rw [zkv e1]; simp only at h1 ⊢; omega
  | had x =>
   cases r2 with
   | ref u q => rw [zfi e1 e2]; simp only [List.length_append] at h1 h2 ⊢; omega
   | had y =>
    by_cases h3 : w = .quo ∧ y = 0
    ·obtain ⟨rfl, rfl⟩ := h3
     rw [zfh e1 e2]; simp only [List.length_append] at h1 h2 ⊢; omega
    ·rw [ziu e1 e2 h3]; simp only [List.length_append, List.length_cons, List.length_nil] at h1 h2 ⊢; omega
theorem zui {cond : Cnt → Rs × List RI} {body : Cnt → Out} {p : List Int} {A B : Nat} (hc : ∀ c, (cond c).2.length ≤ A) (hb : ∀ c, (body c).2.2.length ≤ B) : ∀ (k : Nat) (c : Cnt), (z57 cond body p k c).2.2.length ≤ (k + 1) * A + k * B := by
 intro k
 induction k with
 | zero =>
  intro c
  have h1 := hc c
  rcases e1 : cond c with ⟨r1, w1⟩
  rw [e1] at h1
  cases r1 with
  | ref u q => rw [z80 e1]; simpa using h1
  | had v =>
   by_cases hv : v = 0
   ·subst hv; rw [z7k e1]; simpa using h1
   ·rw [zbe e1 hv]; simpa using h1
 | succ k ih =>
  intro c
  have h1 := hc c
  have h2 := hb c
  have mA : (k + 1 + 1) * A = A + (k + 1) * A := by rw [Nat.add_mul (k + 1) 1 A, Nat.one_mul]; omega
  have mB : (k + 1) * B = B + k * B := by rw [Nat.add_mul k 1 B, Nat.one_mul]; omega
  rw [mA, mB]
  rcases e1 : cond c with ⟨r1, w1⟩
  rcases e2 : body c with ⟨o1, c1, v1⟩
  rw [e1] at h1
  rw [e2] at h2
  simp only at h1 h2
  cases r1 with
  | ref u q => rw [z80 e1]; simp only; omega
  | had v =>
   by_cases hv : v = 0
   ·subst hv; rw [z7k e1]; simp only; omega
   ·cases o1 with
    | some u => rw [z93 e1 hv e2]; simp only [List.length_append]; omega
    | none =>
     have h3 := ih c1
     rw [z94 e1 hv e2]; simp only [zar, List.length_append]; omega
theorem zhs {M : Nat} : ∀ (b : List D), (∀ d ∈ b, ∀ (p : List Int) (c : Cnt), (evD p d c).2.2.length ≤ M) → ∀ (p : List Int) (k : Int) (c : Cnt), (evB p k b c).2.2.length ≤ b.length * M
 | [], _, p, k, c => by rw [evB]; simp
 | d :: r, h, p, k, c => by
  have h1 := h d (.head _) (p ++ [k]) c
  rw [List.length_cons, Nat.add_mul, Nat.one_mul]
  rcases e1 : evD (p ++ [k]) d c with ⟨o1, c1, w1⟩
  rw [e1] at h1
  simp only at h1
  have h2 := zhs r (fun e he => h e (.tail _ he)) p (k + 1) c1
  cases o1 with
  | some u => rw [zek e1]; simp only; omega
  | none => rw [zel e1]; simp only [zar, List.length_append]; omega
def PD : Nat → Nat
 | 0 => 31
 | n + 1 => 651 + 20 * (6 * PD n)
theorem t31 (c : Cnt) (t : T) (p : List Int) (h : T.ok pool 5 t) : (evT c t p).2.length ≤ 31 := by
 have := zn3 c 5 t p h
 omega
theorem zjz : ∀ (n : Nat) (d : D) (p : List Int) (c : Cnt), okD n d → (evD p d c).2.2.length ≤ PD n
 | n, .set x t, p, c, h => by
  have h1 := t31 c t (p ++ [0]) h.2
  rw [zmb]
  cases n with
  | zero => exact h1
  | succ n => rw [PD]; omega
 | 0, .ite t b b2, p, c, h => h.2.1.elim
 | 0, .whl t m b, p, c, h => h.2.2.2.elim
 | n + 1, .ite t b b2, p, c, h => by
  have h1 := t31 c t (p ++ [0]) h.1
  have hb := zhs b (fun d hd p c => zjz n d p c (h.2.1.2 d hd)) (p ++ [1]) 0 c
  have hb2 := zhs b2 (fun d hd p c => zjz n d p c (h.2.2.2 d hd)) (p ++ [2]) 0 c
  have l1 : b.length * PD n ≤ 6 * PD n := Nat.mul_le_mul_right _ h.2.1.1
  have l2 : b2.length * PD n ≤ 6 * PD n := Nat.mul_le_mul_right _ h.2.2.1
  rw [PD]
  rcases e1 : evT c t (p ++ [0]) with ⟨r1, w1⟩
  rw [e1] at h1
  simp only at h1
  cases r1 with
  | ref u q => rw [zd4 e1]; simp only; omega
  | had v =>
   by_cases hv : v = 0
   ·subst hv
    rw [zhh e1]; simp only [List.length_append]; omega
   ·rw [zd3 e1 hv]; simp only [List.length_append]; omega
 | n + 1, .whl t m b, p, c, h => by
  have l1 : b.length * PD n ≤ 6 * PD n := Nat.mul_le_mul_right _ h.2.2.2.1
  have hl := zui (cond := fun c => evT c t (p ++ [0])) (body := fun c => evB (p ++ [1]) 0 b c) (p := p) (A := 31) (B := 6 * PD n) (fun c => t31 c t (p ++ [0]) h.1) (fun c => Nat.le_trans (zhs b (fun d hd p c => zjz n d p c (h.2.2.2.2 d hd)) (p ++ [1]) 0 c) l1) m.toNat c
  rw [evD, PD]
  have hm : m.toNat ≤ 20 := by have := h.2.2.1; omega
  have l2 : (m.toNat + 1) * 31 ≤ 21 * 31 := Nat.mul_le_mul_right _ (by omega)
  have l3 : m.toNat * (6 * PD n) ≤ 20 * (6 * PD n) := Nat.mul_le_mul_right _ hm
  omega
theorem zw0 {b : List D} (h : okB 3 b) (p : List Int) (k : Int) (c : Cnt) : (evB p k b c).2.2.length + 1 < sizeLine := by
 have h1 := zhs b (fun d hd p c => zjz 2 d p c (h.2 d hd)) p k c
 have h2 : b.length * PD 2 ≤ 6 * PD 2 := Nat.mul_le_mul_right _ h.1
 have h3 : 6 * PD 2 + 1 < sizeLine := by decide
 omega
def zvo (xs : List Dm) (lo hi : Option Int) : List Dm := (xs.drop (HT.sIx xs.length 0 lo)).take (HT.sIx xs.length xs.length hi - HT.sIx xs.length 0 lo)
theorem zoo {H : Hp} : ∀ {xs : List V} {ds : List Dm} (n : Nat), DtA H xs ds → DtA H (xs.take n) (ds.take n)
 | _, _, 0, _ => by simp; exact .nil
 | _, _, n + 1, .nil => by simp; exact .nil
 | _, _, n + 1, .cons h t => by simp only [List.take_succ_cons]; exact .cons h (zoo n t)
theorem zop {H : Hp} : ∀ {xs : List V} {ds : List Dm} (n : Nat), DtA H xs ds → DtA H (xs.drop n) (ds.drop n)
 | _, _, 0, h => by simpa using h
 | _, _, n + 1, .nil => by simp; exact .nil
 | _, _, n + 1, .cons h t => by simp only [List.drop_succ_cons]; exact zop n t
theorem slD {K : PySem.W.Frag} {H : Hp} {Q : VK} {x : V} {ds : List Dm} {lo hi : Option Int} (dx : Dt H x (.tup ds)) (h : ∀ z H', Same H H' → Dt H' z (.tup (zvo ds lo hi)) → Q z H') : zye K x lo hi H Q := by
 obtain ⟨a, xs, rfl, ha, da⟩ := dx.tupI
 have hl := da.length
 refine ⟨a, xs, rfl, SqT.of ha, ?_⟩
 by_cases hw : HT.sIx xs.length 0 lo = 0 ∧ HT.sIx xs.length xs.length hi = xs.length
 ·refine .inl ⟨hw, h _ _ (Same.refl _) ?_⟩
  unfold zvo
  rw [← hl, hw.1, hw.2, List.drop_zero, Nat.sub_zero, hl, List.take_length]
  exact dx
 ·refine .inr ⟨hw, fun p hp => ?_⟩
  have s1 := z04 hp (HO.tup (zvn xs lo hi))
  refine h _ _ s1 (.tup z01 ?_)
  unfold zvn zvo
  rw [← hl]
  exact zoo _ (zop _ (da.kp s1.kp))
theorem zv1 (ds : List Dm) (j : Nat) : zvo ds (some (j : Int)) none = ds.drop j := by
 unfold zvo
 rw [HT.zo0, HT.zvz]
 by_cases h : j ≤ ds.length
 ·rw [Nat.min_eq_left h, List.take_of_length_le (by rw [List.length_drop]; omega)]
 ·rw [Nat.min_eq_right (by omega), List.drop_of_length_le (by omega), List.drop_of_length_le (by omega), List.take_nil]
abbrev z5q : List Str := ["zero", "over", "long"]
theorem zje {i : Int} {p q : List Int} {u : Str} (h : zi6 i p = .ref u q) : u ∈ z5q := by
 unfold zi6 at h
 split at h
 ·cases h; simp
 ·split at h
  ·cases h; simp
  ·cases h
theorem z6c {c : Cnt} : ∀ (t : T) (p : List Int) {u : Str} {q : List Int} {r : List RI}, evT c t p = (.ref u q, r) → u ∈ z5q
 | .num i, p, u, q, r, h => by rw [evT] at h; exact zje (congrArg Prod.fst h)
 | .nm x, p, u, q, r, h => by rw [evT] at h; exact zje (congrArg Prod.fst h)
 | .op w a b, p, u, q, r, h => by
  rcases e1 : evT c a (p ++ [0]) with ⟨r1, w1⟩
  cases r1 with
  | ref u1 q1 =>
   rw [zkv e1] at h
   cases h
   exact z6c a _ e1
  | had x =>
   rcases e2 : evT c b (p ++ [1]) with ⟨r2, w2⟩
   cases r2 with
   | ref u1 q1 =>
    rw [zfi e1 e2] at h
    cases h
    exact z6c b _ e2
   | had y =>
    by_cases h3 : w = .quo ∧ y = 0
    ·obtain ⟨rfl, rfl⟩ := h3
     rw [zfh e1 e2] at h
     cases h; simp
    ·rw [ziu e1 e2 h3] at h
     exact zje (congrArg Prod.fst h)
theorem zrn {cond : Cnt → Rs × List RI} {body : Cnt → Out} {p : List Int} (hc : ∀ c u q r, cond c = (.ref u q, r) → u ∈ z5q) (hb : ∀ c e, (body c).1 = some e → e.1 ∈ z5q) : ∀ (k : Nat) (c : Cnt) (e : Ref), (z57 cond body p k c).1 = some e → e.1 ∈ z5q := by
 intro k
 induction k with
 | zero =>
  intro c e h
  rcases e1 : cond c with ⟨r1, w1⟩
  cases r1 with
  | ref u q => rw [z80 e1] at h; cases h; exact hc c u q w1 e1
  | had v =>
   by_cases hv : v = 0
   ·subst hv; rw [z7k e1] at h; cases h
   ·rw [zbe e1 hv] at h; cases h; simp
 | succ k ih =>
  intro c e h
  rcases e1 : cond c with ⟨r1, w1⟩
  cases r1 with
  | ref u q => rw [z80 e1] at h; cases h; exact hc c u q w1 e1
  | had v =>
   by_cases hv : v = 0
   ·subst hv; rw [z7k e1] at h; cases h
   ·rcases e2 : body c with ⟨o1, c1, v1⟩
    cases o1 with
    | some u =>
     rw [z93 e1 hv e2] at h
     cases h
     exact hb c e (by rw [e2])
    | none =>
     rw [z94 e1 hv e2] at h
     exact ih c1 e h
mutual
theorem zol : ∀ (d : D) (p : List Int) (c : Cnt) (e : Ref), (evD p d c).1 = some e → e.1 ∈ z5q
 | .set x t, p, c, e, h => by
  rcases e1 : evT c t (p ++ [0]) with ⟨r1, w1⟩
  cases r1 with
  | ref u q => rw [zfb e1] at h; cases h; exact z6c t _ e1
  | had v => rw [zfc e1] at h; cases h
 | .ite t b b2, p, c, e, h => by
  rcases e1 : evT c t (p ++ [0]) with ⟨r1, w1⟩
  cases r1 with
  | ref u q => rw [zd4 e1] at h; cases h; exact z6c t _ e1
  | had v =>
   by_cases hv : v = 0
   ·subst hv
    rw [zhh e1] at h
    exact z83 b2 _ 0 c e h
   ·rw [zd3 e1 hv] at h
    exact z83 b _ 0 c e h
 | .whl t m b, p, c, e, h => by
  rw [evD] at h
  exact zrn (cond := fun c => evT c t (p ++ [0])) (body := fun c => evB (p ++ [1]) 0 b c) (fun c u q r h => z6c t _ h) (fun c e h => z83 b _ 0 c e h) _ c e h
theorem z83 : ∀ (b : List D) (p : List Int) (k : Int) (c : Cnt) (e : Ref), (evB p k b c).1 = some e → e.1 ∈ z5q
 | [], p, k, c, e, h => by rw [evB] at h; cases h
 | d :: b, p, k, c, e, h => by
  rcases e1 : evD (p ++ [k]) d c with ⟨o1, c1, w1⟩
  cases o1 with
  | some u =>
   rw [zek e1] at h
   cases h
   exact zol d _ c e (by rw [e1])
  | none =>
   rw [zel e1] at h
   exact z83 b p (k + 1) c1 e h
end
theorem zkb : ∀ x ∈ z5q, PyData.strOk x = true := by
 intro x hx
 simp only [z5q, List.mem_cons, List.not_mem_nil, or_false] at hx
 rcases hx with rfl | rfl | rfl <;> decide +kernel
theorem zh1 : ∀ {a b : Cnt}, (∀ x, x ∈ a ↔ x ∈ b) → a.Pairwise (fun p q => z8f p.1 < z8f q.1) → b.Pairwise (fun p q => z8f p.1 < z8f q.1) → a = b
 | [], [], _, _, _ => rfl
 | [], y :: b, h, _, _ => absurd ((h y).mpr (.head _)) (by simp)
 | x :: a, [], h, _, _ => absurd ((h x).mp (.head _)) (by simp)
 | x :: a, y :: b, h, p1, p2 => by
  obtain ⟨a1, a2⟩ := List.pairwise_cons.mp p1
  obtain ⟨b1, b2⟩ := List.pairwise_cons.mp p2
  have exy : x = y := by
   rcases List.mem_cons.mp ((h x).mp (.head _)) with e | e
   ·exact e
   ·rcases List.mem_cons.mp ((h y).mpr (.head _)) with e2 | e2
    ·exact e2.symm
    ·have l1 := b1 x e
     have l2 := a1 y e2
     omega
  subst exy
  have : ∀ z, z ∈ a ↔ z ∈ b := fun z => by
   constructor
   ·intro hz
    rcases List.mem_cons.mp ((h z).mp (.tail _ hz)) with e | e
    ·have := a1 z hz
     rw [e] at this
     omega
    ·exact e
   ·intro hz
    rcases List.mem_cons.mp ((h z).mpr (.tail _ hz)) with e | e
    ·have := b1 z hz
     rw [e] at this
     omega
    ·exact e
  rw [zh1 this a2 b2]
def SameC (p1 p2 : Addr) (H H' : Hp) : Prop := ∀ a o, a ≠ p1 → a ≠ p2 → H a = some o → H' a = some o
theorem SameC.refl {p1 p2 : Addr} (H : Hp) : SameC p1 p2 H H := fun _ _ _ _ e => e
theorem SameC.trans {p1 p2 : Addr} {H H1 H2 : Hp} (a : SameC p1 p2 H H1) (b : SameC p1 p2 H1 H2) : SameC p1 p2 H H2 := fun x o n m e => b x o n m (a x o n m e)
theorem SameC.of {p1 p2 : Addr} {H H' : Hp} (h : Same H H') : SameC p1 p2 H H' := fun a o _ _ e => h a o e
theorem SameC.one {p1 p2 : Addr} {H H' : Hp} (h : SameB p1 H H') : SameC p1 p2 H H' := fun a o n _ e => h a o n e
theorem SameC.two {p1 p2 : Addr} {H H' : Hp} (h : SameB p2 H H') : SameC p1 p2 H H' := fun a o _ n e => h a o n e
theorem TabAt.tbl {pt : Addr} {pos : Pos} {q : Str} {H : Hp} (h : TabAt pt pos q H) : ∃ ps, H pt = some (.tbl ps) := by
 rcases h with h | ⟨c', h, _⟩
 ·exact ⟨_, h⟩
 ·exact ⟨_, h⟩
theorem SameC.keep {p1 p2 : Addr} {H H' : Hp} {s1 s2 : Array Value} (h : SameC p1 p2 H H') (h1 : H p1 = some (.tbl s1)) (h2 : H p2 = some (.tbl s2)) {a : Addr} {o : HO} (n : ∀ s, o ≠ .tbl s) (e : H a = some o) : H' a = some o := h a o (z77 e h1 (n s1)) (z77 e h2 (n s2)) e
theorem SameC.kp {p1 p2 : Addr} {H H' : Hp} {s1 s2 : Array Value} (h : SameC p1 p2 H H') (h1 : H p1 = some (.tbl s1)) (h2 : H p2 = some (.tbl s2)) : Kp H H' :=
 ⟨fun b xs e => h.keep h1 h2 (by intro s z; cases z) e, fun b xs e => ⟨xs, h.keep h1 h2 (by intro s z; cases z) e⟩⟩
theorem TabAt.ne {p1 p2 : Addr} {pos : Pos} {q : Str} {H H' : Hp} (h : TabAt p1 pos q H) (s : SameB p2 H H') (n : p1 ≠ p2) (ht : ∃ ps, H p2 = some (.tbl ps)) : TabAt p1 pos q H' := by
 obtain ⟨ps, ht⟩ := ht
 rcases h with h | ⟨c', h, hc⟩
 ·exact .inl (s _ _ n h)
 ·exact .inr ⟨c', s _ _ n h, s _ _ (z77 hc ht (by intro z; unfold zgg at z; cases z)) hc⟩
theorem zx1 (ds : List Dm) : PyData.eqv (.list (zgf ds)) (.list (zgf [])) = ds.isEmpty := by
 cases ds with
 | nil => rfl
 | cons d ds => simp [zgf, PyData.eqv, PyData.eqvAll]
end
section
variable {P : Program} {w : World} {K : PySem.W.Frag} {mg : Str → Option Value} {base : Heap} {f : Addr} {fd : FuncData}
theorem Fits.snoc : ∀ {rows : List Rw} {ws : List Int} {r : Rw} {w : Int}, Fits rows ws → r.2.1 ≤ w → w ≤ r.2.2 → Fits (rows ++ [r]) (ws ++ [w])
 | [], [], r, w, _, h1, h2 => ⟨h1, h2, trivial⟩
 | a :: rows, b :: ws, r, w, h, h1, h2 => ⟨h.1, h.2.1, Fits.snoc h.2.2 h1 h2⟩
 | [], _ :: _, _, _, h, _, _ => h.elim
 | _ :: _, [], _, _, h, _, _ => h.elim
def znw : Sp := fun vs H Q _ => ∃ (gv : V) (rows : List Rw) (bd : Dm), vs = [gv] ∧ Dt H gv (.tup [.tup (rows.map z70), bd]) ∧ okRows rows ∧ ∀ (l : Addr) (H' : Hp) (xs : List V) (wss : List (List Int)), Same H H' → H l = none → H' l = some (.lst xs) → DtA H' xs (wss.map z3i) → (∀ ws ∈ wss, Fits rows ws) → 1 ≤ wss.length → Q (.ref l) H'
def AwI (H : Hp) (ga : Addr) (rows : List Rw) (i : Nat) (σ : St) (Hc : Hp) : Prop := ∃ (l : Addr) (xs : List V) (wss : List (List Int)) (x2 x3 x4 x5 x6 : Option V), σ = [some (.ref ga), some (.ref l), x2, x3, x4, x5, x6] ∧ Same H Hc ∧ H l = none ∧ Hc l = some (.lst xs) ∧ DtA Hc xs (wss.map z3i) ∧ (∀ ws ∈ wss, Fits (rows.take i) ws) ∧ 1 ≤ wss.length ∧ wss.length ≤ 15 ^ i
theorem zv2 {lo : Int} {n : Nat} {g : TG} {tt : TT} {te : TE} {Q : VK} {σ : St} {H : Hp} (Pv : Nat → List V → St → Hp → Prop) (h0 : Pv 0 [] σ H) (hz : n < sizeLine) (hy : ∀ i zs σ H, Pv i zs σ H → zs.length ≤ i)
  (hs : ∀ i zs σ H, i < n → Pv i zs σ H → g (.int (lo + i)) σ H fun σ2 H2 => tt σ2 H2 fun b H3 => if b = true then te σ2 H3 (fun v H4 => Pv (i + 1) (zs ++ [v]) σ2 H4) else Pv (i + 1) zs σ2 H3)
  (hd : ∀ zs σ H, Pv n zs σ H → ∀ p, H p = none → Q (.ref p) (upd H p (.lst zs))) : zi5 (Itr lo n) g tt te Q σ H := by
 refine ⟨fun i m zs σ H => m = n - i ∧ i ≤ n ∧ Pv i zs σ H, ⟨n, by simp, Nat.zero_le _, h0⟩, ?_⟩
 rintro i m zs σ H ⟨rfl, hi, p⟩
 have hyl := hy i zs σ H p
 by_cases hlt : i < n
 ·refine .inr ⟨hlt, by omega, Pv (i + 1), fun ys' σ' H' p' => ⟨n - (i + 1), by omega, rfl, hlt, p'⟩, fun x H' y => ?_⟩
  obtain ⟨e, y⟩ := y
  subst e y
  exact hs i zs σ _ hlt p
 ·have e : i = n := by omega
  subst e
  exact .inl ⟨Nat.le_refl _, by omega, hd zs σ H p⟩
def AwJ (H : Hp) (ga : Addr) (l : Addr) (xs : List V) (wss : List (List Int)) (pr : Addr) (rows : List Rw) (v2 v3 v4 : V) (j : Nat) (σ : St) (Hc : Hp) : Prop := ∃ (ys : List V) (vss : List (List Int)) (x6 : Option V), σ = [some (.ref ga), some (.ref l), some v2, some v3, some v4, some (.ref pr), x6] ∧ Same H Hc ∧ Hc pr = some (.lst ys) ∧ DtA Hc ys (vss.map z3i) ∧ (∀ ws ∈ vss, Fits rows ws) ∧ j ≤ vss.length ∧ vss.length ≤ 15 * j ∧ Hc l = some (.lst xs) ∧ DtA Hc xs (wss.map z3i)
def AwC (U : Hp) (pv : V) (ws : List Int) (lo : Int) (i : Nat) (ys : List V) (σ' : St) (H' : Hp) : Prop := Same U H' ∧ (∃ t, σ' = [t, some pv]) ∧ DtA H' ys (((List.range i).map fun (k : Nat) => ws ++ [lo + (k : Int)]).map z3i) ∧ ys.length ≤ i
end
section
variable {P : Program} {w : World} {K : PySem.W.Frag} {mg : Str → Option Value} {base : Heap} {f : Addr} {fd : FuncData}
theorem zjk (F : Fun K "_law_all_worths" "_law_all_worths" z0g f fd) (b_range : mg "range" = none) : FnOk P w K mg base CX0 1 f fd ["_law_program_here"] znw := by
 refine F.ok sc_law_all_worths (fun vs H Q E h => ?_) (fun cdv A outer s H vs Q E hr h => ?_)
 ·obtain ⟨gv, rows, bd, rfl, _⟩ := h
  rfl
 obtain ⟨gv, rows, bd, rfl, hg, hrow, q⟩ := h
 obtain ⟨ga, iv, bv, rfl, hga, di, db⟩ := zqj hg
 obtain ⟨ia, is, rfl, hia, dia⟩ := di.tupI
 have lis : is.length = rows.length := by rw [dia.length, List.length_map]
 refine ⟨_, (z06 (z1d (i := 1) sc_law_all_worths.nd rfl z4s (z3h (z07 (z14 z03) z03)) (z05 rfl))
 (z06 (zcu PassesOwn.never rfl (zyn (z0w ix_tup (z00 (i := 0) rfl z59 z0t z0u) z02 (fun _ _ => rfl))) (zcv (n := 3) rfl (z2d (z1w (i := 2) sc_law_all_worths.nd rfl z78) (z2d (z1w (i := 3) sc_law_all_worths.nd rfl z7l) (z2d (z1w (i := 4) sc_law_all_worths.nd rfl z79) z8g))))
 (z06 (z1d (i := 5) sc_law_all_worths.nd rfl z6g (z3h z03) (z05 rfl))
 (z06 (zcu PassesOwn.never rfl (zfe (z00 (i := 1) rfl z4r zfy zg0)) (z1w (i := 6) sc_law_all_worths.nd rfl z6f)
 (z08 (z4v (ze1 PySem.F.plainAttrs_list PySem.F.slot_list_extend PySem.F.type_list_extend zl2 (z00 (i := 5) rfl z45 zcx zcy) (z07 (zfg ["_law_worth_here", "_law_worths"] [none, some 6] rfl (CompS.of (by rfl)) (zr5 za0 b_range (z07 (z00 (i := 3) rfl z7h zde zdk) (z07 (z17 z2e (z00 (i := 4) rfl z73 zlh zlp) z02) z03))) (fun _ _ _ _ _ => (z1w (i := 0) (show List.Nodup (["_law_worth_here", "_law_worths"] : List Str) from by decide +kernel) rfl (Or.inl rfl))) (fun _ _ _ _ _ => zjg) (fun _ _ _ _ _ => (z17 (opK (r := zfx) (K := K) z2s rfl) (z00 (i := 1) rfl (by first | exact Or.inl rfl | exact Or.inr (Or.inl rfl) | exact Or.inr (Or.inr rfl)) z24 z25) (z14 (z07 (z00 (i := 0) rfl (by first | exact Or.inl rfl | exact Or.inr (Or.inl rfl) | exact Or.inr (Or.inr rfl)) z1j z1l) z03))))) z03)) (z05 rfl))))
 (z08 (z1d (i := 1) sc_law_all_worths.nd rfl z4s (z00 (i := 5) rfl z45 zcx zcy) (z05 rfl))))))
 (z08 (z0q (z00 (i := 1) rfl z4r zfy zg0))))), z0f fun N1 e1 => ?_⟩
 walk_at "rd7"
 refine ⟨Nat.zero_le _, fun p0 h0 => ⟨by decide, fun l0 hl0 => ?_⟩⟩
 have s1 := z04 h0 (HO.tup [])
 have s2 := z04 hl0 (HO.lst [V.ref p0])
 have s12 := s1.trans s2
 have d0 : Dt (upd (upd H p0 (HO.tup [])) l0 (HO.lst [V.ref p0])) (.ref p0) (z3i []) := .tup (s2 _ _ z01) .nil
 have hl0' : H l0 = none := s1.free hl0
 have hll : (upd (upd H p0 (HO.tup [])) l0 (HO.lst [V.ref p0])) l0 = some (.lst [V.ref p0]) := z01
 generalize upd (upd H p0 (HO.tup [])) l0 (HO.lst [V.ref p0]) = H1 at s12 d0 hll ⊢
 rw [e1]
 refine z0f fun N2 e2 => ?_
 walk_at "rd7"
 refine ⟨_, SqT.of (s12 _ _ hga), _, z0k, ia, rfl, ⟨_, SqT.of (s12 _ _ hia)⟩, ?_⟩
 refine zx0 (xs := is) (AwI H ga rows) ?start ?lst ?step ?done
 case start => exact ⟨l0, [.ref p0], [[]], _, _, _, _, _, rfl, s12, hl0', hll, .cons d0 .nil, fun ws h => by rw [List.mem_singleton] at h; subst h; exact trivial, by decide, by decide⟩
 case lst =>
  rintro i σ Hc _ ⟨l, xs, wss, _, _, _, _, _, rfl, sc, _⟩
  exact SqT.of (sc _ _ hia)
 case done =>
  rintro σ Hc ⟨l, xs, wss, _, _, _, _, _, rfl, sc, hln, hl, dx, hf, hge, _⟩
  show N2 _ _
  rw [e2]
  walk_at "rd7"
  rw [lis, List.take_length] at hf
  exact q l Hc xs wss sc hln hl dx hf hge
 case step =>
  rintro i x σ Hc hx ⟨l, xs, wss, _, _, _, _, _, rfl, sc, hln, hl, dx, hf, hge, hlen⟩
  obtain ⟨r, hri, dr⟩ := zaj dia hx
  obtain ⟨ra, r0, r1, r2, rfl, hra, t0, t1, t2⟩ := zqi dr
  cases t0; cases t1; cases t2
  have hra2 := sc _ _ hra
  walk_at "rd7"
  refine ⟨_, SqT.of hra2, rfl, _, _, rfl, _, _, rfl, _, _, rfl, rfl, Nat.zero_le _, fun pr hpr => ?_⟩
  have s3 := z04 hpr (HO.lst [])
  have hl3 := s3 _ _ hl
  refine ⟨⟨_, SqL.of hl3⟩, ?_⟩
  have hrl := hrow.lo r (List.mem_of_getElem? hri)
  have hxw : xs.length = wss.length := by rw [dx.length, List.length_map]
  have hi2 : i < 2 := Nat.lt_of_lt_of_le (List.getElem?_eq_some_iff.mp hri).1 hrow.len
  have h15 : wss.length ≤ 15 := by
   have : i = 0 ∨ i = 1 := by omega
   rcases this with rfl | rfl
   ·exact Nat.le_trans hlen (by decide)
   ·exact Nat.le_trans hlen (by decide)
  refine zok (xs := xs) (AwJ H ga l xs wss pr (rows.take (i + 1)) (.str r.1) (.int r.2.1) (.int r.2.2)) ?st2 ?ls2 ?step2 ?done2
  case st2 => exact ⟨[], [], _, rfl, sc.trans s3, z01, .nil, fun ws h => by simp at h, by simp, by simp, hl3, dx.kp s3.kp⟩
  case ls2 =>
   rintro j σ Hd _ ⟨ys, vss, _, rfl, sd, hp, dy, hv, hvg, hvl, hld, dxd⟩
   exact SqL.of hld
  case done2 =>
   rintro σ Hd ⟨ys, vss, _, rfl, sd, hp, dy, hv, hvg, hvl, hld, dxd⟩
   walk_at "rd7"
   refine ⟨pr, ys, vss, _, _, _, _, _, rfl, sd, sc.free hpr, hp, dy, hv, by rw [hxw] at hvg; omega, ?_⟩
   rw [hxw] at hvl
   rw [Nat.pow_succ, Nat.mul_comm]
   exact Nat.le_trans hvl (Nat.mul_le_mul_left _ hlen)
  case step2 =>
   rintro j y σ Hd hy ⟨ys, vss, _, rfl, sd, hp, dy, hv, hvg, hvl, hld, dxd⟩
   obtain ⟨ws, hwi, dw⟩ := zaj dxd hy
   have hfw := hf ws (List.mem_of_getElem? hwi)
   walk_at "rd7"
   have hn : (r.2.2 + 1 - r.2.1).toNat ≤ 15 := by omega
   have nlp : l ≠ pr := z0h hl hpr
   have hwl : ws.length ≤ 2 := by
    have h1 := hfw.len
    have h2 := hrow.len
    rw [List.length_take] at h1
    omega
   refine ⟨.inl ⟨rfl, _, SqL.of hp⟩, _, _, ⟨rfl, rfl⟩, ⟨by omega, by omega, by omega, by omega⟩, ?_⟩
   refine zv2 (AwC Hd y ws r.2.1) ⟨Same.refl _, ⟨_, rfl⟩, .nil, Nat.le_refl _⟩ (Nat.lt_of_le_of_lt hn (by decide)) ?_ ?_ ?_
   ·rintro k zs σ' H' ⟨_, _, _, hz⟩
    exact hz
   ·rintro k zs σ' H' hk ⟨sU, ⟨t, rfl⟩, dz, hz⟩
    walk_at "rd7"
    refine ⟨by decide, fun p1 h1 => ?_⟩
    have s4 := z04 h1 (HO.tup [V.int (r.2.1 + k)])
    refine zka ((dw.kp sU.kp).kp s4.kp) zaw (by simp; omega) fun v H4 s5 dv => ?_
    have s45 := s4.trans s5
    refine ⟨sU.trans s45, ⟨_, rfl⟩, ?_, by rw [List.length_append, List.length_singleton]; omega⟩
    rw [List.range_succ, List.map_append, List.map_append]
    exact (dz.kp s45.kp).append (.cons dv .nil)
   ·rintro zs σ' H' ⟨sU, _, dz, hz⟩ pe hpe
    have s6 := z04 hpe (HO.lst zs)
    have sU6 := sU.trans s6
    have hp6 := sU6 _ _ hp
    have hyl : ys.length ≤ 15 * j := by rw [dy.length, List.length_map]; exact hvl
    have hj : j < xs.length := (List.getElem?_eq_some_iff.mp hy).1
    have hys : ys.length ≤ 225 := by omega
    refine ⟨pe, rfl, ys, hp6, zs, z01, Nat.le_of_lt (z4h (by omega)), ?_⟩
    have k7 : Kp (upd H' pe (HO.lst zs)) (upd (upd H' pe (HO.lst zs)) pr (HO.lst (ys ++ zs))) := Kp.set hp6
    refine ⟨ys ++ zs, vss ++ (List.range (r.2.2 + 1 - r.2.1).toNat).map (fun (k : Nat) => ws ++ [r.2.1 + (k : Int)]), _, rfl, z7y (sd.trans sU6) (sc.free hpr), z01, ?_, ?_, by rw [List.length_append, List.length_map, List.length_range]; omega, ?_, by rw [z0e nlp]; exact sU6 _ _ hld, dxd.kp (sU6.kp.trans k7)⟩
    ·rw [List.map_append]
     exact (dy.kp (sU6.kp.trans k7)).append (dz.kp (s6.kp.trans k7))
    ·intro w hw
     rcases List.mem_append.mp hw with hw | hw
     ·exact hv w hw
     ·obtain ⟨k, hk, rfl⟩ := List.mem_map.mp hw
      have hk2 := List.mem_range.mp hk
      rw [zbb hri]
      exact hfw.snoc (by omega) (by omega)
    ·rw [List.length_append, List.length_map, List.length_range]
     omega
end
section
variable {P : Program} {w : World} {K : PySem.W.Frag} {mg : Str → Option Value} {base : Heap} {f : Addr} {fd : FuncData}
def zo1 (e : Ref) : Dm := .tup [.str e.1, z3i e.2]
def G3 (s f : Addr) (H H' : Hp) (rs : List RI) (fo : Option Ref) : Prop := (∀ a o, a ≠ s → a ≠ f → H a = some o → H' a = some o) ∧ (∃ xs ys, H s = some (.lst xs) ∧ H' s = some (.lst (xs ++ ys)) ∧ DtA H' ys (rs.map zm0)) ∧ H f = some (.lst []) ∧ ∃ zs, H' f = some (.lst zs) ∧ DtA H' zs (fo.toList.map zo1)
def Rs.out : Rs → Option Ref
 | .had _ => none
 | .ref u q => some (u, q)
theorem G3.keep {s f : Addr} {H H' : Hp} {rs : List RI} {fo : Option Ref} (h : G3 s f H H' rs fo) {a : Addr} {o : HO} (n : ∀ xs, o ≠ .lst xs) (e : H a = some o) : H' a = some o := by
 obtain ⟨h1, ⟨xs, ys, e1, e2, _⟩, e3, _⟩ := h
 exact h1 a o (z77 e e1 (n xs)) (z77 e e3 (n [])) e
theorem G3.kp {s f : Addr} {H H' : Hp} {rs : List RI} {fo : Option Ref} (h : G3 s f H H' rs fo) : Kp H H' := by
 refine ⟨fun b xs e => h.keep (by intro z w; cases w) e, fun b xs e => ?_⟩
 obtain ⟨h1, ⟨xs', ys, e1, e2, _⟩, e3, zs, e4, _⟩ := h
 by_cases hs : b = s
 ·exact ⟨_, hs ▸ e2⟩
 ·by_cases hf : b = f
  ·exact ⟨_, hf ▸ e4⟩
  ·exact ⟨xs, h1 b _ hs hf e⟩
theorem G3.trans {s f : Addr} {H H1 H2 : Hp} {r1 r2 : List RI} {fo : Option Ref} (a : G3 s f H H1 r1 none) (b : G3 s f H1 H2 r2 fo) : G3 s f H H2 (r1 ++ r2) fo := by
 have kb := b.kp
 obtain ⟨a1, ⟨xs, ys, e1, e2, d1⟩, e3, zs, e4, d4⟩ := a
 obtain ⟨b1, ⟨xs', ys', g1, g2, d2⟩, g3, ws, g4, d5⟩ := b
 rw [e2] at g1
 cases g1
 exact ⟨fun x o n m e => b1 x o n m (a1 x o n m e), ⟨xs, ys ++ ys', e1, by rw [g2, List.append_assoc], by rw [List.map_append]; exact (d1.kp kb).append d2⟩, e3, ws, g4, d5⟩
theorem G3.same {s f : Addr} {H H' : Hp} {xs : List V} (h : Same H H') (hs : H s = some (.lst xs)) (hf : H f = some (.lst [])) : G3 s f H H' [] none :=
 ⟨fun a o _ _ e => h a o e, ⟨xs, [], hs, by rw [List.append_nil]; exact h _ _ hs, .nil⟩, hf, [], h _ _ hf, .nil⟩
theorem G3.then {s f : Addr} {H H1 H2 : Hp} {rs : List RI} {fo : Option Ref} (a : G3 s f H H1 rs fo) (h : Same H1 H2) : G3 s f H H2 rs fo := by
 obtain ⟨a1, ⟨xs, ys, e1, e2, d1⟩, e3, zs, e4, d4⟩ := a
 exact ⟨fun x o n m e => h _ _ (a1 x o n m e), ⟨xs, ys, e1, h _ _ e2, d1.kp h.kp⟩, e3, zs, h _ _ e4, d4.kp h.kp⟩
theorem G3.row {s f : Addr} {H H1 : Hp} {rs : List RI} {fo : Option Ref} {xs : List V} {y : V} {r : RI} (hsf : s ≠ f) (a : G3 s f H H1 rs fo) (hx : H1 s = some (.lst xs)) (dy : Dt H1 y (zm0 r)) : G3 s f H (upd H1 s (.lst (xs ++ [y]))) (rs ++ [r]) fo := by
 have k : Kp H1 (upd H1 s (.lst (xs ++ [y]))) := Kp.set hx
 obtain ⟨a1, ⟨xs0, ys, e1, e2, d1⟩, e3, zs, e4, d4⟩ := a
 rw [hx] at e2
 cases e2
 refine ⟨fun x o n m e => by rw [z0e n]; exact a1 x o n m e, ⟨xs0, ys ++ [y], e1, by rw [z01, List.append_assoc], ?_⟩, e3, zs, by rw [z0e (Ne.symm hsf)]; exact e4, d4.kp k⟩
 rw [List.map_append]
 exact (d1.kp k).append (.cons (dy.kp k) .nil)
theorem G3.fault {s f : Addr} {H H1 : Hp} {rs : List RI} {y : V} {e : Ref} (hsf : s ≠ f) (a : G3 s f H H1 rs none) (dy : Dt H1 y (zo1 e)) : H1 f = some (.lst []) ∧ G3 s f H (upd H1 f (.lst ([] ++ [y]))) rs (some e) := by
 obtain ⟨a1, ⟨xs0, ys, e1, e2, d1⟩, e3, zs, e4, d4⟩ := a
 cases d4
 have k : Kp H1 (upd H1 f (.lst [y])) := Kp.set e4
 exact ⟨e4, fun x o n m e => by rw [z0e m]; exact a1 x o n m e, ⟨xs0, ys, e1, by rw [List.nil_append, z0e hsf]; exact e2, d1.kp k⟩, e3, [y], by rw [List.nil_append, z01], .cons (dy.kp k) .nil⟩
theorem G3.no {s f : Addr} {H H1 : Hp} {rs : List RI} (a : G3 s f H H1 rs none) : H1 f = some (.lst []) := by
 obtain ⟨a1, _, e3, zs, e4, d4⟩ := a
 cases d4
 exact e4
theorem G3.has {s f : Addr} {H H1 : Hp} {rs : List RI} {fo : Option Ref} {n m : Nat} (a : G3 s f H H1 rs fo) (h : HasL (some s) H n) (k : rs.length + m ≤ n) : HasL (some s) H1 m := fun l hl => by
 cases hl
 obtain ⟨xs, e, z⟩ := h s rfl
 obtain ⟨a1, ⟨xs0, ys, e1, e2, d1⟩, _⟩ := a
 rw [e] at e1
 cases e1
 have := d1.length
 rw [List.length_map] at this
 exact ⟨_, e2, by rw [List.length_append]; omega⟩
theorem z3t {K : PySem.W.Frag} {f l : Addr} {H : Hp} {zs : List V} {fo : Option Ref} (hz : H f = some (.lst zs)) (dz : DtA H zs (fo.toList.map zo1)) (hw : ∀ e, fo = some e → e.1 ∈ z5q) (hl : H l = some (.lst [])) : q1c K H (.ref f) (.ref l) fo.isNone := by
 have fine : ∀ d ∈ fo.toList.map zo1, Fine 2 d := fun d hd => by
  obtain ⟨e, he, rfl⟩ := List.mem_map.mp hd
  have he : fo = some e := by simpa using he
  refine za1 (n := 1) fun x hx => ?_
  simp only [List.mem_cons, List.not_mem_nil, or_false] at hx
  rcases hx with rfl | rfl
  ·exact zej _ (zkb _ (hw e he))
  ·exact zbm _
 obtain ⟨fa1, fa2, fa3⟩ := zus fine
 have h0 : PyData.canLay0 (.list (zgf (fo.toList.map zo1))) = true := by simpa [PyData.canLay0] using fa2
 have h1 : SeqAt.shaped (.list (zgf (fo.toList.map zo1))) = true := by
  unfold SeqAt.shaped
  rw [h0, Bool.true_and, decide_eq_true_eq]
  simp only [PyData.depth]
  omega
 refine ⟨f, l, zs, [], _, [], rfl, rfl, SqL.of hz, SqL.of hl, dz, .nil, fa1, rfl, h1, rfl, ?_⟩
 rw [zx1]
 cases fo <;> rfl
abbrev Acc := List Int × List RI × Option Ref
def zgx (c : Cnt) (p : List Int) (acc : Acc) (t : T) (k : Int) : Acc := match acc.2.2 with
 | some _ => acc
 | none => match evT c t (p ++ [k]) with
  | (.had x, r) => (acc.1 ++ [x], acc.2.1 ++ r, none)
  | (.ref u q, r) => (acc.1, acc.2.1 ++ r, some (u, q))
def ztf (c : Cnt) (p : List Int) (a : T) : Acc := zgx c p ([], [], none) a 0
def zp0 (c : Cnt) (p : List Int) (a b : T) : Acc := zgx c p (ztf c p a) b 1
def zq8 (c : Cnt) (p : List Int) (a b : T) : Nat → Acc
 | 0 => ([], [], none)
 | 1 => ztf c p a
 | _ => zp0 c p a b
theorem ztb {c : Cnt} {w : Wd} {a b : T} {p : List Int} {e : Ref} (h : (zp0 c p a b).2.2 = some e) : evT c (.op w a b) p = (.ref e.1 e.2, (zp0 c p a b).2.1) := by
 unfold zp0 ztf zgx at *
 rcases e1 : evT c a (p ++ [0]) with ⟨r1, w1⟩
 rw [e1] at h
 cases r1 with
 | ref u q =>
  simp at h
  subst h
  rw [zkv e1]
  simp
 | had x =>
  simp only at h ⊢
  rcases e2 : evT c b (p ++ [1]) with ⟨r2, w2⟩
  rw [e2] at h
  cases r2 with
  | had y => simp at h
  | ref u q =>
   simp at h
   subst h
   rw [zfi e1 e2]
   simp
theorem zxh {c : Cnt} {a b : T} {p : List Int} (h : (zp0 c p a b).2.2 = none) : ∃ x y r1 r2, evT c a (p ++ [0]) = (.had x, r1) ∧ evT c b (p ++ [1]) = (.had y, r2) ∧ zp0 c p a b = ([x, y], r1 ++ r2, none) := by
 unfold zp0 ztf zgx at *
 rcases e1 : evT c a (p ++ [0]) with ⟨r1, w1⟩
 rw [e1] at h
 cases r1 with
 | ref u q => simp at h
 | had x =>
  simp only at h ⊢
  rcases e2 : evT c b (p ++ [1]) with ⟨r2, w2⟩
  rw [e2] at h
  cases r2 with
  | had y => exact ⟨x, y, w1, w2, rfl, rfl, by simp⟩
  | ref u q => simp at h
theorem ztd {c : Cnt} {a : T} {p : List Int} {e : Ref} (h : (ztf c p a).2.2 = some e) : e.1 ∈ z5q := by
 unfold ztf zgx at h
 rcases e1 : evT c a (p ++ [0]) with ⟨r1, w1⟩
 rw [e1] at h
 cases r1 with
 | ref u q =>
  simp at h
  subst h
  exact z6c a _ e1
 | had x => simp at h
theorem ztc {c : Cnt} {a b : T} {p : List Int} {e : Ref} (h : (zp0 c p a b).2.2 = some e) : e.1 ∈ z5q := z6c (.op .add a b) p (ztb (w := .add) h)
theorem zte (c : Cnt) (p : List Int) (a : T) : (ztf c p a).2.1 = (evT c a (p ++ [0])).2 := by
 unfold ztf zgx
 rcases e1 : evT c a (p ++ [0]) with ⟨r1, w1⟩
 cases r1 <;> simp
def zny : Sp := fun vs H Q _ => ∃ (w : Wd) (a b : Int), vs = [.str w.str, .int a, .int b] ∧ (w = .quo → b ≠ 0) ∧ b.natAbs < 1073741824 ∧ ∀ H', Same H H' → Q (.int (w.worth a b)) H'
def ztu (n : Nat) : Sp := fun vs H Q _ => ∃ (v : V) (t : T) (pv : V) (p : List Int) (st d s f : Addr) (c : Cnt) (g : List Str), vs = [v, pv, .ref st] ∧ H st = some (.tup [.ref d, .ref s, .ref f]) ∧ Dt H v t.enc ∧ Dt H pv (z3i p) ∧ t.ok g n ∧ n ≤ 5 ∧ p.length + n ≤ 100 ∧ H d = some (.dK (kvC c)) ∧ Has c g ∧ s ≠ f ∧ HasL (some s) H ((evT c t p).2.length + 1) ∧ H f = some (.lst []) ∧
 ∀ (i : Int) (H' : Hp), G3 s f H H' (evT c t p).2 (evT c t p).1.out → (∀ v, (evT c t p).1 = .had v → i = v) → Q (.int i) H'
def LwJ (H : Hp) (va : Addr) (pv : V) (st d s f : Addr) (x6 : Option V) (c : Cnt) (p : List Int) (ta tb : T) (pl : Addr) (i : Nat) (σ : St) (Hc : Hp) : Prop := ∃ (ps : List V) (x8 : Option V), σ = [some (.ref va), some pv, some (.ref st), some (.ref d), some (.ref s), some (.ref f), x6, some (.ref pl), x8] ∧ Hc pl = some (.lst ps) ∧ G3 s f H Hc (zq8 c p ta tb i).2.1 (zq8 c p ta tb i).2.2 ∧ ((zq8 c p ta tb i).2.2 = none → ps = (zq8 c p ta tb i).1.map V.int) ∧ ps.length ≤ i
theorem G3.other {s f pl : Addr} {H H1 : Hp} {rs : List RI} {fo : Option Ref} {xs ys : List V} (a : G3 s f H H1 rs fo) (hn : H pl = none) (hx : H1 pl = some (.lst xs)) : G3 s f H (upd H1 pl (.lst ys)) rs fo := by
 have k : Kp H1 (upd H1 pl (.lst ys)) := Kp.set hx
 obtain ⟨a1, ⟨xs0, ys0, e1, e2, d1⟩, e3, zs, e4, d4⟩ := a
 exact ⟨fun x o n m e => by rw [z0e (z0h e hn)]; exact a1 x o n m e, ⟨xs0, ys0, e1, by rw [z0e (z0h e1 hn)]; exact e2, d1.kp k⟩, e3, zs, by rw [z0e (z0h e3 hn)]; exact e4, d4.kp k⟩
theorem q1a (c : Cnt) (p : List Int) (a b : T) {i : Nat} (h : i < 2) : zq8 c p a b (i + 1) = zgx c p (zq8 c p a b i) (if i = 0 then a else b) i := by
 rcases (show i = 0 ∨ i = 1 by omega) with rfl | rfl <;> rfl
theorem zoz {c : Cnt} {a b : T} {p : List Int} {i : Nat} (h : i ≤ 2) {e : Ref} (he : (zq8 c p a b i).2.2 = some e) : e.1 ∈ z5q := by
 rcases (show i = 0 ∨ i = 1 ∨ i = 2 by omega) with rfl | rfl | rfl
 ·cases he
 ·exact ztd he
 ·exact ztc he
theorem zxi {c : Cnt} {w : Wd} {a b : T} {p : List Int} {i : Nat} (h : i < 2) (hn : (zq8 c p a b i).2.2 = none) : (zq8 c p a b i).2.1.length + (evT c (if i = 0 then a else b) (p ++ [(i : Int)])).2.length ≤ (evT c (.op w a b) p).2.length := by
 rcases (show i = 0 ∨ i = 1 by omega) with rfl | rfl
 ·have := zrb c w a b p
  simpa [zq8] using this
 ·have hn : (ztf c p a).2.2 = none := hn
  show (ztf c p a).2.1.length + _ ≤ _
  rw [zte]
  unfold ztf zgx at hn
  rcases e1 : evT c a (p ++ [0]) with ⟨r1, w1⟩
  rw [e1] at hn
  cases r1 with
  | ref u q => simp at hn
  | had x => exact zra e1
end
section
variable {P : Program} {w : World} {K : PySem.W.Frag} {mg : Str → Option Value} {base : Heap} {f : Addr} {fd : FuncData}
theorem q0s {ms : List Int} {a b : Int} (hp : ms.Perm [a, b]) (hw : ms.Pairwise (· ≤ ·)) : ms = [Wd.min.worth a b, Wd.max.worth a b] := by
 have h2 : [Wd.min.worth a b, Wd.max.worth a b].Perm [a, b] := by
  show [if b < a then b else a, if b > a then b else a].Perm [a, b]
  by_cases h : b < a
  ·rw [if_pos h, if_neg (by omega)]; exact List.Perm.swap _ _ _
  ·rw [if_neg h]
   by_cases h' : b > a
   ·rw [if_pos h']
   ·have : a = b := by omega
    rw [if_neg h', this]
 have w2 : [Wd.min.worth a b, Wd.max.worth a b].Pairwise (· ≤ ·) := by
  simp only [List.pairwise_cons, List.mem_singleton, List.not_mem_nil, forall_eq, Wd.worth]
  refine ⟨?_, by simp⟩
  split <;> split <;> omega
 exact List.Perm.eq_of_pairwise (le := fun x y : Int => x ≤ y) (fun x y _ _ u v => by omega) hw w2 (hp.trans h2.symm)
theorem in2 {H : Hp} {x y z : Str} {p : Addr} (h : H p = some (.tup [.str y, .str z])) : q1p K (.str x) (.ref p) H (decide (x = y) || decide (x = z)) := by
 refine .inl ⟨p, [.str y, .str z], rfl, .inr (SqT.of h), rfl, rfl, ?_⟩
 have := zgn x [y, z]
 rw [List.map_cons, List.map_cons, List.map_nil] at this
 rw [this]
 simp [List.contains_cons]
theorem zh9 (F : Fun K "_law_reckoned" "_law_reckoned" z23 f fd) (b_sorted : mg "sorted" = none) : FnOk P w K mg base CX0 1 f fd ["_law_word", "_law_one", "_law_other"] zny := by
 refine F.ok zh3 (fun vs H Q E h => ?_) (fun cdv A outer s H vs Q E hr h => ?_)
 ·obtain ⟨w, a, b, rfl, _⟩ := h
  rfl
 obtain ⟨w, a, b, rfl, hq, hb, q⟩ := h
 have q0 := q H (Same.refl H)
 refine ⟨_, (z06 (z2m (z0c (gEq hr.units) (z00 (i := 0) rfl z16 z4x z50) z0l (z0m _)) (z08 (z0q (z17 z2e (z00 (i := 1) rfl z19 z30 z31) (z00 (i := 2) rfl z0y z4d z4e)))) z0s)
 (z06 (z2m (z0c (gEq hr.units) (z00 (i := 0) rfl z16 z4x z50) z0l (z0m _)) (z08 (z0q (z17 ze2 (z00 (i := 1) rfl z19 z30 z31) (z00 (i := 2) rfl z0y z4d z4e)))) z0s)
 (z06 (z2m (z0c (gEq hr.units) (z00 (i := 0) rfl z16 z4x z50) z0l (z0m _)) (z08 (z0q (z17 zai (z00 (i := 1) rfl z19 z30 z31) (z00 (i := 2) rfl z0y z4d z4e)))) z0s)
 (z06 (z2m (z0c (gEq hr.units) (z00 (i := 0) rfl z16 z4x z50) z0l (z0m _)) (z08 (z0q (z17 zoc (z00 (i := 1) rfl z19 z30 z31) (z00 (i := 2) rfl z0y z4d z4e)))) z0s)
 (z06 (z2m (z0c (gIn hr.units) (z00 (i := 0) rfl z16 z4x z50) (z14 (z07 z0l (z07 z0l z03))) (by with_unfolding_all rfl)) (z08 (z0q (z7z (zu3 (z0c (gEq hr.units) (z00 (i := 0) rfl z16 z4x z50) z0l (z0m _)) (z0c zkz (z00 (i := 1) rfl z19 z30 z31) (z00 (i := 2) rfl z0y z4d z4e) (z0m _)) (z0c zbd (z00 (i := 1) rfl z19 z30 z31) (z00 (i := 2) rfl z0y z4d z4e) (z0m _))) z02 z02))) z0s)
 (z08 (z0q (z0w ix_list (z75 zls zb4 b_sorted zez (z07 (z3h (z07 (z00 (i := 1) rfl z19 z30 z31) (z07 (z00 (i := 2) rfl z0y z4d z4e) z03))) z03) ze5 zem) (z7z (z0c (gEq hr.units) (z00 (i := 0) rfl z16 z4x z50) z0l (z0m _)) z02 z02) (fun _ _ => rfl))))))))), ?_⟩
 walk_at "rd7"
 have hm : CMul a b := .inr ⟨by omega, by omega⟩
 refine ⟨_, eqW w .add, ?_⟩
 split
 ·rename_i e; cases of_decide_eq_true e; exact q0
 rename_i n1
 refine ⟨_, eqW w .sub, ?_⟩
 split
 ·rename_i e; cases of_decide_eq_true e; exact q0
 rename_i n2
 refine ⟨_, eqW w .mul, ?_⟩
 split
 ·rename_i e; cases of_decide_eq_true e; exact ⟨hm, q0⟩
 rename_i n3
 refine ⟨_, eqW w .quo, ?_⟩
 split
 ·rename_i e; cases of_decide_eq_true e; exact ⟨⟨hq rfl, hb⟩, q0⟩
 rename_i n4
 refine ⟨by decide, fun p1 h1 => ⟨_, in2 z01, ?_⟩⟩
 have s1 := z04 h1 (HO.tup [V.str "less", V.str "same"])
 have q1 := q _ s1
 generalize upd H p1 (HO.tup [V.str "less", V.str "same"]) = H1 at s1 q1 ⊢
 split
 ·rename_i e
  have hw : w = .less ∨ w = .same := by cases w <;> first | exact .inl rfl | exact .inr rfl | exact absurd e (by decide +kernel)
  refine ⟨_, eqW w .less, ?_⟩
  rcases hw with rfl | rfl
  ·rw [if_pos (by decide)]
   have q1 : Q (.int (if a < b then 1 else 0)) H1 := q1
   split
   ·rename_i c; rw [if_pos c] at q1; exact q1
   ·rename_i c; rw [if_neg c] at q1; exact q1
  ·rw [if_neg (by decide)]
   have q1 : Q (.int (if a = b then 1 else 0)) H1 := q1
   split
   ·rename_i c; rw [if_pos c] at q1; exact q1
   ·rename_i c; rw [if_neg c] at q1; exact q1
 ·rename_i e
  have hw : w = .min ∨ w = .max := by
   cases w <;> first | exact .inl rfl | exact .inr rfl | exact absurd rfl (by assumption) | exact absurd (by decide +kernel) e
  refine ⟨by decide, fun p2 h2 => ⟨[a, b], SqL.of z01, by simp, fun l ms hl hp hpw => ?_⟩⟩
  have s2 := z04 h2 (HO.lst [V.int a, V.int b])
  have s3 := z04 hl (HO.lst (ms.map V.int))
  have q3 := q _ (s1.trans (s2.trans s3))
  have em := q0s hp hpw
  subst em
  refine ⟨_, eqW w .min, ?_⟩
  rcases hw with rfl | rfl
  ·rw [if_pos (by decide)]
   exact ⟨_, SqL.of z01, _, z0k, q3⟩
  ·rw [if_neg (by decide)]
   exact ⟨_, SqL.of z01, _, z0x (j := 1) rfl, q3⟩
end
section
variable {P : Program} {w : World} {K : PySem.W.Frag} {mg : Str → Option Value} {base : Heap} {f : Addr} {fd : FuncData}
theorem zwh {k : Nat} {n1 n2 n3 : Str} : FnOk P w K mg base CX0 k f fd [n1, n2, n3] (ztu 0) := by
 have no : ∀ vs H Q E, ¬ ztu 0 vs H Q E := fun vs H Q E h => by
  obtain ⟨v, t, pv, p, st, d, s, f, c, g, _, _, _, _, h, _⟩ := h
  exact h.elim
 exact ⟨fun vs H Q E h => absurd h (no vs H Q E), fun A outer s H args us vs Q E _ _ _ _ h => absurd h (no vs H Q E)⟩
theorem zl0 {n : Nat} (F : Fun K "_law_worth" "_law_worth" z0p f fd) (b_range : mg "range" = none) (c_law_reckoned : Callee P w K mg base "_law_reckoned" ["_law_word", "_law_one", "_law_other"] 1 zny) (c_law_worth : Callee P w K mg base "_law_worth" ["_law_expr", "_law_path", "_law_state"] (n + 2) (ztu n)) : FnOk P w K mg base CX0 (n + 3) f fd ["_law_expr", "_law_path", "_law_state"] (ztu (n + 1)) := by
 refine F.ok sc_law_worth (fun vs H Q E h => ?_) (fun cdv A outer s H vs Q E hr h => ?_)
 ·obtain ⟨v, t, pv, p, st, d, s, f, c, g, rfl, _⟩ := h
  rfl
 obtain ⟨v, t, pv, p, st, d, ss, ff, c, g, rfl, hst, hv, hp, hok, hn, hpl, hd, hh, hsf, hL, hf, q⟩ := h
 obtain ⟨va, y, tx, rfl, hva⟩ := znp hv
 obtain ⟨xs0, hs0, hz0⟩ := hL ss rfl
 refine ⟨_, (z06 (zo6 (z00 (i := 2) rfl z5g z1k z1m) (zcv (n := 3) rfl (z2d (z1w (i := 3) sc_law_worth.nd rfl z9q) (z2d (z1w (i := 4) sc_law_worth.nd rfl z9o) (z2d (z1w (i := 5) sc_law_worth.nd rfl z8i) z8g)))))
 (z06 (z2m (z0c (gIn hr.units) (z0w ix_tup (z00 (i := 0) rfl z1e z4z z52) z02 (fun _ _ => rfl)) (z14 (z07 z0l (z07 z0l z03))) (by with_unfolding_all rfl)) (z08 (z1d (i := 6) sc_law_worth.nd rfl z4i (z7z (z0c (gEq hr.units) (z0w ix_tup (z00 (i := 0) rfl z1e z4z z52) z02 (fun _ _ => rfl)) z0l (z0m _)) (z0w ix_tup (z00 (i := 0) rfl z1e z4z z52) z02 (fun _ _ => rfl)) (zmk hr.units1 (z00 (i := 3) rfl z9i zfz zg1) (z0w ix_tup (z00 (i := 0) rfl z1e z4z z52) z02 (fun _ _ => rfl)) (fun _ _ => rfl))) (z05 rfl))) (z06 (z1d (i := 7) sc_law_worth.nd rfl z9p (z3h z03) (z05 rfl))
 (z06 (zcu PassesOwn.never rfl (zh7 zeb b_range (z07 z02 z03)) (z1w (i := 8) sc_law_worth.nd rfl zce)
 (z08 (z2m (z0c (zzo hr.units) (z00 (i := 5) rfl z2r z2a z2b) (z3h z03) (z0m _)) (z08 (z4v (ze1 PySem.F.plainAttrs_list PySem.F.slot_list_append PySem.F.type_list_append z4w (z00 (i := 7) rfl z36 z84 z85) (z07 (z1y c_law_worth hr (by omega) (z07 (z0w ix_tup (z00 (i := 0) rfl z1e z4z z52) (z17 z2e (z00 (i := 8) rfl z6w z4k z4l) z02) (fun _ _ => rfl)) (z07 (z17 z2s (z00 (i := 1) rfl z35 z6k z6n) (z14 (z07 (z00 (i := 8) rfl z6w z4k z4l) z03))) (z07 (z00 (i := 2) rfl z5g z1k z1m) z03))) z9w za4) z03)) (z05 rfl))) z0s)))
 (z06 (z2m (z0c (q0j hr.units) (z00 (i := 5) rfl z2r z2a z2b) (z3h z03) (z0m _)) (z08 (z0q z02)) z0s)
 (z06 (z2m (PW.pt (zh6 (z0c (gEq hr.units) (z0w ix_tup (z00 (i := 0) rfl z1e z4z z52) z02 (fun _ _ => rfl)) z0l (z0m _)) (zfd (z0c zbd (z0w ix_list (z00 (i := 7) rfl z36 z84 z85) z02 (fun _ _ => rfl)) z02 (z0m _))))) (z06 (z4v (ze1 PySem.F.plainAttrs_list PySem.F.slot_list_append PySem.F.type_list_append z4w (z00 (i := 5) rfl z2r z2a z2b) (z07 (z14 (z07 z0l (z07 (z00 (i := 1) rfl z35 z6k z6n) z03))) z03)) (z05 rfl))
 (z08 (z0q z02))) z0s)
 (z08 (z1d (i := 6) sc_law_worth.nd rfl z4i (z1y c_law_reckoned hr (by omega) (z07 (z0w ix_tup (z00 (i := 0) rfl z1e z4z z52) z02 (fun _ _ => rfl)) (z07 (z0w ix_list (z00 (i := 7) rfl z36 z84 z85) z02 (fun _ _ => rfl)) (z07 (z0w ix_list (z00 (i := 7) rfl z36 z84 z85) z02 (fun _ _ => rfl)) z03))) z7v zge) (z05 rfl))))))))
 (z06 (z4v (ze1 PySem.F.plainAttrs_list PySem.F.slot_list_append PySem.F.type_list_append z4w (z00 (i := 4) rfl z9h zle zlm) (z07 (z14 (z07 (z00 (i := 1) rfl z35 z6k z6n) (z07 (z00 (i := 6) rfl z2z z1j z1l) z03))) z03)) (z05 rfl))
 (z06 (z2m (zks (zu4 zu9 zu9 (zi8 zct z02) (z00 (i := 6) rfl z2z z1j z1l) z02)) (z08 (z4v (ze1 PySem.F.plainAttrs_list PySem.F.slot_list_append PySem.F.type_list_append z4w (z00 (i := 5) rfl z2r z2a z2b) (z07 (z14 (z07 z0l (z07 (z00 (i := 1) rfl z35 z6k z6n) z03))) z03)) (z05 rfl))) z0s)
 (z08 (z0q (z00 (i := 6) rfl z2z z1j z1l))))))), z0f fun N1 e1 => ?_⟩
 walk_at "rd7"
 refine ⟨_, SqT.of hst, rfl, _, _, rfl, _, _, rfl, _, _, rfl, rfl, ?_⟩
 rw [e1]
 refine z0f fun N2 e2 => ?_
 have last : ∀ (i : Int) (x7 x8 : Option V) (Hc : Hp) (rs : List RI), G3 ss ff H Hc rs none → evT c t p = (zi6 i p, rs ++ [(p, i)]) → N2 [some (V.ref va), some pv, some (V.ref st), some (V.ref d), some (V.ref ss), some (V.ref ff), some (.int i), x7, x8] Hc := by
  intro i x7 x8 Hc rs G ev
  have hLc : HasL (some ss) Hc 2 := G.has hL (by rw [ev]; simp only [List.length_append, List.length_cons, List.length_nil]; omega)
  obtain ⟨xs, hs, hz⟩ := hLc ss rfl
  rw [e2]
  refine z0f fun N3 e3 => ?_
  walk_at "rd7"
  refine ⟨.inl ⟨rfl, _, SqL.of hs⟩, by decide, fun p1 h1 => ?_⟩
  have s1 := z04 h1 (HO.tup [pv, V.int i])
  refine ⟨xs, s1 _ _ hs, by omega, ?_⟩
  have dy : Dt (upd Hc p1 (HO.tup [pv, V.int i])) (.ref p1) (zm0 (p, i)) := .tup z01 (.cons ((hp.kp G.kp).kp s1.kp) (.cons (.int _) .nil))
  have G1 := (G.then s1).row hsf (s1 _ _ hs) dy
  generalize upd (upd Hc p1 (HO.tup [pv, V.int i])) ss (HO.lst (xs ++ [V.ref p1])) = Hd at G1 ⊢
  have hfd := G1.no
  rw [e3]
  refine z0f fun N4 e4 => ?_
  have fin : ∀ He, G3 ss ff H He (rs ++ [(p, i)]) (zi6 i p).out → N4 [some (V.ref va), some pv, some (V.ref st), some (V.ref d), some (V.ref ss), some (V.ref ff), some (.int i), x7, x8] He := by
   intro He G2
   rw [e4]
   walk_at "rd7"
   rw [ev] at q
   exact q i He G2 fun v hv => (zgk hv).1.symm
  have over : ¬ (-32768 ≤ i ∧ i ≤ 32767) → (zi6 i p).out = some (("over" : Str), p) := fun z => by
   unfold zi6
   by_cases h1 : i < -32768
   ·rw [if_pos h1]; rfl
   ·rw [if_neg h1, if_pos (by omega)]; rfl
  have flt : ¬ (-32768 ≤ i ∧ i ≤ 32767) → (tyV K "list" (V.ref ff) Hd ∧ 2 ≤ sizeLine ∧ ∀ (p1 : Addr), Hd p1 = none → ∃ x, upd Hd p1 (HO.tup [V.str (Str.ofString "over"), pv]) ff = some (HO.lst x) ∧ x.length < sizeLine ∧
    N4 [some (V.ref va), some pv, some (V.ref st), some (V.ref d), some (V.ref ss), some (V.ref ff), some (V.int i), x7, x8] (upd (upd Hd p1 (HO.tup [V.str (Str.ofString "over"), pv])) ff (HO.lst (x ++ [V.ref p1])))) := by
   intro z
   refine ⟨.inl ⟨rfl, _, SqL.of hfd⟩, by decide, fun p2 h2 => ?_⟩
   have s2 := z04 h2 (HO.tup [V.str "over", pv])
   have dy2 : Dt (upd Hd p2 (HO.tup [V.str "over", pv])) (.ref p2) (zo1 (("over" : Str), p)) := .tup z01 (.cons (.str _) (.cons ((hp.kp G1.kp).kp s2.kp) .nil))
   obtain ⟨hff, G2⟩ := (G1.then s2).fault hsf dy2
   refine ⟨[], hff, by decide, fin _ ?_⟩
   rw [over z]
   exact G2
  walk_at "rd7"
  by_cases h1 : -32768 ≤ i
  ·rw [if_pos h1]
   by_cases h2 : i ≤ 32767
   ·rw [if_neg (by simp [h2])]
    refine fin _ ?_
    have : (zi6 i p).out = none := by
     unfold zi6
     rw [if_neg (by omega), if_neg (by omega)]
     rfl
    rw [this]
    exact G1
   ·rw [if_pos (by simp [h2])]
    exact flt fun z => h2 z.2
  ·rw [if_neg h1]
   exact flt fun z => h1 z.1
 walk_at "rd7"
 refine ⟨_, SqT.of hva, _, z0k, by decide, fun p0 h0 => ⟨_, in2 z01, ?_⟩⟩
 have s0 := z04 h0 (HO.tup [V.str "num", V.str "name"])
 have G0 := G3.same (s := ss) (f := ff) s0 hs0 hf
 generalize upd H p0 (HO.tup [V.str "num", V.str "name"]) = U at s0 G0 ⊢
 split
 ·rename_i hw
  refine ⟨_, SqT.of (s0 _ _ hva), _, z0k, _, zfr, ?_⟩
  split
  ·rename_i hw1
   obtain ⟨i, rfl⟩ := znl (of_decide_eq_true hw1)
   rw [T.enc] at hv
   obtain ⟨a2, x0, x1, ea, ha2, t0, t1⟩ := zqj hv
   cases ea
   cases t1
   rw [ha2] at hva
   cases hva
   exact ⟨_, SqT.of (s0 _ _ ha2), _, z0x (j := 1) rfl, last i _ _ _ [] G0 (by rw [evT]; rfl)⟩
  ·rename_i hw1
   obtain ⟨x, rfl⟩ := zkc (t := t) (by
    rw [Bool.or_eq_true] at hw
    rcases hw with z | z
    ·exact absurd z hw1
    ·exact of_decide_eq_true z)
   rw [T.enc] at hv
   obtain ⟨a2, x0, x1, ea, ha2, t0, t1⟩ := zqj hv
   cases ea
   cases t1
   rw [ha2] at hva
   cases hva
   obtain ⟨w2, hw2, _⟩ := hh x hok
   have hg : DGet U d (.str x) (some (.int w2)) := by
    have := DGet.k (k := Sum.inr x) (s0 _ _ hd)
    rw [znm, hw2] at this
    exact this
   exact ⟨_, SqT.of (s0 _ _ ha2), _, z0x (j := 1) rfl, _, hg, last w2 _ _ _ [] G0 (by rw [evT, hw2]; rfl)⟩
 rename_i hw
 obtain ⟨wd, ta, tb, rfl⟩ := zqd (t := t) (fun z => hw (by rw [z]; rfl)) (fun z => hw (by rw [Bool.or_eq_true]; exact .inr (decide_eq_true z)))
 rw [T.enc] at hv
 obtain ⟨a2, x0, x1, x2, ea, ha2, t0, t1, t2⟩ := zqi hv
 cases ea
 cases t0
 refine ⟨Nat.zero_le _, fun pl hpl0 => ⟨by decide, by decide, ?_⟩⟩
 have spl := z04 hpl0 (HO.lst [])
 have hplH : H pl = none := s0.free hpl0
 have G00 := G0.then spl
 refine zhr (lo := 0) (n := 2) (LwJ H va pv st d ss ff none c p ta tb pl) ?start ?step ?done
 case start => exact ⟨[], _, rfl, z01, G00, fun _ => rfl, Nat.le_refl _⟩
 case step =>
  rintro i σ Hc hi ⟨ps, x8, rfl, hps, G, hpv, hpsl⟩
  walk_at "rd7"
  refine ⟨Nat.zero_le _, fun l1 hl1 => ?_⟩
  have s1 := z04 hl1 (HO.lst [])
  have hl1s : (upd Hc l1 (HO.lst [])) l1 = some (.lst []) := z01
  generalize upd Hc l1 (HO.lst []) = U1 at s1 hl1s ⊢
  have G1 := G.then s1
  have hps1 := s1 _ _ hps
  obtain ⟨_, _, _, zs, hz, dz⟩ := G1
  refine ⟨_, z3t hz dz (fun e he => zoz (by omega) he) hl1s, ?_⟩
  have G1 := G.then s1
  cases hfo : (zq8 c p ta tb i).2.2 with
  | some e =>
   rw [if_neg (by simp)]
   have ea : zq8 c p ta tb (i + 1) = zq8 c p ta tb i := by rw [q1a c p ta tb hi]; unfold zgx; rw [hfo]
   refine ⟨ps, _, rfl, hps1, by rw [ea]; exact G1, fun z => ?_, by omega⟩
   rw [ea, hfo] at z
   cases z
  | none =>
   rw [if_pos (by rfl)]
   rw [hfo] at G1
   have kG := G1.kp
   have hva1 := G1.keep (by intro z w; cases w) ha2
   have hst1 := G1.keep (by intro z w; cases w) hst
   have hd1 := G1.keep (by intro z w; cases w) hd
   have hat : atI [V.str wd.str, x1, x2] (0 + (i : Int) + 1) = some (if i = 0 then x1 else x2) := by
    rcases (show i = 0 ∨ i = 1 by omega) with rfl | rfl <;> rfl
   refine ⟨.inl ⟨rfl, _, SqL.of hps1⟩, _, SqT.of hva1, _, hat, by decide, fun p2 h2 => ?_⟩
   have s2 := z04 h2 (HO.tup [V.int (0 + (i : Int))])
   rw [Int.zero_add] at s2 ⊢
   refine zka ((hp.kp kG).kp s2.kp) zaw (by simp; omega) fun z3 H3 s3 d3 => ?_
   have s23 := s2.trans s3
   have G3' := G1.then s23
   have dk : Dt H3 (if i = 0 then x1 else x2) (if i = 0 then ta else tb).enc := by
    split
    ·exact (t1.kp kG).kp s23.kp
    ·exact (t2.kp kG).kp s23.kp
   have okk : (if i = 0 then ta else tb).ok g n := by
    split
    ·exact hok.1
    ·exact hok.2
   refine ⟨_, _, z3, p ++ [(i : Int)], st, d, ss, ff, c, g, rfl, s23 _ _ hst1, dk, d3, okk, by omega, by rw [List.length_append, List.length_singleton]; omega, s23 _ _ hd1, hh, hsf, G3'.has hL ?_, G3'.no, fun v H4 G4 hv => ?_⟩
   ·have := zxi (w := wd) hi hfo
    omega
   ·have hps4 : H4 pl = some (.lst ps) := G4.1 pl _ (z0h hs0 hplH |>.symm) (z0h hf hplH |>.symm) (s23 _ _ hps1)
    refine ⟨ps, hps4, Nat.lt_of_le_of_lt hpsl (z4h (by omega)), ?_⟩
    have G5 := (G3'.trans G4).other (ys := ps ++ [.int v]) hplH hps4
    refine ⟨_, _, rfl, z01, ?_, ?_, by rw [List.length_append, List.length_singleton]; omega⟩
    ·rw [q1a c p ta tb hi]
     unfold zgx
     rw [hfo]
     rcases hev : evT c (if i = 0 then ta else tb) (p ++ [(i : Int)]) with ⟨r4, w4⟩
     rw [hev] at G5
     cases r4 <;> exact G5
    ·rw [q1a c p ta tb hi]
     unfold zgx
     rw [hfo]
     rcases hev : evT c (if i = 0 then ta else tb) (p ++ [(i : Int)]) with ⟨r4, w4⟩
     rw [hev] at hv
     cases r4 with
     | had x =>
      intro _
      simp only [List.map_append, List.map_cons, List.map_nil]
      rw [hpv hfo, hv x rfl]
     | ref u q0 => intro z; cases z
 case done =>
  rintro σ Hc ⟨ps, x8, rfl, hps, G, hpv, hpsl⟩
  walk_at "rd7"
  refine ⟨Nat.zero_le _, fun l1 hl1 => ?_⟩
  have s1 := z04 hl1 (HO.lst [])
  have hl1s : (upd Hc l1 (HO.lst [])) l1 = some (.lst []) := z01
  generalize upd Hc l1 (HO.lst []) = U1 at s1 hl1s ⊢
  have G1 := G.then s1
  have hps1 := s1 _ _ hps
  obtain ⟨_, _, _, zs, hz, dz⟩ := G1
  refine ⟨_, z3t hz dz (fun e he => zoz (Nat.le_refl 2) he) hl1s, ?_⟩
  have G1 : G3 ss ff H U1 (zp0 c p ta tb).2.1 (zp0 c p ta tb).2.2 := G.then s1
  replace hpv : (zp0 c p ta tb).2.2 = none → ps = (zp0 c p ta tb).1.map V.int := hpv
  show if (zp0 c p ta tb).2.2.isNone = false then _ else _
  cases hfo : (zp0 c p ta tb).2.2 with
  | some e =>
   rw [if_pos (by simp)]
   have ev := ztb (w := wd) hfo
   rw [ev] at q
   refine q 0 U1 ?_ fun v hv => by cases hv
   rw [hfo] at G1
   exact G1
  | none =>
   rw [if_neg (by simp)]
   rw [hfo] at G1
   obtain ⟨x, yy, r1, r2, ea, eb, e2'⟩ := zxh hfo
   have hp2 : ps = [V.int x, V.int yy] := by rw [hpv hfo, e2']; rfl
   subst hp2
   rw [e2'] at G1
   have hva1 := G1.keep (by intro z w; cases w) ha2
   have hy := zn4 tb _ eb
   refine ⟨_, SqT.of hva1, _, z0k, _, eqW wd .quo, ?_⟩
   have reck : ¬ (wd = .quo ∧ yy = 0) → ∃ x_1, SqT K U1 va x_1 ∧ ∃ x_3, atI x_1 0 = some x_3 ∧ ∃ x_4, SqL K U1 pl x_4 ∧ ∃ x_5, atI x_4 0 = some x_5 ∧ ∃ x_6, SqL K U1 pl x_6 ∧ ∃ x_7, atI x_6 1 = some x_7 ∧ zny [x_3, x_5, x_7] U1 (fun x_8 H1 => N2 [some (V.ref va), some pv, some (V.ref st), some (V.ref d), some (V.ref ss), some (V.ref ff), some x_8, some (V.ref pl), x8] H1) E0 := by
    intro hne
    refine ⟨_, SqT.of hva1, _, z0k, _, SqL.of hps1, _, z0k, _, SqL.of hps1, _, z0x (j := 1) rfl, ?_⟩
    exact ⟨wd, x, yy, rfl, fun z w => hne ⟨z, w⟩, by omega, fun H6 s6 => last _ _ _ H6 (r1 ++ r2) (G1.then s6) (ziu ea eb hne)⟩
   by_cases hwq : wd = .quo
   ·rw [if_pos (decide_eq_true hwq)]
    refine ⟨_, SqL.of hps1, _, z0x (j := 1) rfl, _, rfl, ?_⟩
    by_cases hy0 : yy = 0
    ·rw [if_pos hy0]
     subst hy0
     subst hwq
     refine ⟨.inl ⟨rfl, _, SqL.of G1.no⟩, by decide, fun p2 h2 => ?_⟩
     have s2 := z04 h2 (HO.tup [V.str "zero", pv])
     have dy2 : Dt (upd U1 p2 (HO.tup [V.str "zero", pv])) (.ref p2) (zo1 (("zero" : Str), p)) := .tup z01 (.cons (.str _) (.cons ((hp.kp G1.kp).kp s2.kp) .nil))
     obtain ⟨hff, G2⟩ := (G1.then s2).fault hsf dy2
     rw [zfh ea eb] at q
     exact ⟨[], hff, by decide, q 0 _ G2 fun v hv => by cases hv⟩
    ·rw [if_neg hy0]
     exact reck fun z => hy0 z.2
   ·rw [if_neg (by simpa using hwq)]
    exact reck fun z => hwq z.1
theorem zvp (d : Df K mg "_law_worth" z0p ["_law_expr", "_law_path", "_law_state"] f fd) (b_range : mg "range" = none) (c_law_reckoned : Callee P w K mg base "_law_reckoned" ["_law_word", "_law_one", "_law_other"] 1 zny) : ∀ n : Nat, Callee P w K mg base "_law_worth" ["_law_expr", "_law_path", "_law_state"] (n + 2) (ztu n)
 | 0 => d.callee zwh
 | n + 1 => d.callee (zl0 d.F b_range c_law_reckoned (zvp d b_range c_law_reckoned n))
end
section
variable {P : Program} {w : World} {K : PySem.W.Frag} {mg : Str → Option Value} {base : Heap} {f : Addr} {fd : FuncData}
def G4 (d s f : Addr) (H H' : Hp) (rs : List RI) (fo : Option Ref) : Prop := (∀ a o, a ≠ d → a ≠ s → a ≠ f → H a = some o → H' a = some o) ∧ (∃ xs ys, H s = some (.lst xs) ∧ H' s = some (.lst (xs ++ ys)) ∧ DtA H' ys (rs.map zm0)) ∧ H f = some (.lst []) ∧ ∃ zs, H' f = some (.lst zs) ∧ DtA H' zs (fo.toList.map zo1)
theorem G3.g4 {d s f : Addr} {H H' : Hp} {rs : List RI} {fo : Option Ref} (h : G3 s f H H' rs fo) : G4 d s f H H' rs fo := ⟨fun a o _ n m e => h.1 a o n m e, h.2⟩
theorem G4.keep {d s f : Addr} {H H' : Hp} {rs : List RI} {fo : Option Ref} {k : List (Key × V)} (h : G4 d s f H H' rs fo) (hd : H d = some (.dK k)) {a : Addr} {o : HO} (n : ∀ xs, o ≠ .lst xs) (n2 : ∀ k, o ≠ .dK k) (e : H a = some o) : H' a = some o := by
 obtain ⟨h1, ⟨xs, ys, e1, e2, _⟩, e3, _⟩ := h
 exact h1 a o (z77 e hd (n2 k)) (z77 e e1 (n xs)) (z77 e e3 (n [])) e
theorem G4.kp {d s f : Addr} {H H' : Hp} {rs : List RI} {fo : Option Ref} {k : List (Key × V)} (h : G4 d s f H H' rs fo) (hd : H d = some (.dK k)) : Kp H H' := by
 refine ⟨fun b xs e => h.keep hd (by intro z w; cases w) (by intro z w; cases w) e, fun b xs e => ?_⟩
 obtain ⟨h1, ⟨xs', ys, e1, e2, _⟩, e3, zs, e4, _⟩ := h
 by_cases hs : b = s
 ·exact ⟨_, hs ▸ e2⟩
 ·by_cases hf : b = f
  ·exact ⟨_, hf ▸ e4⟩
  ·exact ⟨xs, h1 b _ (z77 e hd (by intro z; cases z)) hs hf e⟩
theorem G4.trans {d s f : Addr} {H H1 H2 : Hp} {r1 r2 : List RI} {fo : Option Ref} {k : List (Key × V)} (a : G4 d s f H H1 r1 none) (b : G4 d s f H1 H2 r2 fo) (hd : H1 d = some (.dK k)) : G4 d s f H H2 (r1 ++ r2) fo := by
 have kb := b.kp hd
 obtain ⟨a1, ⟨xs, ys, e1, e2, d1⟩, e3, zs, e4, d4⟩ := a
 obtain ⟨b1, ⟨xs', ys', g1, g2, d2⟩, g3, ws, g4, d5⟩ := b
 rw [e2] at g1
 cases g1
 exact ⟨fun x o l n m e => b1 x o l n m (a1 x o l n m e), ⟨xs, ys ++ ys', e1, by rw [g2, List.append_assoc], by rw [List.map_append]; exact (d1.kp kb).append d2⟩, e3, ws, g4, d5⟩
theorem G4.then {d s f : Addr} {H H1 H2 : Hp} {rs : List RI} {fo : Option Ref} (a : G4 d s f H H1 rs fo) (h : Same H1 H2) : G4 d s f H H2 rs fo := by
 obtain ⟨a1, ⟨xs, ys, e1, e2, d1⟩, e3, zs, e4, d4⟩ := a
 exact ⟨fun x o l n m e => h _ _ (a1 x o l n m e), ⟨xs, ys, e1, h _ _ e2, d1.kp h.kp⟩, e3, zs, h _ _ e4, d4.kp h.kp⟩
theorem G4.put {d s f : Addr} {H H1 : Hp} {rs : List RI} {fo : Option Ref} {k k' : List (Key × V)} (a : G4 d s f H H1 rs fo) (hd : H1 d = some (.dK k)) : G4 d s f H (upd H1 d (.dK k')) rs fo := by
 have kk : Kp H1 (upd H1 d (.dK k')) := zrv hd
 obtain ⟨a1, ⟨xs, ys, e1, e2, d1⟩, e3, zs, e4, d4⟩ := a
 exact ⟨fun x o l n m e => by rw [z0e l]; exact a1 x o l n m e, ⟨xs, ys, e1, by rw [z0e (z77 e2 hd (by intro z; cases z))]; exact e2, d1.kp kk⟩, e3, zs, by rw [z0e (z77 e4 hd (by intro z; cases z))]; exact e4, d4.kp kk⟩
theorem G4.no {d s f : Addr} {H H1 : Hp} {rs : List RI} (a : G4 d s f H H1 rs none) : H1 f = some (.lst []) := by
 obtain ⟨a1, _, e3, zs, e4, d4⟩ := a
 cases d4
 exact e4
theorem G4.has {d s f : Addr} {H H1 : Hp} {rs : List RI} {fo : Option Ref} {n m : Nat} (a : G4 d s f H H1 rs fo) (h : HasL (some s) H n) (k : rs.length + m ≤ n) : HasL (some s) H1 m := fun l hl => by
 cases hl
 obtain ⟨xs, e, z⟩ := h s rfl
 obtain ⟨a1, ⟨xs0, ys, e1, e2, d1⟩, _⟩ := a
 rw [e] at e1
 cases e1
 have := d1.length
 rw [List.length_map] at this
 exact ⟨_, e2, by rw [List.length_append]; omega⟩
theorem G4.fault {d s f : Addr} {H H1 : Hp} {rs : List RI} {y : V} {e : Ref} (hsf : s ≠ f) (a : G4 d s f H H1 rs none) (dy : Dt H1 y (zo1 e)) : H1 f = some (.lst []) ∧ G4 d s f H (upd H1 f (.lst ([] ++ [y]))) rs (some e) := by
 obtain ⟨a1, ⟨xs0, ys, e1, e2, d1⟩, e3, zs, e4, d4⟩ := a
 cases d4
 have k : Kp H1 (upd H1 f (.lst [y])) := Kp.set e4
 exact ⟨e4, fun x o l n m e => by rw [z0e m]; exact a1 x o l n m e, ⟨xs0, ys, e1, by rw [List.nil_append, z0e hsf]; exact e2, d1.kp k⟩, e3, [y], by rw [List.nil_append, z01], .cons (dy.kp k) .nil⟩
def zm8 (n : Nat) : Sp := fun vs H Q _ => ∃ (v : V) (b : List D) (pv : V) (p : List Int) (st d s f : Addr) (c : Cnt) (g g' : List Str), vs = [v, pv, .ref st] ∧ H st = some (.tup [.ref d, .ref s, .ref f]) ∧ Dt H v (.tup (zao b)) ∧ Dt H pv (z3i p) ∧ okB n b ∧ n ≤ 3 ∧ p.length + 2 * n ≤ 90 ∧ kbB g b = some g' ∧ H d = some (.dK (kvC c)) ∧ KeyOk c ∧ Has c g ∧ s ≠ f ∧ HasL (some s) H ((evB p 0 b c).2.2.length + 1) ∧ H f = some (.lst []) ∧
 ∀ (H' : Hp), G4 d s f H H' (evB p 0 b c).2.2 (evB p 0 b c).1 → H' d = some (.dK (kvC (evB p 0 b c).2.1)) → Q .non H'
def LdI (H : Hp) (ab : Addr) (pv : V) (st d s f : Addr) (g' : List Str) (b : List D) (p : List Int) (out : Out) (i : Nat) (σ : St) (Hc : Hp) : Prop := ∃ (ci : Cnt) (rs : List RI) (fo : Option Ref) (x6 x7 x8 x9 x10 : Option V), σ = [some (.ref ab), some pv, some (.ref st), some (.ref d), some (.ref s), some (.ref f), x6, x7, x8, x9, x10] ∧ G4 d s f H Hc rs fo ∧ Hc d = some (.dK (kvC ci)) ∧ KeyOk ci ∧ (∀ e, fo = some e → out = (some e, ci, rs)) ∧ (fo = none → ∃ gi, Has ci gi ∧ kbB gi (b.drop i) = some g' ∧ out = zar rs (evB p i (b.drop i) ci))
theorem zwo {H Hn : Hp} {ab : Addr} {pv : V} {st d s f : Addr} {g' gi : List Str} {b : List D} {p : List Int} {out : Out} {i n : Nat} {ci c' : Cnt} {rs rows' : List RI} {fo' : Option Ref} {e : D} {x6 x7 x8 x9 x10 : Option V} (hbi : b[i]? = some e) (hkb : kbB gi (b.drop i) = some g') (ho : out = zar rs (evB p i (b.drop i) ci)) (hk : KeyOk ci) (hh : Has ci gi) (hok : zz0 n e)
  (ev : evD (p ++ [(i : Int)]) e ci = (fo', c', rows')) (G : G4 d s f H Hn (rs ++ rows') fo') (hd : Hn d = some (.dK (kvC c'))) : LdI H ab pv st d s f g' b p out (i + 1) [some (.ref ab), some pv, some (.ref st), some (.ref d), some (.ref s), some (.ref f), x6, x7, x8, x9, x10] Hn := by
 rw [zfs hbi] at hkb ho
 obtain ⟨q1, hk1, hk2⟩ := zjr hkb
 have hkey := zn5 e n (p ++ [(i : Int)]) ci hok hk
 have hhas := zn6 e (p ++ [(i : Int)]) ci gi q1 hk1 hh
 rw [ev] at hkey hhas
 refine ⟨c', rs ++ rows', fo', x6, x7, x8, x9, x10, rfl, G, hd, hkey, fun u hu => ?_, fun hn => ?_⟩
 ·subst hu
  rw [ho, zek ev]
  rfl
 ·subst hn
  refine ⟨q1, hhas rfl, hk2, ?_⟩
  rw [ho, zel ev]
  simp [zar]
def zd1 (cond : Cnt → Rs × List RI) (body : Cnt → Out) (p : List Int) (k : Nat) (v : Int) (c : Cnt) : Out := if v = 0 then (none, c, []) else match k with
 | 0 => (some ("long", p), c, [])
 | k + 1 => match body c with
  | (some e, c1, r1) => (some e, c1, r1)
  | (none, c1, r1) => zar r1 (z57 cond body p k c1)
theorem zvg {cond : Cnt → Rs × List RI} {body : Cnt → Out} {p : List Int} {k : Nat} {c : Cnt} {v : Int} {r : List RI} (h : cond c = (.had v, r)) : z57 cond body p k c = zar r (zd1 cond body p k v c) := by
 by_cases hv : v = 0
 ·subst hv
  rw [z7k h]
  simp [zd1, zar]
 ·cases k with
  | zero => rw [zbe h hv]; simp [zd1, zar, hv]
  | succ k =>
   rcases hb : body c with ⟨e, c1, r1⟩
   cases e with
   | some e => rw [z93 h hv hb]; simp [zd1, zar, hv, hb]
   | none => rw [z94 h hv hb]; simp [zd1, zar, hv, hb]
theorem zpt {cond : Cnt → Rs × List RI} {body : Cnt → Out} {p : List Int} {k : Nat} {c : Cnt} : zd1 cond body p k 0 c = (none, c, []) := by simp [zd1]
theorem zpu {cond : Cnt → Rs × List RI} {body : Cnt → Out} {p : List Int} {c : Cnt} {v : Int} (hv : v ≠ 0) : zd1 cond body p 0 v c = ((some (("long" : Str), p), c, []) : Out) := by simp [zd1, hv]
theorem ziv {cond : Cnt → Rs × List RI} {body : Cnt → Out} {p : List Int} {k : Nat} {c c1 : Cnt} {v : Int} {r1 : List RI} {e : Ref} (hv : v ≠ 0) (hb : body c = (some e, c1, r1)) : zd1 cond body p (k + 1) v c = (some e, c1, r1) := by simp [zd1, hv, hb]
theorem ziw {cond : Cnt → Rs × List RI} {body : Cnt → Out} {p : List Int} {k : Nat} {c c1 : Cnt} {v : Int} {r1 : List RI} (hv : v ≠ 0) (hb : body c = (none, c1, r1)) : zd1 cond body p (k + 1) v c = zar r1 (z57 cond body p k c1) := by simp [zd1, hv, hb]
theorem zrq {cond : Cnt → Rs × List RI} {body : Cnt → Out} {p : List Int} {k : Nat} {c : Cnt} {v : Int} (hv : v ≠ 0) : (body c).2.2.length ≤ (zd1 cond body p (k + 1) v c).2.2.length := by
 rcases hb : body c with ⟨e, c1, r1⟩
 cases e with
 | some e => rw [ziv hv hb]; exact Nat.le_refl _
 | none => rw [ziw hv hb]; simp [zar]
abbrev cnd (t : T) (ph : List Int) : Cnt → Rs × List RI := fun c => evT c t (ph ++ [0])
abbrev bod (b1 : List D) (ph : List Int) : Cnt → Out := fun c => evB (ph ++ [1]) 0 b1 c
def WlJ (H : Hp) (ab : Addr) (pv : V) (st d s f : Addr) (x6 x7 x8 : Option V) (rs : List RI) (gi : List Str) (t : T) (b1 : List D) (ph : List Int) (M : Nat) (out : Out) (U : Hp) (m : Nat) (σ : St) (Hw : Hp) : Prop := Kp U Hw ∧ ∃ (j : Nat) (cj : Cnt) (vj : Int) (rj : List RI) (fj : Option Ref), σ = [some (.ref ab), some pv, some (.ref st), some (.ref d), some (.ref s), some (.ref f), x6, x7, x8, some (.int vj), some (.int j)] ∧ G4 d s f H Hw (rs ++ rj) fj ∧ Hw d = some (.dK (kvC cj)) ∧ KeyOk cj ∧ (∀ u, fj = some u → out = (some u, cj, rj)) ∧ (fj = none → Has cj gi ∧ j ≤ M ∧ out = zar rj (zd1 (cnd t ph) (bod b1 ph) ph (M - j) vj cj)) ∧ m = 2 * (M - j) + (if fj.isNone then 1 else 0)
theorem zy0 {c : TT} {tb : TS} {D : Ends} {σ : St} {H : Hp} (h : ∀ B : TS, B = tb → znq c B D σ H) : znq c tb D σ H := h tb rfl
end
section
variable {P : Program} {w : World} {K : PySem.W.Frag} {mg : Str → Option Value} {base : Heap} {f : Addr} {fd : FuncData}
theorem q28 {g : TG} {v : V} {σ : St} {H : Hp} {k : St → Hp → Prop} (h : ∀ N, N = k → g v σ H N) : g v σ H k := h k rfl
theorem zri {n : Nat} (F : Fun K "_law_do" "_law_do" z1i f fd) (b_enumerate : mg "enumerate" = none) (c_law_worth : Callee P w K mg base "_law_worth" ["_law_expr", "_law_path", "_law_state"] 7 (ztu 5)) (c_law_do : Callee P w K mg base "_law_do" ["_law_block_here", "_law_path", "_law_state"] (n + 7) (zm8 n)) : FnOk P w K mg base CX0 (n + 8) f fd ["_law_block_here", "_law_path", "_law_state"] (zm8 (n + 1)) := by
 refine F.ok sc_law_do (fun vs H Q E h => ?_) (fun cdv A outer s H vs Q E hr h => ?_)
 ·obtain ⟨v, b, pv, p, st, d, s, f, c, g, g', rfl, _⟩ := h
  rfl
 obtain ⟨v, b, pv, p, st, d, ss, ff, c, g, g', rfl, hst, hv, hp, hok, hn, hpl, hkb, hd, hky, hh, hsf, hL, hf, q⟩ := h
 obtain ⟨ab, xs, rfl, hab, hda⟩ := hv.tupI
 obtain ⟨xs0, hs0, hz0⟩ := hL ss rfl
 have hxl : xs.length = b.length := by rw [hda.length, z7p]
 have hword : ∀ e, (evB p 0 b c).1 = some e → e.1 ∈ z5q := fun e he => z83 b p 0 c e he
 refine ⟨_, (z06 (zo6 (z00 (i := 2) rfl z2u z1k z1m) (zcv (n := 3) rfl (z2d (z1w (i := 3) sc_law_do.nd rfl zck) (z2d (z1w (i := 4) sc_law_do.nd rfl zch) (z2d (z1w (i := 5) sc_law_do.nd rfl zb1) z8g)))))
 (z06 (zcu PassesOwn.never rfl (zo7 zd5 b_enumerate (z07 (z00 (i := 0) rfl z7t zeq zey) z03)) (zcv (n := 2) rfl (z2d (z1w (i := 6) sc_law_do.nd rfl zb0) (z2d (z1w (i := 7) sc_law_do.nd rfl zcj) z8g)))
 (z06 (z1d (i := 8) sc_law_do.nd rfl zci (z17 z2s (z00 (i := 1) rfl zca z6k z6n) (z14 (z07 (z00 (i := 6) rfl zau zig zii) z03))) (z05 rfl))
 (z06 (z2m (z0c (q0j hr.units) (z00 (i := 5) rfl z21 z2a z2b) (z3h z03) (z0m _)) (z08 (z0q zah)) z0s)
 (z06 (z1d (i := 9) sc_law_do.nd rfl z54 (z1y c_law_worth hr (by omega) (z07 (z7z (z0c (gEq hr.units) (z0w ix_tup (z00 (i := 7) rfl z0n z2g z2h) z02 (fun _ _ => rfl)) z0l (z0m _)) (z0w ix_tup (z00 (i := 7) rfl z0n z2g z2h) z02 (fun _ _ => rfl)) (z0w ix_tup (z00 (i := 7) rfl z0n z2g z2h) z02 (fun _ _ => rfl))) (z07 (z17 z2s (z00 (i := 8) rfl z32 z6l z6o) (z14 (z07 z02 z03))) (z07 (z00 (i := 2) rfl z2u z1k z1m) z03))) z72 za4) (z05 rfl))
 (z06 (z2m (PW.pt (zh6 (z0c (zzo hr.units) (z00 (i := 5) rfl z21 z2a z2b) (z3h z03) (z0m _)) (zfd (z0c (gEq hr.units) (z0w ix_tup (z00 (i := 7) rfl z0n z2g z2h) z02 (fun _ _ => rfl)) z0l (z0m _))))) (z08 (zjf hr.units1 (z00 (i := 3) rfl zcb zfz zg1) (z0w ix_tup (z00 (i := 7) rfl z0n z2g z2h) z02 (fun _ _ => rfl)) (z00 (i := 9) rfl z2i z1j z1l) (z05 rfl))) (z08 (z2m (PW.pt (zh6 (z0c (zzo hr.units) (z00 (i := 5) rfl z21 z2a z2b) (z3h z03) (z0m _)) (zfd (z0c (gEq hr.units) (z0w ix_tup (z00 (i := 7) rfl z0n z2g z2h) z02 (fun _ _ => rfl)) z0l (z0m _))))) (z08 (z4v (z1y c_law_do hr (by omega) (z07 (z7z (z0c zob (z00 (i := 9) rfl z2i z1j z1l) z02 (z0m _)) (z0w ix_tup (z00 (i := 7) rfl z0n z2g z2h) z02 (fun _ _ => rfl)) (z0w ix_tup (z00 (i := 7) rfl z0n z2g z2h) z02 (fun _ _ => rfl))) (z07 (z17 z2s (z00 (i := 8) rfl z32 z6l z6o) (z14 (z07 (z7z (z0c zob (z00 (i := 9) rfl z2i z1j z1l) z02 (z0m _)) z02 z02) z03))) (z07 (z00 (i := 2) rfl z2u z1k z1m) z03))) z9d zft) (z05 rfl))) z0s)))
 (z06 (z1d (i := 10) sc_law_do.nd rfl z71 z02 (z05 rfl))
 (z08 (zo4 PassesOwn.never (PW.pt (zh6 (z0c (gEq hr.units) (z0w ix_tup (z00 (i := 7) rfl z0n z2g z2h) z02 (fun _ _ => rfl)) z0l (z0m _)) (zh6 (z0c (zzo hr.units) (z00 (i := 5) rfl z21 z2a z2b) (z3h z03) (z0m _)) (zfd (z0c zob (z00 (i := 9) rfl z2i z1j z1l) z02 (z0m _))))))
 (z08 (z2m (z0c zbd (z00 (i := 10) rfl z6x zbr zbw) (z0w ix_tup (z00 (i := 7) rfl z0n z2g z2h) z02 (fun _ _ => rfl)) (z0m _)) (z08 (z4v (ze1 PySem.F.plainAttrs_list PySem.F.slot_list_append PySem.F.type_list_append z4w (z00 (i := 5) rfl z21 z2a z2b) (z07 (z14 (z07 z0l (z07 (z00 (i := 8) rfl z32 z6l z6o) z03))) z03)) (z05 rfl))) (z06 (z4v (z1y c_law_do hr (by omega) (z07 (z0w ix_tup (z00 (i := 7) rfl z0n z2g z2h) z02 (fun _ _ => rfl)) (z07 (z17 z2s (z00 (i := 8) rfl z32 z6l z6o) (z14 (z07 z02 z03))) (z07 (z00 (i := 2) rfl z2u z1k z1m) z03))) z9d zft) (z05 rfl))
 (z06 (z1d (i := 10) sc_law_do.nd rfl z71 (z17 z2e (z00 (i := 10) rfl z6x zbr zbw) z02) (z05 rfl))
 (z08 (z2m (z0c (zzo hr.units) (z00 (i := 5) rfl z21 z2a z2b) (z3h z03) (z0m _)) (z08 (z1d (i := 9) sc_law_do.nd rfl z54 (z1y c_law_worth hr (by omega) (z07 (z0w ix_tup (z00 (i := 7) rfl z0n z2g z2h) z02 (fun _ _ => rfl)) (z07 (z17 z2s (z00 (i := 8) rfl z32 z6l z6o) (z14 (z07 z02 z03))) (z07 (z00 (i := 2) rfl z2u z1k z1m) z03))) z72 za4) (z05 rfl))) z0s))))))))))))))
 (z08 (z0q zah)))), z0f fun N1 e1 => ?_⟩
 walk_at "rd7"
 refine ⟨_, SqT.of hst, rfl, _, _, rfl, _, _, rfl, _, _, rfl, rfl, ?_⟩
 rw [e1]
 refine z0f fun N2 e2 => ?_
 walk_at "rd7"
 have hout : evB p 0 b c = zar [] (evB p 0 b c) := rfl
 have hend : ∀ Hc ci rs fo, evB p 0 b c = (fo, ci, rs) → G4 d ss ff H Hc rs fo → Hc d = some (.dK (kvC ci)) → Q .non Hc := fun Hc ci rs fo e G hdc => q Hc (by rw [e]; exact G) (by rw [e]; exact hdc)
 refine ⟨⟨_, SqT.of hab⟩, ?_⟩
 generalize hO : evB p 0 b c = out at hL hword hout hend
 refine zl9 (xs := xs) (LdI H ab pv st d ss ff g' b p out) ?start ?lst ?step ?done
 case start => exact ⟨c, [], none, _, _, _, _, _, rfl, (G3.same (Same.refl H) hs0 hf).g4, hd, hky, (fun e he => by cases he), fun _ => ⟨g, hh, hkb, by rw [List.drop_zero]; exact hO.symm.trans rfl⟩⟩
 case lst =>
  rintro i σ Hc _ ⟨ci, rs, fo, _, _, _, _, _, rfl, G, _⟩
  exact SqT.of (G.keep hd (by intro z w; cases w) (by intro z w; cases w) hab)
 case done =>
  rintro σ Hc ⟨ci, rs, fo, _, _, _, _, _, rfl, G, hdc, hkc, hs, hn⟩
  show N2 _ _
  rw [e2]
  walk_at "rd7"
  refine hend Hc ci rs fo ?_ G hdc
  cases fo with
  | some e => exact hs e rfl
  | none =>
   obtain ⟨gi, _, _, ho⟩ := hn rfl
   rw [hxl, List.drop_length, evB] at ho
   rw [ho]
   simp [zar]
 case step =>
  rintro i x σ Hc Tu hx ⟨ci, rs, fo, _, _, _, _, _, rfl, G, hdc, hkc, hs, hn⟩ hT
  obtain ⟨e, hbi, dx⟩ := zsl hda hx
  have hdo := hok.2 e (List.mem_of_getElem? hbi)
  have hdoW : zz0 n e := zwg hdo
  have s2 := z04 hT (HO.tup [V.int i, x])
  refine q28 fun N3 e3 => ?_
  walk_at "rd7"
  refine ⟨_, SqT.of z01, rfl, _, _, rfl, _, _, rfl, rfl, ?_⟩
  rw [e3]
  have G2 := G.then s2
  have hdc2 := s2 _ _ hdc
  generalize upd Hc Tu (HO.tup [V.int i, x]) = U at s2 G2 hdc2 ⊢
  clear s2 G hdc hT
  refine z0f fun N4 e4 => ?_
  walk_at "rd7"
  refine ⟨by decide, fun p1 h1 => ?_⟩
  have s3 := z04 h1 (HO.tup [V.int i])
  have kpc := G2.kp hd
  refine zka ((hp.kp kpc).kp s3.kp) zaw (by simp; omega) fun z H1 s4 dz => ?_
  have s34 := s3.trans s4
  have G3 := G2.then s34
  have hdc3 := s34 _ _ hdc2
  clear s34 s3 s4 kpc G2 hdc2
  rw [e4]
  refine z0f fun N5 e5 => ?_
  walk_at "rd7"
  refine ⟨Nat.zero_le _, fun l1 hl1 => ?_⟩
  have s5 := z04 hl1 (HO.lst [])
  have hl1s : (upd H1 l1 (HO.lst [])) l1 = some (.lst []) := z01
  have G5 := G3.then s5
  have hdc5 := s5 _ _ hdc3
  have dz5 := dz.kp s5.kp
  generalize upd H1 l1 (HO.lst []) = U1 at s5 hl1s G5 hdc5 dz5 ⊢
  clear s5 G3 hdc3 dz
  obtain ⟨_, _, _, zs, hz, dzs⟩ := id G5
  refine ⟨_, z3t hz dzs (fun e he => hword e (by rw [hs e he])) hl1s, ?_⟩
  cases fo with
  | some e0 =>
   rw [if_pos (by rfl)]
   exact hend _ _ _ _ (hs e0 rfl) G5 hdc5
  | none =>
   rw [if_neg (by decide)]
   obtain ⟨gi, hhi, hkbi, hoi⟩ := hn rfl
   have hnx := fun fo' c' rows' Hn x6 x7 x8 x9 x10 => zwo (H := H) (Hn := Hn) (ab := ab) (pv := pv) (st := st) (d := d) (s := ss) (f := ff) (out := out) (fo' := fo') (c' := c') (rows' := rows') (x6 := x6) (x7 := x7) (x8 := x8) (x9 := x9) (x10 := x10) hbi hkbi hoi hkc hhi hdoW
   have kp5 := G5.kp hd
   have dx5 := dx.kp kp5
   have hst5 := G5.keep hd (by intro z w; cases w) (by intro z w; cases w) hst
   have hLc : HasL (some ss) U1 ((evD (p ++ [(i : Int)]) e ci).2.2.length + 1) := G5.has hL (by
    rw [zfs hbi] at hoi
    have := zn7 p i e (b.drop (i + 1)) ci
    rw [hoi, zar, List.length_append]
    omega)
   have hlt : rs.length + (evD (p ++ [(i : Int)]) e ci).2.2.length ≤ out.2.2.length := by
    rw [zfs hbi] at hoi
    have := zn7 p i e (b.drop (i + 1)) ci
    rw [hoi, zar, List.length_append]
    omega
   obtain ⟨q1, hq1, _⟩ := zjr (by rw [← zfs hbi]; exact hkbi)
   have hpl2 : (p ++ [(i : Int)]).length = p.length + 1 := by simp
   clear hn hs hkbi hoi
   rw [e5]
   refine z0f fun N6 e6 => ?_
   walk_at "rd7"
   have wc : ∀ (t : T) (xt : V) (y10 : Option V), Dt U1 xt t.enc → t.ok gi 5 → (evT ci t (p ++ [(i : Int)] ++ [0])).2.length ≤ (evD (p ++ [(i : Int)]) e ci).2.2.length → (∀ (v : Int) (H' : Hp), G4 d ss ff H H' (rs ++ (evT ci t (p ++ [(i : Int)] ++ [0])).2) (evT ci t (p ++ [(i : Int)] ++ [0])).1.out → H' d = some (.dK (kvC ci)) → (∀ v0, (evT ci t (p ++ [(i : Int)] ++ [0])).1 = .had v0 → v = v0) → Kp U1 H' → N6 [some (V.ref ab), some pv, some (V.ref st), some (V.ref d), some (V.ref ss), some (V.ref ff), some (V.int i), some x, some z, some (.int v), y10] H') →
     (1 ≤ sizeLine ∧ ∀ (p1 : Addr), U1 p1 = none → zfx K z (V.ref p1) (upd U1 p1 (HO.tup [V.int 0])) fun x_5 H1 => ztu 5 [xt, x_5, V.ref st] H1 (fun x_6 H1 => N6 [some (V.ref ab), some pv, some (V.ref st), some (V.ref d), some (V.ref ss), some (V.ref ff), some (V.int i), some x, some z, some x_6, y10] H1) E0) := by
    intro t xt y10 dt okt hlen kk
    refine ⟨by decide, fun p1 h1 => ?_⟩
    have v1 := z04 h1 (HO.tup [V.int 0])
    refine zka (dz5.kp v1.kp) zaw (by simp; omega) fun z2 H2 v2 dz2 => ?_
    have v12 := v1.trans v2
    have G6 := G5.then v12
    refine ⟨xt, t, z2, _, st, d, ss, ff, ci, gi, rfl, v12 _ _ hst5, dt.kp v12.kp, dz2, okt, by decide, by simp; omega, v12 _ _ hdc5, hhi, hsf, (hLc.same v12).mono (by omega), G6.no, fun v H3 g3 hv => ?_⟩
    have hd3 := g3.keep (by intro z w; cases w) (v12 _ _ hdc5)
    exact kk v H3 (G6.trans g3.g4 (v12 _ _ hdc5)) hd3 hv (v12.kp.trans g3.kp)
   obtain ⟨ad, its, rfl, had, dit⟩ := zsj dx5
   have hword5 : ∀ e0, (none : Option Ref) = some e0 → e0.1 ∈ z5q := fun e0 h => by cases h
   have adk : ∀ Hn rs' fo', G4 d ss ff U1 Hn rs' fo' → Hn ad = some (.tup (V.str e.kind :: its)) := fun Hn rs' fo' g => g.keep hdc5 (by intro z w; cases w) (by intro z w; cases w) had
   have faultcase : ∀ (v : Int) (H6 : Hp) (y10 : Option V) (wr : List RI) (u : Ref), G4 d ss ff H H6 (rs ++ wr) (some u) → H6 d = some (.dK (kvC ci)) → H6 ad = some (.tup (V.str e.kind :: its)) → u.1 ∈ z5q → evD (p ++ [(i : Int)]) e ci = (some u, ci, wr) →
     N6 [some (V.ref ab), some pv, some (V.ref st), some (V.ref d), some (V.ref ss), some (V.ref ff), some (V.int i), some (V.ref ad), some z, some (.int v), y10] H6 := by
    intro v H6 y10 wr u G6 hd6 had6 huw ev
    rw [e6]
    refine z0f fun N7 e7 => zba fun Y1 Z1 eY eZ => ?_
    walk_at "rd7"
    refine ⟨Nat.zero_le _, fun l6 hl6 => ?_⟩
    have v6 := z04 hl6 (HO.lst [])
    have G7 := G6.then v6
    obtain ⟨_, _, _, zs6, hz6, dz6⟩ := id G7
    refine ⟨_, z3t hz6 dz6 (fun e0 he => by cases he; exact huw) z01, ?_⟩
    rw [if_neg (by simp), eZ]
    have hd7 := v6 _ _ hd6
    have had7 := v6 _ _ had6
    generalize upd H6 l6 (HO.lst []) = U6 at G7 hd7 had7 hz6 dz6 ⊢
    refine zba fun Y2 Z2 eY2 eZ2 => ?_
    walk_at "rd7"
    refine ⟨Nat.zero_le _, fun l7 hl7 => ?_⟩
    have v7 := z04 hl7 (HO.lst [])
    refine ⟨_, z3t (v7 _ _ hz6) (dz6.kp v7.kp) (fun e0 he => by cases he; exact huw) z01, ?_⟩
    rw [if_neg (by simp), eZ2]
    have G8 := G7.then v7
    have hd8 := v7 _ _ hd7
    have had8 := v7 _ _ had7
    have hz8 := v7 _ _ hz6
    have dz8 := dz6.kp v7.kp
    generalize upd U6 l7 (HO.lst []) = U7 at G8 hd8 had8 hz8 dz8 ⊢
    show N7 _ _
    rw [e7]
    refine z0f fun N8 e8 => ?_
    walk_at "rd7"
    rw [e8]
    refine zy0 fun B eB => ?_
    refine ⟨fun m σ' H' => m = 0 ∧ σ' = [some (V.ref ab), some pv, some (V.ref st), some (V.ref d), some (V.ref ss), some (V.ref ff), some (V.int i), some (V.ref ad), some z, some (.int v), some (.int 0)] ∧ H' = U7, ⟨0, rfl, rfl, rfl⟩, ?_⟩
    rintro m σ' H' ⟨rfl, rfl, rfl⟩
    walk_at "rd7"
    refine ⟨_, SqT.of had8, _, z0k, _, zfr, ?_⟩
    split
    ·refine ⟨Nat.zero_le _, fun l8 hl8 => ?_⟩
     have v8 := z04 hl8 (HO.lst [])
     refine ⟨_, z3t (v8 _ _ hz8) (dz8.kp v8.kp) (fun e0 he => by cases he; exact huw) z01, ?_⟩
     rw [if_neg (by simp)]
     exact hnx _ _ _ _ _ _ _ _ _ ev (G8.then v8) (v8 _ _ hd8)
    ·exact hnx _ _ _ _ _ _ _ _ _ ev G8 hd8
   have bc : ∀ (bb : List D) (xb : V) (k : Int) (Hs : Hp) (rr : List RI) (cs : Cnt) (gq : List Str) (KK : Hp → Prop), Dt Hs xb (.tup (zao bb)) → okB n bb → kbB gi bb = some gq → G4 d ss ff H Hs (rs ++ rr) none → Hs d = some (.dK (kvC cs)) → KeyOk cs → Has cs gi → rr.length + (evB (p ++ [(i : Int)] ++ [k]) 0 bb cs).2.2.length ≤ (evD (p ++ [(i : Int)]) e ci).2.2.length → Hs st = some (.tup [.ref d, .ref ss, .ref ff]) → Dt Hs z (z3i (p ++ [(i : Int)])) →
     (∀ H', G4 d ss ff H H' (rs ++ (rr ++ (evB (p ++ [(i : Int)] ++ [k]) 0 bb cs).2.2)) (evB (p ++ [(i : Int)] ++ [k]) 0 bb cs).1 → H' d = some (.dK (kvC (evB (p ++ [(i : Int)] ++ [k]) 0 bb cs).2.1)) → Kp Hs H' → KK H') →
     (1 ≤ sizeLine ∧ ∀ (p1 : Addr), Hs p1 = none → zfx K z (V.ref p1) (upd Hs p1 (HO.tup [V.int k])) fun x_5 H1 => zm8 n [xb, x_5, V.ref st] H1 (fun _ H1 => KK H1) E0) := by
    intro bb xb k Hs rr cs gq KK dxb okb hkq Gs hds hkcs hhs hlen hsts dzs kk
    refine ⟨by decide, fun p1 h1 => ?_⟩
    have v1 := z04 h1 (HO.tup [V.int k])
    refine zka (dzs.kp v1.kp) zaw (by simp; omega) fun z2 H2 v2 dz2 => ?_
    have v12 := v1.trans v2
    have Gt := Gs.then v12
    refine ⟨xb, bb, z2, _, st, d, ss, ff, cs, gi, gq, rfl, v12 _ _ hsts, dxb.kp v12.kp, dz2, okb, by omega, by simp; omega, hkq, v12 _ _ hds, hkcs, hhs, hsf, Gt.has hL (by rw [List.length_append]; omega), Gt.no, fun H3 g3 hd3 => ?_⟩
    have := Gt.trans g3 (v12 _ _ hds)
    rw [List.append_assoc] at this
    exact kk H3 this hd3 (v12.kp.trans (g3.kp (v12 _ _ hds)))
   have wc2 : ∀ (t : T) (xt : V) (Hs : Hp) (rr : List RI) (cs : Cnt) (KK : V → Hp → Prop), Dt Hs xt t.enc → t.ok gi 5 → rr.length + (evT cs t (p ++ [(i : Int)] ++ [0])).2.length ≤ (evD (p ++ [(i : Int)]) e ci).2.2.length → G4 d ss ff H Hs (rs ++ rr) none → Hs d = some (.dK (kvC cs)) → Has cs gi → Hs st = some (.tup [.ref d, .ref ss, .ref ff]) → Dt Hs z (z3i (p ++ [(i : Int)])) →
     (∀ (v : Int) (H' : Hp), G4 d ss ff H H' (rs ++ (rr ++ (evT cs t (p ++ [(i : Int)] ++ [0])).2)) (evT cs t (p ++ [(i : Int)] ++ [0])).1.out → H' d = some (.dK (kvC cs)) → (∀ v0, (evT cs t (p ++ [(i : Int)] ++ [0])).1 = .had v0 → v = v0) → Kp Hs H' → KK (.int v) H') →
     (1 ≤ sizeLine ∧ ∀ (p1 : Addr), Hs p1 = none → zfx K z (V.ref p1) (upd Hs p1 (HO.tup [V.int 0])) fun x_5 H1 => ztu 5 [xt, x_5, V.ref st] H1 (fun x_6 H1 => KK x_6 H1) E0) := by
    intro t xt Hs rr cs KK dt okt hlen Gs hds hhs hsts dzs kk
    refine ⟨by decide, fun p1 h1 => ?_⟩
    have v1 := z04 h1 (HO.tup [V.int 0])
    refine zka (dzs.kp v1.kp) zaw (by simp; omega) fun z2 H2 v2 dz2 => ?_
    have v12 := v1.trans v2
    have Gt := Gs.then v12
    refine ⟨xt, t, z2, _, st, d, ss, ff, cs, gi, rfl, v12 _ _ hsts, dt.kp v12.kp, dz2, okt, by decide, by simp; omega, v12 _ _ hds, hhs, hsf, Gt.has hL (by rw [List.length_append]; omega), Gt.no, fun v H3 g3 hv => ?_⟩
    have hd3 := g3.keep (by intro z w; cases w) (v12 _ _ hds)
    have := Gt.trans g3.g4 (v12 _ _ hds)
    rw [List.append_assoc] at this
    exact kk v H3 this hd3 hv (v12.kp.trans g3.kp)
   have skip : ∀ (v : Int) (y10 : Option V) (B : TS) (Hn : Hp) (fo' : Option Ref) (c' : Cnt) (rows' : List RI), e.kind ≠ "while" → Hn ad = some (.tup (V.str e.kind :: its)) → evD (p ++ [(i : Int)]) e ci = (fo', c', rows') → G4 d ss ff H Hn (rs ++ rows') fo' → Hn d = some (.dK (kvC c')) →
     znq (zvx (zj7 (tOp (qEq K) (tOp (ztj K) (zqk 7) (tC (V.int 0))) (tC (V.str (Str.ofString "while"))))) (zvx (zj7 (tOp (zpf K) (zqk 5) (zxp zvv))) (zj7 (tOp (rI0 fun i j => V.bl !decide (i = j)) (zqk 9) (tC (V.int 0)))))) B
      { nx := LdI H ab pv st d ss ff g' b p out (i + 1), rt := Q, ct := LdI H ab pv st d ss ff g' b p out (i + 1), bk := N2 } [some (V.ref ab), some pv, some (V.ref st), some (V.ref d), some (V.ref ss), some (V.ref ff), some (V.int i), some (V.ref ad), some z, some (.int v), some (.int 0)] Hn := by
    intro v y10 B Hn fo' c' rows' hk hadn ev Gn hdn
    refine ⟨fun m σ' H' => m = 0 ∧ σ' = [some (V.ref ab), some pv, some (V.ref st), some (V.ref d), some (V.ref ss), some (V.ref ff), some (V.int i), some (V.ref ad), some z, some (.int v), some (.int 0)] ∧ H' = Hn, ⟨0, rfl, rfl, rfl⟩, ?_⟩
    rintro m σ' H' ⟨rfl, rfl, rfl⟩
    walk_at "rd7"
    refine ⟨_, SqT.of hadn, _, z0k, _, zfr, ?_⟩
    rw [if_neg (by simpa using hk)]
    exact hnx _ _ _ _ _ _ _ _ _ ev Gn hdn
   cases e with
   | set y t =>
    rcases dit with _ | ⟨e0, _ | ⟨d1', _ | ⟨d2', _ | _⟩⟩⟩
    cases d1'
    have kS : decide ((D.set y t).kind = ("set" : Str)) = true := decide_eq_true rfl
    refine ⟨_, rfl, _, SqT.of had, _, z0k, _, zfr, ?_⟩
    rw [if_pos kS]
    have hkt : t.knows gi = true := by
     rw [kbD] at hq1
     split at hq1
     ·assumption
     ·cases hq1
    refine ⟨_, rfl, _, SqT.of had, _, z0x (j := 2) rfl, wc t _ _ d2' (z76 hdo.2 hkt) (by rw [zmb]; exact Nat.le_refl _) fun v H6 G6 hd6 hv kp6 => ?_⟩
    have had6 := kp6.1 _ _ had
    rcases hev : evT ci t (p ++ [(i : Int)] ++ [0]) with ⟨res, wr⟩
    rw [hev] at G6 hv
    cases res with
    | ref u q0 => exact faultcase v H6 _ wr (u, q0) G6 hd6 had6 (z6c t _ hev) (zfb hev)
    | had v0 =>
     have ev0 := hv v0 rfl
     subst ev0
     rw [e6]
     refine z0f fun N7 e7 => zba fun Y1 Z1 eY eZ => ?_
     walk_at "rd7"
     refine ⟨Nat.zero_le _, fun l6 hl6 => ?_⟩
     have v6 := z04 hl6 (HO.lst [])
     have G7 := G6.then v6
     obtain ⟨_, _, _, zs6, hz6, dz6⟩ := id G7
     refine ⟨_, z3t hz6 dz6 hword5 z01, ?_⟩
     rw [if_pos (by rfl)]
     refine ⟨_, SqT.of (v6 _ _ had6), _, z0k, _, zfr, ?_⟩
     rw [if_pos kS, eY]
     have hd7 := v6 _ _ hd6
     have had7 := v6 _ _ had6
     generalize upd H6 l6 (HO.lst []) = U6 at G7 hd7 had7 ⊢
     walk_at "rd7"
     refine ⟨_, SqT.of had7, _, z0x (j := 1) rfl, _, DPut.k (k := Sum.inr y) hd7 ?_, ?_⟩
     ·unfold kvC
      rw [List.length_map]
      exact Nat.lt_of_le_of_lt hkc.len (by decide)
     rw [zkq]
     show N7 _ _
     rw [e7]
     refine z0f fun N8 e8 => ?_
     walk_at "rd7"
     rw [e8]
     exact skip v none _ _ none (zis ci y v) wr (show ¬ ("set" : Str) = "while" by decide +kernel) (by rw [z0e (z77 had7 hd7 (by intro z; cases z))]; exact had7) (zfc hev) (G7.put hd7) z01
   | ite t b1 c1 =>
    rcases dit with _ | ⟨e0, _ | ⟨d1', _ | ⟨d2', _ | ⟨d3', _ | _⟩⟩⟩⟩
    have kS : ¬ decide ((D.ite t b1 c1).kind = ("set" : Str)) = true := by rw [decide_eq_true_eq]; exact show ¬ ("if" : Str) = "set" by decide +kernel
    have kI : decide ((D.ite t b1 c1).kind = ("if" : Str)) = true := decide_eq_true rfl
    refine ⟨_, rfl, _, SqT.of had, _, z0k, _, zfr, ?_⟩
    rw [if_neg kS]
    obtain ⟨hkt, ⟨g1, hg1⟩, g2, hg2⟩ := zof hq1
    refine ⟨_, rfl, _, SqT.of had, _, z0x (j := 1) rfl, wc t _ _ d1' (z76 hdo.1 hkt) (zs0 ci t b1 c1 _) fun v H6 G6 hd6 hv kp6 => ?_⟩
    have had6 := kp6.1 _ _ had
    have hst6 := kp6.1 _ _ hst5
    rcases hev : evT ci t (p ++ [(i : Int)] ++ [0]) with ⟨res, wr⟩
    rw [hev] at G6 hv
    cases res with
    | ref u q0 => exact faultcase v H6 _ wr (u, q0) G6 hd6 had6 (z6c t _ hev) (zd4 hev)
    | had v0 =>
     have ev0 := hv v0 rfl
     subst ev0
     rw [e6]
     refine z0f fun N7 e7 => zba fun Y1 Z1 eY eZ => ?_
     walk_at "rd7"
     refine ⟨Nat.zero_le _, fun l6 hl6 => ?_⟩
     have v6 := z04 hl6 (HO.lst [])
     have G7 := G6.then v6
     obtain ⟨_, _, _, zs6, hz6, dz6⟩ := id G7
     refine ⟨_, z3t hz6 dz6 hword5 z01, ?_⟩
     rw [if_pos (by rfl)]
     refine ⟨_, SqT.of (v6 _ _ had6), _, z0k, _, zfr, ?_⟩
     rw [if_neg kS, eZ]
     have hd7 := v6 _ _ hd6
     have had7 := v6 _ _ had6
     have hst7 := v6 _ _ hst6
     have kp7 := v6.kp
     generalize upd H6 l6 (HO.lst []) = U6 at G7 hd7 had7 hst7 hz6 dz6 kp7 ⊢
     refine zba fun Y2 Z2 eY2 eZ2 => ?_
     walk_at "rd7"
     refine ⟨Nat.zero_le _, fun l7 hl7 => ?_⟩
     have v7 := z04 hl7 (HO.lst [])
     refine ⟨_, z3t (v7 _ _ hz6) (dz6.kp v7.kp) hword5 z01, ?_⟩
     rw [if_pos (by rfl)]
     refine ⟨_, SqT.of (v7 _ _ had7), _, z0k, _, zfr, ?_⟩
     rw [if_pos kI, eY2]
     have G8 := G7.then v7
     have hd8 := v7 _ _ hd7
     have had8 := v7 _ _ had7
     have hst8 := v7 _ _ hst7
     have k8 : Kp U1 (upd U6 l7 (HO.lst [])) := kp6.trans (kp7.trans v7.kp)
     generalize upd U6 l7 (HO.lst []) = U7 at G8 hd8 had8 hst8 k8 ⊢
     walk_at "rd7"
     have tail : ∀ (H9 : Hp) (y10 : Option V) (fo' : Option Ref) (c' : Cnt) (rows' : List RI), Kp U7 H9 → evD (p ++ [(i : Int)]) (.ite t b1 c1) ci = (fo', c', rows') → G4 d ss ff H H9 (rs ++ rows') fo' → H9 d = some (.dK (kvC c')) → N7 [some (V.ref ab), some pv, some (V.ref st), some (V.ref d), some (V.ref ss), some (V.ref ff), some (V.int i), some (V.ref ad), some z, some (V.int v), y10] H9 := by
      intro H9 y10 fo' c' rows' k9 ev G9 hd9
      rw [e7]
      refine z0f fun N8 e8 => ?_
      walk_at "rd7"
      rw [e8]
      exact skip v none _ _ fo' c' rows' (show ¬ ("if" : Str) = "while" by decide +kernel) (k9.1 _ _ had8) ev G9 hd9
     by_cases hv0 : v = 0
     ·rw [if_neg (by simp [hv0])]
      refine ⟨_, SqT.of had8, _, z0x (j := 3) rfl, ?_⟩
      rw [if_neg (by simp [hv0])]
      subst hv0
      have ev := zhh (b := b1) (b2 := c1) hev
      exact bc c1 _ 2 U7 wr ci g2 _ (d3'.kp k8) hdo.2.2 hg2 G8 hd8 hkc hhi (by rw [ev]; simp) hst8 (dz5.kp k8) fun H9 G9 hd9 k9 => tail H9 _ _ _ _ k9 ev G9 hd9
     ·rw [if_pos (by simp [hv0])]
      refine ⟨_, SqT.of had8, _, z0x (j := 2) rfl, ?_⟩
      rw [if_pos (by simp [hv0])]
      have ev := zd3 (b := b1) (b2 := c1) hev hv0
      exact bc b1 _ 1 U7 wr ci g1 _ (d2'.kp k8) hdo.2.1 hg1 G8 hd8 hkc hhi (by rw [ev]; simp) hst8 (dz5.kp k8) fun H9 G9 hd9 k9 => tail H9 _ _ _ _ k9 ev G9 hd9
   | whl t m b1 =>
    rcases dit with _ | ⟨e0, _ | ⟨d1', _ | ⟨d2', _ | ⟨d3', _ | _⟩⟩⟩⟩
    cases d2'
    have kS : ¬ decide ((D.whl t m b1).kind = ("set" : Str)) = true := by rw [decide_eq_true_eq]; exact show ¬ ("while" : Str) = "set" by decide +kernel
    have kI : ¬ decide ((D.whl t m b1).kind = ("if" : Str)) = true := by rw [decide_eq_true_eq]; exact show ¬ ("while" : Str) = "if" by decide +kernel
    have kW : decide ((D.whl t m b1).kind = ("while" : Str)) = true := decide_eq_true rfl
    refine ⟨_, rfl, _, SqT.of had, _, z0k, _, zfr, ?_⟩
    rw [if_neg kS]
    obtain ⟨hkt, _, g1, hg1⟩ := zrz hq1
    obtain ⟨okt, hm0, hm20, hob⟩ := hdo
    have hevD : evD (p ++ [(i : Int)]) (.whl t m b1) ci = z57 (cnd t (p ++ [(i : Int)])) (bod b1 (p ++ [(i : Int)])) (p ++ [(i : Int)]) m.toNat ci := by rw [evD]
    have l1 := zhb (cnd t (p ++ [(i : Int)])) (bod b1 (p ++ [(i : Int)])) (p ++ [(i : Int)]) m.toNat ci
    refine ⟨_, rfl, _, SqT.of had, _, z0x (j := 1) rfl, wc t _ _ d1' (z76 okt hkt) (by rw [hevD]; exact l1) fun v H6 G6 hd6 hv kp6 => ?_⟩
    have had6 := kp6.1 _ _ had
    rcases hev : evT ci t (p ++ [(i : Int)] ++ [0]) with ⟨res, wr⟩
    rw [hev] at G6 hv
    cases res with
    | ref u q0 => exact faultcase v H6 _ wr (u, q0) G6 hd6 had6 (z6c t _ hev) (by rw [hevD]; exact z80 (cond := cnd t (p ++ [(i : Int)])) hev)
    | had v0 =>
     have ev0 := hv v0 rfl
     subst ev0
     rw [e6]
     refine z0f fun N7 e7 => zba fun Y1 Z1 eY eZ => ?_
     walk_at "rd7"
     refine ⟨Nat.zero_le _, fun l6 hl6 => ?_⟩
     have v6 := z04 hl6 (HO.lst [])
     have G7 := G6.then v6
     obtain ⟨_, _, _, zs6, hz6, dz6⟩ := id G7
     refine ⟨_, z3t hz6 dz6 hword5 z01, ?_⟩
     rw [if_pos (by rfl)]
     refine ⟨_, SqT.of (v6 _ _ had6), _, z0k, _, zfr, ?_⟩
     rw [if_neg kS, eZ]
     have hd7 := v6 _ _ hd6
     have had7 := v6 _ _ had6
     have kp7 := v6.kp
     generalize upd H6 l6 (HO.lst []) = U6 at G7 hd7 had7 hz6 dz6 kp7 ⊢
     refine zba fun Y2 Z2 eY2 eZ2 => ?_
     walk_at "rd7"
     refine ⟨Nat.zero_le _, fun l7 hl7 => ?_⟩
     have v7 := z04 hl7 (HO.lst [])
     refine ⟨_, z3t (v7 _ _ hz6) (dz6.kp v7.kp) hword5 z01, ?_⟩
     rw [if_pos (by rfl)]
     refine ⟨_, SqT.of (v7 _ _ had7), _, z0k, _, zfr, ?_⟩
     rw [if_neg kI, eZ2]
     have G8 := G7.then v7
     have hd8 := v7 _ _ hd7
     have k8 : Kp U1 (upd U6 l7 (HO.lst [])) := kp6.trans (kp7.trans v7.kp)
     generalize upd U6 l7 (HO.lst []) = U7 at G8 hd8 k8 ⊢
     show N7 _ _
     rw [e7]
     refine z0f fun N8 e8 => ?_
     walk_at "rd7"
     rw [e8]
     refine zy0 fun B eB => ?_
     have hwd : ∀ fj cj rj, (∀ u, fj = some u → evD (p ++ [(i : Int)]) (.whl t m b1) ci = (some u, cj, rj)) → ∀ e0 : Ref, fj = some e0 → e0.1 ∈ z5q := fun fj cj rj h e0 he => zol _ _ _ e0 (by rw [h e0 he])
     refine ⟨WlJ H ab pv st d ss ff (some (V.int i)) (some (V.ref ad)) (some z) rs gi t b1 (p ++ [(i : Int)]) m.toNat (evD (p ++ [(i : Int)]) (.whl t m b1) ci) U1, ⟨2 * m.toNat + 1, k8, 0, ci, v, wr, none, rfl, G8, hd8, hkc, (fun u hu => by cases hu), fun _ => ⟨hhi, Nat.zero_le _, by rw [hevD, Nat.sub_zero]; exact zvg hev⟩, by simp⟩, ?_⟩
     rintro mm σ' Hw ⟨kw, j, cj, vj, rj, fj, rfl, Gw, hdw, hkw, hsome, hnone, rfl⟩
     have hadw := kw.1 _ _ had
     walk_at "rd7"
     refine ⟨_, SqT.of hadw, _, z0k, _, zfr, ?_⟩
     rw [if_pos kW]
     refine ⟨Nat.zero_le _, fun l9 hl9 => ?_⟩
     have v9 := z04 hl9 (HO.lst [])
     have G9 := Gw.then v9
     have hd9 := v9 _ _ hdw
     have k9 := kw.trans v9.kp
     have hl9s : (upd Hw l9 (HO.lst [])) l9 = some (.lst []) := z01
     generalize upd Hw l9 (HO.lst []) = U9 at G9 hd9 k9 hl9s ⊢
     obtain ⟨_, _, _, zs9, hz9, dz9⟩ := id G9
     refine ⟨_, z3t hz9 dz9 (hwd fj cj rj hsome) hl9s, ?_⟩
     cases fj with
     | some u =>
      rw [if_neg (by simp)]
      exact hnx _ _ _ _ _ _ _ _ _ (hsome u rfl) G9 hd9
     | none =>
      rw [if_pos (by rfl)]
      obtain ⟨hhj, hjM, hoj⟩ := hnone rfl
      by_cases hv0 : vj = 0
      ·rw [if_neg (by simp [hv0])]
       subst hv0
       rw [zpt] at hoj
       exact hnx none cj rj _ _ _ _ _ _ (by rw [hoj]; simp [zar]) G9 hd9
      rw [if_pos (by simp [hv0])]
      have had9 := k9.1 _ _ had
      refine ⟨fun σ' H' => ∃ m', m' < 2 * (m.toNat - j) + 1 ∧ WlJ H ab pv st d ss ff (some (V.int i)) (some (V.ref ad)) (some z) rs gi t b1 (p ++ [(i : Int)]) m.toNat (evD (p ++ [(i : Int)]) (.whl t m b1) ci) U1 m' σ' H', fun _ _ h => h, ?_⟩
      rw [eB]
      refine zba fun Y3 Z3 eY3 eZ3 => ?_
      walk_at "rd7"
      refine ⟨_, SqT.of had9, _, z0x (j := 2) rfl, _, rfl, ?_⟩
      by_cases hjm : (j : Int) = m
      ·rw [if_pos hjm, eY3]
       walk_at "rd7"
       have hM : m.toNat - j = 0 := by omega
       rw [hM, zpu hv0] at hoj
       refine ⟨.inl ⟨rfl, _, SqL.of G9.no⟩, by decide, fun p2 h2 => ?_⟩
       have v10 := z04 h2 (HO.tup [V.str "long", z])
       have dy : Dt (upd U9 p2 (HO.tup [V.str "long", z])) (.ref p2) (zo1 (("long" : Str), p ++ [(i : Int)])) := .tup z01 (.cons (.str _) (.cons ((dz5.kp k9).kp v10.kp) .nil))
       obtain ⟨hff, G10⟩ := (G9.then v10).fault hsf dy
       refine ⟨[], hff, by decide, 0, by omega, k9.trans (v10.kp.trans (Kp.set hff)), j, cj, vj, rj, some (("long" : Str), p ++ [(i : Int)]), rfl, G10, ?_, hkw, fun u hu => ?_, (fun hn => by cases hn), by simp [hM]⟩
       ·rw [z0e (z77 (v10 _ _ hd9) hff (by intro z; cases z))]
        exact v10 _ _ hd9
       ·cases hu
        rw [hoj]
        simp [zar]
      ·rw [if_neg hjm, eZ3]
       obtain ⟨k', hk'⟩ : ∃ k', m.toNat - j = k' + 1 := ⟨m.toNat - j - 1, by omega⟩
       rw [hk'] at hoj
       have hlB := zrq (cond := cnd t (p ++ [(i : Int)])) (body := bod b1 (p ++ [(i : Int)])) (p := p ++ [(i : Int)]) (k := k') (c := cj) hv0
       refine z0f fun N10 e10 => ?_
       walk_at "rd7"
       refine ⟨_, SqT.of had9, _, z0x (j := 3) rfl, ?_⟩
       refine bc b1 _ 1 U9 rj cj g1 _ (d3'.kp k9) hob hg1 G9 hd9 hkw hhj (by rw [hoj, zar, List.length_append]; exact Nat.add_le_add_left hlB _) (k9.1 _ _ hst5) (dz5.kp k9) fun H10 G10 hd10 k10 => ?_
       have hkb1 := za2 b1 n (p ++ [(i : Int)] ++ [1]) 0 cj (ze4 hob) hkw
       have hhb1 := zfq b1 (p ++ [(i : Int)] ++ [1]) 0 cj gi g1 hg1 hhj
       have kk10 := k9.trans k10
       rw [e10]
       refine z0f fun N11 e11 => ?_
       walk_at "rd7"
       rw [e11]
       refine zba fun Y4 Z4 eY4 eZ4 => ?_
       walk_at "rd7"
       refine ⟨Nat.zero_le _, fun l11 hl11 => ?_⟩
       have v11 := z04 hl11 (HO.lst [])
       have G11 := G10.then v11
       have hd11 := v11 _ _ hd10
       have k11 := kk10.trans v11.kp
       have hl11s : (upd H10 l11 (HO.lst [])) l11 = some (.lst []) := z01
       generalize upd H10 l11 (HO.lst []) = U11 at G11 hd11 k11 hl11s ⊢
       rcases hbb : evB (p ++ [(i : Int)] ++ [1]) 0 b1 cj with ⟨o1, c1, r1⟩
       rw [hbb] at G11 hd11 hkb1 hhb1
       have hbb' : bod b1 (p ++ [(i : Int)]) cj = (o1, c1, r1) := hbb
       obtain ⟨_, _, _, zs11, hz11, dz11⟩ := id G11
       refine ⟨_, z3t hz11 dz11 (fun e0 he => z83 b1 _ 0 cj e0 (by rw [hbb]; exact he)) hl11s, ?_⟩
       have hj1 : ((j : Int) + 1) = ((j + 1 : Nat) : Int) := by simp
       have hk1 : m.toNat - (j + 1) = k' := by omega
       cases o1 with
       | some u =>
        rw [if_neg (by simp), eZ4]
        rw [ziv hv0 hbb'] at hoj
        rw [hj1]
        refine ⟨2 * k', by omega, k11, j + 1, c1, vj, rj ++ r1, some u, rfl, G11, hd11, hkb1, fun u' hu => ?_, (fun hn => by cases hn), by simp [hk1]⟩
        cases hu
        rw [hoj]
        rfl
       | none =>
        rw [if_pos (by rfl), eY4]
        rw [ziw hv0 hbb'] at hoj
        have hh1 := (hhb1 rfl).sub (zfm b1 gi g1 hg1)
        walk_at "rd7"
        refine ⟨_, SqT.of (k11.1 _ _ had), _, z0x (j := 1) rfl, ?_⟩
        have l2 := zhb (cnd t (p ++ [(i : Int)])) (bod b1 (p ++ [(i : Int)])) (p ++ [(i : Int)]) k' c1
        refine wc2 t _ U11 (rj ++ r1) c1 _ (d1'.kp k11) (z76 okt hkt) (by rw [hoj]; simp only [zar, List.length_append]; have : (evT c1 t (p ++ [(i : Int)] ++ [0])).2.length ≤ _ := l2; omega) G11 hd11 hh1 (k11.1 _ _ hst5) (dz5.kp k11) fun v12 H12 G12 hd12 hv12 k12 => ?_
        rw [hj1]
        rcases hev2 : evT c1 t (p ++ [(i : Int)] ++ [0]) with ⟨res2, wr2⟩
        rw [hev2] at G12 hv12
        have hev2' : cnd t (p ++ [(i : Int)]) c1 = (res2, wr2) := hev2
        cases res2 with
        | ref u q0 =>
         rw [z80 hev2'] at hoj
         refine ⟨2 * k', by omega, k11.trans k12, j + 1, c1, v12, rj ++ r1 ++ wr2, some (u, q0), rfl, G12, hd12, hkb1, fun u' hu => ?_, (fun hn => by cases hn), by simp [hk1]⟩
         cases hu
         rw [hoj]
         simp [zar]
        | had w0 =>
         have := hv12 w0 rfl
         subst this
         rw [zvg hev2'] at hoj
         refine ⟨2 * k' + 1, by omega, k11.trans k12, j + 1, c1, v12, rj ++ r1 ++ wr2, none, rfl, G12, hd12, hkb1, (fun u' hu => by cases hu), fun _ => ⟨hh1, by omega, ?_⟩, by simp [hk1]⟩
         rw [hoj, hk1]
         simp [zar]
end
section
variable {P : Program} {w : World} {K : PySem.W.Frag} {mg : Str → Option Value} {base : Heap} {f : Addr} {fd : FuncData}
theorem zsa : ∀ (rows : List Rw) (ws : List Int) (c : Cnt), ((rows.zip ws).map fun q => (q.1.1, q.2)).foldl (fun k r => zir k (Sum.inr r.1) (V.int r.2)) (kvC c) = kvC (stB c rows ws)
 | [], ws, c => by simp [stB]
 | _ :: _, [], c => by simp [stB]
 | r :: rows, w :: ws, c => by
  rw [List.zip_cons_cons, List.map_cons, List.foldl_cons, zkq, stB]
  exact zsa rows ws _
def ZwI (U : Hp) (rows : List Rw) (ws : List Int) (i : Nat) (ys : List V) (σ' : St) (H' : Hp) : Prop := Same U H' ∧ (∃ t u, σ' = [t, u]) ∧ DtA H' ys ((((rows.zip ws).take i).map fun q => (q.1.1, q.2)).map zmo) ∧ ys.length ≤ i
theorem ztk {rows : List Rw} {ws : List Int} {i : Nat} {r : Rw} {w : Int} (h1 : rows[i]? = some r) (h2 : ws[i]? = some w) : (rows.zip ws).take (i + 1) = (rows.zip ws).take i ++ [(r, w)] := by
 refine zbb ?_
 rw [List.getElem?_zip_eq_some]
 exact ⟨h1, h2⟩
def zv7 : Sp := fun vs H Q _ => ∃ (gv wv : V) (rows : List Rw) (b : List D) (ws : List Int) (g' : List Str), vs = [gv, wv] ∧ Dt H gv (.tup [.tup (rows.map z70), .tup (zao b)]) ∧ Dt H wv (z3i ws) ∧ okRows rows ∧ Fits rows ws ∧ okB 3 b ∧ kbB (rows.map (·.1)) b = some g' ∧ (evP rows b ws).2.2.length + 1 < sizeLine ∧
 ∀ (r l : Addr) (tv : V) (ys : List V) (H' : Hp), Same H H' → H' r = some (.tup [tv, .ref l]) → zxt (evP rows b ws) H' tv → H' l = some (.lst ys) → DtA H' ys ((evP rows b ws).2.2.map zm0) → Q (.ref r) H'
theorem ztw : (pool.all fun x => pool.all fun y => !(decide (zvc x ≤ zvc y)) || decide (x = y) || decide (z8f x < z8f y)) = true := by decide +kernel
theorem zw1 {x y : Str} (hx : x ∈ pool) (hy : y ∈ pool) (h : zvc x ≤ zvc y) (n : x ≠ y) : z8f x < z8f y := by
 have h0 := ztw
 rw [List.all_eq_true] at h0
 have h1 := h0 x hx
 rw [List.all_eq_true] at h1
 have h2 := h1 y hy
 simpa [h, n] using h2
theorem zjx : ∀ {c : Cnt}, (c.map (·.1)).Nodup → ∀ p ∈ c, zbl c p.1 = some p.2
 | [], _, p, h => by simp at h
 | a :: c, hn, p, h => by
  rw [List.map_cons, List.nodup_cons] at hn
  rcases List.mem_cons.mp h with rfl | h
  ·simp [zbl]
  ·have ne : ¬ a.1 = p.1 := fun z => hn.1 (z ▸ List.mem_map.mpr ⟨p, h, rfl⟩)
   have := zjx hn.2 p h
   unfold zbl at this ⊢
   rw [List.find?_cons]
   simpa [ne] using this
def zpg (c : Cnt) (ms : List Str) : Cnt := ms.map fun x => (x, (zbl c x).getD 0)
theorem zpk {c : Cnt} {ms : List Str} (hk : KeyOk c) (hp : ms.Perm (c.map (·.1))) : (zpg c ms).Perm c := by
 have h1 := hp.map (fun x => (x, (zbl c x).getD 0))
 have h2 : (c.map (·.1)).map (fun x => (x, (zbl c x).getD 0)) = c := by
  rw [List.map_map]
  conv => rhs; rw [← List.map_id c]
  refine List.map_congr_left fun p hp => ?_
  show (p.1, (zbl c p.1).getD 0) = p
  rw [zjx hk.1 p hp]
  rfl
 rw [h2] at h1
 exact h1
theorem zpj {c : Cnt} {ms : List Str} (hk : KeyOk c) (hp : ms.Perm (c.map (·.1))) (hs : PyProof.Rows.sortedS ms = true) : (zpg c ms).Pairwise (fun p q => z8f p.1 < z8f q.1) := by
 have hpool : ∀ x ∈ ms, x ∈ pool := fun x hx => by
  obtain ⟨q, hq, e⟩ := List.mem_map.mp (hp.mem_iff.mp hx)
  rw [← e]; exact hk.2 q hq
 have hn : ms.Nodup := hp.nodup_iff.mpr hk.1
 have h1 := zpa hpool hs
 rw [List.pairwise_map] at h1
 unfold zpg
 rw [List.pairwise_map]
 have h2 : ms.Pairwise (fun x y => x ≠ y) := hn
 exact (h1.and h2).imp_of_mem fun {x y} hx hy z => zw1 (hpool x hx) (hpool y hy) z.1 z.2
def CtI (U : Hp) (st : Addr) (c : Cnt) (ms : List Str) (i : Nat) (ys : List V) (σ' : St) (H' : Hp) : Prop := Same U H' ∧ (∃ t, σ' = [t, some (.ref st)]) ∧ DtA H' ys ((zpg c (ms.take i)).map zmo) ∧ ys.length ≤ i
end
section
variable {P : Program} {w : World} {K : PySem.W.Frag} {mg : Str → Option Value} {base : Heap} {f : Addr} {fd : FuncData}
theorem zuf {k : Nat} {n1 n2 n3 : Str} : FnOk P w K mg base CX0 k f fd [n1, n2, n3] (zm8 0) := by
 have no : ∀ vs H Q E, ¬ zm8 0 vs H Q E := fun vs H Q E h => by
  obtain ⟨v, b, pv, p, st, d, s, f, c, g, g', _, _, _, _, h, _⟩ := h
  exact h.elim
 exact ⟨fun vs H Q E h => absurd h (no vs H Q E), fun A outer s H args us vs Q E _ _ _ _ h => absurd h (no vs H Q E)⟩
theorem zt9 (d : Df K mg "_law_do" z1i ["_law_block_here", "_law_path", "_law_state"] f fd) (b_enumerate : mg "enumerate" = none) (c_law_worth : Callee P w K mg base "_law_worth" ["_law_expr", "_law_path", "_law_state"] 7 (ztu 5)) : ∀ n : Nat, Callee P w K mg base "_law_do" ["_law_block_here", "_law_path", "_law_state"] (n + 7) (zm8 n)
 | 0 => d.callee zuf
 | n + 1 => d.callee (zri d.F b_enumerate c_law_worth (zt9 d b_enumerate c_law_worth n))
theorem zpp (F : Fun K "_law_run" "_law_run" z2v f fd) (b_dict : mg "dict" = none) (b_zip : mg "zip" = none) (b_tuple : mg "tuple" = none) (b_sorted : mg "sorted" = none) (b_list : mg "list" = none) (c_law_do : Callee P w K mg base "_law_do" ["_law_block_here", "_law_path", "_law_state"] 10 (zm8 3)) : FnOk P w K mg base CX0 11 f fd ["_law_program_here", "_law_worths"] zv7 := by
 refine F.ok sc_law_run (fun vs H Q E h => ?_) (fun cdv A outer s H vs Q E hr h => ?_)
 ·obtain ⟨gv, wv, rows, b, ws, g', rfl, _⟩ := h
  rfl
 obtain ⟨gv, wv, rows, b, ws, g', rfl, hg, hw, hrow, hfit, hok, hkb, hz, q⟩ := h
 obtain ⟨ga, iv, bv, rfl, hga, di, db⟩ := zqj hg
 obtain ⟨ia, is, rfl, hia, dia⟩ := di.tupI
 obtain ⟨wa, us, rfl, hwa, dwa⟩ := hw.tupI
 have lis : is.length = rows.length := by rw [dia.length, List.length_map]
 have lus : us.length = ws.length := by rw [dwa.length, List.length_map]
 have hlen := hfit.len
 refine ⟨_, (z06 (z1d (i := 2) sc_law_run.nd rfl zay (z14 (z07 (zml (zq6 rfl) zhn b_dict zxe (z07 (zfg ["_law_row", "_law_worth_here"] [none, none] rfl (CompS.of (by rfl)) (zmj zie b_zip (z07 (z0w ix_tup (z00 (i := 0) rfl z4f z0t z0u) z02 (fun _ _ => rfl)) (z07 (z00 (i := 1) rfl z9j z24 z25) z03))) (fun _ _ _ _ _ => (zw6 (n := 2) (K := K) rfl rfl (z2d (z1w (i := 0) (show List.Nodup (["_law_row", "_law_worth_here"] : List Str) from by decide +kernel) rfl (Or.inl rfl)) (z2d (z1w (i := 1) (show List.Nodup (["_law_row", "_law_worth_here"] : List Str) from by decide +kernel) rfl (Or.inl rfl)) z8g)))) (fun _ _ _ _ _ => zjg) (fun _ _ _ _ _ => (z14 (z07 (z0w (ixK (r := ztj) (K := K) ix_tup rfl) (z00 (i := 0) rfl (by first | exact Or.inl rfl | exact Or.inr (Or.inl rfl) | exact Or.inr (Or.inr rfl)) zhu zhz) z02 (fun _ _ => rfl)) (z07 (z00 (i := 1) rfl (by first | exact Or.inl rfl | exact Or.inr (Or.inl rfl) | exact Or.inr (Or.inr rfl)) z1j z1l) z03))))) z03) zwk zx6) (z07 (z3h z03) (z07 (z3h z03) z03)))) (z05 rfl))
 (z06 (z4v (z1y c_law_do hr (by omega) (z07 (z0w ix_tup (z00 (i := 0) rfl z4f z0t z0u) z02 (fun _ _ => rfl)) (z07 (z14 z03) (z07 (z00 (i := 2) rfl z20 z1k z1m) z03))) zec zft) (z05 rfl))
 (z06 (z2m (z0c (q0j hr.units) (z0w ix_tup (z00 (i := 2) rfl z20 z1k z1m) z02 (fun _ _ => rfl)) (z3h z03) (z0m _)) (z08 (z0q (z14 (z07 (z17 z2s (z14 (z07 z0l z03)) (z0w zzd (z0w ix_tup (z00 (i := 2) rfl z20 z1k z1m) z02 (fun _ _ => rfl)) z02 (fun _ _ => rfl))) (z07 (z0w ix_tup (z00 (i := 2) rfl z20 z1k z1m) z02 (fun _ _ => rfl)) z03))))) z0s)
 (z08 (z0q (z14 (z07 (z14 (z07 z0l (z07 (zml z62 zga b_tuple zc7 (z07 (zfg ["_law_name", "_law_state"] [none, some 2] rfl (CompS.of (by rfl)) (zfe (z75 zlr zfn b_sorted zez (z07 (zml (zij rfl) zhm b_list zxd (z07 (z0w ix_tup (z00 (i := 2) rfl z20 z1k z1m) z02 (fun _ _ => rfl)) z03) zwj zx4) z03) ze5 zem)) (fun _ _ _ _ _ => (z1w (i := 0) (show List.Nodup (["_law_name", "_law_state"] : List Str) from by decide +kernel) rfl (Or.inl rfl))) (fun _ _ _ _ _ => zjg) (fun _ _ _ _ _ => (z14 (z07 (z00 (i := 0) rfl (by first | exact Or.inl rfl | exact Or.inr (Or.inl rfl) | exact Or.inr (Or.inr rfl)) z4y z51) (z07 (zmk hr.units1 (z0w (ixK (r := ztj) (K := K) ix_tup rfl) (z00 (i := 1) rfl (by first | exact Or.inl rfl | exact Or.inr (Or.inl rfl) | exact Or.inr (Or.inr rfl)) z1k z1m) z02 (fun _ _ => rfl)) (z00 (i := 0) rfl (by first | exact Or.inl rfl | exact Or.inr (Or.inl rfl) | exact Or.inr (Or.inr rfl)) z4y z51) (fun _ _ => rfl)) z03))))) z03) zc1 zc3) z03))) (z07 (z0w ix_tup (z00 (i := 2) rfl z20 z1k z1m) z02 (fun _ _ => rfl)) z03)))))))), z0f fun N1 e1 => ?_⟩
 walk_at "rd7"
 refine ⟨_, SqT.of hga, _, z0k, ia, wa, ⟨rfl, rfl⟩, ⟨_, SqT.of hia⟩, ⟨_, SqT.of hwa⟩, ?_⟩
 have hw2 : ws.length ≤ 2 := by rw [← hlen]; exact hrow.len
 refine zsx (xs := is) (ys := us) (by omega) (ZwI H rows ws) ⟨Same.refl _, ⟨_, _, rfl⟩, by rw [List.take_zero]; exact .nil, Nat.le_refl _⟩ (Nat.lt_of_le_of_lt (show us.length ≤ 2 by omega) (by decide)) ?_ ?_ ?_ ?_
 ·rintro i zs σ' H' ⟨_, _, _, hy⟩
  exact hy
 ·rintro i zs σ' H' _ ⟨sU, _, _, _⟩
  exact ⟨SqT.of (sU _ _ hia), SqT.of (sU _ _ hwa)⟩
 ·rintro i zs x y σ' H' Tu hx hy ⟨sU, ⟨t, u, rfl⟩, dz, hzl⟩ hT
  obtain ⟨r, hri, dr⟩ := zaj dia hx
  obtain ⟨wd, hwi, dw⟩ := zaj dwa hy
  cases dw
  obtain ⟨ra, r0, r1, r2, rfl, hra, t0, t1, t2⟩ := zqi dr
  cases t0; cases t1; cases t2
  have s3 := z04 hT (HO.tup [V.ref ra, V.int wd])
  have hra3 := s3 _ _ (sU _ _ hra)
  walk_at "rd7"
  refine ⟨_, SqT.of z01, rfl, _, _, rfl, _, _, rfl, rfl, _, rfl, _, SqT.of hra3, _, z0k, by decide, fun p1 h1 => ?_⟩
  have s4 := z04 h1 (HO.tup [V.str r.1, V.int wd])
  have s34 := s3.trans s4
  refine ⟨sU.trans s34, ⟨_, _, rfl⟩, ?_, by rw [List.length_append, List.length_singleton]; omega⟩
  rw [ztk hri hwi, List.map_append, List.map_append]
  exact (dz.kp s34.kp).append (.cons (.tup z01 (.cons (.str _) (.cons (.int _) .nil))) .nil)
 rintro zs σ' H1 ⟨s1, _, dz, _⟩ pe hpe
 have s2 := z04 hpe (HO.lst zs)
 have hzl : (rows.zip ws).length = us.length := by rw [List.length_zip]; omega
 rw [← hzl, List.take_length] at dz
 refine ⟨pe, zs, _, rfl, z01, dz.kp s2.kp, by rw [List.length_map, hzl]; omega, fun d hdn => ⟨Nat.zero_le _, fun ls hls => ⟨Nat.zero_le _, fun lf hlf => ⟨by decide, fun st hst => ?_⟩⟩⟩⟩
 have ef : ((rows.zip ws).map fun q => (q.1.1, q.2)).foldl (fun k r => zir k (Sum.inr r.1) (V.int r.2)) [] = kvC (stB [] rows ws) := zsa rows ws []
 rw [ef] at hls hlf hst ⊢
 have s3 := z04 hdn (HO.dK (kvC (stB [] rows ws)))
 have s4 := z04 hls (HO.lst [])
 have s5 := z04 hlf (HO.lst [])
 have s6 := z04 hst (HO.tup [V.ref d, V.ref ls, V.ref lf])
 have s16 := s1.trans (s2.trans (s3.trans (s4.trans (s5.trans s6))))
 have hd6 := (s4.trans (s5.trans s6)) _ _ (z01 (H := upd H1 pe (HO.lst zs)) (a := d) (o := HO.dK (kvC (stB [] rows ws))))
 have hls6 := (s5.trans s6) _ _ (z01 (a := ls) (o := HO.lst []))
 have hlf6 := s6 _ _ (z01 (a := lf) (o := HO.lst []))
 have hst6 := z01 (H := upd (upd (upd (upd H1 pe (HO.lst zs)) d (HO.dK (kvC (stB [] rows ws)))) ls (HO.lst [])) lf (HO.lst [])) (a := st) (o := HO.tup [V.ref d, V.ref ls, V.ref lf])
 have nsf : ls ≠ lf := z0h z01 hlf
 have nd : H d = none := (s1.trans s2).free hdn
 have nls : H ls = none := (s1.trans (s2.trans s3)).free hls
 have nlf : H lf = none := (s1.trans (s2.trans (s3.trans s4))).free hlf
 generalize upd (upd (upd (upd (upd H1 pe (HO.lst zs)) d (HO.dK (kvC (stB [] rows ws)))) ls (HO.lst [])) lf (HO.lst [])) st (HO.tup [V.ref d, V.ref ls, V.ref lf]) = U at s16 hd6 hls6 hlf6 hst6 ⊢
 rw [e1]
 refine z0f fun N2 e2 => ?_
 walk_at "rd7"
 refine ⟨_, SqT.of (s16 _ _ hga), _, z0x (j := 1) rfl, Nat.zero_le _, fun p0 hp0 => ?_⟩
 have s7 := z04 hp0 (HO.tup [])
 have hky := zf8 rows ws [] (zbc hrow) KeyOk.nil
 have hh := zm5 rows ws [] [] hfit (fun r hr => ⟨(hrow.lo r hr).1, (hrow.lo r hr).2.2⟩) (fun x hx => by simp at hx)
 rw [List.nil_append] at hh
 refine ⟨bv, b, .ref p0, [], st, d, ls, lf, stB [] rows ws, _, g', rfl, s7 _ _ hst6, (db.kp s16.kp).kp s7.kp, .tup z01 .nil, hok, by decide, by decide, hkb, s7 _ _ hd6, hky, hh, nsf, fun l hl => ?_, s7 _ _ hlf6, fun H2 G2 hd2 => ?_⟩
 ·cases hl
  exact ⟨[], s7 _ _ hls6, by simpa using hz⟩
 have S2 : Same H H2 := fun a o e => G2.1 a o (z0h e nd) (z0h e nls) (z0h e nlf) (s7 _ _ (s16 _ _ e))
 have hst2 := G2.keep (s7 _ _ hd6) (by intro z w; cases w) (by intro z w; cases w) (s7 _ _ hst6)
 have hk2 := za2 b 4 [] 0 _ (zl1 (ze4 hok)) hky
 obtain ⟨_, ⟨xs2, ys2, f1, f2, f3⟩, _, zs2, f4, f5⟩ := G2
 rw [s7 _ _ hls6] at f1
 cases f1
 rw [List.nil_append] at f2
 change DtA H2 zs2 ((evP rows b ws).1.toList.map zo1) at f5
 change DtA H2 ys2 ((evP rows b ws).2.2.map zm0) at f3
 change H2 d = some (.dK (kvC (evP rows b ws).2.1)) at hd2
 change KeyOk (evP rows b ws).2.1 at hk2
 have hwd : ∀ e, (evP rows b ws).1 = some e → e.1 ∈ z5q := fun e he => z83 b [] 0 _ e he
 rcases hout : evP rows b ws with ⟨oo, cc, rr⟩
 rw [hout] at f3 f5 hd2 hk2 q hwd
 rw [e2]
 refine z0f fun N3 e3 => ?_
 walk_at "rd7"
 refine ⟨_, SqT.of hst2, _, z0x (j := 2) rfl, Nat.zero_le _, fun l3 hl3 => ?_⟩
 have v3 := z04 hl3 (HO.lst [])
 refine ⟨_, z3t (v3 _ _ f4) (f5.kp v3.kp) hwd z01, ?_⟩
 have S3 := S2.trans v3
 have hst3 := v3 _ _ hst2
 have f2' := v3 _ _ f2
 have f3' := f3.kp v3.kp
 have f4' := v3 _ _ f4
 have f5' := f5.kp v3.kp
 have hd3 := v3 _ _ hd2
 generalize upd H2 l3 (HO.lst []) = U3 at S3 hst3 f2' f3' f4' f5' hd3 ⊢
 cases oo with
 | some er =>
  rw [if_pos (by rfl)]
  change DtA U3 zs2 [zo1 er] at f5'
  obtain ⟨y, rfl, dy⟩ : ∃ y, zs2 = [y] ∧ Dt U3 y (zo1 er) := by
   cases f5' with
   | cons h t => cases t; exact ⟨_, rfl, h⟩
  refine ⟨by decide, fun p4 h4 => ?_⟩
  have v4 := z04 h4 (HO.tup [V.str "refused"])
  refine ⟨_, SqT.of (v4 _ _ hst3), _, z0x (j := 2) rfl, .inl ⟨lf, rfl, _, SqL.of (v4 _ _ f4'), _, z0k, ?_⟩⟩
  refine q17 (ds := [.str "refused"]) (.tup z01 (.cons (.str _) .nil)) (dy.kp v4.kp) (by simp) fun z5 H5 v5 d5 => ?_
  have v45 := v4.trans v5
  refine ⟨_, SqT.of (v45 _ _ hst3), _, z0x (j := 1) rfl, by decide, fun p6 h6 => ?_⟩
  have v6 := z04 h6 (HO.tup [z5, V.ref ls])
  exact q p6 ls z5 ys2 _ (S3.trans (v45.trans v6)) z01 (d5.kp v6.kp) ((v45.trans v6) _ _ f2') (f3'.kp (v45.trans v6).kp)
 | none =>
  rw [if_neg (by simp), e3]
  walk_at "rd7"
  refine ⟨_, SqT.of hst3, _, z0k, d, rfl, _, .inl hd3, fun l4 h4 => ?_⟩
  have v4 := z04 h4 (HO.lst ((kvC cc).map fun kv => kV kv.1))
  have ek : (kvC cc).map (fun kv => kV kv.1) = (cc.map (·.1)).map V.str := by
   unfold kvC
   rw [List.map_map, List.map_map]
   rfl
  refine ⟨cc.map (·.1), by rw [ek]; exact SqL.of z01, by rw [List.length_map]; exact Nat.lt_of_le_of_lt hk2.len (by decide), fun l5 ms h5 hp5 hs5 => ?_⟩
  have v5 := z04 h5 (HO.lst (ms.map V.str))
  have v45 := v4.trans v5
  have hl5 : (upd (upd U3 l4 (HO.lst ((kvC cc).map fun kv => kV kv.1))) l5 (HO.lst (ms.map V.str))) l5 = some (.lst (ms.map V.str)) := z01
  have hd5 := v45 _ _ hd3
  have hst5 := v45 _ _ hst3
  have ls5 := v45 _ _ f2'
  have dys5 := f3'.kp v45.kp
  have S5 := S3.trans v45
  generalize upd (upd U3 l4 (HO.lst ((kvC cc).map fun kv => kV kv.1))) l5 (HO.lst (ms.map V.str)) = U5 at hl5 hd5 hst5 ls5 dys5 S5 ⊢
  have hml : ms.length ≤ 4 := by rw [hp5.length_eq, List.length_map]; exact hk2.len
  refine ⟨⟨_, SqL.of hl5⟩, ?_⟩
  refine zev (K := K) (a := l5) (xs := ms.map V.str) (CtI U5 st cc ms) ⟨Same.refl _, ⟨_, rfl⟩, by rw [List.take_zero]; exact .nil, Nat.le_refl _⟩ (by rw [List.length_map]; exact Nat.lt_of_le_of_lt hml (by decide)) ?_ ?_ ?_ ?_
  ·rintro i ys σ' H' ⟨_, _, _, hy⟩
   exact hy
  ·rintro i ys σ' H' _ ⟨sU, _, _⟩
   exact SqL.of (sU _ _ hl5)
  ·rintro i ys v' σ' H' hxi ⟨sU, ⟨t, rfl⟩, dy, hy⟩
   rw [List.getElem?_map] at hxi
   cases hmi : ms[i]? with
   | none => rw [hmi] at hxi; cases hxi
   | some x =>
    rw [hmi] at hxi
    cases hxi
    obtain ⟨pr, hpr, ex⟩ := List.mem_map.mp (hp5.mem_iff.mp (List.mem_of_getElem? hmi))
    have hgx : zbl cc x = some pr.2 := by rw [← ex]; exact zjx hk2.1 pr hpr
    have hg : DGet H' d (.str x) (some (.int pr.2)) := by
     have := DGet.k (k := Sum.inr x) (sU _ _ hd5)
     rw [znm, hgx] at this
     exact this
    walk_at "rd7"
    refine ⟨_, SqT.of (sU _ _ hst5), _, z0k, d, rfl, _, hg, by decide, fun p6 h6 => ?_⟩
    have v6 := z04 h6 (HO.tup [V.str x, V.int pr.2])
    refine ⟨sU.trans v6, ⟨_, rfl⟩, ?_, by rw [List.length_append, List.length_singleton]; omega⟩
    rw [zbb hmi]
    unfold zpg at dy ⊢
    rw [List.map_append, List.map_append]
    refine (dy.kp v6.kp).append (.cons ?_ .nil)
    show Dt _ (V.ref p6) (zmo (x, (zbl cc x).getD 0))
    rw [hgx]
    exact .tup z01 (.cons (.str _) (.cons (.int _) .nil))
  ·rintro ys σ' H6 ⟨sU, _, dy, _⟩ pe hpe
   have v6 := z04 hpe (HO.lst ys)
   rw [List.length_map, List.take_length] at dy
   refine ⟨pe, rfl, ys, .inl ⟨SqL.of z01, fun l7 h7 => ⟨by decide, fun p8 h8 => ?_⟩⟩⟩
   have v7 := z04 h7 (HO.tup ys)
   have v8 := z04 h8 (HO.tup [V.str "told", V.ref l7])
   have v68 := sU.trans (v6.trans (v7.trans v8))
   refine ⟨_, SqT.of (v68 _ _ hst5), _, z0x (j := 1) rfl, by decide, fun p9 h9 => ?_⟩
   have v9 := z04 h9 (HO.tup [V.ref p8, V.ref ls])
   refine q p9 ls (.ref p8) ys2 _ (S5.trans (v68.trans v9)) z01 ?_ ((v68.trans v9) _ _ ls5) (dys5.kp (v68.trans v9).kp)
   refine ⟨zpg cc ms, zpk hk2 hp5, zpj hk2 hp5 hs5, .tup (v9 _ _ z01) (.cons (.str _) (.cons (.tup ((v8.trans v9) _ _ z01) (dy.kp (v6.trans (v7.trans (v8.trans v9))).kp)) .nil))⟩
end
section
variable {P : Program} {w : World} {K : PySem.W.Frag} {mg : Str → Option Value} {base : Heap} {f : Addr} {fd : FuncData}
abbrev q1m : List Value := [.type "ValueError", .type "Exception", .type "BaseException", .type "object"]
theorem Df.calleeX {x : Str} {st : Stmt} {ps : List Str} {k : Nat} {sp : Sp} (d : Df K mg x st ps f fd) (h : FnOk P w K mg base (CX1 P w) k f fd ps sp) : CalleeX P w K mg base x ps k sp := ⟨f, fd, h, d.m, d.F.kp, d.b⟩
theorem FunC.okx {x qual : Str} {st : Stmt} {f c : Addr} {fd : FuncData} {N ps : List Str} {k : Nat} {sp : Sp} (F : FunC K x qual st f fd c) (S : FnScope N ps (defScope st)) (len : ∀ vs H Q E, sp vs H Q E → vs.length = ps.length)
  (hbody : ∀ (A : Around) (outer : List PySem.Env) (s : Shared) (H : Hp) (vs : List V) (Q : VK) (E : XK), Room k (A.deeper (PyProof.Rows.envOfC qual (defScope st) s.heap.objs.size f (.ref c))) → sp vs H Q E →
   ∃ t, PSs (z8v (CX1 P w) P w K mg base N qual (defScope st) f (.ref c) A outer s H E) (defBody st) t ∧ t { nx := fun _ H' => Q .non H', rt := Q } (L2.start N vs) H) : FnOk P w K mg base (CX1 P w) (k + 1) f fd ps sp := by
 obtain ⟨oc, od, kV, doc, pm, an, ct, osl, rfl, lk, hcd⟩ := F.ex
 exact zur lk hcd S len fun A outer s H vs Q E hr hsp => hbody A outer s H vs Q E hr hsp
def znz (C : Addr) : Sp := fun vs H _ E => ∃ (iv wv : V) (rows : List Rw) (ws : List Int), vs = [iv, wv] ∧ Dt H iv (.tup (rows.map z70)) ∧ Dt H wv (z3i ws) ∧ okRows rows ∧ ¬ Fits rows ws ∧ ∀ H', Same H H' → E (.ref C) none H'
def FsX (H : Hp) (ia wa d : Addr) (rows : List Rw) (ws : List Int) (i : Nat) (σ : St) (Hc : Hp) : Prop := FsI H ia wa d rows ws i σ Hc ∧ Fits (rows.take i) (ws.take i)
def zjc (C : Addr) : Sp := fun vs H _ E => ∃ (gv wv sv : V) (rows : List Rw) (bd : Dm) (ws : List Int), vs = [gv, wv, sv] ∧ Dt H gv (.tup [.tup (rows.map z70), bd]) ∧ Dt H wv (z3i ws) ∧ okRows rows ∧ ¬ Fits rows ws ∧ ∀ H', Same H H' → E (.ref C) none H'
def zv6 (pt C : Addr) : Sp := fun vs H _ E => ∃ (gv wv : V) (rows : List Rw) (bd : Dm) (ws : List Int), vs = [gv, wv] ∧ Dt H gv (.tup [.tup (rows.map z70), bd]) ∧ Dt H wv (z3i ws) ∧ okRows rows ∧ ¬ Fits rows ws ∧ TabAt pt zw4 dR.qual H ∧ ∀ H', SameB pt H H' → E (.ref C) none H'
def zkj (pt : Addr) : Sp := fun vs H Q _ => ∃ (gv wv : V) (rows : List Rw) (bd : Dm) (ws : List Int), vs = [gv, wv] ∧ Dt H gv (.tup [.tup (rows.map z70), bd]) ∧ Dt H wv (z3i ws) ∧ okRows rows ∧ ¬ Fits rows ws ∧ TabAt pt zw4 dR.qual H ∧ ∀ H', Q (.bl true) H'
theorem ze3 {a_NoWorths : Addr} (F : Fun K "names_at_first" "names_at_first" z0d f fd) (x_NoWorths : PySem.W.nsIn K mainGlobals "NoWorths" = some (some (.ref a_NoWorths))) (q_NoWorths : PySem.W.excIn K a_NoWorths q1m "ValueError.__new__" = true) (b_len : mg "len" = none) (b_zip : mg "zip" = none) (c_is_tuple_of : Callee P w K mg base "is_tuple_of" ["thing", "many"] 1 zm7) (c_is_whole_from : Callee P w K mg base "is_whole_from" ["thing", "low", "high"] 2 zqt) : FnOk P w K mg base (CX1 P w) 3 f fd ["ins", "worths"] (znz a_NoWorths) := by
 refine F.okx sc_names_at_first (fun vs H Q E h => ?_) (fun cdv A outer s H vs Q E hr h => ?_)
 ·obtain ⟨iv, wv, rows, ws, rfl, _⟩ := h
  rfl
 obtain ⟨iv, wv, rows, ws, rfl, hi, hw, hrow, hnf, q⟩ := h
 obtain ⟨ia, is, rfl, hia, dia⟩ := hi.tupI
 obtain ⟨wa, us, rfl, hwa, dwa⟩ := hw.tupI
 have lis : is.length = rows.length := by rw [dia.length, List.length_map]
 have lus : us.length = ws.length := by rw [dwa.length, List.length_map]
 refine ⟨_, (z06 (z2m (zks (zkr (z1y c_is_tuple_of hr (by omega) (z07 (z00 (i := 1) rfl z2q z5w z5z) (z07 (z75 zuq z6i b_len zf0 (z07 (z00 (i := 0) rfl z3l zor zox) z03) ze6 zen) z03)) z4j zcw))) (z08 (zkt x_NoWorths q_NoWorths PySem.F.excBase_ValueError (by decide +kernel) PySem.F.excBase_ValueError (z07 z0l z03) z55 zdh)) z0s)
 (z06 (z1d (i := 2) sc_names_at_first.nd rfl z5j zoa (z05 rfl))
 (z06 (zcu PassesOwn.leaving rfl (zmj z6h b_zip (z07 (z00 (i := 0) rfl z3l zor zox) (z07 (z00 (i := 1) rfl z2q z5w z5z) z03))) (zcv (n := 2) rfl (z2d (z1w (i := 3) sc_names_at_first.nd rfl z65) (z2d (z1w (i := 4) sc_names_at_first.nd rfl z5i) z8g)))
 (z06 (z2m (zks (zkr (z1y c_is_whole_from hr (by omega) (z07 (z00 (i := 4) rfl z2w z5x z60) (z07 (z0w ix_tup (z00 (i := 3) rfl z1z zj2 zj3) z02 (fun _ _ => rfl)) (z07 (z0w ix_tup (z00 (i := 3) rfl z1z zj2 zj3) z02 (fun _ _ => rfl)) z03))) z43 zap))) (z08 (zkt x_NoWorths q_NoWorths PySem.F.excBase_ValueError (by decide +kernel) PySem.F.excBase_ValueError (z07 z0l z03) z55 zdh)) z0s)
 (z08 (zjf hr.units1 (z00 (i := 2) rfl z2x z2j z2k) (z0w ix_tup (z00 (i := 3) rfl z1z zj2 zj3) z02 (fun _ _ => rfl)) (z00 (i := 4) rfl z2w z5x z60) (z05 rfl)))))
 (z08 (z0q (z00 (i := 2) rfl z2x z2j z2k)))))), z0f fun N1 e1 => ?_⟩
 walk_at "rd7"
 refine ⟨_, .inl ⟨ia, is, rfl, .inr (SqT.of hia), rfl⟩, ?_⟩
 refine ⟨_, _, _, rfl, hw, fun H1 s1 => ⟨_, rfl, ?_⟩⟩
 by_cases hlen : rows.length = ws.length
 case neg =>
  have hy : zum (z3i ws) (is.length : Int) = false := by
   show decide _ = false
   rw [decide_eq_false_iff_not, List.length_map, lis]
   omega
  rw [if_pos (by rw [hy])]
  exact ⟨by decide, q _ s1⟩
 have hy : zum (z3i ws) (is.length : Int) = true := by
  show decide _ = true
  rw [decide_eq_true_eq, List.length_map, lis, hlen]
 rw [if_neg (by rw [hy]; decide)]
 rw [e1]
 refine z0f fun N2 e2 => ?_
 walk_at "rd7"
 intro d hdn
 have s2 := z04 hdn (HO.dK [])
 have s12 := s1.trans s2
 have hdf : H d = none := s1.free hdn
 rw [e2]
 refine z0f fun N3 e3 => ?_
 walk_at "rd7"
 refine ⟨_, _, ⟨rfl, rfl⟩, ⟨_, SqT.of (s12 _ _ hia)⟩, ⟨_, SqT.of (s12 _ _ hwa)⟩, ?_⟩
 refine zoj (xs := is) (ys := us) (by omega) (FsX H ia wa d rows ws) ?start ?lst ?step ?done
 case start => exact ⟨⟨_, _, rfl, s12, z01⟩, trivial⟩
 case lst =>
  rintro i σ Hc _ ⟨⟨_, _, rfl, sc, _⟩, _⟩
  exact ⟨SqT.of (sc _ _ hia), SqT.of (sc _ _ hwa)⟩
 case done =>
  rintro σ Hc ⟨_, hc⟩
  rw [lis, List.take_length, hlen, List.take_length] at hc
  exact absurd hc hnf
 case step =>
  rintro i x y σ Hc T hx hy ⟨⟨_, _, rfl, sc, hc⟩, hft⟩ hT
  obtain ⟨r, hri, dr⟩ := zaj dia hx
  obtain ⟨wd, hwi, dw⟩ := zaj dwa hy
  cases dw
  obtain ⟨ra, r0, r1, r2, rfl, hra, t0, t1, t2⟩ := zqi dr
  cases t0; cases t1; cases t2
  have s3 := z04 hT (HO.tup [V.ref ra, V.int wd])
  have hra3 := s3 _ _ (sc _ _ hra)
  have hk := zf8 (rows.take i) (ws.take i) [] (fun r hr => zbc hrow r (List.mem_of_mem_take hr)) KeyOk.nil
  walk_at "rd7"
  refine ⟨_, SqT.of z01, rfl, _, _, rfl, _, _, rfl, rfl, _, rfl, _, SqT.of hra3, _, z0x (j := 1) rfl, _, rfl, _, SqT.of hra3, _, z0x (j := 2) rfl, ?_⟩
  refine ⟨_, _, _, _, rfl, .int wd, fun H2 s4 => ⟨_, rfl, ?_⟩⟩
  by_cases hf : r.2.1 ≤ wd ∧ wd ≤ r.2.2
  case neg =>
   have hy : zog (.int wd) r.2.1 r.2.2 = false := by
    show (decide (r.2.1 ≤ wd) && decide (wd ≤ r.2.2)) = false
    rw [Bool.and_eq_false_iff, decide_eq_false_iff_not, decide_eq_false_iff_not]
    omega
   rw [if_pos (by rw [hy])]
   exact ⟨by decide, q _ (sc.trans (s3.trans s4))⟩
  have hy : zog (.int wd) r.2.1 r.2.2 = true := by
   show (decide (r.2.1 ≤ wd) && decide (wd ≤ r.2.2)) = true
   simp [hf.1, hf.2]
  rw [if_neg (by rw [hy]; decide)]
  have hc4 := s4 _ _ (s3 _ _ hc)
  refine ⟨_, rfl, _, SqT.of (s4 _ _ hra3), _, z0k, _, DPut.k (k := Sum.inr r.1) hc4 ?_, ?_⟩
  ·unfold kvC
   rw [List.length_map]
   exact Nat.lt_of_le_of_lt hk.len (by decide)
  ·refine ⟨⟨_, _, rfl, z7y (sc.trans (s3.trans s4)) hdf, ?_⟩, ?_⟩
   ·rw [z01, zkq, zjb [] hri hwi]
   ·rw [zbb hri, zbb hwi]
    exact hft.snoc hf.1 hf.2
theorem zpn {C : Addr} (F : Fun K "run_by" "run_by" z38 f fd) (b_sorted : mg "sorted" = none) (b_tuple : mg "tuple" = none) (cx_names_at_first : CalleeX P w K mg base "names_at_first" ["ins", "worths"] 3 (znz C)) (c_do_block : Callee P w K mg base "do_block" ["block", "path", "names", "settle"] 20 (zkm 4)) : FnOk P w K mg base (CX1 P w) 21 f fd ["program", "worths", "settle"] (zjc C) := by
 refine F.okx sc_run_by (fun vs H Q E h => ?_) (fun cdv A outer s H vs Q E hr h => ?_)
 ·obtain ⟨gv, wv, sv, rows, bd, ws, rfl, _⟩ := h
  rfl
 obtain ⟨gv, wv, sv, rows, bd, ws, rfl, hg, hw, hrow, hnf, q⟩ := h
 obtain ⟨ga, iv, bv, rfl, hga, di, db⟩ := zqj hg
 refine ⟨_, (z06 (z1d (i := 3) sc_run_by.nd rfl zak (zvd cx_names_at_first zr9 hr (by omega) (z07 (z0w ix_tup (z00 (i := 0) rfl z4q z6a z6b) z02 (fun _ _ => rfl)) (z07 (z00 (i := 1) rfl z8x z5w z5z) z03)) z5l z9f) (z05 rfl))
 (z06 (z1d (i := 4) sc_run_by.nd rfl z81 (z1y c_do_block hr (by omega) (z07 (z0w ix_tup (z00 (i := 0) rfl z4q z6a z6b) z02 (fun _ _ => rfl)) (z07 (z14 z03) (z07 (z00 (i := 3) rfl z5b z2j z2k) (z07 (z00 (i := 2) rfl z8y z2n z2o) z03)))) z82 z7r) (z05 rfl))
 (z06 (z2m (z0c zup (z00 (i := 4) rfl z4p z5m z5o) zah (z0m _)) (z08 (z0q (z00 (i := 4) rfl z4p z5m z5o))) z0s)
 (z08 (z0q (z14 (z07 z0l (z07 (zml z62 zbg b_tuple zc7 (z07 (z75 (zaq rfl) zal b_sorted zez (z07 (zo9 (z00 (i := 3) rfl z5b z2j z2k)) z03) ze5 zem) z03) zc1 zc3) z03)))))))), z0f fun N1 e1 => ?_⟩
 walk_at "rd7"
 exact ⟨_, SqT.of hga, _, z0k, iv, wv, rows, ws, rfl, di, hw, hrow, hnf, q⟩
theorem zwd {c pt C : Addr} (F : FunC K "run" "run" zdy f fd c) (hC : PySem.W.CodeHd base c pt) (hB : base.BuiltinsAt mg pt) (hgP : mainGlobals ≠ pt) (cx_run_by : CalleeX P w K mg base "run_by" ["program", "worths", "settle"] 21 (zjc C)) : FnOk P w K mg base (CX1 P w) 22 f fd ["program", "worths"] (zv6 pt C) := by
 refine F.okx zv9 (fun vs H Q E h => ?_) (fun A outer s H vs Q E hr h => ?_)
 ·obtain ⟨gv, wv, rows, bd, ws, rfl, _⟩ := h
  rfl
 obtain ⟨gv, wv, rows, bd, ws, rfl, hg, hw, hrow, hnf, hT, q⟩ := h
 refine ⟨_, (z08 (z0q (zvd cx_run_by zr9 hr (by omega) (z07 (z00 (i := 0) rfl zb7 z6a z6b) (z07 (z00 (i := 1) rfl zcs z5w z5z) (z07 (zr6 (c := c) (P := pt) rfl rfl rfl hC hB hgP) z03))) ze9 zht))), ?_⟩
 walk_at "rd7"
 show zy7 pt zw4 dR [] [some gv, some wv] H fun x H1 => zjc C [gv, wv, x] H1 Q E
 refine zjq hT fun fa c' H2 sB kp hfa hf hc hT2 => ?_
 exact ⟨gv, wv, .ref fa, rows, bd, ws, rfl, hg.kp kp, hw.kp kp, hrow, hnf, fun H' s' => q H' fun a o n e => s' _ _ (sB a o n e)⟩
end
local macro_rules | `(tactic| walk_at "rd9") => `(tactic| simp only [q0p, q0w, zmg, zf7, znt, zgv, zvu, zvw, znr, zkn, q0u, zmf, zqp, zd0, zq9, zth, zj7, tOp, zqk, tC, zxq, zpz, zxv, zs8, zzk, zy5, zto, zqo, zqn, tCB, zj8, zvv, zp7, tUn, rU, rI0, rI, zvx, tOr, zy6, tB, zqr, q08, zqm, tIf, zy8, ztp, zkh, zqq, zns, zqw, zkf, ztr, zil, zts, tSl, zgu, zql, zyd, zj9, zko, zpf, zqz, zdt, zf6, zgi, zdq, zdw,  zes, zot, z7c, zc4, zk5, zet, za7, z7d, za8, zgo, zeu, za9, zby, znu, zye, q0b, tDX, q09, zy4, zxp, tBM,
 qEq, qNe, qIn, ziq, zyi, zqy, q0f, zu0, zyh, zr0, q0g, zyg, zu1, zu2, zkp, rIx, zxs, ztj, zxr, zyf, q0c, zty, q0e, q0d, zh5, zh4, zke, znv, zy3,
 zgj, zds, zdr, zdu, zbz, zdv, L2.start, zou, zc5, zgp, List.map_cons, List.map_nil, List.length_cons, List.length_nil, List.replicate_succ, List.replicate_zero, Nat.reduceAdd, Nat.reduceSub, Nat.zero_add, Nat.add_zero, Nat.sub_zero, Nat.sub_self, Nat.add_sub_cancel,
 List.getElem?_cons_zero, List.getElem?_cons_succ, List.set_cons_zero, List.set_cons_succ, List.cons_append, List.nil_append, List.append_nil, List.cons.injEq, Option.some.injEq, V.int.injEq, V.ref.injEq, V.str.injEq, V.bl.injEq, V.ty.injEq,
 reduceCtorEq, false_and, and_false, and_true, true_and, exists_false, exists_const, false_or, or_false, exists_eq_left, exists_eq_left', exists_eq_right, exists_eq_right', exists_and_left, decide_eq_true_eq, Bool.not_eq_true', Bool.decide_eq_true, exists_eq, true_or, or_true, Bool.false_eq_true, if_true, if_false, Bool.true_eq_false, Bool.not_true, Bool.not_false, decide_true, decide_false, List.isEmpty_cons, List.isEmpty_nil, Bool.true_and, Bool.false_and, bne_self_eq_false, beq_self_eq_true])
section
variable {P : Program} {w : World} {K : PySem.W.Frag} {mg : Str → Option Value} {base : Heap} {f : Addr} {fd : FuncData}
theorem zi9 {pt a_RoomError a_NoWorths a_BadPaper a_BadPlan a_NoProgram a_NoText : Addr} (F : Fun K "_law_refused" "_law_refused" z0i f fd) (b_isinstance : mg "isinstance" = none) (b_ValueError : mg "ValueError" = none)
  (m_RoomError : mg "RoomError" = some (.ref a_RoomError)) (m_NoWorths : mg "NoWorths" = some (.ref a_NoWorths)) (m_BadPaper : mg "BadPaper" = some (.ref a_BadPaper)) (m_BadPlan : mg "BadPlan" = some (.ref a_BadPlan)) (m_NoProgram : mg "NoProgram" = some (.ref a_NoProgram)) (m_NoText : mg "NoText" = some (.ref a_NoText))
  (ec : ExcC K a_NoWorths) (xm : PySem.W.exmOne K (.ref a_NoWorths) (.ref a_RoomError) = some true) (k1 : PySem.W.kitOne K (.ref a_NoWorths) (.ref a_BadPaper) = some false) (k2 : PySem.W.kitOne K (.ref a_NoWorths) (.ref a_BadPlan) = some false) (k3 : PySem.W.kitOne K (.ref a_NoWorths) (.ref a_NoProgram) = some false) (k4 : PySem.W.kitOne K (.ref a_NoWorths) (.ref a_NoText) = some false)
  (k5 : PySem.W.kitOne K (.ref a_NoWorths) (.ref a_NoWorths) = some true) (k6 : PySem.W.kitOne K (.ref a_NoWorths) (.type "ValueError") = some true) (cx_run : CalleeX P w K mg base "run" ["program", "worths"] 22 (zv6 pt a_NoWorths)) : FnOk P w K mg base CX0 23 f fd ["_law_program_here", "_law_worths"] (zkj pt) := by
 refine F.ok sc_law_refused (fun vs H Q E h => ?_) (fun cdv A outer s H vs Q E hr h => ?_)
 ·obtain ⟨gv, wv, rows, bd, ws, rfl, _⟩ := h
  rfl
 obtain ⟨gv, wv, rows, bd, ws, rfl, hg, hw, hrow, hnf, hT, q⟩ := h
 refine ⟨_, (z06 (z1d (i := 2) sc_law_refused.nd rfl z8j zah (z05 rfl))
 (z06 (zyk (i := 3) (q := 2) cx_run hr (by omega) (z07 (z00 (i := 0) rfl z5r z0t z0u) (z07 (z00 (i := 1) rfl z7f z24 z25) z03)) rfl rfl rfl m_RoomError z9b sc_law_refused.nd rfl zfl rfl z8p (by decide) zed zvm zlk q2a q2b rfl (z05 rfl) (z05 rfl))
 (z06 (z1d (i := 4) sc_law_refused.nd rfl z7u (z3h (z07 (z75 zc6 z1h b_isinstance z3b (z07 (z00 (i := 2) rfl z1g z5n z5p) (z07 (zff (v := V.ref a_BadPaper) z9y m_BadPaper rfl zne) z03)) z39 z3a) (z07 (z75 zc6 z1h b_isinstance z3b (z07 (z00 (i := 2) rfl z1g z5n z5p) (z07 (zff (v := V.ref a_BadPlan) zb3 m_BadPlan rfl zq2) z03)) z39 z3a) (z07 (z75 zc6 z1h b_isinstance z3b (z07 (z00 (i := 2) rfl z1g z5n z5p) (z07 (zff (v := V.ref a_NoProgram) z9c m_NoProgram rfl zll) z03)) z39 z3a) z03)))) (z05 rfl))
 (z06 (z4v (ze1 PySem.F.plainAttrs_list PySem.F.slot_list_append PySem.F.type_list_append z4w (z00 (i := 4) rfl z53 zep zex) (z07 (z75 zc6 z1h b_isinstance z3b (z07 (z00 (i := 2) rfl z1g z5n z5p) (z07 (zff (v := V.ref a_NoText) zbh m_NoText rfl zst) z03)) z39 z3a) z03)) (z05 rfl))
 (z08 (z0q (zit (z75 zc6 z1h b_isinstance z3b (z07 (z00 (i := 2) rfl z1g z5n z5p) (z07 (zff (v := V.ref a_NoWorths) z9x m_NoWorths rfl zdh) z03)) z39 z3a) (zit (z75 zc6 z1h b_isinstance z3b (z07 (z00 (i := 2) rfl z1g z5n z5p) (z07 (zjj (v := V.ty "ValueError") z8q b_ValueError zk9 rfl zjn zk4) z03)) z39 z3a) (zo8 (zji zbd (ze1 PySem.F.plainAttrs_list PySem.F.slot_list_count PySem.F.type_list_count zrm (z00 (i := 4) rfl z53 zep zex) (z07 zw7 z03)) z02 (z0m _))))))))))), z0f fun N1 e1 => ?_⟩
 walk_at "rd9"
 rw [e1]
 refine z0f fun N2 e2 => ?_
 walk_at "rd9"
 refine ⟨gv, wv, rows, bd, ws, rfl, hg, hw, hrow, hnf, hT, fun H2 sB => ⟨_, rfl, xm, fun x hx => ?_⟩⟩
 have hxx : (upd H2 x (HO.exc x a_NoWorths)) x = some (HO.exc x a_NoWorths) := z01
 generalize upd H2 x (HO.exc x a_NoWorths) = H3 at hxx ⊢
 rw [e2]
 refine z0f fun N3 e3 => ?_
 walk_at "rd9"
 refine ⟨_, _, _, ⟨rfl, rfl⟩, hxx, _, rfl, fun _ z => z, ec, _, k1, _, _, _, ⟨rfl, rfl⟩, hxx, _, rfl, fun _ z => z, ec, _, k2, _, _, _, ⟨rfl, rfl⟩, hxx, _, rfl, fun _ z => z, ec, _, k3, by decide, fun l hl => ?_⟩
 have s4 := z04 hl (HO.lst [V.bl false, V.bl false, V.bl false])
 have hx4 := s4 _ _ hxx
 have hnl : x ≠ l := z0h hxx hl
 rw [e3]
 refine z0f fun N4 e4 => ?_
 walk_at "rd9"
 refine ⟨.inl ⟨rfl, _, SqL.of z01⟩, _, _, _, ⟨rfl, rfl⟩, hx4, _, rfl, fun _ z => z, ec, _, k4, _, z01, by decide, ?_⟩
 rw [e4]
 have hx5 : (upd (upd H3 l (HO.lst [V.bl false, V.bl false, V.bl false])) l (HO.lst ([V.bl false, V.bl false, V.bl false] ++ [V.bl false]))) x = some (HO.exc x a_NoWorths) := by rw [z0e hnl]; exact hx4
 walk_at "rd9"
 refine ⟨_, _, _, ⟨rfl, rfl⟩, hx5, _, rfl, fun _ z => z, ec, _, k5, ?_⟩
 rw [if_pos rfl]
 refine ⟨_, _, _, ⟨rfl, rfl⟩, hx5, _, rfl, fun _ z => z, ec, _, k6, ?_⟩
 rw [if_pos rfl]
 exact ⟨.inl ⟨rfl, _, SqL.of z01⟩, [false, false, false, false], z01, q _⟩
end
section
variable {P : Program} {w : World} {K : PySem.W.Frag} {mg : Str → Option Value} {base : Heap} {f : Addr} {fd : FuncData}
theorem SameB.tab {pt : Addr} {pos : Pos} {q : Str} {H H' : Hp} (s : SameB pt H H') (h : TabAt pt pos q H) : Kp H H' := by
 obtain ⟨ps, e⟩ := h.tbl
 exact s.kpT e
theorem TabAt.same {pt : Addr} {pos : Pos} {q : Str} {H H' : Hp} (h : TabAt pt pos q H) (s : Same H H') : TabAt pt pos q H' := h.kp fun a o _ e => s a o e
def ztt (K : PySem.W.Frag) (p1 p2 : Addr) : Sp := fun vs H Q _ => ∃ (a : Addr) (ns : List Int), vs = [.ref a] ∧ SqL K H a (ns.map V.int) ∧ ns.length ≤ 63 ∧ H p1 = some (.tbl #[]) ∧ H p2 = some (.tbl #[]) ∧ ∀ H', Q (.bl true) H'
def LxI (H0 : Hp) (p1 p2 : Addr) (x0 x1 x2 : Option V) (i : Nat) (σ : St) (Hc : Hp) : Prop := ∃ (x3 x4 x5 : Option V), σ = [x0, x1, x2, x3, x4, x5] ∧ SameC p1 p2 H0 Hc ∧ TabAt p1 zw4 dR.qual Hc ∧ TabAt p2 zym dT.qual Hc
theorem zu8 {o : Out} {H1 H2 : Hp} {r1 r2 : V} (hw : ∀ e, o.1 = some e → e.1 ∈ z5q) (hk : o.1 = none → ∀ p ∈ o.2.1, p.1 ∈ pool) (h1 : zxt o H1 r1) (h2 : zxt o H2 r2) : ∃ d, Dt H1 r1 d ∧ Dt H2 r2 d ∧ Fine 4 d := by
 unfold zxt at h1 h2
 rcases o with ⟨oo, cc, rr⟩
 cases oo with
 | some e =>
  refine ⟨_, h1, h2, ?_⟩
  show Fine 4 (.tup [.str "refused", .str e.1, z3i e.2])
  refine za1 fun d hd => ?_
  simp only [List.mem_cons, List.not_mem_nil, or_false] at hd
  rcases hd with rfl | rfl | rfl
  ·exact zej _ (by decide +kernel)
  ·exact zej _ (zkb _ (hw e rfl))
  ·exact (zbm e.2).mono (by decide)
 | none =>
  obtain ⟨ms, a1, a2, a3⟩ := h1
  obtain ⟨ns, b1, b2, b3⟩ := h2
  obtain rfl : ms = ns := zh1 (fun x => a1.mem_iff.trans b1.mem_iff.symm) a2 b2
  refine ⟨_, a3, b3, ?_⟩
  refine za1 fun d hd => ?_
  simp only [List.mem_cons, List.not_mem_nil, or_false] at hd
  rcases hd with rfl | rfl
  ·exact zej _ (by decide +kernel)
  ·refine (za1 (n := 2) fun d hd => ?_)
   obtain ⟨p, hp, rfl⟩ := List.mem_map.mp hd
   refine za1 (n := 1) fun d hd => ?_
   simp only [List.mem_cons, List.not_mem_nil, or_false] at hd
   rcases hd with rfl | rfl
   ·exact zej _ (zw5 _ (hk rfl p (a1.mem_iff.mp hp)))
   ·exact zjy _ _
theorem zq0 (l : List RI) : zh2 (l.map zm0) = true ∧ SeqAt.shaped (.list (zgf (l.map zm0))) = true ∧ PyData.canLay0 (.list (zgf (l.map zm0))) = true := by
 obtain ⟨a, b, c⟩ := zus (ds := l.map zm0) (n := 2) fun d hd => by
  obtain ⟨p, _, rfl⟩ := List.mem_map.mp hd
  refine za1 fun d hd => ?_
  simp only [List.mem_cons, List.not_mem_nil, or_false] at hd
  rcases hd with rfl | rfl
  ·exact zbm p.1
  ·exact zjy _ _
 have h : PyData.canLay0 (.list (zgf (l.map zm0))) = true := by simpa [PyData.canLay0] using b
 refine ⟨a, ?_, h⟩
 unfold SeqAt.shaped
 rw [h, Bool.true_and, decide_eq_true_eq]
 simp only [PyData.depth]
 omega
theorem zp2 {rows : List Rw} {ws : List Int} (h : Fits rows ws) (z : Int) : ¬ Fits rows (ws ++ [z]) := fun k => by
 have a := h.len
 have b := k.len
 rw [List.length_append, List.length_singleton] at b
 omega
theorem zp3 {rows : List Rw} {ws : List Int} (h : Fits rows ws) (n : ws ≠ []) : ¬ Fits rows (ws.drop 1) := fun k => by
 have a := h.len
 have b := k.len
 have c := List.length_pos_iff.mpr n
 rw [List.length_drop] at b
 omega
theorem zik {rows : List Rw} {ws : List Int} {r : Rw} {z : Int} (h : Fits rows ws) (hr : rows[rows.length - 1]? = some r) (hz : z < r.2.1 ∨ r.2.2 < z) : ¬ Fits rows (ws.take (ws.length - 1) ++ [z]) := fun k => by
 have a := h.len
 have tl : (ws.take (ws.length - 1)).length = rows.length - 1 := by rw [List.length_take]; omega
 have e2 : (ws.take (ws.length - 1) ++ [z])[rows.length - 1]? = some z := by rw [List.getElem?_append_right (by omega), tl, Nat.sub_self]; rfl
 have := k.at hr e2
 omega
theorem zoy {xs : List V} {v : V} (h : xs[xs.length - 1]? = some v) : atI xs (-1) = some v := by
 rcases List.eq_nil_or_concat xs with rfl | ⟨ys, w, rfl⟩
 ·simp at h
 ·rw [List.concat_eq_append] at h ⊢
  simp at h
  subst h
  exact zv5 ys w
theorem zse (ws : List Int) : PyData.eqv (z3i ws).dat (z3i []).dat = ws.isEmpty := by
 cases ws with
 | nil => rfl
 | cons d ds => simp [z3i, Dm.dat, zgf, PyData.eqv, PyData.eqvAll]
theorem zx8 (ws : List Int) : zvo (ws.map Dm.int) (some 1) none = (ws.drop 1).map Dm.int := by
 rw [show (1 : Int) = ((1 : Nat) : Int) from rfl, zv1, List.map_drop]
theorem zov (ws : List Int) : zvo (ws.map Dm.int) none (some (-1)) = (ws.take (ws.length - 1)).map Dm.int := by
 unfold zvo
 rw [HT.zo0, List.drop_zero, Nat.sub_zero, List.map_take, List.length_map]
 congr 1
 show (if (-1 : Int) < 0 then ((-1 : Int) + (ws.length : Int)).toNat else min (-1 : Int).toNat ws.length) = _
 rw [if_pos (by decide)]
 omega
theorem SameC.seq {p1 p2 : Addr} {H H' : Hp} {s1 s2 : Array Value} (h : SameC p1 p2 H H') (h1 : H p1 = some (.tbl s1)) (h2 : H p2 = some (.tbl s2)) {a : Addr} {xs : List V} (e : SqL K H a xs) : SqL K H' a xs := by
 rcases e with (e | ⟨o, e⟩) | e
 ·exact .inl (.inl (h.keep h1 h2 (by intro s z; cases z) e))
 ·exact .inl (.inr ⟨o, h.keep h1 h2 (by intro s z; cases z) e⟩)
 ·exact .inr e
end
local macro_rules | `(tactic| walk_at "rd10") => `(tactic| simp only [q0p, q0w, zmg, zf7, znt, zgv, zvu, zvw, znr, zkn, q0u, zmf, zqp, zd0, zq9, zth, zj7, tOp, zqk, tC, zxq, zpz, zxv, zs8, zzk, zy5, zto, zqo, zqn, tCB, zj8, zvv, zp7, tUn, rU, rI0, rI, zvx, tOr, zy6, tB, zqr, q08, zqm, tIf, zy8, ztp, zkh, zqq, zns, zqw, zkf, ztr, zil, zts, tSl, zgu, zql, zyd, zj9, zko, zpf, zqz, zdt, zf6, zgi, zdq, zdw,  zes, zot, z7c, zc4, zk5, zet, za7, z7d, za8, zgo, zeu, za9, zby, znu, q0b, tDX, q09, zy4, zxp, tBM,
 qEq, qNe, qIn, ziq, zyi, zqy, q0f, zu0, zyh, zr0, q0g, zyg, zu1, zu2, zkp, rIx, zxs, ztj, zxr, zyf, q0c, zty, q0e, q0d, zh5, zh4, zke, znv, zy3,
 zgj, zds, zdr, zdu, zbz, zdv, L2.start, zou, zc5, zgp, List.map_cons, List.map_nil, List.length_cons, List.length_nil, List.replicate_succ, List.replicate_zero, Nat.reduceAdd, Nat.reduceSub, Nat.zero_add, Nat.add_zero, Nat.sub_zero, Nat.sub_self, Nat.add_sub_cancel,
 List.getElem?_cons_zero, List.getElem?_cons_succ, List.set_cons_zero, List.set_cons_succ, List.cons_append, List.nil_append, List.append_nil, List.cons.injEq, Option.some.injEq, V.int.injEq, V.ref.injEq, V.str.injEq, V.bl.injEq, V.ty.injEq,
 reduceCtorEq, false_and, and_false, and_true, true_and, exists_false, exists_const, false_or, or_false, exists_eq_left, exists_eq_left', exists_eq_right, exists_eq_right', exists_and_left, decide_eq_true_eq, Bool.not_eq_true', Bool.decide_eq_true, exists_eq, true_or, or_true, Bool.false_eq_true, if_true, if_false, Bool.true_eq_false, Bool.not_true, Bool.not_false, decide_true, decide_false, List.isEmpty_cons, List.isEmpty_nil, Bool.true_and, Bool.false_and, bne_self_eq_false, beq_self_eq_true])
section
variable {P : Program} {w : World} {K : PySem.W.Frag} {mg : Str → Option Value} {base : Heap} {f : Addr} {fd : FuncData}
theorem zyz {p1 p2 : Addr} (h12 : p1 ≠ p2) (F : Fun K "law" "law" z63 f fd) (b_len : mg "len" = none) (c_law_program : Callee P w K mg base "_law_program" ["_law_script", "_law_at"] 11 (zkk K)) (c_law_pick : Callee P w K mg base "_law_pick" ["_law_script", "_law_k", "_law_many"] 2 (zdx K))
  (c_law_all_worths : Callee P w K mg base "_law_all_worths" ["_law_program_here"] 1 znw) (c_law_run : Callee P w K mg base "_law_run" ["_law_program_here", "_law_worths"] 11 zv7) (c_run : Callee P w K mg base "run" ["program", "worths"] 22 (zy9 p1)) (c_traced : Callee P w K mg base "traced" ["program", "worths"] 22 (znx p2))
  (c_law_refused : Callee P w K mg base "_law_refused" ["_law_program_here", "_law_worths"] 23 (zkj p1)) : FnOk P w K mg base CX0 24 f fd ["_law_script"] (ztt K p1 p2) := by
 refine F.ok sc_law (fun vs H Q E h => ?_) (fun cdv A outer s H vs Q E hr h => ?_)
 ·obtain ⟨a, ns, rfl, _⟩ := h
  rfl
 obtain ⟨a, ns, rfl, hS, _, hp1, hp2, q⟩ := h
 refine ⟨_, (z06 (z1d (i := 1) sc_law.nd rfl z8o (z1y c_law_program hr (by omega) (z07 (z00 (i := 0) rfl z5f z09 z0a) (z07 z02 z03)) zd7 zhw) (z05 rfl))
 (z06 (z1d (i := 2) sc_law.nd rfl ze8 (z1y c_law_all_worths hr (by omega) (z07 (z00 (i := 1) rfl z1a z0t z0u) z03) zb5 zer) (z05 rfl))
 (z06 (zcu PassesOwn.never rfl (zfe (z00 (i := 2) rfl z5t za5 zab)) (z1w (i := 3) sc_law.nd rfl z7m)
 (z06 (z1d (i := 4) sc_law.nd rfl zg6 (z1y c_law_run hr (by omega) (z07 (z00 (i := 1) rfl z1a z0t z0u) (z07 (z00 (i := 3) rfl z1p z24 z25) z03)) zho znd) (z05 rfl))
 (z08 (z2m (PW.pt (zr1 (z0c (dNe hr.units) (z1y c_run hr (by omega) (z07 (z00 (i := 1) rfl z1a z0t z0u) (z07 (z00 (i := 3) rfl z1p z24 z25) z03)) zpy zvm) (z0w ix_tup (z00 (i := 4) rfl zae zhx zi0) z02 (fun _ _ => rfl)) (z0m _)) (zo3 (z0c (q0j hr.units) (z1y c_traced hr (by omega) (z07 (z00 (i := 1) rfl z1a z0t z0u) (z07 (z00 (i := 3) rfl z1p z24 z25) z03)) zju zsp) (z0w ix_tup (z00 (i := 4) rfl zae zhx zi0) z02 (fun _ _ => rfl)) (z0m _))))) (z08 (z0q zw7)) z0s))))
 (z06 (z1d (i := 3) sc_law.nd rfl z7m (z0w ix_list (z00 (i := 2) rfl z5t za5 zab) (z1y c_law_pick hr (by omega) (z07 (z00 (i := 0) rfl z5f z09 z0a) (z07 z02 (z07 (z75 zuq zj0 b_len zf0 (z07 (z00 (i := 2) rfl z5t za5 zab) z03) ze6 zen) z03))) zan z1b) (fun _ _ => rfl)) (z05 rfl))
 (z06 (z1d (i := 5) sc_law.nd rfl zg7 (z3h (z07 (z17 z2s (z00 (i := 3) rfl z1p z24 z25) (z14 (z07 z02 z03))) z03)) (z05 rfl))
 (z06 (z2m (z0c (dNe hr.units) (z00 (i := 3) rfl z1p z24 z25) (z14 z03) (z0m _)) (z08 (z4v (ze1 PySem.F.plainAttrs_list PySem.F.slot_list_extend PySem.F.type_list_extend zl2 (z00 (i := 5) rfl z6r zdg zdm) (z07 (z3h (z07 (zjh zm9 (z00 (i := 3) rfl z1p z24 z25) (zmh z02) zmi) (z07 (z17 z2s (zjh zm9 (z00 (i := 3) rfl z1p z24 z25) zmi (zmh (zi8 zct z02))) (z14 (z07 (z17 z2e (z0w ix_tup (z0w ix_tup (z0w ix_tup (z00 (i := 1) rfl z1a z0t z0u) z02 (fun _ _ => rfl)) (zi8 zct z02) (fun _ _ => rfl)) z02 (fun _ _ => rfl)) z02) z03))) (z07 (z17 z2s (zjh zm9 (z00 (i := 3) rfl z1p z24 z25) zmi (zmh (zi8 zct z02))) (z14 (z07 (z17 ze2 (z0w ix_tup (z0w ix_tup (z0w ix_tup (z00 (i := 1) rfl z1a z0t z0u) z02 (fun _ _ => rfl)) (zi8 zct z02) (fun _ _ => rfl)) z02 (fun _ _ => rfl)) z02) z03))) z03)))) z03)) (z05 rfl))) z0s)
 (z08 (z0q (z1y c_law_refused hr (by omega) (z07 (z00 (i := 1) rfl z1a z0t z0u) (z07 (z0w ix_list (z00 (i := 5) rfl z6r zdg zdm) (z1y c_law_pick hr (by omega) (z07 (z00 (i := 0) rfl z5f z09 z0a) (z07 z02 (z07 (z75 zuq zj0 b_len zf0 (z07 (z00 (i := 5) rfl z6r zdg zdm) z03) ze6 zen) z03))) zan z1b) (fun _ _ => rfl)) z03)) zd6 zhv))))))))), z0f fun N1 e1 => ?_⟩
 walk_at "rd10"
 refine ⟨a, ns, 0, rfl, hS, by decide, fun r ri rb H1 rows b g0 s1 hr1 dri drb hrow hok hbl hbn hkn => ?_⟩
 have dr : Dt H1 (.ref r) (.tup [.tup (rows.map z70), .tup (zao b)]) := .tup hr1 (.cons dri (.cons drb .nil))
 have hW : okW 4 b := zl1 (ze4 hok)
 obtain ⟨g, hkb, _, _⟩ := hkn _ (Sub.refl _)
 rw [e1]
 refine z0f fun N2 e2 => ?_
 walk_at "rd10"
 refine ⟨.ref r, rows, _, rfl, dr, hrow, fun lw Hw us wss sw hlwn hlw dw hfits hne => ?_⟩
 have hX1 : Hw p1 = some (.tbl #[]) := sw _ _ (s1 _ _ hp1)
 have hX2 : Hw p2 = some (.tbl #[]) := sw _ _ (s1 _ _ hp2)
 have hSw := (s1.trans sw).seq hS
 have hrw := sw _ _ hr1
 have drX := dr.kp sw.kp
 have driX := dri.kp sw.kp
 rw [e2]
 refine z0f fun N3 e3 => ?_
 walk_at "rd10"
 refine ⟨⟨_, SqL.of hlw⟩, ?_⟩
 refine zok (xs := us) (LxI Hw p1 p2 (some (V.ref a)) (some (V.ref r)) (some (V.ref lw))) ?start ?lst ?step ?done
 case start => exact ⟨_, _, _, rfl, SameC.refl _, .inl hX1, .inl hX2⟩
 case lst =>
  rintro i σ Hc _ ⟨_, _, _, rfl, sc, _, _⟩
  exact SqL.of (sc.keep hX1 hX2 (by intro s z; cases z) hlw)
 case step =>
  rintro i y σ Hc hy ⟨_, _, _, rfl, sc, hT1, hT2⟩
  obtain ⟨wl, hwi, dwl⟩ := zaj dw hy
  have hfit := hfits wl (List.mem_of_getElem? hwi)
  have kc := sc.kp hX1 hX2
  have drC := drX.kp kc
  have dwC := dwl.kp kc
  have hWb : (evP rows b wl).2.2.length + 1 < sizeLine := zw0 hok [] 0 (stB [] rows wl)
  refine z0f fun M1 m1 => ?_
  walk_at "rd10"
  refine ⟨.ref r, y, rows, b, wl, g, rfl, drC, dwC, hrow, hfit, hok, hkb, hWb, fun rd ld tv ys H2 s2 hrd htv hld dys => ?_⟩
  have hT1a := hT1.same s2
  have hT2a := hT2.same s2
  obtain ⟨qs1, hqs1⟩ := hT1a.tbl
  rw [m1]
  walk_at "rd10"
  refine ⟨.ref r, y, rows, b, wl, g, rfl, drC.kp s2.kp, dwC.kp s2.kp, hrow, hfit, hW, hkb, hT1a, fun r3 H3 sB3 hT3 ho3 => ?_⟩
  have k3 : Kp H2 H3 := sB3.tab hT1a
  have hrd3 := sB3 _ _ (z77 hrd hqs1 (by intro z; cases z)) hrd
  have hld3 := sB3 _ _ (z77 hld hqs1 (by intro z; cases z)) hld
  obtain ⟨dd, d1, d2, ff⟩ := zu8 (fun e he => z83 b [] 0 _ e he) (fun hn p hp => (za2 b 4 [] 0 _ hW (zf8 rows wl [] (zbc hrow) KeyOk.nil)).2 p hp) ho3 htv
  refine ⟨_, SqT.of hrd3, _, z0k, true, ⟨dd, dd, d1, d2.kp k3, ff.eq (by decide), ff.eq (by decide), (zom ff.2.1).symm⟩, ?_⟩
  rw [if_neg (by decide)]
  have hT2b := hT2a.ne sB3 (Ne.symm h12) hT1a.tbl
  obtain ⟨qs2, hqs2⟩ := hT2b.tbl
  refine ⟨.ref r, y, rows, b, wl, g, rfl, (drC.kp s2.kp).kp k3, (dwC.kp s2.kp).kp k3, hrow, hfit, hW, hkb, hWb, hT2b, fun l5 ys5 H5 sB5 hl5n hT5 hl5 dy5 => ?_⟩
  have k5 : Kp H3 H5 := sB5.tab hT2b
  have hrd5 := sB5 _ _ (z77 hrd3 hqs2 (by intro z; cases z)) hrd3
  have hld5 := sB5 _ _ (z77 hld3 hqs2 (by intro z; cases z)) hld3
  obtain ⟨fa1, fa2, fa3⟩ := zq0 (evP rows b wl).2.2
  refine ⟨_, SqT.of hrd5, _, z0x (j := 1) rfl, true, ⟨l5, ld, ys5, ys, _, _, rfl, rfl, SqL.of hl5, SqL.of hld5, dy5, (dys.kp k3).kp k5, fa1, fa1, fa2, fa2, (zom fa3).symm⟩, ?_⟩
  rw [if_neg (by decide)]
  exact ⟨_, _, _, rfl, sc.trans ((SameC.of s2).trans ((SameC.one sB3).trans (SameC.two sB5))), hT3.ne sB5 h12 hT2b.tbl, hT5⟩
 case done =>
  rintro σ Hc ⟨x3, x4, x5, rfl, sc, hT1, hT2⟩
  have kc := sc.kp hX1 hX2
  have drC := drX.kp kc
  have hrC := sc.keep hX1 hX2 (by intro s z; cases z) hrw
  have hlC := sc.keep hX1 hX2 (by intro s z; cases z) hlw
  have dwC := dw.kp kc
  have driC := driX.kp kc
  show N3 _ _
  rw [e3]
  refine z0f fun N4 e4 => ?_
  walk_at "rd10"
  have hus : us.length = wss.length := by rw [dw.length, List.length_map]
  refine ⟨_, zxu (SqL.of hlC), ?_⟩
  refine ⟨a, ns, 300, us.length, rfl, sc.seq hX1 hX2 hSw, by decide, by omega, fun i H4 hi0 hi1 s4 => ?_⟩
  obtain ⟨wv, hwv, hat⟩ := zt6 (xs := us) hi0 hi1
  refine ⟨_, i, rfl, SqL.of (s4 _ _ hlC), wv, hat, ?_⟩
  obtain ⟨ws, hws, dwv⟩ := zaj dwC hwv
  have hfit := hfits ws (List.mem_of_getElem? hws)
  have hl2 : ws.length ≤ 2 := by rw [← hfit.len]; exact hrow.len
  have dws : Dt H4 wv (z3i ws) := dwv.kp s4.kp
  rw [e4]
  refine z0f fun N5 e5 => ?_
  walk_at "rd10"
  refine ⟨by decide, fun q5 hq5 => ?_⟩
  have s5 := z04 hq5 (HO.tup [.int 0])
  refine zka (dws.kp s5.kp) zaw (by simp; omega) fun z6 H6 s6 d6 => ⟨by decide, fun l7 hl7 => ?_⟩
  have s7 := z04 hl7 (HO.lst [z6])
  rw [e5]
  refine z0f fun N6 e6 => ?_
  have last : ∀ (H9 : Hp) (xs : List V) (vs : List (List Int)), Same Hc H9 → H9 l7 = some (.lst xs) → DtA H9 xs (vs.map z3i) → (∀ v ∈ vs, ¬ Fits rows v) → 1 ≤ vs.length → N6 [some (V.ref a), some (V.ref r), some (V.ref lw), some wv, x4, some (V.ref l7)] H9 := by
   intro H9 xs vs s9 hl9 d9 hu hn
   have hxs : xs.length = vs.length := by rw [d9.length, List.length_map]
   rw [e6]
   walk_at "rd10"
   refine ⟨_, zxu (SqL.of hl9), ?_⟩
   refine ⟨a, ns, 301, xs.length, rfl, s9.seq (sc.seq hX1 hX2 hSw), by decide, by omega, fun i H10 hi0 hi1 s10 => ?_⟩
   obtain ⟨bv, hbv, hat⟩ := zt6 (xs := xs) hi0 hi1
   refine ⟨_, i, rfl, SqL.of (s10 _ _ hl9), bv, hat, ?_⟩
   obtain ⟨bw, hbw, dbv⟩ := zaj d9 hbv
   exact ⟨.ref r, bv, rows, _, bw, rfl, drC.kp (s9.trans s10).kp, dbv.kp s10.kp, hrow, hu bw (List.mem_of_getElem? hbw), hT1.same (s9.trans s10), q⟩
  walk_at "rd10"
  refine ⟨Nat.zero_le _, fun q8 hq8 => ?_⟩
  have s8 := z04 hq8 (HO.tup [])
  have s58 := s5.trans (s6.trans (s7.trans s8))
  have sU := s4.trans s58
  have dU := dws.kp s58.kp
  have hlU := s8 _ _ (z01 (H := H6) (a := l7) (o := HO.lst [z6]))
  have dz6 := (d6.kp s7.kp).kp s8.kp
  have eU : (upd (upd H6 l7 (HO.lst [z6])) q8 (HO.tup [])) q8 = some (.tup []) := z01
  have hl7c : Hc l7 = none := (s4.trans (s5.trans s6)).free hl7
  generalize upd (upd H6 l7 (HO.lst [z6])) q8 (HO.tup []) = U at s58 sU dU hlU dz6 eU ⊢
  refine ⟨_, ⟨z3i ws, z3i [], dU, .tup eU .nil, ((zbm ws).mono (m := 4) (by decide)).eq (by decide), ((zbm []).mono (m := 4) (by decide)).eq (by decide), rfl⟩, ?_⟩
  rw [zse]
  have d0 : DtA U [z6] ([ws ++ [0]].map z3i) := .cons dz6 .nil
  have u0 : ∀ v ∈ [ws ++ [0]], ¬ Fits rows v := fun v hv => by
   rw [List.mem_singleton] at hv
   subst hv
   exact zp2 hfit 0
  by_cases hwe : ws = []
  ·subst hwe
   rw [if_neg (by decide)]
   exact last U _ _ sU hlU d0 u0 (by simp)
  rw [if_pos (by cases ws with | nil => exact absurd rfl hwe | cons _ _ => rfl)]
  have hwl := List.length_pos_iff.mpr hwe
  have hlen := hfit.len
  obtain ⟨ia, is, eia, hia, dia⟩ := driC.tupI
  cases eia
  have lis : is.length = rows.length := by rw [dia.length, List.length_map]
  obtain ⟨vl, hvl⟩ : ∃ v, is[is.length - 1]? = some v := ⟨_, List.getElem?_eq_getElem (by omega)⟩
  obtain ⟨rl, hrl, drl⟩ := zaj dia hvl
  rw [lis] at hrl
  obtain ⟨ra, r0, r1, r2, rfl, hra, t0, t1, t2⟩ := zqi drl
  cases t0; cases t1; cases t2
  have hrU := sU _ _ hrC
  have hiU := sU _ _ hia
  have hraU := sU _ _ hra
  refine ⟨.inl ⟨rfl, _, SqL.of hlU⟩, slD dU fun z9 H9 s9 d9 => slD (dU.kp s9.kp) fun z10 H10 s10 d10 => ?_⟩
  rw [zx8] at d9
  rw [zov] at d10
  have u10 := s9.trans s10
  have htl : (ws.take (ws.length - 1)).length ≤ 2 := by rw [List.length_take]; omega
  refine ⟨_, SqT.of (u10 _ _ hrU), _, z0k, _, rfl, _, SqT.of (u10 _ _ hiU), _, zoy hvl, _, rfl, _, SqT.of (u10 _ _ hraU), _, z0x (j := 2) rfl, _, rfl, by decide, fun q11 hq11 => ?_⟩
  have s11 := z04 hq11 (HO.tup [V.int (rl.2.2 + 1)])
  refine zka (p := ws.take (ws.length - 1)) (d10.kp s11.kp) zaw (by simp only [List.length_singleton]; omega) fun z12 H12 s12 d12 => slD (dU.kp (u10.trans (s11.trans s12)).kp) fun z13 H13 s13 d13 => ?_
  rw [zov] at d13
  have u13 := u10.trans (s11.trans (s12.trans s13))
  refine ⟨_, SqT.of (u13 _ _ hrU), _, z0k, _, rfl, _, SqT.of (u13 _ _ hiU), _, zoy hvl, _, rfl, _, SqT.of (u13 _ _ hraU), _, z0x (j := 1) rfl, _, rfl, by decide, fun q14 hq14 => ?_⟩
  have s14 := z04 hq14 (HO.tup [V.int (rl.2.1 - 1)])
  refine zka (p := ws.take (ws.length - 1)) (d13.kp s14.kp) zaw (by simp only [List.length_singleton]; omega) fun z15 H15 s15 d15 => ⟨by decide, fun l16 hl16 => ?_⟩
  have s16 := z04 hl16 (HO.lst [z9, z12, z15])
  have u16 := u13.trans (s14.trans (s15.trans s16))
  have hl7V := u16 _ _ hlU
  have k17 : Kp (upd H15 l16 (HO.lst [z9, z12, z15])) (upd (upd H15 l16 (HO.lst [z9, z12, z15])) l7 (HO.lst ([z6] ++ [z9, z12, z15]))) := Kp.set hl7V
  refine ⟨_, hl7V, _, z01, (by decide : 1 + 3 ≤ sizeLine), last _ _ ([ws ++ [0]] ++ [ws.drop 1, ws.take (ws.length - 1) ++ [rl.2.2 + 1], ws.take (ws.length - 1) ++ [rl.2.1 - 1]]) (z7y (sU.trans u16) hl7c) z01 ?_ ?_ (by simp)⟩
  ·rw [List.map_append]
   exact ((d0.kp u16.kp).kp k17).append (.cons ((d9.kp (s10.trans (s11.trans (s12.trans (s13.trans (s14.trans (s15.trans s16)))))).kp).kp k17) (.cons ((d12.kp (s13.trans (s14.trans (s15.trans s16))).kp).kp k17) (.cons ((d15.kp s16.kp).kp k17) .nil)))
  ·intro v hv
   rcases List.mem_append.mp hv with hv | hv
   ·exact u0 v hv
   ·simp only [List.mem_cons, List.not_mem_nil, or_false] at hv
    rcases hv with rfl | rfl | rfl
    ·exact zp3 hfit hwe
    ·exact zik hfit hrl (.inr (by omega))
    ·exact zik hfit hrl (.inl (by omega))
end
theorem q0q {K : PySem.W.Frag} {a : Addr} {o : Option Addr} {its : Array Value} {n : Nat} {l : Array (Option Value)} {xs : List V} (h : K.lookup a = some ⟨.type "tuple", o, .seq its n, l⟩) (r : Vals xs its.toList) (hz : its.size ≤ sizeLine := by decide) : ∀ H, SqT K H a xs := fun H => .inr ⟨_, _, _, h, rfl, rfl, hz, r⟩
theorem q04 {l : PySem.W.OpenLaw} {w : World} {K : PySem.W.Frag} {h : Heap} {mg : Str → Option Value} {fa f0 f1 f2 f3 f4 f5 f6 f7 f8 f9 f10 f11 f12 f13 f14 f15 f16 f17 f18 f19 f20 f21 f22 f23 f24 f25 f26 f27 : Addr} (X : K.In h) (G : h.Ns mainGlobals mg) (hfa : mg "law" = some (.ref fa))
  {od0 an0 od1 an1 od2 an2 od3 an3 od4 an4 od5 an5 od6 an6 od7 an7 od8 an8 od9 an9 od10 an10 od11 an11 od12 an12 od13 an13 od14 an14 od15 an15 od16 an16 od17 an17 od18 an18 od19 an19 od20 an20 od21 an21 od22 an22 od23 an23 od24 an24 od25 an25 od26 an26 od27 an27 : Option Addr} {sl0 sl1 sl2 sl3 sl4 sl5 sl6 sl7 sl8 sl9 sl10 sl11 sl12 sl13 sl14 sl15 sl16 sl17 sl18 sl19 sl20 sl21 sl22 sl23 sl24 sl25 sl26 sl27 : Array (Option Value)} {oc0 kV0 dc0 pm0 ct0 cd0 oc1 kV1 dc1 pm1 ct1 cd1 oc2 kV2 dc2 pm2 ct2 cd2 oc3 kV3 dc3 pm3 ct3 oc4 kV4 dc4 pm4 ct4 oc5 kV5 dc5 pm5 ct5 cd5 oc6 kV6 dc6 pm6 ct6 cd6 oc7 kV7 dc7 pm7 ct7 cd7 oc8 kV8 dc8 pm8 ct8 cd8 oc9 kV9 dc9 pm9 ct9 cd9 oc10 kV10 dc10 pm10 ct10 cd10 oc11 kV11 dc11 pm11 ct11 cd11 oc12 kV12 dc12 pm12 ct12 cd12 oc13 kV13 dc13 pm13 ct13 cd13 oc14 kV14 dc14 pm14 ct14 cd14 oc15 kV15 dc15 pm15 ct15 cd15 oc16 kV16 dc16 pm16 ct16 cd16 oc17 kV17 dc17 pm17 ct17 cd17 oc18 kV18 dc18 pm18 ct18 cd18 oc19 kV19 dc19 pm19 ct19 cd19 oc20 kV20 dc20 pm20 ct20 cd20 oc21 kV21 dc21 pm21 ct21 cd21 oc22 kV22 dc22 pm22 ct22 cd22 oc23 kV23 dc23 pm23 ct23 cd23 oc24 kV24 dc24 pm24 ct24 cd24 oc25 kV25 dc25 pm25 ct25 cd25 oc26 kV26 dc26 pm26 ct26 cd26 oc27 kV27 dc27 pm27 ct27 cd27 : Value}
  {e3 e4 : Addr} {t3 t4 : Addr}
  {ai : Addr} {oi : Option Addr} {ni : Nat} {li : Array (Option Value)} {ti0 ti1 : Tok} {a_RoomError a_NoWorths a_BadPaper a_BadPlan a_NoProgram a_NoText : Addr}
  (a0 : PySem.W.nsIn K mainGlobals "is_whole" = some (some (.ref f0))) (l0 : K.lookup f0 = some ⟨oc0, od0, .func (PySem.W.fnOf "is_whole" "is_whole" (defArgs z42) (defBody z42) (defScope z42) .none kV0 dc0 pm0 an0 cd0 ct0), sl0⟩) (c0 : PySem.W.codeIn K cd0 "is_whole" = true) (k0 : PySem.W.keepIn K (.ref f0) = true)
  (a1 : PySem.W.nsIn K mainGlobals "is_whole_from" = some (some (.ref f1))) (l1 : K.lookup f1 = some ⟨oc1, od1, .func (PySem.W.fnOf "is_whole_from" "is_whole_from" (defArgs z1q) (defBody z1q) (defScope z1q) .none kV1 dc1 pm1 an1 cd1 ct1), sl1⟩) (c1 : PySem.W.codeIn K cd1 "is_whole_from" = true) (k1 : PySem.W.keepIn K (.ref f1) = true)
  (a2 : PySem.W.nsIn K mainGlobals "is_tuple_of" = some (some (.ref f2))) (l2 : K.lookup f2 = some ⟨oc2, od2, .func (PySem.W.fnOf "is_tuple_of" "is_tuple_of" (defArgs z26) (defBody z26) (defScope z26) .none kV2 dc2 pm2 an2 cd2 ct2), sl2⟩) (c2 : PySem.W.codeIn K cd2 "is_tuple_of" = true) (k2 : PySem.W.keepIn K (.ref f2) = true)
  (a3 : PySem.W.nsIn K mainGlobals "run" = some (some (.ref f3))) (l3 : K.lookup f3 = some ⟨oc3, od3, .func (PySem.W.fnOf "run" "run" (defArgs zdy) (defBody zdy) (defScope zdy) .none kV3 dc3 pm3 an3 (.ref e3) ct3), sl3⟩) (c3 : PySem.W.codeIn K (.ref e3) "run" = true) (k3 : PySem.W.keepIn K (.ref f3) = true)
  (a4 : PySem.W.nsIn K mainGlobals "traced" = some (some (.ref f4))) (l4 : K.lookup f4 = some ⟨oc4, od4, .func (PySem.W.fnOf "traced" "traced" (defArgs z3r) (defBody z3r) (defScope z3r) .none kV4 dc4 pm4 an4 (.ref e4) ct4), sl4⟩) (c4 : PySem.W.codeIn K (.ref e4) "traced" = true) (k4 : PySem.W.keepIn K (.ref f4) = true)
  (a5 : PySem.W.nsIn K mainGlobals "run_by" = some (some (.ref f5))) (l5 : K.lookup f5 = some ⟨oc5, od5, .func (PySem.W.fnOf "run_by" "run_by" (defArgs z38) (defBody z38) (defScope z38) .none kV5 dc5 pm5 an5 cd5 ct5), sl5⟩) (c5 : PySem.W.codeIn K cd5 "run_by" = true) (k5 : PySem.W.keepIn K (.ref f5) = true)
  (a6 : PySem.W.nsIn K mainGlobals "settled" = some (some (.ref f6))) (l6 : K.lookup f6 = some ⟨oc6, od6, .func (PySem.W.fnOf "settled" "settled" (defArgs z4u) (defBody z4u) (defScope z4u) .none kV6 dc6 pm6 an6 cd6 ct6), sl6⟩) (c6 : PySem.W.codeIn K cd6 "settled" = true) (k6 : PySem.W.keepIn K (.ref f6) = true)
  (a7 : PySem.W.nsIn K mainGlobals "names_at_first" = some (some (.ref f7))) (l7 : K.lookup f7 = some ⟨oc7, od7, .func (PySem.W.fnOf "names_at_first" "names_at_first" (defArgs z0d) (defBody z0d) (defScope z0d) .none kV7 dc7 pm7 an7 cd7 ct7), sl7⟩) (c7 : PySem.W.codeIn K cd7 "names_at_first" = true) (k7 : PySem.W.keepIn K (.ref f7) = true)
  (a8 : PySem.W.nsIn K mainGlobals "do_block" = some (some (.ref f8))) (l8 : K.lookup f8 = some ⟨oc8, od8, .func (PySem.W.fnOf "do_block" "do_block" (defArgs z1o) (defBody z1o) (defScope z1o) .none kV8 dc8 pm8 an8 cd8 ct8), sl8⟩) (c8 : PySem.W.codeIn K cd8 "do_block" = true) (k8 : PySem.W.keepIn K (.ref f8) = true)
  (a9 : PySem.W.nsIn K mainGlobals "do_deed" = some (some (.ref f9))) (l9 : K.lookup f9 = some ⟨oc9, od9, .func (PySem.W.fnOf "do_deed" "do_deed" (defArgs z3g) (defBody z3g) (defScope z3g) .none kV9 dc9 pm9 an9 cd9 ct9), sl9⟩) (c9 : PySem.W.codeIn K cd9 "do_deed" = true) (k9 : PySem.W.keepIn K (.ref f9) = true)
  (a10 : PySem.W.nsIn K mainGlobals "do_set" = some (some (.ref f10))) (l10 : K.lookup f10 = some ⟨oc10, od10, .func (PySem.W.fnOf "do_set" "do_set" (defArgs z4b) (defBody z4b) (defScope z4b) .none kV10 dc10 pm10 an10 cd10 ct10), sl10⟩) (c10 : PySem.W.codeIn K cd10 "do_set" = true) (k10 : PySem.W.keepIn K (.ref f10) = true)
  (a11 : PySem.W.nsIn K mainGlobals "do_if" = some (some (.ref f11))) (l11 : K.lookup f11 = some ⟨oc11, od11, .func (PySem.W.fnOf "do_if" "do_if" (defArgs z56) (defBody z56) (defScope z56) .none kV11 dc11 pm11 an11 cd11 ct11), sl11⟩) (c11 : PySem.W.codeIn K cd11 "do_if" = true) (k11 : PySem.W.keepIn K (.ref f11) = true)
  (a12 : PySem.W.nsIn K mainGlobals "do_while" = some (some (.ref f12))) (l12 : K.lookup f12 = some ⟨oc12, od12, .func (PySem.W.fnOf "do_while" "do_while" (defArgs z1n) (defBody z1n) (defScope z1n) .none kV12 dc12 pm12 an12 cd12 ct12), sl12⟩) (c12 : PySem.W.codeIn K cd12 "do_while" = true) (k12 : PySem.W.keepIn K (.ref f12) = true)
  (a13 : PySem.W.nsIn K mainGlobals "reckon" = some (some (.ref f13))) (l13 : K.lookup f13 = some ⟨oc13, od13, .func (PySem.W.fnOf "reckon" "reckon" (defArgs z3m) (defBody z3m) (defScope z3m) .none kV13 dc13 pm13 an13 cd13 ct13), sl13⟩) (c13 : PySem.W.codeIn K cd13 "reckon" = true) (k13 : PySem.W.keepIn K (.ref f13) = true)
  (a14 : PySem.W.nsIn K mainGlobals "worth_of" = some (some (.ref f14))) (l14 : K.lookup f14 = some ⟨oc14, od14, .func (PySem.W.fnOf "worth_of" "worth_of" (defArgs z3q) (defBody z3q) (defScope z3q) .none kV14 dc14 pm14 an14 cd14 ct14), sl14⟩) (c14 : PySem.W.codeIn K cd14 "worth_of" = true) (k14 : PySem.W.keepIn K (.ref f14) = true)
  (a15 : PySem.W.nsIn K mainGlobals "_law_cell" = some (some (.ref f15))) (l15 : K.lookup f15 = some ⟨oc15, od15, .func (PySem.W.fnOf "_law_cell" "_law_cell" (defArgs z4m) (defBody z4m) (defScope z4m) .none kV15 dc15 pm15 an15 cd15 ct15), sl15⟩) (c15 : PySem.W.codeIn K cd15 "_law_cell" = true) (k15 : PySem.W.keepIn K (.ref f15) = true)
  (a16 : PySem.W.nsIn K mainGlobals "_law_pick" = some (some (.ref f16))) (l16 : K.lookup f16 = some ⟨oc16, od16, .func (PySem.W.fnOf "_law_pick" "_law_pick" (defArgs z3f) (defBody z3f) (defScope z3f) .none kV16 dc16 pm16 an16 cd16 ct16), sl16⟩) (c16 : PySem.W.codeIn K cd16 "_law_pick" = true) (k16 : PySem.W.keepIn K (.ref f16) = true)
  (a17 : PySem.W.nsIn K mainGlobals "_law_sum" = some (some (.ref f17))) (l17 : K.lookup f17 = some ⟨oc17, od17, .func (PySem.W.fnOf "_law_sum" "_law_sum" (defArgs z22) (defBody z22) (defScope z22) .none kV17 dc17 pm17 an17 cd17 ct17), sl17⟩) (c17 : PySem.W.codeIn K cd17 "_law_sum" = true) (k17 : PySem.W.keepIn K (.ref f17) = true)
  (a18 : PySem.W.nsIn K mainGlobals "_law_counted" = some (some (.ref f18))) (l18 : K.lookup f18 = some ⟨oc18, od18, .func (PySem.W.fnOf "_law_counted" "_law_counted" (defArgs z0j) (defBody z0j) (defScope z0j) .none kV18 dc18 pm18 an18 cd18 ct18), sl18⟩) (c18 : PySem.W.codeIn K cd18 "_law_counted" = true) (k18 : PySem.W.keepIn K (.ref f18) = true)
  (a19 : PySem.W.nsIn K mainGlobals "_law_block" = some (some (.ref f19))) (l19 : K.lookup f19 = some ⟨oc19, od19, .func (PySem.W.fnOf "_law_block" "_law_block" (defArgs z0b) (defBody z0b) (defScope z0b) .none kV19 dc19 pm19 an19 cd19 ct19), sl19⟩) (c19 : PySem.W.codeIn K cd19 "_law_block" = true) (k19 : PySem.W.keepIn K (.ref f19) = true)
  (a20 : PySem.W.nsIn K mainGlobals "_law_program" = some (some (.ref f20))) (l20 : K.lookup f20 = some ⟨oc20, od20, .func (PySem.W.fnOf "_law_program" "_law_program" (defArgs z0v) (defBody z0v) (defScope z0v) .none kV20 dc20 pm20 an20 cd20 ct20), sl20⟩) (c20 : PySem.W.codeIn K cd20 "_law_program" = true) (k20 : PySem.W.keepIn K (.ref f20) = true)
  (a21 : PySem.W.nsIn K mainGlobals "_law_all_worths" = some (some (.ref f21))) (l21 : K.lookup f21 = some ⟨oc21, od21, .func (PySem.W.fnOf "_law_all_worths" "_law_all_worths" (defArgs z0g) (defBody z0g) (defScope z0g) .none kV21 dc21 pm21 an21 cd21 ct21), sl21⟩) (c21 : PySem.W.codeIn K cd21 "_law_all_worths" = true) (k21 : PySem.W.keepIn K (.ref f21) = true)
  (a22 : PySem.W.nsIn K mainGlobals "_law_reckoned" = some (some (.ref f22))) (l22 : K.lookup f22 = some ⟨oc22, od22, .func (PySem.W.fnOf "_law_reckoned" "_law_reckoned" (defArgs z23) (defBody z23) (defScope z23) .none kV22 dc22 pm22 an22 cd22 ct22), sl22⟩) (c22 : PySem.W.codeIn K cd22 "_law_reckoned" = true) (k22 : PySem.W.keepIn K (.ref f22) = true)
  (a23 : PySem.W.nsIn K mainGlobals "_law_worth" = some (some (.ref f23))) (l23 : K.lookup f23 = some ⟨oc23, od23, .func (PySem.W.fnOf "_law_worth" "_law_worth" (defArgs z0p) (defBody z0p) (defScope z0p) .none kV23 dc23 pm23 an23 cd23 ct23), sl23⟩) (c23 : PySem.W.codeIn K cd23 "_law_worth" = true) (k23 : PySem.W.keepIn K (.ref f23) = true)
  (a24 : PySem.W.nsIn K mainGlobals "_law_do" = some (some (.ref f24))) (l24 : K.lookup f24 = some ⟨oc24, od24, .func (PySem.W.fnOf "_law_do" "_law_do" (defArgs z1i) (defBody z1i) (defScope z1i) .none kV24 dc24 pm24 an24 cd24 ct24), sl24⟩) (c24 : PySem.W.codeIn K cd24 "_law_do" = true) (k24 : PySem.W.keepIn K (.ref f24) = true)
  (a25 : PySem.W.nsIn K mainGlobals "_law_run" = some (some (.ref f25))) (l25 : K.lookup f25 = some ⟨oc25, od25, .func (PySem.W.fnOf "_law_run" "_law_run" (defArgs z2v) (defBody z2v) (defScope z2v) .none kV25 dc25 pm25 an25 cd25 ct25), sl25⟩) (c25 : PySem.W.codeIn K cd25 "_law_run" = true) (k25 : PySem.W.keepIn K (.ref f25) = true)
  (a26 : PySem.W.nsIn K mainGlobals "_law_refused" = some (some (.ref f26))) (l26 : K.lookup f26 = some ⟨oc26, od26, .func (PySem.W.fnOf "_law_refused" "_law_refused" (defArgs z0i) (defBody z0i) (defScope z0i) .none kV26 dc26 pm26 an26 cd26 ct26), sl26⟩) (c26 : PySem.W.codeIn K cd26 "_law_refused" = true) (k26 : PySem.W.keepIn K (.ref f26) = true)
  (a27 : PySem.W.nsIn K mainGlobals "law" = some (some (.ref f27))) (l27 : K.lookup f27 = some ⟨oc27, od27, .func (PySem.W.fnOf "law" "law" (defArgs z63) (defBody z63) (defScope z63) .none kV27 dc27 pm27 an27 cd27 ct27), sl27⟩) (c27 : PySem.W.codeIn K cd27 "law" = true) (k27 : PySem.W.keepIn K (.ref f27) = true)
  (z_enumerate : PySem.W.nsIn K mainGlobals "enumerate" = some none)
  (z_sorted : PySem.W.nsIn K mainGlobals "sorted" = some none)
  (z_len : PySem.W.nsIn K mainGlobals "len" = some none)
  (z_max : PySem.W.nsIn K mainGlobals "max" = some none)
  (z_min : PySem.W.nsIn K mainGlobals "min" = some none)
  (z_dict : PySem.W.nsIn K mainGlobals "dict" = some none)
  (z_tuple : PySem.W.nsIn K mainGlobals "tuple" = some none)
  (z_range : PySem.W.nsIn K mainGlobals "range" = some none)
  (z_isinstance : PySem.W.nsIn K mainGlobals "isinstance" = some none)
  (z_int : PySem.W.nsIn K mainGlobals "int" = some none)
  (z_bool : PySem.W.nsIn K mainGlobals "bool" = some none)
  (z_zip : PySem.W.nsIn K mainGlobals "zip" = some none)
  (z_list : PySem.W.nsIn K mainGlobals "list" = some none)
  (z_ValueError : PySem.W.nsIn K mainGlobals "ValueError" = some none)
  (pw : PySem.W.nsIn K mainGlobals "WIDE" = some (some (.ref ai)))
  (ph : K.lookup ai = some ⟨.type "tuple", oi, .seq #[.int (-32768) ti0, .int 32767 ti1] ni, li⟩)
  (x_RoomError : PySem.W.nsIn K mainGlobals "RoomError" = some (some (.ref a_RoomError)))
  (x_NoWorths : PySem.W.nsIn K mainGlobals "NoWorths" = some (some (.ref a_NoWorths)))
  (x_BadPaper : PySem.W.nsIn K mainGlobals "BadPaper" = some (some (.ref a_BadPaper)))
  (x_BadPlan : PySem.W.nsIn K mainGlobals "BadPlan" = some (some (.ref a_BadPlan)))
  (x_NoProgram : PySem.W.nsIn K mainGlobals "NoProgram" = some (some (.ref a_NoProgram)))
  (x_NoText : PySem.W.nsIn K mainGlobals "NoText" = some (some (.ref a_NoText)))
  (q_NoWorths : PySem.W.excIn K a_NoWorths q1m "ValueError.__new__" = true)
  (y_hcl : (PySem.W.clsIn K a_NoWorths).isSome = true)
  (y_hb : PySem.W.subIn K (.ref a_NoWorths) (.type "BaseException") = some true)
  (y_hga : PySem.W.findIn K (.ref a_NoWorths) "__getattribute__" = some (some (.builtin "BaseException.__getattribute__")))
  (y_hgh : PySem.W.findIn K (.ref a_NoWorths) "__getattr__" = some none)
  (y_ha : PySem.W.findIn K (.ref a_NoWorths) "__class__" = some (some (.builtin "object.__class__")))
  (y_hn : PySem.W.specialIn K (.builtin "object.__class__") "__get__" = some (some (.builtin "getset_descriptor.__get__")))
  (y_htk : PySem.W.takesIn K (.builtin "object.__class__") = some true)
  (y_hm : PySem.W.mroIn K a_NoWorths (.type "object") = some true)
  (y_xm : PySem.W.exmOne K (.ref a_NoWorths) (.ref a_RoomError) = some true)
  (y_k1 : PySem.W.kitOne K (.ref a_NoWorths) (.ref a_BadPaper) = some false)
  (y_k2 : PySem.W.kitOne K (.ref a_NoWorths) (.ref a_BadPlan) = some false)
  (y_k3 : PySem.W.kitOne K (.ref a_NoWorths) (.ref a_NoProgram) = some false)
  (y_k4 : PySem.W.kitOne K (.ref a_NoWorths) (.ref a_NoText) = some false)
  (y_k5 : PySem.W.kitOne K (.ref a_NoWorths) (.ref a_NoWorths) = some true)
  (y_k6 : PySem.W.kitOne K (.ref a_NoWorths) (.type "ValueError") = some true)
  (n34 : t3 ≠ t4)
  : ∃ fd : FuncData, (∀ (s : Shared) (v : Value), BindsTo s fd ⟨[v], []⟩ [("_law_script", v)]) ∧ ∀ base : Heap, K.In base → base.Ns mainGlobals mg → q06 mg base [(e3, t3), (e4, t4)] → FnOk l.prog w K mg base CX0 24 fa fd ["_law_script"] (ztt K t3 t4) := by
 have e := hfa.symm.trans (PySem.W.mg_of X G a27)
 cases e
 have F_is_whole := z3y (st := z42) l0 c0 k0
 have B_is_whole := F_is_whole.binds (ps := ["thing"]) fun _ _ _ _ _ _ us hl => match us, hl with | [_], _ => rfl
 have d_is_whole : Df K mg "is_whole" z42 ["thing"] f0 _ := ⟨F_is_whole, PySem.W.mg_of X G a0, B_is_whole⟩
 have F_is_whole_from := z3y (st := z1q) l1 c1 k1
 have B_is_whole_from := F_is_whole_from.binds (ps := ["thing", "low", "high"]) fun _ _ _ _ _ _ us hl => match us, hl with | [_, _, _], _ => rfl
 have d_is_whole_from : Df K mg "is_whole_from" z1q ["thing", "low", "high"] f1 _ := ⟨F_is_whole_from, PySem.W.mg_of X G a1, B_is_whole_from⟩
 have F_is_tuple_of := z3y (st := z26) l2 c2 k2
 have B_is_tuple_of := F_is_tuple_of.binds (ps := ["thing", "many"]) fun _ _ _ _ _ _ us hl => match us, hl with | [_, _], _ => rfl
 have d_is_tuple_of : Df K mg "is_tuple_of" z26 ["thing", "many"] f2 _ := ⟨F_is_tuple_of, PySem.W.mg_of X G a2, B_is_tuple_of⟩
 have F_run := z3y (st := zdy) l3 c3 k3
 have B_run := F_run.binds (ps := ["program", "worths"]) fun _ _ _ _ _ _ us hl => match us, hl with | [_, _], _ => rfl
 have d_run : Df K mg "run" zdy ["program", "worths"] f3 _ := ⟨F_run, PySem.W.mg_of X G a3, B_run⟩
 have F_traced := z3y (st := z3r) l4 c4 k4
 have B_traced := F_traced.binds (ps := ["program", "worths"]) fun _ _ _ _ _ _ us hl => match us, hl with | [_, _], _ => rfl
 have d_traced : Df K mg "traced" z3r ["program", "worths"] f4 _ := ⟨F_traced, PySem.W.mg_of X G a4, B_traced⟩
 have F_run_by := z3y (st := z38) l5 c5 k5
 have B_run_by := F_run_by.binds (ps := ["program", "worths", "settle"]) fun _ _ _ _ _ _ us hl => match us, hl with | [_, _, _], _ => rfl
 have d_run_by : Df K mg "run_by" z38 ["program", "worths", "settle"] f5 _ := ⟨F_run_by, PySem.W.mg_of X G a5, B_run_by⟩
 have F_settled := z3y (st := z4u) l6 c6 k6
 have B_settled := F_settled.binds (ps := ["worth", "path", "rows"]) fun _ _ _ _ _ _ us hl => match us, hl with | [_, _, _], _ => rfl
 have d_settled : Df K mg "settled" z4u ["worth", "path", "rows"] f6 _ := ⟨F_settled, PySem.W.mg_of X G a6, B_settled⟩
 have F_names_at_first := z3y (st := z0d) l7 c7 k7
 have B_names_at_first := F_names_at_first.binds (ps := ["ins", "worths"]) fun _ _ _ _ _ _ us hl => match us, hl with | [_, _], _ => rfl
 have d_names_at_first : Df K mg "names_at_first" z0d ["ins", "worths"] f7 _ := ⟨F_names_at_first, PySem.W.mg_of X G a7, B_names_at_first⟩
 have F_do_block := z3y (st := z1o) l8 c8 k8
 have B_do_block := F_do_block.binds (ps := ["block", "path", "names", "settle"]) fun _ _ _ _ _ _ us hl => match us, hl with | [_, _, _, _], _ => rfl
 have d_do_block : Df K mg "do_block" z1o ["block", "path", "names", "settle"] f8 _ := ⟨F_do_block, PySem.W.mg_of X G a8, B_do_block⟩
 have F_do_deed := z3y (st := z3g) l9 c9 k9
 have B_do_deed := F_do_deed.binds (ps := ["deed", "path", "names", "settle"]) fun _ _ _ _ _ _ us hl => match us, hl with | [_, _, _, _], _ => rfl
 have d_do_deed : Df K mg "do_deed" z3g ["deed", "path", "names", "settle"] f9 _ := ⟨F_do_deed, PySem.W.mg_of X G a9, B_do_deed⟩
 have F_do_set := z3y (st := z4b) l10 c10 k10
 have B_do_set := F_do_set.binds (ps := ["deed", "path", "names", "settle"]) fun _ _ _ _ _ _ us hl => match us, hl with | [_, _, _, _], _ => rfl
 have d_do_set : Df K mg "do_set" z4b ["deed", "path", "names", "settle"] f10 _ := ⟨F_do_set, PySem.W.mg_of X G a10, B_do_set⟩
 have F_do_if := z3y (st := z56) l11 c11 k11
 have B_do_if := F_do_if.binds (ps := ["deed", "path", "names", "settle"]) fun _ _ _ _ _ _ us hl => match us, hl with | [_, _, _, _], _ => rfl
 have d_do_if : Df K mg "do_if" z56 ["deed", "path", "names", "settle"] f11 _ := ⟨F_do_if, PySem.W.mg_of X G a11, B_do_if⟩
 have F_do_while := z3y (st := z1n) l12 c12 k12
 have B_do_while := F_do_while.binds (ps := ["deed", "path", "names", "settle"]) fun _ _ _ _ _ _ us hl => match us, hl with | [_, _, _, _], _ => rfl
 have d_do_while : Df K mg "do_while" z1n ["deed", "path", "names", "settle"] f12 _ := ⟨F_do_while, PySem.W.mg_of X G a12, B_do_while⟩
 have F_reckon := z3y (st := z3m) l13 c13 k13
 have B_reckon := F_reckon.binds (ps := ["term", "path", "names", "settle"]) fun _ _ _ _ _ _ us hl => match us, hl with | [_, _, _, _], _ => rfl
 have d_reckon : Df K mg "reckon" z3m ["term", "path", "names", "settle"] f13 _ := ⟨F_reckon, PySem.W.mg_of X G a13, B_reckon⟩
 have F_worth_of := z3y (st := z3q) l14 c14 k14
 have B_worth_of := F_worth_of.binds (ps := ["word", "one", "other"]) fun _ _ _ _ _ _ us hl => match us, hl with | [_, _, _], _ => rfl
 have d_worth_of : Df K mg "worth_of" z3q ["word", "one", "other"] f14 _ := ⟨F_worth_of, PySem.W.mg_of X G a14, B_worth_of⟩
 have F_law_cell := z3y (st := z4m) l15 c15 k15
 have B_law_cell := F_law_cell.binds (ps := ["_law_script", "_law_k"]) fun _ _ _ _ _ _ us hl => match us, hl with | [_, _], _ => rfl
 have d_law_cell : Df K mg "_law_cell" z4m ["_law_script", "_law_k"] f15 _ := ⟨F_law_cell, PySem.W.mg_of X G a15, B_law_cell⟩
 have F_law_pick := z3y (st := z3f) l16 c16 k16
 have B_law_pick := F_law_pick.binds (ps := ["_law_script", "_law_k", "_law_many"]) fun _ _ _ _ _ _ us hl => match us, hl with | [_, _, _], _ => rfl
 have d_law_pick : Df K mg "_law_pick" z3f ["_law_script", "_law_k", "_law_many"] f16 _ := ⟨F_law_pick, PySem.W.mg_of X G a16, B_law_pick⟩
 have F_law_sum := z3y (st := z22) l17 c17 k17
 have B_law_sum := F_law_sum.binds (ps := ["_law_script", "_law_at", "_law_known", "_law_deep"]) fun _ _ _ _ _ _ us hl => match us, hl with | [_, _, _, _], _ => rfl
 have d_law_sum : Df K mg "_law_sum" z22 ["_law_script", "_law_at", "_law_known", "_law_deep"] f17 _ := ⟨F_law_sum, PySem.W.mg_of X G a17, B_law_sum⟩
 have F_law_counted := z3y (st := z0j) l18 c18 k18
 have B_law_counted := F_law_counted.binds (ps := ["_law_script", "_law_at", "_law_known", "_law_body", "_law_deep"]) fun _ _ _ _ _ _ us hl => match us, hl with | [_, _, _, _, _], _ => rfl
 have d_law_counted : Df K mg "_law_counted" z0j ["_law_script", "_law_at", "_law_known", "_law_body", "_law_deep"] f18 _ := ⟨F_law_counted, PySem.W.mg_of X G a18, B_law_counted⟩
 have F_law_block := z3y (st := z0b) l19 c19 k19
 have B_law_block := F_law_block.binds (ps := ["_law_script", "_law_at", "_law_known", "_law_deep"]) fun _ _ _ _ _ _ us hl => match us, hl with | [_, _, _, _], _ => rfl
 have d_law_block : Df K mg "_law_block" z0b ["_law_script", "_law_at", "_law_known", "_law_deep"] f19 _ := ⟨F_law_block, PySem.W.mg_of X G a19, B_law_block⟩
 have F_law_program := z3y (st := z0v) l20 c20 k20
 have B_law_program := F_law_program.binds (ps := ["_law_script", "_law_at"]) fun _ _ _ _ _ _ us hl => match us, hl with | [_, _], _ => rfl
 have d_law_program : Df K mg "_law_program" z0v ["_law_script", "_law_at"] f20 _ := ⟨F_law_program, PySem.W.mg_of X G a20, B_law_program⟩
 have F_law_all_worths := z3y (st := z0g) l21 c21 k21
 have B_law_all_worths := F_law_all_worths.binds (ps := ["_law_program_here"]) fun _ _ _ _ _ _ us hl => match us, hl with | [_], _ => rfl
 have d_law_all_worths : Df K mg "_law_all_worths" z0g ["_law_program_here"] f21 _ := ⟨F_law_all_worths, PySem.W.mg_of X G a21, B_law_all_worths⟩
 have F_law_reckoned := z3y (st := z23) l22 c22 k22
 have B_law_reckoned := F_law_reckoned.binds (ps := ["_law_word", "_law_one", "_law_other"]) fun _ _ _ _ _ _ us hl => match us, hl with | [_, _, _], _ => rfl
 have d_law_reckoned : Df K mg "_law_reckoned" z23 ["_law_word", "_law_one", "_law_other"] f22 _ := ⟨F_law_reckoned, PySem.W.mg_of X G a22, B_law_reckoned⟩
 have F_law_worth := z3y (st := z0p) l23 c23 k23
 have B_law_worth := F_law_worth.binds (ps := ["_law_expr", "_law_path", "_law_state"]) fun _ _ _ _ _ _ us hl => match us, hl with | [_, _, _], _ => rfl
 have d_law_worth : Df K mg "_law_worth" z0p ["_law_expr", "_law_path", "_law_state"] f23 _ := ⟨F_law_worth, PySem.W.mg_of X G a23, B_law_worth⟩
 have F_law_do := z3y (st := z1i) l24 c24 k24
 have B_law_do := F_law_do.binds (ps := ["_law_block_here", "_law_path", "_law_state"]) fun _ _ _ _ _ _ us hl => match us, hl with | [_, _, _], _ => rfl
 have d_law_do : Df K mg "_law_do" z1i ["_law_block_here", "_law_path", "_law_state"] f24 _ := ⟨F_law_do, PySem.W.mg_of X G a24, B_law_do⟩
 have F_law_run := z3y (st := z2v) l25 c25 k25
 have B_law_run := F_law_run.binds (ps := ["_law_program_here", "_law_worths"]) fun _ _ _ _ _ _ us hl => match us, hl with | [_, _], _ => rfl
 have d_law_run : Df K mg "_law_run" z2v ["_law_program_here", "_law_worths"] f25 _ := ⟨F_law_run, PySem.W.mg_of X G a25, B_law_run⟩
 have F_law_refused := z3y (st := z0i) l26 c26 k26
 have B_law_refused := F_law_refused.binds (ps := ["_law_program_here", "_law_worths"]) fun _ _ _ _ _ _ us hl => match us, hl with | [_, _], _ => rfl
 have d_law_refused : Df K mg "_law_refused" z0i ["_law_program_here", "_law_worths"] f26 _ := ⟨F_law_refused, PySem.W.mg_of X G a26, B_law_refused⟩
 have F_law := z3y (st := z63) l27 c27 k27
 have b_enumerate := PySem.W.mg_none_of X G z_enumerate
 have b_sorted := PySem.W.mg_none_of X G z_sorted
 have b_len := PySem.W.mg_none_of X G z_len
 have b_max := PySem.W.mg_none_of X G z_max
 have b_min := PySem.W.mg_none_of X G z_min
 have b_dict := PySem.W.mg_none_of X G z_dict
 have b_tuple := PySem.W.mg_none_of X G z_tuple
 have b_range := PySem.W.mg_none_of X G z_range
 have b_isinstance := PySem.W.mg_none_of X G z_isinstance
 have b_int := PySem.W.mg_none_of X G z_int
 have b_bool := PySem.W.mg_none_of X G z_bool
 have b_zip := PySem.W.mg_none_of X G z_zip
 have b_list := PySem.W.mg_none_of X G z_list
 have b_ValueError := PySem.W.mg_none_of X G z_ValueError
 refine ⟨PySem.W.fnOf "law" "law" (defArgs z63) (defBody z63) (defScope z63) .none kV27 dc27 pm27 an27 cd27 ct27, fun s v => .of_eq rfl, fun base _ _ hTB => ?_⟩
 have FC_run : FunC K "run" "run" zdy f3 _ e3 := ⟨⟨_, _, _, _, _, _, _, _, rfl, l3, c3⟩, k3⟩
 obtain ⟨tc_run, tb_run, tg_run⟩ := hTB (e3, t3) (.head _)
 have FC_traced : FunC K "traced" "traced" z3r f4 _ e4 := ⟨⟨_, _, _, _, _, _, _, _, rfl, l4, c4⟩, k4⟩
 obtain ⟨tc_traced, tb_traced, tg_traced⟩ := hTB (e4, t4) (.tail _ (.head _))
 have g_WIDE : GC mg "WIDE" (.ref ai) := ⟨_, PySem.W.mg_of X G pw, rfl⟩
 have hI : ∀ H, SqT K H ai [.int (-32768), .int 32767] := q0q ph (.cons ⟨_, rfl⟩ (.cons ⟨_, rfl⟩ .nil)) (show (2 : Nat) ≤ sizeLine by decide)
 have c_iw := d_is_whole.callee (zms (P := l.prog) (w := w) (base := base) F_is_whole b_isinstance b_int b_bool)
 have c_if := d_is_whole_from.callee (zg4 F_is_whole_from c_iw)
 have c_it := d_is_tuple_of.callee (zia (P := l.prog) (w := w) (base := base) F_is_tuple_of b_isinstance b_len b_tuple)
 have c_nf := d_names_at_first.callee (zfj F_names_at_first b_len b_zip c_it c_if)
 have c_se := d_settled.callee (zpm (P := l.prog) (w := w) (base := base) F_settled g_WIDE hI)
 have c_wo := d_worth_of.callee (zmr (P := l.prog) (w := w) (base := base) F_worth_of b_min b_max)
 have c_re := zj4 d_reckon c_wo c_se 5
 have c_do := zta d_do_block d_do_deed d_do_set d_do_if d_do_while b_enumerate c_re 4
 have c_rb := d_run_by.callee (zrg F_run_by b_sorted b_tuple c_nf c_do)
 have c_ru := d_run.callee (zyy FC_run tc_run tb_run tg_run c_rb)
 have c_tr := d_traced.callee (zrf FC_traced tc_traced tb_traced tg_traced c_rb)
 have c_cell := d_law_cell.callee (zwf (P := l.prog) (w := w) (base := base) F_law_cell b_len)
 have c_pick := d_law_pick.callee (zwe F_law_pick c_cell)
 have c_sum := zt8 d_law_sum b_len c_pick 3
 have c_cnt := d_law_counted.callee (zpr F_law_counted b_len c_pick c_sum)
 have c_blk := zlz d_law_block b_range b_tuple c_pick c_sum c_cnt 3
 have c_prg := d_law_program.callee (zpo F_law_program b_range b_tuple c_pick c_blk)
 have c_aw := d_law_all_worths.callee (zjk (P := l.prog) (w := w) (base := base) F_law_all_worths b_range)
 have cx_nf := d_names_at_first.calleeX (ze3 F_names_at_first x_NoWorths q_NoWorths b_len b_zip c_it c_if)
 have cx_rb := d_run_by.calleeX (zpn F_run_by b_sorted b_tuple cx_nf c_do)
 have cx_ru := d_run.calleeX (zwd FC_run tc_run tb_run tg_run cx_rb)
 have c_rk := d_law_reckoned.callee (zh9 (P := l.prog) (w := w) (base := base) F_law_reckoned b_sorted)
 have c_lw := zvp d_law_worth b_range c_rk 5
 have c_ld := zt9 d_law_do b_enumerate c_lw 3
 have c_lr := d_law_run.callee (zpp F_law_run b_dict b_zip b_tuple b_sorted b_list c_ld)
 have c_rf := d_law_refused.callee (zi9 F_law_refused b_isinstance b_ValueError (PySem.W.mg_of X G x_RoomError) (PySem.W.mg_of X G x_NoWorths) (PySem.W.mg_of X G x_BadPaper) (PySem.W.mg_of X G x_BadPlan) (PySem.W.mg_of X G x_NoProgram) (PySem.W.mg_of X G x_NoText) ⟨y_hcl, y_hb, y_hga, y_hgh, y_ha, y_hn, y_htk, y_hm⟩ y_xm y_k1 y_k2 y_k3 y_k4 y_k5 y_k6 cx_ru)
 exact zyz n34 F_law b_len c_prg c_pick c_aw c_lr c_ru c_tr c_rf
theorem q1q {l : PySem.W.OpenLaw} {q : Program} {loose : List Str} {XP : (Str → Option Value) → Heap → Prop} {YP : World → Heap → Prop} {d : DefRec} {K : Params → PySem.W.Frag} (e3 t3 e4 t4 : Addr) (hn : l.most = some 63) (hdf : d.params.defaults = [])
  (hY : ∀ (w : World) (h : Heap), YP w h → (K w.params).In h) (hK : ∀ w : World, PySem.W.noTabs (K w.params) = true) (hrec : ∀ t ∈ ([("run", e3, t3), ("traced", e4, t4)] : List (Str × Addr × Addr)), ∃ e, (PyProof.Rows.recsOf q).find? (fun e => e.name == t.1) = some e) (htab : ∀ (w : World), ∀ t ∈ ([("run", e3, t3), ("traced", e4, t4)] : List (Str × Addr × Addr)), PySem.W.tabIn (K w.params) t.1 = some (t.2.1, t.2.2))
  (F : ∀ (w : World) (mg : Str → Option Value) (fa : Addr) (h : Heap), (K w.params).In h → h.Ns mainGlobals mg → mg d.name = some (.ref fa) →
   ∃ fd : FuncData, (∀ (s : Shared) (u : Value), BindsTo s fd ⟨[u], []⟩ [("_law_script", u)]) ∧ ∀ base : Heap, (K w.params).In base → base.Ns mainGlobals mg → q06 mg base [(e3, t3), (e4, t4)] → FnOk l.prog w (K w.params) mg base CX0 24 fa fd ["_law_script"] (ztt (K w.params) t3 t4)) :
  PySem.W.WalkO q loose XP YP l.row.toRowW d [] (fun f vs => PySem.call f vs) :=
 L2.ztm (n := 63) (k := 24) (x := "_law_script") (sp := fun w => ztt (K w.params) t3 t4) (tabs := [("run", e3, t3), ("traced", e4, t4)]) hn (by decide) hdf ⟨rfl, by decide, by decide⟩ hY hK hrec htab F (fun _ _ a ns hl hO hS => ⟨a, ns, rfl, hS, hl, hO _ (.head _), hO _ (.tail _ (.head _)), fun _ => rfl⟩)
end SR
namespace PySem.W.Fast
def tw13985207440315974416 := 0
def tw4152165455247656028 := 0
def tw3564526563605169575 := 0
def tw3351526337864214441 := 0
def tw2025559708572140894 := 0
def tw885696091003683981 := 0
def tw14903155339277473828 := 0
def tw7425693803861696131 := 0
def tw3053386241129386094 := 0
def tw6724079191564110084 := 0
def tw6553136570305327793 := 0
def tw11824983569095079155 := 0
def tw5363621481638125320 := 0
def tw9265890918794444259 := 0
def tw4958787547027707567 := 0
def tw17238122246942993828 := 0
def tw3323030903532393100 := 0
def tw14202790490216837522 := 0
def tw4037558745119980349 := 0
def tw18349552870323762784 := 0
def tw7386018312183364295 := 0
def tw16310910009955843032 := 0
def tw5592125953125153627 := 0
def tw2107997387215403126 := 0
def tw17379347599925451100 := 0
def tw6291003325913594425 := 0
def tw13332074055410650790 := 0
def tw5057647705762801797 := 0
def tw9212159640976266742 := 0
def tw17605316769980665768 := 0
def tw4193773015667241859 := 0
def tw10478486805173307868 := 0
def tw10421167188388696192 := 0
def tw3608231669177253978 := 0
def tw16231938271566055451 := 0
def tw3512205445418790980 := 0
def tw7177188201032045121 := 0
def tw787187254132801176 := 0
def tw1746018963317664199 := 0
def tw1717300297266853570 := 0
def tw13504437951733584291 := 0
def tw8187799537010727001 := 0
def tw16092366444015813607 := 0
def tw9826112942270832343 := 0
def tw14978479568516935251 := 0
def tw13554594535996281210 := 0
def tw12707660398622148427 := 0
def tw1474246653752930782 := 0
def tw144128674964220397 := 0
def tw14832734572833819402 := 0
def tw10707544936212937928 := 0
def tw10560681293949969346 := 0
def tw11270191496202343992 := 0
def tw18166493703910730123 := 0
def tw7999429194137993179 := 0
def tw2936558557722304137 := 0
def tw8635229872548783836 := 0
def tw2727256413253787399 := 0
def tw17936551281340432367 := 0
def tw4805674320989047926 := 0
def tw11854501745235293156 := 0
def tw12050992168775464149 := 0
def tw4006366671292385219 := 0
def tw9037112909694145329 := 0
def tw12416690848677569094 := 0
def tw12246540957083270606 := 0
def tw10122441376486099931 := 0
def tw7997575365028567560 := 0
def tw8770900756772055709 := 0
def tw2168570504356228870 := 0
def tw668421944124368054 := 0
def tw3033356338848528638 := 0
def tw4491407435908736033 := 0
def tw18103117614486691557 := 0
def tw9319826934354867059 := 0
def tw12062947524712077284 := 0
def tw9535957098936862304 := 0
def tw11118498503015579676 := 0
def tw10369295274740354695 := 0
def tw16664409623020799213 := 0
def tw11890152278569790843 := 0
def tw2574569314382902318 := 0
def tw6987102158337059954 := 0
def tw7953228602923363624 := 0
def tw11784884509518640583 := 0
def tw9744633414609281459 := 0
def tw10252543946192212135 := 0
def tw3225153191667072118 := 0
def tw4967420606336643438 := 0
def tw2657149663515280779 := 0
def tw5007357525402909576 := 0
def tw2141923267080047657 := 0
def tw10920324354391389555 := 0
def tw12331040204096076322 := 0
def tw15305715993622652946 := 0
def tw16082622556145494349 := 0
def tw9638545956878008027 := 0
def tw14377587097971035949 := 0
def tw16423503874302978710 := 0
def tw11388863653742299587 := 0
def tw7447294041194317834 := 0
def tw4694732298748267003 := 0
def tw2557470517788673285 := 0
def tw11446721515369539946 := 0
def tw7441809576167610415 := 0
def tw16927627746603941341 := 0
def tw1954146675732918546 := 0
def tw12863209179035995585 := 0
def tw2914096973087121443 := 0
def tw13801460683710952763 := 0
def tw14740284883997454102 := 0
def tw5139567552156122292 := 0
def tw1112463365144318669 := 0
def tw9545297407109829080 := 0
def tw10177339878947134113 := 0
def tw13799075154310471087 := 0
def tw12599963409591383726 := 0
def tw7497004789382504012 := 0
def tw5279554904735522677 := 0
def tw14848708627497076783 := 0
def tw14055814761585800141 := 0
def tw11068243542756398598 := 0
def tw18248105223840090885 := 0
def tw4543005746776310072 := 0
def tw4996714277242952291 := 0
def tw17570523738559173365 := 0
def tw412591623236290556 := 0
def tw7584826738230562115 := 0
def tw11541292278985205196 := 0
def tw4077185592853539026 := 0
def tw1873485301549981156 := 0
def tw9023634700449081108 := 0
def tw1954012644300164536 := 0
def tw7256739849207288752 := 0
def tw14682071073145877760 := 0
def tw11869224046535025561 := 0
def tw2952445460417699837 := 0
def tw5992916072960280933 := 0
def tw14105905999005165065 := 0
def tw9939000700287950273 := 0
def tw4653819127475842814 := 0
def tw4550083315191319220 := 0
def tw16000214481000134715 := 0
def tw14422343288891062048 := 0
def tw9825423581961920620 := 0
def tw6326915334739333222 := 0
def tw15946198010574156703 := 0
def tw7080537529676045782 := 0
def tw12836823861363555944 := 0
def tw1569638137756960391 := 0
def tw16008300714569444900 := 0
def tw4682283086602435849 := 0
def tw15178102636944499754 := 0
def tw5445006693213060141 := 0
def tw11289780145259702564 := 0
def tw10087026084291295597 := 0
def tw497748325240456956 := 0
def tw4152675962784481400 := 0
def tw8290507786573879200 := 0
def tw5661232075883926598 := 0
def tw3083362664542602182 := 0
def tw13129729749716359702 := 0
def tw13702468072535774957 := 0
def tw2212759251278822127 := 0
def tw13027757875134849653 := 0
def tw8881461517472591805 := 0
def tw6824550918112577704 := 0
def tw14200409849186488291 := 0
def tw8409632437715143495 := 0
def tw3840342606475753175 := 0
def tw7563862043405247583 := 0
def tw16465564352304864242 := 0
def tw1524349506326991314 := 0
def tw10394112580691776162 := 0
def tw10069656791754874014 := 0
def tw16601970413103772278 := 0
def tw3202137482147495094 := 0
def tw4937608959355133551 := 0
def tw10719681220126659282 := 0
def tw5050991772569803857 := 0
def tw3771157307878384274 := 0
def tw6846460746999936237 := 0
def tw10670433918343207763 := 0
def tw18347810028464494544 := 0
def tw2586103475884154388 := 0
def tw14845256167942377214 := 0
def tw11597905076504731103 := 0
def tw5809768234029054272 := 0
def tw12394247104649444526 := 0
def tw5767886606667069051 := 0
def tw16972456293886143362 := 0
def tw7310246533513026759 := 0
def tw4842019101000902289 := 0
def tw549298731720095610 := 0
def tw10611611802986111265 := 0
def tw13622143224381330466 := 0
def tw3099389279763441451 := 0
def tw18124631884630155478 := 0
def tw17031968244636227688 := 0
def tw13036934215469955564 := 0
def tw7408687563364078853 := 0
def tw9130950953006287353 := 0
def tw4281298709569056445 := 0
def tw9677051151713056744 := 0
def tw2194209186065914490 := 0
def tw5037885343297360070 := 0
def tw17357233171965120993 := 0
def tw13944086032639685640 := 0
def tw6070401553692965205 := 0
def tw7783086225046419077 := 0
def tw6114290028404410985 := 0
def tw5949309601464540795 := 0
def tw2204516632889167303 := 0
def tw18211781524507824547 := 0
def tw15071095097888509130 := 0
def tw2466988189937114413 := 0
def tw10912237656707789124 := 0
def tw9791929702917179347 := 0
def tw15007360292054342425 := 0
def tw242493132677577498 := 0
def tw12286255540710290087 := 0
def tw15697080981318522826 := 0
def tw1323695757661358962 := 0
def tw14482169948995263741 := 0
def tw16656741757984955680 := 0
def tw3515079790760783728 := 0
def tw5678455919130003165 := 0
def tw7390165568088047161 := 0
def tw1484634254082959195 := 0
def tw10758569251559981040 := 0
def tw16096334213249112876 := 0
def tw9546314947860148725 := 0
def tw2672654143780358733 := 0
def tw14825310374711423102 := 0
def tw962234411858819195 := 0
def tw4631340197421033236 := 0
def tw12571309342171806713 := 0
def tw10234621531663527928 := 0
def tw6244924613178279281 := 0
def tw14859003832067655786 := 0
def tw14953142254013877303 := 0
def tw2400065839291907242 := 0
def tw2725960330861204000 := 0
def tw4457107891346556220 := 0
def tw7248665113144788590 := 0
def tw2771731898866293546 := 0
def tw13013961704588514739 := 0
def tw8706172839177517243 := 0
def tw3476186347677838507 := 0
def tw8133490616412642340 := 0
def tw7863637762112008600 := 0
def tw9740630524593325299 := 0
def tw14306838993858583974 := 0
def tw1692277938358764342 := 0
def tw7131751609222319641 := 0
def tw1882519313853778370 := 0
def tw8611554370322161032 := 0
def tw11953840124219916460 := 0
def tw936028668667175828 := 0
def tw4495438702906859991 := 0
def tw6976334035443482122 := 0
def tw338720912998943419 := 0
def tw13545822362529713555 := 0
def tw13902554378104888538 := 0
def tw18408322210179051589 := 0
def tw793337123085216181 := 0
def tw1424504365674974061 := 0
def tw13753793626943004235 := 0
end PySem.W.Fast
open PySem PySem.W PyProof.Rows
set_option maxRecDepth 100000 in
set_option maxHeartbeats 0 in
theorem PySem.Challenge.cw_smallrooms_k10_runs_holds : PySem.Challenge.rw_smallrooms_k10_runs.Holds := by
 w_on; o_law; k_head; (case hw => w_witness2)
 k_fill
 refine SR.q1q (l := PySem.Challenge.rw_smallrooms_k10_runs) 115 111 122 118 rfl rfl (fun w h Y => PySem.W.km_in_of Y) (fun w => by kernel_rfl) ?hrec ?htab ?F
 case hrec => exact List.forall_mem_cons.mpr ⟨Option.isSome_iff_exists.mp (by kernel_rfl), List.forall_mem_cons.mpr ⟨Option.isSome_iff_exists.mp (by kernel_rfl), fun _ h => nomatch h⟩⟩
 case htab => exact fun w => List.forall_mem_cons.mpr ⟨by kernel_rfl, List.forall_mem_cons.mpr ⟨by kernel_rfl, fun _ h => nomatch h⟩⟩
 case F =>
  intro w mg fa h KX G hmg
  refine' SR.q04 KX G hmg ?a0 ?l0 ?c0 ?k0 ?a1 ?l1 ?c1 ?k1 ?a2 ?l2 ?c2 ?k2 ?a3 ?l3 ?c3 ?k3 ?a4 ?l4 ?c4 ?k4 ?a5 ?l5 ?c5 ?k5 ?a6 ?l6 ?c6 ?k6 ?a7 ?l7 ?c7 ?k7 ?a8 ?l8 ?c8 ?k8 ?a9 ?l9 ?c9 ?k9 ?a10 ?l10 ?c10 ?k10 ?a11 ?l11 ?c11 ?k11 ?a12 ?l12 ?c12 ?k12 ?a13 ?l13 ?c13 ?k13 ?a14 ?l14 ?c14 ?k14 ?a15 ?l15 ?c15 ?k15 ?a16 ?l16 ?c16 ?k16 ?a17 ?l17 ?c17 ?k17 ?a18 ?l18 ?c18 ?k18 ?a19 ?l19 ?c19 ?k19 ?a20 ?l20 ?c20 ?k20 ?a21 ?l21 ?c21 ?k21 ?a22 ?l22 ?c22 ?k22 ?a23 ?l23 ?c23 ?k23 ?a24 ?l24 ?c24 ?k24 ?a25 ?l25 ?c25 ?k25 ?a26 ?l26 ?c26 ?k26 ?a27 ?l27 ?c27 ?k27 ?z_enumerate ?z_sorted ?z_len ?z_max ?z_min ?z_dict ?z_tuple ?z_range ?z_isinstance ?z_int ?z_bool ?z_zip ?z_list ?z_ValueError ?pw ?ph ?x_RoomError ?x_NoWorths ?x_BadPaper ?x_BadPlan ?x_NoProgram ?x_NoText ?q_NoWorths ?y_hcl ?y_hb ?y_hga ?y_hgh ?y_ha ?y_hn ?y_htk ?y_hm ?y_xm ?y_k1 ?y_k2 ?y_k3 ?y_k4 ?y_k5 ?y_k6 ?n34
  (case a0 => k_is); (case l0 => k_is); (case c0 => k_is); (case k0 => k_is)
  (case a1 => k_is); (case l1 => k_is); (case c1 => k_is); (case k1 => k_is)
  (case a2 => k_is); (case l2 => k_is); (case c2 => k_is); (case k2 => k_is)
  (case a3 => k_is); (case l3 => k_is); (case c3 => k_is); (case k3 => k_is)
  (case a4 => k_is); (case l4 => k_is); (case c4 => k_is); (case k4 => k_is)
  (case a5 => k_is); (case l5 => k_is); (case c5 => k_is); (case k5 => k_is)
  (case a6 => k_is); (case l6 => k_is); (case c6 => k_is); (case k6 => k_is)
  (case a7 => k_is); (case l7 => k_is); (case c7 => k_is); (case k7 => k_is)
  (case a8 => k_is); (case l8 => k_is); (case c8 => k_is); (case k8 => k_is)
  (case a9 => k_is); (case l9 => k_is); (case c9 => k_is); (case k9 => k_is)
  (case a10 => k_is); (case l10 => k_is); (case c10 => k_is); (case k10 => k_is)
  (case a11 => k_is); (case l11 => k_is); (case c11 => k_is); (case k11 => k_is)
  (case a12 => k_is); (case l12 => k_is); (case c12 => k_is); (case k12 => k_is)
  (case a13 => k_is); (case l13 => k_is); (case c13 => k_is); (case k13 => k_is)
  (case a14 => k_is); (case l14 => k_is); (case c14 => k_is); (case k14 => k_is)
  (case a15 => k_is); (case l15 => k_is); (case c15 => k_is); (case k15 => k_is)
  (case a16 => k_is); (case l16 => k_is); (case c16 => k_is); (case k16 => k_is)
  (case a17 => k_is); (case l17 => k_is); (case c17 => k_is); (case k17 => k_is)
  (case a18 => k_is); (case l18 => k_is); (case c18 => k_is); (case k18 => k_is)
  (case a19 => k_is); (case l19 => k_is); (case c19 => k_is); (case k19 => k_is)
  (case a20 => k_is); (case l20 => k_is); (case c20 => k_is); (case k20 => k_is)
  (case a21 => k_is); (case l21 => k_is); (case c21 => k_is); (case k21 => k_is)
  (case a22 => k_is); (case l22 => k_is); (case c22 => k_is); (case k22 => k_is)
  (case a23 => k_is); (case l23 => k_is); (case c23 => k_is); (case k23 => k_is)
  (case a24 => k_is); (case l24 => k_is); (case c24 => k_is); (case k24 => k_is)
  (case a25 => k_is); (case l25 => k_is); (case c25 => k_is); (case k25 => k_is)
  (case a26 => k_is); (case l26 => k_is); (case c26 => k_is); (case k26 => k_is)
  (case a27 => k_is); (case l27 => k_is); (case c27 => k_is); (case k27 => k_is)
  (case z_enumerate => k_is); (case z_sorted => k_is); (case z_len => k_is); (case z_max => k_is)
  (case z_min => k_is); (case z_dict => k_is); (case z_tuple => k_is); (case z_range => k_is)
  (case z_isinstance => k_is); (case z_int => k_is); (case z_bool => k_is); (case z_zip => k_is)
  (case z_list => k_is); (case z_ValueError => k_is); (case pw => k_is); (case ph => k_is)
  (case x_RoomError => k_is); (case x_NoWorths => k_is); (case x_BadPaper => k_is); (case x_BadPlan => k_is)
  (case x_NoProgram => k_is); (case x_NoText => k_is); (case q_NoWorths => kernel_rfl); (case y_hcl => kernel_rfl)
  (case y_hb => kernel_rfl); (case y_hga => kernel_rfl); (case y_hgh => kernel_rfl); (case y_ha => kernel_rfl)
  (case y_hn => kernel_rfl); (case y_htk => kernel_rfl); (case y_hm => kernel_rfl); (case y_xm => kernel_rfl)
  (case y_k1 => kernel_rfl); (case y_k2 => kernel_rfl); (case y_k3 => kernel_rfl); (case y_k4 => kernel_rfl)
  (case y_k5 => kernel_rfl); (case y_k6 => kernel_rfl); (case n34 => decide)
