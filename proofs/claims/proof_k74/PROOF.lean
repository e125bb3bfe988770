import PyProof.Rows.All
import Wide.All
import OpenK.AllK
import Wide.FinOn
import Lean
import PyProof.EqAt
import PyProof.EqKinds
import PyProof.TupleCall
import PyProof.AttrMissHeap
import PySem.Challenge.RW_smallrooms_k74_whole_peeled
set_option Elab.async false
set_option linter.all false
set_option maxRecDepth 100000
set_option Elab.async false
set_option linter.all false
set_option maxRecDepth 100000
namespace L2
open PySem PySem.Spec PyProof.Rows
abbrev Key := Sum Int Str
def znn : Key → Value → Bool
 | .inl k, v => Value.isInt k v
 | .inr x, v => Value.isStrOf x v
def q47 (w : World) : Key → Int
 | .inl k => hashInt k
 | .inr x => hashStr w x
theorem z37 : ∀ {k : Key} {v : Value}, znn k v = true → (∃ i t, k = Sum.inl i ∧ v = Value.int i t) ∨ (∃ x t, k = Sum.inr x ∧ v = Value.str x t)
 | .inl i, v, h => by
  obtain ⟨t, e⟩ := Value.isInt_shape (k := i) (v := v) h
  exact .inl ⟨i, t, rfl, e⟩
 | .inr x, v, h => by
  obtain ⟨t, e⟩ := Value.isStrOf_shape (x := x) (v := v) h
  exact .inr ⟨x, t, rfl, e⟩
theorem zsl (i : Int) (t : Tok) : znn (.inl i) (.int i t) = true := by simp [znn, Value.isInt]
theorem zsk (x : Str) (t : Tok) : znn (.inr x) (.str x t) = true := by simp [znn, Value.isStrOf]
theorem q0p (a b : Int) : decide ((Sum.inl a : Key) = Sum.inl b) = (a == b) := by
 by_cases e : a = b
 ·subst e; simp
 ·have h : ¬ (Sum.inl a : Key) = Sum.inl b := fun q => e (Sum.inl.inj q)
  rw [decide_eq_false h]
  exact (beq_eq_false_iff_ne.mpr e).symm
theorem q0m (a b : Str) : decide ((Sum.inr a : Key) = Sum.inr b) = decide (a = b) := by
 by_cases e : a = b
 ·subst e; simp
 ·have h : ¬ (Sum.inr a : Key) = Sum.inr b := fun q => e (Sum.inr.inj q)
  rw [decide_eq_false h, decide_eq_false e]
theorem q0o (a : Int) (b : Str) : decide ((Sum.inl a : Key) = Sum.inr b) = false := decide_eq_false (fun q => nomatch q)
theorem q0n (a : Str) (b : Int) : decide ((Sum.inr a : Key) = Sum.inl b) = false := decide_eq_false (fun q => nomatch q)
def z20 (prog : Program) (w : World) : PySem.KeyKind prog w Key where
 is := znn
 hash := q47 w
 inj := fun v a b ha hb => by
  rcases z37 ha with ⟨i, t, rfl, rfl⟩ | ⟨x, t, rfl, rfl⟩
  ·rcases z37 hb with ⟨j, u, rfl, e⟩ | ⟨y, u, rfl, e⟩
   ·injection e with e1 _; rw [e1]
   ·exact nomatch e
  ·rcases z37 hb with ⟨j, u, rfl, e⟩ | ⟨y, u, rfl, e⟩
   ·exact nomatch e
   ·injection e with e1 _; rw [e1]
 byValue := fun k v h => by
  rcases z37 h with ⟨i, t, rfl, rfl⟩ | ⟨x, t, rfl, rfl⟩ <;> rfl
 pyHash := fun hv h => by
  rcases z37 hv with ⟨i, t, rfl, rfl⟩ | ⟨x, t, rfl, rfl⟩
  ·exact wpAny_pyHash_int h
  ·exact wpAny_pyHash_str h
 eqBool := fun hu hv h => by
  rcases z37 hu with ⟨i, t, rfl, rfl⟩ | ⟨x, t, rfl, rfl⟩
  ·rcases z37 hv with ⟨j, u, rfl, rfl⟩ | ⟨y, u, rfl, rfl⟩
   ·rw [q0p] at h; exact wpAny_eqBool_int h
   ·rw [q0o] at h; exact SeqAt.EqAt.int_str i t y u _ _ _ _ h
  ·rcases z37 hv with ⟨j, u, rfl, rfl⟩ | ⟨y, u, rfl, rfl⟩
   ·rw [q0n] at h; exact SeqAt.EqAt.str_int x t j u _ _ _ _ h
   ·rw [q0m] at h; exact wpAny_eqBool_str h
 «strs» := fun k x t v h => by
  rcases z37 h with ⟨i, u, rfl, e⟩ | ⟨y, u, rfl, e⟩
  ·exact nomatch e
  ·injection e with e1 _
   subst e1
   cases v <;> rfl
theorem znj (prog : Program) (w : World) (i : Int) (t : Tok) : (z20 prog w).is (.inl i) (.int i t) = true := zsl i t
theorem zni (prog : Program) (w : World) (x : Str) (t : Tok) : (z20 prog w).is (.inr x) (.str x t) = true := zsk x t
end L2
namespace L2
open PySem PySem.Spec PyProof.Rows
inductive V where
 | non | bl (b : Bool) | int (i : Int) | str (x : Str) | byt (b : Array UInt8) | flt (b : UInt64) | ref (a : Addr) | ty (n : String)
 deriving DecidableEq
def RelV : V → Value → Prop
 | .non, u => u = Value.none
 | .bl b, u => u = Value.bool b
 | .int i, u => ∃ t, u = Value.int i t
 | .str x, u => ∃ t, u = Value.str x t
 | .byt b, u => ∃ t, u = Value.bytes b t
 | .flt b, u => ∃ t, u = Value.float b t
 | .ref a, u => u = Value.ref a
 | .ty n, u => u = Value.type n
abbrev Vals : List V → List Value → Prop := Paired RelV
theorem Vals.length {xs : List V} {us : List Value} (r : Vals xs us) : xs.length = us.length := Paired.length r
theorem Vals.get : ∀ {xs : List V} {us : List Value} {i : Nat} {x : V}, Vals xs us → xs[i]? = some x → ∃ u, us[i]? = some u ∧ RelV x u
 | _, _, _, _, .nil, e => by simp at e
 | _, _, 0, _, .cons r _, e => by simp at e; subst e; exact ⟨_, rfl, r⟩
 | _, _, i + 1, x, .cons _ t, e => by
  obtain ⟨u, h1, h2⟩ := Vals.get (i := i) (x := x) t (by simpa using e)
  exact ⟨u, by simpa using h1, h2⟩
theorem Vals.set {x : V} {u : Value} (r : RelV x u) : ∀ {xs : List V} {us : List Value} (i : Nat), Vals xs us → Vals (xs.set i x) (us.set i u)
 | _, _, _, .nil => .nil
 | _, _, 0, .cons _ t => .cons r t
 | _, _, i + 1, .cons q t => .cons q (Vals.set r i t)
theorem Vals.append : ∀ {xs ys : List V} {us ws : List Value}, Vals xs us → Vals ys ws → Vals (xs ++ ys) (us ++ ws)
 | _, _, _, _, .nil, s => s
 | _, _, _, _, .cons r t, s => .cons r (Vals.append t s)
theorem Vals.take : ∀ {xs : List V} {us : List Value} (n : Nat), Vals xs us → Vals (xs.take n) (us.take n)
 | _, _, 0, _ => .nil
 | _, _, _ + 1, .nil => .nil
 | _, _, n + 1, .cons r t => .cons r (Vals.take n t)
theorem Vals.drop : ∀ {xs : List V} {us : List Value} (n : Nat), Vals xs us → Vals (xs.drop n) (us.drop n)
 | _, _, 0, r => r
 | _, _, _ + 1, .nil => .nil
 | _, _, n + 1, .cons _ t => Vals.drop n t
def RelO : Option V → Option Value → Prop
 | some v, some u => RelV v u
 | none, none => True
 | _, _ => False
def KV {κ : Type} : List (κ × V) → List (κ × Value) → Prop := Paired fun (p : κ × V) (q : κ × Value) => p.1 = q.1 ∧ RelV p.2 q.2
def kV : Key → V
 | .inl i => .int i
 | .inr x => .str x
inductive HO where
 | lst (xs : List V)
 | tup (xs : List V)
 | dK (kvs : List (Key × V)) | dT (kvs : List (List Key × V))
 | set (S : Int → Bool) (n : Nat)
 | ins (C dx : Addr) (fs : List (Str × V))
 | own (x : Addr)
 | xd (fs : List (Str × V))
 | met (f x : Addr)
 | rng (lo hi : Int)
 | frz (o : Obj) (u : HO)
 | tbl (ps : Array Value)
 | ext (φ : Heap → Prop)
abbrev Hp := Addr → Option HO
def upd (H : Hp) (a : Addr) (o : HO) : Hp := fun b => if b = a then some o else H b
theorem z02 {H : Hp} {a : Addr} {o : HO} : upd H a o a = some o := by unfold upd; rw [if_pos rfl]
theorem z0q {H : Hp} {a b : Addr} {o : HO} (h : b ≠ a) : upd H a o b = H b := by unfold upd; rw [if_neg h]
theorem zh5 {H : Hp} {a b : Addr} {o u : HO} (h : H a = some o) (h' : H b = some u) (d : o ≠ u) : a ≠ b := by
 intro e; subst e; rw [h] at h'; exact d (Option.some.inj h')
theorem z12 {H : Hp} {a b : Addr} {o : HO} (h : H a = some o) (h' : H b = none) : a ≠ b := by
 intro e; subst e; rw [h] at h'; cases h'
section
variable (P : Program) (w : World)
def ObjOk (H : Hp) (h : Heap) (a : Addr) : HO → Prop
 | .lst xs => xs.length ≤ sizeLine ∧ ∃ (its : List Value) (n : Nat), Vals xs its ∧ h.get? a = some { cls := .type "list", data := .seq its.toArray n }
 | .tup xs => xs.length ≤ sizeLine ∧ ∃ its : List Value, Vals xs its ∧ IsTup h a its.toArray
 | .dK kvs => kvs.length ≤ sizeLine ∧ (a == sysModules) = false ∧ ∃ vs, KV kvs vs ∧ h.DictOf (z20 P w) a vs
 | .dT kvs => kvs.length ≤ sizeLine ∧ (a == sysModules) = false ∧ ∃ xs : List (List Key × Addr × Value),
   Paired (fun (p : List Key × V) (q : List Key × Addr × Value) => p.1 = q.1 ∧ H q.2.1 = some (.tup (p.1.map kV)) ∧ RelV p.2 q.2.2) kvs xs ∧
   ∃ o es ep, h.get? a = some o ∧ o.ExactDict ∧ o.data = .dict es ep ∧ es.toList = xs.map (entryOfKey (tupleKind (z20 P w))) ∧ (xs.map (·.1)).Nodup
 | .set S n => h.SetOf (intKind P w) a S n
 | .ins C dx fs => H dx = some (.own a) ∧ fs.length ≤ 1000 ∧ dx ≠ a ∧ h.get? a = some (PySem.W.instObj C dx) ∧
   ∃ mA, h.Ns1 dx mA ∧ (∀ f, RelO (fs.lookup f) (mA f)) ∧ PySem.Within mA (fs.map (·.1))
 | .own _ => ∃ o, h.get? a = some o
 | .xd fs => ∃ mA, h.Ns1 a mA ∧ ∀ f, RelO (fs.lookup f) (mA f)
 | .rng lo hi => ∃ t u v, h.get? a = some { cls := .type "range", data := .fields #[.int lo t, .int hi u, .int 1 v] }
 | .frz o u => h.get? a = some o ∧ ObjOk H h a u
 | .tbl ps => h.get? a = some { cls := .none, data := .fields ps }
 | .met f x => h.get? a = some (PySem.W.methodObj (.ref f) (.ref x))
 | .ext φ => φ h ∧ (∃ o, h.get? a = some o) ∧ ∀ h1 h2 : Heap, φ h1 → (∀ o, h1.get? a = some o → h2.get? a = some o) → φ h2
def HOk (H : Hp) (h : Heap) : Prop := ∀ a o, H a = some o → ObjOk P w H h a o
end
section
variable {P : Program} {w : World} {H H' : Hp} {h h' : Heap} {a : Addr} {o : HO}
theorem ObjOk.lt (x : ObjOk P w H h a o) : a < h.objs.size := by
 cases o with
 | lst xs => obtain ⟨_, _, _, _, e⟩ := x; exact Heap.lt_size e
 | tup xs => obtain ⟨_, _, _, p⟩ := x; exact p.lt
 | dK kvs => obtain ⟨_, _, _, _, o, _, _, e, _⟩ := x; exact Heap.lt_size e
 | dT kvs => obtain ⟨_, _, _, _, o, _, _, e, _⟩ := x; exact Heap.lt_size e
 | set S n => obtain ⟨o, _, _, _, e, _⟩ := x; exact Heap.lt_size e
 | ins C dx fs => obtain ⟨_, _, _, e, _⟩ := x; exact Heap.lt_size e
 | own y => obtain ⟨_, e⟩ := x; exact Heap.lt_size e
 | xd fs => obtain ⟨_, ⟨_, _, _, e, _⟩, _⟩ := x; exact Heap.lt_size e
 | rng lo hi => obtain ⟨_, _, _, e⟩ := x; exact Heap.lt_size e
 | frz ob u => obtain ⟨e, _⟩ := x; exact Heap.lt_size e
 | tbl ps => exact Heap.lt_size (show h.get? a = some _ from x)
 | met f y => exact Heap.lt_size (show h.get? a = some _ from x)
 | ext φ => obtain ⟨_, ⟨_, e⟩, _⟩ := x; exact Heap.lt_size e
theorem Paired.mapP {α β : Type} {F G : α → β → Prop} : ∀ {l₁ : List α} {l₂ : List β}, Paired F l₁ l₂ → (∀ a b, F a b → G a b) → Paired G l₁ l₂
 | _, _, .nil, _ => .nil
 | _, _, .cons r t, f => .cons (f _ _ r) (Paired.mapP t f)
theorem ObjOk.stay (x : ObjOk P w H h a o) (k : ∀ b u, (b = a ∨ H b = some (.own a)) → h.get? b = some u → h'.get? b = some u)
  (ho : ∀ b, H b = some (.own a) → H' b = some (.own a)) (ht : ∀ b xs, H b = some (.tup xs) → H' b = some (.tup xs)) : ObjOk P w H' h' a o := by
 induction o with
 | lst xs => obtain ⟨z, its, n, r, e⟩ := x; exact ⟨z, its, n, r, k _ _ (.inl rfl) e⟩
 | tup xs => obtain ⟨z, its, r, ob, e, c⟩ := x; exact ⟨z, its, r, ob, k _ _ (.inl rfl) e, c⟩
 | dK kvs => obtain ⟨z, y, vs, r, ob, es, ep, e, c⟩ := x; exact ⟨z, y, vs, r, ob, es, ep, k _ _ (.inl rfl) e, c⟩
 | dT kvs =>
  obtain ⟨z, y, xs, r, ob, es, ep, e, c⟩ := x
  exact ⟨z, y, xs, Paired.mapP r fun p q z => ⟨z.1, ht _ _ z.2.1, z.2.2⟩, ob, es, ep, k _ _ (.inl rfl) e, c⟩
 | set S n => obtain ⟨ob, es, ep, t, e, c⟩ := x; exact ⟨ob, es, ep, t, k _ _ (.inl rfl) e, c⟩
 | ins C dx fs =>
  obtain ⟨d, z, ne, e, mA, ⟨od, es, ep, e2, c⟩, r⟩ := x
  exact ⟨ho _ d, z, ne, k _ _ (.inl rfl) e, mA, ⟨od, es, ep, k _ _ (.inr d) e2, c⟩, r⟩
 | own y => obtain ⟨ob, e⟩ := x; exact ⟨ob, k _ _ (.inl rfl) e⟩
 | xd fs => obtain ⟨mA, ⟨od, es, ep, e, c⟩, r⟩ := x; exact ⟨mA, ⟨od, es, ep, k _ _ (.inl rfl) e, c⟩, r⟩
 | rng lo hi => obtain ⟨t, u, v, e⟩ := x; exact ⟨t, u, v, k _ _ (.inl rfl) e⟩
 | frz ob u ih => obtain ⟨e, q⟩ := x; exact ⟨k _ _ (.inl rfl) e, ih q⟩
 | tbl ps =>
  have e : h.get? a = some { cls := .none, data := .fields ps } := x
  show h'.get? a = some { cls := .none, data := .fields ps }
  exact k a _ (.inl rfl) e
 | met f y =>
  have e : h.get? a = some (PySem.W.methodObj (.ref f) (.ref y)) := x
  show h'.get? a = some (PySem.W.methodObj (.ref f) (.ref y))
  exact k a _ (.inl rfl) e
 | ext φ => obtain ⟨p, ⟨o, e⟩, st⟩ := x; exact ⟨st _ _ p fun o q => k _ _ (.inl rfl) q, ⟨o, k _ _ (.inl rfl) e⟩, st⟩
theorem HOk.lt (x : HOk P w H h) (e : H a = some o) : a < h.objs.size := (x a o e).lt
theorem HOk.fresh (x : HOk P w H h) (e : h.objs.size ≤ a) : H a = none := by
 cases q : H a with
 | none => rfl
 | some u => exact absurd (Nat.lt_of_lt_of_le (x.lt q) e) (Nat.lt_irrefl _)
theorem HOk.kept (x : HOk P w H h) (k : ∀ b u, h.get? b = some u → h'.get? b = some u) : HOk P w H h' := fun a o e =>
 (x a o e).stay (fun b u _ q => k b u q) (fun _ q => q) fun _ _ q => q
theorem HOk.laid (x : HOk P w H h) (k : ∀ b u, h.get? b = some u → h'.get? b = some u) (hp : h.objs.size ≤ a) (new : ObjOk P w (upd H a o) h' a o) : HOk P w (upd H a o) h' := fun b u e => by
 have hn := x.fresh hp
 by_cases hb : b = a
 ·subst hb; rw [z02] at e; cases e; exact new
 ·rw [z0q hb] at e
  exact (x b u e).stay (fun c v _ q => k c v q) (fun c q => by rw [z0q (z12 q hn)]; exact q) fun c xs q => by rw [z0q (z12 q hn)]; exact q
end
def Rd (H : Hp) (a : Addr) (u : HO) : Prop := H a = some u ∨ ∃ o, H a = some (.frz o u)
theorem Rd.of {H : Hp} {a : Addr} {u : HO} (h : H a = some u) : Rd H a u := .inl h
theorem Rd.ok {P : Program} {w : World} {H : Hp} {h : Heap} {a : Addr} {u : HO} (r : Rd H a u) (x : HOk P w H h) : ObjOk P w H h a u := by
 rcases r with r | ⟨o, r⟩
 ·exact x a u r
 ·obtain ⟨_, q⟩ := x a _ r
  exact q
def Mut : Option HO → Prop
 | some (.lst _) => True
 | some (.dK _) => True
 | some (.dT _) => True
 | some (.set _ _) => True
 | some (.ins _ _ _) => True
 | some (.ext _) => True
 | _ => False
section
variable {P : Program} {w : World} {H : Hp} {h h' : Heap} {x e : Addr} {o' : HO}
theorem HOk.write (ok : HOk P w H h) (mu : Mut (H x)) (he : e = x ∨ H e = some (.own x)) (k : ∀ b u, b ≠ e → h.get? b = some u → h'.get? b = some u) (heo : ∃ u, h'.get? e = some u)
  (new : ObjOk P w (upd H x o') h' x o') : HOk P w (upd H x o') h' := fun b u q => by
 have nown : ∀ c y, H c = some (.own y) → c ≠ x := fun c y r z => by subst z; rw [r] at mu; exact mu
 have ntup : ∀ c xs, H c = some (.tup xs) → c ≠ x := fun c xs r z => by subst z; rw [r] at mu; exact mu
 by_cases hb : b = x
 ·subst hb; rw [z02] at q; cases q; exact new
 ·rw [z0q hb] at q
  by_cases hbe : b = e
  ·have q' : H b = some (.own x) := by
    rcases he with z | z
    ·exact absurd (hbe.trans z) hb
    ·rw [hbe]; exact z
   rw [q] at q'; cases q'
   obtain ⟨v, hv⟩ := heo
   exact ⟨v, by rw [hbe]; exact hv⟩
  ·refine (ok b u q).stay (fun c v hc r => k c v ?_ r) (fun c r => by rw [z0q (nown c b r)]; exact r) fun c xs r => by rw [z0q (ntup c xs r)]; exact r
   rcases hc with rfl | hc
   ·exact hbe
   ·rintro rfl
    rcases he with z | z
    ·exact nown c b hc z
    ·rw [hc] at z; cases z; exact hb rfl
end
structure Un (fs ex : List Addr) (H H' : Hp) (h h' : Heap) : Prop where
 keep : ∀ b o, h.get? b = some o → H b = none → b ∉ fs → b ∉ ex → h'.get? b = some o
 slot : ∀ b o, h.get? b = some o → H b = none → b ∈ fs → b ∉ ex → ∃ sl, h'.get? b = some { o with slots := sl }
 free : ∀ b o, h.get? b = some o → H b = none → b ∉ ex → H' b = none
 there : ∀ b o, h.get? b = some o → b ∉ ex → ∃ o', h'.get? b = some o'
 tups : ∀ b xs, H b = some (.tup xs) → H' b = some (.tup xs)
 frzs : ∀ b o u, H b = some (.frz o u) → H' b = some (.frz o u)
 tbls : ∀ b ps, H b = some (.tbl ps) → ∃ more, H' b = some (.tbl (ps ++ more))
section
variable {fs fs' ex ex' : List Addr} {H H1 H2 : Hp} {h h1 h2 h' : Heap} {a x e : Addr} {o : HO}
theorem Un.any (u : Un fs ex H H1 h h1) {b : Addr} {ob : Obj} (q : h.get? b = some ob) (n : H b = none) (hx : b ∉ ex) : ∃ sl, h1.get? b = some { ob with slots := sl } := by
 by_cases hb : b ∈ fs
 ·exact u.slot b ob q n hb hx
 ·exact ⟨ob.slots, u.keep b ob q n hb hx⟩
theorem Un.trans (a : Un fs ex H H1 h h1) (b : Un fs ex H1 H2 h1 h2) : Un fs ex H H2 h h2 where
 keep := fun c ob q n hc hx => b.keep c ob (a.keep c ob q n hc hx) (a.free c ob q n hx) hc hx
 slot := fun c ob q n hc hx => by
  obtain ⟨sl, e1⟩ := a.slot c ob q n hc hx
  obtain ⟨sl', e2⟩ := b.slot c _ e1 (a.free c ob q n hx) hc hx
  exact ⟨sl', e2⟩
 free := fun c ob q n hx => by
  obtain ⟨o', e1⟩ := a.there c ob q hx
  exact b.free c o' e1 (a.free c ob q n hx) hx
 there := fun c ob q hx => by
  obtain ⟨o', e1⟩ := a.there c ob q hx
  exact b.there c o' e1 hx
 tups := fun c xs q => b.tups c xs (a.tups c xs q)
 frzs := fun c ob xs q => b.frzs c ob xs (a.frzs c ob xs q)
 tbls := fun c ps q => by
  obtain ⟨m1, e1⟩ := a.tbls c ps q
  obtain ⟨m2, e2⟩ := b.tbls c _ e1
  exact ⟨m1 ++ m2, by rw [e2, Array.append_assoc]⟩
theorem Un.kept (k : ∀ b u, h.get? b = some u → h'.get? b = some u) : Un fs ex H H h h' :=
 ⟨fun b ob q _ _ _ => k b ob q, fun b ob q _ _ _ => ⟨ob.slots, k b ob q⟩, fun _ _ _ n _ => n, fun b ob q _ => ⟨ob, k b ob q⟩, fun _ _ q => q, fun _ _ _ q => q, fun _ ps q => ⟨#[], by rw [q]; simp⟩⟩
theorem Un.refl : Un fs ex H H h h := Un.kept fun _ _ q => q
theorem Un.laid (k : ∀ b u, h.get? b = some u → h'.get? b = some u) (hp : h.objs.size ≤ a) (hn : H a = none) : Un fs ex H (upd H a o) h h' where
 keep := fun b u q _ _ _ => k b u q
 slot := fun b u q _ _ _ => ⟨u.slots, k b u q⟩
 free := fun b u q n _ => by rw [z0q (Nat.ne_of_lt (Nat.lt_of_lt_of_le (Heap.lt_size q) hp))]; exact n
 there := fun b u q _ => ⟨u, k b u q⟩
 tups := fun b xs q => by rw [z0q (z12 q hn)]; exact q
 frzs := fun b u xs q => by rw [z0q (z12 q hn)]; exact q
 tbls := fun b ps q => ⟨#[], by rw [z0q (z12 q hn), q]; simp⟩
theorem Un.write (mu : Mut (H x)) (he : e = x ∨ H e = some (.own x)) (k : ∀ b u, b ≠ e → h.get? b = some u → h'.get? b = some u) (heo : ∃ u, h'.get? e = some u) : Un fs ex H (upd H x o) h h' := by
 have hx : ∀ b, H b = none → b ≠ x := fun b n z => by subst z; rw [n] at mu; exact mu
 have hb : ∀ b, H b = none → b ≠ e := fun b n z => by
  subst z
  rcases he with r | r
  ·exact hx b n r
  ·rw [n] at r; cases r
 have hm : ∀ b u, H b = some u → ¬ Mut (some u) → b ≠ x := fun b u q nm z => by subst z; rw [q] at mu; exact nm mu
 refine ⟨fun b u q n _ _ => k b u (hb b n) q, fun b u q n _ _ => ⟨u.slots, k b u (hb b n) q⟩, fun b u q n _ => by rw [z0q (hx b n)]; exact n, fun b u q _ => ?_,
  fun b xs q => by rw [z0q (hm b _ q fun z => z)]; exact q, fun b u xs q => by rw [z0q (hm b _ q fun z => z)]; exact q, fun b ps q => ⟨#[], by rw [z0q (hm b _ q fun z => z), q]; simp⟩⟩
 by_cases hbe : b = e
 ·subst hbe; exact heo
 ·exact ⟨u, k b u hbe q⟩
theorem Un.mono (u : Un fs ex H H1 h h1) (hs : ∀ b ∈ fs, b ∈ fs') (hx : ∀ b ∈ ex, b ∈ ex') : Un fs' ex' H H1 h h1 :=
 ⟨fun b ob q n hb he => u.keep b ob q n (fun z => hb (hs b z)) fun z => he (hx b z), fun _ _ q n _ he => u.any q n fun z => he (hx _ z), fun b ob q n he => u.free b ob q n fun z => he (hx b z), fun b ob q he => u.there b ob q fun z => he (hx b z), u.tups, u.frzs, u.tbls⟩
end
def trk (h : Heap) (H : Hp) : List Addr := (List.range h.objs.size).filter fun a => (H a).isSome
def znq (h : Heap) (H : Hp) : Heap := PySem.W.hideAll h (trk h H)
theorem zln (h : Heap) (H : Hp) : (znq h H).objs.size = h.objs.size := PySem.W.hideAll_size _ _
theorem zox {h : Heap} {H : Hp} {b : Addr} {o : Obj} (e : h.get? b = some o) (n : H b = none) : (znq h H).get? b = some o :=
 PySem.W.hideAll_get _ e fun hm => by
  have q : (H b).isSome = true := (List.mem_filter.mp hm).2
  rw [n] at q; simp at q
theorem zs7 {h : Heap} {H : Hp} {b : Addr} {o : Obj} (e : (znq h H).get? b = some o) : h.get? b = some o ∧ H b = none := by
 have e' : h.get? b = some o := PySem.W.of_hideAll (trk h H) e
 refine ⟨e', ?_⟩
 cases q : H b with
 | none => rfl
 | some x =>
  have hm : b ∈ trk h H := List.mem_filter.mpr ⟨List.mem_range.mpr (Heap.lt_size e'), by simp [q]⟩
  have z : (znq h H).get? b = none := PySem.W.hideAll_none (trk h H) hm
  rw [z] at e; cases e
def zyt (g h : Heap) (L : Addr) : List (Addr × Obj) := (List.range h.objs.size).filterMap fun a => if a = L ∨ (g.get? a).isSome = true then none else (h.get? a).map fun o => (a, o)
def rest (g h : Heap) (L d : Addr) : List (Addr × Obj) := (zyt g h L).filter fun p => decide (p.1 ≠ d)
end L2
namespace L2
open PySem PySem.Spec PyProof.Rows
structure Mod (K : PySem.W.Frag) (mg : Str → Option Value) (base : Heap) : Prop where
 kin : K.In base
 glob : base.Ns mainGlobals mg
 blt : ∃ mb, base.Ns builtinsNs mb ∧ ∀ x : Str, x ≠ "__name__" → mb x = bootBuiltins x
 nolimit : base.NoLimit
structure Cx where
 prog : Program
 w : World
 K : PySem.W.Frag
 mg : Str → Option Value
 base : Heap
 A : Around
 N : List Str
 s₀ : Shared
 H₀ : Hp
 env : Env
 outer : List Env
 stack : List Env
 ex : List Addr
 fn : Str → Bool
 calm : Bool
 pn : List (Addr × Obj)
 xe : Value → Shared → Prop
def frs (l : List Env) : List Addr := l.filterMap (·.frame)
abbrev Cx.fs (X : Cx) : List Addr := frs X.outer
def Vis (sc : Scope) (x : Str) : Prop := sc.names.lookup x = some .local ∨ sc.names.lookup x = some .cell ∨ sc.names.lookup x = some .free
def Loc (sc : Scope) (x : Str) : Prop := sc.names.lookup x = some .local ∨ sc.names.lookup x = some .cell
def Look (env : Env) (h : Heap) (m : Str → Option Value) (x : Str) (u : Value) : Prop :=
 (env.kindOf x = some .local ∧ m x = some u) ∨ ((env.kindOf x = some .cell ∨ env.kindOf x = some .free) ∧ ∃ c, env.cells.lookup x = some c ∧ h.IsCell c (some u))
structure Cx.Ok (X : Cx) : Prop where
 mod : Mod X.K X.mg X.base
 kind : X.env.scope.kind = .function
 glob : X.env.globals = mainGlobals
 blt : X.env.builtins = builtinsNs
 above : X.s₀.heap.objs.size ≤ X.env.locals
 inj : ∀ x y c, X.env.cells.lookup x = some c → X.env.cells.lookup y = some c → x = y
 has : ∀ x, (X.env.kindOf x = some .cell ∨ X.env.kindOf x = some .free) → ∃ c, X.env.cells.lookup x = some c
 cab : ∀ x c, X.fn x = true → X.env.cells.lookup x = some c → X.s₀.heap.objs.size ≤ c
 hd : X.calm = true → X.A.handled = none
 frames : X.A.frames = some X.stack
 stk : X.stack = X.outer ∨ (X.stack = X.env :: X.outer ∧ X.env.frame = some X.env.locals)
 exf : ∀ b ∈ X.ex, b ≠ X.env.locals ∧ ∀ x c, X.env.cells.lookup x = some c → c ≠ b
 bs : ∀ b o, X.base.get? b = some o → X.s₀.heap.get? b = some o ∧ X.H₀ b = none
 bsz : X.base.objs.size ≤ X.s₀.heap.objs.size
 noex : ∀ b o, X.base.get? b = some o → b ∉ X.ex
 exfs : ∀ b ∈ X.ex, b ∉ X.fs
 funs : X.s₀.heap.FunFrames X.base X.outer
 frf : ∀ b ∈ X.fs, X.H₀ b = none
structure Inv (X : Cx) (pins : List (Addr × Obj)) (σ : List (Option V)) (H : Hp) (s : Shared) : Prop where
 ok : X.Ok
 os : s.os = X.s₀.os
 bare : AllBare s.gens
 base : Un X.fs X.ex X.H₀ H X.s₀.heap s.heap
 loc : ∃ m, s.heap.Ns X.env.locals m ∧ ∀ (i : Nat) (x : Str) (v : V), X.N[i]? = some x → σ[i]? = some (some v) → Vis X.env.scope x → ∃ u, RelV v u ∧ Look X.env s.heap m x u
 cell : ∀ x c, X.env.cells.lookup x = some c → ∃ v, s.heap.IsCell c v
 free : H X.env.locals = none
 freeC : ∀ x c, X.env.cells.lookup x = some c → H c = none
 pin : ∀ p ∈ X.pn ++ pins, s.heap.get? p.1 = some p.2 ∧ H p.1 = none ∧ p.1 ≠ X.env.locals ∧ p.1 ∉ X.fs ∧ ∀ v, p.2.data ≠ .cell v
 hok : HOk X.prog X.w H s.heap
 len : σ.length = X.N.length
section
variable {X : Cx} {pins : List (Addr × Obj)} {σ : List (Option V)} {H H' : Hp} {s : Shared} {h' : Heap}
theorem Cx.Ok.nofr (ok : X.Ok) {b : Addr} {o : Obj} (e : X.base.get? b = some o) : b ∉ X.fs := fun hb => by
 have := (ok.funs.mem hb).1
 rw [e] at this; cases this
theorem Inv.bs (I : Inv X pins σ H s) : ∀ b o, X.base.get? b = some o → s.heap.get? b = some o ∧ H b = none := fun b o e =>
 ⟨I.base.keep b o (I.ok.bs b o e).1 (I.ok.bs b o e).2 (I.ok.nofr e) (I.ok.noex b o e), I.base.free b o (I.ok.bs b o e).1 (I.ok.bs b o e).2 (I.ok.noex b o e)⟩
theorem Inv.bk (I : Inv X pins σ H s) : ∀ b o, X.base.get? b = some o → s.heap.get? b = some o := fun b o e => (I.bs b o e).1
theorem Inv.mod (I : Inv X pins σ H s) : Mod X.K X.mg X.base := I.ok.mod
theorem Inv.kIn (I : Inv X pins σ H s) : X.K.In s.heap := I.ok.mod.kin.keeps I.bk
theorem Inv.nolimit (I : Inv X pins σ H s) : s.heap.NoLimit := I.ok.mod.nolimit.keeps I.bk
theorem Inv.fr (I : Inv X pins σ H s) : ∃ m, Fr X.base X.env.locals s.heap m :=
 let ⟨m, hn, _⟩ := I.loc
 ⟨m, hn, I.bk, Nat.le_trans I.ok.bsz I.ok.above⟩
theorem Inv.lt (I : Inv X pins σ H s) : X.env.locals < s.heap.objs.size := let ⟨_, hn, _⟩ := I.loc; hn.lt
theorem Inv.sz (I : Inv X pins σ H s) : X.s₀.heap.objs.size ≤ s.heap.objs.size := Nat.le_trans I.ok.above (Nat.le_of_lt I.lt)
theorem Inv.nofs (I : Inv X pins σ H s) {a : Addr} (h : s.heap.objs.size ≤ a) : a ∉ X.fs := fun hb => by
 obtain ⟨_, o, ho, _⟩ := I.ok.funs.mem hb
 exact absurd (Nat.lt_of_lt_of_le (Heap.lt_size ho) (Nat.le_trans I.sz h)) (Nat.lt_irrefl _)
theorem Inv.cne (I : Inv X pins σ H s) : ∀ x c, X.env.cells.lookup x = some c → c ≠ X.env.locals := fun x c e z => by
 obtain ⟨v, o, ho, hd⟩ := I.cell x c e
 obtain ⟨m, ⟨o', es, ep, ho', hd', _⟩, _⟩ := I.loc
 rw [z, ho'] at ho; cases ho; rw [hd'] at hd; cases hd
theorem Inv.funs (I : Inv X pins σ H s) : s.heap.FunFrames X.base X.outer := by
 have all : ∀ (l : List Env), (∀ b ∈ frs l, b ∈ X.fs) → X.s₀.heap.FunFrames X.base l → s.heap.FunFrames X.base l := by
  intro l
  induction l with
  | nil => intro _ _; trivial
  | cons env r ih =>
   intro hs hl
   obtain ⟨hk, ⟨L, o, hf, hn, ho, hd⟩, hr⟩ := hl
   have hL : L ∈ X.fs := hs L (by unfold frs; rw [List.filterMap_cons, hf]; exact List.mem_cons_self)
   obtain ⟨sl, e⟩ := I.base.slot L o ho (I.ok.frf L hL) hL fun z => I.ok.exfs L z hL
   exact ⟨hk, ⟨L, _, hf, hn, e, hd⟩, ih (fun b hb => hs b (by unfold frs; rw [List.filterMap_cons, hf]; exact List.mem_cons_of_mem _ hb)) hr⟩
 exact all X.outer (fun _ hb => hb) I.ok.funs
theorem Inv.stack (I : Inv X pins σ H s) : s.heap.FunFrames X.base X.stack := by
 rcases I.ok.stk with e | ⟨e, hf⟩
 ·rw [e]; exact I.funs
 ·rw [e]
  obtain ⟨m, hn, _⟩ := I.loc
  refine .cons (by rw [I.ok.kind]; decide) hf hn ?_ I.funs
  exact Heap.get?_none_of_le (Nat.le_trans I.ok.bsz I.ok.above)
theorem Inv.stkSub (I : Inv X pins σ H s) : ∀ b ∈ frs X.stack, b ∈ X.env.locals :: X.fs := fun b hb => by
 rcases I.ok.stk with e | ⟨e, hf⟩
 ·rw [e] at hb; exact List.mem_cons_of_mem _ hb
 ·rw [e] at hb
  unfold frs at hb
  rw [List.filterMap_cons, hf] at hb
  exact hb
theorem Inv.stkFree (I : Inv X pins σ H s) : ∀ b ∈ frs X.stack, H b = none := fun b hb => by
 rcases List.mem_cons.mp (I.stkSub b hb) with e | hb
 ·rw [e]; exact I.free
 ·obtain ⟨_, o, ho, _⟩ := I.ok.funs.mem hb
  exact I.base.free b o ho (I.ok.frf b hb) fun z => I.ok.exfs b z hb
theorem Inv.step {g' : Array GenState} {t' : Nat} {d' : Drawn} {ch : List Addr} (I : Inv X pins σ H s)
  (hch : ∀ b ∈ ch, (b ∈ X.ex ∨ X.s₀.heap.objs.size ≤ b) ∧ b ≠ X.env.locals ∧ (∀ x c, X.env.cells.lookup x = some c → c ≠ b) ∧ ∀ p ∈ X.pn ++ pins, p.1 ≠ b)
  (keep : ∀ b o, b ≠ X.env.locals → b ∉ X.fs → b ∉ ch → s.heap.get? b = some o → H b = none → h'.get? b = some o)
  (slot : ∀ b o, b ≠ X.env.locals → b ∈ X.fs → b ∉ ch → s.heap.get? b = some o → H b = none → ∃ sl, h'.get? b = some { o with slots := sl }) (free : ∀ b o, b ∉ ch → s.heap.get? b = some o → H b = none → H' b = none)
  (there : ∀ b o, b ∉ ch → s.heap.get? b = some o → ∃ o', h'.get? b = some o')
  (tups : ∀ b xs, H b = some (.tup xs) → H' b = some (.tup xs)) (frzs : ∀ b o u, H b = some (.frz o u) → H' b = some (.frz o u)) (tbls : ∀ b ps, H b = some (.tbl ps) → ∃ more, H' b = some (.tbl (ps ++ more)))
  (ns : ∀ m, s.heap.Ns X.env.locals m → h'.Ns X.env.locals m) (hok : HOk X.prog X.w H' h') (hg : AllBare g') :
  Inv X pins σ H' { s with heap := h', gens := g', drawn := d', toks := t' } := by
 have neL : ∀ b o, X.s₀.heap.get? b = some o → b ≠ X.env.locals := fun b o e => Nat.ne_of_lt (Nat.lt_of_lt_of_le (Heap.lt_size e) I.ok.above)
 have neC : ∀ b o, X.s₀.heap.get? b = some o → b ∉ X.ex → b ∉ ch := fun b o e hx hb => by
  rcases (hch b hb).1 with z | z
  ·exact hx z
  ·exact absurd (Nat.lt_of_lt_of_le (Heap.lt_size e) z) (Nat.lt_irrefl _)
 have cellK : ∀ x c, X.env.cells.lookup x = some c → ∀ v, s.heap.IsCell c v → h'.IsCell c v := fun x c e v ⟨o, ho, hd⟩ => by
  have nch : c ∉ ch := fun z => (hch c z).2.2.1 x c e rfl
  by_cases hc : c ∈ X.fs
  ·obtain ⟨sl, q⟩ := slot c o (I.cne x c e) hc nch ho (I.freeC x c e)
   exact ⟨_, q, hd⟩
  ·exact ⟨o, keep c o (I.cne x c e) hc nch ho (I.freeC x c e), hd⟩
 refine ⟨I.ok, I.os, hg, ⟨fun b o e n hb hx => ?_, fun b o e n hb hx => ?_, fun b o e n hx => ?_, fun b o e hx => ?_, fun b xs e => tups b xs (I.base.tups b xs e), fun b o xs e => frzs b o xs (I.base.frzs b o xs e), fun b ps e => ?_⟩, ?_, fun x c e => ?_, ?_, fun x c e => ?_, fun p hp => ?_, hok, I.len⟩
 ·exact keep b o (neL b o e) hb (neC b o e hx) (I.base.keep b o e n hb hx) (I.base.free b o e n hx)
 ·obtain ⟨sl, e1⟩ := I.base.slot b o e n hb hx
  obtain ⟨sl', e2⟩ := slot b _ (neL b o e) hb (neC b o e hx) e1 (I.base.free b o e n hx)
  exact ⟨sl', e2⟩
 ·obtain ⟨o', e1⟩ := I.base.there b o e hx
  exact free b o' (neC b o e hx) e1 (I.base.free b o e n hx)
 ·obtain ⟨o', e1⟩ := I.base.there b o e hx
  exact there b o' (neC b o e hx) e1
 ·obtain ⟨m1, e1⟩ := I.base.tbls b ps e
  obtain ⟨m2, e2⟩ := tbls b _ e1
  exact ⟨m1 ++ m2, by rw [e2, Array.append_assoc]⟩
 ·obtain ⟨m, hn, hl⟩ := I.loc
  refine ⟨m, ns m hn, fun i x v e1 e2 e3 => ?_⟩
  obtain ⟨u, r, l⟩ := hl i x v e1 e2 e3
  refine ⟨u, r, ?_⟩
  rcases l with l | ⟨k, c, e, z⟩
  ·exact .inl l
  ·exact .inr ⟨k, c, e, cellK x c e _ z⟩
 ·obtain ⟨v, z⟩ := I.cell x c e
  exact ⟨v, cellK x c e v z⟩
 ·obtain ⟨m, ⟨o, _, _, ho, _⟩, _⟩ := I.loc
  exact free _ o (fun z => (hch _ z).2.1 rfl) ho I.free
 ·obtain ⟨v, o, ho, hd⟩ := I.cell x c e
  exact free c o (fun z => (hch c z).2.2.1 x c e rfl) ho (I.freeC x c e)
 ·obtain ⟨e, n, ne, nf, d⟩ := I.pin p hp
  have nch : p.1 ∉ ch := fun z => (hch p.1 z).2.2.2 p hp rfl
  exact ⟨keep p.1 p.2 ne nf nch e n, free p.1 p.2 nch e n, ne, nf, d⟩
theorem Inv.un {t' : Nat} (I : Inv X pins σ H s) (u : Un X.fs [] H H' s.heap h') (hok : HOk X.prog X.w H' h') : Inv X pins σ H' { s with heap := h', toks := t' } := by
 obtain ⟨m, ⟨o, es, ep, ho, r⟩, _⟩ := id I.loc
 obtain ⟨sl, hL⟩ := u.any ho I.free (by simp)
 exact I.step (g' := s.gens) (d' := s.drawn) (ch := []) (fun _ z => nomatch z) (fun b o _ hb _ e n => u.keep b o e n hb (by simp)) (fun b o _ hb _ e n => u.slot b o e n hb (by simp)) (fun b o _ e n => u.free b o e n (by simp)) (fun b o _ e => u.there b o e (by simp)) u.tups u.frzs u.tbls (fun m' hm => by
  obtain ⟨o', es', ep', ho', r'⟩ := hm
  rw [ho] at ho'; cases ho'
  exact ⟨_, es', ep', hL, r'⟩) hok I.bare
theorem Inv.call {g' : Array GenState} {t' : Nat} {d' : Drawn} {ch : List Addr} (I : Inv X pins σ H s) (u : Un (frs X.stack) ch H H' s.heap h') (hok : HOk X.prog X.w H' h') (hg : AllBare g')
  (hch : ∀ b ∈ ch, (b ∈ X.ex ∨ X.s₀.heap.objs.size ≤ b) ∧ b ≠ X.env.locals ∧ (∀ x c, X.env.cells.lookup x = some c → c ≠ b) ∧ ∀ p ∈ X.pn ++ pins, p.1 ≠ b) :
  Inv X pins σ H' { s with heap := h', gens := g', drawn := d', toks := t' } := by
 obtain ⟨m, ⟨o, es, ep, ho, r⟩, _⟩ := id I.loc
 obtain ⟨sl, hL⟩ := u.any ho I.free fun z => (hch _ z).2.1 rfl
 exact I.step (ch := ch) hch (fun b o hL hb hc e n => u.keep b o e n (fun z => (List.mem_cons.mp (I.stkSub b z)).elim hL hb) hc) (fun b o _ _ hc e n => u.any e n hc) (fun b o hc e n => u.free b o e n hc) (fun b o hc e => u.there b o e hc) u.tups u.frzs u.tbls (fun m' hm => by
  obtain ⟨o', es', ep', ho', r'⟩ := hm
  rw [ho] at ho'; cases ho'
  exact ⟨_, es', ep', hL, r'⟩) hok hg
theorem Inv.turned {t' : Nat} {it : Addr} (I : Inv X pins σ H s) (k : ∀ b o, b ≠ it → s.heap.get? b = some o → h'.get? b = some o) (hn : H it = none) (hL : it ≠ X.env.locals)
  (h1 : it ∈ X.ex ∨ X.s₀.heap.objs.size ≤ it) (h2 : ∀ x c, X.env.cells.lookup x = some c → c ≠ it) (h3 : ∀ p ∈ X.pn ++ pins, p.1 ≠ it) : Inv X pins σ H { s with heap := h', toks := t' } := by
 have nit : ∀ b u, H b = some u → b ≠ it := fun b u e z => by rw [z, hn] at e; cases e
 refine I.step (g' := s.gens) (d' := s.drawn) (ch := [it]) (fun b hb => ?_) (fun b o _ _ hc e _ => k b o (fun z => hc (by simp [z])) e) (fun b o _ _ hc e _ => ⟨o.slots, k b o (fun z => hc (by simp [z])) e⟩) (fun _ _ _ _ n => n)
  (fun b o hc e => ⟨o, k b o (fun z => hc (by simp [z])) e⟩) (fun _ _ e => e) (fun _ _ _ e => e) (fun b ps e => ⟨#[], by rw [e]; simp⟩) (fun m hm => ?_) (fun b u e => ?_) I.bare
 ·have e : b = it := by simpa using hb
  subst e
  exact ⟨h1, hL, h2, h3⟩
 ·obtain ⟨o, es, ep, ho, r⟩ := hm
  exact ⟨o, es, ep, k _ o (Ne.symm hL) ho, r⟩
 ·refine (I.hok b u e).stay (fun c v hc q => k c v ?_ q) (fun _ q => q) fun _ _ q => q
  rcases hc with z | z
  ·rw [z]; exact nit b u e
  ·exact nit c _ z
theorem Inv.tok (I : Inv X pins σ H s) (t : Nat) : Inv X pins σ H { s with toks := t } := I.un (h' := s.heap) (t' := t) Un.refl I.hok
theorem Inv.kept {t' : Nat} (I : Inv X pins σ H s) (k : ∀ b u, s.heap.get? b = some u → h'.get? b = some u) : Inv X pins σ H { s with heap := h', toks := t' } := I.un (Un.kept k) (I.hok.kept k)
theorem Inv.laid {a : Addr} {o : HO} {t' : Nat} (I : Inv X pins σ H s) (k : ∀ b u, s.heap.get? b = some u → h'.get? b = some u) (hp : s.heap.objs.size ≤ a) (new : ObjOk X.prog X.w (upd H a o) h' a o) :
  Inv X pins σ (upd H a o) { s with heap := h', toks := t' } := I.un (Un.laid k hp (I.hok.fresh hp)) (I.hok.laid k hp new)
theorem Inv.write {x e : Addr} {o : HO} {t' : Nat} (I : Inv X pins σ H s) (mu : Mut (H x)) (he : e = x ∨ H e = some (.own x)) (k : ∀ b u, b ≠ e → s.heap.get? b = some u → h'.get? b = some u) (heo : ∃ u, h'.get? e = some u)
  (new : ObjOk X.prog X.w (upd H x o) h' x o) : Inv X pins σ (upd H x o) { s with heap := h', toks := t' } := I.un (Un.write mu he k heo) (I.hok.write mu he k heo new)
theorem Inv.pins_of {pins' : List (Addr × Obj)} (I : Inv X pins σ H s) (h : ∀ p ∈ pins', s.heap.get? p.1 = some p.2 ∧ H p.1 = none ∧ p.1 ≠ X.env.locals ∧ p.1 ∉ X.fs ∧ ∀ v, p.2.data ≠ .cell v) : Inv X pins' σ H s :=
 ⟨I.ok, I.os, I.bare, I.base, I.loc, I.cell, I.free, I.freeC, fun p hp => (List.mem_append.mp hp).elim (fun z => I.pin p (List.mem_append_left _ z)) (h p), I.hok, I.len⟩
theorem zor {N : List Str} (hN : N.Nodup) {i j : Nat} {x : Str} (a : N[i]? = some x) (b : N[j]? = some x) : i = j := by
 obtain ⟨h1, e1⟩ := List.getElem?_eq_some_iff.mp a
 obtain ⟨h2, e2⟩ := List.getElem?_eq_some_iff.mp b
 exact (List.getElem_inj hN).mp (e1.trans e2.symm)
theorem zkq {M : Model} {A : Around} {E : Value → Shared → Prop} {i : Nat} {x : Str} {v : V} {u : Value} {Q : Unit → Shared → Prop} (I : Inv X pins σ H s) (hN : X.N.Nodup) (hi : X.N[i]? = some x) (hx : Loc X.env.scope x) (r : RelV v u)
  (h : ∀ s', Inv X pins (σ.set i (some v)) H s' → (∃ a, Heap.SameBut a s.heap s'.heap ∧ (a = X.env.locals ∨ X.env.cells.lookup x = some a)) → Q () s') (hf : X.fn x = true ∨ X.env.scope.names.lookup x = some .local := by first | exact .inl rfl | exact .inr rfl | assumption) : wpAny M A (storeName X.env x u) Q E s := by
 obtain ⟨m, hn, hl⟩ := id I.loc
 have hcls : (X.env.scope.kind == .class || (X.env.scope.kind == .module && X.env.locals != X.env.globals)) = false := by rw [I.ok.kind]; rfl
 have hiσ : i < σ.length := by rw [I.len]; exact (List.getElem?_eq_some_iff.mp hi).1
 have cne := I.cne
 have tracked : ∀ {a : Addr} {h' : Heap}, (∃ o, s.heap.get? a = some o ∧ H a = none) → Heap.SameBut a s.heap h' → HOk X.prog X.w H h' := fun {a h'} ha hs b ob e => by
  obtain ⟨_, _, hfree⟩ := ha
  refine (I.hok b ob e).stay (fun c w' hc q => (hs.2 c ?_).trans q) (fun _ q => q) fun _ _ q => q
  rintro rfl
  rcases hc with rfl | hc
  ·rw [hfree] at e; cases e
  ·rw [hfree] at hc; cases hc
 rcases hx with hk | hk
 ·refine wpAny_storeName_local hk hn (fun h' hn' hs => ?_) hcls
  obtain ⟨oL, _, _, hoL, _⟩ := id hn
  refine h _ ⟨I.ok, I.os, I.bare, ⟨fun b o e n hb hx => ?_, fun b o e n hb hx => ?_, I.base.free, fun b o e hx => ?_, I.base.tups, I.base.frzs, I.base.tbls⟩, ⟨_, hn', fun j y v' e1 e2 e3 => ?_⟩, fun y c e => ?_, I.free, I.freeC, fun p hp => ?_, tracked ⟨oL, hoL, I.free⟩ hs, by simpa using I.len⟩ ⟨_, hs, .inl rfl⟩
  ·exact (hs.2 b (Nat.ne_of_lt (Nat.lt_of_lt_of_le (Heap.lt_size e) I.ok.above))).trans (I.base.keep b o e n hb hx)
  ·obtain ⟨sl, e1⟩ := I.base.slot b o e n hb hx
   exact ⟨sl, (hs.2 b (Nat.ne_of_lt (Nat.lt_of_lt_of_le (Heap.lt_size e) I.ok.above))).trans e1⟩
  ·obtain ⟨o', e1⟩ := I.base.there b o e hx
   exact ⟨o', (hs.2 b (Nat.ne_of_lt (Nat.lt_of_lt_of_le (Heap.lt_size e) I.ok.above))).trans e1⟩
  ·by_cases hj : j = i
   ·subst hj
    rw [hi] at e1; cases e1
    rw [List.getElem?_set_self hiσ] at e2
    cases e2
    exact ⟨u, r, .inl ⟨hk, by simp⟩⟩
   ·rw [List.getElem?_set_ne (Ne.symm hj)] at e2
    obtain ⟨u', r', q⟩ := hl j y v' e1 e2 e3
    refine ⟨u', r', ?_⟩
    rcases q with ⟨k, e⟩ | ⟨k, c, e, z⟩
    ·refine .inl ⟨k, ?_⟩
     have : y ≠ x := fun e => hj (zor hN e1 (e ▸ hi))
     simp [this, e]
    ·exact .inr ⟨k, c, e, z.sameBut hs (cne y c e)⟩
  ·obtain ⟨w', z⟩ := I.cell y c e
   exact ⟨w', z.sameBut hs (cne y c e)⟩
  ·obtain ⟨e, n, ne, nf, d⟩ := I.pin p hp
   exact ⟨(hs.2 p.1 ne).trans e, n, ne, nf, d⟩
 ·have hfn : X.fn x = true := by
   rcases hf with z | z
   ·exact z
   ·rw [z] at hk; cases hk
  obtain ⟨c, hc⟩ := I.ok.has x (.inl hk)
  obtain ⟨w', z⟩ := I.cell x c hc
  refine wpAny_storeName_cell I.ok.kind hk hc z (fun h' hc' hs => ?_)
  obtain ⟨oc, hoc, hocd⟩ := id z
  refine h { s with heap := h' } ⟨I.ok, I.os, I.bare, ⟨fun b o e n hb hx => ?_, fun b o e n hb hx => ?_, I.base.free, fun b o e hx => ?_, I.base.tups, I.base.frzs, I.base.tbls⟩, ⟨m, hn.sameBut hs (Ne.symm (cne x c hc)), fun j y v' e1 e2 e3 => ?_⟩, fun y c' e => ?_, I.free, I.freeC, fun p hp => ?_, tracked ⟨oc, hoc, I.freeC x c hc⟩ hs, by simpa using I.len⟩ ⟨c, hs, .inr hc⟩
  ·exact (hs.2 b (Nat.ne_of_lt (Nat.lt_of_lt_of_le (Heap.lt_size e) (I.ok.cab x c hfn hc)))).trans (I.base.keep b o e n hb hx)
  ·obtain ⟨sl, e1⟩ := I.base.slot b o e n hb hx
   exact ⟨sl, (hs.2 b (Nat.ne_of_lt (Nat.lt_of_lt_of_le (Heap.lt_size e) (I.ok.cab x c hfn hc)))).trans e1⟩
  ·obtain ⟨o', e1⟩ := I.base.there b o e hx
   exact ⟨o', (hs.2 b (Nat.ne_of_lt (Nat.lt_of_lt_of_le (Heap.lt_size e) (I.ok.cab x c hfn hc)))).trans e1⟩
  ·by_cases hj : j = i
   ·subst hj
    rw [hi] at e1; cases e1
    rw [List.getElem?_set_self hiσ] at e2
    cases e2
    exact ⟨u, r, .inr ⟨.inl hk, c, hc, hc'⟩⟩
   ·rw [List.getElem?_set_ne (Ne.symm hj)] at e2
    obtain ⟨u', r', q⟩ := hl j y v' e1 e2 e3
    refine ⟨u', r', ?_⟩
    rcases q with q | ⟨k, c', e, z'⟩
    ·exact .inl q
    ·refine .inr ⟨k, c', e, z'.sameBut hs ?_⟩
     rintro rfl
     exact hj (zor hN e1 (I.ok.inj _ _ _ e hc ▸ hi))
  ·by_cases hcc : c' = c
   ·subst hcc; exact ⟨_, hc'⟩
   ·obtain ⟨w2, z2⟩ := I.cell y c' e
    exact ⟨w2, z2.sameBut hs hcc⟩
  ·obtain ⟨e, n, ne, nf, d⟩ := I.pin p hp
   refine ⟨(hs.2 p.1 ?_).trans e, n, ne, nf, d⟩
   intro q
   rw [q, hoc] at e
   have q' : oc = p.2 := Option.some.inj e
   exact d w' (by rw [← q']; exact hocd)
theorem zob {M : Model} {A : Around} {E : Value → Shared → Prop} {i : Nat} {x : Str} {v : V} {u : Value} {Q : Unit → Shared → Prop} (I : Inv X pins σ H s) (hN : X.N.Nodup) (hi : X.N[i]? = some x) (hx : Loc X.env.scope x) (r : RelV v u)
  (h : ∀ s', Inv X pins (σ.set i (some v)) H s' → Q () s') (hf : X.fn x = true ∨ X.env.scope.names.lookup x = some .local := by first | exact .inl rfl | exact .inr rfl | assumption) : wpAny M A (storeName X.env x u) Q E s :=
 zkq I hN hi hx r (fun s' I' _ => h s' I') hf
theorem Inv.call' {s' : Shared} {ch : List Addr} (I : Inv X pins σ H s) (ho : s'.os = s.os) (u : Un (frs X.stack) ch H H' s.heap s'.heap) (hok : HOk X.prog X.w H' s'.heap) (hg : AllBare s'.gens)
  (hch : ∀ b ∈ ch, (b ∈ X.ex ∨ X.s₀.heap.objs.size ≤ b) ∧ b ≠ X.env.locals ∧ (∀ x c, X.env.cells.lookup x = some c → c ≠ b) ∧ ∀ p ∈ X.pn ++ pins, p.1 ≠ b) : Inv X pins σ H' s' := by
 obtain ⟨h', g', d', t', o'⟩ := s'
 have e : o' = s.os := ho
 subst e
 exact I.call (g' := g') (t' := t') (d' := d') u hok hg hch
end
abbrev XK := Value → Option Addr → Hp → Prop
abbrev St := List (Option V)
abbrev VK := V → Hp → Prop
abbrev TE := St → Hp → VK → Prop
abbrev TT := St → Hp → (Bool → Hp → Prop) → Prop
abbrev TA := St → Hp → (List V → Hp → Prop) → Prop
structure Ends where
 nx : St → Hp → Prop
 rt : VK
 bk : St → Hp → Prop := fun _ _ => False
 ct : St → Hp → Prop := fun _ _ => False
abbrev TS := Ends → St → Hp → Prop
def EP (X : Cx) (pins : List (Addr × Obj)) (σ : St) (Q : VK) (u : Value) (s' : Shared) : Prop := ∃ v H', Inv X pins σ H' s' ∧ RelV v u ∧ Q v H'
def TP (X : Cx) (pins : List (Addr × Obj)) (σ : St) (Q : Bool → Hp → Prop) (b : Bool) (s' : Shared) : Prop := ∃ H', Inv X pins σ H' s' ∧ Q b H'
def AP (X : Cx) (pins : List (Addr × Obj)) (σ : St) (Q : List V → Hp → Prop) (us : List Value) (s' : Shared) : Prop := ∃ vs H', Inv X pins σ H' s' ∧ Vals vs us ∧ Q vs H'
def SP (X : Cx) (pins : List (Addr × Obj)) (D : Ends) (f : Flow) (s' : Shared) : Prop :=
 match f with
 | .next => ∃ σ' H', Inv X pins σ' H' s' ∧ D.nx σ' H'
 | .brk => ∃ σ' H', Inv X pins σ' H' s' ∧ D.bk σ' H'
 | .cont => ∃ σ' H', Inv X pins σ' H' s' ∧ D.ct σ' H'
 | .ret u => ∃ v σ' H', Inv X pins σ' H' s' ∧ RelV v u ∧ D.rt v H'
def PE (X : Cx) (e : Expr) (t : TE) : Prop :=
 ∀ (pins : List (Addr × Obj)) (s : Shared) (σ : St) (H : Hp) (Q : VK), Inv X pins σ H s → t σ H Q → wpAny (model X.prog X.w) X.A (eval e X.env) (EP X pins σ Q) X.xe s
def PT (X : Cx) (e : Expr) (t : TT) : Prop :=
 ∀ (pins : List (Addr × Obj)) (s : Shared) (σ : St) (H : Hp) (Q : Bool → Hp → Prop), Inv X pins σ H s → t σ H Q → wpAny (model X.prog X.w) X.A (isTrue e X.env (eval e X.env)) (TP X pins σ Q) X.xe s
def PW (X : Cx) (e : Expr) (t : TT) : Prop :=
 ∀ (whole : Sem Value) (pins : List (Addr × Obj)) (s : Shared) (σ : St) (H : Hp) (Q : Bool → Hp → Prop), Inv X pins σ H s → t σ H Q → wpAny (model X.prog X.w) X.A (isTrue e X.env whole) (TP X pins σ Q) X.xe s
theorem PW.pt {X : Cx} {e : Expr} {t : TT} (h : PW X e t) : PT X e t := h _
def PA (X : Cx) (es : List Expr) (t : TA) : Prop :=
 ∀ (pos : Pos) (pins : List (Addr × Obj)) (s : Shared) (σ : St) (H : Hp) (Q : List V → Hp → Prop), Inv X pins σ H s → t σ H Q → wpAny (model X.prog X.w) X.A (spliced (backTo pos (starEach es X.env))) (AP X pins σ Q) X.xe s
def PS (X : Cx) (st : Stmt) (t : TS) : Prop :=
 ∀ (pins : List (Addr × Obj)) (s : Shared) (σ : St) (H : Hp) (D : Ends), Inv X pins σ H s → t D σ H → wpAny (model X.prog X.w) X.A (exec st X.env) (SP X pins D) X.xe s
def PSs (X : Cx) (st : List Stmt) (t : TS) : Prop :=
 ∀ (pins : List (Addr × Obj)) (s : Shared) (σ : St) (H : Hp) (D : Ends), Inv X pins σ H s → t D σ H → wpAny (model X.prog X.w) X.A (execs st X.env) (SP X pins D) X.xe s
theorem thn {α : Type} {t : Sem α} {Q Q' : α → Shared → Prop} {M : Model} {A : Around} {E : Value → Shared → Prop} {s : Shared} (h : wpAny M A t Q E s) (hQ : ∀ a s, Q a s → Q' a s) : wpAny M A t Q' E s := wpAny_mono h hQ fun _ _ x => x
end L2
namespace L2
open PySem PySem.Spec PyProof.Rows
section
variable {X : Cx}
def ztz (i : Nat) : TE := fun σ H Q => ∃ v, σ[i]? = some (some v) ∧ Q v H
def tC (v : V) : TE := fun _ H Q => Q v H
theorem z00 {i : Nat} {x : Str} {pos : Pos} (hN : X.N[i]? = some x) (hv : Vis X.env.scope x) (hd : (x == ("__debug__" : Str)) = false := by decide) (hcd : (x == ("__classdict__" : Str)) = false := by decide) : PE X (.Name x pos) (ztz i) := by
 intro pins s σ H Q I h
 obtain ⟨v, e, h⟩ := h
 obtain ⟨m, hn, hl⟩ := I.loc
 obtain ⟨u, r, l⟩ := hl i x v hN e hv
 have fin : EP X pins σ Q u s := ⟨v, H, I, r, h⟩
 rcases l with ⟨hk, hm⟩ | ⟨hk, c, hc, hcell⟩
 ·exact wpAny_Name (wpAny_loadName_local I.ok.kind hk hn hm fin) hd
 ·rcases hk with hk | hk
  ·exact wpAny_Name (wpAny_loadName_cell I.ok.kind hk hc hcell fin) hd
  ·exact wpAny_Name (wpAny_loadName_free I.ok.kind hk hc hcell fin hcd) hd
theorem z01 {i j pos} : PE X (.Constant (.int i) j pos) (tC (.int i)) := fun _ _ _ H _ I h => wpAny_Constant_int ⟨.int i, H, I.tok _, ⟨_, rfl⟩, h⟩
theorem zpq {b j pos} : PE X (.Constant (.bool b) j pos) (tC (.bl b)) := fun _ _ _ H _ I h => Constant_bool ⟨.bl b, H, I, rfl, h⟩
theorem zdd {j pos} : PE X (.Constant .none j pos) (tC .non) := fun _ _ _ H _ I h => Constant_none ⟨.non, H, I, rfl, h⟩
theorem z0u {x j pos} : PE X (.Constant (.str x) j pos) (tC (.str x)) := fun _ _ _ H _ I h => Calls.Constant_str ⟨.str x, H, I.tok _, ⟨_, rfl⟩, h⟩
def Gl (X : Cx) (x : Str) : Prop := X.env.kindOf x = some .globalImplicit
theorem znl {E : Value → Shared → Prop} {pins : List (Addr × Obj)} {s : Shared} {σ : St} {H : Hp} {x : Str} {u : Value} {pos : Pos} {Q : Value → Shared → Prop} (I : Inv X pins σ H s) (hg : Gl X x) (hm : X.mg x = some u) (h : Q u s)
  (hd : (x == ("__debug__" : Str)) = false := by decide) : wpAny (model X.prog X.w) X.A (eval (.Name x pos) X.env) Q E s :=
 Calls.Name_function_global I.ok.kind hg (Calls.loadGlobal_global (by rw [I.ok.glob]; exact I.mod.glob.keeps I.bk) hm h) hd
theorem zhc {E : Value → Shared → Prop} {pins : List (Addr × Obj)} {s : Shared} {σ : St} {H : Hp} {x : Str} {u : Value} {pos : Pos} {Q : Value → Shared → Prop} (I : Inv X pins σ H s) (hg : Gl X x) (hm : X.mg x = none) (hv : bootBuiltins x = some u) (h : Q u s)
  (hn : x ≠ "__name__" := by decide) (hd : (x == ("__debug__" : Str)) = false := by decide) : wpAny (model X.prog X.w) X.A (eval (.Name x pos) X.env) Q E s := by
 obtain ⟨mb, h1, h2⟩ := I.mod.blt
 exact Calls.Name_function_global I.ok.kind hg (Calls.loadGlobal_builtin (by rw [I.ok.glob]; exact I.mod.glob.keeps I.bk) hm (by rw [I.ok.blt]; exact h1.keeps I.bk) ((h2 x hn).trans hv) h) hd
theorem zxb {x : Str} {v : V} {u : Value} {pos : Pos} (hg : Gl X x) (hm : X.mg x = some u) (r : RelV v u) (hd : (x == ("__debug__" : Str)) = false := by decide) : PE X (.Name x pos) (tC v) :=
 fun _ _ _ H _ I h => znl I hg hm ⟨v, H, I, r, h⟩ hd
theorem zn6 {x : Str} {v : V} {u : Value} {pos : Pos} (hg : Gl X x) (hm : X.mg x = none) (hv : bootBuiltins x = some u) (r : RelV v u) (hn : x ≠ "__name__" := by decide) (hd : (x == ("__debug__" : Str)) = false := by decide) : PE X (.Name x pos) (tC v) :=
 fun _ _ _ H _ I h => zhc I hg hm hv ⟨v, H, I, r, h⟩ hn hd
variable {a b : Expr} {ta tb : TE} {pos : Pos}
def tB (t : TE) : TT := fun σ H Q => t σ H fun x H1 => ∃ c, x = .bl c ∧ Q c H1
theorem zrj {e : Expr} {t : TE} (h : PE X e t) (he : ∀ whole, isTrue e X.env whole = (do let v ← whole; standAt e.pos; holding [v] (truthy v)) := by intro _; rfl) : PT X e (tB t) := by
 intro pins s σ H Q I hw
 refine isTrue_plain (thn (h pins s σ H _ I hw) fun v s1 ⟨x, H1, I1, r1, q1⟩ => ?_) (he _)
 obtain ⟨d, rfl, q⟩ := q1
 cases r1
 exact wpAny_truthy_bool ⟨H1, I1, q⟩
variable {tA tB' : TT} {rest : List Expr}
def q1y (t u : TT) : TT := fun σ H Q => t σ H fun c H1 => if c = true then u σ H1 Q else Q false H1
def tOr (t u : TT) : TT := fun σ H Q => t σ H fun c H1 => if c = true then Q true H1 else u σ H1 Q
def q1v (t : TT) : TT := fun σ H Q => t σ H fun c H1 => Q (!c) H1
theorem zri (ha : PT X a tA) : PW X (.BoolOp .And [a] pos) tA := by
 intro wh pins s σ H Q I h
 refine isTrue_and (thn (ha pins s σ H Q I h) fun c s1 e => ?_)
 cases c with
 | true => exact isTrue_and_nil e
 | false => exact e
theorem zih (ha : PT X a tA) : PW X (.BoolOp .Or [a] pos) tA := by
 intro wh pins s σ H Q I h
 refine isTrue_or (thn (ha pins s σ H Q I h) fun c s1 e => ?_)
 cases c with
 | false => exact isTrue_or_nil e
 | true => exact e
theorem zw1 (ha : PT X a tA) (hb : PW X (.BoolOp .And (b :: rest) pos) tB') : PW X (.BoolOp .And (a :: b :: rest) pos) (q1y tA tB') := by
 intro wh pins s σ H Q I h
 refine isTrue_and (thn (ha pins s σ H _ I h) fun c s1 ⟨H1, I1, q1⟩ => ?_)
 cases c with
 | true => exact hb wh pins s1 σ H1 Q I1 q1
 | false => exact ⟨H1, I1, q1⟩
theorem zkz (ha : PT X a tA) (hb : PW X (.BoolOp .Or (b :: rest) pos) tB') : PW X (.BoolOp .Or (a :: b :: rest) pos) (tOr tA tB') := by
 intro wh pins s σ H Q I h
 refine isTrue_or (thn (ha pins s σ H _ I h) fun c s1 ⟨H1, I1, q1⟩ => ?_)
 cases c with
 | true => exact ⟨H1, I1, q1⟩
 | false => exact hb wh pins s1 σ H1 Q I1 q1
theorem zw3 (ha : PT X a tA) : PT X (.UnaryOp .Not a pos) (q1v tA) := by
 intro pins s σ H Q I h
 exact isTrue_not (ha pins s σ H (fun c H1 => Q (!c) H1) I h)
def zug (ta tb : TE) : TE := fun σ H Q => ta σ H fun x H1 => ∃ c, x = .bl c ∧ if c = true then tb σ H1 Q else Q (.bl false) H1
def q2h (ta tb : TE) : TE := fun σ H Q => ta σ H fun x H1 => ∃ c, x = .bl c ∧ if c = true then Q (.bl true) H1 else tb σ H1 Q
def zu9 (ta : TE) : TE := fun σ H Q => ta σ H fun x H1 => ∃ c, x = .bl c ∧ Q (.bl (!c)) H1
theorem zrq {op} {t : TE} (h : PE X a t) : PE X (.BoolOp op [a] pos) t := fun pins s σ H Q I hw => BoolOp_one (h pins s σ H Q I hw)
theorem zol (ha : PE X a ta) (hb : PE X (.BoolOp .And (b :: rest) pos) tb) : PE X (.BoolOp .And (a :: b :: rest) pos) (zug ta tb) := by
 intro pins s σ H Q I h
 refine BoolOp_and (thn (ha pins s σ H _ I h) fun v s1 ⟨x, H1, I1, r1, q1⟩ => ?_)
 obtain ⟨c, rfl, q1⟩ := q1
 cases r1
 refine wpAny_truthy_bool ?_
 cases c with
 | true => exact hb pins s1 σ H1 Q I1 q1
 | false => exact ⟨.bl false, H1, I1, rfl, q1⟩
theorem zzy (ha : PE X a ta) : PE X (.UnaryOp .Not a pos) (zu9 ta) := by
 intro pins s σ H Q I h
 refine UnaryOp_ (thn (ha pins s σ H _ I h) fun v s1 ⟨x, H1, I1, r1, q1⟩ => ?_)
 obtain ⟨c, rfl, q1⟩ := q1
 cases r1
 exact not_of (wpAny_truthy_bool ⟨.bl (!c), H1, I1, rfl, q1⟩)
def tIf (t : TT) (ta tb : TE) : TE := fun σ H Q => t σ H fun c H1 => if c = true then ta σ H1 Q else tb σ H1 Q
theorem zjd {c : Expr} (hc : PT X c tA) (ha : PE X a ta) (hb : PE X b tb) : PE X (.IfExp c a b pos) (tIf tA ta tb) := by
 intro pins s σ H Q I h
 refine wpAny_IfExp (thn (hc pins s σ H _ I h) fun d s1 ⟨H1, I1, q1⟩ => ?_)
 cases d with
 | true => exact ha pins s1 σ H1 Q I1 q1
 | false => exact hb pins s1 σ H1 Q I1 q1
end
end L2
namespace L2
open PySem PySem.Spec PyProof.Rows
def SqL (K : PySem.W.Frag) (H : Hp) (a : Addr) (xs : List V) : Prop :=
 Rd H a (.lst xs) ∨
  ∃ (o : Obj) (its : Array Value) (n : Nat), K.lookup a = some o ∧ o.cls = .type "list" ∧ o.dict = none ∧ o.data = .seq its n ∧ its.size ≤ sizeLine ∧ Vals xs its.toList
def SqT (K : PySem.W.Frag) (H : Hp) (a : Addr) (xs : List V) : Prop :=
 Rd H a (.tup xs) ∨
  ∃ (o : Obj) (its : Array Value) (n : Nat), K.lookup a = some o ∧ o.cls = .type "tuple" ∧ o.data = .seq its n ∧ its.size ≤ sizeLine ∧ Vals xs its.toList
def q4e : Value → Option V
 | .none => some .non
 | .bool b => some (.bl b)
 | .int i _ => some (.int i)
 | .str x _ => some (.str x)
 | .bytes b _ => some (.byt b)
 | .float b _ => some (.flt b)
 | .ref a => some (.ref a)
 | .type n => some (.ty n)
 | _ => none
theorem RelV.abs {x : V} {u : Value} (r : RelV x u) : q4e u = some x := by
 cases x with
 | non => cases r; rfl
 | bl _ => cases r; rfl
 | int _ => obtain ⟨t, rfl⟩ := r; rfl
 | str _ => obtain ⟨t, rfl⟩ := r; rfl
 | byt _ => obtain ⟨t, rfl⟩ := r; rfl
 | flt _ => obtain ⟨t, rfl⟩ := r; rfl
 | ref _ => cases r; rfl
 | ty _ => cases r; rfl
theorem RelV.inj {x y : V} {u : Value} (r : RelV x u) (q : RelV y u) : x = y := Option.some.inj (r.abs.symm.trans q.abs)
theorem Vals.inj : ∀ {xs ys : List V} {us : List Value}, Vals xs us → Vals ys us → xs = ys
 | _, _, _, .nil, .nil => rfl
 | _, _, _, .cons r t, .cons r' t' => by rw [r.inj r', Vals.inj t t']
section
variable {X : Cx} {pins : List (Addr × Obj)} {σ : St} {H : Hp} {s : Shared} {a : Addr} {xs ys : List V}
theorem SqL.of {K : PySem.W.Frag} (h : H a = some (.lst xs)) : SqL K H a xs := .inl (.inl h)
theorem SqT.of {K : PySem.W.Frag} (h : H a = some (.tup xs)) : SqT K H a xs := .inl (.inl h)
theorem Inv.list (I : Inv X pins σ H s) (h : SqL X.K H a xs) : ∃ its : List Value, Vals xs its ∧ PlainL s.heap a its.toArray ∧ xs.length ≤ sizeLine := by
 rcases h with h | ⟨o, its, n, hk, hc, hd, hs, hz, r⟩
 ·obtain ⟨z, its, n, r, e⟩ := h.ok I.hok
  exact ⟨its, r, ⟨_, n, e, rfl, rfl, rfl⟩, z⟩
 ·refine ⟨its.toList, r, ⟨o, n, I.kIn a o hk, hc, hd, by simpa using hs⟩, ?_⟩
  have e := r.length
  simp only [Array.length_toList] at e
  omega
theorem Inv.tuple (I : Inv X pins σ H s) (h : SqT X.K H a xs) : ∃ its : List Value, Vals xs its ∧ IsTup s.heap a its.toArray ∧ xs.length ≤ sizeLine := by
 rcases h with h | ⟨o, its, n, hk, hc, hs, hz, r⟩
 ·obtain ⟨z, its, r, p⟩ := h.ok I.hok
  exact ⟨its, r, p, z⟩
 ·refine ⟨its.toList, r, ⟨o, I.kIn a o hk, hc, n, by simpa using hs⟩, ?_⟩
  have e := r.length
  simp only [Array.length_toList] at e
  omega
theorem Inv.list_inj (I : Inv X pins σ H s) (h : SqL X.K H a xs) (h' : SqL X.K H a ys) : xs = ys := by
 obtain ⟨its, r, ⟨o, n, e, _, _, d⟩, _⟩ := I.list h
 obtain ⟨its', r', ⟨o', n', e', _, _, d'⟩, _⟩ := I.list h'
 rw [e] at e'; cases e'
 rw [d] at d'
 injection d' with d1 _
 have : its = its' := by simpa using congrArg Array.toList d1
 subst this
 exact r.inj r'
theorem Inv.tuple_inj (I : Inv X pins σ H s) (h : SqT X.K H a xs) (h' : SqT X.K H a ys) : xs = ys := by
 obtain ⟨its, r, ⟨o, e, _, n, d⟩, _⟩ := I.tuple h
 obtain ⟨its', r', ⟨o', e', _, n', d'⟩, _⟩ := I.tuple h'
 rw [e] at e'; cases e'
 rw [d] at d'
 injection d' with d1 _
 have : its = its' := by simpa using congrArg Array.toList d1
 subst this
 exact r.inj r'
end
abbrev Cx.wish (X : Cx) (E : Value → Shared → Prop) : Cx := { X with xe := E }
abbrev Cx.nox (X : Cx) : Cx := X.wish fun _ _ => False
theorem Cx.Ok.wish {X : Cx} (ok : X.Ok) (E : Value → Shared → Prop) : (X.wish E).Ok :=
 ⟨ok.mod, ok.kind, ok.glob, ok.blt, ok.above, ok.inj, ok.has, ok.cab, ok.hd, ok.frames, ok.stk, ok.exf, ok.bs, ok.bsz, ok.noex, ok.exfs, ok.funs, ok.frf⟩
theorem Cx.Ok.unwish {X : Cx} {E : Value → Shared → Prop} (ok : (X.wish E).Ok) : X.Ok :=
 ⟨ok.mod, ok.kind, ok.glob, ok.blt, ok.above, ok.inj, ok.has, ok.cab, ok.hd, ok.frames, ok.stk, ok.exf, ok.bs, ok.bsz, ok.noex, ok.exfs, ok.funs, ok.frf⟩
section
variable {X : Cx} {pins : List (Addr × Obj)} {σ : St} {H : Hp} {s : Shared} {E : Value → Shared → Prop}
theorem Inv.wish (I : Inv X pins σ H s) (E : Value → Shared → Prop) : Inv (X.wish E) pins σ H s := ⟨I.ok.wish E, I.os, I.bare, I.base, I.loc, I.cell, I.free, I.freeC, I.pin, I.hok, I.len⟩
theorem Inv.unwish (I : Inv (X.wish E) pins σ H s) : Inv X pins σ H s := ⟨I.ok.unwish, I.os, I.bare, I.base, I.loc, I.cell, I.free, I.freeC, I.pin, I.hok, I.len⟩
theorem SP.unwish {D : Ends} {f : Flow} {s' : Shared} (h : SP (X.wish E) pins D f s') : SP X pins D f s' := by
 cases f with
 | next => obtain ⟨σ', H', I, q⟩ := h; exact ⟨σ', H', I.unwish, q⟩
 | brk => obtain ⟨σ', H', I, q⟩ := h; exact ⟨σ', H', I.unwish, q⟩
 | cont => obtain ⟨σ', H', I, q⟩ := h; exact ⟨σ', H', I.unwish, q⟩
 | ret u => obtain ⟨v, σ', H', I, r, q⟩ := h; exact ⟨v, σ', H', I.unwish, r, q⟩
theorem PE.nox {e : Expr} {t : TE} (h : PE X.nox e t) : PE X e t := fun pins s σ H Q I hw =>
 wpAny_mono (h pins s σ H Q (I.wish _) hw) (fun _ _ ⟨v, H', I', r, q⟩ => ⟨v, H', I'.unwish, r, q⟩) fun _ _ z => False.elim z
theorem PT.nox {e : Expr} {t : TT} (h : PT X.nox e t) : PT X e t := fun pins s σ H Q I hw =>
 wpAny_mono (h pins s σ H Q (I.wish _) hw) (fun _ _ ⟨H', I', q⟩ => ⟨H', I'.unwish, q⟩) fun _ _ z => False.elim z
theorem PSs.nox {st : List Stmt} {t : TS} (h : PSs X.nox st t) : PSs X st t := fun pins s σ H D I hw =>
 wpAny_mono (h pins s σ H D (I.wish _) hw) (fun _ _ q => q.unwish) fun _ _ z => False.elim z
end
section
variable {X : Cx} {st : Stmt} {rest : List Stmt} {t u : TS} {e : Expr} {te : TE} {pos : Pos}
def zua : TS := fun D σ H => D.nx σ H
def zpf (t u : TS) : TS := fun D σ H => t { D with nx := u D } σ H
theorem z0y : PSs X [] zua := fun _ _ σ H _ I h => wpAny_execs_nil ⟨σ, H, I, h⟩
theorem z05 (h1 : PS X st t) (h2 : PSs X rest u) : PSs X (st :: rest) (zpf t u) := by
 intro pins s σ H D I h
 refine wpAny_execs_cons (thn (h1 pins s σ H { D with nx := u D } I h) fun f s1 q => ?_)
 cases f with
 | next =>
  obtain ⟨σ', H', I', q⟩ := q
  exact h2 pins s1 σ' H' D I' q
 | ret v => exact q
 | brk => exact q
 | cont => exact q
theorem z08 (h1 : PS X st t) : PSs X [st] t := by
 intro pins s σ H D I h
 refine wpAny_execs_cons (thn (h1 pins s σ H D I h) fun f s1 q => ?_)
 cases f with
 | next => exact wpAny_execs_nil q
 | ret v => exact q
 | brk => exact q
 | cont => exact q
def zr2 : TS := fun D σ H => D.bk σ H
def zwz : TS := fun D σ H => D.ct σ H
theorem Inv.quiet {pins : List (Addr × Obj)} {σ : St} {H : Hp} {s : Shared} (I : Inv X pins σ H s) : interactive X.env = false := by simp [interactive, I.ok.kind]
def zud (te : TE) : TS := fun D σ H => te σ H fun _ H1 => D.nx σ H1
theorem z99 (he : PE X e te) (hs : swapsWith e none pos.line X.env = pure false := by rfl) : PS X (.Expr e pos) (zud te) := by
 intro pins s σ H D I h
 exact wpAny_Expr_any (thn (he pins s σ H _ I h) fun v s1 ⟨x, H1, I1, r1, q1⟩ => ⟨σ, H1, I1, q1⟩) I.quiet hs
def q1u (te : TE) : TS := fun D σ H => te σ H D.rt
theorem z0o (he : PE X e te) : PS X (.Return (some e) pos) (q1u te) := by
 intro pins s σ H D I h
 exact wpAny_Return_some (thn (he pins s σ H _ I h) fun v s1 ⟨x, H1, I1, r1, q1⟩ => ⟨x, σ, H1, I1, r1, q1⟩)
def zww : TS := fun D _ H => D.rt .non H
def zub (c : TT) (t u : TS) : TS := fun D σ H => c σ H fun b H1 => if b = true then t D σ H1 else u D σ H1
theorem z2k {c : Expr} {a b : List Stmt} {tc : TT} (hc : PT X c tc) (ha : PSs X a t) (hb : PSs X b u) : PS X (.If c a b pos) (zub tc t u) := by
 intro pins s σ H D I h
 refine wpAny_If (thn (hc pins s σ H _ I h) fun d s1 ⟨H1, I1, q1⟩ => ?_)
 cases d with
 | true => exact ha pins s1 σ H1 D I1 q1
 | false => exact hb pins s1 σ H1 D I1 q1
def zo8 : TS := fun _ _ _ => False
theorem zoj : PS X st zo8 := fun _ _ _ _ _ _ h => h.elim
end
abbrev TG := V → St → Hp → (St → Hp → Prop) → Prop
abbrev TGs := List V → St → Hp → (St → Hp → Prop) → Prop
def PG (X : Cx) (target : Expr) (t : TG) : Prop :=
 ∀ (pins : List (Addr × Obj)) (s : Shared) (σ : St) (H : Hp) (v : V) (u : Value) (Q : St → Hp → Prop), Inv X pins σ H s → RelV v u → t v σ H Q →
  wpAny (model X.prog X.w) X.A (assign target X.env u) (fun _ s' => ∃ σ' H', Inv X pins σ' H' s' ∧ Q σ' H') X.xe s
def PGs (X : Cx) (ts : List Expr) (t : TGs) : Prop :=
 ∀ (pins : List (Addr × Obj)) (s : Shared) (σ : St) (H : Hp) (vs : List V) (us : List Value) (Q : St → Hp → Prop), Inv X pins σ H s → Vals vs us → t vs σ H Q →
  wpAny (model X.prog X.w) X.A (assignInOrder ((assignEach ts X.env).map (·.2)) us) (fun _ s' => ∃ σ' H', Inv X pins σ' H' s' ∧ Q σ' H') X.xe s
section
variable {X : Cx} {pos : Pos}
def zi9 (i : Nat) : TG := fun v σ H Q => Q (σ.set i (some v)) H
theorem z1t {i : Nat} {x : Str} (hN : X.N.Nodup) (hi : X.N[i]? = some x) (hx : Loc X.env.scope x) (hf : X.fn x = true ∨ X.env.scope.names.lookup x = some .local := by first | exact .inl rfl | exact .inr rfl | assumption) : PG X (.Name x pos) (zi9 i) := by
 intro pins s σ H v u Q I r h
 exact wpAny_assign_Name (zob I hN hi hx r (fun s' I' => ⟨_, H, I', h⟩) hf)
def q0w : TGs := fun vs σ H Q => vs = [] ∧ Q σ H
def zq9 (t : TG) (u : TGs) : TGs := fun vs σ H Q => ∃ v r, vs = v :: r ∧ t v σ H fun σ' H' => u r σ' H' Q
theorem z80 : PGs X [] q0w := by
 intro pins s σ H vs us Q I r h
 obtain ⟨e, h⟩ := h
 subst e
 cases r
 exact assignInOrder_nil ⟨σ, H, I, h⟩
theorem z2a {e : Expr} {es : List Expr} {t : TG} {u : TGs} (h1 : PG X e t) (h2 : PGs X es u)
  (hs : (assignEach (e :: es) X.env).map (·.2) = assign e X.env :: (assignEach es X.env).map (·.2) := by rfl) : PGs X (e :: es) (zq9 t u) := by
 intro pins s σ H vs us Q I r h
 obtain ⟨v, vr, e1, h⟩ := h
 subst e1
 cases r with
 | cons r rr =>
  rw [hs]
  refine assignInOrder_cons (thn (h1 pins s σ H _ _ _ I r h) fun _ s1 ⟨σ1, H1, I1, q1⟩ => ?_)
  exact h2 pins s1 σ1 H1 _ _ Q I1 rr q1
def zz7 (K : PySem.W.Frag) (n : Nat) (t : TGs) : TG := fun v σ H Q => ∃ a xs, v = .ref a ∧ SqT K H a xs ∧ xs.length = n ∧ t xs σ H Q
theorem zfl {es : List Expr} {k : Nat} {t : TGs} {n : Nat} (hc : X.calm = true) (h : PGs X es t)
  (hn : (assignEach es X.env).length = n := by rfl) (hst : (assignEach es X.env).findIdx? (·.1) = none := by rfl) : PG X (.Tuple es k pos) (zz7 X.K n t) := by
 intro pins s σ H v u Q I r hw
 obtain ⟨a, xs, e1, hq, hl, hw⟩ := hw
 subst e1
 cases r
 obtain ⟨its, rv, ht, hz⟩ := I.tuple hq
 refine assign_Tuple_tuple (I.ok.hd hc) ht (by simp [hn, ← hl, rv.length]) hst fun h' hx => ?_
 have I1 : Inv X pins σ H { s with heap := h' } := I.kept (t' := s.toks) fun b o e => hx b o (Nat.ne_of_lt (Heap.lt_size e)) e
 exact h pins _ σ H xs _ Q I1 (by simpa using rv) hw
def zz1 (te : TE) (g : TG) : TS := fun D σ H => te σ H fun x H1 => g x σ H1 D.nx
theorem zw4 {tg e : Expr} {te : TE} {g : TG} (he : PE X e te) (hg : PG X tg g) (hs : swapsWithSole [tg] e pos.line X.env = pure false := by rfl) (hw : swappedStores [tg] e X.env = pure none := by rfl)
  (h1 : (assignEach [tg] X.env).map (·.2) = [assign tg X.env] := by rfl) : PS X (.Assign [tg] e pos) (zz1 te g) := by
 intro pins s σ H D I h
 refine wpAny_Assign_stores (thn (he pins s σ H _ I h) fun v s1 ⟨x, H1, I1, r1, q1⟩ => ?_) hs hw
 rw [h1]
 exact thn (hg pins s1 σ H1 x v _ I1 r1 q1) fun _ s2 q => q
theorem z1e {i : Nat} {x : Str} {e : Expr} {te : TE} {pos' : Pos} (hN : X.N.Nodup) (hi : X.N[i]? = some x) (hx : Loc X.env.scope x) (he : PE X e te) (hs : swapsWith e (some (.Name x pos')) pos.line X.env = pure false := by rfl) (hf : X.fn x = true ∨ X.env.scope.names.lookup x = some .local := by first | exact .inl rfl | exact .inr rfl | assumption) :
  PS X (.Assign [.Name x pos'] e pos) (zz1 te (zi9 i)) := by
 intro pins s σ H D I h
 refine wpAny_Assign_Name (thn (he pins s σ H _ I h) fun v s1 ⟨y, H1, I1, r1, q1⟩ => ?_) hs
 exact zob I1 hN hi hx r1 (fun s2 I2 => ⟨_, H1, I2, q1⟩) hf
end
section
variable {X : Cx} {pos : Pos}
def zzg (c : TT) (tb : TS) : TS := fun D σ H => ∃ W : Nat → St → Hp → Prop, (∃ m, W m σ H) ∧ ∀ m σ H, W m σ H →
 c σ H fun b H1 => if b = true then ∃ N : St → Hp → Prop, (∀ σ' H', N σ' H' → ∃ m', m' < m ∧ W m' σ' H') ∧ tb { D with nx := N, ct := N, bk := D.nx } σ H1 else D.nx σ H1
theorem zuq {c : Expr} {body : List Stmt} {tc : TT} {tb : TS} (hp : PassesOwn (model X.prog X.w) X.A X.env X.xe) (hc : PT X c tc) (hb : PSs X body tb) : PS X (.While c body [] pos) (zzg tc tb) := by
 intro pins s σ H D I h
 obtain ⟨W, ⟨m0, w0⟩, turn⟩ := h
 refine wpAny_While (codeAny_whileLoop (fun n s' => ∃ σ' H', Inv X pins σ' H' s' ∧ W n σ' H') ?_ m0 ⟨σ, H, I, w0⟩)
 rintro n s1 ⟨σ1, H1, I1, w1⟩
 refine wpAny_passesOwn hp (thn (hc pins s1 σ1 H1 _ I1 (turn n σ1 H1 w1)) fun b s2 ⟨H2, I2, q2⟩ => ?_)
 cases b with
 | true =>
  obtain ⟨N, hN, q2⟩ := q2
  rw [if_pos rfl]
  refine wpAny_passesOwn hp (thn (hb pins s2 σ1 H2 _ I2 q2) fun f s3 q3 => ?_)
  cases f with
  | next =>
   obtain ⟨σ3, H3, I3, n3⟩ := q3
   obtain ⟨m', hm, w3⟩ := hN σ3 H3 n3
   exact ⟨m', hm, σ3, H3, I3, w3⟩
  | cont =>
   obtain ⟨σ3, H3, I3, n3⟩ := q3
   obtain ⟨m', hm, w3⟩ := hN σ3 H3 n3
   exact ⟨m', hm, σ3, H3, I3, w3⟩
  | brk => exact q3
  | ret v => exact q3
 | false =>
  rw [if_neg Bool.false_ne_true]
  exact wpAny_execs_nil ⟨σ1, H2, I2, q2⟩
end
structure It where
 go : Nat → Hp → Prop
 yld : Nat → Hp → V → Hp → Prop
 stop : Nat → Hp → Prop
def FpOk (X : Cx) (pins : List (Addr × Obj)) (H : Hp) (b : Addr) : Prop :=
 H b = none ∧ b ≠ X.env.locals ∧ b ∉ X.fs ∧ (b ∈ X.ex ∨ X.s₀.heap.objs.size ≤ b) ∧ (∀ x c, X.env.cells.lookup x = some c → c ≠ b) ∧ ∀ p ∈ X.pn ++ pins, p.1 ≠ b
theorem Inv.fpOk {X : Cx} {pins : List (Addr × Obj)} {σ : St} {H H' : Hp} {s : Shared} {b : Addr} (I : Inv X pins σ H s) (hb : s.heap.objs.size ≤ b) (hn : H' b = none) : FpOk X pins H' b := by
 refine ⟨hn, Nat.ne_of_gt (Nat.lt_of_lt_of_le I.lt hb), I.nofs hb, .inr (Nat.le_trans I.sz hb), fun x c e z => ?_, fun p hp z => ?_⟩
 ·obtain ⟨v, q⟩ := I.cell x c e
  exact absurd (Nat.lt_of_lt_of_le q.lt (by rw [z]; exact hb)) (Nat.lt_irrefl _)
 ·exact absurd (Nat.lt_of_lt_of_le (Heap.lt_size (I.pin p hp).1) (by rw [z]; exact hb)) (Nat.lt_irrefl _)
structure Turn (P : Program) (w : World) (K : PySem.W.Frag) (tg : Expr) (J : It) (fp : List Addr) (it : Addr) (tn : Nat → Heap → Prop) : Prop where
 mem : it ∈ fp
 obj : ∀ i h, tn i h → ∀ b ∈ fp, ∃ o, h.get? b = some o ∧ ∀ v, o.data ≠ .cell v
 keep : ∀ i h h', tn i h → (∀ b ∈ fp, ∀ o, h.get? b = some o → h'.get? b = some o) → tn i h'
 item : ∀ (X : Cx), X.prog = P → X.w = w → X.K = K → X.calm = true → ∀ (i : Nat) (pins : List (Addr × Obj)) (s : Shared) (σ : St) (H : Hp) (E : Value → Shared → Prop), Inv X pins σ H s → (∀ b ∈ fp, FpOk X pins H b) → tn i s.heap → J.go i H →
  wpAny (model P w) X.A (pyNext (.ref it)) (fun r s1 => ∃ u, r = some u ∧
   wpAny (model P w) X.A (letOwnedTupleGo tg (.ref it) u) (fun _ s2 => ∃ x H', Inv X pins σ H' s2 ∧ RelV x u ∧ J.yld i H x H' ∧ tn (i + 1) s2.heap ∧ ∀ b ∈ fp, H' b = none) E s1) E s
 done : ∀ (X : Cx), X.prog = P → X.w = w → X.K = K → X.calm = true → ∀ (i : Nat) (pins : List (Addr × Obj)) (s : Shared) (σ : St) (H : Hp) (E : Value → Shared → Prop), Inv X pins σ H s → (∀ b ∈ fp, FpOk X pins H b) → tn i s.heap → J.stop i H →
  wpAny (model P w) X.A (pyNext (.ref it)) (fun r s1 => r = none ∧ Inv X pins σ H s1) E s
 self : ∀ (A : Around) (i : Nat) (s : Shared) (Q : Value → Shared → Prop) (E : Value → Shared → Prop), tn i s.heap → Q (.ref it) s → wpAny (model P w) A (pyIter (.ref it)) Q E s
abbrev TI := St → Hp → (It → Hp → Prop) → Prop
def PIE (X : Cx) (pins : List (Addr × Obj)) (σ : St) (tg : Expr) (R : It → Hp → Prop) (itv : Value) (s2 : Shared) : Prop :=
 ∃ (it : Addr) (fp : List Addr) (tn : Nat → Heap → Prop) (J : It) (H' : Hp), itv = .ref it ∧ Inv X pins σ H' s2 ∧ Turn X.prog X.w X.K tg J fp it tn ∧ tn 0 s2.heap ∧ (∀ b ∈ fp, FpOk X pins H' b) ∧ R J H'
def PI (X : Cx) (tg iter : Expr) (wi : TI) : Prop :=
 ∀ (pins : List (Addr × Obj)) (s : Shared) (σ : St) (H : Hp) (R : It → Hp → Prop), Inv X pins σ H s → wi σ H R →
  wpAny (model X.prog X.w) X.A (eval iter X.env) (fun v s1 => wpAny (model X.prog X.w) X.A (pyIter v) (PIE X pins σ tg R) X.xe s1) X.xe s
theorem zy6 {M : Model} {A : Around} {E : Value → Shared → Prop} {s : Shared} {tg : Expr} {it : Addr} {u : Value} {o : Obj} {n : String} {vs : Array Value} {Q : Unit → Shared → Prop} (ho : s.heap.get? it = some o) (hc : o.cls = .type n) (hd : o.data = .fields vs)
    (hn : ["enumerate", "zip", "dict_itemiterator", "dict_reverseitemiterator", "odict_iterator", "itertools.zip_longest", "itertools.pairwise"].contains n = false) (hQ : Q () s) : wpAny M A (letOwnedTupleGo tg (.ref it) u) Q E s := by
  unfold letOwnedTupleGo
  cases tg <;> first
    | exact wpAny_pure hQ
    | (cases u <;> first
        | exact wpAny_pure hQ
        | (refine wpAny_bind (wpAny_load ho ?_)
           rw [hc, hd]
           show wpAny M A (if (["enumerate", "zip", "dict_itemiterator", "dict_reverseitemiterator", "odict_iterator", "itertools.zip_longest", "itertools.pairwise"].contains n && vs[0]? == some (rawInt _)) = true then _ else _) Q E s
           rw [if_neg (by intro h; rw [hn, Bool.false_and] at h; cases h)]
           exact wpAny_pure hQ))
def Itl (K : PySem.W.Frag) (a : Addr) : It :=
 ⟨fun i H => ∃ xs x, SqL K H a xs ∧ xs[i]? = some x, fun i H x H' => H' = H ∧ ∀ xs, SqL K H a xs → xs[i]? = some x, fun i H => ∃ xs, SqL K H a xs ∧ xs.length ≤ i⟩
def Itt (K : PySem.W.Frag) (a : Addr) : It :=
 ⟨fun i H => ∃ xs x, SqT K H a xs ∧ xs[i]? = some x, fun i H x H' => H' = H ∧ ∀ xs, SqT K H a xs → xs[i]? = some x, fun i H => ∃ xs, SqT K H a xs ∧ xs.length ≤ i⟩
def Itr (lo : Int) (n : Nat) : It := ⟨fun i _ => i < n, fun i H x H' => H' = H ∧ x = .int (lo + i), fun i _ => n ≤ i⟩
theorem zqv {P : Program} {w : World} {K : PySem.W.Frag} {tg : Expr} (a it : Addr) : Turn P w K tg (Itl K a) [it] it (fun i h => h.IsListIter it a i) where
 mem := by simp
 obj := fun i h st b hb => by
  have e : b = it := by simpa using hb
  subst e
  obtain ⟨o, e, c, d⟩ := st
  exact ⟨o, e, fun v z => by rw [d] at z; cases z⟩
 keep := fun i h h' st k => st.at fun o e => k it (by simp) o e
 item := by
  intro X hP hw hK hc i pins s σ H E I hf st hg
  subst hP hw hK
  obtain ⟨xs, x, hq, hx⟩ := hg
  obtain ⟨its, rv, p, hz⟩ := I.list hq
  obtain ⟨u, hu, ru⟩ := rv.get hx
  obtain ⟨f0, f1, f2, f3, f4, f5⟩ := hf it (by simp)
  refine wpAny_pyNext_list_item st p.isList (x := u) (by simpa using hu) fun h' st' sb => ?_
  have I1 : Inv X pins σ H { s with heap := h' } := I.turned (t' := s.toks) (fun b o hb e => (sb.2 b hb).trans e) f0 f1 f3 f4 f5
  obtain ⟨o, e, c, d⟩ := id st'
  exact ⟨u, rfl, zy6 (s := { s with heap := h' }) e c d (by decide) ⟨x, H, I1, ru, ⟨rfl, fun ys hy => by rw [I.list_inj hy hq]; exact hx⟩, st', fun b hb => (hf b hb).1⟩⟩
 done := by
  intro X hP hw hK hc i pins s σ H E I hf st hg
  subst hP hw hK
  obtain ⟨xs, hq, hx⟩ := hg
  obtain ⟨its, rv, p, hz⟩ := I.list hq
  obtain ⟨f0, f1, f2, f3, f4, f5⟩ := hf it (by simp)
  have hl := rv.length
  exact wpAny_pyNext_list_end (I.ok.hd hc) st p.isList (by simp; omega) fun h' eb => ⟨rfl, I.turned (t' := s.toks) (fun b o hb e => eb b o hb e) f0 f1 f3 f4 f5⟩
 self := fun _ _ _ _ _ st h => wpAny_pyIter_listiter st h
theorem zpb {P : Program} {w : World} {K : PySem.W.Frag} {tg : Expr} (a it : Addr) : Turn P w K tg (Itt K a) [it] it (fun i h => h.IsTupleIter it a i) where
 mem := by simp
 obj := fun i h st b hb => by
  have e : b = it := by simpa using hb
  subst e
  obtain ⟨o, e, c, d⟩ := st
  exact ⟨o, e, fun v z => by rw [d] at z; cases z⟩
 keep := fun i h h' st k => st.at fun o e => k it (by simp) o e
 item := by
  intro X hP hw hK hc i pins s σ H E I hf st hg
  subst hP hw hK
  obtain ⟨xs, x, hq, hx⟩ := hg
  obtain ⟨its, rv, p, hz⟩ := I.tuple hq
  obtain ⟨u, hu, ru⟩ := rv.get hx
  obtain ⟨f0, f1, f2, f3, f4, f5⟩ := hf it (by simp)
  refine wpAny_pyNext_tuple_item st (show s.heap.IsTuple a its.toArray from p) (x := u) (by simpa using hu) fun h' st' sb => ?_
  have I1 : Inv X pins σ H { s with heap := h' } := I.turned (t' := s.toks) (fun b o hb e => (sb.2 b hb).trans e) f0 f1 f3 f4 f5
  obtain ⟨o, e, c, d⟩ := id st'
  exact ⟨u, rfl, zy6 (s := { s with heap := h' }) e c d (by decide) ⟨x, H, I1, ru, ⟨rfl, fun ys hy => by rw [I.tuple_inj hy hq]; exact hx⟩, st', fun b hb => (hf b hb).1⟩⟩
 done := by
  intro X hP hw hK hc i pins s σ H E I hf st hg
  subst hP hw hK
  obtain ⟨xs, hq, hx⟩ := hg
  obtain ⟨its, rv, p, hz⟩ := I.tuple hq
  obtain ⟨f0, f1, f2, f3, f4, f5⟩ := hf it (by simp)
  have hl := rv.length
  exact wpAny_pyNext_tuple_end (I.ok.hd hc) st (show s.heap.IsTuple a its.toArray from p) (by simp; omega) fun h' eb => ⟨rfl, I.turned (t' := s.toks) (fun b o hb e => eb b o hb e) f0 f1 f3 f4 f5⟩
 self := fun _ _ _ _ _ st h => wpAny_pyIter_tupleiter st h
theorem zpc {P : Program} {w : World} {K : PySem.W.Frag} {tg : Expr} (it : Addr) (lo : Int) (n : Nat) : Turn P w K tg (Itr lo n) [it] it (fun i h => IsRangeIter h it (lo + (i : Nat) * 1) ((n : Int) - (i : Nat)) 1) where
 mem := by simp
 obj := fun i h st b hb => by
  have e : b = it := by simpa using hb
  subst e
  exact ⟨_, st, fun v z => by
   have z' : Data.fields _ = Data.cell v := z
   cases z'⟩
 keep := fun i h h' st k => k it (by simp) _ st
 item := by
  intro X hP hw hK hc i pins s σ H E I hf st hg
  subst hP hw hK
  obtain ⟨f0, f1, f2, f3, f4, f5⟩ := hf it (by simp)
  have W := Walks.range (prog := X.prog) (w := X.w) (I.ok.hd hc) it lo 1 n
  refine W.item i s _ _ hg st fun v h' tk hv st' kk => ?_
  obtain ⟨t, rfl⟩ := hv
  have I1 : Inv X pins σ H { s with heap := h', toks := tk } := I.turned (fun b o hb e => kk b o (by simpa using hb) e) f0 f1 f3 f4 f5
  refine ⟨_, rfl, zy6 (s := { s with heap := h', toks := tk }) (n := "range_iterator") st' rfl rfl (by decide) ⟨.int (lo + i), H, I1, ⟨t, ?_⟩, ⟨rfl, rfl⟩, st', fun b hb => (hf b hb).1⟩⟩
  rw [Int.mul_one]
 done := by
  intro X hP hw hK hc i pins s σ H E I hf st hg
  subst hP hw hK
  obtain ⟨f0, f1, f2, f3, f4, f5⟩ := hf it (by simp)
  exact wpAny_pyNext_range_end (I.ok.hd hc) st (by have : n ≤ i := hg; omega) fun h' eb => ⟨rfl, I.turned (t' := s.toks) (fun b o hb e => eb b o hb e) f0 f1 f3 f4 f5⟩
 self := fun _ _ _ _ _ st h => wpAny_pyIter_rangeiter st h
end L2
namespace L2
open PySem PySem.Spec PyProof.Rows
section
variable {X : Cx} {tg : Expr}
def zy5 (K : PySem.W.Frag) (tl : TE) : TI := fun σ H R => tl σ H fun x H1 => ∃ a, x = .ref a ∧ (∃ xs, SqL K H1 a xs) ∧ R (Itl K a) H1
def q2y (K : PySem.W.Frag) (tl : TE) : TI := fun σ H R => tl σ H fun x H1 => ∃ a, x = .ref a ∧ (∃ xs, SqT K H1 a xs) ∧ R (Itt K a) H1
theorem z7z {l : Expr} {tl : TE} (hl : PE X l tl) : PI X tg l (zy5 X.K tl) := by
 intro pins s σ H R I h
 refine thn (hl pins s σ H _ I h) fun v s1 ⟨x, H1, I1, r1, q1⟩ => ?_
 obtain ⟨a, e, ⟨xs, hq⟩, q⟩ := q1
 subst e
 cases r1
 obtain ⟨its, rv, p, hz⟩ := I1.list hq
 refine wpAny_pyIter_list p.isList ?_
 refine ⟨s1.heap.objs.size, [s1.heap.objs.size], _, _, H1, rfl, I1.kept (t' := s1.toks) fun b o e => Heap.get?_push_of_some _ e, zqv a _, ⟨_, Heap.get?_push_size _ rfl, rfl, rfl⟩, fun b hb => ?_, q⟩
 have e : b = s1.heap.objs.size := by simpa using hb
 subst e
 exact I1.fpOk (Nat.le_refl _) (I1.hok.fresh (Nat.le_refl _))
theorem zzx {l : Expr} {tl : TE} (hl : PE X l tl) : PI X tg l (q2y X.K tl) := by
 intro pins s σ H R I h
 refine thn (hl pins s σ H _ I h) fun v s1 ⟨x, H1, I1, r1, q1⟩ => ?_
 obtain ⟨a, e, ⟨xs, hq⟩, q⟩ := q1
 subst e
 cases r1
 obtain ⟨its, rv, p, hz⟩ := I1.tuple hq
 refine wpAny_pyIter_tuple (show s1.heap.IsTuple a its.toArray from p) ?_
 refine ⟨s1.heap.objs.size, [s1.heap.objs.size], _, _, H1, rfl, I1.kept (t' := s1.toks) fun b o e => Heap.get?_push_of_some _ e, zpb a _, ⟨_, Heap.get?_push_size _ rfl, rfl, rfl⟩, fun b hb => ?_, q⟩
 have e : b = s1.heap.objs.size := by simpa using hb
 subst e
 exact I1.fpOk (Nat.le_refl _) (I1.hok.fresh (Nat.le_refl _))
theorem zoh {pins : List (Addr × Obj)} {σ : St} {H : Hp} {s : Shared} {R : It → Hp → Prop} {E : Value → Shared → Prop} {lo hi : Int} {t u v : Tok} {tk : Nat} (I : Inv X pins σ H s) (h1 : -(2 ^ 62) ≤ lo) (h2 : lo < 2 ^ 62) (h3 : -(2 ^ 62) ≤ hi) (h4 : hi < 2 ^ 62)
  (q : R (Itr lo (hi - lo).toNat) H) : wpAny (model X.prog X.w) X.A (pyIter (.ref s.heap.objs.size)) (PIE X pins σ tg R) E { s with heap := s.heap.push { cls := .type "range", data := .fields #[.int lo t, .int hi u, .int 1 v] }, toks := tk } := by
 refine wpAny_pyIter_range (IsRange.new ..) (small_one h1 h2 h3 h4) ?_
 have I1 : Inv X pins σ H { s with heap := s.heap.push { cls := .type "range", data := .fields #[.int lo t, .int hi u, .int 1 v] }, toks := tk } := I.kept fun b o e => Heap.get?_push_of_some _ e
 refine ⟨(s.heap.push { cls := .type "range", data := .fields #[.int lo t, .int hi u, .int 1 v] }).objs.size, [(s.heap.push { cls := .type "range", data := .fields #[.int lo t, .int hi u, .int 1 v] }).objs.size], _, _, H, rfl,
  I1.kept (t' := tk) fun b o e => Heap.get?_push_of_some _ e, zpc _ lo (hi - lo).toNat, ?_, fun b hb => ?_, q⟩
 ·have e1 : lo + ((0 : Nat) : Int) * 1 = lo := by simp
  have e2 : (((hi - lo).toNat : Nat) : Int) - ((0 : Nat) : Int) = Builtin.Range.rangeSize lo hi 1 := by rw [rangeSize_one]; split <;> omega
  show IsRangeIter _ _ (lo + ((0 : Nat) : Int) * 1) ((((hi - lo).toNat : Nat) : Int) - ((0 : Nat) : Int)) 1
  rw [e1, e2]
  exact Heap.get?_push_size _ rfl
 ·have e : b = (s.heap.push { cls := .type "range", data := .fields #[.int lo t, .int hi u, .int 1 v] }).objs.size := by simpa using hb
  subst e
  exact I1.fpOk (Nat.le_refl _) (I1.hok.fresh (Nat.le_refl _))
def q0u (ta : TA) : TI := fun σ H R => ta σ H fun vs H1 => ∃ j : Int, vs = [.int j] ∧ -(2 ^ 62) ≤ j ∧ j < 2 ^ 62 ∧ R (Itr 0 j.toNat) H1
def zy4 (ta : TA) : TI := fun σ H R => ta σ H fun vs H1 => ∃ i j : Int, vs = [.int i, .int j] ∧ (-(2 ^ 62) ≤ i ∧ i < 2 ^ 62 ∧ -(2 ^ 62) ≤ j ∧ j < 2 ^ 62) ∧ R (Itr i (j - i).toNat) H1
theorem zl3 {a : Expr} {ta : TA} {p pos : Pos} (hg : Gl X "range") (hm : X.mg "range" = none) (ha : PA X [a] ta) (hs : starEach [a] X.env = [(false, eval a X.env)] := by rfl) : PI X tg (.Call (.Name "range" p) [a] [] pos) (q0u ta) := by
 intro pins s σ H R I h
 refine Call_ (zhc I hg hm boot_range (PyProof.Rows.callWith_type1 (thn (ha pos pins s σ H _ I h) fun us s1 ⟨vs, H1, I1, r1, q1⟩ => ?_) hs rfl))
 obtain ⟨j, e, q1, q2, q⟩ := q1
 subst e
 cases r1 with
 | cons r rr =>
  cases rr
  obtain ⟨t, rfl⟩ := r
  exact call_range_1 (zoh I1 (by omega) (by omega) q1 q2 (by simpa using q))
theorem zro {a b : Expr} {ta : TA} {p pos : Pos} (hg : Gl X "range") (hm : X.mg "range" = none) (ha : PA X [a, b] ta) (hs : starEach [a, b] X.env = [(false, eval a X.env), (false, eval b X.env)] := by rfl) (hs2 : starEach [b] X.env = [(false, eval b X.env)] := by rfl) :
  PI X tg (.Call (.Name "range" p) [a, b] [] pos) (zy4 ta) := by
 intro pins s σ H R I h
 refine Call_ (zhc I hg hm boot_range (PyProof.Rows.callWith_type1 (thn (ha pos pins s σ H _ I h) fun us s1 ⟨vs, H1, I1, r1, q1⟩ => ?_) (by rw [hs, hs2]) (by rw [hs2]; rfl)))
 obtain ⟨i, j, e, ⟨q1, q2, q3, q4⟩, q⟩ := q1
 subst e
 cases r1 with
 | cons r rr =>
  cases rr with
  | cons r' rr =>
   cases rr
   obtain ⟨t, rfl⟩ := r
   obtain ⟨t', rfl⟩ := r'
   exact call_range_2 (zoh I1 q1 q2 q3 q4 q)
def zuc (wi : TI) (g : TG) (tb : TS) : TS := fun D σ H => wi σ H fun J H1 => ∃ W : Nat → Nat → St → Hp → Prop, (∃ m, W 0 m σ H1) ∧ ∀ i m σ H, W i m σ H →
 (J.stop i H ∧ D.nx σ H) ∨ (J.go i H ∧ ∃ N : St → Hp → Prop, (∀ σ' H', N σ' H' → ∃ m', m' < m ∧ W (i + 1) m' σ' H') ∧ ∀ x H', J.yld i H x H' → g x σ H' fun σ2 H2 => tb { D with nx := N, ct := N, bk := D.nx } σ2 H2)
def zl2 (fp : List Addr) (h : Heap) : List (Addr × Obj) := fp.filterMap fun b => (h.get? b).map fun o => (b, o)
theorem zbd {fp : List Addr} {h : Heap} {b : Addr} {o : Obj} (hb : b ∈ fp) (e : h.get? b = some o) : (b, o) ∈ zl2 fp h := List.mem_filterMap.mpr ⟨b, hb, by rw [e]; rfl⟩
theorem zs6 {fp : List Addr} {h : Heap} {p : Addr × Obj} (hp : p ∈ zl2 fp h) : p.1 ∈ fp ∧ h.get? p.1 = some p.2 := by
 obtain ⟨b, hb, e⟩ := List.mem_filterMap.mp hp
 cases q : h.get? b with
 | none => rw [q] at e; cases e
 | some o =>
  rw [q] at e
  have e' : (b, o) = p := Option.some.inj e
  subst e'
  exact ⟨hb, q⟩
theorem Inv.pinned {pins : List (Addr × Obj)} {σ : St} {H : Hp} {s : Shared} {fp : List Addr} (I : Inv X pins σ H s) (hf : ∀ b ∈ fp, FpOk X pins H b) (ho : ∀ b ∈ fp, ∃ o, s.heap.get? b = some o ∧ ∀ v, o.data ≠ .cell v) : Inv X (pins ++ zl2 fp s.heap) σ H s :=
 I.pins_of fun p hp => (List.mem_append.mp hp).elim (fun z => I.pin p (List.mem_append_right _ z)) fun z => by
  obtain ⟨hb, e⟩ := zs6 z
  obtain ⟨f0, f1, f2, _⟩ := hf p.1 hb
  obtain ⟨o, e', d⟩ := ho p.1 hb
  rw [e] at e'; cases e'
  exact ⟨e, f0, f1, f2, d⟩
theorem Inv.unpinned {pins pl : List (Addr × Obj)} {σ : St} {H : Hp} {s : Shared} (I : Inv X (pins ++ pl) σ H s) : Inv X pins σ H s := I.pins_of fun p hp => I.pin p (List.mem_append_right _ (List.mem_append_left _ hp))
theorem zdb {iter : Expr} {body : List Stmt} {wi : TI} {g : TG} {tb : TS} {pos : Pos} (hp : PassesOwn (model X.prog X.w) X.A X.env X.xe) (hc : X.calm = true) (hi : PI X tg iter wi) (hg : PG X tg g) (hb : PSs X body tb)
  (hs : ∀ x, foldedSetIterable iter X.env x = pure x := by intro _; rfl) : PS X (.For tg iter body [] pos) (zuc wi g tb) := by
 intro pins s σ H D I h
 refine wpAny_For (thn (hi pins s σ H _ I h) fun v s1 h1 => thn h1 fun itv s2 h2 => ?_) hs
 obtain ⟨it, fp, tn, J, H2, e, I2, T, st2, f2, W, ⟨m0, w0⟩, turn⟩ := h2
 subst e
 have stat : ∀ {H' : Hp}, (∀ b ∈ fp, H' b = none) → ∀ b ∈ fp, FpOk X pins H' b := fun hn b hb => ⟨hn b hb, (f2 b hb).2⟩
 refine codeAny_forLoop_any (fun n s' => ∃ i σ' H', Inv X pins σ' H' s' ∧ tn i s'.heap ∧ (∀ b ∈ fp, H' b = none) ∧ W i n σ' H') ?_ m0 ⟨0, σ, H2, I2, st2, fun b hb => (f2 b hb).1, w0⟩
 rintro n s3 ⟨i, σ3, H3, I3, st3, fr3, w3⟩
 rcases turn i n σ3 H3 w3 with ⟨stop, qn⟩ | ⟨go, N, hN, step⟩
 ·refine wpAny_passesOwn hp (thn (T.done X rfl rfl rfl hc i pins s3 σ3 H3 X.xe I3 (stat fr3) st3 stop) fun r s4 ⟨hr, I4⟩ => ?_)
  subst hr
  exact wpAny_execs_nil ⟨σ3, H3, I4, qn⟩
 ·refine wpAny_passesOwn hp (thn (T.item X rfl rfl rfl hc i pins s3 σ3 H3 X.xe I3 (stat fr3) st3 go) fun r s4 ⟨u, hr, h4⟩ => ?_)
  subst hr
  refine wpAny_passesOwn hp (thn h4 fun _ s5 ⟨x, H5, I5, r5, y5, st5, fr5⟩ => ?_)
  have I5' := I5.pinned (stat fr5) (T.obj _ _ st5)
  refine wpAny_passesOwn hp (thn (hg _ s5 σ3 H5 x u _ I5' r5 (step x H5 y5)) fun _ s6 ⟨σ6, H6, I6, q6⟩ => ?_)
  refine wpAny_passesOwn hp (thn (hb _ s6 σ6 H6 _ I6 q6) fun f s7 q7 => ?_)
  have again : ∀ {σ7 : St} {H7 : Hp}, Inv X (pins ++ zl2 fp s5.heap) σ7 H7 s7 → N σ7 H7 → ∃ m, m < n ∧ ∃ i σ' H', Inv X pins σ' H' s7 ∧ tn i s7.heap ∧ (∀ b ∈ fp, H' b = none) ∧ W i m σ' H' := fun {σ7 H7} I7 n7 => by
   obtain ⟨m', hm, w7⟩ := hN σ7 H7 n7
   refine ⟨m', hm, i + 1, σ7, H7, I7.unpinned, T.keep _ _ _ st5 fun b hb o e => (I7.pin (b, o) (List.mem_append_right _ (List.mem_append_right _ (zbd hb e)))).1, fun b hb => ?_, w7⟩
   obtain ⟨o, e, d⟩ := T.obj _ _ st5 b hb
   exact (I7.pin (b, o) (List.mem_append_right _ (List.mem_append_right _ (zbd hb e)))).2.1
  cases f with
  | next => obtain ⟨σ7, H7, I7, n7⟩ := q7; exact again I7 n7
  | cont => obtain ⟨σ7, H7, I7, n7⟩ := q7; exact again I7 n7
  | brk => obtain ⟨σ7, H7, I7, q7⟩ := q7; exact ⟨σ7, H7, I7.unpinned, q7⟩
  | ret v => obtain ⟨x7, σ7, H7, I7, r7, q7⟩ := q7; exact ⟨x7, σ7, H7, I7.unpinned, r7, q7⟩
end
theorem zjx {K : PySem.W.Frag} {a : Addr} {xs : List V} {g : TG} {tb : TS} {D : Ends} {σ : St} {H : Hp} (Pv : Nat → St → Hp → Prop) (h0 : Pv 0 σ H) (hl : ∀ i σ H, i ≤ xs.length → Pv i σ H → SqL K H a xs)
  (hs : ∀ i x σ H, xs[i]? = some x → Pv i σ H → g x σ H fun σ2 H2 => tb { D with nx := Pv (i + 1), ct := Pv (i + 1), bk := D.nx } σ2 H2) (hd : ∀ σ H, Pv xs.length σ H → D.nx σ H) :
  ∃ W : Nat → Nat → St → Hp → Prop, (∃ m, W 0 m σ H) ∧ ∀ i m σ H, W i m σ H →
   ((Itl K a).stop i H ∧ D.nx σ H) ∨ ((Itl K a).go i H ∧ ∃ N : St → Hp → Prop, (∀ σ' H', N σ' H' → ∃ m', m' < m ∧ W (i + 1) m' σ' H') ∧ ∀ x H', (Itl K a).yld i H x H' → g x σ H' fun σ2 H2 => tb { D with nx := N, ct := N, bk := D.nx } σ2 H2) := by
 refine ⟨fun i m σ H => m = xs.length - i ∧ i ≤ xs.length ∧ Pv i σ H, ⟨xs.length, by simp, Nat.zero_le _, h0⟩, ?_⟩
 rintro i m σ H ⟨rfl, hi, p⟩
 have q := hl i σ H hi p
 by_cases hlt : i < xs.length
 ·refine .inr ⟨⟨xs, xs[i], q, by simp [hlt]⟩, Pv (i + 1), fun σ' H' p' => ⟨xs.length - (i + 1), by omega, rfl, hlt, p'⟩, fun x H' y => ?_⟩
  obtain ⟨e, y⟩ := y
  subst e
  exact hs i x σ _ (y xs q) p
 ·have e : i = xs.length := by omega
  subst e
  exact .inl ⟨⟨xs, q, Nat.le_refl _⟩, hd σ H p⟩
theorem zy9 {K : PySem.W.Frag} {a : Addr} {xs : List V} {g : TG} {tb : TS} {D : Ends} {σ : St} {H : Hp} (Pv : Nat → St → Hp → Prop) (h0 : Pv 0 σ H) (hl : ∀ i σ H, i ≤ xs.length → Pv i σ H → SqT K H a xs)
  (hs : ∀ i x σ H, xs[i]? = some x → Pv i σ H → g x σ H fun σ2 H2 => tb { D with nx := Pv (i + 1), ct := Pv (i + 1), bk := D.nx } σ2 H2) (hd : ∀ σ H, Pv xs.length σ H → D.nx σ H) :
  ∃ W : Nat → Nat → St → Hp → Prop, (∃ m, W 0 m σ H) ∧ ∀ i m σ H, W i m σ H →
   ((Itt K a).stop i H ∧ D.nx σ H) ∨ ((Itt K a).go i H ∧ ∃ N : St → Hp → Prop, (∀ σ' H', N σ' H' → ∃ m', m' < m ∧ W (i + 1) m' σ' H') ∧ ∀ x H', (Itt K a).yld i H x H' → g x σ H' fun σ2 H2 => tb { D with nx := N, ct := N, bk := D.nx } σ2 H2) := by
 refine ⟨fun i m σ H => m = xs.length - i ∧ i ≤ xs.length ∧ Pv i σ H, ⟨xs.length, by simp, Nat.zero_le _, h0⟩, ?_⟩
 rintro i m σ H ⟨rfl, hi, p⟩
 have q := hl i σ H hi p
 by_cases hlt : i < xs.length
 ·refine .inr ⟨⟨xs, xs[i], q, by simp [hlt]⟩, Pv (i + 1), fun σ' H' p' => ⟨xs.length - (i + 1), by omega, rfl, hlt, p'⟩, fun x H' y => ?_⟩
  obtain ⟨e, y⟩ := y
  subst e
  exact hs i x σ _ (y xs q) p
 ·have e : i = xs.length := by omega
  subst e
  exact .inl ⟨⟨xs, q, Nat.le_refl _⟩, hd σ H p⟩
theorem zlo {lo : Int} {n : Nat} {g : TG} {tb : TS} {D : Ends} {σ : St} {H : Hp} (Pv : Nat → St → Hp → Prop) (h0 : Pv 0 σ H)
  (hs : ∀ i σ H, i < n → Pv i σ H → g (.int (lo + i)) σ H fun σ2 H2 => tb { D with nx := Pv (i + 1), ct := Pv (i + 1), bk := D.nx } σ2 H2) (hd : ∀ σ H, Pv n σ H → D.nx σ H) :
  ∃ W : Nat → Nat → St → Hp → Prop, (∃ m, W 0 m σ H) ∧ ∀ i m σ H, W i m σ H →
   ((Itr lo n).stop i H ∧ D.nx σ H) ∨ ((Itr lo n).go i H ∧ ∃ N : St → Hp → Prop, (∀ σ' H', N σ' H' → ∃ m', m' < m ∧ W (i + 1) m' σ' H') ∧ ∀ x H', (Itr lo n).yld i H x H' → g x σ H' fun σ2 H2 => tb { D with nx := N, ct := N, bk := D.nx } σ2 H2) := by
 refine ⟨fun i m σ H => m = n - i ∧ i ≤ n ∧ Pv i σ H, ⟨n, by simp, Nat.zero_le _, h0⟩, ?_⟩
 rintro i m σ H ⟨rfl, hi, p⟩
 by_cases hlt : i < n
 ·refine .inr ⟨hlt, Pv (i + 1), fun σ' H' p' => ⟨n - (i + 1), by omega, rfl, hlt, p'⟩, fun x H' y => ?_⟩
  obtain ⟨e, y⟩ := y
  subst e y
  exact hs i σ _ hlt p
 ·have e : i = n := by omega
  subst e
  exact .inl ⟨Nat.le_refl _, hd σ H p⟩
end L2
namespace L2
open PySem PySem.Spec PyProof.Rows
abbrev R2 := V → V → Hp → VK → Prop
def OpR (X : Cx) (f : Value → Value → Sem Value) (r : R2) : Prop :=
 ∀ (pins : List (Addr × Obj)) (s : Shared) (σ : St) (H : Hp) (x y : V) (v u : Value) (Q : VK), Inv X pins σ H s → RelV x v → RelV y u → r x y H Q →
  wpAny (model X.prog X.w) X.A (f v u) (EP X pins σ Q) X.xe s
def UnR (X : Cx) (f : Value → Sem Value) (r : V → Hp → VK → Prop) : Prop :=
 ∀ (pins : List (Addr × Obj)) (s : Shared) (σ : St) (H : Hp) (x : V) (v : Value) (Q : VK), Inv X pins σ H s → RelV x v → r x H Q →
  wpAny (model X.prog X.w) X.A (f v) (EP X pins σ Q) X.xe s
def CallR (X : Cx) (f : Value) (r : List V → Hp → VK → Prop) : Prop :=
 ∀ (pins : List (Addr × Obj)) (s : Shared) (σ : St) (H : Hp) (xs : List V) (us : List Value) (Q : VK), Inv X pins σ H s → Vals xs us → r xs H Q →
  wpAny (model X.prog X.w) X.A (call f us) (EP X pins σ Q) X.xe s
def tOp (r : R2) (ta tb : TE) : TE := fun σ H Q => ta σ H fun x H1 => tb σ H1 fun y H2 => r x y H2 Q
def tUn (r : V → Hp → VK → Prop) (ta : TE) : TE := fun σ H Q => ta σ H fun x H1 => r x H1 Q
def rI (C : Int → Int → Prop) (g : Int → Int → V) : R2 := fun x y H Q => ∃ i j, x = .int i ∧ y = .int j ∧ C i j ∧ Q (g i j) H
def rI0 (g : Int → Int → V) : R2 := fun x y H Q => ∃ i j, x = .int i ∧ y = .int j ∧ Q (g i j) H
def rU (g : Int → V) : V → Hp → VK → Prop := fun x H Q => ∃ i, x = .int i ∧ Q (g i) H
section
variable {X : Cx} {a b c : Expr} {ta tb tc : TE} {pos : Pos}
theorem q31 (ha : PE X a ta) (hb : PE X b tb) {pins : List (Addr × Obj)} {s : Shared} {σ : St} {H : Hp} {R : V → V → Hp → Prop} (I : Inv X pins σ H s)
  (h : ta σ H fun x H1 => tb σ H1 fun y H2 => R x y H2) {Q : Value → Shared → Prop} {f : Value → Value → Sem Value}
  (hf : ∀ v u s2 x y H2, Inv X pins σ H2 s2 → RelV x v → RelV y u → R x y H2 → wpAny (model X.prog X.w) X.A (f v u) Q X.xe s2) :
  wpAny (model X.prog X.w) X.A (eval a X.env) (fun v s₁ => wpAny (model X.prog X.w) X.A (eval b X.env) (fun u s₂ => wpAny (model X.prog X.w) X.A (f v u) Q X.xe s₂) X.xe s₁) X.xe s := by
 refine thn (ha pins s σ H _ I h) fun v s1 ⟨x, H1, I1, r1, q1⟩ => ?_
 refine thn (hb pins s1 σ H1 _ I1 q1) fun u s2 ⟨y, H2, I2, r2, q2⟩ => ?_
 exact hf v u s2 x y H2 I2 r1 r2 q2
theorem z16 {op : Operator} {r : R2} (ho : OpR X (binaryOp op) r) (ha : PE X a ta) (hb : PE X b tb) : PE X (.BinOp a op b pos) (tOp r ta tb) := by
 intro pins s σ H Q I h
 exact wpAny_BinOp (q31 ha hb I h fun v u s2 x y H2 I2 rx ry q => ho pins s2 σ H2 x y v u Q I2 rx ry q)
theorem zrp {op : UnaryOp} {r : V → Hp → VK → Prop} (ho : UnR X (unaryOp op) r) (ha : PE X a ta) : PE X (.UnaryOp op a pos) (tUn r ta) := by
 intro pins s σ H Q I h
 exact UnaryOp_ (thn (ha pins s σ H _ I h) fun v s1 ⟨x, H1, I1, r1, q1⟩ => ho pins s1 σ H1 x v Q I1 r1 q1)
theorem opI {f : Value → Value → Sem Value} {C : Int → Int → Prop} {g : Int → Int → Int}
  (rule : ∀ (i j : Int) (t u : Tok) (s : Shared) (Q : Value → Shared → Prop) (E : Value → Shared → Prop), C i j → Q (.int (g i j) s.toks) { s with toks := s.toks + 1 } → wpAny (model X.prog X.w) X.A (f (.int i t) (.int j u)) Q E s) :
  OpR X f (rI C fun i j => .int (g i j)) := by
 intro pins s σ H x y v u Q I rx ry h
 obtain ⟨i, j, rfl, rfl, hc, q⟩ := h
 obtain ⟨t, rfl⟩ := rx
 obtain ⟨t', rfl⟩ := ry
 exact rule i j t t' s _ _ hc ⟨.int (g i j), H, I.tok _, ⟨_, rfl⟩, q⟩
theorem q3l {f : Value → Value → Sem Value} {g : Int → Int → Int}
  (rule : ∀ (i j : Int) (t u : Tok) (s : Shared) (Q : Value → Shared → Prop) (E : Value → Shared → Prop), Q (.int (g i j) s.toks) { s with toks := s.toks + 1 } → wpAny (model X.prog X.w) X.A (f (.int i t) (.int j u)) Q E s) :
  OpR X f (rI0 fun i j => .int (g i j)) := by
 intro pins s σ H x y v u Q I rx ry h
 obtain ⟨i, j, rfl, rfl, q⟩ := h
 obtain ⟨t, rfl⟩ := rx
 obtain ⟨t', rfl⟩ := ry
 exact rule i j t t' s _ _ ⟨.int (g i j), H, I.tok _, ⟨_, rfl⟩, q⟩
theorem q2a {f : Value → Value → Sem Value} {g : Int → Int → Bool}
  (rule : ∀ (i j : Int) (t u : Tok) (s : Shared) (Q : Value → Shared → Prop) (E : Value → Shared → Prop), Q (.bool (g i j)) s → wpAny (model X.prog X.w) X.A (f (.int i t) (.int j u)) Q E s) :
  OpR X f (rI0 fun i j => .bl (g i j)) := by
 intro pins s σ H x y v u Q I rx ry h
 obtain ⟨i, j, rfl, rfl, q⟩ := h
 obtain ⟨t, rfl⟩ := rx
 obtain ⟨t', rfl⟩ := ry
 exact rule i j t t' s _ _ ⟨.bl (g i j), H, I, rfl, q⟩
def q4m (i j : Int) : Prop := 0 < j ∧ j < 1073741824
def q3a (i j : Int) : Prop := j ≠ 0 ∧ j.natAbs < 1073741824
def CMul (i j : Int) : Prop := (-(2 ^ 64) < i ∧ i < 2 ^ 64) ∨ (-(2 ^ 64) < j ∧ j < 2 ^ 64)
theorem CMul.ok {i j : Int} (h : CMul i j) : IntMulOk i j := by
 rcases h with ⟨h1, h2⟩ | ⟨h1, h2⟩
 ·exact .of_left (intBits_le_64 h1 h2)
 ·exact .of_right (intBits_le_64 h1 h2)
theorem z28 : OpR X (binaryOp .Add) (rI0 fun i j => .int (i + j)) := q3l fun _ _ _ _ _ _ _ q => add_int q
theorem zdg : OpR X (binaryOp .Sub) (rI0 fun i j => .int (i - j)) := q3l fun _ _ _ _ _ _ _ q => sub_int q
theorem zaq : OpR X (binaryOp .Mult) (rI CMul fun i j => .int (i * j)) := opI fun _ _ _ _ _ _ _ hc q => mul_int q hc.ok
theorem zxj : OpR X (binaryOp .FloorDiv) (rI q4m fun i j => .int (i / j)) := opI fun i j _ _ _ _ _ hc q => by
 have h1 : (0 : Int) < j := hc.1
 have h2 : j < 1073741824 := hc.2
 exact floordiv_int (by omega) (by rw [Int.fdiv_eq_ediv_of_nonneg i (by omega)]; exact q) (.inl (PyProof.noPylong_small (by omega)))
theorem zuz : OpR X (binaryOp .FloorDiv) (rI q3a fun i j => .int (i.fdiv j)) := opI fun _ _ _ _ _ _ _ hc q => floordiv_int hc.1 q (.inl (PyProof.noPylong_small hc.2))
theorem zl9 : OpR X (binaryOp .Mod) (rI (fun _ j => 0 < j) fun i j => .int (i % j)) := opI fun i j _ _ _ _ _ hc q => by
 have h1 : (0 : Int) < j := hc
 exact mod_int' (by omega) (by rw [Int.fmod_eq_emod_of_nonneg i (by omega)]; exact q)
theorem unI {f : Value → Sem Value} {g : Int → Int}
  (rule : ∀ (i : Int) (t : Tok) (s : Shared) (Q : Value → Shared → Prop) (E : Value → Shared → Prop), Q (.int (g i) s.toks) { s with toks := s.toks + 1 } → wpAny (model X.prog X.w) X.A (f (.int i t)) Q E s) :
  UnR X f (rU fun i => .int (g i)) := by
 intro pins s σ H x v Q I rx h
 obtain ⟨i, rfl, q⟩ := h
 obtain ⟨t, rfl⟩ := rx
 exact rule i t s _ _ ⟨.int (g i), H, I.tok _, ⟨_, rfl⟩, q⟩
theorem zkk : UnR X (unaryOp .USub) (rU fun i => .int (-i)) := unI fun _ _ _ _ _ q => neg_int q
end
def q1z : V → V → Bool
 | .non, .non => true | .non, .int _ => true | .int _, .non => true | .non, .bl _ => true | .bl _, .non => true | .non, .str _ => true | .str _, .non => true
 | .int _, .int _ => true | .bl _, .bl _ => true | .str _, .str _ => true | .byt _, .byt _ => true
 | .int _, .str _ => true | .str _, .int _ => true | .bl _, .str _ => true | .str _, .bl _ => true
 | _, _ => false
def rEq : R2 := fun x y H Q => q1z x y = true ∧ Q (.bl (decide (x = y))) H
def rNe : R2 := fun x y H Q => q1z x y = true ∧ Q (.bl (!decide (x = y))) H
theorem zt2 {i j : Int} : decide (V.int i = V.int j) = (i == j) := by
 rw [Bool.eq_iff_iff]
 simp
theorem zwh {i j : Bool} : decide (V.bl i = V.bl j) = (i == j) := by
 rw [Bool.eq_iff_iff]
 simp
theorem zt1 {i j : Str} : decide (V.str i = V.str j) = (i == j) := by
 rw [Bool.eq_iff_iff]
 simp
theorem zt3 {i j : Array UInt8} : decide (V.byt i = V.byt j) = (i.toList == j.toList) := by
 rw [Bool.eq_iff_iff]
 cases i
 cases j
 simp
section
variable {X : Cx} {a b c : Expr} {ta tb tc : TE} {pos : Pos}
theorem z2n {pins : List (Addr × Obj)} {σ : St} {H : Hp} {s : Shared} {Q : VK} {k k' : Bool} (I : Inv X pins σ H s) (q : Q (.bl k) H) (e : k = k') : EP X pins σ Q (.bool k') s := by
 subst e
 exact ⟨.bl k, H, I, rfl, q⟩
theorem q07 : OpR X (compareOp .Eq) rEq := by
 intro pins s σ H x y v u Q I rx ry h
 obtain ⟨hs, q⟩ := h
 cases x with
 | non =>
  cases rx
  cases y with
  | non => cases ry; exact PySem.EqNone.eq_none_none (z2n I q (by simp))
  | bl j => cases ry; exact PySem.EqNone.eq_none_bool (z2n I q (by simp))
  | int j => obtain ⟨t', rfl⟩ := ry; exact PySem.EqNone.eq_none_int (z2n I q (by simp))
  | str j => obtain ⟨t', rfl⟩ := ry; exact PySem.EqNone.eq_none_str (z2n I q (by simp))
  | _ => exact absurd (show false = true from hs) Bool.false_ne_true
 | bl i =>
  cases rx
  cases y with
  | non => cases ry; exact PySem.EqNone.eq_bool_none (z2n I q (by simp))
  | bl j => cases ry; exact eq_bool (z2n I q zwh)
  | str j => obtain ⟨t', rfl⟩ := ry; exact PySem.EqMixed.eq_bool_str (z2n I q (by simp))
  | _ => exact absurd (show false = true from hs) Bool.false_ne_true
 | int i =>
  obtain ⟨t, rfl⟩ := rx
  cases y with
  | non => cases ry; exact PySem.EqNone.eq_int_none (z2n I q (by simp))
  | int j => obtain ⟨t', rfl⟩ := ry; exact eq_int (z2n I q zt2)
  | str j => obtain ⟨t', rfl⟩ := ry; exact PySem.EqMixed.eq_int_str (z2n I q (by simp))
  | _ => exact absurd (show false = true from hs) Bool.false_ne_true
 | str i =>
  obtain ⟨t, rfl⟩ := rx
  cases y with
  | non => cases ry; exact PySem.EqNone.eq_str_none (z2n I q (by simp))
  | bl j => cases ry; exact PySem.EqMixed.eq_str_bool (z2n I q (by simp))
  | int j => obtain ⟨t', rfl⟩ := ry; exact PySem.EqMixed.eq_str_int (z2n I q (by simp))
  | str j => obtain ⟨t', rfl⟩ := ry; exact eq_str (z2n I q zt1)
  | _ => exact absurd (show false = true from hs) Bool.false_ne_true
 | byt i =>
  obtain ⟨t, rfl⟩ := rx
  cases y with
  | byt j => obtain ⟨t', rfl⟩ := ry; exact PySem.W.eq_bytes (z2n I q zt3)
  | _ => exact absurd (show false = true from hs) Bool.false_ne_true
 | _ => cases y <;> exact absurd (show false = true from hs) Bool.false_ne_true
theorem q03 : OpR X (compareOp .NotEq) rNe := by
 intro pins s σ H x y v u Q I rx ry h
 obtain ⟨hs, q⟩ := h
 cases x with
 | non =>
  cases rx
  cases y with
  | non => cases ry; exact PySem.EqNone.ne_none_none (z2n I q (by simp))
  | bl j => cases ry; exact PySem.EqNone.ne_none_bool (z2n I q (by simp))
  | int j => obtain ⟨t', rfl⟩ := ry; exact PySem.EqNone.ne_none_int (z2n I q (by simp))
  | str j => obtain ⟨t', rfl⟩ := ry; exact PySem.EqNone.ne_none_str (z2n I q (by simp))
  | _ => exact absurd (show false = true from hs) Bool.false_ne_true
 | bl i =>
  cases rx
  cases y with
  | non => cases ry; exact PySem.EqNone.ne_bool_none (z2n I q (by simp))
  | bl j => cases ry; exact ne_bool (z2n I q (congrArg not zwh))
  | str j => obtain ⟨t', rfl⟩ := ry; exact PySem.EqMixed.ne_bool_str (z2n I q (by simp))
  | _ => exact absurd (show false = true from hs) Bool.false_ne_true
 | int i =>
  obtain ⟨t, rfl⟩ := rx
  cases y with
  | non => cases ry; exact PySem.EqNone.ne_int_none (z2n I q (by simp))
  | int j => obtain ⟨t', rfl⟩ := ry; exact ne_int (z2n I q (congrArg not zt2))
  | str j => obtain ⟨t', rfl⟩ := ry; exact PySem.EqMixed.ne_int_str (z2n I q (by simp))
  | _ => exact absurd (show false = true from hs) Bool.false_ne_true
 | str i =>
  obtain ⟨t, rfl⟩ := rx
  cases y with
  | non => cases ry; exact PySem.EqNone.ne_str_none (z2n I q (by simp))
  | bl j => cases ry; exact PySem.EqMixed.ne_str_bool (z2n I q (by simp))
  | int j => obtain ⟨t', rfl⟩ := ry; exact PySem.EqMixed.ne_str_int (z2n I q (by simp))
  | str j => obtain ⟨t', rfl⟩ := ry; exact ne_str (z2n I q (congrArg not zt1))
  | _ => exact absurd (show false = true from hs) Bool.false_ne_true
 | byt i =>
  obtain ⟨t, rfl⟩ := rx
  cases y with
  | byt j => obtain ⟨t', rfl⟩ := ry; exact PySem.W.ne_bytes (z2n I q (congrArg not zt3))
  | _ => exact absurd (show false = true from hs) Bool.false_ne_true
 | _ => cases y <;> exact absurd (show false = true from hs) Bool.false_ne_true
theorem zla : OpR X (compareOp .Lt) (rI0 fun i j => .bl (decide (i < j))) := q2a fun _ _ _ _ _ _ _ q => lt_int q
theorem q04 : OpR X (compareOp .LtE) (rI0 fun i j => .bl (decide (i ≤ j))) := q2a fun _ _ _ _ _ _ _ q => le_int q
theorem zuy : OpR X (compareOp .Gt) (rI0 fun i j => .bl (decide (j < i))) := q2a fun _ _ _ _ _ _ _ q => gt_int q
theorem q2w : OpR X (compareOp .GtE) (rI0 fun i j => .bl (decide (j ≤ i))) := q2a fun _ _ _ _ _ _ _ q => ge_int q
theorem zrv : OpR X (compareOp .In) (fun x y H Q => ∃ i j, x = .str i ∧ y = .str j ∧ Q (.bl (!(Builtin.Str.occurrences j i 0 j.length 1).isEmpty)) H) := by
 intro pins s σ H x y v u Q I rx ry h
 obtain ⟨i, j, rfl, rfl, q⟩ := h
 obtain ⟨t, rfl⟩ := rx
 obtain ⟨t', rfl⟩ := ry
 exact in_str (z2n I q rfl)
theorem q05 : OpR X (compareOp .Is) (fun x y H Q => y = .non ∧ Q (.bl (decide (x = .non))) H) := by
 intro pins s σ H x y v u Q I rx ry h
 obtain ⟨rfl, q⟩ := h
 cases ry
 refine is_none_gen (z2n I q ?_)
 cases x <;> first
  | (cases rx; rfl)
  | (obtain ⟨t, rfl⟩ := rx; rfl)
theorem zxg : OpR X (compareOp .IsNot) (fun x y H Q => y = .non ∧ Q (.bl (!decide (x = .non))) H) := by
 intro pins s σ H x y v u Q I rx ry h
 obtain ⟨rfl, q⟩ := h
 cases ry
 refine isnot_none_gen (z2n I q ?_)
 cases x <;> first
  | (cases rx; rfl)
  | (obtain ⟨t, rfl⟩ := rx; rfl)
theorem OpR.or {f : Value → Value → Sem Value} {r r' : R2} (h : OpR X f r) (h' : OpR X f r') : OpR X f (fun x y H Q => r x y H Q ∨ r' x y H Q) := by
 intro pins s σ H x y v u Q I rx ry q
 rcases q with q | q
 ·exact h pins s σ H x y v u Q I rx ry q
 ·exact h' pins s σ H x y v u Q I rx ry q
theorem z0w (b : Expr) {op : CmpOp} (h : op ≠ .In := by decide) (h2 : op ≠ .NotIn := by decide) : behindInMarks op b = false := by
 have e1 : (op == CmpOp.In) = false := by cases op <;> first | rfl | exact absurd rfl h
 have e2 : (op == CmpOp.NotIn) = false := by cases op <;> first | rfl | exact absurd rfl h2
 cases b <;> simp [behindInMarks, e1, e2]
theorem zje {op : CmpOp} {r : R2} (ho : OpR X (compareOp op) r) (ha : PE X a ta) (hb : PE X b tb) (hm : behindInMarks op b = false) : PE X (.Compare a [op] [b] pos) (tOp r ta tb) := by
 intro pins s σ H Q I h
 exact wpAny_Compare1 (q31 ha hb I h fun v u s2 x y H2 I2 rx ry q => ho pins s2 σ H2 x y v u Q I2 rx ry q) hm
def zqx (t : TE) : TT := fun σ H Q => t σ H fun x H' => ∃ k, x = .bl k ∧ Q k H'
theorem z0f {op : CmpOp} {r : R2} (ho : OpR X (compareOp op) r) (ha : PE X a ta) (hb : PE X b tb) (hm : behindInMarks op b = false) : PT X (.Compare a [op] [b] pos) (zqx (tOp r ta tb)) := by
 intro pins s σ H Q I h
 refine wpAny_isTrue_Compare1 (thn (ha pins s σ H _ I h) fun v s1 ⟨x, H1, I1, r1, q1⟩ => thn (hb pins s1 σ H1 _ I1 q1) fun u s2 ⟨y, H2, I2, r2, q2⟩ =>
  thn (ho pins s2 σ H2 x y v u _ I2 r1 r2 q2) fun c s3 ⟨z, H3, I3, r3, k, e, q3⟩ => ?_) hm
 subst e
 cases r3
 exact wpAny_truthy_bool ⟨H3, I3, q3⟩
def zqz (r r' : R2) (ta tb tc : TE) : TE := fun σ H Q => ta σ H fun x H1 => tb σ H1 fun y H2 => r x y H2 fun z H3 => ∃ k, z = .bl k ∧
 (if k = true then tc σ H3 fun w' H4 => r' y w' H4 Q else Q (.bl false) H3)
theorem zou : (sizeLine : Nat) < 2 ^ 63 := by rw [sizeLine_eq]; decide
theorem zwu {x : V} {us : List Value} (r : Vals [x] us) : ∃ u, us = [u] ∧ RelV x u := by
 cases r with
 | cons r1 r2 => cases r2; exact ⟨_, rfl, r1⟩
theorem zzb {x y : V} {us : List Value} (r : Vals [x, y] us) : ∃ u w', us = [u, w'] ∧ RelV x u ∧ RelV y w' := by
 cases r with
 | cons r1 r2 =>
  cases r2 with
  | cons r3 r4 => cases r4; exact ⟨_, _, rfl, r1, r3⟩
theorem ztq (hc : X.calm = true) : CallR X (.builtin "max") (fun xs H Q => ∃ i j, xs = [.int i, .int j] ∧ Q (.int (if j > i then j else i)) H) := by
 intro pins s σ H xs us Q I r h
 obtain ⟨i, j, rfl, q⟩ := h
 obtain ⟨u, w', rfl, ⟨t, rfl⟩, ⟨t', rfl⟩⟩ := zzb r
 refine max_two_ints (I.ok.hd hc) fun h' tk k => ⟨_, H, I.kept k, ?_, q⟩
 by_cases hj : j > i
 ·rw [if_pos hj, if_pos hj]; exact ⟨_, rfl⟩
 ·rw [if_neg hj, if_neg hj]; exact ⟨_, rfl⟩
theorem ztp (hc : X.calm = true) : CallR X (.builtin "min") (fun xs H Q => ∃ i j, xs = [.int i, .int j] ∧ Q (.int (if j < i then j else i)) H) := by
 intro pins s σ H xs us Q I r h
 obtain ⟨i, j, rfl, q⟩ := h
 obtain ⟨u, w', rfl, ⟨t, rfl⟩, ⟨t', rfl⟩⟩ := zzb r
 refine min_two_ints (I.ok.hd hc) fun h' tk k => ⟨_, H, I.kept k, ?_, q⟩
 by_cases hj : j < i
 ·rw [if_pos hj, if_pos hj]; exact ⟨_, rfl⟩
 ·rw [if_neg hj, if_neg hj]; exact ⟨_, rfl⟩
end
end L2
namespace L2
open PySem PySem.Spec PyProof.Rows
structure ObjM (h : Heap) (x dx C : Addr) (mA : Str → Option Value) : Prop where
 obj : h.get? x = some (PySem.W.instObj C dx)
 ns : h.Ns1 dx mA
 ne : dx ≠ x
theorem zsg {h : Heap} {dx : Addr} {mA : Str → Option Value} (n : h.Ns1 dx mA) : ∃ od, h.get? dx = some od ∧ ∀ name, PySem.W.lookIn name od = some (mA name) := by
 obtain ⟨o, es, ep, ho, hd, hk, _, hm⟩ := n
 refine ⟨o, ho, fun name => ?_⟩
 have e := hm name
 unfold nsFind findBy at e
 rw [← Array.find?_toList] at e
 unfold PySem.W.lookIn
 rw [hd]
 dsimp only
 split
 ·rename_i y q
  rw [q] at e
  exact congrArg some e
 ·rename_i q
  rw [q] at e
  have a : es.toList.any (·.refKey) = false := by
   rw [List.any_eq_false]
   intro y hy
   obtain ⟨z, t, hkey⟩ := hk y (Array.mem_toList_iff.mp hy)
   simp [DictEntry.refKey, hkey]
  have a' : ¬ es.toList.any (·.refKey) = true := by rw [a]; exact Bool.false_ne_true
  rw [if_neg a']
  exact congrArg some e
theorem ObjM.look {h : Heap} {x dx C : Addr} {mA : Str → Option Value} (I : ObjM h x dx C mA) : ∃ od, PySem.W.InstAt h x (PySem.W.instObj C dx) C (some od) ∧ ∀ name, PySem.W.lookIn name od = some (mA name) :=
 let ⟨od, ho, hl⟩ := zsg I.ns
 ⟨od, ⟨I.obj, rfl, rfl, ho⟩, hl⟩
section
variable {prog : Program} {w : World} {A : Around} {E : Value → Shared → Prop} {s : Shared} {K : PySem.W.Frag} {x dx C f : Addr} {mA : Str → Option Value} {name : Str} {v : Value}
end
theorem RelO.some_of {v : V} {o : Option Value} (r : RelO (some v) o) : ∃ u, o = some u ∧ RelV v u := by
 cases o with
 | none => exact (show False from r).elim
 | some u => exact ⟨u, rfl, r⟩
section
variable {P : Program} {w : World} {H H' : Hp} {h h' : Heap} {a C dx : Addr} {fs fs' : List (Str × V)}
theorem zy2 (hok : HOk P w H h) (e : H a = some (.ins C dx fs)) : ∃ mA, ObjM h a dx C mA ∧ (∀ f, RelO (fs.lookup f) (mA f)) ∧ PySem.Within mA (fs.map (·.1)) ∧ fs.length ≤ 1000 ∧ H dx = some (.own a) := by
 obtain ⟨d, z, ne, ob, mA, n, r, q⟩ := (show ObjOk P w H h a (.ins C dx fs) from hok a _ e)
 exact ⟨mA, ⟨ob, n, ne⟩, r, q, z, d⟩
end
structure Cls (K : PySem.W.Frag) (C : Addr) : Prop where
 pg : PySem.W.plainGet K C Str.empty = true
 hd : PySem.W.hasDictIn K C = true
 po : PySem.W.plainOver K C = true
 sa : PySem.W.findIn K (.ref C) "__setattr__" = some (some (.builtin "object.__setattr__"))
theorem Cls.get {K : PySem.W.Frag} {C : Addr} (c : Cls K C) (f : Str) : PySem.W.plainGet K C f = true := c.pg
structure Con (K : PySem.W.Frag) (C : Addr) (f : Str) (v : V) (u : Value) : Prop where
 at_ : PySem.W.findIn K (.ref C) f = some (some u)
 rel : RelV v u
 get : PySem.W.specialIn K u "__get__" = some none
 cp : PySem.W.copiedNames.contains f = false
structure Meth (K : PySem.W.Frag) (C : Addr) (m : Str) (f : Addr) : Prop where
 at_ : PySem.W.findIn K (.ref C) m = some (some (.ref f))
 fn : PySem.W.isFn K (.ref f) = true
 kp : PySem.W.keepIn K (.ref f) = true
section
variable {X : Cx} {pins : List (Addr × Obj)} {σ : St} {H : Hp} {s : Shared} {a C dx : Addr} {fs : List (Str × V)} {f : Str} {v : V} {A : Around} {E : Value → Shared → Prop}
theorem Inv.made (I : Inv X pins σ H s) : Inv X pins σ (upd (upd H s.heap.objs.size (.own (s.heap.objs.size + 1))) (s.heap.objs.size + 1) (.ins C s.heap.objs.size []))
  { s with heap := (s.heap.push PySem.W.emptyDict).push (PySem.W.instObj C s.heap.objs.size) } := by
 have e1 : (s.heap.push PySem.W.emptyDict).get? s.heap.objs.size = some PySem.W.emptyDict := Heap.get?_push_size s.heap rfl
 have e2 : ((s.heap.push PySem.W.emptyDict).push (PySem.W.instObj C s.heap.objs.size)).get? (s.heap.objs.size + 1) = some (PySem.W.instObj C s.heap.objs.size) := by
  have := Heap.get?_push_size (s.heap.push PySem.W.emptyDict) (o := PySem.W.instObj C s.heap.objs.size) rfl
  rwa [Heap.size_push] at this
 have e3 : (s.heap.push PySem.W.emptyDict).Ns s.heap.objs.size (fun _ => none) := ⟨PySem.W.emptyDict, #[], _, e1, rfl, (fun e he => absurd he (by simp)), fun _ => rfl⟩
 have I1 := I.laid (a := s.heap.objs.size) (o := .own (s.heap.objs.size + 1)) (h' := s.heap.push PySem.W.emptyDict) (t' := s.toks) (fun b u q => Heap.get?_push_of_some _ q) (Nat.le_refl _) ⟨_, e1⟩
 refine I1.laid (a := s.heap.objs.size + 1) (o := .ins C s.heap.objs.size []) (t' := s.toks) (fun b u q => Heap.get?_push_of_some _ q) (Nat.le_of_eq (Heap.size_push _ _)) ?_
 have ne : s.heap.objs.size ≠ s.heap.objs.size + 1 := Nat.ne_of_lt (Nat.lt_succ_self _)
 refine ⟨by rw [z0q ne, z02], Nat.zero_le _, ne, e2, fun _ => none, (Heap.Ns1.of_empty e3).at fun o q => Heap.get?_push_of_some _ q, fun _ => True.intro, fun y hy => absurd rfl hy⟩
end
section
variable {X : Cx} {o e value : Expr} {f : Str} {pos pos' tpos : Pos} {ta tv : TE}
end
section
variable {X : Cx} {pins : List (Addr × Obj)} {σ : St} {H : Hp} {s : Shared} {A : Around} {E : Value → Shared → Prop} {Q : Value → Shared → Prop} {c : Value} {b : Bool}
inductive TyOf (K : PySem.W.Frag) (H : Hp) : V → Value → Prop where
 | non : TyOf K H .non (.type "NoneType")
 | bl (x : Bool) : TyOf K H (.bl x) (.type "bool")
 | int (i : Int) : TyOf K H (.int i) (.type "int")
 | str (x : Str) : TyOf K H (.str x) (.type "str")
 | flt (x : UInt64) : TyOf K H (.flt x) (.type "float")
 | lst {a : Addr} {xs : List V} (e : H a = some (.lst xs)) : TyOf K H (.ref a) (.type "list")
 | frz {a : Addr} {o : Obj} {xs : List V} (e : H a = some (.frz o (.lst xs))) : TyOf K H (.ref a) (.type "list")
 | tup {a : Addr} {xs : List V} (e : H a = some (.tup xs)) : TyOf K H (.ref a) (.type "tuple")
 | dK {a : Addr} {kvs : List (Key × V)} (e : H a = some (.dK kvs)) : TyOf K H (.ref a) (.type "dict")
 | dT {a : Addr} {kvs : List (List Key × V)} (e : H a = some (.dT kvs)) : TyOf K H (.ref a) (.type "dict")
 | ins {a C dx : Addr} {fs : List (Str × V)} (e : H a = some (.ins C dx fs)) (cl : Cls K C) (ha : PySem.W.findIn K (.ref C) "__class__" = some (some (.builtin "object.__class__")))
   (hn : PySem.W.specialIn K (.builtin "object.__class__") "__get__" = some (some (.builtin "getset_descriptor.__get__"))) (htk : PySem.W.takesIn K (.builtin "object.__class__") = some true)
   (hm : PySem.W.mroIn K C (.type "object") = some true) : TyOf K H (.ref a) (.ref C)
theorem zsm {x : V} {u t : Value} (I : Inv X pins σ H s) (rx : RelV x u) (ty : TyOf X.K H x t) (e : PySem.W.kitOne X.K t c = some b) (h : ∀ tk, Q (.bool b) { s with toks := tk }) :
  wpAny (model X.prog X.w) A (call (.builtin "isinstance") [u, c]) Q E s := by
 cases ty with
 | non => cases (show u = Value.none from rx); exact PySem.W.kia_one PySem.W.kitx_none I.kIn True.intro e (fun z => nomatch z) h
 | bl y => cases (show u = Value.bool y from rx); exact PySem.W.kia_one PySem.W.kitx_bool I.kIn True.intro e (fun z => nomatch z) h
 | int i => obtain ⟨t, q⟩ := (show ∃ t, u = Value.int i t from rx); cases q; exact PySem.W.kia_one PySem.W.kitx_int I.kIn True.intro e (fun z => nomatch z) h
 | str y => obtain ⟨t, q⟩ := (show ∃ t, u = Value.str y t from rx); cases q; exact PySem.W.kia_one PySem.W.kitx_str I.kIn True.intro e (fun z => nomatch z) h
 | flt y => obtain ⟨t, q⟩ := (show ∃ t, u = Value.float y t from rx); cases q; exact PySem.W.kia_one PySem.W.kitx_float I.kIn True.intro e (fun z => nomatch z) h
 | @lst a xs ea =>
  cases (show u = Value.ref a from rx)
  obtain ⟨_, _, n, _, h1⟩ := (show ObjOk X.prog X.w H s.heap a (.lst xs) from I.hok a _ ea)
  exact PySem.W.kia_one PySem.W.kitx_list I.kIn ⟨_, h1, rfl⟩ e (fun z => nomatch z) h
 | @frz a ob xs ea =>
  cases (show u = Value.ref a from rx)
  obtain ⟨_, _, _, n, _, h1⟩ := (show ObjOk X.prog X.w H s.heap a (.frz ob (.lst xs)) from I.hok a _ ea)
  exact PySem.W.kia_one PySem.W.kitx_list I.kIn ⟨_, h1, rfl⟩ e (fun z => nomatch z) h
 | @tup a xs ea =>
  cases (show u = Value.ref a from rx)
  obtain ⟨_, _, _, p⟩ := (show ObjOk X.prog X.w H s.heap a (.tup xs) from I.hok a _ ea)
  obtain ⟨o, h1, h2, _⟩ := p
  exact PySem.W.kia_one PySem.W.kitx_tuple I.kIn ⟨o, h1, h2⟩ e (fun z => nomatch z) h
 | @dK a kvs ea =>
  cases (show u = Value.ref a from rx)
  obtain ⟨_, _, vs, _, p⟩ := (show ObjOk X.prog X.w H s.heap a (.dK kvs) from I.hok a _ ea)
  obtain ⟨o, es, ep, h1, h2, _⟩ := p
  exact PySem.W.kia_one PySem.W.kitx_dict I.kIn ⟨o, h1, h2.1⟩ e (fun z => nomatch z) h
 | @dT a kvs ea =>
  cases (show u = Value.ref a from rx)
  obtain ⟨_, _, xs, _, o, es, ep, h1, h2, _⟩ := (show ObjOk X.prog X.w H s.heap a (.dT kvs) from I.hok a _ ea)
  exact PySem.W.kia_one PySem.W.kitx_dict I.kIn ⟨o, h1, h2.1⟩ e (fun z => nomatch z) h
 | @ins a C dx fs ea cl ha hn htk hm =>
  cases (show u = Value.ref a from rx)
  obtain ⟨mA, O, _⟩ := zy2 I.hok ea
  obtain ⟨od, J, _⟩ := O.look
  exact PySem.W.kia_one (PySem.W.kitx_own (cl.get _) cl.hd ha hn htk hm) I.kIn J e (fun z => nomatch z) h
end
end L2
namespace L2
open PySem PySem.Spec PyProof.Rows
structure Room (k : Nat) (A : Around) : Prop where
 hd : A.handled = none
 dp : A.depth + 3 * k + 5 < recursionLimit
 un : A.units + 16 * k + 200 < cLine
theorem Room.mono {j k : Nat} {A : Around} (r : Room k A) (h : j ≤ k) : Room j A := ⟨r.hd, by have := r.dp; omega, by have := r.un; omega⟩
theorem Room.deeper {k : Nat} {A : Around} (r : Room (k + 1) A) (env : Env) : Room k (A.deeper env) :=
 ⟨r.hd, by have := r.dp; show A.depth + 1 + 3 * k + 5 < _; omega, by have := r.un; show A.units + 3 + 16 * k + 200 < _; omega⟩
theorem Room.in1 {k : Nat} {A : Around} (r : Room (k + 1) A) : Room k A.in1 :=
 ⟨r.hd, by have := r.dp; show A.depth + 3 * k + 5 < _; omega, by have := r.un; show A.units + 1 + 16 * k + 200 < _; omega⟩
theorem zq4 {A : Around} {C : Addr} {us : List Value} {kw : List (Str × Value)} : (A.under (.builtin "type.__call__" ⟨.ref C :: us, kw⟩)).depth = A.depth + 1 := by
 first | rfl | simp [Around.under, Code.weight, Code.isCreation, Code.isGuard, Code.isCaller, Code.frames, Code.isFrame, guardIds]
theorem zq3 {A : Around} {C : Addr} {us : List Value} {kw : List (Str × Value)} : (A.under (.builtin "type.__call__" ⟨.ref C :: us, kw⟩)).units = A.units + 1 := by
 first | rfl | simp [Around.under, Code.cUnits, Code.frames, Code.isFrame]
theorem Room.make {k : Nat} {A : Around} (r : Room (k + 1) A) (C : Addr) (us : List Value) (kw : List (Str × Value)) : Room k (A.under (.builtin "type.__call__" ⟨.ref C :: us, kw⟩)) :=
 ⟨r.hd, by have := r.dp; rw [zq4]; omega, by have := r.un; rw [zq3]; omega⟩
theorem Room.depth {k : Nat} {A : Around} (r : Room k A) : A.depth < recursionLimit := by have := r.dp; omega
theorem Room.units {k : Nat} {A : Around} (r : Room k A) : A.units + 64 < cLine := by have := r.un; omega
def zzi : TA := fun _ H Q => Q [] H
def zkp (ta : TE) (tr : TA) : TA := fun σ H Q => ta σ H fun x H1 => tr σ H1 fun xs H2 => Q (x :: xs) H2
section
variable {X : Cx} {e : Expr} {es : List Expr} {te : TE} {t : TA} {pos : Pos}
theorem z04 : PA X [] zzi := fun _ _ _ _ H Q I h => Calls.spliced_nil ⟨[], H, I, .nil, h⟩
theorem zxe (ha : PE X e te) (hr : PA X es t) (hs : starEach (e :: es) X.env = (false, eval e X.env) :: starEach es X.env := by rfl) : PA X (e :: es) (zkp te t) := by
 intro pos pins s σ H Q I h
 rw [hs]
 show wpAny _ _ (spliced ((false, eval e X.env) :: backTo pos (starEach es X.env))) _ _ s
 refine Calls.spliced_cons (thn (ha pins s σ H _ I h) fun u s1 ⟨x, H1, I1, r1, q1⟩ => ?_)
 exact thn (hr pos pins s1 σ H1 _ I1 q1) fun us s2 ⟨xs, H2, I2, r2, q2⟩ => ⟨x :: xs, H2, I2, .cons r1 r2, q2⟩
def q1t (t : TA) : TE := fun σ H Q => t σ H fun xs H1 => xs.length ≤ sizeLine ∧ ∀ p, H1 p = none → Q (.ref p) (upd H1 p (.tup xs))
def q1w (t : TA) : TE := fun σ H Q => t σ H fun xs H1 => xs.length ≤ sizeLine ∧ ∀ p, H1 p = none → Q (.ref p) (upd H1 p (.lst xs))
theorem z0z {x1} (h : PA X es t) : PE X (.Tuple es x1 pos) (q1t t) := by
 intro pins s σ H Q I hq
 refine wpAny_Tuple_spliced (thn (h pos pins s σ H _ I hq) fun us s1 ⟨xs, H1, I1, r, z, q⟩ => ⟨by rw [← r.length]; exact z, ?_⟩)
 have hf : H1 s1.heap.objs.size = none := I1.hok.fresh (Nat.le_refl _)
 refine ⟨.ref s1.heap.objs.size, upd H1 s1.heap.objs.size (.tup xs), I1.laid (t' := s1.toks) (fun b u e => Heap.get?_push_of_some _ e) (Nat.le_refl _) ?_, rfl, q _ hf⟩
 exact ⟨z, us, r, ⟨_, Heap.get?_push_size _ rfl, rfl, _, rfl⟩⟩
theorem z4q (h : PA X es t) : PE X (.List es pos) (q1w t) := by
 intro pins s σ H Q I hq
 refine wpAny_List_spliced (thn (h pos pins s σ H _ I hq) fun us s1 ⟨xs, H1, I1, r, z, q⟩ => ⟨by rw [← r.length]; exact z, ?_⟩)
 have hf : H1 s1.heap.objs.size = none := I1.hok.fresh (Nat.le_refl _)
 refine ⟨.ref s1.heap.objs.size, upd H1 s1.heap.objs.size (.lst xs), I1.laid (t' := s1.toks) (fun b u e => Heap.get?_push_of_some _ e) (Nat.le_refl _) ?_, rfl, q _ hf⟩
 exact ⟨z, us, 0, r, Heap.get?_push_size _ rfl⟩
end
abbrev Sp := List V → Hp → VK → XK → Prop
abbrev CXT := List Env → Hp → Shared → XK → Value → Shared → Prop
structure Env0 (P : Program) (w : World) (K : PySem.W.Frag) (mg : Str → Option Value) (base : Heap) (A : Around) (outer : List Env) (s : Shared) (H : Hp) : Prop where
 frames : A.frames = some outer
 mod : Mod K mg base
 bs : ∀ b o, base.get? b = some o → s.heap.get? b = some o ∧ H b = none
 bsz : base.objs.size ≤ s.heap.objs.size
 funs : s.heap.FunFrames base outer
 frf : ∀ b ∈ frs outer, H b = none
 hok : HOk P w H s.heap
 bare : AllBare s.gens
def CE (outer : List Env) (P : Program) (w : World) (H : Hp) (s : Shared) (Q : VK) (u : Value) (s' : Shared) : Prop :=
 ∃ v H', s'.os = s.os ∧ AllBare s'.gens ∧ Un (frs outer) [] H H' s.heap s'.heap ∧ HOk P w H' s'.heap ∧ RelV v u ∧ Q v H'
def CR (CX : CXT) (outer : List Env) (P : Program) (w : World) (H : Hp) (s : Shared) (Q : VK) (E : XK) (r : Result) (s' : Shared) : Prop :=
 match r with
 | .ok (.ret u) => CE outer P w H s Q u s'
 | .ok _ => False
 | .error e => CX outer H s E e s'
structure FnOk (P : Program) (w : World) (K : PySem.W.Frag) (mg : Str → Option Value) (base : Heap) (CX : CXT) (k : Nat) (f : Addr) (fd : FuncData) (ps : List Str) (sp : Sp) : Prop where
 len : ∀ vs H Q E, sp vs H Q E → vs.length = ps.length
 run : ∀ (A : Around) (outer : List Env) (s : Shared) (H : Hp) (args : Args) (us : List Value) (vs : List V) (Q : VK) (E : XK), Room k A → Env0 P w K mg base A outer s H → BindsTo s fd args (ps.zip us) → Vals vs us → sp vs H Q E →
  codeAny (model P w) A (.call (.ref f) args) (CR CX outer P w H s Q E) s
theorem FnOk.mono {P : Program} {w : World} {K : PySem.W.Frag} {mg : Str → Option Value} {base : Heap} {CX : CXT} {j k : Nat} {f : Addr} {fd : FuncData} {ps : List Str} {sp : Sp} (F : FnOk P w K mg base CX j f fd ps sp) (h : j ≤ k) :
  FnOk P w K mg base CX k f fd ps sp := ⟨F.len, fun A outer s H args us vs Q E hr => F.run A outer s H args us vs Q E (hr.mono h)⟩
theorem FnOk.imp {P : Program} {w : World} {K : PySem.W.Frag} {mg : Str → Option Value} {base : Heap} {CX : CXT} {k : Nat} {f : Addr} {fd : FuncData} {ps : List Str} {sp sp' : Sp} (F : FnOk P w K mg base CX k f fd ps sp)
  (h : ∀ vs H Q E, sp' vs H Q E → sp vs H Q E) : FnOk P w K mg base CX k f fd ps sp' :=
 ⟨fun vs H Q E q => F.len vs H Q E (h _ _ _ _ q), fun A outer s H args us vs Q E hr he hb hv hs => F.run A outer s H args us vs Q E hr he hb hv (h _ _ _ _ hs)⟩
theorem Env0.make {P : Program} {w : World} {K : PySem.W.Frag} {mg : Str → Option Value} {base : Heap} {A : Around} {outer : List Env} {s : Shared} {H : Hp} (e : Env0 P w K mg base A outer s H) (C : Addr) (us : List Value) (kw : List (Str × Value)) :
  Env0 P w K mg base (A.under (.builtin "type.__call__" ⟨.ref C :: us, kw⟩)) outer s H := ⟨by first | exact e.frames | (simpa [Around.under, Code.envs, Code.isFrame, pushEnvs] using e.frames), e.mod, e.bs, e.bsz, e.funs, e.frf, e.hok, e.bare⟩
theorem Env0.in1 {P : Program} {w : World} {K : PySem.W.Frag} {mg : Str → Option Value} {base : Heap} {A : Around} {outer : List Env} {s : Shared} {H : Hp} (e : Env0 P w K mg base A outer s H) :
  Env0 P w K mg base A.in1 outer s H := ⟨e.frames, e.mod, e.bs, e.bsz, e.funs, e.frf, e.hok, e.bare⟩
section
variable {X : Cx} {pins : List (Addr × Obj)} {σ : St} {H : Hp} {s s' : Shared}
theorem Inv.env0 (I : Inv X pins σ H s) : Env0 X.prog X.w X.K X.mg X.base X.A X.stack s H :=
 ⟨I.ok.frames, I.ok.mod, I.bs, Nat.le_trans I.ok.bsz I.sz, I.stack, I.stkFree, I.hok, I.bare⟩
theorem Inv.after {Q : VK} {u : Value} (I : Inv X pins σ H s) (h : CE X.stack X.prog X.w H s Q u s') : EP X pins σ Q u s' := by
 obtain ⟨v, H', os, bare, un, hok, r, q⟩ := h
 obtain ⟨hh, g, d, t, os'⟩ := s'
 obtain rfl : os' = s.os := os
 exact ⟨v, H', I.call (h' := hh) (g' := g) (d' := d) (t' := t) (ch := []) un hok bare (fun b z => absurd z (by simp)), r, q⟩
end
def zuf (sp : Sp) (dvs : List V) (E : XK) (t : TA) : TE := fun σ H Q => t σ H fun vs H1 => sp (vs ++ dvs) H1 Q E
def Binds (K : PySem.W.Frag) (fd : FuncData) (ps : List Str) (ds : List Value) : Prop :=
 ∀ (s : Shared) (us : List Value), K.In s.heap → (us ++ ds).length = ps.length → BindsTo s fd ⟨us, []⟩ (ps.zip (us ++ ds))
theorem Binds.all {K : PySem.W.Frag} {fd : FuncData} {ps : List Str} (h : ∀ us : List Value, us.length = ps.length → bindArgs fd ⟨us, []⟩ = pure (ps.zip us)) : Binds K fd ps [] := fun s us _ hl => by
 rw [List.append_nil] at hl ⊢
 exact .of_eq (h us hl)
def q1r (CX : CXT) (X : Cx) (E : XK) : Prop := ∀ (pins : List (Addr × Obj)) (σ : St) (H : Hp) (s : Shared) (e : Value) (s' : Shared), Inv X pins σ H s → CX X.stack H s E e s' → X.xe e s'
section
variable {X : Cx} {CX : CXT} {k : Nat} {f C : Addr} {fd : FuncData} {ps : List Str} {sp : Sp} {dvs : List V} {ds : List Value} {E : XK} {x m : Str} {p pos apos : Pos} {e o : Expr} {es : List Expr} {ta : TE} {t : TA}
theorem zzo {pins : List (Addr × Obj)} {σ : St} {H : Hp} {s : Shared} {Q : VK} {us : List Value} {vs : List V} (F : FnOk X.prog X.w X.K X.mg X.base CX k f fd ps sp) (hr : Room k X.A) (hb : Binds X.K fd ps ds) (hd : Vals dvs ds) (hx : q1r CX X E)
  (I : Inv X pins σ H s) (r : Vals vs us) (h : sp (vs ++ dvs) H Q E) : wpAny (model X.prog X.w) X.A (call (.ref f) us) (EP X pins σ Q) X.xe s := by
 have r2 : Vals (vs ++ dvs) (us ++ ds) := r.append hd
 have hl : (us ++ ds).length = ps.length := by rw [← r2.length]; exact F.len _ _ _ _ h
 refine wpAny_call (codeAny_mono (F.run X.A X.stack s H ⟨us, []⟩ (us ++ ds) (vs ++ dvs) Q E hr I.env0 (hb s us I.kIn hl) r2 h) fun r s' hq => ?_)
 cases r with
 | error e => exact hx pins σ H s e s' I hq
 | ok fl =>
  cases fl with
  | ret u => exact I.after hq
  | next => exact False.elim hq
  | brk => exact False.elim hq
  | cont => exact False.elim hq
structure Mk (K : PySem.W.Frag) (C f : Addr) : Prop where
 makes : PySem.W.makesIn K C = true
 init : PySem.W.findIn K (.ref C) "__init__" = some (some (.ref f))
 fn : PySem.W.isFn K (.ref f) = true
 kp : PySem.W.keepIn K (.ref C) = true
end
section
variable {X : Cx} {CX : CXT} {k : Nat} {f C : Addr} {fd : FuncData} {ps ks : List Str} {sp : Sp} {E : XK} {x m : Str} {p pos apos kpos : Pos} {e o : Expr} {es : List Expr} {kws : List Keyword} {te ta : TE} {t tk : TA} {nm : Option Str}
structure KBinds (K : PySem.W.Frag) (fd : FuncData) (ps ks : List Str) (g : List Value → List Value → List Value) (gV : List V → List V → List V) : Prop where
 to : ∀ (s : Shared) (us ws : List Value), K.In s.heap → (g us ws).length = ps.length → BindsTo s fd ⟨us, ks.zip ws⟩ (ps.zip (g us ws))
 rel : ∀ {vs : List V} {us : List Value} {zs : List V} {ws : List Value}, Vals vs us → Vals zs ws → Vals (gV vs zs) (g us ws)
variable {g : List Value → List Value → List Value} {gV : List V → List V → List V}
end
structure FnScope (N P : List Str) (sc : Scope) : Prop where
 kind : sc.kind = .function
 co : sc.isCoroutine = false
 gen : sc.isGenerator = false
 nd : N.Nodup
 pre : N.take P.length = P
 par : ∀ x ∈ P, sc.names.lookup x = some .local ∨ sc.names.lookup x = some .cell
 nofree : ∀ y ∈ sc.names, y.2 ≠ .free
theorem zmi {kindOf : Str → Option NameKind} {x : Str} : ∀ {binds : List (Str × Value)} {m : Str → Option Value}, (∀ v, (x, v) ∉ binds) → bindL kindOf binds m x = m x
 | [], _, _ => rfl
 | (n, v) :: r, m, h => by
  unfold bindL
  rw [zmi fun w hw => h w (List.mem_cons_of_mem _ hw)]
  split
  ·have : x ≠ n := by rintro rfl; exact h v List.mem_cons_self
   simp [this]
  ·rfl
theorem zmk {kindOf : Str → Option NameKind} {x : Str} : ∀ {binds : List (Str × Value)} {m : Str → Option Value}, (∀ v, (x, v) ∉ binds) → bindC kindOf binds m x = m x
 | [], _, _ => rfl
 | (n, v) :: r, m, h => by
  unfold bindC
  rw [zmk fun w hw => h w (List.mem_cons_of_mem _ hw)]
  split
  ·rfl
  ·have : x ≠ n := by rintro rfl; exact h v List.mem_cons_self
   simp [this]
theorem zmj {kindOf : Str → Option NameKind} {x : Str} {v : Value} : ∀ {P : List Str} {vs : List Value} {i : Nat} {m : Str → Option Value}, P.Nodup → P[i]? = some x → vs[i]? = some v → kindOf x = some .local →
  bindL kindOf (P.zip vs) m x = some v
 | [], _, _, _, _, h, _, _ => by simp at h
 | _ :: _, [], _, _, _, _, h, _ => by simp at h
 | p :: P, w :: vs, 0, m, nd, h1, h2, hk => by
  simp at h1 h2; subst h1; subst h2
  show bindL kindOf ((p, w) :: P.zip vs) m p = _
  unfold bindL
  rw [zmi fun v hv => (List.nodup_cons.mp nd).1 (List.of_mem_zip hv).1, if_pos hk]
  simp
 | p :: P, w :: vs, i + 1, m, nd, h1, h2, hk => by
  show bindL kindOf ((p, w) :: P.zip vs) m x = _
  unfold bindL
  exact zmj (i := i) (List.nodup_cons.mp nd).2 (by simpa using h1) (by simpa using h2) hk
theorem zml {kindOf : Str → Option NameKind} {x : Str} {v : Value} : ∀ {P : List Str} {vs : List Value} {i : Nat} {m : Str → Option Value}, P.Nodup → P[i]? = some x → vs[i]? = some v → kindOf x ≠ some .local →
  bindC kindOf (P.zip vs) m x = some v
 | [], _, _, _, _, h, _, _ => by simp at h
 | _ :: _, [], _, _, _, _, h, _ => by simp at h
 | p :: P, w :: vs, 0, m, nd, h1, h2, hk => by
  simp at h1 h2; subst h1; subst h2
  show bindC kindOf ((p, w) :: P.zip vs) m p = _
  unfold bindC
  rw [zmk fun v hv => (List.nodup_cons.mp nd).1 (List.of_mem_zip hv).1, if_neg hk]
  simp
 | p :: P, w :: vs, i + 1, m, nd, h1, h2, hk => by
  show bindC kindOf ((p, w) :: P.zip vs) m x = _
  unfold bindC
  exact zml (i := i) (List.nodup_cons.mp nd).2 (by simpa using h1) (by simpa using h2) hk
def start (N : List Str) (vs : List V) : St := vs.map some ++ List.replicate (N.length - vs.length) none
def zkf (CX : CXT) (P : Program) (w : World) (K : PySem.W.Frag) (mg : Str → Option Value) (base : Heap) (N : List Str) (qual : Str) (scope : Scope) (f : Addr) (cd : Value) (A : Around) (outer : List Env) (s : Shared) (H : Hp) (E : XK) : Cx where
 prog := P
 w := w
 K := K
 mg := mg
 base := base
 A := A.deeper (envOfC qual scope s.heap.objs.size f cd)
 N := N
 s₀ := s
 H₀ := H
 env := envOfC qual scope s.heap.objs.size f cd
 outer := outer
 stack := envOfC qual scope s.heap.objs.size f cd :: outer
 ex := []
 calm := true
 fn := fun _ => true
 pn := []
 xe := fun e s' => wpAny (model P w) (A.deeper (envOfC qual scope s.heap.objs.size f cd)) (leaving (envOfC qual scope s.heap.objs.size f cd) e) (fun _ s'' => CX outer H s E e s'') (fun e' s'' => CX outer H s E e' s'') s'
theorem zp5 {sc : Scope} {n : Nat} {x : Str} (h : sc.names.lookup x = some .cell) : ∃ c, (cellsFrom n sc.names []).lookup x = some c := by
 have q := PySem.W.cellsFrom_some sc.names n [] (.inl h)
 exact Option.isSome_iff_exists.mp q
theorem zsn {CX : CXT} {P : Program} {w : World} {K : PySem.W.Frag} {mg : Str → Option Value} {base : Heap} {N ps : List Str} {qual : Str} {scope : Scope} {f : Addr} {cd : Value} {A : Around} {outer : List Env} {s s1 : Shared} {H : Hp} {E : XK} {us : List Value} {vs : List V}
  (S : FnScope N ps scope) (hd : A.handled = none) (e0 : Env0 P w K mg base A outer s H) (hl : vs.length = ps.length) (r : Vals vs us)
  (x : InCallC s s.heap.objs.size (bindL (envOfC qual scope s.heap.objs.size f cd).kindOf (ps.zip us) fun _ => none) (cellsFrom (s.heap.objs.size + 1) scope.names []) (bindC (envOfC qual scope s.heap.objs.size f cd).kindOf (ps.zip us) fun _ => none) s1) :
  Inv (zkf CX P w K mg base N qual scope f cd A outer s H E) [] (start N vs) H s1 := by
 have hpl : ps.length ≤ N.length := by have := congrArg List.length S.pre; rw [List.length_take] at this; omega
 obtain ⟨h1, tk, rfl, hk⟩ := x.done
 have noA : ∀ b : Addr, b ∉ (zkf CX P w K mg base N qual scope f cd A outer s H E).ex := fun b z => absurd (show b ∈ ([] : List Addr) from z) (by simp)
 refine ⟨⟨e0.mod, S.kind, rfl, rfl, Nat.le_refl _, fun y z c h1 h2 => ?_, fun y hy => ?_, fun y c _ h => ?_, fun _ => hd, Around.frames_deeper e0.frames, .inr ⟨rfl, rfl⟩, fun b z => absurd z (noA b), e0.bs, e0.bsz, fun b _ _ => noA b, fun b z => absurd z (noA b), e0.funs, e0.frf⟩,
  rfl, e0.bare, Un.kept hk, ⟨_, x.toInCall.ns, fun i y v h1 h2 h3 => ?_⟩, fun y c h => ⟨_, x.cell y c h⟩, e0.hok.fresh (Nat.le_refl _), fun y c h => ?_, fun p hp => absurd (show p ∈ ([] : List (Addr × Obj)) from hp) (by simp), e0.hok.kept hk, ?_⟩
 ·exact name_of_addr x.apart (PySem.mem_of_lookup h1) (PySem.mem_of_lookup h2)
 ·have hy : scope.names.lookup y = some .cell ∨ scope.names.lookup y = some .free := hy
  rcases hy with hy | hy
  ·exact zp5 hy
  ·exact absurd rfl (S.nofree _ (PySem.mem_of_lookup hy))
 ·exact Nat.le_of_lt (x.above y c (PySem.mem_of_lookup h))
 ·have hi : i < vs.length := by
   unfold start at h2
   by_cases hi : i < vs.length
   ·exact hi
   ·rw [List.getElem?_append_right (by simpa using hi)] at h2
    rw [List.getElem?_replicate] at h2
    split at h2 <;> cases h2
  have ha : vs[i]? = some v := by
   unfold start at h2
   rw [List.getElem?_append_left (by simpa using hi), List.getElem?_map] at h2
   cases e : vs[i]? with
   | none => rw [e] at h2; cases h2
   | some a => rw [e] at h2; cases h2; rfl
  obtain ⟨u, hu, rv⟩ := r.get ha
  have hp : ps[i]? = some y := by
   rw [← S.pre, List.getElem?_take_of_lt (by omega)]; exact h1
  have ndP : ps.Nodup := by rw [← S.pre]; exact S.nd.sublist (List.take_sublist _ _)
  refine ⟨u, rv, ?_⟩
  rcases S.par y (List.mem_of_getElem? hp) with k | k
  ·exact .inl ⟨k, zmj ndP hp hu k⟩
  ·obtain ⟨c, e⟩ := zp5 (n := s.heap.objs.size + 1) k
   refine .inr ⟨.inl k, c, e, ?_⟩
   have q := x.cell y c e
   rw [zml ndP hp hu (by show scope.names.lookup y ≠ _; rw [k]; decide)] at q
   exact q
 ·exact e0.hok.fresh (Nat.le_of_lt (x.above y c (PySem.mem_of_lookup h)))
 ·unfold start
  show _ = N.length
  rw [List.length_append, List.length_map, List.length_replicate]
  omega
theorem q0x {CX : CXT} {P : Program} {w : World} {K : PySem.W.Frag} {mg : Str → Option Value} {base : Heap} {k : Nat} {f : Addr} {name qual : Str} {params : Arguments} {body : List Stmt} {scope : Scope} {dV kV doc pm cdv ct oc : Value} {an od : Option Addr}
  {osl : Array (Option Value)} {N ps : List Str} {sp : Sp} (lk : K.lookup f = some ⟨oc, od, .func (PySem.W.fnOf name qual params body scope dV kV doc pm an cdv ct), osl⟩) (hcd : PySem.W.codeIn K cdv qual = true) (S : FnScope N ps scope)
  (len : ∀ vs H Q E, sp vs H Q E → vs.length = ps.length)
  (hbody : ∀ (A : Around) (outer : List Env) (s : Shared) (H : Hp) (vs : List V) (Q : VK) (E : XK), Room k (A.deeper (envOfC qual scope s.heap.objs.size f cdv)) → sp vs H Q E →
   ∃ t, PSs (zkf CX P w K mg base N qual scope f cdv A outer s H E) body t ∧ t { nx := fun _ H' => Q .non H', rt := Q } (start N vs) H) :
  FnOk P w K mg base CX (k + 1) f (PySem.W.fnOf name qual params body scope dV kV doc pm an cdv ct) ps sp := by
 refine ⟨len, fun A outer s H args us vs Q E hr e0 hb r hsp => ?_⟩
 have hl := len _ _ _ _ hsp
 have KX : K.In s.heap := e0.mod.kin.keeps fun b o e => (e0.bs b o e).1
 have lim : s.heap.NoLimit := e0.mod.nolimit.keeps fun b o e => (e0.bs b o e).1
 have hkind : ∀ y ∈ ps.zip us, scope.names.lookup y.1 = some .local ∨ (scope.names.lookup y.1 = some .cell ∧ ((cellsFrom (s.heap.objs.size + 1) scope.names []).lookup y.1).isSome = true) := fun ⟨n, v⟩ hy => by
  rcases S.par n (List.of_mem_zip hy).1 with q | q
  ·exact .inl q
  ·exact .inr ⟨q, PySem.W.cellsFrom_some _ _ _ (.inl q)⟩
 refine codeAny_call_function hr.depth (KX _ _ lk) rfl S.co S.gen rfl (PySem.W.codeRec_of KX hcd) (hb _ _ _ _ ?_)
 refine wpAny_newFunctionEnv_cells S.kind hkind fun env he s1 x => ?_
 subst he
 refine ⟨lim.keeps x.toInCall.keep, codeAny_func ?_⟩
 obtain ⟨t, ht, hq⟩ := hbody A outer s H vs Q E (hr.deeper _) hsp
 have I : Inv (zkf CX P w K mg base N qual scope f cdv A outer s H E) [] (start N vs) H s1 := zsn S hr.hd e0 hl r x
 refine wpAny_mono (ht [] s1 (start N vs) H _ I hq) (fun fl s' hs => ?_) fun e s' hs => hs
 have fin : ∀ {σ' : St} {H' : Hp} {v : V} {u : Value}, Inv (zkf CX P w K mg base N qual scope f cdv A outer s H E) [] σ' H' s' → RelV v u → Q v H' → CE outer P w H s Q u s' :=
  fun {σ' H' v u} J rv q => ⟨v, H', J.os, J.bare, J.base, J.hok, rv, q⟩
 cases fl with
 | ret u =>
  obtain ⟨v, σ', H', J, rv, q⟩ := hs
  exact fin J rv q
 | next =>
  obtain ⟨σ', H', J, q⟩ := hs
  exact fin (v := V.non) (u := Value.none) J rfl q
 | brk =>
  obtain ⟨_, _, _, q⟩ := hs
  exact False.elim q
 | cont =>
  obtain ⟨_, _, _, q⟩ := hs
  exact False.elim q
end L2
namespace L2
open PySem PySem.Spec PyProof.Rows
section
variable {X : Cx} {x : Str} {p pos : Pos} {e : Expr} {es : List Expr} {t : TA} {id T : String} {r : List V → Hp → VK → Prop}
def tCB (r : List V → Hp → VK → Prop) (t : TA) : TE := fun σ H Q => t σ H fun vs H1 => r vs H1 Q
theorem zuw (hc : CallR X (.builtin id) r) (hg : Gl X x) (hm : X.mg x = none) (hv : bootBuiltins x = some (.builtin id)) (ha : PA X (e :: es) t) (hn : x ≠ "__name__" := by decide) (hdb : (x == ("__debug__" : Str)) = false := by decide)
  (he : starEach (e :: es) X.env = (false, eval e X.env) :: starEach es X.env := by rfl) (hpl : (backTo pos (starEach es X.env)).any (·.1) = false := by rfl) : PE X (.Call (.Name x p) (e :: es) [] pos) (tCB r t) := by
 intro pins s σ H Q I h
 refine wpAny_Call_Name_kw (zhc I hg hm hv ?_ hn hdb)
 exact PyProof.Rows.callWith_builtin1 (thn (ha pos pins s σ H _ I h) fun us s1 ⟨vs, H1, I1, r1, q1⟩ => hc pins s1 σ H1 vs us Q I1 r1 q1) he hpl
theorem zrs (hc : CallR X (.type T) r) (hg : Gl X x) (hm : X.mg x = none) (hv : bootBuiltins x = some (.type T)) (ha : PA X (e :: es) t) (hn : x ≠ "__name__" := by decide) (hdb : (x == ("__debug__" : Str)) = false := by decide)
  (he : starEach (e :: es) X.env = (false, eval e X.env) :: starEach es X.env := by rfl) (hpl : (backTo pos (starEach es X.env)).any (·.1) = false := by rfl) : PE X (.Call (.Name x p) (e :: es) [] pos) (tCB r t) := by
 intro pins s σ H Q I h
 refine wpAny_Call_Name_kw (zhc I hg hm hv ?_ hn hdb)
 exact PyProof.Rows.callWith_type1 (thn (ha pos pins s σ H _ I h) fun us s1 ⟨vs, H1, I1, r1, q1⟩ => hc pins s1 σ H1 vs us Q I1 r1 q1) he hpl
end
end L2
namespace HT
open PySem PyProof.Rows
section
open PySem.SeqAt
open PySem.AutoSeq1 (wpAny_loadPart')
open PySem.MeetsSeq PySem.MeetsSeq2 PySem.MeetsSeq3
end
section
variable {prog : Program} {w : World} {A : Around} {E : Value → Shared → Prop} {s : Shared}
theorem zyp {t b : Addr} {vs ws : List Value} {Q : Value → Shared → Prop} (ht : IsTup s.heap t vs.toArray) (hb : IsTup s.heap b ws.toArray) (hv : vs ≠ [])
  (h1 : ws = [] → Q (.ref t) s) (h2 : ws ≠ [] → Q (.ref s.heap.objs.size) { s with heap := s.heap.push { cls := .type "tuple", data := .seq (vs ++ ws).toArray } })
  (hsz : vs.length + ws.length ≤ sizeLine) : wpAny (model prog w) A (binaryOp .Add (.ref t) (.ref b)) Q E s := by
 obtain ⟨⟨cls, dd, data, sl⟩, ho, hc, n, hd⟩ := id ht
 obtain ⟨⟨cls2, dd2, data2, sl2⟩, ho2, hc2, n2, hd2⟩ := id hb
 simp only at hc hd hc2 hd2
 subst hc hd hc2 hd2
 have e : vs.toArray ++ ws.toArray = (vs ++ ws).toArray := by simp
 by_cases hw : ws = []
 ·exact concat_meets ⟨_, ho, rfl⟩ ⟨_, ho2, rfl⟩ noFill_tuple_add seq_tuple_add PySem.F.slot_tuple_add PySem.F.entry_tuple_add (PySem.F.args_tuple_add_2 _ _)
   (tuple_addW1 t b vs.toArray ws.toArray n n2 dd dd2 sl sl2 (by simpa using hv) (by simp [hw])) ⟨ho, ho2, h1 hw⟩
 ·refine concat_meets ⟨_, ho, rfl⟩ ⟨_, ho2, rfl⟩ noFill_tuple_add seq_tuple_add PySem.F.slot_tuple_add PySem.F.entry_tuple_add (PySem.F.args_tuple_add_2 _ _)
   (tuple_addW2 t b vs.toArray ws.toArray n n2 dd dd2 sl sl2 (by simpa using hv) (by simpa using hw) (by rw [List.size_toArray, List.size_toArray]; exact hsz)) ⟨ho, ho2, ?_⟩
  rw [e]
  exact h2 hw
def sIx (n d : Nat) : Option Int → Nat
 | none => d
 | some v => if v < 0 then (v + (n : Int)).toNat else min v.toNat n
theorem zj7 (n d : Nat) : sIx n d none = d := rfl
theorem zrb (n d k : Nat) : sIx n d (some (k : Int)) = min k n := by
 show (if (k : Int) < 0 then ((k : Int) + (n : Int)).toNat else min (k : Int).toNat n) = min k n
 rw [if_neg (by omega), Int.toNat_natCast]
theorem zzn (n d : Nat) (hd : d ≤ n) (o : Option Int) : sIx n d o ≤ n := by
 cases o with
 | none => exact hd
 | some v =>
  show (if v < 0 then (v + (n : Int)).toNat else min v.toNat n) ≤ n
  by_cases hv : v < 0
  ·rw [if_pos hv]; omega
  ·rw [if_neg hv]; exact Nat.min_le_right _ _
theorem ztl (v : Int) (n d : Nat) : (if v < 0 then max (v + (n : Int)) 0 else min v (n : Int)) = ((sIx n d (some v) : Nat) : Int) := by
 show (if v < 0 then max (v + (n : Int)) 0 else min v (n : Int)) = (((if v < 0 then (v + (n : Int)).toNat else min v.toNat n) : Nat) : Int)
 by_cases hv : v < 0
 ·simp only [if_pos hv]; omega
 ·simp only [if_neg hv]; omega
theorem zqj (lo hi : Option Int) (n : Nat) : Builtin.Slice.sliceAdjust lo hi 1 (n : Int) = (((sIx n 0 lo : Nat) : Int), ((sIx n n hi : Nat) : Int)) := by
 have h1 : ¬ ((1 : Int) < 0) := by omega
 unfold Builtin.Slice.sliceAdjust
 simp only [h1, if_false]
 refine Prod.ext ?_ ?_
 ·cases lo with
  | none => rfl
  | some v => exact ztl v n 0
 ·cases hi with
  | none => rfl
  | some v => exact ztl v n n
theorem zpn (i j : Nat) : Builtin.Slice.slicePlaces (i : Int) (j : Int) 1 = j - i := by
 unfold Builtin.Slice.slicePlaces
 have h1 : (1 : Int) > 0 := by omega
 simp only [h1, if_true, Int.ediv_one]
 split <;> omega
theorem zig {v : Value} {o : Option Int} {Q : Option Int → Shared → Prop} (p : IsPart v o) (h : Q o s) : wpAny (model prog w) A (Builtin.Slice.slicePartIndex v) Q E s := by
 cases p with
 | none => exact slicePart_none h
 | int i t => exact slicePart_int h
theorem za6 {sl : Addr} {vl vu : Value} {lo hi : Option Int} {n : Nat} {Q : Int × Int × Nat → Shared → Prop} (hs : s.heap.IsSliceOf sl vl vu .none) (pl : IsPart vl lo) (pu : IsPart vu hi)
  (h : Q (((sIx n 0 lo : Nat) : Int), 1, sIx n n hi - sIx n 0 lo) s) : wpAny (model prog w) A (Builtin.Slice.sliceApplied (.ref sl) (pure (n : Int))) Q E s := by
 obtain ⟨os, hos, hcs, hds⟩ := id hs
 unfold Builtin.Slice.sliceApplied Builtin.Slice.sliceFields
 refine wpAny_bind (wpAny_bind (wpAny_field hos hds (x := vl) rfl (wpAny_bind (wpAny_field hos hds (x := vu) rfl (wpAny_bind (wpAny_field hos hds (x := .none) rfl (wpAny_pure ?_)))))))
 refine wpAny_bind (slicePart_none ?_)
 show wpAny _ _ (if ((1 : Int) == 0) = true then _ else _) _ _ s
 rw [if_neg (by decide)]
 refine wpAny_bind (zig pl (wpAny_bind (zig pu (wpAny_bind (wpAny_pure ?_)))))
 show wpAny _ _ (match Builtin.Slice.sliceAdjust lo hi 1 (n : Int) with | (lo, hi) => pure (lo, (1 : Int), Builtin.Slice.slicePlaces lo hi 1)) _ _ s
 rw [zqj lo hi n]
 show wpAny _ _ (pure (((sIx n 0 lo : Nat) : Int), (1 : Int), Builtin.Slice.slicePlaces ((sIx n 0 lo : Nat) : Int) ((sIx n n hi : Nat) : Int) 1)) _ _ s
 rw [zpn]
 exact wpAny_pure h
theorem zus (xs : Array Value) (i k : Nat) : ((List.range k).filterMap fun (m : Nat) => xs[((i : Int) + (m : Int) * 1).toNat]?).toArray = ((xs.toList.drop i).take k).toArray := by
 have e : (fun (m : Nat) => xs[((i : Int) + (m : Int) * 1).toNat]?) = fun m => xs[i + m]? := by
  funext m
  have : ((i : Int) + (m : Int) * 1).toNat = i + m := by omega
  rw [this]
 rw [e]
 have := pick_run xs i k
 rw [List.filterMap_map] at this
 have e2 : ((fun x => xs[x]?) ∘ fun x => i + x) = fun m => xs[i + m]? := rfl
 rw [e2] at this
 rw [this]
theorem zfa {t sl : Addr} {items : Array Value} {vl vu : Value} {lo hi : Option Int} {Q : Value → Shared → Prop} (ht : IsTup s.heap t items) (hs : s.heap.IsSliceOf sl vl vu .none) (pl : IsPart vl lo) (pu : IsPart vu hi)
  (hw : ¬ (sIx items.size 0 lo = 0 ∧ sIx items.size items.size hi = items.size))
  (h : Q (.ref s.heap.objs.size) { s with heap := s.heap.push { cls := .type "tuple", data := .seq ((items.toList.drop (sIx items.size 0 lo)).take (sIx items.size items.size hi - sIx items.size 0 lo)).toArray } })
  (hsz : items.size ≤ sizeLine) : wpAny (model prog w) A (getItem (.ref t) (.ref sl)) Q E s := by
 have htake : sizeOk (.seq ((items.toList.drop (sIx items.size 0 lo)).take (sIx items.size items.size hi - sIx items.size 0 lo)).toArray) := by
  show ((items.toList.drop (sIx items.size 0 lo)).take (sIx items.size items.size hi - sIx items.size 0 lo)).toArray.size ≤ sizeLine
  rw [List.size_toArray, List.length_take, List.length_drop, Array.length_toList]
  omega
 have hj : sIx items.size items.size hi ≤ items.size := zzn _ _ (Nat.le_refl _) hi
 obtain ⟨os, hos, hcs, hds⟩ := id hs
 have hTs : s.TypeIs (.ref sl) "slice" := ⟨os, hos, hcs⟩
 unfold getItem
 try with_reducible refine wpAny_holding ?_
 first | refine wpAny_bind (wpAny_pure ?_) | skip
 refine wpAny_bind (wpAny_sequenceKey ht.typeIs (by decide) ?_)
 refine wpAny_bind (wpAny_callSpecial?_slot (name := Str.ofString "__getitem__") ht.typeIs PyProof.Rows.slot_tuple_getitem
  (wpAny_call_entry PyProof.Rows.slot_tuple_getitem ht.typeIs entry_tuple_getitem ?_ (args_tuple_getitem _ _)))
 show wpAny _ _ (Builtin.Tuple.tupleItemsOf (.ref t) >>= _) _ _ s
 refine wpAny_bind (tupleItemsOf_ ht ?_)
 refine wpAny_bind (wpAny_typeOf hTs ?_)
 rw [if_pos (by decide)]
 refine wpAny_bind (za6 hs pl pu ?_)
 have hno : ¬ ((((sIx items.size 0 lo : Nat) : Int) == 0 && (1 : Int) == 1 && (sIx items.size items.size hi - sIx items.size 0 lo) == items.size) = true) := by
  intro q
  rw [Bool.and_eq_true, Bool.and_eq_true] at q
  have q1 : ((sIx items.size 0 lo : Nat) : Int) = 0 := eq_of_beq q.1.1
  have q2 : sIx items.size items.size hi - sIx items.size 0 lo = items.size := eq_of_beq q.2
  exact hw ⟨by omega, by omega⟩
 show wpAny _ _ (if (((sIx items.size 0 lo : Nat) : Int) == 0 && (1 : Int) == 1 && (sIx items.size items.size hi - sIx items.size 0 lo) == items.size) = true then _ else _) _ _ s
 rw [if_neg hno, zus]
 first
  | exact wpAny_bind (m := Builtin.Tuple.tupleExact _) (wpAny_newObj_type (wpAny_pure ⟨_, rfl, wpAny_pure h⟩) htake)
  | exact wpAny_bind (m := Builtin.Tuple.tupleExact _) (wpAny_newObj_type (wpAny_bind (wpAny_pure (wpAny_pure ⟨_, rfl, wpAny_pure h⟩))) htake)
  | exact wpAny_bind (wpAny_bind (m := Builtin.Tuple.tupleExact _) (wpAny_newObj_type (wpAny_pure (wpAny_pure ⟨_, rfl, wpAny_pure h⟩)) htake))
  | exact wpAny_bind (wpAny_bind (m := Builtin.Tuple.tupleExact _) (wpAny_newObj_type (wpAny_pure ⟨_, rfl, wpAny_pure h⟩) htake))
end
end HT
namespace L2
open PySem PySem.Spec PyProof.Rows
abbrev TO := St → Hp → (Option Int → Hp → Prop) → Prop
def PO (X : Cx) (e : Option Expr) (t : TO) : Prop :=
 ∀ (pins : List (Addr × Obj)) (s : Shared) (σ : St) (H : Hp) (Q : Option Int → Hp → Prop), Inv X pins σ H s → t σ H Q →
  wpAny (model X.prog X.w) X.A (evalPart e X.env) (fun u s' => ∃ o H', Inv X pins σ H' s' ∧ IsPart u o ∧ Q o H') X.xe s
def zix : TO := fun _ H Q => Q none H
def zu8 (t : TE) : TO := fun σ H Q => t σ H fun x H1 => ∃ i, x = .int i ∧ Q (some i) H1
section
variable {X : Cx} {e : Expr} {te : TE} {lo hi : Option Expr} {tl th : TO} {pos p2 : Pos}
theorem z9c : PO X none zix := by
 intro pins s σ H Q I h
 rw [evalPart_none]
 exact wpAny_pure ⟨none, H, I, .none, h⟩
theorem z9b (h : PE X e te) : PO X (some e) (zu8 te) := by
 intro pins s σ H Q I hw
 rw [evalPart_some]
 refine thn (h pins s σ H _ I hw) fun u s1 ⟨x, H1, I1, r1, q1⟩ => ?_
 obtain ⟨i, rfl, q⟩ := q1
 obtain ⟨t, rfl⟩ := r1
 exact ⟨some i, H1, I1, .int i t, q⟩
def SlR (X : Cx) (r : V → Option Int → Option Int → Hp → VK → Prop) : Prop :=
 ∀ (pins : List (Addr × Obj)) (s : Shared) (σ : St) (H : Hp) (x : V) (v vl vu : Value) (lo hi : Option Int) (sl : Addr) (Q : VK), Inv X pins σ H s → RelV x v → s.heap.IsSliceOf sl vl vu .none → IsPart vl lo → IsPart vu hi → r x lo hi H Q →
  ∃ T id, typeLookup (.type T) "__getitem__" = pure (some (.builtin id)) ∧ s.TypeIs v T ∧ wpAny (model X.prog X.w) X.A (getItem v (.ref sl)) (EP X pins σ Q) X.xe s
theorem SlR.or {r r' : V → Option Int → Option Int → Hp → VK → Prop} (h : SlR X r) (h' : SlR X r') : SlR X (fun x lo hi H Q => r x lo hi H Q ∨ r' x lo hi H Q) := by
 intro pins s σ H x v vl vu lo hi sl Q I rx hs pl pu q
 rcases q with q | q
 ·exact h pins s σ H x v vl vu lo hi sl Q I rx hs pl pu q
 ·exact h' pins s σ H x v vl vu lo hi sl Q I rx hs pl pu q
def tSl (r : V → Option Int → Option Int → Hp → VK → Prop) (te : TE) (tl th : TO) : TE := fun σ H Q => te σ H fun x H1 => tl σ H1 fun l H2 => th σ H2 fun u H3 => r x l u H3 Q
theorem z6k {r : V → Option Int → Option Int → Hp → VK → Prop} (hr : SlR X r) (he : PE X e te) (hl : PO X lo tl) (hu : PO X hi th) : PE X (.Subscript e (.Slice lo hi none p2) pos) (tSl r te tl th) := by
 intro pins s σ H Q I h
 refine Subscript_ (thn (he pins s σ H _ I h) fun v s1 ⟨x, H1, I1, r1, q1⟩ => ?_)
 refine wpAny_Slice (thn (hl pins s1 σ H1 _ I1 q1) fun vl s2 ⟨l, H2, I2, pl, q2⟩ => thn (hu pins s2 σ H2 _ I2 q2) fun vu s3 ⟨u, H3, I3, pu, q3⟩ => ?_)
 rw [evalPart_none]
 refine wpAny_pure ?_
 have I4 : Inv X pins σ H3 { s3 with heap := s3.heap.push { cls := .type "slice", data := .fields #[vl, vu, .none] } } := I3.kept (t' := s3.toks) fun b ob q => Heap.get?_push_of_some _ q
 obtain ⟨T, id, hT, ht, hg⟩ := hr pins { s3 with heap := s3.heap.push { cls := .type "slice", data := .fields #[vl, vu, .none] } } σ H3 x v vl vu l u s3.heap.objs.size Q I4 r1 (Heap.IsSliceOf.new ..) pl pu q3
 show wpAny (model X.prog X.w) X.A (subscriptTail e (.Slice lo hi none p2) v (.ref s3.heap.objs.size)) (EP X pins σ Q) X.xe { s3 with heap := s3.heap.push { cls := .type "slice", data := .fields #[vl, vu, .none] } }
 exact tail_any (ops := [.ref s3.heap.objs.size, v]) ht hT hg (by with_unfolding_all rfl)
def zu1 (xs : List V) (lo hi : Option Int) : List V := (xs.drop (HT.sIx xs.length 0 lo)).take (HT.sIx xs.length xs.length hi - HT.sIx xs.length 0 lo)
theorem zo0 (xs : List V) (lo hi : Option Int) : (zu1 xs lo hi).length ≤ xs.length := by
 unfold zu1
 rw [List.length_take, List.length_drop]
 omega
def q20 (K : PySem.W.Frag) : V → Option Int → Option Int → Hp → VK → Prop := fun x lo hi H Q => ∃ a xs, x = .ref a ∧ SqT K H a xs ∧
 ¬ (HT.sIx xs.length 0 lo = 0 ∧ HT.sIx xs.length xs.length hi = xs.length) ∧ ∀ p, H p = none → Q (.ref p) (upd H p (.tup (zu1 xs lo hi)))
theorem zzl : SlR X (q20 X.K) := by
 intro pins s σ H x v vl vu lo hi sl Q I rx hs pl pu h
 obtain ⟨a, xs, rfl, hx, hw, q⟩ := h
 cases rx
 obtain ⟨its, r, ht, hz⟩ := I.tuple hx
 have hlen : its.toArray.size = xs.length := by rw [List.size_toArray]; exact r.length.symm
 refine ⟨"tuple", _, PyProof.Rows.slot_tuple_getitem.lookup, ht.typeIs, ?_⟩
 refine HT.zfa ht hs pl pu (by rw [hlen]; exact hw) ?_ (by rw [hlen]; exact hz)
 rw [hlen]
 refine ⟨.ref s.heap.objs.size, _, I.laid (t' := s.toks) (o := .tup (zu1 xs lo hi)) (fun b ob q => Heap.get?_push_of_some _ q) (Nat.le_refl _) ?_, rfl, q _ (I.hok.fresh (Nat.le_refl _))⟩
 exact ⟨Nat.le_trans (zo0 xs lo hi) hz, _, (r.drop (HT.sIx xs.length 0 lo)).take (HT.sIx xs.length xs.length hi - HT.sIx xs.length 0 lo), IsTup.new _ _⟩
def q2s (K : PySem.W.Frag) : R2 := fun x y H Q => ∃ a b xs ys, x = .ref a ∧ y = .ref b ∧ SqT K H a xs ∧ SqT K H b ys ∧ xs ≠ [] ∧ xs.length + ys.length ≤ sizeLine ∧
 (ys = [] → Q (.ref a) H) ∧ (ys ≠ [] → ∀ p, H p = none → Q (.ref p) (upd H p (.tup (xs ++ ys))))
theorem Vals.nil_iff {xs : List V} {us : List Value} (r : Vals xs us) : us = [] ↔ xs = [] := by
 cases r with
 | nil => simp
 | cons _ _ => simp
theorem zxk : OpR X (binaryOp .Add) (q2s X.K) := by
 intro pins s σ H x y v u Q I rx ry h
 obtain ⟨a, b, xs, ys, rfl, rfl, ha, hb, hx, hz, q1, q2⟩ := h
 cases rx
 cases ry
 obtain ⟨its, r1, p1, _⟩ := I.tuple ha
 obtain ⟨its2, r2, p2, _⟩ := I.tuple hb
 refine HT.zyp p1 p2 (fun z => hx (r1.nil_iff.mp z)) (fun z => ⟨.ref a, H, I, rfl, q1 (r2.nil_iff.mp z)⟩) (fun z => ?_) (by rw [← r1.length, ← r2.length]; exact hz)
 refine ⟨.ref s.heap.objs.size, _, I.laid (t' := s.toks) (o := .tup (xs ++ ys)) (fun b ob q => Heap.get?_push_of_some _ q) (Nat.le_refl _) ?_, rfl, q2 (fun w => z (r2.nil_iff.mpr w)) _ (I.hok.fresh (Nat.le_refl _))⟩
 exact ⟨by rw [List.length_append]; exact hz, _, r1.append r2, IsTup.new _ _⟩
end
end L2
namespace L2
open PySem PySem.Spec PyProof.Rows
def ixN (n : Nat) (i : Int) : Option Nat := if 0 ≤ i then (if i < n then some i.toNat else none) else if -(n : Int) ≤ i then some (i + n).toNat else none
def atI {α : Type} (xs : List α) (i : Int) : Option α := (ixN xs.length i).bind fun j => xs[j]?
theorem zxz {n : Nat} {i : Int} {j : Nat} (h : ixN n i = some j) : seqIndex? i n = some j ∧ j < n ∧ -(n : Int) ≤ i ∧ i < n := by
 unfold ixN at h
 by_cases h0 : 0 ≤ i
 ·rw [if_pos h0] at h
  by_cases h1 : i < n
  ·rw [if_pos h1] at h
   have e : i.toNat = j := Option.some.inj h
   exact ⟨by rw [seqIndex_of h0 h1, e], by omega, by omega, h1⟩
  ·rw [if_neg h1] at h; cases h
 ·rw [if_neg h0] at h
  by_cases h1 : -(n : Int) ≤ i
  ·rw [if_pos h1] at h
   have e : (i + n).toNat = j := Option.some.inj h
   exact ⟨by rw [seqIndex_neg (by omega) h1, e], by omega, h1, by omega⟩
  ·rw [if_neg h1] at h; cases h
theorem ztu {α : Type} {xs : List α} {i : Int} {v : α} (h : atI xs i = some v) : ∃ j, seqIndex? i xs.length = some j ∧ xs[j]? = some v ∧ j < xs.length ∧ -(xs.length : Int) ≤ i ∧ i < xs.length := by
 unfold atI at h
 cases e : ixN xs.length i with
 | none => rw [e] at h; cases h
 | some j =>
  rw [e] at h
  obtain ⟨h1, h2, h3, h4⟩ := zxz e
  exact ⟨j, h1, h, h2, h3, h4⟩
theorem z13 {α : Type} {xs : List α} {j : Nat} {v : α} (h : xs[j]? = some v) : atI xs (j : Int) = some v := by
 have hj : j < xs.length := (List.getElem?_eq_some_iff.mp h).1
 have e : ixN xs.length (j : Int) = some j := by
  unfold ixN
  rw [if_pos (by omega), if_pos (by omega)]; simp
 unfold atI; rw [e]; exact h
def zyv (b : Expr) : Prop := ∀ o i, subscripted b false o i = operate [o, i] (getItem o i)
def IxR (X : Cx) (r : R2) : Prop :=
 ∀ (value slice : Expr) (pins : List (Addr × Obj)) (s : Shared) (σ : St) (H : Hp) (x y : V) (v u : Value) (Q : VK), Inv X pins σ H s → RelV x v → RelV y u → r x y H Q →
  subscripted slice false v u = operate [v, u] (getItem v u) → wpAny (model X.prog X.w) X.A (subscriptTail value slice v u) (EP X pins σ Q) X.xe s
def MtR (X : Cx) (id : String) (r : V → List V → Hp → VK → Prop) : Prop :=
 ∀ (pins : List (Addr × Obj)) (s : Shared) (σ : St) (H : Hp) (x : V) (xs : List V) (v : Value) (us : List Value) (Q : VK), Inv X pins σ H s → RelV x v → Vals xs us → r x xs H Q →
  wpAny (model X.prog X.w) X.A (call (.builtin id) (v :: us)) (EP X pins σ Q) X.xe s
section
variable {X : Cx} {a b : Expr} {ta tb : TE} {pos : Pos}
theorem IxR.or {r r' : R2} (h : IxR X r) (h' : IxR X r') : IxR X (fun x y H Q => r x y H Q ∨ r' x y H Q) := by
 intro value slice pins s σ H x y v u Q I rx ry q hs
 rcases q with q | q
 ·exact h value slice pins s σ H x y v u Q I rx ry q hs
 ·exact h' value slice pins s σ H x y v u Q I rx ry q hs
theorem MtR.or {id : String} {r r' : V → List V → Hp → VK → Prop} (h : MtR X id r) (h' : MtR X id r') : MtR X id (fun x xs H Q => r x xs H Q ∨ r' x xs H Q) := by
 intro pins s σ H x xs v us Q I rx rs q
 rcases q with q | q
 ·exact h pins s σ H x xs v us Q I rx rs q
 ·exact h' pins s σ H x xs v us Q I rx rs q
theorem z0v {r : R2} (hr : IxR X r) (ha : PE X a ta) (hb : PE X b tb) (hs : zyv b) : PE X (.Subscript a b pos) (tOp r ta tb) := by
 intro pins s σ H Q I h
 exact Subscript_ (q31 ha hb I h fun v u s2 x y H2 I2 rx ry q => hr a b pins s2 σ H2 x y v u Q I2 rx ry q (hs _ _))
def zzq (K : PySem.W.Frag) : R2 := fun x y H Q => ∃ p xs i v, x = .ref p ∧ y = .int i ∧ SqL K H p xs ∧ atI xs i = some v ∧ Q v H
def zre (K : PySem.W.Frag) : R2 := fun x y H Q => ∃ p xs i v, x = .ref p ∧ y = .int i ∧ SqT K H p xs ∧ atI xs i = some v ∧ Q v H
def q21 : R2 := fun x y H Q => ∃ z i c, x = .str z ∧ y = .int i ∧ z.length ≤ sizeLine ∧ atI z.cps.toList i = some c ∧ Q (.str ⟨#[c]⟩) H
theorem z5c : IxR X (zzq X.K) := by
 intro value slice pins s σ H x y v u Q I rx ry h hs
 obtain ⟨p, xs, i, z, rfl, rfl, hq, he, q⟩ := h
 cases rx
 obtain ⟨t, rfl⟩ := ry
 obtain ⟨its, r, pl, hz⟩ := I.list hq
 obtain ⟨j, h1, h2, h3, h4, h5⟩ := ztu he
 obtain ⟨w, ew, rw'⟩ := r.get h2
 have hl := r.length
 have hn := zou
 have fin : EP X pins σ Q w s := ⟨z, H, I, rw', q⟩
 by_cases h0 : 0 ≤ i
 ·have hj : i.toNat = j := by
   rw [seqIndex_of h0 h5] at h1
   exact Option.some.inj h1
  exact item_listR pl.isList h0 (by omega) (by rw [hj]; simpa using ew) fin hs
 ·have hj : (i + (its.toArray.size : Int)).toNat = j := by
   rw [seqIndex_neg (by omega) h4] at h1
   rw [List.size_toArray, ← hl]
   exact Option.some.inj h1
  exact subscriptTail_builtinR (x := w) pl.isList.typeIs slot_list_getitem.lookup
   (wpAny_getItem_list_neg (Q := fun r s' => r = w ∧ EP X pins σ Q r s') pl.isList (by omega) (by rw [List.size_toArray] <;> omega) (by omega) (by rw [hj]; simpa using ew) ⟨rfl, fin⟩) hs
theorem z0e : IxR X (zre X.K) := by
 intro value slice pins s σ H x y v u Q I rx ry h hs
 obtain ⟨p, xs, i, z, rfl, rfl, hq, he, q⟩ := h
 cases rx
 obtain ⟨t, rfl⟩ := ry
 obtain ⟨its, r, pl, hz⟩ := I.tuple hq
 obtain ⟨j, h1, h2, h3, h4, h5⟩ := ztu he
 obtain ⟨w, ew, rw'⟩ := r.get h2
 have hl := r.length
 have hn := zou
 have fin : EP X pins σ Q w s := ⟨z, H, I, rw', q⟩
 exact subscriptTail_builtinR (x := w) pl.typeIs slot_tuple_getitem.lookup
  (getItem_tuple (j := j) (Q := fun r s' => r = w ∧ EP X pins σ Q r s') pl (by omega) (by omega) (by rw [List.size_toArray, ← hl]; exact h1) (by simpa using ew) ⟨rfl, fin⟩) hs
def rIx (K : PySem.W.Frag) : R2 := fun x y H Q => zzq K x y H Q ∨ zre K x y H Q ∨ q21 x y H Q
theorem Inv.lst {pins : List (Addr × Obj)} {σ : St} {H : Hp} {s : Shared} {p : Addr} {xs : List V} (I : Inv X pins σ H s) (h : H p = some (.lst xs)) :
  ∃ (its : List Value) (n : Nat), Vals xs its ∧ s.heap.get? p = some { cls := .type "list", data := .seq its.toArray n } ∧ xs.length ≤ sizeLine := by
 obtain ⟨z, its, n, r, e⟩ := I.hok p _ h
 exact ⟨its, n, r, e, z⟩
def q2o (K : PySem.W.Frag) : V → Option Int → Option Int → Hp → VK → Prop := fun x lo hi H Q => ∃ a xs, x = .ref a ∧ SqL K H a xs ∧ ∀ p, H p = none → Q (.ref p) (upd H p (.lst (zu1 xs lo hi)))
def zah : V → Bool
 | .non => true
 | .bl _ => true
 | .int _ => true
 | .str _ => true
 | _ => false
def eqV : V → V → Bool
 | .non, .non => true
 | .bl a, .bl b => a == b
 | .bl a, .int b => (if a then 1 else 0) == b
 | .int a, .bl b => a == (if b then 1 else 0)
 | .int a, .int b => a == b
 | .str a, .str b => a == b
 | _, _ => false
theorem q11 {A : Around} {s : Shared} {y x : V} {u v : Value} (ry : RelV y u) (rx : RelV x v) (fy : zah y = true) (fx : zah x = true) : SeqAt.EqAt A s u v (eqV y x) := by
 cases y with
 | non =>
  cases ry
  cases x with
  | non => cases rx; exact SeqAt.EqAt.same _
  | bl b => cases rx; exact SeqAt.EqAt.none_bool b
  | int b => obtain ⟨t, rfl⟩ := rx; exact SeqAt.EqAt.none_int b t
  | str b => obtain ⟨t, rfl⟩ := rx; exact SeqAt.EqAt.none_str b t
  | _ => exact absurd (show false = true from fx) Bool.false_ne_true
 | bl a =>
  cases ry
  cases x with
  | non => cases rx; exact SeqAt.EqAt.bool_none a
  | bl b => cases rx; exact SeqAt.EqAt.bool_bool a b
  | int b => obtain ⟨t, rfl⟩ := rx; exact SeqAt.EqAt.bool_int a b t
  | str b => obtain ⟨t, rfl⟩ := rx; exact SeqAt.EqAt.bool_str a b t
  | _ => exact absurd (show false = true from fx) Bool.false_ne_true
 | int a =>
  obtain ⟨t', rfl⟩ := ry
  cases x with
  | non => cases rx; exact SeqAt.EqAt.int_none a t'
  | bl b => cases rx; exact SeqAt.EqAt.int_bool a t' b
  | int b => obtain ⟨t, rfl⟩ := rx; exact SeqAt.EqAt.int_int a t' b t
  | str b => obtain ⟨t, rfl⟩ := rx; exact SeqAt.EqAt.int_str a t' b t
  | _ => exact absurd (show false = true from fx) Bool.false_ne_true
 | str a =>
  obtain ⟨t', rfl⟩ := ry
  cases x with
  | non => cases rx; exact SeqAt.EqAt.str_none a t'
  | bl b => cases rx; exact SeqAt.EqAt.str_bool a t' b
  | int b => obtain ⟨t, rfl⟩ := rx; exact SeqAt.EqAt.str_int a t' b t
  | str b => obtain ⟨t, rfl⟩ := rx; exact SeqAt.EqAt.str_str a t' b t
  | _ => exact absurd (show false = true from fx) Bool.false_ne_true
 | _ => exact absurd (show false = true from fy) Bool.false_ne_true
def eqU (x : V) (u : Value) : Bool := match u with
 | .none => eqV .non x
 | .bool b => eqV (.bl b) x
 | .int i _ => eqV (.int i) x
 | .str z _ => eqV (.str z) x
 | _ => false
theorem zwf {x y : V} {u : Value} (r : RelV y u) (f : zah y = true) : eqU x u = eqV y x := by
 cases y with
 | non => cases r; rfl
 | bl b => cases r; rfl
 | int i => obtain ⟨t, rfl⟩ := r; rfl
 | str z => obtain ⟨t, rfl⟩ := r; rfl
 | _ => exact absurd (show false = true from f) Bool.false_ne_true
theorem zi0 {x : V} : ∀ {xs : List V} {us : List Value}, Vals xs us → xs.all zah = true → us.any (eqU x) = xs.any fun y => eqV y x
 | _, _, .nil, _ => rfl
 | y :: xs, u :: us, .cons r t, f => by
  rw [List.all_cons, Bool.and_eq_true] at f
  rw [List.any_cons, List.any_cons, zwf r f.1, zi0 t f.2]
theorem zdl {A : Around} {s : Shared} {x : V} {v : Value} (rx : RelV x v) (fx : zah x = true) : ∀ {xs : List V} {us : List Value}, Vals xs us → xs.all zah = true → ∀ u ∈ us, SeqAt.EqAt A s u v (eqU x u)
 | _, _, .nil, _ => fun u hu => by cases hu
 | y :: xs, u :: us, .cons r t, f => fun u' hu => by
  rw [List.all_cons, Bool.and_eq_true] at f
  rcases List.mem_cons.mp hu with rfl | hu
  ·rw [zwf r f.1]; exact q11 r rx f.1 fx
  ·exact zdl rx fx t f.2 u' hu
def inV (x : V) (xs : List V) : Bool := xs.any fun y => eqV y x
def rIn (K : PySem.W.Frag) (neg : Bool) : R2 := fun x y H Q => ∃ p xs, y = .ref p ∧ (SqL K H p xs ∨ SqT K H p xs) ∧ zah x = true ∧ xs.all zah = true ∧ Q (.bl (if neg then !inV x xs else inV x xs)) H
theorem zrw : OpR X (compareOp .In) (rIn X.K false) := by
 intro pins s σ H x y v u Q I rx ry h
 obtain ⟨p, xs, rfl, hq, fx, fs, q⟩ := h
 cases ry
 rcases hq with hq | hq
 ·obtain ⟨its, r, pl, hz⟩ := I.list hq
  refine SeqAt.in_listAt (eqU x) pl.isList (fun w hw => zdl rx fx r fs w (by simpa using hw)) ⟨.bl _, H, I, rfl, ?_⟩
  rw [show its.toArray.any (eqU x) = its.any (eqU x) by simp, zi0 r fs]
  exact q
 ·obtain ⟨its, r, pl, hz⟩ := I.tuple hq
  refine SeqAt.in_tupleAt (eqU x) pl (fun w hw => zdl rx fx r fs w (by simpa using hw)) ⟨.bl _, H, I, rfl, ?_⟩
  rw [show its.toArray.any (eqU x) = its.any (eqU x) by simp, zi0 r fs]
  exact q
theorem zl8 : OpR X (compareOp .NotIn) (rIn X.K true) := by
 intro pins s σ H x y v u Q I rx ry h
 obtain ⟨p, xs, rfl, hq, fx, fs, q⟩ := h
 cases ry
 rcases hq with hq | hq
 ·obtain ⟨its, r, pl, hz⟩ := I.list hq
  refine SeqAt.notIn_listAt (eqU x) pl.isList (fun w hw => zdl rx fx r fs w (by simpa using hw)) ⟨.bl _, H, I, rfl, ?_⟩
  rw [show its.toArray.any (eqU x) = its.any (eqU x) by simp, zi0 r fs]
  exact q
 ·obtain ⟨its, r, pl, hz⟩ := I.tuple hq
  refine SeqAt.notIn_tupleAt (eqU x) pl (fun w hw => zdl rx fx r fs w (by simpa using hw)) ⟨.bl _, H, I, rfl, ?_⟩
  rw [show its.toArray.any (eqU x) = its.any (eqU x) by simp, zi0 r fs]
  exact q
theorem zl7 : OpR X (compareOp .NotIn) (fun x y H Q => ∃ i j, x = .str i ∧ y = .str j ∧ Q (.bl (!(!(Builtin.Str.occurrences j i 0 j.length 1).isEmpty))) H) := by
 intro pins s σ H x y v u Q I rx ry h
 obtain ⟨i, j, rfl, rfl, q⟩ := h
 obtain ⟨t, rfl⟩ := rx
 obtain ⟨t', rfl⟩ := ry
 exact notIn_str ⟨.bl _, H, I, rfl, q⟩
theorem zmh : CallR X (.builtin "len") (fun xs H Q => ∃ p ys, xs = [.ref p] ∧ (SqL X.K H p ys ∨ SqT X.K H p ys) ∧ Q (.int ys.length) H) := by
 intro pins s σ H xs us Q I r h
 obtain ⟨p, ys, rfl, hq, q⟩ := h
 obtain ⟨u, rfl, rx⟩ := zwu r
 cases rx
 have hn := zou
 rcases hq with hq | hq
 ·obtain ⟨its, r', pl, hz⟩ := I.list hq
  have hlen := r'.length
  exact Calls.call_len_list pl.isList (by simp only [List.size_toArray] <;> omega) ⟨.int ys.length, H, I.tok _, ⟨s.toks + 1, by rw [List.size_toArray, hlen]⟩, q⟩
 ·obtain ⟨its, r', pl, hz⟩ := I.tuple hq
  have hlen := r'.length
  exact len_tuple pl (by simp only [List.size_toArray] <;> omega) ⟨.int ys.length, H, I.tok _, ⟨s.toks + 1, by rw [List.size_toArray, hlen]⟩, q⟩
theorem zmg : CallR X (.builtin "len") (fun xs H Q => ∃ z, xs = [.str z] ∧ z.length ≤ sizeLine ∧ Q (.int z.length) H) := by
 intro pins s σ H xs us Q I r h
 obtain ⟨z, rfl, hz, q⟩ := h
 obtain ⟨u, rfl, t, rfl⟩ := zwu r
 have hn := zou
 exact len_str (by omega) ⟨.int z.length, H, I.tok _, ⟨_, rfl⟩, q⟩
theorem CallR.or {f : Value} {r r' : List V → Hp → VK → Prop} (h : CallR X f r) (h' : CallR X f r') : CallR X f (fun xs H Q => r xs H Q ∨ r' xs H Q) := by
 intro pins s σ H xs us Q I rs q
 rcases q with q | q
 ·exact h pins s σ H xs us Q I rs q
 ·exact h' pins s σ H xs us Q I rs q
theorem z6v : CallR X (.type "tuple") (fun xs H Q => ∃ p ys, xs = [.ref p] ∧ ((SqL X.K H p ys ∧ ∀ l, H l = none → Q (.ref l) (upd H l (.tup ys))) ∨ (SqT X.K H p ys ∧ Q (.ref p) H))) := by
 intro pins s σ H xs us Q I r h
 obtain ⟨p, ys, rfl, h⟩ := h
 obtain ⟨u, rfl, rx⟩ := zwu r
 cases rx
 rcases h with ⟨hq, q⟩ | ⟨hq, q⟩
 ·obtain ⟨its, r', pl, hz⟩ := I.list hq
  have hlen := r'.length
  refine call_tuple_list pl.isList (fun h' kp => ?_) (by simp only [List.size_toArray] <;> omega)
  have I1 : Inv X pins σ H { s with heap := h' } := I.kept (t' := s.toks) kp
  have I2 : Inv X pins σ (upd H h'.objs.size (.tup ys)) { s with heap := h'.push { cls := .type "tuple", data := .seq its.toArray } } :=
   I1.laid (t' := s.toks) (fun b o e => Heap.get?_push_of_some _ e) (Nat.le_refl _) (show ObjOk X.prog X.w _ _ _ (.tup ys) from ⟨hz, its, r', IsTup.new _ _⟩)
  exact ⟨.ref h'.objs.size, _, I2, rfl, q _ (I1.hok.fresh (Nat.le_refl _))⟩
 ·obtain ⟨its, r', pl, hz⟩ := I.tuple hq
  exact call_tuple_same pl ⟨.ref p, H, I, rfl, q⟩
def tyV (K : PySem.W.Frag) (T : String) (x : V) (H : Hp) : Prop := match x with
 | .str _ => T = "str"
 | .int _ => T = "int"
 | .ref p => (T = "list" ∧ ∃ xs, SqL K H p xs) ∨ (T = "tuple" ∧ ∃ o, K.lookup p = some o ∧ o.cls = .type "tuple" ∧ o.dict = none) ∨
   (T = "dict" ∧ ((∃ kvs, H p = some (.dK kvs)) ∨ ∃ kvs, H p = some (.dT kvs))) ∨ (T = "set" ∧ ∃ S n, H p = some (.set S n))
 | _ => False
theorem zzc {pins : List (Addr × Obj)} {σ : St} {H : Hp} {s : Shared} {T : String} {x : V} {v : Value} (I : Inv X pins σ H s) (r : RelV x v) (ty : tyV X.K T x H) :
  s.TypeIs v T ∧ ∀ a, v = .ref a → ∃ ob, s.heap.get? a = some ob ∧ ob.dict = none := by
 cases x with
 | str z =>
  obtain ⟨t, rfl⟩ := r
  cases (show T = "str" from ty)
  exact ⟨typeIs_str s z t, fun _ e => nomatch e⟩
 | int i =>
  obtain ⟨t, rfl⟩ := r
  cases (show T = "int" from ty)
  exact ⟨typeIs_int s i t, fun _ e => nomatch e⟩
 | ref p =>
  cases r
  rcases ty with ⟨rfl, xs, hq⟩ | ⟨rfl, o, hk, hc, hd⟩ | ⟨rfl, hk⟩ | ⟨rfl, S, n, hk⟩
  ·obtain ⟨its, _, pl, _⟩ := I.list hq
   refine ⟨pl.isList.typeIs, fun a e => ?_⟩
   cases e
   obtain ⟨o, n, e, c, hd, _⟩ := pl
   exact ⟨o, e, hd⟩
  ·refine ⟨⟨o, I.kIn p o hk, hc⟩, fun a e => ?_⟩
   cases e
   exact ⟨o, I.kIn _ o hk, hd⟩
  ·have z : ∃ o, s.heap.get? p = some o ∧ o.ExactDict := by
    rcases hk with ⟨kvs, hk⟩ | ⟨kvs, hk⟩
    ·obtain ⟨_, _, _, _, o, _, _, e, ex, _⟩ := I.hok p _ hk
     exact ⟨o, e, ex⟩
    ·obtain ⟨_, _, _, _, o, _, _, e, ex, _⟩ := I.hok p _ hk
     exact ⟨o, e, ex⟩
   obtain ⟨o, e, ex⟩ := z
   refine ⟨⟨o, e, ex.1⟩, fun a e2 => ?_⟩
   cases e2
   exact ⟨o, e, ex.2.1⟩
  ·obtain ⟨o, _, _, _, e, ex, _⟩ := I.hok p _ hk
   refine ⟨⟨o, e, ex.1⟩, fun a e2 => ?_⟩
   cases e2
   exact ⟨o, e, ex.2.1⟩
 | _ => exact False.elim ty
def tBM (K : PySem.W.Frag) (T : String) (r : V → List V → Hp → VK → Prop) (to : TE) (t : TA) : TE := fun σ H Q => to σ H fun x H1 => tyV K T x H1 ∧ t σ H1 fun xs H2 => r x xs H2 Q
variable {o e : Expr} {es : List Expr} {to : TE} {t : TA} {name : Str} {apos cpos : Pos} {T id : String} {r : V → List V → Hp → VK → Prop}
theorem zl4 (pa : PlainAttrs T) (slot : Slot T name id) (hty : typeOf (.builtin id) = pure (.type "method_descriptor")) (hm : MtR X id r) (ho : PE X o to) (ha : PA X (e :: es) t)
  (hbase : attributeBase o name X.env (eval o X.env) = eval o X.env := by rfl)
  (hfew : ((backTo cpos (starEach (e :: es) X.env)).all (fun x => !x.1) && (backToKw cpos (keywordEach [] X.env)).all (fun x => x.1.isSome)
   && decide ((e :: es).length + ([] : List Keyword).length + (if ([] : List Keyword).isEmpty then 0 else 1) < 30)) = true := by rfl)
  (hline : (apos.endLine == cpos.line) = true := by rfl) (hs : starEach (e :: es) X.env = (false, eval e X.env) :: starEach es X.env := by rfl) (hplain : (backTo cpos (starEach es X.env)).any (·.1) = false := by rfl) :
  PE X (.Call (.Attribute o name apos) (e :: es) [] cpos) (tBM X.K T r to t) := by
 intro pins s σ H Q I h
 refine wpAny_Call_method_late hbase hfew hline rfl (thn (ho pins s σ H _ I h) fun v s1 ⟨x, H1, I1, r1, ty, q1⟩ => ?_)
 obtain ⟨h1, h2⟩ := zzc I1 r1 ty
 refine ⟨T, id, pa, slot, hty, h1, h2, ?_⟩
 have hA := ha cpos pins s1 σ H1 _ I1 q1
 rw [hs] at hA ⊢
 refine Calls.callWith_builtin (by show (false || (backTo cpos (starEach es X.env)).any (·.1)) = false; rw [hplain] <;> rfl) (Calls.evalArgs_plain ?_)
 exact thn hA fun us s2 ⟨vs, H2, I2, r2, q2⟩ => hm pins s2 σ H2 x vs v us Q I2 r1 r2 q2
end
end L2
namespace L2
open PySem PySem.Spec PyProof.Rows
def MtM (X : Cx) (id : String) (r : V → List V → Hp → VK → Prop) : Prop :=
 ∀ (pins : List (Addr × Obj)) (s : Shared) (σ : St) (H : Hp) (x : V) (xs : List V) (v : Value) (us : List Value) (Q : VK), Inv X pins σ H s → RelV x v → Vals xs us → r x xs H Q →
  wpAny (model X.prog X.w) X.A (call (.builtin id) (v :: us)) (EP X pins σ Q) X.xe s
theorem Vals.one : ∀ {x : V} {us : List Value}, Vals [x] us → ∃ u, us = [u] ∧ RelV x u
 | _, _, .cons r .nil => ⟨_, rfl, r⟩
theorem Vals.two : ∀ {x y : V} {us : List Value}, Vals [x, y] us → ∃ u v, us = [u, v] ∧ RelV x u ∧ RelV y v
 | _, _, _, .cons r (.cons q .nil) => ⟨_, _, rfl, r, q⟩
theorem Vals.zero : ∀ {us : List Value}, Vals [] us → us = []
 | _, .nil => rfl
theorem Vals.reverse {xs : List V} {us : List Value} (h : Vals xs us) : Vals xs.reverse us.reverse := by
 induction h with
 | nil => exact .nil
 | cons r t ih => rw [List.reverse_cons, List.reverse_cons]; exact Vals.append ih (.cons r .nil)
theorem zlq (its : List Value) : ∀ (k : Nat) (acc : List Value),
  List.foldl (fun x1 x2 => x1 ++ x2) acc.toArray (List.replicate k its.toArray) = (acc ++ (List.replicate k its).flatten).toArray
 | 0, acc => by simp
 | k + 1, acc => by
  have e : acc.toArray ++ its.toArray = (acc ++ its).toArray := by simp
  have e2 : (acc ++ its) ++ (List.replicate k its).flatten = acc ++ (List.replicate (k + 1) its).flatten := by
   rw [List.replicate_succ, List.flatten_cons, List.append_assoc]
  rw [← e2, ← zlq its k (acc ++ its), ← e, List.replicate_succ, List.foldl_cons]
section
variable {X : Cx} {pins : List (Addr × Obj)} {σ : St} {H : Hp} {s : Shared} {l b : Addr} {xs ys zs : List V}
theorem Inv.lset {its its' : List Value} {n : Nat} {f : Array Value → Array Value} {t' : Nat} (I : Inv X pins σ H s) (hH : H l = some (.lst xs))
  (e : s.heap.get? l = some { cls := .type "list", data := .seq its.toArray n }) (hf : f its.toArray = its'.toArray) (hv : Vals ys its') (hz : ys.length ≤ sizeLine) :
  Inv X pins σ (upd H l (.lst ys)) { s with heap := s.heap.update l (Obj.mapSeq f), toks := t' } := by
 have q := PySem.IsL.update e f
 rw [hf] at q
 refine I.write (x := l) (e := l) (by rw [hH]; exact trivial) (.inl rfl) (fun b' u hb hu => (Heap.get?_update_other s.heap (Obj.mapSeq f) (Ne.symm hb)).trans hu) ⟨_, q⟩ ?_
 exact ⟨hz, its', _, hv, q⟩
theorem Inv.lnew {its : List Value} {t' : Nat} (I : Inv X pins σ H s) (hv : Vals ys its) (hz : ys.length ≤ sizeLine) :
  Inv X pins σ (upd H s.heap.objs.size (.lst ys)) { s with heap := s.heap.push { cls := .type "list", data := .seq its.toArray }, toks := t' } :=
 I.laid (fun _ _ q => Heap.get?_push_of_some _ q) (Nat.le_refl _) ⟨hz, its, 0, hv, Heap.get?_push_size _ rfl⟩
theorem Inv.fresh (I : Inv X pins σ H s) : H s.heap.objs.size = none := I.hok.fresh (Nat.le_refl _)
theorem Inv.lstM (I : Inv X pins σ H s) (hH : H l = some (.lst xs)) : xs.length ≤ sizeLine ∧ ∃ (its : List Value) (n : Nat), Vals xs its ∧ xs.length = its.length ∧ s.heap.get? l = some { cls := .type "list", data := .seq its.toArray n } := by
 obtain ⟨z, its, n, r, e⟩ := I.hok l _ hH
 exact ⟨z, its, n, r, r.length, e⟩
theorem zv3 {n : Nat} (h : n ≤ sizeLine) : Builtin.List.listTooLong n = false := by
 unfold Builtin.List.listTooLong
 exact decide_eq_false (by omega)
end
section
variable {X : Cx}
def zj9 : V → List V → Hp → VK → Prop := fun x vs H Q => ∃ l xs y, x = .ref l ∧ vs = [y] ∧ H l = some (.lst xs) ∧ xs.length < sizeLine ∧ Q .non (upd H l (.lst (xs ++ [y])))
theorem z8l : MtM X "list.append" zj9 := by
 intro pins s σ H x vs v us Q I rx rv h
 obtain ⟨l, xs, y, rfl, rfl, hH, hz, q⟩ := h
 cases rx
 obtain ⟨u, rfl, ru⟩ := rv.one
 obtain ⟨z, its, n, r, hl, e⟩ := I.lstM hH
 refine call_meets F.slot_list_append ⟨_, e, rfl⟩ F.entry_list_append (F.args_list_append_2 _ _) (PySem.list_append l its.toArray n u (by rw [List.size_toArray]; omega)) ⟨e, ?_⟩
 refine ⟨.non, _, I.lset (its' := its ++ [u]) hH e (by simp) (r.append (.cons ru .nil)) ?_, rfl, q⟩
 rw [List.length_append, List.length_singleton]
 omega
def zj8 : V → List V → Hp → VK → Prop := fun x vs H Q => ∃ l b xs zs, x = .ref l ∧ vs = [.ref b] ∧ H l = some (.lst xs) ∧ H b = some (.lst zs) ∧ xs.length + zs.length ≤ sizeLine ∧ Q .non (upd H l (.lst (xs ++ zs)))
theorem zle : MtM X "list.extend" zj8 := by
 intro pins s σ H x vs v us Q I rx rv h
 obtain ⟨l, b, xs, zs, rfl, rfl, hH, hB, hz, q⟩ := h
 cases rx
 obtain ⟨u, rfl, ru⟩ := rv.one
 cases ru
 obtain ⟨z, its, n, r, hl, e⟩ := I.lstM hH
 obtain ⟨z2, its2, n2, r2, hl2, e2⟩ := I.lstM hB
 have hsz : its.toArray.size + its2.toArray.size ≤ sizeLine := by rw [List.size_toArray, List.size_toArray]; omega
 have hlong : ¬ (!its.toArray.isEmpty && Builtin.List.listTooLong (its.toArray.size + its2.toArray.size)) = true := by
  rw [zv3 hsz, Bool.and_false]
  exact Bool.false_ne_true
 refine call_meets F.slot_list_extend ⟨_, e, rfl⟩ F.entry_list_extend (F.args_list_extend_2 _ _)
  (AutoSeq1.list_extend_list_list_0 l its.toArray n b its2.toArray n2 hlong (by rw [List.size_toArray]; omega) (by omega)) ⟨e, e2, ?_⟩
 refine ⟨.non, _, I.lset (its' := its ++ its2) hH e (by simp) (r.append r2) ?_, rfl, q⟩
 rw [List.length_append]
 omega
def q22 : R2 := fun x y H Q => ∃ l b xs zs, x = .ref l ∧ y = .ref b ∧ H l = some (.lst xs) ∧ H b = some (.lst zs) ∧ xs.length + zs.length ≤ sizeLine ∧ ∀ p, H p = none → Q (.ref p) (upd H p (.lst (xs ++ zs)))
theorem q08 : OpR X (binaryOp .Add) q22 := by
 intro pins s σ H x y v u Q I rx ry h
 obtain ⟨l, b, xs, zs, rfl, rfl, hH, hB, hz, q⟩ := h
 cases rx
 cases ry
 obtain ⟨z, its, n, r, hl, e⟩ := I.lstM hH
 obtain ⟨z2, its2, n2, r2, hl2, e2⟩ := I.lstM hB
 refine PySem.P.add_list e e2 ?_ (by rw [List.size_toArray, List.size_toArray]; omega)
 have ea : its.toArray ++ its2.toArray = (its ++ its2).toArray := by simp
 rw [ea]
 exact ⟨.ref _, _, I.lnew (t' := s.toks) (r.append r2) (by rw [List.length_append]; omega), rfl, q _ I.fresh⟩
def q2p : R2 := fun x y H Q => ∃ l k xs, x = .ref l ∧ y = .int k ∧ H l = some (.lst xs) ∧ -(2 ^ 63) ≤ k ∧ k < 2 ^ 63 ∧ xs.length * k.toNat ≤ sizeLine ∧
 ∀ p, H p = none → Q (.ref p) (upd H p (.lst (List.replicate k.toNat xs).flatten))
theorem zxu {α : Type} (xs : List α) (k : Nat) : (List.replicate k xs).flatten.length = k * xs.length := by
 induction k with
 | zero => simp
 | succ k ih => rw [List.replicate_succ, List.flatten_cons, List.length_append, ih, Nat.succ_mul, Nat.add_comm]
end
section
variable {prog : Program} {w : World} {A : Around} {E : Value → Shared → Prop} {s : Shared}
end
section
variable {X : Cx}
end
end L2
namespace Att
open PySem PySem.W PySem.Calls PyProof.Rows
theorem zhd {P : Params} {h : Heap} : ∀ (ns : List Int) (vs : List Value), WellAll P h vs (ns.map WData.int) → IntsAre vs ns := by
 intro ns
 induction ns with
 | nil =>
  intro vs w
  rw [List.map_nil] at w
  cases w
  exact .nil
 | cons n ns ih =>
  intro vs w
  rw [List.map_cons] at w
  cases w with
  | cons a b =>
   cases a
   exact .cons _ _ (ih _ b)
theorem zr9 {l : OpenLaw} {n : Nat} (hn : l.most = some n) {P : Params} {h : Heap} {args : List WData} {vals : List Value}
  (hpre : l.row.toRowW.claim.pre args = true) (hwl : WellAll P h vals args) :
  ∃ a vs ns, vals = [Value.ref a] ∧ args = [WData.list (ns.map WData.int)] ∧ h.get? a = some { cls := .type "list", data := .seq vs.toArray } ∧ IntsAre vs ns ∧ ns.length ≤ n := by
 have hsh : WShape.hasAll [] args [.list .int] = true := (pre_splitW hpre).1
 have hc : l.pre.holds [] { args := args } = true := (pre_splitW hpre).2
 obtain ⟨d, r, rfl, h1, h2⟩ := hasAllW_cons hsh
 obtain rfl := hasAllW_nil h2
 obtain ⟨xs, rfl, h3⟩ := hasW_list h1
 obtain ⟨ns, rfl⟩ := items_int h3
 have hlen : ns.length ≤ n := by
  unfold OpenLaw.pre at hc
  have h4 : (WTm.not (.lt (.lit (.int (n : Int))) (.len (.arg 0)))).holds [] { args := [.list (ns.map .int)] } = true := by
   have h4 := (holds_andW hc).1
   rw [hn] at h4
   exact h4
  have h5 := condW_of h4 (w_not (w_lt w_lit (w_len_list (w_arg rfl))))
  rw [List.length_map] at h5
  refine Nat.le_of_not_lt fun q => ?_
  have q' : (n : Int) < ((ns.length : Nat) : Int) := by omega
  first
   | (rw [decide_eq_true q'] at h5; exact absurd h5 (by decide))
   | (simp at h5; omega)
 cases hwl with
 | cons w1 w2 =>
  cases w2
  cases w1 with
  | list ho hall => exact ⟨_, _, ns, rfl, rfl, ho, zhd ns _ hall, hlen⟩
theorem zrm (l : OpenLaw) (args : List WData) : l.row.toRowW.claim.post args (.bool true) args = true :=
 postW_of (r := l.row.toRowW) (X := (true == true))
  (show WShape.has [] (.bool true) .bool = true by first | rfl | decide | simp [WShape.has, WShape.arms, WShape.armsAll])
  (show (WTm.eq .res (.lit (.bool true))).value [] { args := args, res := some (.bool true), after := args } = some (.bool (true == true)) from w_eq_bool (w_res rfl) w_lit) rfl
theorem zhy {l : OpenLaw} {n : Nat} {q : Program} {loose : List Str} {XP : (Str → Option Value) → Heap → Prop} {YP : World → Heap → Prop} {d : DefRec}
  (hn : l.most = some n) (hdf : d.params.defaults = [])
  (call : ∀ (w : World) (s₀ s₁ : Shared) (mg mb : Str → Option Value) (fa : Addr) (o : Obj) (pm cd doc : Value) (a : Addr) (vs : List Value) (ns : List Int),
   Ground q loose [] XP w s₀ mg mb s₁.heap → YP w s₁.heap →
   s₁.heap.get? fa = some o → o.data = .func (docDef d.name d.params d.body d.scope pm cd doc) → s₁.heap.CodeRec cd d.name → mg d.name = some (.ref fa) →
   s₁.heap.get? a = some { cls := .type "list", data := .seq vs.toArray } → IntsAre vs ns → ns.length ≤ n → s₁.gens = #[] →
   codeAny (model l.prog w) callerA (.call (.ref fa) ⟨[.ref a], []⟩) (fun r s' => r = .ok (.ret (.bool true)) ∧ OldK s₁.heap s'.heap ∧ s'.os = s₁.os ∧ AllBare s'.gens) s₁) :
  WalkO q loose XP YP l.row.toRowW d [] (fun f vs => PySem.call f vs) := by
 intro w s₀ s₁ mg mb G Y fa o pm cd doc dV kV ho hd hcd hD hmg hg args vals as hpre hlay hrd hwl hlo
 obtain rfl : dV = .none := Dflts.none hD hdf
 obtain rfl : kV = .none := Dflts.noKw hD
 obtain ⟨a, vs, ns, rfl, rfl, hobj, hints, hlen⟩ := zr9 hn hpre hwl
 refine enter_call (codeAny_mono (call w s₀ s₁ mg mb fa o pm cd doc a vs ns G Y ho (fd_plain hd) hcd hmg hobj hints hlen hg) fun r s' hq => ?_)
 obtain ⟨rfl, h2, h3, h4⟩ := hq
 exact ⟨.inl ⟨.bool true, .bool true, [], rfl, fun _ => rfl, .bool true, zrm l _, fun _ => ⟨List.Pairwise.nil, fun _ hm => (nomatch hm)⟩⟩, h2, h3, h4⟩
section
variable {prog : Program} {w : World} {A : Around} {E : Value → Shared → Prop} {s : Shared} {K : Frag}
def q3m (h : Heap) (L d : Addr) : List (Addr × Obj) := (List.range h.objs.size).filterMap fun a => if a = L ∨ a = d then none else (h.get? a).map fun o => (a, o)
end
end Att
namespace L2
open PySem PySem.Spec PyProof.Rows
theorem zgl : ∀ {vs : List Value} {ns : List Int}, IntsAre vs ns → Vals (ns.map V.int) vs
 | _, _, .nil => .nil
 | _, _, .cons n t h => .cons ⟨t, rfl⟩ (zgl h)
def q37 (H : Hp) : Prop := ∀ b, H b = none ∨ ∃ o xs, H b = some (.frz o (.lst xs))
theorem zv8 {P : Program} {w : World} {K : PySem.W.Frag} {mg mb : Str → Option Value} {CX : CXT} {k : Nat} {fa a : Addr} {fd : FuncData} {x : Str} {sp : Sp} {s₁ : Shared} {vs : List Value} {ns : List Int}
  (KX : K.In s₁.heap) (hns : s₁.heap.Ns mainGlobals mg) (hb : s₁.heap.Ns builtinsNs mb) (hbb : ∀ x : Str, x ≠ "__name__" → mb x = bootBuiltins x) (hlim : s₁.heap.NoLimit) (hg : s₁.gens = #[])
  (ha : s₁.heap.get? a = some { cls := .type "list", data := .seq vs.toArray }) (hi : IntsAre vs ns) (hl : ns.length ≤ sizeLine) (hr : Room k callerA)
  (F : ∀ base : Heap, K.In base → base.Ns mainGlobals mg → FnOk P w K mg base CX k fa fd [x] sp) (hbind : ∀ (s : Shared) (u : Value), BindsTo s fd ⟨[u], []⟩ [(x, u)])
  (hsp : ∀ H : Hp, q37 H → SqL K H a (ns.map V.int) → sp [.ref a] H (fun v _ => v = .bl true) fun _ _ _ => False)
  (hCX : ∀ H e s', CX [] H s₁ (fun _ _ _ => False) e s' → False) :
  codeAny (model P w) callerA (.call (.ref fa) ⟨[.ref a], []⟩) (fun r s' => r = .ok (.ret (.bool true)) ∧ OldK s₁.heap s'.heap ∧ s'.os = s₁.os ∧ AllBare s'.gens) s₁ := by
 have rv := zgl hi
 have lenV := hi.length
 have core : ∀ H : Hp, q37 H → SqL K H a (ns.map V.int) → HOk P w H s₁.heap → (∀ b, H b ≠ none → b = a) → (H a ≠ none → K.lookup a = none) →
   codeAny (model P w) callerA (.call (.ref fa) ⟨[.ref a], []⟩) (fun r s' => r = .ok (.ret (.bool true)) ∧ OldK s₁.heap s'.heap ∧ s'.os = s₁.os ∧ AllBare s'.gens) s₁ := by
  intro H hO hS hok hA hK
  have base_of : ∀ {b : Addr} {o : Obj}, s₁.heap.get? b = some o → H b = none → (znq s₁.heap H).get? b = some o := fun e n => zox e n
  have noA : ∀ {b : Addr} {o : Obj} {es : Array DictEntry} {ep : Nat}, s₁.heap.get? b = some o → o.data = .dict es ep → H b = none := fun {b o es ep} e d => by
   cases q : H b with
   | none => rfl
   | some u =>
    have e' : b = a := hA b (by rw [q]; simp)
    subst e'
    rw [ha] at e; cases e
    have d' : Data.seq vs.toArray _ = Data.dict es ep := d
    cases d'
  have nsK : ∀ {b : Addr} {m : Str → Option Value}, s₁.heap.Ns b m → (znq s₁.heap H).Ns b m := fun {b m} ⟨o, es, ep, e, d, r⟩ => ⟨o, es, ep, base_of e (noA e d), d, r⟩
  have hKb : K.In (znq s₁.heap H) := fun b o e => base_of (KX b o e) (by
   cases q : H b with
   | none => rfl
   | some u =>
    have e' : b = a := hA b (by rw [q]; simp)
    subst e'
    rw [hK (by rw [q]; simp)] at e; cases e)
  have hM : Mod K mg (znq s₁.heap H) := ⟨hKb, nsK hns, ⟨mb, nsK hb, hbb⟩, let ⟨mc, h1, h2⟩ := hlim; ⟨mc, nsK h1, h2⟩⟩
  have e0 : Env0 P w K mg (znq s₁.heap H) callerA [] s₁ H := ⟨rfl, hM, fun b o e => zs7 e, Nat.le_of_eq (zln _ _), trivial, fun b hb => absurd (show b ∈ ([] : List Addr) from hb) (by simp), hok, .of_eq hg⟩
  refine codeAny_mono ((F _ hKb (nsK hns)).run callerA [] s₁ H ⟨[.ref a], []⟩ [.ref a] [.ref a] _ _ hr e0 (hbind s₁ (.ref a)) (.cons rfl .nil) (hsp H hO hS)) fun r s' h => ?_
  cases r with
  | error e => exact (hCX H e s' h).elim
  | ok fl =>
   cases fl with
   | next => exact False.elim h
   | brk => exact False.elim h
   | cont => exact False.elim h
   | ret u =>
    obtain ⟨v, H', os, bare, un, hok', r', q⟩ := h
    have q' : v = .bl true := q
    subst q'
    obtain rfl : u = Value.bool true := r'
    refine ⟨rfl, OldK.of_keep fun b o e => ?_, os, bare⟩
    cases q : H b with
    | none => exact un.keep b o e q (by intro z; exact absurd (show b ∈ ([] : List Addr) from z) (by simp)) (by simp)
    | some u =>
     rcases hO b with z | ⟨ob, xs, z⟩
     ·rw [q] at z; cases z
     ·have z2 := un.frzs b ob _ z
      obtain ⟨e1, _⟩ := hok b _ z
      obtain ⟨e2, _⟩ := hok' b _ z2
      rw [e] at e1; cases e1
      exact e2
 cases hk : K.lookup a with
 | some o =>
  have e := KX a o hk
  rw [ha] at e
  cases e
  refine core (fun _ => none) (fun _ => .inl rfl) (.inr ⟨_, vs.toArray, _, hk, rfl, rfl, rfl, by rw [List.size_toArray, lenV]; exact hl, by simpa using rv⟩) (fun b u z => by have z' : (none : Option HO) = some u := z; cases z') (fun b z => absurd rfl z) fun z => absurd rfl z
 | none =>
  refine core (fun b => if b = a then some (.frz { cls := .type "list", data := .seq vs.toArray } (.lst (ns.map V.int))) else none) (fun b => ?_) (.inl (.inr ⟨{ cls := .type "list", data := .seq vs.toArray }, if_pos rfl⟩)) (fun b u z => ?_) (fun b z => ?_) fun _ => hk
  ·by_cases hb : b = a
   ·exact .inr ⟨_, _, if_pos hb⟩
   ·exact .inl (if_neg hb)
  ·by_cases hb : b = a
   ·have z' := (if_pos hb).symm.trans z
    cases z'
    subst hb
    exact ⟨ha, by rw [List.length_map]; exact hl, vs, _, rv, ha⟩
   ·have z' := (if_neg hb).symm.trans z
    cases z'
  ·by_cases hb : b = a
   ·exact hb
   ·exact absurd (if_neg hb) z
end L2
namespace L2
open PySem PySem.Spec PyProof.Rows
abbrev KOf {K : PySem.W.Frag} {h : Heap} (_ : K.In h) : PySem.W.Frag := K
theorem q2f {l : PySem.W.OpenLaw} {n k : Nat} {q : Program} {loose : List Str} {XP : (Str → Option Value) → Heap → Prop} {YP : World → Heap → Prop} {d : DefRec} {K : Params → PySem.W.Frag} {CX : World → CXT} {sp : World → Sp} {x : Str}
  (hn : l.most = some n) (hn2 : n ≤ sizeLine) (hdf : d.params.defaults = []) (hr : Room k callerA)
  (hY : ∀ (w : World) (h : Heap), YP w h → (K w.params).In h)
  (F : ∀ (w : World) (mg : Str → Option Value) (fa : Addr) (h : Heap), (K w.params).In h → h.Ns mainGlobals mg → mg d.name = some (.ref fa) →
   ∃ fd : FuncData, (∀ (s : Shared) (u : Value), BindsTo s fd ⟨[u], []⟩ [(x, u)]) ∧
    ∀ base : Heap, (K w.params).In base → base.Ns mainGlobals mg → FnOk l.prog w (K w.params) mg base (CX w) k fa fd [x] (sp w))
  (hsp : ∀ (w : World) (H : Hp) (a : Addr) (ns : List Int), ns.length ≤ n → q37 H → SqL (K w.params) H a (ns.map V.int) → sp w [.ref a] H (fun v _ => v = .bl true) fun _ _ _ => False)
  (hCX : ∀ (w : World) (H : Hp) (s : Shared) (e : Value) (s' : Shared), CX w [] H s (fun _ _ _ => False) e s' → False) :
  PySem.W.WalkO q loose XP YP l.row.toRowW d [] (fun f vs => PySem.call f vs) := by
 refine Att.zhy hn hdf fun w s₀ s₁ mg mb fa o pm cd doc a vs ns G Y ho hd hcd hmg hobj hints hlen hg => ?_
 have KX := hY w _ Y
 obtain ⟨fd, hb, hF⟩ := F w mg fa _ KX G.T.g hmg
 exact zv8 KX G.T.g G.T.b G.T.builtins G.T.nolimit hg hobj hints (Nat.le_trans hlen hn2) hr hF hb (fun H hO hS => hsp w H a ns hlen hO hS) fun H e s' => hCX w H s₁ e s'
end L2
namespace L2
open PySem PySem.Spec PyProof.Rows
def defArgs (s : Stmt) : Arguments := match s with
 | .FunctionDef _ a _ _ _ _ _ _ _ _ => a
 | _ => { posonlyargs := [], args := [], vararg := none, kwonlyargs := [], kw_defaults := [], kwarg := none, defaults := [] }
def defBody (s : Stmt) : List Stmt := match s with
 | .FunctionDef _ _ b _ _ _ _ _ _ _ => b
 | _ => []
def defScope (s : Stmt) : Scope := match s with
 | .FunctionDef _ _ _ _ _ _ sc _ _ _ => sc
 | _ => { kind := .function, names := [], isGenerator := false, isCoroutine := false }
abbrev CX0 : CXT := fun _ _ _ _ _ _ => False
abbrev E0 : XK := fun _ _ _ => False
structure Fun (K : PySem.W.Frag) (x qual : Str) (st : Stmt) (f : Addr) (fd : FuncData) : Prop where
 ex : ∃ (oc : Value) (od : Option Addr) (kV doc pm : Value) (an : Option Addr) (cdv ct : Value) (osl : Array (Option Value)),
  fd = PySem.W.fnOf x qual (defArgs st) (defBody st) (defScope st) .none kV doc pm an cdv ct ∧ K.lookup f = some ⟨oc, od, .func fd, osl⟩ ∧ PySem.W.codeIn K cdv qual = true
 kp : PySem.W.keepIn K (.ref f) = true
section
variable {P : Program} {w : World} {K : PySem.W.Frag} {mg : Str → Option Value} {base : Heap}
theorem Fun.ok {x qual : Str} {st : Stmt} {f : Addr} {fd : FuncData} {N ps : List Str} {k : Nat} {sp : Sp} (F : Fun K x qual st f fd) (S : FnScope N ps (defScope st)) (len : ∀ vs H Q E, sp vs H Q E → vs.length = ps.length)
  (hbody : ∀ (cdv : Value) (A : Around) (outer : List Env) (s : Shared) (H : Hp) (vs : List V) (Q : VK) (E : XK), Room k (A.deeper (envOfC qual (defScope st) s.heap.objs.size f cdv)) → sp vs H Q E →
   ∃ t, PSs (zkf CX0 P w K mg base N qual (defScope st) f cdv A outer s H E).nox (defBody st) t ∧ t { nx := fun _ H' => Q .non H', rt := Q } (start N vs) H) : FnOk P w K mg base CX0 (k + 1) f fd ps sp := by
 obtain ⟨oc, od, kV, doc, pm, an, cdv, ct, osl, rfl, lk, hcd⟩ := F.ex
 refine q0x lk hcd S len fun A outer s H vs Q E hr hsp => ?_
 obtain ⟨t, h, q⟩ := hbody cdv A outer s H vs Q E hr hsp
 exact ⟨t, h.nox, q⟩
theorem Fun.binds {x qual : Str} {st : Stmt} {f : Addr} {fd : FuncData} {ps : List Str} (F : Fun K x qual st f fd)
  (h : ∀ (kV doc pm : Value) (an : Option Addr) (cdv ct : Value) (us : List Value), us.length = ps.length → bindArgs (PySem.W.fnOf x qual (defArgs st) (defBody st) (defScope st) .none kV doc pm an cdv ct) ⟨us, []⟩ = pure (ps.zip us)) : Binds K fd ps [] := by
 obtain ⟨oc, od, kV, doc, pm, an, cdv, ct, osl, rfl, lk, hcd⟩ := F.ex
 exact .all (h kV doc pm an cdv ct)
theorem z2g {x qual : Str} {st : Stmt} {f : Addr} {oc : Value} {od an : Option Addr} {osl : Array (Option Value)} {kV doc pm cdv ct : Value} (l : K.lookup f = some ⟨oc, od, .func (PySem.W.fnOf x qual (defArgs st) (defBody st) (defScope st) .none kV doc pm an cdv ct), osl⟩)
  (c : PySem.W.codeIn K cdv qual = true) (k : PySem.W.keepIn K (.ref f) = true) : Fun K x qual st f (PySem.W.fnOf x qual (defArgs st) (defBody st) (defScope st) .none kV doc pm an cdv ct) := ⟨⟨oc, od, kV, doc, pm, an, cdv, ct, osl, rfl, l, c⟩, k⟩
end
theorem z3w {n : Nat} (h : n ≤ 1000) : n < sizeLine := Nat.lt_of_le_of_lt h (by decide)
section
variable {X : Cx}
theorem pv (i : Nat) {x : Str} {pos : Pos} (hN : X.N[i]? = some x := by rfl) (hv : Vis X.env.scope x := by first | exact Or.inl rfl | exact Or.inr (Or.inl rfl) | exact Or.inr (Or.inr rfl)) (hd : (x == ("__debug__" : Str)) = false := by decide)
  (hcd : (x == ("__classdict__" : Str)) = false := by decide) : PE X (.Name x pos) (ztz i) := z00 hN hv hd hcd
end
def Same (H H' : Hp) : Prop := ∀ b o, H b = some o → H' b = some o
theorem Same.refl (H : Hp) : Same H H := fun _ _ h => h
theorem Same.trans {H H1 H2 : Hp} (a : Same H H1) (b : Same H1 H2) : Same H H2 := fun c o h => b c o (a c o h)
theorem Same.free {H H' : Hp} (e : Same H H') {l : Addr} (h : H' l = Option.none) : H l = Option.none := by
 cases q : H l with
 | none => rfl
 | some o =>
  rw [e l o q] at h
  cases h
theorem Same.seq {K : PySem.W.Frag} {H H' : Hp} {a : Addr} {xs : List V} (e : Same H H') (h : SqL K H a xs) : SqL K H' a xs := by
 rcases h with (h | ⟨o, h⟩) | h
 ·exact .inl (.inl (e _ _ h))
 ·exact .inl (.inr ⟨o, e _ _ h⟩)
 ·exact .inr h
end L2
set_option Elab.async false
set_option linter.all false
set_option maxRecDepth 100000
namespace L2
open PySem PySem.Spec PyProof.Rows
theorem zo1 (env : Env) : ∀ (names : List (Str × NameKind)) (acc : List (Str × Addr)), (∀ y ∈ names, y.2 = .free → ∃ c, env.cells.lookup y.1 = some c) → (∀ x c, acc.lookup x = some c → env.cells.lookup x = some c) →
  ∃ cl, (forIn names acc fun (p : Str × NameKind) (r : List (Str × Addr)) => (match p with | (name, kind) => if (kind == NameKind.free) = true then (do let c ← cellOf env name; pure (ForInStep.yield ((name, c) :: r))) else pure (ForInStep.yield r)) : Sem (List (Str × Addr))) = pure cl ∧
   (∀ x c, cl.lookup x = some c → env.cells.lookup x = some c) ∧ (∀ x, (∃ c, acc.lookup x = some c) → ∃ c, cl.lookup x = some c) ∧ (∀ y ∈ names, y.2 = .free → ∃ c, cl.lookup y.1 = some c)
 | [], acc, _, ha => ⟨acc, by simp, ha, fun _ h => h, fun _ h => absurd h (by simp)⟩
 | (n, k) :: r, acc, hn, ha => by
  by_cases hk : k = .free
  ·obtain ⟨c, hc⟩ := hn (n, k) List.mem_cons_self hk
   have ha' : ∀ x c', ((n, c) :: acc).lookup x = some c' → env.cells.lookup x = some c' := fun x c' h => by
    by_cases hx : x = n
    ·subst hx
     rw [List.lookup_cons_self] at h
     cases h; exact hc
    ·have hx' : (x == n) = false := by simpa using hx
     simp only [List.lookup_cons, hx'] at h
     exact ha x c' h
   obtain ⟨cl, e, p1, p2, p3⟩ := zo1 env r ((n, c) :: acc) (fun y hy => hn y (List.mem_cons_of_mem _ hy)) ha'
   refine ⟨cl, ?_, p1, fun x ⟨c', hc'⟩ => p2 x ?_, fun y hy hf => ?_⟩
   ·have hco : cellOf env n = pure c := by unfold cellOf; rw [hc]
    rw [List.forIn_cons]
    subst hk
    simp only [beq_self_eq_true, if_true, hco, pure_bind]
    exact e
   ·by_cases hx : x = n
    ·exact ⟨c, by subst hx; rw [List.lookup_cons_self]⟩
    ·have hx' : (x == n) = false := by simpa using hx
     exact ⟨c', by simp only [List.lookup_cons, hx']; exact hc'⟩
   ·rcases List.mem_cons.mp hy with rfl | hy
    ·exact p2 _ ⟨c, by rw [List.lookup_cons_self]⟩
    ·exact p3 y hy hf
  ·obtain ⟨cl, e, p1, p2, p3⟩ := zo1 env r acc (fun y hy => hn y (List.mem_cons_of_mem _ hy)) ha
   refine ⟨cl, ?_, p1, p2, fun y hy hf => ?_⟩
   ·have hb : (k == NameKind.free) = false := by simpa using hk
    rw [List.forIn_cons]
    simp only [hb, Bool.false_eq_true, if_false, pure_bind]
    exact e
   ·rcases List.mem_cons.mp hy with rfl | hy
    ·exact absurd hf hk
    ·exact p3 y hy hf
theorem ztk {scope : Scope} {env : Env} (h : ∀ y ∈ scope.names, y.2 = .free → ∃ c, env.cells.lookup y.1 = some c) :
  ∃ cl, closureFor scope env = pure cl ∧ (∀ x c, cl.lookup x = some c → env.cells.lookup x = some c) ∧ (∀ y ∈ scope.names, y.2 = .free → ∃ c, cl.lookup y.1 = some c) := by
 obtain ⟨cl, e, p1, _, p3⟩ := zo1 env scope.names [] h (fun x c q => by simp at q)
 refine ⟨cl, ?_, p1, p3⟩
 unfold closureFor
 simp only [bind_pure]
 exact e
theorem z81 {env : Env} : ∀ {names : List (Str × NameKind)} {x : Str} {k : NameKind}, (names.map fun (n, k) => if (k == NameKind.free && env.scope.kind == .function && env.kindOf n == some .cell) then (n, NameKind.cell) else (n, k)).lookup x = some k →
  (∀ y ∈ names, y.2 ≠ .cell) → k = .cell ∨ k = .free → names.lookup x = some .free
 | [], _, _, h, _, _ => by simp at h
 | (n, k0) :: r, x, k, h, hc, hk => by
  have ih := @z81 env r x k
  rw [List.map_cons] at h
  cases hx : x == n with
  | true =>
   have hn : k0 ≠ .cell := hc (n, k0) List.mem_cons_self
   simp only [List.lookup_cons, hx]
   by_cases hcnd : (k0 == NameKind.free && env.scope.kind == .function && env.kindOf n == some .cell) = true
   ·have : k0 = .free := by
     simp only [Bool.and_eq_true, beq_iff_eq] at hcnd
     exact hcnd.1.1
    rw [this]
   ·dsimp only at h
    rw [if_neg hcnd] at h
    simp only [List.lookup_cons, hx] at h
    have h : k0 = k := by simpa using h
    subst h
    rcases hk with hk | hk
    ·exact absurd hk hn
    ·rw [hk]
  | false =>
   simp only [List.lookup_cons, hx]
   refine ih ?_ (fun y hy => hc y (List.mem_cons_of_mem _ hy)) hk
   by_cases hcnd : (k0 == NameKind.free && env.scope.kind == .function && env.kindOf n == some .cell) = true
   ·dsimp only at h
    rw [if_pos hcnd] at h
    simp only [List.lookup_cons, hx] at h; exact h
   ·dsimp only at h
    rw [if_neg hcnd] at h
    simp only [List.lookup_cons, hx] at h; exact h
def z52 (X : Cx) (N' : List Str) (scope : Scope) (cl : List (Str × Addr)) (C : Addr) (s₀ : Shared) (H₀ : Hp) (ex : List Addr) : Cx :=
 { X with N := N', s₀ := s₀, H₀ := H₀, env := compEnvC scope cl C X.env, outer := X.stack, stack := X.stack, ex := ex, fn := fun _ => false, pn := [], xe := fun _ _ => False }
def subσ (mp : List (Option Nat)) (σ : St) : St := mp.map fun o => match o with | none => none | some i => (σ[i]?).getD none
def compOk (N : List Str) (on inn : List (Str × NameKind)) (N' : List Str) (mp : List (Option Nat)) : Bool :=
 mp.length == N'.length && (N'.zip mp).all fun p => match p.2 with
  | none => true
  | some i => N[i]? == some p.1 && inn.lookup p.1 == some .free && on.lookup p.1 == some .cell
def PIf (X : Cx) (ifs : List Expr) (t : TT) : Prop :=
 ∀ (pins : List (Addr × Obj)) (s : Shared) (σ : St) (H : Hp) (Q : Bool → Hp → Prop), Inv X pins σ H s → t σ H Q →
  wpAny (model X.prog X.w) X.A (forIn ifs true fun c r => if r = true then do let ok ← isTrue c X.env (eval c X.env); pure (ForInStep.yield ok) else pure (ForInStep.yield r)) (TP X pins σ Q) X.xe s
def zzf : TT := fun _ H Q => Q true H
theorem zex {X : Cx} : PIf X [] zzf := fun pins s σ H Q I h => wpAny_tests_nil ⟨H, I, h⟩
theorem zn3 {X : Cx} {c : Expr} {t : TT} (h : PT X c t) : PIf X [c] t := fun pins s σ H Q I q => wpAny_tests_one (h pins s σ H Q I q)
theorem zti {prog : Program} {w : World} {A : Around} {s : Shared} {elt target iter : PySem.Expr} {ifs : List PySem.Expr} {scope : Scope} {pos : Pos} {it acc : Value} {env : Env} {R : Result → Shared → Prop} (I : Nat → Shared → Prop)
  (turn : ∀ n s, I n s → wpAny (model prog w) A (pyNext it) (fun r s₁ => match r with
   | none => R (.ok .next) s₁
   | some v => wpAny (model prog w) A (letOwnedTupleGo target it v) (fun _ s₀ => wpAny (model prog w) A (assign target env v) (fun _ s₂ =>
     wpAny (model prog w) A (forIn ifs true fun c r => if r = true then do let ok ← isTrue c env (eval c env); pure (ForInStep.yield ok) else pure (ForInStep.yield r)) (fun ok s₃ => if ok = true then wpAny (model prog w) A (eval elt env) (fun x s₄ =>
      wpAny (model prog w) A (call (.builtin "list.append") [acc, x]) (fun _ s₅ => ∃ m, m < n ∧ I m s₅) (fun _ _ => False) s₄) (fun _ _ => False) s₃
      else ∃ m, m < n ∧ I m s₃) (fun _ _ => False) s₂)
     (fun _ _ => False) s₀) (fun _ _ => False) s₁) (fun _ _ => False) s)
  (n : Nat) (h : I n s) : codeAny (model prog w) A (.compLoop (.ListComp elt [⟨target, iter, ifs, 0⟩] scope pos) 0 it acc env) R s := by
 refine codeAny_loop rfl I (fun n s hI => ?_) n h
 show wpAny _ A ((compTurn (.ListComp elt [⟨target, iter, ifs, 0⟩] scope pos) 0 it acc env).onRaise (fun x => do noteFrame x env; theTreesLotGoes x)) _ _ s
 refine wpAny_noted ?_
 rw [compTurn_list]
 refine wpAny_bind (wpAny_standAt (wpAny_bind (wpAny_mono (turn n s hI) (fun r s₁ h₁ => ?_) fun _ _ h' => h'.elim)))
 cases r with
 | none => exact wpAny_pure h₁
 | some v =>
  refine wpAny_bind (wpAny_mono h₁ (fun _ s₀ h₀' => ?_) fun _ _ h' => h'.elim)
  refine wpAny_bind (wpAny_mono h₀' (fun _ s₂ h₂ => ?_) fun _ _ h' => h'.elim)
  refine wpAny_bind (wpAny_mono h₂ (fun okb s₃ h₃ => ?_) fun _ _ h' => h'.elim)
  cases okb with
  | false => exact wpAny_pure ⟨rfl, h₃⟩
  | true => exact wpAny_bind (wpAny_bind (wpAny_mono h₃ (fun x s₄ h₄ => wpAny_bind (wpAny_mono h₄ (fun _ s₅ h₅ => wpAny_pure (wpAny_pure ⟨rfl, h₅⟩)) fun _ _ h' => h'.elim)) fun _ _ h' => h'.elim))
theorem Inv.track {X : Cx} {pins : List (Addr × Obj)} {σ : St} {H : Hp} {s : Shared} {a : Addr} {o : HO} (I : Inv X pins σ H s) (hn : H a = none) (f : FpOk X pins H a) (new : ObjOk X.prog X.w (upd H a o) s.heap a o) : Inv X pins σ (upd H a o) s := by
 obtain ⟨_, f1, f2, f3, f4, f5⟩ := f
 have na : ∀ b u, H b = some u → b ≠ a := fun b u e => z12 e hn
 have J := I.step (g' := s.gens) (t' := s.toks) (d' := s.drawn) (ch := [a]) (h' := s.heap) (H' := upd H a o) (fun b hb => by
   have e : b = a := by simpa using hb
   subst e
   exact ⟨f3, f1, f4, f5⟩) (fun b o _ _ _ e _ => e) (fun b o _ _ _ e _ => ⟨o.slots, e⟩) (fun b o hb _ n => by rw [z0q (by simpa using hb)]; exact n) (fun b o _ e => ⟨o, e⟩)
  (fun b xs e => by rw [z0q (na b _ e)]; exact e) (fun b o u e => by rw [z0q (na b _ e)]; exact e) (fun b ps e => ⟨#[], by rw [z0q (na b _ e), e]; simp⟩) (fun m hm => hm) (fun b u e => by
   by_cases hb : b = a
   ·subst hb; rw [z02] at e; cases e; exact new
   ·rw [z0q hb] at e
    exact (I.hok b u e).stay (fun c v _ q => q) (fun c q => by rw [z0q (na c _ q)]; exact q) fun c xs q => by rw [z0q (na c _ q)]; exact q) I.bare
 exact J
def zj0 (wi : TI) (g : TG) (tt : TT) (te : TE) (mp : List (Option Nat)) : TE := fun σ H Q => wi σ H fun J H1 => ∃ W : Nat → Nat → List V → St → Hp → Prop, (∃ m, W 0 m [] (subσ mp σ) H1) ∧ ∀ i m ys σ H, W i m ys σ H →
 (J.stop i H ∧ ys.length ≤ sizeLine ∧ ∀ p, H p = none → Q (.ref p) (upd H p (.lst ys))) ∨ (J.go i H ∧ ys.length < sizeLine ∧ ∃ N : List V → St → Hp → Prop, (∀ ys' σ' H', N ys' σ' H' → ∃ m', m' < m ∧ W (i + 1) m' ys' σ' H') ∧ ∀ x H', J.yld i H x H' → g x σ H' fun σ2 H2 => tt σ2 H2 fun b H3 =>
  if b = true then te σ2 H3 (fun v H4 => N (ys ++ [v]) σ2 H4) else N ys σ2 H3)
structure CompS (X : Cx) (N' : List Str) (scope : Scope) (mp : List (Option Nat)) : Prop where
 kind : scope.kind = .function
 nocell : ∀ y ∈ scope.names, y.2 ≠ .cell
 locs : ∀ y ∈ scope.names, y.2 = .local → scope.names.lookup y.1 = some .local
 frees : ∀ y ∈ scope.names, y.2 = .free → X.env.scope.names.lookup y.1 = some .cell
 ok : compOk X.N X.env.scope.names scope.names N' mp = true
theorem zqf {N : List Str} {on inn : List (Str × NameKind)} {N' : List Str} {mp : List (Option Nat)} (h : compOk N on inn N' mp = true) : mp.length = N'.length ∧ ∀ (j : Nat) (x : Str) (i : Nat), N'[j]? = some x → mp[j]? = some (some i) → N[i]? = some x ∧ inn.lookup x = some .free ∧ on.lookup x = some .cell := by
 unfold compOk at h
 rw [Bool.and_eq_true] at h
 obtain ⟨h1, h2⟩ := h
 refine ⟨by simpa using h1, fun j x i e1 e2 => ?_⟩
 have hm : (x, some i) ∈ N'.zip mp := by
  refine List.mem_of_getElem? (i := j) ?_
  rw [List.getElem?_zip_eq_some]
  exact ⟨e1, e2⟩
 have q := List.all_eq_true.mp h2 _ hm
 simp only [Bool.and_eq_true, beq_iff_eq] at q
 exact ⟨q.1.1, q.1.2, q.2⟩
theorem subσ_get {mp : List (Option Nat)} {σ : St} {j : Nat} {v : V} (h : (subσ mp σ)[j]? = some (some v)) : ∃ i, mp[j]? = some (some i) ∧ σ[i]? = some (some v) := by
 unfold subσ at h
 rw [List.getElem?_map] at h
 cases e : mp[j]? with
 | none => rw [e] at h; cases h
 | some o =>
  rw [e] at h
  cases o with
  | none => simp at h
  | some i =>
   refine ⟨i, rfl, ?_⟩
   cases e2 : σ[i]? with
   | none => simp [e2] at h
   | some z =>
    simp [e2] at h
    rw [h]
section
variable {X : Cx} {pins : List (Addr × Obj)} {σ : St} {H : Hp}
theorem zm9 {elt tg iter : Expr} {ifs : List Expr} {scope : Scope} {pos : Pos} {N' : List Str} {mp : List (Option Nat)} {g : TG} {tt : TT} {te : TE} {s₂ : Shared} {it : Addr} {fp : List Addr} {tn : Nat → Heap → Prop} {J : It} {cl : List (Str × Addr)}
  {Qe : V → Hp → Prop} {RR : Value → Addr → Result → Shared → Prop} {E : Value → Shared → Prop} (hc : X.calm = true) (S : CompS X N' scope mp)
  (hcl : ∀ x c, cl.lookup x = some c → X.env.cells.lookup x = some c) (hcf : ∀ y ∈ scope.names, y.2 = .free → ∃ c, cl.lookup y.1 = some c)
  (hg : ∀ C s₀ H₀ ex, PG (z52 X N' scope cl C s₀ H₀ ex) tg g) (ht : ∀ C s₀ H₀ ex, PIf (z52 X N' scope cl C s₀ H₀ ex) ifs tt) (he : ∀ C s₀ H₀ ex, PE (z52 X N' scope cl C s₀ H₀ ex) elt te)
  (I : Inv X pins σ H s₂) (T : Turn X.prog X.w X.K tg J fp it tn) (st : tn 0 s₂.heap) (hf : ∀ b ∈ fp, FpOk X pins H b)
  (hw : ∃ W : Nat → Nat → List V → St → Hp → Prop, (∃ m, W 0 m [] (subσ mp σ) H) ∧ ∀ i m ys σ H, W i m ys σ H →
   (J.stop i H ∧ ys.length ≤ sizeLine ∧ ∀ p, H p = none → Qe (.ref p) (upd H p (.lst ys))) ∨ (J.go i H ∧ ys.length < sizeLine ∧ ∃ N : List V → St → Hp → Prop, (∀ ys' σ' H', N ys' σ' H' → ∃ m', m' < m ∧ W (i + 1) m' ys' σ' H') ∧ ∀ x H', J.yld i H x H' → g x σ H' fun σ2 H2 => tt σ2 H2 fun b H3 =>
  if b = true then te σ2 H3 (fun v H4 => N (ys ++ [v]) σ2 H4) else N ys σ2 H3))
  (hR : ∀ (D C : Addr) (H' : Hp) (s' : Shared), Inv X pins σ H' s' → Qe (.ref D) H' → (∃ m, s'.heap.Ns C m) → FpOk X pins H' C → RR (.ref D) C (.ok .next) s') :
  wpAny (model X.prog X.w) X.A (newList []) (fun acc s₃ => wpAny (model X.prog X.w) X.A (newFunctionEnv scope X.env.globals cl [] X.env.qual none .none (some X.env)) (fun cenv s₄ =>
   codeAny (model X.prog X.w) X.A (.compStart (.ListComp elt [⟨tg, iter, ifs, 0⟩] scope pos) 0 (.ref it) acc { cenv with scope := relabel scope X.env }) (RR acc cenv.locals) s₄) E s₃) E s₂ := by
 obtain ⟨W, ⟨m0, w0⟩, turn⟩ := hw
 refine wpAny_newObj_type (wpAny_newFunctionEnv S.nocell (by intro y hy; simp at hy) (fun h₁ hns₁ hsb₁ => ?_) S.kind)
 dsimp only at hns₁ hsb₁ ⊢
 generalize hH2 : s₂.heap.push { cls := .type "list", dict := none, data := .seq ([] : List Value).toArray } = H2 at hns₁ hsb₁ ⊢
 have hCs : H2.objs.size = s₂.heap.objs.size + 1 := by rw [← hH2, Heap.size_push]
 have I3 : Inv X pins σ H { s₂ with heap := H2 } := by
  rw [← hH2]
  exact I.kept (t' := s₂.toks) fun b o e => Heap.get?_push_of_some _ e
 have k1 : ∀ b u, H2.get? b = some u → h₁.get? b = some u := fun b u e => hsb₁.extBut b u (Nat.ne_of_lt (Heap.lt_size e)) (Heap.get?_push_of_some _ e)
 have accOk : FpOk X pins H s₂.heap.objs.size := I.fpOk (Nat.le_refl _) (I.hok.fresh (Nat.le_refl _))
 have COk : FpOk X pins H H2.objs.size := I3.fpOk (Nat.le_refl _) (I3.hok.fresh (Nat.le_refl _))
 have fpLt : ∀ b ∈ fp, b < s₂.heap.objs.size := fun b hb => let ⟨o, e, _⟩ := T.obj 0 _ st b hb; Heap.lt_size e
 have accNf : s₂.heap.objs.size ∉ fp := fun z => absurd (fpLt _ z) (Nat.lt_irrefl _)
 have accNC : s₂.heap.objs.size ≠ H2.objs.size := by rw [hCs]; exact Nat.ne_of_lt (Nat.lt_succ_self _)
 have exAll : ∀ b ∈ s₂.heap.objs.size :: fp, FpOk X pins H b := fun b hb => (List.mem_cons.mp hb).elim (fun e => e ▸ accOk) (hf b)
 have exNC : ∀ b ∈ s₂.heap.objs.size :: fp, b ≠ H2.objs.size := fun b hb => (List.mem_cons.mp hb).elim (fun e => e ▸ accNC) fun z => Nat.ne_of_lt (Nat.lt_trans (fpLt b z) (by rw [hCs]; exact Nat.lt_succ_self _))
 have stkN : ∀ b, FpOk X pins H b → b ∉ frs X.stack := fun b f z => (List.mem_cons.mp (I.stkSub b z)).elim f.2.1 f.2.2.1
 have ok' : (z52 X N' scope cl H2.objs.size { s₂ with heap := H2 } H (s₂.heap.objs.size :: fp)).Ok := by
  refine ⟨I.ok.mod, S.kind, I.ok.glob, I.ok.blt, Nat.le_refl _, fun x y c h1 h2 => I.ok.inj x y c (hcl x c h1) (hcl y c h2), fun x hx => ?_, fun x c hx => absurd hx (by show ¬ false = true; decide), I.ok.hd, I.ok.frames, .inl rfl,
   fun b hb => ⟨exNC b hb, fun x c e => (exAll b hb).2.2.2.2.1 x c (hcl x c e)⟩, fun b o e => I3.bs b o e, Nat.le_trans I.ok.bsz I3.sz, fun b o e hb => ?_, fun b hb => stkN b (exAll b hb), I3.stack, I3.stkFree⟩
  ·have hx' : (relabel scope X.env).names.lookup x = some .cell ∨ (relabel scope X.env).names.lookup x = some .free := hx
   have hfree : scope.names.lookup x = some .free := by
    rcases hx' with z | z
    ·exact z81 z S.nocell (.inl rfl)
    ·exact z81 z S.nocell (.inr rfl)
   exact hcf (x, .free) (PySem.mem_of_lookup hfree) rfl
  ·rcases (exAll b hb).2.2.2.1 with z | z
   ·exact I.ok.noex b o e z
   ·exact absurd (Nat.lt_of_lt_of_le (Heap.lt_size e) (Nat.le_trans I.ok.bsz z)) (Nat.lt_irrefl _)
 obtain ⟨hml, hmp⟩ := zqf S.ok
 let XC := z52 X N' scope cl H2.objs.size { s₂ with heap := H2 } H (s₂.heap.objs.size :: fp)
 have J4 : Inv (z52 X N' scope cl H2.objs.size { s₂ with heap := H2 } H (s₂.heap.objs.size :: fp)) [] (subσ mp σ) H { s₂ with heap := h₁, toks := s₂.toks + ([] : List (Str × Value)).length } := by
  refine ⟨ok', rfl, I.bare, Un.kept k1, ⟨_, hns₁, fun j x v e1 e2 e3 => ?_⟩, fun x c e => ?_, COk.1, fun x c e => I.freeC x c (hcl x c e), fun p hp => absurd (show p ∈ ([] : List (Addr × Obj)) from hp) (by simp), I3.hok.kept k1, by show (subσ mp σ).length = N'.length; unfold subσ; rw [List.length_map, hml]⟩
  ·obtain ⟨i, q1, q2⟩ := subσ_get e2
   obtain ⟨n1, n2, n3⟩ := hmp j x i e1 q1
   obtain ⟨m, hn, hl⟩ := I3.loc
   obtain ⟨u, ru, lk⟩ := hl i x v n1 q2 (.inr (.inl n3))
   refine ⟨u, ru, ?_⟩
   rcases lk with ⟨z, _⟩ | ⟨_, c, ec, z⟩
   ·have z' : X.env.scope.names.lookup x = some .local := z
    rw [n3] at z'; cases z'
   ·obtain ⟨c', ec'⟩ := hcf (x, .free) (PySem.mem_of_lookup n2) rfl
    have e4 := hcl x c' ec'
    rw [ec] at e4; cases e4
    refine .inr ⟨?_, c, ec', ?_⟩
    ·have z3 : (relabel scope X.env).names.lookup x = some .local ∨ (relabel scope X.env).names.lookup x = some .cell ∨ (relabel scope X.env).names.lookup x = some .free := e3
     rcases z3 with z3 | z3 | z3
     ·exfalso
      have : ∀ (names : List (Str × NameKind)), names.lookup x = some .free → (names.map fun (n, k) => if (k == NameKind.free && X.env.scope.kind == .function && X.env.kindOf n == some .cell) then (n, NameKind.cell) else (n, k)).lookup x ≠ some .local := by
       intro names
       induction names with
       | nil => intro h; simp at h
       | cons p r ih =>
        obtain ⟨n, k⟩ := p
        intro h
        cases hx : x == n with
        | true =>
         simp only [List.lookup_cons, hx] at h
         cases h
         rw [List.map_cons]
         dsimp only
         split <;> simp [List.lookup_cons, hx]
        | false =>
         simp only [List.lookup_cons, hx] at h
         rw [List.map_cons]
         dsimp only
         split <;> (simp only [List.lookup_cons, hx]; exact ih h)
      exact this scope.names n2 z3
     ·exact .inl z3
     ·exact .inr z3
    ·obtain ⟨o, ho, hd⟩ := z
     exact ⟨o, k1 _ _ ho, hd⟩
  ·obtain ⟨v, o, ho, hd⟩ := I3.cell x c (hcl x c e)
   exact ⟨v, o, k1 _ _ ho, hd⟩
 have acc4 : h₁.get? s₂.heap.objs.size = some { cls := .type "list", data := .seq ([] : List Value).toArray 0 } := k1 _ _ (by rw [← hH2]; exact Heap.get?_push_size _ rfl)
 have st4 : tn 0 h₁ := T.keep _ _ _ st fun b _ o e => k1 b o (by rw [← hH2]; exact Heap.get?_push_of_some _ e)
 have fp4 : ∀ {H' : Hp}, (∀ b ∈ fp, H' b = none) → ∀ b ∈ fp, FpOk (z52 X N' scope cl H2.objs.size { s₂ with heap := H2 } H (s₂.heap.objs.size :: fp)) [] H' b := fun hn b hb =>
  ⟨hn b hb, exNC b (List.mem_cons_of_mem _ hb), stkN b (hf b hb), .inl (List.mem_cons_of_mem _ hb), fun x c e => (hf b hb).2.2.2.2.1 x c (hcl x c e), fun p hp => absurd (show p ∈ ([] : List (Addr × Obj)) from hp) (by simp)⟩
 have acc5 : ∀ {H' : Hp}, H' s₂.heap.objs.size = none → FpOk (z52 X N' scope cl H2.objs.size { s₂ with heap := H2 } H (s₂.heap.objs.size :: fp)) [] H' s₂.heap.objs.size := fun hn =>
  ⟨hn, accNC, stkN _ accOk, .inl List.mem_cons_self, fun x c e => accOk.2.2.2.2.1 x c (hcl x c e), fun p hp => absurd (show p ∈ ([] : List (Addr × Obj)) from hp) (by simp)⟩
 have loop : ∀ s₃ : Shared, s₃ = { s₂ with heap := h₁, toks := s₂.toks + ([] : List (Str × Value)).length } →
   codeAny (model X.prog X.w) X.A (.compLoop (.ListComp elt [⟨tg, iter, ifs, 0⟩] scope pos) 0 (.ref it) (.ref s₂.heap.objs.size) (compEnvC scope cl H2.objs.size X.env)) (RR (.ref s₂.heap.objs.size) H2.objs.size) s₃ := by
  rintro s₃ rfl
  refine zti (fun n s' => ∃ i σ' H' ys its k, Inv (z52 X N' scope cl H2.objs.size { s₂ with heap := H2 } H (s₂.heap.objs.size :: fp)) [] σ' H' s' ∧ tn i s'.heap ∧ (∀ b ∈ fp, H' b = none) ∧ H' s₂.heap.objs.size = none ∧
   Vals ys its ∧ s'.heap.get? s₂.heap.objs.size = some { cls := .type "list", data := .seq its.toArray k } ∧ W i n ys σ' H') ?_ m0 ⟨0, subσ mp σ, H, [], [], 0, J4, st4, fun b hb => (hf b hb).1, accOk.1, .nil, acc4, w0⟩
  rintro n s5 ⟨i, σ5, H5, ys, its, k, J5, st5, fr5, an5, vy, ea, w5⟩
  have zv : its.length = ys.length := vy.length.symm
  have pinOk : ∀ {σ' : St} {H' : Hp} {s' : Shared} {o : Obj}, Inv XC [] σ' H' s' → H' s₂.heap.objs.size = none → s'.heap.get? s₂.heap.objs.size = some o → (∀ v, o.data ≠ .cell v) → Inv XC [(s₂.heap.objs.size, o)] σ' H' s' := fun {σ' H' s' o} J a1 a2 a3 => J.pins_of fun p hp => by
   have e : p = (s₂.heap.objs.size, o) := by simpa using hp
   subst e
   exact ⟨a2, a1, accNC, stkN _ accOk, a3⟩
  have fp5 : ∀ {H' : Hp} {o : Obj}, (∀ b ∈ fp, H' b = none) → ∀ b ∈ fp, FpOk XC [(s₂.heap.objs.size, o)] H' b := fun {H' o} hn b hb => by
   obtain ⟨c1, c2, c3, c4, c5, _⟩ := fp4 hn b hb
   refine ⟨c1, c2, c3, c4, c5, fun p hp => ?_⟩
   have e : p = (s₂.heap.objs.size, o) := by
    have hp' : p ∈ ([] ++ [(s₂.heap.objs.size, o)] : List (Addr × Obj)) := hp
    simpa using hp'
   subst e
   intro z
   exact accNf (by rw [show s₂.heap.objs.size = b from z]; exact hb)
  have noc : ∀ (us : List Value) (k : Nat) (v : Option Value), ({ cls := .type "list", data := .seq us.toArray k } : Obj).data ≠ .cell v := fun us k v z => by
   have z' : Data.seq us.toArray k = Data.cell v := z
   cases z'
  have J5p := pinOk J5 an5 ea (noc its k)
  rcases turn i n ys σ5 H5 w5 with ⟨stop, zl, qn⟩ | ⟨go, zl, N, hN, step⟩
  ·refine thn (T.done XC rfl rfl rfl hc i _ s5 σ5 H5 _ J5p (fp5 fr5) st5 stop) fun r s6 ⟨hr, J6⟩ => ?_
   subst hr
   have I6 : Inv X pins σ H5 s6 := I3.call' (ch := s₂.heap.objs.size :: fp) (show s6.os = _ from J6.os) J6.base J6.hok J6.bare fun b hb => let ⟨_, a1, _, a3, a4, a5⟩ := exAll b hb; ⟨a3, a1, a4, a5⟩
   have ea6 : s6.heap.get? s₂.heap.objs.size = some { cls := .type "list", data := .seq its.toArray k } := (J6.pin _ (List.mem_append_right _ (List.mem_singleton.mpr rfl))).1
   have I7 : Inv X pins σ (upd H5 s₂.heap.objs.size (.lst ys)) s6 := I6.track an5 ⟨an5, accOk.2⟩ ⟨zl, its, k, vy, ea6⟩
   obtain ⟨m, hm, _⟩ := J6.loc
   exact hR _ _ _ s6 I7 (qn _ an5) ⟨m, hm⟩ ⟨by rw [z0q (Ne.symm accNC)]; exact J6.free, COk.2⟩
  ·refine thn (T.item XC rfl rfl rfl hc i _ s5 σ5 H5 _ J5p (fp5 fr5) st5 go) fun r s6 ⟨u, hr, h6⟩ => ?_
   subst hr
   refine thn h6 fun _ s7 ⟨x, H7, J7, r7, y7, st7, fr7⟩ => ?_
   have an7 : H7 s₂.heap.objs.size = none := (J7.pin _ (List.mem_append_right _ (List.mem_singleton.mpr rfl))).2.1
   have J7' := J7.pinned (fp5 fr7) (T.obj _ _ st7)
   refine thn (hg _ _ _ _ _ s7 σ5 H7 x u _ J7' r7 (step x H7 y7)) fun _ s8 ⟨σ8, H8, J8, q8⟩ => ?_
   refine thn (ht _ _ _ _ _ s8 σ8 H8 _ J8 q8) fun b s9 ⟨H9, J9, q9⟩ => ?_
   have zmq : ∀ {σ' : St} {H' : Hp} {s' : Shared}, Inv XC ([(s₂.heap.objs.size, ({ cls := .type "list", data := .seq its.toArray k } : Obj))] ++ zl2 fp s7.heap) σ' H' s' →
     Inv XC [] σ' H' s' ∧ tn (i + 1) s'.heap ∧ (∀ b ∈ fp, H' b = none) ∧ H' s₂.heap.objs.size = none ∧ s'.heap.get? s₂.heap.objs.size = some { cls := .type "list", data := .seq its.toArray k } := fun {σ' H' s'} K => by
    have pa := K.pin (s₂.heap.objs.size, { cls := .type "list", data := .seq its.toArray k }) (List.mem_append_right _ (List.mem_append_left _ (List.mem_singleton.mpr rfl)))
    refine ⟨K.pins_of (fun p hp => absurd hp (by simp)), T.keep _ _ _ st7 fun b hb o e => (K.pin (b, o) (List.mem_append_right _ (List.mem_append_right _ (zbd hb e)))).1, fun b hb => ?_, pa.2.1, pa.1⟩
    obtain ⟨o, e, d⟩ := T.obj _ _ st7 b hb
    exact (K.pin (b, o) (List.mem_append_right _ (List.mem_append_right _ (zbd hb e)))).2.1
   cases b with
   | false =>
    rw [if_neg Bool.false_ne_true] at q9
    rw [if_neg Bool.false_ne_true]
    obtain ⟨m', hm', w'⟩ := hN _ _ _ q9
    obtain ⟨K1, K2, K3, K4, K5⟩ := zmq J9
    exact ⟨m', hm', i + 1, σ8, H9, ys, its, k, K1, K2, K3, K4, vy, K5, w'⟩
   | true =>
    rw [if_pos rfl] at q9
    rw [if_pos rfl]
    refine thn (he _ _ _ _ _ s9 σ8 H9 _ J9 q9) fun z s10 ⟨v, H10, J10, r10, q10⟩ => ?_
    obtain ⟨m', hm', w'⟩ := hN _ _ _ q10
    obtain ⟨K1, K2, K3, K4, K5⟩ := zmq J10
    refine call_meets F.slot_list_append ⟨_, K5, rfl⟩ F.entry_list_append (F.args_list_append_2 _ _) (PySem.list_append s₂.heap.objs.size its.toArray k z (by rw [List.size_toArray]; omega)) ⟨K5, ?_⟩
    have qa := PySem.IsL.update K5 (fun x_1 => x_1.push z)
    have eqa : its.toArray.push z = (its ++ [z]).toArray := by simp
    rw [eqa] at qa
    have kk : ∀ b o, b ≠ s₂.heap.objs.size → s10.heap.get? b = some o → (s10.heap.update s₂.heap.objs.size (Obj.mapSeq fun x_1 => x_1.push z)).get? b = some o := fun b o hb hu => (Heap.get?_update_other s10.heap (Obj.mapSeq fun x_1 => x_1.push z) (Ne.symm hb)).trans hu
    obtain ⟨d0, d1, d2, d3, d4, d5⟩ := acc5 K4
    have K1' := K1.turned (h' := s10.heap.update s₂.heap.objs.size (Obj.mapSeq fun x_1 => x_1.push z)) (t' := s10.toks) kk d0 d1 d3 d4 d5
    exact ⟨m', hm', i + 1, σ8, H10, ys ++ [v], its ++ [z], _, K1', T.keep _ _ _ K2 (fun b hb o e => kk b o (fun y => accNf (by rw [← y]; exact hb)) e), K3, K4, vy.append (.cons r10 .nil), qa, w'⟩
 exact codeAny_compStart_list (loop _ rfl) (T.self _ _ _ _ _ st4 (loop _ rfl))
theorem zey {elt tg iter : Expr} {ifs : List Expr} {scope : Scope} {pos : Pos} (N' : List Str) (mp : List (Option Nat)) {wi : TI} {g : TG} {tt : TT} {te : TE} (hc : X.calm = true) (S : CompS X N' scope mp) (hi : PI X tg iter wi)
  (hg : ∀ cl C s₀ H₀ ex, PG (z52 X N' scope cl C s₀ H₀ ex) tg g) (ht : ∀ cl C s₀ H₀ ex, PIf (z52 X N' scope cl C s₀ H₀ ex) ifs tt) (he : ∀ cl C s₀ H₀ ex, PE (z52 X N' scope cl C s₀ H₀ ex) elt te)
  (hs : ∀ x, foldedSetIterable iter X.env x = pure x := by intro _; rfl) : PE X (.ListComp elt [⟨tg, iter, ifs, 0⟩] scope pos) (zj0 wi g tt te mp) := by
 intro pins s σ H Q I h
 obtain ⟨cl, e0, e1, e2⟩ := ztk (scope := scope) (env := X.env) fun y hy hf => I.ok.has y.1 (.inl (S.frees y hy hf))
 rw [eval_ListComp]
 refine wpAny_comprehension_free (use := none) rfl hs e0 S.kind S.locs (thn (hi pins s σ H _ I h) fun v s1 h1 => thn h1 fun itv s2 h2 => ?_)
 obtain ⟨it, fp, tn, J, H2, e, I2, T, st2, f2, hw⟩ := h2
 subst e
 refine zm9 (Qe := Q) (RR := fun acc C => compPost (model X.prog X.w) X.A X.xe none (EP X pins σ Q) acc C) hc S e1 e2 (hg cl) (ht cl) (he cl) I2 T st2 f2 hw fun D C H' s' I' q ⟨m, hm⟩ ⟨f0, f1, _, f3, f4, f5⟩ => ?_
 exact ⟨m, hm, fun h' sb => ⟨.ref D, H', I'.turned (t' := s'.toks) (fun b o hb e => (sb.2 b hb).trans e) f0 f1 f3 f4 f5, rfl, q⟩⟩
theorem zn2 {elt tg iter : Expr} {ifs : List Expr} {scope : Scope} {pos pos' cpos : Pos} {i : Nat} {x : Str} (N' : List Str) (mp : List (Option Nat)) {wi : TI} {g : TG} {tt : TT} {te : TE} (hN : X.N.Nodup) (hxi : X.N[i]? = some x) (hx : Loc X.env.scope x)
  (hc : X.calm = true) (S : CompS X N' scope mp) (hi : PI X tg iter wi)
  (hg : ∀ cl C s₀ H₀ ex, PG (z52 X N' scope cl C s₀ H₀ ex) tg g) (ht : ∀ cl C s₀ H₀ ex, PIf (z52 X N' scope cl C s₀ H₀ ex) ifs tt) (he : ∀ cl C s₀ H₀ ex, PE (z52 X N' scope cl C s₀ H₀ ex) elt te)
  (hsw : swapsWith (.ListComp elt [⟨tg, iter, ifs, 0⟩] scope cpos) (some (.Name x pos')) pos.line X.env = pure true := by rfl)
  (hs : ∀ x, foldedSetIterable iter X.env x = pure x := by intro _; rfl) (hf : X.fn x = true ∨ X.env.scope.names.lookup x = some .local := by first | exact .inl rfl | exact .inr rfl | assumption) :
  PS X (.Assign [.Name x pos'] (.ListComp elt [⟨tg, iter, ifs, 0⟩] scope cpos) pos) (zz1 (zj0 wi g tt te mp) (zi9 i)) := by
 intro pins s σ H D I h
 obtain ⟨cl, e0, e1, e2⟩ := ztk (scope := scope) (env := X.env) fun y hy hf => I.ok.has y.1 (.inl (S.frees y hy hf))
 rw [exec_Assign_Name_used _ _ _ _ hsw]
 refine wpAny_bind (wpAny_standAt (wpAny_bind ?_))
 show wpAny _ X.A (do let _ ← comprehension (.ListComp elt [⟨tg, iter, ifs, 0⟩] scope cpos) scope X.env _ (newList []) false (eval iter X.env) (some (assign (.Name x pos') X.env))) _ _ s
 refine wpAny_bind (wpAny_mono (wpAny_comprehension_free (use := some (assign (.Name x pos') X.env)) (Q := fun _ s' => SP X pins D .next s') rfl hs e0 S.kind S.locs
  (thn (hi pins s σ H _ I h) fun v s1 h1 => thn h1 fun itv s2 h2 => ?_)) (fun _ s' hq => wpAny_pure (wpAny_pure hq)) fun _ _ e => e)
 obtain ⟨it, fp, tn, J, H2, e, I2, T, st2, f2, hw⟩ := h2
 subst e
 refine zm9 (Qe := fun x H1 => zi9 i x σ H1 D.nx) (RR := fun acc C => compPost (model X.prog X.w) X.A X.xe (some (assign (.Name x pos') X.env)) (fun _ s' => SP X pins D .next s') acc C) hc S e1 e2 (hg cl) (ht cl) (he cl) I2 T st2 f2 hw fun D' C H' s' I' q ⟨m, hm⟩ ⟨f0, f1, _, f3, f4, f5⟩ => ?_
 show wpAny _ X.A (assign (.Name x pos') X.env (.ref D')) _ _ _
 refine wpAny_assign_Name (zkq I' hN hxi hx (v := .ref D') rfl (fun s'' I'' ⟨a, sb, ha⟩ => ?_) hf)
 have hCa : C ≠ a := by
  rcases ha with ha | ha
  ·rw [ha]; exact f1
  ·exact fun z => f4 x a ha z.symm
 refine ⟨m, hm.sameBut sb hCa, fun h' sb' => ?_⟩
 exact ⟨_, H', I''.turned (t' := s''.toks) (fun b o hb e => (sb'.2 b hb).trans e) f0 f1 f3 f4 f5, q⟩
end
section
variable {K : PySem.W.Frag} {a : Addr} {xs : List V} {g : TG} {tt : TT} {te : TE} {σ : St} {H : Hp} {Q : VK}
abbrev zfi (J : It) (g : TG) (tt : TT) (te : TE) (Q : VK) (σ : St) (H : Hp) : Prop := ∃ W : Nat → Nat → List V → St → Hp → Prop, (∃ m, W 0 m [] σ H) ∧ ∀ i m ys σ H, W i m ys σ H →
 (J.stop i H ∧ ys.length ≤ sizeLine ∧ ∀ p, H p = none → Q (.ref p) (upd H p (.lst ys))) ∨ (J.go i H ∧ ys.length < sizeLine ∧ ∃ N : List V → St → Hp → Prop, (∀ ys' σ' H', N ys' σ' H' → ∃ m', m' < m ∧ W (i + 1) m' ys' σ' H') ∧ ∀ x H', J.yld i H x H' → g x σ H' fun σ2 H2 => tt σ2 H2 fun b H3 =>
  if b = true then te σ2 H3 (fun v H4 => N (ys ++ [v]) σ2 H4) else N ys σ2 H3)
theorem z90 (Pv : Nat → List V → St → Hp → Prop) (h0 : Pv 0 [] σ H) (hz : xs.length < sizeLine) (hy : ∀ i ys σ H, Pv i ys σ H → ys.length ≤ i) (hl : ∀ i ys σ H, i ≤ xs.length → Pv i ys σ H → SqL K H a xs)
  (hs : ∀ i ys x σ H, xs[i]? = some x → Pv i ys σ H → g x σ H fun σ2 H2 => tt σ2 H2 fun b H3 => if b = true then te σ2 H3 (fun v H4 => Pv (i + 1) (ys ++ [v]) σ2 H4) else Pv (i + 1) ys σ2 H3)
  (hd : ∀ ys σ H, Pv xs.length ys σ H → ∀ p, H p = none → Q (.ref p) (upd H p (.lst ys))) : zfi (Itl K a) g tt te Q σ H := by
 refine ⟨fun i m ys σ H => m = xs.length - i ∧ i ≤ xs.length ∧ Pv i ys σ H, ⟨xs.length, by simp, Nat.zero_le _, h0⟩, ?_⟩
 rintro i m ys σ H ⟨rfl, hi, p⟩
 have q := hl i ys σ H hi p
 have hyl := hy i ys σ H p
 by_cases hlt : i < xs.length
 ·refine .inr ⟨⟨xs, xs[i], q, by simp [hlt]⟩, by omega, Pv (i + 1), fun ys' σ' H' p' => ⟨xs.length - (i + 1), by omega, rfl, hlt, p'⟩, fun x H' y => ?_⟩
  obtain ⟨e, y⟩ := y
  subst e
  exact hs i ys x σ _ (y xs q) p
 ·have e : i = xs.length := by omega
  subst e
  exact .inl ⟨⟨xs, q, Nat.le_refl _⟩, by omega, hd ys σ H p⟩
end
end L2
set_option Elab.async false
set_option linter.all false
set_option maxRecDepth 100000
namespace L2
open PySem PySem.Spec PyProof.Rows
section
variable {X : Cx}
def zfk (K : PySem.W.Frag) : R2 := fun x y H Q => ∃ a b xs ys, x = .ref a ∧ y = .ref b ∧ SqT K H a xs ∧ SqT K H b ys ∧ xs.length + ys.length ≤ sizeLine ∧
 (xs = [] → Q (.ref b) H) ∧ (xs ≠ [] → ys = [] → Q (.ref a) H) ∧ (xs ≠ [] → ys ≠ [] → ∀ p, H p = none → Q (.ref p) (upd H p (.tup (xs ++ ys))))
theorem z2b : OpR X (binaryOp .Add) (zfk X.K) := by
 intro pins s σ H x y v u Q I rx ry h
 obtain ⟨a, b, xs, ys, rfl, rfl, ha, hb, hz, q0, q1, q2⟩ := h
 by_cases hx : xs = []
 ·cases rx
  cases ry
  obtain ⟨its, r1, p1, _⟩ := I.tuple ha
  obtain ⟨its2, r2, p2, _⟩ := I.tuple hb
  obtain ⟨⟨cls, dd, data, sl⟩, ho, hc, n, hd⟩ := id p1
  obtain ⟨⟨cls2, dd2, data2, sl2⟩, ho2, hc2, n2, hd2⟩ := id p2
  simp only at hc hd hc2 hd2
  subst hc hd hc2 hd2
  have he : its = [] := r1.nil_iff.mpr hx
  exact concat_meets ⟨_, ho, rfl⟩ ⟨_, ho2, rfl⟩ noFill_tuple_add seq_tuple_add PySem.F.slot_tuple_add PySem.F.entry_tuple_add (PySem.F.args_tuple_add_2 _ _)
   (tuple_addW0 a b its.toArray its2.toArray n n2 dd dd2 sl sl2 (by simp [he])) ⟨ho, ho2, ⟨.ref b, H, I, rfl, q0 hx⟩⟩
 ·exact zxk pins s σ H _ _ v u Q I rx ry ⟨a, b, xs, ys, rfl, rfl, ha, hb, hx, hz, q1 hx, q2 hx⟩
def zp3 : V → PyData
 | .bl b => .bool b
 | .int i => .int i
 | .str x => .str x
 | _ => .none
theorem zpl {h : Heap} {x : V} {u : Value} (r : RelV x u) (f : zah x = true) : Reads h u (zp3 x) [] := by
 cases x with
 | non => cases r; exact .none
 | bl b => cases r; exact .bool b
 | int i => obtain ⟨t, rfl⟩ := r; exact .int i t
 | str z => obtain ⟨t, rfl⟩ := r; exact .str z t
 | _ => exact absurd (show false = true from f) Bool.false_ne_true
theorem zda {h : Heap} : ∀ {xs : List V} {us : List Value}, Vals xs us → xs.all zah = true → ReadsAll h us (xs.map zp3) []
 | _, _, .nil, _ => .nil
 | _ :: _, _ :: _, .cons r t, f => by
  rw [List.all_cons, Bool.and_eq_true] at f
  exact .cons (zpl r f.1) (zda t f.2)
def okV : V → Bool
 | .non => true
 | .bl _ => true
 | .int _ => true
 | .str z => PyData.strOk z
 | _ => false
theorem okV.flat {x : V} (h : okV x = true) : zah x = true := by
 cases x <;> first | rfl | exact absurd (show false = true from h) Bool.false_ne_true
theorem okV.all {xs : List V} (h : xs.all okV = true) : xs.all zah = true := List.all_eq_true.mpr fun x hx => okV.flat (List.all_eq_true.mp h x hx)
theorem zjm : ∀ (xs : List V), xs.all okV = true → PyData.canLayAll0 (xs.map zp3) = true ∧ PyData.depthAll (xs.map zp3) ≤ 1
 | [], _ => by simp [PyData.canLayAll0, PyData.depthAll]
 | x :: xs, hz => by
  rw [List.all_cons, Bool.and_eq_true] at hz
  have h1 : (zp3 x).canLay0 = true ∧ (zp3 x).depth ≤ 1 := by
   cases x with
   | str z => exact ⟨by simpa [zp3, PyData.canLay0, okV] using hz.1, by simp [zp3, PyData.depth]⟩
   | _ => exact ⟨by simp [zp3, PyData.canLay0], by simp [zp3, PyData.depth]⟩
  have h2 := zjm xs hz.2
  simp only [List.map_cons, PyData.canLayAll0, PyData.depthAll, h1.1, h2.1, Bool.and_self, true_and]
  have a1 := h1.2
  have a2 := h2.2
  omega
theorem z98 {xs : List V} (h : xs.all okV = true) : SeqAt.shaped (.list (xs.map zp3)) = true := by
 have q := zjm xs h
 unfold SeqAt.shaped
 simp only [PyData.canLay0, PyData.depth, q.1, Bool.true_and]
 have := q.2
 exact decide_eq_true (by omega)
theorem Inv.readsL {pins : List (Addr × Obj)} {σ : St} {H : Hp} {s : Shared} {a : Addr} {xs : List V} (I : Inv X pins σ H s) (h : SqL X.K H a xs) (f : xs.all okV = true) : ∃ as, Reads s.heap (.ref a) (.list (xs.map zp3)) as := by
 obtain ⟨its, r, ⟨o, n, e, c, _, d⟩, _⟩ := I.list h
 exact ⟨_, .list e c d (by simpa using zda r (okV.all f))⟩
def eqL (xs ys : List V) : Bool := PyData.eqv (.list (xs.map zp3)) (.list (ys.map zp3))
def q3h (K : PySem.W.Frag) (neg : Bool) : R2 := fun x y H Q => ∃ a b xs ys, x = .ref a ∧ y = .ref b ∧ SqL K H a xs ∧ SqL K H b ys ∧ xs.all okV = true ∧ ys.all okV = true ∧ Q (.bl (if neg then !eqL xs ys else eqL xs ys)) H
theorem q06 (hu : X.A.units + 64 < cLine) : OpR X (compareOp .Eq) (q3h X.K false) := by
 intro pins s σ H x y v u Q I rx ry h
 obtain ⟨a, b, xs, ys, rfl, rfl, ha, hb, fa, fb, q⟩ := h
 cases rx; cases ry
 obtain ⟨as, ra⟩ := I.readsL ha fa
 obtain ⟨bs, rb⟩ := I.readsL hb fb
 exact eq_dataH ra rb (z98 fa) (z98 fb) hu ⟨.bl _, H, I, rfl, q⟩
theorem q01 (hu : X.A.units + 64 < cLine) : OpR X (compareOp .NotEq) (q3h X.K true) := by
 intro pins s σ H x y v u Q I rx ry h
 obtain ⟨a, b, xs, ys, rfl, rfl, ha, hb, fa, fb, q⟩ := h
 cases rx; cases ry
 obtain ⟨as, ra⟩ := I.readsL ha fa
 obtain ⟨bs, rb⟩ := I.readsL hb fb
 exact ne_dataH ra rb (z98 fa) (z98 fb) hu ⟨.bl _, H, I, rfl, q⟩
theorem zsu (xs : List V) : eqL xs [] = xs.isEmpty := by
 cases xs <;> simp [eqL, PyData.eqv, PyData.eqvAll]
theorem zo3 : CallR X (.builtin "isinstance") (fun xs H Q => ∃ x n t b, xs = [x, .ty n] ∧ TyOf X.K H x t ∧ PySem.W.kitOne X.K t (.type n) = some b ∧ Q (.bl b) H) := by
 intro pins s σ H xs us Q I r h
 obtain ⟨x, n, t, b, rfl, ty, e, q⟩ := h
 obtain ⟨u, u2, rfl, r1, r2⟩ := r.two
 cases r2
 exact zsm I r1 ty e fun tk => ⟨.bl b, H, I.tok tk, rfl, q⟩
def Its (z : Str) : It := ⟨fun i _ => i < z.cps.size, fun i H x H' => H' = H ∧ ∃ c, z.cps[i]? = some c ∧ x = .str ⟨#[c]⟩, fun i _ => i = z.cps.size⟩
def q49 (tl : TE) : TI := fun σ H R => tl σ H fun x H1 => ∃ z, x = .str z ∧ R (Its z) H1
open PySem.AutoSeq1 (wpAny_loadPart') in
theorem zz0 (l : Addr) (items : Array Value) (n : Nat) (dd : Option Addr) (sl : Array (Option Value)) (x : Int) (u : Tok) (h2 : 2 ≤ x) (hx : x < 2 ^ 62) (hne : items.isEmpty = false) (hz : items.size * x.toNat ≤ sizeLine) :
  Meets (Builtin.«tuple.__mul__» ⟨[.ref l, .int x u], []⟩) (fun _ R s => s.heap.get? l = some { cls := .type "tuple", dict := dd, data := .seq items n, slots := sl } ∧ R (.ok (.ret (Value.ref s.heap.objs.size))) { s with heap := s.heap.push { cls := Value.type "tuple", data := Data.seq (List.foldl (fun x1 x2 => x1 ++ x2) #[] (List.replicate x.toNat items)) }, toks := s.toks }) :=
 .of_wp fun prog w A R s h => by
  obtain ⟨hp, g, d, tk, os⟩ := s; obtain ⟨hl, h⟩ := h
  have f1 := AutoSeq1.idx_int
  have hs : sizeLine = 16777216 := sizeLine_eq
  have hm : ((items.size * x.toNat : Nat) : Int) = (items.size : Int) * x := by
   rw [Int.natCast_mul, Int.toNat_of_nonneg (by omega)]
  have c0 : ¬ (decide (x < -2 ^ 63) || decide (x ≥ 2 ^ 63)) = true := by
   simp only [Bool.or_eq_true, decide_eq_true_eq, not_or]
   omega
  have c1 : ¬ (items.isEmpty || x == 1) = true := by
   rw [hne, Bool.false_or]
   simp only [beq_iff_eq]
   omega
  have c2 : ¬ (decide (x ≤ 0) || items.isEmpty) = true := by
   rw [hne, Bool.or_false]
   simp only [decide_eq_true_eq]
   omega
  have c3 : ¬ ((items.size : Int) * x > (2 ^ 63 - 1) / 8) := by
   rw [← hm]
   have : (2 ^ 63 - 1 : Int) / 8 = 1152921504606846975 := by decide
   rw [this]
   omega
  have c4 : ¬ Builtin.Tuple.tupleTooMany ((items.size : Int) * x) = true := by
   unfold Builtin.Tuple.tupleTooMany
   simp only [decide_eq_true_eq]
   rw [← hm]
   omega
  wp_walk using wpAny_loadPart' hl
  refine PySem.W.KFB.if_not (Bool.eq_false_iff.mpr c0) ?_
  wp_walk using wpAny_loadPart' hl
  refine PySem.W.KFB.if_not (Bool.eq_false_iff.mpr c1) ?_
  refine PySem.W.KFB.if_not (Bool.eq_false_iff.mpr c2) ?_
  dsimp only
  rw [if_neg c3]
  refine PySem.W.KFB.if_not (Bool.eq_false_iff.mpr c4) ?_
  refine wpAny_bind (wpAny_newObj_type (wpAny_pure ⟨_, rfl, h⟩) ?_)
  show (List.foldl (fun x1 x2 => x1 ++ x2) #[] (List.replicate x.toNat items)).size ≤ sizeLine
  have e := zlq items.toList x.toNat []
  rw [List.nil_append] at e
  have e2 : items.toList.toArray = items := by simp
  rw [e2] at e
  rw [show ([] : List Value).toArray = #[] from rfl] at e
  rw [e, List.size_toArray, zxu, Array.length_toList, Nat.mul_comm]
  exact hz
def zx3 (K : PySem.W.Frag) : R2 := fun x y H Q => ∃ l k xs, x = .ref l ∧ y = .int k ∧ SqT K H l xs ∧ 2 ≤ k ∧ k < 2 ^ 62 ∧ xs ≠ [] ∧ xs.length * k.toNat ≤ sizeLine ∧
 ∀ p, H p = none → Q (.ref p) (upd H p (.tup (List.replicate k.toNat xs).flatten))
end
end L2
set_option Elab.async false
set_option linter.all false
set_option maxRecDepth 100000
namespace L2
open PySem PySem.Spec PyProof.Rows
section
variable {X : Cx}
def Seq (K : PySem.W.Frag) (H : Hp) (a : Addr) : Prop := (∃ xs, SqL K H a xs) ∨ ∃ xs, SqT K H a xs
theorem zv0 (hu : X.A.units + 64 < cLine) : OpR X (compareOp .Eq) (fun x y H Q => ∃ a z, x = .ref a ∧ y = .str z ∧ Seq X.K H a ∧ Q (.bl false) H) := by
 intro pins s σ H x y v u Q I rx ry h
 obtain ⟨a, z, rfl, rfl, hq, q⟩ := h
 cases rx
 obtain ⟨t, rfl⟩ := ry
 show wpAny _ _ (richCompare .Eq _ _) _ _ _
 rcases hq with ⟨xs, hq⟩ | ⟨xs, hq⟩
 ·obtain ⟨its, r, pl, hz⟩ := I.list hq
  exact SeqAt.RcAt.list_str z t pl.isList (by omega) _ _ _ _ ⟨.bl false, H, I, rfl, q⟩
 ·obtain ⟨its, r, pl, hz⟩ := I.tuple hq
  exact SeqAt.RcAt.tuple_str z t (show s.heap.IsTuple a its.toArray from pl) (by omega) _ _ _ _ ⟨.bl false, H, I, rfl, q⟩
def isN : V → Bool
 | .non => true
 | _ => false
def q0s : Value → Bool
 | .none => true
 | _ => false
theorem zpt (hu : X.A.units + 64 < cLine) : OpR X (compareOp .In) (fun x y H Q => ∃ p xs, x = .non ∧ y = .ref p ∧ SqL X.K H p xs ∧ (∀ v ∈ xs, v = .non ∨ ∃ a ys, v = .ref a ∧ SqT X.K H a ys) ∧ Q (.bl (xs.any isN)) H) := by
 intro pins s σ H x y v u Q I rx ry h
 obtain ⟨p, xs, rfl, rfl, hq, hall, q⟩ := h
 cases rx; cases ry
 obtain ⟨its, r, pl, hz⟩ := I.list hq
 have hmem : ∀ (xs : List V) (us : List Value), Vals xs us → (∀ v ∈ xs, v = .non ∨ ∃ a ys, v = .ref a ∧ SqT X.K H a ys) → (∀ u ∈ us, SeqAt.EqAt X.A.in1 s u .none (q0s u)) ∧ us.any q0s = xs.any isN := by
  intro xs us rv
  induction rv with
  | nil => intro _; exact ⟨fun u hu => (by cases hu), rfl⟩
  | cons rr _ ih =>
   intro ha
   obtain ⟨i1, i2⟩ := ih fun v hv => ha v (List.mem_cons_of_mem _ hv)
   rcases ha _ List.mem_cons_self with e | ⟨a, ys, e, hs⟩
   ·subst e
    cases rr
    refine ⟨fun u hu' => ?_, by rw [List.any_cons, List.any_cons, i2]; rfl⟩
    rcases List.mem_cons.mp hu' with rfl | h'
    ·exact SeqAt.EqAt.same _
    ·exact i1 u h'
   ·subst e
    cases rr
    refine ⟨fun u hu' => ?_, by rw [List.any_cons, List.any_cons, i2]; rfl⟩
    rcases List.mem_cons.mp hu' with rfl | h'
    ·obtain ⟨its, _, ht, _⟩ := I.tuple hs
     exact SeqAt.EqAt.tuple_none (show s.heap.IsTuple a its.toArray from ht) (by show X.A.units + 1 < _; omega)
    ·exact i1 u h'
 obtain ⟨h1, h2⟩ := hmem xs its r hall
 refine SeqAt.in_listAt q0s pl.isList (fun w hw => h1 w (by simpa using hw)) ⟨.bl _, H, I, rfl, ?_⟩
 rw [show its.toArray.any q0s = its.any q0s by simp, h2]
 exact q
def q2r : R2 := fun x y H Q => ∃ i j, x = .str i ∧ y = .str j ∧ Q (.bl (!decide (j.cps.toList < i.cps.toList))) H
def q2q : R2 := fun x y H Q => ∃ i j, x = .str i ∧ y = .str j ∧ Q (.bl (decide (i.cps.toList < j.cps.toList))) H
def q1s (K : PySem.W.Frag) (x y : V) (H : Hp) (b : Bool) : Prop := (q1z x y = true ∧ b = decide (x = y)) ∨
 (∃ a c xs ys, x = .ref a ∧ y = .ref c ∧ SqL K H a xs ∧ SqL K H c ys ∧ xs.all okV = true ∧ ys.all okV = true ∧ b = eqL xs ys) ∨ (∃ a z, x = .ref a ∧ y = .str z ∧ Seq K H a ∧ b = false)
def qEq (K : PySem.W.Frag) : R2 := fun x y H Q => ∃ b, q1s K x y H b ∧ Q (.bl b) H
def qNe (K : PySem.W.Frag) : R2 := fun x y H Q => ∃ b, ((q1z x y = true ∧ b = decide (x = y)) ∨ (∃ a c xs ys, x = .ref a ∧ y = .ref c ∧ SqL K H a xs ∧ SqL K H c ys ∧ xs.all okV = true ∧ ys.all okV = true ∧ b = eqL xs ys)) ∧ Q (.bl (!b)) H
def q4i (K : PySem.W.Frag) (x y : V) (H : Hp) (b : Bool) : Prop := (∃ p xs, y = .ref p ∧ (SqL K H p xs ∨ SqT K H p xs) ∧ zah x = true ∧ xs.all zah = true ∧ b = inV x xs) ∨
 (∃ i j, x = .str i ∧ y = .str j ∧ b = !(Builtin.Str.occurrences j i 0 j.length 1).isEmpty) ∨
 (∃ p xs, x = .non ∧ y = .ref p ∧ SqL K H p xs ∧ (∀ v ∈ xs, v = .non ∨ ∃ a ys, v = .ref a ∧ SqT K H a ys) ∧ b = xs.any isN)
def qIn (K : PySem.W.Frag) : R2 := fun x y H Q => ∃ b, q4i K x y H b ∧ Q (.bl b) H
def zyw (K : PySem.W.Frag) (x y : V) (H : Hp) (b : Bool) : Prop := (∃ p xs, y = .ref p ∧ (SqL K H p xs ∨ SqT K H p xs) ∧ zah x = true ∧ xs.all zah = true ∧ b = !inV x xs) ∨
 (∃ i j, x = .str i ∧ y = .str j ∧ b = !(!(Builtin.Str.occurrences j i 0 j.length 1).isEmpty)) ∨
 (∃ a p xs, x = .ref a ∧ y = .ref p ∧ Seq K H a ∧ SqT K H p xs ∧ (∀ v ∈ xs, ∃ z, v = .str z) ∧ b = true)
def zky (K : PySem.W.Frag) : R2 := fun x y H Q => ∃ b, zyw K x y H b ∧ Q (.bl b) H
def zyx (K : PySem.W.Frag) (x : V) (H : Hp) (n : Nat) : Prop := (∃ p ys, x = .ref p ∧ (SqL K H p ys ∨ SqT K H p ys) ∧ n = ys.length) ∨ ∃ z, x = .str z ∧ z.length ≤ sizeLine ∧ n = z.length
def q24 (K : PySem.W.Frag) : List V → Hp → VK → Prop := fun xs H Q => ∃ x n, xs = [x] ∧ zyx K x H n ∧ Q (.int n) H
def q25 : R2 := fun x y H Q => y = .non ∧ Q (.bl (decide (x = .non))) H
def zun : R2 := fun x y H Q => y = .non ∧ Q (.bl (!decide (x = .non))) H
def q2u : R2 := fun x y H Q => ∃ a b, x = .bl a ∧ y = .bl b ∧ Q (.bl (a == b)) H
def zx4 : R2 := fun x y H Q => ∃ a b, x = .bl a ∧ y = .bl b ∧ Q (.bl (a != b)) H
theorem zn9 (hu : X.A.units + 64 < cLine) : OpR X (compareOp .NotIn) (fun x y H Q => ∃ a p xs, x = .ref a ∧ y = .ref p ∧ Seq X.K H a ∧ SqT X.K H p xs ∧ (∀ v ∈ xs, ∃ z, v = .str z) ∧ Q (.bl true) H) := by
 intro pins s σ H x y v u Q I rx ry h
 obtain ⟨a, p, xs, rfl, rfl, hq, hp, hall, q⟩ := h
 cases rx; cases ry
 obtain ⟨its, r, pl, hz⟩ := I.tuple hp
 have hmem : ∀ (xs : List V) (us : List Value), Vals xs us → (∀ v ∈ xs, ∃ z, v = .str z) → ∀ u ∈ us, SeqAt.EqAt X.A.in1 s u (.ref a) ((fun _ => false) u) := by
  intro xs us rv
  induction rv with
  | nil => intro _ u hu; cases hu
  | cons rr _ ih =>
   intro ha u hu'
   rcases List.mem_cons.mp hu' with rfl | h'
   ·obtain ⟨z, e⟩ := ha _ List.mem_cons_self
    subst e
    obtain ⟨t, rfl⟩ := rr
    rcases hq with ⟨ys, hq⟩ | ⟨ys, hq⟩
    ·obtain ⟨its, _, pl, _⟩ := I.list hq
     exact SeqAt.EqAt.str_list z t pl.isList (by show X.A.units + 1 < _; omega)
    ·obtain ⟨its, _, pl, _⟩ := I.tuple hq
     exact SeqAt.EqAt.str_tuple z t (show s.heap.IsTuple a its.toArray from pl) (by show X.A.units + 1 < _; omega)
   ·exact ih (fun v hv => ha v (List.mem_cons_of_mem _ hv)) u h'
 refine SeqAt.notIn_tupleAt (fun _ => false) pl (fun w hw => hmem xs its r hall w (by simpa using hw)) ⟨.bl _, H, I, rfl, ?_⟩
 have e : (!its.toArray.any fun _ => false) = true := by simp
 rw [e]
 exact q
theorem gEq (hu : X.A.units + 64 < cLine) : OpR X (compareOp .Eq) (qEq X.K) := by
 intro pins s σ H x y v u Q I rx ry h
 obtain ⟨b, h, q⟩ := h
 rcases h with ⟨h, rfl⟩ | ⟨a, c, xs, ys, h1, h2, h3, h4, h5, h6, rfl⟩ | ⟨a, z, h1, h2, h3, rfl⟩
 ·exact q07 pins s σ H x y v u Q I rx ry ⟨h, q⟩
 ·exact q06 hu pins s σ H x y v u Q I rx ry ⟨a, c, xs, ys, h1, h2, h3, h4, h5, h6, q⟩
 ·exact zv0 hu pins s σ H x y v u Q I rx ry ⟨a, z, h1, h2, h3, q⟩
theorem gNe (hu : X.A.units + 64 < cLine) : OpR X (compareOp .NotEq) (qNe X.K) := by
 intro pins s σ H x y v u Q I rx ry h
 obtain ⟨b, h, q⟩ := h
 rcases h with ⟨h, rfl⟩ | ⟨a, c, xs, ys, h1, h2, h3, h4, h5, h6, rfl⟩
 ·exact q03 pins s σ H x y v u Q I rx ry ⟨h, q⟩
 ·exact q01 hu pins s σ H x y v u Q I rx ry ⟨a, c, xs, ys, h1, h2, h3, h4, h5, h6, q⟩
theorem gIn (hu : X.A.units + 64 < cLine) : OpR X (compareOp .In) (qIn X.K) := by
 intro pins s σ H x y v u Q I rx ry h
 obtain ⟨b, h, q⟩ := h
 rcases h with ⟨p, xs, h1, h2, h3, h4, rfl⟩ | ⟨i, j, h1, h2, rfl⟩ | ⟨p, xs, h1, h2, h3, h4, rfl⟩
 ·exact zrw pins s σ H x y v u Q I rx ry ⟨p, xs, h1, h2, h3, h4, q⟩
 ·exact zrv pins s σ H x y v u Q I rx ry ⟨i, j, h1, h2, q⟩
 ·exact zpt hu pins s σ H x y v u Q I rx ry ⟨p, xs, h1, h2, h3, h4, q⟩
theorem q0v (hu : X.A.units + 64 < cLine) : OpR X (compareOp .NotIn) (zky X.K) := by
 intro pins s σ H x y v u Q I rx ry h
 obtain ⟨b, h, q⟩ := h
 rcases h with ⟨p, xs, h1, h2, h3, h4, rfl⟩ | ⟨i, j, h1, h2, rfl⟩ | ⟨a, p, xs, h1, h2, h3, h4, h5, rfl⟩
 ·exact zl8 pins s σ H x y v u Q I rx ry ⟨p, xs, h1, h2, h3, h4, q⟩
 ·exact zl7 pins s σ H x y v u Q I rx ry ⟨i, j, h1, h2, q⟩
 ·exact zn9 hu pins s σ H x y v u Q I rx ry ⟨a, p, xs, h1, h2, h3, h4, h5, q⟩
theorem zve : CallR X (.builtin "len") (q24 X.K) := by
 intro pins s σ H xs us Q I r h
 obtain ⟨x, n, rfl, h, q⟩ := h
 rcases h with ⟨p, ys, rfl, h, rfl⟩ | ⟨z, rfl, hz, rfl⟩
 ·exact zmh pins s σ H _ us Q I r ⟨p, ys, rfl, h, q⟩
 ·exact zmg pins s σ H _ us Q I r ⟨z, rfl, hz, q⟩
theorem zc1 : OpR X (compareOp .Eq) (rI0 fun i j => .bl (decide (i = j))) := by
 intro pins s σ H x y v u Q I rx ry h
 obtain ⟨i, j, rfl, rfl, q⟩ := h
 refine q07 pins s σ H _ _ v u Q I rx ry ⟨rfl, ?_⟩
 have e : decide (V.int i = V.int j) = decide (i = j) := by simp
 rw [e]; exact q
theorem q02 : OpR X (compareOp .NotEq) (rI0 fun i j => .bl (!decide (i = j))) := by
 intro pins s σ H x y v u Q I rx ry h
 obtain ⟨i, j, rfl, rfl, q⟩ := h
 refine q03 pins s σ H _ _ v u Q I rx ry ⟨rfl, ?_⟩
 have e : decide (V.int i = V.int j) = decide (i = j) := by simp
 rw [e]; exact q
theorem q3o : OpR X (compareOp .Is) q25 := q05
theorem zy7 : OpR X (compareOp .IsNot) zun := zxg
def zuo (K : PySem.W.Frag) : List V → Hp → VK → Prop := fun xs H Q => ∃ x n b, xs = [x, .ty n] ∧ (∃ t, TyOf K H x t ∧ PySem.W.kitOne K t (.type n) = some b) ∧ Q (.bl b) H
theorem zy8 : CallR X (.builtin "isinstance") (zuo X.K) := by
 intro pins s σ H xs us Q I r h
 obtain ⟨x, n, b, rfl, ⟨t, h1, h2⟩, q⟩ := h
 exact zo3 pins s σ H _ us Q I r ⟨x, n, t, b, rfl, h1, h2, q⟩
end
def zil : Expr → Bool
 | .Starred .. => true
 | _ => false
def z5a : List Expr → Bool
 | [] => true
 | e :: r => !zil e && z5a r
theorem z29 {e : Expr} {es : List Expr} {env : Env} (h : zil e = false) : starEach (e :: es) env = (false, eval e env) :: starEach es env := by
 cases e <;> first | rfl | exact absurd (show true = false from h) (by decide)
theorem z4x {pos : Pos} {env : Env} : ∀ {es : List Expr}, z5a es = true → (backTo pos (starEach es env)).any (·.1) = false
 | [], _ => rfl
 | e :: r, h => by
  rw [z5a, Bool.and_eq_true, Bool.not_eq_true'] at h
  rw [z29 h.1]
  have q := z4x (pos := pos) (env := env) h.2
  show (false || (backTo pos (starEach r env)).any (·.1)) = false
  rw [q]; rfl
theorem z07 {X : Cx} {e : Expr} {es : List Expr} {te : TE} {t : TA} (ha : PE X e te) (hr : PA X es t) (h : zil e = false := by rfl) : PA X (e :: es) (zkp te t) := zxe ha hr (z29 h)
structure Callee (P : Program) (w : World) (K : PySem.W.Frag) (mg : Str → Option Value) (base : Heap) (x : Str) (ps : List Str) (k : Nat) (sp : Sp) : Prop where
 ex : ∃ f fd, FnOk P w K mg base CX0 k f fd ps sp ∧ mg x = some (.ref f) ∧ PySem.W.keepIn K (.ref f) = true ∧ Binds K fd ps []
theorem Callee.mono {P : Program} {w : World} {K : PySem.W.Frag} {mg : Str → Option Value} {base : Heap} {x : Str} {ps : List Str} {j k : Nat} {sp : Sp} (h : Callee P w K mg base x ps j sp) (hk : j ≤ k) : Callee P w K mg base x ps k sp := by
 obtain ⟨f, fd, a, b, c, d⟩ := h
 exact ⟨f, fd, a.mono hk, b, c, d⟩
theorem z1d {X : Cx} {x : Str} {ps : List Str} {k j : Nat} {sp : Sp} {e : Expr} {es : List Expr} {t : TA} {p pos : Pos} (C : Callee X.prog X.w X.K X.mg X.base x ps k sp) (hr : Room j X.A) (hk : k ≤ j) (ha : PA X (e :: es) t) (hg : Gl X x := by rfl)
  (hdb : (x == ("__debug__" : Str)) = false := by decide) (hst : z5a (e :: es) = true := by rfl) :
  PE X (.Call (.Name x p) (e :: es) [] pos) (zuf sp [] E0 t) := by
 have hst' := hst
 rw [z5a, Bool.and_eq_true, Bool.not_eq_true'] at hst'
 have he := z29 (es := es) (env := X.env) hst'.1
 have hpl := z4x (pos := pos) (env := X.env) hst'.2
 obtain ⟨f, fd, F, hm, hkp, hb⟩ := C
 intro pins s σ H Q I h
 refine wpAny_Call_Name_kw (znl I hg hm ?_ hdb)
 refine PySem.W.callWith_K (h₀ := X.base) I.ok.mod.kin hkp (thn (ha pos pins s σ H _ I h) fun us s1 ⟨vs, H1, I1, r, q⟩ => ⟨I1.kIn, ?_⟩) he hpl
 exact zzo F (hr.mono hk) hb .nil (fun _ _ _ _ _ _ _ z => z.elim) I1 r q
theorem zcb {X : Cx} {x : Str} {p pos : Pos} {e : Expr} {es : List Expr} {t : TA} {id : String} {r : List V → Hp → VK → Prop} (hc : CallR X (.builtin id) r) (hg : Gl X x) (hm : X.mg x = none) (hv : bootBuiltins x = some (.builtin id)) (ha : PA X (e :: es) t) (hn : x ≠ "__name__") (hdb : (x == ("__debug__" : Str)) = false)
  (hst : z5a (e :: es) = true := by rfl) : PE X (.Call (.Name x p) (e :: es) [] pos) (tCB r t) := by
 have hst' := hst
 rw [z5a, Bool.and_eq_true, Bool.not_eq_true'] at hst'
 exact zuw hc hg hm hv ha hn hdb (z29 hst'.1) (z4x hst'.2)
theorem zrt {X : Cx} {x : Str} {p pos : Pos} {e : Expr} {es : List Expr} {t : TA} {T : String} {r : List V → Hp → VK → Prop} (hc : CallR X (.type T) r) (hg : Gl X x) (hm : X.mg x = none) (hv : bootBuiltins x = some (.type T)) (ha : PA X (e :: es) t) (hn : x ≠ "__name__") (hdb : (x == ("__debug__" : Str)) = false)
  (hst : z5a (e :: es) = true := by rfl) : PE X (.Call (.Name x p) (e :: es) [] pos) (tCB r t) := by
 have hst' := hst
 rw [z5a, Bool.and_eq_true, Bool.not_eq_true'] at hst'
 exact zrs hc hg hm hv ha hn hdb (z29 hst'.1) (z4x hst'.2)
structure GC (mg : Str → Option Value) (x : Str) (v : V) : Prop where
 ex : ∃ u, mg x = some u ∧ RelV v u
theorem zzz {X : Cx} {x : Str} {v : V} {pos : Pos} (h : GC X.mg x v) (hg : Gl X x := by rfl) (hd : (x == ("__debug__" : Str)) = false := by decide) : PE X (.Name x pos) (tC v) := by
 obtain ⟨u, hm, r⟩ := h
 exact zxb hg hm r hd
def ztj (N : List Str) (on : List (Str × NameKind)) (sc : Scope) (N' : List Str) (mp : List (Option Nat)) : Bool :=
 sc.kind == .function && sc.names.all (fun y => y.2 != .cell) && sc.names.all (fun y => y.2 != .local || sc.names.lookup y.1 == some .local) && sc.names.all (fun y => y.2 != .free || on.lookup y.1 == some .cell) && compOk N on sc.names N' mp
theorem CompS.of {X : Cx} {N' : List Str} {sc : Scope} {mp : List (Option Nat)} (h : ztj X.N X.env.scope.names sc N' mp = true) : CompS X N' sc mp := by
 unfold ztj at h
 simp only [Bool.and_eq_true, beq_iff_eq] at h
 obtain ⟨⟨⟨⟨h1, h2⟩, h3⟩, h4⟩, h5⟩ := h
 refine ⟨h1, fun y hy => ?_, fun y hy e => ?_, fun y hy e => ?_, h5⟩
 ·have := List.all_eq_true.mp h2 y hy
  simpa using this
 ·have := List.all_eq_true.mp h3 y hy
  simp only [e, Bool.or_eq_true, beq_iff_eq] at this
  rcases this with z | z
  ·exact absurd z (by decide)
  ·exact z
 ·have := List.all_eq_true.mp h4 y hy
  simp only [e, Bool.or_eq_true, beq_iff_eq] at this
  rcases this with z | z
  ·exact absurd z (by decide)
  ·exact z
theorem opK {X : Cx} {K : PySem.W.Frag} {f : Value → Value → Sem Value} {r : PySem.W.Frag → R2} (h : OpR X f (r X.K)) (hK : X.K = K) : OpR X f (r K) := hK ▸ h
theorem ixK {X : Cx} {K : PySem.W.Frag} {r : PySem.W.Frag → R2} (h : IxR X (r X.K)) (hK : X.K = K) : IxR X (r K) := hK ▸ h
theorem zn4 {X : Cx} {K : PySem.W.Frag} {es : List Expr} {k : Nat} {t : TGs} {n : Nat} {pos : Pos} (hK : X.K = K) (hc : X.calm = true) (h : PGs X es t) (hn : (assignEach es X.env).length = n := by rfl) (hst : (assignEach es X.env).findIdx? (·.1) = none := by rfl) : PG X (.Tuple es k pos) (zz7 K n t) := hK ▸ zfl hc h hn hst
def q0t : Expr → Bool
 | .ListComp .. => true
 | .SetComp .. => true
 | .DictComp .. => true
 | _ => false
theorem z06 {e : Expr} {t : Option Expr} {l : Nat} {env : Env} (h : q0t e = false) : swapsWith e t l env = pure false := by
 cases e <;> first | rfl | exact absurd (show true = false from h) (by decide)
theorem zpg {elt : Expr} {gs : List Comprehension} {sc : Scope} {cp p : Pos} {x : Str} {l : Nat} {env : Env} (h : env.scope.names.lookup x = some .cell) : swapsWith (.ListComp elt gs sc cp) (some (.Name x p)) l env = pure false := by
 unfold swapsWith
 have e : (env.kindOf x == some NameKind.local) = false := by
  unfold Env.kindOf
  rw [h]; rfl
 simp only [e, Bool.and_false, Bool.false_and]
inductive Dm where
 | non | bl (b : Bool) | int (i : Int) | str (x : Str) | tup (ds : List Dm) | lst
mutual
inductive Dt (H : Hp) : V → Dm → Prop where
 | non : Dt H .non .non
 | bl (b : Bool) : Dt H (.bl b) (.bl b)
 | int (i : Int) : Dt H (.int i) (.int i)
 | str (x : Str) : Dt H (.str x) (.str x)
 | tup {a : Addr} {xs : List V} {ds : List Dm} : H a = some (.tup xs) → DtA H xs ds → Dt H (.ref a) (.tup ds)
 | lst {a : Addr} {xs : List V} : H a = some (.lst xs) → Dt H (.ref a) .lst
inductive DtA (H : Hp) : List V → List Dm → Prop where
 | nil : DtA H [] []
 | cons {x : V} {xs : List V} {d : Dm} {ds : List Dm} : Dt H x d → DtA H xs ds → DtA H (x :: xs) (d :: ds)
end
structure Kp (H H' : Hp) : Prop where
 t : ∀ b xs, H b = some (.tup xs) → H' b = some (.tup xs)
 l : ∀ b xs, H b = some (.lst xs) → ∃ ys, H' b = some (.lst ys)
theorem Kp.refl (H : Hp) : Kp H H := ⟨fun _ _ h => h, fun _ xs h => ⟨xs, h⟩⟩
theorem Kp.trans {H H1 H2 : Hp} (a : Kp H H1) (b : Kp H1 H2) : Kp H H2 := ⟨fun c xs h => b.t c xs (a.t c xs h), fun c xs h => let ⟨ys, e⟩ := a.l c xs h; b.l c ys e⟩
theorem Same.kp {H H' : Hp} (s : Same H H') : Kp H H' := ⟨fun b xs h => s b _ h, fun b xs h => ⟨xs, s b _ h⟩⟩
theorem z03 {H : Hp} {p : Addr} (h : H p = none) (o : HO) : Same H (upd H p o) := fun b u q => by rw [z0q (z12 q h)]; exact q
theorem Kp.new {H : Hp} {p : Addr} (h : H p = none) (o : HO) : Kp H (upd H p o) := (z03 h o).kp
theorem Kp.set {H : Hp} {p : Addr} {xs ys : List V} (h : H p = some (.lst xs)) : Kp H (upd H p (.lst ys)) :=
 ⟨fun b zs e => by rw [z0q (zh5 e h (by intro z; cases z))]; exact e, fun b zs e => by
  by_cases hb : b = p
  ·subst hb; exact ⟨ys, z02⟩
  ·exact ⟨zs, by rw [z0q hb]; exact e⟩⟩
mutual
theorem Dt.kp {H H' : Hp} (k : Kp H H') : ∀ {v : V} {d : Dm}, Dt H v d → Dt H' v d
 | _, _, .non => .non
 | _, _, .bl b => .bl b
 | _, _, .int i => .int i
 | _, _, .str x => .str x
 | _, _, .tup e r => .tup (k.t _ _ e) (DtA.kp k r)
 | _, _, .lst e => let ⟨_, e'⟩ := k.l _ _ e; .lst e'
theorem DtA.kp {H H' : Hp} (k : Kp H H') : ∀ {xs : List V} {ds : List Dm}, DtA H xs ds → DtA H' xs ds
 | _, _, .nil => .nil
 | _, _, .cons r t => .cons (Dt.kp k r) (DtA.kp k t)
end
theorem DtA.length {H : Hp} : ∀ {xs : List V} {ds : List Dm}, DtA H xs ds → xs.length = ds.length
 | _, _, .nil => rfl
 | _, _, .cons _ t => by rw [List.length_cons, List.length_cons, DtA.length t]
theorem DtA.append {H : Hp} : ∀ {xs ys : List V} {ds es : List Dm}, DtA H xs ds → DtA H ys es → DtA H (xs ++ ys) (ds ++ es)
 | _, _, _, _, .nil, h => h
 | _, _, _, _, .cons r t, h => .cons r (DtA.append t h)
theorem DtA.get {H : Hp} : ∀ {xs : List V} {ds : List Dm} {i : Nat} {x : V}, DtA H xs ds → xs[i]? = some x → ∃ d, ds[i]? = some d ∧ Dt H x d
 | _, _, _, _, .nil, e => by simp at e
 | _, _, 0, _, .cons r _, e => by simp at e; subst e; exact ⟨_, rfl, r⟩
 | _, _, i + 1, x, .cons _ t, e => by
  obtain ⟨d, h1, h2⟩ := DtA.get (i := i) (x := x) t (by simpa using e)
  exact ⟨d, by simpa using h1, h2⟩
theorem Dt.tupI {H : Hp} {v : V} {ds : List Dm} (h : Dt H v (.tup ds)) : ∃ a xs, v = .ref a ∧ H a = some (.tup xs) ∧ DtA H xs ds := by
 cases h with
 | tup e r => exact ⟨_, _, rfl, e, r⟩
end L2
set_option Elab.async false
set_option linter.all false
set_option maxRecDepth 100000
namespace L2
open PySem PySem.Spec PyProof.Rows
section
variable {X : Cx}
def zx6 (K : PySem.W.Frag) : List V → Hp → VK → Prop := fun xs H Q => ∃ (a : Addr) (ns : List Int), xs = [.ref a] ∧ SqL K H a (ns.map V.int) ∧ 0 < ns.length ∧ ∀ M, M ∈ ns → (∀ a ∈ ns, M ≤ a) → Q (.int M) H
def zx7 (K : PySem.W.Frag) : List V → Hp → VK → Prop := fun xs H Q => ∃ (a : Addr) (ns : List Int), xs = [.ref a] ∧ SqL K H a (ns.map V.int) ∧ 0 < ns.length ∧ ∀ M, M ∈ ns → (∀ a ∈ ns, a ≤ M) → Q (.int M) H
def zrh (K : PySem.W.Frag) : List V → Hp → VK → Prop := fun xs H Q => ∃ (a : Addr) (ns : List Int), xs = [.ref a] ∧ SqL K H a (ns.map V.int) ∧ ns.length < 64 ∧ ∀ (l : Addr) (ms : List Int), H l = none → ms.Perm ns → ms.Pairwise (· ≤ ·) → Q (.ref l) (upd H l (.lst (ms.map V.int)))
def q2i (t ta tb : TT) : TT := fun σ H Q => t σ H fun c H1 => if c = true then ta σ H1 Q else tb σ H1 Q
mutual
def Dm.dat : Dm → PyData
 | .non => .none
 | .bl b => .bool b
 | .int i => .int i
 | .str x => .str x
 | .tup ds => .tuple (zeh ds)
 | .lst => .none
def zeh : List Dm → List PyData
 | [] => []
 | d :: ds => d.dat :: zeh ds
end
mutual
def Dm.shut : Dm → Bool
 | .tup ds => zgz ds
 | .lst => false
 | .str x => PyData.strOk x
 | _ => true
def zgz : List Dm → Bool
 | [] => true
 | d :: ds => d.shut && zgz ds
end
mutual
theorem Dt.reads {pins : List (Addr × Obj)} {σ : St} {H : Hp} {s : Shared} (I : Inv X pins σ H s) : ∀ {x : V} {d : Dm} {u : Value}, Dt H x d → d.shut = true → RelV x u → ∃ as, Reads s.heap u d.dat as
 | _, _, _, .non, _, r => by cases r; exact ⟨_, .none⟩
 | _, _, _, .bl b, _, r => by cases r; exact ⟨_, .bool b⟩
 | _, _, _, .int i, _, r => by obtain ⟨t, rfl⟩ := r; exact ⟨_, .int i t⟩
 | _, _, _, .str x, _, r => by obtain ⟨t, rfl⟩ := r; exact ⟨_, .str x t⟩
 | _, _, _, .tup e ra, hs, r => by
  cases r
  obtain ⟨its, rv, ⟨o, ho, hc, n, hd⟩, _⟩ := I.tuple (SqT.of e)
  obtain ⟨as, q⟩ := DtA.reads I ra (by simpa [Dm.shut] using hs) rv
  exact ⟨as, by rw [Dm.dat]; exact .tuple ho hc hd (by simpa using q)⟩
 | _, _, _, .lst _, hs, _ => absurd hs (by simp [Dm.shut])
theorem DtA.reads {pins : List (Addr × Obj)} {σ : St} {H : Hp} {s : Shared} (I : Inv X pins σ H s) : ∀ {xs : List V} {ds : List Dm} {us : List Value}, DtA H xs ds → zgz ds = true → Vals xs us → ∃ as, ReadsAll s.heap us (zeh ds) as
 | _, _, _, .nil, _, .nil => ⟨[], by rw [zeh]; exact .nil⟩
 | _, _, _, .cons r t, hs, .cons rv rt => by
  rw [zgz, Bool.and_eq_true] at hs
  obtain ⟨as, q1⟩ := Dt.reads I r hs.1 rv
  obtain ⟨bs, q2⟩ := DtA.reads I t hs.2 rt
  exact ⟨as ++ bs, by rw [zeh]; exact .cons q1 q2⟩
end
def EqD (H : Hp) (x y : V) (b : Bool) : Prop := ∃ d e, Dt H x d ∧ Dt H y e ∧ (d.shut = true ∧ SeqAt.shaped d.dat = true) ∧ (e.shut = true ∧ SeqAt.shaped e.dat = true) ∧ b = PyData.eqv d.dat e.dat
def q26 (_ : PySem.W.Frag) : R2 := fun x y H Q => ∃ b, EqD H x y b ∧ Q (.bl b) H
def q23 (_ : PySem.W.Frag) : R2 := fun x y H Q => ∃ b, EqD H x y b ∧ Q (.bl (!b)) H
theorem dEq (hu : X.A.units + 64 < cLine) : OpR X (compareOp .Eq) (q26 X.K) := by
 intro pins s σ H x y v u Q I rx ry h
 obtain ⟨b, ⟨d, e, dx, dy, ⟨s1, s2⟩, ⟨s3, s4⟩, rfl⟩, q⟩ := h
 obtain ⟨as, ra⟩ := Dt.reads I dx s1 rx
 obtain ⟨bs, rb⟩ := Dt.reads I dy s3 ry
 exact eq_dataH ra rb s2 s4 hu ⟨.bl _, H, I, rfl, q⟩
theorem dNe (hu : X.A.units + 64 < cLine) : OpR X (compareOp .NotEq) (q23 X.K) := by
 intro pins s σ H x y v u Q I rx ry h
 obtain ⟨b, ⟨d, e, dx, dy, ⟨s1, s2⟩, ⟨s3, s4⟩, rfl⟩, q⟩ := h
 obtain ⟨as, ra⟩ := Dt.reads I dx s1 rx
 obtain ⟨bs, rb⟩ := Dt.reads I dy s3 ry
 exact ne_dataH ra rb s2 s4 hu ⟨.bl _, H, I, rfl, q⟩
end
end L2
set_option Elab.async false
set_option linter.all false
set_option maxRecDepth 100000
namespace L2
open PySem PySem.Spec PyProof.Rows
section
variable {κ : Type} [DecidableEq κ]
def zki (kvs : List (κ × V)) (k : κ) : Option V := (kvs.find? fun kv => decide (kv.1 = k)).map (·.2)
def zn1 (kvs : List (κ × V)) (k : κ) (v : V) : List (κ × V) :=
 if (kvs.any fun kv => decide (kv.1 = k)) = true then kvs.map (fun kv => if kv.1 = k then (kv.1, v) else kv) else kvs ++ [(k, v)]
def q12 (kvs : List (κ × V)) (k : κ) : List (κ × V) := kvs.filter fun kv => decide (kv.1 ≠ k)
theorem zgc {p : κ × V} {r : List (κ × V)} {k : κ} (e : p.1 = k) : zki (p :: r) k = some p.2 := by simp [zki, List.find?_cons, e]
theorem zd8 {p : κ × V} {r : List (κ × V)} {k : κ} (e : ¬ p.1 = k) : zki (p :: r) k = zki r k := by simp [zki, List.find?_cons, e]
theorem zo6 (k : κ) : ∀ kvs : List (κ × V), (kvs.any fun kv => decide (kv.1 = k)) = (zki kvs k).isSome
 | [] => rfl
 | p :: r => by
  rw [List.any_cons]
  by_cases e : p.1 = k
  ·simp only [zgc e, decide_eq_true e, Bool.true_or, Option.isSome_some]
  ·rw [zd8 e, decide_eq_false e, Bool.false_or]; exact zo6 k r
theorem zhb (kvs : List (κ × V)) (k : κ) (v : V) : (zn1 kvs k v).length ≤ kvs.length + 1 := by
 unfold zn1
 split
 ·rw [List.length_map]; omega
 ·rw [List.length_append, List.length_cons, List.length_nil]; omega
theorem RelO.isSome_eq {o : Option V} {u : Option Value} (r : RelO o u) : o.isSome = u.isSome := by
 cases o with
 | none => cases u with
  | none => rfl
  | some _ => exact (show False from r).elim
 | some _ => cases u with
  | none => exact (show False from r).elim
  | some _ => rfl
theorem RelO.getD {o : Option V} {u : Option Value} {d : V} {d' : Value} (r : RelO o u) (rd : RelV d d') : RelV (o.getD d) (u.getD d') := by
 cases o with
 | none => cases u with
  | none => exact rd
  | some _ => exact (show False from r).elim
 | some _ => cases u with
  | none => exact (show False from r).elim
  | some _ => exact r
theorem KV.val {kvs : List (κ × V)} {vs : List (κ × Value)} (r : KV kvs vs) (k : κ) : RelO (zki kvs k) (valueAt vs k) := by
 unfold KV at r
 induction r with
 | nil => exact True.intro
 | @cons p q ps qs h t ih =>
  obtain ⟨h1, h2⟩ := h
  by_cases e : p.1 = k
  ·have e' : q.1 = k := h1.symm.trans e
   have b : valueAt (q :: qs) k = some q.2 := by simp [valueAt, List.find?_cons, e']
   rw [zgc e, b]; exact h2
  ·have e' : ¬ q.1 = k := fun z => e (h1.trans z)
   have b : valueAt (q :: qs) k = valueAt qs k := by simp [valueAt, List.find?_cons, e']
   rw [zd8 e, b]; exact ih
theorem KV.any {kvs : List (κ × V)} {vs : List (κ × Value)} (r : KV kvs vs) (k : κ) : (kvs.any fun kv => decide (kv.1 = k)) = vs.any fun kv => decide (kv.1 = k) := by
 unfold KV at r
 induction r with
 | nil => rfl
 | cons h t ih => rw [List.any_cons, List.any_cons, ih, h.1]
theorem KV.repl {kvs : List (κ × V)} {vs : List (κ × Value)} (r : KV kvs vs) (k : κ) {y : V} {u : Value} (ry : RelV y u) :
  KV (kvs.map fun kv => if kv.1 = k then (kv.1, y) else kv) (vs.map fun kv => if kv.1 = k then (kv.1, u) else kv) := by
 unfold KV at r ⊢
 induction r with
 | nil => exact .nil
 | @cons p q ps qs h t ih =>
  rw [List.map_cons, List.map_cons]
  refine .cons ?_ ih
  obtain ⟨h1, h2⟩ := h
  by_cases e : p.1 = k
  ·rw [if_pos e, if_pos (h1.symm.trans e)]; exact ⟨h1, ry⟩
  ·rw [if_neg e, if_neg (fun z => e (h1.trans z))]; exact ⟨h1, h2⟩
theorem KV.put {kvs : List (κ × V)} {vs : List (κ × Value)} (r : KV kvs vs) (k : κ) {y : V} {u : Value} (ry : RelV y u) : KV (zn1 kvs k y) (stored vs k u) := by
 unfold zn1 stored
 rw [r.any k]
 by_cases e : (vs.any fun kv => decide (kv.1 = k)) = true
 ·rw [if_pos e, if_pos e]; exact r.repl k ry
 ·rw [if_neg e, if_neg e]; exact Paired.snoc r ⟨rfl, ry⟩
theorem KV.drop {kvs : List (κ × V)} {vs : List (κ × Value)} (r : KV kvs vs) (k : κ) : KV (q12 kvs k) (without vs k) := by
 unfold KV at r ⊢
 unfold q12 without
 induction r with
 | nil => exact .nil
 | @cons p q ps qs h t ih =>
  obtain ⟨h1, h2⟩ := h
  rw [List.filter_cons, List.filter_cons]
  by_cases e : p.1 = k
  ·have a : ¬ decide (p.1 ≠ k) = true := by simp [e]
   have b : ¬ decide (q.1 ≠ k) = true := by simp [h1.symm.trans e]
   rw [if_neg a, if_neg b]; exact ih
  ·have e' : ¬ q.1 = k := fun z => e (h1.trans z)
   have a : decide (p.1 ≠ k) = true := by simp [e]
   have b : decide (q.1 ≠ k) = true := by simp [e']
   rw [if_pos a, if_pos b]; exact .cons ⟨h1, h2⟩ ih
theorem KV.keys {kvs : List (κ × V)} {vs : List (κ × Value)} (r : KV kvs vs) : kvs.map (·.1) = vs.map (·.1) := by
 unfold KV at r
 induction r with
 | nil => rfl
 | cons h t ih => rw [List.map_cons, List.map_cons, ih, h.1]
theorem KV.length {kvs : List (κ × V)} {vs : List (κ × Value)} (r : KV kvs vs) : kvs.length = vs.length := Paired.length r
end
theorem zva {P : Program} {w : World} {k : Key} {u : Value} (r : RelV (kV k) u) : (z20 P w).is k u = true := by
 cases k with
 | inl i => obtain ⟨t, e⟩ := (show ∃ t, u = Value.int i t from r); subst e; exact znj P w i t
 | inr x => obtain ⟨t, e⟩ := (show ∃ t, u = Value.str x t from r); subst e; exact zni P w x t
theorem zlj {P : Program} {w : World} : ∀ {ks : List Key} {us : List Value}, Vals (ks.map kV) us → ItemsAre (z20 P w) ks us
 | [], _, r => by rw [List.map_nil] at r; cases r; exact .nil
 | k :: ks, _, r => by
  rw [List.map_cons] at r
  cases r with
  | cons h t => exact .cons (zva h) (zlj t)
abbrev KT (H : Hp) : List (List Key × V) → List (List Key × Addr × Value) → Prop := Paired fun p q => p.1 = q.1 ∧ H q.2.1 = some (.tup (p.1.map kV)) ∧ RelV p.2 q.2.2
theorem KT.val {H : Hp} {kvs : List (List Key × V)} {xs : List (List Key × Addr × Value)} (r : KT H kvs xs) (k : List Key) : RelO (zki kvs k) ((atKey xs k).map (·.2)) := by
 induction r with
 | nil => exact True.intro
 | @cons p q ps qs h t ih =>
  obtain ⟨h1, _, h2⟩ := h
  by_cases e : p.1 = k
  ·have e' : q.1 = k := h1.symm.trans e
   have b : atKey (q :: qs) k = some q.2 := by simp [atKey, List.find?_cons, e']
   rw [zgc e, b]; exact h2
  ·have e' : ¬ q.1 = k := fun z => e (h1.trans z)
   have b : atKey (q :: qs) k = atKey qs k := by simp [atKey, List.find?_cons, e']
   rw [zd8 e, b]; exact ih
theorem KT.repl {H : Hp} {kvs : List (List Key × V)} {xs : List (List Key × Addr × Value)} (r : KT H kvs xs) (k : List Key) {y : V} {u : Value} (ry : RelV y u) :
  KT H (kvs.map fun kv => if kv.1 = k then (kv.1, y) else kv) (xs.map (putAt k u)) := by
 induction r with
 | nil => exact .nil
 | @cons p q ps qs h t ih =>
  rw [List.map_cons, List.map_cons]
  refine .cons ?_ ih
  obtain ⟨h1, h2, h3⟩ := h
  unfold putAt
  by_cases e : p.1 = k
  ·rw [if_pos e, if_pos (h1.symm.trans e)]; exact ⟨h1, h2, ry⟩
  ·rw [if_neg e, if_neg (fun z => e (h1.trans z))]; exact ⟨h1, h2, h3⟩
theorem KT.put {H : Hp} {kvs : List (List Key × V)} {xs : List (List Key × Addr × Value)} (r : KT H kvs xs) (k : List Key) {b : Addr} {y : V} {u : Value} (hb : H b = some (.tup (k.map kV))) (ry : RelV y u) :
  KT H (zn1 kvs k y) (storedH xs k b u) := by
 have e : (kvs.any fun kv => decide (kv.1 = k)) = (atKey xs k).isSome := by
  rw [zo6, (r.val k).isSome_eq, Option.isSome_map]
 unfold zn1 storedH
 rw [e]
 by_cases q : (atKey xs k).isSome = true
 ·rw [if_pos q, if_pos q]; exact r.repl k ry
 ·rw [if_neg q, if_neg q]; exact Paired.snoc r ⟨rfl, hb, ry⟩
theorem KT.keeps {H H' : Hp} {kvs : List (List Key × V)} {xs : List (List Key × Addr × Value)} (r : KT H kvs xs) (ht : ∀ b ys, H b = some (.tup ys) → H' b = some (.tup ys)) : KT H' kvs xs :=
 Paired.mapP r fun _ _ z => ⟨z.1, ht _ _ z.2.1, z.2.2⟩
section
variable {P : Program} {w : World} {H : Hp} {h : Heap} {a : Addr}
theorem zzp {u : HO} (ok : HOk P w H h) (e : Rd H a u) : ObjOk P w H h a u := e.ok ok
theorem zsy {kvs : List (Key × V)} (ok : HOk P w H h) (e : Rd H a (.dK kvs)) : kvs.length ≤ sizeLine ∧ (a == sysModules) = false ∧ ∃ vs, KV kvs vs ∧ h.DictOf (z20 P w) a vs :=
 show ObjOk P w H h a (.dK kvs) from zzp ok e
theorem zyd {kvs : List (Key × V)} (ok : HOk P w H h) (e : H a = some (.dK kvs)) : kvs.length ≤ sizeLine ∧ (a == sysModules) = false ∧ ∃ vs, KV kvs vs ∧ h.DictOf (z20 P w) a vs := zsy ok (.inl e)
theorem zlg {ks : List Key} (ok : HOk P w H h) (e : H a = some (.tup (ks.map kV))) : (tupleKind (z20 P w)).is h ks a := by
 obtain ⟨_, its, r, o, h1, h2, n, h3⟩ := (show ObjOk P w H h a (.tup (ks.map kV)) from ok a _ e)
 exact ⟨o, its.toArray, n, h1, h2, h3, by simpa using zlj r⟩
theorem zsw {kvs : List (List Key × V)} (ok : HOk P w H h) (e : Rd H a (.dT kvs)) : kvs.length ≤ sizeLine ∧ (a == sysModules) = false ∧
  ∃ xs, KT H kvs xs ∧ h.DictOfH (tupleKind (z20 P w)) a xs := by
 obtain ⟨z, y, xs, r, o, es, ep, h1, h2, h3, h4, h5⟩ := (show ObjOk P w H h a (.dT kvs) from zzp ok e)
 refine ⟨z, y, xs, r, o, es, ep, h1, h2, h3, h4, fun x hx => ?_, h5⟩
 have all : ∀ {l : List (List Key × V)} {m : List (List Key × Addr × Value)}, KT H l m → ∀ x ∈ m, (tupleKind (z20 P w)).is h x.1 x.2.1 := by
  intro l m q
  induction q with
  | nil => intro x hx; exact nomatch hx
  | @cons p q ps qs hq t ih =>
   intro x hx
   rcases List.mem_cons.mp hx with e | hx
   ·subst e
    exact zlg ok (by rw [← hq.1]; exact hq.2.1)
   ·exact ih x hx
 exact all r x hx
theorem q30 {kvs : List (List Key × V)} (ok : HOk P w H h) (e : H a = some (.dT kvs)) : kvs.length ≤ sizeLine ∧ (a == sysModules) = false ∧
  ∃ xs, KT H kvs xs ∧ h.DictOfH (tupleKind (z20 P w)) a xs := zsw ok (.inl e)
end
def DGet (H : Hp) (a : Addr) (y : V) (r : Option V) : Prop :=
 (∃ kvs k, Rd H a (.dK kvs) ∧ y = kV k ∧ r = zki kvs k) ∨ ∃ kvs k b, Rd H a (.dT kvs) ∧ y = .ref b ∧ H b = some (.tup (k.map kV)) ∧ r = zki kvs k
def DPut (H : Hp) (a : Addr) (y v : V) (H' : Hp) : Prop :=
 (∃ kvs k, H a = some (.dK kvs) ∧ y = kV k ∧ kvs.length < sizeLine ∧ H' = upd H a (.dK (zn1 kvs k v))) ∨
 ∃ kvs k b, H a = some (.dT kvs) ∧ y = .ref b ∧ H b = some (.tup (k.map kV)) ∧ kvs.length < sizeLine ∧ H' = upd H a (.dT (zn1 kvs k v))
theorem DGet.k {H : Hp} {a : Addr} {kvs : List (Key × V)} {k : Key} (e : H a = some (.dK kvs)) : DGet H a (kV k) (zki kvs k) := .inl ⟨kvs, k, .inl e, rfl, rfl⟩
theorem DGet.t {H : Hp} {a b : Addr} {kvs : List (List Key × V)} {k : List Key} (e : H a = some (.dT kvs)) (eb : H b = some (.tup (k.map kV))) : DGet H a (.ref b) (zki kvs k) := .inr ⟨kvs, k, b, .inl e, rfl, eb, rfl⟩
theorem DPut.k {H : Hp} {a : Addr} {kvs : List (Key × V)} {k : Key} {v : V} (e : H a = some (.dK kvs)) (hl : kvs.length < sizeLine) : DPut H a (kV k) v (upd H a (.dK (zn1 kvs k v))) := .inl ⟨kvs, k, e, rfl, hl, rfl⟩
theorem DPut.t {H : Hp} {a b : Addr} {kvs : List (List Key × V)} {k : List Key} {v : V} (e : H a = some (.dT kvs)) (eb : H b = some (.tup (k.map kV))) (hl : kvs.length < sizeLine) :
  DPut H a (.ref b) v (upd H a (.dT (zn1 kvs k v))) := .inr ⟨kvs, k, b, e, rfl, eb, hl, rfl⟩
section
variable {X : Cx} {pins : List (Addr × Obj)} {σ : St} {H : Hp} {s : Shared} {a : Addr} {y v : V} {u r : Value} {o : Option V} {A : Around} {E : Value → Shared → Prop}
theorem Inv.big (I : Inv X pins σ H s) : sysModules < s.heap.objs.size := by
 have h : mainGlobals < s.heap.objs.size := (I.mod.glob.keeps I.bk).lt
 exact Nat.lt_trans (by decide) h
theorem ztc {Q : Value → Shared → Prop} (hu : A.units + 1 < cLine) (I : Inv X pins σ H s) (g : DGet H a y (some v)) (ry : RelV y u) (h : ∀ w' s', Inv X pins σ H s' → RelV v w' → Q w' s') :
  wpAny (model X.prog X.w) A (getItem (.ref a) u) Q E s := by
 rcases g with ⟨kvs, k, e, ey, l⟩ | ⟨kvs, k, b, e, ey, eb, l⟩
 ·subst ey
  obtain ⟨z, hd, vs, rel, dd⟩ := zsy I.hok e
  obtain ⟨w', hw, rw'⟩ := RelO.some_of (v := v) (o := valueAt vs k) (by rw [l]; exact rel.val k)
  exact wpAny_getItem_of (zva ry) dd.mapOf hw (h w' _ (I.tok _) rw')
 ·subst ey
  cases (show u = Value.ref b from ry)
  obtain ⟨z, hd, xs, rel, dd⟩ := zsw I.hok e
  obtain ⟨w', hw, rw'⟩ := RelO.some_of (v := v) (o := (atKey xs k).map (·.2)) (by rw [l]; exact rel.val k)
  obtain ⟨p, hp, hp2⟩ := Option.map_eq_some_iff.mp hw
  refine wpAny_getItem_heap (tupleKind_room_in1 hu) (zlg I.hok eb) dd hp ?_
  rw [hp2]
  exact h w' _ (I.tok _) rw'
theorem zta {h' : Heap} {t' : Nat} {ob : HO} (I : Inv X pins σ H s) (mu : Mut (H a)) (hs : Heap.SameBut a s.heap h') (he : ∃ q, h'.get? a = some q) (new : ObjOk X.prog X.w (upd H a ob) h' a ob) :
  Inv X pins σ (upd H a ob) { s with heap := h', toks := t' } :=
 I.write (x := a) (e := a) mu (.inl rfl) (fun b q hb z => (hs.2 b hb).trans z) he new
theorem q14 {P : Program} {w : World} {H' : Hp} {h' : Heap} {kvs : List (Key × V)} {vs : List (Key × Value)} (z : kvs.length ≤ sizeLine) (hd : (a == sysModules) = false) (rel : KV kvs vs) (dd : h'.DictOf (z20 P w) a vs) :
  ObjOk P w H' h' a (.dK kvs) := ⟨z, hd, vs, rel, dd⟩
theorem ztb {H' : Hp} {Q : Unit → Shared → Prop} (hu : A.units + 1 < cLine) (I : Inv X pins σ H s) (g : DPut H a y v H') (ry : RelV y u) (rv : RelV v r) (h : ∀ s', Inv X pins σ H' s' → Q () s') :
  wpAny (model X.prog X.w) A (setItem (.ref a) u r) Q E s := by
 rcases g with ⟨kvs, k, e, ey, l, eH⟩ | ⟨kvs, k, b, e, ey, eb, l, eH⟩
 ·subst ey eH
  obtain ⟨z, hd, vs, rel, dd⟩ := zyd I.hok e
  have hz : vs.length ≤ sizeLine := by rw [← rel.length]; exact z
  have hl : (zn1 kvs k v).length ≤ sizeLine := by have := zhb kvs k v; omega
  refine wpAny_setItem_pairs (hsz := hz) (zva ry) dd fun h' dd' hs => h _ ?_
  have he : ∃ q, h'.get? a = some q := let ⟨q, _, _, hq, _⟩ := dd'; ⟨q, hq⟩
  exact zta I (by rw [e]; exact True.intro) hs he (q14 hl hd (rel.put k rv) dd')
 ·subst ey eH
  cases (show u = Value.ref b from ry)
  obtain ⟨z, hd, xs, rel, dd⟩ := q30 I.hok e
  have hz : xs.length ≤ sizeLine := by rw [← Paired.length rel]; exact z
  have hl : (zn1 kvs k v).length ≤ sizeLine := by have := zhb kvs k v; omega
  refine wpAny_setItem_heap (hsz := hz) (tupleKind_room_in1 hu) (zlg I.hok eb) dd fun h' dd' hs => h _ ?_
  obtain ⟨q, es, ep, hq, h2, h3, h4, _, h5⟩ := dd'
  refine zta I (by rw [e]; exact True.intro) hs ⟨q, hq⟩ ⟨hl, hd, _, (rel.put k eb rv).keeps fun c ys ec => ?_, q, es, ep, hq, h2, h3, h4, h5⟩
  rw [z0q (zh5 ec e (fun z => nomatch z))]
  exact ec
end
section
variable {X : Cx} {pins : List (Addr × Obj)} {σ : St} {H : Hp} {s : Shared} {a : Addr} {kvs : List (Key × V)} {k : Key} {u : Value} {A : Around} {E : Value → Shared → Prop}
end
def q3q (i : Expr) : Prop := ∀ ov iv, subscripted i false ov iv = operate [ov, iv] (getItem ov iv)
theorem zx0 {prog : Program} {w : World} {A : Around} {E : Value → Shared → Prop} {s : Shared} {env : Env} {value slice : Expr} {pos : Pos} {T id : String} {Q : Value → Shared → Prop}
  (hl : typeLookup (.type T) "__getitem__" = pure (some (.builtin id))) (hs : q3q slice)
  (h : wpAny (model prog w) A (eval value env) (fun o s₁ => wpAny (model prog w) A (eval slice env) (fun i s₂ => s₂.TypeIs o T ∧ wpAny (model prog w) A (getItem o i) Q E s₂) E s₁) E s) :
  wpAny (model prog w) A (eval (.Subscript value slice pos) env) Q E s := by
 refine Subscript_ (wpAny_mono h (fun o s₁ h₁ => wpAny_mono h₁ (fun i s₂ h₂ => ?_) fun _ _ x => x) fun _ _ x => x)
 obtain ⟨hT, h₂⟩ := h₂
 unfold subscriptTail
 refine wpAny_bind ?_
 rw [getitemInPython_of_ne hT.not_modules]
 refine wpAny_bind (wpAny_specialOf hT hl ?_)
 have fin : wpAny (model prog w) A (subscripted slice false o i) (fun r s₃ => wpAny (model prog w) A (letTemporaryGo value o r >>= fun _ => pure r) Q E s₃) E s₂ := by
  rw [hs o i]
  exact wpAny_operating (wpAny_mono h₂ (fun r s₃ h₃ => wpAny_bind (wpAny_letTemporaryGo (wpAny_pure h₃))) fun _ _ x => x)
 first
  | exact wpAny_pure (wpAny_bind fin)
  | exact wpAny_bind (wpAny_pure (wpAny_bind fin))
  | exact wpAny_bind fin
theorem znt {X : Cx} {pins : List (Addr × Obj)} {σ : St} {H : Hp} {s : Shared} {a : Addr} {y : V} {o : Option V} (I : Inv X pins σ H s) (g : DGet H a y o) : s.TypeIs (.ref a) "dict" := by
 rcases g with ⟨kvs, k, e, _, _⟩ | ⟨kvs, k, b, e, _, _, _⟩
 ·obtain ⟨_, _, vs, _, dd⟩ := zsy I.hok e
  exact dd.typeIs
 ·obtain ⟨_, _, xs, _, dd⟩ := zsw I.hok e
  exact dd.typeIs
def zue (td ty : TE) : TE := fun σ H Q => td σ H fun x H1 => ty σ H1 fun y H2 => ∃ a v, x = .ref a ∧ DGet H2 a y (some v) ∧ Q v H2
def zui (td ty tv : TE) : TS := fun D σ H => tv σ H fun v H1 => td σ H1 fun x H2 => ty σ H2 fun y H3 => ∃ a H4, x = .ref a ∧ DPut H3 a y v H4 ∧ D.nx σ H4
section
variable {X : Cx} {o i e value : Expr} {pos pos' tpos : Pos} {td ty tv : TE}
theorem zxc (hu : X.A.units + 1 < cLine) (ho : PE X o td) (hi : PE X i ty) (hs : q3q i) : PE X (.Subscript o i pos) (zue td ty) := by
 intro pins s σ H Q I h
 refine zx0 PySem.F.slot_dict_getitem.lookup hs (thn (ho pins s σ H _ I h) fun u s1 ⟨x, H1, I1, rx, q1⟩ => thn (hi pins s1 σ H1 _ I1 q1) fun iv s2 ⟨y, H2, I2, ry, a, v, ex, g, q2⟩ => ?_)
 subst ex
 obtain rfl : u = Value.ref a := rx
 exact ⟨znt I2 g, ztc hu I2 g ry fun w' s3 I3 rw' => ⟨v, H2, I3, rw', q2⟩⟩
theorem zrk (hu : X.A.units + 1 < cLine) (ho : PE X o td) (hi : PE X i ty) (hv : PE X value tv) (hs : swapsWith value (some (.Subscript o i pos')) pos.line X.env = pure false) :
  PS X (.Assign [.Subscript o i pos'] value pos) (zui td ty tv) := by
 intro pins s σ H D I h
 refine wpAny_Assign_Subscript (thn (hv pins s σ H _ I h) fun r s1 ⟨v, H1, I1, rv, q1⟩ => thn (ho pins s1 σ H1 _ I1 q1) fun u s2 ⟨x, H2, I2, rx, q2⟩ => thn (hi pins s2 σ H2 _ I2 q2) fun iv s3 ⟨y, H3, I3, ry, a, H4, ex, g, q3⟩ => ?_) hs
 subst ex
 obtain rfl : u = Value.ref a := rx
 exact ztb hu I3 g ry rv fun s4 I4 => ⟨σ, H4, I4, q3⟩
end
theorem zvj {P : Program} {w : World} {H : Hp} (h : Heap) (hb : sysModules < h.objs.size) : ObjOk P w H (h.push { cls := .type "dict", data := .dict #[] }) h.objs.size (.dK []) :=
 ⟨Nat.zero_le _, beq_eq_false_iff_ne.mpr (Ne.symm (Nat.ne_of_lt hb)), [], .nil, Heap.DictOf.new h⟩
def zo9 : TE := fun _ H Q => ∀ p, H p = none → Q (.ref p) (upd H p (.dK []))
section
variable {X : Cx} {pos : Pos}
theorem zuu : PE X (.Dict [] [] pos) zo9 := fun pins s σ H Q I h =>
 wpAny_Dict_empty ⟨.ref s.heap.objs.size, _, I.laid (a := s.heap.objs.size) (o := .dK []) (t' := s.toks) (fun _ _ q => Heap.get?_push_of_some _ q) (Nat.le_refl _) (zvj s.heap I.big), rfl, h _ (I.hok.fresh (Nat.le_refl _))⟩
end
def zkn : List (TE × TE) → St → Hp → (List (V × V) → Hp → Prop) → Prop
 | [], _, H, Q => Q [] H
 | (tk, tv) :: r, σ, H, Q => tk σ H fun x H1 => tv σ H1 fun y H2 => zkn r σ H2 fun ps H3 => Q ((x, y) :: ps) H3
def q0g (kvs more : List (Key × V)) : List (Key × V) := more.foldl (fun acc kv => zn1 acc kv.1 kv.2) kvs
def zwy (trs : List (TE × TE)) : TE := fun σ H Q => ∀ p, H p = none → zkn trs σ (upd H p (.dK [])) fun ps H2 => H2 p = some (.dK []) ∧ ∃ kvs : List (Key × V), ps = kvs.map (fun kv => (kV kv.1, kv.2)) ∧ kvs.length ≤ 15 ∧ Q (.ref p) (upd H2 p (.dK (q0g [] kvs)))
structure M1 (X : Cx) (o : Expr) (m : Str) (apos : Pos) (e : Expr) (cpos : Pos) : Prop where
 base : attributeBase o m X.env (eval o X.env) = eval o X.env
 few : ((backTo cpos (starEach [e] X.env)).all (fun x => !x.1) && (backToKw cpos (keywordEach [] X.env)).all (fun x => x.1.isSome)
  && decide (([e] : List Expr).length + ([] : List Keyword).length + (if ([] : List Keyword).isEmpty then 0 else 1) < 30)) = true
 line : (apos.endLine == cpos.line) = true
 trees : backTo cpos (starEach [e] X.env) = [(false, eval e X.env)]
structure M2 (X : Cx) (o : Expr) (m : Str) (apos : Pos) (e f : Expr) (cpos : Pos) : Prop where
 base : attributeBase o m X.env (eval o X.env) = eval o X.env
 few : ((backTo cpos (starEach [e, f] X.env)).all (fun x => !x.1) && (backToKw cpos (keywordEach [] X.env)).all (fun x => x.1.isSome)
  && decide (([e, f] : List Expr).length + ([] : List Keyword).length + (if ([] : List Keyword).isEmpty then 0 else 1) < 30)) = true
 line : (apos.endLine == cpos.line) = true
 trees : backTo cpos (starEach [e, f] X.env) = [(false, eval e X.env), (false, eval f X.env)]
def IsD (H : Hp) (a : Addr) : Prop := (∃ kvs, Rd H a (.dK kvs)) ∨ ∃ kvs, Rd H a (.dT kvs)
theorem zwd {X : Cx} {pins : List (Addr × Obj)} {σ : St} {H : Hp} {s : Shared} {a : Addr} (I : Inv X pins σ H s) (d : IsD H a) :
  s.TypeIs (.ref a) "dict" ∧ (∀ b, Value.ref a = .ref b → ∃ ob, s.heap.get? b = some ob ∧ ob.dict = none) ∧ (a == sysModules) = false := by
 rcases d with ⟨kvs, e⟩ | ⟨kvs, e⟩
 ·obtain ⟨_, hd, vs, _, dd⟩ := zsy I.hok e
  refine ⟨dd.typeIs, fun b q => ?_, hd⟩
  cases q
  obtain ⟨ob, _, _, h1, h2, _⟩ := dd
  exact ⟨ob, h1, h2.2.1⟩
 ·obtain ⟨_, hd, xs, _, dd⟩ := zsw I.hok e
  refine ⟨dd.typeIs, fun b q => ?_, hd⟩
  cases q
  obtain ⟨ob, _, _, h1, h2, _⟩ := dd
  exact ⟨ob, h1, h2.2.1⟩
section
variable {X : Cx} {pins : List (Addr × Obj)} {σ : St} {H : Hp} {s : Shared} {a : Addr} {y d : V} {u r : Value} {o : Option V} {A : Around} {E : Value → Shared → Prop}
theorem q1a {Q : Value → Shared → Prop} (hu : A.units + 1 < cLine) (I : Inv X pins σ H s) (g : DGet H a y o) (ry : RelV y u) (h : ∀ w' s', Inv X pins σ H s' → RelV (o.getD .non) w' → Q w' s') :
  wpAny (model X.prog X.w) A (call (.builtin "dict.get") [.ref a, u]) Q E s := by
 rcases g with ⟨kvs, k, e, ey, l⟩ | ⟨kvs, k, b, e, ey, eb, l⟩
 ·subst ey
  obtain ⟨z, hd, vs, rel, dd⟩ := zsy I.hok e
  refine call_meetsIn PySem.F.slot_dict_get dd.typeIs PySem.F.entry_dict_get (PySem.F.args_dict_get_2 _ _) (meets_dict_get (z20 X.prog X.w) a (zva ry) hd) ⟨_, dd.mapOf, h _ _ (I.tok _) ?_⟩
  rw [l]
  exact (rel.val k).getD rfl
 ·subst ey
  cases (show u = Value.ref b from ry)
  obtain ⟨z, hd, xs, rel, dd⟩ := zsw I.hok e
  refine call_meetsIn PySem.F.slot_dict_get dd.typeIs PySem.F.entry_dict_get (PySem.F.args_dict_get_2 _ _) (meetsH_dict_get (tupleKind (z20 X.prog X.w)) a b hd) ⟨tupleKind_room_in1 hu, k, xs, zlg I.hok eb, dd, h _ _ (I.tok _) ?_⟩
  rw [l]
  exact (rel.val k).getD rfl
end
def zoa (td ty : TE) : TE := fun σ H Q => td σ H fun x H1 => ∃ a, x = .ref a ∧ IsD H1 a ∧ ty σ H1 fun y H2 => ∃ o, DGet H2 a y o ∧ Q (o.getD .non) H2
def zvx (td ty tx : TE) : TE := fun σ H Q => td σ H fun x H1 => ∃ a, x = .ref a ∧ IsD H1 a ∧ ty σ H1 fun y H2 => tx σ H2 fun z H3 => ∃ o, DGet H3 a y o ∧ Q (o.getD z) H3
section
variable {X : Cx} {o e f : Expr} {apos cpos : Pos} {td ty tx : TE}
theorem zuv (hu : X.A.units + 1 < cLine) (ho : PE X o td) (he : PE X e ty) (m : M1 X o "get" apos e cpos) : PE X (.Call (.Attribute o "get" apos) [e] [] cpos) (zoa td ty) := by
 intro pins s σ H Q I h
 refine wpAny_Call_method m.base m.few m.line PySem.F.plainAttrs_dict PySem.F.slot_dict_get PySem.F.type_dict_get (thn (ho pins s σ H _ I h) fun u s1 ⟨x, H1, I1, rx, a, ex, d, q1⟩ => ?_)
 subst ex
 obtain rfl : u = Value.ref a := rx
 obtain ⟨t1, t2, _⟩ := zwd I1 d
 refine ⟨t1, t2, ?_⟩
 rw [m.trees]
 refine Calls.callWith_builtin rfl (Calls.evalArgs_plain (Calls.spliced_cons (thn (he pins s1 σ H1 _ I1 q1) fun iv s2 ⟨y, H2, I2, ry, ov, g, q2⟩ => Calls.spliced_nil ?_)))
 exact q1a hu I2 g ry fun w' s3 I3 rw' => ⟨_, H2, I3, rw', q2⟩
end
section
variable {X : Cx} {pins : List (Addr × Obj)} {σ : St} {H : Hp} {s : Shared} {a : Addr} {kvs : List (Key × V)} {A : Around} {E : Value → Shared → Prop}
end
section
variable {X : Cx} {pins : List (Addr × Obj)} {σ : St} {H : Hp} {s : Shared} {a : Addr} {y : V} {u : Value} {A : Around} {E : Value → Shared → Prop}
end
end L2
namespace L2
open PySem PySem.Spec PyProof.Rows
section
variable {X : Cx}
end
section
variable {κ : Type} [DecidableEq κ]
end
end L2
set_option Elab.async false
set_option linter.all false
set_option maxRecDepth 100000
namespace L2
open PySem PySem.Spec PyProof.Rows
section
variable {X : Cx}
def q4h (K : PySem.W.Frag) (a : Addr) (f : Int → Option Value) : Prop := ∃ o es ep, K.lookup a = some o ∧ o.ExactDict ∧ o.data = .dict es ep ∧ (∀ e ∈ es, ∃ k, Value.isInt k e.key = true ∧ e.hash = hashInt k) ∧ ∀ k, findBy Value.isInt es k = f k
def zwx (K : PySem.W.Frag) (td ty : TE) : TE := fun σ H Q => td σ H fun x H1 => ty σ H1 fun y H2 => ∃ a k u v f, x = .ref a ∧ y = .int k ∧ q4h K a f ∧ f k = some u ∧ RelV v u ∧ Q v H2
end
end L2
set_option Elab.async false
set_option linter.all false
set_option maxRecDepth 100000
namespace L2
open PySem PySem.Spec PyProof.Rows
section
variable {X : Cx} {pins : List (Addr × Obj)} {σ : List (Option V)} {H : Hp} {s : Shared} {h' : Heap}
theorem Inv.turnedL {t' : Nat} {ch : List Addr} (I : Inv X pins σ H s) (k : ∀ b o, b ∉ ch → s.heap.get? b = some o → h'.get? b = some o) (hf : ∀ b ∈ ch, FpOk X pins H b) : Inv X pins σ H { s with heap := h', toks := t' } := by
 have nit : ∀ b u, H b = some u → b ∉ ch := fun b u e z => by rw [(hf b z).1] at e; cases e
 refine I.step (g' := s.gens) (d' := s.drawn) (ch := ch) (fun b hb => ?_) (fun b o _ _ hc e _ => k b o hc e) (fun b o _ _ hc e _ => ⟨o.slots, k b o hc e⟩) (fun _ _ _ _ n => n)
  (fun b o hc e => ⟨o, k b o hc e⟩) (fun _ _ e => e) (fun _ _ _ e => e) (fun b ps e => ⟨#[], by rw [e]; simp⟩) (fun m hm => ?_) (fun b u e => ?_) I.bare
 ·obtain ⟨_, f1, _, f3, f4, f5⟩ := hf b hb
  exact ⟨f3, f1, f4, f5⟩
 ·obtain ⟨o, es, ep, ho, r⟩ := hm
  exact ⟨o, es, ep, k _ o (fun z => (hf _ z).2.1 rfl) ho, r⟩
 ·refine (I.hok b u e).stay (fun c v hc q => k c v ?_ q) (fun _ q => q) fun _ _ q => q
  rcases hc with z | z
  ·rw [z]; exact nit b u e
  ·exact nit c _ z
end
def Ite (K : PySem.W.Frag) (a : Addr) : It :=
 ⟨fun i H => ∃ xs x, SqL K H a xs ∧ xs[i]? = some x, fun i H x H' => ∃ T v, x = .ref T ∧ H T = none ∧ H' = upd H T (.tup [.int i, v]) ∧ ∀ xs, SqL K H a xs → xs[i]? = some v, fun i H => ∃ xs, SqL K H a xs ∧ xs.length ≤ i⟩
def Itz (K : PySem.W.Frag) (a b : Addr) : It :=
 ⟨fun i H => ∃ xs ys x y, SqL K H a xs ∧ SqL K H b ys ∧ xs[i]? = some x ∧ ys[i]? = some y, fun i H x H' => ∃ T u v, x = .ref T ∧ H T = none ∧ H' = upd H T (.tup [u, v]) ∧ (∀ xs, SqL K H a xs → xs[i]? = some u) ∧ ∀ ys, SqL K H b ys → ys[i]? = some v,
  fun i H => ∃ xs ys, SqL K H a xs ∧ SqL K H b ys ∧ (xs.length ≤ i ∨ ys.length ≤ i)⟩
theorem zqt : (2 : Nat) ≤ sizeLine := by decide
section
variable {X : Cx}
def q2z (K : PySem.W.Frag) (ta : TA) : TI := fun σ H R => ta σ H fun vs H1 => ∃ a, vs = [.ref a] ∧ (∃ xs, SqL K H1 a xs) ∧ R (Ite K a) H1
end
section
variable {X : Cx}
def q48 (K : PySem.W.Frag) (ta : TA) : TI := fun σ H R => ta σ H fun vs H1 => ∃ a b, vs = [.ref a, .ref b] ∧ (∃ xs, SqL K H1 a xs) ∧ (∃ ys, SqL K H1 b ys) ∧ R (Itz K a b) H1
end
end L2
set_option Elab.async false
set_option linter.all false
set_option maxRecDepth 100000
namespace L2
open PySem PySem.Spec PyProof.Rows
theorem Room.units1 {k : Nat} {A : Around} (r : Room k A) : A.units + 1 < cLine := by have := r.un; omega
section
variable {X : Cx}
def zrg (K : PySem.W.Frag) : List V → Hp → VK → Prop := fun xs H Q => ∃ (a : Addr) (ns : List Str), xs = [.ref a] ∧ SqL K H a (ns.map V.str) ∧ ns.length < 64 ∧ ∀ (l : Addr) (ms : List Str), H l = none → ms.Perm ns → sortedS ms = true → Q (.ref l) (upd H l (.lst (ms.map V.str)))
def zmu (r r' r'' : R2) (ta tb tc td : TE) : TT := fun σ H Q => ta σ H fun x H1 => tb σ H1 fun y H2 => r x y H2 fun z H3 => ∃ k, z = .bl k ∧ (if k = true then tc σ H3 fun w H4 => r' y w H4 fun z H5 => ∃ k, z = .bl k ∧
 (if k = true then td σ H5 fun v H6 => r'' w v H6 fun z H7 => ∃ k, z = .bl k ∧ Q k H7 else Q false H5) else Q false H3)
def q4a (K : PySem.W.Frag) (tl : TE) : TI := fun σ H R => tl σ H fun x H1 => ∃ a, x = .ref a ∧ (((∃ xs, SqL K H1 a xs) ∧ R (Itl K a) H1) ∨ ((∃ xs, SqT K H1 a xs) ∧ R (Itt K a) H1))
end
section
variable {X : Cx}
def q3r (K : PySem.W.Frag) (H : Hp) (x y : V) (b : Bool) : Prop := ∃ a c xs ys ds es, x = .ref a ∧ y = .ref c ∧ SqL K H a xs ∧ SqL K H c ys ∧ DtA H xs ds ∧ DtA H ys es ∧ zgz ds = true ∧ zgz es = true ∧ SeqAt.shaped (.list (zeh ds)) = true ∧ SeqAt.shaped (.list (zeh es)) = true ∧ b = PyData.eqv (.list (zeh ds)) (.list (zeh es))
def zup (K : PySem.W.Frag) : R2 := fun x y H Q => ∃ b, q3r K H x y b ∧ Q (.bl b) H
def zx5 (K : PySem.W.Frag) : R2 := fun x y H Q => ∃ b, q3r K H x y b ∧ Q (.bl (!b)) H
theorem Inv.readsDL {pins : List (Addr × Obj)} {σ : St} {H : Hp} {s : Shared} {a : Addr} {xs : List V} {ds : List Dm} (I : Inv X pins σ H s) (h : SqL X.K H a xs) (d : DtA H xs ds) (hs : zgz ds = true) : ∃ as, Reads s.heap (.ref a) (.list (zeh ds)) as := by
 obtain ⟨its, r, ⟨o, n, e, c, _, dd⟩, _⟩ := I.list h
 obtain ⟨as, q⟩ := DtA.reads I d hs r
 exact ⟨_, .list e c dd (by simpa using q)⟩
theorem q4d (hu : X.A.units + 64 < cLine) : OpR X (compareOp .Eq) (zup X.K) := by
 intro pins s σ H x y v u Q I rx ry h
 obtain ⟨b, ⟨a, c, xs, ys, ds, es, rfl, rfl, h1, h2, d1, d2, s1, s2, s3, s4, rfl⟩, q⟩ := h
 cases rx; cases ry
 obtain ⟨as, ra⟩ := I.readsDL h1 d1 s1
 obtain ⟨bs, rb⟩ := I.readsDL h2 d2 s2
 exact eq_dataH ra rb s3 s4 hu ⟨.bl _, H, I, rfl, q⟩
end
end L2
set_option Elab.async false
set_option linter.all false
set_option maxRecDepth 100000
namespace L2
open PySem PySem.Spec PyProof.Rows
def Ris (xs : Array Nat) : Prop := xs.toList.Pairwise (· < ·)
theorem Ris.lt {xs : Array Nat} (h : Ris xs) {i j : Nat} (hij : i < j) (hj : j < xs.size) (d : Nat) : xs.getD i d < xs.getD j d := by
 have e := List.pairwise_iff_getElem.mp h i j (by simp; omega) (by simpa using hj) hij
 simpa [Array.getD, hj, Nat.lt_trans hij hj] using e
end L2
set_option Elab.async false
set_option linter.all false
set_option maxRecDepth 100000
namespace L2
open PySem PySem.Spec PyProof.Rows
section
variable {prog : Program} {w : World} {κ : Type} [DecidableEq κ] (knd : PySem.KeyKind prog w κ) (key : Value → κ)
def SetX (a : Addr) (L : Bool) (ks : List κ) (h : Heap) : Prop :=
 ∃ o es ep t, h.get? a = some o ∧ o.ExactSet ∧ o.data = .set es ep t ∧ ElemsOf knd es.toList ∧ ks = es.toList.map (fun e => key e.2) ∧ ks.Nodup ∧ es.size < scanBound ∧ t.fits es.size = true ∧ Ris t.place ∧ t.led = L
variable {knd key} {A : Around} {E : Value → Shared → Prop} {s : Shared} {a : Addr} {L : Bool} {ks : List κ}
theorem SetX.len {h : Heap} (x : SetX knd key a L ks h) : ks.length < scanBound := by
 obtain ⟨o, es, ep, t, _, _, _, _, rfl, _, hb, _⟩ := x
 simpa using hb
abbrev q1f (w : World) : Bool := w.params.followText "set-order"
end
end L2
set_option Elab.async false
set_option linter.all false
set_option maxRecDepth 100000
namespace L2
open PySem PySem.Spec PyProof.Rows
section
variable {prog : Program} {w : World} {A : Around} {E : Value → Shared → Prop} {s : Shared} {S I : Addr} {es : Array (Int × Value)} {ep : Nat} {t : SetTable} {o : Obj}
end
end L2
set_option Elab.async false
set_option linter.all false
set_option maxRecDepth 100000
namespace L2
open PySem PySem.Spec PyProof.Rows
section
variable {prog : Program} {w : World} {A : Around} {E : Value → Shared → Prop} {s : Shared} {S I : Addr} {es : Array (Int × Value)} {ep : Nat} {t : SetTable} {o : Obj}
def q46 : Value → Int
 | .int k _ => k
 | _ => 0
end
end L2
set_option Elab.async false
set_option linter.all false
set_option maxRecDepth 100000
namespace L2
open PySem PySem.Spec PyProof.Rows
def q3f (P : Program) (w : World) (p : Addr) (ks : List Int) : HO := .ext (SetX (intKind P w) q46 p (!q1f w) ks)
def q2t (P : Program) (w : World) (K : PySem.W.Frag) : List V → Hp → VK → Prop := fun xs H Q => ∃ (a : Addr) (ns : List Int), xs = [.ref a] ∧ SqL K H a (ns.map V.int) ∧ ns.length ≤ 1000 ∧
 ∀ (p : Addr) (ks : List Int), H p = none → ks.Nodup → (∀ x, x ∈ ks ↔ x ∈ ns) → ks.length ≤ ns.length → Q (.ref p) (upd H p (q3f P w p ks))
def zum (P : Program) (w : World) : List V → Hp → VK → Prop := fun xs H Q => ∃ (a : Addr) (ks : List Int), xs = [.ref a] ∧ H a = some (q3f P w a ks) ∧ ks.length < 64 ∧
 ∀ (l : Addr) (ms : List Int), H l = none → ms.Perm ks → ms.Pairwise (· ≤ ·) → Q (.ref l) (upd H l (.lst (ms.map V.int)))
section
variable {X : Cx}
end
end L2
set_option Elab.async false
set_option linter.all false
set_option maxRecDepth 100000
namespace L2
open PySem PyProof.Rows
def zr1 (L : Addr → Sp → Prop) (i : Nat) (t : TA) : TE := fun σ H Q => ∃ f, σ[i]? = some (some (.ref f)) ∧ ∃ sp, L f sp ∧ t σ H fun vs H1 => sp vs H1 Q E0
end L2
set_option Elab.async false
set_option linter.all false
set_option maxRecDepth 100000
namespace L2
open PySem PyProof.Rows
section
variable {P : Program} {w : World} {A : Around} {E : Value → Shared → Prop} {s : Shared}
theorem zoq {it t : Addr} {i : Nat} {its : Array Value} {x : Value} {Q : Value → Shared → Prop} (a : s.heap.IsTupleIter it t i) (b : s.heap.IsTuple t its) (c : its[i]? = some x)
  (q : ∀ h', h'.IsTupleIter it t (i + 1) → Heap.SameBut it s.heap h' → Q x { s with heap := h' }) : wpAny (model P w) A (Builtin.SmallTypes.nextOf (.ref it)) Q E s := by
 have ty := a.typeIs
 obtain ⟨⟨_, dc, _, sl⟩, eo, rfl, rfl⟩ := a
 obtain ⟨⟨_, dl, _, ll⟩, el, rfl, nl, rfl⟩ := b
 rw [Builtin.SmallTypes.nextOf]
 refine wpAny_bind (wpAny_callSpecial?_slot (name := "__next__") ty F.slot_tuple_iterator_next (wpAny_call_entry F.slot_tuple_iterator_next ty F.entry_tuple_iterator_next ?_ (F.args_tuple_iterator_next_1 _)))
 wp_walk
 simp only [Int.toNat_natCast, c]
 wp_walk
 exact ⟨_, rfl, wpAny_pure (q _ ⟨_, Heap.get?_update_self _ eo rfl, rfl, by simp [Obj.mapFields, rawInt]⟩ (Heap.SameBut.update ..))⟩
theorem zbc {it t : Addr} {i : Nat} {its : Array Value} {Q : Value → Shared → Prop} (hh : A.handled = none) (a : s.heap.IsTupleIter it t i) (b : s.heap.IsTuple t its) (c : its[i]? = none)
  (q : ∀ h' e, Heap.ExtBut it s.heap h' → (∃ o, h'.get? e = some o ∧ o.cls = .type "StopIteration") → E (.ref e) { s with heap := h' }) : wpAny (model P w) A (Builtin.SmallTypes.nextOf (.ref it)) Q E s := by
 have ty := a.typeIs
 obtain ⟨⟨_, dc, _, sl⟩, eo, rfl, rfl⟩ := a
 obtain ⟨⟨_, dl, _, ll⟩, el, rfl, nl, rfl⟩ := b
 rw [Builtin.SmallTypes.nextOf]
 refine wpAny_bind (wpAny_callSpecial?_slot (name := "__next__") ty F.slot_tuple_iterator_next (wpAny_call_entry F.slot_tuple_iterator_next ty F.entry_tuple_iterator_next ?_ (F.args_tuple_iterator_next_1 _)))
 wp_walk
 simp only [Int.toNat_natCast, c]
 have hh' : A.in1.handled = none := hh
 wp_walk
 rw [raiseNew]
 wp_walk
 exact q _ _ (((Heap.SameBut.update ..).extBut.push _).push _) ⟨_, Heap.get?_push_size _ rfl, rfl⟩
theorem zmr (t u : Addr) (xs ys : Array Value) : Meets (Builtin.«zip.__new__» ⟨[.type "zip", .ref t, .ref u], []⟩) (fun _ R s => s.heap.IsTuple t xs ∧ s.heap.IsTuple u ys ∧
  ∀ h', IsZip h' (s.heap.objs.size + 4) (s.heap.objs.size + 2) (s.heap.objs.size + 3) .none → IsPair h' (s.heap.objs.size + 2) (.ref s.heap.objs.size) (.ref (s.heap.objs.size + 1)) → IsPair h' (s.heap.objs.size + 3) .none .none →
   h'.IsTupleIter s.heap.objs.size t 0 → h'.IsTupleIter (s.heap.objs.size + 1) u 0 → h'.objs.size = s.heap.objs.size + 5 → (∀ c o, s.heap.get? c = some o → h'.get? c = some o) → R (.ok (.ret (.ref (s.heap.objs.size + 4)))) { s with heap := h' }) := by
 refine .of_wp fun prog w A R s h => ?_
 obtain ⟨hp, g, d, tk, os⟩ := s
 obtain ⟨h1, h2, h⟩ := h
 have zz := sub_zip
 have e1 : Heap.IsTuple (Shared.heap ⟨hp, g, d, tk, os⟩) t xs := h1
 have e2 : Heap.IsTuple (Shared.heap ⟨hp.push { cls := .type "tuple_iterator", data := .fields #[.ref t, .int 0 0] }, g, d, tk, os⟩) u ys := Heap.IsTuple.push h2 _
 wp_walk using wpAny_pyIter_tuple e1, wpAny_pyIter_tuple e2
 refine ⟨_, rfl, ?_⟩
 have put : ∀ {k : Heap} {o : Obj} {n : Nat}, n = k.objs.size → o.isFreed = false → (k.push o).get? n = some o := fun e f => by subst e; exact Heap.get?_push_size _ f
 have up : ∀ {k : Heap} {o o' : Obj} {n : Nat}, k.get? n = some o → (k.push o').get? n = some o := fun e => Heap.get?_push_of_some _ e
 simp only [Heap.size_push, Nat.add_assoc, Nat.reduceAdd]
 refine h _ ?_ ?_ ?_ ⟨_, up (up (up (up (put rfl rfl)))), rfl, rfl⟩ ⟨_, up (up (up (put (by simp [Heap.size_push]) rfl))), rfl, rfl⟩ (by simp [Heap.size_push]) fun c o x => up (up (up (up (up x))))
 ·exact put (by simp [Heap.size_push]) rfl
 ·exact up (up (put (by simp [Heap.size_push]) rfl))
 ·exact up (put (by simp [Heap.size_push]) rfl)
def Nx (P : Program) (w : World) (A : Around) (it : Addr) (Q : Value → Shared → Prop) (E : Value → Shared → Prop) (s : Shared) : Prop := wpAny (model P w) A (Builtin.SmallTypes.nextOf (.ref it)) Q E s
theorem zh4 {it : Addr} {Q : Value → Shared → Prop} (h : Nx P w A it Q E s) : wpAny (model P w) A (Builtin.SmallTypes.nextOf (.ref it)) Q E s := h
end
end L2
set_option Elab.async false
set_option linter.all false
set_option maxRecDepth 100000
namespace L2
open PySem PyProof.Rows
section
variable {P : Program} {w : World} {A : Around} {E : Value → Shared → Prop} {s : Shared}
set_option maxHeartbeats 8000000 in
theorem zpa {z I O i1 i2 t u : Addr} {k : Nat} {xs ys : Array Value} {x y a b : Value} {Q : Value → Shared → Prop} (D : ZipApart z I O i1 i2 t u) (hz : IsZip s.heap z I O .none) (hI : IsPair s.heap I (.ref i1) (.ref i2)) (hO : IsPair s.heap O a b)
  (h1 : s.heap.IsTupleIter i1 t k) (h2 : s.heap.IsTupleIter i2 u k) (ht : s.heap.IsTuple t xs) (hu : s.heap.IsTuple u ys) (hx : xs[k]? = some x) (hy : ys[k]? = some y)
  (q : ∀ h', IsZip h' z I O (rawInt s.heap.objs.size) → IsPair h' O x y → h'.IsTupleIter i1 t (k + 1) → h'.IsTupleIter i2 u (k + 1) → IsPair h' s.heap.objs.size x y → h'.objs.size = s.heap.objs.size + 1 →
   (∀ c o, c ≠ z → c ≠ O → c ≠ i1 → c ≠ i2 → s.heap.get? c = some o → h'.get? c = some o) → Q (.ref s.heap.objs.size) { s with heap := h' }) :
  wpAny (model P w) A (Builtin.«zip.__next__» ⟨[.ref z], []⟩) (fun fin s' => ∃ v, fin = .done (.ret v) ∧ Q v s') E s := by
 wp_walk using wpAny_onRaise, zh4
 have m0 : Heap.SameBut z s.heap (s.heap.update z (Obj.mapFields fun x => x.setIfInBounds 0 Value.ellipsis)) := Heap.SameBut.update ..
 have z0 : IsZip (s.heap.update z (Obj.mapFields fun x => x.setIfInBounds 0 Value.ellipsis)) z I O .ellipsis := Heap.get?_update_self _ hz rfl
 generalize s.heap.update z (Obj.mapFields fun x => x.setIfInBounds 0 Value.ellipsis) = g0 at m0 z0 ⊢
 refine zoq (h1.extBut m0.extBut D.i1z) (ht.extBut m0.extBut D.l1z) hx fun g1 j1 m1 => ?_
 have o1 : IsPair g1 O a b := m1.extBut _ _ D.TOi1 (m0.extBut _ _ D.TOz hO)
 wp_walk using wpAny_onRaise, zh4
 have m2 : Heap.SameBut O g1 (g1.update O (Obj.mapSeq fun v => v.setIfInBounds 0 x)) := Heap.SameBut.update ..
 have o2 : IsPair (g1.update O (Obj.mapSeq fun v => v.setIfInBounds 0 x)) O x b := Heap.get?_update_self _ o1 rfl
 generalize g1.update O (Obj.mapSeq fun v => v.setIfInBounds 0 x) = g2 at m2 o2 ⊢
 refine zoq (((h2.extBut m0.extBut D.i2z).extBut m1.extBut D.i12.symm).extBut m2.extBut D.TOi2.symm) (((hu.extBut m0.extBut D.l2z).extBut m1.extBut D.l2i1).extBut m2.extBut D.l2TO) hy fun g3 j3 m3 => ?_
 have o3 : IsPair g3 O x b := m3.extBut _ _ D.TOi2 o2
 have z3 : IsZip g3 z I O .ellipsis := m3.extBut _ _ D.i2z.symm (m2.extBut _ _ D.TOz.symm (m1.extBut _ _ D.i1z.symm z0))
 wp_walk using wpAny_onRaise, zh4
 have m4 : Heap.SameBut O g3 (g3.update O (Obj.mapSeq fun v => v.setIfInBounds (0 + 1) y)) := Heap.SameBut.update ..
 have o4 : IsPair (g3.update O (Obj.mapSeq fun v => v.setIfInBounds (0 + 1) y)) O x y := Heap.get?_update_self _ o3 rfl
 generalize g3.update O (Obj.mapSeq fun v => v.setIfInBounds (0 + 1) y) = g4 at m4 o4 ⊢
 have n4 : g4.objs.size = s.heap.objs.size := m4.1.trans (m3.1.trans (m2.1.trans (m1.1.trans m0.1)))
 rw [show ((fun v : Array Value => v.setIfInBounds (0 + 1) y) #[x, b]).toList.toArray = #[x, y] from rfl]
 have e5 : IsPair (g4.push { cls := .type "tuple", data := .seq #[x, y] }) g4.objs.size x y := Heap.get?_push_size _ rfl
 have z4 : IsZip (g4.push { cls := .type "tuple", data := .seq #[x, y] }) z I O .ellipsis := Heap.get?_push_of_some _ (m4.extBut _ _ D.TOz.symm z3)
 have k5 : ∀ c o, c ≠ z → c ≠ O → c ≠ i1 → c ≠ i2 → s.heap.get? c = some o → (g4.push { cls := .type "tuple", data := .seq #[x, y] }).get? c = some o := fun c o c1 c2 c3 c4 h => Heap.get?_push_of_some _ (m4.extBut _ _ c2 (m3.extBut _ _ c4 (m2.extBut _ _ c2 (m1.extBut _ _ c3 (m0.extBut _ _ c1 h)))))
 have o5 : IsPair (g4.push { cls := .type "tuple", data := .seq #[x, y] }) O x y := Heap.get?_push_of_some _ o4
 have y1 : (g4.push { cls := .type "tuple", data := .seq #[x, y] }).IsTupleIter i1 t (k + 1) := (((j1.extBut m2.extBut D.TOi1.symm).extBut m3.extBut D.i12).extBut m4.extBut D.TOi1.symm).at fun o h => Heap.get?_push_of_some _ h
 have y2 : (g4.push { cls := .type "tuple", data := .seq #[x, y] }).IsTupleIter i2 u (k + 1) := (j3.extBut m4.extBut D.TOi2.symm).at fun o h => Heap.get?_push_of_some _ h
 have s5 : (g4.push { cls := .type "tuple", data := .seq #[x, y] }).objs.size = s.heap.objs.size + 1 := by rw [size_push', n4]
 rw [n4] at e5
 rw [n4]
 generalize g4.push { cls := .type "tuple", data := .seq #[x, y] } = g5 at e5 z4 k5 o5 y1 y2 s5 ⊢
 wp_walk
 have m6 : Heap.SameBut z g5 ((g5.update z (Obj.mapFields fun v => v.setIfInBounds 0 (rawInt s.heap.objs.size))).update z (Obj.mapFields fun v => v.setIfInBounds 1 (Value.bool false))) := (Heap.SameBut.update ..).trans (Heap.SameBut.update ..)
 refine ⟨_, rfl, q _ (Heap.get?_update_self _ (Heap.get?_update_self _ z4 rfl) rfl) (m6.extBut _ _ D.TOz o5) (y1.extBut m6.extBut D.i1z) (y2.extBut m6.extBut D.i2z) (m6.extBut _ _ (Nat.ne_of_gt (Heap.lt_size hz)) e5) (m6.1.trans s5) fun c o c1 c2 c3 c4 h => m6.extBut _ _ c1 (k5 c o c1 c2 c3 c4 h)⟩
set_option maxHeartbeats 8000000 in
theorem zms {z I O i1 i2 t u : Addr} {k : Nat} {xs ys : Array Value} {a b : Value} {Q : Fin → Shared → Prop} (hh : A.handled = none) (D : ZipApart z I O i1 i2 t u) (hz : IsZip s.heap z I O .none) (hI : IsPair s.heap I (.ref i1) (.ref i2)) (hO : IsPair s.heap O a b)
  (h1 : s.heap.IsTupleIter i1 t k) (h2 : s.heap.IsTupleIter i2 u k) (ht : s.heap.IsTuple t xs) (hu : s.heap.IsTuple u ys) (hend : xs[k]? = none ∨ ys[k]? = none)
  (q : ∀ h' e, (∀ c o, c ≠ z → c ≠ O → c ≠ i1 → c ≠ i2 → s.heap.get? c = some o → h'.get? c = some o) → (∃ o, h'.get? e = some o ∧ o.cls = .type "StopIteration") → E (.ref e) { s with heap := h' }) :
  wpAny (model P w) A (Builtin.«zip.__next__» ⟨[.ref z], []⟩) Q E s := by
 wp_walk using wpAny_onRaise, zh4
 have m0 : Heap.SameBut z s.heap (s.heap.update z (Obj.mapFields fun x => x.setIfInBounds 0 Value.ellipsis)) := Heap.SameBut.update ..
 have z0 : IsZip (s.heap.update z (Obj.mapFields fun x => x.setIfInBounds 0 Value.ellipsis)) z I O .ellipsis := Heap.get?_update_self _ hz rfl
 generalize s.heap.update z (Obj.mapFields fun x => x.setIfInBounds 0 Value.ellipsis) = g0 at m0 z0 ⊢
 cases hx : xs[k]? with
 | none =>
  refine zbc hh (h1.extBut m0.extBut D.i1z) (ht.extBut m0.extBut D.l1z) hx fun g1 e1 m1 he => ?_
  have z1 : IsZip g1 z I O .ellipsis := m1 _ _ D.i1z.symm z0
  obtain ⟨oe, ho, hc⟩ := he
  have ne : e1 ≠ z := fun x => by subst x; rw [z1] at ho; cases ho; simp at hc
  exact wpAny_setField_rec z1 (by simp) fun h5 _ m5 => q h5 e1 (fun c o c1 c2 c3 c4 h => m5.extBut _ _ c1 (m1 _ _ c3 (m0.extBut _ _ c1 h))) ⟨oe, m5.extBut _ _ ne ho, hc⟩
 | some x =>
  have hy : ys[k]? = none := hend.resolve_left (by rw [hx]; simp)
  refine zoq (h1.extBut m0.extBut D.i1z) (ht.extBut m0.extBut D.l1z) hx fun g1 j1 m1 => ?_
  have o1 : IsPair g1 O a b := m1.extBut _ _ D.TOi1 (m0.extBut _ _ D.TOz hO)
  wp_walk using wpAny_onRaise, zh4
  have m2 : Heap.SameBut O g1 (g1.update O (Obj.mapSeq fun v => v.setIfInBounds 0 x)) := Heap.SameBut.update ..
  generalize g1.update O (Obj.mapSeq fun v => v.setIfInBounds 0 x) = g2 at m2 ⊢
  refine zbc hh (((h2.extBut m0.extBut D.i2z).extBut m1.extBut D.i12.symm).extBut m2.extBut D.TOi2.symm) (((hu.extBut m0.extBut D.l2z).extBut m1.extBut D.l2i1).extBut m2.extBut D.l2TO) hy fun g3 e3 m3 he => ?_
  have z3 : IsZip g3 z I O .ellipsis := m3 _ _ D.i2z.symm (m2.extBut _ _ D.TOz.symm (m1.extBut _ _ D.i1z.symm z0))
  obtain ⟨oe, ho, hc⟩ := he
  have ne : e3 ≠ z := fun x => by subst x; rw [z3] at ho; cases ho; simp at hc
  exact wpAny_setField_rec z3 (by simp) fun h5 _ m5 => q h5 e3 (fun c o c1 c2 c3 c4 h => m5.extBut _ _ c1 (m3 _ _ c4 (m2.extBut _ _ c2 (m1.extBut _ _ c3 (m0.extBut _ _ c1 h))))) ⟨oe, m5.extBut _ _ ne ho, hc⟩
end
end L2
set_option Elab.async false
set_option linter.all false
set_option maxRecDepth 100000
namespace L2
open PySem PySem.Spec PyProof.Rows
section
variable {P : Program} {w : World} {A : Around} {E : Value → Shared → Prop} {s : Shared}
theorem zqo {z I O i1 i2 t u : Addr} {k : Nat} {xs ys : Array Value} {x y a b : Value} {Q : Option Value → Shared → Prop} (D : ZipApart z I O i1 i2 t u) (hz : IsZip s.heap z I O .none) (hI : IsPair s.heap I (.ref i1) (.ref i2)) (hO : IsPair s.heap O a b)
  (h1 : s.heap.IsTupleIter i1 t k) (h2 : s.heap.IsTupleIter i2 u k) (ht : s.heap.IsTuple t xs) (hu : s.heap.IsTuple u ys) (hx : xs[k]? = some x) (hy : ys[k]? = some y)
  (q : ∀ h', IsZip h' z I O (rawInt s.heap.objs.size) → IsPair h' O x y → h'.IsTupleIter i1 t (k + 1) → h'.IsTupleIter i2 u (k + 1) → IsPair h' s.heap.objs.size x y → h'.objs.size = s.heap.objs.size + 1 →
   (∀ c o, c ≠ z → c ≠ O → c ≠ i1 → c ≠ i2 → s.heap.get? c = some o → h'.get? c = some o) → Q (some (.ref s.heap.objs.size)) { s with heap := h' }) : wpAny (model P w) A (pyNext (.ref z)) Q E s := by
 have ty : s.TypeIs (.ref z) "zip" := ⟨_, hz, rfl⟩
 rw [pyNext]
 refine wpAny_bind (wpAny_attempt (wpAny_callSpecial?_slot (name := "__next__") ty PySem.F.slot_zip_next (wpAny_call_entry PySem.F.slot_zip_next ty PySem.F.entry_zip_next ?_ (PySem.F.args_zip_next_1 _))))
 exact zpa D hz hI hO h1 h2 ht hu hx hy fun h' b1 b2 b3 b4 b5 b6 b7 => wpAny_pure (q h' b1 b2 b3 b4 b5 b6 b7)
theorem zu3 {z I O i1 i2 t u : Addr} {k : Nat} {xs ys : Array Value} {a b : Value} {Q : Option Value → Shared → Prop} (hh : A.handled = none) (D : ZipApart z I O i1 i2 t u) (hz : IsZip s.heap z I O .none) (hI : IsPair s.heap I (.ref i1) (.ref i2)) (hO : IsPair s.heap O a b)
  (h1 : s.heap.IsTupleIter i1 t k) (h2 : s.heap.IsTupleIter i2 u k) (ht : s.heap.IsTuple t xs) (hu : s.heap.IsTuple u ys) (hend : xs[k]? = none ∨ ys[k]? = none)
  (q : ∀ h', (∀ c o, c ≠ z → c ≠ O → c ≠ i1 → c ≠ i2 → s.heap.get? c = some o → h'.get? c = some o) → Q none { s with heap := h' }) : wpAny (model P w) A (pyNext (.ref z)) Q E s := by
 have ty : s.TypeIs (.ref z) "zip" := ⟨_, hz, rfl⟩
 rw [pyNext]
 refine wpAny_bind (wpAny_attempt (wpAny_callSpecial?_slot (name := "__next__") ty PySem.F.slot_zip_next (wpAny_call_entry PySem.F.slot_zip_next ty PySem.F.entry_zip_next (zms (by simpa using hh) D hz hI hO h1 h2 ht hu hend fun h' e hk he => ?_) (PySem.F.args_zip_next_1 _))))
 obtain ⟨o, ho, hc⟩ := he
 exact wpAny_bind (wpAny_isInstance (b := true) ⟨o, ho, hc⟩ isSubtype_stop (wpAny_pure (q _ hk)))
theorem zto {t u : Addr} {xs ys : Array Value} {Q : Value → Shared → Prop} (ht : s.heap.IsTuple t xs) (hu : s.heap.IsTuple u ys)
  (h : ∀ h', IsZip h' (s.heap.objs.size + 4) (s.heap.objs.size + 2) (s.heap.objs.size + 3) .none → IsPair h' (s.heap.objs.size + 2) (.ref s.heap.objs.size) (.ref (s.heap.objs.size + 1)) → IsPair h' (s.heap.objs.size + 3) .none .none →
   h'.IsTupleIter s.heap.objs.size t 0 → h'.IsTupleIter (s.heap.objs.size + 1) u 0 → h'.objs.size = s.heap.objs.size + 5 → (∀ c o, s.heap.get? c = some o → h'.get? c = some o) → Q (.ref (s.heap.objs.size + 4)) { s with heap := h' }) :
  wpAny (model P w) A (call (.type "zip") [.ref t, .ref u]) Q E s := by
 refine callType_new PySem.F.called_zip (by decide) (PySem.F.typeCall_zip_2 _ _) (PySem.F.newCall_zip_2 _ _) (fun obj => PySem.F.args_object_init_3 obj _ _) PySem.F.entry_zip_new (zmr t u xs ys) ⟨ht, hu, fun h' b1 b2 b3 b4 b5 b6 b7 => ?_⟩
 exact ⟨⟨_, b1, rfl⟩, h h' b1 b2 b3 b4 b5 b6 b7⟩
end
def zyy (K : PySem.W.Frag) (a b : Addr) : It :=
 ⟨fun i H => ∃ xs ys x y, SqT K H a xs ∧ SqT K H b ys ∧ xs[i]? = some x ∧ ys[i]? = some y, fun i H x H' => ∃ T u v, x = .ref T ∧ H T = none ∧ H' = upd H T (.tup [u, v]) ∧ (∀ xs, SqT K H a xs → xs[i]? = some u) ∧ ∀ ys, SqT K H b ys → ys[i]? = some v,
  fun i H => ∃ xs ys, SqT K H a xs ∧ SqT K H b ys ∧ (xs.length ≤ i ∨ ys.length ≤ i)⟩
theorem zqu {P : Program} {w : World} {K : PySem.W.Frag} {elts : List Expr} {kt : Nat} {pt : Pos} (a b z TI TO i1 i2 : Addr) (D : ZipApart z TI TO i1 i2 a b) :
  Turn P w K (.Tuple elts kt pt) (zyy K a b) [z, TI, TO, i1, i2] z (fun i h => IsZip h z TI TO .none ∧ IsPair h TI (.ref i1) (.ref i2) ∧ (∃ u v, IsPair h TO u v) ∧ h.IsTupleIter i1 a i ∧ h.IsTupleIter i2 b i) where
 mem := by simp
 obj := fun i h st c hc => by
  obtain ⟨hz, hTI, ⟨u, v, hTO⟩, h1, h2⟩ := st
  simp only [List.mem_cons, List.not_mem_nil, or_false] at hc
  rcases hc with rfl | rfl | rfl | rfl | rfl
  ·exact ⟨_, hz, fun v z => by cases z⟩
  ·exact ⟨_, hTI, fun v z => by cases z⟩
  ·exact ⟨_, hTO, fun v z => by cases z⟩
  ·obtain ⟨o, e', c, d⟩ := h1
   exact ⟨o, e', fun v z => by rw [d] at z; cases z⟩
  ·obtain ⟨o, e', c, d⟩ := h2
   exact ⟨o, e', fun v z => by rw [d] at z; cases z⟩
 keep := fun i h h' st k => by
  obtain ⟨hz, hTI, ⟨u, v, hTO⟩, h1, h2⟩ := st
  exact ⟨k z (by simp) _ hz, k TI (by simp) _ hTI, ⟨u, v, k TO (by simp) _ hTO⟩, h1.at fun o q => k i1 (by simp) o q, h2.at fun o q => k i2 (by simp) o q⟩
 item := by
  intro X hP hw hK hc i pins s σ H E I hf st hg
  subst hP hw hK
  obtain ⟨hz, hTI, ⟨u0, v0, hTO⟩, h1, h2⟩ := st
  obtain ⟨xs, ys, x, y, hq, hq2, hx, hy⟩ := hg
  obtain ⟨its, rv, p, _⟩ := I.tuple hq
  obtain ⟨its2, rv2, p2, _⟩ := I.tuple hq2
  obtain ⟨u, hu, ru⟩ := rv.get hx
  obtain ⟨u2, hu2, ru2⟩ := rv2.get hy
  refine zqo D hz hTI hTO h1 h2 p p2 (x := u) (y := u2) (by simpa using hu) (by simpa using hu2) fun h3 a1 a2 a3 a4 a5 a6 hk => ?_
  refine ⟨_, rfl, wpAny_letOwnedTupleGo_zip a1 fun h4 hz4 hs4 => ?_⟩
  have hs4' : Heap.SameBut z h3 h4 := hs4
  have hzl : z < s.heap.objs.size := Heap.lt_size hz
  have kk : ∀ c o, c ∉ [z, TI, TO, i1, i2] → s.heap.get? c = some o → h4.get? c = some o := fun c o hc' q =>
   hs4'.extBut c o (fun e => hc' (by simp [e])) (hk c o (fun e => hc' (by simp [e])) (fun e => hc' (by simp [e])) (fun e => hc' (by simp [e])) (fun e => hc' (by simp [e])) q)
  have I1 : Inv X pins σ H { s with heap := h4, toks := s.toks } := I.turnedL kk hf
  have hTn : H s.heap.objs.size = none := I.hok.fresh (Nat.le_refl _)
  have hT2 : h4.get? s.heap.objs.size = some { cls := .type "tuple", data := .seq #[u, u2] } := hs4'.extBut _ _ (Nat.ne_of_gt hzl) a5
  have I2 : Inv X pins σ (upd H s.heap.objs.size (.tup [x, y])) { s with heap := h4, toks := s.toks } :=
   I1.track hTn (I.fpOk (Nat.le_refl _) hTn) (show ObjOk X.prog X.w _ h4 _ (.tup [x, y]) from ⟨zqt, [u, u2], .cons ru (.cons ru2 .nil), ⟨_, hT2, rfl, _, rfl⟩⟩)
  refine ⟨.ref s.heap.objs.size, _, I2, rfl, ⟨s.heap.objs.size, x, y, rfl, hTn, rfl, fun zs hz' => by rw [I.tuple_inj hz' hq]; exact hx, fun zs hz' => by rw [I.tuple_inj hz' hq2]; exact hy⟩,
   ⟨hz4, hs4'.extBut _ _ D.TIz (hk _ _ D.TIz D.TITO D.TIi1 D.TIi2 hTI), ⟨_, _, hs4'.extBut _ _ D.TOz a2⟩, a3.at fun o q => (hs4'.2 i1 D.i1z).trans q, a4.at fun o q => (hs4'.2 i2 D.i2z).trans q⟩, fun c hc' => ?_⟩
  have hcl : c < s.heap.objs.size := by
   simp only [List.mem_cons, List.not_mem_nil, or_false] at hc'
   rcases hc' with rfl | rfl | rfl | rfl | rfl
   ·exact hzl
   ·exact Heap.lt_size hTI
   ·exact Heap.lt_size hTO
   ·obtain ⟨o, e', _⟩ := h1; exact Heap.lt_size e'
   ·obtain ⟨o, e', _⟩ := h2; exact Heap.lt_size e'
  rw [z0q (Nat.ne_of_lt hcl)]
  exact (hf c hc').1
 done := by
  intro X hP hw hK hc i pins s σ H E I hf st hg
  subst hP hw hK
  obtain ⟨hz, hTI, ⟨u0, v0, hTO⟩, h1, h2⟩ := st
  obtain ⟨xs, ys, hq, hq2, hend⟩ := hg
  obtain ⟨its, rv, p, _⟩ := I.tuple hq
  obtain ⟨its2, rv2, p2, _⟩ := I.tuple hq2
  have e1 := rv.length
  have e2 := rv2.length
  refine zu3 (I.ok.hd hc) D hz hTI hTO h1 h2 p p2 ?_ fun h' hk => ⟨rfl, I.turnedL (t' := s.toks) (fun c o hc' q => hk c o (fun e => hc' (by simp [e])) (fun e => hc' (by simp [e])) (fun e => hc' (by simp [e])) (fun e => hc' (by simp [e])) q) hf⟩
  rcases hend with z | z
  ·exact .inl (by simp; omega)
  ·exact .inr (by simp; omega)
 self := fun _ _ _ _ _ st h => wpAny_pyIter_zip st.1 h
section
variable {X : Cx}
def zy3 (K : PySem.W.Frag) (ta : TA) : TI := fun σ H R => ta σ H fun vs H1 => ∃ a b, vs = [.ref a, .ref b] ∧ (∃ xs, SqT K H1 a xs) ∧ (∃ ys, SqT K H1 b ys) ∧ R (zyy K a b) H1
theorem zxa {elts : List Expr} {kt : Nat} {pt p pos : Pos} {l l2 : Expr} {ta : TA} (hg : Gl X "zip") (hm : X.mg "zip" = none) (ha : PA X [l, l2] ta) (hst : zil l = false := by rfl) (hst2 : zil l2 = false := by rfl) : PI X (.Tuple elts kt pt) (.Call (.Name "zip" p) [l, l2] [] pos) (zy3 X.K ta) := by
 intro pins s σ H R I h
 have hpl := z4x (pos := pos) (env := X.env) (es := [l2]) (by simp [z5a, hst2])
 refine Call_ (zhc I hg hm boot_zip (PyProof.Rows.callWith_type1 (thn (ha pos pins s σ H _ I h) fun us s1 ⟨vs, H1, I1, r1, q1⟩ => ?_) (z29 hst) hpl))
 obtain ⟨a, b, e, ⟨xs, hq⟩, ⟨ys, hq2⟩, q⟩ := q1
 subst e
 cases r1 with
 | cons r rr =>
  cases rr with
  | cons r2 rr =>
   cases rr
   cases r
   cases r2
   obtain ⟨its, rv, pl, _⟩ := I1.tuple hq
   obtain ⟨its2, rv2, pl2, _⟩ := I1.tuple hq2
   have hla : a < s1.heap.objs.size := by obtain ⟨_, e, _⟩ := pl; exact Heap.lt_size e
   have hlb : b < s1.heap.objs.size := by obtain ⟨_, e, _⟩ := pl2; exact Heap.lt_size e
   refine zto pl pl2 fun h' hz hTI hTO h1 h2 hsz hk => ?_
   have I2 : Inv X pins σ H1 { s1 with heap := h' } := I1.kept (t' := s1.toks) hk
   refine wpAny_pyIter_zip hz ?_
   refine ⟨s1.heap.objs.size + 4, [s1.heap.objs.size + 4, s1.heap.objs.size + 2, s1.heap.objs.size + 3, s1.heap.objs.size, s1.heap.objs.size + 1], _, _, H1, rfl, I2, zqu a b _ _ _ _ _ (zipApart_new hla hlb), ⟨hz, hTI, ⟨_, _, hTO⟩, h1, h2⟩, fun c hc => ?_, q⟩
   have hle : s1.heap.objs.size ≤ c := by
    simp only [List.mem_cons, List.not_mem_nil, or_false] at hc
    rcases hc with rfl | rfl | rfl | rfl | rfl <;> first | exact Nat.le_refl _ | exact Nat.le_add_right _ _
   exact I1.fpOk hle (I1.hok.fresh hle)
end
section
variable {prog : Program} {w : World} {A : Around} {E : Value → Shared → Prop} {s : Shared}
theorem zcm {t sl : Addr} {items : Array Value} {vl vu : Value} {lo hi : Option Int} {Q : Value → Shared → Prop} (ht : IsTup s.heap t items) (hs : s.heap.IsSliceOf sl vl vu .none) (pl : IsPart vl lo) (pu : IsPart vu hi)
  (hw : HT.sIx items.size 0 lo = 0 ∧ HT.sIx items.size items.size hi = items.size) (h : Q (.ref t) s) : wpAny (model prog w) A (getItem (.ref t) (.ref sl)) Q E s := by
 obtain ⟨os, hos, hcs, hds⟩ := id hs
 have ts : s.TypeIs (.ref sl) "slice" := ⟨os, hos, hcs⟩
 unfold getItem
 try with_reducible refine wpAny_holding ?_
 first | refine wpAny_bind (wpAny_pure ?_) | skip
 refine wpAny_bind (wpAny_sequenceKey ht.typeIs (by decide) ?_)
 refine wpAny_bind (wpAny_callSpecial?_slot (name := Str.ofString "__getitem__") ht.typeIs PyProof.Rows.slot_tuple_getitem (wpAny_call_entry PyProof.Rows.slot_tuple_getitem ht.typeIs entry_tuple_getitem ?_ (args_tuple_getitem _ _)))
 show wpAny _ _ (Builtin.Tuple.tupleItemsOf (.ref t) >>= _) _ _ s
 refine wpAny_bind (PyProof.Rows.tupleItemsOf_ ht (wpAny_bind (wpAny_typeOf ts ?_)))
 rw [if_pos (by decide)]
 refine wpAny_bind (HT.za6 hs pl pu ?_)
 refine wpAny_ite_split (fun _ => ?_) (fun c => absurd ?_ c)
 ·unfold Builtin.Tuple.tupleIsExact
  refine wpAny_bind (wpAny_bind (wpAny_typeOf ht.typeIs (wpAny_pure ?_)))
  refine wpAny_ite_split (fun _ => ?_) (fun c => absurd (by decide) c)
  exact wpAny_bind (wpAny_rule (wpAny_pure ⟨_, rfl, wpAny_pure h⟩))
 ·rw [hw.1, hw.2]
  simp
end
section
variable {X : Cx}
def zz6 (K : PySem.W.Frag) : V → Option Int → Option Int → Hp → VK → Prop := fun x lo hi H Q => ∃ a xs, x = .ref a ∧ SqT K H a xs ∧
 (((HT.sIx xs.length 0 lo = 0 ∧ HT.sIx xs.length xs.length hi = xs.length) ∧ Q (.ref a) H) ∨ (¬ (HT.sIx xs.length 0 lo = 0 ∧ HT.sIx xs.length xs.length hi = xs.length) ∧ ∀ p, H p = none → Q (.ref p) (upd H p (.tup (zu1 xs lo hi)))))
theorem z97 : SlR X (zz6 X.K) := by
 intro pins s σ H x v vl vu lo hi sl Q I rx hs pl pu h
 obtain ⟨a, xs, rfl, hx, ⟨hw, q⟩ | ⟨hw, q⟩⟩ := h
 ·cases rx
  obtain ⟨its, r, ht, hz⟩ := I.tuple hx
  have hlen : its.toArray.size = xs.length := by rw [List.size_toArray]; exact r.length.symm
  exact ⟨"tuple", _, PyProof.Rows.slot_tuple_getitem.lookup, ht.typeIs, zcm ht hs pl pu (by rw [hlen]; exact hw) ⟨.ref a, H, I, rfl, q⟩⟩
 ·exact zzl pins s σ H (.ref a) v vl vu lo hi sl Q I rx hs pl pu ⟨a, xs, rfl, hx, hw, q⟩
end
end L2
set_option Elab.async false
set_option linter.all false
set_option maxRecDepth 100000
namespace L2
open PySem PySem.Spec PyProof.Rows
inductive DX where
 | c (d : Dm) | var (i : Nat) | tup (l : List DX) | lst (l : List DX) | cat (a b : DX) | lof (a : DX)
def zwm : Dm → Dm → Dm
 | .tup x, .tup y => .tup (x ++ y)
 | _, _ => .non
mutual
def DX.val (ρ : Nat → Dm) : DX → Dm
 | .c d => d
 | .var i => ρ i
 | .tup l => .tup (zyz ρ l)
 | .lst _ => .lst
 | .cat a b => zwm (a.val ρ) (b.val ρ)
 | .lof _ => .lst
def zyz (ρ : Nat → Dm) : List DX → List Dm
 | [] => []
 | x :: r => x.val ρ :: zyz ρ r
end
mutual
def DX.Fit (ρ : Nat → Dm) (σ : St) (H : Hp) : DX → Prop
 | .c _ => True
 | .var i => ∃ v, σ[i]? = some (some v) ∧ Dt H v (ρ i)
 | .tup l => l.length ≤ 1000 ∧ FitA ρ σ H l
 | .lst l => l.length ≤ 1000 ∧ FitA ρ σ H l
 | .cat a b => a.Fit ρ σ H ∧ b.Fit ρ σ H ∧ ∃ x y, a.val ρ = .tup x ∧ b.val ρ = .tup y ∧ x.length + y.length ≤ 1000
 | .lof a => a.Fit ρ σ H ∧ ∃ x, a.val ρ = .tup x
def FitA (ρ : Nat → Dm) (σ : St) (H : Hp) : List DX → Prop
 | [] => True
 | x :: r => x.Fit ρ σ H ∧ FitA ρ σ H r
end
mutual
theorem DX.Fit.mono {ρ : Nat → Dm} {σ : St} {H H' : Hp} (s : Same H H') : ∀ {x : DX}, x.Fit ρ σ H → x.Fit ρ σ H'
 | .c _, _ => by rw [DX.Fit]; trivial
 | .var i, h => by
  rw [DX.Fit] at h ⊢
  obtain ⟨v, e, d⟩ := h
  exact ⟨v, e, d.kp s.kp⟩
 | .tup l, h => by
  rw [DX.Fit] at h ⊢
  exact ⟨h.1, FitA.mono s h.2⟩
 | .lst l, h => by
  rw [DX.Fit] at h ⊢
  exact ⟨h.1, FitA.mono s h.2⟩
 | .cat a b, h => by
  rw [DX.Fit] at h ⊢
  exact ⟨DX.Fit.mono s h.1, DX.Fit.mono s h.2.1, h.2.2⟩
 | .lof a, h => by
  rw [DX.Fit] at h ⊢
  exact ⟨DX.Fit.mono s h.1, h.2⟩
theorem FitA.mono {ρ : Nat → Dm} {σ : St} {H H' : Hp} (s : Same H H') : ∀ {l : List DX}, FitA ρ σ H l → FitA ρ σ H' l
 | [], _ => by rw [FitA]; trivial
 | x :: r, h => by
  rw [FitA] at h ⊢
  exact ⟨DX.Fit.mono s h.1, FitA.mono s h.2⟩
end
def q1e (vt : List Nat) : DX → DX → Bool
 | .var i, .tup l => vt.contains i && decide (l.length ≤ 100)
 | _, _ => false
def q0i (vt : List Nat) : DX → Bool
 | .var i => vt.contains i
 | _ => false
mutual
def DX.chk (vo vt : List Nat) : DX → Bool
 | .c _ => true
 | .var i => vo.contains i
 | .tup l => decide (l.length ≤ 100) && q1c vo vt l
 | .lst l => decide (l.length ≤ 100) && q1c vo vt l
 | .cat a b => q1e vt a b && a.chk vo vt && b.chk vo vt
 | .lof a => q0i vt a && a.chk vo vt
def q1c (vo vt : List Nat) : List DX → Bool
 | [] => true
 | x :: r => x.chk vo vt && q1c vo vt r
end
structure Env (ρ : Nat → Dm) (σ : St) (H : Hp) (vo vt : List Nat) : Prop where
 o : ∀ i ∈ vo, ∃ v, σ[i]? = some (some v) ∧ Dt H v (ρ i)
 t : ∀ i ∈ vt, ∃ ds, ρ i = .tup ds ∧ ds.length ≤ 100
theorem zkj (ρ : Nat → Dm) : ∀ l : List DX, (zyz ρ l).length = l.length
 | [] => rfl
 | _ :: r => by rw [zyz, List.length_cons, List.length_cons, zkj ρ r]
mutual
theorem Env.fit {ρ : Nat → Dm} {σ : St} {H : Hp} {vo vt : List Nat} (e : Env ρ σ H vo vt) : ∀ {x : DX}, x.chk vo vt = true → x.Fit ρ σ H
 | .c _, _ => by rw [DX.Fit]; trivial
 | .var i, h => by
  rw [DX.chk] at h
  rw [DX.Fit]
  exact e.o i (List.contains_iff_mem.mp h)
 | .tup l, h => by
  rw [DX.chk, Bool.and_eq_true, decide_eq_true_eq] at h
  rw [DX.Fit]
  exact ⟨by omega, e.fitA h.2⟩
 | .lst l, h => by
  rw [DX.chk, Bool.and_eq_true, decide_eq_true_eq] at h
  rw [DX.Fit]
  exact ⟨by omega, e.fitA h.2⟩
 | .cat a b, h => by
  rw [DX.chk, Bool.and_eq_true, Bool.and_eq_true] at h
  obtain ⟨⟨h0, h1⟩, h2⟩ := h
  rw [DX.Fit]
  refine ⟨e.fit h1, e.fit h2, ?_⟩
  unfold q1e at h0
  split at h0
  ·rename_i i l
   rw [Bool.and_eq_true, decide_eq_true_eq] at h0
   obtain ⟨ds, ed, hl⟩ := e.t i (List.contains_iff_mem.mp h0.1)
   exact ⟨ds, zyz ρ l, by rw [DX.val]; exact ed, by rw [DX.val], by rw [zkj]; omega⟩
  ·cases h0
 | .lof a, h => by
  rw [DX.chk, Bool.and_eq_true] at h
  rw [DX.Fit]
  refine ⟨e.fit h.2, ?_⟩
  have h0 := h.1
  unfold q0i at h0
  split at h0
  ·rename_i i
   obtain ⟨ds, ed, hl⟩ := e.t i (List.contains_iff_mem.mp h0)
   exact ⟨ds, by rw [DX.val]; exact ed⟩
  ·cases h0
theorem Env.fitA {ρ : Nat → Dm} {σ : St} {H : Hp} {vo vt : List Nat} (e : Env ρ σ H vo vt) : ∀ {l : List DX}, q1c vo vt l = true → FitA ρ σ H l
 | [], _ => by rw [FitA]; trivial
 | x :: r, h => by
  rw [q1c, Bool.and_eq_true] at h
  rw [FitA]
  exact ⟨e.fit h.1, e.fitA h.2⟩
end
def tDX (x : DX) : TE := fun σ H Q => ∃ ρ, x.Fit ρ σ H ∧ ∀ v H', Same H H' → Dt H' v (x.val ρ) → Q v H'
def q2j (l : List DX) : TA := fun σ H Q => ∃ ρ, FitA ρ σ H l ∧ ∀ vs H', Same H H' → DtA H' vs (zyz ρ l) → Q vs H'
section
variable {X : Cx}
end
end L2
set_option Elab.async false
set_option linter.all false
set_option maxRecDepth 100000
namespace L2
open PySem PySem.Spec PyProof.Rows PySem.W
def ltI : List Int → List Int → Bool
 | _, [] => false
 | [], _ :: _ => true
 | a :: x, b :: y => if a = b then ltI x y else decide (a < b)
theorem zos : ∀ {x y : List Int}, ltI x y = true → x ≠ y
 | [], [], h, _ => by simp [ltI] at h
 | a :: x, b :: y, h, e => by
  injection e with e1 e2
  subst e1 e2
  rw [ltI, if_pos rfl] at h
  exact zos h rfl
theorem zw8 : ∀ {x y : List Int}, ltI x y = true → ltI y x = false
 | _, [], h => by cases ‹List Int› <;> simp [ltI] at h
 | [], b :: y, _ => by simp [ltI]
 | a :: x, b :: y, h => by
  rw [ltI] at h ⊢
  by_cases e : a = b
  ·subst e
   rw [if_pos rfl] at h ⊢
   exact zw8 h
  ·rw [if_neg e] at h
   rw [if_neg (Ne.symm e)]
   simp only [decide_eq_true_eq, decide_eq_false_iff_not] at h ⊢
   omega
section
variable {prog : Program} {w : World} {A : Around} {E : Value → Shared → Prop} {s : Shared}
variable {k : SortKind} {vs : List Value} {st : SortSt}
end
end L2
set_option Elab.async false
set_option linter.all false
set_option maxRecDepth 100000
namespace L2
open PySem PySem.Spec PyProof.Rows PySem.W
section
variable {prog : Program} {w : World} {A : Around} {E : Value → Shared → Prop} {s : Shared}
end
def z2f (p : List Int) : Dm := .tup (p.map Dm.int)
abbrev Rw2 := List Int × Dm
def q2n (r : Rw2) : Dm := .tup [z2f r.1, r.2]
theorem z7n {H : Hp} : ∀ {xs : List V} {p : List Int}, DtA H xs (p.map Dm.int) → xs = p.map V.int
 | _, [], .nil => rfl
 | _, _ :: _, .cons (.int _) r => by rw [List.map_cons, ← z7n r]
section
variable {X : Cx} {pins : List (Addr × Obj)} {σ : St} {H : Hp} {s : Shared}
theorem zow : ∀ {p : List Int} {us : List Value}, Vals (p.map V.int) us → ItemsAre (intKind X.prog X.w) p us
 | [], _, .nil => .nil
 | i :: p, _, .cons r t => by
  obtain ⟨k, rfl⟩ := r
  exact .cons (intKind_is _ _ _ _) (zow t)
theorem Inv.path (I : Inv X pins σ H s) {v : V} {p : List Int} {u : Value} (d : Dt H v (z2f p)) (r : RelV v u) : ∃ a, u = .ref a ∧ IsTupleKey (intKind X.prog X.w) s.heap p a := by
 cases d with
 | tup e ra =>
  cases r
  obtain ⟨its, rv, ⟨o, ho, hc, n, hd⟩, _⟩ := I.tuple (SqT.of e)
  have := z7n ra
  subst this
  exact ⟨_, rfl, o, its.toArray, n, ho, hc, hd, zow rv⟩
end
end L2
set_option Elab.async false
set_option linter.all false
set_option maxRecDepth 100000
namespace L2
open PySem PyProof.Rows
open AutoSeq1 (wpAny_loadPart')
theorem zlv (l : Addr) (items : Array Value) (n : Nat) (dct : Option Addr) (sl : Array (Option Value)) :
  Meets (Builtin.«enumerate.__new__» ⟨[.type "enumerate", .ref l], []⟩) (fun _ R s => s.heap.get? l = some { cls := .type "tuple", dict := dct, data := .seq items n, slots := sl } ∧
   R (.ok (.ret (.ref (s.heap.push { cls := .type "tuple_iterator", data := .fields #[.ref l, .int 0 0] }).objs.size)))
    { s with heap := (s.heap.push { cls := .type "tuple_iterator", data := .fields #[.ref l, .int 0 0] }).push { cls := .type "enumerate", data := .fields #[.none, .bool false, .ref s.heap.objs.size, rawInt 0, .none, .none] } }) :=
 .of_wp fun prog w A R s h => by
  obtain ⟨hp, g, d, tk, os⟩ := s; obtain ⟨hl, h⟩ := h
  have hsub := sub_enumerate
  have hL : Heap.IsTuple (Shared.heap ⟨hp, g, d, tk, os⟩) l items := ⟨_, hl, rfl, n, rfl⟩
  wp_walk using wpAny_loadPart' hl
  refine wpAny_stack_any fun st => wpAny_pure ?_
  split
  ·rename_i c _ _ _ _ _
   cases (c == Value.type "enumerate")
   ·wp_walk using wpAny_loadPart' hl, wpAny_pyIter_tuple hL
    exact ⟨_, rfl, h⟩
   ·wp_walk using wpAny_loadPart' hl, wpAny_pyIter_tuple hL
    exact ⟨_, rfl, h⟩
  ·wp_walk using wpAny_loadPart' hl, wpAny_pyIter_tuple hL
   exact ⟨_, rfl, h⟩
section
variable {prog : Program} {w : World} {A : Around} {E : Value → Shared → Prop} {s : Shared}
theorem zqh {l : Addr} {items : Array Value} {Q : Value → Shared → Prop} (hL : s.heap.IsTuple l items)
  (h : ∀ h', IsEnum h' (s.heap.objs.size + 1) s.heap.objs.size 0 .none → h'.IsTupleIter s.heap.objs.size l 0 → h'.objs.size = s.heap.objs.size + 2 →
   (∀ b o, s.heap.get? b = some o → h'.get? b = some o) → Q (.ref (s.heap.objs.size + 1)) { s with heap := h' }) :
  wpAny (model prog w) A (call (.type "enumerate") [.ref l]) Q E s := by
 obtain ⟨⟨c, dct, dt, sl⟩, hl, hc, n, hd⟩ := hL
 replace hc : c = .type "tuple" := hc
 replace hd : dt = .seq items n := hd
 subst hc hd
 refine callType_new F.called_enumerate (by decide) (F.typeCall_enumerate_1 _) (F.newCall_enumerate_1 _) (fun obj => F.args_object_init_2 obj _) F.entry_enumerate_new
  (zlv l items n dct sl) ⟨hl, ?_⟩
 have hz : (s.heap.push { cls := .type "tuple_iterator", data := .fields #[.ref l, .int 0 0] }).objs.size = s.heap.objs.size + 1 := Heap.size_push ..
 show _ ∧ _
 rw [hz]
 have he : IsEnum ((s.heap.push { cls := .type "tuple_iterator", data := .fields #[.ref l, .int 0 0] }).push
   { cls := .type "enumerate", data := .fields #[.none, .bool false, .ref s.heap.objs.size, rawInt 0, .none, .none] }) (s.heap.objs.size + 1) s.heap.objs.size 0 .none := by
  have := Heap.get?_push_size (s.heap.push { cls := .type "tuple_iterator", data := .fields #[.ref l, .int 0 0] })
   (o := { cls := .type "enumerate", data := .fields #[.none, .bool false, .ref s.heap.objs.size, rawInt 0, .none, .none] }) rfl
  rw [hz] at this; exact this
 refine ⟨⟨_, he, rfl⟩, h _ he ⟨_, Heap.get?_push_of_some _ (Heap.get?_push_size _ rfl), rfl, rfl⟩ (by rw [Heap.size_push, hz]) fun b o x => Heap.get?_push_of_some _ (Heap.get?_push_of_some _ x)⟩
theorem zsv {e it l : Addr} {i : Nat} {items : Array Value} {old : Value} {Q : Option Value → Shared → Prop} (hh : A.handled = none) (he : IsEnum s.heap e it i old) (hit : s.heap.IsTupleIter it l i) (hl : s.heap.IsTuple l items) (hx : items[i]? = none)
  (hQ : ∀ h', Heap.ExtBut it s.heap h' → Q none { s with heap := h' }) : wpAny (model prog w) A (pyNext (.ref e)) Q E s := by
 have hT : s.TypeIs (.ref e) "enumerate" := ⟨_, he, rfl⟩
 unfold pyNext
 refine wpAny_bind (wpAny_attempt (wpAny_callSpecial?_slot (name := Str.ofString "__next__") hT F.slot_enumerate_next
  (wpAny_call_entry F.slot_enumerate_next hT F.entry_enumerate_next ?_ (F.args_enumerate_next_1 _))))
 show wpAny _ _ (field (.ref e) 2 >>= _) _ _ _
 refine wpAny_bind (wpAny_field he rfl (x := .ref it) rfl ?_)
 refine wpAny_bind (zbc hh hit hl hx fun h' x he' hx' => ?_)
 obtain ⟨o, ho, hc⟩ := hx'
 refine wpAny_bind (wpAny_isInstance (T := "StopIteration") (b := true) ⟨o, ho, hc⟩ isSubtype_stop ?_)
 exact wpAny_pure (hQ _ he')
end
theorem q13 {prog : Program} {w : World} {A : Around} (hh : A.handled = none) (it l : Addr) (hne : l ≠ it) (items : Array Value) :
  Draws prog w A it [it, l] items.size (fun i v => items[i]? = some v) (fun i h => h.IsTupleIter it l i ∧ h.IsTuple l items) where
 live := fun _ _ st => let ⟨o, ho, _⟩ := st.1; ⟨o, ho⟩
 frame := fun _ _ _ st hk => ⟨st.1.at fun o e => hk it (by simp) o e, let ⟨o, ho, r⟩ := st.2; ⟨o, hk l (by simp) o ho, r⟩⟩
 item := fun i s Q E hi st hQ => by
  refine zoq st.1 st.2 (x := items[i]) (by simp [hi]) fun h' hit' hs' => ?_
  exact hQ _ h' s.toks (by simp [hi]) ⟨hit', st.2.extBut hs'.extBut hne⟩ hs'
 done := fun s Q E st hE => zbc hh st.1 st.2 (by simp) hE
def zwr (K : PySem.W.Frag) (a : Addr) : It :=
 ⟨fun i H => ∃ xs x, SqT K H a xs ∧ xs[i]? = some x, fun i H x H' => ∃ T v, x = .ref T ∧ H T = none ∧ H' = upd H T (.tup [.int i, v]) ∧ ∀ xs, SqT K H a xs → xs[i]? = some v, fun i H => ∃ xs, SqT K H a xs ∧ xs.length ≤ i⟩
theorem zpd {P : Program} {w : World} {K : PySem.W.Frag} {elts : List Expr} {kt : Nat} {pt : Pos} (a e it : Addr) (hne : e ≠ it) (hea : e ≠ a) (hai : a ≠ it) : Turn P w K (.Tuple elts kt pt) (zwr K a) [e, it] e (fun i h => (∃ old, IsEnum h e it i old) ∧ h.IsTupleIter it a i) where
 mem := by simp
 obj := fun i h st b hb => by
  obtain ⟨⟨old, he⟩, hi⟩ := st
  rcases List.mem_cons.mp hb with rfl | hb
  ·exact ⟨_, he, fun v z => by cases z⟩
  ·obtain rfl := List.mem_singleton.mp hb
   obtain ⟨o, e', c, d⟩ := hi
   exact ⟨o, e', fun v z => by rw [d] at z; cases z⟩
 keep := fun i h h' st k => by
  obtain ⟨⟨old, he⟩, hi⟩ := st
  exact ⟨⟨old, k e (by simp) _ he⟩, hi.at fun o q => k it (by simp) o q⟩
 item := by
  intro X hP hw hK hc i pins s σ H E I hf st hg
  subst hP hw hK
  obtain ⟨⟨old, he⟩, hit⟩ := st
  obtain ⟨xs, x, hq, hx⟩ := hg
  obtain ⟨its, rv, p, hz⟩ := I.tuple hq
  obtain ⟨u, hu, ru⟩ := rv.get hx
  have hui : its.toArray[i]? = some u := by simpa using hu
  have hlt : i < its.toArray.size := by
   rcases Nat.lt_or_ge i its.toArray.size with c | c
   ·exact c
   ·rw [Array.getElem?_eq_none c] at hui; cases hui
  refine wpAny_pyNext_enum_itemD (q13 (A := X.A.in1) (show X.A.in1.handled = none from I.ok.hd hc) it a hai its.toArray) he ⟨hit, p⟩ hlt hne (by simp [hne, hea]) fun y h1 tk hy ho hst1 hT hsz hk => ?_
  have hy' : its.toArray[i]? = some y := hy
  obtain rfl : u = y := by rw [hui] at hy'; exact Option.some.inj hy'
  have hit1 := hst1.1
  refine ⟨_, rfl, wpAny_letOwnedTupleGo_enum ho fun h2 he2 hs2 => ?_⟩
  have helt : e < s.heap.objs.size := Heap.lt_size he
  have hs2' : Heap.SameBut e h1 h2 := hs2
  have kk : ∀ b o, b ∉ [e, it] → s.heap.get? b = some o → h2.get? b = some o := fun b o hb q => hs2'.extBut b o (fun z => hb (by simp [z])) (hk b o (fun z => hb (by simp [z])) (fun z => hb (by simp [z])) q)
  have I1 : Inv X pins σ H { s with heap := h2, toks := tk + 1 } := I.turnedL kk hf
  have hTn : H s.heap.objs.size = none := I.hok.fresh (Nat.le_refl _)
  have hT2 : h2.get? s.heap.objs.size = some { cls := .type "tuple", data := .seq #[.int i tk, u] } := hs2'.extBut _ _ (Nat.ne_of_gt helt) hT
  have I2 : Inv X pins σ (upd H s.heap.objs.size (.tup [.int i, x])) { s with heap := h2, toks := tk + 1 } :=
   I1.track hTn (I.fpOk (Nat.le_refl _) hTn) (show ObjOk X.prog X.w _ h2 _ (.tup [.int i, x]) from ⟨zqt, [.int i tk, u], .cons ⟨_, rfl⟩ (.cons ru .nil), ⟨_, hT2, rfl, _, rfl⟩⟩)
  refine ⟨.ref s.heap.objs.size, _, I2, rfl, ⟨s.heap.objs.size, x, rfl, hTn, rfl, fun ys hy => by rw [I.tuple_inj hy hq]; exact hx⟩, ⟨⟨u, by simpa using he2⟩, hit1.at fun o q => (hs2'.2 it hne.symm).trans q⟩, fun b hb => ?_⟩
  have hbl : b < s.heap.objs.size := by
   rcases List.mem_cons.mp hb with rfl | hb
   ·exact helt
   ·obtain rfl := List.mem_singleton.mp hb
    obtain ⟨o, e', _⟩ := hit
    exact Heap.lt_size e'
  rw [z0q (Nat.ne_of_lt hbl)]
  exact (hf b hb).1
 done := by
  intro X hP hw hK hc i pins s σ H E I hf st hg
  subst hP hw hK
  obtain ⟨⟨old, he⟩, hit⟩ := st
  obtain ⟨xs, hq, hx⟩ := hg
  obtain ⟨its, rv, p, hz⟩ := I.tuple hq
  have hl := rv.length
  exact zsv (I.ok.hd hc) he hit p (by simp; omega) fun h' eb => ⟨rfl, I.turnedL (t' := s.toks) (fun b o hb q => eb b o (fun z => hb (by simp [z])) q) hf⟩
 self := fun _ _ _ _ _ st h => by
  obtain ⟨⟨old, he⟩, _⟩ := st
  exact wpAny_pyIter_enum he h
section
variable {X : Cx}
def zso (K : PySem.W.Frag) (ta : TA) : TI := fun σ H R => ta σ H fun vs H1 => ∃ a, vs = [.ref a] ∧ (∃ xs, SqT K H1 a xs) ∧ R (zwr K a) H1
theorem zjc {elts : List Expr} {kt : Nat} {pt p pos : Pos} {l : Expr} {ta : TA} (hg : Gl X "enumerate") (hm : X.mg "enumerate" = none) (ha : PA X [l] ta) (hst : zil l = false := by rfl) : PI X (.Tuple elts kt pt) (.Call (.Name "enumerate" p) [l] [] pos) (zso X.K ta) := by
 intro pins s σ H R I h
 refine Call_ (zhc I hg hm boot_enumerate (PyProof.Rows.callWith_type1 (thn (ha pos pins s σ H _ I h) fun us s1 ⟨vs, H1, I1, r1, q1⟩ => ?_) (z29 hst) rfl))
 obtain ⟨a, e, ⟨xs, hq⟩, q⟩ := q1
 subst e
 cases r1 with
 | cons r rr =>
  cases rr
  cases r
  obtain ⟨its, rv, pl, hz⟩ := I1.tuple hq
  have hal : a < s1.heap.objs.size := by
   obtain ⟨o, e, _⟩ := pl
   exact Heap.lt_size e
  refine zqh pl fun h' he hi hsz hk => ?_
  have I2 : Inv X pins σ H1 { s1 with heap := h' } := I1.kept (t' := s1.toks) hk
  refine wpAny_pyIter_enum he ?_
  refine ⟨s1.heap.objs.size + 1, [s1.heap.objs.size + 1, s1.heap.objs.size], _, _, H1, rfl, I2, zpd a _ _ (Nat.succ_ne_self _) (Nat.ne_of_gt (Nat.lt_succ_of_lt hal)) (Nat.ne_of_lt hal), ⟨⟨_, he⟩, hi⟩, fun b hb => ?_, q⟩
  have hle : s1.heap.objs.size ≤ b := by
   rcases List.mem_cons.mp hb with rfl | hb
   ·exact Nat.le_succ _
   ·obtain rfl := List.mem_singleton.mp hb
    exact Nat.le_refl _
  exact I1.fpOk hle (I1.hok.fresh hle)
end
theorem zlp {K : PySem.W.Frag} {a : Addr} {xs : List V} {g : TG} {tb : TS} {D : Ends} {σ : St} {H : Hp} (Pv : Nat → St → Hp → Prop) (h0 : Pv 0 σ H) (hl : ∀ i σ H, i ≤ xs.length → Pv i σ H → SqT K H a xs)
  (hs : ∀ i x σ H T, xs[i]? = some x → Pv i σ H → H T = none → g (.ref T) σ (upd H T (.tup [.int i, x])) fun σ2 H2 => tb { D with nx := Pv (i + 1), ct := Pv (i + 1), bk := D.nx } σ2 H2) (hd : ∀ σ H, Pv xs.length σ H → D.nx σ H) :
  ∃ W : Nat → Nat → St → Hp → Prop, (∃ m, W 0 m σ H) ∧ ∀ i m σ H, W i m σ H →
   ((zwr K a).stop i H ∧ D.nx σ H) ∨ ((zwr K a).go i H ∧ ∃ N : St → Hp → Prop, (∀ σ' H', N σ' H' → ∃ m', m' < m ∧ W (i + 1) m' σ' H') ∧ ∀ x H', (zwr K a).yld i H x H' → g x σ H' fun σ2 H2 => tb { D with nx := N, ct := N, bk := D.nx } σ2 H2) := by
 refine ⟨fun i m σ H => m = xs.length - i ∧ i ≤ xs.length ∧ Pv i σ H, ⟨xs.length, by simp, Nat.zero_le _, h0⟩, ?_⟩
 rintro i m σ H ⟨rfl, hi, p⟩
 have q := hl i σ H hi p
 by_cases hlt : i < xs.length
 ·refine .inr ⟨⟨xs, xs[i], q, by simp [hlt]⟩, Pv (i + 1), fun σ' H' p' => ⟨xs.length - (i + 1), by omega, rfl, hlt, p'⟩, fun x H' y => ?_⟩
  obtain ⟨T, v, rfl, hT, rfl, y⟩ := y
  exact hs i v σ H T (y xs q) p hT
 ·have e : i = xs.length := by omega
  subst e
  exact .inl ⟨⟨xs, q, Nat.le_refl _⟩, hd σ H p⟩
end L2
set_option Elab.async false
set_option linter.all false
set_option maxRecDepth 100000
namespace L2
open PySem PySem.Spec PyProof.Rows
section
variable {prog : Program} {w : World} {A : Around} {E : Value → Shared → Prop} {s : Shared} {S : Addr}
end
def zkc (P : Program) (w : World) (p : Addr) (ks : List Str) : HO := .ext (SetX (PySem.strKind P w) strOf p (!q1f w) ks)
section
variable {X : Cx}
end
end L2
set_option Elab.async false
set_option linter.all false
set_option maxRecDepth 100000
namespace L2
open PySem PySem.Spec PyProof.Rows PySem.W
def zqm (r : Nat → Nat) (n : Nat) : Nat → Nat → (Bool → Shared → Prop) → Shared → Prop := fun i j C s => i < n ∧ j < n ∧ C (decide (r i < r j)) s
theorem ztv {α : Type} {r : Nat → Nat} {n : Nat} {cmp : Nat → Nat → (Bool → Shared → Prop) → Shared → Prop} {s : Shared} {Q : α → Shared → Prop} (hc : ∀ i j C, i < n → j < n → C (decide (r i < r j)) s → cmp i j C s) :
  ∀ (t : KasT α), t.kasWp (zqm r n) (fun a s' => Q a s) s → t.kasWp cmp Q s
 | .ret a, h => h
 | .ask i j k, ⟨h1, h2, h⟩ => hc i j _ h1 h2 (ztv hc (k _) h)
section
variable {r : Nat → Nat} {n : Nat} {s : Shared}
theorem zhz {α : Type} {i j : Nat} {T1 T2 : KasT α} {Q : α → Shared → Prop} (hi : i < n) (hj : j < n) (h1 : r i < r j → T1.kasWp (zqm r n) Q s) (h2 : ¬ r i < r j → T2.kasWp (zqm r n) Q s) : (KasT.ask i j fun c => if c = true then T1 else T2).kasWp (zqm r n) Q s := by
 refine ⟨hi, hj, ?_⟩
 by_cases c : r i < r j
 ·have := h1 c
  simpa [c] using this
 ·have := h2 c
  simpa [c] using this
def rk (r : Nat → Nat) (p : Array Nat) (i : Nat) : Nat := r (p.getD i 0)
def Asc (r : Nat → Nat) (p : Array Nat) (m : Nat) : Prop := ∀ i j, i < j → j < m → rk r p i < rk r p j
def Dsc (r : Nat → Nat) (p : Array Nat) (m : Nat) : Prop := ∀ i j, i < j → j < m → rk r p j < rk r p i
structure PermN (r : Nat → Nat) (n : Nat) (p : Array Nat) : Prop where
 sz : p.size = n
 lt : ∀ i, i < n → p.getD i 0 < n
 inj : ∀ i j, i < n → j < n → rk r p i = rk r p j → i = j
 pm : p.toList.Perm (List.range n)
theorem PermN.of (hr : ∀ i j, i < n → j < n → r i = r j → i = j) {p : Array Nat} (h : p.toList.Perm (List.range n)) : PermN r n p := by
 have sz : p.size = n := by simpa using h.length_eq
 have lt : ∀ i, i < n → p.getD i 0 < n := fun i hi => by
  have hi' : i < p.size := by omega
  have : p.getD i 0 ∈ p.toList := by simp [Array.getD, hi']
  simpa using h.mem_iff.mp this
 refine ⟨sz, lt, fun i j hi hj e => ?_, h⟩
 have e' := hr _ _ (lt i hi) (lt j hj) e
 have nd : p.toList.Nodup := h.nodup_iff.mpr List.nodup_range
 have hi' : i < p.size := by omega
 have hj' : j < p.size := by omega
 have : p.toList[i]'(by simpa using hi') = p.toList[j]'(by simpa using hj') := by simpa [Array.getD, hi', hj'] using e'
 exact (List.getElem_inj nd).mp this
theorem zjv {p q : Array Nat} {i j : Nat} (h : p[i]? = q[j]?) : p.getD i 0 = q.getD j 0 := by
 have e1 : p.getD i 0 = (p[i]?).getD 0 := by simp
 have e2 : q.getD j 0 = (q[j]?).getD 0 := by simp
 rw [e1, e2, h]
theorem q33 {p : Array Nat} (P : PermN r n p) {Q : Nat → Shared → Prop} : ∀ (f m : Nat), 1 ≤ m → m + f ≤ n → Asc r p m → (∀ k, m ≤ k → k ≤ m + f → Asc r p k → (k < m + f → rk r p k < rk r p (k - 1)) → Q k s) → (kas_asc p f m).kasWp (zqm r n) Q s
 | 0, m, h1, h2, h, q => q m (Nat.le_refl _) (Nat.le_refl _) h (fun z => absurd z (by omega))
 | f + 1, m, h1, h2, h, q => by
  refine zhz (P.lt _ (by omega)) (P.lt _ (by omega)) (fun c => ?_) (fun (c : ¬ rk r p m < rk r p (m - 1)) => ?_)
  ·exact q m (Nat.le_refl _) (by omega) h (fun _ => c)
  ·refine q33 P f (m + 1) (by omega) (by omega) (fun i j hij hj => ?_) fun k k1 k2 k3 k4 => q k (by omega) (by omega) k3 (fun z => k4 (by omega))
   have last : rk r p (m - 1) < rk r p m := by
    have : rk r p (m - 1) ≠ rk r p m := fun e => by have := P.inj _ _ (by omega) (by omega) e; omega
    omega
   by_cases e : j = m
   ·subst e
    by_cases e2 : i = j - 1
    ·rw [e2]; exact last
    ·exact Nat.lt_trans (h i (j - 1) (by omega) (by omega)) last
   ·exact h i j hij (by omega)
theorem q15 {p : Array Nat} (P : PermN r n p) {Q : Array Nat × Nat × Nat → Shared → Prop} : ∀ (f m : Nat), 1 ≤ m → m + f ≤ n → Dsc r p m → (∀ k, m ≤ k → k ≤ m + f → Dsc r p k → Q (p, k, 0) s) → (kas_desc f p m 0).kasWp (zqm r n) Q s
 | 0, m, h1, h2, h, q => q m (Nat.le_refl _) (Nat.le_refl _) h
 | f + 1, m, h1, h2, h, q => by
  refine zhz (P.lt _ (by omega)) (P.lt _ (by omega)) (fun c => ?_) (fun (c : ¬ rk r p m < rk r p (m - 1)) => ?_)
  ·rw [if_neg (by omega)]
   refine q15 P f (m + 1) (by omega) (by omega) (fun i j hij hj => ?_) fun k k1 k2 k3 => q k (by omega) (by omega) k3
   by_cases e : j = m
   ·subst e
    by_cases e2 : i = j - 1
    ·rw [e2]; exact c
    ·exact Nat.lt_trans c (h i (j - 1) (by omega) (by omega))
   ·exact h i j hij (by omega)
  ·have last : rk r p (m - 1) < rk r p m := by
    have : rk r p (m - 1) ≠ rk r p m := fun e => by have := P.inj _ _ (by omega) (by omega) e; omega
    omega
   refine zhz (P.lt _ (by omega)) (P.lt _ (by omega)) (fun c => ?_) (fun c => absurd last c)
   exact q m (Nat.le_refl _) (by omega) h
theorem zuk (hr : ∀ i j, i < n → j < n → r i = r j → i = j) {p : Array Nat} (P : PermN r n p) (i j : Nat) : PermN r n (kas_rev p i j) :=
 .of hr ((Array.perm_iff_toList_perm.mp (mirror_perm _ _ _ _)).trans P.pm)
theorem zw0 {p : Array Nat} {m : Nat} (hm : m ≤ p.size) (k : Nat) (hk : k < m) : rk r (kas_rev p 0 m) k = rk r p (m - 1 - k) := by
 have e := getElem?_mirror_all (xs := p) (i := 0) hm k
 rw [if_pos (by omega)] at e
 show r _ = r _
 rw [show kas_rev p 0 m = mirror p 0 m ((m - 0) / 2) from rfl, zjv e]
 congr 2
 omega
theorem zze (hr : ∀ i j, i < n → j < n → r i = r j → i = j) {p : Array Nat} (P : PermN r n p) {m : Nat} {Q : Nat × Array Nat → Shared → Prop} (h1 : 1 ≤ m) (h2 : m ≤ n) (h : Dsc r p m)
  (q : ∀ k p', PermN r n p' → 1 ≤ k → k ≤ n → Asc r p' k → Q (k, p') s) : (kas_tail3 m n p).kasWp (zqm r n) Q s := by
 unfold kas_tail3
 rw [KasT.kasWp_bind]
 have P' := zuk hr P 0 m
 refine q33 P' (n - m) m h1 (by omega) (fun i j hij hj => ?_) fun k k1 k2 k3 _ => q k _ P' (by omega) (by omega) k3
 rw [zw0 (by rw [P.sz]; exact h2) _ (by omega), zw0 (by rw [P.sz]; exact h2) _ hj]
 exact h _ _ (by omega) (by omega)
theorem zsz (hr : ∀ i j, i < n → j < n → r i = r j → i = j) {p : Array Nat} (P : PermN r n p) {m : Nat} {Q : Nat × Array Nat → Shared → Prop} (h2 : m + 1 ≤ n) (h : Dsc r p (m + 1))
  (q : ∀ k p', PermN r n p' → 1 ≤ k → k ≤ n → Asc r p' k → Q (k, p') s) : (kas_descPart m n p).kasWp (zqm r n) Q s := by
 unfold kas_descPart
 rw [KasT.kasWp_bind]
 refine q15 P (n - (m + 1)) (m + 1) (by omega) (by omega) h fun k k1 k2 k3 => ?_
 rw [if_neg (show ¬ (p, k, 0).2.2 > 0 from Nat.lt_irrefl 0)]
 have a1 : 1 ≤ k := by omega
 have a2 : k ≤ n := by omega
 exact zze hr P a1 a2 k3 q
theorem q1b (hr : ∀ i j, i < n → j < n → r i = r j → i = j) {p : Array Nat} (P : PermN r n p) {Q : Nat × Array Nat → Shared → Prop} (h1 : 1 ≤ n)
  (q : ∀ k p', PermN r n p' → 1 ≤ k → k ≤ n → Asc r p' k → Q (k, p') s) : (kas_count n p).kasWp (zqm r n) Q s := by
 unfold kas_count
 rw [KasT.kasWp_bind]
 refine q33 P (n - 1) 1 (Nat.le_refl _) (by omega) (fun i j hij hj => by omega) fun m m1 m2 m3 m4 => ?_
 by_cases e : m = n
 ·rw [if_pos (by simpa using e)]
  exact q m p P m1 (by omega) m3
 ·rw [if_neg (by simpa using e)]
  by_cases e2 : m > 1
  ·rw [if_pos e2]
   refine zhz (P.lt _ (by omega)) (P.lt _ (by omega)) (fun c => ?_) (fun c => absurd (m3 0 (m - 1) (by omega) (by omega)) c)
   exact q m p P m1 (by omega) m3
  ·rw [if_neg e2]
   obtain rfl : m = 1 := by omega
   refine zsz hr P (by omega) (fun i j hij hj => ?_) q
   obtain rfl : i = 0 := by omega
   obtain rfl : j = 1 := by omega
   exact m4 (by omega)
theorem zrn {p : Array Nat} (P : PermN r n p) {k : Nat} (hk : k < n) (hs : Asc r p k) {Q : Nat → Shared → Prop} : ∀ (f l u : Nat), l ≤ u → u ≤ k → u - l ≤ f → (∀ i, i < l → rk r p i < rk r p k) → (∀ i, u ≤ i → i < k → rk r p k < rk r p i) →
  (∀ m, m ≤ k → (∀ i, i < m → rk r p i < rk r p k) → (∀ i, m ≤ i → i < k → rk r p k < rk r p i) → Q m s) → (kas_place p k f l u).kasWp (zqm r n) Q s
 | 0, l, u, h1, h2, h3, lo, hi, q => by
  obtain rfl : l = u := by omega
  exact q l h2 lo hi
 | f + 1, l, u, h1, h2, h3, lo, hi, q => by
  unfold kas_place
  by_cases e : l ≥ u
  ·rw [if_pos e]
   obtain rfl : l = u := by omega
   exact q l h2 lo hi
  ·rw [if_neg e]
   refine zhz (P.lt _ hk) (P.lt _ (by omega)) (fun c => ?_) (fun (c : ¬ rk r p k < rk r p ((l + u) / 2)) => ?_)
   ·refine zrn P hk hs f l ((l + u) / 2) (by omega) (by omega) (by omega) lo (fun i h1 h2 => ?_) q
    by_cases e2 : i = (l + u) / 2
    ·rw [e2]; exact c
    ·exact Nat.lt_trans c (hs _ _ (by omega) h2)
   ·have c' : rk r p ((l + u) / 2) < rk r p k := by
     have : rk r p ((l + u) / 2) ≠ rk r p k := fun e => by have := P.inj _ _ (by omega) hk e; omega
     omega
    refine zrn P hk hs f ((l + u) / 2 + 1) u (by omega) h2 (by omega) (fun i h1 => ?_) hi q
    by_cases e2 : i = (l + u) / 2
    ·rw [e2]; exact c'
    ·exact Nat.lt_trans (hs _ _ (show i < (l + u) / 2 by omega) (by omega)) c'
theorem q3p (hr : ∀ i j, i < n → j < n → r i = r j → i = j) {Q : Array Nat → Shared → Prop} : ∀ (f : Nat) (p : Array Nat) (k : Nat), PermN r n p → k + f = n → Asc r p k → (∀ p', PermN r n p' → Asc r p' n → Q p' s) → (kas_bin f p k).kasWp (zqm r n) Q s
 | 0, p, k, P, e, h, q => by
  obtain rfl : k = n := e
  exact q p P h
 | f + 1, p, k, P, e, h, q => by
  rw [show kas_bin (f + 1) p k = (kas_place p k k 0 k).bind fun l => kas_bin f (bubble p k (k - l)) (k + 1) from rfl, KasT.kasWp_bind]
  have hk : k < n := by omega
  refine zrn P hk h k 0 k (Nat.zero_le _) (Nat.le_refl _) (by omega) (fun i z => absurd z (by omega)) (fun i z z' => absurd z' (by omega)) fun m m1 m2 m3 => ?_
  refine q3p hr f _ (k + 1) (.of hr ((Array.perm_iff_toList_perm.mp (bubble_perm _ _ _)).trans P.pm)) (by omega) (fun i j hij hj => ?_) q
  have at_ : ∀ x, rk r (bubble p k (k - m)) x = if x = m then rk r p k else if m < x ∧ x ≤ k then rk r p (x - 1) else rk r p x := fun x => by
   have z := getElem?_bubble (xs := p) (src := k) (by rw [P.sz]; exact hk) (k - m) (by omega) x
   rw [show k - (k - m) = m by omega] at z
   show r _ = _
   by_cases e1 : x = m
   ·rw [if_pos e1] at z ⊢
    rw [zjv z, rk]
   ·rw [if_neg e1] at z ⊢
    by_cases e2 : m < x ∧ x ≤ k
    ·rw [if_pos e2] at z ⊢
     rw [zjv z, rk]
    ·rw [if_neg e2] at z ⊢
     rw [zjv z, rk]
  rw [at_, at_]
  repeat' split
  all_goals first
   | (exfalso; omega)
   | exact m2 _ (by omega)
   | exact m3 _ (by omega) (by omega)
   | exact h _ _ (by omega) (by omega)
theorem q2m (hr : ∀ i j, i < n → j < n → r i = r j → i = j) (h1 : 1 ≤ n) {Q : Array Nat → Shared → Prop} (q : ∀ p, PermN r n p → Asc r p n → Q p s) : (kas_sort n).kasWp (zqm r n) Q s := by
 unfold kas_sort
 rw [KasT.kasWp_bind]
 refine q1b hr (.of hr (by simp)) h1 fun k p P k1 k2 k3 => ?_
 dsimp only
 by_cases e : k < n
 ·rw [if_pos e, show max k 1 = k by omega]
  exact q3p hr _ p k P (by omega) k3 q
 ·rw [if_neg e]
  obtain rfl : k = n := by omega
  exact q p P k3
end
end L2
set_option Elab.async false
set_option linter.all false
set_option maxRecDepth 100000
namespace L2
open PySem PySem.Spec PyProof.Rows PySem.W
theorem hole : ∀ (n : Nat) (l : List Nat), l.length = n → ∃ j, j ≤ n ∧ j ∉ l
 | 0, l, h => ⟨0, Nat.le_refl _, by rw [List.length_eq_zero_iff.mp h]; simp⟩
 | n + 1, l, h => by
  by_cases c : n + 1 ∈ l
  ·obtain ⟨j, hj, hn⟩ := hole n (l.erase (n + 1)) (by rw [List.length_erase_of_mem c, h]; rfl)
   exact ⟨j, by omega, fun z => hn ((List.mem_erase_of_ne (show j ≠ n + 1 by omega)).mpr z)⟩
  ·exact ⟨n + 1, Nat.le_refl _, c⟩
def lps (mask : Nat) : Nat → Nat × Nat → Nat × Nat
 | 0, x => x
 | k + 1, x => lps mask k (SetTable.leap mask x.1 x.2)
theorem zjk (mask : Nat) : ∀ (a b : Nat) (x : Nat × Nat), lps mask (a + b) x = lps mask b (lps mask a x)
 | 0, b, x => by rw [Nat.zero_add]; rfl
 | a + 1, b, x => by rw [Nat.succ_add]; exact zjk mask a b _
theorem znk (mask : Nat) : ∀ (k : Nat) (x : Nat × Nat), (lps mask k x).2 = x.2 / 32 ^ k
 | 0, x => by simp [lps]
 | k + 1, x => by
  rw [lps, znk mask k, SetTable.leap, Nat.div_div_eq_div_mul, Nat.pow_succ, Nat.mul_comm]
theorem zw9 (mask : Nat) : ∀ (k : Nat) (x : Nat × Nat), x.1 ≤ mask → (lps mask k x).1 ≤ mask
 | 0, x, h => h
 | k + 1, x, h => zw9 mask k _ (Nat.le_of_lt_succ (Nat.mod_lt _ (Nat.succ_pos _)))
def orb (mask : Nat) : Nat → Nat → List Nat
 | 0, i => [i]
 | k + 1, i => i :: orb mask k ((i * 5 + 1) % (mask + 1))
theorem zn8 (mask : Nat) : ∀ (k i j : Nat), j ∈ orb mask k i → ∃ m, m ≤ k ∧ (lps mask m (i, 0)).1 = j
 | 0, i, j, h => by
  rw [orb, List.mem_singleton] at h
  exact ⟨0, Nat.le_refl _, h.symm⟩
 | k + 1, i, j, h => by
  rw [orb] at h
  rcases List.mem_cons.mp h with h | h
  ·exact ⟨0, Nat.zero_le _, h.symm⟩
  ·obtain ⟨m, hm, e⟩ := zn8 mask k _ j h
   refine ⟨m + 1, by omega, ?_⟩
   rw [lps, SetTable.leap]
   simpa using e
def zp9 (mask : Nat) : Prop := mask = 7 ∨ mask = 31 ∨ mask = 127
theorem zxf {mask : Nat} (hm : zp9 mask) : (∀ j, j ≤ mask → j ∈ orb mask mask 0) ∧ (lps mask (mask + 1) (0, 0)).1 = 0 := by
 have go : ∀ n : Nat, ((List.range (n + 1)).all fun j => (orb n n 0).contains j) = true → ∀ j, j ≤ n → j ∈ orb n n 0 := fun n h j hj => by
  rw [List.all_eq_true] at h
  have x := h j (by simp; omega)
  simpa using x
 rcases hm with rfl | rfl | rfl
 ·exact ⟨go 7 (by decide +kernel), by decide +kernel⟩
 ·exact ⟨go 31 (by decide +kernel), by decide +kernel⟩
 ·exact ⟨go 127 (by decide +kernel), by decide +kernel⟩
theorem zot (mask k i : Nat) : lps mask k (i, 0) = ((lps mask k (i, 0)).1, 0) := by
 have : (lps mask k (i, 0)).2 = 0 := by rw [znk]; exact Nat.zero_div _
 exact Prod.ext rfl this
theorem zux {mask : Nat} (hm : zp9 mask) {i j : Nat} (hi : i ≤ mask) (hj : j ≤ mask) : ∃ m, m ≤ mask ∧ (lps mask m (i, 0)).1 = j := by
 obtain ⟨all, turn⟩ := zxf hm
 obtain ⟨a, ha, ea⟩ := zn8 mask mask 0 i (all i hi)
 obtain ⟨b, hb, eb⟩ := zn8 mask mask 0 j (all j hj)
 have from_ : ∀ m, lps mask m (i, 0) = lps mask (a + m) (0, 0) := fun m => by rw [zjk, zot mask a 0, ea]
 by_cases c : a ≤ b
 ·refine ⟨b - a, by omega, ?_⟩
  rw [from_, show a + (b - a) = b by omega]
  exact eb
 ·refine ⟨b + (mask + 1) - a, by omega, ?_⟩
  rw [from_, show a + (b + (mask + 1) - a) = (mask + 1) + b by omega, zjk, zot mask (mask + 1) 0, turn]
  exact eb
theorem q2x {mask : Nat} (hm : zp9 mask) {x : Nat × Nat} (h1 : x.1 ≤ mask) (h2 : x.2 < 2 ^ 64) {j : Nat} (hj : j ≤ mask) : ∃ n, 1 ≤ n ∧ n ≤ mask + 13 ∧ (lps mask n x).1 = j := by
 have e0 : (lps mask 13 x).2 = 0 := by
  rw [znk]
  exact Nat.div_eq_of_lt (Nat.lt_trans h2 (by decide))
 have e1 : lps mask 13 x = ((lps mask 13 x).1, 0) := by rw [← e0]
 obtain ⟨m, hm', e⟩ := zux hm (zw9 mask 13 x h1) hj
 refine ⟨13 + m, by omega, by omega, ?_⟩
 rw [zjk, e1]
 exact e
def zqn (t : SetTable) : Nat → SetTable.Probe → SetTable.Probe
 | 0, p => p
 | k + 1, p => zqn t k (t.advance p)
theorem zp8 (t : SetTable) : ∀ (a b : Nat) (p : SetTable.Probe), zqn t (a + b) p = zqn t b (zqn t a p)
 | 0, b, p => by rw [Nat.zero_add]; rfl
 | a + 1, b, p => by rw [Nat.succ_add]; exact zp8 t a b _
theorem zkx (mask i : Nat) : SetTable.runEnd mask i - i ≤ 9 := by
 unfold SetTable.runEnd
 split <;> omega
theorem zka (t : SetTable) : ∀ (m : Nat) (p : SetTable.Probe), p.more = m → (zqn t (m + 1) p).j = (SetTable.leap t.mask p.i p.perturb).1 ∧ (zqn t (m + 1) p).i = (SetTable.leap t.mask p.i p.perturb).1 ∧ (zqn t (m + 1) p).perturb = (SetTable.leap t.mask p.i p.perturb).2 ∧ (zqn t (m + 1) p).more ≤ 9
 | 0, p, h => by
  have e : t.advance p = { p with j := (SetTable.leap t.mask p.i p.perturb).1, more := SetTable.runEnd t.mask (SetTable.leap t.mask p.i p.perturb).1 - (SetTable.leap t.mask p.i p.perturb).1, i := (SetTable.leap t.mask p.i p.perturb).1, perturb := (SetTable.leap t.mask p.i p.perturb).2 } := by
   unfold SetTable.advance
   rw [if_neg (by omega)]
  show (t.advance p).j = _ ∧ (t.advance p).i = _ ∧ (t.advance p).perturb = _ ∧ (t.advance p).more ≤ 9
  rw [e]
  exact ⟨rfl, rfl, rfl, zkx _ _⟩
 | m + 1, p, h => by
  have e : t.advance p = { p with j := p.j + 1, more := p.more - 1 } := by
   unfold SetTable.advance
   rw [if_pos (by omega)]
  show (zqn t (m + 1) (t.advance p)).j = _ ∧ _
  obtain ⟨a, b, c, d⟩ := zka t m (t.advance p) (by rw [e]; show p.more - 1 = m; omega)
  have e1 : (t.advance p).i = p.i := by rw [e]
  have e2 : (t.advance p).perturb = p.perturb := by rw [e]
  rw [e1, e2] at a b c
  exact ⟨a, b, c, d⟩
theorem ziw (t : SetTable) : ∀ (n : Nat) (p : SetTable.Probe), p.more ≤ 9 → ∃ k, k ≤ 10 * (n + 1) ∧ (zqn t k p).j = (lps t.mask (n + 1) (p.i, p.perturb)).1
 | 0, p, h => by
  obtain ⟨a, _⟩ := zka t p.more p rfl
  exact ⟨p.more + 1, by omega, a⟩
 | n + 1, p, h => by
  obtain ⟨a, b, c, d⟩ := zka t p.more p rfl
  obtain ⟨k, hk, e⟩ := ziw t n (zqn t (p.more + 1) p) d
  refine ⟨p.more + 1 + k, by omega, ?_⟩
  rw [zp8, e, b, c]
  rfl
structure TabOk (t : SetTable) : Prop where
 dm : t.dummies = #[]
 mz : t.mask = 7 ∧ t.place.size ≤ 4 ∨ t.mask = 31 ∧ t.place.size ≤ 18 ∨ t.mask = 127 ∧ t.place.size ≤ 60
 rs : Ris t.place
theorem TabOk.mask {t : SetTable} (T : TabOk t) : zp9 t.mask := T.mz.elim (fun z => .inl z.1) fun z => z.elim (fun z => .inr (.inl z.1)) fun z => .inr (.inr z.1)
theorem TabOk.slot {t : SetTable} (T : TabOk t) (j : Nat) : t.slot j = if t.place[SetTable.below t.place j]? = some j then .live (SetTable.below t.place j) else .empty := by
 unfold SetTable.slot
 have : SetTable.has t.dummies j = false := by rw [T.dm]; rfl
 rw [this]
 simp
theorem TabOk.hole {t : SetTable} (T : TabOk t) : ∃ j, j ≤ t.mask ∧ t.slot j = .empty := by
 obtain ⟨j, hj, hn⟩ := L2.hole t.place.size t.place.toList (by simp)
 refine ⟨j, ?_, ?_⟩
 ·rcases T.mz with ⟨a, b⟩ | ⟨a, b⟩ | ⟨a, b⟩ <;> omega
 ·rw [T.slot, if_neg]
  intro e
  exact hn (List.mem_of_getElem? (i := SetTable.below t.place j) (by simpa using e))
def q34 (t : SetTable) (p : SetTable.Probe) : Prop := p.more ≤ 9 ∧ p.i ≤ t.mask ∧ p.perturb < 2 ^ 64
def Far (t : SetTable) (p : SetTable.Probe) (k : Nat) : Prop := p.dummy = none ∧ t.slot (zqn t k p).j = .empty
theorem TabOk.far {t : SetTable} (T : TabOk t) {p : SetTable.Probe} (h : q34 t p) (hd : p.dummy = none) : ∃ k, k < 10 * SetTable.turns t.mask ∧ Far t p k := by
 obtain ⟨j, hj, he⟩ := T.hole
 obtain ⟨n, h1, h2, e⟩ := q2x T.mask (x := (p.i, p.perturb)) h.2.1 h.2.2 hj
 obtain ⟨m, rfl⟩ : ∃ m, n = m + 1 := ⟨n - 1, by omega⟩
 obtain ⟨k, hk, ek⟩ := ziw t m p h.1
 refine ⟨k, by unfold SetTable.turns; omega, hd, ?_⟩
 rw [ek, e]
 exact he
theorem zys (h : Int) : SetTable.bits h < 2 ^ 64 := by
 unfold SetTable.bits
 have a := Int.emod_lt_of_pos h (show (0 : Int) < 2 ^ 64 by decide)
 have b := Int.emod_nonneg h (show (2 ^ 64 : Int) ≠ 0 by decide)
 omega
theorem TabOk.start {t : SetTable} (T : TabOk t) (h : Int) : ∃ k, k < 10 * SetTable.turns t.mask ∧ Far t (t.probeStart h) k :=
 T.far ⟨zkx _ _, Nat.le_of_lt_succ (Nat.mod_lt _ (Nat.succ_pos _)), zys h⟩ rfl
theorem fmC {f g : Nat → Option Nat} : ∀ l : List Nat, (∀ x ∈ l, f x = g x) → l.filterMap f = l.filterMap g
 | [], _ => rfl
 | a :: l, h => by
  have e := h a (.head _)
  have ih := fmC l fun x hx => h x (.tail _ hx)
  cases c : g a with
  | none => rw [List.filterMap_cons_none (e.trans c), List.filterMap_cons_none c, ih]
  | some v => rw [List.filterMap_cons_some (e.trans c), List.filterMap_cons_some c, ih]
def Own (mask : Nat) (owner : Array (Option Nat)) (k : Nat) : Prop := owner.size = mask + 1 ∧ ((List.range (mask + 1)).filterMap fun j => owner.getD j none).Perm (List.range k)
theorem Own.hole {mask k : Nat} {owner : Array (Option Nat)} (O : Own mask owner k) (hk : k ≤ mask) : ∃ j, j ≤ mask ∧ owner.getD j none = none := by
 refine Classical.byContradiction fun c => ?_
 have all : ∀ j, j ≤ mask → ∃ v, owner.getD j none = some v := fun j hj => by
  cases e : owner.getD j none with
  | none => exact absurd ⟨j, hj, e⟩ c
  | some v => exact ⟨v, rfl⟩
 have len : ∀ l : List Nat, (∀ j ∈ l, j ≤ mask) → (l.filterMap fun j => owner.getD j none).length = l.length := by
  intro l
  induction l with
  | nil => intro _; rfl
  | cons a l ih =>
   intro h
   obtain ⟨v, hv⟩ := all a (h a (.head _))
   rw [List.filterMap_cons_some (f := fun j => owner.getD j none) (b := v) hv, List.length_cons, List.length_cons, ih fun j hj => h j (.tail _ hj)]
 have z := O.2.length_eq
 rw [len _ fun j hj => by have := List.mem_range.mp hj; omega, List.length_range, List.length_range] at z
 omega
theorem zwe {mask j k : Nat} {owner : Array (Option Nat)} (hs : owner.size = mask + 1) (e : owner.getD j none = none) : ∀ l : List Nat, l.Nodup → j ∈ l → (∀ x ∈ l, x ≤ mask) →
  (l.filterMap fun x => (owner.setIfInBounds j (some k)).getD x none).Perm (k :: l.filterMap fun x => owner.getD x none)
 | [], _, h, _ => by simp at h
 | a :: l, hn, h, hl => by
  obtain ⟨n1, n2⟩ := List.nodup_cons.mp hn
  have oth : ∀ x, x ≠ j → (owner.setIfInBounds j (some k)).getD x none = owner.getD x none := fun x hx => by
   rw [Array.getD_eq_getD_getElem?, Array.getD_eq_getD_getElem?, Array.getElem?_setIfInBounds_ne (Ne.symm hx)]
  by_cases c : a = j
  ·subst c
   have s1 : (owner.setIfInBounds a (some k)).getD a none = some k := by
    have : a < owner.size := by have := hl a (.head _); omega
    simp [Array.getD, this]
   have s2 : (l.filterMap fun x => (owner.setIfInBounds a (some k)).getD x none) = l.filterMap fun x => owner.getD x none :=
    fmC _ fun x hx => oth x fun z => n1 (z ▸ hx)
   rw [List.filterMap_cons_some (f := fun x => (owner.setIfInBounds a (some k)).getD x none) (b := k) s1, List.filterMap_cons_none (f := fun x => owner.getD x none) e, s2]
  ·have ih := zwe (k := k) hs e l n2 ((List.mem_cons.mp h).resolve_left fun z => c z.symm) fun x hx => hl x (.tail _ hx)
   cases ea : owner.getD a none with
   | none => rw [List.filterMap_cons_none (f := fun x => (owner.setIfInBounds j (some k)).getD x none) (by rw [oth a c]; exact ea), List.filterMap_cons_none (f := fun x => owner.getD x none) ea]; exact ih
   | some v =>
    rw [List.filterMap_cons_some (f := fun x => (owner.setIfInBounds j (some k)).getD x none) (b := v) (by rw [oth a c]; exact ea), List.filterMap_cons_some (f := fun x => owner.getD x none) (b := v) ea]
    exact (ih.cons v).trans (.swap ..)
theorem Own.step {mask k j : Nat} {owner : Array (Option Nat)} (O : Own mask owner k) (hj : j ≤ mask) (e : owner.getD j none = none) : Own mask (owner.setIfInBounds j (some k)) (k + 1) := by
 refine ⟨by simp [O.1], (zwe O.1 e _ List.nodup_range (by simp; omega) fun x hx => by have := List.mem_range.mp hx; omega).trans ?_⟩
 rw [show List.range (k + 1) = List.range k ++ [k] from List.range_succ]
 exact (O.2.cons k).trans (List.perm_append_comm (l₁ := [k]))
end L2
set_option Elab.async false
set_option linter.all false
set_option maxRecDepth 100000
namespace L2
open PySem PySem.Spec PyProof.Rows PySem.W
section
variable {prog : Program} {w : World} {A : Around} {E : Value → Shared → Prop} {s : Shared} {a : Addr} {L : Bool}
theorem zj3 {n : Nat} (h : n ≤ 1000) : n ≤ sizeLine := by rw [sizeLine_eq]; omega
theorem zha {vs : List Value} {a : Addr} {n : Nat} {r : Nat → Nat} {P : PySem.Fin → Shared → Prop} (ho : s.heap.get? a = some (seqObj "list" vs.toArray n)) (h64 : vs.length < 64) (hr : ∀ i j, i < vs.length → j < vs.length → r i = r j → i = j)
  (hR : 2 ≤ vs.length → ∀ h' : Heap, (∀ b o, b ≠ a → s.heap.get? b = some o → h'.get? b = some o) → ∃ k, (∀ (E : Value → Shared → Prop) (Q : SortKind → Shared → Prop), Q k { s with heap := h' } → wpAny (model prog w) A (keyKind' vs.toArray) Q E { s with heap := h' }) ∧
   ∀ i j, i < vs.length → j < vs.length → ∀ (E : Value → Shared → Prop) (Q : Bool → Shared → Prop), Q (decide (r i < r j)) { s with heap := h' } → wpAny (model prog w) A (keyLt' k (vs.getD i .none) (vs.getD j .none)) Q E { s with heap := h' })
  (h : ∀ p, PermN r vs.length p → Asc r p vs.length → P (.done (.ret .none)) { s with heap := sortedHeap s.heap a vs (p.toList.map fun i => vs.getD i .none).toArray }) :
  wpAny (model prog w) A (Builtin.«list.sort» ⟨[.ref a], []⟩) P E s := by
 rw [list_sort_plain]
 have hz : vs.length ≤ sizeLine := zj3 (by omega)
 have ha : a < s.heap.objs.size := Heap.lt_size ho
 refine wpAny_bind (listItems_at ho rfl ?_)
 refine wpAny_bind (listUpdate_at ho rfl ?_ (by simpa using hz) (Nat.zero_le _))
 obtain ⟨e1, ho1⟩ : ∃ e1, (s.heap.update a (Obj.mapSeq fun _ => #[])).get? a = some (seqObj "list" #[] e1) := ⟨_, get?_update_seq ho (fun _ => #[])⟩
 refine wpAny_bind (seqEpoch_at ho1 rfl ?_)
 refine wpAny_bind (wpAny_newTuple ?_ (by simpa using hz))
 refine wpAny_bind (wpAny_newList ?_ (Nat.zero_le _))
 refine wpAny_holding ?_
 have ho6 : (((s.heap.update a (Obj.mapSeq fun _ => #[])).push (seqObj "tuple" vs.toArray 0)).push (seqObj "list" #[] 0)).get? a = some (seqObj "list" #[] e1) := by
  rw [Heap.get?_push_ne _ _ _ (by rw [size_push', Heap.size_update]; exact Nat.ne_of_lt (Nat.lt_succ_of_lt ha)), Heap.get?_push_ne _ _ _ (by rw [Heap.size_update]; exact Nat.ne_of_lt ha)]
  exact ho1
 have hkeep : ∀ b o, b ≠ a → s.heap.get? b = some o → (((s.heap.update a (Obj.mapSeq fun _ => #[])).push (seqObj "tuple" vs.toArray 0)).push (seqObj "list" #[] 0)).get? b = some o := fun b o hb e => by
  refine Heap.get?_push_of_some _ (Heap.get?_push_of_some _ ?_)
  rw [Heap.get?_update_ne _ _ _ _ hb]
  exact e
 show wpAny (model prog w) A _ P E { s with heap := ((s.heap.update a (Obj.mapSeq fun _ => #[])).push (seqObj "tuple" vs.toArray 0)).push (seqObj "list" #[] 0) }
 dsimp only
 have hsz : vs.toArray.size = vs.length := by simp
 by_cases h2 : vs.toArray.size < 2
 ·rw [if_pos h2, if_pos h2]
  refine wpAny_bind (wpAny_pure ?_)
  rw [StateT.run_pure]
  refine wpAny_bind (wpAny_pure ?_)
  dsimp only
  refine wpAny_bind (seqEpoch_at ho6 rfl ?_)
  refine wpAny_bind (listUpdate_at ho6 rfl ?_ (Nat.zero_le _) (by rw [Array.size_map]; show (pairsOf vs).size ≤ _; rw [pairsOf_size]; exact Nat.le_succ_of_le hz))
  simp only [bne_self_eq_false, Bool.false_eq_true, if_false]
  have e : (arrOf (SortSt.mk' general' (vs.toArray.zip vs.toArray) #[] 7 none)).map (·.2) = vs.toArray := by
   show (vs.toArray.zip vs.toArray).map (·.2) = _
   apply Array.toList_inj.mp
   simp [List.map_snd_zip]
  rw [e]
  have z := h (List.toArray (List.range vs.length)) (.of hr (by simp)) (fun i j hij hj => by rw [hsz] at h2; omega)
  have ev : ((List.toArray (List.range vs.length)).toList.map fun i => vs.getD i Value.none) = vs := by
   refine List.ext_getElem (by simp) fun i h1 h2 => ?_
   simp [h2]
  rw [ev] at z
  exact wpAny_pure z
 ·rw [if_neg h2, if_neg h2]
  rw [hsz] at h2
  obtain ⟨kk, hK, hRi⟩ := hR (by omega) _ hkeep
  refine wpAny_bind (hK _ _ ?_)
  refine wpAny_bind (wpAny_mono (kat_run (κ := kk) (Q := fun st' s' => ∃ p : Array Nat, PermN r vs.length p ∧ Asc r p vs.length ∧ arrOf st' = p.map (kas_item (vs.toArray.zip vs.toArray)) ∧ failedOf st' = none ∧ s' = { s with heap := ((s.heap.update a (Obj.mapSeq fun _ => #[])).push (seqObj "tuple" vs.toArray 0)).push (seqObj "list" #[] 0) })
   (G := fun p s' => PermN r vs.length p ∧ Asc r p vs.length ∧ s' = { s with heap := ((s.heap.update a (Obj.mapSeq fun _ => #[])).push (seqObj "tuple" vs.toArray 0)).push (seqObj "list" #[] 0) })
   rfl (by omega) h64 (fun p' st' s' a1 a2 a3 ⟨a4, a5, a6⟩ => ⟨p', a4, a5, a2, a3, a6⟩) (ztv (r := r) (fun i j C hi hj hc => hRi i j hi hj _ _ hc) _ (q2m hr (by omega) fun p P1 P2 => ⟨P1, P2, rfl⟩))) ?_ fun _ _ e => e)
  rintro ⟨⟨⟩, st'⟩ s' ⟨p, P1, P2, har, hf, rfl⟩
  dsimp only at har hf ⊢
  have e := kat_snds (ks := vs) (vs := vs) rfl har
  refine wpAny_bind (seqEpoch_at ho6 rfl ?_)
  refine wpAny_bind (listUpdate_at ho6 rfl ?_ (Nat.zero_le _) (by rw [e, List.size_toArray, List.length_map, Array.length_toList, P1.sz]; exact Nat.le_succ_of_le hz))
  rw [hf]
  simp only [bne_self_eq_false, Bool.false_eq_true, if_false, e]
  exact wpAny_pure (h p P1 P2)
end
theorem zji : ∀ x : List Int, ltI x x = false
 | [] => rfl
 | a :: x => by rw [ltI, if_pos rfl]; exact zji x
section
variable {prog : Program} {w : World} {A : Around} {E : Value → Shared → Prop} {s : Shared} {S : Addr}
end
def RisP (ps : List (List Int)) : Prop := (∀ p ∈ ps, p ≠ []) ∧ ps.Pairwise (fun p q => ltI p q = true) ∧ ps.length ≤ 60
section
variable {X : Cx} {pins : List (Addr × Obj)} {σ : St} {H : Hp} {s : Shared}
theorem RisP.lt {ps : List (List Int)} (R : RisP ps) {i j : Nat} (hi : i < ps.length) (hj : j < ps.length) : ltI (ps.getD i []) (ps.getD j []) = decide (i < j) := by
 have up : ∀ i j, i < j → j < ps.length → ltI (ps.getD i []) (ps.getD j []) = true := fun i j hij hj => by
  rw [List.getD_eq_getElem?_getD, List.getD_eq_getElem?_getD, List.getElem?_eq_getElem (by omega), List.getElem?_eq_getElem hj]
  exact List.pairwise_iff_getElem.mp R.2.1 i j (by omega) hj hij
 rcases Nat.lt_trichotomy i j with z | rfl | z
 ·rw [up i j z hj, decide_eq_true z]
 ·rw [zji, decide_eq_false (Nat.lt_irrefl _)]
 ·rw [zw8 (up j i z hi), decide_eq_false (by omega)]
theorem RisP.inj {ps : List (List Int)} (R : RisP ps) {i j : Nat} (hi : i < ps.length) (hj : j < ps.length) (e : ps.getD i [] = ps.getD j []) : i = j := by
 have a := R.lt hi hj
 have b := R.lt hj hi
 rw [e, zji] at a b
 have a := of_decide_eq_false a.symm
 have b := of_decide_eq_false b.symm
 omega
end
end L2
set_option Elab.async false
set_option linter.all false
set_option maxRecDepth 100000
namespace L2
open PySem PySem.Spec PyProof.Rows PySem.W
section
variable {prog : Program} {w : World} {A : Around} {E : Value → Shared → Prop} {s : Shared}
end
def zzj (K : PySem.W.Frag) (ta : TA) (tc : TE) : TE := fun σ H Q => ta σ H fun vs H1 => tc σ H1 fun y H2 => ∃ (a : Addr) (ns : List Int) (d : Int), vs = [.ref a] ∧ y = .int d ∧ SqL K H2 a (ns.map V.int) ∧ ∀ M, ((ns = [] ∧ M = d) ∨ (M ∈ ns ∧ ∀ a ∈ ns, a ≤ M)) → Q (.int M) H2
def q3i (K : PySem.W.Frag) : List V → Hp → VK → Prop := fun xs H Q => ∃ (a : Addr) (ns : List Int), xs = [.ref a] ∧ SqL K H a (ns.map V.int) ∧ Q (.int ns.sum) H
section
variable {X : Cx}
end
theorem zqe {K : PySem.W.Frag} {a : Addr} {xs : List V} {g : TG} {tt : TT} {te : TE} {Q : VK} {σ : St} {H : Hp} (Pv : Nat → List V → St → Hp → Prop) (h0 : Pv 0 [] σ H) (hz : xs.length < sizeLine) (hy : ∀ i ys σ H, Pv i ys σ H → ys.length ≤ i) (hl : ∀ i ys σ H, i ≤ xs.length → Pv i ys σ H → SqT K H a xs)
  (hs : ∀ i ys x σ H T, xs[i]? = some x → Pv i ys σ H → H T = none → g (.ref T) σ (upd H T (.tup [.int i, x])) fun σ2 H2 => tt σ2 H2 fun b H3 => if b = true then te σ2 H3 (fun v H4 => Pv (i + 1) (ys ++ [v]) σ2 H4) else Pv (i + 1) ys σ2 H3)
  (hd : ∀ ys σ H, Pv xs.length ys σ H → ∀ p, H p = none → Q (.ref p) (upd H p (.lst ys))) : zfi (zwr K a) g tt te Q σ H := by
 refine ⟨fun i m ys σ H => m = xs.length - i ∧ i ≤ xs.length ∧ Pv i ys σ H, ⟨xs.length, by simp, Nat.zero_le _, h0⟩, ?_⟩
 rintro i m ys σ H ⟨rfl, hi, p⟩
 have q := hl i ys σ H hi p
 have hyl := hy i ys σ H p
 by_cases hlt : i < xs.length
 ·refine .inr ⟨⟨xs, xs[i], q, by simp [hlt]⟩, by omega, Pv (i + 1), fun ys' σ' H' p' => ⟨xs.length - (i + 1), by omega, rfl, hlt, p'⟩, fun x H' y => ?_⟩
  obtain ⟨T, v, rfl, hT, rfl, y⟩ := y
  exact hs i ys v σ H T (y xs q) p hT
 ·have e : i = xs.length := by omega
  subst e
  exact .inl ⟨⟨xs, q, Nat.le_refl _⟩, by omega, hd ys σ H p⟩
theorem zgt {K : PySem.W.Frag} {ta : TA} {g : TG} {tt : TT} {te : TE} {mp : List (Option Nat)} {σ : St} {H : Hp} {Q : VK} : zj0 (zso K ta) g tt te mp σ H Q = ta σ H fun vs H1 => ∃ a, vs = [.ref a] ∧ (∃ xs, SqT K H1 a xs) ∧ zfi (zwr K a) g tt te Q (subσ mp σ) H1 := rfl
end L2
set_option Elab.async false
set_option linter.all false
set_option maxRecDepth 100000
namespace L2
open PySem PySem.Spec PyProof.Rows PySem.W
def zrf : V → List V → Hp → VK → Prop := fun x vs H Q => ∃ (l : Addr) (ss : List Str) (y : Str), x = .ref l ∧ vs = [.str y] ∧ H l = some (.lst (ss.map V.str)) ∧ Q (.int (ss.count y : Nat)) H
section
variable {X : Cx}
theorem Inv.grow {pins : List (Addr × Obj)} {σ : St} {H H' : Hp} {s : Shared} {h' : Heap} {t' : Nat} (I : Inv X pins σ H s) (k : ∀ b u, s.heap.get? b = some u → h'.get? b = some u) (sm : Same H H') (old : ∀ b, b < s.heap.objs.size → H b = none → H' b = none)
  (new : ∀ b u, H b = none → H' b = some u → ObjOk X.prog X.w H' h' b u) : Inv X pins σ H' { s with heap := h', toks := t' } := by
 refine I.un ⟨fun b u q _ _ _ => k b u q, fun b u q _ _ _ => ⟨u.slots, k b u q⟩, fun b u q n _ => old b (Heap.lt_size q) n, fun b u q _ => ⟨u, k b u q⟩, fun b xs q => sm _ _ q, fun b u xs q => sm _ _ q, fun b ps q => ⟨#[], by rw [sm _ _ q]; simp⟩⟩ fun b u e => ?_
 cases hb : H b with
 | none => exact new b u hb e
 | some u' =>
  have := sm _ _ hb
  rw [e] at this
  cases this
  exact (I.hok b u hb).stay (fun c v _ q => k c v q) (fun c q => sm _ _ q) fun c xs q => sm _ _ q
end
def zlk (v d : Addr) : HO := .ext fun h => h.IsItemsView v d
def zoi : V → List V → Hp → VK → Prop := fun x vs H Q => ∃ (d : Addr) (kvs : List (Key × V)), x = .ref d ∧ vs = [] ∧ H d = some (.dK kvs) ∧ ∀ p, H p = none → Q (.ref p) (upd H p (zlk p d))
def zxd (p : Str × Int) : Dm := .tup [.str p.1, .int p.2]
def zpm : List V → Hp → VK → Prop := fun xs H Q => ∃ (v d : Addr) (kvs : List (Str × Int)) (ρ : Str → Nat), xs = [.ref v] ∧ H v = some (zlk v d) ∧ H d = some (.dK (kvs.map fun p => (Sum.inr p.1, V.int p.2))) ∧ kvs.length < 64 ∧
 (∀ p ∈ kvs, ∀ q ∈ kvs, decide (p.1.cps.toList < q.1.cps.toList) = decide (ρ p.1 < ρ q.1) ∧ (ρ p.1 = ρ q.1 → p.1 = q.1)) ∧
 ∀ (l : Addr) (H' : Hp) (ws : List V) (ms : List (Str × Int)), Same H H' → H l = none → H' l = some (.lst ws) → DtA H' ws (ms.map zxd) → ms.Perm kvs → ms.Pairwise (fun p q => ρ p.1 < ρ q.1) → Q (.ref l) H'
section
variable {prog : Program} {w : World} {A : Around} {E : Value → Shared → Prop} {s : Shared}
theorem zxs {x y : Str} {a c : Addr} {ox oy : Obj} {xs ys : Array Value} {n m : Nat} {t u : Tok} {d e : Value} {Q : Bool → Shared → Prop} (ha : s.heap.get? a = some ox) (da : ox.data = .seq xs n) (hc : s.heap.get? c = some oy) (dc : oy.data = .seq ys m)
  (ex : xs.toList = [.str x t, d]) (ey : ys.toList = [.str y u, e]) (hne : x ≠ y) (h : Q (decide (x.cps.toList < y.cps.toList)) s) : wpAny (model prog w) A (keyLt' (tuples' true) (.ref a) (.ref c)) Q E s := by
 refine kat_lt ha da hc dc ?_
 rw [ex, ey, List.zip_cons_cons]
 refine kat_cons (wpAny_eqBool_str ?_)
 rw [decide_eq_false hne]
 exact kat_no (oneLt_str h)
end
section
variable {prog : Program} {w : World} {A : Around} {E : Value → Shared → Prop} {s : Shared} {K : Type} [DecidableEq K] {knd : PySem.KeyKind prog w K}
theorem zjo {r d : Addr} {kvs : List (K × Value)} {ep : Nat} {Q : List Value → Shared → Prop} (hh : A.handled = none) (hv : s.heap.IsItemsView r d) (hm : s.heap.DictAt knd d kvs ep) (hn : kvs.length ≤ sizeLine)
  (q : ∀ (h' : Heap) (tk : Nat) (as : List Addr), s.heap.objs.size ≤ h'.objs.size → (∀ b o, s.heap.get? b = some o → h'.get? b = some o) → as.length = kvs.length → KdxG knd kvs s.heap.objs.size h' as → Q (as.map Value.ref) { s with heap := h', toks := tk }) :
  wpAny (model prog w) A (collect (.ref r)) Q E s := by
 have hr : r < s.heap.objs.size := let ⟨_, ho, _⟩ := hv; Heap.lt_size ho
 have hd : d < s.heap.objs.size := hm.lt_size
 unfold collect
 refine wpAny_bind (wpAny_runValue (codeAny_builtin PySem.F.entry_proto_collect ?_))
 rw [Around.under_plainId PySem.F.plain_proto_collect]
 refine wpAny_bind (wpAny_newList (wpAny_pure ⟨plainId_quiet PySem.F.plain_list_iadd _, codeAny_builtin PySem.F.entry_list_iadd ?_⟩))
 rw [Around.under_plainId PySem.F.plain_list_iadd]
 have e0 : (s.heap.push (seqObj "list" #[] 0)).get? s.heap.objs.size = some (seqObj "list" #[] 0) := Heap.get?_push_size _ rfl
 show wpAny _ _ (Builtin.List.listExtendWith (.ref s.heap.objs.size) (.ref r) (.ref s.heap.objs.size)) _ _ { s with heap := s.heap.push (seqObj "list" #[] 0) }
 have fin : ∀ (v : Result) (s' : Shared), (∃ (h' : Heap) (tk : Nat) (acc : Array Value) (c : Nat) (as : List Addr), v = .ok (.ret (.ref s.heap.objs.size)) ∧ s' = { s with heap := h', toks := tk } ∧ h'.get? s.heap.objs.size = some { cls := .type "list", dict := none, data := .seq acc c, slots := #[] } ∧ acc.toList = as.map Value.ref ∧ Q (as.map Value.ref) { s with heap := h', toks := tk }) →
   (match v with | .ok (.ret v) => wpAny (model prog w) A (match v with | .ref a => (do match (← load a).data with | .seq xs _ => pure xs.toList | _ => unsupported "internal:collect") | _ => unsupported "internal:collect") Q E s' | .ok _ => False | .error e => E e s') := by
  rintro v s' ⟨h', tk, acc, c, as, rfl, rfl, hS, hacc, hq⟩
  refine wpAny_bind (wpAny_load hS (wpAny_pure ?_))
  rw [hacc]
  exact hq
 refine wpAny_mono (kdx_extend (A := A) (s := { s with heap := s.heap.push (seqObj "list" #[] 0) }) (knd := knd) (kvs := kvs) (ep := ep)
  (R := fun v s' => ∃ (h' : Heap) (tk : Nat) (acc : Array Value) (c : Nat) (as : List Addr), v = .ok (.ret (.ref s.heap.objs.size)) ∧ s' = { s with heap := h', toks := tk } ∧ h'.get? s.heap.objs.size = some { cls := .type "list", dict := none, data := .seq acc c, slots := #[] } ∧ acc.toList = as.map Value.ref ∧ Q (as.map Value.ref) { s with heap := h', toks := tk })
  hh (let ⟨o, ho, x⟩ := hv; ⟨o, Heap.get?_push_of_some _ ho, x⟩) (hm.push _) s.heap.objs.size (Nat.ne_of_gt hr) (Nat.ne_of_lt hd) (.ref s.heap.objs.size) 0 e0 (fun h' tk acc c as hk hS hl g hacc => ⟨h', tk, acc, c, as, rfl, rfl, hS, hacc, ?_⟩) hn) (fun f s' z => ?_) (fun e s' z => fin _ _ z)
 ·refine q h' tk as (Nat.le_of_lt (Heap.lt_size hS)) (fun b o e => hk b o (Nat.ne_of_lt (Heap.lt_size e)) (Heap.get?_push_of_some _ e)) hl (g.low ?_)
  show s.heap.objs.size ≤ (s.heap.push _).objs.size
  rw [Heap.size_push]
  exact Nat.le_succ _
 ·cases f with
  | done f => exact fin _ _ z
  | again c => exact ⟨z.1, codeAny_mono z.2 fun r s2 y => fin r s2 y⟩
end
def zu6 : List Addr → List (List V) → Hp → Hp
 | a :: as, x :: xs, H => upd (zu6 as xs H) a (.tup x)
 | _, _, H => H
theorem zep : ∀ {as : List Addr} {xs : List (List V)} {H : Hp} {b : Addr}, b ∉ as → zu6 as xs H b = H b
 | [], _, _, _, _ => rfl
 | a :: as, [], _, _, _ => rfl
 | a :: as, x :: xs, H, b, h => by
  rw [zu6, z0q (show b ≠ a from fun z => h (by rw [z]; exact List.mem_cons_self))]
  exact zep fun z => h (.tail _ z)
theorem zmt : ∀ {as : List Addr} {xs : List (List V)} {H : Hp} {j : Nat} {a : Addr} {x : List V}, as.Pairwise (· < ·) → as[j]? = some a → xs[j]? = some x → zu6 as xs H a = some (.tup x)
 | [], _, _, _, _, _, _, h, _ => by simp at h
 | a :: as, [], _, _, _, _, _, _, h => by simp at h
 | a :: as, x :: xs, H, 0, b, y, _, h1, h2 => by
  have e1 : a = b := by simpa using h1
  have e2 : x = y := by simpa using h2
  subst e1 e2
  exact z02
 | a :: as, x :: xs, H, j + 1, b, y, hp, h1, h2 => by
  obtain ⟨p1, p2⟩ := List.pairwise_cons.mp hp
  have h1' : as[j]? = some b := by simpa using h1
  have hlt := p1 b (List.mem_of_getElem? h1')
  rw [zu6, z0q (Nat.ne_of_gt hlt)]
  exact zmt p2 h1' (by simpa using h2)
theorem zwv : ∀ {as : List Addr} {xs : List (List V)} {H : Hp} {b : Addr} {u : HO}, as.length = xs.length → as.Pairwise (· < ·) → b ∈ as → zu6 as xs H b = some u → ∃ (j : Nat) (x : List V), as[j]? = some b ∧ xs[j]? = some x ∧ u = .tup x := by
 intro as xs H b u hl hp hb e
 obtain ⟨j, hj, ej⟩ := List.getElem_of_mem hb
 have h1 : as[j]? = some b := by rw [List.getElem?_eq_getElem hj, ej]
 have h2 : xs[j]? = some xs[j] := List.getElem?_eq_getElem (by omega)
 have z := zmt (H := H) hp h1 h2
 rw [e] at z
 cases z
 exact ⟨j, _, h1, h2, rfl⟩
section
variable {X : Cx}
theorem zv5 : MtM X "dict.items" zoi := by
 intro pins s σ H x vs v us Q I rx rv h
 obtain ⟨d, kvs, rfl, rfl, hH, q⟩ := h
 cases rx
 cases rv
 obtain ⟨z, hd, xs, rel, dd⟩ := zyd I.hok hH
 have hT : s.TypeIs (.ref d) "dict" := dd.typeIs
 refine call_meetsIn F.slot_dict_items hT F.entry_dict_items (F.args_dict_items_1 _) (meets_dict_items (z20 X.prog X.w) d hd) ⟨⟨_, dd⟩, ?_⟩
 have e := Heap.get?_push_size s.heap (o := { cls := .type "dict_items", data := .fields #[.ref d] }) rfl
 refine ⟨.ref s.heap.objs.size, _, I.laid (t' := s.toks) (fun b u q => Heap.get?_push_of_some _ q) (Nat.le_refl _) (show ObjOk X.prog X.w _ _ _ (zlk s.heap.objs.size d) from ⟨⟨_, e, rfl, rfl⟩, ⟨_, e⟩, fun h1 h2 ⟨o, e1, r⟩ y => ⟨o, y _ e1, r⟩⟩), rfl, q _ (I.hok.fresh (Nat.le_refl _))⟩
theorem zwb {kvs : List (Str × Int)} : ∀ {vs : List (Key × Value)}, KV (kvs.map fun p => ((Sum.inr p.1 : Key), V.int p.2)) vs → ∀ (j : Nat) (k : Key) (x : Value), vs[j]? = some (k, x) → ∃ p t, kvs[j]? = some p ∧ k = Sum.inr p.1 ∧ x = .int p.2 t := by
 induction kvs with
 | nil =>
  intro vs rel j k x e
  cases rel
  simp at e
 | cons p kvs ih =>
  intro vs rel j k x e
  cases rel with
  | cons rr rt =>
   cases j with
   | zero =>
    obtain ⟨h1, t, h2⟩ := rr
    simp only [List.getElem?_cons_zero, Option.some.injEq] at e
    subst e
    exact ⟨p, t, rfl, h1.symm, h2⟩
   | succ j => exact ih rt j k x (by simpa using e)
theorem zp2 {α : Type} {H : Hp} {f : α → V} {g : α → Dm} : ∀ {l : List α}, (∀ i ∈ l, Dt H (f i) (g i)) → DtA H (l.map f) (l.map g)
 | [], _ => .nil
 | i :: l, h => .cons (h i (.head _)) (zp2 fun j hj => h j (.tail _ hj))
theorem zkh {α : Type} {f : α → V} {g : α → Value} : ∀ {l : List α}, (∀ i ∈ l, RelV (f i) (g i)) → Vals (l.map f) (l.map g)
 | [], _ => .nil
 | i :: l, h => .cons (h i (.head _)) (zkh fun j hj => h j (.tail _ hj))
theorem zgb (hc : X.calm = true) : CallR X (.builtin "sorted") zpm := by
 intro pins s σ H xs us Q I r h
 obtain ⟨v, d, kvs, ρ, rfl, hv, hd, h64, hρ, q⟩ := h
 obtain ⟨u, rfl, r1⟩ := r.one
 cases r1
 have view : s.heap.IsItemsView v d := (show ObjOk X.prog X.w H s.heap v (zlk v d) from I.hok v _ hv).1
 obtain ⟨zl, hsm, xs, rel, dd⟩ := zyd I.hok hd
 obtain ⟨ep, da⟩ := dd.dictAt
 have hxl : xs.length = kvs.length := by have := rel.length; rw [List.length_map] at this; exact this.symm
 refine Calls.call_function_entry kind_sorted plain_sorted entry_sorted (args_sorted1 _) ?_
 unfold Builtin.«sorted»
 refine wpAny_bind (m := checkCount "sorted" 1 1 _) (wpAny_pure (wpAny_bind (zjo (A := X.A.in1) (by simpa using I.ok.hd hc) view da (zj3 (by omega)) fun h1 tk as hsz k1 hal g => ?_)))
 have hal' : as.length = kvs.length := by omega
 have hpair : ∀ j a, as[j]? = some a → ∃ (p : Str × Int) (t u : Tok), kvs[j]? = some p ∧ h1.get? a = some { cls := .type "tuple", data := .seq #[.str p.1 t, .int p.2 u] } := fun j a ha => by
  obtain ⟨key, k, x, e1, e2, e3⟩ := g.pairs j a ha
  obtain ⟨p, t, e4, rfl, rfl⟩ := zwb rel j k x e1
  rcases z37 (show znn (Sum.inr p.1) key = true from e2) with ⟨i, t', e5, rfl⟩ | ⟨y, t', e5, rfl⟩
  ·cases e5
  ·cases e5
   exact ⟨p, t', t, e4, e3⟩
 have hnd : (kvs.map (·.1)).Nodup := by
  have z := da.nodup
  have e : xs.map (·.1) = kvs.map fun p => (Sum.inr p.1 : Key) := by
   refine List.ext_getElem? fun j => ?_
   rw [List.getElem?_map, List.getElem?_map]
   cases ej : xs[j]? with
   | none =>
    have : kvs[j]? = none := by rw [List.getElem?_eq_none_iff] at ej ⊢; omega
    rw [this]; rfl
   | some kx =>
    obtain ⟨k, x⟩ := kx
    obtain ⟨p, t, e4, e5, _⟩ := zwb rel j k x ej
    rw [e4, e5]; rfl
  rw [e] at z
  exact List.pairwise_map.mpr ((List.pairwise_map.mp z).imp fun h e => h (by rw [e]))
 have hD : ∀ i, i < kvs.length → kvs[i]? = some (kvs.getD i (⟨#[]⟩, 0)) := fun i hi => by
  rw [List.getD_eq_getElem?_getD, List.getElem?_eq_getElem hi]; rfl
 have hA : ∀ i, i < kvs.length → as[i]? = some (as.getD i 0) := fun i hi => by
  rw [List.getD_eq_getElem?_getD, List.getElem?_eq_getElem (by omega)]; rfl
 have hmem : ∀ i, i < kvs.length → kvs.getD i (⟨#[]⟩, 0) ∈ kvs := fun i hi => List.mem_of_getElem? (hD i hi)
 have hat : ∀ i, i < kvs.length → ∃ t u, h1.get? (as.getD i 0) = some { cls := .type "tuple", data := .seq #[.str (kvs.getD i (⟨#[]⟩, 0)).1 t, .int (kvs.getD i (⟨#[]⟩, 0)).2 u] } := fun i hi => by
  obtain ⟨p, t, u, e1, e2⟩ := hpair i _ (hA i hi)
  rw [hD i hi] at e1
  cases e1
  exact ⟨t, u, e2⟩
 have hvl : (as.map Value.ref).length = kvs.length := by rw [List.length_map, hal']
 have hvd : ∀ i, i < kvs.length → (as.map Value.ref).getD i .none = .ref (as.getD i 0) := fun i hi => by
  rw [List.getD_eq_getElem?_getD, List.getElem?_map, hA i hi]; rfl
 have hne : ∀ i j, i < kvs.length → j < kvs.length → (kvs.getD i (⟨#[]⟩, 0)).1 = (kvs.getD j (⟨#[]⟩, 0)).1 → i = j := fun i j hi hj e => by
  have hi' : i < (kvs.map (·.1)).length := by rw [List.length_map]; exact hi
  have hj' : j < (kvs.map (·.1)).length := by rw [List.length_map]; exact hj
  refine (List.getElem_inj (h₀ := hi') (h₁ := hj') hnd).mp ?_
  rw [List.getElem_map, List.getElem_map]
  have a1 := hD i hi
  have a2 := hD j hj
  rw [List.getElem?_eq_getElem hi] at a1
  rw [List.getElem?_eq_getElem hj] at a2
  rw [Option.some.inj a1, Option.some.inj a2]
  exact e
 refine wpAny_bind (wpAny_newList ?_ (zj3 (by omega)))
 have eL : (h1.push (seqObj "list" (as.map Value.ref).toArray 0)).get? h1.objs.size = some (seqObj "list" (as.map Value.ref).toArray 0) := Heap.get?_push_size _ rfl
 refine wpAny_bind (wpAny_holding (wpAny_call_entry slot_list_sort ⟨_, eL, rfl⟩ entry_list_sort (zha (r := fun i => ρ (kvs.getD i (⟨#[]⟩, 0)).1) eL (by omega) (fun i j hi hj e => hne i j (by omega) (by omega) ((hρ _ (hmem i (by omega)) _ (hmem j (by omega))).2 e)) (fun h2 h' kp => ?_) fun p P1 P2 => ⟨_, rfl, ?_⟩) (args_list_sort _)))
 ·have keep : ∀ i, i < kvs.length → ∃ t u, h'.get? (as.getD i 0) = some { cls := .type "tuple", data := .seq #[.str (kvs.getD i (⟨#[]⟩, 0)).1 t, .int (kvs.getD i (⟨#[]⟩, 0)).2 u] } := fun i hi => by
   obtain ⟨t, u, e⟩ := hat i hi
   exact ⟨t, u, kp _ _ (Nat.ne_of_lt (Heap.lt_size e)) (Heap.get?_push_of_some _ e)⟩
  have tups : ∀ (l : List Nat), (∀ i ∈ l, i < kvs.length) → ∃ fs, KatTups h' (l.map fun i => (as.map Value.ref).getD i .none) fs ∧ fs.length = l.length ∧ ∀ f ∈ fs, ∃ x t, f = .str x t := by
   intro l
   induction l with
   | nil => intro _; exact ⟨[], .nil, rfl, fun f hf => absurd hf (by simp)⟩
   | cons i l ih =>
    intro hl
    obtain ⟨fs, k, lf, ff⟩ := ih fun j hj => hl j (.tail _ hj)
    obtain ⟨t, u, e⟩ := keep i (hl i (.head _))
    refine ⟨.str (kvs.getD i (⟨#[]⟩, 0)).1 t :: fs, ?_, by simp [lf], fun f hf => ?_⟩
    ·rw [List.map_cons, hvd i (hl i (.head _))]
     exact .cons e rfl rfl rfl k
    ·rcases List.mem_cons.mp hf with rfl | hf
     ·exact ⟨_, _, rfl⟩
     ·exact ff f hf
  obtain ⟨fs, kt, fl, ff⟩ := tups (List.range kvs.length) fun i hi => List.mem_range.mp hi
  have ev : ((List.range kvs.length).map fun i => (as.map Value.ref).getD i .none) = as.map Value.ref := by
   refine List.ext_getElem (by simp [hal']) fun i h1 h2 => ?_
   simp at h2
   simp [h2]
  rw [ev] at kt
  rw [List.length_range] at fl
  refine ⟨tuples' true, fun E Q hQ => kat_kind (T := .type "str") kt (by omega) (fun v hv => ?_) rfl hQ, fun i j hi hj E Q hQ => ?_⟩
  ·obtain ⟨x, t, rfl⟩ := ff v hv
   exact Looks.of_pure rfl
  ·rw [hvl] at hi hj
   rw [hvd i hi, hvd j hj]
   obtain ⟨t1, u1, e1⟩ := keep i hi
   obtain ⟨t2, u2, e2⟩ := keep j hj
   by_cases eij : i = j
   ·subst eij
    rw [decide_eq_false (Nat.lt_irrefl _)] at hQ
    rw [e1] at e2
    refine kat_lt e1 rfl e1 rfl ?_
    refine kat_cons (wpAny_eqBool_str ?_)
    rw [decide_eq_true rfl]
    refine kat_yes (kat_cons (wpAny_eqBool_int ?_))
    rw [show ((kvs.getD i (⟨#[]⟩, 0)).2 == (kvs.getD i (⟨#[]⟩, 0)).2) = true from beq_self_eq_true _]
    refine kat_yes (kat_nil ?_)
    simpa using hQ
   ·refine zxs e1 rfl e2 rfl rfl rfl (fun z => eij (hne i j hi hj z)) ?_
    rw [(hρ _ (hmem i hi) _ (hmem j hj)).1]
    exact hQ
 ·refine wpAny_pure ⟨_, rfl, ?_⟩
  rw [hvl] at P1 P2
  obtain ⟨n, en⟩ := sortedHeap_at (out := (p.toList.map fun i => (as.map Value.ref).getD i Value.none).toArray) eL
  have hin : ∀ i ∈ p.toList, i < kvs.length := fun i hi => List.mem_range.mp (P1.pm.mem_iff.mp hi)
  have oldF : ∀ b u, h1.get? b = some u → (sortedHeap (h1.push (seqObj "list" (as.map Value.ref).toArray 0)) h1.objs.size (as.map Value.ref) (p.toList.map fun i => (as.map Value.ref).getD i Value.none).toArray).get? b = some u := fun b u hu => by
   have lb := Heap.lt_size hu
   rw [sortedHeap_old (Nat.ne_of_lt lb) (by rw [size_push']; exact Nat.lt_succ_of_lt lb)]
   exact Heap.get?_push_of_some _ hu
  have hup : ∀ a ∈ as, s.heap.objs.size ≤ a ∧ a < h1.objs.size := fun a ha => ⟨Nat.le_of_lt (g.above a ha), g.there ha⟩
  have nL : h1.objs.size ∉ as := fun z => absurd (hup _ z).2 (Nat.lt_irrefl _)
  have low : ∀ b, b < s.heap.objs.size → upd (zu6 as (kvs.map fun p => [V.str p.1, V.int p.2]) H) h1.objs.size (.lst (p.toList.map fun i => V.ref (as.getD i 0))) b = H b := fun b hb => by
   rw [z0q (Nat.ne_of_lt (Nat.lt_of_lt_of_le hb hsz)), zep fun z => absurd (hup b z).1 (by omega)]
  have sm : Same H (upd (zu6 as (kvs.map fun p => [V.str p.1, V.int p.2]) H) h1.objs.size (.lst (p.toList.map fun i => V.ref (as.getD i 0)))) := fun b u e => by
   rw [low b (I.hok b u e).lt]; exact e
  have atT : ∀ i, i < kvs.length → upd (zu6 as (kvs.map fun p => [V.str p.1, V.int p.2]) H) h1.objs.size (.lst (p.toList.map fun i => V.ref (as.getD i 0))) (as.getD i 0) = some (.tup [V.str (kvs.getD i (⟨#[]⟩, 0)).1, V.int (kvs.getD i (⟨#[]⟩, 0)).2]) := fun i hi => by
   have ha := hA i hi
   rw [z0q fun z => nL (by rw [← z]; exact List.mem_of_getElem? ha)]
   exact zmt g.rise ha (by rw [List.getElem?_map, hD i hi]; rfl)
  refine ⟨.ref h1.objs.size, _, I.grow (t' := tk) (fun b u e => oldF b u (k1 b u e)) sm (fun b hb e => (low b hb).trans e) (fun b u e1 e2 => ?_), rfl, q h1.objs.size _ _ (p.toList.map fun i => kvs.getD i (⟨#[]⟩, 0)) sm (I.hok.fresh hsz) z02 ?_ ?_ ?_⟩
  ·by_cases hb : b = h1.objs.size
   ·subst hb
    rw [z02] at e2
    cases e2
    refine ⟨?_, (p.toList.map fun i => (as.map Value.ref).getD i Value.none), n, zkh fun i hi => ?_, by simpa [seqObj] using en⟩
    ·rw [List.length_map, Array.length_toList, P1.sz]
     exact zj3 (by omega)
    ·rw [hvd i (hin i hi)]; rfl
   ·rw [z0q hb] at e2
    by_cases hba : b ∈ as
    ·obtain ⟨j, x, ej, ex, rfl⟩ := zwv (by rw [List.length_map]; exact hal') g.rise hba e2
     obtain ⟨p', t, u, e4, e5⟩ := hpair j b ej
     rw [List.getElem?_map, e4] at ex
     cases ex
     exact ⟨zqt, [.str p'.1 t, .int p'.2 u], .cons ⟨t, rfl⟩ (.cons ⟨u, rfl⟩ .nil), ⟨_, oldF b _ e5, rfl, 0, rfl⟩⟩
    ·rw [zep hba, e1] at e2
     cases e2
  ·rw [List.map_map]
   refine zp2 fun i hi => ?_
   exact .tup (atT i (hin i hi)) (.cons (.str _) (.cons (.int _) .nil))
  ·have z := P1.pm.map fun i => kvs.getD i ((⟨#[]⟩ : Str), (0 : Int))
   refine z.trans (.of_eq ?_)
   refine List.ext_getElem (by simp) fun i h1 h2 => ?_
   simp [h2]
  ·rw [List.pairwise_map, List.pairwise_iff_getElem]
   intro i j hi hj hij
   have hj' : j < p.size := by simpa using hj
   have z := P2 i j hij (by rw [← P1.sz]; exact hj')
   simpa [rk, Array.getD, hj', Nat.lt_trans hij hj'] using z
end
end L2
set_option Elab.async false
set_option linter.all false
set_option maxRecDepth 100000
namespace L2
open PySem PySem.Spec PyProof.Rows PySem.W
theorem zlw : entryFor table "dict.update.loop" = some Builtin.«dict.update.loop» := entryFor_of_tree (by kernel_rfl)
theorem zdc : plainId "dict.update.loop" = true := by decide +kernel
theorem q3b {n : Nat} (h : n ≤ 200000) : n ≤ sizeLine := Nat.le_trans h (by decide)
theorem zlf : typeLookup (.type "list") "keys" = pure none := by rw [typeLookup_type, builtinLookup_eq_fast]; kernel_rfl
section
variable {prog : Program} {w : World} {A : Around} {E : Value → Shared → Prop} {s : Shared} {a : Addr}
theorem zxw {its : Array Value} {n : Nat} {Q : Option Value → Shared → Prop} (hh : A.handled = none) (hx : s.heap.get? a = some { cls := .type "list", data := .seq its n }) (q : ∀ h' tk, (∀ b o, s.heap.get? b = some o → h'.get? b = some o) → Q none { s with heap := h', toks := tk }) :
  wpAny (model prog w) A (getAttr? (.ref a) "keys") Q E s := by
 obtain ⟨hp, g, d, tk, os⟩ := s
 have hT : Shared.TypeIs ⟨hp, g, d, tk, os⟩ (.ref a) "list" := ⟨_, hx, rfl⟩
 have hT1 : Shared.TypeIs ⟨hp, g, d, tk + 1, os⟩ (.ref a) "list" := ⟨_, hx, rfl⟩
 have f1 := sub_AttributeError
 have f3 := F.slot_list_getattribute.lookup
 have f4 := F.slot_list_getattribute.bind (.ref a)
 have f5 := am_list_getattr_none
 unfold getAttr? getAttrBy? getAttrBy
 repeat (any_goals (first | assumption | ((with_reducible show wpAny _ _ (call (Value.builtin "list.__getattribute__") _ _) _ _ _); refine call_meets F.slot_list_getattribute hT1 am_entry_list_getattribute (F.args_list_getattribute_2 _ _) (meets_getattribute_miss_list a its n #[] "keys" _ zlf (by decide +kernel)) ⟨hx, hh, fun h' tk' e hx' => ?_⟩) | wp_step))
 obtain ⟨t', u', he⟩ := hx'.there
 show wpAny _ _ (getattributeRaised _ _ _ _ _ _ _) _ _ _
 unfold getattributeRaised
 repeat (any_goals (first | assumption | wp_step))
 exact q _ _ fun b ob e => hx'.keeps b ob e
theorem zco {h h' : Heap} {D : Addr} {xs : List (List Key × Addr × Value)} (x : h.DictOfH (tupleKind (z20 prog w)) D xs) (kD : ∀ o, h.get? D = some o → h'.get? D = some o) (kk : ∀ y ∈ xs, (tupleKind (z20 prog w)).is h' y.1 y.2.1) : h'.DictOfH (tupleKind (z20 prog w)) D xs := by
 obtain ⟨o, es, ep, e1, e2, e3, e4, _, e6⟩ := x
 exact ⟨o, es, ep, kD o e1, e2, e3, e4, kk, e6⟩
theorem zdq {h h' : Heap} {p : List Key} {a : Addr} (x : (tupleKind (z20 prog w)).is h p a) (k : ∀ o, h.get? a = some o → h'.get? a = some o) : (tupleKind (z20 prog w)).is h' p a := by
 obtain ⟨o, i, n, e, r⟩ := x
 exact ⟨o, i, n, k _ e, r⟩
theorem zps {a b : Addr} {v : Value} {o : Obj} {its : Array Value} {k : Nat} {Q : List Value → Shared → Prop} (e : s.heap.get? a = some o) (c : o.cls = .type "tuple") (d : o.data = .seq its k) (hi : its.toList = [.ref b, v]) (q : Q [.ref b, v] s) : wpAny (model prog w) A (Builtin.Dict.pairItems (.ref a)) Q E s := by
 unfold Builtin.Dict.pairItems
 refine wpAny_bind (wpAny_typeOf (T := "tuple") ⟨_, e, c⟩ ?_)
 rw [if_pos (by decide)]
 refine wpAny_bind (wpAny_seqItems e d (wpAny_pure ?_))
 show Q its.toList s
 rw [hi]
 exact q
theorem zpr {R : Result → Shared → Prop} {I D : Addr} {fp wr : List Addr} {G : Array GenState → Array GenState → Prop} {n : Nat} {P : Nat → Value → Prop} {St : Nat → Shared → Prop} {rw_ ka : Nat → Addr} {va : Nat → Value} {ks : Nat → List Key} (W : WalksS prog w A.in1 I fp wr G n P St) (hDf : D ∉ fp)
  (hval : ∀ i v, P i v → v = .ref (rw_ i)) (hinj : ∀ i j, i < n → j < n → ks i = ks j → i = j) (hn : n ≤ 100000) (hnw : ∀ i, i < n → rw_ i ∉ D :: wr ∧ ka i ∉ D :: wr) (hu : A.units + 8 < cLine) :
  ∀ (m i : Nat) (s : Shared), i + m = n → St i s → s.heap.DictOfH (tupleKind (z20 prog w)) D ((List.range i).map fun j => (ks j, ka j, va j)) →
   (∀ j, j < n → (∃ o its k, s.heap.get? (rw_ j) = some o ∧ o.cls = .type "tuple" ∧ o.data = .seq its k ∧ its.toList = [.ref (ka j), va j]) ∧ (tupleKind (z20 prog w)).is s.heap (ks j) (ka j)) →
   (∀ s', Moved (D :: wr) G s s' → s'.heap.DictOfH (tupleKind (z20 prog w)) D ((List.range n).map fun j => (ks j, ka j, va j)) → R (.ok (.ret .none)) s') →
   codeAny (model prog w) A (.builtin "dict.update.loop" ⟨[.ref D, .ref I, rawInt i, .none], []⟩) R s := by
 have hw : D ∉ wr := fun z => hDf (W.sub _ z)
 have hm : ∀ b ∈ wr, b ∈ D :: wr := fun b z => .tail _ z
 intro m
 induction m with
 | zero =>
  intro i s e st x hk q
  obtain rfl : i = n := e
  refine codeAny_builtin zlw ?_
  rw [Around.under_plainId zdc]
  refine wpAny_bind (W.done s _ _ st fun s' mv => ?_)
  show wpAny _ _ (Builtin.Dict.addKeywords D [] >>= _) _ _ _
  refine wpAny_bind (wpAny_pure (wpAny_pure (q s' (mv.mono hm) (zco x (fun o z => mv.heap D o hw z) fun y hy => ?_))))
  obtain ⟨j, hj, rfl⟩ := List.mem_map.mp hy
  have hj := List.mem_range.mp hj
  exact zdq (hk j hj).2 fun o z => mv.heap _ o (fun z => (hnw j hj).2 (hm _ z)) z
 | succ m ih =>
  intro i s e st x hk q
  refine codeAny_builtin zlw ?_
  rw [Around.under_plainId zdc]
  refine wpAny_bind (W.item i s _ _ (by omega) st fun v s1 hP st1 mv => ?_)
  obtain rfl := hval i v hP
  have hi : i < n := by omega
  have hk1 : ∀ j, j < n → (∃ o its k, s1.heap.get? (rw_ j) = some o ∧ o.cls = .type "tuple" ∧ o.data = .seq its k ∧ its.toList = [.ref (ka j), va j]) ∧ (tupleKind (z20 prog w)).is s1.heap (ks j) (ka j) := fun j hj => by
   obtain ⟨⟨o, its, k, e1, r⟩, x2⟩ := hk j hj
   exact ⟨⟨o, its, k, mv.heap _ o (fun z => (hnw j hj).1 (hm _ z)) e1, r⟩, zdq x2 fun o z => mv.heap _ o (fun z => (hnw j hj).2 (hm _ z)) z⟩
  have x1 : s1.heap.DictOfH (tupleKind (z20 prog w)) D ((List.range i).map fun j => (ks j, ka j, va j)) := zco x (fun o z => mv.heap D o hw z) fun y hy => by
   obtain ⟨j, hj, rfl⟩ := List.mem_map.mp hy
   exact (hk1 j (by have := List.mem_range.mp hj; omega)).2
  obtain ⟨⟨o, its, k, e1, e2, e3, e4⟩, x2⟩ := hk1 i hi
  refine wpAny_bind (wpAny_holding (wpAny_bind (wpAny_tryCatch (zps e1 e2 e3 e4 (wpAny_holding (wpAny_dictSet_heap (by show A.units + 1 < cLine; omega) x2 x1 (fun h' x' sb => ?_) ?_))))))
  ·have hnew : atKey ((List.range i).map fun j => (ks j, ka j, va j)) (ks i) = none := atKey_none_of_get fun j p z => by
    rw [List.getElem?_map] at z
    cases ej : (List.range i)[j]? with
    | none => rw [ej] at z; cases z
    | some j' =>
     rw [ej] at z
     have hj' := List.mem_range.mp (List.mem_of_getElem? ej)
     have : ks j' = ks i := by simpa using congrArg Prod.fst (Option.some.inj z)
     have := hinj j' i (by omega) hi this
     omega
   rw [storedH_new hnew] at x'
   have er : ((List.range i).map fun j => (ks j, ka j, va j)) ++ [(ks i, ka i, va i)] = (List.range (i + 1)).map fun j => (ks j, ka j, va j) := by
    rw [List.range_succ, List.map_append]; rfl
   rw [er] at x'
   have hk2 : ∀ j, j < n → (∃ o its k, h'.get? (rw_ j) = some o ∧ o.cls = .type "tuple" ∧ o.data = .seq its k ∧ its.toList = [.ref (ka j), va j]) ∧ (tupleKind (z20 prog w)).is h' (ks j) (ka j) := fun j hj => by
    obtain ⟨⟨o, its, k, e1, r⟩, x2⟩ := hk1 j hj
    exact ⟨⟨o, its, k, (sb.2 _ fun z => (hnw j hj).1 (by rw [z]; exact List.mem_cons_self)).trans e1, r⟩, zdq x2 fun o z => (sb.2 _ fun z => (hnw j hj).2 (by rw [z]; exact List.mem_cons_self)).trans z⟩
   refine wpAny_pure ⟨plainId_quiet zdc _, ih (i + 1) _ (by omega) (W.frame _ s1 _ _ st1 (Nat.le_add_right _ _) fun b hb' o z => ?_) x' hk2 fun s2 mv2 x2 => q s2 (Moved.trans W.gtrans ((mv.mono hm).then_heap (Nat.le_add_right _ _) fun b o hb' z => ?_) mv2) x2⟩
   ·rw [sb.2 b fun z : b = D => hDf (z ▸ hb')]; exact z
   ·rw [sb.2 b fun z : b = D => hb' (z ▸ List.mem_cons_self)]; exact z
  ·rw [List.length_map, List.length_range]
   exact q3b (by omega)
end
def zzr : List V → Hp → VK → Prop := fun xs H Q => ∃ (a : Addr) (vs : List V) (l : List Rw2), xs = [.ref a] ∧ H a = some (.lst vs) ∧ DtA H vs (l.map q2n) ∧ (l.map (·.1)).Nodup ∧ l.length ≤ 100000 ∧
 ∀ (p : Addr) (kvs : List (List Key × V)), H p = none → Paired (fun (kv : List Key × V) (r : Rw2) => kv.1 = r.1.map Sum.inl ∧ Dt H kv.2 r.2) kvs l → Q (.ref p) (upd H p (.dT kvs))
structure Prw where
 r : Addr
 k : Addr
 x : V
 u : Value
instance : Inhabited Prw := ⟨⟨0, 0, .non, .none⟩⟩
section
variable {X : Cx} {pins : List (Addr × Obj)} {σ : St} {H : Hp} {s : Shared}
def zyu (X : Cx) (H : Hp) (h : Heap) (l : Rw2) (q : Prw) : Prop := H q.r = some (.tup [.ref q.k, q.x]) ∧ H q.k = some (.tup (l.1.map V.int)) ∧ Dt H q.x l.2 ∧ RelV q.x q.u ∧ (∃ o its k, h.get? q.r = some o ∧ o.cls = .type "tuple" ∧ o.data = .seq its k ∧ its.toList = [.ref q.k, q.u]) ∧ (tupleKind (z20 X.prog X.w)).is h (l.1.map Sum.inl) q.k
theorem q3j (I : Inv X pins σ H s) : ∀ {l : List Rw2} {vs : List V} {us : List Value}, DtA H vs (l.map q2n) → Vals vs us → ∃ qs : List Prw, us = qs.map (fun q => Value.ref q.r) ∧ Paired (zyu X H s.heap) l qs
 | [], _, _, .nil, .nil => ⟨[], rfl, .nil⟩
 | r :: l, _, _, .cons d t, .cons rr rt => by
  obtain ⟨qs, e, pq⟩ := q3j I t rt
  cases d with
  | tup e1 ra =>
   cases rr
   obtain ⟨its, rv, ⟨o, ho, hc, n, hd⟩, _⟩ := I.tuple (SqT.of e1)
   cases ra with
   | cons d1 ra =>
    cases ra with
    | cons d2 ra =>
     cases ra
     cases rv with
     | cons q1 rv =>
      cases rv with
      | cons q2 rv =>
       cases rv
       cases d1 with
       | tup e2 rb =>
        have eb := z7n rb
        subst eb
        cases q1
        refine ⟨⟨_, _, _, _⟩ :: qs, by rw [e]; rfl, .cons ⟨e1, e2, d2, q2, ⟨o, _, n, ho, hc, hd, rfl⟩, ?_⟩ pq⟩
        refine zlg I.hok ?_
        rw [e2, List.map_map]
        rfl
theorem zl6 {α β : Type} {R : α → β → Prop} : ∀ {l : List α} {m : List β}, Paired R l m → l.length = m.length ∧ ∀ (j : Nat) (a : α) (b : β), l[j]? = some a → m[j]? = some b → R a b
 | [], _, .nil => ⟨rfl, fun j a b h => by simp at h⟩
 | x :: l, _, .cons r t => by
  obtain ⟨h1, h2⟩ := zl6 t
  refine ⟨by simp [h1], fun j a b ha hb => ?_⟩
  cases j with
  | zero =>
   have e1 := Option.some.inj ha
   have e2 := Option.some.inj hb
   subst e1 e2
   exact r
  | succ j => exact h2 j a b (by simpa using ha) (by simpa using hb)
theorem zl5 {α β γ δ : Type} {R : α → β → Prop} {S : γ → δ → Prop} {f : α → β → γ} {g : α → β → δ} : ∀ {l : List α} {m : List β}, Paired R l m → (∀ a b, R a b → S (f a b) (g a b)) → Paired S (List.zipWith f l m) (List.zipWith g l m)
 | [], _, .nil, _ => .nil
 | _ :: _, _, .cons r t, h => .cons (h _ _ r) (zl5 t h)
theorem zqi (hc : X.calm = true) (hu : X.A.units + 64 < cLine) : CallR X (.type "dict") zzr := by
 intro pins s σ H xs us Q I r h
 obtain ⟨a, vs, l, rfl, hH, hd, hnd, hz, q⟩ := h
 obtain ⟨u, rfl, r1⟩ := r.one
 cases r1
 obtain ⟨z, its, n, rv, hl, e⟩ := I.lstM hH
 obtain ⟨qs, eq, pq⟩ := q3j I hd rv
 subst eq
 obtain ⟨hlen, hat⟩ := zl6 pq
 refine callType_codes (Q₁ := fun obj s₁ => obj = .ref s.heap.objs.size ∧ s₁ = { s with heap := s.heap.push { cls := .type "dict", data := .dict #[] } }) F.kt_called_dict (F.kt_typeCall_dict_1 _) F.entry_dict_init (kt_code_dict_new _ ⟨rfl, rfl⟩) ?_
 rintro obj s₁ ⟨rfl, rfl⟩
 have hnew : (s.heap.push { cls := .type "dict", data := .dict #[] }).DictOfH (tupleKind (z20 X.prog X.w)) s.heap.objs.size [] := Heap.DictOfH.new s.heap
 refine ⟨hnew.typeIs, F.args_dict_init_2 _ _, ?_⟩
 unfold Builtin.«dict.__init__»
 refine wpAny_bind ?_
 unfold Builtin.Dict.selfAndRest
 refine wpAny_bind (wpAny_notOrdered_dict hnew.typeIs ?_)
 show wpAny _ _ (pure (s.heap.objs.size, [Value.ref a])) _ _ _
 refine wpAny_pure ?_
 show wpAny _ _ (Builtin.Dict.updateFrom "dict.__init__" s.heap.objs.size (.ref a) [] .none) _ _ _
 unfold Builtin.Dict.updateFrom
 have e1 : (s.heap.push { cls := .type "dict", data := .dict #[] }).get? a = some { cls := .type "list", data := .seq (qs.map fun q => Value.ref q.r).toArray n } := Heap.get?_push_of_some _ e
 refine wpAny_bind (wpAny_typeOf (T := "list") ⟨_, e1, rfl⟩ ?_)
 rw [if_pos (by decide)]
 refine wpAny_bind (zxw (by simpa using I.ok.hd hc) e1 fun h2 tk2 k2 => ?_)
 refine wpAny_ite_split (fun _ => ?_) (fun c => absurd rfl c)
 have e2 := k2 a _ e1
 have eD := k2 _ _ (Heap.get?_push_size s.heap (o := { cls := .type "dict", data := .dict #[] }) rfl)
 have lD : s.heap.objs.size < h2.objs.size := Heap.lt_size eD
 have la : a < s.heap.objs.size := Heap.lt_size e
 have hl2 : h2.IsList a (qs.map fun q => Value.ref q.r).toArray := ⟨_, e2, rfl, n, rfl⟩
 refine wpAny_bind (wpAny_rule (wpAny_bind (wpAny_pyIter_list (s := { s with heap := h2, toks := tk2 }) hl2 (wpAny_pure ⟨plainId_quiet zdc _, ?_⟩))))
 have W := (Walks.list (prog := X.prog) (w := X.w) (A := X.A.in1.in1) (by simpa using I.ok.hd hc) h2.objs.size a (Nat.ne_of_lt (Nat.lt_trans la lD)) (qs.map fun q => Value.ref q.r).toArray).toS
 have hsz : (qs.map fun q => Value.ref q.r).toArray.size = qs.length := by simp
 rw [hsz] at W
 have hgq : ∀ j, j < qs.length → qs[j]? = some (qs.getD j default) := fun j hj => by
  rw [List.getD_eq_getElem?_getD, List.getElem?_eq_getElem hj]; rfl
 have hgl : ∀ j, j < qs.length → l[j]? = some (l.getD j ([], .non)) := fun j hj => by
  rw [List.getD_eq_getElem?_getD, List.getElem?_eq_getElem (by omega)]; rfl
 have ok : ∀ j, j < qs.length → zyu X H s.heap (l.getD j ([], .non)) (qs.getD j default) := fun j hj => hat j _ _ (hgl j hj) (hgq j hj)
 have kp : ∀ b o, s.heap.get? b = some o → (h2.push { cls := .type "list_iterator", data := .fields #[.ref a, .int 0 0] }).get? b = some o := fun b o q => Heap.get?_push_of_some _ (k2 b o (Heap.get?_push_of_some _ q))
 refine zpr (A := X.A.in1) (D := s.heap.objs.size) (rw_ := fun j => (qs.getD j default).r) (ka := fun j => (qs.getD j default).k) (va := fun j => (qs.getD j default).u) (ks := fun j => (l.getD j ([], .non)).1.map Sum.inl) W ?_ (fun i v hv => ?_) (fun i j hi hj z => ?_) (by omega) (fun j hj => ?_) (by show X.A.units + 1 + 8 < cLine; omega) qs.length 0 _ (Nat.zero_add _) ⟨⟨_, Heap.get?_push_size _ rfl, rfl, rfl⟩, hl2.push _⟩ ?_ (fun j hj => ?_) fun s' mv x => ?_
 ·simp only [List.mem_cons, List.not_mem_nil, or_false, not_or]
  exact ⟨Nat.ne_of_lt lD, Nat.ne_of_gt la⟩
 ·have hi : i < qs.length := by
   refine Classical.byContradiction fun z => ?_
   rw [Array.getElem?_eq_none (by rw [hsz]; omega)] at hv
   cases hv
  have z : (qs.map fun q => Value.ref q.r)[i]? = some v := by simpa using hv
  rw [List.getElem?_map, hgq i hi] at z
  exact (Option.some.inj z).symm
 ·have e' : (l.getD i ([], Dm.non)).1 = (l.getD j ([], Dm.non)).1 := by
   have inj : ∀ (x y : List Int), x.map (Sum.inl : Int → Key) = y.map Sum.inl → x = y := by
    intro x
    induction x with
    | nil => intro y h; cases y with | nil => rfl | cons _ _ => cases h
    | cons a x ih =>
     intro y h
     cases y with
     | nil => cases h
     | cons b y =>
      rw [List.map_cons, List.map_cons] at h
      injection h with h1 h2
      injection h1 with h1
      rw [h1, ih y h2]
   exact inj _ _ z
  have hi' : i < (l.map (·.1)).length := by rw [List.length_map]; omega
  have hj' : j < (l.map (·.1)).length := by rw [List.length_map]; omega
  refine (List.getElem_inj (h₀ := hi') (h₁ := hj') hnd).mp ?_
  rw [List.getElem_map, List.getElem_map]
  have a1 := hgl i hi
  have a2 := hgl j hj
  rw [List.getElem?_eq_getElem (by omega)] at a1
  rw [List.getElem?_eq_getElem (by omega)] at a2
  rw [Option.some.inj a1, Option.some.inj a2]
  exact e'
 ·obtain ⟨_, _, _, _, ⟨o, its, k, g1, _⟩, o2, its2, k2', g2, _⟩ := ok j hj
  have b1 := Heap.lt_size g1
  have b2 := Heap.lt_size g2
  simp only [List.mem_cons, List.not_mem_nil, or_false, not_or]
  exact ⟨⟨Nat.ne_of_lt b1, Nat.ne_of_lt (Nat.lt_trans b1 lD)⟩, Nat.ne_of_lt b2, Nat.ne_of_lt (Nat.lt_trans b2 lD)⟩
 ·exact zco hnew (fun o z => Heap.get?_push_of_some _ (k2 _ o z)) fun y hy => absurd hy (by simp)
 ·obtain ⟨_, _, _, _, ⟨o, its, k, g1, r1⟩, x2⟩ := ok j hj
  exact ⟨⟨o, its, k, kp _ _ g1, r1⟩, zdq x2 fun o z => kp _ o z⟩
 ·obtain ⟨h', g', d', tk', os'⟩ := s'
  have z1 : g' = s.gens := mv.gens
  have z2 : d' = s.drawn := mv.drawn
  have z3 : os' = s.os := mv.os
  subst z1 z2 z3
  refine ⟨rfl, ?_⟩
  have kf : ∀ b o, s.heap.get? b = some o → h'.get? b = some o := fun b o q => by
   have lb := Heap.lt_size q
   refine mv.heap b o ?_ (kp b o q)
   simp only [List.mem_cons, List.not_mem_nil, or_false, not_or]
   exact ⟨Nat.ne_of_lt lb, Nat.ne_of_lt (Nat.lt_trans lb lD)⟩
  obtain ⟨oD, es, ep, f1, f2, f3, f4, f5, f6⟩ := x
  have ez : ((List.range qs.length).map fun j => ((l.getD j ([], Dm.non)).1.map (Sum.inl : Int → Key), (qs.getD j default).k, (qs.getD j default).u)) = List.zipWith (fun (r : Rw2) (q : Prw) => (r.1.map Sum.inl, q.k, q.u)) l qs := by
   refine List.ext_getElem (by simp; omega) fun j h1 h2 => ?_
   have hj : j < qs.length := by simpa using h1
   have a1 := hgl j hj
   have a2 := hgq j hj
   rw [List.getElem?_eq_getElem (by omega)] at a1
   rw [List.getElem?_eq_getElem hj] at a2
   rw [List.getElem_map, List.getElem_range, List.getElem_zipWith, Option.some.inj a1, Option.some.inj a2]
  rw [ez] at f4 f6
  refine ⟨.ref s.heap.objs.size, _, I.laid (t' := tk') kf (Nat.le_refl _) (show ObjOk X.prog X.w _ _ _ (.dT (List.zipWith (fun (r : Rw2) (q : Prw) => (r.1.map Sum.inl, q.x)) l qs)) from ⟨?_, ?_, _, ?_, oD, es, ep, f1, f2, f3, f4, f6⟩), rfl, q _ _ (I.hok.fresh (Nat.le_refl _)) ?_⟩
  ·rw [List.length_zipWith]
   exact q3b (by omega)
  ·have := I.big
   exact beq_eq_false_iff_ne.mpr (Nat.ne_of_gt this)
  ·refine zl5 pq fun r q ok => ⟨rfl, ?_, ok.2.2.2.1⟩
   rw [z0q (Nat.ne_of_lt (I.hok _ _ ok.2.1).lt), ok.2.1, List.map_map]
   rfl
  ·have key : ∀ {l : List Rw2} {qs : List Prw}, Paired (zyu X H s.heap) l qs → Paired (fun (kv : List Key × V) (r : Rw2) => kv.1 = r.1.map Sum.inl ∧ Dt H kv.2 r.2) (List.zipWith (fun (r : Rw2) (q : Prw) => (r.1.map Sum.inl, q.x)) l qs) l := by
    intro l qs pq
    induction pq with
    | nil => exact .nil
    | cons r t ih => exact .cons ⟨rfl, r.2.2.1⟩ ih
   exact key pq
end
def zqy (td : TE) : TE := fun σ H Q => td σ H fun x H1 => zoi x [] H1 Q
theorem zut {X : Cx} {o : Expr} {apos cpos : Pos} {td : TE} (ho : PE X o td) (hbase : attributeBase o "items" X.env (eval o X.env) = eval o X.env := by rfl)
  (hfew : ((backTo cpos (starEach [] X.env)).all (fun x => !x.1) && (backToKw cpos (keywordEach [] X.env)).all (fun x => x.1.isSome)
   && decide (([] : List Expr).length + ([] : List Keyword).length + (if ([] : List Keyword).isEmpty then 0 else 1) < 30)) = true := by rfl)
  (hline : (apos.endLine == cpos.line) = true := by rfl) : PE X (.Call (.Attribute o "items" apos) [] [] cpos) (zqy td) := by
 intro pins s σ H Q I h
 refine wpAny_Call_method hbase hfew hline PySem.F.plainAttrs_dict PySem.F.slot_dict_items PySem.F.type_dict_items (thn (ho pins s σ H _ I h) fun u s1 ⟨x, H1, I1, rx, q1⟩ => ?_)
 obtain ⟨d, kvs, rfl, _, hH, q⟩ := q1
 obtain rfl : u = Value.ref d := rx
 obtain ⟨t1, t2, _⟩ := zwd I1 (.inl ⟨kvs, .inl hH⟩)
 refine ⟨t1, t2, ?_⟩
 refine Calls.callWith_builtin rfl (PyProof.Rows.evalArgs_nil3 ?_)
 exact zv5 pins s1 σ H1 (.ref d) [] (.ref d) [] Q I1 rfl .nil ⟨d, kvs, rfl, rfl, hH, q⟩
def zzh (i j k : Nat) (ta : TA) : TS := fun D σ H => ta σ H fun vs H1 => ∃ u v w, vs = [u, v, w] ∧ D.nx (((σ.set i (some u)).set j (some v)).set k (some w)) H1
end L2
set_option Elab.async false
set_option linter.all false
set_option maxRecDepth 100000
namespace L2
open PySem PySem.Spec PyProof.Rows
def zg9 (c : Addr) (q : Str) : HO := .ext fun h => h.CodeRec (.ref c) q
structure LamD where
 qual : Str
 params : Arguments
 body : Expr
 scope : Scope
def zqk (D : LamD) (cl : List (Str × Addr)) (f c' : Addr) : HO := .ext fun h => ∃ pm ctv, h.get? f = some (PySem.W.kla_obj "<lambda>" D.qual D.params D.body D.scope cl pm c' ctv)
def q1x (P : Addr) (pos : Pos) (D : LamD) (cl : List (Str × Addr)) : TE := fun σ H Q => ∃ ps, H P = some (.tbl ps) ∧ TriplesOk ps.toList ∧
  ((codeAmong pos ps.toList = none ∧ ∀ c' f, H c' = none → H f = none → c' ≠ f → Q (.ref f) (upd (upd (upd H P (.tbl (ps ++ #[rawInt pos.line, rawInt pos.col, .ref c']))) c' (zg9 c' D.qual)) f (zqk D cl f c'))) ∨
   (∃ c', codeAmong pos ps.toList = some (.ref c') ∧ H c' = some (zg9 c' D.qual) ∧ ∀ f, H f = none → Q (.ref f) (upd H f (zqk D cl f c'))))
section
variable {X : Cx}
theorem zw6 {params : Arguments} {body : Expr} {scope : Scope} {pos : Pos} {c P : Addr} {cl : List (Str × Addr)} (hdef : defaultsOf params X.env = ([], [])) (hcl : closureFor scope X.env = pure cl) (hcode : X.env.code = .ref c) (C : PySem.W.CodeHd X.base c P) (hB : X.base.BuiltinsAt X.mg P) (hgP : mainGlobals ≠ P) :
  PE X (.Lambda params body scope pos) (q1x P pos ⟨X.env.qual ++ "<lambda>", params, body, scope⟩ cl) := by
 intro pins s σ H Q I h
 obtain ⟨ps, hP, ht, h⟩ := h
 have C' : PySem.W.CodeHd s.heap c P := C.keeps I.bk
 have hb : s.heap.BuiltinsAt X.mg P := by
  obtain ⟨bm, ob, a1, a2, a3, a4, a5, a6⟩ := hB
  exact ⟨bm, ob, a1, a2, a3, a4, I.bk _ _ a5, a6⟩
 have hg : s.heap.Ns mainGlobals X.mg := I.mod.glob.keeps I.bk
 have hPo : s.heap.get? P = some (PySem.W.tabObj ps) := I.hok P _ hP
 refine PySem.W.kla_eval hdef ?_
 rcases h with ⟨hnf, h⟩ | ⟨c', hf, hc', h⟩
 ·refine PySem.W.kla_makeFunction hcl I.ok.glob hg hcode C' hPo ht hnf hgP hb fun c' ctv h' tk hx hge hlt hrec htb => ?_
  have hcn : H c' = none := I.hok.fresh hge
  have hsz : s.heap.objs.size ≤ h'.objs.size := Nat.le_of_lt (Nat.lt_of_le_of_lt hge hlt)
  have hfn : H h'.objs.size = none := I.hok.fresh hsz
  have hne : c' ≠ h'.objs.size := Nat.ne_of_lt hlt
  have hPc : P ≠ c' := z12 hP hcn
  have hPf : P ≠ h'.objs.size := z12 hP hfn
  have q := h c' h'.objs.size hcn hfn hne
  generalize hH : upd (upd (upd H P (.tbl (ps ++ #[rawInt pos.line, rawInt pos.col, .ref c']))) c' (zg9 c' (X.env.qual ++ "<lambda>"))) h'.objs.size (zqk ⟨X.env.qual ++ "<lambda>", params, body, scope⟩ cl h'.objs.size c') = H' at q
  have far : ∀ b, b ≠ P → b ≠ c' → b ≠ h'.objs.size → H' b = H b := fun b h1 h2 h3 => by
   rw [← hH, z0q h3, z0q h2, z0q h1]
  have atP : H' P = some (.tbl (ps ++ #[rawInt pos.line, rawInt pos.col, .ref c'])) := by rw [← hH, z0q hPf, z0q hPc, z02]
  have old : ∀ b u, H b = some u → b ≠ P → H' b = some u := fun b u e n => (far b n (z12 e hcn) (z12 e hfn)).trans e
  have kp : ∀ b o, b ≠ P → s.heap.get? b = some o → (h'.push (PySem.W.kla_obj "<lambda>" (X.env.qual ++ "<lambda>") params body scope cl ((X.mg "__name__").getD .none) c' ctv)).get? b = some o := fun b o n e => Heap.get?_push_of_some _ (hx b o n e)
  have nP : ∀ b, H b = none → b ≠ P := fun b e z => by rw [z, hP] at e; cases e
  refine ⟨.ref h'.objs.size, H', I.un (t' := tk) ⟨fun b o e n _ _ => kp b o (nP b n) e, fun b o e n _ _ => ⟨o.slots, kp b o (nP b n) e⟩, fun b o e n _ => ?_, fun b o e _ => ?_, fun b xs e => old b _ e fun z => (by rw [z, hP] at e; cases e), fun b o u e => old b _ e fun z => (by rw [z, hP] at e; cases e), fun b qs e => ?_⟩ fun b u e => ?_, rfl, q⟩
  ·have hlt' := Heap.lt_size e
   rw [far b (nP b n) (Nat.ne_of_lt (Nat.lt_of_lt_of_le hlt' hge)) (Nat.ne_of_lt (Nat.lt_of_lt_of_le hlt' hsz))]
   exact n
  ·by_cases hb' : b = P
   ·exact ⟨_, by rw [hb']; exact Heap.get?_push_of_some _ htb⟩
   ·exact ⟨o, kp b o hb' e⟩
  ·by_cases hb' : b = P
   ·rw [hb', hP] at e
    cases e
    exact ⟨_, by rw [hb']; exact atP⟩
   ·exact ⟨#[], by rw [old b _ e hb']; simp⟩
  ·by_cases h3 : b = h'.objs.size
   ·have e' := e
    rw [← hH, h3, z02] at e'
    cases e'
    rw [h3]
    exact ⟨⟨_, _, Heap.get?_push_size _ rfl⟩, ⟨_, Heap.get?_push_size _ rfl⟩, fun h1 h2 ⟨pm, ct, z⟩ k => ⟨pm, ct, k _ z⟩⟩
   ·by_cases h2 : b = c'
    ·have e' := e
     rw [← hH, h2, z0q hne, z02] at e'
     cases e'
     rw [h2]
     obtain ⟨c₂, oc, vs, t, e2, hoc, hd, hv⟩ := hrec
     cases e2
     exact ⟨⟨_, oc, vs, t, rfl, Heap.get?_push_of_some _ hoc, hd, hv⟩, ⟨oc, Heap.get?_push_of_some _ hoc⟩, fun h1 h2 ⟨c3, oc, vs, t, e3, z, zd, zv⟩ k => by cases e3; exact ⟨_, oc, vs, t, rfl, k _ z, zd, zv⟩⟩
    ·by_cases h1 : b = P
     ·rw [h1, atP] at e
      cases e
      rw [h1]
      exact Heap.get?_push_of_some _ htb
     ·rw [far b h1 h2 h3] at e
      refine (I.hok b u e).stay (fun d v hd e' => kp d v ?_ e') (fun d e' => old d _ e' fun z => (by rw [z, hP] at e'; cases e')) fun d xs e' => old d _ e' fun z => (by rw [z, hP] at e'; cases e')
      rcases hd with hd | hd
      ·rw [hd]; exact h1
      ·exact fun z => by rw [z, hP] at hd; cases hd
 ·refine PySem.W.kla_makeFunctionHit hcl I.ok.glob hg hcode C' hPo ht hf hb fun ctv h' tk hk hsz => ?_
  have hfn : H h'.objs.size = none := I.hok.fresh hsz
  refine ⟨.ref h'.objs.size, upd H h'.objs.size _, I.laid (t' := tk) (fun b u e => Heap.get?_push_of_some _ (hk b u e)) hsz ?_, rfl, h _ hfn⟩
  exact ⟨⟨_, _, Heap.get?_push_size _ rfl⟩, ⟨_, Heap.get?_push_size _ rfl⟩, fun h1 h2 ⟨pm, ct, z⟩ k => ⟨pm, ct, k _ z⟩⟩
end
def z6e (c : Addr) (o : Obj) : HO := .ext fun h => h.get? c = some o
def zjr (cs : List Addr) (H : Hp) : Hp := fun b => if b ∈ cs then none else H b
def zmq (cs : List Addr) (H H' : Hp) : Hp := fun b => if b ∈ cs then H b else H' b
theorem zhe {cs : List Addr} {H : Hp} {b : Addr} (h : b ∈ cs) : zjr cs H b = none := by unfold zjr; rw [if_pos h]
theorem z33 {cs : List Addr} {H : Hp} {b : Addr} (h : b ∉ cs) : zjr cs H b = H b := by unfold zjr; rw [if_neg h]
theorem zo4 {cs : List Addr} {H H' : Hp} {b : Addr} (h : b ∈ cs) : zmq cs H H' b = H b := by unfold zmq; rw [if_pos h]
theorem z7o {cs : List Addr} {H H' : Hp} {b : Addr} (h : b ∉ cs) : zmq cs H H' b = H' b := by unfold zmq; rw [if_neg h]
theorem z76 {cs : List Addr} {H : Hp} {b : Addr} (h : H b = none) : zjr cs H b = none := by
 by_cases hb : b ∈ cs
 ·exact zhe hb
 ·rw [z33 hb]; exact h
theorem zsp {cs : List Addr} {H : Hp} {b : Addr} {u : HO} (h : zjr cs H b = some u) : b ∉ cs ∧ H b = some u := by
 by_cases hb : b ∈ cs
 ·rw [zhe hb] at h; cases h
 ·exact ⟨hb, by rw [z33 hb] at h; exact h⟩
def AreCells (cs : List Addr) (H : Hp) : Prop := ∀ c ∈ cs, ∃ o, H c = some (z6e c o)
theorem AreCells.not {cs : List Addr} {H : Hp} (h : AreCells cs H) {b : Addr} {u : HO} (e : H b = some u) (n : ∀ o, u ≠ z6e b o) : b ∉ cs := fun hb => by
 obtain ⟨o, q⟩ := h b hb
 rw [e] at q
 cases q
 exact n o rfl
theorem HOk.hid {P : Program} {w : World} {H : Hp} {h : Heap} {cs : List Addr} (x : HOk P w H h) (k : AreCells cs H) : HOk P w (zjr cs H) h := fun a o e => by
 obtain ⟨_, e'⟩ := zsp e
 refine (x a o e').stay (fun _ _ _ q => q) (fun b q => ?_) fun b xs q => ?_
 ·rw [z33 (k.not q fun o => by unfold z6e; intro z; cases z)]; exact q
 ·rw [z33 (k.not q fun o => by unfold z6e; intro z; cases z)]; exact q
theorem HOk.ret {P : Program} {w : World} {H H' : Hp} {h h' : Heap} {cs : List Addr} (x : HOk P w H h) (x' : HOk P w H' h') (k : AreCells cs H) (hn : ∀ c ∈ cs, H' c = none) (kp : ∀ c ∈ cs, ∀ o, h.get? c = some o → h'.get? c = some o) : HOk P w (zmq cs H H') h' := fun a o e => by
 have out : ∀ {b : Addr} {u : HO}, H' b = some u → zmq cs H H' b = some u := fun {b u} e => by rw [z7o fun hb => by rw [hn b hb] at e; cases e]; exact e
 by_cases ha : a ∈ cs
 ·rw [zo4 ha] at e
  obtain ⟨ob, q⟩ := k a ha
  rw [q] at e
  cases e
  obtain ⟨z, _, st⟩ := x a _ q
  exact ⟨kp a ha _ z, ⟨_, kp a ha _ z⟩, st⟩
 ·rw [z7o ha] at e
  exact (x' a o e).stay (fun _ _ _ q => q) (fun b q => out q) fun b xs q => out q
theorem Un.ret {fs : List Addr} {H H' : Hp} {h h' : Heap} {cs : List Addr} (u : Un fs [] (zjr cs H) H' h h') (k : AreCells cs H) : Un fs [] H (zmq cs H H') h h' := by
 have nc : ∀ {b : Addr}, H b = none → b ∉ cs := fun {b} n hb => by
  obtain ⟨o, q⟩ := k b hb
  rw [n] at q; cases q
 refine ⟨fun b o e n hb hx => u.keep b o e (z76 n) hb hx, fun b o e n hb hx => u.slot b o e (z76 n) hb hx, fun b o e n hx => ?_, u.there, fun b xs e => ?_, fun b o v e => ?_, fun b ps e => ?_⟩
 ·rw [z7o (nc n)]
  exact u.free b o e (z76 n) hx
 ·have nb := k.not e fun o => by unfold z6e; intro z; cases z
  rw [z7o nb]
  exact u.tups b xs (by rw [z33 nb]; exact e)
 ·have nb := k.not e fun o => by unfold z6e; intro z; cases z
  rw [z7o nb]
  exact u.frzs b o v (by rw [z33 nb]; exact e)
 ·have nb := k.not e fun o => by unfold z6e; intro z; cases z
  rw [z7o nb]
  exact u.tbls b ps (by rw [z33 nb]; exact e)
structure LamScope (ps fr : List Str) (cl : List (Str × Addr)) (sc : Scope) : Prop where
 kind : sc.kind = .function
 co : sc.isCoroutine = false
 gen : sc.isGenerator = false
 nd : (ps ++ fr).Nodup
 par : ∀ x ∈ ps, sc.names.lookup x = some .local
 free : ∀ x ∈ fr, sc.names.lookup x = some .free
 nocell : ∀ y ∈ sc.names, y.2 ≠ .cell
 has : ∀ y ∈ sc.names, y.2 = .free → ∃ c, cl.lookup y.1 = some c
 inj : ∀ x y c, cl.lookup x = some c → cl.lookup y = some c → x = y
 look : ∀ x c, (x, c) ∈ cl → cl.lookup x = some c
def cxL (P : Program) (w : World) (K : PySem.W.Frag) (mg : Str → Option Value) (base : Heap) (N : List Str) (D : LamD) (cl : List (Str × Addr)) (f c' : Addr) (A : Around) (outer : List PySem.Env) (s : Shared) (H : Hp) (E : XK) : Cx where
 prog := P
 w := w
 K := K
 mg := mg
 base := base
 A := A.deeper (PySem.W.envX D.qual D.scope s.heap.objs.size f (.ref c') cl)
 N := N
 s₀ := s
 H₀ := zjr (cl.map (·.2)) H
 env := PySem.W.envX D.qual D.scope s.heap.objs.size f (.ref c') cl
 outer := outer
 stack := PySem.W.envX D.qual D.scope s.heap.objs.size f (.ref c') cl :: outer
 ex := []
 calm := true
 fn := fun _ => false
 pn := []
 xe := fun e s' => wpAny (model P w) (A.deeper (PySem.W.envX D.qual D.scope s.heap.objs.size f (.ref c') cl)) (leaving (PySem.W.envX D.qual D.scope s.heap.objs.size f (.ref c') cl) e) (fun _ s'' => CX0 outer H s E e s'') (fun e' s'' => CX0 outer H s E e' s'') s'
theorem zik {x : Str} {v : Value} : ∀ {ps : List Str} {us : List Value} {i : Nat}, ps.Nodup → ps[i]? = some x → us[i]? = some v → (ps.zip us).lookup x = some v
 | [], _, _, _, h, _ => by simp at h
 | _ :: _, [], _, _, _, h => by simp at h
 | p :: ps, u :: us, 0, nd, h1, h2 => by
  simp at h1 h2; subst h1; subst h2
  simp [List.zip_cons_cons, List.lookup]
 | p :: ps, u :: us, i + 1, nd, h1, h2 => by
  have hn := List.nodup_cons.mp nd
  have h1' : ps[i]? = some x := by simpa using h1
  have hne : (x == p) = false := by
   rw [beq_eq_false_iff_ne]
   rintro rfl
   exact hn.1 (List.mem_of_getElem? h1')
  rw [List.zip_cons_cons, List.lookup, hne]
  exact zik hn.2 h1' (by simpa using h2)
theorem zq6 {x : Str} {v : Value} {ps : List Str} {us : List Value} {i : Nat} (nd : ps.Nodup) (hl : ps.length = us.length) (h1 : ps[i]? = some x) (h2 : us[i]? = some v) : (ps.zip us).reverse.lookup x = some v := by
 have e : (ps.zip us).reverse = ps.reverse.zip us.reverse := by
  apply List.ext_getElem?
  intro j
  simp [List.zip, List.reverse_zipWith hl]
 have hi : i < ps.length := (List.getElem?_eq_some_iff.mp h1).1
 rw [e]
 refine zik (i := ps.length - 1 - i) (by unfold List.Nodup; rw [List.pairwise_reverse]; exact nd.imp Ne.symm) ?_ ?_
 ·rw [List.getElem?_reverse (by omega)]
  rw [show ps.length - 1 - (ps.length - 1 - i) = i by omega]
  exact h1
 ·rw [List.getElem?_reverse (by omega)]
  rw [show us.length - 1 - (ps.length - 1 - i) = i by omega]
  exact h2
theorem zy1 {P : Program} {w : World} {K : PySem.W.Frag} {mg : Str → Option Value} {base : Heap} {ps fr : List Str} {D : LamD} {cl : List (Str × Addr)} {f c' : Addr} {A : Around} {outer : List PySem.Env} {s : Shared} {h1 : Heap} {tk : Nat} {H : Hp} {E : XK} {us : List Value} {vs ws : List V}
  (S : LamScope ps fr cl D.scope) (hd : A.handled = none) (e0 : Env0 P w K mg base A outer s H) (hl : vs.length = ps.length) (r : Vals vs us) (hlw : ws.length = fr.length)
  (cells : ∀ c ∈ cl.map (·.2), ∃ o x, H c = some (z6e c o) ∧ o.data = .cell x)
  (hw : ∀ (i : Nat) (x : Str) (v : V), fr[i]? = some x → ws[i]? = some v → ∃ c o u, cl.lookup x = some c ∧ H c = some (z6e c o) ∧ o.data = .cell (some u) ∧ RelV v u)
  (hns : h1.Ns s.heap.objs.size fun x => (ps.zip us).reverse.lookup x) (hk : ∀ b o, s.heap.get? b = some o → h1.get? b = some o) :
  Inv (cxL P w K mg base (ps ++ fr) D cl f c' A outer s H E) [] ((vs ++ ws).map some) (zjr (cl.map (·.2)) H) { s with heap := h1, toks := tk } := by
 have ac : AreCells (cl.map (·.2)) H := fun c hc => by
  obtain ⟨o, _, q, _⟩ := cells c hc
  exact ⟨o, q⟩
 have inC : ∀ {x : Str} {c : Addr}, cl.lookup x = some c → c ∈ cl.map (·.2) := fun {x c} h => List.mem_map.mpr ⟨(x, c), PySem.mem_of_lookup h, rfl⟩
 have noA : ∀ b : Addr, b ∉ (cxL P w K mg base (ps ++ fr) D cl f c' A outer s H E).ex := fun b z => absurd (show b ∈ ([] : List Addr) from z) (by simp)
 have isC : ∀ {c : Addr} {o : Obj}, H c = some (z6e c o) → s.heap.get? c = some o := fun q => (e0.hok _ _ q).1
 refine ⟨⟨e0.mod, S.kind, rfl, rfl, Nat.le_refl _, fun y z c h1 h2 => S.inj y z c h1 h2, fun y hy => ?_, fun y c h => Bool.noConfusion (show false = true from h), fun _ => hd, Around.frames_deeper e0.frames, .inr ⟨rfl, rfl⟩, fun b z => absurd z (noA b), fun b o e => ⟨(e0.bs b o e).1, z76 (e0.bs b o e).2⟩, e0.bsz, fun b _ _ => noA b, fun b z => absurd z (noA b), e0.funs, fun b hb => z76 (e0.frf b hb)⟩,
  rfl, e0.bare, Un.kept hk, ⟨_, hns, fun i y v h1 h2 h3 => ?_⟩, fun y c h => ?_, z76 (e0.hok.fresh (Nat.le_refl _)), fun y c h => zhe (inC h), fun p hp => absurd (show p ∈ ([] : List (Addr × Obj)) from hp) (by simp), (e0.hok.hid ac).kept hk, ?_⟩
 ·have hy : D.scope.names.lookup y = some .cell ∨ D.scope.names.lookup y = some .free := hy
  rcases hy with hy | hy
  ·exact absurd rfl (S.nocell _ (PySem.mem_of_lookup hy))
  ·exact S.has _ (PySem.mem_of_lookup hy) rfl
 ·have h1' : (ps ++ fr)[i]? = some y := h1
  rw [List.getElem?_map] at h2
  by_cases hi : i < ps.length
  ·rw [List.getElem?_append_left hi] at h1'
   rw [List.getElem?_append_left (by omega)] at h2
   cases ev : vs[i]? with
   | none => rw [ev] at h2; cases h2
   | some a =>
    rw [ev] at h2
    cases h2
    obtain ⟨u, hu, rv⟩ := r.get ev
    exact ⟨u, rv, .inl ⟨S.par y (List.mem_of_getElem? h1'), zq6 (List.nodup_append.mp S.nd).1 (by rw [← hl, r.length]) h1' hu⟩⟩
  ·rw [List.getElem?_append_right (by omega)] at h1'
   rw [List.getElem?_append_right (by omega), hl] at h2
   cases ev : ws[i - ps.length]? with
   | none => rw [ev] at h2; cases h2
   | some a =>
    rw [ev] at h2
    cases h2
    obtain ⟨c, o, u, hc, q, hd', rv⟩ := hw _ _ _ h1' ev
    exact ⟨u, rv, .inr ⟨.inr (S.free y (List.mem_of_getElem? h1')), c, hc, o, hk _ _ (isC q), hd'⟩⟩
 ·obtain ⟨o, x, q, hd'⟩ := cells c (inC h)
  exact ⟨x, o, hk _ _ (isC q), hd'⟩
 ·show _ = (ps ++ fr).length
  rw [List.length_map, List.length_append, List.length_append, hl, hlw]
theorem zsi {P : Program} {w : World} {K : PySem.W.Frag} {mg : Str → Option Value} {base : Heap} {k : Nat} {ps fr : List Str} {D : LamD} {cl : List (Str × Addr)} {f c' : Addr} {A : Around} {outer : List PySem.Env} {s : Shared} {H : Hp} {us : List Value} {vs ws : List V} {Q : VK}
  (S : LamScope ps fr cl D.scope) (hr : Room (k + 1) A) (e0 : Env0 P w K mg base A outer s H) (hf : H f = some (zqk D cl f c')) (hc : H c' = some (zg9 c' D.qual)) (hl : vs.length = ps.length) (r : Vals vs us) (hlw : ws.length = fr.length)
  (cells : ∀ c ∈ cl.map (·.2), ∃ o x, H c = some (z6e c o) ∧ o.data = .cell x)
  (hw : ∀ (i : Nat) (x : Str) (v : V), fr[i]? = some x → ws[i]? = some v → ∃ c o u, cl.lookup x = some c ∧ H c = some (z6e c o) ∧ o.data = .cell (some u) ∧ RelV v u)
  (hbind : ∀ fd : FuncData, fd.params = D.params → fd.defaults = .none → fd.kwdefaults = .none → fd.scope = D.scope → bindArgs fd ⟨us, []⟩ = pure (ps.zip us))
  (hbody : Room k (A.deeper (PySem.W.envX D.qual D.scope s.heap.objs.size f (.ref c') cl)) → ∃ t, PE (cxL P w K mg base (ps ++ fr) D cl f c' A outer s H E0) D.body t ∧ t ((vs ++ ws).map some) (zjr (cl.map (·.2)) H) fun v H' => (∀ c ∈ cl.map (·.2), H' c = none) → Q v (zmq (cl.map (·.2)) H H')) :
  codeAny (model P w) A (.call (.ref f) ⟨us, []⟩) (CR CX0 outer P w H s Q E0) s := by
 obtain ⟨⟨pm, ctv, hfo⟩, _⟩ := e0.hok f _ hf
 obtain ⟨hcr, _⟩ := e0.hok c' _ hc
 have ac : AreCells (cl.map (·.2)) H := fun c hc => by
  obtain ⟨o, _, q, _⟩ := cells c hc
  exact ⟨o, q⟩
 have lim : s.heap.NoLimit := e0.mod.nolimit.keeps fun b o e => (e0.bs b o e).1
 refine PySem.W.kla_callFunE hr.depth hfo rfl S.co S.gen rfl hcr ?_
 rw [hbind _ rfl rfl rfl rfl]
 refine wpAny_pure (wpAny_newFunctionEnv S.nocell (fun y hy => S.par _ (List.of_mem_zip hy).1) (fun h₁ hns hsb => ⟨lim.fresh _ hsb, ?_⟩) S.kind)
 show codeAny _ _ (.expr D.body (PySem.W.envX D.qual D.scope s.heap.objs.size f (.ref c') cl)) _ _
 have hk₁ : ∀ b o, s.heap.get? b = some o → h₁.get? b = some o := fun b o e => hsb.extBut b o (Nat.ne_of_lt (Heap.lt_size e)) (Heap.get?_push_of_some _ e)
 obtain ⟨t, ht, q⟩ := hbody (hr.deeper _)
 have I := zy1 (K := K) (f := f) (c' := c') (E := E0) (tk := s.toks + (ps.zip us).length) S hr.hd e0 hl r hlw cells hw hns hk₁
 refine PySem.W.kla_codeExpr (wpAny_mono (ht [] _ _ _ _ I q) (fun u s' hs => ?_) fun e s' hs => hs)
 obtain ⟨v, H', J, rv, qv⟩ := hs
 have nC : ∀ c ∈ cl.map (·.2), H' c = none := fun c hc => by
  obtain ⟨⟨x, c2⟩, hm, rfl⟩ := List.mem_map.mp hc
  exact J.freeC x c2 (S.look x c2 hm)
 replace qv := qv nC
 refine ⟨v, zmq (cl.map (·.2)) H H', J.os, J.bare, Un.ret (cs := cl.map fun x => x.2) (H := H) J.base ac, HOk.ret e0.hok J.hok ac nC fun c hc o e => ?_, rv, qv⟩
 refine J.base.keep c o e (zhe hc) (fun z => ?_) (by show c ∉ ([] : List Addr); simp)
 obtain ⟨o', q'⟩ := ac c hc
 have := e0.frf c z
 rw [q'] at this
 cases this
def zz8 (P : Program) (w : World) (K : PySem.W.Frag) (mg : Str → Option Value) (base : Heap) (k : Nat) (f : Addr) (H : Hp) (vs : List V) (Q : VK) : Prop :=
 ∀ (A : Around) (outer : List PySem.Env) (s : Shared) (us : List Value), Room k A → Env0 P w K mg base A outer s H → Vals vs us → codeAny (model P w) A (.call (.ref f) ⟨us, []⟩) (CR CX0 outer P w H s Q E0) s
def IsLam (H : Hp) (f : Addr) : Prop := ∃ D cl c', H f = some (zqk D cl f c')
theorem IsLam.at {X : Cx} {pins : List (Addr × Obj)} {σ : St} {H : Hp} {s : Shared} {f : Addr} (h : IsLam H f) (I : Inv X pins σ H s) : PySem.W.FnAt f s.heap := by
 obtain ⟨D, cl, c', e⟩ := h
 obtain ⟨⟨pm, ctv, q⟩, _⟩ := I.hok f _ e
 exact ⟨_, _, _, _, q⟩
def zr0 (R : Addr → Hp → List V → VK → Prop) (i : Nat) (t : TA) : TE := fun σ H Q => ∃ f, σ[i]? = some (some (.ref f)) ∧ IsLam H f ∧ t σ H fun vs H1 => IsLam H1 f ∧ R f H1 vs Q
theorem zge {X : Cx} {x : Str} {i k j : Nat} {e : Expr} {es : List Expr} {t : TA} {p pos : Pos} (hN : X.N[i]? = some x) (hv : Vis X.env.scope x) (hr : Room j X.A) (hk : k ≤ j) (ha : PA X (e :: es) t)
  (hd : (x == ("__debug__" : Str)) = false := by decide) (hcd : (x == ("__classdict__" : Str)) = false := by decide) (hst : z5a (e :: es) = true := by rfl) :
  PE X (.Call (.Name x p) (e :: es) [] pos) (zr0 (zz8 X.prog X.w X.K X.mg X.base k) i t) := by
 have hst' := hst
 rw [z5a, Bool.and_eq_true, Bool.not_eq_true'] at hst'
 have he := z29 (es := es) (env := X.env) hst'.1
 have hpl := z4x (pos := pos) (env := X.env) hst'.2
 intro pins s σ H Q I h
 obtain ⟨f, ei, hl, h⟩ := h
 refine wpAny_Call_Name_kw (thn (z00 (pos := p) hN hv hd hcd pins s σ H (fun x' H' => x' = .ref f ∧ IsLam H' f ∧ t σ H' fun vs H1 => IsLam H1 f ∧ zz8 X.prog X.w X.K X.mg X.base k f H1 vs Q) I ⟨_, ei, rfl, hl, h⟩) fun u s0 ⟨x', H', I', r', ex, hl', h'⟩ => ?_)
 subst ex
 cases r'
 refine PySem.W.callWith_F (first := []) (hl'.at I') (thn (ha pos pins s0 σ H' _ I' h') fun us s1 ⟨vs, H1, I1, r, hl1, q⟩ => ⟨hl1.at I1, ?_⟩) he hpl
 refine wpAny_call (codeAny_mono (q X.A X.stack s1 us (hr.mono hk) I1.env0 r) fun r s' hq => ?_)
 cases r with
 | error e => exact False.elim hq
 | ok fl =>
  cases fl with
  | ret u => exact I1.after hq
  | next => exact False.elim hq
  | brk => exact False.elim hq
  | cont => exact False.elim hq
def zgu (sp : Sp) (c : Addr) (i : Nat) (t : TA) : TE := fun σ H Q => t σ H fun vs H1 => ∃ v, σ[i]? = some (some v) ∧ ∀ o u, o.data = .cell (some u) → RelV v u → H1 c = none → sp vs (upd H1 c (z6e c o)) (fun y H2 => H2 c = some (z6e c o) ∧ Q y (zjr [c] H2)) E0
theorem zrr {X : Cx} {x y : Str} {c : Addr} {ps : List Str} {i k j : Nat} {sp : Sp} {e : Expr} {es : List Expr} {t : TA} {p pos : Pos} (C : Callee X.prog X.w X.K X.mg X.base x ps k sp) (hr : Room j X.A) (hk : k ≤ j) (ha : PA X (e :: es) t)
  (hN : X.N[i]? = some y) (hc : X.env.cells.lookup y = some c) (hy : X.env.kindOf y = some .cell) (hfn : X.fn y = true) (hg : Gl X x := by rfl)
  (hdb : (x == ("__debug__" : Str)) = false := by decide) (hst : z5a (e :: es) = true := by rfl) :
  PE X (.Call (.Name x p) (e :: es) [] pos) (zgu sp c i t) := by
 have hst' := hst
 rw [z5a, Bool.and_eq_true, Bool.not_eq_true'] at hst'
 have he := z29 (es := es) (env := X.env) hst'.1
 have hpl := z4x (pos := pos) (env := X.env) hst'.2
 obtain ⟨f, fd, F, hm, hkp, hb⟩ := C
 intro pins s σ H Q I h
 refine wpAny_Call_Name_kw (znl I hg hm ?_ hdb)
 refine PySem.W.callWith_K (h₀ := X.base) I.ok.mod.kin hkp (thn (ha pos pins s σ H _ I h) fun us s1 ⟨vs, H1, I1, r, v, ei, q⟩ => ⟨I1.kIn, ?_⟩) he hpl
 obtain ⟨m, hn, hl⟩ := id I1.loc
 obtain ⟨u, ru, l⟩ := hl i y v hN ei (.inr (.inl hy))
 have hcell : s1.heap.IsCell c (some u) := by
  rcases l with ⟨hk', _⟩ | ⟨_, c2, e2, z⟩
  ·rw [hy] at hk'; cases hk'
  ·rw [hc] at e2; cases e2; exact z
 obtain ⟨o, ho, hd⟩ := hcell
 have hcn : H1 c = none := I1.freeC y c hc
 have q' := q o u hd ru hcn
 have hH : HOk X.prog X.w (upd H1 c (z6e c o)) s1.heap := fun b w e => by
  by_cases hb : b = c
  ·subst hb
   rw [z02] at e
   cases e
   exact ⟨ho, ⟨o, ho⟩, fun h1 h2 z k => k _ z⟩
  ·rw [z0q hb] at e
   exact (I1.hok b w e).stay (fun _ _ _ q => q) (fun d z => by rw [z0q (z12 z hcn)]; exact z) fun d xs z => by rw [z0q (z12 z hcn)]; exact z
 have cfs : c ∉ frs X.stack := fun z => by
  rcases List.mem_cons.mp (I1.stkSub c z) with z | z
  ·exact I1.cne y c hc z
  ·obtain ⟨_, ob, hob, _⟩ := I1.ok.funs.mem z
   exact absurd (Nat.lt_of_lt_of_le (Heap.lt_size hob) (I1.ok.cab y c hfn hc)) (Nat.lt_irrefl _)
 have e0 : Env0 X.prog X.w X.K X.mg X.base X.A X.stack s1 (upd H1 c (z6e c o)) := by
  have z := I1.env0
  refine ⟨z.frames, z.mod, fun b ob e => ⟨(z.bs b ob e).1, ?_⟩, z.bsz, z.funs, fun b hb => ?_, hH, z.bare⟩
  ·rw [z0q fun w => ?_]
   ·exact (z.bs b ob e).2
   ·subst w
    have := Heap.lt_size (I1.ok.bs b ob e).1
    exact absurd (Nat.lt_of_lt_of_le this (I1.ok.cab y b hfn hc)) (Nat.lt_irrefl _)
  ·rw [z0q fun w => cfs (by rw [← w]; exact hb)]
   exact z.frf b hb
 have hln : us.length = ps.length := by rw [← r.length]; exact F.len _ _ _ _ q'
 have hbd := hb s1 us I1.kIn (by rw [List.append_nil]; exact hln)
 rw [List.append_nil] at hbd
 refine wpAny_call (codeAny_mono (F.run X.A X.stack s1 _ ⟨us, []⟩ us vs _ E0 (hr.mono hk) e0 hbd r q') fun r s' hq => ?_)
 cases r with
 | error e => exact False.elim hq
 | ok fl =>
  cases fl with
  | next => exact False.elim hq
  | brk => exact False.elim hq
  | cont => exact False.elim hq
  | ret u2 =>
   obtain ⟨v2, H2, os, bare, un, hok, rv, hc2, q2⟩ := hq
   have ac : AreCells [c] H2 := fun b hb => by
    rw [List.mem_singleton] at hb
    subst hb
    exact ⟨o, hc2⟩
   obtain ⟨hh, g, d, tk, os'⟩ := s'
   obtain rfl : os' = s1.os := os
   have hco : hh.get? c = some o := (hok c _ hc2).1
   refine ⟨v2, zjr [c] H2, I1.call (h' := hh) (g' := g) (d' := d) (t' := tk) (ch := []) ⟨fun b ob e n hb hx => ?_, fun b ob e n hb hx => ?_, fun b ob e n hx => ?_, fun b ob e hx => un.there b ob e hx, fun b xs e => ?_, fun b ob w e => ?_, fun b qs e => ?_⟩ (hok.hid ac) bare (fun b z => absurd z (by simp)), rv, q2⟩
   ·by_cases hbc : b = c
    ·subst hbc; rw [ho] at e; cases e; exact hco
    ·exact un.keep b ob e (by rw [z0q hbc]; exact n) hb hx
   ·by_cases hbc : b = c
    ·subst hbc; exact absurd hb cfs
    ·exact un.slot b ob e (by rw [z0q hbc]; exact n) hb hx
   ·by_cases hbc : b = c
    ·subst hbc; exact zhe (List.mem_singleton.mpr rfl)
    ·exact z76 (un.free b ob e (by rw [z0q hbc]; exact n) hx)
   ·have nb : b ≠ c := z12 e hcn
    rw [z33 (by simpa using nb)]
    exact un.tups b xs (by rw [z0q nb]; exact e)
   ·have nb : b ≠ c := z12 e hcn
    rw [z33 (by simpa using nb)]
    exact un.frzs b ob w (by rw [z0q nb]; exact e)
   ·have nb : b ≠ c := z12 e hcn
    rw [z33 (by simpa using nb)]
    exact un.tbls b qs (by rw [z0q nb]; exact e)
end L2
set_option Elab.async false
set_option linter.all false
set_option maxRecDepth 100000
namespace L2
open PySem PySem.Spec PyProof.Rows
def q1q (mg : Str → Option Value) (base : Heap) (tabs : List (Addr × Addr)) : Prop := ∀ q ∈ tabs, PySem.W.CodeHd base q.1 q.2 ∧ base.BuiltinsAt mg q.2 ∧ mainGlobals ≠ q.2
theorem zsh {P : Program} {w : World} {K : PySem.W.Frag} {mg mb : Str → Option Value} {k : Nat} {fa a : Addr} {fd : FuncData} {x : Str} {sp : Sp} {s₁ : Shared} {vs : List Value} {ns : List Int} {tabs : List (Addr × Addr)}
  (KX : K.In s₁.heap) (hns : s₁.heap.Ns mainGlobals mg) (hb : s₁.heap.Ns builtinsNs mb) (hbb : ∀ x : Str, x ≠ "__name__" → mb x = bootBuiltins x) (hlim : s₁.heap.NoLimit) (hg : s₁.gens = #[])
  (ha : s₁.heap.get? a = some { cls := .type "list", data := .seq vs.toArray }) (hi : IntsAre vs ns) (hl : ns.length ≤ sizeLine) (hr : Room k callerA)
  (hT : PySem.W.TabsAt tabs s₁.heap) (hB : ∀ q ∈ tabs, s₁.heap.BuiltinsAt mg q.2) (hK : PySem.W.noTabs K = true)
  (F : ∀ base : Heap, K.In base → base.Ns mainGlobals mg → q1q mg base tabs → FnOk P w K mg base CX0 k fa fd [x] sp) (hbind : ∀ (s : Shared) (u : Value), BindsTo s fd ⟨[u], []⟩ [(x, u)])
  (hsp : ∀ H : Hp, (∀ q ∈ tabs, H q.2 = some (.tbl #[])) → SqL K H a (ns.map V.int) → sp [.ref a] H (fun v _ => v = .bl true) fun _ _ _ => False) :
  codeAny (model P w) callerA (.call (.ref fa) ⟨[.ref a], []⟩) (fun r s' => r = .ok (.ret (.bool true)) ∧ OldK s₁.heap s'.heap ∧ s'.os = s₁.os ∧ AllBare s'.gens) s₁ := by
 have rv := zgl hi
 have lenV := hi.length
 have tabK : ∀ q ∈ tabs, K.lookup q.2 = none := fun q hq => by
  cases e : K.lookup q.2 with
  | none => rfl
  | some o =>
   have h1 := KX _ _ e
   rw [(hT q hq).2] at h1
   cases h1
   have h2 := List.all_eq_true.mp hK (q.2, _) (PySem.W.mem_of_lookupK e)
   exact absurd (show false = true from h2) Bool.false_ne_true
 have aT : a ∉ tabs.map (·.2) := fun z => by
  obtain ⟨q, hq, e⟩ := List.mem_map.mp z
  have h1 := (hT q hq).2
  rw [e, ha] at h1
  cases h1
 have core : ∀ H : Hp, (∀ b, H b = none ∨ (∃ o xs, b = a ∧ H b = some (.frz o (.lst xs))) ∨ (b ∈ tabs.map (·.2) ∧ H b = some (.tbl #[]))) → (∀ q ∈ tabs, H q.2 = some (.tbl #[])) → SqL K H a (ns.map V.int) → HOk P w H s₁.heap → (H a ≠ none → K.lookup a = none) →
   codeAny (model P w) callerA (.call (.ref fa) ⟨[.ref a], []⟩) (fun r s' => r = .ok (.ret (.bool true)) ∧ OldK s₁.heap s'.heap ∧ s'.os = s₁.os ∧ AllBare s'.gens) s₁ := by
  intro H hO hTb hS hok hKa
  have base_of : ∀ {b : Addr} {o : Obj}, s₁.heap.get? b = some o → H b = none → (znq s₁.heap H).get? b = some o := fun e n => zox e n
  have tabO : ∀ {b : Addr}, b ∈ tabs.map (·.2) → s₁.heap.get? b = some (PySem.W.tabObj #[]) := fun {b} hb => by
   obtain ⟨q, hq, rfl⟩ := List.mem_map.mp hb
   exact (hT q hq).2
  have noA : ∀ {b : Addr} {o : Obj}, s₁.heap.get? b = some o → b ≠ a → b ∉ tabs.map (·.2) → H b = none := fun {b o} e n1 n2 => by
   rcases hO b with z | ⟨_, _, z, _⟩ | ⟨z, _⟩
   ·exact z
   ·exact absurd z n1
   ·exact absurd z n2
  have nsK : ∀ {b : Addr} {m : Str → Option Value}, s₁.heap.Ns b m → (znq s₁.heap H).Ns b m := fun {b m} ⟨o, es, ep, e, d, r⟩ => by
   refine ⟨o, es, ep, base_of e (noA e (fun z => ?_) fun z => ?_), d, r⟩
   ·rw [z, ha] at e; cases e; cases d
   ·rw [tabO z] at e; cases e; cases d
  have hKb : K.In (znq s₁.heap H) := fun b o e => base_of (KX b o e) (by
   rcases hO b with z | ⟨_, _, z, z2⟩ | ⟨z, _⟩
   ·exact z
   ·have := hKa (by rw [← z, z2]; simp)
    rw [z, this] at e
    cases e
   ·obtain ⟨q, hq, rfl⟩ := List.mem_map.mp z
    rw [tabK q hq] at e
    cases e)
  have hM : Mod K mg (znq s₁.heap H) := ⟨hKb, nsK hns, ⟨mb, nsK hb, hbb⟩, let ⟨mc, h1, h2⟩ := hlim; ⟨mc, nsK h1, h2⟩⟩
  have hTB : q1q mg (znq s₁.heap H) tabs := fun q hq => by
   obtain ⟨o, vs', file, tf, flags, tg, inF, text, tt, e1, r1, r2, r⟩ := (hT q hq).1
   obtain ⟨bm, ob, b1, b2, b3, b4, b5, b6, b7, b8⟩ := hB q hq
   refine ⟨⟨o, vs', file, tf, flags, tg, inF, text, tt, base_of e1 (noA e1 (fun z => ?_) fun z => ?_), r1, r2, r⟩, ⟨bm, ob, b1, b2, b3, b4, base_of b5 (noA b5 (fun z => ?_) fun z => ?_), b6, b7, b8⟩, fun z => ?_⟩
   ·rw [z, ha] at e1; cases e1; exact absurd (show Value.type "list" = Value.type "code" from r1) (by simp)
   ·rw [tabO z] at e1; cases e1; cases r1
   ·rw [z, ha] at b5; cases b5; exact absurd (show Value.type "list" = Value.type "module" from b6) (by simp)
   ·rw [tabO z] at b5; cases b5; cases b6
   ·obtain ⟨o', es, ep, e', d, _⟩ := hns
    rw [z, (hT q hq).2] at e'
    cases e'
    cases d
  have e0 : Env0 P w K mg (znq s₁.heap H) callerA [] s₁ H := ⟨rfl, hM, fun b o e => zs7 e, Nat.le_of_eq (zln _ _), trivial, fun b hb => absurd (show b ∈ ([] : List Addr) from hb) (by simp), hok, .of_eq hg⟩
  refine codeAny_mono ((F _ hKb (nsK hns) hTB).run callerA [] s₁ H ⟨[.ref a], []⟩ [.ref a] [.ref a] _ _ hr e0 (hbind s₁ (.ref a)) (.cons rfl .nil) (hsp H hTb hS)) fun r s' h => ?_
  cases r with
  | error e => exact False.elim h
  | ok fl =>
   cases fl with
   | next => exact False.elim h
   | brk => exact False.elim h
   | cont => exact False.elim h
   | ret u =>
    obtain ⟨v, H', os, bare, un, hok', r', q⟩ := h
    have q' : v = .bl true := q
    subst q'
    obtain rfl : u = Value.bool true := r'
    refine ⟨rfl, ⟨fun b o e => ?_, fun b o e => un.there b o e (by simp)⟩, os, bare⟩
    rcases hO b with z | ⟨ob, xs, _, z⟩ | ⟨hb, z⟩
    ·exact .inl (un.keep b o e z (by intro z; exact absurd (show b ∈ ([] : List Addr) from z) (by simp)) (by simp))
    ·have z2 := un.frzs b ob _ z
     obtain ⟨e1, _⟩ := hok b _ z
     obtain ⟨e2, _⟩ := hok' b _ z2
     rw [e] at e1; cases e1
     exact .inl e2
    ·obtain ⟨more, z2⟩ := un.tbls b _ z
     have e2 : s'.heap.get? b = some { cls := .none, data := .fields (#[] ++ more) } := hok' b _ z2
     rw [tabO hb] at e
     cases e
     obtain ⟨q, hq, rfl⟩ := List.mem_map.mp hb
     exact .inr (.inl ⟨((hT q hq).1.tab (hT q hq).2).isCodeTable, rfl, #[], more, rfl, e2⟩)
 have tin : ∀ q ∈ tabs, q.2 ∈ tabs.map (·.2) := fun q hq => List.mem_map.mpr ⟨q, hq, rfl⟩
 cases hk : K.lookup a with
 | some o =>
  have e := KX a o hk
  rw [ha] at e
  cases e
  refine core (fun b => if b ∈ tabs.map (·.2) then some (.tbl #[]) else none) (fun b => ?_) (fun q hq => if_pos (tin q hq)) (.inr ⟨_, vs.toArray, _, hk, rfl, rfl, rfl, by rw [List.size_toArray, lenV]; exact hl, by simpa using rv⟩) (fun b u z => ?_) fun z => absurd (if_neg aT) z
  ·by_cases hb : b ∈ tabs.map (·.2)
   ·exact .inr (.inr ⟨hb, if_pos hb⟩)
   ·exact .inl (if_neg hb)
  ·by_cases hb : b ∈ tabs.map (·.2)
   ·have z' := (if_pos hb).symm.trans z
    cases z'
    obtain ⟨q, hq, rfl⟩ := List.mem_map.mp hb
    exact (hT q hq).2
   ·have z' := (if_neg hb).symm.trans z
    cases z'
 | none =>
  refine core (fun b => if b ∈ tabs.map (·.2) then some (.tbl #[]) else if b = a then some (.frz { cls := .type "list", data := .seq vs.toArray } (.lst (ns.map V.int))) else none) (fun b => ?_) (fun q hq => if_pos (tin q hq)) (.inl (.inr ⟨{ cls := .type "list", data := .seq vs.toArray }, (if_neg aT).trans (if_pos rfl)⟩)) (fun b u z => ?_) fun _ => hk
  ·by_cases hb : b ∈ tabs.map (·.2)
   ·exact .inr (.inr ⟨hb, if_pos hb⟩)
   ·by_cases hba : b = a
    ·exact .inr (.inl ⟨_, _, hba, (if_neg hb).trans (if_pos hba)⟩)
    ·exact .inl ((if_neg hb).trans (if_neg hba))
  ·by_cases hb : b ∈ tabs.map (·.2)
   ·have z' := (if_pos hb).symm.trans z
    cases z'
    obtain ⟨q, hq, rfl⟩ := List.mem_map.mp hb
    exact (hT q hq).2
   ·have z1 := (if_neg hb).symm.trans z
    by_cases hba : b = a
    ·have z' := (if_pos hba).symm.trans z1
     cases z'
     subst hba
     exact ⟨ha, by rw [List.length_map]; exact hl, vs, _, rv, ha⟩
    ·have z' := (if_neg hba).symm.trans z1
     cases z'
theorem zu5 {l : PySem.W.OpenLaw} {n k : Nat} {q : Program} {loose : List Str} {XP : (Str → Option Value) → Heap → Prop} {YP : World → Heap → Prop} {d : DefRec} {K : Params → PySem.W.Frag} {sp : World → Sp} {x : Str} {tabs : List (Str × Addr × Addr)}
  (hn : l.most = some n) (hn2 : n ≤ sizeLine) (hdf : d.params.defaults = []) (hr : Room k callerA)
  (hY : ∀ (w : World) (h : Heap), YP w h → (K w.params).In h)
  (hK : ∀ w : World, PySem.W.noTabs (K w.params) = true) (hrec : ∀ t ∈ tabs, ∃ e, (recsOf q).find? (fun e => e.name == t.1) = some e) (htab : ∀ (w : World), ∀ t ∈ tabs, PySem.W.tabIn (K w.params) t.1 = some (t.2.1, t.2.2))
  (F : ∀ (w : World) (mg : Str → Option Value) (fa : Addr) (h : Heap), (K w.params).In h → h.Ns mainGlobals mg → mg d.name = some (.ref fa) →
   ∃ fd : FuncData, (∀ (s : Shared) (u : Value), BindsTo s fd ⟨[u], []⟩ [(x, u)]) ∧
    ∀ base : Heap, (K w.params).In base → base.Ns mainGlobals mg → q1q mg base (tabs.map (·.2)) → FnOk l.prog w (K w.params) mg base CX0 k fa fd [x] (sp w))
  (hsp : ∀ (w : World) (H : Hp) (a : Addr) (ns : List Int), ns.length ≤ n → (∀ q ∈ tabs.map (·.2), H q.2 = some (.tbl #[])) → SqL (K w.params) H a (ns.map V.int) → sp w [.ref a] H (fun v _ => v = .bl true) fun _ _ _ => False) :
  PySem.W.WalkO q loose XP YP l.row.toRowW d [] (fun f vs => PySem.call f vs) := by
 refine Att.zhy hn hdf fun w s₀ s₁ mg mb fa o pm cd doc a vs ns G Y ho hd hcd hmg hobj hints hlen hg => ?_
 have KX := hY w _ Y
 obtain ⟨fd, hb, hF⟩ := F w mg fa _ KX G.T.g hmg
 have hT : PySem.W.TabsAt (tabs.map (·.2)) s₁.heap := fun t ht => by
  obtain ⟨t', ht', rfl⟩ := List.mem_map.mp ht
  obtain ⟨e, he⟩ := hrec t' ht'
  exact PySem.W.tab_of G.T KX he (htab w t' ht')
 refine zsh KX G.T.g G.T.b G.T.builtins G.T.nolimit hg hobj hints (Nat.le_trans hlen hn2) hr hT (fun t ht => ?_) (hK w) hF hb fun H hO hS => hsp w H a ns hlen hO hS
 obtain ⟨bm, ob, b1, b2, b3, b4, b5, b6⟩ := G.T.bmain
 refine ⟨bm, ob, b1, b2, fun z => ?_, fun z => ?_, b3, b4, b5, b6⟩
 ·obtain ⟨o', es, ep, e', hd', _⟩ := G.T.g
  rw [z, e'] at b3
  cases b3
  rw [hd'] at b6
  cases b6
 ·rw [z, (hT t ht).2] at b3
  cases b3
  cases b4
theorem zvf {K : PySem.W.Frag} {a b : Addr} {xs ys : List V} {g : TG} {tb : TS} {D : Ends} {σ : St} {H : Hp} (hxy : xs.length = ys.length) (Pv : Nat → St → Hp → Prop) (h0 : Pv 0 σ H) (hl : ∀ i σ H, i ≤ xs.length → Pv i σ H → SqT K H a xs ∧ SqT K H b ys)
  (hs : ∀ i x y σ H T, xs[i]? = some x → ys[i]? = some y → Pv i σ H → H T = none → g (.ref T) σ (upd H T (.tup [x, y])) fun σ2 H2 => tb { D with nx := Pv (i + 1), ct := Pv (i + 1), bk := D.nx } σ2 H2) (hd : ∀ σ H, Pv xs.length σ H → D.nx σ H) :
  ∃ W : Nat → Nat → St → Hp → Prop, (∃ m, W 0 m σ H) ∧ ∀ i m σ H, W i m σ H →
   ((zyy K a b).stop i H ∧ D.nx σ H) ∨ ((zyy K a b).go i H ∧ ∃ N : St → Hp → Prop, (∀ σ' H', N σ' H' → ∃ m', m' < m ∧ W (i + 1) m' σ' H') ∧ ∀ x H', (zyy K a b).yld i H x H' → g x σ H' fun σ2 H2 => tb { D with nx := N, ct := N, bk := D.nx } σ2 H2) := by
 refine ⟨fun i m σ H => m = xs.length - i ∧ i ≤ xs.length ∧ Pv i σ H, ⟨xs.length, by simp, Nat.zero_le _, h0⟩, ?_⟩
 rintro i m σ H ⟨rfl, hi, p⟩
 have q := hl i σ H hi p
 by_cases hlt : i < xs.length
 ·refine .inr ⟨⟨xs, ys, xs[i], ys[i]'(by omega), q.1, q.2, by simp [hlt], by simp⟩, Pv (i + 1), fun σ' H' p' => ⟨xs.length - (i + 1), by omega, rfl, hlt, p'⟩, fun x H' y => ?_⟩
  obtain ⟨T, u, v, rfl, hT, rfl, y1, y2⟩ := y
  exact hs i u v σ H T (y1 xs q.1) (y2 ys q.2) p hT
 ·have e : i = xs.length := by omega
  subst e
  exact .inl ⟨⟨xs, ys, q.1, q.2, .inl (Nat.le_refl _)⟩, hd σ H p⟩
end L2
set_option maxHeartbeats 0
namespace SR
open PySem L2
abbrev CDF (x : Str) : Prop := (x == ("__classdict__" : Str)) = false
abbrev DBF (x : Str) : Prop := (x == ("__debug__" : Str)) = false
abbrev GLF (s : Stmt) (x : Str) : Prop := (defScope s).names.lookup x = some NameKind.globalImplicit
def top (i : Nat) : Stmt := PySem.Challenge.pw_smallrooms_k74_whole_peeled.main.body.getD i (.Pass ⟨0, 0, 0, 0⟩)
theorem zyr : bootBuiltins "bool" = some (.type "bool") := by decide +kernel
theorem zyq : bootBuiltins "dict" = some (.type "dict") := by decide +kernel
theorem q1i : bootBuiltins "int" = some (.type "int") := by decide +kernel
theorem za2 : bootBuiltins "isinstance" = some (.builtin "isinstance") := by decide +kernel
theorem zef : bootBuiltins "len" = some (.builtin "len") := by decide +kernel
theorem q1h : bootBuiltins "max" = some (.builtin "max") := by decide +kernel
theorem q1g : bootBuiltins "min" = some (.builtin "min") := by decide +kernel
theorem ztr : bootBuiltins "sorted" = some (.builtin "sorted") := by decide +kernel
theorem zee : bootBuiltins "tuple" = some (.type "tuple") := by decide +kernel
theorem z0l : CDF "_law_at_here" := by decide +kernel
theorem z3i : CDF "_law_base" := by decide +kernel
theorem z4c : CDF "_law_block_here" := by decide +kernel
theorem zbb : CDF "_law_body" := by decide +kernel
theorem z1q : CDF "_law_deed" := by decide +kernel
theorem z6u : CDF "_law_deeds" := by decide +kernel
theorem z2q : CDF "_law_deep" := by decide +kernel
theorem za1 : CDF "_law_drawn" := by decide +kernel
theorem zed : CDF "_law_first" := by decide +kernel
theorem zmf : CDF "_law_goal" := by decide +kernel
theorem zme : CDF "_law_high" := by decide +kernel
theorem zk9 : CDF "_law_inner" := by decide +kernel
theorem zd1 : CDF "_law_ins" := by decide +kernel
theorem z4v : CDF "_law_k" := by decide +kernel
theorem z11 : CDF "_law_known" := by decide +kernel
theorem zc6 : CDF "_law_longer" := by decide +kernel
theorem zd0 : CDF "_law_low" := by decide +kernel
theorem zfr : CDF "_law_made" := by decide +kernel
theorem zmd : CDF "_law_many" := by decide +kernel
theorem zmc : CDF "_law_mine" := by decide +kernel
theorem zmb : CDF "_law_more" := by decide +kernel
theorem zba : CDF "_law_most" := by decide +kernel
theorem z65 : CDF "_law_name" := by decide +kernel
theorem zo2 : CDF "_law_new" := by decide +kernel
theorem z5r : CDF "_law_old" := by decide +kernel
theorem z7f : CDF "_law_one" := by decide +kernel
theorem z1p : CDF "_law_path" := by decide +kernel
theorem za0 : CDF "_law_paths" := by decide +kernel
theorem z0n : CDF "_law_program_here" := by decide +kernel
theorem zcz : CDF "_law_row" := by decide +kernel
theorem z0a : CDF "_law_script" := by decide +kernel
theorem zc5 : CDF "_law_second" := by decide +kernel
theorem zb9 : CDF "_law_told" := by decide +kernel
theorem zcy : CDF "_law_way" := by decide +kernel
theorem zk8 : CDF "_law_words" := by decide +kernel
theorem zk7 : CDF "_law_worth" := by decide +kernel
theorem z4u : CDF "_law_worths" := by decide +kernel
theorem zk6 : CDF "_law_yours" := by decide +kernel
theorem zyo : CDF "at" := by decide +kernel
theorem zgg : CDF "block" := by decide +kernel
theorem zec : CDF "blocks" := by decide +kernel
theorem z18 : CDF "deed" := by decide +kernel
theorem z64 : CDF "deed_path" := by decide +kernel
theorem ztn : CDF "done" := by decide +kernel
theorem zeb : CDF "had" := by decide +kernel
theorem zyn : CDF "high" := by decide +kernel
theorem zvr : CDF "inner" := by decide +kernel
theorem zwl : CDF "ins" := by decide +kernel
theorem q1d : CDF "low" := by decide +kernel
theorem zym : CDF "many" := by decide +kernel
theorem z2y : CDF "names" := by decide +kernel
theorem zma : CDF "number" := by decide +kernel
theorem zb8 : CDF "one" := by decide +kernel
theorem z3t : CDF "other" := by decide +kernel
theorem z22 : CDF "path" := by decide +kernel
theorem z41 : CDF "program" := by decide +kernel
theorem z6x : CDF "refusal" := by decide +kernel
theorem zyl : CDF "rest" := by decide +kernel
theorem ztm : CDF "row" := by decide +kernel
theorem zfg : CDF "rows" := by decide +kernel
theorem z2i : CDF "settle" := by decide +kernel
theorem z7e : CDF "term" := by decide +kernel
theorem z9z : CDF "thing" := by decide +kernel
theorem zcx : CDF "word" := by decide +kernel
theorem z6t : CDF "worth" := by decide +kernel
theorem zb7 : CDF "worths" := by decide +kernel
theorem zt9 : DBF "WIDE" := by decide +kernel
theorem zea : DBF "_law_all_worths" := by decide +kernel
theorem zis : DBF "_law_at" := by decide +kernel
theorem z0k : DBF "_law_at_here" := by decide +kernel
theorem z3h : DBF "_law_base" := by decide +kernel
theorem z6s : DBF "_law_block" := by decide +kernel
theorem z4b : DBF "_law_block_here" := by decide +kernel
theorem zb6 : DBF "_law_body" := by decide +kernel
theorem zm7 : DBF "_law_cell" := by decide +kernel
theorem zhu : DBF "_law_counted" := by decide +kernel
theorem z1o : DBF "_law_deed" := by decide +kernel
theorem z6r : DBF "_law_deeds" := by decide +kernel
theorem z2p : DBF "_law_deep" := by decide +kernel
theorem z9w : DBF "_law_drawn" := by decide +kernel
theorem ze9 : DBF "_law_first" := by decide +kernel
theorem zm6 : DBF "_law_goal" := by decide +kernel
theorem zm5 : DBF "_law_high" := by decide +kernel
theorem zk3 : DBF "_law_inner" := by decide +kernel
theorem zct : DBF "_law_ins" := by decide +kernel
theorem z4t : DBF "_law_k" := by decide +kernel
theorem z10 : DBF "_law_known" := by decide +kernel
theorem zc4 : DBF "_law_longer" := by decide +kernel
theorem zcs : DBF "_law_low" := by decide +kernel
theorem zfq : DBF "_law_made" := by decide +kernel
theorem zm4 : DBF "_law_many" := by decide +kernel
theorem zm3 : DBF "_law_mine" := by decide +kernel
theorem zm2 : DBF "_law_more" := by decide +kernel
theorem zb5 : DBF "_law_most" := by decide +kernel
theorem z62 : DBF "_law_name" := by decide +kernel
theorem zny : DBF "_law_new" := by decide +kernel
theorem z5q : DBF "_law_old" := by decide +kernel
theorem z7d : DBF "_law_one" := by decide +kernel
theorem z1n : DBF "_law_path" := by decide +kernel
theorem z9v : DBF "_law_paths" := by decide +kernel
theorem z1b : DBF "_law_pick" := by decide +kernel
theorem zht : DBF "_law_program" := by decide +kernel
theorem z0m : DBF "_law_program_here" := by decide +kernel
theorem zcr : DBF "_law_row" := by decide +kernel
theorem z09 : DBF "_law_script" := by decide +kernel
theorem zc3 : DBF "_law_second" := by decide +kernel
theorem z7c : DBF "_law_sum" := by decide +kernel
theorem zb4 : DBF "_law_told" := by decide +kernel
theorem zcq : DBF "_law_way" := by decide +kernel
theorem db__law_with : DBF "_law_with" := by decide +kernel
theorem zk2 : DBF "_law_words" := by decide +kernel
theorem zk1 : DBF "_law_worth" := by decide +kernel
theorem z4s : DBF "_law_worths" := by decide +kernel
theorem zk0 : DBF "_law_yours" := by decide +kernel
theorem zfp : DBF "all_deeds" := by decide +kernel
theorem zyj : DBF "at" := by decide +kernel
theorem zgf : DBF "block" := by decide +kernel
theorem db_block_with : DBF "block_with" := by decide +kernel
theorem ze8 : DBF "blocks" := by decide +kernel
theorem zfo : DBF "blocks_of" := by decide +kernel
theorem zyi : DBF "bool" := by decide +kernel
theorem z17 : DBF "deed" := by decide +kernel
theorem zqd : DBF "deed_or" := by decide +kernel
theorem z61 : DBF "deed_path" := by decide +kernel
theorem db_deed_with : DBF "deed_with" := by decide +kernel
theorem z8z : DBF "deeds_of_block" := by decide +kernel
theorem zyh : DBF "dict" := by decide +kernel
theorem z9u : DBF "do_block" := by decide +kernel
theorem zqc : DBF "do_deed" := by decide +kernel
theorem zvn : DBF "do_if" := by decide +kernel
theorem zt8 : DBF "do_set" := by decide +kernel
theorem znx : DBF "do_while" := by decide +kernel
theorem zt7 : DBF "done" := by decide +kernel
theorem ze7 : DBF "had" := by decide +kernel
theorem zyg : DBF "high" := by decide +kernel
theorem zvm : DBF "inner" := by decide +kernel
theorem zwj : DBF "ins" := by decide +kernel
theorem q19 : DBF "int" := by decide +kernel
theorem zia : DBF "is_tuple_of" := by decide +kernel
theorem znw : DBF "is_whole" := by decide +kernel
theorem zg8 : DBF "is_whole_from" := by decide +kernel
theorem z9t : DBF "isinstance" := by decide +kernel
theorem ze6 : DBF "len" := by decide +kernel
theorem q18 : DBF "low" := by decide +kernel
theorem zyf : DBF "many" := by decide +kernel
theorem q17 : DBF "max" := by decide +kernel
theorem q16 : DBF "min" := by decide +kernel
theorem z2x : DBF "names" := by decide +kernel
theorem zfd : DBF "names_at_first" := by decide +kernel
theorem zm1 : DBF "number" := by decide +kernel
theorem zb3 : DBF "one" := by decide +kernel
theorem z3s : DBF "other" := by decide +kernel
theorem z21 : DBF "path" := by decide +kernel
theorem zhs : DBF "peeled" := by decide +kernel
theorem z40 : DBF "program" := by decide +kernel
theorem zb2 : DBF "reckon" := by decide +kernel
theorem z6w : DBF "refusal" := by decide +kernel
theorem zye : DBF "rest" := by decide +kernel
theorem zfc : DBF "round_and_rest" := by decide +kernel
theorem zt6 : DBF "row" := by decide +kernel
theorem zfb : DBF "rows" := by decide +kernel
theorem zwi : DBF "run" := by decide +kernel
theorem zm0 : DBF "run_by" := by decide +kernel
theorem z2h : DBF "settle" := by decide +kernel
theorem zt5 : DBF "sorted" := by decide +kernel
theorem z7b : DBF "term" := by decide +kernel
theorem zqb : DBF "term_of" := by decide +kernel
theorem z9s : DBF "thing" := by decide +kernel
theorem zlz : DBF "traced" := by decide +kernel
theorem ze5 : DBF "tuple" := by decide +kernel
theorem zt4 : DBF "whiles" := by decide +kernel
theorem zcp : DBF "word" := by decide +kernel
theorem z6q : DBF "worth" := by decide +kernel
theorem znv : DBF "worth_of" := by decide +kernel
theorem zb1 : DBF "worths" := by decide +kernel
theorem zxr : ("bool" : Str) ≠ "__name__" := by decide +kernel
theorem zxq : ("dict" : Str) ≠ "__name__" := by decide +kernel
theorem q0f : ("int" : Str) ≠ "__name__" := by decide +kernel
theorem z9d : ("isinstance" : Str) ≠ "__name__" := by decide +kernel
theorem zdk : ("len" : Str) ≠ "__name__" := by decide +kernel
theorem q0e : ("max" : Str) ≠ "__name__" := by decide +kernel
theorem q0d : ("min" : Str) ≠ "__name__" := by decide +kernel
theorem zs9 : ("sorted" : Str) ≠ "__name__" := by decide +kernel
theorem zdj : ("tuple" : Str) ≠ "__name__" := by decide +kernel
abbrev z6j : Stmt := top 2
theorem zra : FnScope ["program"] ["program"] (defScope z6j) := ⟨rfl, rfl, rfl, by decide +kernel, rfl, by decide +kernel, by decide +kernel⟩
theorem zcg : GLF z6j "all_deeds" := by decide +kernel
theorem zd2 : Vis (defScope z6j) "program" := Or.inl (by decide +kernel)
abbrev z3e : Stmt := top 3
theorem zn0 : FnScope ["thing"] ["thing"] (defScope z3e) := ⟨rfl, rfl, rfl, by decide +kernel, rfl, by decide +kernel, by decide +kernel⟩
theorem zg5 : GLF z3e "bool" := by decide +kernel
theorem zhj : GLF z3e "int" := by decide +kernel
theorem z5i : GLF z3e "isinstance" := by decide +kernel
theorem z7j : Vis (defScope z3e) "thing" := Or.inl (by decide +kernel)
abbrev z1j : Stmt := top 4
theorem zfw : FnScope ["thing", "low", "high"] ["thing", "low", "high"] (defScope z1j) := ⟨rfl, rfl, rfl, by decide +kernel, rfl, by decide +kernel, by decide +kernel⟩
theorem z8a : GLF z1j "is_whole" := by decide +kernel
theorem zab : Vis (defScope z1j) "high" := Or.inl (by decide +kernel)
theorem zak : Vis (defScope z1j) "low" := Or.inl (by decide +kernel)
theorem z3m : Vis (defScope z1j) "thing" := Or.inl (by decide +kernel)
abbrev z1s : Stmt := top 5
theorem zi2 : FnScope ["thing", "many"] ["thing", "many"] (defScope z1s) := ⟨rfl, rfl, rfl, by decide +kernel, rfl, by decide +kernel, by decide +kernel⟩
theorem z8b : GLF z1s "isinstance" := by decide +kernel
theorem zdy : GLF z1s "len" := by decide +kernel
theorem zbv : GLF z1s "tuple" := by decide +kernel
theorem zbk : Vis (defScope z1s) "many" := Or.inl (by decide +kernel)
theorem z5s : Vis (defScope z1s) "thing" := Or.inl (by decide +kernel)
abbrev z5u : Stmt := top 6
theorem zpi : FnScope ["deed"] ["deed"] (defScope z5u) := ⟨rfl, rfl, rfl, by decide +kernel, rfl, by decide +kernel, by decide +kernel⟩
theorem z66 : Vis (defScope z5u) "deed" := Or.inl (by decide +kernel)
abbrev z4f : Stmt := top 7
theorem zkv : FnScope ["deed"] ["deed"] (defScope z4f) := ⟨rfl, rfl, rfl, by decide +kernel, rfl, by decide +kernel, by decide +kernel⟩
theorem z31 : Vis (defScope z4f) "deed" := Or.inl (by decide +kernel)
abbrev z36 : Stmt := top 8
theorem zku : FnScope ["deed", "term", "blocks"] ["deed", "term", "blocks"] (defScope z36) := ⟨rfl, rfl, rfl, by decide +kernel, rfl, by decide +kernel, by decide +kernel⟩
theorem z4l : Vis (defScope z36) "blocks" := Or.inl (by decide +kernel)
theorem z49 : Vis (defScope z36) "deed" := Or.inl (by decide +kernel)
theorem z58 : Vis (defScope z36) "term" := Or.inl (by decide +kernel)
abbrev z3q : Stmt := top 9
theorem zkw : FnScope ["program"] ["program"] (defScope z3q) := ⟨rfl, rfl, rfl, by decide +kernel, rfl, by decide +kernel, by decide +kernel⟩
theorem z7a : GLF z3q "deeds_of_block" := by decide +kernel
theorem zao : Vis (defScope z3q) "program" := Or.inl (by decide +kernel)
abbrev z0b : Stmt := top 10
theorem sc_deeds_of_block : FnScope ["block", "path", "rows", "at", "deed", "deed_path", "number", "inner"] ["block", "path"] (defScope z0b) := ⟨rfl, rfl, rfl, by decide +kernel, rfl, by decide +kernel, by decide +kernel⟩
theorem z79 : GLF z0b "blocks_of" := by decide +kernel
theorem z5e : GLF z0b "deeds_of_block" := by decide +kernel
theorem z78 : GLF z0b "enumerate" := by decide +kernel
theorem zau : Loc (defScope z0b) "at" := Or.inl (by decide +kernel)
theorem z9l : Loc (defScope z0b) "deed" := Or.inl (by decide +kernel)
theorem z6n : Loc (defScope z0b) "deed_path" := Or.inl (by decide +kernel)
theorem z8v : Loc (defScope z0b) "inner" := Or.inl (by decide +kernel)
theorem z87 : Loc (defScope z0b) "number" := Or.inl (by decide +kernel)
theorem z9k : Loc (defScope z0b) "rows" := Or.inl (by decide +kernel)
theorem zam : Vis (defScope z0b) "at" := Or.inl (by decide +kernel)
theorem z8i : Vis (defScope z0b) "block" := Or.inl (by decide +kernel)
theorem z57 : Vis (defScope z0b) "deed" := Or.inl (by decide +kernel)
theorem z48 : Vis (defScope z0b) "deed_path" := Or.inl (by decide +kernel)
theorem z8h : Vis (defScope z0b) "inner" := Or.inl (by decide +kernel)
theorem z7y : Vis (defScope z0b) "number" := Or.inl (by decide +kernel)
theorem z96 : Vis (defScope z0b) "path" := Or.inl (by decide +kernel)
theorem z3n : Vis (defScope z0b) "rows" := Or.inl (by decide +kernel)
abbrev z3o : Stmt := top 12
theorem sc_peeled : FnScope ["program", "path", "deed"] ["program", "path"] (defScope z3o) := ⟨rfl, rfl, rfl, by decide +kernel, rfl, by decide +kernel, by decide +kernel⟩
theorem zch : GLF z3o "all_deeds" := by decide +kernel
theorem zbs : GLF z3o "block_with" := by decide +kernel
theorem zi6 : GLF z3o "dict" := by decide +kernel
theorem z8x : GLF z3o "round_and_rest" := by decide +kernel
theorem zh8 : Loc (defScope z3o) "deed" := Or.inl (by decide +kernel)
theorem z53 : Vis (defScope z3o) "deed" := Or.inl (by decide +kernel)
theorem zai : Vis (defScope z3o) "path" := Or.inl (by decide +kernel)
theorem z46 : Vis (defScope z3o) "program" := Or.inl (by decide +kernel)
abbrev z1k : Stmt := top 13
theorem sc_round_and_rest : FnScope ["deed", "rest"] ["deed"] (defScope z1k) := ⟨rfl, rfl, rfl, by decide +kernel, rfl, by decide +kernel, by decide +kernel⟩
theorem z9e : Loc (defScope z1k) "rest" := Or.inl (by decide +kernel)
theorem z1y : Vis (defScope z1k) "deed" := Or.inl (by decide +kernel)
theorem z92 : Vis (defScope z1k) "rest" := Or.inl (by decide +kernel)
abbrev z2e : Stmt := top 14
theorem zj6 : FnScope ["block", "path", "deed_path", "other"] ["block", "path", "deed_path", "other"] (defScope z2e) := ⟨rfl, rfl, rfl, by decide +kernel, rfl, by decide +kernel, by decide +kernel⟩
theorem z9r : GLF z2e "enumerate" := by decide +kernel
theorem zcl : GLF z2e "tuple" := by decide +kernel
theorem zbl : Vis (defScope z2e) "block" := Or.inl (by decide +kernel)
abbrev z2d : Stmt := top 15
theorem sc_deed_or : FnScope ["deed", "path", "deed_path", "other", "blocks"] ["deed", "path", "deed_path", "other"] (defScope z2d) := ⟨rfl, rfl, rfl, by decide +kernel, rfl, by decide +kernel, by decide +kernel⟩
theorem zby : GLF z2d "blocks_of" := by decide +kernel
theorem zbx : GLF z2d "deed_with" := by decide +kernel
theorem ze0 : GLF z2d "term_of" := by decide +kernel
theorem zdp : Loc (defScope z2d) "blocks" := Or.inl (by decide +kernel)
theorem zd7 : Vis (defScope z2d) "blocks" := Or.inl (by decide +kernel)
theorem z6c : Vis (defScope z2d) "deed" := Or.inl (by decide +kernel)
theorem zan : Vis (defScope z2d) "deed_path" := Or.inr <| Or.inl (by decide +kernel)
theorem zeo : Vis (defScope z2d) "other" := Or.inr <| Or.inl (by decide +kernel)
theorem zfv : Vis (defScope z2d) "path" := Or.inr <| Or.inl (by decide +kernel)
abbrev zew : Stmt := top 20
theorem zzm : FnScope ["program", "worths"] ["program", "worths"] (defScope zew) := ⟨rfl, rfl, rfl, by decide +kernel, rfl, by decide +kernel, by decide +kernel⟩
theorem zjs : GLF zew "run_by" := by decide +kernel
theorem zgi : Vis (defScope zew) "program" := Or.inl (by decide +kernel)
theorem zi1 : Vis (defScope zew) "worths" := Or.inl (by decide +kernel)
abbrev z32 : Stmt := top 21
theorem sc_traced : FnScope ["program", "worths", "rows"] ["program", "worths"] (defScope z32) := ⟨rfl, rfl, rfl, by decide +kernel, rfl, by decide +kernel, by decide +kernel⟩
theorem zga : (defScope z32).names.lookup ("rows" : Str) = some NameKind.cell := by decide +kernel
theorem zg1 : GLF z32 "run_by" := by decide +kernel
theorem zh7 : Loc (defScope z32) "rows" := Or.inr (by decide +kernel)
theorem zd3 : Vis (defScope z32) "program" := Or.inl (by decide +kernel)
theorem zgh : Vis (defScope z32) "rows" := Or.inr <| Or.inl (by decide +kernel)
theorem zei : Vis (defScope z32) "worths" := Or.inl (by decide +kernel)
abbrev z2u : Stmt := top 22
theorem sc_run_by : FnScope ["program", "worths", "settle", "names", "refusal"] ["program", "worths", "settle"] (defScope z2u) := ⟨rfl, rfl, rfl, by decide +kernel, rfl, by decide +kernel, by decide +kernel⟩
theorem zds : GLF z2u "do_block" := by decide +kernel
theorem z8w : GLF z2u "names_at_first" := by decide +kernel
theorem zg2 : GLF z2u "sorted" := by decide +kernel
theorem zhh : GLF z2u "tuple" := by decide +kernel
theorem zfy : Loc (defScope z2u) "names" := Or.inl (by decide +kernel)
theorem zdm : Loc (defScope z2u) "refusal" := Or.inl (by decide +kernel)
theorem za4 : Vis (defScope z2u) "names" := Or.inl (by decide +kernel)
theorem z7i : Vis (defScope z2u) "program" := Or.inl (by decide +kernel)
theorem z7h : Vis (defScope z2u) "refusal" := Or.inl (by decide +kernel)
theorem zek : Vis (defScope z2u) "settle" := Or.inl (by decide +kernel)
theorem zej : Vis (defScope z2u) "worths" := Or.inl (by decide +kernel)
abbrev z4e : Stmt := top 23
theorem zpj : FnScope ["worth", "path", "rows"] ["worth", "path", "rows"] (defScope z4e) := ⟨rfl, rfl, rfl, by decide +kernel, rfl, by decide +kernel, by decide +kernel⟩
theorem zav : GLF z4e "WIDE" := by decide +kernel
theorem z67 : Vis (defScope z4e) "path" := Or.inl (by decide +kernel)
theorem zft : Vis (defScope z4e) "rows" := Or.inl (by decide +kernel)
theorem z3b : Vis (defScope z4e) "worth" := Or.inl (by decide +kernel)
abbrev z0g : Stmt := top 24
theorem sc_names_at_first : FnScope ["ins", "worths", "names", "row", "worth"] ["ins", "worths"] (defScope z0g) := ⟨rfl, rfl, rfl, by decide +kernel, rfl, by decide +kernel, by decide +kernel⟩
theorem z6d : GLF z0g "is_tuple_of" := by decide +kernel
theorem z5p : GLF z0g "is_whole_from" := by decide +kernel
theorem zax : GLF z0g "len" := by decide +kernel
theorem zaw : GLF z0g "zip" := by decide +kernel
theorem z8o : Loc (defScope z0g) "names" := Or.inl (by decide +kernel)
theorem zac : Loc (defScope z0g) "row" := Or.inl (by decide +kernel)
theorem z8n : Loc (defScope z0g) "worth" := Or.inl (by decide +kernel)
theorem z5f : Vis (defScope z0g) "ins" := Or.inl (by decide +kernel)
theorem z4z : Vis (defScope z0g) "names" := Or.inl (by decide +kernel)
theorem z42 : Vis (defScope z0g) "row" := Or.inl (by decide +kernel)
theorem z4y : Vis (defScope z0g) "worth" := Or.inl (by decide +kernel)
theorem z4n : Vis (defScope z0g) "worths" := Or.inl (by decide +kernel)
abbrev z1i : Stmt := top 25
theorem sc_do_block : FnScope ["block", "path", "names", "settle", "at", "deed", "refusal"] ["block", "path", "names", "settle"] (defScope z1i) := ⟨rfl, rfl, rfl, by decide +kernel, rfl, by decide +kernel, by decide +kernel⟩
theorem zck : GLF z1i "do_deed" := by decide +kernel
theorem zb0 : GLF z1i "enumerate" := by decide +kernel
theorem zh9 : Loc (defScope z1i) "at" := Or.inl (by decide +kernel)
theorem zf5 : Loc (defScope z1i) "deed" := Or.inl (by decide +kernel)
theorem zbr : Loc (defScope z1i) "refusal" := Or.inl (by decide +kernel)
theorem zgk : Vis (defScope z1i) "at" := Or.inl (by decide +kernel)
theorem zd6 : Vis (defScope z1i) "block" := Or.inl (by decide +kernel)
theorem zen : Vis (defScope z1i) "deed" := Or.inl (by decide +kernel)
theorem zd5 : Vis (defScope z1i) "names" := Or.inl (by decide +kernel)
theorem zem : Vis (defScope z1i) "path" := Or.inl (by decide +kernel)
theorem z6g : Vis (defScope z1i) "refusal" := Or.inl (by decide +kernel)
theorem zc8 : Vis (defScope z1i) "settle" := Or.inl (by decide +kernel)
abbrev z2t : Stmt := top 26
theorem zpk : FnScope ["deed", "path", "names", "settle"] ["deed", "path", "names", "settle"] (defScope z2t) := ⟨rfl, rfl, rfl, by decide +kernel, rfl, by decide +kernel, by decide +kernel⟩
theorem zg7 : GLF z2t "do_if" := by decide +kernel
theorem zf9 : GLF z2t "do_set" := by decide +kernel
theorem zcj : GLF z2t "do_while" := by decide +kernel
theorem z3v : Vis (defScope z2t) "deed" := Or.inl (by decide +kernel)
theorem z5n : Vis (defScope z2t) "names" := Or.inl (by decide +kernel)
theorem z6b : Vis (defScope z2t) "path" := Or.inl (by decide +kernel)
theorem z56 : Vis (defScope z2t) "settle" := Or.inl (by decide +kernel)
abbrev z3p : Stmt := top 27
theorem sc_do_set : FnScope ["deed", "path", "names", "settle", "had"] ["deed", "path", "names", "settle"] (defScope z3p) := ⟨rfl, rfl, rfl, by decide +kernel, rfl, by decide +kernel, by decide +kernel⟩
theorem zg6 : GLF z3p "reckon" := by decide +kernel
theorem zi5 : Loc (defScope z3p) "had" := Or.inl (by decide +kernel)
theorem zal : Vis (defScope z3p) "deed" := Or.inl (by decide +kernel)
theorem z7v : Vis (defScope z3p) "had" := Or.inl (by decide +kernel)
theorem za5 : Vis (defScope z3p) "names" := Or.inl (by decide +kernel)
theorem zgj : Vis (defScope z3p) "path" := Or.inl (by decide +kernel)
theorem zel : Vis (defScope z3p) "settle" := Or.inl (by decide +kernel)
abbrev z4m : Stmt := top 28
theorem sc_do_if : FnScope ["deed", "path", "names", "settle", "had"] ["deed", "path", "names", "settle"] (defScope z4m) := ⟨rfl, rfl, rfl, by decide +kernel, rfl, by decide +kernel, by decide +kernel⟩
theorem z8y : GLF z4m "do_block" := by decide +kernel
theorem zhk : GLF z4m "reckon" := by decide +kernel
theorem zjl : Loc (defScope z4m) "had" := Or.inl (by decide +kernel)
theorem z7x : Vis (defScope z4m) "deed" := Or.inl (by decide +kernel)
theorem z95 : Vis (defScope z4m) "had" := Or.inl (by decide +kernel)
theorem z72 : Vis (defScope z4m) "names" := Or.inl (by decide +kernel)
theorem z7w : Vis (defScope z4m) "path" := Or.inl (by decide +kernel)
theorem z6a : Vis (defScope z4m) "settle" := Or.inl (by decide +kernel)
abbrev z1h : Stmt := top 29
theorem sc_do_while : FnScope ["deed", "path", "names", "settle", "done", "had", "refusal"] ["deed", "path", "names", "settle"] (defScope z1h) := ⟨rfl, rfl, rfl, by decide +kernel, rfl, by decide +kernel, by decide +kernel⟩
theorem zbw : GLF z1h "do_block" := by decide +kernel
theorem zdz : GLF z1h "reckon" := by decide +kernel
theorem z8u : Loc (defScope z1h) "done" := Or.inl (by decide +kernel)
theorem zg0 : Loc (defScope z1h) "had" := Or.inl (by decide +kernel)
theorem zbq : Loc (defScope z1h) "refusal" := Or.inl (by decide +kernel)
theorem z5m : Vis (defScope z1h) "deed" := Or.inl (by decide +kernel)
theorem z8g : Vis (defScope z1h) "done" := Or.inl (by decide +kernel)
theorem z69 : Vis (defScope z1h) "had" := Or.inl (by decide +kernel)
theorem z7k : Vis (defScope z1h) "names" := Or.inl (by decide +kernel)
theorem z5l : Vis (defScope z1h) "path" := Or.inl (by decide +kernel)
theorem z6f : Vis (defScope z1h) "refusal" := Or.inl (by decide +kernel)
theorem z71 : Vis (defScope z1h) "settle" := Or.inl (by decide +kernel)
abbrev z2v : Stmt := top 30
theorem sc_reckon : FnScope ["term", "path", "names", "settle", "one", "other"] ["term", "path", "names", "settle"] (defScope z2v) := ⟨rfl, rfl, rfl, by decide +kernel, rfl, by decide +kernel, by decide +kernel⟩
theorem za8 : GLF z2v "reckon" := by decide +kernel
theorem zdt : GLF z2v "worth_of" := by decide +kernel
theorem zi4 : Loc (defScope z2v) "one" := Or.inl (by decide +kernel)
theorem zfz : Loc (defScope z2v) "other" := Or.inl (by decide +kernel)
theorem z68 : Vis (defScope z2v) "names" := Or.inl (by decide +kernel)
theorem z7q : Vis (defScope z2v) "one" := Or.inl (by decide +kernel)
theorem z4w : Vis (defScope z2v) "other" := Or.inl (by decide +kernel)
theorem z3c : Vis (defScope z2v) "path" := Or.inl (by decide +kernel)
theorem z2r : Vis (defScope z2v) "settle" := Or.inl (by decide +kernel)
theorem z2c : Vis (defScope z2v) "term" := Or.inl (by decide +kernel)
abbrev z30 : Stmt := top 31
theorem zmy : FnScope ["word", "one", "other"] ["word", "one", "other"] (defScope z30) := ⟨rfl, rfl, rfl, by decide +kernel, rfl, by decide +kernel, by decide +kernel⟩
theorem zhg : GLF z30 "max" := by decide +kernel
theorem zhf : GLF z30 "min" := by decide +kernel
theorem z24 : Vis (defScope z30) "one" := Or.inl (by decide +kernel)
theorem z1m : Vis (defScope z30) "other" := Or.inl (by decide +kernel)
theorem z26 : Vis (defScope z30) "word" := Or.inl (by decide +kernel)
abbrev z3z : Stmt := top 33
theorem zmz : FnScope ["_law_script", "_law_k"] ["_law_script", "_law_k"] (defScope z3z) := ⟨rfl, rfl, rfl, by decide +kernel, rfl, by decide +kernel, by decide +kernel⟩
theorem zaz : GLF z3z "len" := by decide +kernel
theorem z3k : Vis (defScope z3z) "_law_k" := Or.inl (by decide +kernel)
theorem z1v : Vis (defScope z3z) "_law_script" := Or.inl (by decide +kernel)
abbrev z2s : Stmt := top 34
theorem sc_law_pick : FnScope ["_law_script", "_law_k", "_law_many", "_law_drawn"] ["_law_script", "_law_k", "_law_many"] (defScope z2s) := ⟨rfl, rfl, rfl, by decide +kernel, rfl, by decide +kernel, by decide +kernel⟩
theorem zay : GLF z2s "_law_cell" := by decide +kernel
theorem z9f : Loc (defScope z2s) "_law_drawn" := Or.inl (by decide +kernel)
theorem z3j : Vis (defScope z2s) "_law_drawn" := Or.inl (by decide +kernel)
theorem z6y : Vis (defScope z2s) "_law_k" := Or.inl (by decide +kernel)
theorem zaa : Vis (defScope z2s) "_law_many" := Or.inl (by decide +kernel)
theorem z8e : Vis (defScope z2s) "_law_script" := Or.inl (by decide +kernel)
abbrev z1r : Stmt := top 35
theorem sc_law_sum : FnScope ["_law_script", "_law_at_here", "_law_known", "_law_deep", "_law_way", "_law_words", "_law_one"] ["_law_script", "_law_at_here", "_law_known", "_law_deep"] (defScope z1r) := ⟨rfl, rfl, rfl, by decide +kernel, rfl, by decide +kernel, by decide +kernel⟩
theorem z2m : GLF z1r "_law_pick" := by decide +kernel
theorem z77 : GLF z1r "_law_sum" := by decide +kernel
theorem zi7 : GLF z1r "len" := by decide +kernel
theorem zbn : Loc (defScope z1r) "_law_one" := Or.inl (by decide +kernel)
theorem zbm : Loc (defScope z1r) "_law_way" := Or.inl (by decide +kernel)
theorem zad : Loc (defScope z1r) "_law_words" := Or.inl (by decide +kernel)
theorem z19 : Vis (defScope z1r) "_law_at_here" := Or.inl (by decide +kernel)
theorem z4d : Vis (defScope z1r) "_law_deep" := Or.inl (by decide +kernel)
theorem z25 : Vis (defScope z1r) "_law_known" := Or.inl (by decide +kernel)
theorem zbi : Vis (defScope z1r) "_law_one" := Or.inl (by decide +kernel)
theorem z1c : Vis (defScope z1r) "_law_script" := Or.inl (by decide +kernel)
theorem zbh : Vis (defScope z1r) "_law_way" := Or.inl (by decide +kernel)
theorem za9 : Vis (defScope z1r) "_law_words" := Or.inl (by decide +kernel)
abbrev z0i : Stmt := top 36
theorem sc_law_counted : FnScope ["_law_script", "_law_at_here", "_law_known", "_law_body", "_law_deep", "_law_most", "_law_name", "_law_goal", "_law_more"] ["_law_script", "_law_at_here", "_law_known", "_law_body", "_law_deep"] (defScope z0i) := ⟨rfl, rfl, rfl, by decide +kernel, rfl, by decide +kernel, by decide +kernel⟩
theorem z1w : GLF z0i "_law_pick" := by decide +kernel
theorem z9p : GLF z0i "_law_sum" := by decide +kernel
theorem zdv : GLF z0i "len" := by decide +kernel
theorem z84 : Loc (defScope z0i) "_law_goal" := Or.inl (by decide +kernel)
theorem z83 : Loc (defScope z0i) "_law_more" := Or.inl (by decide +kernel)
theorem z4r : Loc (defScope z0i) "_law_most" := Or.inl (by decide +kernel)
theorem z82 : Loc (defScope z0i) "_law_name" := Or.inl (by decide +kernel)
theorem z15 : Vis (defScope z0i) "_law_at_here" := Or.inl (by decide +kernel)
theorem z4o : Vis (defScope z0i) "_law_body" := Or.inl (by decide +kernel)
theorem z7t : Vis (defScope z0i) "_law_deep" := Or.inl (by decide +kernel)
theorem z7s : Vis (defScope z0i) "_law_goal" := Or.inl (by decide +kernel)
theorem z2z : Vis (defScope z0i) "_law_known" := Or.inl (by decide +kernel)
theorem z7r : Vis (defScope z0i) "_law_more" := Or.inl (by decide +kernel)
theorem z35 : Vis (defScope z0i) "_law_most" := Or.inl (by decide +kernel)
theorem z34 : Vis (defScope z0i) "_law_name" := Or.inl (by decide +kernel)
theorem z1a : Vis (defScope z0i) "_law_script" := Or.inl (by decide +kernel)
abbrev z0c : Stmt := top 37
theorem sc_law_block : FnScope ["_law_script", "_law_at_here", "_law_known", "_law_deep", "_law_deeds", "_law_k", "_law_base", "_law_way", "_law_name", "_law_first", "_law_mine", "_law_second", "_law_yours", "_law_body"] ["_law_script", "_law_at_here", "_law_known", "_law_deep"] (defScope z0c) := ⟨rfl, rfl, rfl, by decide +kernel, rfl, by decide +kernel, by decide +kernel⟩
theorem z8d : (defScope z0c).names.lookup ("_law_known" : Str) = some NameKind.cell := by decide +kernel
theorem z3r : GLF z0c "_law_block" := by decide +kernel
theorem z89 : GLF z0c "_law_counted" := by decide +kernel
theorem z45 : GLF z0c "_law_pick" := by decide +kernel
theorem z60 : GLF z0c "_law_sum" := by decide +kernel
theorem zdx : GLF z0c "range" := by decide +kernel
theorem zdw : GLF z0c "tuple" := by decide +kernel
theorem z9j : Loc (defScope z0c) "_law_base" := Or.inl (by decide +kernel)
theorem z9i : Loc (defScope z0c) "_law_body" := Or.inl (by decide +kernel)
theorem z8t : Loc (defScope z0c) "_law_deeds" := Or.inl (by decide +kernel)
theorem z8s : Loc (defScope z0c) "_law_first" := Or.inl (by decide +kernel)
theorem zbo : Loc (defScope z0c) "_law_k" := Or.inl (by decide +kernel)
theorem z51 : Loc (defScope z0c) "_law_known" := Or.inr (by decide +kernel)
theorem z9h : Loc (defScope z0c) "_law_mine" := Or.inl (by decide +kernel)
theorem z9g : Loc (defScope z0c) "_law_name" := Or.inl (by decide +kernel)
theorem z85 : Loc (defScope z0c) "_law_second" := Or.inl (by decide +kernel)
theorem zaf : Loc (defScope z0c) "_law_way" := Or.inl (by decide +kernel)
theorem z8r : Loc (defScope z0c) "_law_yours" := Or.inr (by decide +kernel)
theorem z4k : Vis (defScope z0c) "_law_at_here" := Or.inl (by decide +kernel)
theorem z14 : Vis (defScope z0c) "_law_base" := Or.inl (by decide +kernel)
theorem z94 : Vis (defScope z0c) "_law_body" := Or.inl (by decide +kernel)
theorem z2j : Vis (defScope z0c) "_law_deeds" := Or.inl (by decide +kernel)
theorem z1l : Vis (defScope z0c) "_law_deep" := Or.inl (by decide +kernel)
theorem z8f : Vis (defScope z0c) "_law_first" := Or.inl (by decide +kernel)
theorem zbj : Vis (defScope z0c) "_law_k" := Or.inl (by decide +kernel)
theorem z0t : Vis (defScope z0c) "_law_known" := Or.inr <| Or.inl (by decide +kernel)
theorem z93 : Vis (defScope z0c) "_law_mine" := Or.inl (by decide +kernel)
theorem z54 : Vis (defScope z0c) "_law_name" := Or.inl (by decide +kernel)
theorem z0r : Vis (defScope z0c) "_law_script" := Or.inl (by decide +kernel)
theorem z7u : Vis (defScope z0c) "_law_second" := Or.inl (by decide +kernel)
theorem z5g : Vis (defScope z0c) "_law_way" := Or.inl (by decide +kernel)
abbrev z0x : Stmt := top 38
theorem sc_law_program : FnScope ["_law_script", "_law_at_here", "_law_ins", "_law_k", "_law_low"] ["_law_script", "_law_at_here"] (defScope z0x) := ⟨rfl, rfl, rfl, by decide +kernel, rfl, by decide +kernel, by decide +kernel⟩
theorem z88 : GLF z0x "_law_block" := by decide +kernel
theorem z3f : GLF z0x "_law_pick" := by decide +kernel
theorem zbu : GLF z0x "range" := by decide +kernel
theorem zbt : GLF z0x "tuple" := by decide +kernel
theorem z8q : Loc (defScope z0x) "_law_ins" := Or.inl (by decide +kernel)
theorem zae : Loc (defScope z0x) "_law_k" := Or.inl (by decide +kernel)
theorem z8p : Loc (defScope z0x) "_law_low" := Or.inl (by decide +kernel)
theorem z1x : Vis (defScope z0x) "_law_at_here" := Or.inl (by decide +kernel)
theorem z3d : Vis (defScope z0x) "_law_ins" := Or.inl (by decide +kernel)
theorem z44 : Vis (defScope z0x) "_law_k" := Or.inl (by decide +kernel)
theorem z50 : Vis (defScope z0x) "_law_low" := Or.inl (by decide +kernel)
theorem z1z : Vis (defScope z0x) "_law_script" := Or.inl (by decide +kernel)
abbrev z0h : Stmt := top 39
theorem sc_law_all_worths : FnScope ["_law_program_here", "_law_made", "_law_name", "_law_low", "_law_high", "_law_longer", "_law_worths"] ["_law_program_here"] (defScope z0h) := ⟨rfl, rfl, rfl, by decide +kernel, rfl, by decide +kernel, by decide +kernel⟩
theorem z9q : GLF z0h "range" := by decide +kernel
theorem z6m : Loc (defScope z0h) "_law_high" := Or.inl (by decide +kernel)
theorem z5y : Loc (defScope z0h) "_law_longer" := Or.inl (by decide +kernel)
theorem z75 : Loc (defScope z0h) "_law_low" := Or.inl (by decide +kernel)
theorem z4a : Loc (defScope z0h) "_law_made" := Or.inl (by decide +kernel)
theorem z6l : Loc (defScope z0h) "_law_name" := Or.inl (by decide +kernel)
theorem z5x : Loc (defScope z0h) "_law_worths" := Or.inr (by decide +kernel)
theorem z6h : Vis (defScope z0h) "_law_high" := Or.inl (by decide +kernel)
theorem z3g : Vis (defScope z0h) "_law_longer" := Or.inl (by decide +kernel)
theorem z6z : Vis (defScope z0h) "_law_low" := Or.inl (by decide +kernel)
theorem z47 : Vis (defScope z0h) "_law_made" := Or.inl (by decide +kernel)
theorem z4p : Vis (defScope z0h) "_law_program_here" := Or.inl (by decide +kernel)
abbrev z3a : Stmt := top 40
theorem sc_law_at : FnScope ["_law_block_here", "_law_path", "_law_deed", "_law_inner"] ["_law_block_here", "_law_path"] (defScope z3a) := ⟨rfl, rfl, rfl, by decide +kernel, rfl, by decide +kernel, by decide +kernel⟩
theorem zf8 : GLF z3a "_law_at" := by decide +kernel
theorem zju : GLF z3a "len" := by decide +kernel
theorem zbp : Loc (defScope z3a) "_law_deed" := Or.inl (by decide +kernel)
theorem zat : Loc (defScope z3a) "_law_inner" := Or.inl (by decide +kernel)
theorem z7g : Vis (defScope z3a) "_law_block_here" := Or.inl (by decide +kernel)
theorem z39 : Vis (defScope z3a) "_law_deed" := Or.inl (by decide +kernel)
theorem zaj : Vis (defScope z3a) "_law_inner" := Or.inl (by decide +kernel)
theorem z38 : Vis (defScope z3a) "_law_path" := Or.inl (by decide +kernel)
abbrev z23 : Stmt := top 41
theorem sc_law_with : FnScope ["_law_block_here", "_law_path", "_law_deed", "_law_old"] ["_law_block_here", "_law_path", "_law_deed"] (defScope z23) := ⟨rfl, rfl, rfl, by decide +kernel, rfl, by decide +kernel, by decide +kernel⟩
theorem z5z : GLF z23 "_law_with" := by decide +kernel
theorem zhi : GLF z23 "len" := by decide +kernel
theorem z5h : Loc (defScope z23) "_law_deed" := Or.inl (by decide +kernel)
theorem zas : Loc (defScope z23) "_law_old" := Or.inl (by decide +kernel)
theorem z2o : Vis (defScope z23) "_law_block_here" := Or.inl (by decide +kernel)
theorem z43 : Vis (defScope z23) "_law_deed" := Or.inl (by decide +kernel)
theorem z1u : Vis (defScope z23) "_law_old" := Or.inl (by decide +kernel)
theorem z1f : Vis (defScope z23) "_law_path" := Or.inl (by decide +kernel)
abbrev z3x : Stmt := top 42
theorem sc_law : FnScope ["_law_script", "_law_program_here", "_law_paths", "_law_path", "_law_deed", "_law_told", "_law_new", "_law_worths", "_law_first", "_law_second"] ["_law_script"] (defScope z3x) := ⟨rfl, rfl, rfl, by decide +kernel, rfl, by decide +kernel, by decide +kernel⟩
theorem zag : GLF z3x "_law_all_worths" := by decide +kernel
theorem zi8 : GLF z3x "_law_at" := by decide +kernel
theorem zg4 : GLF z3x "_law_pick" := by decide +kernel
theorem zci : GLF z3x "_law_program" := by decide +kernel
theorem zg3 : GLF z3x "_law_with" := by decide +kernel
theorem zq8 : GLF z3x "len" := by decide +kernel
theorem z9o : GLF z3x "peeled" := by decide +kernel
theorem zim : GLF z3x "run" := by decide +kernel
theorem zdu : GLF z3x "traced" := by decide +kernel
theorem zjt : GLF z3x "whiles" := by decide +kernel
theorem zf4 : Loc (defScope z3x) "_law_deed" := Or.inl (by decide +kernel)
theorem zdo : Loc (defScope z3x) "_law_first" := Or.inl (by decide +kernel)
theorem za7 : Loc (defScope z3x) "_law_new" := Or.inl (by decide +kernel)
theorem zf3 : Loc (defScope z3x) "_law_path" := Or.inl (by decide +kernel)
theorem zdn : Loc (defScope z3x) "_law_paths" := Or.inl (by decide +kernel)
theorem z86 : Loc (defScope z3x) "_law_program_here" := Or.inl (by decide +kernel)
theorem zcf : Loc (defScope z3x) "_law_second" := Or.inl (by decide +kernel)
theorem zf2 : Loc (defScope z3x) "_law_told" := Or.inl (by decide +kernel)
theorem zce : Loc (defScope z3x) "_law_worths" := Or.inl (by decide +kernel)
theorem z27 : Vis (defScope z3x) "_law_deed" := Or.inl (by decide +kernel)
theorem zd4 : Vis (defScope z3x) "_law_first" := Or.inl (by decide +kernel)
theorem zfu : Vis (defScope z3x) "_law_new" := Or.inl (by decide +kernel)
theorem z5k : Vis (defScope z3x) "_law_path" := Or.inl (by decide +kernel)
theorem z55 : Vis (defScope z3x) "_law_paths" := Or.inl (by decide +kernel)
theorem z0d : Vis (defScope z3x) "_law_program_here" := Or.inl (by decide +kernel)
theorem z70 : Vis (defScope z3x) "_law_script" := Or.inl (by decide +kernel)
theorem zc7 : Vis (defScope z3x) "_law_second" := Or.inl (by decide +kernel)
theorem z5j : Vis (defScope z3x) "_law_told" := Or.inl (by decide +kernel)
theorem z3l : Vis (defScope z3x) "_law_worths" := Or.inl (by decide +kernel)
abbrev zws (J : It) (g : TG) (tb : TS) (D : Ends) (σ : St) (H : Hp) : Prop := ∃ W : Nat → Nat → St → Hp → Prop, (∃ m, W 0 m σ H) ∧ ∀ i m σ H, W i m σ H →
 (J.stop i H ∧ D.nx σ H) ∨ (J.go i H ∧ ∃ N : St → Hp → Prop, (∀ σ' H', N σ' H' → ∃ m', m' < m ∧ W (i + 1) m' σ' H') ∧ ∀ x H', J.yld i H x H' → g x σ H' fun σ2 H2 => tb { D with nx := N, ct := N, bk := D.nx } σ2 H2)
theorem ziz {K : PySem.W.Frag} {tl : TE} {g : TG} {tb : TS} {D : Ends} {σ : St} {H : Hp} : zuc (q2y K tl) g tb D σ H = tl σ H fun x H1 => ∃ a, x = .ref a ∧ (∃ xs, SqT K H1 a xs) ∧ zws (Itt K a) g tb D σ H1 := rfl
theorem zgo {K : PySem.W.Frag} {tl : TE} {g : TG} {tb : TS} {D : Ends} {σ : St} {H : Hp} : zuc (zy5 K tl) g tb D σ H = tl σ H fun x H1 => ∃ a, x = .ref a ∧ (∃ xs, SqL K H1 a xs) ∧ zws (Itl K a) g tb D σ H1 := rfl
theorem zgn {ta : TA} {g : TG} {tb : TS} {D : Ends} {σ : St} {H : Hp} : zuc (q0u ta) g tb D σ H = ta σ H fun vs H1 => ∃ j : Int, vs = [.int j] ∧ -(2 ^ 62) ≤ j ∧ j < 2 ^ 62 ∧ zws (Itr 0 j.toNat) g tb D σ H1 := rfl
theorem zgq {K : PySem.W.Frag} {tl : TE} {g : TG} {tt : TT} {te : TE} {mp : List (Option Nat)} {σ : St} {H : Hp} {Q : VK} : zj0 (q2y K tl) g tt te mp σ H Q = tl σ H fun x H1 => ∃ a, x = .ref a ∧ (∃ xs, SqT K H1 a xs) ∧ zfi (Itt K a) g tt te Q (subσ mp σ) H1 := rfl
theorem zer {K : PySem.W.Frag} {tl : TE} {g : TG} {tt : TT} {te : TE} {mp : List (Option Nat)} {σ : St} {H : Hp} {Q : VK} : zj0 (zy5 K tl) g tt te mp σ H Q = tl σ H fun x H1 => ∃ a, x = .ref a ∧ (∃ xs, SqL K H1 a xs) ∧ zfi (Itl K a) g tt te Q (subσ mp σ) H1 := rfl
theorem zgr {tl : TE} {g : TG} {tt : TT} {te : TE} {mp : List (Option Nat)} {σ : St} {H : Hp} {Q : VK} : zj0 (q49 tl) g tt te mp σ H Q = tl σ H fun x H1 => ∃ z, x = .str z ∧ zfi (Its z) g tt te Q (subσ mp σ) H1 := rfl
inductive Wd where
 | add | sub | mul | quo | less | same | min | max
 deriving DecidableEq
def Wd.str : Wd → Str
 | .add => "add" | .sub => "sub" | .mul => "mul" | .quo => "quo" | .less => "less" | .same => "same" | .min => "min" | .max => "max"
inductive T where
 | num (i : Int) | nm (x : Str) | op (w : Wd) (a b : T)
def T.enc : T → Dm
 | .num i => .tup [.str "num", .int i]
 | .nm x => .tup [.str "name", .str x]
 | .op w a b => .tup [.str w.str, a.enc, b.enc]
def T.ok (g : List Str) : Nat → T → Prop
 | 0, _ => False
 | _ + 1, .num i => -32768 ≤ i ∧ i ≤ 32767
 | _ + 1, .nm x => x ∈ g
 | n + 1, .op _ a b => T.ok g n a ∧ T.ok g n b
theorem T.ok.mono {g g' : List Str} (hg : ∀ x ∈ g, x ∈ g') : ∀ {n m : Nat} {t : T}, T.ok g n t → n ≤ m → T.ok g' m t
 | 0, _, _, h, _ => h.elim
 | n + 1, 0, _, _, h => absurd h (by omega)
 | n + 1, m + 1, .num i, h, _ => h
 | n + 1, m + 1, .nm x, h, _ => hg x h
 | n + 1, m + 1, .op w a b, h, hm => ⟨T.ok.mono hg h.1 (by omega), T.ok.mono hg h.2 (by omega)⟩
inductive D where
 | set (x : Str) (t : T) | ite (t : T) (b c : List D) | whl (t : T) (m : Int) (b : List D)
mutual
def D.enc : D → Dm
 | .set x t => .tup [.str "set", .str x, t.enc]
 | .ite t b c => .tup [.str "if", t.enc, .tup (z3u b), .tup (z3u c)]
 | .whl t m b => .tup [.str "while", t.enc, .int m, .tup (z3u b)]
def z3u : List D → List Dm
 | [] => []
 | d :: r => d.enc :: z3u r
end
theorem z4h : ∀ (b c : List D), z3u (b ++ c) = z3u b ++ z3u c
 | [], c => by simp [z3u]
 | d :: b, c => by rw [List.cons_append, z3u, z3u, z4h b c, List.cons_append]
theorem z2l : ∀ b : List D, (z3u b).length = b.length
 | [] => by simp [z3u]
 | d :: b => by rw [z3u, List.length_cons, List.length_cons, z2l b]
def pool : List Str := ["a", "b", "c", "dd"]
def okB : Nat → List D → Prop
 | 0, _ => False
 | n + 1, b => b.length ≤ 6 ∧ ∀ d ∈ b, match d with
  | .set x t => x ∈ pool ∧ t.ok pool 5
  | .ite t b c => t.ok pool 5 ∧ okB n b ∧ okB n c
  | .whl t m b => t.ok pool 5 ∧ 0 ≤ m ∧ m ≤ 20 ∧ okB n b
abbrev okD (n : Nat) (d : D) : Prop := match d with
 | .set x t => x ∈ pool ∧ t.ok pool 5
 | .ite t b c => t.ok pool 5 ∧ okB n b ∧ okB n c
 | .whl t m b => t.ok pool 5 ∧ 0 ≤ m ∧ m ≤ 20 ∧ okB n b
def T.knows (p : List Str) : T → Bool
 | .num _ => true
 | .nm x => p.contains x
 | .op _ a b => a.knows p && b.knows p
mutual
def kbD (p : List Str) : D → Option (List Str)
 | .set x t => if t.knows p then some (p ++ [x]) else none
 | .ite t b c => if t.knows p then (match kbB p b, kbB p c with | some q, some r => some (q.filter fun x => r.contains x) | _, _ => none) else none
 | .whl t _ b => if t.knows p then (match kbB p b with | some _ => some p | none => none) else none
def kbB (p : List Str) : List D → Option (List Str)
 | [] => some p
 | d :: r => match kbD p d with
  | some q => kbB q r
  | none => none
end
theorem zf7 (p : List Str) : ∀ (b c : List D), kbB p (b ++ c) = match kbB p b with | some q => kbB q c | none => none
 | [], c => by simp [kbB]
 | d :: b, c => by
  rw [List.cons_append, kbB, kbB]
  cases kbD p d with
  | none => rfl
  | some q => exact zf7 q b c
def Sub (g p : List Str) : Prop := ∀ x ∈ g, x ∈ p
theorem Sub.refl (g : List Str) : Sub g g := fun _ h => h
theorem Sub.trans {a b c : List Str} (h : Sub a b) (k : Sub b c) : Sub a c := fun x hx => k x (h x hx)
theorem T.ok.knows {g p : List Str} (hg : Sub g p) : ∀ {n : Nat} {t : T}, T.ok g n t → t.knows p = true
 | 0, _, h => h.elim
 | n + 1, .num i, _ => rfl
 | n + 1, .nm x, h => by simpa [T.knows] using hg x h
 | n + 1, .op w a b, h => by simp [T.knows, T.ok.knows hg h.1, T.ok.knows hg h.2]
def Knows (g : List Str) (b : List D) (g' : List Str) : Prop := ∀ p, Sub g p → ∃ q, kbB p b = some q ∧ Sub g' q ∧ Sub p q
def KnowsD (g : List Str) (d : D) (g' : List Str) : Prop := ∀ p, Sub g p → ∃ q, kbD p d = some q ∧ Sub g' q ∧ Sub p q
theorem Knows.nil (g : List Str) : Knows g [] g := fun p h => ⟨p, by simp [kbB], h, Sub.refl p⟩
theorem Knows.snoc {g g1 g2 : List Str} {b : List D} {d : D} (h : Knows g b g1) (k : KnowsD g1 d g2) : Knows g (b ++ [d]) g2 := fun p hp => by
 obtain ⟨q, e, s1, s2⟩ := h p hp
 obtain ⟨r, e2, s3, s4⟩ := k q s1
 refine ⟨r, ?_, s3, s2.trans s4⟩
 rw [zf7, e]
 simp [kbB, e2]
theorem KnowsD.set {g g' : List Str} {x : Str} {t : T} {n : Nat} (ht : t.ok g n) (hs : ∀ y ∈ g', y ∈ g ∨ y = x) : KnowsD g (.set x t) g' := fun p hp => by
 refine ⟨p ++ [x], by simp [kbD, ht.knows hp], fun y hy => ?_, fun y hy => List.mem_append_left _ hy⟩
 rcases hs y hy with z | z
 ·exact List.mem_append_left _ (hp y z)
 ·exact List.mem_append_right _ (by simp [z])
theorem KnowsD.ite {g m y g' : List Str} {t : T} {b c : List D} {n : Nat} (ht : t.ok g n) (hb : Knows g b m) (hc : Knows g c y) (hs : ∀ x ∈ g', x ∈ m ∧ x ∈ y) : KnowsD g (.ite t b c) g' := fun p hp => by
 obtain ⟨q, e, s1, s2⟩ := hb p hp
 obtain ⟨r, e2, s3, s4⟩ := hc p hp
 refine ⟨q.filter fun x => r.contains x, by simp [kbD, ht.knows hp, e, e2], fun x hx => ?_, fun x hx => ?_⟩
 ·exact List.mem_filter.mpr ⟨s1 x (hs x hx).1, by simpa using s3 x (hs x hx).2⟩
 ·exact List.mem_filter.mpr ⟨s2 x hx, by simpa using s4 x hx⟩
theorem KnowsD.whl {g g1 : List Str} {t : T} {m : Int} {b : List D} {n : Nat} (ht : t.ok g n) (hb : Knows g b g1) : KnowsD g (.whl t m b) g := fun p hp => by
 obtain ⟨q, e, s1, s2⟩ := hb p hp
 exact ⟨p, by simp [kbD, ht.knows hp, e], hp, Sub.refl p⟩
theorem Knows.sub {g g1 : List Str} {b : List D} (h : Knows g b g1) : Knows g b g := fun p hp => by
 obtain ⟨q, e, s1, s2⟩ := h p hp
 exact ⟨q, e, hp.trans s2, s2⟩
theorem zwp {xs : List V} {k : Int} (h0 : 0 ≤ k) (h : k < (xs.length : Int)) : ∃ v, xs[k.toNat]? = some v ∧ atI xs k = some v := by
 have hk : k.toNat < xs.length := by omega
 have ek : k = ((k.toNat : Nat) : Int) := by omega
 refine ⟨xs[k.toNat], List.getElem?_eq_getElem hk, ?_⟩
 have q : atI xs ((k.toNat : Nat) : Int) = some xs[k.toNat] := z13 (List.getElem?_eq_getElem hk)
 rw [← ek] at q
 exact q
theorem za3 {α : Type} {c : α → V} {ns : List α} {k : Int} (h0 : 0 ≤ k) (h : k < (ns.length : Int)) : ∃ v ∈ ns, atI (ns.map c) k = some (c v) := by
 obtain ⟨v, e1, e2⟩ := zwp (xs := ns.map c) h0 (by rw [List.length_map]; exact h)
 rw [List.getElem?_map] at e1
 cases e : ns[k.toNat]? with
 | none => rw [e] at e1; cases e1
 | some i => rw [e] at e1; cases e1; exact ⟨i, List.mem_of_getElem? e, e2⟩
theorem zoo (ns : List Int) : (ns.map V.int).all okV = true := by simp [okV]
theorem zw7 {g : List Str} (h : Sub g pool) : (g.map V.str).all okV = true := by
 simp only [List.all_map, List.all_eq_true]
 intro x hx
 have := h x hx
 simp only [pool, List.mem_cons, List.not_mem_nil, or_false] at this
 rcases this with rfl | rfl | rfl | rfl <;> decide +kernel
theorem zl (n : Nat) (h : n ≤ 1000) : n ≤ sizeLine := Nat.le_of_lt (z3w h)
theorem q0j {K : PySem.W.Frag} {H : Hp} {a : Addr} {xs : List V} (h : SqL K H a xs) : zyx K (.ref a) H xs.length := .inl ⟨a, xs, rfl, .inl h, rfl⟩
theorem q45 {K : PySem.W.Frag} {H : Hp} {a : Addr} {xs : List V} (h : SqT K H a xs) : zyx K (.ref a) H xs.length := .inl ⟨a, xs, rfl, .inr h, rfl⟩
theorem q0z {K : PySem.W.Frag} {H : Hp} {a p : Addr} {xs : List V} (h : SqL K H a xs) (ho : xs.all okV = true) (hp : SqL K H p []) : q1s K (.ref a) (.ref p) H xs.isEmpty := .inr (.inl ⟨a, p, xs, [], rfl, rfl, h, hp, ho, rfl, (zsu xs).symm⟩)
theorem zte (CX : CXT) (P : Program) (w : World) (K : PySem.W.Frag) (mg : Str → Option Value) (base : Heap) (N : List Str) (qual : Str) (scope : Scope) (f : Addr) (cd : Value) (A : Around) (outer : List Env) (s : Shared) (H : Hp) (E : XK) : (zkf CX P w K mg base N qual scope f cd A outer s H E).K = K := rfl
theorem zff (CX : CXT) (P : Program) (w : World) (K : PySem.W.Frag) (mg : Str → Option Value) (base : Heap) (N : List Str) (qual : Str) (scope : Scope) (f : Addr) (cd : Value) (A : Around) (outer : List Env) (s : Shared) (H : Hp) (E : XK) : (zkf CX P w K mg base N qual scope f cd A outer s H E).nox.K = K := rfl
theorem zk5 (X : Cx) (N' : List Str) (scope : Scope) (cl : List (Str × Addr)) (C : Addr) (s₀ : Shared) (H₀ : Hp) (ex : List Addr) : (z52 X N' scope cl C s₀ H₀ ex).K = X.K := rfl
theorem zgp {K : PySem.W.Frag} {ta : TA} {g : TG} {tb : TS} {D : Ends} {σ : St} {H : Hp} : zuc (q2z K ta) g tb D σ H = ta σ H fun vs H1 => ∃ a, vs = [.ref a] ∧ (∃ xs, SqL K H1 a xs) ∧ zws (Ite K a) g tb D σ H1 := rfl
theorem ziy {K : PySem.W.Frag} {ta : TA} {g : TG} {tb : TS} {D : Ends} {σ : St} {H : Hp} : zuc (q48 K ta) g tb D σ H = ta σ H fun vs H1 => ∃ a b, vs = [.ref a, .ref b] ∧ (∃ xs, SqL K H1 a xs) ∧ (∃ ys, SqL K H1 b ys) ∧ zws (Itz K a b) g tb D σ H1 := rfl
theorem zgm {ta : TA} {g : TG} {tb : TS} {D : Ends} {σ : St} {H : Hp} : zuc (zy4 ta) g tb D σ H = ta σ H fun vs H1 => ∃ i j : Int, vs = [.int i, .int j] ∧ (-(2 ^ 62) ≤ i ∧ i < 2 ^ 62 ∧ -(2 ^ 62) ≤ j ∧ j < 2 ^ 62) ∧ zws (Itr i (j - i).toNat) g tb D σ H1 := rfl
theorem zgs {K : PySem.W.Frag} {tl : TE} {g : TG} {tt : TT} {te : TE} {mp : List (Option Nat)} {σ : St} {H : Hp} {Q : VK} : zj0 (q4a K tl) g tt te mp σ H Q = tl σ H fun x H1 => ∃ a, x = .ref a ∧ (((∃ xs, SqL K H1 a xs) ∧ zfi (Itl K a) g tt te Q (subσ mp σ) H1) ∨ ((∃ xs, SqT K H1 a xs) ∧ zfi (Itt K a) g tt te Q (subσ mp σ) H1)) := rfl
theorem zhv (CX : CXT) (P : Program) (w : World) (K : PySem.W.Frag) (mg : Str → Option Value) (base : Heap) (N : List Str) (qual : Str) (scope : Scope) (f : Addr) (cd : Value) (A : Around) (outer : List Env) (s : Shared) (H : Hp) (E : XK) : (zkf CX P w K mg base N qual scope f cd A outer s H E).prog = P := rfl
theorem ztd (CX : CXT) (P : Program) (w : World) (K : PySem.W.Frag) (mg : Str → Option Value) (base : Heap) (N : List Str) (qual : Str) (scope : Scope) (f : Addr) (cd : Value) (A : Around) (outer : List Env) (s : Shared) (H : Hp) (E : XK) : (zkf CX P w K mg base N qual scope f cd A outer s H E).w = w := rfl
theorem z9x (CX : CXT) (P : Program) (w : World) (K : PySem.W.Frag) (mg : Str → Option Value) (base : Heap) (N : List Str) (qual : Str) (scope : Scope) (f : Addr) (cd : Value) (A : Around) (outer : List Env) (s : Shared) (H : Hp) (E : XK) : (zkf CX P w K mg base N qual scope f cd A outer s H E).nox.prog = P := rfl
theorem zfe (CX : CXT) (P : Program) (w : World) (K : PySem.W.Frag) (mg : Str → Option Value) (base : Heap) (N : List Str) (qual : Str) (scope : Scope) (f : Addr) (cd : Value) (A : Around) (outer : List Env) (s : Shared) (H : Hp) (E : XK) : (zkf CX P w K mg base N qual scope f cd A outer s H E).nox.w = w := rfl
theorem znz (CX : CXT) (P : Program) (w : World) (K : PySem.W.Frag) (mg : Str → Option Value) (base : Heap) (N : List Str) (qual : Str) (scope : Scope) (f : Addr) (cd : Value) (A : Around) (outer : List Env) (s : Shared) (H : Hp) (E : XK) : (zkf CX P w K mg base N qual scope f cd A outer s H E).mg = mg := rfl
theorem zcu (CX : CXT) (P : Program) (w : World) (K : PySem.W.Frag) (mg : Str → Option Value) (base : Heap) (N : List Str) (qual : Str) (scope : Scope) (f : Addr) (cd : Value) (A : Around) (outer : List Env) (s : Shared) (H : Hp) (E : XK) : (zkf CX P w K mg base N qual scope f cd A outer s H E).nox.mg = mg := rfl
theorem zhw (CX : CXT) (P : Program) (w : World) (K : PySem.W.Frag) (mg : Str → Option Value) (base : Heap) (N : List Str) (qual : Str) (scope : Scope) (f : Addr) (cd : Value) (A : Around) (outer : List Env) (s : Shared) (H : Hp) (E : XK) : (zkf CX P w K mg base N qual scope f cd A outer s H E).base = base := rfl
theorem z9y (CX : CXT) (P : Program) (w : World) (K : PySem.W.Frag) (mg : Str → Option Value) (base : Heap) (N : List Str) (qual : Str) (scope : Scope) (f : Addr) (cd : Value) (A : Around) (outer : List Env) (s : Shared) (H : Hp) (E : XK) : (zkf CX P w K mg base N qual scope f cd A outer s H E).nox.base = base := rfl
theorem zcv (X : Cx) (N' : List Str) (scope : Scope) (cl : List (Str × Addr)) (C : Addr) (s₀ : Shared) (H₀ : Hp) (ex : List Addr) : (z52 X N' scope cl C s₀ H₀ ex).prog = X.prog := rfl
theorem zk4 (X : Cx) (N' : List Str) (scope : Scope) (cl : List (Str × Addr)) (C : Addr) (s₀ : Shared) (H₀ : Hp) (ex : List Addr) : (z52 X N' scope cl C s₀ H₀ ex).w = X.w := rfl
theorem zhx (X : Cx) (N' : List Str) (scope : Scope) (cl : List (Str × Addr)) (C : Addr) (s₀ : Shared) (H₀ : Hp) (ex : List Addr) : (z52 X N' scope cl C s₀ H₀ ex).mg = X.mg := rfl
theorem zcw (X : Cx) (N' : List Str) (scope : Scope) (cl : List (Str × Addr)) (C : Addr) (s₀ : Shared) (H₀ : Hp) (ex : List Addr) : (z52 X N' scope cl C s₀ H₀ ex).base = X.base := rfl
theorem zeq {K : PySem.W.Frag} {ta : TA} {g : TG} {tt : TT} {te : TE} {mp : List (Option Nat)} {σ : St} {H : Hp} {Q : VK} : zj0 (zy3 K ta) g tt te mp σ H Q = ta σ H fun vs H1 => ∃ a b, vs = [.ref a, .ref b] ∧ (∃ xs, SqT K H1 a xs) ∧ (∃ ys, SqT K H1 b ys) ∧ zfi (zyy K a b) g tt te Q (subσ mp σ) H1 := rfl
local macro_rules | `(tactic| walk_at "rd") => `(tactic| simp only [zpf, zub, zqx, tOp, ztz, tC, zz1, zi9, zz7, zq9, q0w, q1u, zww, zud, zua, tCB, zkp, zzi, zuf, tUn, rU, rI0, rI, q1y, tOr, q1v, tB, zug, q2h, zu9, tIf, q2i, zwx, zqz, zue, zoa, zui, zo9, zwy, zkn, zwz, tSl, zix, zu8, q20, zmu, zrg, zup, zx5, zgp, ziy, zgm, zgs, q2t, zum, zhv, ztd, z9x, zfe, znz, zhw, zcu, z9y, zcv, zk4, zhx, zcw, zeq, zr1, zz6, q2o, tDX, q2j, q1t, q1w, tBM,
 qEq, qNe, qIn, zky, q25, zun, q2u, zx4, q24, zuo, q26, q23, zx6, zx7, zrh, rIx, zzq, zre, q21, q22, zfk, q2p, zx3, q2r, q2q, zj9, zj8, zo8, zr2, zzf,
 ziz, zgo, zgn, zgq, zer, zgr, L2.start, zte, zff, zk5, List.map_cons, List.map_nil, List.length_cons, List.length_nil, List.replicate_succ, List.replicate_zero, Nat.reduceAdd, Nat.reduceSub, Nat.zero_add, Nat.add_zero, Nat.sub_zero, Nat.sub_self, Nat.add_sub_cancel,
 List.getElem?_cons_zero, List.getElem?_cons_succ, List.set_cons_zero, List.set_cons_succ, List.cons_append, List.nil_append, List.append_nil, List.cons.injEq, Option.some.injEq, V.int.injEq, V.ref.injEq, V.str.injEq, V.bl.injEq, V.ty.injEq,
 reduceCtorEq, false_and, and_false, and_true, true_and, exists_false, exists_const, false_or, or_false, exists_eq_left, exists_eq_left', exists_eq_right, exists_eq_right', exists_and_left, decide_eq_true_eq, Bool.not_eq_true', Bool.decide_eq_true, exists_eq, true_or, or_true, Bool.false_eq_true, if_true, if_false, Bool.true_eq_false, Bool.not_true, Bool.not_false, decide_true, decide_false, List.isEmpty_cons, List.isEmpty_nil, Bool.true_and, Bool.false_and, bne_self_eq_false, beq_self_eq_true])
section
variable {P : Program} {w : World} {K : PySem.W.Frag} {mg : Str → Option Value} {base : Heap} {f : Addr} {fd : FuncData}
def zvz (K : PySem.W.Frag) : Sp := fun vs H Q _ => ∃ (a : Addr) (ns : List Int) (k : Int), vs = [.ref a, .int k] ∧ SqL K H a (ns.map V.int) ∧ 0 ≤ k ∧ ∀ (i : Int) (H' : Hp), Same H H' → Q (.int i) H'
theorem zxm (F : Fun K "_law_cell" "_law_cell" z3z f fd) (b_len : mg "len" = none) : FnOk P w K mg base CX0 1 f fd ["_law_script", "_law_k"] (zvz K) := by
 refine F.ok zmz (fun vs H Q E h => ?_) (fun cdv A outer s H vs Q E hr h => ?_)
 ·obtain ⟨a, ns, k, rfl, _⟩ := h
  rfl
 obtain ⟨a, ns, k, rfl, hS, h0, q⟩ := h
 refine ⟨_, (z05 (z2k (z0f zla (z00 (i := 1) rfl z3k z4t z4v) (zcb zve zaz b_len zef (z07 (z00 (i := 0) rfl z1v z09 z0a) z04) zdk ze6) (z0w _)) (z08 (z0o (z0v z5c (z00 (i := 0) rfl z1v z09 z0a) (z00 (i := 1) rfl z3k z4t z4v) (fun _ _ => rfl)))) z0y)
 (z05 (z2k (z0f (gEq hr.units) (z00 (i := 0) rfl z1v z09 z0a) (z4q z04) (z0w _)) (z08 (z0o z01)) z0y)
 (z08 (z0o (z16 z28 (z16 zaq (z0v z5c (z00 (i := 0) rfl z1v z09 z0a) (z16 zl9 (z00 (i := 1) rfl z3k z4t z4v) (zcb zve zaz b_len zef (z07 (z00 (i := 0) rfl z1v z09 z0a) z04) zdk ze6)) (fun _ _ => rfl)) z01) (z00 (i := 1) rfl z3k z4t z4v)))))), ?_⟩
 walk_at "rd"
 refine ⟨_, q0j hS, ?_⟩
 rw [List.length_map]
 split
 ·rename_i hk
  obtain ⟨i, _, e⟩ := za3 (c := V.int) h0 hk
  exact ⟨_, hS, _, e, q i H (Same.refl _)⟩
 ·refine ⟨Nat.zero_le _, fun p hp => ?_⟩
  have s1 := z03 hp (.lst [])
  refine ⟨_, q0z (s1.seq hS) (zoo ns) (SqL.of z02), ?_⟩
  split
  ·exact q 0 _ s1
  ·rename_i hne
   have hl : 0 < (ns.length : Int) := by
    cases ns with
    | nil => exact absurd rfl hne
    | cons a r => simp only [List.length_cons]; omega
   obtain ⟨i, _, e⟩ := za3 (c := V.int) (ns := ns) (k := k % (ns.length : Int)) (Int.emod_nonneg _ (by omega)) (Int.emod_lt_of_pos _ hl)
   exact ⟨_, q0j (s1.seq hS), by rw [List.length_map]; exact hl, _, s1.seq hS, _, by rw [List.length_map]; exact e, i, rfl, .inr ⟨by decide, by decide⟩, q _ _ s1⟩
def zd9 (K : PySem.W.Frag) : Sp := fun vs H Q _ => ∃ (a : Addr) (ns : List Int) (k m : Int), vs = [.ref a, .int k, .int m] ∧ SqL K H a (ns.map V.int) ∧ 0 ≤ k ∧ 0 < m ∧ ∀ (i : Int) (H' : Hp), 0 ≤ i → i < m → Same H H' → Q (.int i) H'
theorem zxl (F : Fun K "_law_pick" "_law_pick" z2s f fd) (c_law_cell : Callee P w K mg base "_law_cell" ["_law_script", "_law_k"] 1 (zvz K)) : FnOk P w K mg base CX0 2 f fd ["_law_script", "_law_k", "_law_many"] (zd9 K) := by
 refine F.ok sc_law_pick (fun vs H Q E h => ?_) (fun cdv A outer s H vs Q E hr h => ?_)
 ·obtain ⟨a, ns, k, m, rfl, _⟩ := h
  rfl
 obtain ⟨a, ns, k, m, rfl, hS, h0, hm, q⟩ := h
 refine ⟨_, (z05 (z1e (i := 3) sc_law_pick.nd rfl z9f (z16 zl9 (z16 zaq (z16 z28 (z1d c_law_cell hr (by omega) (z07 (z00 (i := 0) rfl z8e z09 z0a) (z07 (z00 (i := 1) rfl z6y z4t z4v) z04)) zay zm7) (z16 zaq z01 (z16 z28 (z00 (i := 1) rfl z6y z4t z4v) z01))) z01) z01) (z06 rfl))
 (z08 (z0o (z16 zl9 (z16 zl9 (z16 z28 (z16 zaq (z00 (i := 3) rfl z3j z9w za1) (z00 (i := 3) rfl z3j z9w za1)) (z16 zxj (z00 (i := 3) rfl z3j z9w za1) z01)) z01) (z00 (i := 2) rfl zaa zm4 zmd))))), ?_⟩
 walk_at "rd"
 refine ⟨a, ns, k, rfl, hS, h0, fun i H' s1 => ?_⟩
 walk_at "rd"
 refine ⟨.inl ⟨by decide, by decide⟩, .inr ⟨by decide, by decide⟩, by decide, ?_⟩
 have e1 : 0 ≤ (i + 6151 * (k + 1)) * 40692 % 2147483399 := Int.emod_nonneg _ (by decide)
 have e2 : (i + 6151 * (k + 1)) * 40692 % 2147483399 < 2147483399 := Int.emod_lt_of_pos _ (by decide)
 refine ⟨.inl ⟨by omega, by omega⟩, ⟨by decide, by decide⟩, by decide, hm, q _ _ (Int.emod_nonneg _ (by omega)) (Int.emod_lt_of_pos _ hm) s1⟩
structure Df (K : PySem.W.Frag) (mg : Str → Option Value) (x : Str) (st : Stmt) (ps : List Str) (f : Addr) (fd : FuncData) : Prop where
 F : Fun K x x st f fd
 m : mg x = some (.ref f)
 b : Binds K fd ps []
theorem Df.callee {x : Str} {st : Stmt} {ps : List Str} {k : Nat} {sp : Sp} (d : Df K mg x st ps f fd) (h : FnOk P w K mg base CX0 k f fd ps sp) : Callee P w K mg base x ps k sp := ⟨f, fd, h, d.m, d.F.kp, d.b⟩
theorem zjq (x : Str) : ∀ g : List Str, inV (.str x) (g.map V.str) = g.contains x
 | [] => rfl
 | y :: g => by
  have ih := zjq x g
  unfold inV at ih ⊢
  rw [List.map_cons, List.any_cons, ih, List.contains_cons]
  have e : eqV (.str y) (.str x) = (x == y) := by
   show (y == x) = (x == y)
   rw [Bool.eq_iff_iff, beq_iff_eq, beq_iff_eq]
   exact eq_comm
  rw [e]
theorem zlr (g : List Str) : (g.map V.str).all zah = true := by simp [zah]
theorem z7l {H H' : Hp} {p : Addr} {o : HO} (s : Same H H') (h : H p = none) : Same H (upd H' p o) := fun b u q => by rw [z0q (z12 q h)]; exact s b u q
end
theorem zie {K : PySem.W.Frag} {ta : TA} {g : TG} {tb : TS} {D : Ends} {σ : St} {H : Hp} : zuc (zso K ta) g tb D σ H = ta σ H fun vs H1 => ∃ a, vs = [.ref a] ∧ (∃ xs, SqT K H1 a xs) ∧ zws (zwr K a) g tb D σ H1 := rfl
theorem zko {K : PySem.W.Frag} {ta : TA} {g : TG} {tb : TS} {D : Ends} {σ : St} {H : Hp} : zuc (zy3 K ta) g tb D σ H = ta σ H fun vs H1 => ∃ a b, vs = [.ref a, .ref b] ∧ (∃ xs, SqT K H1 a xs) ∧ (∃ ys, SqT K H1 b ys) ∧ zws (zyy K a b) g tb D σ H1 := rfl
theorem zif {ta : TA} {g : TG} {tt : TT} {te : TE} {mp : List (Option Nat)} {σ : St} {H : Hp} {Q : VK} : zj0 (zy4 ta) g tt te mp σ H Q = ta σ H fun vs H1 => ∃ i j : Int, vs = [.int i, .int j] ∧ (-(2 ^ 62) ≤ i ∧ i < 2 ^ 62 ∧ -(2 ^ 62) ≤ j ∧ j < 2 ^ 62) ∧ zfi (Itr i (j - i).toNat) g tt te Q (subσ mp σ) H1 := rfl
local macro_rules | `(tactic| walk_at "rd7") => `(tactic| simp only [zif, zr0, zko, zzh, zzj, zqy, zoi, q3i, zrf, zvx, zgt, zpf, zub, zqx, tOp, ztz, tC, zz1, zi9, zz7, zq9, q0w, q1u, zww, zud, zua, tCB, zkp, zzi, zuf, tUn, rU, rI0, rI, q1y, tOr, q1v, tB, zug, q2h, zu9, tIf, q2i, zwx, zqz, zue, zoa, zui, zo9, zwy, zkn, zwz, tSl, zix, zu8, q20, zmu, zrg, zup, zx5, zgp, zie, ziy, zgm, zgs,  zhv, ztd, z9x, zfe, znz, zhw, zcu, z9y, zcv, zk4, zhx, zcw, zeq, zr1, zz6, q2o, tDX, q2j, q1t, q1w, tBM,
 qEq, qNe, qIn, zky, q25, zun, q2u, zx4, q24, zuo, q26, q23, zx6, zx7, zrh, rIx, zzq, zre, q21, q22, q2p, zx3, q2r, q2q, zj9, zj8, zo8, zr2, zzf,
 ziz, zgo, zgn, zgq, zer, zgr, L2.start, zte, zff, zk5, List.map_cons, List.map_nil, List.length_cons, List.length_nil, List.replicate_succ, List.replicate_zero, Nat.reduceAdd, Nat.reduceSub, Nat.zero_add, Nat.add_zero, Nat.sub_zero, Nat.sub_self, Nat.add_sub_cancel,
 List.getElem?_cons_zero, List.getElem?_cons_succ, List.set_cons_zero, List.set_cons_succ, List.cons_append, List.nil_append, List.append_nil, List.cons.injEq, Option.some.injEq, V.int.injEq, V.ref.injEq, V.str.injEq, V.bl.injEq, V.ty.injEq,
 reduceCtorEq, false_and, and_false, and_true, true_and, exists_false, exists_const, false_or, or_false, exists_eq_left, exists_eq_left', exists_eq_right, exists_eq_right', exists_and_left, decide_eq_true_eq, Bool.not_eq_true', Bool.decide_eq_true, exists_eq, true_or, or_true, Bool.false_eq_true, if_true, if_false, Bool.true_eq_false, Bool.not_true, Bool.not_false, decide_true, decide_false, List.isEmpty_cons, List.isEmpty_nil, Bool.true_and, Bool.false_and, bne_self_eq_false, beq_self_eq_true])
section
variable {P : Program} {w : World} {K : PySem.W.Frag} {mg : Str → Option Value} {base : Heap} {f : Addr} {fd : FuncData}
theorem z0s {a b : TS} {D : Ends} {σ : St} {H : Hp} (h : ∀ N : St → Hp → Prop, N = b D → a { D with nx := N } σ H) : zpf a b D σ H := h _ rfl
theorem zvw {c : TT} {a b : TS} {D : Ends} {σ : St} {H : Hp} (h : ∀ Y Z : St → Hp → Prop, Y = a D → Z = b D → zub c (fun _ => Y) (fun _ => Z) D σ H) : zub c a b D σ H := h _ _ rfl rfl
theorem zzd {t1 t2 : TS} {c : TT} {a b : TS} {D : Ends} {σ : St} {H : Hp} (h : ∀ Y Z : St → Hp → Prop, Y = a D → Z = b D → zpf t1 (zpf t2 (zub c (fun _ => Y) (fun _ => Z))) D σ H) : zpf t1 (zpf t2 (zub c a b)) D σ H := h _ _ rfl rfl
def zkr (K : PySem.W.Frag) (n : Nat) : Sp := fun vs H Q _ => ∃ (a : Addr) (ns : List Int) (k : Int) (kn : Addr) (g : List Str) (d : Nat), vs = [.ref a, .int k, .ref kn, .int d] ∧ SqL K H a (ns.map V.int) ∧ 0 ≤ k ∧ H kn = some (.lst (g.map V.str)) ∧ Sub g pool ∧ 1 ≤ d ∧ d ≤ n ∧
 ∀ (r : V) (H' : Hp) (t : T), Same H H' → Dt H' r t.enc → t.ok g d → Q r H'
theorem q09 {n : Nat} (F : Fun K "_law_sum" "_law_sum" z1r f fd) (b_len : mg "len" = none) (c_law_pick : Callee P w K mg base "_law_pick" ["_law_script", "_law_k", "_law_many"] 2 (zd9 K))
  (c_law_sum : Callee P w K mg base "_law_sum" ["_law_script", "_law_at_here", "_law_known", "_law_deep"] (n + 3) (zkr K n)) : FnOk P w K mg base CX0 (n + 4) f fd ["_law_script", "_law_at_here", "_law_known", "_law_deep"] (zkr K (n + 1)) := by
 refine F.ok sc_law_sum (fun vs H Q E h => ?_) (fun cdv A outer s H vs Q E hr h => ?_)
 ·obtain ⟨a, ns, k, kn, g, d, rfl, _⟩ := h
  rfl
 obtain ⟨a, ns, k, kn, g, d, rfl, hS, h0, hk, hg, hd1, hd2, q⟩ := h
 refine ⟨_, (z05 (z1e (i := 4) sc_law_sum.nd rfl zbm (z1d c_law_pick hr (by omega) (z07 (z00 (i := 0) rfl z1c z09 z0a) (z07 (z00 (i := 1) rfl z19 z0k z0l) (z07 z01 z04))) z2m z1b) (z06 rfl))
 (z05 (z2k (PW.pt (zkz (z0f zc1 (z00 (i := 3) rfl z4d z2p z2q) z01 (z0w _)) (zih (z0f zla (z00 (i := 4) rfl zbh zcq zcy) z01 (z0w _))))) (z05 (z2k (PW.pt (zw1 (z0f (gNe hr.units) (z00 (i := 2) rfl z25 z10 z11) (z4q z04) (z0w _)) (zri (z0f zuy (z1d c_law_pick hr (by omega) (z07 (z00 (i := 0) rfl z1c z09 z0a) (z07 (z16 z28 (z00 (i := 1) rfl z19 z0k z0l) z01) (z07 z01 z04))) z2m z1b) z01 (z0w _))))) (z08 (z0o (z0z (z07 z0u (z07 (z0v z5c (z00 (i := 2) rfl z25 z10 z11) (z1d c_law_pick hr (by omega) (z07 (z00 (i := 0) rfl z1c z09 z0a) (z07 (z16 z28 (z00 (i := 1) rfl z19 z0k z0l) z01) (z07 (zcb zve zi7 b_len zef (z07 (z00 (i := 2) rfl z25 z10 z11) z04) zdk ze6) z04))) z2m z1b) (fun _ _ => rfl)) z04))))) z0y)
 (z08 (z0o (z0z (z07 z0u (z07 (z0v z5c (z4q (z07 z01 (z07 z01 (z07 (zrp zkk z01) (z07 z01 (z07 z01 (z07 z01 (z07 (zrp zkk z01) (z07 z01 (z07 (zrp zkk z01) (z07 z01 (z07 z01 (z07 (zrp zkk z01) z04))))))))))))) (z1d c_law_pick hr (by omega) (z07 (z00 (i := 0) rfl z1c z09 z0a) (z07 (z16 z28 (z00 (i := 1) rfl z19 z0k z0l) z01) (z07 z01 z04))) z2m z1b) (fun _ _ => rfl)) z04)))))) z0y)
 (z05 (z1e (i := 5) sc_law_sum.nd rfl zad (z4q (z07 z0u (z07 z0u (z07 z0u (z07 z0u (z07 z0u (z07 z0u (z07 z0u (z07 z0u (z07 z0u (z07 z0u z04))))))))))) (z06 rfl))
 (z05 (z1e (i := 6) sc_law_sum.nd rfl zbn (z1d c_law_sum hr (by omega) (z07 (z00 (i := 0) rfl z1c z09 z0a) (z07 (z16 z28 (z16 zaq z01 (z00 (i := 1) rfl z19 z0k z0l)) z01) (z07 (z00 (i := 2) rfl z25 z10 z11) (z07 (z16 zdg (z00 (i := 3) rfl z4d z2p z2q) z01) z04)))) z77 z7c) (z06 rfl))
 (z08 (z0o (z0z (z07 (z0v z5c (z00 (i := 5) rfl za9 zk2 zk8) (z1d c_law_pick hr (by omega) (z07 (z00 (i := 0) rfl z1c z09 z0a) (z07 (z16 z28 (z00 (i := 1) rfl z19 z0k z0l) z01) (z07 z01 z04))) z2m z1b) (fun _ _ => rfl)) (z07 (z00 (i := 6) rfl zbi z7d z7f) (z07 (z1d c_law_sum hr (by omega) (z07 (z00 (i := 0) rfl z1c z09 z0a) (z07 (z16 z28 (z16 zaq z01 (z00 (i := 1) rfl z19 z0k z0l)) z01) (z07 (z00 (i := 2) rfl z25 z10 z11) (z07 (z16 zdg (z00 (i := 3) rfl z4d z2p z2q) z01) z04)))) z77 z7c) z04)))))))))), z0s fun N1 e1 => ?_⟩
 walk_at "rd"
 refine ⟨a, ns, k, 10, rfl, hS, h0, by decide, fun i H1 i0 i1 s1 => ?_⟩
 rw [e1]
 refine z0s fun N2 e2 => zvw fun Y Z eY eZ => ?_
 walk_at "rd"
 have leaf : ∀ (H1 : Hp), Same H H1 → Y [some (.ref a), some (.int k), some (.ref kn), some (.int d), some (.int i), none, none] H1 := by
  intro H1 s1
  rw [eY]
  walk_at "rd"
  have num : ∀ (H2 : Hp) (p : Addr), Same H H2 → H2 p = none → zd9 K [V.ref a, V.int (k + 3), V.int 12] (upd H2 p (HO.lst [V.int 0, V.int 1, V.int (-1), V.int 2, V.int 3, V.int 7, V.int (-8), V.int 100, V.int (-129), V.int 300, V.int 32767, V.int (-32768)])) (fun y H2 => ∃ x x_1, y = V.int x_1 ∧ SqL K H2 p x ∧ ∃ x_2, atI x x_1 = some x_2 ∧ 2 ≤ sizeLine ∧ ∀ (p : Addr), H2 p = none → Q (V.ref p) (upd H2 p (HO.tup [V.str (Str.ofString "num"), x_2]))) E0 := by
   intro H2 p s2 hp
   have s3 := z03 hp (HO.lst [V.int 0, V.int 1, V.int (-1), V.int 2, V.int 3, V.int 7, V.int (-8), V.int 100, V.int (-129), V.int 300, V.int 32767, V.int (-32768)])
   refine ⟨a, ns, k + 3, 12, rfl, (s2.trans s3).seq hS, by omega, by decide, fun j H3 j0 j1 s4 => ?_⟩
   obtain ⟨v, hv, e⟩ := za3 (c := V.int) (ns := [0, 1, -1, 2, 3, 7, -8, 100, -129, 300, 32767, -32768]) (k := j) j0 j1
   refine ⟨_, _, rfl, SqL.of (s4 _ _ z02), _, e, zl 2 (by decide), fun r hr' => ?_⟩
   refine q _ _ (.num v) ((s2.trans s3).trans (s4.trans (z03 hr' _))) (.tup z02 (.cons (.str _) (.cons (.int _) .nil))) ?_
   obtain ⟨d', rfl⟩ : ∃ d', d = d' + 1 := ⟨d - 1, by omega⟩
   show -32768 ≤ v ∧ v ≤ 32767
   simp only [List.mem_cons, List.not_mem_nil, or_false] at hv
   omega
  refine ⟨Nat.zero_le _, fun p hp => ?_⟩
  have s2 := z03 hp (HO.lst [])
  have hk2 : (upd H1 p (HO.lst [])) kn = some (.lst (g.map V.str)) := s2 _ _ (s1 _ _ hk)
  refine ⟨_, .inr ⟨_, SqL.of hk2, _, SqL.of z02, zw7 hg, rfl, (zsu _).symm⟩, ?_⟩
  split
  ·rename_i hne
   refine ⟨a, ns, k + 1, 3, rfl, (s1.trans s2).seq hS, by omega, by decide, fun j H3 j0 j1 s3 => ?_⟩
   refine ⟨_, rfl, ?_⟩
   have s03 := (s1.trans s2).trans s3
   split
   ·have hk3 := s3 _ _ hk2
    refine ⟨_, q0j (SqL.of hk3), ?_⟩
    have hl : 0 < ((g.map V.str).length : Int) := by
     cases g with
     | nil => exact absurd rfl (Bool.eq_false_iff.mp hne)
     | cons x r => simp only [List.map_cons, List.length_cons]; omega
    refine ⟨a, ns, k + 2, _, rfl, s03.seq hS, by omega, hl, fun m H4 m0 m1 s4 => ?_⟩
    obtain ⟨v, hv, e⟩ := za3 (c := V.str) (ns := g) (k := m) m0 (by rw [List.length_map] at m1; exact m1)
    refine ⟨_, _, rfl, SqL.of (s4 _ _ hk3), _, e, zl 2 (by decide), fun r hr' => ?_⟩
    refine q _ _ (.nm v) (s03.trans (s4.trans (z03 hr' _))) (.tup z02 (.cons (.str _) (.cons (.str _) .nil))) ?_
    obtain ⟨d', rfl⟩ : ∃ d', d = d' + 1 := ⟨d - 1, by omega⟩
    exact hv
   ·exact ⟨zl 12 (by decide), fun p2 hp2 => num _ p2 s03 hp2⟩
  ·exact ⟨zl 12 (by decide), fun p2 hp2 => num _ p2 (s1.trans s2) hp2⟩
 split
 ·exact leaf H1 s1
 ·split
  ·exact leaf H1 s1
  ·rename_i hd _
   rw [eZ]
   show N2 _ _
   rw [e2]
   refine z0s fun N3 e3 => ?_
   walk_at "rd"
   refine ⟨zl 10 (by decide), fun p hp => ?_⟩
   rw [e3]
   refine z0s fun N4 e4 => ?_
   walk_at "rd"
   refine ⟨.inl ⟨by decide, by decide⟩, ?_⟩
   have s2 := z03 hp (HO.lst [V.str "add", V.str "sub", V.str "mul", V.str "quo", V.str "less", V.str "same", V.str "min", V.str "max", V.str "add", V.str "less"])
   have s02 := s1.trans s2
   have ed : ((d : Int) - 1) = ((d - 1 : Nat) : Int) := by omega
   have hd3 : 2 ≤ d := by omega
   rw [ed]
   refine ⟨a, ns, _, kn, g, d - 1, rfl, s02.seq hS, by omega, s02 _ _ hk, hg, by omega, by omega, fun r1 H2 t1 s3 d1 k1 => ?_⟩
   have s03 := s02.trans s3
   rw [e4]
   walk_at "rd"
   refine ⟨a, ns, k + 4, 10, rfl, s03.seq hS, by omega, by decide, fun j H3 j0 j1 s4 => ?_⟩
   have s04 := s03.trans s4
   obtain ⟨v, hv, e⟩ := za3 (c := fun w : Wd => V.str w.str) (ns := [.add, .sub, .mul, .quo, .less, .same, .min, .max, .add, .less]) (k := j) j0 j1
   refine ⟨_, _, rfl, SqL.of (s4 _ _ (s3 _ _ z02)), _, e, .inl ⟨by decide, by decide⟩, ?_⟩
   rw [ed]
   refine ⟨a, ns, _, kn, g, d - 1, rfl, s04.seq hS, by omega, s04 _ _ hk, hg, by omega, by omega, fun r2 H4 t2 s5 d2 k2 => ?_⟩
   refine ⟨zl 3 (by decide), fun p3 hp3 => ?_⟩
   have s6 := z03 hp3 (HO.tup [V.str v.str, r1, r2])
   refine q _ _ (.op v t1 t2) (s04.trans (s5.trans s6)) (.tup z02 (.cons (.str _) (.cons (d1.kp (s4.trans (s5.trans s6)).kp) (.cons (d2.kp s6.kp) .nil)))) ?_
   obtain ⟨d', rfl⟩ : ∃ d', d = d' + 1 := ⟨d - 1, by omega⟩
   exact ⟨k1, k2⟩
theorem zv4 {k : Nat} : FnOk P w K mg base CX0 k f fd ["_law_script", "_law_at_here", "_law_known", "_law_deep"] (zkr K 0) := by
 have no : ∀ vs H Q E, ¬ zkr K 0 vs H Q E := fun vs H Q E h => by
  obtain ⟨a, ns, k, kn, g, d, _, _, _, _, _, h1, h2, _⟩ := h
  omega
 exact ⟨fun vs H Q E h => absurd h (no vs H Q E), fun A outer s H args us vs Q E _ _ _ _ h => absurd h (no vs H Q E)⟩
theorem ztw (d : Df K mg "_law_sum" z1r ["_law_script", "_law_at_here", "_law_known", "_law_deep"] f fd) (b_len : mg "len" = none) (c_law_pick : Callee P w K mg base "_law_pick" ["_law_script", "_law_k", "_law_many"] 2 (zd9 K)) :
  ∀ n : Nat, Callee P w K mg base "_law_sum" ["_law_script", "_law_at_here", "_law_known", "_law_deep"] (n + 3) (zkr K n)
 | 0 => d.callee zv4
 | n + 1 => d.callee (q09 d.F b_len c_law_pick (ztw d b_len c_law_pick n))
def zgx (K : PySem.W.Frag) : Sp := fun vs H Q _ => ∃ (a : Addr) (ns : List Int) (k : Int) (kn : Addr) (g g1 : List Str) (rb : V) (b : List D) (d : Nat) (di : Int), vs = [.ref a, .int k, .ref kn, rb, .int di] ∧ SqL K H a (ns.map V.int) ∧ 0 ≤ k ∧ H kn = some (.lst (g.map V.str)) ∧ Sub g pool ∧ g ≠ [] ∧
 Dt H rb (.tup (z3u b)) ∧ okB d b ∧ b.length ≤ 4 ∧ b ≠ [] ∧ Knows g b g1 ∧ 1 ≤ d ∧ ∀ (r : V) (H' : Hp) (e : D), Same H H' → Dt H' r e.enc → okD d e → KnowsD g e g → Q r H'
theorem zq0 (F : Fun K "_law_counted" "_law_counted" z0i f fd) (b_len : mg "len" = none) (c_law_pick : Callee P w K mg base "_law_pick" ["_law_script", "_law_k", "_law_many"] 2 (zd9 K))
  (c_law_sum : Callee P w K mg base "_law_sum" ["_law_script", "_law_at_here", "_law_known", "_law_deep"] 6 (zkr K 3)) : FnOk P w K mg base CX0 7 f fd ["_law_script", "_law_at_here", "_law_known", "_law_body", "_law_deep"] (zgx K) := by
 refine F.ok sc_law_counted (fun vs H Q E h => ?_) (fun cdv A outer s H vs Q E hr h => ?_)
 ·obtain ⟨a, ns, k, kn, g, g1, rb, b, d, di, rfl, _⟩ := h
  rfl
 obtain ⟨a, ns, k, kn, g, g1, rb, b, d, di, rfl, hS, h0, hk, hg, hne, hb, hob, hbl, hbn, hkn, hd1, q⟩ := h
 refine ⟨_, (z05 (z1e (i := 5) sc_law_counted.nd rfl z4r (z0v z5c (z4q (z07 z01 (z07 z01 (z07 z01 (z07 z01 (z07 z01 z04)))))) (z1d c_law_pick hr (by omega) (z07 (z00 (i := 0) rfl z1a z09 z0a) (z07 (z00 (i := 1) rfl z15 z0k z0l) (z07 z01 z04))) z1w z1b) (fun _ _ => rfl)) (z06 rfl))
 (z05 (z2k (z0f zla (z00 (i := 4) rfl z7t z2p z2q) z01 (z0w _)) (z08 (z1e (i := 5) sc_law_counted.nd rfl z4r (z16 zl9 (z00 (i := 5) rfl z35 zb5 zba) z01) (z06 rfl))) z0y)
 (z05 (z2k (z0f zc1 (z1d c_law_pick hr (by omega) (z07 (z00 (i := 0) rfl z1a z09 z0a) (z07 (z16 z28 (z00 (i := 1) rfl z15 z0k z0l) z01) (z07 z01 z04))) z1w z1b) z01 (z0w _)) (z08 (z0o (z0z (z07 z0u (z07 (z1d c_law_sum hr (by omega) (z07 (z00 (i := 0) rfl z1a z09 z0a) (z07 (z16 z28 (z00 (i := 1) rfl z15 z0k z0l) z01) (z07 (z00 (i := 2) rfl z2z z10 z11) (z07 z01 z04)))) z9p z7c) (z07 (z00 (i := 5) rfl z35 zb5 zba) (z07 (z00 (i := 3) rfl z4o zb6 zbb) z04))))))) z0y)
 (z05 (z1e (i := 6) sc_law_counted.nd rfl z82 (z0z (z07 z0u (z07 (z0v z5c (z00 (i := 2) rfl z2z z10 z11) (z1d c_law_pick hr (by omega) (z07 (z00 (i := 0) rfl z1a z09 z0a) (z07 (z16 z28 (z00 (i := 1) rfl z15 z0k z0l) z01) (z07 (zcb zve zdv b_len zef (z07 (z00 (i := 2) rfl z2z z10 z11) z04) zdk ze6) z04))) z1w z1b) (fun _ _ => rfl)) z04))) (z06 rfl))
 (z05 (z1e (i := 7) sc_law_counted.nd rfl z84 (z0z (z07 z0u (z07 (z0v z5c (z4q (z07 (zrp zkk z01) (z07 z01 (z07 z01 (z07 z01 z04))))) (z1d c_law_pick hr (by omega) (z07 (z00 (i := 0) rfl z1a z09 z0a) (z07 (z16 z28 (z00 (i := 1) rfl z15 z0k z0l) z01) (z07 z01 z04))) z1w z1b) (fun _ _ => rfl)) z04))) (z06 rfl))
 (z05 (z1e (i := 8) sc_law_counted.nd rfl z83 (z0z (z07 z0u (z07 (z0v z0e (z00 (i := 6) rfl z34 z62 z65) z01 (fun _ _ => rfl)) (z07 (z0z (z07 z0u (z07 (z00 (i := 6) rfl z34 z62 z65) (z07 (z0z (z07 z0u (z07 (z16 z28 z01 (z1d c_law_pick hr (by omega) (z07 (z00 (i := 0) rfl z1a z09 z0a) (z07 (z16 z28 (z00 (i := 1) rfl z15 z0k z0l) z01) (z07 z01 z04))) z1w z1b)) z04))) z04)))) z04)))) (z06 rfl))
 (z08 (z0o (z0z (z07 z0u (z07 (z0z (z07 z0u (z07 (z00 (i := 6) rfl z34 z62 z65) (z07 (z00 (i := 7) rfl z7s zm6 zmf) z04)))) (z07 (z00 (i := 5) rfl z35 zb5 zba) (z07 (z16 z2b (z00 (i := 3) rfl z4o zb6 zbb) (z0z (z07 (z00 (i := 8) rfl z7r zm2 zmb) z04))) z04))))))))))))), z0s fun N1 e1 => ?_⟩
 walk_at "rd"
 have hl : 0 < ((g.map V.str).length : Int) := by
  cases g with
  | nil => exact absurd rfl hne
  | cons x r => simp only [List.map_cons, List.length_cons]; omega
 refine ⟨zl 5 (by decide), fun p hp => ?_⟩
 have s1 := z03 hp (HO.lst [V.int 0, V.int 1, V.int 3, V.int 6, V.int 20])
 refine ⟨a, ns, k, 5, rfl, s1.seq hS, h0, by decide, fun i H2 i0 i1 s2 => ?_⟩
 have s02 := s1.trans s2
 obtain ⟨v, hv, e⟩ := za3 (c := V.int) (ns := [0, 1, 3, 6, 20]) (k := i) i0 i1
 have hv2 : 0 ≤ v ∧ v ≤ 20 := by
  simp only [List.mem_cons, List.not_mem_nil, or_false] at hv
  omega
 refine ⟨_, _, rfl, SqL.of (s2 _ _ z02), _, e, ?_⟩
 obtain ⟨ab, xs, rfl, hab, hda⟩ := hb.tupI
 have hxl : xs.length = b.length := by rw [hda.length, z2l]
 have hxs : xs ≠ [] := fun z => hbn (List.length_eq_zero_iff.mp (by rw [← hxl, z]; rfl))
 rw [e1]
 refine z0s fun N2 e2 => ?_
 walk_at "rd"
 suffices key : ∀ mv : Int, 0 ≤ mv ∧ mv ≤ 20 → N2 [some (.ref a), some (.int k), some (.ref kn), some (.ref ab), some (.int di), some (.int mv), none, none, none] H2 by
  split
  ·exact ⟨by decide, key (v % 4) (by omega)⟩
  ·exact key v hv2
 intro mv hv3
 rw [e2]
 refine z0s fun N3 e3 => ?_
 walk_at "rd"
 refine ⟨a, ns, k + 1, 4, rfl, s02.seq hS, by omega, by decide, fun j H3 j0 j1 s3 => ?_⟩
 refine ⟨_, rfl, ?_⟩
 have s03 := s02.trans s3
 split
 ·refine ⟨a, ns, k + 2, kn, g, 2, rfl, s03.seq hS, by omega, s03 _ _ hk, hg, by decide, by decide, fun r1 H4 t1 s4 d1 k1 => ?_⟩
  refine ⟨zl 4 (by decide), fun p2 hp2 => ?_⟩
  exact q _ _ (.whl t1 _ b) (s03.trans (s4.trans (z03 hp2 _))) (.tup z02 (.cons (.str _) (.cons (d1.kp (z03 hp2 _).kp) (.cons (.int _) (.cons (hb.kp (s03.trans (s4.trans (z03 hp2 _))).kp) .nil))))) ⟨k1.mono hg (by decide), by omega, by omega, hob⟩ (KnowsD.whl k1 hkn)
 ·have hk3 := s03 _ _ hk
  rw [e3]
  refine z0s fun N4 e4 => ?_
  walk_at "rd"
  refine ⟨_, q0j (SqL.of hk3), ?_⟩
  refine ⟨a, ns, k + 3, _, rfl, s03.seq hS, by omega, hl, fun m H4 m0 m1 s4 => ?_⟩
  obtain ⟨x, hx, e⟩ := za3 (c := V.str) (ns := g) (k := m) m0 (by rw [List.length_map] at m1; exact m1)
  refine ⟨_, _, rfl, SqL.of (s4 _ _ hk3), _, e, zl 2 (by decide), fun pn hpn => ?_⟩
  have s5 := z03 hpn (HO.tup [V.str "name", V.str x])
  rw [e4]
  refine z0s fun N5 e5 => ?_
  walk_at "rd"
  refine ⟨zl 4 (by decide), fun pg hpg => ?_⟩
  have s6 := z03 hpg (HO.lst [V.int (-2), V.int 1, V.int 3, V.int 5])
  have s06 := s03.trans (s4.trans (s5.trans s6))
  refine ⟨a, ns, k + 4, 4, rfl, s06.seq hS, by omega, by decide, fun l H5 l0 l1 s7 => ?_⟩
  obtain ⟨gv, hgv, e2⟩ := za3 (c := V.int) (ns := [-2, 1, 3, 5]) (k := l) l0 l1
  have hgv2 : -32768 ≤ gv ∧ gv ≤ 32767 := by
   simp only [List.mem_cons, List.not_mem_nil, or_false] at hgv
   omega
  refine ⟨_, _, rfl, SqL.of (s7 _ _ z02), _, e2, zl 2 (by decide), fun pl hpl => ?_⟩
  have s8 := z03 hpl (HO.tup [V.str "num", V.int gv])
  have s68 := s6.trans (s7.trans s8)
  have s08 := s03.trans (s4.trans (s5.trans s68))
  rw [e5]
  refine z0s fun N6 e6 => ?_
  walk_at "rd"
  refine ⟨_, SqT.of (s68 _ _ z02), V.str x, rfl, ?_⟩
  refine ⟨a, ns, k + 5, 3, rfl, s08.seq hS, by omega, by decide, fun z H6 z0 z1 s9 => ?_⟩
  refine ⟨_, rfl, zl 2 (by decide), fun p1 h1 => ⟨zl 3 (by decide), fun p2 h2 => ⟨zl 3 (by decide), fun p3 h3 => ?_⟩⟩⟩
  rw [e6]
  walk_at "rd"
  refine ⟨zl 3 (by decide), fun p4 h4 => ⟨zl 1 (by decide), fun p5 h5 => ?_⟩⟩
  have u1 := z03 h1 (HO.tup [V.str "num", V.int (1 + z)])
  have u2 := z03 h2 (HO.tup [V.str "add", V.ref pn, V.ref p1])
  have u3 := z03 h3 (HO.tup [V.str "set", V.str x, V.ref p2])
  have u4 := z03 h4 (HO.tup [V.str "less", V.ref pn, V.ref pl])
  have u5 := z03 h5 (HO.tup [V.ref p3])
  have u05 := s08.trans (s9.trans (u1.trans (u2.trans (u3.trans (u4.trans u5)))))
  refine ⟨xs, SqT.of (u05 _ _ hab), [V.ref p3], SqT.of z02, by rw [List.length_singleton]; exact zl _ (by omega), fun h => absurd h hxs, fun _ h => absurd h (by simp), fun _ _ p6 h6 => ⟨zl 4 (by decide), fun p7 h7 => ?_⟩⟩
  have u6 := z03 h6 (HO.tup (xs ++ [V.ref p3]))
  have u67 := u6.trans (z03 h7 (HO.tup [V.str "while", V.ref p4, V.int mv, V.ref p6]))
  have u57 := u5.trans u67
  have dn : Dt (upd H4 pn (HO.tup [V.str "name", V.str x])) (.ref pn) (T.nm x).enc := .tup z02 (.cons (.str _) (.cons (.str _) .nil))
  have dl : Dt (upd H5 pl (HO.tup [V.str "num", V.int gv])) (.ref pl) (T.num gv).enc := .tup z02 (.cons (.str _) (.cons (.int _) .nil))
  have dz : Dt (upd H6 p1 (HO.tup [V.str "num", V.int (1 + z)])) (.ref p1) (T.num (1 + z)).enc := .tup z02 (.cons (.str _) (.cons (.int _) .nil))
  have s9u := s9.trans u1
  have da : Dt _ (.ref p2) (T.op .add (.nm x) (.num (1 + z))).enc := .tup (z02 (H := upd H6 p1 (HO.tup [V.str "num", V.int (1 + z)]))) (.cons (.str _) (.cons (dn.kp (s68.trans (s9u.trans u2)).kp) (.cons (dz.kp u2.kp) .nil)))
  have ds : Dt _ (.ref p3) (D.set x (T.op .add (.nm x) (.num (1 + z)))).enc := .tup z02 (.cons (.str _) (.cons (.str _) (.cons (da.kp u3.kp) .nil)))
  have de : Dt _ (.ref p4) (T.op .less (.nm x) (.num gv)).enc := .tup z02 (.cons (.str _) (.cons (dn.kp (s68.trans (s9u.trans (u2.trans (u3.trans u4)))).kp) (.cons (dl.kp (s9u.trans (u2.trans (u3.trans u4))).kp) .nil)))
  have dB : Dt _ (.ref p6) (.tup (z3u b ++ [(D.set x (T.op .add (.nm x) (.num (1 + z)))).enc])) := .tup z02 ((hda.kp (u05.trans u6).kp).append (.cons (ds.kp (u4.trans (u5.trans u6)).kp) .nil))
  rw [show z3u b ++ [(D.set x (T.op .add (.nm x) (.num (1 + z)))).enc] = z3u (b ++ [D.set x (T.op .add (.nm x) (.num (1 + z)))]) by rw [z4h, z3u, z3u]] at dB
  have hz : -32768 ≤ 1 + z ∧ 1 + z ≤ 32767 := by omega
  refine q _ _ (.whl (.op .less (.nm x) (.num gv)) _ (b ++ [D.set x (T.op .add (.nm x) (.num (1 + z)))])) (u05.trans u67) (.tup z02 (.cons (.str _) (.cons (de.kp u57.kp) (.cons (.int _) (.cons (dB.kp (z03 h7 _).kp) .nil))))) ⟨⟨hg x hx, hgv2⟩, by omega, by omega, ?_⟩ (KnowsD.whl (n := 2) ⟨hx, hgv2⟩ (hkn.sub.snoc (KnowsD.set (n := 2) (g' := g) ⟨hx, hz⟩ fun y hy => .inl hy)))
  obtain ⟨d', rfl⟩ : ∃ d', d = d' + 1 := ⟨d - 1, by omega⟩
  refine ⟨by rw [List.length_append, List.length_singleton]; omega, fun c hc => ?_⟩
  rcases List.mem_append.mp hc with hc | hc
  ·exact hob.2 c hc
  ·have ec : c = D.set x (T.op .add (.nm x) (.num (1 + z))) := by simpa using hc
   subst ec
   exact ⟨hg x hx, ⟨hg x hx, hz⟩⟩
def zqg : Nat → Nat
 | 1 => 1 | 2 => 2 | 3 => 6 | _ => 0
def zpo : Nat → Nat
 | 3 => 2 | _ => 1
theorem pg1 (d : Nat) : 1 ≤ zpo d := by unfold zpo; split <;> decide
theorem pgc {d j : Nat} (h1 : 1 ≤ d) (h3 : d ≤ 3) (hj : j ≤ d) : j * zpo d ≤ zqg d := by
 have : d = 1 ∨ d = 2 ∨ d = 3 := by omega
 rcases this with rfl | rfl | rfl <;> simp only [zpo, zqg] <;> omega
theorem cgp {d : Nat} (h1 : 2 ≤ d) (h3 : d ≤ 3) : zqg (d - 1) ≤ zpo d := by
 have : d = 2 ∨ d = 3 := by omega
 rcases this with rfl | rfl <;> decide
theorem cg6 (d : Nat) : zqg d ≤ 6 := by unfold zqg; split <;> decide
theorem zza {Hy C : Hp → Prop} {G : Prop} (h1 : (∀ Hx, Hy Hx → C Hx) → G) (h2 : ∀ Hx, Hy Hx → C Hx) : G := h1 h2
def zet (K : PySem.W.Frag) (n : Nat) : Sp := fun vs H Q _ => ∃ (a : Addr) (ns : List Int) (k : Int) (kn : Addr) (g : List Str) (d : Nat), vs = [.ref a, .int k, .ref kn, .int d] ∧ SqL K H a (ns.map V.int) ∧ 0 ≤ k ∧ H kn = some (.lst (g.map V.str)) ∧ Sub g pool ∧ 1 ≤ d ∧ d ≤ n ∧ d ≤ 3 ∧ g.length + 100 * d ≤ 900 ∧
 ∀ (r rb rk : Addr) (H' : Hp) (b : List D) (g' : List Str), Same H H' → H' r = some (.tup [.ref rb, .ref rk]) → Dt H' (.ref rb) (.tup (z3u b)) → H' rk = some (.lst (g'.map V.str)) → okB d b → b.length ≤ d → b ≠ [] → Knows g b g' → Sub g' pool → g'.length ≤ g.length + zqg d → (rk = kn ∨ H rk = none) → Q (.ref r) H'
def q4l (U3 : Hp) (kc : Addr) (g' : List Str) (x : Str) (i : Nat) (ys : List V) (σ' : St) (H' : Hp) : Prop := H' = U3 ∧ (∃ t, σ' = [t, some (.ref kc)]) ∧ ((i = 0 ∧ ys = []) ∨ (i = 1 ∧ ys = (if g'.contains x then [] else [x]).map V.str))
def q4j (U2 : Hp) (rk2 : Addr) (g1 g2 : List Str) (i : Nat) (ys : List V) (σ' : St) (H' : Hp) : Prop := H' = U2 ∧ (∃ t, σ' = [t, some (.ref rk2)]) ∧ ys = ((g1.take i).filter fun x => g2.contains x).map V.str
def q4n (H : Hp) (kn a : Addr) (k : Int) (d : Nat) (pd : Addr) (g : List Str) (j : Nat) (σ : St) (Hc : Hp) : Prop :=
 ∃ (kc : Addr) (vs : List V) (b : List D) (g' : List Str) (x5 x6 x7 x8 x9 x10 x11 x12 x13 : Option V), σ = [some (.ref a), some (.int k), some (.ref kc), some (.int d), some (.ref pd), x5, x6, x7, x8, x9, x10, x11, x12, x13] ∧
  Same H Hc ∧ Hc pd = some (.lst vs) ∧ DtA Hc vs (z3u b) ∧ Hc kc = some (.lst (g'.map V.str)) ∧ kc ≠ pd ∧ Knows g b g' ∧ Sub g' pool ∧ b.length = j ∧ (∀ e ∈ b, okD (d - 1) e) ∧ g'.length ≤ g.length + j * zpo d ∧ (kc = kn ∨ H kc = none)
theorem zv2 {n : Nat} (F : Fun K "_law_block" "_law_block" z0c f fd) (b_range : mg "range" = none) (b_tuple : mg "tuple" = none) (c_law_pick : Callee P w K mg base "_law_pick" ["_law_script", "_law_k", "_law_many"] 2 (zd9 K))
  (c_law_sum : Callee P w K mg base "_law_sum" ["_law_script", "_law_at_here", "_law_known", "_law_deep"] 6 (zkr K 3)) (c_law_counted : Callee P w K mg base "_law_counted" ["_law_script", "_law_at_here", "_law_known", "_law_body", "_law_deep"] 7 (zgx K))
  (c_law_block : Callee P w K mg base "_law_block" ["_law_script", "_law_at_here", "_law_known", "_law_deep"] (n + 7) (zet K n)) : FnOk P w K mg base CX0 (n + 8) f fd ["_law_script", "_law_at_here", "_law_known", "_law_deep"] (zet K (n + 1)) := by
 refine F.ok sc_law_block (fun vs H Q E h => ?_) (fun cdv A outer s H vs Q E hr h => ?_)
 ·obtain ⟨a, ns, k, kn, g, d, rfl, _⟩ := h
  rfl
 obtain ⟨a, ns, k, kn, g, d, rfl, hS, h0, hk, hg, hd1, hd2, hd3, hgb, q⟩ := h
 refine ⟨_, (z05 (z1e (i := 4) sc_law_block.nd rfl z8t (z4q z04) (z06 rfl))
 (z05 (zdb PassesOwn.never rfl (zl3 zdx b_range (z07 (z16 z28 z01 (z1d c_law_pick hr (by omega) (z07 (z00 (i := 0) rfl z0r z09 z0a) (z07 (z00 (i := 1) rfl z4k z0k z0l) (z07 (z00 (i := 3) rfl z1l z2p z2q) z04))) z45 z1b)) z04)) (z1t (i := 5) sc_law_block.nd rfl zbo)
 (z05 (z1e (i := 6) sc_law_block.nd rfl z9j (z16 z28 (z16 zaq z01 (z00 (i := 1) rfl z4k z0k z0l)) (z16 zaq z01 (z16 z28 (z00 (i := 5) rfl zbj z4t z4v) z01))) (z06 rfl))
 (z05 (z1e (i := 7) sc_law_block.nd rfl zaf (z1d c_law_pick hr (by omega) (z07 (z00 (i := 0) rfl z0r z09 z0a) (z07 (z00 (i := 6) rfl z14 z3h z3i) (z07 z01 z04))) z45 z1b) (z06 rfl))
 (z08 (z2k (PW.pt (zkz (z0f zla (z00 (i := 7) rfl z5g zcq zcy) z01 (z0w _)) (zkz (z0f zc1 (z00 (i := 3) rfl z1l z2p z2q) z01 (z0w _)) (zih (z0f (gEq hr.units) (z00 (i := 2) rfl z0t z10 z11) (z4q z04) (z0w _)))))) (z05 (z1e (i := 8) sc_law_block.nd rfl z9g (z0v z5c (z4q (z07 z0u (z07 z0u (z07 z0u (z07 z0u z04))))) (z1d c_law_pick hr (by omega) (z07 (z00 (i := 0) rfl z0r z09 z0a) (z07 (z16 z28 (z00 (i := 6) rfl z14 z3h z3i) z01) (z07 z01 z04))) z45 z1b) (fun _ _ => rfl)) (z06 rfl))
 (z05 (z99 (zl4 PySem.F.plainAttrs_list PySem.F.slot_list_append PySem.F.type_list_append z8l (z00 (i := 4) rfl z2j z6r z6u) (z07 (z0z (z07 z0u (z07 (z00 (i := 8) rfl z54 z62 z65) (z07 (z1d c_law_sum hr (by omega) (z07 (z00 (i := 0) rfl z0r z09 z0a) (z07 (z16 z28 (z00 (i := 6) rfl z14 z3h z3i) z01) (z07 (z00 (i := 2) rfl z0t z10 z11) (z07 z01 z04)))) z60 z7c) z04)))) z04)) (z06 rfl))
 (z08 (z1e (i := 2) sc_law_block.nd rfl z51 (z16 q08 (z00 (i := 2) rfl z0t z10 z11) (zey ["_law_one", "_law_known"] [none, some 2] rfl (CompS.of (by rfl)) (z7z (z4q (z07 (z00 (i := 8) rfl z54 z62 z65) z04))) (fun _ _ _ _ _ => (z1t (i := 0) (show List.Nodup (["_law_one", "_law_known"] : List Str) from by decide +kernel) rfl (Or.inl rfl))) (fun _ _ _ _ _ => (zn3 (z0f (opK (r := zky) (K := K) (q0v hr.units) rfl) (z00 (i := 0) rfl (by first | exact Or.inl rfl | exact Or.inr (Or.inl rfl) | exact Or.inr (Or.inr rfl)) z7d z7f) (z00 (i := 1) rfl (by first | exact Or.inl rfl | exact Or.inr (Or.inl rfl) | exact Or.inr (Or.inr rfl)) z10 z11) (by with_unfolding_all rfl)))) (fun _ _ _ _ _ => (z00 (i := 0) rfl (by first | exact Or.inl rfl | exact Or.inr (Or.inl rfl) | exact Or.inr (Or.inr rfl)) z7d z7f)))) (z06 rfl))))) (z08 (z2k (z0f zla (z00 (i := 7) rfl z5g zcq zcy) z01 (z0w _)) (z05 (zw4 (z1d c_law_block hr (by omega) (z07 (z00 (i := 0) rfl z0r z09 z0a) (z07 (z16 z28 (z00 (i := 6) rfl z14 z3h z3i) z01) (z07 (z00 (i := 2) rfl z0t z10 z11) (z07 (z16 zdg (z00 (i := 3) rfl z1l z2p z2q) z01) z04)))) z3r z6s) (zfl (n := 2) rfl (z2a (z1t (i := 9) sc_law_block.nd rfl z8s) (z2a (z1t (i := 10) sc_law_block.nd rfl z9h) z80))))
 (z05 (zw4 (z1d c_law_block hr (by omega) (z07 (z00 (i := 0) rfl z0r z09 z0a) (z07 (z16 z28 (z00 (i := 6) rfl z14 z3h z3i) z01) (z07 (z00 (i := 2) rfl z0t z10 z11) (z07 (z16 zdg (z00 (i := 3) rfl z1l z2p z2q) z01) z04)))) z3r z6s) (zfl (n := 2) rfl (z2a (z1t (i := 11) sc_law_block.nd rfl z85) (z2a (z1t (i := 12) sc_law_block.nd rfl z8r) z80))))
 (z05 (z99 (zl4 PySem.F.plainAttrs_list PySem.F.slot_list_append PySem.F.type_list_append z8l (z00 (i := 4) rfl z2j z6r z6u) (z07 (z0z (z07 z0u (z07 (z1d c_law_sum hr (by omega) (z07 (z00 (i := 0) rfl z0r z09 z0a) (z07 (z16 z28 (z00 (i := 6) rfl z14 z3h z3i) z01) (z07 (z00 (i := 2) rfl z0t z10 z11) (z07 z01 z04)))) z60 z7c) (z07 (z00 (i := 9) rfl z8f ze9 zed) (z07 (z00 (i := 11) rfl z7u zc3 zc5) z04))))) z04)) (z06 rfl))
 (z08 (z1e (i := 2) sc_law_block.nd rfl z51 (zey ["_law_one", "_law_yours"] [none, some 12] rfl (CompS.of (by rfl)) (z7z (z00 (i := 10) rfl z93 zm3 zmc)) (fun _ _ _ _ _ => (z1t (i := 0) (show List.Nodup (["_law_one", "_law_yours"] : List Str) from by decide +kernel) rfl (Or.inl rfl))) (fun _ _ _ _ _ => (zn3 (z0f (opK (r := qIn) (K := K) (gIn hr.units) rfl) (z00 (i := 0) rfl (by first | exact Or.inl rfl | exact Or.inr (Or.inl rfl) | exact Or.inr (Or.inr rfl)) z7d z7f) (z00 (i := 1) rfl (by first | exact Or.inl rfl | exact Or.inr (Or.inl rfl) | exact Or.inr (Or.inr rfl)) zk0 zk6) (by with_unfolding_all rfl)))) (fun _ _ _ _ _ => (z00 (i := 0) rfl (by first | exact Or.inl rfl | exact Or.inr (Or.inl rfl) | exact Or.inr (Or.inr rfl)) z7d z7f))) (zpg z8d)))))) (z05 (z1e (i := 13) sc_law_block.nd rfl z9i (z0v z0e (z1d c_law_block hr (by omega) (z07 (z00 (i := 0) rfl z0r z09 z0a) (z07 (z16 z28 (z00 (i := 6) rfl z14 z3h z3i) z01) (z07 (z00 (i := 2) rfl z0t z10 z11) (z07 (z16 zdg (z00 (i := 3) rfl z1l z2p z2q) z01) z04)))) z3r z6s) z01 (fun _ _ => rfl)) (z06 rfl))
 (z08 (z99 (zl4 PySem.F.plainAttrs_list PySem.F.slot_list_append PySem.F.type_list_append z8l (z00 (i := 4) rfl z2j z6r z6u) (z07 (z1d c_law_counted hr (by omega) (z07 (z00 (i := 0) rfl z0r z09 z0a) (z07 (z16 z28 (z00 (i := 6) rfl z14 z3h z3i) z01) (z07 (z00 (i := 2) rfl z0t z10 z11) (z07 (z00 (i := 13) rfl z94 zb6 zbb) (z07 (z00 (i := 3) rfl z1l z2p z2q) z04))))) z89 zhu) z04)) (z06 rfl)))))))))))
 (z08 (z0o (z0z (z07 (zrt z6v zdw b_tuple zee (z07 (z00 (i := 4) rfl z2j z6r z6u) z04) zdj ze5) (z07 (z00 (i := 2) rfl z0t z10 z11) z04))))))), ?_⟩
 walk_at "rd"
 refine ⟨Nat.zero_le _, fun pd hpd => ?_⟩
 have s1 := z03 hpd (HO.lst [])
 refine ⟨a, ns, k, d, rfl, s1.seq hS, h0, by omega, fun i H2 i0 i1 s2 => ?_⟩
 have hnk : kn ≠ pd := z12 hk hpd
 refine ⟨_, rfl, by omega, by omega, ?_⟩
 refine zlo (lo := 0) (n := (1 + i).toNat) (q4n H kn a k d pd g) ?start ?step ?done
 case start => exact ⟨kn, [], [], g, none, none, none, none, none, none, none, none, none, rfl, s1.trans s2, s2 _ _ z02, .nil, (s1.trans s2) _ _ hk, hnk, Knows.nil g, hg, rfl, fun e he => absurd he (by simp), by omega, .inl rfl⟩
 case done =>
  rintro σ Hc ⟨kc, vs, b, g', x5, x6, x7, x8, x9, x10, x11, x12, x13, rfl, sc, hv, dv, hkc, hne, hkn, hg', hbl, hok, hgl, hkf⟩
  walk_at "rd"
  refine ⟨vs, .inl ⟨SqL.of hv, fun pb hpb => ⟨zl 2 (by decide), fun pr hpr => ?_⟩⟩⟩
  have sa := z03 hpb (HO.tup vs)
  have sb := z03 hpr (HO.tup [V.ref pb, V.ref kc])
  refine q pr pb kc _ b g' (sc.trans (sa.trans sb)) z02 (.tup (sb _ _ z02) (dv.kp (sa.trans sb).kp)) (sb _ _ (sa _ _ hkc)) ?_ (by omega) (fun z => by rw [z] at hbl; simp at hbl; omega) hkn hg' (Nat.le_trans hgl (Nat.add_le_add_left (pgc hd1 hd3 (by omega)) _)) hkf
  obtain ⟨d', rfl⟩ : ∃ d', d = d' + 1 := ⟨d - 1, by omega⟩
  exact ⟨by omega, fun e he => hok e he⟩
 case step =>
  rintro j σ Hc hj ⟨kc, vs, b, g', x5, x6, x7, x8, x9, x10, x11, x12, x13, rfl, sc, hv, dv, hkc, hne, hkn, hg', hbl, hok, hgl, hkf⟩
  have hjd : j < d := by omega
  have hg7 : g'.length ≤ g.length + 6 := Nat.le_trans hgl (Nat.add_le_add_left (Nat.le_trans (pgc hd1 hd3 (Nat.le_of_lt hjd)) (cg6 d)) _)
  have hvl : vs.length = j := by rw [dv.length, z2l, hbl]
  show zpf _ (zpf _ (zub _ _ _)) _ _ _
  refine zzd fun Y Z eY eZ => ?_
  walk_at "rd"
  refine ⟨.inl ⟨by decide, by decide⟩, .inl ⟨by decide, by decide⟩, ?_⟩
  refine ⟨a, ns, _, 7, rfl, sc.seq hS, by omega, by decide, fun wy H3 w0 w1 s3 => ?_⟩
  walk_at "rd"
  refine zza (Hy := fun Hx => Same H3 Hx) (C := ?cc) ?kk ?_
  case kk =>
   intro key
   split
   ·generalize hH : H3 = H3n
    exact key H3n (hH ▸ Same.refl _)
   ·split
    ·exact key H3 (Same.refl _)
    ·rename_i hd0
     refine ⟨Nat.zero_le _, fun pe hpe => ?_⟩
     have se := z03 hpe (HO.lst [])
     refine ⟨_, q0z (SqL.of (se _ _ (s3 _ _ hkc))) (zw7 hg') (SqL.of z02), ?_⟩
     replace s3 := s3.trans se
     generalize upd H3 pe (HO.lst []) = H3e at s3 se ⊢
     split
     ·exact key H3e se
     ·rename_i hne2
      rw [eZ]
      refine zvw fun Y2 Z2 eY2 eZ2 => ?_
      walk_at "rd"
      split
      ·rw [eY2]
       refine z0s fun N1 e1 => ?_
       walk_at "rd"
       have hd4 : 2 ≤ d := by
        have : ¬ (d : Int) = 1 := hd0
        omega
       have ed : ((d : Int) - 1) = ((d - 1 : Nat) : Int) := by omega
       rw [ed]
       refine ⟨a, ns, _, kc, g', d - 1, rfl, (sc.trans s3).seq hS, by omega, s3 _ _ hkc, hg', by omega, by omega, by omega, by omega, fun r1 rb1 rk1 H4 b1 g1 s4 hr1 db1 hk1 ob1 lb1 nb1 kn1 sp1 gl1 kf1 => ?_⟩
       refine ⟨_, rfl, _, SqT.of hr1, rfl, _, _, rfl, _, _, rfl, rfl, ?_⟩
       have s34 := s3.trans s4
       rw [e1]
       refine z0s fun N2 e2 => ?_
       walk_at "rd"
       rw [ed]
       refine ⟨a, ns, _, kc, g', d - 1, rfl, (sc.trans s34).seq hS, by omega, s34 _ _ hkc, hg', by omega, by omega, by omega, by omega, fun r2 rb2 rk2 H5 b2 g2 s5 hr2 db2 hk2 ob2 lb2 nb2 kn2 sp2 gl2 kf2 => ?_⟩
       have s35 := s34.trans s5
       refine ⟨_, rfl, _, SqT.of hr2, rfl, _, _, rfl, _, _, rfl, rfl, ?_⟩
       rw [e2]
       refine z0s fun N3 e3 => ?_
       walk_at "rd"
       refine ⟨.inl ⟨rfl, _, SqL.of (s35 _ _ hv)⟩, ?_⟩
       refine ⟨a, ns, _, kc, g', 2, rfl, (sc.trans s35).seq hS, by omega, s35 _ _ hkc, hg', by decide, by decide, fun r3 H6 t3 s6 d3 k3 => ?_⟩
       refine ⟨zl 4 (by decide), fun pt hpt => ?_⟩
       have s7 := z03 hpt (HO.tup [V.str "if", r3, V.ref rb1, V.ref rb2])
       have s57 := s5.trans (s6.trans s7)
       have s67 := s6.trans s7
       have dt : Dt _ (.ref pt) (D.ite t3 b1 b2).enc := .tup z02 (.cons (.str _) (.cons (d3.kp s7.kp) (.cons (db1.kp s57.kp) (.cons (db2.kp s67.kp) .nil))))
       have s37 := s34.trans s57
       have n1 : rk1 ≠ pd := by
        rcases kf1 with z | z
        ·rw [z]; exact hne
        ·intro y; rw [y, s3 _ _ hv] at z; cases z
       have n2 : rk2 ≠ pd := by
        rcases kf2 with z | z
        ·rw [z]; exact hne
        ·intro y; rw [y, s34 _ _ hv] at z; cases z
       have m1 := s57 _ _ hk1
       have m2 := s67 _ _ hk2
       generalize upd H6 pt (HO.tup [V.str "if", r3, V.ref rb1, V.ref rb2]) = U at s7 s57 s67 dt s37 m1 m2 ⊢
       have hv7 := s37 _ _ hv
       refine ⟨vs, hv7, by rw [hvl]; exact z3w (by omega), ?_⟩
       have k8 : Kp U (upd U pd (HO.lst (vs ++ [V.ref pt]))) := Kp.set hv7
       have w1 : (upd U pd (HO.lst (vs ++ [V.ref pt]))) rk1 = some (.lst (g1.map V.str)) := by rw [z0q n1]; exact m1
       have w2 : (upd U pd (HO.lst (vs ++ [V.ref pt]))) rk2 = some (.lst (g2.map V.str)) := by rw [z0q n2]; exact m2
       have vU2 : (upd U pd (HO.lst (vs ++ [V.ref pt]))) pd = some (.lst (vs ++ [V.ref pt])) := z02
       have sU2 : Same H (upd U pd (HO.lst (vs ++ [V.ref pt]))) := z7l (sc.trans s37) hpd
       generalize upd U pd (HO.lst (vs ++ [V.ref pt])) = U2 at k8 w1 w2 vU2 sU2 ⊢
       rw [e3]
       walk_at "rd"
       refine ⟨⟨_, SqL.of w1⟩, ?_⟩
       have hg1 : g1.length ≤ 900 := by
        have := cg6 (d - 1)
        omega
       refine z90 (K := K) (a := rk1) (xs := g1.map V.str) (q4j U2 rk2 g1 g2) ⟨rfl, ⟨none, rfl⟩, by simp⟩ (by rw [List.length_map]; exact z3w (by omega)) ?_ ?_ ?_ ?_
       ·rintro i ys σ' H' ⟨_, _, rfl⟩
        rw [List.length_map]
        exact Nat.le_trans (List.length_filter_le _ _) (by rw [List.length_take]; omega)
       ·rintro i ys σ' H' _ ⟨rfl, _, _⟩
        exact SqL.of w1
       ·rintro i ys v σ' H' hxi ⟨rfl, ⟨t, rfl⟩, rfl⟩
        rw [List.getElem?_map] at hxi
        cases hx : g1[i]? with
        | none => rw [hx] at hxi; cases hxi
        | some x =>
         rw [hx] at hxi
         have ev : V.str x = v := by simpa using hxi
         subst ev
         walk_at "rd"
         refine ⟨inV (.str x) (g2.map V.str), .inl ⟨rk2, _, rfl, .inl (SqL.of w2), rfl, zlr g2, rfl⟩, ?_⟩
         rw [zjq]
         have et : g1.take (i + 1) = g1.take i ++ [x] := by rw [List.take_add_one, hx]; rfl
         cases hc : g2.contains x with
         | true => exact ⟨rfl, ⟨_, rfl⟩, by rw [et, List.filter_append, List.map_append, List.filter_cons, hc]; rfl⟩
         | false => exact ⟨rfl, ⟨_, rfl⟩, by rw [et, List.filter_append, List.map_append, List.filter_cons, hc]; simp⟩
       ·rintro ys σ' H' ⟨rfl, _, rfl⟩ pc hpc
        rw [List.length_map, List.take_length]
        have sa := z03 hpc (HO.lst ((g1.filter fun x => g2.contains x).map V.str))
        have hnp : pc ≠ pd := fun z => by rw [z, vU2] at hpc; cases hpc
        have hlf : (g1.filter fun x => g2.contains x).length ≤ g1.length := List.length_filter_le _ _
        refine ⟨pc, vs ++ [V.ref pt], b ++ [D.ite t3 b1 b2], g1.filter fun x => g2.contains x, _, _, _, _, _, _, _, _, _, rfl, sU2.trans sa, sa _ _ vU2, ?_, z02, hnp, hkn.snoc (KnowsD.ite k3 kn1 kn2 ?_), ?_, by rw [List.length_append, List.length_singleton, hbl], ?_, ?_, .inr (sU2.free hpc)⟩
        ·rw [z4h]
         exact (dv.kp (s37.kp.trans (k8.trans sa.kp))).append (.cons (dt.kp (k8.trans sa.kp)) .nil)
        ·intro y hy
         have := List.mem_filter.mp hy
         exact ⟨this.1, by simpa using this.2⟩
        ·exact fun y hy => sp1 y (List.mem_filter.mp hy).1
        ·intro c hc
         rcases List.mem_append.mp hc with hc | hc
         ·exact hok c hc
         ·have ec : c = D.ite t3 b1 b2 := by simpa using hc
          subst ec
          exact ⟨k3.mono hg' (by decide), ob1, ob2⟩
        ·rw [Nat.succ_mul]
         have := cgp hd4 hd3
         omega
      ·rw [eZ2]
       refine z0s fun N1 e1 => ?_
       walk_at "rd"
       have hd4 : 2 ≤ d := by
        have : ¬ (d : Int) = 1 := hd0
        omega
       have ed : ((d : Int) - 1) = ((d - 1 : Nat) : Int) := by omega
       rw [ed]
       have hgn : g' ≠ [] := fun z => hne2 (by rw [z]; rfl)
       refine ⟨a, ns, _, kc, g', d - 1, rfl, (sc.trans s3).seq hS, by omega, s3 _ _ hkc, hg', by omega, by omega, by omega, by omega, fun r1 rb1 rk1 H4 b1 g1 s4 hr1 db1 hk1 ob1 lb1 nb1 kn1 sp1 gl1 kf1 => ?_⟩
       have s34 := s3.trans s4
       refine ⟨_, rfl, _, SqT.of hr1, _, rfl, ?_⟩
       rw [e1]
       walk_at "rd"
       refine ⟨.inl ⟨rfl, _, SqL.of (s34 _ _ hv)⟩, ?_⟩
       refine ⟨a, ns, _, kc, g', g1, _, b1, d - 1, d, rfl, (sc.trans s34).seq hS, by omega, s34 _ _ hkc, hg', hgn, db1, ob1, by omega, nb1, kn1, by omega, fun r2 H5 e2 s5 de2 oe2 ke2 => ?_⟩
       have s35 := s34.trans s5
       refine ⟨vs, s35 _ _ hv, by rw [hvl]; exact z3w (by omega), ?_⟩
       have k8 : Kp H5 (upd H5 pd (HO.lst (vs ++ [r2]))) := Kp.set (s35 _ _ hv)
       refine ⟨kc, vs ++ [r2], b ++ [e2], g', _, _, _, _, _, _, _, _, _, rfl, z7l (sc.trans s35) hpd, z02, ?_, by rw [z0q hne]; exact s35 _ _ hkc, hne, hkn.snoc ke2, hg', by rw [List.length_append, List.length_singleton, hbl], ?_, ?_, hkf⟩
       ·rw [z4h]
        exact (dv.kp (s35.kp.trans k8)).append (.cons (de2.kp k8) .nil)
       ·intro c hc
        rcases List.mem_append.mp hc with hc | hc
        ·exact hok c hc
        ·have ec : c = e2 := by simpa using hc
         subst ec
         exact oe2
       ·rw [Nat.succ_mul]
        omega
  intro Hx sx
  replace s3 := s3.trans sx
  rw [eY]
  refine z0s fun N1 e1 => ?_
  walk_at "rd"
  refine ⟨zl 4 (by decide), fun pm hpm => ?_⟩
  have s4 := z03 hpm (HO.lst [V.str "a", V.str "b", V.str "c", V.str "dd"])
  refine ⟨a, ns, _, 4, rfl, ((sc.trans s3).trans s4).seq hS, by omega, by decide, fun m H4 m0 m1 s5 => ?_⟩
  obtain ⟨x, hx, e⟩ := za3 (c := V.str) (ns := pool) (k := m) m0 m1
  have s35 := s3.trans (s4.trans s5)
  refine ⟨_, _, rfl, SqL.of (s5 _ _ z02), _, e, ?_⟩
  rw [e1]
  refine z0s fun N2 e2 => ?_
  walk_at "rd"
  refine ⟨.inl ⟨rfl, _, SqL.of (s35 _ _ hv)⟩, ?_⟩
  refine ⟨a, ns, _, kc, g', 3, rfl, (sc.trans s35).seq hS, by omega, s35 _ _ hkc, hg', by decide, by decide, fun r1 H5 t1 s6 d1 k1 => ?_⟩
  refine ⟨zl 3 (by decide), fun pt hpt => ?_⟩
  have s7 := z03 hpt (HO.tup [V.str "set", V.str x, r1])
  have dt : Dt _ (.ref pt) (D.set x t1).enc := .tup z02 (.cons (.str _) (.cons (.str _) (.cons (d1.kp s7.kp) .nil)))
  have s37 := s35.trans (s6.trans s7)
  generalize upd H5 pt (HO.tup [V.str "set", V.str x, r1]) = U at s7 dt s37 ⊢
  have hv7 := s37 _ _ hv
  refine ⟨vs, hv7, by rw [hvl]; exact z3w (by omega), ?_⟩
  rw [e2]
  walk_at "rd"
  refine ⟨zl 1 (by decide), fun pl hpl => ?_⟩
  have k8 : Kp U (upd U pd (HO.lst (vs ++ [V.ref pt]))) := Kp.set hv7
  have kU2 : (upd U pd (HO.lst (vs ++ [V.ref pt]))) kc = some (.lst (g'.map V.str)) := by rw [z0q hne]; exact s37 _ _ hkc
  have vU2 : (upd U pd (HO.lst (vs ++ [V.ref pt]))) pd = some (.lst (vs ++ [V.ref pt])) := z02
  have sU2 : Same H (upd U pd (HO.lst (vs ++ [V.ref pt]))) := z7l (sc.trans s37) hpd
  generalize upd U pd (HO.lst (vs ++ [V.ref pt])) = U2 at k8 kU2 vU2 sU2 hpl ⊢
  have s9 := z03 hpl (HO.lst [V.str x])
  have hU3 : (upd U2 pl (HO.lst [V.str x])) pl = some (.lst [V.str x]) := z02
  generalize upd U2 pl (HO.lst [V.str x]) = U3 at s9 hU3 ⊢
  refine ⟨⟨_, SqL.of hU3⟩, ?_⟩
  refine z90 (K := K) (a := pl) (xs := [V.str x]) (q4l U3 kc g' x) ⟨rfl, ⟨none, rfl⟩, .inl ⟨rfl, rfl⟩⟩ (z3w (by show 1 ≤ 1000; decide)) ?_ ?_ ?_ ?_
  ·rintro i ys σ' H' ⟨_, _, h⟩
   rcases h with ⟨rfl, rfl⟩ | ⟨rfl, rfl⟩
   ·exact Nat.le_refl _
   ·split <;> simp
  ·rintro i ys σ' H' _ ⟨rfl, _, _⟩
   exact SqL.of hU3
  ·rintro i ys v σ' H' hxi ⟨rfl, ⟨t, rfl⟩, h⟩
   rcases h with ⟨rfl, rfl⟩ | ⟨rfl, rfl⟩
   ·have ev : V.str x = v := by simpa using hxi
    subst ev
    walk_at "rd"
    refine ⟨!inV (.str x) (g'.map V.str), .inl ⟨kc, _, rfl, .inl (SqL.of (s9 _ _ kU2)), rfl, zlr g', rfl⟩, ?_⟩
    rw [zjq]
    cases hc : g'.contains x with
    | true => exact ⟨rfl, ⟨_, rfl⟩, .inr ⟨rfl, by rw [hc]; rfl⟩⟩
    | false => exact ⟨rfl, ⟨_, rfl⟩, .inr ⟨rfl, by rw [hc]; rfl⟩⟩
   ·simp at hxi
  ·rintro ys σ' H' ⟨rfl, _, h⟩ pc hpc
   rcases h with ⟨h, _⟩ | ⟨_, rfl⟩
   ·exact absurd h (by simp)
   have sa := z03 hpc (HO.lst ((if g'.contains x then [] else [x]).map V.str))
   refine ⟨_, rfl, _, sa _ _ (s9 _ _ kU2), _, z02, ?_, fun pk hpk => ?_⟩
   ·have e1 : ((if g'.contains x then [] else [x]).map V.str).length ≤ 1 := by split <;> simp
    rw [List.length_map]
    exact zl _ (by omega)
   ·have sb := z03 hpk (HO.lst (g'.map V.str ++ (if g'.contains x then [] else [x]).map V.str))
    have s9b := s9.trans (sa.trans sb)
    have hnp : pk ≠ pd := fun z => by
     have := (s9.trans sa) _ _ vU2
     rw [← z, hpk] at this
     cases this
    refine ⟨pk, vs ++ [V.ref pt], b ++ [D.set x t1], g' ++ (if g'.contains x then [] else [x]), _, _, _, _, _, _, _, _, _, rfl, sU2.trans s9b, s9b _ _ vU2, ?_, ?_, hnp, hkn.snoc (KnowsD.set k1 ?_), ?_, by rw [List.length_append, List.length_singleton, hbl], ?_, ?_, .inr ((sU2.trans (s9.trans sa)).free hpk)⟩
    ·rw [z4h]
     exact (dv.kp (s37.kp.trans (k8.trans s9b.kp))).append (.cons (dt.kp (k8.trans s9b.kp)) .nil)
    ·rw [z02, List.map_append]
    ·intro y hy
     rcases List.mem_append.mp hy with hy | hy
     ·exact .inl hy
     ·cases hc : g'.contains x with
      | true => rw [hc] at hy; simp at hy
      | false => rw [hc] at hy; simp at hy; exact .inr hy
    ·intro y hy
     rcases List.mem_append.mp hy with hy | hy
     ·exact hg' y hy
     ·cases hc : g'.contains x with
      | true => rw [hc] at hy; simp at hy
      | false => rw [hc] at hy; simp at hy; rw [hy]; exact hx
    ·intro c hc
     rcases List.mem_append.mp hc with hc | hc
     ·exact hok c hc
     ·have ec : c = D.set x t1 := by simpa using hc
      subst ec
      exact ⟨hx, k1.mono hg' (by decide)⟩
    ·have e1 : (if g'.contains x then [] else [x]).length ≤ 1 := by split <;> simp
     rw [List.length_append, Nat.succ_mul]
     have := pg1 d
     omega
theorem zq2 {k : Nat} : FnOk P w K mg base CX0 k f fd ["_law_script", "_law_at_here", "_law_known", "_law_deep"] (zet K 0) := by
 have no : ∀ vs H Q E, ¬ zet K 0 vs H Q E := fun vs H Q E h => by
  obtain ⟨a, ns, k, kn, g, d, _, _, _, _, _, h1, h2, _⟩ := h
  omega
 exact ⟨fun vs H Q E h => absurd h (no vs H Q E), fun A outer s H args us vs Q E _ _ _ _ h => absurd h (no vs H Q E)⟩
theorem zmn (dd : Df K mg "_law_block" z0c ["_law_script", "_law_at_here", "_law_known", "_law_deep"] f fd) (b_range : mg "range" = none) (b_tuple : mg "tuple" = none) (c_law_pick : Callee P w K mg base "_law_pick" ["_law_script", "_law_k", "_law_many"] 2 (zd9 K))
  (c_law_sum : Callee P w K mg base "_law_sum" ["_law_script", "_law_at_here", "_law_known", "_law_deep"] 6 (zkr K 3)) (c_law_counted : Callee P w K mg base "_law_counted" ["_law_script", "_law_at_here", "_law_known", "_law_body", "_law_deep"] 7 (zgx K)) :
  ∀ n : Nat, Callee P w K mg base "_law_block" ["_law_script", "_law_at_here", "_law_known", "_law_deep"] (n + 7) (zet K n)
 | 0 => dd.callee zq2
 | n + 1 => dd.callee (zv2 dd.F b_range b_tuple c_law_pick c_law_sum c_law_counted (zmn dd b_range b_tuple c_law_pick c_law_sum c_law_counted n))
abbrev Rw := Str × Int × Int
def z7m (r : Rw) : Dm := .tup [.str r.1, .int r.2.1, .int r.2.2]
def pair : List Str := ["a", "b"]
def q4g (H : Hp) (a : Addr) (k : Int) (pi : Addr) (j : Nat) (σ : St) (Hc : Hp) : Prop := ∃ (vs : List V) (rows : List Rw) (x3 x4 : Option V), σ = [some (.ref a), some (.int k), some (.ref pi), x3, x4] ∧ Same H Hc ∧ Hc pi = some (.lst vs) ∧ DtA Hc vs (rows.map z7m) ∧ rows.length = j ∧ rows.map (·.1) = pair.take j ∧ ∀ r ∈ rows, -6 ≤ r.2.1 ∧ r.2.1 ≤ r.2.2 ∧ r.2.2 ≤ 8
def q4f (U : Hp) (rows : List Rw) (i : Nat) (ys : List V) (σ' : St) (H' : Hp) : Prop := H' = U ∧ (∃ t, σ' = [t]) ∧ ys = (rows.take i).map fun r => V.str r.1
structure okRows (rows : List Rw) : Prop where
 len : rows.length ≤ 2
 nm : rows.map (·.1) = pair.take rows.length
 lo : ∀ r ∈ rows, -6 ≤ r.2.1 ∧ r.2.1 ≤ r.2.2 ∧ r.2.2 ≤ 8
def zks (K : PySem.W.Frag) : Sp := fun vs H Q _ => ∃ (a : Addr) (ns : List Int) (k : Int), vs = [.ref a, .int k] ∧ SqL K H a (ns.map V.int) ∧ 0 ≤ k ∧
 ∀ (r ri rb : Addr) (H' : Hp) (rows : List Rw) (b : List D) (g' : List Str), Same H H' → H' r = some (.tup [.ref ri, .ref rb]) → Dt H' (.ref ri) (.tup (rows.map z7m)) → Dt H' (.ref rb) (.tup (z3u b)) → okRows rows → okB 3 b → b.length ≤ 3 → b ≠ [] → Knows (rows.map (·.1)) b g' → Q (.ref r) H'
theorem zpw (F : Fun K "_law_program" "_law_program" z0x f fd) (b_range : mg "range" = none) (b_tuple : mg "tuple" = none) (c_law_pick : Callee P w K mg base "_law_pick" ["_law_script", "_law_k", "_law_many"] 2 (zd9 K))
  (c_law_block : Callee P w K mg base "_law_block" ["_law_script", "_law_at_here", "_law_known", "_law_deep"] 10 (zet K 3)) : FnOk P w K mg base CX0 11 f fd ["_law_script", "_law_at_here"] (zks K) := by
 refine F.ok sc_law_program (fun vs H Q E h => ?_) (fun cdv A outer s H vs Q E hr h => ?_)
 ·obtain ⟨a, ns, k, rfl, _⟩ := h
  rfl
 obtain ⟨a, ns, k, rfl, hS, h0, q⟩ := h
 refine ⟨_, (z05 (z1e (i := 2) sc_law_program.nd rfl z8q (z4q z04) (z06 rfl))
 (z05 (zdb PassesOwn.never rfl (zl3 zbu b_range (z07 (z1d c_law_pick hr (by omega) (z07 (z00 (i := 0) rfl z1z z09 z0a) (z07 (z00 (i := 1) rfl z1x z0k z0l) (z07 z01 z04))) z3f z1b) z04)) (z1t (i := 3) sc_law_program.nd rfl zae)
 (z05 (z1e (i := 4) sc_law_program.nd rfl z8p (z16 zdg (z1d c_law_pick hr (by omega) (z07 (z00 (i := 0) rfl z1z z09 z0a) (z07 (z16 z28 (z16 z28 (z00 (i := 1) rfl z1x z0k z0l) z01) (z16 zaq z01 (z00 (i := 3) rfl z44 z4t z4v))) (z07 z01 z04))) z3f z1b) z01) (z06 rfl))
 (z08 (z99 (zl4 PySem.F.plainAttrs_list PySem.F.slot_list_append PySem.F.type_list_append z8l (z00 (i := 2) rfl z3d zct zd1) (z07 (z0z (z07 (z0v z5c (z4q (z07 z0u (z07 z0u z04))) (z00 (i := 3) rfl z44 z4t z4v) (fun _ _ => rfl)) (z07 (z00 (i := 4) rfl z50 zcs zd0) (z07 (z16 z28 (z00 (i := 4) rfl z50 zcs zd0) (z1d c_law_pick hr (by omega) (z07 (z00 (i := 0) rfl z1z z09 z0a) (z07 (z16 z28 (z16 z28 (z00 (i := 1) rfl z1x z0k z0l) z01) (z16 zaq z01 (z00 (i := 3) rfl z44 z4t z4v))) (z07 z01 z04))) z3f z1b)) z04)))) z04)) (z06 rfl)))))
 (z08 (z0o (z0z (z07 (zrt z6v zbt b_tuple zee (z07 (z00 (i := 2) rfl z3d zct zd1) z04) zdj ze5) (z07 (z0v z0e (z1d c_law_block hr (by omega) (z07 (z00 (i := 0) rfl z1z z09 z0a) (z07 (z16 z28 (z00 (i := 1) rfl z1x z0k z0l) z01) (z07 (zey ["_law_row"] [none] rfl (CompS.of (by rfl)) (z7z (z00 (i := 2) rfl z3d zct zd1)) (fun _ _ _ _ _ => (z1t (i := 0) (show List.Nodup (["_law_row"] : List Str) from by decide +kernel) rfl (Or.inl rfl))) (fun _ _ _ _ _ => zex) (fun _ _ _ _ _ => (z0v (ixK (r := zre) (K := K) z0e rfl) (z00 (i := 0) rfl (by first | exact Or.inl rfl | exact Or.inr (Or.inl rfl) | exact Or.inr (Or.inr rfl)) zcr zcz) z01 (fun _ _ => rfl)))) (z07 z01 z04)))) z88 z6s) z01 (fun _ _ => rfl)) z04))))))), ?_⟩
 walk_at "rd"
 refine ⟨Nat.zero_le _, fun pi hpi => ?_⟩
 have s1 := z03 hpi (HO.lst [])
 refine ⟨a, ns, k, 3, rfl, s1.seq hS, h0, by decide, fun i H2 i0 i1 s2 => ?_⟩
 refine ⟨_, rfl, by omega, by omega, ?_⟩
 refine zlo (lo := 0) (n := i.toNat) (q4g H a k pi) ?start ?step ?done
 case start => exact ⟨[], [], none, none, rfl, s1.trans s2, s2 _ _ z02, .nil, rfl, rfl, fun r hr => absurd hr (by simp)⟩
 case step =>
  rintro j σ Hc hj ⟨vs, rows, x3, x4, rfl, sc, hv, dv, hl, hnm, hlo⟩
  have hvl : vs.length = j := by rw [dv.length, List.length_map, hl]
  walk_at "rd"
  refine ⟨.inl ⟨by decide, by decide⟩, ?_⟩
  refine ⟨a, ns, _, 13, rfl, sc.seq hS, by omega, by decide, fun lo H3 l0 l1 s3 => ?_⟩
  walk_at "rd"
  refine ⟨.inl ⟨rfl, _, SqL.of (s3 _ _ hv)⟩, zl 2 (by decide), fun pm hpm => ?_⟩
  have s4 := z03 hpm (HO.lst [V.str "a", V.str "b"])
  have hj2 : j = 0 ∨ j = 1 := by omega
  obtain ⟨x, ex, et⟩ : ∃ x : Str, atI (pair.map V.str) (0 + (j : Int)) = some (V.str x) ∧ pair.take (j + 1) = pair.take j ++ [x] := by
   rcases hj2 with rfl | rfl
   ·exact ⟨"a", rfl, rfl⟩
   ·exact ⟨"b", rfl, rfl⟩
  refine ⟨_, SqL.of z02, _, ex, .inl ⟨by decide, by decide⟩, ?_⟩
  refine ⟨a, ns, _, 3, rfl, ((sc.trans s3).trans s4).seq hS, by omega, by decide, fun z H4 z0 z1 s5 => ?_⟩
  refine ⟨_, rfl, zl 3 (by decide), fun pt hpt => ?_⟩
  have s6 := z03 hpt (HO.tup [V.str x, V.int (lo - 6), V.int (lo - 6 + z)])
  have dt : Dt (upd H4 pt (HO.tup [V.str x, V.int (lo - 6), V.int (lo - 6 + z)])) (.ref pt) (z7m (x, lo - 6, lo - 6 + z)) := .tup z02 (.cons (.str _) (.cons (.int _) (.cons (.int _) .nil)))
  have s36 := s3.trans (s4.trans (s5.trans s6))
  generalize upd H4 pt (HO.tup [V.str x, V.int (lo - 6), V.int (lo - 6 + z)]) = U at s6 dt s36 ⊢
  refine ⟨vs, s36 _ _ hv, by rw [hvl]; exact z3w (by omega), ?_⟩
  have k8 : Kp U (upd U pi (HO.lst (vs ++ [V.ref pt]))) := Kp.set (s36 _ _ hv)
  refine ⟨vs ++ [V.ref pt], rows ++ [(x, lo - 6, lo - 6 + z)], _, _, rfl, z7l (sc.trans s36) hpi, z02, ?_, by rw [List.length_append, List.length_singleton, hl], ?_, ?_⟩
  ·rw [List.map_append]
   exact (dv.kp (s36.kp.trans k8)).append (.cons (dt.kp k8) .nil)
  ·rw [List.map_append, hnm, et]; rfl
  ·intro r hr'
   rcases List.mem_append.mp hr' with hr' | hr'
   ·exact hlo r hr'
   ·have er : r = (x, lo - 6, lo - 6 + z) := by simpa using hr'
    subst er
    show -6 ≤ lo - 6 ∧ lo - 6 ≤ lo - 6 + z ∧ lo - 6 + z ≤ 8
    omega
 case done =>
  rintro σ Hc ⟨vs, rows, x3, x4, rfl, sc, hv, dv, hl, hnm, hlo⟩
  walk_at "rd"
  have hvl : vs.length = i.toNat := by rw [dv.length, List.length_map, hl]
  refine ⟨vs, .inl ⟨SqL.of hv, fun pb hpb => ?_⟩⟩
  have sa := z03 hpb (HO.tup vs)
  have dti : Dt _ (.ref pb) (.tup (rows.map z7m)) := .tup z02 (dv.kp sa.kp)
  have hv2 := sa _ _ hv
  have dvU := dv.kp sa.kp
  generalize upd Hc pb (HO.tup vs) = U at sa dti hv2 dvU ⊢
  refine ⟨⟨_, SqL.of hv2⟩, ?_⟩
  refine z90 (K := K) (a := pi) (xs := vs) (q4f U rows) ⟨rfl, ⟨none, rfl⟩, rfl⟩ (by rw [hvl]; exact z3w (by omega)) ?_ ?_ ?_ ?_
  ·rintro i ys σ' H' ⟨_, _, rfl⟩
   rw [List.length_map, List.length_take]
   omega
  ·rintro i ys σ' H' _ ⟨rfl, _, _⟩
   exact SqL.of hv2
  ·rintro i' ys v σ' H' hxi ⟨rfl, ⟨t, rfl⟩, rfl⟩
   obtain ⟨d, hd, dd⟩ := dvU.get hxi
   rw [List.getElem?_map] at hd
   cases hr' : rows[i']? with
   | none => rw [hr'] at hd; cases hd
   | some r =>
    rw [hr'] at hd
    have ed : z7m r = d := by simpa using hd
    subst ed
    obtain ⟨pa, xs, rfl, hpa, da⟩ := dd.tupI
    rcases da with _ | ⟨d1, _ | ⟨d3, _ | ⟨d5, _ | _⟩⟩⟩
    ·cases d1
     walk_at "rd"
     refine ⟨_, SqT.of hpa, _, rfl, rfl, ⟨_, rfl⟩, ?_⟩
     rw [List.take_add_one, hr', List.map_append]
     rfl
  ·rintro ys σ' H' ⟨rfl, _, rfl⟩ pc hpc
   rw [show vs.length = rows.length by rw [hvl, hl], List.take_length]
   have sb := z03 hpc (HO.lst (rows.map fun r => V.str r.1))
   have hsub : Sub (rows.map (·.1)) pool := by
    rw [hnm]
    intro y hy
    have := List.mem_of_mem_take hy
    simp only [pair, List.mem_cons, List.not_mem_nil, or_false] at this
    rcases this with rfl | rfl <;> decide +kernel
   refine ⟨a, ns, k + 9, pc, rows.map (·.1), 3, rfl, (sc.trans (sa.trans sb)).seq hS, by omega, ?_, hsub, by decide, by decide, by decide, by rw [List.length_map]; omega, fun r rb rk H5 b g' s5 hr' db hkk ob lb nb kn sp gl kf => ?_⟩
   ·rw [z02, List.map_map]; rfl
   ·refine ⟨_, rfl, _, SqT.of hr', _, rfl, zl 2 (by decide), fun pr hpr => ?_⟩
    have sc2 := z03 hpr (HO.tup [V.ref pb, V.ref rb])
    exact q pr pb rb _ rows b g' (sc.trans (sa.trans (sb.trans (s5.trans sc2)))) z02 (dti.kp (sb.trans (s5.trans sc2)).kp) (db.kp sc2.kp) ⟨by omega, by rw [hnm, hl], hlo⟩ ob lb nb kn
end
section
variable {P : Program} {w : World} {K : PySem.W.Frag} {mg : Str → Option Value} {base : Heap} {f : Addr} {fd : FuncData}
def tyD : Dm → String
 | .non => "NoneType" | .bl _ => "bool" | .int _ => "int" | .str _ => "str" | .tup _ => "tuple" | .lst => "list"
theorem q2g {H : Hp} {v : V} {d : Dm} (h : Dt H v d) : TyOf K H v (.type (tyD d)) := by
 cases h with
 | non => exact .non
 | bl b => exact .bl b
 | int i => exact .int i
 | str x => exact .str x
 | tup e _ => exact .tup e
 | lst e => exact .lst e
def isT : Dm → Bool
 | .tup _ => true
 | _ => false
def isI : Dm → Bool
 | .int _ => true
 | .bl _ => true
 | _ => false
def isB : Dm → Bool
 | .bl _ => true
 | _ => false
theorem zq7 {H : Hp} {v : V} {d : Dm} (h : Dt H v d) : ∃ t, TyOf K H v t ∧ PySem.W.kitOne K t (.type "tuple") = some (isT d) := ⟨_, q2g h, by cases d <;> rfl⟩
theorem zo7 {H : Hp} {v : V} {a b : Dm} (h : Dt H v (.tup [a, b])) : ∃ p x y, v = .ref p ∧ H p = some (.tup [x, y]) ∧ Dt H x a ∧ Dt H y b := by
 obtain ⟨p, xs, rfl, e, r⟩ := h.tupI
 rcases r with _ | ⟨r1, _ | ⟨r2, _ | _⟩⟩
 exact ⟨p, _, _, rfl, e, r1, r2⟩
theorem zqw {H : Hp} {v : V} {a b c : Dm} (h : Dt H v (.tup [a, b, c])) : ∃ p x y z, v = .ref p ∧ H p = some (.tup [x, y, z]) ∧ Dt H x a ∧ Dt H y b ∧ Dt H z c := by
 obtain ⟨p, xs, rfl, e, r⟩ := h.tupI
 rcases r with _ | ⟨r1, _ | ⟨r2, _ | ⟨r3, _ | _⟩⟩⟩
 exact ⟨p, _, _, _, rfl, e, r1, r2, r3⟩
theorem zkm {H : Hp} {v : V} {a b c d : Dm} (h : Dt H v (.tup [a, b, c, d])) : ∃ p x y z u, v = .ref p ∧ H p = some (.tup [x, y, z, u]) ∧ Dt H x a ∧ Dt H y b ∧ Dt H z c ∧ Dt H u d := by
 obtain ⟨p, xs, rfl, e, r⟩ := h.tupI
 rcases r with _ | ⟨r1, _ | ⟨r2, _ | ⟨r3, _ | ⟨r4, _ | _⟩⟩⟩⟩
 exact ⟨p, _, _, _, _, rfl, e, r1, r2, r3, r4⟩
def eqS (d : Dm) (z : Str) : Bool := match d with
 | .str x => decide (x = z)
 | _ => false
theorem zbz {H : Hp} {x : V} {d : Dm} {z : Str} (h : Dt H x d) : q1s K x (.str z) H (eqS d z) := by
 cases h with
 | str y => exact .inl ⟨rfl, by show decide (y = z) = decide (V.str y = V.str z); simp⟩
 | tup e _ => exact .inr (.inr ⟨_, _, rfl, rfl, .inr ⟨_, SqT.of e⟩, rfl⟩)
 | lst e => exact .inr (.inr ⟨_, _, rfl, rfl, .inl ⟨_, SqL.of e⟩, rfl⟩)
 | non => exact .inl ⟨rfl, by simp [eqS]⟩
 | bl b => exact .inl ⟨rfl, by simp [eqS]⟩
 | int i => exact .inl ⟨rfl, by simp [eqS]⟩
def D.term : D → T
 | .set _ t => t
 | .ite t _ _ => t
 | .whl t _ _ => t
def zj2 : Sp := fun vs H Q _ => ∃ v e, vs = [v] ∧ Dt H v (D.enc e) ∧ ∀ x, Dt H x e.term.enc → Q x H
theorem zpu (F : Fun K "term_of" "term_of" z5u f fd) : FnOk P w K mg base CX0 1 f fd ["deed"] zj2 := by
 refine F.ok zpi (fun vs H Q E h => ?_) (fun cdv A outer s H vs Q E hr h => ?_)
 ·obtain ⟨v, d, rfl, _⟩ := h
  rfl
 obtain ⟨v, e, rfl, hd, q⟩ := h
 refine ⟨_, (z05 (z2k (z0f (gEq hr.units) (z0v z0e (z00 (i := 0) rfl z66 z17 z18) z01 (fun _ _ => rfl)) z0u (z0w _)) (z08 (z0o (z0v z0e (z00 (i := 0) rfl z66 z17 z18) z01 (fun _ _ => rfl)))) z0y)
 (z08 (z0o (z0v z0e (z00 (i := 0) rfl z66 z17 z18) z01 (fun _ _ => rfl))))), ?_⟩
 walk_at "rd"
 cases e with
 | set x t =>
  rw [D.enc] at hd
  obtain ⟨p, x0, x1, x2, rfl, hp, t0, t1, t2⟩ := zqw hd
  refine ⟨_, rfl, _, SqT.of hp, _, rfl, _, zbz t0, ?_⟩
  rw [if_pos (show eqS (.str "set") "set" = true from by decide +kernel)]
  exact ⟨_, rfl, _, SqT.of hp, _, rfl, q _ t2⟩
 | ite t b c =>
  rw [D.enc] at hd
  obtain ⟨p, x0, x1, x2, x3, rfl, hp, t0, t1, t2, t3⟩ := zkm hd
  refine ⟨_, rfl, _, SqT.of hp, _, rfl, _, zbz t0, ?_⟩
  rw [if_neg (show ¬ eqS (.str "if") "set" = true from by decide +kernel)]
  exact ⟨_, rfl, _, SqT.of hp, _, rfl, q _ t1⟩
 | whl t m b =>
  rw [D.enc] at hd
  obtain ⟨p, x0, x1, x2, x3, rfl, hp, t0, t1, t2, t3⟩ := zkm hd
  refine ⟨_, rfl, _, SqT.of hp, _, rfl, _, zbz t0, ?_⟩
  rw [if_neg (show ¬ eqS (.str "while") "set" = true from by decide +kernel)]
  exact ⟨_, rfl, _, SqT.of hp, _, rfl, q _ t1⟩
def D.blocks : D → List (Int × List D)
 | .set _ _ => []
 | .ite _ b c => [(1, b), (2, c)]
 | .whl _ _ b => [(1, b)]
def q1k (p : Int × List D) : Dm := .tup [.int p.1, .tup (z3u p.2)]
def z8j : Sp := fun vs H Q _ => ∃ v e, vs = [v] ∧ Dt H v (D.enc e) ∧ ∀ (r : Addr) (H' : Hp) (xs : List V), Same H H' → H r = none → H' r = some (.lst xs) → DtA H' xs (e.blocks.map q1k) → Q (.ref r) H'
theorem zlc (F : Fun K "blocks_of" "blocks_of" z4f f fd) : FnOk P w K mg base CX0 1 f fd ["deed"] z8j := by
 refine F.ok zkv (fun vs H Q E h => ?_) (fun cdv A outer s H vs Q E hr h => ?_)
 ·obtain ⟨v, d, rfl, _⟩ := h
  rfl
 obtain ⟨v, e, rfl, hd, q⟩ := h
 refine ⟨_, (z05 (z2k (z0f (gEq hr.units) (z0v z0e (z00 (i := 0) rfl z31 z17 z18) z01 (fun _ _ => rfl)) z0u (z0w _)) (z08 (z0o (z4q (z07 (z0z (z07 z01 (z07 (z0v z0e (z00 (i := 0) rfl z31 z17 z18) z01 (fun _ _ => rfl)) z04))) (z07 (z0z (z07 z01 (z07 (z0v z0e (z00 (i := 0) rfl z31 z17 z18) z01 (fun _ _ => rfl)) z04))) z04))))) z0y)
 (z05 (z2k (z0f (gEq hr.units) (z0v z0e (z00 (i := 0) rfl z31 z17 z18) z01 (fun _ _ => rfl)) z0u (z0w _)) (z08 (z0o (z4q (z07 (z0z (z07 z01 (z07 (z0v z0e (z00 (i := 0) rfl z31 z17 z18) z01 (fun _ _ => rfl)) z04))) z04)))) z0y)
 (z08 (z0o (z4q z04))))), ?_⟩
 walk_at "rd"
 cases e with
 | set x t =>
  rw [D.enc] at hd
  obtain ⟨p, x0, x1, x2, rfl, hp, t0, t1, t2⟩ := zqw hd
  refine ⟨_, rfl, _, SqT.of hp, _, rfl, _, zbz t0, ?_⟩
  rw [if_neg (show ¬ eqS (.str "set") "if" = true from by decide +kernel)]
  refine ⟨_, rfl, _, SqT.of hp, _, rfl, _, zbz t0, ?_⟩
  rw [if_neg (show ¬ eqS (.str "set") "while" = true from by decide +kernel)]
  exact ⟨Nat.zero_le _, fun r hr' => q r _ [] (z03 hr' _) hr' z02 .nil⟩
 | ite t b c =>
  rw [D.enc] at hd
  obtain ⟨p, x0, x1, x2, x3, rfl, hp, t0, t1, t2, t3⟩ := zkm hd
  refine ⟨_, rfl, _, SqT.of hp, _, rfl, _, zbz t0, ?_⟩
  rw [if_pos (show eqS (.str "if") "if" = true from by decide +kernel)]
  refine ⟨_, rfl, _, SqT.of hp, _, rfl, zl 2 (by decide), fun p1 h1 => ?_⟩
  have s1 := z03 h1 (HO.tup [V.int 1, x2])
  refine ⟨_, rfl, _, SqT.of (s1 _ _ hp), _, rfl, zl 2 (by decide), fun p2 h2 => ⟨zl 2 (by decide), fun r hr' => ?_⟩⟩
  have s2 := z03 h2 (HO.tup [V.int 2, x3])
  have s3 := z03 hr' (HO.lst [V.ref p1, V.ref p2])
  refine q r _ _ (s1.trans (s2.trans s3)) ((s1.trans s2).free hr') z02 (.cons (.tup (s3 _ _ (s2 _ _ z02)) (.cons (.int 1) (.cons (t2.kp (s1.trans (s2.trans s3)).kp) .nil))) (.cons (.tup (s3 _ _ z02) (.cons (.int 2) (.cons (t3.kp (s1.trans (s2.trans s3)).kp) .nil))) .nil))
 | whl t m b =>
  rw [D.enc] at hd
  obtain ⟨p, x0, x1, x2, x3, rfl, hp, t0, t1, t2, t3⟩ := zkm hd
  refine ⟨_, rfl, _, SqT.of hp, _, rfl, _, zbz t0, ?_⟩
  rw [if_neg (show ¬ eqS (.str "while") "if" = true from by decide +kernel)]
  refine ⟨_, rfl, _, SqT.of hp, _, rfl, _, zbz t0, ?_⟩
  rw [if_pos (show eqS (.str "while") "while" = true from by decide +kernel)]
  refine ⟨_, rfl, _, SqT.of hp, _, rfl, zl 2 (by decide), fun p1 h1 => ⟨zl 1 (by decide), fun r hr' => ?_⟩⟩
  have s1 := z03 h1 (HO.tup [V.int 1, x3])
  have s3 := z03 hr' (HO.lst [V.ref p1])
  exact q r _ _ (s1.trans s3) (s1.free hr') z02 (.cons (.tup (s3 _ _ z02) (.cons (.int 1) (.cons (t3.kp (s1.trans s3).kp) .nil))) .nil)
def T.deep : T → Nat
 | .op _ a b => max a.deep b.deep + 1
 | _ => 1
theorem Wd.ne (w : Wd) : eqS (.str w.str) "num" = false ∧ eqS (.str w.str) "name" = false := by cases w <;> decide +kernel
abbrev RD := List Int × D
def zx2 (r : RD) : Dm := q2n (r.1, r.2.enc)
mutual
def z0p (p : List Int) : D → List RD
 | .set x t => [(p, .set x t)]
 | .ite t b c => (p, .ite t b c) :: (z0j (p ++ [1]) 0 b ++ z0j (p ++ [2]) 0 c)
 | .whl t m b => (p, .whl t m b) :: z0j (p ++ [1]) 0 b
def z0j (p : List Int) (k : Int) : List D → List RD
 | [] => []
 | d :: r => z0p (p ++ [k]) d ++ z0j p (k + 1) r
end
def z8c (p : List Int) : List (Int × List D) → List RD
 | [] => []
 | q :: r => z0j (p ++ [q.1]) 0 q.2 ++ z8c p r
theorem zlx (p : List Int) (d : D) : z0p p d = (p, d) :: z8c p d.blocks := by
 cases d <;> simp [z0p, z8c, D.blocks]
theorem zfn (p : List Int) : ∀ (a b : List (Int × List D)), z8c p (a ++ b) = z8c p a ++ z8c p b
 | [], b => by simp [z8c]
 | q :: a, b => by rw [List.cons_append, z8c, z8c, zfn p a b, List.append_assoc]
theorem ze4 (p : List Int) : ∀ (k : Int) (a b : List D), z0j p k (a ++ b) = z0j p k a ++ z0j p (k + a.length) b
 | k, [], b => by simp [z0j]
 | k, d :: a, b => by
  rw [List.cons_append, z0j, z0j, ze4 p (k + 1) a b, List.append_assoc, List.length_cons]
  congr 3
  omega
theorem znu (p : List Int) (a : List D) (d : D) : z0j p 0 (a ++ [d]) = z0j p 0 a ++ z0p (p ++ [(a.length : Int)]) d := by
 rw [ze4, z0j, z0j, List.append_nil, Int.zero_add]
theorem z5t {α : Type} {l : List α} {i : Nat} {x : α} (h : l[i]? = some x) : l.take (i + 1) = l.take i ++ [x] := by
 rw [List.take_add_one, h]; rfl
def bnd : Nat → Nat
 | 0 => 0
 | n + 1 => 6 * (1 + 2 * bnd n)
theorem ziq {n : Nat} (ih : ∀ (b : List D) (p : List Int) (k : Int), okB n b → (z0j p k b).length ≤ bnd n) : ∀ (b : List D) (p : List Int) (k : Int), (∀ d ∈ b, okD n d) → (z0j p k b).length ≤ b.length * (1 + 2 * bnd n)
 | [], p, k, _ => by simp [z0j]
 | d :: b, p, k, h => by
  have h2 := ziq ih b p (k + 1) fun e he => h e (.tail _ he)
  have h1 : (z0p (p ++ [k]) d).length ≤ 1 + 2 * bnd n := by
   have hd := h d (.head _)
   cases d with
   | set x t => simp [z0p]
   | ite t b c =>
    have a1 := ih b (p ++ [k] ++ [1]) 0 hd.2.1
    have a2 := ih c (p ++ [k] ++ [2]) 0 hd.2.2
    rw [z0p, List.length_cons, List.length_append]
    omega
   | whl t m b =>
    have a1 := ih b (p ++ [k] ++ [1]) 0 hd.2.2.2
    rw [z0p, List.length_cons]
    omega
  rw [z0j, List.length_append, List.length_cons, Nat.succ_mul]
  omega
theorem zhp : ∀ (n : Nat) (b : List D) (p : List Int) (k : Int), okB n b → (z0j p k b).length ≤ bnd n
 | 0, _, _, _, h => h.elim
 | n + 1, b, p, k, h => by
  refine Nat.le_trans (ziq (zhp n) b p k fun d hd => h.2 d hd) ?_
  exact Nat.mul_le_mul_right _ h.1
theorem q1j {n : Nat} (h : n ≤ 3) : bnd n ≤ 942 := by
 match n, h with
 | 0, _ => decide
 | 1, _ => decide
 | 2, _ => decide
 | 3, _ => decide
theorem zwg {H : Hp} : ∀ p : List Int, DtA H (p.map V.int) (p.map Dm.int)
 | [] => .nil
 | i :: p => .cons (.int i) (zwg p)
theorem zp6 {K : PySem.W.Frag} {H : Hp} {Q : VK} {x y : V} {p q : List Int} (dx : Dt H x (z2f p)) (dy : Dt H y (z2f q)) (hz : p.length + q.length ≤ 1000) (h : ∀ z H', Same H H' → Dt H' z (z2f (p ++ q)) → Q z H') : zfk K x y H Q := by
 obtain ⟨a, xs, rfl, ha, da⟩ := dx.tupI
 obtain ⟨b, ys, rfl, hb, db⟩ := dy.tupI
 have ea := z7n da
 have eb := z7n db
 subst ea eb
 refine ⟨a, b, _, _, rfl, rfl, SqT.of ha, SqT.of hb, ?_, fun e => ?_, fun _ e => ?_, fun _ _ r hr => ?_⟩
 ·rw [List.length_map, List.length_map]
  exact Nat.le_of_lt (z3w hz)
 ·have : p = [] := by simpa using e
  subst this
  exact h _ _ (Same.refl _) dy
 ·have : q = [] := by simpa using e
  subst this
  rw [List.append_nil] at h
  exact h _ _ (Same.refl _) dx
 ·refine h _ _ (z03 hr _) (.tup z02 ?_)
  rw [← List.map_append]
  exact zwg _
theorem zdf {H : Hp} {r : Addr} {i : Int} : Dt (upd H r (.tup [.int i])) (.ref r) (z2f [i]) := .tup z02 (.cons (.int i) .nil)
theorem zoz : ∀ (b : List D) (i : Nat), (z3u b)[i]? = (b[i]?).map D.enc
 | [], i => by simp [z3u]
 | d :: b, 0 => by simp [z3u]
 | d :: b, i + 1 => by simp [z3u, zoz b i]
theorem zhr {H : Hp} {xs : List V} {b : List D} {i : Nat} {x : V} (h : DtA H xs (z3u b)) (hx : xs[i]? = some x) : ∃ d, b[i]? = some d ∧ Dt H x d.enc := by
 obtain ⟨e, he, de⟩ := h.get hx
 rw [zoz] at he
 cases hb : b[i]? with
 | none => rw [hb] at he; cases he
 | some d =>
  rw [hb] at he
  have : d.enc = e := by simpa using he
  subst this
  exact ⟨d, rfl, de⟩
theorem zc2 {α : Type} {f : α → Dm} {H : Hp} {xs : List V} {b : List α} {i : Nat} {x : V} (h : DtA H xs (b.map f)) (hx : xs[i]? = some x) : ∃ d, b[i]? = some d ∧ Dt H x (f d) := by
 obtain ⟨e, he, de⟩ := h.get hx
 rw [List.getElem?_map] at he
 cases hb : b[i]? with
 | none => rw [hb] at he; cases he
 | some d =>
  rw [hb] at he
  have : f d = e := by simpa using he
  subst this
  exact ⟨d, rfl, de⟩
def q4k (H : Hp) (ab : Addr) (pv : V) (p : List Int) (b : List D) (pr : Addr) (i : Nat) (σ : St) (Hc : Hp) : Prop := ∃ (vs : List V) (x3 x4 x5 x6 x7 : Option V), σ = [some (.ref ab), some pv, some (.ref pr), x3, x4, x5, x6, x7] ∧ Same H Hc ∧ Hc pr = some (.lst vs) ∧ DtA Hc vs ((z0j p 0 (b.take i)).map zx2)
def q39 (H H1 : Hp) (rb : Addr) (bs : List V) (ab : Addr) (pv : V) (p : List Int) (b : List D) (pr : Addr) (i : Nat) (d : D) (dv qv : V) (j : Nat) (σ : St) (Hc : Hp) : Prop := ∃ (vs : List V) (x3 x6 x7 : Option V), σ = [some (.ref ab), some pv, some (.ref pr), x3, some dv, some qv, x6, x7] ∧ Same H Hc ∧ Hc pr = some (.lst vs) ∧ DtA Hc vs ((z0j p 0 (b.take i) ++ (p ++ [(i : Int)], d) :: z8c (p ++ [(i : Int)]) (d.blocks.take j)).map zx2) ∧ Kp H1 Hc ∧ Hc rb = some (.lst bs)
theorem zvk {p : List Int} {b : List D} {i : Nat} {d : D} (h : b[i]? = some d) : z0j p 0 (b.take (i + 1)) = z0j p 0 (b.take i) ++ (p ++ [(i : Int)], d) :: z8c (p ++ [(i : Int)]) d.blocks := by
 have hl : i < b.length := (List.getElem?_eq_some_iff.mp h).1
 have e : (b.take i).length = i := by rw [List.length_take]; omega
 rw [z5t h, znu, zlx, e]
theorem ztt {n : Nat} {d : D} {nb : Int × List D} (h : okD n d) (hm : nb ∈ d.blocks) : okB n nb.2 := by
 cases d with
 | set x t => simp [D.blocks] at hm
 | ite t b c =>
  simp only [D.blocks, List.mem_cons, List.not_mem_nil, or_false] at hm
  rcases hm with rfl | rfl
  ·exact h.2.1
  ·exact h.2.2
 | whl t m b =>
  simp only [D.blocks, List.mem_cons, List.not_mem_nil, or_false] at hm
  subst hm
  exact h.2.2.2
theorem ziu (d : D) : d.blocks.length ≤ 2 := by cases d <;> simp [D.blocks]
theorem zz {n : Nat} (h : n ≤ 10000) : n ≤ sizeLine := Nat.le_trans h (by decide)
def D.items : D → List Dm
 | .set x t => [.str "set", .str x, t.enc]
 | .ite t b c => [.str "if", t.enc, .tup (z3u b), .tup (z3u c)]
 | .whl t m b => [.str "while", t.enc, .int m, .tup (z3u b)]
theorem zvl {H : Hp} {v : V} {d : D} (h : Dt H v d.enc) : ∃ a xs, v = .ref a ∧ H a = some (.tup xs) ∧ DtA H xs d.items := by
 cases d <;> (rw [D.enc] at h; exact h.tupI)
theorem zz5 {n : Nat} (h : n ≤ 200000) : n ≤ sizeLine := Nat.le_trans h (by decide)
def z3y (b : List D) : List RD := z0j [] 0 b
end
section
variable {P : Program} {w : World} {K : PySem.W.Frag} {mg : Str → Option Value} {base : Heap} {f : Addr} {fd : FuncData}
def okW : Nat → List D → Prop
 | 0, _ => False
 | n + 1, b => b.length ≤ 7 ∧ ∀ d ∈ b, match d with
  | .set x t => x ∈ pool ∧ t.ok pool 5
  | .ite t b c => t.ok pool 5 ∧ okW n b ∧ okW n c
  | .whl t m b => t.ok pool 5 ∧ okW n b
abbrev zmp (n : Nat) (d : D) : Prop := match d with
 | .set x t => x ∈ pool ∧ t.ok pool 5
 | .ite t b c => t.ok pool 5 ∧ okW n b ∧ okW n c
 | .whl t m b => t.ok pool 5 ∧ okW n b
theorem zar : ∀ {n : Nat} {b : List D}, okB n b → okW n b
 | 0, _, h => h.elim
 | n + 1, b, h => ⟨Nat.le_trans h.1 (by decide), fun d hd => by
  have := h.2 d hd
  cases d with
  | set x t => exact this
  | ite t b c => exact ⟨this.1, zar this.2.1, zar this.2.2⟩
  | whl t m b => exact ⟨this.1, zar this.2.2.2⟩⟩
theorem zs5 {n : Nat} {d : D} (h : okD n d) : zmp n d := by
 cases d with
 | set x t => exact h
 | ite t b c => exact ⟨h.1, zar h.2.1, zar h.2.2⟩
 | whl t m b => exact ⟨h.1, zar h.2.2.2⟩
theorem zdi : ∀ {n : Nat} {b : List D}, okW n b → okW (n + 1) b
 | 0, _, h => h.elim
 | n + 1, b, h => ⟨h.1, fun d hd => by
  have := h.2 d hd
  cases d with
  | set x t => exact this
  | ite t b c => exact ⟨this.1, zdi this.2.1, zdi this.2.2⟩
  | whl t m b => exact ⟨this.1, zdi this.2⟩⟩
theorem zs4 {n : Nat} {d : D} (h : zmp n d) : zmp (n + 1) d := by
 cases d with
 | set x t => exact h
 | ite t b c => exact ⟨h.1, zdi h.2.1, zdi h.2.2⟩
 | whl t m b => exact ⟨h.1, zdi h.2⟩
def zu2 : Nat → Nat
 | 0 => 0
 | n + 1 => 7 * (1 + 2 * zu2 n)
theorem zio {n : Nat} (ih : ∀ (b : List D) (p : List Int) (k : Int), okW n b → (z0j p k b).length ≤ zu2 n) : ∀ (b : List D) (p : List Int) (k : Int), (∀ d ∈ b, zmp n d) → (z0j p k b).length ≤ b.length * (1 + 2 * zu2 n)
 | [], p, k, _ => by simp [z0j]
 | d :: b, p, k, h => by
  have h2 := zio ih b p (k + 1) fun e he => h e (.tail _ he)
  have h1 : (z0p (p ++ [k]) d).length ≤ 1 + 2 * zu2 n := by
   have hd := h d (.head _)
   cases d with
   | set x t => simp [z0p]
   | ite t b c =>
    have a1 := ih b (p ++ [k] ++ [1]) 0 hd.2.1
    have a2 := ih c (p ++ [k] ++ [2]) 0 hd.2.2
    rw [z0p, List.length_cons, List.length_append]
    omega
   | whl t m b =>
    have a1 := ih b (p ++ [k] ++ [1]) 0 hd.2
    rw [z0p, List.length_cons]
    omega
  rw [z0j, List.length_append, List.length_cons, Nat.succ_mul]
  omega
theorem zbg : ∀ (n : Nat) (b : List D) (p : List Int) (k : Int), okW n b → (z0j p k b).length ≤ zu2 n
 | 0, _, _, _, h => h.elim
 | n + 1, b, p, k, h => by
  refine Nat.le_trans (zio (zbg n) b p k fun d hd => h.2 d hd) ?_
  exact Nat.mul_le_mul_right _ h.1
theorem zts {n : Nat} (h : n ≤ 4) : zu2 n ≤ 22155 := by
 match n, h with
 | 0, _ => decide
 | 1, _ => decide
 | 2, _ => decide
 | 3, _ => decide
 | 4, _ => decide
theorem zvs {n : Nat} (h : n ≤ 3) : zu2 n ≤ 1582 := by
 match n, h with
 | 0, _ => decide
 | 1, _ => decide
 | 2, _ => decide
 | 3, _ => decide
theorem zhq {n : Nat} {b : List D} (h : okW (n + 1) b) {i : Nat} (p : List Int) : (z0j p 0 (b.take i)).length ≤ zu2 (n + 1) := by
 refine zbg (n + 1) _ p 0 ⟨?_, fun d hd => h.2 d (List.mem_of_mem_take hd)⟩
 rw [List.length_take]
 have := h.1
 omega
theorem zfh {n : Nat} {d : D} {nb : Int × List D} (h : zmp n d) (hm : nb ∈ d.blocks) : okW n nb.2 := by
 cases d with
 | set x t => simp [D.blocks] at hm
 | ite t b c =>
  simp only [D.blocks, List.mem_cons, List.not_mem_nil, or_false] at hm
  rcases hm with rfl | rfl
  ·exact h.2.1
  ·exact h.2.2
 | whl t m b =>
  simp only [D.blocks, List.mem_cons, List.not_mem_nil, or_false] at hm
  subst hm
  exact h.2
theorem zls {n : Nat} (p : List Int) : ∀ (l : List (Int × List D)), (∀ q ∈ l, okW n q.2) → (z8c p l).length ≤ l.length * zu2 n
 | [], _ => by simp [z8c]
 | q :: l, h => by
  have h1 := zbg n q.2 (p ++ [q.1]) 0 (h q (.head _))
  have h2 := zls p l fun r hr => h r (.tail _ hr)
  rw [z8c, List.length_append, List.length_cons, Nat.succ_mul]
  omega
theorem zru {n : Nat} {d : D} (h : zmp n d) (hn : n + 1 ≤ 4) (p : List Int) (l : List (Int × List D)) (hl : ∀ q ∈ l, q ∈ d.blocks) (h2 : l.length ≤ 2) : (z8c p l).length ≤ 3164 := by
 have h1 := zls (n := n) p l fun q hq => zfh h (hl q hq)
 have h3 := zvs (n := n) (by omega)
 have : l.length * zu2 n ≤ 2 * 1582 := Nat.mul_le_mul h2 h3
 omega
theorem q2c {n : Nat} (h : n ≤ 200000) : n < sizeLine := Nat.lt_of_le_of_lt h (by decide)
def D.kind : D → Str
 | .set _ _ => "set"
 | .ite _ _ _ => "if"
 | .whl _ _ _ => "while"
theorem zly {H : Hp} {v : V} {d : D} (h : Dt H v d.enc) : ∃ a xs, v = .ref a ∧ H a = some (.tup (.str d.kind :: xs)) ∧ DtA H (.str d.kind :: xs) d.items := by
 obtain ⟨a, xs, e, ha, dx⟩ := zvl h
 have key : ∃ ys, xs = .str d.kind :: ys := by
  cases d <;> (cases dx with | cons e0 _ => cases e0; exact ⟨_, rfl⟩)
 obtain ⟨ys, rfl⟩ := key
 exact ⟨a, ys, e, ha, dx⟩
end
section
variable {P : Program} {w : World} {K : PySem.W.Frag} {mg : Str → Option Value} {base : Heap} {f : Addr} {fd : FuncData}
def zes (n : Nat) : Sp := fun vs H Q _ => ∃ v b pv p, vs = [v, pv] ∧ Dt H v (.tup (z3u b)) ∧ Dt H pv (z2f p) ∧ okW n b ∧ n ≤ 4 ∧ p.length + 2 * n ≤ 100 ∧ ∀ (r : Addr) (H' : Hp) (xs : List V), Same H H' → H r = none → H' r = some (.lst xs) → DtA H' xs ((z0j p 0 b).map zx2) → Q (.ref r) H'
theorem zf1 {n : Nat} (F : Fun K "deeds_of_block" "deeds_of_block" z0b f fd) (b_enumerate : mg "enumerate" = none) (c_blocks_of : Callee P w K mg base "blocks_of" ["deed"] 1 z8j) (c_deeds_of_block : Callee P w K mg base "deeds_of_block" ["block", "path"] (n + 2) (zes n)) : FnOk P w K mg base CX0 (n + 3) f fd ["block", "path"] (zes (n + 1)) := by
 refine F.ok sc_deeds_of_block (fun vs H Q E h => ?_) (fun cdv A outer s H vs Q E hr h => ?_)
 ·obtain ⟨v, t, pv, p, rfl, _⟩ := h
  rfl
 obtain ⟨v, b, pv, p, rfl, hd, hp, hok, hn, hl, q⟩ := h
 refine ⟨_, (z05 (z1e (i := 2) sc_deeds_of_block.nd rfl z9k (z4q z04) (z06 rfl))
 (z05 (zdb PassesOwn.never rfl (zjc z78 b_enumerate (z07 (z00 (i := 0) rfl z8i zgf zgg) z04)) (zfl (n := 2) rfl (z2a (z1t (i := 3) sc_deeds_of_block.nd rfl zau) (z2a (z1t (i := 4) sc_deeds_of_block.nd rfl z9l) z80)))
 (z05 (z1e (i := 5) sc_deeds_of_block.nd rfl z6n (z16 z2b (z00 (i := 1) rfl z96 z21 z22) (z0z (z07 (z00 (i := 3) rfl zam zyj zyo) z04))) (z06 rfl))
 (z05 (z99 (zl4 PySem.F.plainAttrs_list PySem.F.slot_list_append PySem.F.type_list_append z8l (z00 (i := 2) rfl z3n zfb zfg) (z07 (z0z (z07 (z00 (i := 5) rfl z48 z61 z64) (z07 (z00 (i := 4) rfl z57 z17 z18) z04))) z04)) (z06 rfl))
 (z08 (zdb PassesOwn.never rfl (z7z (z1d c_blocks_of hr (by omega) (z07 (z00 (i := 4) rfl z57 z17 z18) z04) z79 zfo)) (zfl (n := 2) rfl (z2a (z1t (i := 6) sc_deeds_of_block.nd rfl z87) (z2a (z1t (i := 7) sc_deeds_of_block.nd rfl z8v) z80)))
 (z08 (z99 (zl4 PySem.F.plainAttrs_list PySem.F.slot_list_extend PySem.F.type_list_extend zle (z00 (i := 2) rfl z3n zfb zfg) (z07 (z1d c_deeds_of_block hr (by omega) (z07 (z00 (i := 7) rfl z8h zvm zvr) (z07 (z16 z2b (z00 (i := 5) rfl z48 z61 z64) (z0z (z07 (z00 (i := 6) rfl z7y zm1 zma) z04))) z04)) z5e z8z) z04)) (z06 rfl))))))))
 (z08 (z0o (z00 (i := 2) rfl z3n zfb zfg))))), ?_⟩
 walk_at "rd7"
 refine ⟨Nat.zero_le _, fun pr hpr => ?_⟩
 obtain ⟨ab, xs, rfl, hab, hda⟩ := hd.tupI
 have s1 := z03 hpr (HO.lst [])
 have hxl : xs.length = b.length := by rw [hda.length, z2l]
 refine ⟨ab, rfl, ⟨_, SqT.of (s1 _ _ hab)⟩, ?_⟩
 refine zlp (xs := xs) (q4k H ab pv p b pr) ?start ?lst ?step ?done
 case start => exact ⟨[], _, _, _, _, _, rfl, s1, z02, by rw [List.take_zero, z0j]; exact .nil⟩
 case lst =>
  rintro i σ Hc _ ⟨vs, _, _, _, _, _, rfl, sc, _⟩
  exact SqT.of (sc _ _ hab)
 case done =>
  rintro σ Hc ⟨vs, _, _, _, _, _, rfl, sc, hv, dv⟩
  walk_at "rd7"
  rw [hxl, List.take_length] at dv
  exact q pr Hc vs sc hpr hv dv
 case step =>
  rintro i x σ Hc Tu hx ⟨vs, _, _, _, _, _, rfl, sc, hv, dv⟩ hT
  obtain ⟨d, hbi, dx⟩ := zhr hda hx
  have hib : i < b.length := (List.getElem?_eq_some_iff.mp hbi).1
  have s2 := z03 hT (HO.tup [V.int i, x])
  walk_at "rd7"
  refine ⟨_, SqT.of z02, rfl, _, _, rfl, _, _, rfl, rfl, zl 1 (by decide), fun r1 h1 => ?_⟩
  have s3 := z03 h1 (HO.tup [V.int i])
  refine zp6 (hp.kp (sc.trans (s2.trans s3)).kp) zdf (by simp; omega) fun z H1 s4 dz => ?_
  have s24 := (s2.trans s3).trans s4
  refine ⟨.inl ⟨rfl, _, SqL.of (s24 _ _ hv)⟩, zl 2 (by decide), fun r2 h2 => ?_⟩
  have s5 := z03 h2 (HO.tup [z, x])
  have s25 := s24.trans s5
  have hbn := zts hn
  have hvl : vs.length ≤ 22155 := by
   have e : vs.length = (z0j p 0 (b.take i)).length := by rw [dv.length, List.length_map]
   have := zhq hok (i := i) p
   omega
  refine ⟨_, s25 _ _ hv, q2c (by omega), ?_⟩
  have hw2 : (upd H1 r2 (HO.tup [z, x])) r2 = some (.tup [z, x]) := z02
  have rowW : Dt (upd H1 r2 (HO.tup [z, x])) (.ref r2) (zx2 (p ++ [(i : Int)], d)) := .tup hw2 (.cons (dz.kp s5.kp) (.cons (dx.kp (sc.trans s25).kp) .nil))
  have hvW := s25 _ _ hv
  generalize upd H1 r2 (HO.tup [z, x]) = W at s5 s25 hw2 rowW hvW ⊢
  have k6 : Kp W (upd W pr (HO.lst (vs ++ [V.ref r2]))) := Kp.set hvW
  have sU : Same H (upd W pr (HO.lst (vs ++ [V.ref r2]))) := z7l (sc.trans s25) hpr
  have vU : (upd W pr (HO.lst (vs ++ [V.ref r2]))) pr = some (.lst (vs ++ [V.ref r2])) := z02
  have dU : DtA (upd W pr (HO.lst (vs ++ [V.ref r2]))) (vs ++ [V.ref r2]) ((z0j p 0 (b.take i) ++ [(p ++ [(i : Int)], d)]).map zx2) := by
   rw [List.map_append]
   exact (dv.kp (s25.kp.trans k6)).append (.cons (rowW.kp k6) .nil)
  have hzU := dz.kp (s5.kp.trans k6)
  generalize upd W pr (HO.lst (vs ++ [V.ref r2])) = U at k6 sU vU dU hzU ⊢
  refine ⟨x, d, rfl, dx.kp sU.kp, fun rb H5 bs s6 f6 hb db => ?_⟩
  refine ⟨rb, rfl, ⟨_, SqL.of hb⟩, ?_⟩
  have hnp : rb ≠ pr := fun e => by rw [e, vU] at f6; cases f6
  refine zjx (xs := bs) (q39 H H5 rb bs ab pv p b pr i d x z) ?s2 ?l2 ?st2 ?d2
  case s2 => exact ⟨vs ++ [V.ref r2], _, _, _, rfl, sU.trans s6, s6 _ _ vU, by rw [List.take_zero, z8c]; exact dU.kp s6.kp, Kp.refl _, hb⟩
  case l2 =>
   rintro j σ Hd _ ⟨us, _, _, _, rfl, _, _, _, _, hbd⟩
   exact SqL.of hbd
  case d2 =>
   rintro σ Hd ⟨us, _, _, _, rfl, sd, hu, du, _⟩
   have e : bs.length = d.blocks.length := by rw [db.length, List.length_map]
   rw [e, List.take_length, ← zvk hbi] at du
   exact ⟨us, _, _, _, _, _, rfl, sd, hu, du⟩
  case st2 =>
   rintro j y σ Hd hy ⟨us, _, _, _, rfl, sd, hu, du, kd, hbd⟩
   obtain ⟨nb, hnb, dnb⟩ := zc2 db hy
   obtain ⟨pp, y0, y1, rfl, hpp, u0, u1⟩ := zo7 (dnb.kp kd)
   cases u0
   walk_at "rd7"
   have hdo := hok.2 d (List.mem_of_getElem? hbi)
   have hbok : okW n nb.2 := zfh hdo (List.mem_of_getElem? hnb)
   refine ⟨_, SqT.of hpp, rfl, _, _, rfl, _, _, rfl, rfl, .inl ⟨rfl, _, SqL.of hu⟩, zl 1 (by decide), fun r3 h3 => ?_⟩
   have s7 := z03 h3 (HO.tup [V.int nb.1])
   refine zp6 (hzU.kp (s6.kp.trans (kd.trans s7.kp))) zdf (by simp; omega) fun z2 H6 s8 dz2 => ?_
   have s78 := s7.trans s8
   refine ⟨y1, nb.2, z2, _, rfl, u1.kp s78.kp, dz2, hbok, by omega, by simp; omega, fun r4 H7 ws s9 f9 h9 d9 => ?_⟩
   have s79 := s78.trans s9
   have hws : ws.length ≤ 22155 := by
    have e : ws.length = (z0j (p ++ [(i : Int)] ++ [nb.1]) 0 nb.2).length := by rw [d9.length, List.length_map]
    have g1 := zbg n nb.2 (p ++ [(i : Int)] ++ [nb.1]) 0 hbok
    have g2 := zts (n := n) (by omega)
    omega
   have hus : us.length ≤ 26000 := by
    have e := du.length
    rw [List.length_map, List.length_append, List.length_cons] at e
    have g1 := zhq hok (i := i) p
    have g2 := zru hdo (by omega) (p ++ [(i : Int)]) (d.blocks.take j) (fun q hq => List.mem_of_mem_take hq) (by rw [List.length_take]; have := ziu d; omega)
    omega
   refine ⟨r4, rfl, us, s79 _ _ hu, ws, h9, zz5 (by omega), ?_⟩
   have k7 : Kp H7 (upd H7 pr (HO.lst (us ++ ws))) := Kp.set (s79 _ _ hu)
   refine ⟨us ++ ws, _, _, _, rfl, z7l (sd.trans s79) hpr, z02, ?_, kd.trans (s79.kp.trans k7), by rw [z0q hnp]; exact s79 _ _ hbd⟩
   rw [z5t hnb, zfn, z8c, z8c, List.append_nil, ← List.cons_append, ← List.append_assoc, List.map_append]
   exact (du.kp (s79.kp.trans k7)).append (d9.kp k7)
end
section
variable {P : Program} {w : World} {K : PySem.W.Frag} {mg : Str → Option Value} {base : Heap} {f : Addr} {fd : FuncData}
theorem zq1 {k : Nat} {n1 n2 : Str} : FnOk P w K mg base CX0 k f fd [n1, n2] (zes 0) := by
 have no : ∀ vs H Q E, ¬ zes 0 vs H Q E := fun vs H Q E h => by
  obtain ⟨v, t, pv, p, _, _, _, h1, _⟩ := h
  exact h1
 exact ⟨fun vs H Q E h => absurd h (no vs H Q E), fun A outer s H args us vs Q E _ _ _ _ h => absurd h (no vs H Q E)⟩
theorem zfs (d : Df K mg "deeds_of_block" z0b ["block", "path"] f fd) (b_enumerate : mg "enumerate" = none) (c_blocks_of : Callee P w K mg base "blocks_of" ["deed"] 1 z8j) : ∀ n : Nat, Callee P w K mg base "deeds_of_block" ["block", "path"] (n + 2) (zes n)
 | 0 => d.callee zq1
 | n + 1 => d.callee (zf1 d.F b_enumerate c_blocks_of (zfs d b_enumerate c_blocks_of n))
def zeu : Sp := fun vs H Q _ => ∃ v ins b, vs = [v] ∧ Dt H v (.tup [ins, .tup (z3u b)]) ∧ okW 4 b ∧ ∀ (r : Addr) (H' : Hp) (xs : List V), Same H H' → H r = none → H' r = some (.lst xs) → DtA H' xs ((z3y b).map zx2) → Q (.ref r) H'
theorem zld (F : Fun K "all_deeds" "all_deeds" z3q f fd) (c_deeds_of_block : Callee P w K mg base "deeds_of_block" ["block", "path"] 6 (zes 4)) : FnOk P w K mg base CX0 7 f fd ["program"] zeu := by
 refine F.ok zkw (fun vs H Q E h => ?_) (fun cdv A outer s H vs Q E hr h => ?_)
 ·obtain ⟨v, ins, b, rfl, _⟩ := h
  rfl
 obtain ⟨v, ins, b, rfl, hd, hok, q⟩ := h
 refine ⟨_, (z08 (z0o (z1d c_deeds_of_block hr (by omega) (z07 (z0v z0e (z00 (i := 0) rfl zao z40 z41) z01 (fun _ _ => rfl)) (z07 (z0z z04) z04)) z7a z8z))), ?_⟩
 walk_at "rd7"
 obtain ⟨a, x0, x1, rfl, ha, t0, t1⟩ := zo7 hd
 refine ⟨_, rfl, _, SqT.of ha, _, rfl, Nat.zero_le _, fun r1 h1 => ?_⟩
 have s1 := z03 h1 (HO.tup [])
 exact ⟨x1, b, .ref r1, [], rfl, t1.kp s1.kp, .tup z02 .nil, hok, by decide, by decide, fun r H' xs s2 f2 h2 d2 => q r H' xs (s1.trans s2) (s1.free f2) h2 d2⟩
end
section
variable {P : Program} {w : World} {K : PySem.W.Frag} {mg : Str → Option Value} {base : Heap} {f : Addr} {fd : FuncData}
def q3y (r : RD) : Option Str := match r.2 with
 | .set x _ => some x
 | _ => none
def Fine (n : Nat) (d : Dm) : Prop := d.shut = true ∧ d.dat.canLay0 = true ∧ d.dat.depth ≤ n
theorem Fine.mono {n m : Nat} {d : Dm} (h : Fine n d) (k : n ≤ m) : Fine m d := ⟨h.1, h.2.1, Nat.le_trans h.2.2 k⟩
theorem zya {n : Nat} : ∀ {ds : List Dm}, (∀ d ∈ ds, Fine n d) → zgz ds = true ∧ PyData.canLayAll0 (zeh ds) = true ∧ PyData.depthAll (zeh ds) ≤ n
 | [], _ => ⟨by simp [zgz], by simp [zeh, PyData.canLayAll0], by simp [zeh, PyData.depthAll]⟩
 | d :: ds, h => by
  obtain ⟨a, b, c⟩ := zya (ds := ds) fun e he => h e (.tail _ he)
  obtain ⟨x, y, z⟩ := h d (.head _)
  refine ⟨by simp [zgz, x, a], by simp [zeh, PyData.canLayAll0, y, b], ?_⟩
  simp only [zeh, PyData.depthAll]
  omega
theorem z2w {n : Nat} {ds : List Dm} (h : ∀ d ∈ ds, Fine n d) : Fine (n + 1) (.tup ds) := by
 obtain ⟨a, b, c⟩ := zya h
 exact ⟨by simpa [Dm.shut] using a, by simpa [Dm.dat, PyData.canLay0] using b, by simp only [Dm.dat, PyData.depth]; omega⟩
theorem zbf (n : Nat) (i : Int) : Fine n (.int i) := ⟨by simp [Dm.shut], by simp [Dm.dat, PyData.canLay0], by simp [Dm.dat, PyData.depth]⟩
theorem z4j (n : Nat) {x : Str} (h : PyData.strOk x = true) : Fine n (.str x) := ⟨by simpa [Dm.shut] using h, by simpa [Dm.dat, PyData.canLay0] using h, by simp [Dm.dat, PyData.depth]⟩
theorem Fine.eq {n : Nat} {d : Dm} (h : Fine n d) (k : n ≤ 64) : d.shut = true ∧ SeqAt.shaped d.dat = true := ⟨h.1, by
 unfold SeqAt.shaped
 rw [h.2.1, Bool.true_and, decide_eq_true_eq]
 exact Nat.le_trans h.2.2 k⟩
theorem zjb : ∀ x ∈ pool, PyData.strOk x = true := by
 intro x hx
 simp only [pool, List.mem_cons, List.not_mem_nil, or_false] at hx
 rcases hx with rfl | rfl | rfl | rfl <;> decide +kernel
theorem q2e (w : Wd) : PyData.strOk w.str = true := by cases w <;> decide +kernel
theorem zlt : ∀ {n : Nat} {t : T}, T.ok pool n t → Fine n t.enc
 | 0, _, h => h.elim
 | n + 1, .num i, _ => by
  rw [T.enc]
  refine z2w fun d hd => ?_
  simp only [List.mem_cons, List.not_mem_nil, or_false] at hd
  rcases hd with rfl | rfl
  ·exact z4j _ (by decide +kernel)
  ·exact zbf _ _
 | n + 1, .nm x, h => by
  rw [T.enc]
  refine z2w fun d hd => ?_
  simp only [List.mem_cons, List.not_mem_nil, or_false] at hd
  rcases hd with rfl | rfl
  ·exact z4j _ (by decide +kernel)
  ·exact z4j _ (zjb x h)
 | n + 1, .op w a b, h => by
  rw [T.enc]
  refine z2w fun d hd => ?_
  simp only [List.mem_cons, List.not_mem_nil, or_false] at hd
  rcases hd with rfl | rfl | rfl
  ·exact z4j _ (q2e w)
  ·exact zlt h.1
  ·exact zlt h.2
theorem zhl (p : List Int) : Fine 1 (z2f p) := z2w fun d hd => by
 obtain ⟨i, _, rfl⟩ := List.mem_map.mp hd
 exact zbf _ _
theorem ze3 {d : PyData} (h : d.canLay0 = true) : PyData.eqv d d = true := SeqAt.eqv_refl d h
def q38 {α : Type} (U : Hp) (f : List Int × α → Bool) (l : List (List Int × α)) (σ0 : List (Option V)) (i : Nat) (ys : List V) (σ' : St) (H' : Hp) : Prop := Same U H' ∧ (∃ t u, σ' = t :: u :: σ0) ∧ DtA H' ys (((l.take i).filter f).map fun r => z2f r.1) ∧ ys.length ≤ i
theorem zvd {α : Type} {U H' H2 : Hp} {f : List Int × α → Bool} {l : List (List Int × α)} {σ0 : List (Option V)} {i : Nat} {ys : List V} {r : List Int × α} {y : V} {a b : Option V} (s1 : Same U H') (dy : DtA H' ys (((l.take i).filter f).map fun r => z2f r.1)) (hy : ys.length ≤ i) (hr : l[i]? = some r) (hf : f r = true) (s2 : Same H' H2) (dr : Dt H' y (z2f r.1)) :
  q38 U f l σ0 (i + 1) (ys ++ [y]) (a :: b :: σ0) H2 := by
 refine ⟨s1.trans s2, ⟨_, _, rfl⟩, ?_, by rw [List.length_append, List.length_singleton]; omega⟩
 rw [z5t hr, List.filter_append, List.filter_cons, hf, List.map_append]
 exact (dy.kp s2.kp).append (.cons (dr.kp s2.kp) .nil)
theorem zsq {α : Type} {U H' H2 : Hp} {f : List Int × α → Bool} {l : List (List Int × α)} {σ0 : List (Option V)} {i : Nat} {ys : List V} {r : List Int × α} {a b : Option V} (s1 : Same U H') (dy : DtA H' ys (((l.take i).filter f).map fun r => z2f r.1)) (hy : ys.length ≤ i) (hr : l[i]? = some r) (hf : f r = false) (s2 : Same H' H2) :
  q38 U f l σ0 (i + 1) ys (a :: b :: σ0) H2 := by
 refine ⟨s1.trans s2, ⟨_, _, rfl⟩, ?_, by omega⟩
 rw [z5t hr, List.filter_append, List.filter_cons, hf]
 simpa using dy.kp s2.kp
theorem zop {n : Nat} (ih : ∀ (b : List D) (p : List Int) (k : Int), okB n b → ∀ r ∈ z0j p k b, ∃ m, okD m r.2) : ∀ (b : List D) (p : List Int) (k : Int), (∀ d ∈ b, okD n d) → ∀ r ∈ z0j p k b, ∃ m, okD m r.2
 | [], p, k, _, r, hr => by simp [z0j] at hr
 | d :: b, p, k, h, r, hr => by
  rw [z0j, List.mem_append] at hr
  rcases hr with hr | hr
  ·have hd := h d (.head _)
   rw [zlx, List.mem_cons] at hr
   rcases hr with rfl | hr
   ·exact ⟨n, hd⟩
   ·have key : ∀ l : List (Int × List D), (∀ q ∈ l, q ∈ d.blocks) → r ∈ z8c (p ++ [k]) l → ∃ m, okD m r.2 := by
     intro l
     induction l with
     | nil => intro _ hr; simp [z8c] at hr
     | cons q l ihl =>
      intro hl hr
      rw [z8c, List.mem_append] at hr
      rcases hr with hr | hr
      ·exact ih q.2 (p ++ [k] ++ [q.1]) 0 (ztt hd (hl q (.head _))) r hr
      ·exact ihl (fun z hz => hl z (.tail _ hz)) hr
    exact key d.blocks (fun _ z => z) hr
  ·exact zop ih b p (k + 1) (fun e he => h e (.tail _ he)) r hr
theorem zho : ∀ (n : Nat) (b : List D) (p : List Int) (k : Int), okB n b → ∀ r ∈ z0j p k b, ∃ m, okD m r.2
 | 0, _, _, _, h => h.elim
 | n + 1, b, p, k, h => zop (zho n) b p k h.2
theorem zjh : ∀ (l m : List Str), l.Nodup → (∀ x ∈ l, x ∈ m) → l.length ≤ m.length
 | [], m, _, _ => by simp
 | x :: l, m, h, hs => by
  rw [List.nodup_cons] at h
  have hx := hs x (.head _)
  have ih := zjh l (m.erase x) h.2 fun y hy => by
   have hne : y ≠ x := fun e => h.1 (e ▸ hy)
   exact (List.mem_erase_of_ne hne).mpr (hs y (.tail _ hy))
  have e := List.length_erase_of_mem hx
  have hp := List.length_pos_of_mem hx
  rw [List.length_cons]
  omega
end
section
variable {P : Program} {w : World} {K : PySem.W.Frag} {mg : Str → Option Value} {base : Heap} {f : Addr} {fd : FuncData}
theorem zh6 : ∀ (p x y : List Int), ltI (p ++ x) (p ++ y) = ltI x y
 | [], x, y => rfl
 | a :: p, x, y => by rw [List.cons_append, List.cons_append, ltI, if_pos rfl, zh6 p x y]
theorem zjj {i j : Int} (h : i < j) (x y : List Int) : ltI (i :: x) (j :: y) = true := by
 rw [ltI, if_neg (by omega), decide_eq_true h]
theorem zxt (p : List Int) (i : Int) (x : List Int) : ltI p (p ++ i :: x) = true := by
 have := zh6 p [] (i :: x)
 rw [List.append_nil] at this
 rw [this]; rfl
def Rel (p q : List Int) : Prop := ltI p q = true ∧ ∀ x y : List Int, ltI (p ++ 0 :: x) (q ++ 0 :: y) = true
theorem zog {i j : Int} (h : i < j) (p x y : List Int) : Rel (p ++ i :: x) (p ++ j :: y) := by
 refine ⟨by rw [zh6]; exact zjj h _ _, fun z u => ?_⟩
 rw [List.append_assoc, List.append_assoc, zh6, List.cons_append, List.cons_append]
 exact zjj h _ _
theorem zrc {n : Int} (h : 1 ≤ n) (p t : List Int) : Rel p (p ++ n :: t) := by
 refine ⟨zxt p n t, fun z u => ?_⟩
 rw [List.append_assoc, zh6, List.cons_append]
 exact zjj (by omega) _ _
mutual
theorem q3k : ∀ (d : D) (p : List Int), ∀ r ∈ z0p p d, r.1 = p ∨ ∃ n t, 1 ≤ n ∧ r.1 = p ++ n :: t
 | .set x t, p, r, hr => by
  simp only [z0p, List.mem_cons, List.not_mem_nil, or_false] at hr
  subst hr
  exact .inl rfl
 | .ite t b c, p, r, hr => by
  rw [z0p, List.mem_cons, List.mem_append] at hr
  rcases hr with rfl | hr | hr
  ·exact .inl rfl
  ·obtain ⟨j, u, _, e⟩ := zu0 b (p ++ [1]) 0 r hr
   exact .inr ⟨1, j :: u, by decide, by rw [e]; simp⟩
  ·obtain ⟨j, u, _, e⟩ := zu0 c (p ++ [2]) 0 r hr
   exact .inr ⟨2, j :: u, by decide, by rw [e]; simp⟩
 | .whl t m b, p, r, hr => by
  rw [z0p, List.mem_cons] at hr
  rcases hr with rfl | hr
  ·exact .inl rfl
  ·obtain ⟨j, u, _, e⟩ := zu0 b (p ++ [1]) 0 r hr
   exact .inr ⟨1, j :: u, by decide, by rw [e]; simp⟩
theorem zu0 : ∀ (b : List D) (p : List Int) (k : Int), ∀ r ∈ z0j p k b, ∃ j t, k ≤ j ∧ r.1 = p ++ j :: t
 | [], p, k, r, hr => by simp [z0j] at hr
 | d :: b, p, k, r, hr => by
  rw [z0j, List.mem_append] at hr
  rcases hr with hr | hr
  ·rcases q3k d (p ++ [k]) r hr with e | ⟨n, t, _, e⟩
   ·exact ⟨k, [], by omega, e⟩
   ·exact ⟨k, n :: t, by omega, by rw [e]; simp⟩
  ·obtain ⟨j, t, h, e⟩ := zu0 b p (k + 1) r hr
   exact ⟨j, t, by omega, e⟩
end
theorem q40 {d : D} {p : List Int} {k : Int} {r : RD} (hr : r ∈ z0p (p ++ [k]) d) : ∃ t, r.1 = p ++ k :: t := by
 rcases q3k d (p ++ [k]) r hr with e | ⟨n, t, _, e⟩
 ·exact ⟨[], e⟩
 ·exact ⟨n :: t, by rw [e]; simp⟩
mutual
theorem pwD : ∀ (d : D) (p : List Int), (z0p p d).Pairwise fun r s => Rel r.1 s.1
 | .set x t, p => by rw [z0p]; exact List.pairwise_singleton _ _
 | .ite t b c, p => by
  rw [z0p, List.pairwise_cons, List.pairwise_append]
  refine ⟨fun r hr => ?_, pwB b _ _, pwB c _ _, fun r hr s hs => ?_⟩
  ·rcases List.mem_append.mp hr with hr | hr
   ·obtain ⟨j, u, _, e⟩ := zu0 b (p ++ [1]) 0 r hr
    rw [e, List.append_assoc]
    exact zrc (by decide) _ _
   ·obtain ⟨j, u, _, e⟩ := zu0 c (p ++ [2]) 0 r hr
    rw [e, List.append_assoc]
    exact zrc (by decide) _ _
  ·obtain ⟨j, u, _, e⟩ := zu0 b (p ++ [1]) 0 r hr
   obtain ⟨j2, u2, _, e2⟩ := zu0 c (p ++ [2]) 0 s hs
   rw [e, e2, List.append_assoc, List.append_assoc]
   exact zog (by decide) _ _ _
 | .whl t m b, p => by
  rw [z0p, List.pairwise_cons]
  refine ⟨fun r hr => ?_, pwB b _ _⟩
  obtain ⟨j, u, _, e⟩ := zu0 b (p ++ [1]) 0 r hr
  rw [e, List.append_assoc]
  exact zrc (by decide) _ _
theorem pwB : ∀ (b : List D) (p : List Int) (k : Int), (z0j p k b).Pairwise fun r s => Rel r.1 s.1
 | [], p, k => by rw [z0j]; exact .nil
 | d :: b, p, k => by
  rw [z0j, List.pairwise_append]
  refine ⟨pwD d _, pwB b _ _, fun r hr s hs => ?_⟩
  obtain ⟨t, e⟩ := q40 hr
  obtain ⟨j, u, h, e2⟩ := zu0 b p (k + 1) s hs
  rw [e, e2]
  exact zog (by omega) _ _ _
end
theorem z5o {p q : List Str} (h : ∀ x ∈ p, x ∈ q) : ∀ {t : T}, t.knows p = true → t.knows q = true
 | .num i, _ => rfl
 | .nm x, k => by
  have : x ∈ p := by simpa [T.knows] using k
  simpa [T.knows] using h x this
 | .op w a b, k => by
  rw [T.knows, Bool.and_eq_true] at k ⊢
  exact ⟨z5o h k.1, z5o h k.2⟩
def zph (l : List RD) : List Str := l.filterMap q3y
def Good (p : List Str) (l : List RD) (q : List Str) : Prop := (∀ r ∈ l, r.2.term.knows (p ++ zph l) = true) ∧ ∀ x ∈ q, x ∈ p ++ zph l
theorem Good.wide {p q p' : List Str} {l l' : List RD} (h : Good p l q) (hp : ∀ x ∈ p ++ zph l, x ∈ p' ++ zph l') : (∀ r ∈ l, r.2.term.knows (p' ++ zph l') = true) ∧ ∀ x ∈ q, x ∈ p' ++ zph l' :=
 ⟨fun r hr => z5o hp (h.1 r hr), fun x hx => hp x (h.2 x hx)⟩
theorem zvi {xs : List V} (h : xs.all okV = true) : eqL xs xs = true := by
 unfold eqL
 exact ze3 (by simpa [PyData.canLay0] using (zjm xs h).1)
theorem zqa (l : List (List Int)) : zgz (l.map z2f) = true ∧ SeqAt.shaped (.list (zeh (l.map z2f))) = true ∧ PyData.canLay0 (.list (zeh (l.map z2f))) = true := by
 obtain ⟨a, b, c⟩ := zya (ds := l.map z2f) (n := 1) fun d hd => by
  obtain ⟨p, _, rfl⟩ := List.mem_map.mp hd
  exact zhl p
 have h : PyData.canLay0 (.list (zeh (l.map z2f))) = true := by simpa [PyData.canLay0] using b
 refine ⟨a, ?_, h⟩
 unfold SeqAt.shaped
 rw [h, Bool.true_and, decide_eq_true_eq]
 simp only [PyData.depth]
 omega
end
section
variable {P : Program} {w : World} {K : PySem.W.Frag} {mg : Str → Option Value} {base : Heap} {f : Addr} {fd : FuncData}
def q0q (r : RD) : Bool := match r.2 with
 | .whl _ _ _ => true
 | _ => false
def whR (l : List RD) : List (List Int) := (l.filter q0q).map (·.1)
def whP (b : List D) : List (List Int) := whR (z3y b)
end
section
variable {P : Program} {w : World} {K : PySem.W.Frag} {mg : Str → Option Value} {base : Heap} {f : Addr} {fd : FuncData}
def zoe : Sp := fun vs H Q _ => ∃ v ins b, vs = [v] ∧ Dt H v (.tup [ins, .tup (z3u b)]) ∧ okB 3 b ∧ ∀ (r : Addr) (H' : Hp) (xs : List V), Same H H' → H r = none → H' r = some (.lst xs) → DtA H' xs ((whP b).map z2f) → Q (.ref r) H'
theorem zvp {ra : Addr} {us : List V} {l : List RD} {Q : VK} {H1 : Hp} (h2 : H1 ra = some (.lst us)) (d2 : DtA H1 us (l.map zx2)) (hz : l.length ≤ 1000) (q : ∀ (r : Addr) (H' : Hp) (xs : List V), Same H1 H' → H1 r = none → H' r = some (.lst xs) → DtA H' xs ((whR l).map z2f) → Q (.ref r) H') :
  zfi (Itl K ra) (zz7 K 2 (zq9 (zi9 0) (zq9 (zi9 1) q0w))) (zqx (tOp (qEq K) (tOp (zre K) (ztz 1) (tC (V.int 0))) (tC (V.str (Str.ofString "while"))))) (ztz 0) Q [none, none] H1 := by
 have hul : us.length = l.length := by rw [d2.length, List.length_map]
 refine z90 (K := K) (a := ra) (xs := us) (q38 H1 q0q l []) ⟨Same.refl _, ⟨_, _, rfl⟩, by rw [List.take_zero]; exact .nil, Nat.le_refl _⟩ (by rw [hul]; exact z3w hz) ?_ ?_ ?_ ?_
 ·rintro i ys σ' H' ⟨_, _, _, hy⟩
  exact hy
 ·rintro i ys σ' H' _ ⟨s2, _, _⟩
  exact SqL.of (s2 _ _ h2)
 ·rintro i ys v' σ' H' hxi ⟨s2, ⟨t, u, rfl⟩, dy, hy⟩
  obtain ⟨r, hri, dr⟩ := zc2 d2 hxi
  obtain ⟨pp, y0, y1, rfl, hpp, u0, u1⟩ := zo7 (dr.kp s2.kp)
  walk_at "rd7"
  refine ⟨_, SqT.of hpp, rfl, _, _, rfl, _, _, rfl, rfl, ?_⟩
  obtain ⟨rp, d⟩ := r
  cases d with
  | set z tt =>
   obtain ⟨a, x0, x1, x2, rfl, ha, t0, t1, t2⟩ := zqw (show Dt H' y1 (.tup [.str "set", .str z, tt.enc]) by have := u1; rw [D.enc] at this; exact this)
   refine ⟨_, rfl, _, SqT.of ha, _, rfl, _, zbz t0, ?_⟩
   rw [if_neg (show ¬ eqS (.str "set") "while" = true from by decide +kernel)]
   exact zsq s2 dy hy hri rfl (Same.refl _)
  | ite t b c =>
   obtain ⟨a, x0, x1, x2, x3, rfl, ha, t0, t1, t2, t3⟩ := zkm (show Dt H' y1 (.tup [.str "if", t.enc, .tup (z3u b), .tup (z3u c)]) by have := u1; rw [D.enc] at this; exact this)
   refine ⟨_, rfl, _, SqT.of ha, _, rfl, _, zbz t0, ?_⟩
   rw [if_neg (show ¬ eqS (.str "if") "while" = true from by decide +kernel)]
   exact zsq s2 dy hy hri rfl (Same.refl _)
  | whl t m b =>
   obtain ⟨a, x0, x1, x2, x3, rfl, ha, t0, t1, t2, t3⟩ := zkm (show Dt H' y1 (.tup [.str "while", t.enc, .int m, .tup (z3u b)]) by have := u1; rw [D.enc] at this; exact this)
   refine ⟨_, rfl, _, SqT.of ha, _, rfl, _, zbz t0, ?_⟩
   rw [if_pos (show eqS (.str "while") "while" = true from by decide +kernel)]
   exact zvd s2 dy hy hri rfl (Same.refl _) u0
 ·rintro ys σ' H' ⟨s2, _, dy, _⟩ pe hpe
  have s3 := z03 hpe (HO.lst ys)
  refine q pe _ ys (s2.trans s3) (s2.free hpe) z02 ?_
  rw [hul, List.take_length] at dy
  unfold whR
  rw [List.map_map]
  exact dy.kp s3.kp
theorem zry (F : Fun K "whiles" "whiles" z6j f fd) (c_all_deeds : Callee P w K mg base "all_deeds" ["program"] 7 zeu) : FnOk P w K mg base CX0 8 f fd ["program"] zoe := by
 refine F.ok zra (fun vs H Q E h => ?_) (fun cdv A outer s H vs Q E hr h => ?_)
 ·obtain ⟨v, ins, b, rfl, _⟩ := h
  rfl
 obtain ⟨v, ins, b, rfl, hd, hok, q⟩ := h
 refine ⟨_, (z08 (z0o (zey ["path", "deed"] [none, none] rfl (CompS.of (by rfl)) (z7z (z1d c_all_deeds hr (by omega) (z07 (z00 (i := 0) rfl zd2 z40 z41) z04) zcg zfp)) (fun _ _ _ _ _ => (zn4 (n := 2) (K := K) rfl rfl (z2a (z1t (i := 0) (show List.Nodup (["path", "deed"] : List Str) from by decide +kernel) rfl (Or.inl rfl)) (z2a (z1t (i := 1) (show List.Nodup (["path", "deed"] : List Str) from by decide +kernel) rfl (Or.inl rfl)) z80)))) (fun _ _ _ _ _ => (zn3 (z0f (opK (r := qEq) (K := K) (gEq hr.units) rfl) (z0v (ixK (r := zre) (K := K) z0e rfl) (z00 (i := 1) rfl (by first | exact Or.inl rfl | exact Or.inr (Or.inl rfl) | exact Or.inr (Or.inr rfl)) z17 z18) z01 (fun _ _ => rfl)) z0u (z0w _)))) (fun _ _ _ _ _ => (z00 (i := 0) rfl (by first | exact Or.inl rfl | exact Or.inr (Or.inl rfl) | exact Or.inr (Or.inr rfl)) z21 z22))))), ?_⟩
 walk_at "rd7"
 refine ⟨v, ins, b, rfl, hd, zdi (zar hok), fun ra H1 us s2 f2 h2 d2 => ?_⟩
 walk_at "rd7"
 have hbl := zhp 3 b [] 0 hok
 have hb3 : bnd 3 = 942 := by decide
 have hz : (z3y b).length ≤ 1000 := by have : (z3y b).length ≤ bnd 3 := hbl; omega
 refine ⟨⟨_, SqL.of h2⟩, zvp h2 d2 hz fun r H' xs s3 f3 h3 d3 => q r H' xs (s2.trans s3) (s2.free f3) h3 d3⟩
end
section
variable {P : Program} {w : World} {K : PySem.W.Frag} {mg : Str → Option Value} {base : Heap} {f : Addr} {fd : FuncData}
def T.word : T → Str
 | .num _ => "num"
 | .nm _ => "name"
 | .op w _ _ => w.str
def ten : List Str := ["num", "name", "add", "sub", "mul", "quo", "less", "same", "min", "max"]
abbrev Cnt := List (Str × Int)
def kvC (c : Cnt) : List (Key × V) := c.map fun p => ((Sum.inr p.1 : Key), V.int p.2)
def zfm (c : Cnt) (x : Str) : Option Int := (c.find? fun p => decide (p.1 = x)).map (·.2)
def zja (c : Cnt) (x : Str) (i : Int) : Cnt := if (c.any fun p => decide (p.1 = x)) = true then c.map (fun p => if p.1 = x then (p.1, i) else p) else c ++ [(x, i)]
def q1p (c : Cnt) (x : Str) : Cnt := zja c x ((zfm c x).getD 0 + 1)
theorem inr_eq {x y : Str} : ((Sum.inr x : Key) = Sum.inr y) ↔ x = y := ⟨fun h => by injection h, fun h => by rw [h]⟩
theorem zvv (x : Str) : ∀ c : Cnt, zki (kvC c) (Sum.inr x) = (zfm c x).map V.int
 | [] => rfl
 | p :: c => by
  have ih := zvv x c
  unfold zki kvC zfm at ih ⊢
  rw [List.map_cons, List.find?_cons, List.find?_cons]
  by_cases e : p.1 = x
  ·simp [e]
  ·have e' : ¬ (Sum.inr p.1 : Key) = Sum.inr x := fun z => e (inr_eq.mp z)
   simp only [e, e', decide_false]
   exact ih
theorem q1n (x : Str) (c : Cnt) : ((kvC c).any fun kv => decide (kv.1 = Sum.inr x)) = c.any fun p => decide (p.1 = x) := by
 unfold kvC
 rw [List.any_map]
 congr 1
 funext p
 show decide ((Sum.inr p.1 : Key) = Sum.inr x) = decide (p.1 = x)
 by_cases e : p.1 = x
 ·rw [decide_eq_true e, decide_eq_true (inr_eq.mpr e)]
 ·rw [decide_eq_false e, decide_eq_false fun z => e (inr_eq.mp z)]
theorem zw2 (x : Str) (i : Int) (c : Cnt) : zn1 (kvC c) (Sum.inr x) (V.int i) = kvC (zja c x i) := by
 unfold zn1 zja
 rw [q1n]
 split
 ·unfold kvC
  rw [List.map_map, List.map_map]
  refine List.map_congr_left fun p _ => ?_
  show (if (Sum.inr p.1 : Key) = Sum.inr x then _ else _) = _
  by_cases e : p.1 = x
  ·simp [e]
  ·simp [e]
 ·simp [kvC]
def sumC (c : Cnt) : Int := (c.map (·.2)).sum
theorem zgd (c : Cnt) (x : Str) (i : Int) : (zja c x i).map (·.1) = if x ∈ c.map (·.1) then c.map (·.1) else c.map (·.1) ++ [x] := by
 unfold zja
 have hany : (c.any fun p => decide (p.1 = x)) = true ↔ x ∈ c.map (·.1) := by
  rw [List.any_eq_true, List.mem_map]
  constructor
  ·rintro ⟨p, hp, e⟩; exact ⟨p, hp, of_decide_eq_true e⟩
  ·rintro ⟨p, hp, e⟩; exact ⟨p, hp, decide_eq_true e⟩
 by_cases h : x ∈ c.map (·.1)
 ·rw [if_pos (hany.mpr h), if_pos h, List.map_map]
  refine List.map_congr_left fun p _ => ?_
  show (if p.1 = x then (p.1, i) else p).1 = p.1
  split <;> rfl
 ·rw [if_neg fun z => h (hany.mp z), if_neg h, List.map_append]
  rfl
theorem zx8 (i : Int) (x : Str) : ∀ c : Cnt, (c.map (·.1)).Nodup → sumC (zja c x i) = sumC c - (zfm c x).getD 0 + i := by
 have upd_ : ∀ c : Cnt, (c.map (·.1)).Nodup → (∀ v, zfm c x = some v → sumC (c.map fun p => if p.1 = x then (p.1, i) else p) = sumC c - v + i) ∧ (zfm c x = none → (c.map fun p => if p.1 = x then (p.1, i) else p) = c ∧ (c.any fun p => decide (p.1 = x)) = false) ∧ (∀ v, zfm c x = some v → (c.any fun p => decide (p.1 = x)) = true) := by
  intro c
  induction c with
  | nil => intro _; exact ⟨fun v h => (by cases h), fun _ => ⟨rfl, rfl⟩, fun v h => (by cases h)⟩
  | cons p c ih =>
   intro hn
   rw [List.map_cons, List.nodup_cons] at hn
   obtain ⟨i1, i2, i3⟩ := ih hn.2
   by_cases e : p.1 = x
   ·have hno : zfm c x = none := by
     unfold zfm
     cases hf : c.find? fun p => decide (p.1 = x) with
     | none => rfl
     | some q =>
      have h1 := List.mem_of_find?_eq_some hf
      have h2 := of_decide_eq_true (List.find?_some (p := fun p : Str × Int => decide (p.1 = x)) hf)
      exact absurd (List.mem_map.mpr ⟨q, h1, h2.trans e.symm⟩) hn.1
    have hg : zfm (p :: c) x = some p.2 := by unfold zfm; rw [List.find?_cons]; simp [e]
    refine ⟨fun v h => ?_, fun h => (by rw [hg] at h; cases h), fun v h => (by simp [e])⟩
    rw [hg] at h
    have : p.2 = v := Option.some.inj h
    subst this
    rw [List.map_cons, if_pos e, (i2 hno).1]
    simp [sumC]
    omega
   ·have hg : zfm (p :: c) x = zfm c x := by unfold zfm; rw [List.find?_cons]; simp [e]
    rw [hg]
    refine ⟨fun v h => ?_, fun h => ?_, fun v h => ?_⟩
    ·have := i1 v h
     rw [List.map_cons, if_neg e]
     simp only [sumC, List.map_cons, List.sum_cons] at this ⊢
     omega
    ·obtain ⟨j1, j2⟩ := i2 h
     exact ⟨by rw [List.map_cons, if_neg e, j1], by rw [List.any_cons, j2]; simp [e]⟩
    ·rw [List.any_cons, i3 v h]; simp
 intro c hn
 obtain ⟨h1, h2, h3⟩ := upd_ c hn
 unfold zja
 cases hg : zfm c x with
 | none =>
  rw [if_neg (by rw [(h2 hg).2]; decide)]
  simp [sumC]
 | some v =>
  rw [if_pos (h3 v hg), h1 v hg]
  rfl
structure CntOk (c : Cnt) (n : Nat) : Prop where
 nd : (c.map (·.1)).Nodup
 sub : ∀ p ∈ c, p.1 ∈ ten
 tot : sumC c = n
theorem CntOk.nil : CntOk [] 0 := ⟨.nil, fun p h => by simp at h, rfl⟩
theorem CntOk.add {c : Cnt} {n : Nat} (h : CntOk c n) {x : Str} (hx : x ∈ ten) : CntOk (q1p c x) (n + 1) := by
 refine ⟨?_, fun p hp => ?_, ?_⟩
 ·unfold q1p
  rw [zgd]
  split
  ·exact h.nd
  ·rename_i hn
   exact List.nodup_append.mpr ⟨h.nd, by simp, fun a ha b hb e => hn (by rw [List.mem_singleton] at hb; rw [← hb, ← e]; exact ha)⟩
 ·have hm : p.1 ∈ (q1p c x).map (·.1) := List.mem_map.mpr ⟨p, hp, rfl⟩
  unfold q1p at hm
  rw [zgd] at hm
  split at hm
  ·obtain ⟨q, hq, e⟩ := List.mem_map.mp hm
   rw [← e]; exact h.sub q hq
  ·rcases List.mem_append.mp hm with hm | hm
   ·obtain ⟨q, hq, e⟩ := List.mem_map.mp hm
    rw [← e]; exact h.sub q hq
   ·rw [List.mem_singleton] at hm
    rw [hm]; exact hx
 ·unfold q1p
  rw [zx8 _ _ _ h.nd, h.tot]
  omega
theorem CntOk.len {c : Cnt} {n : Nat} (h : CntOk c n) : c.length ≤ 10 := by
 have := zjh (c.map (·.1)) ten h.nd fun x hx => by
  obtain ⟨q, hq, e⟩ := List.mem_map.mp hx
  rw [← e]; exact h.sub q hq
 rw [List.length_map] at this
 exact this
theorem zu7 {H : Hp} {v : V} {t : T} (h : Dt H v t.enc) : ∃ a y xs, v = .ref a ∧ H a = some (.tup (.str t.word :: y :: xs)) := by
 cases t with
 | num i =>
  rw [T.enc] at h
  obtain ⟨a, x0, x1, rfl, ha, t0, t1⟩ := zo7 h
  cases t0
  exact ⟨_, _, _, rfl, ha⟩
 | nm x =>
  rw [T.enc] at h
  obtain ⟨a, x0, x1, rfl, ha, t0, t1⟩ := zo7 h
  cases t0
  exact ⟨_, _, _, rfl, ha⟩
 | op w a b =>
  rw [T.enc] at h
  obtain ⟨a, x0, x1, x2, rfl, ha, t0, t1, t2⟩ := zqw h
  cases t0
  exact ⟨_, _, _, rfl, ha⟩
theorem zt0 {H : Hp} {v : V} {d : D} (h : Dt H v d.enc) : ∃ a xs, v = .ref a ∧ H a = some (.tup (.str d.kind :: xs)) := by
 cases d with
 | set x t =>
  rw [D.enc] at h
  obtain ⟨a, x0, x1, x2, rfl, ha, t0, t1, t2⟩ := zqw h
  cases t0
  exact ⟨_, _, rfl, ha⟩
 | ite t b c =>
  rw [D.enc] at h
  obtain ⟨a, x0, x1, x2, x3, rfl, ha, t0, t1, t2, t3⟩ := zkm h
  cases t0
  exact ⟨_, _, rfl, ha⟩
 | whl t m b =>
  rw [D.enc] at h
  obtain ⟨a, x0, x1, x2, x3, rfl, ha, t0, t1, t2, t3⟩ := zkm h
  cases t0
  exact ⟨_, _, rfl, ha⟩
theorem z1g {x : V} {xs : List V} : atI (x :: xs) 0 = some x := z13 (j := 0) rfl
theorem zxv {H : Hp} {p : Addr} {c e : List (Key × V)} (h : H p = some (.dK c)) : Kp H (upd H p (.dK e)) :=
 ⟨fun b zs q => by rw [z0q (zh5 q h (by intro z; cases z))]; exact q, fun b zs q => ⟨zs, by rw [z0q (zh5 q h (by intro z; cases z))]; exact q⟩⟩
end
section
variable {P : Program} {w : World} {K : PySem.W.Frag} {mg : Str → Option Value} {base : Heap} {f : Addr} {fd : FuncData}
end
section
variable {P : Program} {w : World} {K : PySem.W.Frag} {mg : Str → Option Value} {base : Heap} {f : Addr} {fd : FuncData}
mutual
def prD (dp : List Int) (o : D) (p : List Int) : D → D
 | .set x t => if p = dp then o else .set x t
 | .ite t b c => if p = dp then o else .ite t (prB dp o (p ++ [1]) 0 b) (prB dp o (p ++ [2]) 0 c)
 | .whl t m b => if p = dp then o else .whl t m (prB dp o (p ++ [1]) 0 b)
def prB (dp : List Int) (o : D) (p : List Int) (k : Int) : List D → List D
 | [] => []
 | d :: r => prD dp o (p ++ [k]) d :: prB dp o p (k + 1) r
end
def D.withB (d : D) (bs : List (List D)) : D := match d, bs with
 | .ite t _ _, [b, c] => .ite t b c
 | .whl t m _, [b] => .whl t m b
 | d, _ => d
def zsb (dp : List Int) (o : D) (p : List Int) (d : D) : List (List D) := d.blocks.map fun q => prB dp o (p ++ [q.1]) 0 q.2
theorem zw5 (dp : List Int) (o : D) (p : List Int) (d : D) : prD dp o p d = if p = dp then o else d.withB (zsb dp o p d) := by
 cases d <;> simp [prD, D.withB, zsb, D.blocks]
theorem zii (dp : List Int) (o : D) (p : List Int) : ∀ (k : Int) (a b : List D), prB dp o p k (a ++ b) = prB dp o p k a ++ prB dp o p (k + a.length) b
 | k, [], b => by simp [prB]
 | k, d :: a, b => by
  rw [List.cons_append, prB, prB, zii dp o p (k + 1) a b, List.cons_append, List.length_cons]
  congr 3
  omega
theorem zur (dp : List Int) (o : D) (p : List Int) (a : List D) (d : D) : prB dp o p 0 (a ++ [d]) = prB dp o p 0 a ++ [prD dp o (p ++ [(a.length : Int)]) d] := by
 rw [zii, prB, prB, Int.zero_add]
theorem zh2 (dp : List Int) (o : D) (p : List Int) : ∀ (k : Int) (b : List D), (prB dp o p k b).length = b.length
 | k, [] => rfl
 | k, d :: b => by rw [prB, List.length_cons, List.length_cons, zh2 dp o p (k + 1) b]
theorem zzu {dp : List Int} {o : D} {p : List Int} {b : List D} {i : Nat} {d : D} (h : b[i]? = some d) : prB dp o p 0 (b.take (i + 1)) = prB dp o p 0 (b.take i) ++ [prD dp o (p ++ [(i : Int)]) d] := by
 have hl : i < b.length := (List.getElem?_eq_some_iff.mp h).1
 have e : (b.take i).length = i := by rw [List.length_take]; omega
 rw [z5t h, zur, e]
def zkd : D → D
 | .whl t m b => .ite t (b ++ [.whl t (m - 1) b]) []
 | d => d
theorem zn5 {n : Nat} {d : D} (h : okD n d) : zmp (n + 1) (zkd d) := by
 cases d with
 | set x t => exact h
 | ite t b c => exact zs4 (zs5 h)
 | whl t m b =>
  have hb := h.2.2.2
  cases n with
  | zero => exact hb.elim
  | succ n =>
   refine ⟨h.1, ⟨?_, fun d hd => ?_⟩, ⟨by simp, fun d hd => by simp at hd⟩⟩
   ·have := hb.1
    rw [List.length_append, List.length_singleton]
    omega
   ·rcases List.mem_append.mp hd with hd | hd
    ·exact zs4 (zs5 (hb.2 d hd))
    ·rw [List.mem_singleton] at hd
     subst hd
     exact ⟨h.1, zar hb⟩
theorem zon {n : Nat} {b : List D} (hl : b.length ≤ 7) (h : ∀ d ∈ b, zmp n d) : okW (n + 1) b := ⟨hl, fun d hd => h d hd⟩
mutual
theorem zx9 {dp : List Int} {d0 : D} : ∀ (d : D) (p : List Int) (n : Nat), okD n d → (∀ r ∈ z0p p d, r.1 = dp → r.2 = d0) → zmp (n + 1) (prD dp (zkd d0) p d)
 | .set x t, p, n, h, hu => by
  rw [prD]
  split
  ·rename_i e
   have := hu (p, .set x t) (by simp [z0p]) e
   rw [← this]
   exact zn5 h
  ·exact h
 | .ite t b c, p, n, h, hu => by
  rw [prD]
  split
  ·rename_i e
   have := hu (p, .ite t b c) (by simp [z0p]) e
   rw [← this]
   exact zn5 h
  ·cases n with
   | zero => exact h.2.1.elim
   | succ n =>
    refine ⟨h.1, zon ?_ (zh1 b (p ++ [1]) 0 n (fun d hd => h.2.1.2 d hd) fun r hr => hu r (by rw [z0p]; exact .tail _ (List.mem_append_left _ hr))), zon ?_ (zh1 c (p ++ [2]) 0 n (fun d hd => h.2.2.2 d hd) fun r hr => hu r (by rw [z0p]; exact .tail _ (List.mem_append_right _ hr)))⟩
    ·rw [zh2]; exact Nat.le_trans h.2.1.1 (by decide)
    ·rw [zh2]; exact Nat.le_trans h.2.2.1 (by decide)
 | .whl t m b, p, n, h, hu => by
  rw [prD]
  split
  ·rename_i e
   have := hu (p, .whl t m b) (by simp [z0p]) e
   rw [← this]
   exact zn5 h
  ·cases n with
   | zero => exact h.2.2.2.elim
   | succ n =>
    refine ⟨h.1, zon ?_ (zh1 b (p ++ [1]) 0 n (fun d hd => h.2.2.2.2 d hd) fun r hr => hu r (by rw [z0p]; exact .tail _ hr))⟩
    rw [zh2]; exact Nat.le_trans h.2.2.2.1 (by decide)
theorem zh1 {dp : List Int} {d0 : D} : ∀ (b : List D) (p : List Int) (k : Int) (n : Nat), (∀ d ∈ b, okD n d) → (∀ r ∈ z0j p k b, r.1 = dp → r.2 = d0) → ∀ d ∈ prB dp (zkd d0) p k b, zmp (n + 1) d
 | [], p, k, n, h, hu, d, hd => by simp [prB] at hd
 | e :: b, p, k, n, h, hu, d, hd => by
  rw [prB] at hd
  rcases List.mem_cons.mp hd with hd | hd
  ·rw [hd]
   exact zx9 e (p ++ [k]) n (h e (.head _)) fun r hr => hu r (by rw [z0j]; exact List.mem_append_left _ hr)
  ·exact zh1 b p (k + 1) n (fun d hd => h d (.tail _ hd)) (fun r hr => hu r (by rw [z0j]; exact List.mem_append_right _ hr)) d hd
end
theorem zzs {dp : List Int} {d0 : D} {b : List D} (h : okB 3 b) (hu : ∀ r ∈ z0j [] 0 b, r.1 = dp → r.2 = d0) : okW 4 (prB dp (zkd d0) [] 0 b) :=
 zon (by rw [zh2]; exact Nat.le_trans h.1 (by decide)) (zh1 b [] 0 2 (fun d hd => h.2 d hd) hu)
theorem zde {b : List D} {r s : RD} (hr : r ∈ z3y b) (hs : s ∈ z3y b) (e : r.1 = s.1) : r = s := by
 have pw := (pwB b [] 0).imp (S := fun r s : RD => ltI r.1 s.1 = true) fun h => h.1
 have key : ∀ l : List RD, l.Pairwise (fun r s : RD => ltI r.1 s.1 = true) → ∀ r ∈ l, ∀ s ∈ l, r.1 = s.1 → r = s := by
  intro l pw
  induction pw with
  | nil => intro r hr; simp at hr
  | cons h _ ih =>
   intro r hr s hs e
   rcases List.mem_cons.mp hr with hr1 | hr1
   ·rcases List.mem_cons.mp hs with hs1 | hs1
    ·rw [hr1, hs1]
    ·have := h s hs1
     rw [← hr1, e] at this
     exact absurd rfl (zos this)
   ·rcases List.mem_cons.mp hs with hs1 | hs1
    ·have := h r hr1
     rw [← hs1, e] at this
     exact absurd rfl (zos this)
    ·exact ih r hr1 s hs1 e
 exact key _ pw r hr s hs e
theorem zn7 (b : List D) : ((z3y b).map (·.1)).Nodup := by
 refine List.pairwise_map.mpr ((pwB b [] 0).imp fun h => zos h.1)
theorem zwm {K : PySem.W.Frag} {H : Hp} {Q : VK} {x y : V} {ds es : List Dm} (dx : Dt H x (.tup ds)) (dy : Dt H y (.tup es)) (hz : ds.length + es.length ≤ 1000) (h : ∀ z H', Same H H' → Dt H' z (.tup (ds ++ es)) → Q z H') : zfk K x y H Q := by
 obtain ⟨a, xs, rfl, ha, da⟩ := dx.tupI
 obtain ⟨b, ys, rfl, hb, db⟩ := dy.tupI
 have la := da.length
 have lb := db.length
 refine ⟨a, b, _, _, rfl, rfl, SqT.of ha, SqT.of hb, ?_, fun e => ?_, fun _ e => ?_, fun _ _ r hr => ?_⟩
 ·exact Nat.le_of_lt (z3w (by omega))
 ·subst e
  have : ds = [] := List.length_eq_zero_iff.mp la.symm
  subst this
  exact h _ _ (Same.refl _) dy
 ·subst e
  have : es = [] := List.length_eq_zero_iff.mp lb.symm
  subst this
  rw [List.append_nil] at h
  exact h _ _ (Same.refl _) dx
 ·have s := z03 hr (HO.tup (xs ++ ys))
  exact h _ _ s (.tup z02 ((da.kp s.kp).append (db.kp s.kp)))
theorem zoy : ∀ (p q : List Int), PyData.eqvAll (zeh (p.map Dm.int)) (zeh (q.map Dm.int)) = decide (p = q)
 | [], [] => by simp [zeh, PyData.eqvAll]
 | [], _ :: _ => by simp [zeh, PyData.eqvAll]
 | _ :: _, [] => by simp [zeh, PyData.eqvAll]
 | a :: p, b :: q => by
  simp only [List.map_cons, zeh, PyData.eqvAll, zoy p q, Dm.dat, PyData.eqv]
  by_cases e : a = b
  ·subst e; simp
  ·simp [e]
def q36 (U : Hp) (pv dv ov : V) (dp : List Int) (o : D) (p : List Int) (b : List D) (i : Nat) (ys : List V) (σ' : St) (H' : Hp) : Prop := Same U H' ∧ (∃ t u, σ' = [t, u, some dv, some ov, some pv]) ∧ DtA H' ys (z3u (prB dp o p 0 (b.take i))) ∧ ys.length ≤ i
def q35 (U : Hp) (pv dv ov : V) (dp : List Int) (o : D) (p : List Int) (l : List (Int × List D)) (i : Nat) (ys : List V) (σ' : St) (H' : Hp) : Prop := Same U H' ∧ (∃ t u, σ' = [t, u, some dv, some ov, some pv]) ∧ DtA H' ys ((l.take i).map fun q => Dm.tup (z3u (prB dp o (p ++ [q.1]) 0 q.2))) ∧ ys.length ≤ i
theorem znp : ∀ (x y : List Int), x.map (Sum.inl : Int → Key) = y.map Sum.inl → x = y
 | [], [], _ => rfl
 | [], _ :: _, h => by cases h
 | _ :: _, [], h => by cases h
 | a :: x, b :: y, h => by
  rw [List.map_cons, List.map_cons] at h
  injection h with h1 h2
  injection h1 with h1
  rw [h1, znp x y h2]
theorem zib {H : Hp} {r : Rw2} : ∀ {kvs : List (List Key × V)} {l : List Rw2}, Paired (fun (kv : List Key × V) (r : Rw2) => kv.1 = r.1.map Sum.inl ∧ Dt H kv.2 r.2) kvs l → r ∈ l → (∀ s ∈ l, s.1 = r.1 → s = r) → ∃ x, zki kvs (r.1.map Sum.inl) = some x ∧ Dt H x r.2
 | _, _, .nil, h, _ => by simp at h
 | _, s :: l, .cons (a := kv) e t, h, hu => by
  by_cases c : kv.1 = r.1.map Sum.inl
  ·have : s.1 = r.1 := znp _ _ (e.1.symm.trans c)
   have := hu s (.head _) this
   subst this
   exact ⟨kv.2, zgc c, e.2⟩
  ·rw [zd8 c]
   refine zib t ?_ fun s' hs' => hu s' (.tail _ hs')
   rcases List.mem_cons.mp h with h | h
   ·subst h
    exact absurd e.1 c
   ·exact h
end
section
variable {P : Program} {w : World} {K : PySem.W.Frag} {mg : Str → Option Value} {base : Heap} {f : Addr} {fd : FuncData}
def q2l : Sp := fun vs H Q _ => ∃ v tv l d ws bs, vs = [v, tv, .ref l] ∧ Dt H v (D.enc d) ∧ Dt H tv d.term.enc ∧ H l = some (.lst ws) ∧ DtA H ws (bs.map fun q => Dm.tup (z3u q)) ∧ bs.length = d.blocks.length ∧ ∀ x H', Same H H' → Dt H' x (D.withB d bs).enc → Q x H'
theorem zlb (F : Fun K "deed_with" "deed_with" z36 f fd) : FnOk P w K mg base CX0 1 f fd ["deed", "term", "blocks"] q2l := by
 refine F.ok zku (fun vs H Q E h => ?_) (fun cdv A outer s H vs Q E hr h => ?_)
 ·obtain ⟨v, tv, l, d, ws, bs, rfl, _⟩ := h
  rfl
 obtain ⟨v, tv, l, d, ws, bs, rfl, hd, ht, hl, dw, hlen, q⟩ := h
 refine ⟨_, (z05 (z2k (z0f (gEq hr.units) (z0v z0e (z00 (i := 0) rfl z49 z17 z18) z01 (fun _ _ => rfl)) z0u (z0w _)) (z08 (z0o (z0z (z07 z0u (z07 (z0v z0e (z00 (i := 0) rfl z49 z17 z18) z01 (fun _ _ => rfl)) (z07 (z00 (i := 1) rfl z58 z7b z7e) z04)))))) z0y)
 (z05 (z2k (z0f (gEq hr.units) (z0v z0e (z00 (i := 0) rfl z49 z17 z18) z01 (fun _ _ => rfl)) z0u (z0w _)) (z08 (z0o (z0z (z07 z0u (z07 (z00 (i := 1) rfl z58 z7b z7e) (z07 (z0v z5c (z00 (i := 2) rfl z4l ze8 zec) z01 (fun _ _ => rfl)) (z07 (z0v z5c (z00 (i := 2) rfl z4l ze8 zec) z01 (fun _ _ => rfl)) z04))))))) z0y)
 (z08 (z0o (z0z (z07 z0u (z07 (z00 (i := 1) rfl z58 z7b z7e) (z07 (z0v z0e (z00 (i := 0) rfl z49 z17 z18) z01 (fun _ _ => rfl)) (z07 (z0v z5c (z00 (i := 2) rfl z4l ze8 zec) z01 (fun _ _ => rfl)) z04))))))))), ?_⟩
 walk_at "rd7"
 cases d with
 | set y tt =>
  obtain ⟨ad, x0, x1, x2, rfl, ha, t0, t1, t2⟩ := zqw (show Dt H v (.tup [.str "set", .str y, tt.enc]) by have := hd; rw [D.enc] at this; exact this)
  refine ⟨_, rfl, _, SqT.of ha, _, rfl, _, zbz t0, ?_⟩
  rw [if_pos (show eqS (.str "set") "set" = true from by decide +kernel)]
  refine ⟨_, rfl, _, SqT.of ha, _, rfl, zl 3 (by decide), fun r hr' => ?_⟩
  have s1 := z03 hr' (HO.tup [V.str "set", x1, tv])
  refine q _ _ s1 ?_
  show Dt _ _ (D.set y tt).enc
  rw [D.enc]
  exact .tup z02 (.cons (.str _) (.cons (t1.kp s1.kp) (.cons (ht.kp s1.kp) .nil)))
 | ite tt bb cc =>
  obtain ⟨ad, x0, x1, x2, x3, rfl, ha, t0, t1, t2, t3⟩ := zkm (show Dt H v (.tup [.str "if", tt.enc, .tup (z3u bb), .tup (z3u cc)]) by have := hd; rw [D.enc] at this; exact this)
  match bs, hlen with
  | [b1, b2], _ =>
   rcases dw with _ | ⟨w1, _ | ⟨w2, _ | _⟩⟩
   refine ⟨_, rfl, _, SqT.of ha, _, rfl, _, zbz t0, ?_⟩
   rw [if_neg (show ¬ eqS (.str "if") "set" = true from by decide +kernel)]
   refine ⟨_, rfl, _, SqT.of ha, _, rfl, _, zbz t0, ?_⟩
   rw [if_pos (show eqS (.str "if") "if" = true from by decide +kernel)]
   refine ⟨_, SqL.of hl, _, rfl, _, SqL.of hl, _, rfl, zl 4 (by decide), fun r hr' => ?_⟩
   refine q _ _ (z03 hr' _) ?_
   show Dt _ _ (D.ite tt b1 b2).enc
   rw [D.enc]
   exact .tup z02 (.cons (.str _) (.cons (ht.kp (z03 hr' _).kp) (.cons (w1.kp (z03 hr' _).kp) (.cons (w2.kp (z03 hr' _).kp) .nil))))
 | whl tt m bb =>
  obtain ⟨ad, x0, x1, x2, x3, rfl, ha, t0, t1, t2, t3⟩ := zkm (show Dt H v (.tup [.str "while", tt.enc, .int m, .tup (z3u bb)]) by have := hd; rw [D.enc] at this; exact this)
  match bs, hlen with
  | [b1], _ =>
   rcases dw with _ | ⟨w1, _ | _⟩
   refine ⟨_, rfl, _, SqT.of ha, _, rfl, _, zbz t0, ?_⟩
   rw [if_neg (show ¬ eqS (.str "while") "set" = true from by decide +kernel)]
   refine ⟨_, rfl, _, SqT.of ha, _, rfl, _, zbz t0, ?_⟩
   rw [if_neg (show ¬ eqS (.str "while") "if" = true from by decide +kernel)]
   refine ⟨_, rfl, _, SqT.of ha, _, rfl, _, SqL.of hl, _, rfl, zl 4 (by decide), fun r hr' => ?_⟩
   refine q _ _ (z03 hr' _) ?_
   show Dt _ _ (D.whl tt m b1).enc
   rw [D.enc]
   exact .tup z02 (.cons (.str _) (.cons (ht.kp (z03 hr' _).kp) (.cons (t2.kp (z03 hr' _).kp) (.cons (w1.kp (z03 hr' _).kp) .nil))))
def q3c : Sp := fun vs H Q _ => ∃ v t m b, vs = [v] ∧ Dt H v (D.whl t m b).enc ∧ b.length ≤ 6 ∧ ∀ x H', Same H H' → Dt H' x (zkd (.whl t m b)).enc → Q x H'
theorem zez (F : Fun K "round_and_rest" "round_and_rest" z1k f fd) : FnOk P w K mg base CX0 1 f fd ["deed"] q3c := by
 refine F.ok sc_round_and_rest (fun vs H Q E h => ?_) (fun cdv A outer s H vs Q E hr h => ?_)
 ·obtain ⟨v, t, m, b, rfl, _⟩ := h
  rfl
 obtain ⟨v, t, m, b, rfl, hd, hb, q⟩ := h
 refine ⟨_, (z05 (z1e (i := 1) sc_round_and_rest.nd rfl z9e (z0z (z07 z0u (z07 (z0v z0e (z00 (i := 0) rfl z1y z17 z18) z01 (fun _ _ => rfl)) (z07 (z16 zdg (z0v z0e (z00 (i := 0) rfl z1y z17 z18) z01 (fun _ _ => rfl)) z01) (z07 (z0v z0e (z00 (i := 0) rfl z1y z17 z18) z01 (fun _ _ => rfl)) z04))))) (z06 rfl))
 (z08 (z0o (z0z (z07 z0u (z07 (z0v z0e (z00 (i := 0) rfl z1y z17 z18) z01 (fun _ _ => rfl)) (z07 (z16 z2b (z0v z0e (z00 (i := 0) rfl z1y z17 z18) z01 (fun _ _ => rfl)) (z0z (z07 (z00 (i := 1) rfl z92 zye zyl) z04))) (z07 (z0z z04) z04)))))))), ?_⟩
 walk_at "rd7"
 obtain ⟨ad, x0, x1, x2, x3, rfl, ha, t0, t1, t2, t3⟩ := zkm (show Dt H v (.tup [.str "while", t.enc, .int m, .tup (z3u b)]) by have := hd; rw [D.enc] at this; exact this)
 cases t2
 refine ⟨_, rfl, _, SqT.of ha, _, rfl, _, rfl, _, SqT.of ha, _, rfl, _, rfl, _, rfl, _, SqT.of ha, _, rfl, zl 4 (by decide), fun r1 h1 => ?_⟩
 have s1 := z03 h1 (HO.tup [V.str "while", x1, V.int (m - 1), x3])
 have dr : Dt (upd H r1 (HO.tup [V.str "while", x1, V.int (m - 1), x3])) (.ref r1) (D.whl t (m - 1) b).enc := by
  rw [D.enc]
  exact .tup z02 (.cons (.str _) (.cons (t1.kp s1.kp) (.cons (.int _) (.cons (t3.kp s1.kp) .nil))))
 generalize upd H r1 (HO.tup [V.str "while", x1, V.int (m - 1), x3]) = U at s1 dr ⊢
 refine ⟨_, rfl, _, SqT.of (s1 _ _ ha), _, rfl, _, rfl, _, SqT.of (s1 _ _ ha), _, rfl, zl 1 (by decide), fun r2 h2 => ?_⟩
 have s2 := z03 h2 (HO.tup [V.ref r1])
 refine zwm (t3.kp (s1.trans s2).kp) (.tup z02 (.cons (dr.kp s2.kp) .nil)) (by rw [z2l]; simp; omega) fun z H3 s3 dz => ?_
 refine ⟨Nat.zero_le _, fun r4 h4 => ⟨zl 4 (by decide), fun r5 h5 => ?_⟩⟩
 have s4 := z03 h4 (HO.tup [])
 have s5 := z03 h5 (HO.tup [V.str "if", x1, z, V.ref r4])
 have s45 := s4.trans s5
 have s15 := s1.trans (s2.trans (s3.trans s45))
 refine q _ _ s15 ?_
 show Dt _ _ (D.ite t (b ++ [.whl t (m - 1) b]) []).enc
 rw [D.enc, z4h]
 exact .tup z02 (.cons (.str _) (.cons (t1.kp s15.kp) (.cons (dz.kp s45.kp) (.cons (.tup (s5 _ _ z02) .nil) .nil))))
def zz2 (n : Nat) : Sp := fun vs H Q _ => ∃ v b pv p dv dp ov o, vs = [v, pv, dv, ov] ∧ Dt H v (.tup (z3u b)) ∧ Dt H pv (z2f p) ∧ Dt H dv (z2f dp) ∧ Dt H ov (D.enc o) ∧ okW n b ∧ n ≤ 3 ∧ p.length + 2 * n ≤ 50 ∧ ∀ x H', Same H H' → Dt H' x (.tup (z3u (prB dp o p 0 b))) → Q x H'
def q3d (n : Nat) : Sp := fun vs H Q _ => ∃ v d pv p dv dp ov o, vs = [v, pv, dv, ov] ∧ Dt H v (D.enc d) ∧ Dt H pv (z2f p) ∧ Dt H dv (z2f dp) ∧ Dt H ov (D.enc o) ∧ zmp n d ∧ n ≤ 3 ∧ p.length + 2 * n ≤ 49 ∧ ∀ x H', Same H H' → Dt H' x (prD dp o p d).enc → Q x H'
theorem zjf {n : Nat} (F : Fun K "block_with" "block_with" z2e f fd) (b_enumerate : mg "enumerate" = none) (b_tuple : mg "tuple" = none) (c_deed_or : Callee P w K mg base "deed_or" ["deed", "path", "deed_path", "other"] (2 * n + 2) (q3d n)) : FnOk P w K mg base CX0 (2 * n + 3) f fd ["block", "path", "deed_path", "other"] (zz2 (n + 1)) := by
 refine F.ok zj6 (fun vs H Q E h => ?_) (fun cdv A outer s H vs Q E hr h => ?_)
 ·obtain ⟨v, b, pv, p, dv, dp, ov, o, rfl, _⟩ := h
  rfl
 obtain ⟨v, b, pv, p, dv, dp, ov, o, rfl, hd, hp, hdp, ho, hok, hn, hl, q⟩ := h
 refine ⟨_, (z08 (z0o (zrt z6v zcl b_tuple zee (z07 (zey ["at", "deed", "deed_path", "other", "path"] [none, none, some 2, some 3, some 1] rfl (CompS.of (by rfl)) (zjc z9r b_enumerate (z07 (z00 (i := 0) rfl zbl zgf zgg) z04)) (fun _ _ _ _ _ => (zn4 (n := 2) (K := K) rfl rfl (z2a (z1t (i := 0) (show List.Nodup (["at", "deed", "deed_path", "other", "path"] : List Str) from by decide +kernel) rfl (Or.inl rfl)) (z2a (z1t (i := 1) (show List.Nodup (["at", "deed", "deed_path", "other", "path"] : List Str) from by decide +kernel) rfl (Or.inl rfl)) z80)))) (fun _ _ _ _ _ => zex) (fun _ _ _ _ _ => (z1d c_deed_or hr (by omega) (z07 (z00 (i := 1) rfl (by first | exact Or.inl rfl | exact Or.inr (Or.inl rfl) | exact Or.inr (Or.inr rfl)) z17 z18) (z07 (z16 (opK (r := zfk) (K := K) z2b rfl) (z00 (i := 4) rfl (by first | exact Or.inl rfl | exact Or.inr (Or.inl rfl) | exact Or.inr (Or.inr rfl)) z21 z22) (z0z (z07 (z00 (i := 0) rfl (by first | exact Or.inl rfl | exact Or.inr (Or.inl rfl) | exact Or.inr (Or.inr rfl)) zyj zyo) z04))) (z07 (z00 (i := 2) rfl (by first | exact Or.inl rfl | exact Or.inr (Or.inl rfl) | exact Or.inr (Or.inr rfl)) z61 z64) (z07 (z00 (i := 3) rfl (by first | exact Or.inl rfl | exact Or.inr (Or.inl rfl) | exact Or.inr (Or.inr rfl)) z3s z3t) z04)))) rfl zqd))) z04) zdj ze5))), ?_⟩
 walk_at "rd7"
 obtain ⟨ab, xs, rfl, hab, hda⟩ := hd.tupI
 have hxl : xs.length = b.length := by rw [hda.length, z2l]
 have hbl := hok.1
 refine ⟨ab, rfl, ⟨_, SqT.of hab⟩, ?_⟩
 refine zqe (K := K) (a := ab) (xs := xs) (q36 H pv dv ov dp o p b) ⟨Same.refl _, ⟨_, _, rfl⟩, by rw [List.take_zero, prB, z3u]; exact .nil, Nat.le_refl _⟩ (by rw [hxl]; exact q2c (by omega)) ?_ ?_ ?_ ?_
 ·rintro i ys σ' H' ⟨_, _, _, hy⟩
  exact hy
 ·rintro i ys σ' H' _ ⟨s2, _, _⟩
  exact SqT.of (s2 _ _ hab)
 ·rintro i ys x σ' H' Tu hxi ⟨s2, ⟨t, u, rfl⟩, dy, hy⟩ hT
  obtain ⟨d, hbi, dx⟩ := zhr hda hxi
  have s3 := z03 hT (HO.tup [V.int i, x])
  have s23 := s2.trans s3
  walk_at "rd7"
  refine ⟨_, SqT.of z02, rfl, _, _, rfl, _, _, rfl, rfl, zl 1 (by decide), fun r1 h1 => ?_⟩
  have s4 := z03 h1 (HO.tup [V.int i])
  refine zp6 (hp.kp (s23.trans s4).kp) zdf (by simp; omega) fun z H1 s5 dz => ?_
  have s35 := (s3.trans s4).trans s5
  have s25 := s2.trans s35
  refine ⟨x, d, z, _, dv, dp, ov, o, rfl, dx.kp s25.kp, dz, hdp.kp s25.kp, ho.kp s25.kp, hok.2 d (List.mem_of_getElem? hbi), by omega, by simp; omega, fun y H2 s6 dy2 => ?_⟩
  refine ⟨s25.trans s6, ⟨_, _, rfl⟩, ?_, by rw [List.length_append, List.length_singleton]; omega⟩
  rw [zzu hbi, z4h]
  exact (dy.kp (s35.trans s6).kp).append (.cons dy2 .nil)
 ·rintro ys σ' H' ⟨s2, _, dy, _⟩ pe hpe
  rw [hxl, List.take_length] at dy
  have s3 := z03 hpe (HO.lst ys)
  refine ⟨pe, rfl, ys, .inl ⟨SqL.of z02, fun l hl' => ?_⟩⟩
  have s4 := z03 hl' (HO.tup ys)
  exact q _ _ (s2.trans (s3.trans s4)) (.tup z02 (dy.kp (s3.trans s4).kp))
theorem zpz {n : Nat} (F : Fun K "deed_or" "deed_or" z2d f fd) (c_blocks_of : Callee P w K mg base "blocks_of" ["deed"] 1 z8j) (c_term_of : Callee P w K mg base "term_of" ["deed"] 1 zj2) (c_deed_with : Callee P w K mg base "deed_with" ["deed", "term", "blocks"] 1 q2l) (c_block_with : Callee P w K mg base "block_with" ["block", "path", "deed_path", "other"] (2 * n + 1) (zz2 n)) : FnOk P w K mg base CX0 (2 * n + 2) f fd ["deed", "path", "deed_path", "other"] (q3d n) := by
 refine F.ok sc_deed_or (fun vs H Q E h => ?_) (fun cdv A outer s H vs Q E hr h => ?_)
 ·obtain ⟨v, b, pv, p, dv, dp, ov, o, rfl, _⟩ := h
  rfl
 obtain ⟨v, d, pv, p, dv, dp, ov, o, rfl, hd, hp, hdp, ho, hok, hn, hl, q⟩ := h
 refine ⟨_, (z05 (z2k (z0f (dEq hr.units) (z00 (i := 1) rfl zfv z21 z22) (z00 (i := 2) rfl zan z61 z64) (z0w _)) (z08 (z0o (z00 (i := 3) rfl zeo z3s z3t))) z0y)
 (z05 (zn2 (i := 4) ["number", "block", "deed_path", "other", "path"] [none, none, some 2, some 3, some 1] sc_deed_or.nd rfl zdp rfl (CompS.of (by rfl)) (z7z (z1d c_blocks_of hr (by omega) (z07 (z00 (i := 0) rfl z6c z17 z18) z04) zby zfo)) (fun _ _ _ _ _ => (zn4 (n := 2) (K := K) rfl rfl (z2a (z1t (i := 0) (show List.Nodup (["number", "block", "deed_path", "other", "path"] : List Str) from by decide +kernel) rfl (Or.inl rfl)) (z2a (z1t (i := 1) (show List.Nodup (["number", "block", "deed_path", "other", "path"] : List Str) from by decide +kernel) rfl (Or.inl rfl)) z80)))) (fun _ _ _ _ _ => zex) (fun _ _ _ _ _ => (z1d c_block_with hr (by omega) (z07 (z00 (i := 1) rfl (by first | exact Or.inl rfl | exact Or.inr (Or.inl rfl) | exact Or.inr (Or.inr rfl)) zgf zgg) (z07 (z16 (opK (r := zfk) (K := K) z2b rfl) (z00 (i := 4) rfl (by first | exact Or.inl rfl | exact Or.inr (Or.inl rfl) | exact Or.inr (Or.inr rfl)) z21 z22) (z0z (z07 (z00 (i := 0) rfl (by first | exact Or.inl rfl | exact Or.inr (Or.inl rfl) | exact Or.inr (Or.inr rfl)) zm1 zma) z04))) (z07 (z00 (i := 2) rfl (by first | exact Or.inl rfl | exact Or.inr (Or.inl rfl) | exact Or.inr (Or.inr rfl)) z61 z64) (z07 (z00 (i := 3) rfl (by first | exact Or.inl rfl | exact Or.inr (Or.inl rfl) | exact Or.inr (Or.inr rfl)) z3s z3t) z04)))) rfl db_block_with)))
 (z08 (z0o (z1d c_deed_with hr (by omega) (z07 (z00 (i := 0) rfl z6c z17 z18) (z07 (z1d c_term_of hr (by omega) (z07 (z00 (i := 0) rfl z6c z17 z18) z04) ze0 zqb) (z07 (z00 (i := 4) rfl zd7 ze8 zec) z04))) zbx db_deed_with))))), ?_⟩
 walk_at "rd7"
 have ep : PyData.eqv (z2f p).dat (z2f dp).dat = decide (p = dp) := by
  simp only [z2f, Dm.dat, PyData.eqv, zoy]
 refine ⟨_, ⟨_, _, hp, hdp, (zhl p).eq (by decide), (zhl dp).eq (by decide), rfl⟩, ?_⟩
 rw [ep]
 by_cases epd : p = dp
 ·rw [if_pos (decide_eq_true epd)]
  refine q _ _ (Same.refl _) ?_
  rw [zw5, if_pos epd]
  exact ho
 ·rw [if_neg (by rw [decide_eq_false epd]; decide)]
  refine ⟨v, d, rfl, hd, fun ra H1 us s1 f1 h1 d1 => ?_⟩
  have hul : us.length = d.blocks.length := by rw [d1.length, List.length_map]
  have hbl := ziu d
  refine ⟨ra, rfl, ⟨_, SqL.of h1⟩, ?_⟩
  refine z90 (K := K) (a := ra) (xs := us) (q35 H1 pv dv ov dp o p d.blocks) ⟨Same.refl _, ⟨_, _, rfl⟩, by rw [List.take_zero]; exact .nil, Nat.le_refl _⟩ (by rw [hul]; exact q2c (by omega)) ?_ ?_ ?_ ?_
  ·rintro i ys σ' H' ⟨_, _, _, hy⟩
   exact hy
  ·rintro i ys σ' H' _ ⟨s2, _, _⟩
   exact SqL.of (s2 _ _ h1)
  ·rintro i ys v' σ' H' hxi ⟨s2, ⟨t, u, rfl⟩, dy, hy⟩
   obtain ⟨nb, hnb, dnb⟩ := zc2 d1 hxi
   obtain ⟨pp, y0, y1, rfl, hpp, u0, u1⟩ := zo7 (dnb.kp s2.kp)
   cases u0
   walk_at "rd7"
   refine ⟨_, SqT.of hpp, rfl, _, _, rfl, _, _, rfl, rfl, zl 1 (by decide), fun r1 h1 => ?_⟩
   have s4 := z03 h1 (HO.tup [V.int nb.1])
   have s12 := s1.trans s2
   refine zp6 (hp.kp (s12.trans s4).kp) zdf (by simp; omega) fun z H3 s5 dz => ?_
   have s45 := s4.trans s5
   have s15 := s12.trans s45
   refine ⟨y1, nb.2, z, _, dv, dp, ov, o, rfl, u1.kp s45.kp, dz, hdp.kp s15.kp, ho.kp s15.kp, zfh hok (List.mem_of_getElem? hnb), hn, by simp; omega, fun y H4 s6 dy2 => ?_⟩
   refine ⟨s2.trans (s45.trans s6), ⟨_, _, rfl⟩, ?_, by rw [List.length_append, List.length_singleton]; omega⟩
   rw [z5t hnb, List.map_append]
   exact (dy.kp (s45.trans s6).kp).append (.cons dy2 .nil)
  ·rintro ys σ' H' ⟨s2, _, dy, _⟩ pe hpe
   rw [hul, List.take_length] at dy
   have s3 := z03 hpe (HO.lst ys)
   have s13 := s1.trans (s2.trans s3)
   refine ⟨v, d, rfl, hd.kp s13.kp, fun x dx => ?_⟩
   refine ⟨v, x, pe, d, ys, zsb dp o p d, rfl, hd.kp s13.kp, dx, z02, ?_, by simp [zsb], fun y H5 s5 dy5 => ?_⟩
   ·unfold zsb
    rw [List.map_map]
    exact dy.kp s3.kp
   ·refine q _ _ (s13.trans s5) ?_
    rw [zw5, if_neg epd]
    exact dy5
theorem zxn {k : Nat} {n1 n2 n3 n4 : Str} : FnOk P w K mg base CX0 k f fd [n1, n2, n3, n4] (zz2 0) := by
 have no : ∀ vs H Q E, ¬ zz2 0 vs H Q E := fun vs H Q E h => by
  obtain ⟨v, b, pv, p, dv, dp, ov, o, _, _, _, _, _, h1, _⟩ := h
  exact h1
 exact ⟨fun vs H Q E h => absurd h (no vs H Q E), fun A outer s H args us vs Q E _ _ _ _ h => absurd h (no vs H Q E)⟩
theorem zmm {f2 : Addr} {fd2 : FuncData} (d : Df K mg "block_with" z2e ["block", "path", "deed_path", "other"] f fd) (d2 : Df K mg "deed_or" z2d ["deed", "path", "deed_path", "other"] f2 fd2) (b_enumerate : mg "enumerate" = none) (b_tuple : mg "tuple" = none) (c_blocks_of : Callee P w K mg base "blocks_of" ["deed"] 1 z8j) (c_term_of : Callee P w K mg base "term_of" ["deed"] 1 zj2) (c_deed_with : Callee P w K mg base "deed_with" ["deed", "term", "blocks"] 1 q2l) : ∀ n : Nat, Callee P w K mg base "block_with" ["block", "path", "deed_path", "other"] (2 * n + 1) (zz2 n)
 | 0 => d.callee zxn
 | n + 1 => d.callee (zjf d.F b_enumerate b_tuple (d2.callee (zpz d2.F c_blocks_of c_term_of c_deed_with (zmm d d2 b_enumerate b_tuple c_blocks_of c_term_of c_deed_with n))))
end
section
variable {P : Program} {w : World} {K : PySem.W.Frag} {mg : Str → Option Value} {base : Heap} {f : Addr} {fd : FuncData}
mutual
theorem q0y : ∀ (n : Nat) (d : D), zmp n d → Fine (5 + 2 * n + 2) d.enc
 | n, .set x t, h => by
  rw [D.enc]
  refine (z2w (n := 5) fun e he => ?_).mono (by omega)
  simp only [List.mem_cons, List.not_mem_nil, or_false] at he
  rcases he with rfl | rfl | rfl
  ·exact z4j _ (by decide +kernel)
  ·exact z4j _ (zjb x h.1)
  ·exact zlt h.2
 | n, .ite t b c, h => by
  rw [D.enc]
  refine (z2w (n := 5 + 2 * n + 1) fun e he => ?_).mono (by omega)
  simp only [List.mem_cons, List.not_mem_nil, or_false] at he
  rcases he with rfl | rfl | rfl | rfl
  ·exact z4j _ (by decide +kernel)
  ·exact (zlt h.1).mono (by omega)
  ·exact z2w (zlu n b h.2.1)
  ·exact z2w (zlu n c h.2.2)
 | n, .whl t m b, h => by
  rw [D.enc]
  refine (z2w (n := 5 + 2 * n + 1) fun e he => ?_).mono (by omega)
  simp only [List.mem_cons, List.not_mem_nil, or_false] at he
  rcases he with rfl | rfl | rfl | rfl
  ·exact z4j _ (by decide +kernel)
  ·exact (zlt h.1).mono (by omega)
  ·exact zbf _ _
  ·exact z2w (zlu n b h.2)
theorem zlu : ∀ (n : Nat) (b : List D), okW n b → ∀ e ∈ z3u b, Fine (5 + 2 * n) e
 | 0, _, h => h.elim
 | n + 1, [], h => fun e he => by simp [z3u] at he
 | n + 1, d :: b, h => fun e he => by
  rw [z3u] at he
  rcases List.mem_cons.mp he with he | he
  ·rw [he]
   exact (q0y n d (h.2 d (.head _))).mono (by omega)
  ·exact zlu (n + 1) b ⟨by have := h.1; rw [List.length_cons] at this; omega, fun d hd => h.2 d (.tail _ hd)⟩ e he
end
theorem zvg {r : Rw} (h : PyData.strOk r.1 = true) : Fine 1 (z7m r) := by
 refine z2w fun d hd => ?_
 simp only [List.mem_cons, List.not_mem_nil, or_false] at hd
 rcases hd with rfl | rfl | rfl
 ·exact z4j _ h
 ·exact zbf _ _
 ·exact zbf _ _
theorem z5d {rows : List Rw} {b : List D} (hr : okRows rows) (h : okW 4 b) : Fine 20 (.tup [.tup (rows.map z7m), .tup (z3u b)]) := by
 refine (z2w (n := 15) fun d hd => ?_).mono (by decide)
 simp only [List.mem_cons, List.not_mem_nil, or_false] at hd
 rcases hd with rfl | rfl
 ·refine (z2w (n := 1) fun d hd => ?_).mono (by decide)
  obtain ⟨r, hr', rfl⟩ := List.mem_map.mp hd
  refine zvg (zjb _ ?_)
  have h1 : r.1 ∈ rows.map (·.1) := List.mem_map.mpr ⟨r, hr', rfl⟩
  rw [hr.nm] at h1
  have h2 := List.mem_of_mem_take h1
  simp only [pair, List.mem_cons, List.not_mem_nil, or_false] at h2
  rcases h2 with h2 | h2 <;> rw [h2] <;> decide +kernel
 ·exact (z2w (zlu 4 b h)).mono (by decide)
end
section
variable {P : Program} {w : World} {K : PySem.W.Frag} {mg : Str → Option Value} {base : Heap} {f : Addr} {fd : FuncData}
abbrev RI := List Int × Int
inductive Rs where
 | had (i : Int)
 | ref (w : Str) (p : List Int)
def Rs.enc : Rs → Dm
 | .had i => .tup [.str "had", .int i]
 | .ref w p => .tup [.str "refused", .str w, z2f p]
def zz4 (r : RI) : Dm := .tup [z2f r.1, .int r.2]
def zkc (i : Int) (p : List Int) : Rs := if i < -32768 then .ref "over" p else if i > 32767 then .ref "over" p else .had i
def SameB (l : Addr) (H H' : Hp) : Prop := ∀ a o, a ≠ l → H a = some o → H' a = some o
theorem SameB.of {l : Addr} {H H' : Hp} (h : Same H H') : SameB l H H' := fun a o _ e => h a o e
theorem SameB.trans {l : Addr} {H H1 H2 : Hp} (a : SameB l H H1) (b : SameB l H1 H2) : SameB l H H2 := fun x o n e => b x o n (a x o n e)
theorem SameB.kp {l : Addr} {H H' : Hp} {xs ys : List V} (h : SameB l H H') (hl : H l = some (.lst xs)) (hl' : H' l = some (.lst ys)) : Kp H H' :=
 ⟨fun b zs q => h b _ (fun z => by rw [z, hl] at q; cases q) q, fun b zs q => by
  by_cases hb : b = l
  ·subst hb; exact ⟨ys, hl'⟩
  ·exact ⟨zs, h b _ hb q⟩⟩
def z59 : Sp := fun vs H Q _ => ∃ (wv pv : V) (p : List Int) (l : Addr) (xs : List V), vs = [wv, pv, .ref l] ∧ Dt H pv (z2f p) ∧ H l = some (.lst xs) ∧ xs.length < sizeLine ∧
 ((wv = .non ∧ ∀ r H', Same H H' → Dt H' r (Rs.ref "zero" p).enc → Q r H') ∨ ∃ i, wv = .int i ∧ ∀ (r y : V) (H' : Hp), SameB l H H' → H' l = some (.lst (xs ++ [y])) → Dt H' y (zz4 (p, i)) → Dt H' r (zkc i p).enc → Q r H')
end
section
variable {P : Program} {w : World} {K : PySem.W.Frag} {mg : Str → Option Value} {base : Heap} {f : Addr} {fd : FuncData}
theorem zpv (F : Fun K "settled" "settled" z4e f fd) {ai : Addr} (g_WIDE : GC mg "WIDE" (.ref ai)) (hI : ∀ H, SqT K H ai [.int (-32768), .int 32767]) : FnOk P w K mg base CX0 1 f fd ["worth", "path", "rows"] z59 := by
 refine F.ok zpj (fun vs H Q E h => ?_) (fun cdv A outer s H vs Q E hr h => ?_)
 ·obtain ⟨wv, pv, p, l, xs, rfl, _⟩ := h
  rfl
 obtain ⟨wv, pv, p, l, xs, rfl, hp, hl, hx, h⟩ := h
 refine ⟨_, (z05 (z2k (z0f q3o (z00 (i := 0) rfl z3b z6q z6t) zdd (z0w _)) (z08 (z0o (z0z (z07 z0u (z07 z0u (z07 (z00 (i := 1) rfl z67 z21 z22) z04)))))) z0y)
 (z05 (z99 (zl4 PySem.F.plainAttrs_list PySem.F.slot_list_append PySem.F.type_list_append z8l (z00 (i := 2) rfl zft zfb zfg) (z07 (z0z (z07 (z00 (i := 1) rfl z67 z21 z22) (z07 (z00 (i := 0) rfl z3b z6q z6t) z04))) z04)) (z06 rfl))
 (z05 (z2k (PW.pt (zkz (z0f zla (z00 (i := 0) rfl z3b z6q z6t) (z0v z0e (zzz g_WIDE zav zt9) z01 (fun _ _ => rfl)) (z0w _)) (zih (z0f zuy (z00 (i := 0) rfl z3b z6q z6t) (z0v z0e (zzz g_WIDE zav zt9) z01 (fun _ _ => rfl)) (z0w _))))) (z08 (z0o (z0z (z07 z0u (z07 z0u (z07 (z00 (i := 1) rfl z67 z21 z22) z04)))))) z0y)
 (z08 (z0o (z0z (z07 z0u (z07 (z00 (i := 0) rfl z3b z6q z6t) z04)))))))), z0s fun N1 e1 => ?_⟩
 walk_at "rd7"
 rcases h with ⟨rfl, q⟩ | ⟨i, rfl, q⟩
 ·rw [if_pos rfl]
  refine ⟨by decide, fun r hr' => ?_⟩
  have s1 := z03 hr' (HO.tup [V.str "refused", V.str "zero", pv])
  exact q _ _ s1 (.tup z02 (.cons (.str _) (.cons (.str _) (.cons (hp.kp s1.kp) .nil))))
 ·rw [if_neg (by intro z; cases z), e1]
  refine z0s fun N2 e2 => ?_
  walk_at "rd7"
  refine ⟨.inl ⟨rfl, _, SqL.of hl⟩, by decide, fun y hy => ?_⟩
  have s1 := z03 hy (HO.tup [pv, V.int i])
  have hly := s1 _ _ hl
  refine ⟨xs, hly, hx, ?_⟩
  have nyl : y ≠ l := fun z => by rw [z, hl] at hy; cases hy
  have k2 : Kp (upd H y (HO.tup [pv, V.int i])) (upd (upd H y (HO.tup [pv, V.int i])) l (HO.lst (xs ++ [V.ref y]))) := Kp.set hly
  have sB : SameB l H (upd (upd H y (HO.tup [pv, V.int i])) l (HO.lst (xs ++ [V.ref y]))) := fun a o n e => by rw [z0q n]; exact s1 _ _ e
  have hU : (upd (upd H y (HO.tup [pv, V.int i])) l (HO.lst (xs ++ [V.ref y]))) l = some (.lst (xs ++ [V.ref y])) := z02
  have dy : Dt (upd (upd H y (HO.tup [pv, V.int i])) l (HO.lst (xs ++ [V.ref y]))) (.ref y) (zz4 (p, i)) := .tup (by rw [z0q nyl]; exact z02) (.cons (hp.kp (s1.kp.trans k2)) (.cons (.int _) .nil))
  have dp := hp.kp (s1.kp.trans k2)
  generalize upd (upd H y (HO.tup [pv, V.int i])) l (HO.lst (xs ++ [V.ref y])) = U at k2 sB hU dy dp ⊢
  rw [e2]
  walk_at "rd7"
  have fin : ∀ (r : Addr) (o : List V), U r = none → Dt (upd U r (HO.tup o)) (.ref r) (zkc i p).enc → Q (.ref r) (upd U r (HO.tup o)) := fun r o h1 h2 => by
   have s3 := z03 h1 (HO.tup o)
   exact q _ _ _ (sB.trans (SameB.of s3)) (s3 _ _ hU) (dy.kp s3.kp) h2
  refine ⟨_, hI U, _, z13 (j := 0) rfl, _, rfl, ?_⟩
  split
  ·rename_i hlt
   refine ⟨by decide, fun r hr' => fin r _ hr' ?_⟩
   rw [zkc, if_pos hlt]
   exact .tup z02 (.cons (.str _) (.cons (.str _) (.cons (dp.kp (z03 hr' _).kp) .nil)))
  ·rename_i hlt
   refine ⟨_, hI U, _, z13 (j := 1) rfl, _, rfl, ?_⟩
   split
   ·rename_i hgt
    refine ⟨by decide, fun r hr' => fin r _ hr' ?_⟩
    rw [zkc, if_neg hlt, if_pos hgt]
    exact .tup z02 (.cons (.str _) (.cons (.str _) (.cons (dp.kp (z03 hr' _).kp) .nil)))
   ·rename_i hgt
    refine ⟨by decide, fun r hr' => fin r _ hr' ?_⟩
    rw [zkc, if_neg hlt, if_neg hgt]
    exact .tup z02 (.cons (.str _) (.cons (.int _) .nil))
end
section
variable {P : Program} {w : World} {K : PySem.W.Frag} {mg : Str → Option Value} {base : Heap} {f : Addr} {fd : FuncData}
def q2b (st : Stmt) : Expr := match defBody st with
 | [.Return (some (.Call _ [_, _, e] _ _)) _] => e
 | [_, .Expr (.Call _ [_, _, e] _ _) _, _] => e
 | _ => .Name "" ⟨0, 0, 0, 0⟩
def q3n (q : Str) (e : Expr) : LamD := match e with
 | .Lambda ps b sc _ => ⟨q, ps, b, sc⟩
 | _ => ⟨q, { posonlyargs := [], args := [], vararg := none, kwonlyargs := [], kw_defaults := [], kwarg := none, defaults := [] }, .Name "" ⟨0, 0, 0, 0⟩, { kind := .function, names := [], isGenerator := false, isCoroutine := false }⟩
def zwa (e : Expr) : Pos := match e with
 | .Lambda _ _ _ p => p
 | _ => ⟨0, 0, 0, 0⟩
abbrev dR : LamD := q3n ("run" ++ ".<locals>." ++ "<lambda>") (q2b zew)
abbrev dT : LamD := q3n ("traced" ++ ".<locals>." ++ "<lambda>") (q2b z32)
theorem q42 : ∀ y ∈ dR.scope.names, y.2 ≠ .free := by decide +kernel
theorem q44 : LamScope ["worth", "path"] [] [] dR.scope := ⟨rfl, rfl, rfl, by decide +kernel, by decide +kernel, by simp, by decide +kernel, fun y hy e => absurd e (q42 y hy), by simp, by simp⟩
theorem q41 : ∀ y ∈ dT.scope.names, y.2 = .free → y.1 = "rows" := by decide +kernel
theorem q43 (c : Addr) : LamScope ["worth", "path"] ["rows"] [("rows", c)] dT.scope := by
 refine ⟨rfl, rfl, rfl, by decide +kernel, by decide +kernel, by decide +kernel, by decide +kernel, fun y hy e => ⟨c, ?_⟩, fun x y c' h1 h2 => ?_, fun x c' h => ?_⟩
 ·rw [q41 y hy e]
  rfl
 ·have key : ∀ z : Str, ([("rows", c)] : List (Str × Addr)).lookup z = some c' → z = "rows" := fun z h => by
   by_cases e : z = "rows"
   ·exact e
   ·have : (z == ("rows" : Str)) = false := by simpa using e
    rw [List.lookup, this] at h
    cases h
  rw [key x h1, key y h2]
 ·rw [List.mem_singleton] at h
  cases h
  rfl
def SetOk (f : Addr) (lo : Option Addr) (H : Hp) : Prop := match lo with
 | none => ∃ c', H f = some (zqk dR [] f c') ∧ H c' = some (zg9 c' dR.qual)
 | some l => ∃ c' c o, H f = some (zqk dT [("rows", c)] f c') ∧ H c' = some (zg9 c' dT.qual) ∧ H c = some (z6e c o) ∧ o.data = .cell (some (.ref l))
theorem SetOk.lam {f : Addr} {lo : Option Addr} {H : Hp} (h : SetOk f lo H) : IsLam H f := by
 cases lo with
 | none => obtain ⟨c', e, _⟩ := h; exact ⟨_, _, _, e⟩
 | some l => obtain ⟨c', c, o, e, _⟩ := h; exact ⟨_, _, _, e⟩
def KpE (H H' : Hp) : Prop := ∀ a φ, H a = some (.ext φ) → H' a = some (.ext φ)
theorem KpE.refl (H : Hp) : KpE H H := fun _ _ h => h
theorem KpE.trans {H H1 H2 : Hp} (a : KpE H H1) (b : KpE H1 H2) : KpE H H2 := fun x φ h => b x φ (a x φ h)
theorem Same.kpE {H H' : Hp} (s : Same H H') : KpE H H' := fun a φ h => s _ _ h
theorem KpE.set {H : Hp} {p : Addr} {o u : HO} (h : H p = some o) (n : ∀ φ, o ≠ .ext φ) : KpE H (upd H p u) := fun a φ e => by
 rw [z0q (zh5 e h fun z => n φ z.symm)]
 exact e
theorem SetOk.kp {f : Addr} {lo : Option Addr} {H H' : Hp} (h : SetOk f lo H) (k : KpE H H') : SetOk f lo H' := by
 cases lo with
 | none => obtain ⟨c', e, e2⟩ := h; exact ⟨c', k _ _ e, k _ _ e2⟩
 | some l => obtain ⟨c', c, o, e, e2, e3, e4⟩ := h; exact ⟨c', c, o, k _ _ e, k _ _ e2, k _ _ e3, e4⟩
end
section
variable {P : Program} {w : World} {K : PySem.W.Frag} {mg : Str → Option Value} {base : Heap} {f : Addr} {fd : FuncData}
def Gr (lo : Option Addr) (H H' : Hp) (rs : List RI) : Prop := (∀ a o, some a ≠ lo → H a = some o → H' a = some o) ∧ ∀ l, lo = some l → ∃ xs ys, H l = some (.lst xs) ∧ H' l = some (.lst (xs ++ ys)) ∧ DtA H' ys (rs.map zz4)
def HasL (lo : Option Addr) (H : Hp) (n : Nat) : Prop := ∀ l, lo = some l → ∃ xs, H l = some (.lst xs) ∧ xs.length + n < sizeLine
theorem Gr.kp {lo : Option Addr} {H H' : Hp} {rs : List RI} (h : Gr lo H H' rs) : Kp H H' := by
 cases lo with
 | none => exact ⟨fun b xs e => h.1 b _ (by simp) e, fun b xs e => ⟨xs, h.1 b _ (by simp) e⟩⟩
 | some l =>
  obtain ⟨xs, ys, e1, e2, _⟩ := h.2 l rfl
  exact SameB.kp (fun a o n e => h.1 a o (by simpa using n) e) e1 e2
theorem Gr.kpE {lo : Option Addr} {H H' : Hp} {rs : List RI} (h : Gr lo H H' rs) : KpE H H' := fun a φ e => by
 refine h.1 a _ (fun z => ?_) e
 obtain ⟨xs, ys, e1, _⟩ := h.2 a z.symm
 rw [e1] at e
 cases e
theorem Gr.keep {lo : Option Addr} {H H' : Hp} {rs : List RI} (h : Gr lo H H' rs) {a : Addr} {o : HO} (e : H a = some o) (n : ∀ xs, o ≠ .lst xs) : H' a = some o := h.1 a o (fun z => by
 obtain ⟨xs, ys, e1, _⟩ := h.2 a z.symm
 rw [e1] at e
 cases e
 exact n _ rfl) e
theorem Gr.trans {lo : Option Addr} {H H1 H2 : Hp} {r1 r2 : List RI} (a : Gr lo H H1 r1) (b : Gr lo H1 H2 r2) : Gr lo H H2 (r1 ++ r2) := by
 refine ⟨fun x o n e => b.1 x o n (a.1 x o n e), fun l hl => ?_⟩
 obtain ⟨xs, ys, e1, e2, d1⟩ := a.2 l hl
 obtain ⟨xs', zs, f1, f2, d2⟩ := b.2 l hl
 rw [e2] at f1
 cases f1
 exact ⟨xs, ys ++ zs, e1, by rw [f2, List.append_assoc], by rw [List.map_append]; exact (d1.kp b.kp).append d2⟩
theorem Gr.same {lo : Option Addr} {H H' : Hp} {n : Nat} (s : Same H H') (h : HasL lo H n) : Gr lo H H' [] := by
 refine ⟨fun a o _ e => s a o e, fun l hl => ?_⟩
 obtain ⟨xs, e, _⟩ := h l hl
 exact ⟨xs, [], e, by rw [List.append_nil]; exact s _ _ e, .nil⟩
theorem HasL.on {lo : Option Addr} {H H' : Hp} {rs : List RI} {n m : Nat} (h : HasL lo H n) (g : Gr lo H H' rs) (k : rs.length + m ≤ n) : HasL lo H' m := fun l hl => by
 obtain ⟨xs, e, z⟩ := h l hl
 obtain ⟨xs', ys, e1, e2, d⟩ := g.2 l hl
 rw [e] at e1
 cases e1
 have := d.length
 rw [List.length_map] at this
 exact ⟨_, e2, by rw [List.length_append]; omega⟩
theorem HasL.same {lo : Option Addr} {H H' : Hp} {n : Nat} (h : HasL lo H n) (s : Same H H') : HasL lo H' n := fun l hl => by
 obtain ⟨xs, e, z⟩ := h l hl
 exact ⟨xs, s _ _ e, z⟩
theorem HasL.mono {lo : Option Addr} {H : Hp} {n m : Nat} (h : HasL lo H n) (k : m ≤ n) : HasL lo H m := fun l hl => by
 obtain ⟨xs, e, z⟩ := h l hl
 exact ⟨xs, e, by omega⟩
theorem zvc (H : Hp) : zjr [] H = H := by funext b; exact z33 (by simp)
theorem zvt (H H' : Hp) : zmq [] H H' = H' := by funext b; exact z7o (by simp)
theorem q4c : dR.scope.names.lookup ("settled" : Str) = some NameKind.globalImplicit := by decide +kernel
theorem q4b : dT.scope.names.lookup ("settled" : Str) = some NameKind.globalImplicit := by decide +kernel
theorem q3u : Vis dR.scope "worth" := Or.inl (by decide +kernel)
theorem q3x : Vis dR.scope "path" := Or.inl (by decide +kernel)
theorem q3t : Vis dT.scope "worth" := Or.inl (by decide +kernel)
theorem q3w : Vis dT.scope "path" := Or.inl (by decide +kernel)
theorem q3v : Vis dT.scope "rows" := Or.inr (Or.inr (by decide +kernel))
theorem q1m {us : List Value} (hl : us.length = 2) : ∀ fd : FuncData, fd.params = dR.params → fd.defaults = .none → fd.kwdefaults = .none → fd.scope = dR.scope → bindArgs fd ⟨us, []⟩ = pure ((["worth", "path"] : List Str).zip us) := by
 intro fd h1 h2 h3 h4
 obtain ⟨name, qual, params, body, scope, globals, closure, defaults, kwdefaults, doc, pm, an, code, ct, bu⟩ := fd
 cases h1
 cases h2
 cases h3
 cases h4
 match us, hl with
 | [_, _], _ => rfl
theorem q1l {us : List Value} (hl : us.length = 2) : ∀ fd : FuncData, fd.params = dT.params → fd.defaults = .none → fd.kwdefaults = .none → fd.scope = dT.scope → bindArgs fd ⟨us, []⟩ = pure ((["worth", "path"] : List Str).zip us) := by
 intro fd h1 h2 h3 h4
 obtain ⟨name, qual, params, body, scope, globals, closure, defaults, kwdefaults, doc, pm, an, code, ct, bu⟩ := fd
 cases h1
 cases h2
 cases h3
 cases h4
 match us, hl with
 | [_, _], _ => rfl
theorem zir : DBF "settled" := by decide +kernel
end
section
variable {P : Program} {w : World} {K : PySem.W.Frag} {mg : Str → Option Value} {base : Heap} {f : Addr} {fd : FuncData}
theorem q0l (c_settled : Callee P w K mg base "settled" ["worth", "path", "rows"] 1 z59) {H : Hp} {x pv : V} {p : List Int} {Q : VK} {c' : Addr} (hf : H f = some (zqk dR [] f c')) (hc : H c' = some (zg9 c' dR.qual)) (hp : Dt H pv (z2f p))
  (q : ∀ l, H l = none → z59 [x, pv, .ref l] (upd H l (.lst [])) Q E0) : zz8 P w K mg base 2 f H [x, pv] Q := by
 intro A outer s us hr e0 r
 have hl : us.length = 2 := r.length.symm
 refine zsi (k := 1) (ps := ["worth", "path"]) (fr := []) (ws := []) q44 hr e0 hf hc rfl r rfl (by simp) (by simp) (q1m hl) fun hr' => ?_
 refine ⟨_, z1d c_settled hr' (by omega) (z07 (z00 (i := 0) rfl q3u z6q z6t) (z07 (z00 (i := 1) rfl q3x z21 z22) (z07 (z4q z04) z04))) q4c zir, ?_⟩
 rw [List.map_nil, zvc]
 simp only [zvt, List.not_mem_nil, false_implies, implies_true, true_implies]
 walk_at "rd7"
 refine ⟨by decide, fun l hl => q l hl⟩
theorem q0k (c_settled : Callee P w K mg base "settled" ["worth", "path", "rows"] 1 z59) {H : Hp} {x pv : V} {p : List Int} {Q : VK} {c' c l : Addr} {o : Obj} (hf : H f = some (zqk dT [("rows", c)] f c')) (hc : H c' = some (zg9 c' dT.qual)) (hcl : H c = some (z6e c o)) (ho : o.data = .cell (some (.ref l))) (hp : Dt H pv (z2f p))
  (q : z59 [x, pv, .ref l] (zjr [c] H) (fun v H' => H' c = none → Q v (zmq [c] H H')) E0) : zz8 P w K mg base 2 f H [x, pv] Q := by
 intro A outer s us hr e0 r
 have hl : us.length = 2 := r.length.symm
 refine zsi (k := 1) (ps := ["worth", "path"]) (fr := ["rows"]) (ws := [.ref l]) (q43 c) hr e0 hf hc rfl r rfl (fun c2 hc2 => ?_) (fun i x v h1 h2 => ?_) (q1l hl) fun hr' => ?_
 ·rw [List.map_cons, List.map_nil, List.mem_singleton] at hc2
  subst hc2
  exact ⟨o, _, hcl, ho⟩
 ·match i, h1, h2 with
  | 0, h1, h2 =>
   cases h1
   cases h2
   exact ⟨c, o, _, rfl, hcl, ho, rfl⟩
  | i + 1, h1, _ => simp at h1
 refine ⟨_, z1d c_settled hr' (by omega) (z07 (z00 (i := 0) rfl q3t z6q z6t) (z07 (z00 (i := 1) rfl q3w z21 z22) (z07 (z00 (i := 2) rfl q3v zfb zfg) z04))) q4b zir, ?_⟩
 rw [List.map_cons, List.map_nil]
 simp only [List.mem_singleton, forall_eq]
 walk_at "rd7"
 exact q
theorem zsj {H : Hp} {c : Addr} {o : Obj} (hc : H c = some (z6e c o)) : Kp H (zjr [c] H) := by
 have out : ∀ {b : Addr} {u : HO}, H b = some u → (∀ φ, u ≠ .ext φ) → zjr [c] H b = some u := fun {b u} e n => by
  rw [z33 fun z => by
   rw [List.mem_singleton.mp z, hc] at e
   cases e
   exact n _ rfl]
  exact e
 exact ⟨fun b xs e => out e fun φ z => (by cases z), fun b xs e => ⟨xs, out e fun φ z => (by cases z)⟩⟩
theorem z91 {H H' : Hp} {c : Addr} (hn : H' c = none) {b : Addr} {u : HO} (e : H' b = some u) : zmq [c] H H' b = some u := by
 rw [z7o fun z => by
  rw [List.mem_singleton.mp z, hn] at e
  cases e]
 exact e
theorem znm {H H' : Hp} {c : Addr} (hn : H' c = none) : Kp H' (zmq [c] H H') := ⟨fun b xs e => z91 hn e, fun b xs e => ⟨xs, z91 hn e⟩⟩
theorem zev (c_settled : Callee P w K mg base "settled" ["worth", "path", "rows"] 1 z59) {H : Hp} {pv : V} {p : List Int} {i : Int} {lo : Option Addr} {Q : VK} (hS : SetOk f lo H) (hL : HasL lo H 1) (hp : Dt H pv (z2f p))
  (q : ∀ r H', Gr lo H H' [(p, i)] → Dt H' r (zkc i p).enc → Q r H') : zz8 P w K mg base 2 f H [.int i, pv] Q := by
 cases lo with
 | none =>
  obtain ⟨c', hf, hc⟩ := hS
  refine q0l c_settled hf hc hp fun l hl => ?_
  have s1 := z03 hl (HO.lst [])
  refine ⟨_, pv, p, l, [], rfl, hp.kp s1.kp, z02, by decide, .inr ⟨i, rfl, fun r y H' sB hl' dy dr => q r H' ⟨fun a o _ e => sB a o (z12 e hl) (s1 _ _ e), fun l' z => by cases z⟩ dr⟩⟩
 | some l =>
  obtain ⟨c', c, o, hf, hc, hcl, ho⟩ := hS
  obtain ⟨xs, hl, hz⟩ := hL l rfl
  have nlc : l ≠ c := fun z => by rw [z, hcl] at hl; unfold z6e at hl; cases hl
  refine q0k c_settled hf hc hcl ho hp ⟨_, pv, p, l, xs, rfl, hp.kp (zsj hcl), by rw [z33 (by simpa using nlc)]; exact hl, by omega, .inr ⟨i, rfl, fun r y H' sB hl' dy dr hn => ?_⟩⟩
  refine q r _ ⟨fun a u na e => ?_, fun l2 e2 => ?_⟩ (dr.kp (znm hn))
  ·by_cases hac : a = c
   ·subst hac
    rw [zo4 (by simp)]
    exact e
   ·exact z91 hn (sB a u (fun z => na (by rw [z])) (by rw [z33 (by simpa using hac)]; exact e))
  ·cases e2
   exact ⟨xs, [y], hl, z91 hn hl', .cons (dy.kp (znm hn)) .nil⟩
theorem zmx (c_settled : Callee P w K mg base "settled" ["worth", "path", "rows"] 1 z59) {H : Hp} {pv : V} {p : List Int} {lo : Option Addr} {Q : VK} (hS : SetOk f lo H) (hL : HasL lo H 1) (hp : Dt H pv (z2f p))
  (q : ∀ r H', Gr lo H H' [] → Dt H' r (Rs.ref "zero" p).enc → Q r H') : zz8 P w K mg base 2 f H [.non, pv] Q := by
 cases lo with
 | none =>
  obtain ⟨c', hf, hc⟩ := hS
  refine q0l c_settled hf hc hp fun l hl => ?_
  have s1 := z03 hl (HO.lst [])
  exact ⟨_, pv, p, l, [], rfl, hp.kp s1.kp, z02, by decide, .inl ⟨rfl, fun r H' s2 dr => q r H' (Gr.same (n := 0) (s1.trans s2) fun l' z => (by cases z)) dr⟩⟩
 | some l =>
  obtain ⟨c', c, o, hf, hc, hcl, ho⟩ := hS
  obtain ⟨xs, hl, hz⟩ := hL l rfl
  have nlc : l ≠ c := fun z => by rw [z, hcl] at hl; unfold z6e at hl; cases hl
  have hlh : zjr [c] H l = some (.lst xs) := by rw [z33 (by simpa using nlc)]; exact hl
  refine q0k c_settled hf hc hcl ho hp ⟨_, pv, p, l, xs, rfl, hp.kp (zsj hcl), hlh, by omega, .inl ⟨rfl, fun r H' s2 dr hn => ?_⟩⟩
  refine q r _ ⟨fun a u na e => ?_, fun l2 e2 => ?_⟩ (dr.kp (znm hn))
  ·by_cases hac : a = c
   ·subst hac
    rw [zo4 (by simp)]
    exact e
   ·exact z91 hn (s2 a u (by rw [z33 (by simpa using hac)]; exact e))
  ·cases e2
   exact ⟨xs, [], hl, by rw [List.append_nil]; exact z91 hn (s2 _ _ hlh), .nil⟩
end
section
variable {P : Program} {w : World} {K : PySem.W.Frag} {mg : Str → Option Value} {base : Heap} {f : Addr} {fd : FuncData}
def Wd.worth : Wd → Int → Int → Int
 | .add, a, b => a + b
 | .sub, a, b => a - b
 | .mul, a, b => a * b
 | .quo, a, b => a.fdiv b
 | .less, a, b => if a < b then 1 else 0
 | .same, a, b => if a = b then 1 else 0
 | .min, a, b => if b < a then b else a
 | .max, a, b => if b > a then b else a
def evT (c : Cnt) : T → List Int → Rs × List RI
 | .num i, p => (zkc i p, [(p, i)])
 | .nm x, p => (zkc ((zfm c x).getD 0) p, [(p, (zfm c x).getD 0)])
 | .op w a b, p => match evT c a (p ++ [0]) with
  | (.ref u q, r1) => (.ref u q, r1)
  | (.had x, r1) => match evT c b (p ++ [1]) with
   | (.ref u q, r2) => (.ref u q, r1 ++ r2)
   | (.had y, r2) => if w = .quo ∧ y = 0 then (.ref "zero" p, r1 ++ r2) else (zkc (w.worth x y) p, r1 ++ r2 ++ [(p, w.worth x y)])
abbrev Ref := Str × List Int
abbrev Out := Option Ref × Cnt × List RI
def z4i (cond : Cnt → Rs × List RI) (body : Cnt → Out) (p : List Int) : Nat → Cnt → Out
 | k, c => match cond c with
  | (.ref u q, r) => (some (u, q), c, r)
  | (.had v, r) => if v = 0 then (none, c, r) else match k with
   | 0 => (some ("long", p), c, r)
   | k + 1 => match body c with
    | (some e, c1, r1) => (some e, c1, r ++ r1)
    | (none, c1, r1) => match z4i cond body p k c1 with
     | (e, c2, r2) => (e, c2, r ++ r1 ++ r2)
mutual
def evD (p : List Int) : D → Cnt → Out
 | .set x t, c => match evT c t (p ++ [0]) with
  | (.ref u q, r) => (some (u, q), c, r)
  | (.had v, r) => (none, zja c x v, r)
 | .ite t b b2, c => match evT c t (p ++ [0]) with
  | (.ref u q, r) => (some (u, q), c, r)
  | (.had v, r) => if v ≠ 0 then (match evB (p ++ [1]) 0 b c with | (e, c1, r1) => (e, c1, r ++ r1)) else (match evB (p ++ [2]) 0 b2 c with | (e, c1, r1) => (e, c1, r ++ r1))
 | .whl t m b, c => z4i (fun c => evT c t (p ++ [0])) (fun c => evB (p ++ [1]) 0 b c) p m.toNat c
def evB (p : List Int) (k : Int) : List D → Cnt → Out
 | [], c => (none, c, [])
 | d :: r, c => match evD (p ++ [k]) d c with
  | (some e, c1, w) => (some e, c1, w)
  | (none, c1, w) => match evB p (k + 1) r c1 with
   | (e, c2, w2) => (e, c2, w ++ w2)
end
def T.in (g : List Str) : T → Prop
 | .num _ => True
 | .nm x => x ∈ g
 | .op _ a b => a.in g ∧ b.in g
def Has (c : Cnt) (g : List Str) : Prop := ∀ x ∈ g, ∃ v, zfm c x = some v ∧ -32768 ≤ v ∧ v ≤ 32767
theorem zj5 {i v : Int} {p : List Int} (h : zkc i p = .had v) : v = i ∧ -32768 ≤ i ∧ i ≤ 32767 := by
 unfold zkc at h
 split at h
 ·cases h
 ·split at h
  ·cases h
  ·cases h
   omega
theorem zsr {c : Cnt} : ∀ (t : T) (p : List Int) {v : Int} {r : List RI}, evT c t p = (.had v, r) → -32768 ≤ v ∧ v ≤ 32767
 | .num i, p, v, r, h => by
  rw [evT] at h
  obtain ⟨rfl, h1, h2⟩ := zj5 (congrArg Prod.fst h)
  exact ⟨h1, h2⟩
 | .nm x, p, v, r, h => by
  rw [evT] at h
  obtain ⟨rfl, h1, h2⟩ := zj5 (congrArg Prod.fst h)
  exact ⟨h1, h2⟩
 | .op w a b, p, v, r, h => by
  rw [evT] at h
  split at h
  ·cases h
  ·split at h
   ·cases h
   ·split at h
    ·cases h
    ·obtain ⟨rfl, h1, h2⟩ := zj5 (congrArg Prod.fst h)
     exact ⟨h1, h2⟩
theorem zij {c : Cnt} {w : Wd} {a b : T} {p : List Int} {u : Str} {q : List Int} {r : List RI} (h : evT c a (p ++ [0]) = (.ref u q, r)) : evT c (.op w a b) p = (.ref u q, r) := by rw [evT, h]
theorem zcd {c : Cnt} {w : Wd} {a b : T} {p : List Int} {u : Str} {q : List Int} {x : Int} {r s : List RI} (h : evT c a (p ++ [0]) = (.had x, r)) (h2 : evT c b (p ++ [1]) = (.ref u q, s)) : evT c (.op w a b) p = (.ref u q, r ++ s) := by rw [evT, h]; simp only [h2]
theorem zcc {c : Cnt} {a b : T} {p : List Int} {x : Int} {r s : List RI} (h : evT c a (p ++ [0]) = (.had x, r)) (h2 : evT c b (p ++ [1]) = (.had 0, s)) : evT c (.op .quo a b) p = (.ref "zero" p, r ++ s) := by rw [evT, h]; simp [h2]
theorem zh3 {c : Cnt} {w : Wd} {a b : T} {p : List Int} {x y : Int} {r s : List RI} (h : evT c a (p ++ [0]) = (.had x, r)) (h2 : evT c b (p ++ [1]) = (.had y, s)) (h3 : ¬ (w = .quo ∧ y = 0)) : evT c (.op w a b) p = (zkc (w.worth x y) p, r ++ s ++ [(p, w.worth x y)]) := by rw [evT, h]; simp only [h2]; rw [if_neg h3]
theorem zxi (c : Cnt) (w : Wd) (a b : T) (p : List Int) : (evT c a (p ++ [0])).2.length ≤ (evT c (.op w a b) p).2.length := by
 cases h : evT c a (p ++ [0]) with
 | mk r1 s1 =>
  cases r1 with
  | ref u q => rw [zij h]; exact Nat.le_refl _
  | had x =>
   cases h2 : evT c b (p ++ [1]) with
   | mk r2 s2 =>
    cases r2 with
    | ref u q => rw [zcd h h2]; simp
    | had y =>
     by_cases h3 : w = .quo ∧ y = 0
     ·obtain ⟨rfl, rfl⟩ := h3
      rw [zcc h h2]; simp
     ·rw [zh3 h h2 h3]; simp only [List.length_append, List.length_cons, List.length_nil]; omega
theorem zxh {c : Cnt} {w : Wd} {a b : T} {p : List Int} {x : Int} {r : List RI} (h : evT c a (p ++ [0]) = (.had x, r)) : r.length + (evT c b (p ++ [1])).2.length ≤ (evT c (.op w a b) p).2.length := by
 cases h2 : evT c b (p ++ [1]) with
 | mk r2 s2 =>
  cases r2 with
  | ref u q => rw [zcd h h2]; simp
  | had y =>
   by_cases h3 : w = .quo ∧ y = 0
   ·obtain ⟨rfl, rfl⟩ := h3
    rw [zcc h h2]; simp
   ·rw [zh3 h h2 h3]; simp only [List.length_append, List.length_cons, List.length_nil]; omega
def z6i (n : Nat) : Sp := fun vs H Q _ => ∃ (v : V) (t : T) (pv : V) (p : List Int) (d f : Addr) (c : Cnt) (g : List Str) (lo : Option Addr), vs = [v, pv, .ref d, .ref f] ∧ Dt H v t.enc ∧ Dt H pv (z2f p) ∧ t.ok g n ∧ n ≤ 5 ∧ p.length + n ≤ 100 ∧ H d = some (.dK (kvC c)) ∧ Has c g ∧ SetOk f lo H ∧ HasL lo H ((evT c t p).2.length + 1) ∧
 ∀ (r : V) (H' : Hp), Gr lo H H' (evT c t p).2 → Dt H' r (evT c t p).1.enc → Q r H'
end
section
variable {P : Program} {w : World} {K : PySem.W.Frag} {mg : Str → Option Value} {base : Heap} {f : Addr} {fd : FuncData}
theorem eqW {H : Hp} (w v : Wd) : q1s K (.str w.str) (.str v.str) H (decide (w = v)) := .inl ⟨rfl, by cases w <;> cases v <;> decide +kernel⟩
def zmv : Sp := fun vs H Q _ => ∃ (w : Wd) (a b : Int), vs = [.str w.str, .int a, .int b] ∧ (w = .quo → b ≠ 0) ∧ b.natAbs < 1073741824 ∧ Q (.int (w.worth a b)) H
theorem znb (F : Fun K "worth_of" "worth_of" z30 f fd) (b_min : mg "min" = none) (b_max : mg "max" = none) : FnOk P w K mg base CX0 1 f fd ["word", "one", "other"] zmv := by
 refine F.ok zmy (fun vs H Q E h => ?_) (fun cdv A outer s H vs Q E hr h => ?_)
 ·obtain ⟨w, a, b, rfl, _⟩ := h
  rfl
 obtain ⟨w, a, b, rfl, hq, hb, q⟩ := h
 refine ⟨_, (z05 (z2k (z0f (gEq hr.units) (z00 (i := 0) rfl z26 zcp zcx) z0u (z0w _)) (z08 (z0o (z16 z28 (z00 (i := 1) rfl z24 zb3 zb8) (z00 (i := 2) rfl z1m z3s z3t)))) z0y)
 (z05 (z2k (z0f (gEq hr.units) (z00 (i := 0) rfl z26 zcp zcx) z0u (z0w _)) (z08 (z0o (z16 zdg (z00 (i := 1) rfl z24 zb3 zb8) (z00 (i := 2) rfl z1m z3s z3t)))) z0y)
 (z05 (z2k (z0f (gEq hr.units) (z00 (i := 0) rfl z26 zcp zcx) z0u (z0w _)) (z08 (z0o (z16 zaq (z00 (i := 1) rfl z24 zb3 zb8) (z00 (i := 2) rfl z1m z3s z3t)))) z0y)
 (z05 (z2k (z0f (gEq hr.units) (z00 (i := 0) rfl z26 zcp zcx) z0u (z0w _)) (z08 (z0o (z16 zuz (z00 (i := 1) rfl z24 zb3 zb8) (z00 (i := 2) rfl z1m z3s z3t)))) z0y)
 (z05 (z2k (z0f (gEq hr.units) (z00 (i := 0) rfl z26 zcp zcx) z0u (z0w _)) (z08 (z0o (zjd (z0f zla (z00 (i := 1) rfl z24 zb3 zb8) (z00 (i := 2) rfl z1m z3s z3t) (z0w _)) z01 z01))) z0y)
 (z05 (z2k (z0f (gEq hr.units) (z00 (i := 0) rfl z26 zcp zcx) z0u (z0w _)) (z08 (z0o (zjd (z0f zc1 (z00 (i := 1) rfl z24 zb3 zb8) (z00 (i := 2) rfl z1m z3s z3t) (z0w _)) z01 z01))) z0y)
 (z05 (z2k (z0f (gEq hr.units) (z00 (i := 0) rfl z26 zcp zcx) z0u (z0w _)) (z08 (z0o (zcb (ztp rfl) zhf b_min q1g (z07 (z00 (i := 1) rfl z24 zb3 zb8) (z07 (z00 (i := 2) rfl z1m z3s z3t) z04)) q0d q16))) z0y)
 (z08 (z0o (zcb (ztq rfl) zhg b_max q1h (z07 (z00 (i := 1) rfl z24 zb3 zb8) (z07 (z00 (i := 2) rfl z1m z3s z3t) z04)) q0e q17)))))))))), ?_⟩
 walk_at "rd"
 have hm : CMul a b := .inr ⟨by omega, by omega⟩
 refine ⟨_, eqW w .add, ?_⟩
 split
 ·rename_i e; cases of_decide_eq_true e; exact q
 rename_i n1
 refine ⟨_, eqW w .sub, ?_⟩
 split
 ·rename_i e; cases of_decide_eq_true e; exact q
 rename_i n2
 refine ⟨_, eqW w .mul, ?_⟩
 split
 ·rename_i e; cases of_decide_eq_true e; exact ⟨hm, q⟩
 rename_i n3
 refine ⟨_, eqW w .quo, ?_⟩
 split
 ·rename_i e; cases of_decide_eq_true e; exact ⟨⟨hq rfl, hb⟩, q⟩
 rename_i n4
 refine ⟨_, eqW w .less, ?_⟩
 split
 ·rename_i e; cases of_decide_eq_true e
  have q : Q (.int (if a < b then 1 else 0)) H := q
  split
  ·rename_i c; rw [if_pos c] at q; exact q
  ·rename_i c; rw [if_neg c] at q; exact q
 rename_i n5
 refine ⟨_, eqW w .same, ?_⟩
 split
 ·rename_i e; cases of_decide_eq_true e
  have q : Q (.int (if a = b then 1 else 0)) H := q
  split
  ·rename_i c; rw [if_pos c] at q; exact q
  ·rename_i c; rw [if_neg c] at q; exact q
 rename_i n6
 refine ⟨_, eqW w .min, ?_⟩
 split
 ·rename_i e; cases of_decide_eq_true e; exact ⟨_, _, ⟨rfl, rfl⟩, q⟩
 rename_i n7
 have e : w = .max := by
  cases w <;> first | rfl | exact absurd rfl (by assumption)
 cases e
 exact ⟨_, _, ⟨rfl, rfl⟩, q⟩
theorem znh {k : Nat} {n1 n2 n3 n4 : Str} : FnOk P w K mg base CX0 k f fd [n1, n2, n3, n4] (z6i 0) := by
 have no : ∀ vs H Q E, ¬ z6i 0 vs H Q E := fun vs H Q E h => by
  obtain ⟨v, t, pv, p, d, f, c, g, lo, _, _, _, h, _⟩ := h
  exact h.elim
 exact ⟨fun vs H Q E h => absurd h (no vs H Q E), fun A outer s H args us vs Q E _ _ _ _ h => absurd h (no vs H Q E)⟩
theorem zke {H : Hp} {x z : Str} : q1s K (.str x) (.str z) H (decide (x = z)) := .inl ⟨rfl, by simp⟩
theorem zu4 {t : T} (h : t.word = "num") : ∃ i, t = .num i := by
 cases t with
 | num i => exact ⟨i, rfl⟩
 | nm x => exact absurd h (show ¬ ("name" : Str) = "num" by decide +kernel)
 | op w a b => exact absurd h (show ¬ w.str = "num" by cases w <;> decide +kernel)
theorem zqq {t : T} (h : t.word = "name") : ∃ x, t = .nm x := by
 cases t with
 | num i => exact absurd h (show ¬ ("num" : Str) = "name" by decide +kernel)
 | nm x => exact ⟨x, rfl⟩
 | op w a b => exact absurd h (show ¬ w.str = "name" by cases w <;> decide +kernel)
theorem zwt {t : T} (h1 : ¬ t.word = "num") (h2 : ¬ t.word = "name") : ∃ w a b, t = .op w a b := by
 cases t with
 | num i => exact absurd rfl h1
 | nm x => exact absurd rfl h2
 | op w a b => exact ⟨w, a, b, rfl⟩
theorem zfj {H : Hp} {v : V} {r : Rs} (h : Dt H v r.enc) : ∃ a, v = .ref a ∧ ((∃ i, r = .had i ∧ H a = some (.tup [.str "had", .int i])) ∨ ∃ u q y, r = .ref u q ∧ H a = some (.tup [.str "refused", .str u, y])) := by
 cases r with
 | had i =>
  rw [Rs.enc] at h
  obtain ⟨a, x0, x1, rfl, ha, t0, t1⟩ := zo7 h
  cases t0; cases t1
  exact ⟨a, rfl, .inl ⟨i, rfl, ha⟩⟩
 | ref u q =>
  rw [Rs.enc] at h
  obtain ⟨a, x0, x1, x2, rfl, ha, t0, t1, t2⟩ := zqw h
  cases t0; cases t1
  exact ⟨a, rfl, .inr ⟨u, q, x2, rfl, ha⟩⟩
theorem z8k : ¬ ("had" : Str) = "refused" := by decide +kernel
theorem zs1 {n : Nat} (F : Fun K "reckon" "reckon" z2v f fd) (c_worth_of : Callee P w K mg base "worth_of" ["word", "one", "other"] 1 zmv) (c_settled : Callee P w K mg base "settled" ["worth", "path", "rows"] 1 z59) (c_reckon : Callee P w K mg base "reckon" ["term", "path", "names", "settle"] (n + 2) (z6i n)) : FnOk P w K mg base CX0 (n + 3) f fd ["term", "path", "names", "settle"] (z6i (n + 1)) := by
 refine F.ok sc_reckon (fun vs H Q E h => ?_) (fun cdv A outer s H vs Q E hr h => ?_)
 ·obtain ⟨v, t, pv, p, d, f, c, g, lo, rfl, _⟩ := h
  rfl
 obtain ⟨v, t, pv, p, d, fs, c, g, lo, rfl, hv, hp, hok, hn, hpl, hd, hh, hS, hL, q⟩ := h
 obtain ⟨va, y, tx, rfl, hva⟩ := zu7 hv
 refine ⟨_, (z05 (z2k (z0f (gEq hr.units) (z0v z0e (z00 (i := 0) rfl z2c z7b z7e) z01 (fun _ _ => rfl)) z0u (z0w _)) (z08 (z0o (zge (i := 3) (k := 2) rfl z2r hr (by omega) (z07 (z0v z0e (z00 (i := 0) rfl z2c z7b z7e) z01 (fun _ _ => rfl)) (z07 (z00 (i := 1) rfl z3c z21 z22) z04)) z2h z2i))) z0y)
 (z05 (z2k (z0f (gEq hr.units) (z0v z0e (z00 (i := 0) rfl z2c z7b z7e) z01 (fun _ _ => rfl)) z0u (z0w _)) (z08 (z0o (zge (i := 3) (k := 2) rfl z2r hr (by omega) (z07 (zxc hr.units1 (z00 (i := 2) rfl z68 z2x z2y) (z0v z0e (z00 (i := 0) rfl z2c z7b z7e) z01 (fun _ _ => rfl)) (fun _ _ => rfl)) (z07 (z00 (i := 1) rfl z3c z21 z22) z04)) z2h z2i))) z0y)
 (z05 (z1e (i := 4) sc_reckon.nd rfl zi4 (z1d c_reckon hr (by omega) (z07 (z0v z0e (z00 (i := 0) rfl z2c z7b z7e) z01 (fun _ _ => rfl)) (z07 (z16 z2b (z00 (i := 1) rfl z3c z21 z22) (z0z (z07 z01 z04))) (z07 (z00 (i := 2) rfl z68 z2x z2y) (z07 (z00 (i := 3) rfl z2r z2h z2i) z04)))) za8 zb2) (z06 rfl))
 (z05 (z2k (z0f (gEq hr.units) (z0v z0e (z00 (i := 4) rfl z7q zb3 zb8) z01 (fun _ _ => rfl)) z0u (z0w _)) (z08 (z0o (z00 (i := 4) rfl z7q zb3 zb8))) z0y)
 (z05 (z1e (i := 5) sc_reckon.nd rfl zfz (z1d c_reckon hr (by omega) (z07 (z0v z0e (z00 (i := 0) rfl z2c z7b z7e) z01 (fun _ _ => rfl)) (z07 (z16 z2b (z00 (i := 1) rfl z3c z21 z22) (z0z (z07 z01 z04))) (z07 (z00 (i := 2) rfl z68 z2x z2y) (z07 (z00 (i := 3) rfl z2r z2h z2i) z04)))) za8 zb2) (z06 rfl))
 (z05 (z2k (z0f (gEq hr.units) (z0v z0e (z00 (i := 5) rfl z4w z3s z3t) z01 (fun _ _ => rfl)) z0u (z0w _)) (z08 (z0o (z00 (i := 5) rfl z4w z3s z3t))) z0y)
 (z05 (z2k (PW.pt (zw1 (z0f (gEq hr.units) (z0v z0e (z00 (i := 0) rfl z2c z7b z7e) z01 (fun _ _ => rfl)) z0u (z0w _)) (zri (z0f zc1 (z0v z0e (z00 (i := 5) rfl z4w z3s z3t) z01 (fun _ _ => rfl)) z01 (z0w _))))) (z08 (z0o (zge (i := 3) (k := 2) rfl z2r hr (by omega) (z07 zdd (z07 (z00 (i := 1) rfl z3c z21 z22) z04)) z2h z2i))) z0y)
 (z08 (z0o (zge (i := 3) (k := 2) rfl z2r hr (by omega) (z07 (z1d c_worth_of hr (by omega) (z07 (z0v z0e (z00 (i := 0) rfl z2c z7b z7e) z01 (fun _ _ => rfl)) (z07 (z0v z0e (z00 (i := 4) rfl z7q zb3 zb8) z01 (fun _ _ => rfl)) (z07 (z0v z0e (z00 (i := 5) rfl z4w z3s z3t) z01 (fun _ _ => rfl)) z04))) zdt znv) (z07 (z00 (i := 1) rfl z3c z21 z22) z04)) z2h z2i)))))))))), z0s fun N1 e1 => ?_⟩
 walk_at "rd7"
 refine ⟨_, SqT.of hva, _, z1g, _, zke, ?_⟩
 split
 ·rename_i hw
  obtain ⟨i, rfl⟩ := zu4 (of_decide_eq_true hw)
  rw [T.enc] at hv
  obtain ⟨a2, x0, x1, ea, ha2, t0, t1⟩ := zo7 hv
  cases ea
  cases t1
  rw [ha2] at hva
  cases hva
  rw [evT] at hL q
  refine ⟨hS.lam, _, SqT.of ha2, _, z13 (j := 1) rfl, hS.lam, ?_⟩
  exact zev c_settled hS (hL.mono (by simp)) hp q
 rename_i hw1
 rw [e1]
 refine z0s fun N2 e2 => ?_
 walk_at "rd7"
 refine ⟨_, SqT.of hva, _, z1g, _, zke, ?_⟩
 split
 ·rename_i hw
  obtain ⟨x, rfl⟩ := zqq (of_decide_eq_true hw)
  rw [T.enc] at hv
  obtain ⟨a2, x0, x1, ea, ha2, t0, t1⟩ := zo7 hv
  cases ea
  cases t1
  rw [ha2] at hva
  cases hva
  rw [evT] at hL q
  obtain ⟨w, hw2, _⟩ := hh x hok
  rw [hw2] at hL q
  have hg : DGet H d (.str x) (some (.int w)) := by
   have := DGet.k (k := Sum.inr x) hd
   rw [zvv, hw2] at this
   exact this
  refine ⟨hS.lam, _, SqT.of ha2, _, z13 (j := 1) rfl, _, hg, hS.lam, ?_⟩
  exact zev c_settled hS (hL.mono (by simp)) hp q
 rename_i hw2
 obtain ⟨wd, ta, tb, rfl⟩ := zwt (fun z => hw1 (decide_eq_true z)) fun z => hw2 (decide_eq_true z)
 rw [e2]
 refine z0s fun N3 e3 => ?_
 walk_at "rd7"
 have hv0 := hv
 rw [T.enc] at hv
 obtain ⟨a2, x0, xa, xb, ea, ha2, t0, da, db⟩ := zqw hv
 cases ea
 cases t0
 clear hva
 refine ⟨_, SqT.of ha2, _, z13 (j := 1) rfl, by decide, fun p1 h1 => ?_⟩
 have s1 := z03 h1 (HO.tup [V.int 0])
 refine zp6 (hp.kp s1.kp) zdf (by simp; omega) fun z H1 s2 dz => ?_
 have s12 := s1.trans s2
 have l1 := zxi c wd ta tb p
 refine ⟨xa, ta, z, _, d, fs, c, g, lo, rfl, da.kp s12.kp, dz, hok.1, by omega, by simp; omega, s12 _ _ hd, hh, hS.kp (Same.kpE s12), (hL.same s12).mono (by omega), fun r1 H2 g1 dr1 => ?_⟩
 have G1 : Gr lo H H2 (evT c ta (p ++ [0])).2 := (Gr.same s12 hL).trans g1
 clear g1 s1 s2 s12
 obtain ⟨b1, rfl, hb1⟩ := zfj dr1
 rcases he1 : evT c ta (p ++ [0]) with ⟨r1, w1⟩
 rw [he1] at G1 dr1 hb1
 rw [e3]
 refine z0s fun N4 e4 => ?_
 walk_at "rd7"
 rcases hb1 with ⟨i1, rfl, hb1⟩ | ⟨u, qq, y1, rfl, hb1⟩
 rotate_left
 ·refine ⟨_, SqT.of hb1, _, z1g, _, zke, ?_⟩
  rw [if_pos (decide_eq_true rfl)]
  rw [zij he1] at q
  exact q _ _ G1 dr1
 refine ⟨_, SqT.of hb1, _, z1g, _, zke, ?_⟩
 rw [if_neg (by rw [decide_eq_true_eq]; exact z8k)]
 have ha3 := G1.keep ha2 (by intro xs z; cases z)
 have hd3 := G1.keep hd (by intro xs z; cases z)
 have hp3 := hp.kp G1.kp
 have db3 := db.kp G1.kp
 have hS3 := hS.kp G1.kpE
 have l2 := zxh (w := wd) (b := tb) he1
 have hL3 : HasL lo H2 ((evT c tb (p ++ [1])).2.length + 1) := hL.on G1 (by show w1.length + _ ≤ _; omega)
 rw [e4]
 refine z0s fun N5 e5 => ?_
 walk_at "rd7"
 refine ⟨_, SqT.of ha3, _, z13 (j := 2) rfl, by decide, fun p2 h2 => ?_⟩
 have s3 := z03 h2 (HO.tup [V.int 1])
 refine zp6 (hp3.kp s3.kp) zdf (by simp; omega) fun z2 H3 s4 dz2 => ?_
 have s34 := s3.trans s4
 refine ⟨xb, tb, z2, _, d, fs, c, g, lo, rfl, db3.kp s34.kp, dz2, hok.2, by omega, by simp; omega, s34 _ _ hd3, hh, hS3.kp (Same.kpE s34), hL3.same s34, fun r2 H4 g2 dr2 => ?_⟩
 have G2 : Gr lo H2 H4 (evT c tb (p ++ [1])).2 := (Gr.same s34 hL3).trans g2
 clear g2 s3 s4 s34
 obtain ⟨b2, rfl, hb2⟩ := zfj dr2
 rcases he2 : evT c tb (p ++ [1]) with ⟨r2, w2⟩
 rw [he2] at G2 dr2 hb2 hL3
 have hb14 := G2.keep hb1 (by intro xs z; cases z)
 have ha4 := G2.keep ha3 (by intro xs z; cases z)
 have hp4 := hp3.kp G2.kp
 have hS4 := hS3.kp G2.kpE
 have G12 := G1.trans G2
 rw [e5]
 refine z0s fun N6 e6 => ?_
 walk_at "rd7"
 rcases hb2 with ⟨i2, rfl, hb2⟩ | ⟨u, qq, y1, rfl, hb2⟩
 rotate_left
 ·refine ⟨_, SqT.of hb2, _, z1g, _, zke, ?_⟩
  rw [if_pos (decide_eq_true rfl)]
  rw [zcd he1 he2] at q
  exact q _ _ G12 dr2
 refine ⟨_, SqT.of hb2, _, z1g, _, zke, ?_⟩
 rw [if_neg (by rw [decide_eq_true_eq]; exact z8k)]
 have hL4 : HasL lo H4 1 := hL3.on G2 (Nat.le_refl _)
 have hw2 := zsr tb (p ++ [1]) he2
 rw [e6]
 refine z0s fun N7 e7 => ?_
 walk_at "rd7"
 refine ⟨_, SqT.of ha4, _, z1g, _, zke, ?_⟩
 have last : (wd = .quo → i2 ≠ 0) → N7 [some (V.ref va), some pv, some (V.ref d), some (V.ref fs), some (V.ref b1), some (V.ref b2)] H4 := fun hq => by
  rw [e7]
  walk_at "rd7"
  rw [zh3 he1 he2 (fun z => hq z.1 z.2)] at q
  refine ⟨hS4.lam, _, SqT.of ha4, _, z1g, _, SqT.of hb14, _, z13 (j := 1) rfl, _, SqT.of hb2, _, z13 (j := 1) rfl, wd, i1, i2, rfl, hq, by omega, ?_⟩
  refine ⟨hS4.lam, zev c_settled hS4 hL4 hp4 fun r H' g dr => q r H' (G12.trans g) dr⟩
 split
 ·rename_i hq
  have hq' : wd = .quo := by
   have := of_decide_eq_true hq
   cases wd <;> first | rfl | exact absurd this (by decide +kernel)
  subst hq'
  refine ⟨_, SqT.of hb2, _, z13 (j := 1) rfl, _, rfl, ?_⟩
  split
  ·rename_i hz
   subst hz
   rw [zcc he1 he2] at q
   refine ⟨hS4.lam, hS4.lam, zmx c_settled hS4 hL4 hp4 fun r H' g dr => q r H' ?_ dr⟩
   have := G12.trans g
   rw [List.append_nil] at this
   exact this
  ·rename_i hz
   exact last fun _ => hz
 ·rename_i hq
  exact last fun z => absurd (decide_eq_true (by rw [z]; rfl)) hq
theorem ziv (d : Df K mg "reckon" z2v ["term", "path", "names", "settle"] f fd) (c_worth_of : Callee P w K mg base "worth_of" ["word", "one", "other"] 1 zmv) (c_settled : Callee P w K mg base "settled" ["worth", "path", "rows"] 1 z59) : ∀ n : Nat, Callee P w K mg base "reckon" ["term", "path", "names", "settle"] (n + 2) (z6i n)
 | 0 => d.callee znh
 | n + 1 => d.callee (zs1 d.F c_worth_of c_settled (ziv d c_worth_of c_settled n))
end
section
variable {P : Program} {w : World} {K : PySem.W.Frag} {mg : Str → Option Value} {base : Heap} {f : Addr} {fd : FuncData}
def Gd (d : Addr) (lo : Option Addr) (H H' : Hp) (rs : List RI) : Prop := (∀ a o, a ≠ d → some a ≠ lo → H a = some o → H' a = some o) ∧ ∀ l, lo = some l → ∃ xs ys, H l = some (.lst xs) ∧ H' l = some (.lst (xs ++ ys)) ∧ DtA H' ys (rs.map zz4)
theorem Gr.gd {d : Addr} {lo : Option Addr} {H H' : Hp} {rs : List RI} (h : Gr lo H H' rs) : Gd d lo H H' rs := ⟨fun a o _ n e => h.1 a o n e, h.2⟩
theorem Gd.keep {d : Addr} {lo : Option Addr} {H H' : Hp} {rs : List RI} {k : List (Key × V)} (h : Gd d lo H H' rs) (hd : H d = some (.dK k)) {a : Addr} {o : HO} (e : H a = some o) (n1 : ∀ xs, o ≠ .lst xs) (n2 : ∀ k, o ≠ .dK k) : H' a = some o := h.1 a o (fun z => by
 rw [z, hd] at e
 cases e
 exact n2 _ rfl) (fun z => by
 obtain ⟨xs, ys, e1, _⟩ := h.2 a z.symm
 rw [e1] at e
 cases e
 exact n1 _ rfl) e
theorem Gd.kp {d : Addr} {lo : Option Addr} {H H' : Hp} {rs : List RI} {k : List (Key × V)} (h : Gd d lo H H' rs) (hd : H d = some (.dK k)) : Kp H H' := by
 refine ⟨fun b xs e => h.keep hd e (fun _ z => by cases z) (fun _ z => by cases z), fun b xs e => ?_⟩
 by_cases hb : some b = lo
 ·obtain ⟨xs', ys, e1, e2, _⟩ := h.2 b hb.symm
  exact ⟨_, e2⟩
 ·exact ⟨xs, h.1 b _ (fun z => by rw [z, hd] at e; cases e) hb e⟩
theorem Gd.kpE {d : Addr} {lo : Option Addr} {H H' : Hp} {rs : List RI} {k : List (Key × V)} (h : Gd d lo H H' rs) (hd : H d = some (.dK k)) : KpE H H' := fun a φ e => h.keep hd e (fun _ z => by cases z) fun _ z => by cases z
theorem Gd.trans {d : Addr} {lo : Option Addr} {H H1 H2 : Hp} {r1 r2 : List RI} {k : List (Key × V)} (a : Gd d lo H H1 r1) (b : Gd d lo H1 H2 r2) (hd : H1 d = some (.dK k)) : Gd d lo H H2 (r1 ++ r2) := by
 refine ⟨fun x o n1 n2 e => b.1 x o n1 n2 (a.1 x o n1 n2 e), fun l hl => ?_⟩
 obtain ⟨xs, ys, e1, e2, d1⟩ := a.2 l hl
 obtain ⟨xs', zs, f1, f2, d2⟩ := b.2 l hl
 rw [e2] at f1
 cases f1
 exact ⟨xs, ys ++ zs, e1, by rw [f2, List.append_assoc], by rw [List.map_append]; exact (d1.kp (b.kp hd)).append d2⟩
theorem Gd.put {d : Addr} {lo : Option Addr} {H H' : Hp} {rs : List RI} {k : List (Key × V)} {e : List (Key × V)} (h : Gr lo H H' rs) (hd : H' d = some (.dK k)) : Gd d lo H (upd H' d (.dK e)) rs := by
 refine ⟨fun a o n1 n2 z => by rw [z0q n1]; exact h.1 a o n2 z, fun l hl => ?_⟩
 obtain ⟨xs, ys, e1, e2, d1⟩ := h.2 l hl
 exact ⟨xs, ys, e1, by rw [z0q fun z => by rw [z, hd] at e2; cases e2]; exact e2, d1.kp (zxv hd)⟩
theorem HasL.onD {d : Addr} {lo : Option Addr} {H H' : Hp} {rs : List RI} {n m : Nat} (h : HasL lo H n) (g : Gd d lo H H' rs) (k : rs.length + m ≤ n) : HasL lo H' m := fun l hl => by
 obtain ⟨xs, e, z⟩ := h l hl
 obtain ⟨xs', ys, e1, e2, d⟩ := g.2 l hl
 rw [e] at e1
 cases e1
 have := d.length
 rw [List.length_map] at this
 exact ⟨_, e2, by rw [List.length_append]; omega⟩
def KeyOk (c : Cnt) : Prop := (c.map (·.1)).Nodup ∧ ∀ p ∈ c, p.1 ∈ pool
theorem KeyOk.put {c : Cnt} (h : KeyOk c) {x : Str} (hx : x ∈ pool) (v : Int) : KeyOk (zja c x v) := by
 refine ⟨?_, fun p hp => ?_⟩
 ·rw [zgd]
  split
  ·exact h.1
  ·rename_i hn
   exact List.nodup_append.mpr ⟨h.1, by simp, fun a ha b hb e => hn (by rw [List.mem_singleton] at hb; rw [← hb, ← e]; exact ha)⟩
 ·have hm : p.1 ∈ (zja c x v).map (·.1) := List.mem_map.mpr ⟨p, hp, rfl⟩
  rw [zgd] at hm
  split at hm
  ·obtain ⟨q, hq, e⟩ := List.mem_map.mp hm
   rw [← e]; exact h.2 q hq
  ·rcases List.mem_append.mp hm with hm | hm
   ·obtain ⟨q, hq, e⟩ := List.mem_map.mp hm
    rw [← e]; exact h.2 q hq
   ·rw [List.mem_singleton] at hm
    rw [hm]; exact hx
theorem KeyOk.len {c : Cnt} (h : KeyOk c) : c.length ≤ 4 := by
 have := zjh (c.map (·.1)) pool h.1 fun x hx => by
  obtain ⟨q, hq, e⟩ := List.mem_map.mp hx
  rw [← e]; exact h.2 q hq
 rw [List.length_map] at this
 exact this
theorem zjw : ∀ (c : Cnt) (x : Str) (v : Int), zfm (zja c x v) x = some v := by
 intro c x v
 unfold zja
 split
 ·rename_i h
  induction c with
  | nil => simp at h
  | cons p c ih =>
   by_cases e : p.1 = x
   ·simp [zfm, e]
   ·have h' : (c.any fun p => decide (p.1 = x)) = true := by simpa [e] using h
    have := ih h'
    unfold zfm at this ⊢
    rw [List.map_cons, if_neg e, List.find?_cons]
    simpa [e] using this
 ·rename_i h
  have hn : ∀ p ∈ c, p.1 ≠ x := fun p hp e => h (List.any_eq_true.mpr ⟨p, hp, decide_eq_true e⟩)
  unfold zfm
  rw [List.find?_append, List.find?_eq_none.mpr (fun p hp => by simpa using hn p hp)]
  simp
theorem znr : ∀ (c : Cnt) {x y : Str} (v : Int), y ≠ x → zfm (zja c x v) y = zfm c y := by
 intro c x y v hne
 unfold zja
 split
 ·rename_i hany
  clear hany
  induction c with
  | nil => rfl
  | cons p c ih =>
   unfold zfm at ih ⊢
   rw [List.map_cons, List.find?_cons, List.find?_cons]
   by_cases e : p.1 = x
   ·rw [if_pos e]
    have : ¬ p.1 = y := fun z => hne (z.symm.trans e)
    simpa [this] using ih
   ·rw [if_neg e]
    by_cases e2 : p.1 = y
    ·simp [e2]
    ·simpa [e2] using ih
 ·unfold zfm
  rw [List.find?_append]
  cases hf : c.find? fun p => decide (p.1 = y) with
  | none => simp [Ne.symm hne]
  | some q => simp
theorem Has.put {c : Cnt} {g : List Str} (h : Has c g) {x : Str} {v : Int} (h1 : -32768 ≤ v) (h2 : v ≤ 32767) : Has (zja c x v) (g ++ [x]) := fun y hy => by
 by_cases e : y = x
 ·rw [e, zjw]
  exact ⟨v, rfl, h1, h2⟩
 ·rw [znr c v e]
  rcases List.mem_append.mp hy with hy | hy
  ·exact h y hy
  ·exact absurd (List.mem_singleton.mp hy) e
theorem Has.sub {c : Cnt} {g g' : List Str} (h : Has c g) (s : Sub g' g) : Has c g' := fun x hx => h x (s x hx)
theorem zdh {g : List Str} : ∀ {n : Nat} {t : T}, T.ok pool n t → t.knows g = true → T.ok g n t
 | 0, _, h, _ => h.elim
 | n + 1, .num i, h, _ => h
 | n + 1, .nm x, h, k => show x ∈ g by simpa [T.knows] using k
 | n + 1, .op w a b, h, k => by
  rw [T.knows, Bool.and_eq_true] at k
  exact ⟨zdh h.1 k.1, zdh h.2 k.2⟩
mutual
theorem zxy : ∀ (d : D) (p q : List Str), kbD p d = some q → Sub p q
 | .set x t, p, q, h => by
  rw [kbD] at h
  split at h
  ·cases h
   exact fun y hy => List.mem_append_left _ hy
  ·cases h
 | .ite t b c, p, q, h => by
  rw [kbD] at h
  split at h
  ·cases hb : kbB p b with
   | none => rw [hb] at h; cases h
   | some q1 =>
    cases hc : kbB p c with
    | none => rw [hb, hc] at h; cases h
    | some q2 =>
     rw [hb, hc] at h
     cases h
     exact fun y hy => List.mem_filter.mpr ⟨zf6 b p q1 hb y hy, by simpa using zf6 c p q2 hc y hy⟩
  ·cases h
 | .whl t m b, p, q, h => by
  rw [kbD] at h
  split at h
  ·cases hb : kbB p b with
   | none => rw [hb] at h; cases h
   | some q1 =>
    rw [hb] at h
    cases h
    exact Sub.refl p
  ·cases h
theorem zf6 : ∀ (b : List D) (p q : List Str), kbB p b = some q → Sub p q
 | [], p, q, h => by
  rw [kbB] at h
  cases h
  exact Sub.refl p
 | d :: r, p, q, h => by
  rw [kbB] at h
  cases hd : kbD p d with
  | none => rw [hd] at h; cases h
  | some q1 =>
   rw [hd] at h
   exact (zxy d p q1 hd).trans (zf6 r q1 q h)
end
end
section
variable {P : Program} {w : World} {K : PySem.W.Frag} {mg : Str → Option Value} {base : Heap} {f : Addr} {fd : FuncData}
def q2v (o : Option Ref) (H' : Hp) (r : V) : Prop := match o with
 | none => r = .non
 | some e => Dt H' r (Rs.ref e.1 e.2).enc
def zmw (n : Nat) : Sp := fun vs H Q _ => ∃ (v : V) (b : List D) (pv : V) (p : List Int) (d f : Addr) (c : Cnt) (g g' : List Str) (lo : Option Addr), vs = [v, pv, .ref d, .ref f] ∧ Dt H v (.tup (z3u b)) ∧ Dt H pv (z2f p) ∧ okW n b ∧ n ≤ 4 ∧ p.length + 2 * n ≤ 90 ∧ kbB g b = some g' ∧ H d = some (.dK (kvC c)) ∧ KeyOk c ∧ Has c g ∧ SetOk f lo H ∧ HasL lo H ((evB p 0 b c).2.2.length + 1) ∧
 ∀ (r : V) (H' : Hp), Gd d lo H H' (evB p 0 b c).2.2 → H' d = some (.dK (kvC (evB p 0 b c).2.1)) → q2v (evB p 0 b c).1 H' r → Q r H'
def zkt (ks : List Str) (n : Nat) : Sp := fun vs H Q _ => ∃ (v : V) (e : D) (pv : V) (p : List Int) (d f : Addr) (c : Cnt) (g g' : List Str) (lo : Option Addr), vs = [v, pv, .ref d, .ref f] ∧ e.kind ∈ ks ∧ Dt H v e.enc ∧ Dt H pv (z2f p) ∧ zmp n e ∧ n ≤ 3 ∧ p.length + 2 * n ≤ 89 ∧ kbD g e = some g' ∧ H d = some (.dK (kvC c)) ∧ KeyOk c ∧ Has c g ∧ SetOk f lo H ∧ HasL lo H ((evD p e c).2.2.length + 1) ∧
 ∀ (r : V) (H' : Hp), Gd d lo H H' (evD p e c).2.2 → H' d = some (.dK (kvC (evD p e c).2.1)) → q2v (evD p e c).1 H' r → Q r H'
theorem zc9 {c : Cnt} {x : Str} {t : T} {p : List Int} {u : Str} {q : List Int} {r : List RI} (h : evT c t (p ++ [0]) = (.ref u q, r)) : evD p (.set x t) c = (some (u, q), c, r) := by rw [evD, h]
theorem zca {c : Cnt} {x : Str} {t : T} {p : List Int} {v : Int} {r : List RI} (h : evT c t (p ++ [0]) = (.had v, r)) : evD p (.set x t) c = (none, zja c x v, r) := by rw [evD, h]
theorem zr7 (c : Cnt) (x : Str) (t : T) (p : List Int) : (evD p (.set x t) c).2.2 = (evT c t (p ++ [0])).2 := by
 rcases h : evT c t (p ++ [0]) with ⟨r, w⟩
 cases r with
 | had v => rw [zca h]
 | ref u q => rw [zc9 h]
theorem z9n {c : Cnt} {t : T} {b b2 : List D} {p : List Int} {u : Str} {q : List Int} {r : List RI} (h : evT c t (p ++ [0]) = (.ref u q, r)) : evD p (.ite t b b2) c = (some (u, q), c, r) := by rw [evD, h]
theorem z9m {c : Cnt} {t : T} {b b2 : List D} {p : List Int} {v : Int} {r : List RI} (h : evT c t (p ++ [0]) = (.had v, r)) (hv : v ≠ 0) : evD p (.ite t b b2) c = ((evB (p ++ [1]) 0 b c).1, (evB (p ++ [1]) 0 b c).2.1, r ++ (evB (p ++ [1]) 0 b c).2.2) := by rw [evD, h]; simp [hv]
theorem zdr {c : Cnt} {t : T} {b b2 : List D} {p : List Int} {r : List RI} (h : evT c t (p ++ [0]) = (.had 0, r)) : evD p (.ite t b b2) c = ((evB (p ++ [2]) 0 b2 c).1, (evB (p ++ [2]) 0 b2 c).2.1, r ++ (evB (p ++ [2]) 0 b2 c).2.2) := by rw [evD, h]; simp
theorem zy0 (c : Cnt) (t : T) (b b2 : List D) (p : List Int) : (evT c t (p ++ [0])).2.length ≤ (evD p (.ite t b b2) c).2.2.length := by
 rcases h : evT c t (p ++ [0]) with ⟨r, w⟩
 cases r with
 | ref u q => rw [z9n h]; exact Nat.le_refl _
 | had v =>
  by_cases hv : v = 0
  ·subst hv
   rw [zdr h]
   simp
  ·rw [z9m h hv]
   simp
theorem zli {g g' : List Str} {t : T} {b b2 : List D} (h : kbD g (.ite t b b2) = some g') : t.knows g = true ∧ (∃ q, kbB g b = some q) ∧ ∃ q, kbB g b2 = some q := by
 rw [kbD] at h
 split at h
 ·rename_i hk
  cases hb : kbB g b with
  | none => rw [hb] at h; cases h
  | some q1 =>
   cases hc : kbB g b2 with
   | none => rw [hb, hc] at h; cases h
   | some q2 => exact ⟨hk, ⟨q1, rfl⟩, q2, rfl⟩
 ·cases h
theorem zlh {g g' : List Str} {t : T} {m : Int} {b : List D} (h : kbD g (.whl t m b) = some g') : t.knows g = true ∧ g' = g ∧ ∃ q, kbB g b = some q := by
 rw [kbD] at h
 split at h
 ·rename_i hk
  cases hb : kbB g b with
  | none => rw [hb] at h; cases h
  | some q1 =>
   rw [hb] at h
   cases h
   exact ⟨hk, rfl, q1, rfl⟩
 ·cases h
theorem zv6 {cond : Cnt → Rs × List RI} {body : Cnt → Out} {p : List Int} (Pv : Cnt → Prop) (hb : ∀ c, Pv c → Pv (body c).2.1) : ∀ (k : Nat) (c : Cnt), Pv c → Pv (z4i cond body p k c).2.1 := by
 intro k
 induction k with
 | zero =>
  intro c h
  rw [z4i]
  rcases cond c with ⟨r, w⟩
  cases r with
  | ref u q => exact h
  | had v => by_cases hv : v = 0 <;> simp [hv, h]
 | succ k ih =>
  intro c h
  rw [z4i]
  rcases cond c with ⟨r, w⟩
  cases r with
  | ref u q => exact h
  | had v =>
   by_cases hv : v = 0
   ·simp [hv, h]
   ·have h1 := hb c h
    rcases hbc : body c with ⟨e, c1, r1⟩
    rw [hbc] at h1
    cases e with
    | some e => simp [hv, hbc, h1]
    | none =>
     have h2 := ih c1 h1
     simp only [hv, if_false, hbc]
     exact h2
theorem zsd {cond : Cnt → Rs × List RI} {body : Cnt → Out} {p : List Int} (Pv : Cnt → Prop) (hb : ∀ c, Pv c → (body c).1 = none → Pv (body c).2.1) : ∀ (k : Nat) (c : Cnt), Pv c → (z4i cond body p k c).1 = none → Pv (z4i cond body p k c).2.1 := by
 intro k
 induction k with
 | zero =>
  intro c h
  rw [z4i]
  rcases cond c with ⟨r, w⟩
  cases r with
  | ref u q => exact fun _ => h
  | had v => by_cases hv : v = 0 <;> simp [hv, h]
 | succ k ih =>
  intro c h
  rw [z4i]
  rcases cond c with ⟨r, w⟩
  cases r with
  | ref u q => exact fun _ => h
  | had v =>
   by_cases hv : v = 0
   ·simp [hv, h]
   ·have h1 := hb c h
    rcases hbc : body c with ⟨e, c1, r1⟩
    rw [hbc] at h1
    cases e with
    | some e => simp [hv, hbc]
    | none =>
     have h2 := ih c1 (h1 rfl)
     simp only [hv, if_false, hbc]
     exact h2
mutual
theorem zss : ∀ (e : D) (n : Nat) (p : List Int) (c : Cnt), zmp n e → KeyOk c → KeyOk (evD p e c).2.1
 | .set x t, n, p, c, h, k => by
  rcases he : evT c t (p ++ [0]) with ⟨r, w⟩
  cases r with
  | ref u q => rw [zc9 he]; exact k
  | had v => rw [zca he]; exact k.put h.1 v
 | .ite t b b2, n, p, c, h, k => by
  rcases he : evT c t (p ++ [0]) with ⟨r, w⟩
  cases r with
  | ref u q => rw [z9n he]; exact k
  | had v =>
   by_cases hv : v = 0
   ·subst hv
    rw [zdr he]
    exact zcn b2 n (p ++ [2]) 0 c h.2.2 k
   ·rw [z9m he hv]
    exact zcn b n (p ++ [1]) 0 c h.2.1 k
 | .whl t m b, n, p, c, h, k => by
  rw [evD]
  exact zv6 KeyOk (fun c1 k1 => zcn b n (p ++ [1]) 0 c1 h.2 k1) _ c k
theorem zcn : ∀ (b : List D) (n : Nat) (p : List Int) (i : Int) (c : Cnt), okW n b → KeyOk c → KeyOk (evB p i b c).2.1
 | [], n, p, i, c, h, k => by rw [evB]; exact k
 | e :: r, 0, p, i, c, h, k => h.elim
 | e :: r, n + 1, p, i, c, h, k => by
  have h1 := zss e n (p ++ [i]) c (h.2 e (.head _)) k
  rw [evB]
  rcases he : evD (p ++ [i]) e c with ⟨o, c1, w⟩
  rw [he] at h1
  cases o with
  | some u => exact h1
  | none => exact zcn r (n + 1) p (i + 1) c1 ⟨by have := h.1; rw [List.length_cons] at this; omega, fun d hd => h.2 d (.tail _ hd)⟩ h1
end
mutual
theorem zst : ∀ (e : D) (p : List Int) (c : Cnt) (g g' : List Str), kbD g e = some g' → Has c g → (evD p e c).1 = none → Has (evD p e c).2.1 g'
 | .set x t, p, c, g, g', hk, h => by
  rcases he : evT c t (p ++ [0]) with ⟨r, w⟩
  cases r with
  | ref u q => rw [zc9 he]; exact fun z => by cases z
  | had v =>
   rw [zca he]
   intro _
   rw [kbD] at hk
   split at hk
   ·cases hk
    have := zsr t (p ++ [0]) he
    exact h.put this.1 this.2
   ·cases hk
 | .ite t b b2, p, c, g, g', hk, h => by
  rcases he : evT c t (p ++ [0]) with ⟨r, w⟩
  cases r with
  | ref u q => rw [z9n he]; exact fun z => by cases z
  | had v =>
   obtain ⟨_, ⟨q1, h1⟩, q2, h2⟩ := zli hk
   have sub : Sub g' q1 ∧ Sub g' q2 := by
    have hkt := (zli hk).1
    rw [kbD, if_pos hkt, h1, h2] at hk
    cases hk
    exact ⟨fun x hx => (List.mem_filter.mp hx).1, fun x hx => by simpa using (List.mem_filter.mp hx).2⟩
   by_cases hv : v = 0
   ·subst hv
    rw [zdr he]
    exact fun z => (zhm b2 (p ++ [2]) 0 c g q2 h2 h z).sub sub.2
   ·rw [z9m he hv]
    exact fun z => (zhm b (p ++ [1]) 0 c g q1 h1 h z).sub sub.1
 | .whl t m b, p, c, g, g', hk, h => by
  obtain ⟨_, rfl, q1, h1⟩ := zlh hk
  rw [evD]
  exact zsd (fun c => Has c g') (fun c1 k1 z => (zhm b (p ++ [1]) 0 c1 g' q1 h1 k1 z).sub (zf6 b g' q1 h1)) _ c h
theorem zhm : ∀ (b : List D) (p : List Int) (i : Int) (c : Cnt) (g g' : List Str), kbB g b = some g' → Has c g → (evB p i b c).1 = none → Has (evB p i b c).2.1 g'
 | [], p, i, c, g, g', hk, h => by
  rw [kbB] at hk
  cases hk
  rw [evB]
  exact fun _ => h
 | e :: r, p, i, c, g, g', hk, h => by
  rw [kbB] at hk
  cases hd : kbD g e with
  | none => rw [hd] at hk; cases hk
  | some q1 =>
   rw [hd] at hk
   have h1 := zst e (p ++ [i]) c g q1 hd h
   rw [evB]
   rcases he : evD (p ++ [i]) e c with ⟨o, c1, w⟩
   rw [he] at h1
   cases o with
   | some u => exact fun z => by cases z
   | none => exact zhm r p (i + 1) c1 q1 g' hk (h1 rfl)
end
def zeg (rs : List RI) (o : Out) : Out := (o.1, o.2.1, rs ++ o.2.2)
theorem z5b {cond : Cnt → Rs × List RI} {body : Cnt → Out} {p : List Int} {k : Nat} {c : Cnt} {u : Str} {q : List Int} {r : List RI} (h : cond c = (.ref u q, r)) : z4i cond body p k c = (some (u, q), c, r) := by
 cases k <;> rw [z4i, h]
theorem z4g {cond : Cnt → Rs × List RI} {body : Cnt → Out} {p : List Int} {k : Nat} {c : Cnt} {r : List RI} (h : cond c = (.had 0, r)) : z4i cond body p k c = (none, c, r) := by
 cases k <;> rw [z4i, h] <;> simp
theorem z8m {cond : Cnt → Rs × List RI} {body : Cnt → Out} {p : List Int} {c : Cnt} {v : Int} {r : List RI} (h : cond c = (.had v, r)) (hv : v ≠ 0) : z4i cond body p 0 c = ((some (("long" : Str), p), c, r) : Out) := by
 rw [z4i, h]
 simp [hv]
theorem z5v {cond : Cnt → Rs × List RI} {body : Cnt → Out} {p : List Int} {k : Nat} {c c1 : Cnt} {v : Int} {r r1 : List RI} {e : Ref} (h : cond c = (.had v, r)) (hv : v ≠ 0) (hb : body c = (some e, c1, r1)) : z4i cond body p (k + 1) c = (some e, c1, r ++ r1) := by
 rw [z4i, h]
 simp [hv, hb]
theorem z5w {cond : Cnt → Rs × List RI} {body : Cnt → Out} {p : List Int} {k : Nat} {c c1 : Cnt} {v : Int} {r r1 : List RI} (h : cond c = (.had v, r)) (hv : v ≠ 0) (hb : body c = (none, c1, r1)) : z4i cond body p (k + 1) c = zeg (r ++ r1) (z4i cond body p k c1) := by
 rw [z4i, h]
 simp [hv, hb, zeg]
def WhI (H : Hp) (va : Addr) (pv : V) (d fs : Addr) (lo : Option Addr) (g : List Str) (t : T) (b : List D) (p : List Int) (M : Nat) (out : Out) (k : Nat) (σ : St) (Hc : Hp) : Prop := ∃ (j : Nat) (cj : Cnt) (rs : List RI) (x5 x6 : Option V), σ = [some (.ref va), some pv, some (.ref d), some (.ref fs), some (.int j), x5, x6] ∧ j + k = M ∧ Gd d lo H Hc rs ∧ Hc d = some (.dK (kvC cj)) ∧ KeyOk cj ∧ Has cj g ∧ out = zeg rs (z4i (fun c => evT c t (p ++ [0])) (fun c => evB (p ++ [1]) 0 b c) p k cj)
theorem zsf (cond : Cnt → Rs × List RI) (body : Cnt → Out) (p : List Int) (k : Nat) (c : Cnt) : (cond c).2.length ≤ (z4i cond body p k c).2.2.length := by
 rcases h : cond c with ⟨r, w⟩
 cases r with
 | ref u q => rw [z5b h]; exact Nat.le_refl _
 | had v =>
  by_cases hv : v = 0
  ·subst hv
   rw [z4g h]; exact Nat.le_refl _
  ·cases k with
   | zero => rw [z8m h hv]; exact Nat.le_refl _
   | succ k =>
    rcases hb : body c with ⟨e, c1, r1⟩
    cases e with
    | some e => rw [z5v h hv hb]; simp
    | none => rw [z5w h hv hb]; simp only [zeg, List.length_append]; omega
theorem zse {cond : Cnt → Rs × List RI} {body : Cnt → Out} {p : List Int} {k : Nat} {c : Cnt} {v : Int} {r : List RI} (h : cond c = (.had v, r)) (hv : v ≠ 0) : r.length + (body c).2.2.length ≤ (z4i cond body p (k + 1) c).2.2.length := by
 rcases hb : body c with ⟨e, c1, r1⟩
 cases e with
 | some e => rw [z5v h hv hb]; simp
 | none => rw [z5w h hv hb]; simp only [zeg, List.length_append]; omega
theorem z6o {p : List Int} {k : Int} {e : D} {r : List D} {c c1 : Cnt} {u : Ref} {w : List RI} (h : evD (p ++ [k]) e c = (some u, c1, w)) : evB p k (e :: r) c = (some u, c1, w) := by rw [evB, h]
theorem z6p {p : List Int} {k : Int} {e : D} {r : List D} {c c1 : Cnt} {w : List RI} (h : evD (p ++ [k]) e c = (none, c1, w)) : evB p k (e :: r) c = zeg w (evB p (k + 1) r c1) := by rw [evB, h]; rfl
theorem zyb (p : List Int) (k : Int) (e : D) (r : List D) (c : Cnt) : (evD (p ++ [k]) e c).2.2.length ≤ (evB p k (e :: r) c).2.2.length := by
 rcases h : evD (p ++ [k]) e c with ⟨o, c1, w⟩
 cases o with
 | some u => rw [z6o h]; exact Nat.le_refl _
 | none => rw [z6p h]; simp [zeg]
theorem zjn {g g' : List Str} {e : D} {r : List D} (h : kbB g (e :: r) = some g') : ∃ q, kbD g e = some q ∧ kbB q r = some g' := by
 rw [kbB] at h
 cases hd : kbD g e with
 | none => rw [hd] at h; cases h
 | some q => rw [hd] at h; exact ⟨q, rfl, h⟩
theorem zsx {α : Type} : ∀ {l : List α} {i : Nat} {x : α}, l[i]? = some x → l.drop i = x :: l.drop (i + 1)
 | [], _, _, h => by simp at h
 | a :: l, 0, x, h => by simp at h; simp [h]
 | a :: l, i + 1, x, h => by
  have : l[i]? = some x := by simpa using h
  simpa using zsx this
def BkI (H : Hp) (ab : Addr) (pv : V) (d fs : Addr) (lo : Option Addr) (g' : List Str) (b : List D) (p : List Int) (out : Out) (i : Nat) (σ : St) (Hc : Hp) : Prop := ∃ (ci : Cnt) (gi : List Str) (rs : List RI) (x4 x5 x6 : Option V), σ = [some (.ref ab), some pv, some (.ref d), some (.ref fs), x4, x5, x6] ∧ Gd d lo H Hc rs ∧ Hc d = some (.dK (kvC ci)) ∧ KeyOk ci ∧ Has ci gi ∧ kbB gi (b.drop i) = some g' ∧ out = zeg rs (evB p i (b.drop i) ci)
end
section
variable {P : Program} {w : World} {K : PySem.W.Frag} {mg : Str → Option Value} {base : Heap} {f : Addr} {fd : FuncData}
theorem zs3 {n : Nat} (F : Fun K "do_set" "do_set" z3p f fd) (c_reckon : Callee P w K mg base "reckon" ["term", "path", "names", "settle"] 7 (z6i 5)) : FnOk P w K mg base CX0 8 f fd ["deed", "path", "names", "settle"] (zkt ["set"] n) := by
 refine F.ok sc_do_set (fun vs H Q E h => ?_) (fun cdv A outer s H vs Q E hr h => ?_)
 ·obtain ⟨v, e, pv, p, d, f, c, g, g', lo, rfl, _⟩ := h
  rfl
 obtain ⟨v, e, pv, p, d, fs, c, g, g', lo, rfl, hk, hv, hp, hok, hn, hpl, hkb, hd, hky, hh, hS, hL, q⟩ := h
 obtain ⟨x, t, rfl⟩ : ∃ x t, e = .set x t := by
  cases e with
  | set x t => exact ⟨x, t, rfl⟩
  | ite t b c => exact absurd (List.mem_singleton.mp hk) (show ¬ ("if" : Str) = "set" by decide +kernel)
  | whl t m b => exact absurd (List.mem_singleton.mp hk) (show ¬ ("while" : Str) = "set" by decide +kernel)
 rw [D.enc] at hv
 obtain ⟨va, x0, x1, xt, rfl, hva, t0, t1, dt⟩ := zqw hv
 cases t0
 cases t1
 rw [kbD] at hkb
 have hkt : t.knows g = true := by
  cases hz : t.knows g with
  | true => rfl
  | false => rw [hz] at hkb; cases hkb
 have hlen := zr7 c x t p
 refine ⟨_, (z05 (z1e (i := 4) sc_do_set.nd rfl zi5 (z1d c_reckon hr (by omega) (z07 (z0v z0e (z00 (i := 0) rfl zal z17 z18) z01 (fun _ _ => rfl)) (z07 (z16 z2b (z00 (i := 1) rfl zgj z21 z22) (z0z (z07 z01 z04))) (z07 (z00 (i := 2) rfl za5 z2x z2y) (z07 (z00 (i := 3) rfl zel z2h z2i) z04)))) zg6 zb2) (z06 rfl))
 (z05 (z2k (z0f (gEq hr.units) (z0v z0e (z00 (i := 4) rfl z7v ze7 zeb) z01 (fun _ _ => rfl)) z0u (z0w _)) (z08 (z0o (z00 (i := 4) rfl z7v ze7 zeb))) z0y)
 (z05 (zrk hr.units1 (z00 (i := 2) rfl za5 z2x z2y) (z0v z0e (z00 (i := 0) rfl zal z17 z18) z01 (fun _ _ => rfl)) (z0v z0e (z00 (i := 4) rfl z7v ze7 zeb) z01 (fun _ _ => rfl)) (z06 rfl))
 (z08 (z0o zdd))))), z0s fun N1 e1 => ?_⟩
 walk_at "rd7"
 refine ⟨_, SqT.of hva, _, z13 (j := 2) rfl, by decide, fun p1 h1 => ?_⟩
 have s1 := z03 h1 (HO.tup [V.int 0])
 refine zp6 (hp.kp s1.kp) zdf (by simp; omega) fun z H1 s2 dz => ?_
 have s12 := s1.trans s2
 refine ⟨xt, t, z, _, d, fs, c, g, lo, rfl, dt.kp s12.kp, dz, zdh hok.2 hkt, by decide, by simp; omega, s12 _ _ hd, hh, hS.kp (Same.kpE s12), by rw [← hlen]; exact hL.same s12, fun r1 H2 g1 dr1 => ?_⟩
 have G1 : Gr lo H H2 (evT c t (p ++ [0])).2 := (Gr.same s12 hL).trans g1
 clear g1 s1 s2 s12
 have hd2 := G1.keep hd (by intro xs z; cases z)
 have hva2 := G1.keep hva (by intro xs z; cases z)
 obtain ⟨b1, rfl, hb1⟩ := zfj dr1
 rcases he1 : evT c t (p ++ [0]) with ⟨r1, w1⟩
 rw [he1] at G1 dr1 hb1
 rw [e1]
 refine z0s fun N2 e2 => ?_
 walk_at "rd7"
 rcases hb1 with ⟨i1, rfl, hb1⟩ | ⟨u, qq, y1, rfl, hb1⟩
 rotate_left
 ·refine ⟨_, SqT.of hb1, _, z1g, _, zke, ?_⟩
  rw [if_pos (decide_eq_true rfl)]
  rw [zc9 he1] at q
  exact q _ _ G1.gd hd2 dr1
 refine ⟨_, SqT.of hb1, _, z1g, _, zke, ?_⟩
 rw [if_neg (by rw [decide_eq_true_eq]; exact z8k)]
 rw [e2]
 walk_at "rd7"
 rw [zca he1] at q
 refine ⟨_, SqT.of hb1, _, z13 (j := 1) rfl, _, SqT.of hva2, _, z13 (j := 1) rfl, _, DPut.k (k := Sum.inr x) hd2 ?_, ?_⟩
 ·unfold kvC
  rw [List.length_map]
  exact Nat.lt_of_le_of_lt hky.len (by decide)
 ·exact q _ _ (Gd.put G1 hd2) (by rw [z02, zw2]) rfl
theorem zv1 {n : Nat} (F : Fun K "do_if" "do_if" z4m f fd) (c_reckon : Callee P w K mg base "reckon" ["term", "path", "names", "settle"] 7 (z6i 5)) (c_do_block : Callee P w K mg base "do_block" ["block", "path", "names", "settle"] (3 * n + 8) (zmw n)) : FnOk P w K mg base CX0 (3 * n + 9) f fd ["deed", "path", "names", "settle"] (zkt ["if"] n) := by
 refine F.ok sc_do_if (fun vs H Q E h => ?_) (fun cdv A outer s H vs Q E hr h => ?_)
 ·obtain ⟨v, e, pv, p, d, f, c, g, g', lo, rfl, _⟩ := h
  rfl
 obtain ⟨v, e, pv, p, d, fs, c, g, g', lo, rfl, hk, hv, hp, hok, hn, hpl, hkb, hd, hky, hh, hS, hL, q⟩ := h
 obtain ⟨t, b, b2, rfl⟩ : ∃ t b b2, e = .ite t b b2 := by
  cases e with
  | set x t => exact absurd (List.mem_singleton.mp hk) (show ¬ ("set" : Str) = "if" by decide +kernel)
  | ite t b c => exact ⟨t, b, c, rfl⟩
  | whl t m b => exact absurd (List.mem_singleton.mp hk) (show ¬ ("while" : Str) = "if" by decide +kernel)
 rw [D.enc] at hv
 obtain ⟨va, x0, xt, xb, xc, rfl, hva, t0, dt, db, dc⟩ := zkm hv
 cases t0
 obtain ⟨hkt, ⟨q1, hq1⟩, q2, hq2⟩ := zli hkb
 have hlen := zy0 c t b b2 p
 refine ⟨_, (z05 (z1e (i := 4) sc_do_if.nd rfl zjl (z1d c_reckon hr (by omega) (z07 (z0v z0e (z00 (i := 0) rfl z7x z17 z18) z01 (fun _ _ => rfl)) (z07 (z16 z2b (z00 (i := 1) rfl z7w z21 z22) (z0z (z07 z01 z04))) (z07 (z00 (i := 2) rfl z72 z2x z2y) (z07 (z00 (i := 3) rfl z6a z2h z2i) z04)))) zhk zb2) (z06 rfl))
 (z05 (z2k (z0f (gEq hr.units) (z0v z0e (z00 (i := 4) rfl z95 ze7 zeb) z01 (fun _ _ => rfl)) z0u (z0w _)) (z08 (z0o (z00 (i := 4) rfl z95 ze7 zeb))) z0y)
 (z05 (z2k (z0f q02 (z0v z0e (z00 (i := 4) rfl z95 ze7 zeb) z01 (fun _ _ => rfl)) z01 (z0w _)) (z08 (z0o (z1d c_do_block hr (by omega) (z07 (z0v z0e (z00 (i := 0) rfl z7x z17 z18) z01 (fun _ _ => rfl)) (z07 (z16 z2b (z00 (i := 1) rfl z7w z21 z22) (z0z (z07 z01 z04))) (z07 (z00 (i := 2) rfl z72 z2x z2y) (z07 (z00 (i := 3) rfl z6a z2h z2i) z04)))) z8y z9u))) z0y)
 (z08 (z0o (z1d c_do_block hr (by omega) (z07 (z0v z0e (z00 (i := 0) rfl z7x z17 z18) z01 (fun _ _ => rfl)) (z07 (z16 z2b (z00 (i := 1) rfl z7w z21 z22) (z0z (z07 z01 z04))) (z07 (z00 (i := 2) rfl z72 z2x z2y) (z07 (z00 (i := 3) rfl z6a z2h z2i) z04)))) z8y z9u)))))), z0s fun N1 e1 => ?_⟩
 walk_at "rd7"
 refine ⟨_, SqT.of hva, _, z13 (j := 1) rfl, by decide, fun p1 h1 => ?_⟩
 have s1 := z03 h1 (HO.tup [V.int 0])
 refine zp6 (hp.kp s1.kp) zdf (by simp; omega) fun z H1 s2 dz => ?_
 have s12 := s1.trans s2
 refine ⟨xt, t, z, _, d, fs, c, g, lo, rfl, dt.kp s12.kp, dz, zdh hok.1 hkt, by decide, by simp; omega, s12 _ _ hd, hh, hS.kp (Same.kpE s12), (hL.same s12).mono (by omega), fun r1 H2 g1 dr1 => ?_⟩
 have G1 : Gr lo H H2 (evT c t (p ++ [0])).2 := (Gr.same s12 hL).trans g1
 clear g1 s1 s2 s12
 have hd2 := G1.keep hd (by intro xs z; cases z)
 have hva2 := G1.keep hva (by intro xs z; cases z)
 have hp2 := hp.kp G1.kp
 have db2 := db.kp G1.kp
 have dc2 := dc.kp G1.kp
 have hS2 := hS.kp G1.kpE
 obtain ⟨b1, rfl, hb1⟩ := zfj dr1
 rcases he1 : evT c t (p ++ [0]) with ⟨r1, w1⟩
 rw [he1] at G1 dr1 hb1
 rw [e1]
 refine z0s fun N2 e2 => ?_
 walk_at "rd7"
 rcases hb1 with ⟨i1, rfl, hb1⟩ | ⟨u, qq, y1, rfl, hb1⟩
 rotate_left
 ·refine ⟨_, SqT.of hb1, _, z1g, _, zke, ?_⟩
  rw [if_pos (decide_eq_true rfl)]
  rw [z9n he1] at q
  exact q _ _ G1.gd hd2 dr1
 refine ⟨_, SqT.of hb1, _, z1g, _, zke, ?_⟩
 rw [if_neg (by rw [decide_eq_true_eq]; exact z8k)]
 rw [e2]
 refine z0s fun N3 e3 => ?_
 walk_at "rd7"
 refine ⟨_, SqT.of hb1, _, z13 (j := 1) rfl, _, rfl, ?_⟩
 by_cases hz : i1 = 0
 ·subst hz
  rw [zdr he1] at q hL
  simp only [if_true, if_false, not_true, ne_eq, not_false_eq_true]
  rw [e3]
  walk_at "rd7"
  refine ⟨_, SqT.of hva2, _, z13 (j := 3) rfl, by decide, fun p2 h2 => ?_⟩
  have s3 := z03 h2 (HO.tup [V.int 2])
  refine zp6 (hp2.kp s3.kp) zdf (by simp; omega) fun z2 H3 s4 dz2 => ?_
  have s34 := s3.trans s4
  have hL2 : HasL lo H2 ((evB (p ++ [2]) 0 b2 c).2.2.length + 1) := hL.on G1 (by show w1.length + _ ≤ _; rw [List.length_append]; omega)
  refine ⟨xc, b2, z2, _, d, fs, c, g, q2, lo, rfl, dc2.kp s34.kp, dz2, hok.2.2, by omega, by simp; omega, hq2, s34 _ _ hd2, hky, hh, hS2.kp (Same.kpE s34), hL2.same s34, fun r2 H4 g2 hd4 ho => ?_⟩
  exact q _ _ (G1.gd.trans (((Gr.same s34 hL2).gd).trans g2 (s34 _ _ hd2)) hd2) hd4 ho
 ·rw [z9m he1 hz] at q hL
  rw [if_pos (decide_eq_false hz)]
  refine ⟨_, SqT.of hva2, _, z13 (j := 2) rfl, by decide, fun p2 h2 => ?_⟩
  have s3 := z03 h2 (HO.tup [V.int 1])
  refine zp6 (hp2.kp s3.kp) zdf (by simp; omega) fun z2 H3 s4 dz2 => ?_
  have s34 := s3.trans s4
  have hL2 : HasL lo H2 ((evB (p ++ [1]) 0 b c).2.2.length + 1) := hL.on G1 (by show w1.length + _ ≤ _; rw [List.length_append]; omega)
  refine ⟨xb, b, z2, _, d, fs, c, g, q1, lo, rfl, db2.kp s34.kp, dz2, hok.2.1, by omega, by simp; omega, hq1, s34 _ _ hd2, hky, hh, hS2.kp (Same.kpE s34), hL2.same s34, fun r2 H4 g2 hd4 ho => ?_⟩
  exact q _ _ (G1.gd.trans (((Gr.same s34 hL2).gd).trans g2 (s34 _ _ hd2)) hd2) hd4 ho
theorem zne {n : Nat} (F : Fun K "do_while" "do_while" z1h f fd) (c_reckon : Callee P w K mg base "reckon" ["term", "path", "names", "settle"] 7 (z6i 5)) (c_do_block : Callee P w K mg base "do_block" ["block", "path", "names", "settle"] (3 * n + 8) (zmw n)) : FnOk P w K mg base CX0 (3 * n + 9) f fd ["deed", "path", "names", "settle"] (zkt ["while"] n) := by
 refine F.ok sc_do_while (fun vs H Q E h => ?_) (fun cdv A outer s H vs Q E hr h => ?_)
 ·obtain ⟨v, e, pv, p, d, f, c, g, g', lo, rfl, _⟩ := h
  rfl
 obtain ⟨v, e, pv, p, d, fs, c, g, g', lo, rfl, hk, hv, hp, hok, hn, hpl, hkb, hd, hky, hh, hS, hL, q⟩ := h
 obtain ⟨t, m, b, rfl⟩ : ∃ t m b, e = .whl t m b := by
  cases e with
  | set x t => exact absurd (List.mem_singleton.mp hk) (show ¬ ("set" : Str) = "while" by decide +kernel)
  | ite t b c => exact absurd (List.mem_singleton.mp hk) (show ¬ ("if" : Str) = "while" by decide +kernel)
  | whl t m b => exact ⟨t, m, b, rfl⟩
 rw [D.enc] at hv
 obtain ⟨va, x0, xt, xm, xb, rfl, hva, t0, dt, dm, db⟩ := zkm hv
 cases t0
 cases dm
 obtain ⟨hkt, rfl, q1, hq1⟩ := zlh hkb
 refine ⟨_, (z05 (z1e (i := 4) sc_do_while.nd rfl z8u z01 (z06 rfl))
 (z08 (zuq PassesOwn.never (zrj zpq)
 (z05 (z1e (i := 5) sc_do_while.nd rfl zg0 (z1d c_reckon hr (by omega) (z07 (z0v z0e (z00 (i := 0) rfl z5m z17 z18) z01 (fun _ _ => rfl)) (z07 (z16 z2b (z00 (i := 1) rfl z5l z21 z22) (z0z (z07 z01 z04))) (z07 (z00 (i := 2) rfl z7k z2x z2y) (z07 (z00 (i := 3) rfl z71 z2h z2i) z04)))) zdz zb2) (z06 rfl))
 (z05 (z2k (z0f (gEq hr.units) (z0v z0e (z00 (i := 5) rfl z69 ze7 zeb) z01 (fun _ _ => rfl)) z0u (z0w _)) (z08 (z0o (z00 (i := 5) rfl z69 ze7 zeb))) z0y)
 (z05 (z2k (z0f zc1 (z0v z0e (z00 (i := 5) rfl z69 ze7 zeb) z01 (fun _ _ => rfl)) z01 (z0w _)) (z08 (z0o zdd)) z0y)
 (z05 (z2k (z0f q2w (z00 (i := 4) rfl z8g zt7 ztn) (z0v z0e (z00 (i := 0) rfl z5m z17 z18) z01 (fun _ _ => rfl)) (z0w _)) (z08 (z0o (z0z (z07 z0u (z07 z0u (z07 (z00 (i := 1) rfl z5l z21 z22) z04)))))) z0y)
 (z05 (z1e (i := 6) sc_do_while.nd rfl zbq (z1d c_do_block hr (by omega) (z07 (z0v z0e (z00 (i := 0) rfl z5m z17 z18) z01 (fun _ _ => rfl)) (z07 (z16 z2b (z00 (i := 1) rfl z5l z21 z22) (z0z (z07 z01 z04))) (z07 (z00 (i := 2) rfl z7k z2x z2y) (z07 (z00 (i := 3) rfl z71 z2h z2i) z04)))) zbw z9u) (z06 rfl))
 (z05 (z2k (z0f zy7 (z00 (i := 6) rfl z6f z6w z6x) zdd (z0w _)) (z08 (z0o (z00 (i := 6) rfl z6f z6w z6x))) z0y)
 (z08 (z1e (i := 4) sc_do_while.nd rfl z8u (z16 z28 (z00 (i := 4) rfl z8g zt7 ztn) z01) (z06 rfl)))))))))))), z0s fun N1 e1 => ?_⟩
 walk_at "rd7"
 rw [e1]
 have hout : evD p (.whl t m b) c = zeg [] (z4i (fun c => evT c t (p ++ [0])) (fun c => evB (p ++ [1]) 0 b c) p m.toNat c) := by rw [evD]; rfl
 generalize evD p (.whl t m b) c = out at hL q hout
 refine ⟨WhI H va pv d fs lo g' t b p m.toNat out, ⟨m.toNat, 0, c, [], none, none, rfl, by omega, (Gr.same (Same.refl H) hL).gd, hd, hky, hh, hout⟩, ?_⟩
 rintro k σ Hc ⟨j, cj, rs, x5, x6, rfl, hjk, gd, hdc, hkc, hhc, ho⟩
 refine ⟨true, rfl, ?_⟩
 show if (true : Bool) = true then _ else _
 rw [if_pos rfl]
 refine ⟨fun σ' H' => ∃ k', k' < k ∧ WhI H va pv d fs lo g' t b p m.toNat out k' σ' H', fun _ _ h => h, z0s fun N2 e2 => ?_⟩
 walk_at "rd7"
 have hvac := gd.keep hd hva (by intro xs z; cases z) (by intro xs z; cases z)
 have kpc := gd.kp hd
 have hSc := hS.kp (gd.kpE hd)
 have hpc := hp.kp kpc
 have dtc := dt.kp kpc
 have dbc := db.kp kpc
 have l1 := zsf (fun c => evT c t (p ++ [0])) (fun c => evB (p ++ [1]) 0 b c) p k cj
 have lo1 : out.2.2.length = rs.length + (z4i (fun c => evT c t (p ++ [0])) (fun c => evB (p ++ [1]) 0 b c) p k cj).2.2.length := by rw [ho, zeg, List.length_append]
 have hLc : HasL lo Hc ((z4i (fun c => evT c t (p ++ [0])) (fun c => evB (p ++ [1]) 0 b c) p k cj).2.2.length + 1) := hL.onD gd (by omega)
 refine ⟨_, SqT.of hvac, _, z13 (j := 1) rfl, by decide, fun p1 h1 => ?_⟩
 have s1 := z03 h1 (HO.tup [V.int 0])
 refine zp6 (hpc.kp s1.kp) zdf (by simp; omega) fun z H1 s2 dz => ?_
 have s12 := s1.trans s2
 refine ⟨xt, t, z, _, d, fs, cj, g', lo, rfl, dtc.kp s12.kp, dz, zdh hok.1 hkt, by decide, by simp; omega, s12 _ _ hdc, hhc, hSc.kp (Same.kpE s12), (hLc.same s12).mono (by omega), fun r1 H2 g1 dr1 => ?_⟩
 have G1 : Gr lo Hc H2 (evT cj t (p ++ [0])).2 := (Gr.same s12 hLc).trans g1
 clear g1 s1 s2 s12
 have hd2 := G1.keep hdc (by intro xs z; cases z)
 have hva2 := G1.keep hvac (by intro xs z; cases z)
 have hp2 := hpc.kp G1.kp
 have db2 := dbc.kp G1.kp
 have hS2 := hSc.kp G1.kpE
 obtain ⟨b1, rfl, hb1⟩ := zfj dr1
 rcases he1 : evT cj t (p ++ [0]) with ⟨r1, w1⟩
 rw [he1] at G1 dr1 hb1
 have GD := gd.trans G1.gd hdc
 have l1w : w1.length ≤ (z4i (fun c => evT c t (p ++ [0])) (fun c => evB (p ++ [1]) 0 b c) p k cj).2.2.length := by
  have z := l1
  simp only [he1] at z
  exact z
 rw [e2]
 refine z0s fun N3 e3 => ?_
 walk_at "rd7"
 rcases hb1 with ⟨i1, rfl, hb1⟩ | ⟨u, qq, y1, rfl, hb1⟩
 rotate_left
 ·refine ⟨_, SqT.of hb1, _, z1g, _, zke, ?_⟩
  rw [if_pos (decide_eq_true rfl)]
  rw [z5b (cond := fun c => evT c t (p ++ [0])) he1] at ho
  subst ho
  exact q _ _ GD hd2 dr1
 refine ⟨_, SqT.of hb1, _, z1g, _, zke, ?_⟩
 rw [if_neg (by rw [decide_eq_true_eq]; exact z8k)]
 rw [e3]
 refine z0s fun N4 e4 => ?_
 walk_at "rd7"
 refine ⟨_, SqT.of hb1, _, z13 (j := 1) rfl, _, rfl, ?_⟩
 by_cases hz : i1 = 0
 ·subst hz
  rw [z4g (cond := fun c => evT c t (p ++ [0])) he1] at ho
  subst ho
  rw [if_pos (by decide)]
  exact q _ _ GD hd2 rfl
 rw [if_neg (by simpa using hz)]
 rw [e4]
 refine z0s fun N5 e5 => ?_
 walk_at "rd7"
 refine ⟨_, SqT.of hva2, _, z13 (j := 2) rfl, _, rfl, ?_⟩
 cases k with
 | zero =>
  rw [z8m (cond := fun c => evT c t (p ++ [0])) he1 hz] at ho
  subst ho
  rw [if_pos (by omega)]
  refine ⟨by decide, fun r hr' => ?_⟩
  have s3 := z03 hr' (HO.tup [V.str "refused", V.str "long", pv])
  refine q _ _ ?_ (s3 _ _ hd2) (.tup z02 (.cons (.str _) (.cons (.str _) (.cons (hp2.kp s3.kp) .nil))))
  have hL2 : HasL lo H2 0 := hLc.on G1 (by show w1.length + _ ≤ _; omega)
  have := GD.trans (Gr.same s3 hL2).gd hd2
  rw [List.append_nil] at this
  exact this
 | succ k =>
  rw [if_neg (by omega)]
  have l2 := zse (cond := fun c => evT c t (p ++ [0])) (body := fun c => evB (p ++ [1]) 0 b c) (p := p) (k := k) he1 hz
  have hL2 : HasL lo H2 ((evB (p ++ [1]) 0 b cj).2.2.length + 1) := hLc.on G1 (by show w1.length + _ ≤ _; omega)
  rw [e5]
  refine z0s fun N6 e6 => ?_
  walk_at "rd7"
  refine ⟨_, SqT.of hva2, _, z13 (j := 3) rfl, by decide, fun p2 h2 => ?_⟩
  have s3 := z03 h2 (HO.tup [V.int 1])
  refine zp6 (hp2.kp s3.kp) zdf (by simp; omega) fun z2 H3 s4 dz2 => ?_
  have s34 := s3.trans s4
  refine ⟨xb, b, z2, _, d, fs, cj, g', q1, lo, rfl, db2.kp s34.kp, dz2, hok.2, by omega, by simp; omega, hq1, s34 _ _ hd2, hkc, hhc, hS2.kp (Same.kpE s34), hL2.same s34, fun r2 H4 g2 hd4 ho4 => ?_⟩
  have GB := GD.trans (((Gr.same s34 hL2).gd).trans g2 (s34 _ _ hd2)) hd2
  have hk4 := zcn b n (p ++ [1]) 0 cj hok.2 hkc
  have hh4 := zhm b (p ++ [1]) 0 cj g' q1 hq1 hhc
  rcases hb : evB (p ++ [1]) 0 b cj with ⟨ee, c4, w4⟩
  rw [hb] at hd4 ho4 GB hk4 hh4
  rw [e6]
  refine z0s fun N7 e7 => ?_
  walk_at "rd7"
  cases ee with
  | some er =>
   rw [z5v (cond := fun c => evT c t (p ++ [0])) (body := fun c => evB (p ++ [1]) 0 b c) he1 hz hb] at ho
   subst ho
   have hne : r2 ≠ .non := by
    obtain ⟨a4, rfl, _⟩ := zfj (r := Rs.ref er.1 er.2) ho4
    intro z
    cases z
   rw [if_pos (decide_eq_false hne)]
   refine q _ _ ?_ hd4 ho4
   show Gd d lo H H4 (rs ++ (w1 ++ w4))
   rw [← List.append_assoc]
   exact GB
  | none =>
   rw [z5w (cond := fun c => evT c t (p ++ [0])) (body := fun c => evB (p ++ [1]) 0 b c) he1 hz hb] at ho
   cases ho4
   rw [if_neg (by simp), e7]
   walk_at "rd7"
   refine ⟨k, by omega, j + 1, c4, rs ++ (w1 ++ w4), _, _, rfl, by omega, ?_, hd4, hk4, (hh4 rfl).sub (zf6 b g' q1 hq1), ?_⟩
   ·rw [← List.append_assoc]
    exact GB
   ·rw [ho]
    simp only [zeg, List.append_assoc]
end
section
variable {P : Program} {w : World} {K : PySem.W.Frag} {mg : Str → Option Value} {base : Heap} {f : Addr} {fd : FuncData}
theorem zpy {n : Nat} (F : Fun K "do_deed" "do_deed" z2t f fd) (c_do_set : Callee P w K mg base "do_set" ["deed", "path", "names", "settle"] 8 (zkt ["set"] n)) (c_do_if : Callee P w K mg base "do_if" ["deed", "path", "names", "settle"] (3 * n + 9) (zkt ["if"] n)) (c_do_while : Callee P w K mg base "do_while" ["deed", "path", "names", "settle"] (3 * n + 9) (zkt ["while"] n)) : FnOk P w K mg base CX0 (3 * n + 10) f fd ["deed", "path", "names", "settle"] (zkt ["set", "if", "while"] n) := by
 refine F.ok zpk (fun vs H Q E h => ?_) (fun cdv A outer s H vs Q E hr h => ?_)
 ·obtain ⟨v, e, pv, p, d, f, c, g, g', lo, rfl, _⟩ := h
  rfl
 obtain ⟨v, e, pv, p, d, fs, c, g, g', lo, rfl, hk, hv, h⟩ := h
 obtain ⟨va, xs, rfl, hva⟩ := zt0 hv
 refine ⟨_, (z05 (z2k (z0f (gEq hr.units) (z0v z0e (z00 (i := 0) rfl z3v z17 z18) z01 (fun _ _ => rfl)) z0u (z0w _)) (z08 (z0o (z1d c_do_set hr (by omega) (z07 (z00 (i := 0) rfl z3v z17 z18) (z07 (z00 (i := 1) rfl z6b z21 z22) (z07 (z00 (i := 2) rfl z5n z2x z2y) (z07 (z00 (i := 3) rfl z56 z2h z2i) z04)))) zf9 zt8))) z0y)
 (z05 (z2k (z0f (gEq hr.units) (z0v z0e (z00 (i := 0) rfl z3v z17 z18) z01 (fun _ _ => rfl)) z0u (z0w _)) (z08 (z0o (z1d c_do_if hr (by omega) (z07 (z00 (i := 0) rfl z3v z17 z18) (z07 (z00 (i := 1) rfl z6b z21 z22) (z07 (z00 (i := 2) rfl z5n z2x z2y) (z07 (z00 (i := 3) rfl z56 z2h z2i) z04)))) zg7 zvn))) z0y)
 (z08 (z0o (z1d c_do_while hr (by omega) (z07 (z00 (i := 0) rfl z3v z17 z18) (z07 (z00 (i := 1) rfl z6b z21 z22) (z07 (z00 (i := 2) rfl z5n z2x z2y) (z07 (z00 (i := 3) rfl z56 z2h z2i) z04)))) zcj znx))))), z0s fun N1 e1 => ?_⟩
 walk_at "rd7"
 refine ⟨_, SqT.of hva, _, z1g, _, zke, ?_⟩
 split
 ·rename_i z
  exact ⟨_, e, pv, p, d, fs, c, g, g', lo, rfl, by rw [of_decide_eq_true z]; simp, hv, h⟩
 rename_i z1
 rw [e1]
 refine z0s fun N2 e2 => ?_
 walk_at "rd7"
 refine ⟨_, SqT.of hva, _, z1g, _, zke, ?_⟩
 split
 ·rename_i z
  exact ⟨_, e, pv, p, d, fs, c, g, g', lo, rfl, by rw [of_decide_eq_true z]; simp, hv, h⟩
 rename_i z2
 rw [e2]
 walk_at "rd7"
 refine ⟨_, e, pv, p, d, fs, c, g, g', lo, rfl, ?_, hv, h⟩
 simp only [List.mem_cons, List.not_mem_nil, or_false] at hk ⊢
 rcases hk with hk | hk | hk
 ·exact absurd (decide_eq_true hk) z1
 ·exact absurd (decide_eq_true hk) z2
 ·exact hk
theorem znf {n : Nat} (F : Fun K "do_block" "do_block" z1i f fd) (b_enumerate : mg "enumerate" = none) (c_do_deed : Callee P w K mg base "do_deed" ["deed", "path", "names", "settle"] (3 * n + 10) (zkt ["set", "if", "while"] n)) : FnOk P w K mg base CX0 (3 * n + 11) f fd ["block", "path", "names", "settle"] (zmw (n + 1)) := by
 refine F.ok sc_do_block (fun vs H Q E h => ?_) (fun cdv A outer s H vs Q E hr h => ?_)
 ·obtain ⟨v, b, pv, p, d, f, c, g, g', lo, rfl, _⟩ := h
  rfl
 obtain ⟨v, b, pv, p, d, fs, c, g, g', lo, rfl, hv, hp, hok, hn, hpl, hkb, hd, hky, hh, hS, hL, q⟩ := h
 obtain ⟨ab, xs, rfl, hab, hda⟩ := hv.tupI
 have hxl : xs.length = b.length := by rw [hda.length, z2l]
 have hout : evB p 0 b c = zeg [] (evB p ((0 : Nat) : Int) (b.drop 0) c) := by rw [List.drop_zero]; rfl
 generalize evB p 0 b c = out at hL q hout
 refine ⟨_, (z05 (zdb PassesOwn.never rfl (zjc zb0 b_enumerate (z07 (z00 (i := 0) rfl zd6 zgf zgg) z04)) (zfl (n := 2) rfl (z2a (z1t (i := 4) sc_do_block.nd rfl zh9) (z2a (z1t (i := 5) sc_do_block.nd rfl zf5) z80)))
 (z05 (z1e (i := 6) sc_do_block.nd rfl zbr (z1d c_do_deed hr (by omega) (z07 (z00 (i := 5) rfl zen z17 z18) (z07 (z16 z2b (z00 (i := 1) rfl zem z21 z22) (z0z (z07 (z00 (i := 4) rfl zgk zyj zyo) z04))) (z07 (z00 (i := 2) rfl zd5 z2x z2y) (z07 (z00 (i := 3) rfl zc8 z2h z2i) z04)))) zck zqc) (z06 rfl))
 (z08 (z2k (z0f zy7 (z00 (i := 6) rfl z6g z6w z6x) zdd (z0w _)) (z08 (z0o (z00 (i := 6) rfl z6g z6w z6x))) z0y))))
 (z08 (z0o zdd))), z0s fun N1 e1 => ?_⟩
 walk_at "rd7"
 refine ⟨⟨_, SqT.of hab⟩, ?_⟩
 refine zlp (xs := xs) (BkI H ab pv d fs lo g' b p out) ?start ?lst ?step ?done
 case start => exact ⟨c, g, [], _, _, _, rfl, (Gr.same (Same.refl H) hL).gd, hd, hky, hh, by rw [List.drop_zero]; exact hkb, hout⟩
 case lst =>
  rintro i σ Hc _ ⟨ci, gi, rs, _, _, _, rfl, gd, _⟩
  exact SqT.of (gd.keep hd hab (by intro xs z; cases z) (by intro xs z; cases z))
 case done =>
  rintro σ Hc ⟨ci, gi, rs, _, _, _, rfl, gd, hdc, hkc, hhc, hkb2, ho⟩
  show N1 _ _
  rw [e1]
  walk_at "rd7"
  rw [hxl, List.drop_length, evB] at ho
  subst ho
  refine q _ _ ?_ hdc rfl
  show Gd d lo H Hc (rs ++ [])
  rw [List.append_nil]
  exact gd
 case step =>
  rintro i x σ Hc Tu hx ⟨ci, gi, rs, _, _, _, rfl, gd, hdc, hkc, hhc, hkb2, ho⟩ hT
  obtain ⟨e, hbi, dx⟩ := zhr hda hx
  have hdo := hok.2 e (List.mem_of_getElem? hbi)
  rw [zsx hbi] at ho hkb2
  obtain ⟨q1, hq1, hkr⟩ := zjn hkb2
  have s2 := z03 hT (HO.tup [V.int i, x])
  walk_at "rd7"
  refine ⟨_, SqT.of z02, rfl, _, _, rfl, _, _, rfl, rfl, by decide, fun p1 h1 => ?_⟩
  have s3 := z03 h1 (HO.tup [V.int i])
  have s23 := s2.trans s3
  have kpc := gd.kp hd
  refine zp6 ((hp.kp kpc).kp s23.kp) zdf (by simp; omega) fun z H1 s4 dz => ?_
  have s24 := s23.trans s4
  have l1 := zyb p i e (b.drop (i + 1)) ci
  have lo1 : out.2.2.length = rs.length + (evB p i (e :: b.drop (i + 1)) ci).2.2.length := by rw [ho, zeg, List.length_append]
  have hLc : HasL lo Hc ((evB p i (e :: b.drop (i + 1)) ci).2.2.length + 1) := hL.onD gd (by omega)
  refine ⟨x, e, z, _, d, fs, ci, gi, q1, lo, rfl, by cases e <;> simp [D.kind], (dx.kp kpc).kp s24.kp, dz, hdo, by omega, by simp; omega, hq1, s24 _ _ hdc, hkc, hhc, (hS.kp (gd.kpE hd)).kp (Same.kpE s24), (hLc.same s24).mono (by omega), fun r2 H4 g2 hd4 ho4 => ?_⟩
  have GB := gd.trans (((Gr.same s24 hLc).gd).trans g2 (s24 _ _ hdc)) hdc
  have hk4 := zss e n (p ++ [(i : Int)]) ci hdo hkc
  have hh4 := zst e (p ++ [(i : Int)]) ci gi q1 hq1 hhc
  rcases hb : evD (p ++ [(i : Int)]) e ci with ⟨ee, c4, w4⟩
  rw [hb] at hd4 ho4 GB hk4 hh4
  cases ee with
  | some er =>
   rw [z6o hb] at ho
   subst ho
   have hne : r2 ≠ .non := by
    obtain ⟨a4, rfl, _⟩ := zfj (r := Rs.ref er.1 er.2) ho4
    intro z
    cases z
   show if decide (r2 = V.non) = false then Q r2 H4 else _
   rw [if_pos (decide_eq_false hne)]
   exact q _ _ GB hd4 ho4
  | none =>
   rw [z6p hb] at ho
   cases ho4
   show if decide (V.non = V.non) = false then Q V.non H4 else _
   rw [if_neg (by simp)]
   refine ⟨c4, q1, rs ++ w4, _, _, _, rfl, GB, hd4, hk4, hh4 rfl, hkr, ?_⟩
   rw [ho]
   simp only [zeg, List.append_assoc]
   rfl
theorem zxo {k : Nat} {n1 n2 n3 n4 : Str} : FnOk P w K mg base CX0 k f fd [n1, n2, n3, n4] (zmw 0) := by
 have no : ∀ vs H Q E, ¬ zmw 0 vs H Q E := fun vs H Q E h => by
  obtain ⟨v, b, pv, p, d, f, c, g, g', lo, _, _, _, h, _⟩ := h
  exact h.elim
 exact ⟨fun vs H Q E h => absurd h (no vs H Q E), fun A outer s H args us vs Q E _ _ _ _ h => absurd h (no vs H Q E)⟩
theorem ztx {f2 f3 f4 f5 : Addr} {fd2 fd3 fd4 fd5 : FuncData} (d : Df K mg "do_block" z1i ["block", "path", "names", "settle"] f fd) (d2 : Df K mg "do_deed" z2t ["deed", "path", "names", "settle"] f2 fd2) (d3 : Df K mg "do_set" z3p ["deed", "path", "names", "settle"] f3 fd3) (d4 : Df K mg "do_if" z4m ["deed", "path", "names", "settle"] f4 fd4) (d5 : Df K mg "do_while" z1h ["deed", "path", "names", "settle"] f5 fd5) (b_enumerate : mg "enumerate" = none) (c_reckon : Callee P w K mg base "reckon" ["term", "path", "names", "settle"] 7 (z6i 5)) : ∀ n : Nat, Callee P w K mg base "do_block" ["block", "path", "names", "settle"] (3 * n + 8) (zmw n)
 | 0 => d.callee zxo
 | n + 1 => d.callee (znf d.F b_enumerate (d2.callee (zpy d2.F (d3.callee (zs3 d3.F c_reckon)) (d4.callee (zv1 d4.F c_reckon (ztx d d2 d3 d4 d5 b_enumerate c_reckon n))) (d5.callee (zne d5.F c_reckon (ztx d d2 d3 d4 d5 b_enumerate c_reckon n))))))
end
section
variable {P : Program} {w : World} {K : PySem.W.Frag} {mg : Str → Option Value} {base : Heap} {f : Addr} {fd : FuncData}
def stB : Cnt → List Rw → List Int → Cnt
 | c, r :: rs, w :: ws => stB (zja c r.1 w) rs ws
 | c, _, _ => c
def Fits : List Rw → List Int → Prop
 | [], [] => True
 | r :: rs, w :: ws => r.2.1 ≤ w ∧ w ≤ r.2.2 ∧ Fits rs ws
 | _, _ => False
theorem Fits.len : ∀ {rows : List Rw} {ws : List Int}, Fits rows ws → rows.length = ws.length
 | [], [], _ => rfl
 | _ :: rs, _ :: ws, h => by rw [List.length_cons, List.length_cons, Fits.len h.2.2]
 | [], _ :: _, h => h.elim
 | _ :: _, [], h => h.elim
theorem Fits.at : ∀ {rows : List Rw} {ws : List Int} {i : Nat} {r : Rw} {w : Int}, Fits rows ws → rows[i]? = some r → ws[i]? = some w → r.2.1 ≤ w ∧ w ≤ r.2.2
 | r :: rs, w :: ws, 0, _, _, h, e1, e2 => by
  simp at e1 e2
  subst e1; subst e2
  exact ⟨h.1, h.2.1⟩
 | r :: rs, w :: ws, i + 1, _, _, h, e1, e2 => Fits.at h.2.2 (by simpa using e1) (by simpa using e2)
 | [], [], _, _, _, _, e1, _ => by simp at e1
 | [], _ :: _, _, _, _, h, _, _ => h.elim
 | _ :: _, [], _, _, _, h, _, _ => h.elim
theorem zoc : ∀ {rows : List Rw} {ws : List Int} {i : Nat} {r : Rw} {w : Int} (c : Cnt), rows[i]? = some r → ws[i]? = some w → stB c (rows.take (i + 1)) (ws.take (i + 1)) = zja (stB c (rows.take i) (ws.take i)) r.1 w
 | r :: rs, w :: ws, 0, _, _, c, e1, e2 => by
  simp at e1 e2
  subst e1; subst e2
  simp [stB]
 | r :: rs, w :: ws, i + 1, _, _, c, e1, e2 => by
  have := zoc (i := i) (zja c r.1 w) (show rs[i]? = some _ by simpa using e1) (show ws[i]? = some _ by simpa using e2)
  simpa [stB] using this
 | [], _, _, _, _, _, e1, _ => by simp at e1
 | _ :: _, [], _, _, _, _, _, e2 => by simp at e2
theorem zj1 : ∀ (rows : List Rw) (ws : List Int) (c : Cnt), (∀ r ∈ rows, r.1 ∈ pool) → KeyOk c → KeyOk (stB c rows ws)
 | [], _, c, _, h => by simpa [stB] using h
 | _ :: _, [], c, _, h => by simpa [stB] using h
 | r :: rs, w :: ws, c, hr, h => by
  rw [stB]
  exact zj1 rs ws _ (fun x hx => hr x (.tail _ hx)) (h.put (hr r (.head _)) w)
theorem zr3 : ∀ (rows : List Rw) (ws : List Int) (c : Cnt) (g : List Str), Fits rows ws → (∀ r ∈ rows, -6 ≤ r.2.1 ∧ r.2.2 ≤ 8) → Has c g → Has (stB c rows ws) (g ++ rows.map (·.1))
 | [], [], c, g, _, _, h => by simpa [stB] using h
 | r :: rs, w :: ws, c, g, hf, hr, h => by
  rw [stB, List.map_cons, show g ++ r.1 :: rs.map (·.1) = (g ++ [r.1]) ++ rs.map (·.1) by simp]
  have h1 := hr r (.head _)
  exact zr3 rs ws _ _ hf.2.2 (fun x hx => hr x (.tail _ hx)) (h.put (by have := hf.1; omega) (by have := hf.2.1; omega))
 | [], _ :: _, _, _, h, _, _ => h.elim
 | _ :: _, [], _, _, h, _, _ => h.elim
theorem zh0 {rows : List Rw} (h : okRows rows) : ∀ r ∈ rows, r.1 ∈ pool := fun r hr => by
 have h1 : r.1 ∈ rows.map (·.1) := List.mem_map.mpr ⟨r, hr, rfl⟩
 rw [h.nm] at h1
 have h2 := List.mem_of_mem_take h1
 simp only [pair, List.mem_cons, List.not_mem_nil, or_false] at h2
 rcases h2 with h2 | h2 <;> rw [h2] <;> decide +kernel
theorem KeyOk.nil : KeyOk [] := ⟨.nil, fun p h => by simp at h⟩
def zr6 : Sp := fun vs H Q _ => ∃ (iv wv : V) (rows : List Rw) (ws : List Int), vs = [iv, wv] ∧ Dt H iv (.tup (rows.map z7m)) ∧ Dt H wv (z2f ws) ∧ okRows rows ∧ Fits rows ws ∧ ∀ (d : Addr) (H' : Hp), Same H H' → H d = none → H' d = some (.dK (kvC (stB [] rows ws))) → Q (.ref d) H'
def FsI (H : Hp) (ia wa d : Addr) (rows : List Rw) (ws : List Int) (i : Nat) (σ : St) (Hc : Hp) : Prop := ∃ (x3 x4 : Option V), σ = [some (.ref ia), some (.ref wa), some (.ref d), x3, x4] ∧ Same H Hc ∧ Hc d = some (.dK (kvC (stB [] (rows.take i) (ws.take i))))
end
section
variable {P : Program} {w : World} {K : PySem.W.Frag} {mg : Str → Option Value} {base : Heap} {f : Addr} {fd : FuncData}
theorem zvb {H : Hp} {v : V} {d : Dm} (h : Dt H v d) : ∃ t, TyOf K H v t ∧ PySem.W.kitOne K t (.type "int") = some (isI d) := ⟨_, q2g h, by cases d <;> rfl⟩
theorem zlm {H : Hp} {v : V} {d : Dm} (h : Dt H v d) : ∃ t, TyOf K H v t ∧ PySem.W.kitOne K t (.type "bool") = some (isB d) := ⟨_, q2g h, by cases d <;> rfl⟩
def zno : Dm → Bool
 | .int _ => true
 | _ => false
def zwc (d : Dm) (lo hi : Int) : Bool := match d with
 | .int i => decide (lo ≤ i) && decide (i ≤ hi)
 | _ => false
def q0r (d : Dm) (n : Int) : Bool := match d with
 | .tup ds => decide ((ds.length : Int) = n)
 | _ => false
def q3e (g : Dm → Bool) : Sp := fun vs H Q _ => ∃ v d, vs = [v] ∧ Dt H v d ∧ ∀ H', Same H H' → Q (.bl (g d)) H'
theorem znd (F : Fun K "is_whole" "is_whole" z3e f fd) (b_isinstance : mg "isinstance" = none) (b_int : mg "int" = none) (b_bool : mg "bool" = none) : FnOk P w K mg base CX0 1 f fd ["thing"] (q3e zno) := by
 refine F.ok zn0 (fun vs H Q E h => ?_) (fun cdv A outer s H vs Q E hr h => ?_)
 ·obtain ⟨v, d, rfl, _⟩ := h
  rfl
 obtain ⟨v, d, rfl, hd, q⟩ := h
 refine ⟨_, (z08 (z0o (zol (zcb zy8 z5i b_isinstance za2 (z07 (z00 (i := 0) rfl z7j z9s z9z) (z07 (zn6 (v := V.ty "int") zhj b_int q1i rfl q0f q19) z04)) z9d z9t) (zrq (zzy (zcb zy8 z5i b_isinstance za2 (z07 (z00 (i := 0) rfl z7j z9s z9z) (z07 (zn6 (v := V.ty "bool") zg5 b_bool zyr rfl zxr zyi) z04)) z9d z9t)))))), ?_⟩
 walk_at "rd"
 refine ⟨_, _, ⟨rfl, rfl⟩, _, zvb hd, ?_⟩
 have q' := q H (Same.refl _)
 cases d with
 | int i => exact ⟨_, _, ⟨rfl, rfl⟩, _, zlm hd, q'⟩
 | bl b => exact ⟨_, _, ⟨rfl, rfl⟩, _, zlm hd, q'⟩
 | non => exact q'
 | str x => exact q'
 | tup ds => exact q'
 | lst => exact q'
def zvy : Sp := fun vs H Q _ => ∃ v d lo hi, vs = [v, .int lo, .int hi] ∧ Dt H v d ∧ ∀ H', Same H H' → Q (.bl (zwc d lo hi)) H'
theorem zfx (F : Fun K "is_whole_from" "is_whole_from" z1j f fd) (c_is_whole : Callee P w K mg base "is_whole" ["thing"] 1 (q3e zno)) : FnOk P w K mg base CX0 2 f fd ["thing", "low", "high"] zvy := by
 refine F.ok zfw (fun vs H Q E h => ?_) (fun cdv A outer s H vs Q E hr h => ?_)
 ·obtain ⟨v, d, lo, hi, rfl, _⟩ := h
  rfl
 obtain ⟨v, d, lo, hi, rfl, hd, q⟩ := h
 refine ⟨_, (z08 (z0o (zol (z1d c_is_whole hr (by omega) (z07 (z00 (i := 0) rfl z3m z9s z9z) z04) z8a znw) (zol (zje q04 (z00 (i := 1) rfl zak q18 q1d) (z00 (i := 0) rfl z3m z9s z9z) (z0w _)) (zrq (zje q04 (z00 (i := 0) rfl z3m z9s z9z) (z00 (i := 2) rfl zab zyg zyn) (z0w _))))))), ?_⟩
 walk_at "rd"
 refine ⟨v, d, rfl, hd, fun H1 s1 => ?_⟩
 have q' := q H1 s1
 cases hd with
 | int i =>
  walk_at "rd"
  simp only [zno, if_true]
  replace q' : Q (.bl (decide (lo ≤ i) && decide (i ≤ hi))) H1 := q'
  split
  ·rename_i hlo
   rw [decide_eq_true hlo, Bool.true_and] at q'
   exact q'
  ·rename_i hlo
   rw [decide_eq_false hlo, Bool.false_and] at q'
   exact q'
 | _ => exact ⟨_, rfl, q'⟩
def zr4 : Sp := fun vs H Q _ => ∃ v d n, vs = [v, .int n] ∧ Dt H v d ∧ ∀ H', Same H H' → Q (.bl (q0r d n)) H'
theorem zi3 (F : Fun K "is_tuple_of" "is_tuple_of" z1s f fd) (b_isinstance : mg "isinstance" = none) (b_len : mg "len" = none) (b_tuple : mg "tuple" = none) : FnOk P w K mg base CX0 1 f fd ["thing", "many"] zr4 := by
 refine F.ok zi2 (fun vs H Q E h => ?_) (fun cdv A outer s H vs Q E hr h => ?_)
 ·obtain ⟨v, d, n, rfl, _⟩ := h
  rfl
 obtain ⟨v, d, n, rfl, hd, q⟩ := h
 refine ⟨_, (z08 (z0o (zol (zcb zy8 z8b b_isinstance za2 (z07 (z00 (i := 0) rfl z5s z9s z9z) (z07 (zn6 (v := V.ty "tuple") zbv b_tuple zee rfl zdj ze5) z04)) z9d z9t) (zrq (zje zc1 (zcb zve zdy b_len zef (z07 (z00 (i := 0) rfl z5s z9s z9z) z04) zdk ze6) (z00 (i := 1) rfl zbk zyf zym) (z0w _)))))), ?_⟩
 walk_at "rd"
 refine ⟨_, _, ⟨rfl, rfl⟩, _, zq7 hd, ?_⟩
 have q' := q H (Same.refl _)
 cases hd with
 | tup e r =>
  refine ⟨_, q45 (SqT.of e), ?_⟩
  rw [r.length]
  exact q'
 | _ => exact q'
theorem zf0 (F : Fun K "names_at_first" "names_at_first" z0g f fd) (b_len : mg "len" = none) (b_zip : mg "zip" = none) (c_is_tuple_of : Callee P w K mg base "is_tuple_of" ["thing", "many"] 1 zr4) (c_is_whole_from : Callee P w K mg base "is_whole_from" ["thing", "low", "high"] 2 zvy) : FnOk P w K mg base CX0 3 f fd ["ins", "worths"] zr6 := by
 refine F.ok sc_names_at_first (fun vs H Q E h => ?_) (fun cdv A outer s H vs Q E hr h => ?_)
 ·obtain ⟨iv, wv, rows, ws, rfl, _⟩ := h
  rfl
 obtain ⟨iv, wv, rows, ws, rfl, hi, hw, hrow, hfit, q⟩ := h
 obtain ⟨ia, is, rfl, hia, dia⟩ := hi.tupI
 obtain ⟨wa, us, rfl, hwa, dwa⟩ := hw.tupI
 have lis : is.length = rows.length := by rw [dia.length, List.length_map]
 have lus : us.length = ws.length := by rw [dwa.length, List.length_map]
 have hlen := hfit.len
 refine ⟨_, (z05 (z2k (zw3 (zrj (z1d c_is_tuple_of hr (by omega) (z07 (z00 (i := 1) rfl z4n zb1 zb7) (z07 (zcb zve zax b_len zef (z07 (z00 (i := 0) rfl z5f zwj zwl) z04) zdk ze6) z04)) z6d zia))) (z08 zoj) z0y)
 (z05 (z1e (i := 2) sc_names_at_first.nd rfl z8o zuu (z06 rfl))
 (z05 (zdb PassesOwn.never rfl (zxa zaw b_zip (z07 (z00 (i := 0) rfl z5f zwj zwl) (z07 (z00 (i := 1) rfl z4n zb1 zb7) z04))) (zfl (n := 2) rfl (z2a (z1t (i := 3) sc_names_at_first.nd rfl zac) (z2a (z1t (i := 4) sc_names_at_first.nd rfl z8n) z80)))
 (z05 (z2k (zw3 (zrj (z1d c_is_whole_from hr (by omega) (z07 (z00 (i := 4) rfl z4y z6q z6t) (z07 (z0v z0e (z00 (i := 3) rfl z42 zt6 ztm) z01 (fun _ _ => rfl)) (z07 (z0v z0e (z00 (i := 3) rfl z42 zt6 ztm) z01 (fun _ _ => rfl)) z04))) z5p zg8))) (z08 zoj) z0y)
 (z08 (zrk hr.units1 (z00 (i := 2) rfl z4z z2x z2y) (z0v z0e (z00 (i := 3) rfl z42 zt6 ztm) z01 (fun _ _ => rfl)) (z00 (i := 4) rfl z4y z6q z6t) (z06 rfl)))))
 (z08 (z0o (z00 (i := 2) rfl z4z z2x z2y)))))), z0s fun N1 e1 => ?_⟩
 walk_at "rd7"
 refine ⟨_, .inl ⟨ia, is, rfl, .inr (SqT.of hia), rfl⟩, ?_⟩
 refine ⟨_, _, _, rfl, hw, fun H1 s1 => ⟨_, rfl, ?_⟩⟩
 have hy : q0r (z2f ws) (is.length : Int) = true := by
  show decide _ = true
  rw [decide_eq_true_eq, List.length_map, lis, hlen]
 rw [if_neg (by rw [hy]; decide)]
 rw [e1]
 refine z0s fun N2 e2 => ?_
 walk_at "rd7"
 intro d hdn
 have s2 := z03 hdn (HO.dK [])
 have s12 := s1.trans s2
 have hdf : H d = none := s1.free hdn
 rw [e2]
 refine z0s fun N3 e3 => ?_
 walk_at "rd7"
 refine ⟨_, _, ⟨rfl, rfl⟩, ⟨_, SqT.of (s12 _ _ hia)⟩, ⟨_, SqT.of (s12 _ _ hwa)⟩, ?_⟩
 refine zvf (xs := is) (ys := us) (by omega) (FsI H ia wa d rows ws) ?start ?lst ?step ?done
 case start => exact ⟨_, _, rfl, s12, z02⟩
 case lst =>
  rintro i σ Hc _ ⟨_, _, rfl, sc, _⟩
  exact ⟨SqT.of (sc _ _ hia), SqT.of (sc _ _ hwa)⟩
 case done =>
  rintro σ Hc ⟨_, _, rfl, sc, hc⟩
  show N3 _ _
  rw [e3]
  walk_at "rd7"
  rw [lis, List.take_length, hlen, List.take_length] at hc
  exact q d Hc sc hdf hc
 case step =>
  rintro i x y σ Hc T hx hy ⟨_, _, rfl, sc, hc⟩ hT
  obtain ⟨r, hri, dr⟩ := zc2 dia hx
  obtain ⟨wd, hwi, dw⟩ := zc2 dwa hy
  cases dw
  obtain ⟨ra, r0, r1, r2, rfl, hra, t0, t1, t2⟩ := zqw dr
  cases t0; cases t1; cases t2
  have s3 := z03 hT (HO.tup [V.ref ra, V.int wd])
  have hra3 := s3 _ _ (sc _ _ hra)
  have hf := hfit.at hri hwi
  have hk := zj1 (rows.take i) (ws.take i) [] (fun r hr => zh0 hrow r (List.mem_of_mem_take hr)) KeyOk.nil
  walk_at "rd7"
  refine ⟨_, SqT.of z02, rfl, _, _, rfl, _, _, rfl, rfl, _, rfl, _, SqT.of hra3, _, z13 (j := 1) rfl, _, rfl, _, SqT.of hra3, _, z13 (j := 2) rfl, ?_⟩
  refine ⟨_, _, _, _, rfl, .int wd, fun H2 s4 => ⟨_, rfl, ?_⟩⟩
  have hy : zwc (.int wd) r.2.1 r.2.2 = true := by
   show (decide (r.2.1 ≤ wd) && decide (wd ≤ r.2.2)) = true
   simp [hf.1, hf.2]
  rw [if_neg (by rw [hy]; decide)]
  have hc4 := s4 _ _ (s3 _ _ hc)
  refine ⟨_, rfl, _, SqT.of (s4 _ _ hra3), _, z1g, _, DPut.k (k := Sum.inr r.1) hc4 ?_, ?_⟩
  ·unfold kvC
   rw [List.length_map]
   exact Nat.lt_of_le_of_lt hk.len (by decide)
  ·refine ⟨_, _, rfl, z7l (sc.trans (s3.trans s4)) hdf, ?_⟩
   rw [z02, zw2, zoc [] hri hwi]
end
section
variable {P : Program} {w : World} {K : PySem.W.Frag} {mg : Str → Option Value} {base : Heap} {f : Addr} {fd : FuncData}
def z74 (x : Str) : Nat := if x = "a" then 0 else if x = "b" then 1 else if x = "c" then 2 else 3
theorem zrd : (pool.all fun x => pool.all fun y => (decide (x.cps.toList < y.cps.toList) == decide (z74 x < z74 y)) && (!(decide (z74 x = z74 y)) || decide (x = y))) = true := by decide +kernel
theorem zul {x y : Str} (hx : x ∈ pool) (hy : y ∈ pool) : decide (x.cps.toList < y.cps.toList) = decide (z74 x < z74 y) ∧ (z74 x = z74 y → x = y) := by
 have h := zrd
 rw [List.all_eq_true] at h
 have h1 := h x hx
 rw [List.all_eq_true] at h1
 have h2 := h1 y hy
 rw [Bool.and_eq_true, Bool.or_eq_true] at h2
 refine ⟨beq_iff_eq.mp h2.1, fun e => ?_⟩
 rcases h2.2 with z | z
 ·rw [decide_eq_true e] at z; cases z
 ·exact of_decide_eq_true z
def q29 (o : Out) (H' : Hp) (r : V) : Prop := match o.1 with
 | some e => Dt H' r (Rs.ref e.1 e.2).enc
 | none => ∃ ms : Cnt, ms.Perm o.2.1 ∧ ms.Pairwise (fun p q => z74 p.1 < z74 q.1) ∧ Dt H' r (.tup [.str "told", .tup (ms.map zxd)])
abbrev evP (rows : List Rw) (b : List D) (ws : List Int) : Out := evB [] 0 b (stB [] rows ws)
def zgw : Sp := fun vs H Q _ => ∃ (gv wv : V) (rows : List Rw) (b : List D) (ws : List Int) (f : Addr) (g' : List Str) (lo : Option Addr), vs = [gv, wv, .ref f] ∧ Dt H gv (.tup [.tup (rows.map z7m), .tup (z3u b)]) ∧ Dt H wv (z2f ws) ∧ okRows rows ∧ Fits rows ws ∧ okW 4 b ∧ kbB (rows.map (·.1)) b = some g' ∧ SetOk f lo H ∧ HasL lo H ((evP rows b ws).2.2.length + 1) ∧
 ∀ (r : V) (H' : Hp), Gr lo H H' (evP rows b ws).2.2 → q29 (evP rows b ws) H' r → Q r H'
theorem Gd.gr {d : Addr} {lo : Option Addr} {H H1 H' : Hp} {rs : List RI} (h : Gd d lo H1 H' rs) (s : Same H H1) (hd : H d = none) (hl : ∀ l, lo = some l → ∃ xs, H l = some (.lst xs)) : Gr lo H H' rs := by
 refine ⟨fun a o n e => h.1 a o (z12 e hd) n (s _ _ e), fun l e => ?_⟩
 obtain ⟨xs, hx⟩ := hl l e
 obtain ⟨xs', ys, e1, e2, d2⟩ := h.2 l e
 rw [s _ _ hx] at e1
 cases e1
 exact ⟨xs, ys, hx, e2, d2⟩
theorem HasL.has {lo : Option Addr} {H : Hp} {n : Nat} (h : HasL lo H n) : ∀ l, lo = some l → ∃ xs, H l = some (.lst xs) := fun l e => by
 obtain ⟨xs, hx, _⟩ := h l e
 exact ⟨xs, hx⟩
end
section
variable {P : Program} {w : World} {K : PySem.W.Frag} {mg : Str → Option Value} {base : Heap} {f : Addr} {fd : FuncData}
theorem zs0 (F : Fun K "run_by" "run_by" z2u f fd) (b_sorted : mg "sorted" = none) (b_tuple : mg "tuple" = none) (c_names_at_first : Callee P w K mg base "names_at_first" ["ins", "worths"] 3 zr6) (c_do_block : Callee P w K mg base "do_block" ["block", "path", "names", "settle"] 20 (zmw 4)) : FnOk P w K mg base CX0 21 f fd ["program", "worths", "settle"] zgw := by
 refine F.ok sc_run_by (fun vs H Q E h => ?_) (fun cdv A outer s H vs Q E hr h => ?_)
 ·obtain ⟨gv, wv, rows, b, ws, f, g', lo, rfl, _⟩ := h
  rfl
 obtain ⟨gv, wv, rows, b, ws, fs, g', lo, rfl, hg, hw, hrow, hfit, hok, hkb, hS, hL, q⟩ := h
 obtain ⟨ga, iv, bv, rfl, hga, di, db⟩ := zo7 hg
 refine ⟨_, (z05 (z1e (i := 3) sc_run_by.nd rfl zfy (z1d c_names_at_first hr (by omega) (z07 (z0v z0e (z00 (i := 0) rfl z7i z40 z41) z01 (fun _ _ => rfl)) (z07 (z00 (i := 1) rfl zej zb1 zb7) z04)) z8w zfd) (z06 rfl))
 (z05 (z1e (i := 4) sc_run_by.nd rfl zdm (z1d c_do_block hr (by omega) (z07 (z0v z0e (z00 (i := 0) rfl z7i z40 z41) z01 (fun _ _ => rfl)) (z07 (z0z z04) (z07 (z00 (i := 3) rfl za4 z2x z2y) (z07 (z00 (i := 2) rfl zek z2h z2i) z04)))) zds z9u) (z06 rfl))
 (z05 (z2k (z0f zy7 (z00 (i := 4) rfl z7h z6w z6x) zdd (z0w _)) (z08 (z0o (z00 (i := 4) rfl z7h z6w z6x))) z0y)
 (z08 (z0o (z0z (z07 z0u (z07 (zrt z6v zhh b_tuple zee (z07 (zcb (zgb rfl) zg2 b_sorted ztr (z07 (zut (z00 (i := 3) rfl za4 z2x z2y)) z04) zs9 zt5) z04) zdj ze5) z04)))))))), z0s fun N1 e1 => ?_⟩
 walk_at "rd7"
 refine ⟨_, SqT.of hga, _, z1g, iv, wv, rows, ws, rfl, di, hw, hrow, hfit, fun d H1 s1 hdn hd => ?_⟩
 rw [e1]
 refine z0s fun N2 e2 => ?_
 walk_at "rd7"
 refine ⟨_, SqT.of (s1 _ _ hga), _, z13 (j := 1) rfl, Nat.zero_le _, fun p0 hp0 => ?_⟩
 have s2 := z03 hp0 (HO.tup [])
 have s12 := s1.trans s2
 have hky := zj1 rows ws [] (zh0 hrow) KeyOk.nil
 have hh := zr3 rows ws [] [] hfit (fun r hr => ⟨(hrow.lo r hr).1, (hrow.lo r hr).2.2⟩) (fun x hx => by simp at hx)
 rw [List.nil_append] at hh
 refine ⟨bv, b, .ref p0, [], d, fs, stB [] rows ws, _, g', lo, rfl, db.kp s12.kp, .tup z02 .nil, hok, by decide, by decide, hkb, s2 _ _ hd, hky, hh, hS.kp (Same.kpE s12), hL.same s12, fun r H3 gd hd3 ho => ?_⟩
 have G : Gr lo H H3 (evP rows b ws).2.2 := gd.gr s12 hdn hL.has
 have hk3 := zcn b 4 [] 0 _ hok hky
 rw [e2]
 refine z0s fun N3 e3 => ?_
 walk_at "rd7"
 change q2v (evP rows b ws).1 H3 r at ho
 change H3 d = some (.dK (kvC (evP rows b ws).2.1)) at hd3
 change KeyOk (evP rows b ws).2.1 at hk3
 rcases hout : evP rows b ws with ⟨oo, cc, rr⟩
 rw [hout] at ho hd3 hk3 G q
 cases oo with
 | some er =>
  have hne : r ≠ .non := by
   obtain ⟨a4, rfl, _⟩ := zfj (r := Rs.ref er.1 er.2) ho
   intro z
   cases z
  rw [if_pos (decide_eq_false hne)]
  exact q _ _ G ho
 | none =>
  cases ho
  rw [if_neg (by simp), e3]
  walk_at "rd7"
  refine ⟨_, hd3, fun p hp => ?_⟩
  have s6 := z03 hp (zlk p d)
  refine ⟨p, d, cc, z74, rfl, z02, s6 _ _ hd3, Nat.lt_of_le_of_lt hk3.len (by decide), fun x hx y hy => zul (hk3.2 x hx) (hk3.2 y hy), fun l7 H7 wt mt s7 f7 h7 d7 pm7 pw7 => ?_⟩
  refine ⟨_, rfl, _, .inl ⟨SqL.of h7, fun l8 h8 => ⟨by decide, fun p9 h9 => ?_⟩⟩⟩
  have s8 := z03 h8 (HO.tup wt)
  have s9 := z03 h9 (HO.tup [V.str "told", V.ref l8])
  have s69 := s6.trans (s7.trans (s8.trans s9))
  have hL3 : HasL lo H3 0 := by
   have := hL.on G (m := 0) (by rw [hout]; show rr.length + 0 ≤ rr.length + 1; omega)
   exact this
  have GG := G.trans (Gr.same s69 hL3)
  rw [List.append_nil] at GG
  exact q _ _ GG ⟨mt, pm7, pw7, .tup z02 (.cons (.str _) (.cons (.tup (s9 _ _ z02) (d7.kp (s8.trans s9).kp)) .nil))⟩
end
section
variable {P : Program} {w : World} {K : PySem.W.Frag} {mg : Str → Option Value} {base : Heap} {f : Addr} {fd : FuncData}
structure FunC (K : PySem.W.Frag) (x qual : Str) (st : Stmt) (f : Addr) (fd : FuncData) (c : Addr) : Prop where
 ex : ∃ (oc : Value) (od : Option Addr) (kV doc pm : Value) (an : Option Addr) (ct : Value) (osl : Array (Option Value)),
  fd = PySem.W.fnOf x qual (defArgs st) (defBody st) (defScope st) .none kV doc pm an (.ref c) ct ∧ K.lookup f = some ⟨oc, od, .func fd, osl⟩ ∧ PySem.W.codeIn K (.ref c) qual = true
 kp : PySem.W.keepIn K (.ref f) = true
theorem FunC.ok {P : Program} {w : World} {K : PySem.W.Frag} {mg : Str → Option Value} {base : Heap} {x qual : Str} {st : Stmt} {f c : Addr} {fd : FuncData} {N ps : List Str} {k : Nat} {sp : Sp} (F : FunC K x qual st f fd c) (S : FnScope N ps (defScope st)) (len : ∀ vs H Q E, sp vs H Q E → vs.length = ps.length)
  (hbody : ∀ (A : Around) (outer : List PySem.Env) (s : Shared) (H : Hp) (vs : List V) (Q : VK) (E : XK), Room k (A.deeper (PyProof.Rows.envOfC qual (defScope st) s.heap.objs.size f (.ref c))) → sp vs H Q E →
   ∃ t, PSs (zkf CX0 P w K mg base N qual (defScope st) f (.ref c) A outer s H E).nox (defBody st) t ∧ t { nx := fun _ H' => Q .non H', rt := Q } (L2.start N vs) H) : FnOk P w K mg base CX0 (k + 1) f fd ps sp := by
 obtain ⟨oc, od, kV, doc, pm, an, ct, osl, rfl, lk, hcd⟩ := F.ex
 refine q0x lk hcd S len fun A outer s H vs Q E hr hsp => ?_
 obtain ⟨t, h, q⟩ := hbody A outer s H vs Q E hr hsp
 exact ⟨t, h.nox, q⟩
def TabAt (pt : Addr) (pos : Pos) (q : Str) (H : Hp) : Prop := H pt = some (.tbl #[]) ∨ ∃ c', H pt = some (.tbl (#[] ++ #[rawInt pos.line, rawInt pos.col, .ref c'])) ∧ H c' = some (zg9 c' q)
theorem SameB.kpT {pt : Addr} {ps : Array Value} {H H' : Hp} (h : SameB pt H H') (hp : H pt = some (.tbl ps)) : Kp H H' :=
 ⟨fun b xs e => h b _ (zh5 e hp (by intro z; cases z)) e, fun b xs e => ⟨xs, h b _ (zh5 e hp (by intro z; cases z)) e⟩⟩
abbrev q27 : Pos := zwa (q2b zew)
abbrev zzw : Pos := zwa (q2b z32)
def zzk (pt : Addr) : Sp := fun vs H Q _ => ∃ (gv wv : V) (rows : List Rw) (b : List D) (ws : List Int) (g' : List Str), vs = [gv, wv] ∧ Dt H gv (.tup [.tup (rows.map z7m), .tup (z3u b)]) ∧ Dt H wv (z2f ws) ∧ okRows rows ∧ Fits rows ws ∧ okW 4 b ∧ kbB (rows.map (·.1)) b = some g' ∧ TabAt pt q27 dR.qual H ∧
 ∀ (r : V) (H' : Hp), SameB pt H H' → TabAt pt q27 dR.qual H' → q29 (evP rows b ws) H' r → Q r H'
def zof (pt : Addr) : Sp := fun vs H Q _ => ∃ (gv wv : V) (rows : List Rw) (b : List D) (ws : List Int) (g' : List Str), vs = [gv, wv] ∧ Dt H gv (.tup [.tup (rows.map z7m), .tup (z3u b)]) ∧ Dt H wv (z2f ws) ∧ okRows rows ∧ Fits rows ws ∧ okW 4 b ∧ kbB (rows.map (·.1)) b = some g' ∧ (evP rows b ws).2.2.length + 1 < sizeLine ∧ TabAt pt zzw dT.qual H ∧
 ∀ (l : Addr) (ys : List V) (H' : Hp), SameB pt H H' → H l = none → TabAt pt zzw dT.qual H' → H' l = some (.lst ys) → DtA H' ys ((evP rows b ws).2.2.map zz4) → Q (.ref l) H'
theorem zna (pos : Pos) (c' : Addr) : TriplesOk (#[] ++ #[rawInt pos.line, rawInt pos.col, Value.ref c']).toList := by simp [TriplesOk, rawInt]
theorem zrx (pos : Pos) (c' : Addr) : codeAmong pos (#[] ++ #[rawInt pos.line, rawInt pos.col, Value.ref c']).toList = some (.ref c') := by simp [codeAmong, rawInt]
theorem zov {pt : Addr} {pos : Pos} {D : LamD} {cl : List (Str × Addr)} {σ : St} {H : Hp} {Q : VK} (hT : TabAt pt pos D.qual H) (q : ∀ (fa c' : Addr) (H2 : Hp), SameB pt H H2 → Kp H H2 → H fa = none → H2 fa = some (zqk D cl fa c') → H2 c' = some (zg9 c' D.qual) → TabAt pt pos D.qual H2 → Q (.ref fa) H2) : q1x pt pos D cl σ H Q := by
 rcases hT with hT | ⟨c', hT, hc'⟩
 ·refine ⟨#[], hT, trivial, .inl ⟨rfl, fun c' fa h1 h2 hne => ?_⟩⟩
  have n1 : pt ≠ c' := z12 hT h1
  have n2 : pt ≠ fa := z12 hT h2
  have sB : SameB pt H (upd (upd (upd H pt (.tbl (#[] ++ #[rawInt pos.line, rawInt pos.col, .ref c']))) c' (zg9 c' D.qual)) fa (zqk D cl fa c')) := fun a o n e => by rw [z0q (z12 e h2), z0q (z12 e h1), z0q n]; exact e
  exact q fa c' _ sB (sB.kpT hT) h2 z02 (by rw [z0q hne, z02]) (.inr ⟨c', by rw [z0q n2, z0q n1, z02], by rw [z0q hne, z02]⟩)
 ·refine ⟨_, hT, zna pos c', .inr ⟨c', zrx pos c', hc', fun fa h1 => ?_⟩⟩
  have s1 := z03 h1 (zqk D cl fa c')
  exact q fa c' _ (SameB.of s1) s1.kp h1 z02 (s1 _ _ hc') (.inr ⟨c', s1 _ _ hT, s1 _ _ hc'⟩)
theorem TabAt.kp {pt : Addr} {pos : Pos} {q : Str} {H H' : Hp} (h : TabAt pt pos q H) (k : ∀ a o, (∀ xs, o ≠ .lst xs) → H a = some o → H' a = some o) : TabAt pt pos q H' := by
 rcases h with h | ⟨c', h1, h2⟩
 ·exact .inl (k _ _ (by intro xs z; cases z) h)
 ·exact .inr ⟨c', k _ _ (by intro xs z; cases z) h1, k _ _ (by intro xs z; cases z) h2⟩
end
section
variable {P : Program} {w : World} {K : PySem.W.Frag} {mg : Str → Option Value} {base : Heap} {f : Addr} {fd : FuncData}
theorem q0a {c pt : Addr} (F : FunC K "run" "run" zew f fd c) (hC : PySem.W.CodeHd base c pt) (hB : base.BuiltinsAt mg pt) (hgP : mainGlobals ≠ pt) (c_run_by : Callee P w K mg base "run_by" ["program", "worths", "settle"] 21 zgw) : FnOk P w K mg base CX0 22 f fd ["program", "worths"] (zzk pt) := by
 refine F.ok zzm (fun vs H Q E h => ?_) (fun A outer s H vs Q E hr h => ?_)
 ·obtain ⟨gv, wv, rows, b, ws, g', rfl, _⟩ := h
  rfl
 obtain ⟨gv, wv, rows, b, ws, g', rfl, hg, hw, hrow, hfit, hok, hkb, hT, q⟩ := h
 refine ⟨_, (z08 (z0o (z1d c_run_by hr (by omega) (z07 (z00 (i := 0) rfl zgi z40 z41) (z07 (z00 (i := 1) rfl zi1 zb1 zb7) (z07 (zw6 (c := c) (P := pt) rfl rfl rfl hC hB hgP) z04))) zjs zm0))), ?_⟩
 walk_at "rd7"
 show q1x pt q27 dR [] [some gv, some wv] H fun x H1 => zgw [gv, wv, x] H1 Q E0
 refine zov hT fun fa c' H2 sB kp hfa hf hc hT2 => ?_
 refine ⟨gv, wv, rows, b, ws, fa, g', none, rfl, hg.kp kp, hw.kp kp, hrow, hfit, hok, hkb, ⟨c', hf, hc⟩, fun l z => (by cases z), fun r H' G ho => q r H' (fun a o n e => G.1 a o (by simp) (sB a o n e)) (hT2.kp fun a o _ e => G.1 a o (by simp) e) ho⟩
theorem zrz {c pt : Addr} (F : FunC K "traced" "traced" z32 f fd c) (hC : PySem.W.CodeHd base c pt) (hB : base.BuiltinsAt mg pt) (hgP : mainGlobals ≠ pt) (c_run_by : Callee P w K mg base "run_by" ["program", "worths", "settle"] 21 zgw) : FnOk P w K mg base CX0 22 f fd ["program", "worths"] (zof pt) := by
 refine F.ok sc_traced (fun vs H Q E h => ?_) (fun A outer s H vs Q E hr h => ?_)
 ·obtain ⟨gv, wv, rows, b, ws, g', rfl, _⟩ := h
  rfl
 obtain ⟨gv, wv, rows, b, ws, g', rfl, hg, hw, hrow, hfit, hok, hkb, hz, hT, q⟩ := h
 have hcl_rows : (zkf CX0 P w K mg base ["program", "worths", "rows"] "traced" (defScope z32) f (.ref c) A outer s H E).nox.env.cells.lookup ("rows" : Str) = some (s.heap.objs.size + 1) := rfl
 refine ⟨_, (z05 (z1e (i := 2) sc_traced.nd rfl zh7 (z4q z04) (z06 rfl))
 (z05 (z99 (zrr (i := 2) c_run_by hr (by omega) (z07 (z00 (i := 0) rfl zd3 z40 z41) (z07 (z00 (i := 1) rfl zei zb1 zb7) (z07 (zw6 (c := c) (P := pt) rfl rfl rfl hC hB hgP) z04))) rfl hcl_rows zga rfl zg1 zm0) (z06 rfl))
 (z08 (z0o (z00 (i := 2) rfl zgh zfb zfg))))), z0s fun N1 e1 => ?_⟩
 walk_at "rd7"
 refine ⟨Nat.zero_le _, fun l hl => ?_⟩
 have s1 := z03 hl (HO.lst [])
 have hll : (upd H l (HO.lst [])) l = some (.lst []) := z02
 generalize upd H l (HO.lst []) = H1 at s1 hll ⊢
 rw [e1]
 refine z0s fun N2 e2 => ?_
 walk_at "rd7"
 show zgu zgw (s.heap.objs.size + 1) 2 (zkp (ztz 0) (zkp (ztz 1) (zkp (q1x pt zzw dT [("rows", s.heap.objs.size + 1)]) zzi))) [some gv, some wv, some (V.ref l)] H1 fun x H1 => N2 [some gv, some wv, some (V.ref l)] H1
 clear hcl_rows
 generalize s.heap.objs.size + 1 = cc
 simp only [zgu]
 walk_at "rd7"
 have hT1 : TabAt pt zzw dT.qual H1 := hT.kp fun a o _ e => s1 _ _ e
 have nlp : l ≠ pt := fun z => by
  rcases hT with h | ⟨_, h, _⟩ <;> (rw [← z, hl] at h; cases h)
 refine zov hT1 fun fa c' H2 sB kp hfa hf hc hT2 => ?_
 refine fun o u hd ru hcn => ?_
 cases ru
 have s3 := z03 hcn (z6e cc o)
 have hcc : (upd H2 cc (z6e cc o)) cc = some (z6e cc o) := z02
 have hl2 := sB l _ nlp hll
 have nlc : l ≠ cc := z12 hl2 hcn
 have kpA := s1.kp.trans (kp.trans s3.kp)
 refine ⟨gv, wv, rows, b, ws, fa, g', some l, rfl, hg.kp kpA, hw.kp kpA, hrow, hfit, hok, hkb, ⟨c', cc, o, s3 _ _ hf, s3 _ _ hc, hcc, hd⟩, fun l' z => ?_, fun r H4 G ho => ?_⟩
 ·cases z
  exact ⟨[], s3 _ _ hl2, by simpa using hz⟩
 have hcc4 := G.keep hcc (by intro xs z; unfold z6e at z; cases z)
 refine ⟨hcc4, ?_⟩
 obtain ⟨xs, ys, e3, e4, d4⟩ := G.2 l rfl
 rw [s3 _ _ hl2] at e3
 cases e3
 have out : ∀ {a : Addr} {o' : HO}, H4 a = some o' → H2 a ≠ none → zjr [cc] H4 a = some o' := fun {a o'} e n => by
  rw [z33 (fun z => n (by rw [List.mem_singleton.mp z]; exact hcn))]
  exact e
 rw [e2]
 walk_at "rd7"
 refine q l ys _ (fun a o' n e => ?_) hl (hT2.kp fun a o' n e => out (G.keep (s3 _ _ e) n) (by rw [e]; simp)) ?_ (d4.kp (zsj hcc4))
 ·have h2 := sB a o' n (s1 _ _ e)
  exact out (G.1 a o' (fun z => by cases z; rw [hl] at e; cases e) (s3 _ _ h2)) (by rw [h2]; simp)
 ·exact out (by simpa using e4) (by rw [hl2]; simp)
end
section
variable {P : Program} {w : World} {K : PySem.W.Frag} {mg : Str → Option Value} {base : Heap} {f : Addr} {fd : FuncData}
theorem z63 {α β γ : Type} (f : α → β → γ) {a a' : α} {b b' : β} (h : a = a') (k : b = b') : f a b = f a' b' := by rw [h, k]
def Rs.un : Rs → Sum Int Str
 | .had i => .inl i
 | .ref u _ => .inr u
def unT (x : Rs × List RI) : Sum Int Str × List Int := (x.1.un, x.2.map (·.2))
def unO (o : Out) : Option Str × Cnt × List Int := (o.1.map (·.1), o.2.1, o.2.2.map (·.2))
theorem zqs (i : Int) (p q : List Int) : (zkc i p).un = (zkc i q).un := by
 unfold zkc
 split
 ·rfl
 ·split <;> rfl
theorem zid {r : Rs} {i : Int} (h : r.un = .inl i) : r = .had i := by
 cases r with
 | had j => cases h; rfl
 | ref u p => cases h
theorem zic {r : Rs} {u : Str} (h : r.un = .inr u) : ∃ p, r = .ref u p := by
 cases r with
 | had j => cases h
 | ref v p => cases h; exact ⟨p, rfl⟩
theorem zkl (c : Cnt) : ∀ (t : T) (p q : List Int), unT (evT c t p) = unT (evT c t q)
 | .num i, p, q => by simp only [evT, unT, zqs i p q]; rfl
 | .nm x, p, q => by simp only [evT, unT, zqs _ p q]; rfl
 | .op w a b, p, q => by
  have ha := zkl c a (p ++ [0]) (q ++ [0])
  have hb := zkl c b (p ++ [1]) (q ++ [1])
  rcases e1 : evT c a (p ++ [0]) with ⟨r1, w1⟩
  rcases e2 : evT c a (q ++ [0]) with ⟨r2, w2⟩
  rw [e1, e2] at ha
  obtain ⟨ha1, ha2⟩ := Prod.mk.inj ha
  cases r1 with
  | ref u z =>
   obtain ⟨z2, hz2⟩ := zic (r := r2) ha1.symm
   have hz2 : r2 = .ref u z2 := hz2
   subst hz2
   rw [zij e1, zij e2]
   exact ha
  | had x =>
   have hx : r2 = .had x := zid (r := r2) ha1.symm
   subst hx
   rcases f1 : evT c b (p ++ [1]) with ⟨s1, v1⟩
   rcases f2 : evT c b (q ++ [1]) with ⟨s2, v2⟩
   rw [f1, f2] at hb
   obtain ⟨hb1, hb2⟩ := Prod.mk.inj hb
   cases s1 with
   | ref u z =>
    obtain ⟨z2, hz2⟩ := zic (r := s2) hb1.symm
    have hz2 : s2 = .ref u z2 := hz2
    subst hz2
    rw [zcd e1 f1, zcd e2 f2]
    simp only [unT, List.map_append]
    exact z63 Prod.mk rfl (z63 (· ++ ·) ha2 hb2)
   | had y =>
    have hy : s2 = .had y := zid (r := s2) hb1.symm
    subst hy
    by_cases h3 : w = .quo ∧ y = 0
    ·obtain ⟨rfl, rfl⟩ := h3
     rw [zcc e1 f1, zcc e2 f2]
     simp only [unT, List.map_append]
     exact z63 Prod.mk rfl (z63 (· ++ ·) ha2 hb2)
    ·rw [zh3 e1 f1 h3, zh3 e2 f2 h3]
     simp only [unT, List.map_append]
     exact z63 Prod.mk (zqs _ _ _) (z63 (· ++ ·) (z63 (· ++ ·) ha2 hb2) rfl)
def Alike (f h : Cnt → Out) : Prop := ∀ c, unO (f c) = unO (h c)
theorem Alike.trans {f g h : Cnt → Out} (a : Alike f g) (b : Alike g h) : Alike f h := fun c => (a c).trans (b c)
theorem Alike.symm {f g : Cnt → Out} (a : Alike f g) : Alike g f := fun c => (a c).symm
theorem z73 (rs : List RI) (o : Out) : unO (zeg rs o) = ((unO o).1, (unO o).2.1, rs.map (·.2) ++ (unO o).2.2) := by simp [unO, zeg]
theorem zq5 {k1 k2 : Cnt → Rs × List RI} {b1 b2 : Cnt → Out} {p1 p2 : List Int} (hk : ∀ c, unT (k1 c) = unT (k2 c)) (hb : Alike b1 b2) : ∀ (n : Nat) (c : Cnt), unO (z4i k1 b1 p1 n c) = unO (z4i k2 b2 p2 n c) := by
 intro n
 induction n with
 | zero =>
  intro c
  have h := hk c
  rcases e1 : k1 c with ⟨r1, w1⟩
  rcases e2 : k2 c with ⟨r2, w2⟩
  rw [e1, e2] at h
  obtain ⟨h1, h2⟩ := Prod.mk.inj h
  cases r1 with
  | ref u z =>
   obtain ⟨z2, hz2⟩ := zic (r := r2) h1.symm
   have hz2 : r2 = .ref u z2 := hz2
   subst hz2
   rw [z5b e1, z5b e2]
   exact z63 Prod.mk rfl (z63 Prod.mk rfl h2)
  | had v =>
   have hx : r2 = .had v := zid (r := r2) h1.symm
   subst hx
   by_cases hv : v = 0
   ·subst hv
    rw [z4g e1, z4g e2]
    exact z63 Prod.mk rfl (z63 Prod.mk rfl h2)
   ·rw [z8m e1 hv, z8m e2 hv]
    exact z63 Prod.mk rfl (z63 Prod.mk rfl h2)
 | succ n ih =>
  intro c
  have h := hk c
  rcases e1 : k1 c with ⟨r1, w1⟩
  rcases e2 : k2 c with ⟨r2, w2⟩
  rw [e1, e2] at h
  obtain ⟨h1, h2⟩ := Prod.mk.inj h
  have h2 : w1.map (·.2) = w2.map (·.2) := h2
  cases r1 with
  | ref u z =>
   obtain ⟨z2, hz2⟩ := zic (r := r2) h1.symm
   have hz2 : r2 = .ref u z2 := hz2
   subst hz2
   rw [z5b e1, z5b e2]
   exact z63 Prod.mk rfl (z63 Prod.mk rfl h2)
  | had v =>
   have hx : r2 = .had v := zid (r := r2) h1.symm
   subst hx
   by_cases hv : v = 0
   ·subst hv
    rw [z4g e1, z4g e2]
    exact z63 Prod.mk rfl (z63 Prod.mk rfl h2)
   ·have hbc := hb c
    rcases f1 : b1 c with ⟨o1, c1, v1⟩
    rcases f2 : b2 c with ⟨o2, c2, v2⟩
    rw [f1, f2] at hbc
    obtain ⟨g1, g2⟩ := Prod.mk.inj hbc
    obtain ⟨g2, g3⟩ := Prod.mk.inj g2
    have g3 : v1.map (·.2) = v2.map (·.2) := g3
    have g2 : c1 = c2 := g2
    subst g2
    cases o1 with
    | some u =>
     cases o2 with
     | none => cases g1
     | some u2 =>
      rw [z5v e1 hv f1, z5v e2 hv f2]
      simp only [unO, List.map_append, h2, g3]
      exact z63 Prod.mk g1 rfl
    | none =>
     cases o2 with
     | some u2 => cases g1
     | none =>
      rw [z5w e1 hv f1, z5w e2 hv f2, z73, z73, ih c1, List.map_append, List.map_append, h2, g3]
end
section
variable {P : Program} {w : World} {K : PySem.W.Frag} {mg : Str → Option Value} {base : Heap} {f : Addr} {fd : FuncData}
theorem zr8 (x : Str) (t : T) (p q : List Int) : Alike (evD p (.set x t)) (evD q (.set x t)) := fun c => by
 have h := zkl c t (p ++ [0]) (q ++ [0])
 rcases e1 : evT c t (p ++ [0]) with ⟨r1, w1⟩
 rcases e2 : evT c t (q ++ [0]) with ⟨r2, w2⟩
 rw [e1, e2] at h
 obtain ⟨h1, h2⟩ := Prod.mk.inj h
 cases r1 with
 | ref u z =>
  obtain ⟨z2, hz2⟩ := zic (r := r2) h1.symm
  have hz2 : r2 = .ref u z2 := hz2
  subst hz2
  rw [zc9 e1, zc9 e2]
  exact z63 Prod.mk rfl (z63 Prod.mk rfl h2)
 | had v =>
  have hx : r2 = .had v := zid (r := r2) h1.symm
  subst hx
  rw [zca e1, zca e2]
  exact z63 Prod.mk rfl (z63 Prod.mk rfl h2)
theorem zll {t : T} {b b' b2 b2' : List D} {p q : List Int} (hb : Alike (evB (p ++ [1]) 0 b) (evB (q ++ [1]) 0 b')) (hb2 : Alike (evB (p ++ [2]) 0 b2) (evB (q ++ [2]) 0 b2')) : Alike (evD p (.ite t b b2)) (evD q (.ite t b' b2')) := fun c => by
 have h := zkl c t (p ++ [0]) (q ++ [0])
 rcases e1 : evT c t (p ++ [0]) with ⟨r1, w1⟩
 rcases e2 : evT c t (q ++ [0]) with ⟨r2, w2⟩
 rw [e1, e2] at h
 obtain ⟨h1, h2⟩ := Prod.mk.inj h
 have h2 : w1.map (·.2) = w2.map (·.2) := h2
 cases r1 with
 | ref u z =>
  obtain ⟨z2, hz2⟩ := zic (r := r2) h1.symm
  have hz2 : r2 = .ref u z2 := hz2
  subst hz2
  rw [z9n e1, z9n e2]
  exact z63 Prod.mk rfl (z63 Prod.mk rfl h2)
 | had v =>
  have hx : r2 = .had v := zid (r := r2) h1.symm
  subst hx
  by_cases hv : v = 0
  ·subst hv
   rw [zdr e1, zdr e2]
   have := hb2 c
   show unO (zeg w1 (evB (p ++ [2]) 0 b2 c)) = unO (zeg w2 (evB (q ++ [2]) 0 b2' c))
   rw [z73, z73, this, h2]
  ·rw [z9m e1 hv, z9m e2 hv]
   have := hb c
   show unO (zeg w1 (evB (p ++ [1]) 0 b c)) = unO (zeg w2 (evB (q ++ [1]) 0 b' c))
   rw [z73, z73, this, h2]
theorem zkg {t : T} {m : Int} {b b' : List D} {p q : List Int} (hb : Alike (evB (p ++ [1]) 0 b) (evB (q ++ [1]) 0 b')) : Alike (evD p (.whl t m b)) (evD q (.whl t m b')) := fun c => by
 rw [evD, evD]
 exact zq5 (fun c => zkl c t (p ++ [0]) (q ++ [0])) hb _ c
theorem zit {d d' : D} {r r' : List D} {p q : List Int} {k j : Int} (hd : Alike (evD (p ++ [k]) d) (evD (q ++ [j]) d')) (hr : Alike (evB p (k + 1) r) (evB q (j + 1) r')) : Alike (evB p k (d :: r)) (evB q j (d' :: r')) := fun c => by
 have h := hd c
 rcases f1 : evD (p ++ [k]) d c with ⟨o1, c1, v1⟩
 rcases f2 : evD (q ++ [j]) d' c with ⟨o2, c2, v2⟩
 rw [f1, f2] at h
 obtain ⟨g1, g2⟩ := Prod.mk.inj h
 obtain ⟨g2, g3⟩ := Prod.mk.inj g2
 have g3 : v1.map (·.2) = v2.map (·.2) := g3
 have g2 : c1 = c2 := g2
 subst g2
 cases o1 with
 | some u =>
  cases o2 with
  | none => cases g1
  | some u2 =>
   rw [z6o f1, z6o f2]
   exact z63 Prod.mk g1 (z63 Prod.mk rfl g3)
 | none =>
  cases o2 with
  | some u2 => cases g1
  | none => rw [z6p f1, z6p f2, z73, z73, hr c1, g3]
mutual
theorem zo5 : ∀ (d : D) (p q : List Int), Alike (evD p d) (evD q d)
 | .set x t, p, q => zr8 x t p q
 | .ite t b b2, p, q => zll (zkb b _ _ 0 0) (zkb b2 _ _ 0 0)
 | .whl t m b, p, q => zkg (zkb b _ _ 0 0)
theorem zkb : ∀ (b : List D) (p q : List Int) (k j : Int), Alike (evB p k b) (evB q j b)
 | [], p, q, k, j => fun c => by rw [evB, evB]
 | d :: r, p, q, k, j => zit (zo5 d _ _) (zkb r p q (k + 1) (j + 1))
end
theorem zin (p : List Int) : ∀ (a b : List D) (k : Int) (c : Cnt), evB p k (a ++ b) c = match evB p k a c with
  | (some e, c1, w) => (some e, c1, w)
  | (none, c1, w) => zeg w (evB p (k + a.length) b c1)
 | [], b, k, c => by simp [evB, zeg]
 | d :: a, b, k, c => by
  rw [List.cons_append]
  rcases h : evD (p ++ [k]) d c with ⟨o, c1, w⟩
  cases o with
  | some e => rw [z6o h, z6o h]
  | none =>
   rw [z6p h, z6p h, zin p a b (k + 1) c1]
   rcases h2 : evB p (k + 1) a c1 with ⟨o2, c2, w2⟩
   cases o2 with
   | some e => simp [zeg]
   | none =>
    rw [List.length_cons, show k + ((a.length + 1 : Nat) : Int) = k + 1 + (a.length : Int) by omega]
    simp [zeg]
theorem zpp {t : T} {m : Int} {b : List D} (hm : 1 ≤ m) (p q : List Int) : Alike (evD p (zkd (.whl t m b))) (evD q (.whl t m b)) := by
 refine Alike.trans ?_ (zo5 (.whl t m b) p q)
 intro c
 obtain ⟨n, hn⟩ : ∃ n : Nat, m.toNat = n + 1 := ⟨m.toNat - 1, by omega⟩
 have hn1 : (m - 1).toNat = n := by omega
 rw [zkd]
 show unO (evD p (.ite t (b ++ [.whl t (m - 1) b]) []) c) = unO (evD p (.whl t m b) c)
 rw [show evD p (.whl t m b) c = z4i (fun c => evT c t (p ++ [0])) (fun c => evB (p ++ [1]) 0 b c) p (n + 1) c by rw [evD, hn]]
 rcases e1 : evT c t (p ++ [0]) with ⟨r1, w1⟩
 cases r1 with
 | ref u z => rw [z9n e1, z5b (cond := fun c => evT c t (p ++ [0])) e1]
 | had v =>
  by_cases hv : v = 0
  ·subst hv
   rw [zdr e1, z4g (cond := fun c => evT c t (p ++ [0])) e1, evB]
   simp [unO]
  ·rw [z9m e1 hv, zin]
   rcases f1 : evB (p ++ [1]) 0 b c with ⟨o1, c1, v1⟩
   cases o1 with
   | some u => rw [z5v (cond := fun c => evT c t (p ++ [0])) (body := fun c => evB (p ++ [1]) 0 b c) e1 hv f1]
   | none =>
    rw [z5w (cond := fun c => evT c t (p ++ [0])) (body := fun c => evB (p ++ [1]) 0 b c) e1 hv f1]
    have key : unO (evB (p ++ [1]) (0 + (b.length : Int)) [.whl t (m - 1) b] c1) = unO (z4i (fun c => evT c t (p ++ [0])) (fun c => evB (p ++ [1]) 0 b c) p n c1) := by
     have z := zo5 (.whl t (m - 1) b) (p ++ [1] ++ [0 + (b.length : Int)]) p c1
     rw [show evD p (.whl t (m - 1) b) c1 = z4i (fun c => evT c t (p ++ [0])) (fun c => evB (p ++ [1]) 0 b c) p n c1 by rw [evD, hn1]] at z
     rw [← z]
     rcases f2 : evD (p ++ [1] ++ [0 + (b.length : Int)]) (.whl t (m - 1) b) c1 with ⟨o2, c2, v2⟩
     cases o2 with
     | some u => rw [z6o f2]
     | none => rw [z6p f2, evB]; simp [zeg]
    show unO (zeg w1 (zeg v1 (evB (p ++ [1]) (0 + (b.length : Int)) [.whl t (m - 1) b] c1))) = _
    rw [z73, z73, z73, key]
    simp
end
section
variable {P : Program} {w : World} {K : PySem.W.Frag} {mg : Str → Option Value} {base : Heap} {f : Addr} {fd : FuncData}
theorem Alike.refl (f : Cnt → Out) : Alike f f := fun _ => rfl
mutual
theorem zrl {dp : List Int} {d0 o : D} (ho : Alike (evD dp o) (evD dp d0)) : ∀ (d : D) (p : List Int), (∀ r ∈ z0p p d, r.1 = dp → r.2 = d0) → Alike (evD p (prD dp o p d)) (evD p d)
 | .set x t, p, hu => by
  rw [prD]
  split
  ·rename_i e
   have e0 : D.set x t = d0 := hu (p, .set x t) (by simp [z0p]) e
   rw [e0, e]
   exact ho
  ·exact Alike.refl _
 | .ite t b c, p, hu => by
  rw [prD]
  split
  ·rename_i e
   have e0 : D.ite t b c = d0 := hu (p, .ite t b c) (by simp [z0p]) e
   rw [e0, e]
   exact ho
  ·exact zll (zap ho b _ 0 fun r hr => hu r (by rw [z0p]; exact .tail _ (List.mem_append_left _ hr))) (zap ho c _ 0 fun r hr => hu r (by rw [z0p]; exact .tail _ (List.mem_append_right _ hr)))
 | .whl t m b, p, hu => by
  rw [prD]
  split
  ·rename_i e
   have e0 : D.whl t m b = d0 := hu (p, .whl t m b) (by simp [z0p]) e
   rw [e0, e]
   exact ho
  ·exact zkg (zap ho b _ 0 fun r hr => hu r (by rw [z0p]; exact .tail _ hr))
theorem zap {dp : List Int} {d0 o : D} (ho : Alike (evD dp o) (evD dp d0)) : ∀ (b : List D) (p : List Int) (k : Int), (∀ r ∈ z0j p k b, r.1 = dp → r.2 = d0) → Alike (evB p k (prB dp o p k b)) (evB p k b)
 | [], p, k, hu => by rw [prB]; exact Alike.refl _
 | d :: b, p, k, hu => by
  rw [prB]
  exact zit (zrl ho d _ fun r hr => hu r (by rw [z0j]; exact List.mem_append_left _ hr)) (zap ho b p (k + 1) fun r hr => hu r (by rw [z0j]; exact List.mem_append_right _ hr))
end
theorem zty {f h : Cnt → Out} (a : Alike f h) (c : Cnt) : (f c).2.2.length = (h c).2.2.length := by
 have z := congrArg (fun x : Option Str × Cnt × List Int => x.2.2.length) (a c)
 simpa [unO] using z
theorem zns (c : Cnt) : ∀ (n : Nat) (t : T) (p : List Int), T.ok pool n t → (evT c t p).2.length + 1 ≤ 2 ^ n
 | 0, _, _, h => h.elim
 | n + 1, .num i, p, _ => by
  rw [evT]
  have : 1 ≤ 2 ^ n := Nat.one_le_two_pow
  simp only [List.length_cons, List.length_nil, Nat.pow_succ]
  omega
 | n + 1, .nm x, p, _ => by
  rw [evT]
  have : 1 ≤ 2 ^ n := Nat.one_le_two_pow
  simp only [List.length_cons, List.length_nil, Nat.pow_succ]
  omega
 | n + 1, .op w a b, p, h => by
  have h1 := zns c n a (p ++ [0]) h.1
  have h2 := zns c n b (p ++ [1]) h.2
  rw [Nat.pow_succ]
  rcases e1 : evT c a (p ++ [0]) with ⟨r1, w1⟩
  rcases e2 : evT c b (p ++ [1]) with ⟨r2, w2⟩
  rw [e1] at h1
  rw [e2] at h2
  cases r1 with
  | ref u q => rw [zij e1]; simp only at h1 ⊢; omega
  | had x =>
   cases r2 with
   | ref u q => rw [zcd e1 e2]; simp only [List.length_append] at h1 h2 ⊢; omega
   | had y =>
    by_cases h3 : w = .quo ∧ y = 0
    ·obtain ⟨rfl, rfl⟩ := h3
     rw [zcc e1 e2]; simp only [List.length_append] at h1 h2 ⊢; omega
    ·rw [zh3 e1 e2 h3]; simp only [List.length_append, List.length_cons, List.length_nil] at h1 h2 ⊢; omega
theorem zv7 {cond : Cnt → Rs × List RI} {body : Cnt → Out} {p : List Int} {A B : Nat} (hc : ∀ c, (cond c).2.length ≤ A) (hb : ∀ c, (body c).2.2.length ≤ B) : ∀ (k : Nat) (c : Cnt), (z4i cond body p k c).2.2.length ≤ (k + 1) * A + k * B := by
 intro k
 induction k with
 | zero =>
  intro c
  have h1 := hc c
  rcases e1 : cond c with ⟨r1, w1⟩
  rw [e1] at h1
  cases r1 with
  | ref u q => rw [z5b e1]; simpa using h1
  | had v =>
   by_cases hv : v = 0
   ·subst hv; rw [z4g e1]; simpa using h1
   ·rw [z8m e1 hv]; simpa using h1
 | succ k ih =>
  intro c
  have h1 := hc c
  have h2 := hb c
  have mA : (k + 1 + 1) * A = A + (k + 1) * A := by rw [Nat.add_mul (k + 1) 1 A, Nat.one_mul]; omega
  have mB : (k + 1) * B = B + k * B := by rw [Nat.add_mul k 1 B, Nat.one_mul]; omega
  rw [mA, mB]
  rcases e1 : cond c with ⟨r1, w1⟩
  rcases e2 : body c with ⟨o1, c1, v1⟩
  rw [e1] at h1
  rw [e2] at h2
  simp only at h1 h2
  cases r1 with
  | ref u q => rw [z5b e1]; simp only; omega
  | had v =>
   by_cases hv : v = 0
   ·subst hv; rw [z4g e1]; simp only; omega
   ·cases o1 with
    | some u => rw [z5v e1 hv e2]; simp only [List.length_append]; omega
    | none =>
     have h3 := ih c1
     rw [z5w e1 hv e2]; simp only [zeg, List.length_append]; omega
theorem zhn {M : Nat} : ∀ (b : List D), (∀ d ∈ b, ∀ (p : List Int) (c : Cnt), (evD p d c).2.2.length ≤ M) → ∀ (p : List Int) (k : Int) (c : Cnt), (evB p k b c).2.2.length ≤ b.length * M
 | [], _, p, k, c => by rw [evB]; simp
 | d :: r, h, p, k, c => by
  have h1 := h d (.head _) (p ++ [k]) c
  rw [List.length_cons, Nat.add_mul, Nat.one_mul]
  rcases e1 : evD (p ++ [k]) d c with ⟨o1, c1, w1⟩
  rw [e1] at h1
  simp only at h1
  have h2 := zhn r (fun e he => h e (.tail _ he)) p (k + 1) c1
  cases o1 with
  | some u => rw [z6o e1]; simp only; omega
  | none => rw [z6p e1]; simp only [zeg, List.length_append]; omega
def PD : Nat → Nat
 | 0 => 31
 | n + 1 => 651 + 20 * (6 * PD n)
theorem t31 (c : Cnt) (t : T) (p : List Int) (h : T.ok pool 5 t) : (evT c t p).2.length ≤ 31 := by
 have := zns c 5 t p h
 omega
theorem zjy : ∀ (n : Nat) (d : D) (p : List Int) (c : Cnt), okD n d → (evD p d c).2.2.length ≤ PD n
 | n, .set x t, p, c, h => by
  have h1 := t31 c t (p ++ [0]) h.2
  rw [zr7]
  cases n with
  | zero => exact h1
  | succ n => rw [PD]; omega
 | 0, .ite t b b2, p, c, h => h.2.1.elim
 | 0, .whl t m b, p, c, h => h.2.2.2.elim
 | n + 1, .ite t b b2, p, c, h => by
  have h1 := t31 c t (p ++ [0]) h.1
  have hb := zhn b (fun d hd p c => zjy n d p c (h.2.1.2 d hd)) (p ++ [1]) 0 c
  have hb2 := zhn b2 (fun d hd p c => zjy n d p c (h.2.2.2 d hd)) (p ++ [2]) 0 c
  have l1 : b.length * PD n ≤ 6 * PD n := Nat.mul_le_mul_right _ h.2.1.1
  have l2 : b2.length * PD n ≤ 6 * PD n := Nat.mul_le_mul_right _ h.2.2.1
  rw [PD]
  rcases e1 : evT c t (p ++ [0]) with ⟨r1, w1⟩
  rw [e1] at h1
  simp only at h1
  cases r1 with
  | ref u q => rw [z9n e1]; simp only; omega
  | had v =>
   by_cases hv : v = 0
   ·subst hv
    rw [zdr e1]; simp only [List.length_append]; omega
   ·rw [z9m e1 hv]; simp only [List.length_append]; omega
 | n + 1, .whl t m b, p, c, h => by
  have l1 : b.length * PD n ≤ 6 * PD n := Nat.mul_le_mul_right _ h.2.2.2.1
  have hl := zv7 (cond := fun c => evT c t (p ++ [0])) (body := fun c => evB (p ++ [1]) 0 b c) (p := p) (A := 31) (B := 6 * PD n) (fun c => t31 c t (p ++ [0]) h.1) (fun c => Nat.le_trans (zhn b (fun d hd p c => zjy n d p c (h.2.2.2.2 d hd)) (p ++ [1]) 0 c) l1) m.toNat c
  rw [evD, PD]
  have hm : m.toNat ≤ 20 := by have := h.2.2.1; omega
  have l2 : (m.toNat + 1) * 31 ≤ 21 * 31 := Nat.mul_le_mul_right _ (by omega)
  have l3 : m.toNat * (6 * PD n) ≤ 20 * (6 * PD n) := Nat.mul_le_mul_right _ hm
  omega
theorem zx1 {b : List D} (h : okB 3 b) (p : List Int) (k : Int) (c : Cnt) : (evB p k b c).2.2.length + 1 < sizeLine := by
 have h1 := zhn b (fun d hd p c => zjy 2 d p c (h.2 d hd)) p k c
 have h2 : b.length * PD 2 ≤ 6 * PD 2 := Nat.mul_le_mul_right _ h.1
 have h3 : 6 * PD 2 + 1 < sizeLine := by decide
 omega
end
section
variable {P : Program} {w : World} {K : PySem.W.Frag} {mg : Str → Option Value} {base : Heap} {f : Addr} {fd : FuncData}
mutual
theorem zv9 : ∀ (d : D) {g p q : List Str}, Sub g p → kbD g d = some q → ∃ q', kbD p d = some q' ∧ Sub q q'
 | .set x t, g, p, q, s, h => by
  rw [kbD] at h
  split at h
  ·rename_i hk
   cases h
   refine ⟨p ++ [x], by rw [kbD, if_pos (z5o s hk)], fun y hy => ?_⟩
   rcases List.mem_append.mp hy with hy | hy
   ·exact List.mem_append_left _ (s y hy)
   ·exact List.mem_append_right _ hy
  ·cases h
 | .ite t b c, g, p, q, s, h => by
  obtain ⟨hk, ⟨q1, h1⟩, q2, h2⟩ := zli h
  rw [kbD, if_pos hk, h1, h2] at h
  cases h
  obtain ⟨r1, e1, s1⟩ := zbe b s h1
  obtain ⟨r2, e2, s2⟩ := zbe c s h2
  refine ⟨r1.filter fun x => r2.contains x, by rw [kbD, if_pos (z5o s hk), e1, e2], fun y hy => ?_⟩
  obtain ⟨a1, a2⟩ := List.mem_filter.mp hy
  exact List.mem_filter.mpr ⟨s1 y a1, by simpa using s2 y (by simpa using a2)⟩
 | .whl t m b, g, p, q, s, h => by
  obtain ⟨hk, rfl, q1, h1⟩ := zlh h
  obtain ⟨r1, e1, s1⟩ := zbe b s h1
  exact ⟨p, by rw [kbD, if_pos (z5o s hk), e1], s⟩
theorem zbe : ∀ (b : List D) {g p q : List Str}, Sub g p → kbB g b = some q → ∃ q', kbB p b = some q' ∧ Sub q q'
 | [], g, p, q, s, h => by
  rw [kbB] at h
  cases h
  exact ⟨p, by rw [kbB], s⟩
 | d :: r, g, p, q, s, h => by
  obtain ⟨q1, h1, h2⟩ := zjn h
  obtain ⟨r1, e1, s1⟩ := zv9 d s h1
  obtain ⟨r2, e2, s2⟩ := zbe r s1 h2
  exact ⟨r2, by rw [kbB, e1]; exact e2, s2⟩
end
theorem zxx {t : T} {m : Int} {b : List D} {g q : List Str} (h : kbD g (.whl t m b) = some q) : ∃ q', kbD g (zkd (.whl t m b)) = some q' ∧ Sub q q' := by
 obtain ⟨hk, rfl, q1, h1⟩ := zlh h
 have s1 := zf6 b q q1 h1
 obtain ⟨r1, e1, _⟩ := zbe b s1 h1
 have e2 : kbB q (b ++ [.whl t (m - 1) b]) = some q1 := by
  rw [zf7, h1]
  show kbB q1 [.whl t (m - 1) b] = some q1
  rw [kbB, kbD, if_pos (z5o s1 hk), e1]
  show kbB q1 [] = some q1
  rw [kbB]
 refine ⟨q1.filter fun x => q.contains x, ?_, fun y hy => List.mem_filter.mpr ⟨s1 y hy, by simpa using hy⟩⟩
 rw [zkd, kbD, if_pos hk, e2, show kbB q [] = some q by rw [kbB]]
mutual
theorem zzv {dp : List Int} {t0 : T} {m0 : Int} {b0 : List D} : ∀ (d : D) (p : List Int) {g q : List Str}, (∀ r ∈ z0p p d, r.1 = dp → r.2 = .whl t0 m0 b0) → kbD g d = some q → ∃ q', kbD g (prD dp (zkd (.whl t0 m0 b0)) p d) = some q' ∧ Sub q q'
 | .set x t, p, g, q, hu, h => by
  rw [prD]
  split
  ·rename_i e
   have e0 : D.set x t = .whl t0 m0 b0 := hu (p, .set x t) (by simp [z0p]) e
   cases e0
  ·exact ⟨q, h, Sub.refl q⟩
 | .ite t b c, p, g, q, hu, h => by
  rw [prD]
  split
  ·rename_i e
   have e0 : D.ite t b c = .whl t0 m0 b0 := hu (p, .ite t b c) (by simp [z0p]) e
   cases e0
  ·obtain ⟨hk, ⟨q1, h1⟩, q2, h2⟩ := zli h
   rw [kbD, if_pos hk, h1, h2] at h
   cases h
   obtain ⟨r1, e1, s1⟩ := zl1 b (p ++ [1]) 0 (fun r hr => hu r (by rw [z0p]; exact .tail _ (List.mem_append_left _ hr))) h1
   obtain ⟨r2, e2, s2⟩ := zl1 c (p ++ [2]) 0 (fun r hr => hu r (by rw [z0p]; exact .tail _ (List.mem_append_right _ hr))) h2
   refine ⟨r1.filter fun x => r2.contains x, by rw [kbD, if_pos hk, e1, e2], fun y hy => ?_⟩
   obtain ⟨a1, a2⟩ := List.mem_filter.mp hy
   exact List.mem_filter.mpr ⟨s1 y a1, by simpa using s2 y (by simpa using a2)⟩
 | .whl t m b, p, g, q, hu, h => by
  rw [prD]
  split
  ·rename_i e
   have e0 : D.whl t m b = .whl t0 m0 b0 := hu (p, .whl t m b) (by simp [z0p]) e
   rw [← e0]
   exact zxx h
  ·obtain ⟨hk, rfl, q1, h1⟩ := zlh h
   obtain ⟨r1, e1, s1⟩ := zl1 b (p ++ [1]) 0 (fun r hr => hu r (by rw [z0p]; exact .tail _ hr)) h1
   exact ⟨q, by rw [kbD, if_pos hk, e1], Sub.refl q⟩
theorem zl1 {dp : List Int} {t0 : T} {m0 : Int} {b0 : List D} : ∀ (b : List D) (p : List Int) (k : Int) {g q : List Str}, (∀ r ∈ z0j p k b, r.1 = dp → r.2 = .whl t0 m0 b0) → kbB g b = some q → ∃ q', kbB g (prB dp (zkd (.whl t0 m0 b0)) p k b) = some q' ∧ Sub q q'
 | [], p, k, g, q, hu, h => by
  rw [prB]
  exact ⟨q, h, Sub.refl q⟩
 | d :: b, p, k, g, q, hu, h => by
  obtain ⟨q1, h1, h2⟩ := zjn h
  obtain ⟨r1, e1, s1⟩ := zzv d (p ++ [k]) (fun r hr => hu r (by rw [z0j]; exact List.mem_append_left _ hr)) h1
  obtain ⟨r2, e2, s2⟩ := zl1 b p (k + 1) (fun r hr => hu r (by rw [z0j]; exact List.mem_append_right _ hr)) h2
  obtain ⟨r3, e3, s3⟩ := zbe _ s1 e2
  refine ⟨r3, ?_, s2.trans s3⟩
  rw [prB, kbB, e1]
  exact e3
end
end
section
variable {P : Program} {w : World} {K : PySem.W.Frag} {mg : Str → Option Value} {base : Heap} {f : Addr} {fd : FuncData}
theorem zvu {H : Hp} {p : List Int} : ∀ {kvs : List (List Key × V)} {l : List Rw2}, Paired (fun (kv : List Key × V) (r : Rw2) => kv.1 = r.1.map Sum.inl ∧ Dt H kv.2 r.2) kvs l → (∀ s ∈ l, s.1 ≠ p) → zki kvs (p.map Sum.inl) = none
 | _, _, .nil, _ => rfl
 | _, s :: l, .cons (a := kv) e t, hu => by
  have c : ¬ kv.1 = p.map Sum.inl := fun z => hu s (.head _) (znp _ _ (e.1.symm.trans z))
  rw [zd8 c]
  exact zvu t fun s' hs' => hu s' (.tail _ hs')
def zr5 : Sp := fun vs H Q _ => ∃ v ins b pv p, vs = [v, pv] ∧ Dt H v (.tup [ins, .tup (z3u b)]) ∧ Dt H pv (z2f p) ∧ okB 3 b ∧ ∀ x H' b', Same H H' → Dt H' x (.tup [ins, .tup (z3u b')]) → okW 4 b' → ((b' = b ∧ ∀ t m bb, (p, D.whl t m bb) ∈ z3y b → m < 1) ∨ ∃ t m bb, (p, D.whl t m bb) ∈ z3y b ∧ 1 ≤ m ∧ b' = prB p (zkd (.whl t m bb)) [] 0 b) → Q x H'
theorem zpx (F : Fun K "peeled" "peeled" z3o f fd) (b_dict : mg "dict" = none) (c_all_deeds : Callee P w K mg base "all_deeds" ["program"] 7 zeu) (c_block_with : Callee P w K mg base "block_with" ["block", "path", "deed_path", "other"] 7 (zz2 3)) (c_round_and_rest : Callee P w K mg base "round_and_rest" ["deed"] 1 q3c) : FnOk P w K mg base CX0 8 f fd ["program", "path"] zr5 := by
 refine F.ok sc_peeled (fun vs H Q E h => ?_) (fun cdv A outer s H vs Q E hr h => ?_)
 ·obtain ⟨v, ins, b, pv, p, rfl, _⟩ := h
  rfl
 obtain ⟨v, ins, b, pv, p, rfl, hd, hp, hok, q⟩ := h
 have hW : okW 4 b := zdi (zar hok)
 refine ⟨_, (z05 (z1e (i := 2) sc_peeled.nd rfl zh8 (zuv hr.units1 (zrt (zqi rfl hr.units) zi6 b_dict zyq (z07 (z1d c_all_deeds hr (by omega) (z07 (z00 (i := 0) rfl z46 z40 z41) z04) zch zfp) z04) zxq zyh) (z00 (i := 1) rfl zai z21 z22) ⟨rfl, rfl, rfl, rfl⟩) (z06 rfl))
 (z05 (z2k (PW.pt (zkz (z0f q3o (z00 (i := 2) rfl z53 z17 z18) zdd (z0w _)) (zkz (z0f (gNe hr.units) (z0v z0e (z00 (i := 2) rfl z53 z17 z18) z01 (fun _ _ => rfl)) z0u (z0w _)) (zih (z0f zla (z0v z0e (z00 (i := 2) rfl z53 z17 z18) z01 (fun _ _ => rfl)) z01 (z0w _)))))) (z08 (z0o (z00 (i := 0) rfl z46 z40 z41))) z0y)
 (z08 (z0o (z0z (z07 (z0v z0e (z00 (i := 0) rfl z46 z40 z41) z01 (fun _ _ => rfl)) (z07 (z1d c_block_with hr (by omega) (z07 (z0v z0e (z00 (i := 0) rfl z46 z40 z41) z01 (fun _ _ => rfl)) (z07 (z0z z04) (z07 (z00 (i := 1) rfl zai z21 z22) (z07 (z1d c_round_and_rest hr (by omega) (z07 (z00 (i := 2) rfl z53 z17 z18) z04) z8x zfc) z04)))) zbs db_block_with) z04))))))), z0s fun N1 e1 => ?_⟩
 walk_at "rd7"
 refine ⟨v, ins, b, rfl, hd, hW, fun ra H1 us s1 f1 h1 d1 => ?_⟩
 have hz : (z3y b).length ≤ 100000 := by
  have h1 := zhp 3 b [] 0 hok
  have h2 := q1j (n := 3) (by decide)
  have h3 : (z3y b).length ≤ bnd 3 := h1
  omega
 refine ⟨ra, us, (z3y b).map fun r => (r.1, r.2.enc), rfl, h1, by rw [List.map_map]; exact d1, by rw [List.map_map]; exact zn7 b, by rw [List.length_map]; exact hz, fun pd kvs hpd pk => ?_⟩
 have s2 := z03 hpd (HO.dT kvs)
 have s12 := s1.trans s2
 obtain ⟨pa, ps, rfl, hpa, dpa⟩ := hp.tupI
 have eps := z7n dpa
 subst eps
 have hpa2 : (upd H1 pd (HO.dT kvs)) pa = some (.tup ((p.map (Sum.inl : Int → Key)).map kV)) := by
  rw [s12 _ _ hpa, List.map_map]
  rfl
 refine ⟨pd, rfl, .inr ⟨_, .inl z02⟩, _, DGet.t z02 hpa2, ?_⟩
 have hd2 := hd.kp s12.kp
 have hp2 := hp.kp s12.kp
 by_cases hin : ∃ r ∈ z3y b, r.1 = p
 ·obtain ⟨r, hr1, er⟩ := hin
  obtain ⟨rp, rd⟩ := r
  have er : rp = p := er
  subst er
  obtain ⟨x, ex, dx⟩ := zib (r := (rp, rd.enc)) pk (List.mem_map.mpr ⟨_, hr1, rfl⟩) (fun s hs e => by
   obtain ⟨s', hs', rfl⟩ := List.mem_map.mp hs
   rw [zde hs' hr1 e])
  have dx2 := dx.kp s2.kp
  generalize upd H1 pd (HO.dT kvs) = U at s2 s12 hpa2 hd2 dx2 hp2 ⊢
  obtain ⟨ad, its, rfl, had, dit⟩ := zly dx2
  rw [ex, e1]
  show zpf _ _ _ [some v, some (V.ref pa), some (V.ref ad)] U
  refine z0s fun N2 e2 => ?_
  walk_at "rd7"
  refine ⟨_, SqT.of had, _, z1g, _, ⟨rfl, rfl⟩, ?_⟩
  have one : ∀ {e : D}, (rp, e) ∈ z3y b → e = rd := fun {e} h => congrArg Prod.snd (zde h hr1 rfl)
  by_cases hk : rd.kind = "while"
  ·obtain ⟨t, m, bb, rfl⟩ : ∃ t m bb, rd = .whl t m bb := by
    cases rd with
    | set x t => exact absurd hk (show ¬ ("set" : Str) = "while" by decide +kernel)
    | ite t b c => exact absurd hk (show ¬ ("if" : Str) = "while" by decide +kernel)
    | whl t m b => exact ⟨t, m, b, rfl⟩
   rw [if_neg (by rw [decide_eq_false_iff_not]; intro z; exact z (by rw [hk]))]
   rcases dit with _ | ⟨e0, _ | ⟨d1', _ | ⟨e2', _ | ⟨d3', _ | _⟩⟩⟩⟩
   cases e2'
   refine ⟨_, SqT.of had, _, z13 (j := 2) rfl, _, rfl, ?_⟩
   by_cases hm1 : m < 1
   ·rw [if_pos hm1]
    exact q _ _ b s12 hd2 hW (.inl ⟨rfl, fun t' m' bb' h => by cases one h; exact hm1⟩)
   ·rw [if_neg hm1]
    have hu : ∀ s ∈ z3y b, s.1 = rp → s.2 = .whl t m bb := fun s hs e => by rw [zde hs hr1 e]
    obtain ⟨va, y0, y1, rfl, hva, w0, w1⟩ := zo7 hd
    have hbb : bb.length ≤ 6 := by
     obtain ⟨k, hk⟩ := zho 3 b [] 0 hok _ hr1
     have hb := hk.2.2.2
     cases k with
     | zero => exact hb.elim
     | succ k => exact hb.1
    rw [e2]
    walk_at "rd7"
    refine ⟨_, SqT.of (s12 _ _ hva), _, z1g, _, SqT.of (s12 _ _ hva), _, z13 (j := 1) rfl, Nat.zero_le _, fun r3 h3 => ?_⟩
    have s3 := z03 h3 (HO.tup [])
    refine ⟨.ref ad, t, m, bb, rfl, dx2.kp s3.kp, hbb, fun x H4 s4 dx4 => ?_⟩
    have s34 := s3.trans s4
    have s14 := s12.trans s34
    refine ⟨y1, b, .ref r3, [], .ref pa, rp, x, zkd (.whl t m bb), rfl, w1.kp s14.kp, .tup (s4 _ _ z02) .nil, hp.kp s14.kp, dx4, zar hok, by decide, by decide, fun y H5 s5 dy5 => ⟨zl 2 (by decide), fun r6 h6 => ?_⟩⟩
    have s6 := z03 h6 (HO.tup [y0, y])
    have s15 := s14.trans s5
    exact q _ _ (prB rp (zkd (.whl t m bb)) [] 0 b) (s15.trans s6) (.tup z02 (.cons (w0.kp (s15.trans s6).kp) (.cons (dy5.kp s6.kp) .nil))) (zzs hok hu) (.inr ⟨t, m, bb, hr1, by omega, rfl⟩)
  ·rw [if_pos (by rw [decide_eq_false_iff_not]; intro z; exact hk (V.str.inj z))]
   exact q _ _ b s12 hd2 hW (.inl ⟨rfl, fun t' m' bb' h => absurd (show rd.kind = "while" by rw [← one h]; rfl) hk⟩)
 ·have ex : zki kvs (p.map Sum.inl) = none := zvu pk fun s hs e => by
   obtain ⟨s', hs', rfl⟩ := List.mem_map.mp hs
   exact hin ⟨s', hs', e⟩
  generalize upd H1 pd (HO.dT kvs) = U at s2 s12 hpa2 hd2 hp2 ⊢
  rw [ex, e1]
  show zpf _ _ _ [some v, some (V.ref pa), some V.non] U
  refine z0s fun N2 e2 => ?_
  walk_at "rd7"
  exact q _ _ b s12 hd2 hW (.inl ⟨rfl, fun t m bb h => absurd ⟨_, h, rfl⟩ hin⟩)
end
section
variable {P : Program} {w : World} {K : PySem.W.Frag} {mg : Str → Option Value} {base : Heap} {f : Addr} {fd : FuncData}
theorem Fits.snoc : ∀ {rows : List Rw} {ws : List Int} {r : Rw} {w : Int}, Fits rows ws → r.2.1 ≤ w → w ≤ r.2.2 → Fits (rows ++ [r]) (ws ++ [w])
 | [], [], r, w, _, h1, h2 => ⟨h1, h2, trivial⟩
 | a :: rows, b :: ws, r, w, h, h1, h2 => ⟨h.1, h.2.1, Fits.snoc h.2.2 h1 h2⟩
 | [], _ :: _, _, _, h, _, _ => h.elim
 | _ :: _, [], _, _, h, _, _ => h.elim
def zod : Sp := fun vs H Q _ => ∃ (gv : V) (rows : List Rw) (bd : Dm), vs = [gv] ∧ Dt H gv (.tup [.tup (rows.map z7m), bd]) ∧ okRows rows ∧ ∀ (l : Addr) (H' : Hp) (xs : List V) (wss : List (List Int)), Same H H' → H l = none → H' l = some (.lst xs) → DtA H' xs (wss.map z2f) → (∀ ws ∈ wss, Fits rows ws) → Q (.ref l) H'
def AwI (H : Hp) (ga : Addr) (rows : List Rw) (i : Nat) (σ : St) (Hc : Hp) : Prop := ∃ (l : Addr) (xs : List V) (wss : List (List Int)) (x2 x3 x4 x5 x6 : Option V), σ = [some (.ref ga), some (.ref l), x2, x3, x4, x5, x6] ∧ Same H Hc ∧ H l = none ∧ Hc l = some (.lst xs) ∧ DtA Hc xs (wss.map z2f) ∧ (∀ ws ∈ wss, Fits (rows.take i) ws) ∧ wss.length ≤ 15 ^ i
theorem zvq {lo : Int} {n : Nat} {g : TG} {tt : TT} {te : TE} {Q : VK} {σ : St} {H : Hp} (Pv : Nat → List V → St → Hp → Prop) (h0 : Pv 0 [] σ H) (hz : n < sizeLine) (hy : ∀ i zs σ H, Pv i zs σ H → zs.length ≤ i)
  (hs : ∀ i zs σ H, i < n → Pv i zs σ H → g (.int (lo + i)) σ H fun σ2 H2 => tt σ2 H2 fun b H3 => if b = true then te σ2 H3 (fun v H4 => Pv (i + 1) (zs ++ [v]) σ2 H4) else Pv (i + 1) zs σ2 H3)
  (hd : ∀ zs σ H, Pv n zs σ H → ∀ p, H p = none → Q (.ref p) (upd H p (.lst zs))) : zfi (Itr lo n) g tt te Q σ H := by
 refine ⟨fun i m zs σ H => m = n - i ∧ i ≤ n ∧ Pv i zs σ H, ⟨n, by simp, Nat.zero_le _, h0⟩, ?_⟩
 rintro i m zs σ H ⟨rfl, hi, p⟩
 have hyl := hy i zs σ H p
 by_cases hlt : i < n
 ·refine .inr ⟨hlt, by omega, Pv (i + 1), fun ys' σ' H' p' => ⟨n - (i + 1), by omega, rfl, hlt, p'⟩, fun x H' y => ?_⟩
  obtain ⟨e, y⟩ := y
  subst e y
  exact hs i zs σ _ hlt p
 ·have e : i = n := by omega
  subst e
  exact .inl ⟨Nat.le_refl _, by omega, hd zs σ H p⟩
def AwJ (H : Hp) (ga : Addr) (l : Addr) (xs : List V) (wss : List (List Int)) (pr : Addr) (rows : List Rw) (v2 v3 v4 : V) (j : Nat) (σ : St) (Hc : Hp) : Prop := ∃ (ys : List V) (vss : List (List Int)) (x6 : Option V), σ = [some (.ref ga), some (.ref l), some v2, some v3, some v4, some (.ref pr), x6] ∧ Same H Hc ∧ Hc pr = some (.lst ys) ∧ DtA Hc ys (vss.map z2f) ∧ (∀ ws ∈ vss, Fits rows ws) ∧ vss.length ≤ 15 * j ∧ Hc l = some (.lst xs) ∧ DtA Hc xs (wss.map z2f)
def AwC (U : Hp) (pv : V) (ws : List Int) (lo : Int) (i : Nat) (ys : List V) (σ' : St) (H' : Hp) : Prop := Same U H' ∧ (∃ t, σ' = [t, some pv]) ∧ DtA H' ys (((List.range i).map fun (k : Nat) => ws ++ [lo + (k : Int)]).map z2f) ∧ ys.length ≤ i
end
section
variable {P : Program} {w : World} {K : PySem.W.Frag} {mg : Str → Option Value} {base : Heap} {f : Addr} {fd : FuncData}
theorem zjg (F : Fun K "_law_all_worths" "_law_all_worths" z0h f fd) (b_range : mg "range" = none) : FnOk P w K mg base CX0 1 f fd ["_law_program_here"] zod := by
 refine F.ok sc_law_all_worths (fun vs H Q E h => ?_) (fun cdv A outer s H vs Q E hr h => ?_)
 ·obtain ⟨gv, rows, bd, rfl, _⟩ := h
  rfl
 obtain ⟨gv, rows, bd, rfl, hg, hrow, q⟩ := h
 obtain ⟨ga, iv, bv, rfl, hga, di, db⟩ := zo7 hg
 obtain ⟨ia, is, rfl, hia, dia⟩ := di.tupI
 have lis : is.length = rows.length := by rw [dia.length, List.length_map]
 refine ⟨_, (z05 (z1e (i := 1) sc_law_all_worths.nd rfl z4a (z4q (z07 (z0z z04) z04)) (z06 rfl))
 (z05 (zdb PassesOwn.never rfl (zzx (z0v z0e (z00 (i := 0) rfl z4p z0m z0n) z01 (fun _ _ => rfl))) (zfl (n := 3) rfl (z2a (z1t (i := 2) sc_law_all_worths.nd rfl z6l) (z2a (z1t (i := 3) sc_law_all_worths.nd rfl z75) (z2a (z1t (i := 4) sc_law_all_worths.nd rfl z6m) z80))))
 (z05 (z1e (i := 5) sc_law_all_worths.nd rfl z5y (z4q z04) (z06 rfl))
 (z05 (zdb PassesOwn.never rfl (z7z (z00 (i := 1) rfl z47 zfq zfr)) (z1t (i := 6) sc_law_all_worths.nd rfl z5x)
 (z08 (z99 (zl4 PySem.F.plainAttrs_list PySem.F.slot_list_extend PySem.F.type_list_extend zle (z00 (i := 5) rfl z3g zc4 zc6) (z07 (zey ["_law_worth", "_law_worths"] [none, some 6] rfl (CompS.of (by rfl)) (zro z9q b_range (z07 (z00 (i := 3) rfl z6z zcs zd0) (z07 (z16 z28 (z00 (i := 4) rfl z6h zm5 zme) z01) z04))) (fun _ _ _ _ _ => (z1t (i := 0) (show List.Nodup (["_law_worth", "_law_worths"] : List Str) from by decide +kernel) rfl (Or.inl rfl))) (fun _ _ _ _ _ => zex) (fun _ _ _ _ _ => (z16 (opK (r := zfk) (K := K) z2b rfl) (z00 (i := 1) rfl (by first | exact Or.inl rfl | exact Or.inr (Or.inl rfl) | exact Or.inr (Or.inr rfl)) z4s z4u) (z0z (z07 (z00 (i := 0) rfl (by first | exact Or.inl rfl | exact Or.inr (Or.inl rfl) | exact Or.inr (Or.inr rfl)) zk1 zk7) z04))))) z04)) (z06 rfl))))
 (z08 (z1e (i := 1) sc_law_all_worths.nd rfl z4a (z00 (i := 5) rfl z3g zc4 zc6) (z06 rfl))))))
 (z08 (z0o (z00 (i := 1) rfl z47 zfq zfr))))), z0s fun N1 e1 => ?_⟩
 walk_at "rd7"
 refine ⟨Nat.zero_le _, fun p0 h0 => ⟨by decide, fun l0 hl0 => ?_⟩⟩
 have s1 := z03 h0 (HO.tup [])
 have s2 := z03 hl0 (HO.lst [V.ref p0])
 have s12 := s1.trans s2
 have d0 : Dt (upd (upd H p0 (HO.tup [])) l0 (HO.lst [V.ref p0])) (.ref p0) (z2f []) := .tup (s2 _ _ z02) .nil
 have hl0' : H l0 = none := s1.free hl0
 have hll : (upd (upd H p0 (HO.tup [])) l0 (HO.lst [V.ref p0])) l0 = some (.lst [V.ref p0]) := z02
 generalize upd (upd H p0 (HO.tup [])) l0 (HO.lst [V.ref p0]) = H1 at s12 d0 hll ⊢
 rw [e1]
 refine z0s fun N2 e2 => ?_
 walk_at "rd7"
 refine ⟨_, SqT.of (s12 _ _ hga), _, z1g, ia, rfl, ⟨_, SqT.of (s12 _ _ hia)⟩, ?_⟩
 refine zy9 (xs := is) (AwI H ga rows) ?start ?lst ?step ?done
 case start => exact ⟨l0, [.ref p0], [[]], _, _, _, _, _, rfl, s12, hl0', hll, .cons d0 .nil, fun ws h => by rw [List.mem_singleton] at h; subst h; exact trivial, by decide⟩
 case lst =>
  rintro i σ Hc _ ⟨l, xs, wss, _, _, _, _, _, rfl, sc, _⟩
  exact SqT.of (sc _ _ hia)
 case done =>
  rintro σ Hc ⟨l, xs, wss, _, _, _, _, _, rfl, sc, hln, hl, dx, hf, _⟩
  show N2 _ _
  rw [e2]
  walk_at "rd7"
  rw [lis, List.take_length] at hf
  exact q l Hc xs wss sc hln hl dx hf
 case step =>
  rintro i x σ Hc hx ⟨l, xs, wss, _, _, _, _, _, rfl, sc, hln, hl, dx, hf, hlen⟩
  obtain ⟨r, hri, dr⟩ := zc2 dia hx
  obtain ⟨ra, r0, r1, r2, rfl, hra, t0, t1, t2⟩ := zqw dr
  cases t0; cases t1; cases t2
  have hra2 := sc _ _ hra
  walk_at "rd7"
  refine ⟨_, SqT.of hra2, rfl, _, _, rfl, _, _, rfl, _, _, rfl, rfl, Nat.zero_le _, fun pr hpr => ?_⟩
  have s3 := z03 hpr (HO.lst [])
  have hl3 := s3 _ _ hl
  refine ⟨⟨_, SqL.of hl3⟩, ?_⟩
  have hrl := hrow.lo r (List.mem_of_getElem? hri)
  have hxw : xs.length = wss.length := by rw [dx.length, List.length_map]
  have hi2 : i < 2 := Nat.lt_of_lt_of_le (List.getElem?_eq_some_iff.mp hri).1 hrow.len
  have h15 : wss.length ≤ 15 := by
   have : i = 0 ∨ i = 1 := by omega
   rcases this with rfl | rfl
   ·exact Nat.le_trans hlen (by decide)
   ·exact Nat.le_trans hlen (by decide)
  refine zjx (xs := xs) (AwJ H ga l xs wss pr (rows.take (i + 1)) (.str r.1) (.int r.2.1) (.int r.2.2)) ?st2 ?ls2 ?step2 ?done2
  case st2 => exact ⟨[], [], _, rfl, sc.trans s3, z02, .nil, fun ws h => by simp at h, by simp, hl3, dx.kp s3.kp⟩
  case ls2 =>
   rintro j σ Hd _ ⟨ys, vss, _, rfl, sd, hp, dy, hv, hvl, hld, dxd⟩
   exact SqL.of hld
  case done2 =>
   rintro σ Hd ⟨ys, vss, _, rfl, sd, hp, dy, hv, hvl, hld, dxd⟩
   walk_at "rd7"
   refine ⟨pr, ys, vss, _, _, _, _, _, rfl, sd, sc.free hpr, hp, dy, hv, ?_⟩
   rw [hxw] at hvl
   rw [Nat.pow_succ, Nat.mul_comm]
   exact Nat.le_trans hvl (Nat.mul_le_mul_left _ hlen)
  case step2 =>
   rintro j y σ Hd hy ⟨ys, vss, _, rfl, sd, hp, dy, hv, hvl, hld, dxd⟩
   obtain ⟨ws, hwi, dw⟩ := zc2 dxd hy
   have hfw := hf ws (List.mem_of_getElem? hwi)
   walk_at "rd7"
   have hn : (r.2.2 + 1 - r.2.1).toNat ≤ 15 := by omega
   have nlp : l ≠ pr := z12 hl hpr
   have hwl : ws.length ≤ 2 := by
    have h1 := hfw.len
    have h2 := hrow.len
    rw [List.length_take] at h1
    omega
   refine ⟨.inl ⟨rfl, _, SqL.of hp⟩, _, _, ⟨rfl, rfl⟩, ⟨by omega, by omega, by omega, by omega⟩, ?_⟩
   refine zvq (AwC Hd y ws r.2.1) ⟨Same.refl _, ⟨_, rfl⟩, .nil, Nat.le_refl _⟩ (Nat.lt_of_le_of_lt hn (by decide)) ?_ ?_ ?_
   ·rintro k zs σ' H' ⟨_, _, _, hz⟩
    exact hz
   ·rintro k zs σ' H' hk ⟨sU, ⟨t, rfl⟩, dz, hz⟩
    walk_at "rd7"
    refine ⟨by decide, fun p1 h1 => ?_⟩
    have s4 := z03 h1 (HO.tup [V.int (r.2.1 + k)])
    refine zp6 ((dw.kp sU.kp).kp s4.kp) zdf (by simp; omega) fun v H4 s5 dv => ?_
    have s45 := s4.trans s5
    refine ⟨sU.trans s45, ⟨_, rfl⟩, ?_, by rw [List.length_append, List.length_singleton]; omega⟩
    rw [List.range_succ, List.map_append, List.map_append]
    exact (dz.kp s45.kp).append (.cons dv .nil)
   ·rintro zs σ' H' ⟨sU, _, dz, hz⟩ pe hpe
    have s6 := z03 hpe (HO.lst zs)
    have sU6 := sU.trans s6
    have hp6 := sU6 _ _ hp
    have hyl : ys.length ≤ 15 * j := by rw [dy.length, List.length_map]; exact hvl
    have hj : j < xs.length := (List.getElem?_eq_some_iff.mp hy).1
    have hys : ys.length ≤ 225 := by omega
    refine ⟨pe, rfl, ys, hp6, zs, z02, Nat.le_of_lt (z3w (by omega)), ?_⟩
    have k7 : Kp (upd H' pe (HO.lst zs)) (upd (upd H' pe (HO.lst zs)) pr (HO.lst (ys ++ zs))) := Kp.set hp6
    refine ⟨ys ++ zs, vss ++ (List.range (r.2.2 + 1 - r.2.1).toNat).map (fun (k : Nat) => ws ++ [r.2.1 + (k : Int)]), _, rfl, z7l (sd.trans sU6) (sc.free hpr), z02, ?_, ?_, ?_, by rw [z0q nlp]; exact sU6 _ _ hld, dxd.kp (sU6.kp.trans k7)⟩
    ·rw [List.map_append]
     exact (dy.kp (sU6.kp.trans k7)).append (dz.kp (s6.kp.trans k7))
    ·intro w hw
     rcases List.mem_append.mp hw with hw | hw
     ·exact hv w hw
     ·obtain ⟨k, hk, rfl⟩ := List.mem_map.mp hw
      have hk2 := List.mem_range.mp hk
      rw [z5t hri]
      exact hfw.snoc (by omega) (by omega)
    ·rw [List.length_append, List.length_map, List.length_range]
     omega
end
section
variable {P : Program} {w : World} {K : PySem.W.Frag} {mg : Str → Option Value} {base : Heap} {f : Addr} {fd : FuncData}
mutual
theorem q28 : ∀ (d : D) (p : List Int), ∀ r ∈ z0p p d, ∃ s, r.1 = p ++ s
 | .set x t, p, r, h => by
  simp only [z0p, List.mem_cons, List.not_mem_nil, or_false] at h
  exact ⟨[], by rw [h]; simp⟩
 | .ite t b c, p, r, h => by
  rw [z0p, List.mem_cons, List.mem_append] at h
  rcases h with h | h | h
  ·exact ⟨[], by rw [h]; simp⟩
  ·obtain ⟨i, s, e⟩ := zmo b (p ++ [1]) 0 r h
   exact ⟨1 :: i :: s, by rw [e]; simp⟩
  ·obtain ⟨i, s, e⟩ := zmo c (p ++ [2]) 0 r h
   exact ⟨2 :: i :: s, by rw [e]; simp⟩
 | .whl t m b, p, r, h => by
  rw [z0p, List.mem_cons] at h
  rcases h with h | h
  ·exact ⟨[], by rw [h]; simp⟩
  ·obtain ⟨i, s, e⟩ := zmo b (p ++ [1]) 0 r h
   exact ⟨1 :: i :: s, by rw [e]; simp⟩
theorem zmo : ∀ (b : List D) (p : List Int) (k : Int), ∀ r ∈ z0j p k b, ∃ i s, r.1 = p ++ i :: s
 | [], p, k, r, h => by simp [z0j] at h
 | d :: b, p, k, r, h => by
  rw [z0j, List.mem_append] at h
  rcases h with h | h
  ·obtain ⟨s, e⟩ := q28 d (p ++ [k]) r h
   exact ⟨k, s, by rw [e]; simp⟩
  ·exact zmo b p (k + 1) r h
end
def D.blk (d : D) (n : Int) : Option (List D) := match d with
 | .ite _ b c => if n = 2 then some c else some b
 | .whl _ _ b => some b
 | .set _ _ => none
def atP : List D → List Int → Option D
 | _, [] => none
 | b, [i] => b[i.toNat]?
 | b, i :: n :: r => match b[i.toNat]? with
  | some d => match d.blk n with
   | some bb => atP bb r
   | none => none
  | none => none
mutual
theorem atD : ∀ (d : D) (p q : List Int) (e : D), (p ++ q, e) ∈ z0p p d → (q = [] ∧ e = d) ∨ ∃ n r bb, q = n :: r ∧ d.blk n = some bb ∧ atP bb r = some e
 | .set x t, p, q, e, h => by
  simp only [z0p, List.mem_cons, List.not_mem_nil, or_false, Prod.mk.injEq] at h
  exact .inl ⟨by simpa using h.1, h.2⟩
 | .ite t b c, p, q, e, h => by
  rw [z0p, List.mem_cons, List.mem_append] at h
  rcases h with h | h | h
  ·obtain ⟨h1, h2⟩ := Prod.mk.inj h
   exact .inl ⟨by simpa using h1, h2⟩
  ·obtain ⟨i, s, es⟩ := zmo b (p ++ [1]) 0 _ h
   have eq : q = 1 :: i :: s := by
    have : p ++ q = p ++ (1 :: i :: s) := by rw [show p ++ q = _ from es]; simp
    exact List.append_cancel_left this
   subst eq
   refine .inr ⟨1, i :: s, b, rfl, rfl, ?_⟩
   rw [show p ++ 1 :: i :: s = (p ++ [1]) ++ i :: s by simp] at h
   obtain ⟨j, r, e1, e2⟩ := atB b (p ++ [1]) 0 (i :: s) e h
   rw [Nat.zero_add] at e1
   rw [e1]
   exact e2
  ·obtain ⟨i, s, es⟩ := zmo c (p ++ [2]) 0 _ h
   have eq : q = 2 :: i :: s := by
    have : p ++ q = p ++ (2 :: i :: s) := by rw [show p ++ q = _ from es]; simp
    exact List.append_cancel_left this
   subst eq
   refine .inr ⟨2, i :: s, c, rfl, rfl, ?_⟩
   rw [show p ++ 2 :: i :: s = (p ++ [2]) ++ i :: s by simp] at h
   obtain ⟨j, r, e1, e2⟩ := atB c (p ++ [2]) 0 (i :: s) e h
   rw [Nat.zero_add] at e1
   rw [e1]
   exact e2
 | .whl t m b, p, q, e, h => by
  rw [z0p, List.mem_cons] at h
  rcases h with h | h
  ·obtain ⟨h1, h2⟩ := Prod.mk.inj h
   exact .inl ⟨by simpa using h1, h2⟩
  ·obtain ⟨i, s, es⟩ := zmo b (p ++ [1]) 0 _ h
   have eq : q = 1 :: i :: s := by
    have : p ++ q = p ++ (1 :: i :: s) := by rw [show p ++ q = _ from es]; simp
    exact List.append_cancel_left this
   subst eq
   refine .inr ⟨1, i :: s, b, rfl, rfl, ?_⟩
   rw [show p ++ 1 :: i :: s = (p ++ [1]) ++ i :: s by simp] at h
   obtain ⟨j, r, e1, e2⟩ := atB b (p ++ [1]) 0 (i :: s) e h
   rw [Nat.zero_add] at e1
   rw [e1]
   exact e2
theorem atB : ∀ (b : List D) (p : List Int) (k : Nat) (q : List Int) (e : D), (p ++ q, e) ∈ z0j p (k : Int) b → ∃ (j : Nat) (r : List Int), q = ((k + j : Nat) : Int) :: r ∧ atP b ((j : Int) :: r) = some e
 | [], p, k, q, e, h => by simp [z0j] at h
 | d :: b, p, k, q, e, h => by
  rw [z0j, List.mem_append] at h
  rcases h with h | h
  ·obtain ⟨s, es⟩ := q28 d (p ++ [(k : Int)]) _ h
   have eq : q = (k : Int) :: s := by
    have : p ++ q = p ++ ((k : Int) :: s) := by rw [show p ++ q = _ from es]; simp
    exact List.append_cancel_left this
   subst eq
   rw [show p ++ (k : Int) :: s = (p ++ [(k : Int)]) ++ s by simp] at h
   refine ⟨0, s, by simp, ?_⟩
   rcases atD d (p ++ [(k : Int)]) s e h with ⟨rfl, rfl⟩ | ⟨n, r, bb, rfl, h1, h2⟩
   ·simp [atP]
   ·simp [atP, h1, h2]
  ·obtain ⟨j, r, e1, e2⟩ := atB b p (k + 1) q e (by simpa using h)
   refine ⟨j + 1, r, by rw [e1]; congr 1; omega, ?_⟩
   cases r with
   | nil => simpa [atP] using e2
   | cons n r => simpa [atP] using e2
end
end
section
variable {P : Program} {w : World} {K : PySem.W.Frag} {mg : Str → Option Value} {base : Heap} {f : Addr} {fd : FuncData}
theorem zjp (H : Hp) : ∀ l : List Int, DtA H (l.map V.int) (l.map Dm.int)
 | [] => .nil
 | a :: r => .cons (.int a) (zjp H r)
def zz3 (n : Nat) : Sp := fun vs H Q _ => ∃ (bv pv : V) (b : List D) (p : List Int) (e : D), vs = [bv, pv] ∧ Dt H bv (.tup (z3u b)) ∧ Dt H pv (z2f p) ∧ atP b p = some e ∧ (∀ i ∈ p, 0 ≤ i) ∧ p.length ≤ 2 * n ∧ n ≤ 4 ∧ ∀ x H', Same H H' → Dt H' x e.enc → Q x H'
theorem zs2 {n : Nat} (F : Fun K "_law_at" "_law_at" z3a f fd) (b_len : mg "len" = none) (c_law_at : Callee P w K mg base "_law_at" ["_law_block_here", "_law_path"] (n + 1) (zz3 n)) : FnOk P w K mg base CX0 (n + 2) f fd ["_law_block_here", "_law_path"] (zz3 (n + 1)) := by
 refine F.ok sc_law_at (fun vs H Q E h => ?_) (fun cdv A outer s H vs Q E hr h => ?_)
 ·obtain ⟨bv, pv, b, p, e, rfl, _⟩ := h
  rfl
 obtain ⟨bv, pv, b, p, e, rfl, hb, hp, hat, hpos, hpl, hn, q⟩ := h
 obtain ⟨ab, xs, rfl, hab, hda⟩ := hb.tupI
 obtain ⟨pa, ps, rfl, hpa, dpa⟩ := hp.tupI
 have eps := z7n dpa
 subst eps
 refine ⟨_, (z05 (z1e (i := 2) sc_law_at.nd rfl zbp (z0v z0e (z00 (i := 0) rfl z7g z4b z4c) (z0v z0e (z00 (i := 1) rfl z38 z1n z1p) z01 (fun _ _ => rfl)) (fun _ _ => rfl)) (z06 rfl))
 (z05 (z2k (z0f zc1 (zcb zve zju b_len zef (z07 (z00 (i := 1) rfl z38 z1n z1p) z04) zdk ze6) z01 (z0w _)) (z08 (z0o (z00 (i := 2) rfl z39 z1o z1q))) z0y)
 (z05 (z1e (i := 3) sc_law_at.nd rfl zat (zjd (PW.pt (zkz (z0f (gEq hr.units) (z0v z0e (z00 (i := 2) rfl z39 z1o z1q) z01 (fun _ _ => rfl)) z0u (z0w _)) (zih (z0f zc1 (z0v z0e (z00 (i := 1) rfl z38 z1n z1p) z01 (fun _ _ => rfl)) z01 (z0w _))))) (z0v z0e (z00 (i := 2) rfl z39 z1o z1q) z01 (fun _ _ => rfl)) (z0v z0e (z00 (i := 2) rfl z39 z1o z1q) z01 (fun _ _ => rfl))) (z06 rfl))
 (z08 (z0o (z1d c_law_at hr (by omega) (z07 (z00 (i := 3) rfl zaj zk3 zk9) (z07 (z6k z97 (z00 (i := 1) rfl z38 z1n z1p) (z9b z01) z9c) z04)) zf8 zis)))))), z0s fun N1 e1 => ?_⟩
 walk_at "rd7"
 cases p with
 | nil => cases hat
 | cons i rest =>
  have hi : 0 ≤ i := hpos i (.head _)
  obtain ⟨j, rfl⟩ : ∃ j : Nat, i = (j : Int) := ⟨i.toNat, by omega⟩
  obtain ⟨d, hbj⟩ : ∃ d, b[j]? = some d := by
   cases hz : b[j]? with
   | some d => exact ⟨d, rfl⟩
   | none => cases rest <;> simp [atP, hz] at hat
  have hxl : xs.length = b.length := by rw [hda.length, z2l]
  have hjl : j < b.length := (List.getElem?_eq_some_iff.mp hbj).1
  obtain ⟨x, hxj⟩ : ∃ x, xs[j]? = some x := ⟨_, List.getElem?_eq_getElem (by omega)⟩
  obtain ⟨d', hbj', dx⟩ := zhr hda hxj
  rw [hbj] at hbj'
  cases hbj'
  refine ⟨_, SqT.of hpa, _, z1g, _, _, rfl, SqT.of hab, x, z13 hxj, ?_⟩
  rw [e1]
  refine z0s fun N2 e2 => ?_
  walk_at "rd7"
  refine ⟨_, .inl ⟨pa, _, rfl, .inr (SqT.of hpa), rfl⟩, ?_⟩
  cases rest with
  | nil =>
   have he : e = d := by simpa [atP, hbj] using hat.symm
   subst he
   rw [if_pos (by simp)]
   exact q x H (Same.refl H) dx
  | cons n rest =>
   rw [if_neg (by simp; omega), e2]
   obtain ⟨ad, its, rfl, had, dit⟩ := zly dx
   refine z0s fun N3 e3 => ?_
   walk_at "rd7"
   have last : ∀ (y : V) (bb : List D), d.blk n = some bb → Dt H y (.tup (z3u bb)) → N3 [some (V.ref ab), some (V.ref pa), some (V.ref ad), some y] H := by
    intro y bb hbk dy
    have hat2 : atP bb rest = some e := by simpa [atP, hbj, hbk] using hat
    rw [e3]
    walk_at "rd7"
    have hlen : (((j : Int) :: n :: rest).map V.int).length = rest.length + 2 := by simp
    have hs : HT.sIx (((j : Int) :: n :: rest).map V.int).length 0 (some 2) = 2 := by
     rw [hlen]
     show min 2 (rest.length + 2) = 2
     omega
    refine ⟨_, SqT.of hpa, .inr ⟨fun z => by rw [hs] at z; exact absurd z.1 (by decide), fun p1 h1 => ?_⟩⟩
    have ec : zu1 (((j : Int) :: n :: rest).map V.int) (some 2) none = rest.map V.int := by
     unfold zu1
     rw [hs, HT.zj7, hlen]
     simp only [List.map_cons, List.drop_succ_cons, List.drop_zero, Nat.add_sub_cancel]
     exact List.take_of_length_le (by simp)
    rw [ec]
    have s1 := z03 h1 (HO.tup (rest.map V.int))
    have dp : Dt (upd H p1 (HO.tup (rest.map V.int))) (.ref p1) (z2f rest) := by
     exact .tup z02 (zjp _ rest)
    refine ⟨y, .ref p1, bb, rest, e, rfl, dy.kp s1.kp, dp, hat2, fun i hi => hpos i (.tail _ (.tail _ hi)), by simp only [List.length_cons] at hpl; omega, by omega, fun x H' s2 dx => q x H' (s1.trans s2) dx⟩
   refine ⟨_, SqT.of had, _, z1g, _, zke, ?_⟩
   cases d with
   | set x t => simp [atP, hbj, D.blk] at hat
   | whl t m b1 =>
    rcases dit with _ | ⟨e0, _ | ⟨d1', _ | ⟨e2', _ | ⟨d3', _ | _⟩⟩⟩⟩
    rw [if_pos (show decide ((D.whl t m b1).kind = "while") = true from decide_eq_true rfl)]
    exact ⟨_, SqT.of had, _, z13 (j := 3) rfl, last _ b1 rfl d3'⟩
   | ite t b1 c1 =>
    rcases dit with _ | ⟨e0, _ | ⟨d1', _ | ⟨d2', _ | ⟨d3', _ | _⟩⟩⟩⟩
    rw [if_neg (by rw [decide_eq_true_eq]; exact show ¬ ("if" : Str) = "while" by decide +kernel)]
    refine ⟨_, SqT.of hpa, _, z13 (j := 1) rfl, _, rfl, ?_⟩
    by_cases h2 : n = 2
    ·rw [if_pos h2]
     exact ⟨_, SqT.of had, _, z13 (j := 3) rfl, last _ c1 (by simp [D.blk, h2]) d3'⟩
    ·rw [if_neg h2]
     exact ⟨_, SqT.of had, _, z13 (j := 2) rfl, last _ b1 (by simp [D.blk, h2]) d2'⟩
end
section
variable {P : Program} {w : World} {K : PySem.W.Frag} {mg : Str → Option Value} {base : Heap} {f : Addr} {fd : FuncData}
mutual
theorem zok {dp : List Int} {o : D} : ∀ (d : D) (p : List Int), (∀ r ∈ z0p p d, r.1 ≠ dp) → prD dp o p d = d
 | .set x t, p, h => by rw [prD, if_neg (h (p, .set x t) (by simp [z0p]))]
 | .ite t b c, p, h => by
  rw [prD, if_neg (h (p, .ite t b c) (by simp [z0p])), z9a b _ 0 (fun r hr => h r (by rw [z0p]; exact .tail _ (List.mem_append_left _ hr))), z9a c _ 0 (fun r hr => h r (by rw [z0p]; exact .tail _ (List.mem_append_right _ hr)))]
 | .whl t m b, p, h => by
  rw [prD, if_neg (h (p, .whl t m b) (by simp [z0p])), z9a b _ 0 (fun r hr => h r (by rw [z0p]; exact .tail _ hr))]
theorem z9a {dp : List Int} {o : D} : ∀ (b : List D) (p : List Int) (k : Int), (∀ r ∈ z0j p k b, r.1 ≠ dp) → prB dp o p k b = b
 | [], p, k, h => by rw [prB]
 | d :: b, p, k, h => by
  rw [prB, zok d _ (fun r hr => h r (by rw [z0j]; exact List.mem_append_left _ hr)), z9a b p (k + 1) (fun r hr => h r (by rw [z0j]; exact List.mem_append_right _ hr))]
end
def D.setB (d : D) (n : Int) (x : List D) : D := match d with
 | .ite t b c => if n = 2 then .ite t b x else .ite t x c
 | .whl t m _ => .whl t m x
 | .set y t => .set y t
def z7p : List D → List Int → D → List D
 | b, [], _ => b
 | b, [i], o => b.take i.toNat ++ [o] ++ b.drop (i.toNat + 1)
 | b, i :: n :: r, o => match b[i.toNat]? with
  | some d => match d.blk n with
   | some bb => b.take i.toNat ++ [d.setB n (z7p bb r o)] ++ b.drop (i.toNat + 1)
   | none => b
  | none => b
theorem zng {p q s : List Int} {a b : Int} {z : List Int} (h : a ≠ b) : p ++ a :: q ≠ (p ++ [b]) ++ z := fun e => by
 rw [List.append_assoc] at e
 have := List.append_cancel_left e
 simp only [List.cons_append, List.nil_append, List.cons.injEq] at this
 exact h this.1
mutual
theorem q2d (o : D) : ∀ (d : D) (p q : List Int) (e : D), (p ++ q, e) ∈ z0p p d → (q = [] ∧ prD (p ++ q) o p d = o) ∨ ∃ n r bb, q = n :: r ∧ d.blk n = some bb ∧ prD (p ++ q) o p d = d.setB n (z7p bb r o)
 | .set x t, p, q, e, h => by
  simp only [z0p, List.mem_cons, List.not_mem_nil, or_false, Prod.mk.injEq] at h
  have hq : q = [] := by simpa using h.1
  subst hq
  exact .inl ⟨rfl, by rw [prD, if_pos (by simp)]⟩
 | .ite t b c, p, q, e, h => by
  rw [z0p, List.mem_cons, List.mem_append] at h
  rcases h with h | h | h
  ·obtain ⟨h1, h2⟩ := Prod.mk.inj h
   have hq : q = [] := by simpa using h1
   subst hq
   exact .inl ⟨rfl, by rw [prD, if_pos (by simp)]⟩
  ·obtain ⟨i, s, es⟩ := zmo b (p ++ [1]) 0 _ h
   have eq : q = 1 :: i :: s := by
    have : p ++ q = p ++ (1 :: i :: s) := by rw [show p ++ q = _ from es]; simp
    exact List.append_cancel_left this
   subst eq
   refine .inr ⟨1, i :: s, b, rfl, rfl, ?_⟩
   have hc : prB (p ++ 1 :: i :: s) o (p ++ [2]) 0 c = c := z9a c _ 0 fun r hr z => by
    obtain ⟨i', s', e'⟩ := zmo c (p ++ [2]) 0 r hr
    exact zng (p := p) (q := i :: s) (s := []) (a := 1) (b := 2) (z := i' :: s') (by decide) (z.symm.trans e')
   rw [prD, if_neg (by simp), hc]
   rw [show p ++ 1 :: i :: s = (p ++ [1]) ++ i :: s by simp] at h ⊢
   obtain ⟨j, r, e1, e2⟩ := withB o b (p ++ [1]) 0 (i :: s) e h
   rw [Nat.zero_add] at e1
   show D.ite t (prB (p ++ [1] ++ i :: s) o (p ++ [1]) ((0 : Nat) : Int) b) c = D.ite t (z7p b (i :: s) o) c
   rw [e2, e1]
  ·obtain ⟨i, s, es⟩ := zmo c (p ++ [2]) 0 _ h
   have eq : q = 2 :: i :: s := by
    have : p ++ q = p ++ (2 :: i :: s) := by rw [show p ++ q = _ from es]; simp
    exact List.append_cancel_left this
   subst eq
   refine .inr ⟨2, i :: s, c, rfl, rfl, ?_⟩
   have hc : prB (p ++ 2 :: i :: s) o (p ++ [1]) 0 b = b := z9a b _ 0 fun r hr z => by
    obtain ⟨i', s', e'⟩ := zmo b (p ++ [1]) 0 r hr
    exact zng (p := p) (q := i :: s) (s := []) (a := 2) (b := 1) (z := i' :: s') (by decide) (z.symm.trans e')
   rw [prD, if_neg (by simp), hc]
   rw [show p ++ 2 :: i :: s = (p ++ [2]) ++ i :: s by simp] at h ⊢
   obtain ⟨j, r, e1, e2⟩ := withB o c (p ++ [2]) 0 (i :: s) e h
   rw [Nat.zero_add] at e1
   show D.ite t b (prB (p ++ [2] ++ i :: s) o (p ++ [2]) ((0 : Nat) : Int) c) = D.ite t b (z7p c (i :: s) o)
   rw [e2, e1]
 | .whl t m b, p, q, e, h => by
  rw [z0p, List.mem_cons] at h
  rcases h with h | h
  ·obtain ⟨h1, h2⟩ := Prod.mk.inj h
   have hq : q = [] := by simpa using h1
   subst hq
   exact .inl ⟨rfl, by rw [prD, if_pos (by simp)]⟩
  ·obtain ⟨i, s, es⟩ := zmo b (p ++ [1]) 0 _ h
   have eq : q = 1 :: i :: s := by
    have : p ++ q = p ++ (1 :: i :: s) := by rw [show p ++ q = _ from es]; simp
    exact List.append_cancel_left this
   subst eq
   refine .inr ⟨1, i :: s, b, rfl, rfl, ?_⟩
   rw [prD, if_neg (by simp)]
   rw [show p ++ 1 :: i :: s = (p ++ [1]) ++ i :: s by simp] at h ⊢
   obtain ⟨j, r, e1, e2⟩ := withB o b (p ++ [1]) 0 (i :: s) e h
   rw [Nat.zero_add] at e1
   show D.whl t m (prB (p ++ [1] ++ i :: s) o (p ++ [1]) ((0 : Nat) : Int) b) = D.whl t m (z7p b (i :: s) o)
   rw [e2, e1]
theorem withB (o : D) : ∀ (b : List D) (p : List Int) (k : Nat) (q : List Int) (e : D), (p ++ q, e) ∈ z0j p (k : Int) b → ∃ (j : Nat) (r : List Int), q = ((k + j : Nat) : Int) :: r ∧ prB (p ++ q) o p (k : Int) b = z7p b ((j : Int) :: r) o
 | [], p, k, q, e, h => by simp [z0j] at h
 | d :: b, p, k, q, e, h => by
  rw [z0j, List.mem_append] at h
  rcases h with h | h
  ·obtain ⟨s, es⟩ := q28 d (p ++ [(k : Int)]) _ h
   have eq : q = (k : Int) :: s := by
    have : p ++ q = p ++ ((k : Int) :: s) := by rw [show p ++ q = _ from es]; simp
    exact List.append_cancel_left this
   subst eq
   have hb : prB (p ++ (k : Int) :: s) o p ((k : Int) + 1) b = b := z9a b p _ fun r hr z => by
    obtain ⟨i', s', e'⟩ := zmo b p ((k : Int) + 1) r hr
    obtain ⟨rp, rd⟩ := r
    have e' : rp = p ++ i' :: s' := e'
    subst e'
    obtain ⟨j, r', e1, _⟩ := atB b p (k + 1) (i' :: s') rd (by simpa using hr)
    have z : p ++ i' :: s' = p ++ (k : Int) :: s := z
    have := List.append_cancel_left z
    rw [e1] at this
    simp only [List.cons.injEq] at this
    omega
   rw [prB, hb]
   rw [show p ++ (k : Int) :: s = (p ++ [(k : Int)]) ++ s by simp] at h ⊢
   refine ⟨0, s, by simp, ?_⟩
   rcases q2d o d (p ++ [(k : Int)]) s e h with ⟨rfl, e2⟩ | ⟨n, r, bb, rfl, h1, e2⟩
   ·rw [e2]; simp [z7p]
   ·rw [e2]; simp [z7p, h1]
  ·have h' : (p ++ q, e) ∈ z0j p ((k + 1 : Nat) : Int) b := by simpa using h
   obtain ⟨j, r, e1, e2⟩ := withB o b p (k + 1) q e h'
   have hd : prD (p ++ q) o (p ++ [(k : Int)]) d = d := zok d _ fun x hx z => by
    obtain ⟨s', e'⟩ := q28 d (p ++ [(k : Int)]) x hx
    rw [z, e1] at e'
    exact zng (p := p) (s := []) (by omega) e'
   refine ⟨j + 1, r, by rw [e1]; congr 1; omega, ?_⟩
   rw [prB, hd, show ((k : Int) + 1) = ((k + 1 : Nat) : Int) by simp, e2]
   have tj : ((j + 1 : Nat) : Int).toNat = j + 1 := by omega
   cases r with
   | nil => simp [z7p, tj]
   | cons n r =>
    rw [z7p, z7p, tj]
    simp only [Int.toNat_natCast, List.getElem?_cons_succ, List.take_succ_cons, List.drop_succ_cons]
    cases b[j]? with
    | none => rfl
    | some e =>
     simp only
     cases e.blk n with
     | none => rfl
     | some bb => rfl
end
theorem zqr {b : List D} {p : List Int} {e o : D} (h : (p, e) ∈ z3y b) : z7p b p o = prB p o [] 0 b := by
 obtain ⟨j, r, e1, e2⟩ := withB o b [] 0 p e h
 rw [List.nil_append, Nat.zero_add] at *
 rw [show ((0 : Nat) : Int) = 0 from rfl] at e2
 rw [e2, e1]
theorem q32 {b : List D} {p : List Int} {e : D} (h : (p, e) ∈ z3y b) : atP b p = some e := by
 obtain ⟨j, r, e1, e2⟩ := atB b [] 0 p e h
 rw [Nat.zero_add] at e1
 rw [e1, e2]
mutual
theorem nnD : ∀ (d : D) (p : List Int), (∀ i ∈ p, 0 ≤ i) → ∀ r ∈ z0p p d, ∀ i ∈ r.1, 0 ≤ i
 | .set x t, p, hp, r, h => by
  simp only [z0p, List.mem_cons, List.not_mem_nil, or_false] at h
  rw [h]; exact hp
 | .ite t b c, p, hp, r, h => by
  rw [z0p, List.mem_cons, List.mem_append] at h
  rcases h with h | h | h
  ·rw [h]; exact hp
  ·exact nnB b (p ++ [1]) 0 (fun i hi => by rcases List.mem_append.mp hi with hi | hi; exact hp i hi; rw [List.mem_singleton.mp hi]; decide) (by decide) r h
  ·exact nnB c (p ++ [2]) 0 (fun i hi => by rcases List.mem_append.mp hi with hi | hi; exact hp i hi; rw [List.mem_singleton.mp hi]; decide) (by decide) r h
 | .whl t m b, p, hp, r, h => by
  rw [z0p, List.mem_cons] at h
  rcases h with h | h
  ·rw [h]; exact hp
  ·exact nnB b (p ++ [1]) 0 (fun i hi => by rcases List.mem_append.mp hi with hi | hi; exact hp i hi; rw [List.mem_singleton.mp hi]; decide) (by decide) r h
theorem nnB : ∀ (b : List D) (p : List Int) (k : Int), (∀ i ∈ p, 0 ≤ i) → 0 ≤ k → ∀ r ∈ z0j p k b, ∀ i ∈ r.1, 0 ≤ i
 | [], p, k, hp, hk, r, h => by simp [z0j] at h
 | d :: b, p, k, hp, hk, r, h => by
  rw [z0j, List.mem_append] at h
  rcases h with h | h
  ·exact nnD d (p ++ [k]) (fun i hi => by rcases List.mem_append.mp hi with hi | hi; exact hp i hi; rw [List.mem_singleton.mp hi]; exact hk) r h
  ·exact nnB b p (k + 1) hp (by omega) r h
end
theorem zsa {b : List D} {p : List Int} {e : D} (h : (p, e) ∈ z3y b) : ∀ i ∈ p, 0 ≤ i := nnB b [] 0 (by simp) (by decide) _ h
theorem zwo : ∀ (n : Nat) (b : List D) (p : List Int) (e : D), okW n b → atP b p = some e → p.length ≤ 2 * n
 | 0, _, _, _, h, _ => h.elim
 | n + 1, b, [], e, h, _ => by simp
 | n + 1, b, [i], e, h, _ => by simp only [List.length_cons, List.length_nil]; omega
 | n + 1, b, i :: k :: r, e, h, ha => by
  rw [atP] at ha
  cases hb : b[i.toNat]? with
  | none => rw [hb] at ha; cases ha
  | some d =>
   rw [hb] at ha
   simp only at ha
   have hd := h.2 d (List.mem_of_getElem? hb)
   cases hk : d.blk k with
   | none => rw [hk] at ha; cases ha
   | some bb =>
    rw [hk] at ha
    simp only at ha
    have hbb : okW n bb := by
     cases d with
     | set x t => cases hk
     | ite t b1 c1 =>
      have hk : (if k = 2 then some c1 else some b1) = some bb := hk
      split at hk <;> cases hk
      ·exact hd.2.2
      ·exact hd.2.1
     | whl t m b1 => cases hk; exact hd.2
    have := zwo n bb r e hbb ha
    simp only [List.length_cons]
    omega
theorem zwn {n : Nat} {d : D} {k : Int} {bb : List D} (hd : zmp n d) (hk : d.blk k = some bb) : okW n bb := by
 cases d with
 | set x t => cases hk
 | ite t b1 c1 =>
  have hk : (if k = 2 then some c1 else some b1) = some bb := hk
  split at hk <;> cases hk
  ·exact hd.2.2
  ·exact hd.2.1
 | whl t m b1 => cases hk; exact hd.2
theorem zjz : ∀ b : List D, z3u b = b.map D.enc
 | [] => by simp [z3u]
 | d :: b => by rw [z3u, List.map_cons, zjz b]
def zth (xs : List Dm) (lo hi : Option Int) : List Dm := (xs.drop (HT.sIx xs.length 0 lo)).take (HT.sIx xs.length xs.length hi - HT.sIx xs.length 0 lo)
theorem zp0 {H : Hp} : ∀ {xs : List V} {ds : List Dm} (n : Nat), DtA H xs ds → DtA H (xs.take n) (ds.take n)
 | _, _, 0, _ => by simp; exact .nil
 | _, _, n + 1, .nil => by simp; exact .nil
 | _, _, n + 1, .cons h t => by simp only [List.take_succ_cons]; exact .cons h (zp0 n t)
theorem zp1 {H : Hp} : ∀ {xs : List V} {ds : List Dm} (n : Nat), DtA H xs ds → DtA H (xs.drop n) (ds.drop n)
 | _, _, 0, h => by simpa using h
 | _, _, n + 1, .nil => by simp; exact .nil
 | _, _, n + 1, .cons h t => by simp only [List.drop_succ_cons]; exact zp1 n t
theorem slD {K : PySem.W.Frag} {H : Hp} {Q : VK} {x : V} {ds : List Dm} {lo hi : Option Int} (dx : Dt H x (.tup ds)) (h : ∀ z H', Same H H' → Dt H' z (.tup (zth ds lo hi)) → Q z H') : zz6 K x lo hi H Q := by
 obtain ⟨a, xs, rfl, ha, da⟩ := dx.tupI
 have hl := da.length
 refine ⟨a, xs, rfl, SqT.of ha, ?_⟩
 by_cases hw : HT.sIx xs.length 0 lo = 0 ∧ HT.sIx xs.length xs.length hi = xs.length
 ·refine .inl ⟨hw, h _ _ (Same.refl _) ?_⟩
  unfold zth
  rw [← hl, hw.1, hw.2, List.drop_zero, Nat.sub_zero, hl, List.take_length]
  exact dx
 ·refine .inr ⟨hw, fun p hp => ?_⟩
  have s1 := z03 hp (HO.tup (zu1 xs lo hi))
  refine h _ _ s1 (.tup z02 ?_)
  unfold zu1 zth
  rw [← hl]
  exact zp0 _ (zp1 _ (da.kp s1.kp))
theorem zwk (ds : List Dm) (j : Nat) : zth ds none (some (j : Int)) = ds.take j := by
 unfold zth
 rw [HT.zj7, HT.zrb, List.drop_zero, Nat.sub_zero]
 by_cases h : j ≤ ds.length
 ·rw [Nat.min_eq_left h]
 ·rw [Nat.min_eq_right (by omega), List.take_length, List.take_of_length_le (by omega)]
theorem zp4 (ds : List Dm) (j : Nat) : zth ds (some (j : Int)) none = ds.drop j := by
 unfold zth
 rw [HT.zj7, HT.zrb]
 by_cases h : j ≤ ds.length
 ·rw [Nat.min_eq_left h, List.take_of_length_le (by rw [List.length_drop]; omega)]
 ·rw [Nat.min_eq_right (by omega), List.drop_of_length_le (by omega), List.drop_of_length_le (by omega), List.take_nil]
end
section
variable {P : Program} {w : World} {K : PySem.W.Frag} {mg : Str → Option Value} {base : Heap} {f : Addr} {fd : FuncData}
mutual
theorem q3z : ∀ (d : D) (p : List Int), ∀ r ∈ z0p p d, r.1 = p ∨ (∃ s, r.1 = p ++ 1 :: s) ∨ ∃ s, r.1 = p ++ 2 :: s
 | .set x t, p, r, h => by
  simp only [z0p, List.mem_cons, List.not_mem_nil, or_false] at h
  exact .inl (by rw [h])
 | .ite t b c, p, r, h => by
  rw [z0p, List.mem_cons, List.mem_append] at h
  rcases h with h | h | h
  ·exact .inl (by rw [h])
  ·obtain ⟨i, s, e⟩ := zmo b (p ++ [1]) 0 r h
   exact .inr (.inl ⟨i :: s, by rw [e]; simp⟩)
  ·obtain ⟨i, s, e⟩ := zmo c (p ++ [2]) 0 r h
   exact .inr (.inr ⟨i :: s, by rw [e]; simp⟩)
 | .whl t m b, p, r, h => by
  rw [z0p, List.mem_cons] at h
  rcases h with h | h
  ·exact .inl (by rw [h])
  ·obtain ⟨i, s, e⟩ := zmo b (p ++ [1]) 0 r h
   exact .inr (.inl ⟨i :: s, by rw [e]; simp⟩)
theorem q3g : ∀ (b : List D) (p : List Int) (k : Int), ∀ r ∈ z0j p k b, ∃ i, r.1 = p ++ [i] ∨ (∃ s, r.1 = p ++ i :: 1 :: s) ∨ ∃ s, r.1 = p ++ i :: 2 :: s
 | [], p, k, r, h => by simp [z0j] at h
 | d :: b, p, k, r, h => by
  rw [z0j, List.mem_append] at h
  rcases h with h | h
  ·refine ⟨k, ?_⟩
   rcases q3z d (p ++ [k]) r h with e | ⟨s, e⟩ | ⟨s, e⟩
   ·exact .inl e
   ·exact .inr (.inl ⟨s, by rw [e]; simp⟩)
   ·exact .inr (.inr ⟨s, by rw [e]; simp⟩)
  ·exact q3g b p (k + 1) r h
end
theorem q0c {b : List D} {e : D} (h : ([0, 0, 7], e) ∈ z3y b) : False := by
 obtain ⟨i, h | ⟨s, h⟩ | ⟨s, h⟩⟩ := q3g b [] 0 _ h
 ·simp at h
 ·simp at h
 ·simp at h
mutual
theorem zzt {dp : List Int} {o : D} : ∀ (d : D) (p : List Int), (∀ r ∈ z0p p d, r.1 = dp → r.2 = o) → prD dp o p d = d
 | .set x t, p, h => by
  rw [prD]
  split
  ·rename_i e
   exact (h (p, .set x t) (by simp [z0p]) e).symm
  ·rfl
 | .ite t b c, p, h => by
  rw [prD]
  split
  ·rename_i e
   exact (h (p, .ite t b c) (by simp [z0p]) e).symm
  ·rw [zl0 b _ 0 (fun r hr => h r (by rw [z0p]; exact .tail _ (List.mem_append_left _ hr))), zl0 c _ 0 (fun r hr => h r (by rw [z0p]; exact .tail _ (List.mem_append_right _ hr)))]
 | .whl t m b, p, h => by
  rw [prD]
  split
  ·rename_i e
   exact (h (p, .whl t m b) (by simp [z0p]) e).symm
  ·rw [zl0 b _ 0 (fun r hr => h r (by rw [z0p]; exact .tail _ hr))]
theorem zl0 {dp : List Int} {o : D} : ∀ (b : List D) (p : List Int) (k : Int), (∀ r ∈ z0j p k b, r.1 = dp → r.2 = o) → prB dp o p k b = b
 | [], p, k, h => by rw [prB]
 | d :: b, p, k, h => by
  rw [prB, zzt d _ (fun r hr => h r (by rw [z0j]; exact List.mem_append_left _ hr)), zl0 b p (k + 1) (fun r hr => h r (by rw [z0j]; exact List.mem_append_right _ hr))]
end
theorem zz9 {b : List D} {p : List Int} (h : p ∈ whP b) : ∃ t m bb, (p, D.whl t m bb) ∈ z3y b := by
 unfold whP whR at h
 obtain ⟨r, hr, rfl⟩ := List.mem_map.mp h
 obtain ⟨h1, h2⟩ := List.mem_filter.mp hr
 obtain ⟨rp, d⟩ := r
 cases d with
 | set x t => cases h2
 | ite t b c => cases h2
 | whl t m bb => exact ⟨t, m, bb, h1⟩
theorem q0h {b : List D} {p : List Int} {t : T} {m : Int} {bb : List D} (h : (p, D.whl t m bb) ∈ z3y b) : p ∈ whP b := by
 unfold whP whR
 exact List.mem_map.mpr ⟨_, List.mem_filter.mpr ⟨h, rfl⟩, rfl⟩
abbrev zc0 : List Str := ["zero", "over", "long"]
theorem zj4 {i : Int} {p q : List Int} {u : Str} (h : zkc i p = .ref u q) : u ∈ zc0 := by
 unfold zkc at h
 split at h
 ·cases h; simp
 ·split at h
  ·cases h; simp
  ·cases h
theorem ze1 {c : Cnt} : ∀ (t : T) (p : List Int) {u : Str} {q : List Int} {r : List RI}, evT c t p = (.ref u q, r) → u ∈ zc0
 | .num i, p, u, q, r, h => by rw [evT] at h; exact zj4 (congrArg Prod.fst h)
 | .nm x, p, u, q, r, h => by rw [evT] at h; exact zj4 (congrArg Prod.fst h)
 | .op w a b, p, u, q, r, h => by
  rcases e1 : evT c a (p ++ [0]) with ⟨r1, w1⟩
  cases r1 with
  | ref u1 q1 =>
   rw [zij e1] at h
   cases h
   exact ze1 a _ e1
  | had x =>
   rcases e2 : evT c b (p ++ [1]) with ⟨r2, w2⟩
   cases r2 with
   | ref u1 q1 =>
    rw [zcd e1 e2] at h
    cases h
    exact ze1 b _ e2
   | had y =>
    by_cases h3 : w = .quo ∧ y = 0
    ·obtain ⟨rfl, rfl⟩ := h3
     rw [zcc e1 e2] at h
     cases h; simp
    ·rw [zh3 e1 e2 h3] at h
     exact zj4 (congrArg Prod.fst h)
theorem zsc {cond : Cnt → Rs × List RI} {body : Cnt → Out} {p : List Int} (hc : ∀ c u q r, cond c = (.ref u q, r) → u ∈ zc0) (hb : ∀ c e, (body c).1 = some e → e.1 ∈ zc0) : ∀ (k : Nat) (c : Cnt) (e : Ref), (z4i cond body p k c).1 = some e → e.1 ∈ zc0 := by
 intro k
 induction k with
 | zero =>
  intro c e h
  rcases e1 : cond c with ⟨r1, w1⟩
  cases r1 with
  | ref u q => rw [z5b e1] at h; cases h; exact hc c u q w1 e1
  | had v =>
   by_cases hv : v = 0
   ·subst hv; rw [z4g e1] at h; cases h
   ·rw [z8m e1 hv] at h; cases h; simp
 | succ k ih =>
  intro c e h
  rcases e1 : cond c with ⟨r1, w1⟩
  cases r1 with
  | ref u q => rw [z5b e1] at h; cases h; exact hc c u q w1 e1
  | had v =>
   by_cases hv : v = 0
   ·subst hv; rw [z4g e1] at h; cases h
   ·rcases e2 : body c with ⟨o1, c1, v1⟩
    cases o1 with
    | some u =>
     rw [z5v e1 hv e2] at h
     cases h
     exact hb c e (by rw [e2])
    | none =>
     rw [z5w e1 hv e2] at h
     exact ih c1 e h
mutual
theorem zvh : ∀ (d : D) (p : List Int) (c : Cnt) (e : Ref), (evD p d c).1 = some e → e.1 ∈ zc0
 | .set x t, p, c, e, h => by
  rcases e1 : evT c t (p ++ [0]) with ⟨r1, w1⟩
  cases r1 with
  | ref u q => rw [zc9 e1] at h; cases h; exact ze1 t _ e1
  | had v => rw [zca e1] at h; cases h
 | .ite t b b2, p, c, e, h => by
  rcases e1 : evT c t (p ++ [0]) with ⟨r1, w1⟩
  cases r1 with
  | ref u q => rw [z9n e1] at h; cases h; exact ze1 t _ e1
  | had v =>
   by_cases hv : v = 0
   ·subst hv
    rw [zdr e1] at h
    exact ze2 b2 _ 0 c e h
   ·rw [z9m e1 hv] at h
    exact ze2 b _ 0 c e h
 | .whl t m b, p, c, e, h => by
  rw [evD] at h
  exact zsc (cond := fun c => evT c t (p ++ [0])) (body := fun c => evB (p ++ [1]) 0 b c) (fun c u q r h => ze1 t _ h) (fun c e h => ze2 b _ 0 c e h) _ c e h
theorem ze2 : ∀ (b : List D) (p : List Int) (k : Int) (c : Cnt) (e : Ref), (evB p k b c).1 = some e → e.1 ∈ zc0
 | [], p, k, c, e, h => by rw [evB] at h; cases h
 | d :: b, p, k, c, e, h => by
  rcases e1 : evD (p ++ [k]) d c with ⟨o1, c1, w1⟩
  cases o1 with
  | some u =>
   rw [z6o e1] at h
   cases h
   exact zvh d _ c e (by rw [e1])
  | none =>
   rw [z6p e1] at h
   exact ze2 b p (k + 1) c1 e h
end
theorem zqp : ∀ x ∈ zc0, PyData.strOk x = true := by
 intro x hx
 simp only [zc0, List.mem_cons, List.not_mem_nil, or_false] at hx
 rcases hx with rfl | rfl | rfl <;> decide +kernel
theorem zgy : ∀ {a b : Cnt}, (∀ x, x ∈ a ↔ x ∈ b) → a.Pairwise (fun p q => z74 p.1 < z74 q.1) → b.Pairwise (fun p q => z74 p.1 < z74 q.1) → a = b
 | [], [], _, _, _ => rfl
 | [], y :: b, h, _, _ => absurd ((h y).mpr (.head _)) (by simp)
 | x :: a, [], h, _, _ => absurd ((h x).mp (.head _)) (by simp)
 | x :: a, y :: b, h, p1, p2 => by
  obtain ⟨a1, a2⟩ := List.pairwise_cons.mp p1
  obtain ⟨b1, b2⟩ := List.pairwise_cons.mp p2
  have exy : x = y := by
   rcases List.mem_cons.mp ((h x).mp (.head _)) with e | e
   ·exact e
   ·rcases List.mem_cons.mp ((h y).mpr (.head _)) with e2 | e2
    ·exact e2.symm
    ·have l1 := b1 x e
     have l2 := a1 y e2
     omega
  subst exy
  have : ∀ z, z ∈ a ↔ z ∈ b := fun z => by
   constructor
   ·intro hz
    rcases List.mem_cons.mp ((h z).mp (.tail _ hz)) with e | e
    ·have := a1 z hz
     rw [e] at this
     omega
    ·exact e
   ·intro hz
    rcases List.mem_cons.mp ((h z).mpr (.tail _ hz)) with e | e
    ·have := b1 z hz
     rw [e] at this
     omega
    ·exact e
  rw [zgy this a2 b2]
def zql (o : Out) (ms : Cnt) : List Dm := match o.1 with
 | some e => [.str "refused", .str e.1]
 | none => [.str "told", .tup (ms.map zxd)]
def q00 (o : Out) (ms : Cnt) (H' : Hp) (r : V) : Prop := ∃ more, Dt H' r (.tup (zql o ms ++ more)) ∧ (o.1 = none → ms.Perm o.2.1 ∧ ms.Pairwise (fun p q => z74 p.1 < z74 q.1))
theorem zom {o : Out} {H' : Hp} {r : V} (h : q29 o H' r) : ∃ ms, q00 o ms H' r := by
 unfold q29 at h
 unfold q00 zql
 rcases o with ⟨oo, cc, rr⟩
 cases oo with
 | some e => exact ⟨[], [z2f e.2], h, fun z => by cases z⟩
 | none =>
  obtain ⟨ms, h1, h2, h3⟩ := h
  exact ⟨ms, [], h3, fun _ => ⟨h1, h2⟩⟩
theorem zvo (o : Out) (ms : Cnt) : (zql o ms).length = 2 := by
 unfold zql
 rcases o with ⟨oo, cc, rr⟩
 cases oo <;> rfl
theorem ztg {o : Out} {ms : Cnt} (hw : ∀ e, o.1 = some e → e.1 ∈ zc0) (hk : o.1 = none → ∀ p ∈ ms, p.1 ∈ pool) : Fine 4 (.tup (zql o ms)) := by
 unfold zql
 rcases o with ⟨oo, cc, rr⟩
 cases oo with
 | some e =>
  refine z2w fun d hd => ?_
  simp only [List.mem_cons, List.not_mem_nil, or_false] at hd
  rcases hd with rfl | rfl
  ·exact z4j _ (by decide +kernel)
  ·exact z4j _ (zqp _ (hw e rfl))
 | none =>
  refine z2w fun d hd => ?_
  simp only [List.mem_cons, List.not_mem_nil, or_false] at hd
  rcases hd with rfl | rfl
  ·exact z4j _ (by decide +kernel)
  ·refine (z2w (n := 2) fun d hd => ?_)
   obtain ⟨p, hp, rfl⟩ := List.mem_map.mp hd
   refine z2w (n := 1) fun d hd => ?_
   simp only [List.mem_cons, List.not_mem_nil, or_false] at hd
   rcases hd with rfl | rfl
   ·exact z4j _ (zjb _ (hk rfl p hp))
   ·exact zbf _ _
theorem zyk {o1 o2 : Out} {ms1 ms2 : Cnt} (h : unO o1 = unO o2) (h1 : o1.1 = none → ms1.Perm o1.2.1 ∧ ms1.Pairwise (fun p q => z74 p.1 < z74 q.1)) (h2 : o2.1 = none → ms2.Perm o2.2.1 ∧ ms2.Pairwise (fun p q => z74 p.1 < z74 q.1)) : zql o1 ms1 = zql o2 ms2 := by
 rcases o1 with ⟨a1, c1, r1⟩
 rcases o2 with ⟨a2, c2, r2⟩
 unfold unO at h
 obtain ⟨g1, g2⟩ := Prod.mk.inj h
 obtain ⟨g2, g3⟩ := Prod.mk.inj g2
 have g2 : c1 = c2 := g2
 subst g2
 cases a1 with
 | some e1 =>
  cases a2 with
  | none => cases g1
  | some e2 =>
   have g1 : e1.1 = e2.1 := by simpa using g1
   simp only [zql, g1]
 | none =>
  cases a2 with
  | some e2 => cases g1
  | none =>
   obtain ⟨p1, q1⟩ := h1 rfl
   obtain ⟨p2, q2⟩ := h2 rfl
   have : ms1 = ms2 := zgy (fun x => (p1.mem_iff).trans (p2.mem_iff).symm) q1 q2
   rw [this]
   rfl
theorem ztf (o : Out) (ms : Cnt) (more : List Dm) : zth (zql o ms ++ more) none (some 2) = zql o ms := by
 rw [show (2 : Int) = ((2 : Nat) : Int) from rfl, zwk, ← zvo o ms, List.take_left]
def SameC (p1 p2 : Addr) (H H' : Hp) : Prop := ∀ a o, a ≠ p1 → a ≠ p2 → H a = some o → H' a = some o
theorem SameC.refl {p1 p2 : Addr} (H : Hp) : SameC p1 p2 H H := fun _ _ _ _ e => e
theorem SameC.trans {p1 p2 : Addr} {H H1 H2 : Hp} (a : SameC p1 p2 H H1) (b : SameC p1 p2 H1 H2) : SameC p1 p2 H H2 := fun x o n m e => b x o n m (a x o n m e)
theorem SameC.of {p1 p2 : Addr} {H H' : Hp} (h : Same H H') : SameC p1 p2 H H' := fun a o _ _ e => h a o e
theorem SameC.one {p1 p2 : Addr} {H H' : Hp} (h : SameB p1 H H') : SameC p1 p2 H H' := fun a o n _ e => h a o n e
theorem SameC.two {p1 p2 : Addr} {H H' : Hp} (h : SameB p2 H H') : SameC p1 p2 H H' := fun a o _ n e => h a o n e
theorem TabAt.tbl {pt : Addr} {pos : Pos} {q : Str} {H : Hp} (h : TabAt pt pos q H) : ∃ ps, H pt = some (.tbl ps) := by
 rcases h with h | ⟨c', h, _⟩
 ·exact ⟨_, h⟩
 ·exact ⟨_, h⟩
theorem SameC.keep {p1 p2 : Addr} {H H' : Hp} {s1 s2 : Array Value} (h : SameC p1 p2 H H') (h1 : H p1 = some (.tbl s1)) (h2 : H p2 = some (.tbl s2)) {a : Addr} {o : HO} (n : ∀ s, o ≠ .tbl s) (e : H a = some o) : H' a = some o := h a o (zh5 e h1 (n s1)) (zh5 e h2 (n s2)) e
theorem SameC.kp {p1 p2 : Addr} {H H' : Hp} {s1 s2 : Array Value} (h : SameC p1 p2 H H') (h1 : H p1 = some (.tbl s1)) (h2 : H p2 = some (.tbl s2)) : Kp H H' :=
 ⟨fun b xs e => h.keep h1 h2 (by intro s z; cases z) e, fun b xs e => ⟨xs, h.keep h1 h2 (by intro s z; cases z) e⟩⟩
theorem TabAt.ne {p1 p2 : Addr} {pos : Pos} {q : Str} {H H' : Hp} (h : TabAt p1 pos q H) (s : SameB p2 H H') (n : p1 ≠ p2) (ht : ∃ ps, H p2 = some (.tbl ps)) : TabAt p1 pos q H' := by
 obtain ⟨ps, ht⟩ := ht
 rcases h with h | ⟨c', h, hc⟩
 ·exact .inl (s _ _ n h)
 ·exact .inr ⟨c', s _ _ n h, s _ _ (zh5 hc ht (by intro z; unfold zg9 at z; cases z)) hc⟩
end
local macro_rules | `(tactic| walk_at "rd8") => `(tactic| simp only [zif, zr0, zko, zzh, zzj, zqy, zoi, q3i, zrf, zvx, zgt, zpf, zub, zqx, tOp, ztz, tC, zz1, zi9, zz7, zq9, q0w, q1u, zww, zud, zua, tCB, zkp, zzi, zuf, tUn, rU, rI0, rI, q1y, tOr, q1v, tB, zug, q2h, zu9, tIf, q2i, zwx, zqz, zue, zoa, zui, zo9, zwy, zkn, zwz, tSl, zix, zu8, q20, zmu, zrg, zup, zx5, zgp, zie, ziy, zgm, zgs,  zhv, ztd, z9x, zfe, znz, zhw, zcu, z9y, zcv, zk4, zhx, zcw, zeq, zr1, q2o, tDX, q2j, q1t, q1w, tBM,
 qEq, qNe, qIn, zky, q25, zun, q2u, zx4, q24, zuo, q26, q23, zx6, zx7, zrh, rIx, zzq, zre, q21, q22, q2p, zx3, q2r, q2q, zj9, zj8, zo8, zr2, zzf,
 ziz, zgo, zgn, zgq, zer, zgr, L2.start, zte, zff, zk5, List.map_cons, List.map_nil, List.length_cons, List.length_nil, List.replicate_succ, List.replicate_zero, Nat.reduceAdd, Nat.reduceSub, Nat.zero_add, Nat.add_zero, Nat.sub_zero, Nat.sub_self, Nat.add_sub_cancel,
 List.getElem?_cons_zero, List.getElem?_cons_succ, List.set_cons_zero, List.set_cons_succ, List.cons_append, List.nil_append, List.append_nil, List.cons.injEq, Option.some.injEq, V.int.injEq, V.ref.injEq, V.str.injEq, V.bl.injEq, V.ty.injEq,
 reduceCtorEq, false_and, and_false, and_true, true_and, exists_false, exists_const, false_or, or_false, exists_eq_left, exists_eq_left', exists_eq_right, exists_eq_right', exists_and_left, decide_eq_true_eq, Bool.not_eq_true', Bool.decide_eq_true, exists_eq, true_or, or_true, Bool.false_eq_true, if_true, if_false, Bool.true_eq_false, Bool.not_true, Bool.not_false, decide_true, decide_false, List.isEmpty_cons, List.isEmpty_nil, Bool.true_and, Bool.false_and, bne_self_eq_false, beq_self_eq_true])
section
variable {P : Program} {w : World} {K : PySem.W.Frag} {mg : Str → Option Value} {base : Heap} {f : Addr} {fd : FuncData}
def zgv (n : Nat) : Sp := fun vs H Q _ => ∃ (bv pv ov : V) (b : List D) (p : List Int) (e o : D), vs = [bv, pv, ov] ∧ Dt H bv (.tup (z3u b)) ∧ Dt H pv (z2f p) ∧ Dt H ov o.enc ∧ atP b p = some e ∧ (∀ i ∈ p, 0 ≤ i) ∧ okW n b ∧ n ≤ 4 ∧ ∀ x H', Same H H' → Dt H' x (.tup (z3u (z7p b p o))) → Q x H'
theorem zxp {k : Nat} {n1 n2 : Str} : FnOk P w K mg base CX0 k f fd [n1, n2] (zz3 0) := by
 have no : ∀ vs H Q E, ¬ zz3 0 vs H Q E := fun vs H Q E h => by
  obtain ⟨bv, pv, b, p, e, _, _, _, ha, _, hl, _⟩ := h
  have : p = [] := List.length_eq_zero_iff.mp (by omega)
  subst this
  cases b <;> cases ha
 exact ⟨fun vs H Q E h => absurd h (no vs H Q E), fun A outer s H args us vs Q E _ _ _ _ h => absurd h (no vs H Q E)⟩
theorem zwq (d : Df K mg "_law_at" z3a ["_law_block_here", "_law_path"] f fd) (b_len : mg "len" = none) : ∀ n : Nat, Callee P w K mg base "_law_at" ["_law_block_here", "_law_path"] (n + 1) (zz3 n)
 | 0 => d.callee zxp
 | n + 1 => d.callee (zs2 d.F b_len (zwq d b_len n))
theorem zs8 {k : Nat} {n1 n2 n3 : Str} : FnOk P w K mg base CX0 k f fd [n1, n2, n3] (zgv 0) := by
 have no : ∀ vs H Q E, ¬ zgv 0 vs H Q E := fun vs H Q E h => by
  obtain ⟨bv, pv, ov, b, p, e, o, _, _, _, _, _, _, hk, _⟩ := h
  exact hk.elim
 exact ⟨fun vs H Q E h => absurd h (no vs H Q E), fun A outer s H args us vs Q E _ _ _ _ h => absurd h (no vs H Q E)⟩
theorem znc {n : Nat} (F : Fun K "_law_with" "_law_with" z23 f fd) (b_len : mg "len" = none) (c_law_with : Callee P w K mg base "_law_with" ["_law_block_here", "_law_path", "_law_deed"] (n + 1) (zgv n)) : FnOk P w K mg base CX0 (n + 2) f fd ["_law_block_here", "_law_path", "_law_deed"] (zgv (n + 1)) := by
 refine F.ok sc_law_with (fun vs H Q E h => ?_) (fun cdv A outer s H vs Q E hr h => ?_)
 ·obtain ⟨bv, pv, ov, b, p, e, o, rfl, _⟩ := h
  rfl
 obtain ⟨bv, pv, ov, b, p, e, o, rfl, hb, hp, ho, hat, hpos, hok, hn, q⟩ := h
 have hb0 := hb
 have hp0 := hp
 obtain ⟨ab, xs, rfl, hab, hda⟩ := hb.tupI
 obtain ⟨pa, ps, rfl, hpa, dpa⟩ := hp.tupI
 have eps := z7n dpa
 subst eps
 refine ⟨_, (z05 (z1e (i := 3) sc_law_with.nd rfl zas (z0v z0e (z00 (i := 0) rfl z2o z4b z4c) (z0v z0e (z00 (i := 1) rfl z1f z1n z1p) z01 (fun _ _ => rfl)) (fun _ _ => rfl)) (z06 rfl))
 (z05 (z2k (z0f zuy (zcb zve zhi b_len zef (z07 (z00 (i := 1) rfl z1f z1n z1p) z04) zdk ze6) z01 (z0w _)) (z08 (z2k (PW.pt (zkz (z0f (gEq hr.units) (z0v z0e (z00 (i := 3) rfl z1u z5q z5r) z01 (fun _ _ => rfl)) z0u (z0w _)) (zih (z0f zc1 (z0v z0e (z00 (i := 1) rfl z1f z1n z1p) z01 (fun _ _ => rfl)) z01 (z0w _))))) (z08 (z1e (i := 2) sc_law_with.nd rfl z5h (z16 z2b (z6k z97 (z00 (i := 3) rfl z1u z5q z5r) z9c (z9b z01)) (z0z (z07 (z1d c_law_with hr (by omega) (z07 (z0v z0e (z00 (i := 3) rfl z1u z5q z5r) z01 (fun _ _ => rfl)) (z07 (z6k z97 (z00 (i := 1) rfl z1f z1n z1p) (z9b z01) z9c) (z07 (z00 (i := 2) rfl z43 z1o z1q) z04))) z5z db__law_with) z04))) (z06 rfl))) (z08 (z1e (i := 2) sc_law_with.nd rfl z5h (z16 z2b (z6k z97 (z00 (i := 3) rfl z1u z5q z5r) z9c (z9b z01)) (z0z (z07 (z1d c_law_with hr (by omega) (z07 (z0v z0e (z00 (i := 3) rfl z1u z5q z5r) z01 (fun _ _ => rfl)) (z07 (z6k z97 (z00 (i := 1) rfl z1f z1n z1p) (z9b z01) z9c) (z07 (z00 (i := 2) rfl z43 z1o z1q) z04))) z5z db__law_with) (z07 (z0v z0e (z00 (i := 3) rfl z1u z5q z5r) z01 (fun _ _ => rfl)) z04)))) (z06 rfl))))) z0y)
 (z08 (z0o (z16 z2b (z16 z2b (z6k z97 (z00 (i := 0) rfl z2o z4b z4c) z9c (z9b (z0v z0e (z00 (i := 1) rfl z1f z1n z1p) z01 (fun _ _ => rfl)))) (z0z (z07 (z00 (i := 2) rfl z43 z1o z1q) z04))) (z6k z97 (z00 (i := 0) rfl z2o z4b z4c) (z9b (z16 z28 (z0v z0e (z00 (i := 1) rfl z1f z1n z1p) z01 (fun _ _ => rfl)) z01)) z9c)))))), z0s fun N1 e1 => ?_⟩
 walk_at "rd8"
 cases p with
 | nil => cases hat
 | cons i rest =>
  have hi : 0 ≤ i := hpos i (.head _)
  obtain ⟨j, rfl⟩ : ∃ j : Nat, i = (j : Int) := ⟨i.toNat, by omega⟩
  obtain ⟨d, hbj⟩ : ∃ d, b[j]? = some d := by
   cases hz : b[j]? with
   | some d => exact ⟨d, rfl⟩
   | none => cases rest <;> simp [atP, hz] at hat
  have hxl : xs.length = b.length := by rw [hda.length, z2l]
  have hjl : j < b.length := (List.getElem?_eq_some_iff.mp hbj).1
  obtain ⟨x, hxj⟩ : ∃ x, xs[j]? = some x := ⟨_, List.getElem?_eq_getElem (by omega)⟩
  obtain ⟨d', hbj', dx⟩ := zhr hda hxj
  rw [hbj] at hbj'
  cases hbj'
  refine ⟨_, SqT.of hpa, _, z1g, _, _, rfl, SqT.of hab, x, z13 hxj, ?_⟩
  rw [e1]
  refine z0s fun N2 e2 => ?_
  have last : ∀ (ov' : V) (d' : D) (H1 : Hp), Same H H1 → Dt H1 ov' d'.enc → z7p b ((j : Int) :: rest) o = b.take j ++ [d'] ++ b.drop (j + 1) → N2 [some (V.ref ab), some (V.ref pa), some ov', some x] H1 := by
   intro ov' d' H1 s1 dd ew
   rw [e2]
   walk_at "rd8"
   refine ⟨_, SqT.of (s1 _ _ hpa), _, z1g, ?_⟩
   refine ⟨_, rfl, ?_⟩
   refine slD (hb0.kp s1.kp) fun z2 H2 s2 d2 => ⟨by decide, fun p3 h3 => ?_⟩
   have s3 := z03 h3 (HO.tup [ov'])
   rw [zwk] at d2
   refine zwm (d2.kp s3.kp) (.tup z02 (.cons (dd.kp (s2.trans s3).kp) .nil)) (by rw [List.length_take, z2l]; simp only [List.length_cons, List.length_nil]; have := hok.1; omega) fun z4 H4 s4 d4 => ?_
   have s14 := s1.trans (s2.trans (s3.trans s4))
   refine ⟨_, SqT.of (s14 _ _ hpa), _, z1g, _, rfl, ?_⟩
   refine slD (hb0.kp s14.kp) fun z5 H5 s5 d5 => ?_
   rw [show ((j : Int) + 1) = ((j + 1 : Nat) : Int) by simp, zp4] at d5
   refine zwm (d4.kp s5.kp) d5 (by rw [List.length_append, List.length_take, List.length_drop, z2l]; simp only [List.length_cons, List.length_nil]; have := hok.1; omega) fun z6 H6 s6 d6 => ?_
   refine q z6 H6 (s14.trans (s5.trans s6)) ?_
   rw [ew, zjz, List.map_append, List.map_append, List.map_take, List.map_drop, ← zjz]
   exact d6
  walk_at "rd8"
  refine ⟨_, .inl ⟨pa, _, rfl, .inr (SqT.of hpa), rfl⟩, ?_⟩
  cases rest with
  | nil =>
   rw [if_neg (by simp)]
   exact last ov o H (Same.refl H) ho (by simp [z7p])
  | cons nb rest =>
   rw [if_pos (by simp; omega)]
   have hcut : zth (((j : Int) :: nb :: rest).map Dm.int) (some 2) none = rest.map Dm.int := by
    rw [show (2 : Int) = ((2 : Nat) : Int) from rfl, zp4]
    rfl
   have ats : ∀ bb, d.blk nb = some bb → atP bb rest = some e := fun bb hbk => by simpa [atP, hbj, hbk] using hat
   have ews : ∀ bb, d.blk nb = some bb → z7p b ((j : Int) :: nb :: rest) o = b.take j ++ [d.setB nb (z7p bb rest o)] ++ b.drop (j + 1) := fun bb hbk => by simp [z7p, hbj, hbk]
   have hokd : zmp n d := hok.2 d (List.mem_of_getElem? hbj)
   have posr : ∀ i ∈ rest, 0 ≤ i := fun i hi => hpos i (.tail _ (.tail _ hi))
   have third : ∀ (e0 e1 e2 : Dm) (bb : List D), Dt H x (.tup [e0, e1, e2, .tup (z3u bb)]) → d.blk nb = some bb → (d.setB nb (z7p bb rest o)).enc = .tup [e0, e1, e2, .tup (z3u (z7p bb rest o))] →
     (zz6 K x none (some 3) H fun x_3 H1 => ∃ p, x = V.ref p ∧ ∃ x_4, SqT K H1 p x_4 ∧ ∃ x_5, atI x_4 3 = some x_5 ∧ zz6 K (V.ref pa) (some 2) none H1 fun x_6 H1 =>
      zgv n [x_5, x_6, ov] H1 (fun x_7 H1 => 1 ≤ sizeLine ∧ ∀ (p : Addr), H1 p = none → zfk K x_3 (V.ref p) (upd H1 p (HO.tup [x_7])) fun x_8 H1 => N2 [some (V.ref ab), some (V.ref pa), some x_8, some x] H1) E0) := by
    intro e0 e1 e2 bb dxx hbk henc
    obtain ⟨ax, y0, y1, y2, y3, rfl, hax, t0, t1, t2, t3⟩ := zkm dxx
    refine slD dxx fun z2 H2 s2 d2 => ⟨_, rfl, _, SqT.of (s2 _ _ hax), _, z13 (j := 3) rfl, ?_⟩
    refine slD (hp0.kp s2.kp) fun z3 H3 s3 d3 => ?_
    rw [hcut] at d3
    have s23 := s2.trans s3
    refine ⟨y3, z3, ov, bb, rest, e, o, rfl, t3.kp s23.kp, d3, ho.kp s23.kp, ats bb hbk, posr, zwn hokd hbk, by omega, fun z4 H4 s4 d4 => ⟨by decide, fun p5 h5 => ?_⟩⟩
    have s5 := z03 h5 (HO.tup [z4])
    have s25 := s3.trans (s4.trans s5)
    rw [show zth [e0, e1, e2, .tup (z3u bb)] none (some 3) = [e0, e1, e2] from rfl] at d2
    refine zwm (d2.kp s25.kp) (.tup z02 (.cons (d4.kp s5.kp) .nil)) (by simp) fun z6 H6 s6 d6 => ?_
    exact last z6 _ H6 (s2.trans (s25.trans s6)) (by rw [henc]; exact d6) (ews bb hbk)
   cases d with
   | set y t => simp [atP, hbj, D.blk] at hat
   | whl t m b1 =>
    have dxx : Dt H x (.tup [.str "while", t.enc, .int m, .tup (z3u b1)]) := by have := dx; rw [D.enc] at this; exact this
    obtain ⟨ax, y0, y1, y2, y3, rfl, hax, t0, t1, t2, t3⟩ := zkm dxx
    cases t0
    refine ⟨ax, rfl, _, SqT.of hax, _, z1g, _, zke, ?_⟩
    rw [if_pos (by decide +kernel)]
    exact third _ _ _ b1 dxx rfl (by simp only [D.setB, D.enc])
   | ite t b1 c1 =>
    have dxx : Dt H x (.tup [.str "if", t.enc, .tup (z3u b1), .tup (z3u c1)]) := by have := dx; rw [D.enc] at this; exact this
    obtain ⟨ax, y0, y1, y2, y3, rfl, hax, t0, t1, t2, t3⟩ := zkm dxx
    cases t0
    refine ⟨ax, rfl, _, SqT.of hax, _, z1g, _, zke, ?_⟩
    rw [if_neg (by decide +kernel)]
    refine ⟨_, SqT.of hpa, _, z13 (j := 1) rfl, _, rfl, ?_⟩
    by_cases h2 : nb = 2
    ·rw [if_pos h2]
     exact third _ _ _ c1 dxx (by simp [D.blk, h2]) (by simp only [D.setB, if_pos h2, D.enc])
    ·rw [if_neg h2]
     have hbk : (D.ite t b1 c1).blk nb = some b1 := by simp [D.blk, h2]
     refine slD dxx fun z2 H2 s2 d2 => ⟨_, rfl, _, SqT.of (s2 _ _ hax), _, z13 (j := 2) rfl, ?_⟩
     refine slD (hp0.kp s2.kp) fun z3 H3 s3 d3 => ?_
     rw [hcut] at d3
     have s23 := s2.trans s3
     refine ⟨y2, z3, ov, b1, rest, e, o, rfl, t2.kp s23.kp, d3, ho.kp s23.kp, ats b1 hbk, posr, zwn hokd hbk, by omega, fun z4 H4 s4 d4 => ?_⟩
     have s24 := s2.trans (s3.trans s4)
     refine ⟨_, rfl, _, SqT.of (s24 _ _ hax), _, z13 (j := 3) rfl, by decide, fun p5 h5 => ?_⟩
     have s5 := z03 h5 (HO.tup [z4, y3])
     have s25 := s3.trans (s4.trans s5)
     rw [show zth [Dm.str "if", t.enc, .tup (z3u b1), .tup (z3u c1)] none (some 2) = [Dm.str "if", t.enc] from rfl] at d2
     refine zwm (d2.kp s25.kp) (.tup z02 (.cons (d4.kp s5.kp) (.cons (t3.kp (s2.trans s25).kp) .nil))) (by simp) fun z6 H6 s6 d6 => ?_
     exact last z6 _ H6 (s2.trans (s25.trans s6)) (by simp only [D.setB, if_neg h2, D.enc]; exact d6) (ews b1 hbk)
theorem zp7 (d : Df K mg "_law_with" z23 ["_law_block_here", "_law_path", "_law_deed"] f fd) (b_len : mg "len" = none) : ∀ n : Nat, Callee P w K mg base "_law_with" ["_law_block_here", "_law_path", "_law_deed"] (n + 1) (zgv n)
 | 0 => d.callee zs8
 | n + 1 => d.callee (znc d.F b_len (zp7 d b_len n))
end
section
variable {P : Program} {w : World} {K : PySem.W.Frag} {mg : Str → Option Value} {base : Heap} {f : Addr} {fd : FuncData}
def RWI (U : Hp) (rs : List RI) (i : Nat) (ys : List V) (σ' : St) (H' : Hp) : Prop := H' = U ∧ (∃ t, σ' = [t]) ∧ ys = (rs.take i).map (fun r => V.int r.2) ∧ ys.length ≤ i
def LwI (H0 : Hp) (p1 p2 : Addr) (x0 x1 x2 x3 x4 x5 x6 : Option V) (i : Nat) (σ : St) (Hc : Hp) : Prop := ∃ (x7 x8 x9 : Option V), σ = [x0, x1, x2, x3, x4, x5, x6, x7, x8, x9] ∧ SameC p1 p2 H0 Hc ∧ TabAt p1 q27 dR.qual Hc ∧ TabAt p2 zzw dT.qual Hc
def zuh (K : PySem.W.Frag) (p1 p2 : Addr) : Sp := fun vs H Q _ => ∃ (a : Addr) (ns : List Int), vs = [.ref a] ∧ SqL K H a (ns.map V.int) ∧ ns.length ≤ 63 ∧ H p1 = some (.tbl #[]) ∧ H p2 = some (.tbl #[]) ∧ ∀ H', Q (.bl true) H'
theorem zpe {b b8 : List D} {pp : List Int} {t : T} {m : Int} {bb : List D} {g0 g : List Str} (hmem : (pp, D.whl t m bb) ∈ z3y b) (hkb : kbB g0 b = some g)
  (hor : (b8 = b ∧ ∀ t m bb, (pp, D.whl t m bb) ∈ z3y b → m < 1) ∨ ∃ t m bb, (pp, D.whl t m bb) ∈ z3y b ∧ 1 ≤ m ∧ b8 = prB pp (zkd (.whl t m bb)) [] 0 b) :
  z7p b pp (if m > 0 then zkd (.whl t m bb) else .whl t m bb) = b8 ∧ (∃ g', kbB g0 b8 = some g') ∧ Alike (evB [] 0 b8) (evB [] 0 b) := by
 have hu : ∀ s ∈ z3y b, s.1 = pp → s.2 = .whl t m bb := fun s hs e => by rw [zde hs hmem e]
 rcases hor with ⟨rfl, hm⟩ | ⟨t', m', bb', h', hm', e⟩
 ·have hm1 := hm t m bb hmem
  rw [if_neg (by omega), zqr hmem, zl0 b8 [] 0 hu]
  exact ⟨rfl, ⟨g, hkb⟩, Alike.refl _⟩
 ·have := hu _ h' rfl
  cases this
  subst e
  rw [if_pos (by omega), zqr hmem]
  obtain ⟨g', e1, _⟩ := zl1 b [] 0 hu hkb
  exact ⟨rfl, ⟨g', e1⟩, zap (zpp hm' pp pp) b [] 0 hu⟩
theorem zuj {rows : List Rw} {b : List D} {wl : List Int} {ms : Cnt} (hrow : okRows rows) (hW : okW 4 b) (h : (evP rows b wl).1 = none → ms.Perm (evP rows b wl).2.1 ∧ ms.Pairwise (fun p q => z74 p.1 < z74 q.1)) : Fine 4 (.tup (zql (evP rows b wl) ms)) :=
 ztg (fun e he => ze2 b [] 0 _ e he) fun hn p hp => (zcn b 4 [] 0 _ hW (zj1 rows wl [] (zh0 hrow) KeyOk.nil)).2 p (((h hn).1.mem_iff).mp hp)
theorem SameB.tab {pt : Addr} {pos : Pos} {q : Str} {H H' : Hp} (s : SameB pt H H') (h : TabAt pt pos q H) : Kp H H' := by
 obtain ⟨ps, e⟩ := h.tbl
 exact s.kpT e
theorem TabAt.same {pt : Addr} {pos : Pos} {q : Str} {H H' : Hp} (h : TabAt pt pos q H) (s : Same H H') : TabAt pt pos q H' := h.kp fun a o _ e => s a o e
end
section
variable {P : Program} {w : World} {K : PySem.W.Frag} {mg : Str → Option Value} {base : Heap} {f : Addr} {fd : FuncData}
theorem zm8 {ra : Addr} {us : List V} {rs : List RI} {Q : VK} {H1 : Hp} (h2 : H1 ra = some (.lst us)) (d2 : DtA H1 us (rs.map zz4)) (hz : rs.length < sizeLine) (q : ∀ (r : Addr), H1 r = none → Q (.ref r) (upd H1 r (.lst ((rs.map (·.2)).map V.int)))) :
  zfi (Itl K ra) (zi9 0) zzf (tOp (zre K) (ztz 0) (tC (V.int 1))) Q [none] H1 := by
 have hul : us.length = rs.length := by rw [d2.length, List.length_map]
 refine z90 (K := K) (a := ra) (xs := us) (RWI H1 rs) ⟨rfl, ⟨_, rfl⟩, by rw [List.take_zero]; rfl, Nat.le_refl _⟩ (by rw [hul]; exact hz) ?_ ?_ ?_ ?_
 ·rintro i ys σ' H' ⟨_, _, _, hy⟩
  exact hy
 ·rintro i ys σ' H' _ ⟨rfl, _, _⟩
  exact SqL.of h2
 ·rintro i ys v' σ' H' hxi ⟨rfl, ⟨t, rfl⟩, ey, hy⟩
  obtain ⟨r, hri, dr⟩ := zc2 d2 hxi
  obtain ⟨pp, y0, y1, rfl, hpp, u0, u1⟩ := zo7 dr
  cases u1
  walk_at "rd8"
  refine ⟨_, SqT.of hpp, _, z13 (j := 1) rfl, rfl, ⟨_, rfl⟩, ?_, by rw [List.length_append, List.length_singleton]; omega⟩
  rw [z5t hri, ey, List.map_append]
  rfl
 ·rintro ys σ' H' ⟨rfl, _, ey, _⟩ pe hpe
  rw [hul, List.take_length] at ey
  rw [ey, show rs.map (fun r => V.int r.2) = (rs.map (·.2)).map V.int by rw [List.map_map]; rfl]
  exact q pe hpe
theorem zyc (ds : List Dm) : PyData.eqv (.list (zeh ds)) (.list (zeh [])) = ds.isEmpty := by
 cases ds with
 | nil => rfl
 | cons d ds => simp [zeh, PyData.eqv, PyData.eqvAll]
theorem q0b {p1 p2 : Addr} (h12 : p1 ≠ p2) (F : Fun K "law" "law" z3x f fd) (b_len : mg "len" = none) (c_law_program : Callee P w K mg base "_law_program" ["_law_script", "_law_at_here"] 11 (zks K)) (c_law_pick : Callee P w K mg base "_law_pick" ["_law_script", "_law_k", "_law_many"] 2 (zd9 K))
  (c_whiles : Callee P w K mg base "whiles" ["program"] 8 zoe) (c_peeled : Callee P w K mg base "peeled" ["program", "path"] 8 zr5) (c_law_at : Callee P w K mg base "_law_at" ["_law_block_here", "_law_path"] 5 (zz3 4)) (c_law_with : Callee P w K mg base "_law_with" ["_law_block_here", "_law_path", "_law_deed"] 5 (zgv 4))
  (c_law_all_worths : Callee P w K mg base "_law_all_worths" ["_law_program_here"] 1 zod) (c_run : Callee P w K mg base "run" ["program", "worths"] 22 (zzk p1)) (c_traced : Callee P w K mg base "traced" ["program", "worths"] 22 (zof p2)) : FnOk P w K mg base CX0 23 f fd ["_law_script"] (zuh K p1 p2) := by
 refine F.ok sc_law (fun vs H Q E h => ?_) (fun cdv A outer s H vs Q E hr h => ?_)
 ·obtain ⟨a, ns, rfl, _⟩ := h
  rfl
 obtain ⟨a, ns, rfl, hS, _, hp1, hp2, q⟩ := h
 refine ⟨_, (z05 (z1e (i := 1) sc_law.nd rfl z86 (z1d c_law_program hr (by omega) (z07 (z00 (i := 0) rfl z70 z09 z0a) (z07 z01 z04)) zci zht) (z06 rfl))
 (z05 (z1e (i := 2) sc_law.nd rfl zdn (z1d c_whiles hr (by omega) (z07 (z00 (i := 1) rfl z0d z0m z0n) z04) zjt zt4) (z06 rfl))
 (z05 (z2k (z0f (dNe hr.units) (z1d c_peeled hr (by omega) (z07 (z00 (i := 1) rfl z0d z0m z0n) (z07 (z0z (z07 z01 (z07 z01 (z07 z01 z04)))) z04)) z9o zhs) (z00 (i := 1) rfl z0d z0m z0n) (z0w _)) (z08 (z0o zpq)) z0y)
 (z05 (z2k (z0f (q4d hr.units) (z00 (i := 2) rfl z55 z9v za0) (z4q z04) (z0w _)) (z08 (z0o (zje (dEq hr.units) (z1d c_peeled hr (by omega) (z07 (z00 (i := 1) rfl z0d z0m z0n) (z07 (z0z (z07 z01 z04)) z04)) z9o zhs) (z00 (i := 1) rfl z0d z0m z0n) (z0w _)))) z0y)
 (z05 (z1e (i := 3) sc_law.nd rfl zf3 (z0v z5c (z00 (i := 2) rfl z55 z9v za0) (z1d c_law_pick hr (by omega) (z07 (z00 (i := 0) rfl z70 z09 z0a) (z07 z01 (z07 (zcb zve zq8 b_len zef (z07 (z00 (i := 2) rfl z55 z9v za0) z04) zdk ze6) z04))) zg4 z1b) (fun _ _ => rfl)) (z06 rfl))
 (z05 (z1e (i := 4) sc_law.nd rfl zf4 (z1d c_law_at hr (by omega) (z07 (z0v z0e (z00 (i := 1) rfl z0d z0m z0n) z01 (fun _ _ => rfl)) (z07 (z00 (i := 3) rfl z5k z1n z1p) z04)) zi8 zis) (z06 rfl))
 (z05 (z1e (i := 5) sc_law.nd rfl zf2 (z1d c_peeled hr (by omega) (z07 (z00 (i := 1) rfl z0d z0m z0n) (z07 (z00 (i := 3) rfl z5k z1n z1p) z04)) z9o zhs) (z06 rfl))
 (z05 (z1e (i := 6) sc_law.nd rfl za7 (z00 (i := 4) rfl z27 z1o z1q) (z06 rfl))
 (z05 (z2k (z0f zuy (z0v z0e (z00 (i := 4) rfl z27 z1o z1q) z01 (fun _ _ => rfl)) z01 (z0w _)) (z08 (z1e (i := 6) sc_law.nd rfl za7 (z0z (z07 z0u (z07 (z0v z0e (z00 (i := 4) rfl z27 z1o z1q) z01 (fun _ _ => rfl)) (z07 (z16 z2b (z0v z0e (z00 (i := 4) rfl z27 z1o z1q) z01 (fun _ _ => rfl)) (z0z (z07 (z0z (z07 z0u (z07 (z0v z0e (z00 (i := 4) rfl z27 z1o z1q) z01 (fun _ _ => rfl)) (z07 (z16 zdg (z0v z0e (z00 (i := 4) rfl z27 z1o z1q) z01 (fun _ _ => rfl)) z01) (z07 (z0v z0e (z00 (i := 4) rfl z27 z1o z1q) z01 (fun _ _ => rfl)) z04))))) z04))) (z07 (z0z z04) z04))))) (z06 rfl))) z0y)
 (z05 (z2k (z0f (dNe hr.units) (z00 (i := 5) rfl z5j zb4 zb9) (z0z (z07 (z0v z0e (z00 (i := 1) rfl z0d z0m z0n) z01 (fun _ _ => rfl)) (z07 (z1d c_law_with hr (by omega) (z07 (z0v z0e (z00 (i := 1) rfl z0d z0m z0n) z01 (fun _ _ => rfl)) (z07 (z00 (i := 3) rfl z5k z1n z1p) (z07 (z00 (i := 6) rfl zfu zny zo2) z04))) zg3 db__law_with) z04))) (z0w _)) (z08 (z0o zpq)) z0y)
 (z05 (zdb PassesOwn.never rfl (z7z (z1d c_law_all_worths hr (by omega) (z07 (z00 (i := 1) rfl z0d z0m z0n) z04) zag zea)) (z1t (i := 7) sc_law.nd rfl zce)
 (z05 (z2k (z0f (dNe hr.units) (z6k z97 (z1d c_run hr (by omega) (z07 (z00 (i := 5) rfl z5j zb4 zb9) (z07 (z00 (i := 7) rfl z3l z4s z4u) z04)) zim zwi) z9c (z9b z01)) (z6k z97 (z1d c_run hr (by omega) (z07 (z00 (i := 1) rfl z0d z0m z0n) (z07 (z00 (i := 7) rfl z3l z4s z4u) z04)) zim zwi) z9c (z9b z01)) (z0w _)) (z08 (z0o zpq)) z0y)
 (z05 (zn2 (i := 8) ["_law_row"] [none] sc_law.nd rfl zdo rfl (CompS.of (by rfl)) (z7z (z1d c_traced hr (by omega) (z07 (z00 (i := 1) rfl z0d z0m z0n) (z07 (z00 (i := 7) rfl z3l z4s z4u) z04)) zdu zlz)) (fun _ _ _ _ _ => (z1t (i := 0) (show List.Nodup (["_law_row"] : List Str) from by decide +kernel) rfl (Or.inl rfl))) (fun _ _ _ _ _ => zex) (fun _ _ _ _ _ => (z0v (ixK (r := zre) (K := K) z0e rfl) (z00 (i := 0) rfl (by first | exact Or.inl rfl | exact Or.inr (Or.inl rfl) | exact Or.inr (Or.inr rfl)) zcr zcz) z01 (fun _ _ => rfl))))
 (z05 (zn2 (i := 9) ["_law_row"] [none] sc_law.nd rfl zcf rfl (CompS.of (by rfl)) (z7z (z1d c_traced hr (by omega) (z07 (z00 (i := 5) rfl z5j zb4 zb9) (z07 (z00 (i := 7) rfl z3l z4s z4u) z04)) zdu zlz)) (fun _ _ _ _ _ => (z1t (i := 0) (show List.Nodup (["_law_row"] : List Str) from by decide +kernel) rfl (Or.inl rfl))) (fun _ _ _ _ _ => zex) (fun _ _ _ _ _ => (z0v (ixK (r := zre) (K := K) z0e rfl) (z00 (i := 0) rfl (by first | exact Or.inl rfl | exact Or.inr (Or.inl rfl) | exact Or.inr (Or.inr rfl)) zcr zcz) z01 (fun _ _ => rfl))))
 (z08 (z2k (z0f (gNe hr.units) (z00 (i := 8) rfl zd4 ze9 zed) (z00 (i := 9) rfl zc7 zc3 zc5) (z0w _)) (z08 (z0o zpq)) z0y))))))
 (z08 (z0o zpq))))))))))))), z0s fun N1 e1 => ?_⟩
 walk_at "rd8"
 refine ⟨a, ns, 0, rfl, hS, by decide, fun r ri rb H1 rows b g0 s1 hr1 dri drb hrow hok hbl hbn hkn => ?_⟩
 have dr : Dt H1 (.ref r) (.tup [.tup (rows.map z7m), .tup (z3u b)]) := .tup hr1 (.cons dri (.cons drb .nil))
 have hW : okW 4 b := zdi (zar hok)
 obtain ⟨g, hkb, _, _⟩ := hkn _ (Sub.refl _)
 rw [e1]
 refine z0s fun N2 e2 => ?_
 walk_at "rd8"
 refine ⟨.ref r, _, b, rfl, dr, hok, fun zl H2 zs s2 hzn hz dz => ?_⟩
 rw [e2]
 refine z0s fun N3 e3 => ?_
 walk_at "rd8"
 refine ⟨by decide, fun q3 hq3 => ?_⟩
 have s3 := z03 hq3 (HO.tup [.int 0, .int 0, .int 7])
 have s23 := s2.trans s3
 refine ⟨.ref r, _, b, .ref q3, [0, 0, 7], rfl, dr.kp s23.kp, .tup z02 (zjp _ [0, 0, 7]), hok, fun x4 H4 b4 s4 d4 hok4 hor => ?_⟩
 have s24 := s23.trans s4
 have eb4 : b = b4 := by
  rcases hor with ⟨e, _⟩ | ⟨t, m, bb, h, _⟩
  ·exact e.symm
  ·exact (q0c h).elim
 subst eb4
 refine ⟨true, ⟨_, _, d4, dr.kp s24.kp, (z5d hrow hW).eq (by decide), (z5d hrow hW).eq (by decide), (ze3 (z5d hrow hW).2.1).symm⟩, ?_⟩
 simp only [Bool.true_eq_false, if_false]
 rw [e3]
 refine z0s fun N4 e4 => ?_
 walk_at "rd8"
 refine ⟨Nat.zero_le _, fun l5 h5 => ?_⟩
 have s5 := z03 h5 (HO.lst [])
 have s25 := s24.trans s5
 have dr5 := dr.kp s25.kp
 have hz5 := (s3.trans (s4.trans s5)) _ _ hz
 have dz5 := dz.kp (s3.trans (s4.trans s5)).kp
 have hl5 : (upd H4 l5 (HO.lst [])) l5 = some (.lst []) := z02
 have hpp1 := (s1.trans s25) _ _ hp1
 have hpp2 := (s1.trans s25) _ _ hp2
 have hS5 := (s1.trans s25).seq hS
 generalize upd H4 l5 (HO.lst []) = U at s25 dr5 hz5 dz5 hl5 hpp1 hpp2 hS5 ⊢
 clear s1 s2 s3 s4 s5 s24 s23
 obtain ⟨fa1, fa2, fa3⟩ := zqa (whP b)
 refine ⟨_, ⟨zl, l5, zs, [], _, [], rfl, rfl, SqL.of hz5, SqL.of hl5, dz5, .nil, fa1, rfl, fa2, rfl, rfl⟩, ?_⟩
 rw [zyc]
 by_cases hemp : whP b = []
 ·rw [hemp]
  simp only [List.map_nil, List.isEmpty_nil, if_true]
  refine ⟨by decide, fun q6 hq6 => ?_⟩
  have s6 := z03 hq6 (HO.tup [.int 0])
  refine ⟨.ref r, _, b, .ref q6, [0], rfl, dr5.kp s6.kp, .tup z02 (zjp _ [0]), hok, fun x7 H7 b7 s7 d7 hok7 hor => ?_⟩
  have eb7 : b = b7 := by
   rcases hor with ⟨e, _⟩ | ⟨t, m, bb, h, _⟩
   ·exact e.symm
   ·have := q0h h
    rw [hemp] at this
    cases this
  subst eb7
  exact ⟨true, ⟨_, _, d7, dr5.kp (s6.trans s7).kp, (z5d hrow hW).eq (by decide), (z5d hrow hW).eq (by decide), (ze3 (z5d hrow hW).2.1).symm⟩, q _⟩
 rw [show ((whP b).map z2f).isEmpty = false by cases hw : whP b with | nil => exact absurd hw hemp | cons _ _ => rfl]
 simp only [Bool.false_eq_true, if_false]
 rw [e4]
 refine z0s fun N5 e5 => ?_
 walk_at "rd8"
 have hzl : zs.length = (whP b).length := by rw [dz5.length, List.length_map]
 have hpos : 0 < (whP b).length := by cases hw : whP b with | nil => exact absurd hw hemp | cons _ _ => simp
 refine ⟨_, q0j (SqL.of hz5), ?_⟩
 refine ⟨a, ns, 300, zs.length, rfl, hS5, by decide, by omega, fun i H6 hi0 hi1 s6 => ?_⟩
 obtain ⟨pv, hpv, hat⟩ := zwp (xs := zs) hi0 hi1
 refine ⟨_, i, rfl, SqL.of (s6 _ _ hz5), pv, hat, ?_⟩
 obtain ⟨pp, hpp, dp⟩ := zc2 dz5 hpv
 obtain ⟨t, m, bb, hmem⟩ := zz9 (List.mem_of_getElem? hpp)
 have hatp := q32 hmem
 rw [e5]
 refine z0s fun N6 e6 => ?_
 walk_at "rd8"
 obtain ⟨_, iv, bv, er, hrU, diU, dbU⟩ := zo7 dr5
 cases er
 refine ⟨_, SqT.of (s6 _ _ hrU), _, z13 (j := 1) rfl, ?_⟩
 refine ⟨bv, pv, b, pp, _, rfl, dbU.kp s6.kp, dp.kp s6.kp, hatp, zsa hmem, zwo 4 b pp _ hW hatp, by decide, fun x7 H7 s7 d7 => ?_⟩
 have s67 := s6.trans s7
 rw [e6]
 refine z0s fun N7 e7 => ?_
 walk_at "rd8"
 refine ⟨.ref r, _, b, pv, pp, rfl, dr5.kp s67.kp, dp.kp s67.kp, hok, fun tv H8 b8 s8 d8 hok8 hor8 => ?_⟩
 obtain ⟨hwith, ⟨g8, hkb8⟩, hal⟩ := zpe hmem hkb hor8
 have s68 := s67.trans s8
 have d7' := d7.kp s8.kp
 have dbV := dbU.kp s68.kp
 have dpV := dp.kp s68.kp
 have drV := dr5.kp s68.kp
 have hrV := s68 _ _ hrU
 have hV1 := s68 _ _ hpp1
 have hV2 := s68 _ _ hpp2
 rw [e7]
 refine z0s fun N8 e8 => ?_
 walk_at "rd8"
 rw [e8]
 refine z0s fun N9 e9 => ?_
 have nine : ∀ (nv : V) (H9 : Hp), Same H8 H9 → Dt H9 nv (if m > 0 then zkd (.whl t m bb) else .whl t m bb).enc → N9 [some (V.ref a), some (V.ref r), some (V.ref zl), some pv, some x7, some tv, some nv, none, none, none] H9 := by
  intro nv H9 s9 d9
  rw [e9]
  refine z0s fun N10 e10 => ?_
  walk_at "rd8"
  refine ⟨_, SqT.of (s9 _ _ hrV), _, z1g, _, SqT.of (s9 _ _ hrV), _, z13 (j := 1) rfl, ?_⟩
  refine ⟨bv, pv, nv, b, pp, _, _, rfl, dbV.kp s9.kp, dpV.kp s9.kp, d9, hatp, zsa hmem, hW, by decide, fun y10 H10 s10 d10 => ⟨by decide, fun p11 h11 => ?_⟩⟩
  have s11 := z03 h11 (HO.tup [iv, y10])
  have s911 := s9.trans (s10.trans s11)
  rw [hwith] at d10
  have d11 : Dt (upd H10 p11 (HO.tup [iv, y10])) (.ref p11) (.tup [.tup (rows.map z7m), .tup (z3u b8)]) := .tup z02 (.cons (diU.kp (s68.trans s911).kp) (.cons (d10.kp s11.kp) .nil))
  refine ⟨true, ⟨_, _, d8.kp s911.kp, d11, (z5d hrow hok8).eq (by decide), (z5d hrow hok8).eq (by decide), (ze3 (z5d hrow hok8).2.1).symm⟩, ?_⟩
  simp only [Bool.true_eq_false, if_false]
  have drW := drV.kp s911.kp
  have dtW := d8.kp s911.kp
  have hW1 := s911 _ _ hV1
  have hW2 := s911 _ _ hV2
  generalize upd H10 p11 (HO.tup [iv, y10]) = U2 at drW dtW hW1 hW2 ⊢
  rw [e10]
  refine z0s fun N11 e11 => ?_
  walk_at "rd8"
  refine ⟨.ref r, rows, _, rfl, drW, hrow, fun lw Hw ws wss sw hlwn hlw dw hfits => ⟨lw, rfl, ⟨_, SqL.of hlw⟩, ?_⟩⟩
  have hX1 : Hw p1 = some (.tbl #[]) := sw _ _ hW1
  have hX2 : Hw p2 = some (.tbl #[]) := sw _ _ hW2
  have drX := drW.kp sw.kp
  have dtX := dtW.kp sw.kp
  refine zjx (xs := ws) (LwI Hw p1 p2 (some (V.ref a)) (some (V.ref r)) (some (V.ref zl)) (some pv) (some x7) (some tv) (some nv)) ?start ?lst ?step ?done
  case start => exact ⟨_, _, _, rfl, SameC.refl _, .inl hX1, .inl hX2⟩
  case lst =>
   rintro i σ Hc _ ⟨_, _, _, rfl, sc, _, _⟩
   exact SqL.of (sc.keep hX1 hX2 (by intro s z; cases z) hlw)
  case done =>
   rintro σ Hc ⟨_, _, _, rfl, sc, _, _⟩
   show N11 _ _
   rw [e11]
   walk_at "rd8"
   exact q _
  case step =>
   rintro i y σ Hc hy ⟨_, _, _, rfl, sc, hT1, hT2⟩
   obtain ⟨wl, hwi, dwl⟩ := zc2 dw hy
   have hfit := hfits wl (List.mem_of_getElem? hwi)
   refine z0s fun M1 m1 => ?_
   walk_at "rd8"
   have kc := sc.kp hX1 hX2
   have drC := drX.kp kc
   have dtC := dtX.kp kc
   have dwC := dwl.kp kc
   have hWb : (evP rows b wl).2.2.length + 1 < sizeLine := zx1 hok [] 0 (stB [] rows wl)
   have hal1 := hal (stB [] rows wl)
   have hWb8 : (evP rows b8 wl).2.2.length + 1 < sizeLine := by rw [zty hal (stB [] rows wl)]; exact hWb
   refine ⟨tv, y, rows, b8, wl, g8, rfl, dtC, dwC, hrow, hfit, hok8, hkb8, hT1, fun r1 H1 sB1 hTa ho1 => ?_⟩
   obtain ⟨ms1, more1, do1, hms1⟩ := zom ho1
   refine slD do1 fun z1 H2 v2 dz1 => ?_
   rw [ztf] at dz1
   have k2 : Kp Hc H2 := (sB1.tab hT1).trans v2.kp
   have hTb := hTa.same v2
   refine ⟨.ref r, y, rows, b, wl, g, rfl, drC.kp k2, dwC.kp k2, hrow, hfit, hW, hkb, hTb, fun r3 H3 sB3 hTc ho3 => ?_⟩
   obtain ⟨ms3, more3, do3, hms3⟩ := zom ho3
   refine slD do3 fun z4 H4 v4 dz4 => ?_
   rw [ztf] at dz4
   have k34 : Kp H2 H4 := (sB3.tab hTb).trans v4.kp
   rw [zyk hal1 hms1 hms3] at dz1
   have ff := zuj hrow hW hms3
   refine ⟨true, ⟨_, _, dz1.kp k34, dz4, ff.eq (by decide), ff.eq (by decide), (ze3 ff.2.1).symm⟩, ?_⟩
   simp only [Bool.true_eq_false, if_false]
   have hTd := hTc.same v4
   have hT2a := hT2.ne sB1 (Ne.symm h12) hT1.tbl
   have hT2b := hT2a.same v2
   have hT2c := hT2b.ne sB3 (Ne.symm h12) hTb.tbl
   have hT2d := hT2c.same v4
   have sc4 : SameC p1 p2 Hw H4 := sc.trans ((SameC.one sB1).trans ((SameC.of v2).trans ((SameC.one sB3).trans (SameC.of v4))))
   clear dz1 dz4 do1 do3 ho1 ho3 hTa hTb hTc hT2a hT2b hT2c
   have k4 := k2.trans k34
   rw [m1]
   refine z0s fun M2 m2 => ?_
   walk_at "rd8"
   refine ⟨.ref r, y, rows, b, wl, g, rfl, drC.kp k4, dwC.kp k4, hrow, hfit, hW, hkb, hWb, hT2d, fun l5 ys5 H5 sB5 hl5n hT5 hl5 dy5 => ⟨_, rfl, ⟨_, SqL.of hl5⟩, zm8 hl5 dy5 (by omega) fun l6 hl6 => ?_⟩⟩
   have v6 := z03 hl6 (HO.lst (((evP rows b wl).2.2.map (·.2)).map V.int))
   have h6 : (upd H5 l6 (HO.lst (((evP rows b wl).2.2.map (·.2)).map V.int))) l6 = some (.lst (((evP rows b wl).2.2.map (·.2)).map V.int)) := z02
   have hT1e := (hTd.ne sB5 h12 hT2d.tbl).same v6
   have hT2e := hT5.same v6
   have k46 : Kp H4 (upd H5 l6 (HO.lst (((evP rows b wl).2.2.map (·.2)).map V.int))) := (sB5.tab hT2d).trans v6.kp
   have sc6 := sc4.trans ((SameC.two sB5).trans (SameC.of v6))
   generalize upd H5 l6 (HO.lst (((evP rows b wl).2.2.map (·.2)).map V.int)) = H6 at h6 hT1e hT2e k46 sc6 ⊢
   rw [m2]
   refine z0s fun M3 m3 => ?_
   walk_at "rd8"
   have k6 := k4.trans k46
   refine ⟨tv, y, rows, b8, wl, g8, rfl, dtC.kp k6, dwC.kp k6, hrow, hfit, hok8, hkb8, hWb8, hT2e, fun l7 ys7 H7 sB7 hl7n hT7 hl7 dy7 => ⟨_, rfl, ⟨_, SqL.of hl7⟩, zm8 hl7 dy7 (by omega) fun l8 hl8 => ?_⟩⟩
   have er : (evP rows b8 wl).2.2.map (·.2) = (evP rows b wl).2.2.map (·.2) := congrArg (fun x : Option Str × Cnt × List Int => x.2.2) hal1
   rw [er]
   have v8 := z03 hl8 (HO.lst (((evP rows b wl).2.2.map (·.2)).map V.int))
   obtain ⟨ps2, hps2⟩ := hT2e.tbl
   have h6' := v8 _ _ (sB7 _ _ (zh5 h6 hps2 (by intro z; cases z)) h6)
   rw [m3]
   walk_at "rd8"
   refine ⟨true, .inr ⟨_, SqL.of h6', _, SqL.of z02, zoo _, zoo _, (zvi (zoo _)).symm⟩, ?_⟩
   simp only [Bool.true_eq_false, if_false]
   exact ⟨_, _, _, rfl, sc6.trans ((SameC.two sB7).trans (SameC.of v8)), (hT1e.ne sB7 h12 hT2e.tbl).same v8, hT7.same v8⟩
 have d7w : Dt H8 x7 (.tup [.str "while", t.enc, .int m, .tup (z3u bb)]) := by have := d7'; rw [D.enc] at this; exact this
 obtain ⟨xa, y0, y1, y2, y3, rfl, hxa, t0, t1, t2, t3⟩ := zkm d7w
 cases t0; cases t2
 have hbb : bb.length ≤ 6 := by
  obtain ⟨k, hk⟩ := zho 3 b [] 0 hok _ hmem
  have hb := hk.2.2.2
  cases k with
  | zero => exact hb.elim
  | succ k => exact hb.1
 walk_at "rd8"
 refine ⟨_, SqT.of hxa, _, z13 (j := 2) rfl, _, rfl, ?_⟩
 by_cases hm : 0 < m
 ·rw [if_pos hm]
  refine ⟨_, SqT.of hxa, _, z13 (j := 1) rfl, _, SqT.of hxa, _, z13 (j := 3) rfl, _, SqT.of hxa, _, z13 (j := 1) rfl, _, SqT.of hxa, _, z13 (j := 2) rfl, _, rfl, _, SqT.of hxa, _, z13 (j := 3) rfl, by decide, fun q1 hq1 => ⟨by decide, fun q2 hq2 => ?_⟩⟩
  have u1 := z03 hq1 (HO.tup [V.str "while", y1, V.int (m - 1), y3])
  have u2 := z03 hq2 (HO.tup [V.ref q1])
  have u12 := u1.trans u2
  have dd : Dt (upd (upd H8 q1 (HO.tup [V.str "while", y1, V.int (m - 1), y3])) q2 (HO.tup [V.ref q1])) (.ref q2) (.tup [(D.whl t (m - 1) bb).enc]) := by
   rw [D.enc]
   exact .tup z02 (.cons (.tup (u2 _ _ z02) (.cons (.str _) (.cons (t1.kp u12.kp) (.cons (.int _) (.cons (t3.kp u12.kp) .nil))))) .nil)
  refine zwm (t3.kp u12.kp) dd (by rw [z2l]; simp; omega) fun z3 H9 u3 d9 => ⟨Nat.zero_le _, fun q4 hq4 => ⟨by decide, fun q5 hq5 => ?_⟩⟩
  have u4 := z03 hq4 (HO.tup [])
  have u5 := z03 hq5 (HO.tup [V.str "if", y1, z3, V.ref q4])
  have u35 := u3.trans (u4.trans u5)
  refine nine _ _ (u12.trans u35) ?_
  rw [if_pos hm, zkd, D.enc, z4h]
  refine .tup z02 (.cons (.str _) (.cons (t1.kp (u12.trans u35).kp) (.cons ?_ (.cons ?_ .nil))))
  ·have := d9.kp (u4.trans u5).kp
   rw [z3u, z3u]
   exact this
  ·rw [z3u]
   exact .tup (u5 _ _ z02) .nil
 ·rw [if_neg hm]
  exact nine _ _ (Same.refl _) (by rw [if_neg (show ¬ m > 0 from hm)]; exact d7')
end
theorem q2k {K : PySem.W.Frag} {a : Addr} {o : Option Addr} {its : Array Value} {n : Nat} {l : Array (Option Value)} {xs : List V} (h : K.lookup a = some ⟨.type "tuple", o, .seq its n, l⟩) (r : Vals xs its.toList) (hz : its.size ≤ sizeLine := by decide) : ∀ H, SqT K H a xs := fun H => .inr ⟨_, _, _, h, rfl, rfl, hz, r⟩
theorem q1o {l : PySem.W.OpenLaw} {w : World} {K : PySem.W.Frag} {h : Heap} {mg : Str → Option Value} {fa f0 f1 f2 f3 f4 f5 f6 f7 f8 f9 f10 f11 f12 f13 f14 f15 f16 f17 f18 f19 f20 f21 f22 f23 f24 f25 f26 f27 f28 f29 f30 f31 f32 f33 f34 : Addr} (X : K.In h) (G : h.Ns mainGlobals mg) (hfa : mg "law" = some (.ref fa))
  {od0 an0 od1 an1 od2 an2 od3 an3 od4 an4 od5 an5 od6 an6 od7 an7 od8 an8 od9 an9 od10 an10 od11 an11 od12 an12 od13 an13 od14 an14 od15 an15 od16 an16 od17 an17 od18 an18 od19 an19 od20 an20 od21 an21 od22 an22 od23 an23 od24 an24 od25 an25 od26 an26 od27 an27 od28 an28 od29 an29 od30 an30 od31 an31 od32 an32 od33 an33 od34 an34 : Option Addr} {sl0 sl1 sl2 sl3 sl4 sl5 sl6 sl7 sl8 sl9 sl10 sl11 sl12 sl13 sl14 sl15 sl16 sl17 sl18 sl19 sl20 sl21 sl22 sl23 sl24 sl25 sl26 sl27 sl28 sl29 sl30 sl31 sl32 sl33 sl34 : Array (Option Value)} {oc0 kV0 dc0 pm0 ct0 cd0 oc1 kV1 dc1 pm1 ct1 cd1 oc2 kV2 dc2 pm2 ct2 cd2 oc3 kV3 dc3 pm3 ct3 cd3 oc4 kV4 dc4 pm4 ct4 cd4 oc5 kV5 dc5 pm5 ct5 cd5 oc6 kV6 dc6 pm6 ct6 cd6 oc7 kV7 dc7 pm7 ct7 cd7 oc8 kV8 dc8 pm8 ct8 cd8 oc9 kV9 dc9 pm9 ct9 cd9 oc10 kV10 dc10 pm10 ct10 cd10 oc11 kV11 dc11 pm11 ct11 cd11 oc12 kV12 dc12 pm12 ct12 cd12 oc13 kV13 dc13 pm13 ct13 oc14 kV14 dc14 pm14 ct14 oc15 kV15 dc15 pm15 ct15 cd15 oc16 kV16 dc16 pm16 ct16 cd16 oc17 kV17 dc17 pm17 ct17 cd17 oc18 kV18 dc18 pm18 ct18 cd18 oc19 kV19 dc19 pm19 ct19 cd19 oc20 kV20 dc20 pm20 ct20 cd20 oc21 kV21 dc21 pm21 ct21 cd21 oc22 kV22 dc22 pm22 ct22 cd22 oc23 kV23 dc23 pm23 ct23 cd23 oc24 kV24 dc24 pm24 ct24 cd24 oc25 kV25 dc25 pm25 ct25 cd25 oc26 kV26 dc26 pm26 ct26 cd26 oc27 kV27 dc27 pm27 ct27 cd27 oc28 kV28 dc28 pm28 ct28 cd28 oc29 kV29 dc29 pm29 ct29 cd29 oc30 kV30 dc30 pm30 ct30 cd30 oc31 kV31 dc31 pm31 ct31 cd31 oc32 kV32 dc32 pm32 ct32 cd32 oc33 kV33 dc33 pm33 ct33 cd33 oc34 kV34 dc34 pm34 ct34 cd34 : Value}
  {e13 e14 : Addr} {t13 t14 : Addr}
  {ai : Addr} {oi : Option Addr} {ni : Nat} {li : Array (Option Value)} {ti0 ti1 : Tok}
  (a0 : PySem.W.nsIn K mainGlobals "whiles" = some (some (.ref f0))) (l0 : K.lookup f0 = some ⟨oc0, od0, .func (PySem.W.fnOf "whiles" "whiles" (defArgs z6j) (defBody z6j) (defScope z6j) .none kV0 dc0 pm0 an0 cd0 ct0), sl0⟩) (c0 : PySem.W.codeIn K cd0 "whiles" = true) (k0 : PySem.W.keepIn K (.ref f0) = true)
  (a1 : PySem.W.nsIn K mainGlobals "is_whole" = some (some (.ref f1))) (l1 : K.lookup f1 = some ⟨oc1, od1, .func (PySem.W.fnOf "is_whole" "is_whole" (defArgs z3e) (defBody z3e) (defScope z3e) .none kV1 dc1 pm1 an1 cd1 ct1), sl1⟩) (c1 : PySem.W.codeIn K cd1 "is_whole" = true) (k1 : PySem.W.keepIn K (.ref f1) = true)
  (a2 : PySem.W.nsIn K mainGlobals "is_whole_from" = some (some (.ref f2))) (l2 : K.lookup f2 = some ⟨oc2, od2, .func (PySem.W.fnOf "is_whole_from" "is_whole_from" (defArgs z1j) (defBody z1j) (defScope z1j) .none kV2 dc2 pm2 an2 cd2 ct2), sl2⟩) (c2 : PySem.W.codeIn K cd2 "is_whole_from" = true) (k2 : PySem.W.keepIn K (.ref f2) = true)
  (a3 : PySem.W.nsIn K mainGlobals "is_tuple_of" = some (some (.ref f3))) (l3 : K.lookup f3 = some ⟨oc3, od3, .func (PySem.W.fnOf "is_tuple_of" "is_tuple_of" (defArgs z1s) (defBody z1s) (defScope z1s) .none kV3 dc3 pm3 an3 cd3 ct3), sl3⟩) (c3 : PySem.W.codeIn K cd3 "is_tuple_of" = true) (k3 : PySem.W.keepIn K (.ref f3) = true)
  (a4 : PySem.W.nsIn K mainGlobals "term_of" = some (some (.ref f4))) (l4 : K.lookup f4 = some ⟨oc4, od4, .func (PySem.W.fnOf "term_of" "term_of" (defArgs z5u) (defBody z5u) (defScope z5u) .none kV4 dc4 pm4 an4 cd4 ct4), sl4⟩) (c4 : PySem.W.codeIn K cd4 "term_of" = true) (k4 : PySem.W.keepIn K (.ref f4) = true)
  (a5 : PySem.W.nsIn K mainGlobals "blocks_of" = some (some (.ref f5))) (l5 : K.lookup f5 = some ⟨oc5, od5, .func (PySem.W.fnOf "blocks_of" "blocks_of" (defArgs z4f) (defBody z4f) (defScope z4f) .none kV5 dc5 pm5 an5 cd5 ct5), sl5⟩) (c5 : PySem.W.codeIn K cd5 "blocks_of" = true) (k5 : PySem.W.keepIn K (.ref f5) = true)
  (a6 : PySem.W.nsIn K mainGlobals "deed_with" = some (some (.ref f6))) (l6 : K.lookup f6 = some ⟨oc6, od6, .func (PySem.W.fnOf "deed_with" "deed_with" (defArgs z36) (defBody z36) (defScope z36) .none kV6 dc6 pm6 an6 cd6 ct6), sl6⟩) (c6 : PySem.W.codeIn K cd6 "deed_with" = true) (k6 : PySem.W.keepIn K (.ref f6) = true)
  (a7 : PySem.W.nsIn K mainGlobals "all_deeds" = some (some (.ref f7))) (l7 : K.lookup f7 = some ⟨oc7, od7, .func (PySem.W.fnOf "all_deeds" "all_deeds" (defArgs z3q) (defBody z3q) (defScope z3q) .none kV7 dc7 pm7 an7 cd7 ct7), sl7⟩) (c7 : PySem.W.codeIn K cd7 "all_deeds" = true) (k7 : PySem.W.keepIn K (.ref f7) = true)
  (a8 : PySem.W.nsIn K mainGlobals "deeds_of_block" = some (some (.ref f8))) (l8 : K.lookup f8 = some ⟨oc8, od8, .func (PySem.W.fnOf "deeds_of_block" "deeds_of_block" (defArgs z0b) (defBody z0b) (defScope z0b) .none kV8 dc8 pm8 an8 cd8 ct8), sl8⟩) (c8 : PySem.W.codeIn K cd8 "deeds_of_block" = true) (k8 : PySem.W.keepIn K (.ref f8) = true)
  (a9 : PySem.W.nsIn K mainGlobals "peeled" = some (some (.ref f9))) (l9 : K.lookup f9 = some ⟨oc9, od9, .func (PySem.W.fnOf "peeled" "peeled" (defArgs z3o) (defBody z3o) (defScope z3o) .none kV9 dc9 pm9 an9 cd9 ct9), sl9⟩) (c9 : PySem.W.codeIn K cd9 "peeled" = true) (k9 : PySem.W.keepIn K (.ref f9) = true)
  (a10 : PySem.W.nsIn K mainGlobals "round_and_rest" = some (some (.ref f10))) (l10 : K.lookup f10 = some ⟨oc10, od10, .func (PySem.W.fnOf "round_and_rest" "round_and_rest" (defArgs z1k) (defBody z1k) (defScope z1k) .none kV10 dc10 pm10 an10 cd10 ct10), sl10⟩) (c10 : PySem.W.codeIn K cd10 "round_and_rest" = true) (k10 : PySem.W.keepIn K (.ref f10) = true)
  (a11 : PySem.W.nsIn K mainGlobals "block_with" = some (some (.ref f11))) (l11 : K.lookup f11 = some ⟨oc11, od11, .func (PySem.W.fnOf "block_with" "block_with" (defArgs z2e) (defBody z2e) (defScope z2e) .none kV11 dc11 pm11 an11 cd11 ct11), sl11⟩) (c11 : PySem.W.codeIn K cd11 "block_with" = true) (k11 : PySem.W.keepIn K (.ref f11) = true)
  (a12 : PySem.W.nsIn K mainGlobals "deed_or" = some (some (.ref f12))) (l12 : K.lookup f12 = some ⟨oc12, od12, .func (PySem.W.fnOf "deed_or" "deed_or" (defArgs z2d) (defBody z2d) (defScope z2d) .none kV12 dc12 pm12 an12 cd12 ct12), sl12⟩) (c12 : PySem.W.codeIn K cd12 "deed_or" = true) (k12 : PySem.W.keepIn K (.ref f12) = true)
  (a13 : PySem.W.nsIn K mainGlobals "run" = some (some (.ref f13))) (l13 : K.lookup f13 = some ⟨oc13, od13, .func (PySem.W.fnOf "run" "run" (defArgs zew) (defBody zew) (defScope zew) .none kV13 dc13 pm13 an13 (.ref e13) ct13), sl13⟩) (c13 : PySem.W.codeIn K (.ref e13) "run" = true) (k13 : PySem.W.keepIn K (.ref f13) = true)
  (a14 : PySem.W.nsIn K mainGlobals "traced" = some (some (.ref f14))) (l14 : K.lookup f14 = some ⟨oc14, od14, .func (PySem.W.fnOf "traced" "traced" (defArgs z32) (defBody z32) (defScope z32) .none kV14 dc14 pm14 an14 (.ref e14) ct14), sl14⟩) (c14 : PySem.W.codeIn K (.ref e14) "traced" = true) (k14 : PySem.W.keepIn K (.ref f14) = true)
  (a15 : PySem.W.nsIn K mainGlobals "run_by" = some (some (.ref f15))) (l15 : K.lookup f15 = some ⟨oc15, od15, .func (PySem.W.fnOf "run_by" "run_by" (defArgs z2u) (defBody z2u) (defScope z2u) .none kV15 dc15 pm15 an15 cd15 ct15), sl15⟩) (c15 : PySem.W.codeIn K cd15 "run_by" = true) (k15 : PySem.W.keepIn K (.ref f15) = true)
  (a16 : PySem.W.nsIn K mainGlobals "settled" = some (some (.ref f16))) (l16 : K.lookup f16 = some ⟨oc16, od16, .func (PySem.W.fnOf "settled" "settled" (defArgs z4e) (defBody z4e) (defScope z4e) .none kV16 dc16 pm16 an16 cd16 ct16), sl16⟩) (c16 : PySem.W.codeIn K cd16 "settled" = true) (k16 : PySem.W.keepIn K (.ref f16) = true)
  (a17 : PySem.W.nsIn K mainGlobals "names_at_first" = some (some (.ref f17))) (l17 : K.lookup f17 = some ⟨oc17, od17, .func (PySem.W.fnOf "names_at_first" "names_at_first" (defArgs z0g) (defBody z0g) (defScope z0g) .none kV17 dc17 pm17 an17 cd17 ct17), sl17⟩) (c17 : PySem.W.codeIn K cd17 "names_at_first" = true) (k17 : PySem.W.keepIn K (.ref f17) = true)
  (a18 : PySem.W.nsIn K mainGlobals "do_block" = some (some (.ref f18))) (l18 : K.lookup f18 = some ⟨oc18, od18, .func (PySem.W.fnOf "do_block" "do_block" (defArgs z1i) (defBody z1i) (defScope z1i) .none kV18 dc18 pm18 an18 cd18 ct18), sl18⟩) (c18 : PySem.W.codeIn K cd18 "do_block" = true) (k18 : PySem.W.keepIn K (.ref f18) = true)
  (a19 : PySem.W.nsIn K mainGlobals "do_deed" = some (some (.ref f19))) (l19 : K.lookup f19 = some ⟨oc19, od19, .func (PySem.W.fnOf "do_deed" "do_deed" (defArgs z2t) (defBody z2t) (defScope z2t) .none kV19 dc19 pm19 an19 cd19 ct19), sl19⟩) (c19 : PySem.W.codeIn K cd19 "do_deed" = true) (k19 : PySem.W.keepIn K (.ref f19) = true)
  (a20 : PySem.W.nsIn K mainGlobals "do_set" = some (some (.ref f20))) (l20 : K.lookup f20 = some ⟨oc20, od20, .func (PySem.W.fnOf "do_set" "do_set" (defArgs z3p) (defBody z3p) (defScope z3p) .none kV20 dc20 pm20 an20 cd20 ct20), sl20⟩) (c20 : PySem.W.codeIn K cd20 "do_set" = true) (k20 : PySem.W.keepIn K (.ref f20) = true)
  (a21 : PySem.W.nsIn K mainGlobals "do_if" = some (some (.ref f21))) (l21 : K.lookup f21 = some ⟨oc21, od21, .func (PySem.W.fnOf "do_if" "do_if" (defArgs z4m) (defBody z4m) (defScope z4m) .none kV21 dc21 pm21 an21 cd21 ct21), sl21⟩) (c21 : PySem.W.codeIn K cd21 "do_if" = true) (k21 : PySem.W.keepIn K (.ref f21) = true)
  (a22 : PySem.W.nsIn K mainGlobals "do_while" = some (some (.ref f22))) (l22 : K.lookup f22 = some ⟨oc22, od22, .func (PySem.W.fnOf "do_while" "do_while" (defArgs z1h) (defBody z1h) (defScope z1h) .none kV22 dc22 pm22 an22 cd22 ct22), sl22⟩) (c22 : PySem.W.codeIn K cd22 "do_while" = true) (k22 : PySem.W.keepIn K (.ref f22) = true)
  (a23 : PySem.W.nsIn K mainGlobals "reckon" = some (some (.ref f23))) (l23 : K.lookup f23 = some ⟨oc23, od23, .func (PySem.W.fnOf "reckon" "reckon" (defArgs z2v) (defBody z2v) (defScope z2v) .none kV23 dc23 pm23 an23 cd23 ct23), sl23⟩) (c23 : PySem.W.codeIn K cd23 "reckon" = true) (k23 : PySem.W.keepIn K (.ref f23) = true)
  (a24 : PySem.W.nsIn K mainGlobals "worth_of" = some (some (.ref f24))) (l24 : K.lookup f24 = some ⟨oc24, od24, .func (PySem.W.fnOf "worth_of" "worth_of" (defArgs z30) (defBody z30) (defScope z30) .none kV24 dc24 pm24 an24 cd24 ct24), sl24⟩) (c24 : PySem.W.codeIn K cd24 "worth_of" = true) (k24 : PySem.W.keepIn K (.ref f24) = true)
  (a25 : PySem.W.nsIn K mainGlobals "_law_cell" = some (some (.ref f25))) (l25 : K.lookup f25 = some ⟨oc25, od25, .func (PySem.W.fnOf "_law_cell" "_law_cell" (defArgs z3z) (defBody z3z) (defScope z3z) .none kV25 dc25 pm25 an25 cd25 ct25), sl25⟩) (c25 : PySem.W.codeIn K cd25 "_law_cell" = true) (k25 : PySem.W.keepIn K (.ref f25) = true)
  (a26 : PySem.W.nsIn K mainGlobals "_law_pick" = some (some (.ref f26))) (l26 : K.lookup f26 = some ⟨oc26, od26, .func (PySem.W.fnOf "_law_pick" "_law_pick" (defArgs z2s) (defBody z2s) (defScope z2s) .none kV26 dc26 pm26 an26 cd26 ct26), sl26⟩) (c26 : PySem.W.codeIn K cd26 "_law_pick" = true) (k26 : PySem.W.keepIn K (.ref f26) = true)
  (a27 : PySem.W.nsIn K mainGlobals "_law_sum" = some (some (.ref f27))) (l27 : K.lookup f27 = some ⟨oc27, od27, .func (PySem.W.fnOf "_law_sum" "_law_sum" (defArgs z1r) (defBody z1r) (defScope z1r) .none kV27 dc27 pm27 an27 cd27 ct27), sl27⟩) (c27 : PySem.W.codeIn K cd27 "_law_sum" = true) (k27 : PySem.W.keepIn K (.ref f27) = true)
  (a28 : PySem.W.nsIn K mainGlobals "_law_counted" = some (some (.ref f28))) (l28 : K.lookup f28 = some ⟨oc28, od28, .func (PySem.W.fnOf "_law_counted" "_law_counted" (defArgs z0i) (defBody z0i) (defScope z0i) .none kV28 dc28 pm28 an28 cd28 ct28), sl28⟩) (c28 : PySem.W.codeIn K cd28 "_law_counted" = true) (k28 : PySem.W.keepIn K (.ref f28) = true)
  (a29 : PySem.W.nsIn K mainGlobals "_law_block" = some (some (.ref f29))) (l29 : K.lookup f29 = some ⟨oc29, od29, .func (PySem.W.fnOf "_law_block" "_law_block" (defArgs z0c) (defBody z0c) (defScope z0c) .none kV29 dc29 pm29 an29 cd29 ct29), sl29⟩) (c29 : PySem.W.codeIn K cd29 "_law_block" = true) (k29 : PySem.W.keepIn K (.ref f29) = true)
  (a30 : PySem.W.nsIn K mainGlobals "_law_program" = some (some (.ref f30))) (l30 : K.lookup f30 = some ⟨oc30, od30, .func (PySem.W.fnOf "_law_program" "_law_program" (defArgs z0x) (defBody z0x) (defScope z0x) .none kV30 dc30 pm30 an30 cd30 ct30), sl30⟩) (c30 : PySem.W.codeIn K cd30 "_law_program" = true) (k30 : PySem.W.keepIn K (.ref f30) = true)
  (a31 : PySem.W.nsIn K mainGlobals "_law_all_worths" = some (some (.ref f31))) (l31 : K.lookup f31 = some ⟨oc31, od31, .func (PySem.W.fnOf "_law_all_worths" "_law_all_worths" (defArgs z0h) (defBody z0h) (defScope z0h) .none kV31 dc31 pm31 an31 cd31 ct31), sl31⟩) (c31 : PySem.W.codeIn K cd31 "_law_all_worths" = true) (k31 : PySem.W.keepIn K (.ref f31) = true)
  (a32 : PySem.W.nsIn K mainGlobals "_law_at" = some (some (.ref f32))) (l32 : K.lookup f32 = some ⟨oc32, od32, .func (PySem.W.fnOf "_law_at" "_law_at" (defArgs z3a) (defBody z3a) (defScope z3a) .none kV32 dc32 pm32 an32 cd32 ct32), sl32⟩) (c32 : PySem.W.codeIn K cd32 "_law_at" = true) (k32 : PySem.W.keepIn K (.ref f32) = true)
  (a33 : PySem.W.nsIn K mainGlobals "_law_with" = some (some (.ref f33))) (l33 : K.lookup f33 = some ⟨oc33, od33, .func (PySem.W.fnOf "_law_with" "_law_with" (defArgs z23) (defBody z23) (defScope z23) .none kV33 dc33 pm33 an33 cd33 ct33), sl33⟩) (c33 : PySem.W.codeIn K cd33 "_law_with" = true) (k33 : PySem.W.keepIn K (.ref f33) = true)
  (a34 : PySem.W.nsIn K mainGlobals "law" = some (some (.ref f34))) (l34 : K.lookup f34 = some ⟨oc34, od34, .func (PySem.W.fnOf "law" "law" (defArgs z3x) (defBody z3x) (defScope z3x) .none kV34 dc34 pm34 an34 cd34 ct34), sl34⟩) (c34 : PySem.W.codeIn K cd34 "law" = true) (k34 : PySem.W.keepIn K (.ref f34) = true)
  (z_enumerate : PySem.W.nsIn K mainGlobals "enumerate" = some none)
  (z_sorted : PySem.W.nsIn K mainGlobals "sorted" = some none)
  (z_len : PySem.W.nsIn K mainGlobals "len" = some none)
  (z_max : PySem.W.nsIn K mainGlobals "max" = some none)
  (z_min : PySem.W.nsIn K mainGlobals "min" = some none)
  (z_dict : PySem.W.nsIn K mainGlobals "dict" = some none)
  (z_tuple : PySem.W.nsIn K mainGlobals "tuple" = some none)
  (z_range : PySem.W.nsIn K mainGlobals "range" = some none)
  (z_isinstance : PySem.W.nsIn K mainGlobals "isinstance" = some none)
  (z_int : PySem.W.nsIn K mainGlobals "int" = some none)
  (z_bool : PySem.W.nsIn K mainGlobals "bool" = some none)
  (z_zip : PySem.W.nsIn K mainGlobals "zip" = some none)
  (pw : PySem.W.nsIn K mainGlobals "WIDE" = some (some (.ref ai)))
  (ph : K.lookup ai = some ⟨.type "tuple", oi, .seq #[.int (-32768) ti0, .int 32767 ti1] ni, li⟩)
  (n1314 : t13 ≠ t14)
  : ∃ fd : FuncData, (∀ (s : Shared) (v : Value), BindsTo s fd ⟨[v], []⟩ [("_law_script", v)]) ∧ ∀ base : Heap, K.In base → base.Ns mainGlobals mg → q1q mg base [(e13, t13), (e14, t14)] → FnOk l.prog w K mg base CX0 23 fa fd ["_law_script"] (zuh K t13 t14) := by
 have e := hfa.symm.trans (PySem.W.mg_of X G a34)
 cases e
 have F_whiles := z2g (st := z6j) l0 c0 k0
 have B_whiles := F_whiles.binds (ps := ["program"]) fun _ _ _ _ _ _ us hl => match us, hl with | [_], _ => rfl
 have d_whiles : Df K mg "whiles" z6j ["program"] f0 _ := ⟨F_whiles, PySem.W.mg_of X G a0, B_whiles⟩
 have F_is_whole := z2g (st := z3e) l1 c1 k1
 have B_is_whole := F_is_whole.binds (ps := ["thing"]) fun _ _ _ _ _ _ us hl => match us, hl with | [_], _ => rfl
 have d_is_whole : Df K mg "is_whole" z3e ["thing"] f1 _ := ⟨F_is_whole, PySem.W.mg_of X G a1, B_is_whole⟩
 have F_is_whole_from := z2g (st := z1j) l2 c2 k2
 have B_is_whole_from := F_is_whole_from.binds (ps := ["thing", "low", "high"]) fun _ _ _ _ _ _ us hl => match us, hl with | [_, _, _], _ => rfl
 have d_is_whole_from : Df K mg "is_whole_from" z1j ["thing", "low", "high"] f2 _ := ⟨F_is_whole_from, PySem.W.mg_of X G a2, B_is_whole_from⟩
 have F_is_tuple_of := z2g (st := z1s) l3 c3 k3
 have B_is_tuple_of := F_is_tuple_of.binds (ps := ["thing", "many"]) fun _ _ _ _ _ _ us hl => match us, hl with | [_, _], _ => rfl
 have d_is_tuple_of : Df K mg "is_tuple_of" z1s ["thing", "many"] f3 _ := ⟨F_is_tuple_of, PySem.W.mg_of X G a3, B_is_tuple_of⟩
 have F_term_of := z2g (st := z5u) l4 c4 k4
 have B_term_of := F_term_of.binds (ps := ["deed"]) fun _ _ _ _ _ _ us hl => match us, hl with | [_], _ => rfl
 have d_term_of : Df K mg "term_of" z5u ["deed"] f4 _ := ⟨F_term_of, PySem.W.mg_of X G a4, B_term_of⟩
 have F_blocks_of := z2g (st := z4f) l5 c5 k5
 have B_blocks_of := F_blocks_of.binds (ps := ["deed"]) fun _ _ _ _ _ _ us hl => match us, hl with | [_], _ => rfl
 have d_blocks_of : Df K mg "blocks_of" z4f ["deed"] f5 _ := ⟨F_blocks_of, PySem.W.mg_of X G a5, B_blocks_of⟩
 have F_deed_with := z2g (st := z36) l6 c6 k6
 have B_deed_with := F_deed_with.binds (ps := ["deed", "term", "blocks"]) fun _ _ _ _ _ _ us hl => match us, hl with | [_, _, _], _ => rfl
 have d_deed_with : Df K mg "deed_with" z36 ["deed", "term", "blocks"] f6 _ := ⟨F_deed_with, PySem.W.mg_of X G a6, B_deed_with⟩
 have F_all_deeds := z2g (st := z3q) l7 c7 k7
 have B_all_deeds := F_all_deeds.binds (ps := ["program"]) fun _ _ _ _ _ _ us hl => match us, hl with | [_], _ => rfl
 have d_all_deeds : Df K mg "all_deeds" z3q ["program"] f7 _ := ⟨F_all_deeds, PySem.W.mg_of X G a7, B_all_deeds⟩
 have F_deeds_of_block := z2g (st := z0b) l8 c8 k8
 have B_deeds_of_block := F_deeds_of_block.binds (ps := ["block", "path"]) fun _ _ _ _ _ _ us hl => match us, hl with | [_, _], _ => rfl
 have d_deeds_of_block : Df K mg "deeds_of_block" z0b ["block", "path"] f8 _ := ⟨F_deeds_of_block, PySem.W.mg_of X G a8, B_deeds_of_block⟩
 have F_peeled := z2g (st := z3o) l9 c9 k9
 have B_peeled := F_peeled.binds (ps := ["program", "path"]) fun _ _ _ _ _ _ us hl => match us, hl with | [_, _], _ => rfl
 have d_peeled : Df K mg "peeled" z3o ["program", "path"] f9 _ := ⟨F_peeled, PySem.W.mg_of X G a9, B_peeled⟩
 have F_round_and_rest := z2g (st := z1k) l10 c10 k10
 have B_round_and_rest := F_round_and_rest.binds (ps := ["deed"]) fun _ _ _ _ _ _ us hl => match us, hl with | [_], _ => rfl
 have d_round_and_rest : Df K mg "round_and_rest" z1k ["deed"] f10 _ := ⟨F_round_and_rest, PySem.W.mg_of X G a10, B_round_and_rest⟩
 have F_block_with := z2g (st := z2e) l11 c11 k11
 have B_block_with := F_block_with.binds (ps := ["block", "path", "deed_path", "other"]) fun _ _ _ _ _ _ us hl => match us, hl with | [_, _, _, _], _ => rfl
 have d_block_with : Df K mg "block_with" z2e ["block", "path", "deed_path", "other"] f11 _ := ⟨F_block_with, PySem.W.mg_of X G a11, B_block_with⟩
 have F_deed_or := z2g (st := z2d) l12 c12 k12
 have B_deed_or := F_deed_or.binds (ps := ["deed", "path", "deed_path", "other"]) fun _ _ _ _ _ _ us hl => match us, hl with | [_, _, _, _], _ => rfl
 have d_deed_or : Df K mg "deed_or" z2d ["deed", "path", "deed_path", "other"] f12 _ := ⟨F_deed_or, PySem.W.mg_of X G a12, B_deed_or⟩
 have F_run := z2g (st := zew) l13 c13 k13
 have B_run := F_run.binds (ps := ["program", "worths"]) fun _ _ _ _ _ _ us hl => match us, hl with | [_, _], _ => rfl
 have d_run : Df K mg "run" zew ["program", "worths"] f13 _ := ⟨F_run, PySem.W.mg_of X G a13, B_run⟩
 have F_traced := z2g (st := z32) l14 c14 k14
 have B_traced := F_traced.binds (ps := ["program", "worths"]) fun _ _ _ _ _ _ us hl => match us, hl with | [_, _], _ => rfl
 have d_traced : Df K mg "traced" z32 ["program", "worths"] f14 _ := ⟨F_traced, PySem.W.mg_of X G a14, B_traced⟩
 have F_run_by := z2g (st := z2u) l15 c15 k15
 have B_run_by := F_run_by.binds (ps := ["program", "worths", "settle"]) fun _ _ _ _ _ _ us hl => match us, hl with | [_, _, _], _ => rfl
 have d_run_by : Df K mg "run_by" z2u ["program", "worths", "settle"] f15 _ := ⟨F_run_by, PySem.W.mg_of X G a15, B_run_by⟩
 have F_settled := z2g (st := z4e) l16 c16 k16
 have B_settled := F_settled.binds (ps := ["worth", "path", "rows"]) fun _ _ _ _ _ _ us hl => match us, hl with | [_, _, _], _ => rfl
 have d_settled : Df K mg "settled" z4e ["worth", "path", "rows"] f16 _ := ⟨F_settled, PySem.W.mg_of X G a16, B_settled⟩
 have F_names_at_first := z2g (st := z0g) l17 c17 k17
 have B_names_at_first := F_names_at_first.binds (ps := ["ins", "worths"]) fun _ _ _ _ _ _ us hl => match us, hl with | [_, _], _ => rfl
 have d_names_at_first : Df K mg "names_at_first" z0g ["ins", "worths"] f17 _ := ⟨F_names_at_first, PySem.W.mg_of X G a17, B_names_at_first⟩
 have F_do_block := z2g (st := z1i) l18 c18 k18
 have B_do_block := F_do_block.binds (ps := ["block", "path", "names", "settle"]) fun _ _ _ _ _ _ us hl => match us, hl with | [_, _, _, _], _ => rfl
 have d_do_block : Df K mg "do_block" z1i ["block", "path", "names", "settle"] f18 _ := ⟨F_do_block, PySem.W.mg_of X G a18, B_do_block⟩
 have F_do_deed := z2g (st := z2t) l19 c19 k19
 have B_do_deed := F_do_deed.binds (ps := ["deed", "path", "names", "settle"]) fun _ _ _ _ _ _ us hl => match us, hl with | [_, _, _, _], _ => rfl
 have d_do_deed : Df K mg "do_deed" z2t ["deed", "path", "names", "settle"] f19 _ := ⟨F_do_deed, PySem.W.mg_of X G a19, B_do_deed⟩
 have F_do_set := z2g (st := z3p) l20 c20 k20
 have B_do_set := F_do_set.binds (ps := ["deed", "path", "names", "settle"]) fun _ _ _ _ _ _ us hl => match us, hl with | [_, _, _, _], _ => rfl
 have d_do_set : Df K mg "do_set" z3p ["deed", "path", "names", "settle"] f20 _ := ⟨F_do_set, PySem.W.mg_of X G a20, B_do_set⟩
 have F_do_if := z2g (st := z4m) l21 c21 k21
 have B_do_if := F_do_if.binds (ps := ["deed", "path", "names", "settle"]) fun _ _ _ _ _ _ us hl => match us, hl with | [_, _, _, _], _ => rfl
 have d_do_if : Df K mg "do_if" z4m ["deed", "path", "names", "settle"] f21 _ := ⟨F_do_if, PySem.W.mg_of X G a21, B_do_if⟩
 have F_do_while := z2g (st := z1h) l22 c22 k22
 have B_do_while := F_do_while.binds (ps := ["deed", "path", "names", "settle"]) fun _ _ _ _ _ _ us hl => match us, hl with | [_, _, _, _], _ => rfl
 have d_do_while : Df K mg "do_while" z1h ["deed", "path", "names", "settle"] f22 _ := ⟨F_do_while, PySem.W.mg_of X G a22, B_do_while⟩
 have F_reckon := z2g (st := z2v) l23 c23 k23
 have B_reckon := F_reckon.binds (ps := ["term", "path", "names", "settle"]) fun _ _ _ _ _ _ us hl => match us, hl with | [_, _, _, _], _ => rfl
 have d_reckon : Df K mg "reckon" z2v ["term", "path", "names", "settle"] f23 _ := ⟨F_reckon, PySem.W.mg_of X G a23, B_reckon⟩
 have F_worth_of := z2g (st := z30) l24 c24 k24
 have B_worth_of := F_worth_of.binds (ps := ["word", "one", "other"]) fun _ _ _ _ _ _ us hl => match us, hl with | [_, _, _], _ => rfl
 have d_worth_of : Df K mg "worth_of" z30 ["word", "one", "other"] f24 _ := ⟨F_worth_of, PySem.W.mg_of X G a24, B_worth_of⟩
 have F_law_cell := z2g (st := z3z) l25 c25 k25
 have B_law_cell := F_law_cell.binds (ps := ["_law_script", "_law_k"]) fun _ _ _ _ _ _ us hl => match us, hl with | [_, _], _ => rfl
 have d_law_cell : Df K mg "_law_cell" z3z ["_law_script", "_law_k"] f25 _ := ⟨F_law_cell, PySem.W.mg_of X G a25, B_law_cell⟩
 have F_law_pick := z2g (st := z2s) l26 c26 k26
 have B_law_pick := F_law_pick.binds (ps := ["_law_script", "_law_k", "_law_many"]) fun _ _ _ _ _ _ us hl => match us, hl with | [_, _, _], _ => rfl
 have d_law_pick : Df K mg "_law_pick" z2s ["_law_script", "_law_k", "_law_many"] f26 _ := ⟨F_law_pick, PySem.W.mg_of X G a26, B_law_pick⟩
 have F_law_sum := z2g (st := z1r) l27 c27 k27
 have B_law_sum := F_law_sum.binds (ps := ["_law_script", "_law_at_here", "_law_known", "_law_deep"]) fun _ _ _ _ _ _ us hl => match us, hl with | [_, _, _, _], _ => rfl
 have d_law_sum : Df K mg "_law_sum" z1r ["_law_script", "_law_at_here", "_law_known", "_law_deep"] f27 _ := ⟨F_law_sum, PySem.W.mg_of X G a27, B_law_sum⟩
 have F_law_counted := z2g (st := z0i) l28 c28 k28
 have B_law_counted := F_law_counted.binds (ps := ["_law_script", "_law_at_here", "_law_known", "_law_body", "_law_deep"]) fun _ _ _ _ _ _ us hl => match us, hl with | [_, _, _, _, _], _ => rfl
 have d_law_counted : Df K mg "_law_counted" z0i ["_law_script", "_law_at_here", "_law_known", "_law_body", "_law_deep"] f28 _ := ⟨F_law_counted, PySem.W.mg_of X G a28, B_law_counted⟩
 have F_law_block := z2g (st := z0c) l29 c29 k29
 have B_law_block := F_law_block.binds (ps := ["_law_script", "_law_at_here", "_law_known", "_law_deep"]) fun _ _ _ _ _ _ us hl => match us, hl with | [_, _, _, _], _ => rfl
 have d_law_block : Df K mg "_law_block" z0c ["_law_script", "_law_at_here", "_law_known", "_law_deep"] f29 _ := ⟨F_law_block, PySem.W.mg_of X G a29, B_law_block⟩
 have F_law_program := z2g (st := z0x) l30 c30 k30
 have B_law_program := F_law_program.binds (ps := ["_law_script", "_law_at_here"]) fun _ _ _ _ _ _ us hl => match us, hl with | [_, _], _ => rfl
 have d_law_program : Df K mg "_law_program" z0x ["_law_script", "_law_at_here"] f30 _ := ⟨F_law_program, PySem.W.mg_of X G a30, B_law_program⟩
 have F_law_all_worths := z2g (st := z0h) l31 c31 k31
 have B_law_all_worths := F_law_all_worths.binds (ps := ["_law_program_here"]) fun _ _ _ _ _ _ us hl => match us, hl with | [_], _ => rfl
 have d_law_all_worths : Df K mg "_law_all_worths" z0h ["_law_program_here"] f31 _ := ⟨F_law_all_worths, PySem.W.mg_of X G a31, B_law_all_worths⟩
 have F_law_at := z2g (st := z3a) l32 c32 k32
 have B_law_at := F_law_at.binds (ps := ["_law_block_here", "_law_path"]) fun _ _ _ _ _ _ us hl => match us, hl with | [_, _], _ => rfl
 have d_law_at : Df K mg "_law_at" z3a ["_law_block_here", "_law_path"] f32 _ := ⟨F_law_at, PySem.W.mg_of X G a32, B_law_at⟩
 have F_law_with := z2g (st := z23) l33 c33 k33
 have B_law_with := F_law_with.binds (ps := ["_law_block_here", "_law_path", "_law_deed"]) fun _ _ _ _ _ _ us hl => match us, hl with | [_, _, _], _ => rfl
 have d_law_with : Df K mg "_law_with" z23 ["_law_block_here", "_law_path", "_law_deed"] f33 _ := ⟨F_law_with, PySem.W.mg_of X G a33, B_law_with⟩
 have F_law := z2g (st := z3x) l34 c34 k34
 have b_enumerate := PySem.W.mg_none_of X G z_enumerate
 have b_sorted := PySem.W.mg_none_of X G z_sorted
 have b_len := PySem.W.mg_none_of X G z_len
 have b_max := PySem.W.mg_none_of X G z_max
 have b_min := PySem.W.mg_none_of X G z_min
 have b_dict := PySem.W.mg_none_of X G z_dict
 have b_tuple := PySem.W.mg_none_of X G z_tuple
 have b_range := PySem.W.mg_none_of X G z_range
 have b_isinstance := PySem.W.mg_none_of X G z_isinstance
 have b_int := PySem.W.mg_none_of X G z_int
 have b_bool := PySem.W.mg_none_of X G z_bool
 have b_zip := PySem.W.mg_none_of X G z_zip
 refine ⟨PySem.W.fnOf "law" "law" (defArgs z3x) (defBody z3x) (defScope z3x) .none kV34 dc34 pm34 an34 cd34 ct34, fun s v => .of_eq rfl, fun base _ _ hTB => ?_⟩
 have FC_run : FunC K "run" "run" zew f13 _ e13 := ⟨⟨_, _, _, _, _, _, _, _, rfl, l13, c13⟩, k13⟩
 obtain ⟨tc_run, tb_run, tg_run⟩ := hTB (e13, t13) (.head _)
 have FC_traced : FunC K "traced" "traced" z32 f14 _ e14 := ⟨⟨_, _, _, _, _, _, _, _, rfl, l14, c14⟩, k14⟩
 obtain ⟨tc_traced, tb_traced, tg_traced⟩ := hTB (e14, t14) (.tail _ (.head _))
 have g_WIDE : GC mg "WIDE" (.ref ai) := ⟨_, PySem.W.mg_of X G pw, rfl⟩
 have hI : ∀ H, SqT K H ai [.int (-32768), .int 32767] := q2k ph (.cons ⟨_, rfl⟩ (.cons ⟨_, rfl⟩ .nil)) (show (2 : Nat) ≤ sizeLine by decide)
 have c_to := d_term_of.callee (zpu (P := l.prog) (w := w) (base := base) F_term_of)
 have c_bo := d_blocks_of.callee (zlc (P := l.prog) (w := w) (base := base) F_blocks_of)
 have c_dw := d_deed_with.callee (zlb (P := l.prog) (w := w) (base := base) F_deed_with)
 have c_db := zfs (P := l.prog) (w := w) (base := base) d_deeds_of_block b_enumerate c_bo 4
 have c_ad := d_all_deeds.callee (zld F_all_deeds c_db)
 have c_wh := d_whiles.callee (zry F_whiles c_ad)
 have c_rr := d_round_and_rest.callee (zez (P := l.prog) (w := w) (base := base) F_round_and_rest)
 have c_bw := zmm d_block_with d_deed_or b_enumerate b_tuple c_bo c_to c_dw 3
 have c_pe := d_peeled.callee (zpx F_peeled b_dict c_ad c_bw c_rr)
 have c_iw := d_is_whole.callee (znd (P := l.prog) (w := w) (base := base) F_is_whole b_isinstance b_int b_bool)
 have c_if := d_is_whole_from.callee (zfx F_is_whole_from c_iw)
 have c_it := d_is_tuple_of.callee (zi3 (P := l.prog) (w := w) (base := base) F_is_tuple_of b_isinstance b_len b_tuple)
 have c_nf := d_names_at_first.callee (zf0 F_names_at_first b_len b_zip c_it c_if)
 have c_se := d_settled.callee (zpv (P := l.prog) (w := w) (base := base) F_settled g_WIDE hI)
 have c_wo := d_worth_of.callee (znb (P := l.prog) (w := w) (base := base) F_worth_of b_min b_max)
 have c_re := ziv d_reckon c_wo c_se 5
 have c_do := ztx d_do_block d_do_deed d_do_set d_do_if d_do_while b_enumerate c_re 4
 have c_rb := d_run_by.callee (zs0 F_run_by b_sorted b_tuple c_nf c_do)
 have c_ru := d_run.callee (q0a FC_run tc_run tb_run tg_run c_rb)
 have c_tr := d_traced.callee (zrz FC_traced tc_traced tb_traced tg_traced c_rb)
 have c_cell := d_law_cell.callee (zxm (P := l.prog) (w := w) (base := base) F_law_cell b_len)
 have c_pick := d_law_pick.callee (zxl F_law_pick c_cell)
 have c_sum := ztw d_law_sum b_len c_pick 3
 have c_cnt := d_law_counted.callee (zq0 F_law_counted b_len c_pick c_sum)
 have c_blk := zmn d_law_block b_range b_tuple c_pick c_sum c_cnt 3
 have c_prg := d_law_program.callee (zpw F_law_program b_range b_tuple c_pick c_blk)
 have c_aw := d_law_all_worths.callee (zjg (P := l.prog) (w := w) (base := base) F_law_all_worths b_range)
 have c_at := zwq (P := l.prog) (w := w) (base := base) d_law_at b_len 4
 have c_wi := zp7 (P := l.prog) (w := w) (base := base) d_law_with b_len 4
 exact q0b n1314 F_law b_len c_prg c_pick c_wh c_pe c_at c_wi c_aw c_ru c_tr
theorem q3s {l : PySem.W.OpenLaw} {q : Program} {loose : List Str} {XP : (Str → Option Value) → Heap → Prop} {YP : World → Heap → Prop} {d : DefRec} {K : Params → PySem.W.Frag} (e13 t13 e14 t14 : Addr) (hn : l.most = some 63) (hdf : d.params.defaults = [])
  (hY : ∀ (w : World) (h : Heap), YP w h → (K w.params).In h) (hK : ∀ w : World, PySem.W.noTabs (K w.params) = true) (hrec : ∀ t ∈ ([("run", e13, t13), ("traced", e14, t14)] : List (Str × Addr × Addr)), ∃ e, (PyProof.Rows.recsOf q).find? (fun e => e.name == t.1) = some e) (htab : ∀ (w : World), ∀ t ∈ ([("run", e13, t13), ("traced", e14, t14)] : List (Str × Addr × Addr)), PySem.W.tabIn (K w.params) t.1 = some (t.2.1, t.2.2))
  (F : ∀ (w : World) (mg : Str → Option Value) (fa : Addr) (h : Heap), (K w.params).In h → h.Ns mainGlobals mg → mg d.name = some (.ref fa) →
   ∃ fd : FuncData, (∀ (s : Shared) (u : Value), BindsTo s fd ⟨[u], []⟩ [("_law_script", u)]) ∧ ∀ base : Heap, (K w.params).In base → base.Ns mainGlobals mg → q1q mg base [(e13, t13), (e14, t14)] → FnOk l.prog w (K w.params) mg base CX0 23 fa fd ["_law_script"] (zuh (K w.params) t13 t14)) :
  PySem.W.WalkO q loose XP YP l.row.toRowW d [] (fun f vs => PySem.call f vs) :=
 L2.zu5 (n := 63) (k := 23) (x := "_law_script") (sp := fun w => zuh (K w.params) t13 t14) (tabs := [("run", e13, t13), ("traced", e14, t14)]) hn (by decide) hdf ⟨rfl, by decide, by decide⟩ hY hK hrec htab F (fun _ _ a ns hl hO hS => ⟨a, ns, rfl, hS, hl, hO _ (.head _), hO _ (.tail _ (.head _)), fun _ => rfl⟩)
end SR
namespace PySem.W.Fast
def tw3567067795920359936 := 0
def tw14899645666211004784 := 0
def tw1219969983405339339 := 0
def tw2077501656923776676 := 0
def tw8603344848786999385 := 0
def tw1951011283514862200 := 0
def tw5628865504731674460 := 0
def tw4381743260361539673 := 0
def tw10837400717960186745 := 0
def tw4647881147528774611 := 0
def tw1831420035143403955 := 0
def tw9710296392478632352 := 0
def tw1999000473695467706 := 0
def tw4939086054572285977 := 0
def tw4392554926902048485 := 0
def tw1633265239474160359 := 0
def tw9016382514371671362 := 0
def tw12333737599460985765 := 0
def tw1902551225922087957 := 0
def tw13454187640827227260 := 0
def tw3601346691763561227 := 0
def tw12626226846591923208 := 0
def tw12559619776966014799 := 0
end PySem.W.Fast
open PySem PySem.W PyProof.Rows
set_option maxRecDepth 100000 in
set_option maxHeartbeats 0 in
theorem PySem.Challenge.cw_smallrooms_k74_whole_peeled_holds : PySem.Challenge.rw_smallrooms_k74_whole_peeled.Holds := by
 w_on; o_law; k_head; (case hw => w_witness2)
 k_fill
 refine SR.q3s (l := PySem.Challenge.rw_smallrooms_k74_whole_peeled) 131 127 138 134 rfl rfl (fun w h Y => PySem.W.km_in_of Y) (fun w => by kernel_rfl) ?hrec ?htab ?F
 case hrec => exact List.forall_mem_cons.mpr ⟨Option.isSome_iff_exists.mp (by kernel_rfl), List.forall_mem_cons.mpr ⟨Option.isSome_iff_exists.mp (by kernel_rfl), fun _ h => nomatch h⟩⟩
 case htab => exact fun w => List.forall_mem_cons.mpr ⟨by kernel_rfl, List.forall_mem_cons.mpr ⟨by kernel_rfl, fun _ h => nomatch h⟩⟩
 case F =>
  intro w mg fa h KX G hmg
  refine' SR.q1o KX G hmg ?a0 ?l0 ?c0 ?k0 ?a1 ?l1 ?c1 ?k1 ?a2 ?l2 ?c2 ?k2 ?a3 ?l3 ?c3 ?k3 ?a4 ?l4 ?c4 ?k4 ?a5 ?l5 ?c5 ?k5 ?a6 ?l6 ?c6 ?k6 ?a7 ?l7 ?c7 ?k7 ?a8 ?l8 ?c8 ?k8 ?a9 ?l9 ?c9 ?k9 ?a10 ?l10 ?c10 ?k10 ?a11 ?l11 ?c11 ?k11 ?a12 ?l12 ?c12 ?k12 ?a13 ?l13 ?c13 ?k13 ?a14 ?l14 ?c14 ?k14 ?a15 ?l15 ?c15 ?k15 ?a16 ?l16 ?c16 ?k16 ?a17 ?l17 ?c17 ?k17 ?a18 ?l18 ?c18 ?k18 ?a19 ?l19 ?c19 ?k19 ?a20 ?l20 ?c20 ?k20 ?a21 ?l21 ?c21 ?k21 ?a22 ?l22 ?c22 ?k22 ?a23 ?l23 ?c23 ?k23 ?a24 ?l24 ?c24 ?k24 ?a25 ?l25 ?c25 ?k25 ?a26 ?l26 ?c26 ?k26 ?a27 ?l27 ?c27 ?k27 ?a28 ?l28 ?c28 ?k28 ?a29 ?l29 ?c29 ?k29 ?a30 ?l30 ?c30 ?k30 ?a31 ?l31 ?c31 ?k31 ?a32 ?l32 ?c32 ?k32 ?a33 ?l33 ?c33 ?k33 ?a34 ?l34 ?c34 ?k34 ?z_enumerate ?z_sorted ?z_len ?z_max ?z_min ?z_dict ?z_tuple ?z_range ?z_isinstance ?z_int ?z_bool ?z_zip ?pw ?ph ?n1314
  (case a0 => k_is); (case l0 => k_is); (case c0 => k_is); (case k0 => k_is)
  (case a1 => k_is); (case l1 => k_is); (case c1 => k_is); (case k1 => k_is)
  (case a2 => k_is); (case l2 => k_is); (case c2 => k_is); (case k2 => k_is)
  (case a3 => k_is); (case l3 => k_is); (case c3 => k_is); (case k3 => k_is)
  (case a4 => k_is); (case l4 => k_is); (case c4 => k_is); (case k4 => k_is)
  (case a5 => k_is); (case l5 => k_is); (case c5 => k_is); (case k5 => k_is)
  (case a6 => k_is); (case l6 => k_is); (case c6 => k_is); (case k6 => k_is)
  (case a7 => k_is); (case l7 => k_is); (case c7 => k_is); (case k7 => k_is)
  (case a8 => k_is); (case l8 => k_is); (case c8 => k_is); (case k8 => k_is)
  (case a9 => k_is); (case l9 => k_is); (case c9 => k_is); (case k9 => k_is)
  (case a10 => k_is); (case l10 => k_is); (case c10 => k_is); (case k10 => k_is)
  (case a11 => k_is); (case l11 => k_is); (case c11 => k_is); (case k11 => k_is)
  (case a12 => k_is); (case l12 => k_is); (case c12 => k_is); (case k12 => k_is)
  (case a13 => k_is); (case l13 => k_is); (case c13 => k_is); (case k13 => k_is)
  (case a14 => k_is); (case l14 => k_is); (case c14 => k_is); (case k14 => k_is)
  (case a15 => k_is); (case l15 => k_is); (case c15 => k_is); (case k15 => k_is)
  (case a16 => k_is); (case l16 => k_is); (case c16 => k_is); (case k16 => k_is)
  (case a17 => k_is); (case l17 => k_is); (case c17 => k_is); (case k17 => k_is)
  (case a18 => k_is); (case l18 => k_is); (case c18 => k_is); (case k18 => k_is)
  (case a19 => k_is); (case l19 => k_is); (case c19 => k_is); (case k19 => k_is)
  (case a20 => k_is); (case l20 => k_is); (case c20 => k_is); (case k20 => k_is)
  (case a21 => k_is); (case l21 => k_is); (case c21 => k_is); (case k21 => k_is)
  (case a22 => k_is); (case l22 => k_is); (case c22 => k_is); (case k22 => k_is)
  (case a23 => k_is); (case l23 => k_is); (case c23 => k_is); (case k23 => k_is)
  (case a24 => k_is); (case l24 => k_is); (case c24 => k_is); (case k24 => k_is)
  (case a25 => k_is); (case l25 => k_is); (case c25 => k_is); (case k25 => k_is)
  (case a26 => k_is); (case l26 => k_is); (case c26 => k_is); (case k26 => k_is)
  (case a27 => k_is); (case l27 => k_is); (case c27 => k_is); (case k27 => k_is)
  (case a28 => k_is); (case l28 => k_is); (case c28 => k_is); (case k28 => k_is)
  (case a29 => k_is); (case l29 => k_is); (case c29 => k_is); (case k29 => k_is)
  (case a30 => k_is); (case l30 => k_is); (case c30 => k_is); (case k30 => k_is)
  (case a31 => k_is); (case l31 => k_is); (case c31 => k_is); (case k31 => k_is)
  (case a32 => k_is); (case l32 => k_is); (case c32 => k_is); (case k32 => k_is)
  (case a33 => k_is); (case l33 => k_is); (case c33 => k_is); (case k33 => k_is)
  (case a34 => k_is); (case l34 => k_is); (case c34 => k_is); (case k34 => k_is)
  (case z_enumerate => k_is); (case z_sorted => k_is); (case z_len => k_is); (case z_max => k_is)
  (case z_min => k_is); (case z_dict => k_is); (case z_tuple => k_is); (case z_range => k_is)
  (case z_isinstance => k_is); (case z_int => k_is); (case z_bool => k_is); (case z_zip => k_is)
  (case pw => k_is); (case ph => k_is); (case n1314 => decide)
