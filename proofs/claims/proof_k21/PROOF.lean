import PyProof.Rows.All
import Wide.All
import OpenK.AllK
import Wide.FinOn
import Lean
import PyProof.EqAt
import PyProof.EqKinds
import PyProof.TupleCall
import PySem.Challenge.RW_smallrooms_k21_whole_great_stretches
set_option Elab.async false
set_option linter.all false
set_option maxRecDepth 100000
set_option Elab.async false
set_option linter.all false
set_option maxRecDepth 100000
/-! THE HAND LAYER, for ints, bools, texts, own classes, LISTS and tuples (index, slices, in, append, pop ..), calls, loops. Paste it whole ahead of your own text; what your proof does not reach may be deleted. -/
namespace L2
open PySem PySem.Spec PyProof.Rows

/-- a key: an int or a str -/
abbrev Key := Sum Int Str
def keyIs : Key → Value → Bool
  | .inl k, v => Value.isInt k v
  | .inr x, v => Value.isStrOf x v
def keyH (w : World) : Key → Int
  | .inl k => hashInt k
  | .inr x => hashStr w x
theorem keyIs_shape : ∀ {k : Key} {v : Value}, keyIs k v = true → (∃ i t, k = Sum.inl i ∧ v = Value.int i t) ∨ (∃ x t, k = Sum.inr x ∧ v = Value.str x t)
  | .inl i, v, h => by
    obtain ⟨t, e⟩ := Value.isInt_shape (k := i) (v := v) h
    exact .inl ⟨i, t, rfl, e⟩
  | .inr x, v, h => by
    obtain ⟨t, e⟩ := Value.isStrOf_shape (x := x) (v := v) h
    exact .inr ⟨x, t, rfl, e⟩
theorem key_ll (a b : Int) : decide ((Sum.inl a : Key) = Sum.inl b) = (a == b) := by
  by_cases e : a = b
  · subst e; simp
  · have h : ¬ (Sum.inl a : Key) = Sum.inl b := fun q => e (Sum.inl.inj q)
    rw [decide_eq_false h]
    exact (beq_eq_false_iff_ne.mpr e).symm
theorem key_rr (a b : Str) : decide ((Sum.inr a : Key) = Sum.inr b) = decide (a = b) := by
  by_cases e : a = b
  · subst e; simp
  · have h : ¬ (Sum.inr a : Key) = Sum.inr b := fun q => e (Sum.inr.inj q)
    rw [decide_eq_false h, decide_eq_false e]
theorem key_lr (a : Int) (b : Str) : decide ((Sum.inl a : Key) = Sum.inr b) = false := decide_eq_false (fun q => nomatch q)
theorem key_rl (a : Str) (b : Int) : decide ((Sum.inr a : Key) = Sum.inl b) = false := decide_eq_false (fun q => nomatch q)

def mixKind (prog : Program) (w : World) : PySem.KeyKind prog w Key where
  is := keyIs
  hash := keyH w
  inj := fun v a b ha hb => by
    rcases keyIs_shape ha with ⟨i, t, rfl, rfl⟩ | ⟨x, t, rfl, rfl⟩
    · rcases keyIs_shape hb with ⟨j, u, rfl, e⟩ | ⟨y, u, rfl, e⟩
      · injection e with e1 _; rw [e1]
      · exact nomatch e
    · rcases keyIs_shape hb with ⟨j, u, rfl, e⟩ | ⟨y, u, rfl, e⟩
      · exact nomatch e
      · injection e with e1 _; rw [e1]
  byValue := fun k v h => by
    rcases keyIs_shape h with ⟨i, t, rfl, rfl⟩ | ⟨x, t, rfl, rfl⟩ <;> rfl
  pyHash := fun hv h => by
    rcases keyIs_shape hv with ⟨i, t, rfl, rfl⟩ | ⟨x, t, rfl, rfl⟩
    · exact wpAny_pyHash_int h
    · exact wpAny_pyHash_str h
  eqBool := fun hu hv h => by
    rcases keyIs_shape hu with ⟨i, t, rfl, rfl⟩ | ⟨x, t, rfl, rfl⟩
    · rcases keyIs_shape hv with ⟨j, u, rfl, rfl⟩ | ⟨y, u, rfl, rfl⟩
      · rw [key_ll] at h; exact wpAny_eqBool_int h
      · rw [key_lr] at h; exact SeqAt.EqAt.int_str i t y u _ _ _ _ h
    · rcases keyIs_shape hv with ⟨j, u, rfl, rfl⟩ | ⟨y, u, rfl, rfl⟩
      · rw [key_rl] at h; exact SeqAt.EqAt.str_int x t j u _ _ _ _ h
      · rw [key_rr] at h; exact wpAny_eqBool_str h
  «strs» := fun k x t v h => by
    rcases keyIs_shape h with ⟨i, u, rfl, e⟩ | ⟨y, u, rfl, e⟩
    · exact nomatch e
    · injection e with e1 _
      subst e1
      cases v <;> rfl

end L2

namespace L2
open PySem PySem.Spec PyProof.Rows

/-- a value, without the heap -/
inductive V where
  | non | bl (b : Bool) | int (i : Int) | str (x : Str) | byt (b : Array UInt8) | flt (b : UInt64) | ref (a : Addr) | ty (n : String)
  deriving DecidableEq

def RelV : V → Value → Prop
  | .non, u => u = Value.none
  | .bl b, u => u = Value.bool b
  | .int i, u => ∃ t, u = Value.int i t
  | .str x, u => ∃ t, u = Value.str x t
  | .byt b, u => ∃ t, u = Value.bytes b t
  | .flt b, u => ∃ t, u = Value.float b t
  | .ref a, u => u = Value.ref a
  | .ty n, u => u = Value.type n

abbrev Vals : List V → List Value → Prop := Paired RelV
theorem Vals.length {xs : List V} {us : List Value} (r : Vals xs us) : xs.length = us.length := Paired.length r
theorem Vals.get : ∀ {xs : List V} {us : List Value} {i : Nat} {x : V}, Vals xs us → xs[i]? = some x → ∃ u, us[i]? = some u ∧ RelV x u
  | _, _, _, _, .nil, e => by simp at e
  | _, _, 0, _, .cons r _, e => by simp at e; subst e; exact ⟨_, rfl, r⟩
  | _, _, i + 1, x, .cons _ t, e => by
    obtain ⟨u, h1, h2⟩ := Vals.get (i := i) (x := x) t (by simpa using e)
    exact ⟨u, by simpa using h1, h2⟩
theorem Vals.set {x : V} {u : Value} (r : RelV x u) : ∀ {xs : List V} {us : List Value} (i : Nat), Vals xs us → Vals (xs.set i x) (us.set i u)
  | _, _, _, .nil => .nil
  | _, _, 0, .cons _ t => .cons r t
  | _, _, i + 1, .cons q t => .cons q (Vals.set r i t)
theorem Vals.append : ∀ {xs ys : List V} {us ws : List Value}, Vals xs us → Vals ys ws → Vals (xs ++ ys) (us ++ ws)
  | _, _, _, _, .nil, s => s
  | _, _, _, _, .cons r t, s => .cons r (Vals.append t s)
theorem Vals.take : ∀ {xs : List V} {us : List Value} (n : Nat), Vals xs us → Vals (xs.take n) (us.take n)
  | _, _, 0, _ => .nil
  | _, _, _ + 1, .nil => .nil
  | _, _, n + 1, .cons r t => .cons r (Vals.take n t)
theorem Vals.drop : ∀ {xs : List V} {us : List Value} (n : Nat), Vals xs us → Vals (xs.drop n) (us.drop n)
  | _, _, 0, r => r
  | _, _, _ + 1, .nil => .nil
  | _, _, n + 1, .cons _ t => Vals.drop n t
def RelO : Option V → Option Value → Prop
  | some v, some u => RelV v u
  | none, none => True
  | _, _ => False
def KV {κ : Type} : List (κ × V) → List (κ × Value) → Prop := Paired fun (p : κ × V) (q : κ × Value) => p.1 = q.1 ∧ RelV p.2 q.2

/-- a key of a dict (00_mix): an int or a text -/
def kV : Key → V
  | .inl i => .int i
  | .inr x => .str x

/-- what stands at a tracked address -/
inductive HO where
  /-- a list -/
  | lst (xs : List V)
  /-- a tuple (never changes) -/
  | tup (xs : List V)
  /-- a dict whose keys are ints and texts; one whose keys are tuples of ints and texts (the empty one is both) -/
  | dK (kvs : List (Key × V)) | dT (kvs : List (List Key × V))
  /-- a set of ints: its members, its size -/
  | set (S : Int → Bool) (n : Nat)
  /-- an instance of the class at C, its dict at dx, its attributes -/
  | ins (C dx : Addr) (fs : List (Str × V))
  /-- the dict of the instance at x -/
  | own (x : Addr)
  /-- the dict of an exception -/
  | xd (fs : List (Str × V))
  /-- a bound method, f of x -/
  | met (f x : Addr)
  /-- a range object lo, lo + 1, .. below hi -/
  | rng (lo hi : Int)
  /-- a thing that is known to the object (the script; a dict while a loop walks it): read, never written while it is so -/
  | frz (o : Obj) (u : HO)
  /-- a code object's table -/
  | tbl (ps : Array Value)
  /-- any other thing, by what is true of its one object (a def of one's own: SetO a S n := HO.ext fun h => ..) -/
  | ext (φ : Heap → Prop)

abbrev Hp := Addr → Option HO
def upd (H : Hp) (a : Addr) (o : HO) : Hp := fun b => if b = a then some o else H b
theorem upd_same {H : Hp} {a : Addr} {o : HO} : upd H a o a = some o := by unfold upd; rw [if_pos rfl]
theorem upd_ne {H : Hp} {a b : Addr} {o : HO} (h : b ≠ a) : upd H a o b = H b := by unfold upd; rw [if_neg h]
/-- two objects of different content stand apart -/
theorem ne_of {H : Hp} {a b : Addr} {o u : HO} (h : H a = some o) (h' : H b = some u) (d : o ≠ u) : a ≠ b := by
  intro e; subst e; rw [h] at h'; exact d (Option.some.inj h')
theorem ne_of_none {H : Hp} {a b : Addr} {o : HO} (h : H a = some o) (h' : H b = none) : a ≠ b := by
  intro e; subst e; rw [h] at h'; cases h'

section
variable (P : Program) (w : World)
def ObjOk (H : Hp) (h : Heap) (a : Addr) : HO → Prop
  | .lst xs => xs.length ≤ sizeLine ∧ ∃ (its : List Value) (n : Nat), Vals xs its ∧ h.get? a = some { cls := .type "list", data := .seq its.toArray n }
  | .tup xs => xs.length ≤ sizeLine ∧ ∃ its : List Value, Vals xs its ∧ IsTup h a its.toArray
  | .dK kvs => kvs.length ≤ sizeLine ∧ (a == sysModules) = false ∧ ∃ vs, KV kvs vs ∧ h.DictOf (mixKind P w) a vs
  | .dT kvs => kvs.length ≤ sizeLine ∧ (a == sysModules) = false ∧ ∃ xs : List (List Key × Addr × Value),
      Paired (fun (p : List Key × V) (q : List Key × Addr × Value) => p.1 = q.1 ∧ H q.2.1 = some (.tup (p.1.map kV)) ∧ RelV p.2 q.2.2) kvs xs ∧
      ∃ o es ep, h.get? a = some o ∧ o.ExactDict ∧ o.data = .dict es ep ∧ es.toList = xs.map (entryOfKey (tupleKind (mixKind P w))) ∧ (xs.map (·.1)).Nodup
  | .set S n => h.SetOf (intKind P w) a S n
  | .ins C dx fs => H dx = some (.own a) ∧ fs.length ≤ 1000 ∧ dx ≠ a ∧ h.get? a = some (PySem.W.instObj C dx) ∧
      ∃ mA, h.Ns1 dx mA ∧ (∀ f, RelO (fs.lookup f) (mA f)) ∧ PySem.Within mA (fs.map (·.1))
  | .own _ => ∃ o, h.get? a = some o
  | .xd fs => ∃ mA, h.Ns1 a mA ∧ ∀ f, RelO (fs.lookup f) (mA f)
  | .rng lo hi => ∃ t u v, h.get? a = some { cls := .type "range", data := .fields #[.int lo t, .int hi u, .int 1 v] }
  | .frz o u => h.get? a = some o ∧ ObjOk H h a u
  | .tbl ps => h.get? a = some { cls := .none, data := .fields ps }
  | .met f x => h.get? a = some (PySem.W.methodObj (.ref f) (.ref x))
  | .ext φ => φ h ∧ (∃ o, h.get? a = some o) ∧ ∀ h1 h2 : Heap, φ h1 → (∀ o, h1.get? a = some o → h2.get? a = some o) → φ h2
/-- the abstract heap is held -/
def HOk (H : Hp) (h : Heap) : Prop := ∀ a o, H a = some o → ObjOk P w H h a o
end

section
variable {P : Program} {w : World} {H H' : Hp} {h h' : Heap} {a : Addr} {o : HO}
theorem ObjOk.lt (x : ObjOk P w H h a o) : a < h.objs.size := by
  cases o with
  | lst xs => obtain ⟨_, _, _, _, e⟩ := x; exact Heap.lt_size e
  | tup xs => obtain ⟨_, _, _, p⟩ := x; exact p.lt
  | dK kvs => obtain ⟨_, _, _, _, o, _, _, e, _⟩ := x; exact Heap.lt_size e
  | dT kvs => obtain ⟨_, _, _, _, o, _, _, e, _⟩ := x; exact Heap.lt_size e
  | set S n => obtain ⟨o, _, _, _, e, _⟩ := x; exact Heap.lt_size e
  | ins C dx fs => obtain ⟨_, _, _, e, _⟩ := x; exact Heap.lt_size e
  | own y => obtain ⟨_, e⟩ := x; exact Heap.lt_size e
  | xd fs => obtain ⟨_, ⟨_, _, _, e, _⟩, _⟩ := x; exact Heap.lt_size e
  | rng lo hi => obtain ⟨_, _, _, e⟩ := x; exact Heap.lt_size e
  | frz ob u => obtain ⟨e, _⟩ := x; exact Heap.lt_size e
  | tbl ps => exact Heap.lt_size (show h.get? a = some _ from x)
  | met f y => exact Heap.lt_size (show h.get? a = some _ from x)
  | ext φ => obtain ⟨_, ⟨_, e⟩, _⟩ := x; exact Heap.lt_size e
theorem Paired.mapP {α β : Type} {F G : α → β → Prop} : ∀ {l₁ : List α} {l₂ : List β}, Paired F l₁ l₂ → (∀ a b, F a b → G a b) → Paired G l₁ l₂
  | _, _, .nil, _ => .nil
  | _, _, .cons r t, f => .cons (f _ _ r) (Paired.mapP t f)
/-- what an object's description leans on: its own object, its own dict, the tuples -/
theorem ObjOk.stay (x : ObjOk P w H h a o) (k : ∀ b u, (b = a ∨ H b = some (.own a)) → h.get? b = some u → h'.get? b = some u)
    (ho : ∀ b, H b = some (.own a) → H' b = some (.own a)) (ht : ∀ b xs, H b = some (.tup xs) → H' b = some (.tup xs)) : ObjOk P w H' h' a o := by
  induction o with
  | lst xs => obtain ⟨z, its, n, r, e⟩ := x; exact ⟨z, its, n, r, k _ _ (.inl rfl) e⟩
  | tup xs => obtain ⟨z, its, r, ob, e, c⟩ := x; exact ⟨z, its, r, ob, k _ _ (.inl rfl) e, c⟩
  | dK kvs => obtain ⟨z, y, vs, r, ob, es, ep, e, c⟩ := x; exact ⟨z, y, vs, r, ob, es, ep, k _ _ (.inl rfl) e, c⟩
  | dT kvs =>
    obtain ⟨z, y, xs, r, ob, es, ep, e, c⟩ := x
    exact ⟨z, y, xs, Paired.mapP r fun p q z => ⟨z.1, ht _ _ z.2.1, z.2.2⟩, ob, es, ep, k _ _ (.inl rfl) e, c⟩
  | set S n => obtain ⟨ob, es, ep, t, e, c⟩ := x; exact ⟨ob, es, ep, t, k _ _ (.inl rfl) e, c⟩
  | ins C dx fs =>
    obtain ⟨d, z, ne, e, mA, ⟨od, es, ep, e2, c⟩, r⟩ := x
    exact ⟨ho _ d, z, ne, k _ _ (.inl rfl) e, mA, ⟨od, es, ep, k _ _ (.inr d) e2, c⟩, r⟩
  | own y => obtain ⟨ob, e⟩ := x; exact ⟨ob, k _ _ (.inl rfl) e⟩
  | xd fs => obtain ⟨mA, ⟨od, es, ep, e, c⟩, r⟩ := x; exact ⟨mA, ⟨od, es, ep, k _ _ (.inl rfl) e, c⟩, r⟩
  | rng lo hi => obtain ⟨t, u, v, e⟩ := x; exact ⟨t, u, v, k _ _ (.inl rfl) e⟩
  | frz ob u ih => obtain ⟨e, q⟩ := x; exact ⟨k _ _ (.inl rfl) e, ih q⟩
  | tbl ps =>
    have e : h.get? a = some { cls := .none, data := .fields ps } := x
    show h'.get? a = some { cls := .none, data := .fields ps }
    exact k a _ (.inl rfl) e
  | met f y =>
    have e : h.get? a = some (PySem.W.methodObj (.ref f) (.ref y)) := x
    show h'.get? a = some (PySem.W.methodObj (.ref f) (.ref y))
    exact k a _ (.inl rfl) e
  | ext φ => obtain ⟨p, ⟨o, e⟩, st⟩ := x; exact ⟨st _ _ p fun o q => k _ _ (.inl rfl) q, ⟨o, k _ _ (.inl rfl) e⟩, st⟩
theorem HOk.lt (x : HOk P w H h) (e : H a = some o) : a < h.objs.size := (x a o e).lt
theorem HOk.fresh (x : HOk P w H h) (e : h.objs.size ≤ a) : H a = none := by
  cases q : H a with
  | none => rfl
  | some u => exact absurd (Nat.lt_of_lt_of_le (x.lt q) e) (Nat.lt_irrefl _)
/-- every object of the heap is kept -/
theorem HOk.kept (x : HOk P w H h) (k : ∀ b u, h.get? b = some u → h'.get? b = some u) : HOk P w H h' := fun a o e =>
  (x a o e).stay (fun b u _ q => k b u q) (fun _ q => q) fun _ _ q => q
/-- a new object is laid and tracked -/
theorem HOk.laid (x : HOk P w H h) (k : ∀ b u, h.get? b = some u → h'.get? b = some u) (hp : h.objs.size ≤ a) (new : ObjOk P w (upd H a o) h' a o) : HOk P w (upd H a o) h' := fun b u e => by
  have hn := x.fresh hp
  by_cases hb : b = a
  · subst hb; rw [upd_same] at e; cases e; exact new
  · rw [upd_ne hb] at e
    exact (x b u e).stay (fun c v _ q => k c v q) (fun c q => by rw [upd_ne (ne_of_none q hn)]; exact q) fun c xs q => by rw [upd_ne (ne_of_none q hn)]; exact q
end

/-- what may be read as u: it is u, or a known u -/
def Rd (H : Hp) (a : Addr) (u : HO) : Prop := H a = some u ∨ ∃ o, H a = some (.frz o u)
theorem Rd.of {H : Hp} {a : Addr} {u : HO} (h : H a = some u) : Rd H a u := .inl h
theorem Rd.ok {P : Program} {w : World} {H : Hp} {h : Heap} {a : Addr} {u : HO} (r : Rd H a u) (x : HOk P w H h) : ObjOk P w H h a u := by
  rcases r with r | ⟨o, r⟩
  · exact x a u r
  · obtain ⟨_, q⟩ := x a _ r
    exact q
/-- what may be written -/
def Mut : Option HO → Prop
  | some (.lst _) => True
  | some (.dK _) => True
  | some (.dT _) => True
  | some (.set _ _) => True
  | some (.ins _ _ _) => True
  | some (.ext _) => True
  | _ => False
section
variable {P : Program} {w : World} {H : Hp} {h h' : Heap} {x e : Addr} {o' : HO}
/-- the object at e is changed: x itself, or the dict of the instance x -/
theorem HOk.write (ok : HOk P w H h) (mu : Mut (H x)) (he : e = x ∨ H e = some (.own x)) (k : ∀ b u, b ≠ e → h.get? b = some u → h'.get? b = some u) (heo : ∃ u, h'.get? e = some u)
    (new : ObjOk P w (upd H x o') h' x o') : HOk P w (upd H x o') h' := fun b u q => by
  have nown : ∀ c y, H c = some (.own y) → c ≠ x := fun c y r z => by subst z; rw [r] at mu; exact mu
  have ntup : ∀ c xs, H c = some (.tup xs) → c ≠ x := fun c xs r z => by subst z; rw [r] at mu; exact mu
  by_cases hb : b = x
  · subst hb; rw [upd_same] at q; cases q; exact new
  · rw [upd_ne hb] at q
    by_cases hbe : b = e
    · have q' : H b = some (.own x) := by
        rcases he with z | z
        · exact absurd (hbe.trans z) hb
        · rw [hbe]; exact z
      rw [q] at q'; cases q'
      obtain ⟨v, hv⟩ := heo
      exact ⟨v, by rw [hbe]; exact hv⟩
    · refine (ok b u q).stay (fun c v hc r => k c v ?_ r) (fun c r => by rw [upd_ne (nown c b r)]; exact r) fun c xs r => by rw [upd_ne (ntup c xs r)]; exact r
      rcases hc with rfl | hc
      · exact hbe
      · rintro rfl
        rcases he with z | z
        · exact nown c b hc z
        · rw [hc] at z; cases z; exact hb rfl
end

/-! ### kept unless tracked; of the frames at fs (the callers') the slots may change (an exception that passes writes there); of the records at ex (iterators) nothing is said -/
structure Un (fs ex : List Addr) (H H' : Hp) (h h' : Heap) : Prop where
  keep : ∀ b o, h.get? b = some o → H b = none → b ∉ fs → b ∉ ex → h'.get? b = some o
  slot : ∀ b o, h.get? b = some o → H b = none → b ∈ fs → b ∉ ex → ∃ sl, h'.get? b = some { o with slots := sl }
  free : ∀ b o, h.get? b = some o → H b = none → b ∉ ex → H' b = none
  there : ∀ b o, h.get? b = some o → b ∉ ex → ∃ o', h'.get? b = some o'
  tups : ∀ b xs, H b = some (.tup xs) → H' b = some (.tup xs)
  frzs : ∀ b o u, H b = some (.frz o u) → H' b = some (.frz o u)
  tbls : ∀ b ps, H b = some (.tbl ps) → ∃ more, H' b = some (.tbl (ps ++ more))
section
variable {fs fs' ex ex' : List Addr} {H H1 H2 : Hp} {h h1 h2 h' : Heap} {a x e : Addr} {o : HO}
theorem Un.any (u : Un fs ex H H1 h h1) {b : Addr} {ob : Obj} (q : h.get? b = some ob) (n : H b = none) (hx : b ∉ ex) : ∃ sl, h1.get? b = some { ob with slots := sl } := by
  by_cases hb : b ∈ fs
  · exact u.slot b ob q n hb hx
  · exact ⟨ob.slots, u.keep b ob q n hb hx⟩
theorem Un.trans (a : Un fs ex H H1 h h1) (b : Un fs ex H1 H2 h1 h2) : Un fs ex H H2 h h2 where
  keep := fun c ob q n hc hx => b.keep c ob (a.keep c ob q n hc hx) (a.free c ob q n hx) hc hx
  slot := fun c ob q n hc hx => by
    obtain ⟨sl, e1⟩ := a.slot c ob q n hc hx
    obtain ⟨sl', e2⟩ := b.slot c _ e1 (a.free c ob q n hx) hc hx
    exact ⟨sl', e2⟩
  free := fun c ob q n hx => by
    obtain ⟨o', e1⟩ := a.there c ob q hx
    exact b.free c o' e1 (a.free c ob q n hx) hx
  there := fun c ob q hx => by
    obtain ⟨o', e1⟩ := a.there c ob q hx
    exact b.there c o' e1 hx
  tups := fun c xs q => b.tups c xs (a.tups c xs q)
  frzs := fun c ob xs q => b.frzs c ob xs (a.frzs c ob xs q)
  tbls := fun c ps q => by
    obtain ⟨m1, e1⟩ := a.tbls c ps q
    obtain ⟨m2, e2⟩ := b.tbls c _ e1
    exact ⟨m1 ++ m2, by rw [e2, Array.append_assoc]⟩
theorem Un.kept (k : ∀ b u, h.get? b = some u → h'.get? b = some u) : Un fs ex H H h h' :=
  ⟨fun b ob q _ _ _ => k b ob q, fun b ob q _ _ _ => ⟨ob.slots, k b ob q⟩, fun _ _ _ n _ => n, fun b ob q _ => ⟨ob, k b ob q⟩, fun _ _ q => q, fun _ _ _ q => q, fun _ ps q => ⟨#[], by rw [q]; simp⟩⟩
theorem Un.refl : Un fs ex H H h h := Un.kept fun _ _ q => q
theorem Un.laid (k : ∀ b u, h.get? b = some u → h'.get? b = some u) (hp : h.objs.size ≤ a) (hn : H a = none) : Un fs ex H (upd H a o) h h' where
  keep := fun b u q _ _ _ => k b u q
  slot := fun b u q _ _ _ => ⟨u.slots, k b u q⟩
  free := fun b u q n _ => by rw [upd_ne (Nat.ne_of_lt (Nat.lt_of_lt_of_le (Heap.lt_size q) hp))]; exact n
  there := fun b u q _ => ⟨u, k b u q⟩
  tups := fun b xs q => by rw [upd_ne (ne_of_none q hn)]; exact q
  frzs := fun b u xs q => by rw [upd_ne (ne_of_none q hn)]; exact q
  tbls := fun b ps q => ⟨#[], by rw [upd_ne (ne_of_none q hn), q]; simp⟩
theorem Un.write (mu : Mut (H x)) (he : e = x ∨ H e = some (.own x)) (k : ∀ b u, b ≠ e → h.get? b = some u → h'.get? b = some u) (heo : ∃ u, h'.get? e = some u) : Un fs ex H (upd H x o) h h' := by
  have hx : ∀ b, H b = none → b ≠ x := fun b n z => by subst z; rw [n] at mu; exact mu
  have hb : ∀ b, H b = none → b ≠ e := fun b n z => by
    subst z
    rcases he with r | r
    · exact hx b n r
    · rw [n] at r; cases r
  have hm : ∀ b u, H b = some u → ¬ Mut (some u) → b ≠ x := fun b u q nm z => by subst z; rw [q] at mu; exact nm mu
  refine ⟨fun b u q n _ _ => k b u (hb b n) q, fun b u q n _ _ => ⟨u.slots, k b u (hb b n) q⟩, fun b u q n _ => by rw [upd_ne (hx b n)]; exact n, fun b u q _ => ?_,
    fun b xs q => by rw [upd_ne (hm b _ q fun z => z)]; exact q, fun b u xs q => by rw [upd_ne (hm b _ q fun z => z)]; exact q, fun b ps q => ⟨#[], by rw [upd_ne (hm b _ q fun z => z), q]; simp⟩⟩
  by_cases hbe : b = e
  · subst hbe; exact heo
  · exact ⟨u, k b u hbe q⟩
theorem Un.mono (u : Un fs ex H H1 h h1) (hs : ∀ b ∈ fs, b ∈ fs') (hx : ∀ b ∈ ex, b ∈ ex') : Un fs' ex' H H1 h h1 :=
  ⟨fun b ob q n hb he => u.keep b ob q n (fun z => hb (hs b z)) fun z => he (hx b z), fun _ _ q n _ he => u.any q n fun z => he (hx _ z), fun b ob q n he => u.free b ob q n fun z => he (hx b z), fun b ob q he => u.there b ob q fun z => he (hx b z), u.tups, u.frzs, u.tbls⟩
end

/-! ### the heap without what is tracked -/
def trk (h : Heap) (H : Hp) : List Addr := (List.range h.objs.size).filter fun a => (H a).isSome
def hidT (h : Heap) (H : Hp) : Heap := PySem.W.hideAll h (trk h H)
theorem hidT_size (h : Heap) (H : Hp) : (hidT h H).objs.size = h.objs.size := PySem.W.hideAll_size _ _
theorem hidT_get {h : Heap} {H : Hp} {b : Addr} {o : Obj} (e : h.get? b = some o) (n : H b = none) : (hidT h H).get? b = some o :=
  PySem.W.hideAll_get _ e fun hm => by
    have q : (H b).isSome = true := (List.mem_filter.mp hm).2
    rw [n] at q; simp at q
theorem of_hidT {h : Heap} {H : Hp} {b : Addr} {o : Obj} (e : (hidT h H).get? b = some o) : h.get? b = some o ∧ H b = none := by
  have e' : h.get? b = some o := PySem.W.of_hideAll (trk h H) e
  refine ⟨e', ?_⟩
  cases q : H b with
  | none => rfl
  | some x =>
    have hm : b ∈ trk h H := List.mem_filter.mpr ⟨List.mem_range.mpr (Heap.lt_size e'), by simp [q]⟩
    have z : (hidT h H).get? b = none := PySem.W.hideAll_none (trk h H) hm
    rw [z] at e; cases e

/-! ### OpenK's ledger, filled with every new object but one -/
def allNews (g h : Heap) (L : Addr) : List (Addr × Obj) := (List.range h.objs.size).filterMap fun a => if a = L ∨ (g.get? a).isSome = true then none else (h.get? a).map fun o => (a, o)
def rest (g h : Heap) (L d : Addr) : List (Addr × Obj) := (allNews g h L).filter fun p => decide (p.1 ≠ d)
end L2

namespace L2
open PySem PySem.Spec PyProof.Rows

/-- the module's facts, over the base: the heap at the law's entry without what is tracked there -/
structure Mod (K : PySem.W.Frag) (mg : Str → Option Value) (base : Heap) : Prop where
  kin : K.In base
  glob : base.Ns mainGlobals mg
  blt : ∃ mb, base.Ns builtinsNs mb ∧ ∀ x : Str, x ≠ "__name__" → mb x = bootBuiltins x
  nolimit : base.NoLimit

/-- the context: a def's body (or a comprehension's block) running. base: fixed through the whole law; s₀, H₀: the entry; outer: the frames whose slots others may change (a def's callers); stack: all frames that run;
   ex: iterators that were made ahead of the entry and are walked here (a comprehension's); fn: the names whose cells were made at the entry (a def: all; a comprehension's block: its own); calm: not within an except suite; pn: pins that every state bears; xe: what is wanted of an exception that leaves the code -/
structure Cx where
  prog : Program
  w : World
  K : PySem.W.Frag
  mg : Str → Option Value
  base : Heap
  A : Around
  N : List Str
  s₀ : Shared
  H₀ : Hp
  env : Env
  outer : List Env
  stack : List Env
  ex : List Addr
  fn : Str → Bool
  calm : Bool
  pn : List (Addr × Obj)
  xe : Value → Shared → Prop
/-- the callers' frames -/
def frs (l : List Env) : List Addr := l.filterMap (·.frame)
abbrev Cx.fs (X : Cx) : List Addr := frs X.outer

def Vis (sc : Scope) (x : Str) : Prop := sc.names.lookup x = some .local ∨ sc.names.lookup x = some .cell ∨ sc.names.lookup x = some .free
def Loc (sc : Scope) (x : Str) : Prop := sc.names.lookup x = some .local ∨ sc.names.lookup x = some .cell
def Look (env : Env) (h : Heap) (m : Str → Option Value) (x : Str) (u : Value) : Prop :=
  (env.kindOf x = some .local ∧ m x = some u) ∨ ((env.kindOf x = some .cell ∨ env.kindOf x = some .free) ∧ ∃ c, env.cells.lookup x = some c ∧ h.IsCell c (some u))

structure Cx.Ok (X : Cx) : Prop where
  mod : Mod X.K X.mg X.base
  kind : X.env.scope.kind = .function
  glob : X.env.globals = mainGlobals
  blt : X.env.builtins = builtinsNs
  above : X.s₀.heap.objs.size ≤ X.env.locals
  inj : ∀ x y c, X.env.cells.lookup x = some c → X.env.cells.lookup y = some c → x = y
  has : ∀ x, (X.env.kindOf x = some .cell ∨ X.env.kindOf x = some .free) → ∃ c, X.env.cells.lookup x = some c
  cab : ∀ x c, X.fn x = true → X.env.cells.lookup x = some c → X.s₀.heap.objs.size ≤ c
  hd : X.calm = true → X.A.handled = none
  frames : X.A.frames = some X.stack
  stk : X.stack = X.outer ∨ (X.stack = X.env :: X.outer ∧ X.env.frame = some X.env.locals)
  exf : ∀ b ∈ X.ex, b ≠ X.env.locals ∧ ∀ x c, X.env.cells.lookup x = some c → c ≠ b
  bs : ∀ b o, X.base.get? b = some o → X.s₀.heap.get? b = some o ∧ X.H₀ b = none
  bsz : X.base.objs.size ≤ X.s₀.heap.objs.size
  noex : ∀ b o, X.base.get? b = some o → b ∉ X.ex
  exfs : ∀ b ∈ X.ex, b ∉ X.fs
  funs : X.s₀.heap.FunFrames X.base X.outer
  frf : ∀ b ∈ X.fs, X.H₀ b = none

structure Inv (X : Cx) (pins : List (Addr × Obj)) (σ : List (Option V)) (H : Hp) (s : Shared) : Prop where
  ok : X.Ok
  os : s.os = X.s₀.os
  bare : AllBare s.gens
  base : Un X.fs X.ex X.H₀ H X.s₀.heap s.heap
  loc : ∃ m, s.heap.Ns X.env.locals m ∧ ∀ (i : Nat) (x : Str) (v : V), X.N[i]? = some x → σ[i]? = some (some v) → Vis X.env.scope x → ∃ u, RelV v u ∧ Look X.env s.heap m x u
  cell : ∀ x c, X.env.cells.lookup x = some c → ∃ v, s.heap.IsCell c v
  free : H X.env.locals = none
  freeC : ∀ x c, X.env.cells.lookup x = some c → H c = none
  pin : ∀ p ∈ X.pn ++ pins, s.heap.get? p.1 = some p.2 ∧ H p.1 = none ∧ p.1 ≠ X.env.locals ∧ p.1 ∉ X.fs ∧ ∀ v, p.2.data ≠ .cell v
  hok : HOk X.prog X.w H s.heap
  len : σ.length = X.N.length

section
variable {X : Cx} {pins : List (Addr × Obj)} {σ : List (Option V)} {H H' : Hp} {s : Shared} {h' : Heap}

theorem Cx.Ok.nofr (ok : X.Ok) {b : Addr} {o : Obj} (e : X.base.get? b = some o) : b ∉ X.fs := fun hb => by
  have := (ok.funs.mem hb).1
  rw [e] at this; cases this
theorem Inv.bs (I : Inv X pins σ H s) : ∀ b o, X.base.get? b = some o → s.heap.get? b = some o ∧ H b = none := fun b o e =>
  ⟨I.base.keep b o (I.ok.bs b o e).1 (I.ok.bs b o e).2 (I.ok.nofr e) (I.ok.noex b o e), I.base.free b o (I.ok.bs b o e).1 (I.ok.bs b o e).2 (I.ok.noex b o e)⟩
theorem Inv.bk (I : Inv X pins σ H s) : ∀ b o, X.base.get? b = some o → s.heap.get? b = some o := fun b o e => (I.bs b o e).1
theorem Inv.mod (I : Inv X pins σ H s) : Mod X.K X.mg X.base := I.ok.mod
theorem Inv.kIn (I : Inv X pins σ H s) : X.K.In s.heap := I.ok.mod.kin.keeps I.bk
theorem Inv.nolimit (I : Inv X pins σ H s) : s.heap.NoLimit := I.ok.mod.nolimit.keeps I.bk
theorem Inv.lt (I : Inv X pins σ H s) : X.env.locals < s.heap.objs.size := let ⟨_, hn, _⟩ := I.loc; hn.lt
theorem Inv.sz (I : Inv X pins σ H s) : X.s₀.heap.objs.size ≤ s.heap.objs.size := Nat.le_trans I.ok.above (Nat.le_of_lt I.lt)
theorem Inv.nofs (I : Inv X pins σ H s) {a : Addr} (h : s.heap.objs.size ≤ a) : a ∉ X.fs := fun hb => by
  obtain ⟨_, o, ho, _⟩ := I.ok.funs.mem hb
  exact absurd (Nat.lt_of_lt_of_le (Heap.lt_size ho) (Nat.le_trans I.sz h)) (Nat.lt_irrefl _)
theorem Inv.cne (I : Inv X pins σ H s) : ∀ x c, X.env.cells.lookup x = some c → c ≠ X.env.locals := fun x c e z => by
  obtain ⟨v, o, ho, hd⟩ := I.cell x c e
  obtain ⟨m, ⟨o', es, ep, ho', hd', _⟩, _⟩ := I.loc
  rw [z, ho'] at ho; cases ho; rw [hd'] at hd; cases hd
theorem Inv.funs (I : Inv X pins σ H s) : s.heap.FunFrames X.base X.outer := by
  have all : ∀ (l : List Env), (∀ b ∈ frs l, b ∈ X.fs) → X.s₀.heap.FunFrames X.base l → s.heap.FunFrames X.base l := by
    intro l
    induction l with
    | nil => intro _ _; trivial
    | cons env r ih =>
      intro hs hl
      obtain ⟨hk, ⟨L, o, hf, hn, ho, hd⟩, hr⟩ := hl
      have hL : L ∈ X.fs := hs L (by unfold frs; rw [List.filterMap_cons, hf]; exact List.mem_cons_self)
      obtain ⟨sl, e⟩ := I.base.slot L o ho (I.ok.frf L hL) hL fun z => I.ok.exfs L z hL
      exact ⟨hk, ⟨L, _, hf, hn, e, hd⟩, ih (fun b hb => hs b (by unfold frs; rw [List.filterMap_cons, hf]; exact List.mem_cons_of_mem _ hb)) hr⟩
  exact all X.outer (fun _ hb => hb) I.ok.funs

/-- the frames that run, for a call -/
theorem Inv.stack (I : Inv X pins σ H s) : s.heap.FunFrames X.base X.stack := by
  rcases I.ok.stk with e | ⟨e, hf⟩
  · rw [e]; exact I.funs
  · rw [e]
    obtain ⟨m, hn, _⟩ := I.loc
    refine .cons (by rw [I.ok.kind]; decide) hf hn ?_ I.funs
    exact Heap.get?_none_of_le (Nat.le_trans I.ok.bsz I.ok.above)
theorem Inv.stkSub (I : Inv X pins σ H s) : ∀ b ∈ frs X.stack, b ∈ X.env.locals :: X.fs := fun b hb => by
  rcases I.ok.stk with e | ⟨e, hf⟩
  · rw [e] at hb; exact List.mem_cons_of_mem _ hb
  · rw [e] at hb
    unfold frs at hb
    rw [List.filterMap_cons, hf] at hb
    exact hb
theorem Inv.stkFree (I : Inv X pins σ H s) : ∀ b ∈ frs X.stack, H b = none := fun b hb => by
  rcases List.mem_cons.mp (I.stkSub b hb) with e | hb
  · rw [e]; exact I.free
  · obtain ⟨_, o, ho, _⟩ := I.ok.funs.mem hb
    exact I.base.free b o ho (I.ok.frf b hb) fun z => I.ok.exfs b z hb

/-- THE STEP: the untracked objects but the frame and the records at ch are kept (the callers' frames up to slots), the frame's map is kept, the new abstract heap is held -/
theorem Inv.step {g' : Array GenState} {t' : Nat} {d' : Drawn} {ch : List Addr} (I : Inv X pins σ H s)
    (hch : ∀ b ∈ ch, (b ∈ X.ex ∨ X.s₀.heap.objs.size ≤ b) ∧ b ≠ X.env.locals ∧ (∀ x c, X.env.cells.lookup x = some c → c ≠ b) ∧ ∀ p ∈ X.pn ++ pins, p.1 ≠ b)
    (keep : ∀ b o, b ≠ X.env.locals → b ∉ X.fs → b ∉ ch → s.heap.get? b = some o → H b = none → h'.get? b = some o)
    (slot : ∀ b o, b ≠ X.env.locals → b ∈ X.fs → b ∉ ch → s.heap.get? b = some o → H b = none → ∃ sl, h'.get? b = some { o with slots := sl }) (free : ∀ b o, b ∉ ch → s.heap.get? b = some o → H b = none → H' b = none)
    (there : ∀ b o, b ∉ ch → s.heap.get? b = some o → ∃ o', h'.get? b = some o')
    (tups : ∀ b xs, H b = some (.tup xs) → H' b = some (.tup xs)) (frzs : ∀ b o u, H b = some (.frz o u) → H' b = some (.frz o u)) (tbls : ∀ b ps, H b = some (.tbl ps) → ∃ more, H' b = some (.tbl (ps ++ more)))
    (ns : ∀ m, s.heap.Ns X.env.locals m → h'.Ns X.env.locals m) (hok : HOk X.prog X.w H' h') (hg : AllBare g') :
    Inv X pins σ H' { s with heap := h', gens := g', drawn := d', toks := t' } := by
  have neL : ∀ b o, X.s₀.heap.get? b = some o → b ≠ X.env.locals := fun b o e => Nat.ne_of_lt (Nat.lt_of_lt_of_le (Heap.lt_size e) I.ok.above)
  have neC : ∀ b o, X.s₀.heap.get? b = some o → b ∉ X.ex → b ∉ ch := fun b o e hx hb => by
    rcases (hch b hb).1 with z | z
    · exact hx z
    · exact absurd (Nat.lt_of_lt_of_le (Heap.lt_size e) z) (Nat.lt_irrefl _)
  have cellK : ∀ x c, X.env.cells.lookup x = some c → ∀ v, s.heap.IsCell c v → h'.IsCell c v := fun x c e v ⟨o, ho, hd⟩ => by
    have nch : c ∉ ch := fun z => (hch c z).2.2.1 x c e rfl
    by_cases hc : c ∈ X.fs
    · obtain ⟨sl, q⟩ := slot c o (I.cne x c e) hc nch ho (I.freeC x c e)
      exact ⟨_, q, hd⟩
    · exact ⟨o, keep c o (I.cne x c e) hc nch ho (I.freeC x c e), hd⟩
  refine ⟨I.ok, I.os, hg, ⟨fun b o e n hb hx => ?_, fun b o e n hb hx => ?_, fun b o e n hx => ?_, fun b o e hx => ?_, fun b xs e => tups b xs (I.base.tups b xs e), fun b o xs e => frzs b o xs (I.base.frzs b o xs e), fun b ps e => ?_⟩, ?_, fun x c e => ?_, ?_, fun x c e => ?_, fun p hp => ?_, hok, I.len⟩
  · exact keep b o (neL b o e) hb (neC b o e hx) (I.base.keep b o e n hb hx) (I.base.free b o e n hx)
  · obtain ⟨sl, e1⟩ := I.base.slot b o e n hb hx
    obtain ⟨sl', e2⟩ := slot b _ (neL b o e) hb (neC b o e hx) e1 (I.base.free b o e n hx)
    exact ⟨sl', e2⟩
  · obtain ⟨o', e1⟩ := I.base.there b o e hx
    exact free b o' (neC b o e hx) e1 (I.base.free b o e n hx)
  · obtain ⟨o', e1⟩ := I.base.there b o e hx
    exact there b o' (neC b o e hx) e1
  · obtain ⟨m1, e1⟩ := I.base.tbls b ps e
    obtain ⟨m2, e2⟩ := tbls b _ e1
    exact ⟨m1 ++ m2, by rw [e2, Array.append_assoc]⟩
  · obtain ⟨m, hn, hl⟩ := I.loc
    refine ⟨m, ns m hn, fun i x v e1 e2 e3 => ?_⟩
    obtain ⟨u, r, l⟩ := hl i x v e1 e2 e3
    refine ⟨u, r, ?_⟩
    rcases l with l | ⟨k, c, e, z⟩
    · exact .inl l
    · exact .inr ⟨k, c, e, cellK x c e _ z⟩
  · obtain ⟨v, z⟩ := I.cell x c e
    exact ⟨v, cellK x c e v z⟩
  · obtain ⟨m, ⟨o, _, _, ho, _⟩, _⟩ := I.loc
    exact free _ o (fun z => (hch _ z).2.1 rfl) ho I.free
  · obtain ⟨v, o, ho, hd⟩ := I.cell x c e
    exact free c o (fun z => (hch c z).2.2.1 x c e rfl) ho (I.freeC x c e)
  · obtain ⟨e, n, ne, nf, d⟩ := I.pin p hp
    have nch : p.1 ∉ ch := fun z => (hch p.1 z).2.2.2 p hp rfl
    exact ⟨keep p.1 p.2 ne nf nch e n, free p.1 p.2 nch e n, ne, nf, d⟩
/-- .. where the frame's own object is kept too -/
theorem Inv.un {t' : Nat} (I : Inv X pins σ H s) (u : Un X.fs [] H H' s.heap h') (hok : HOk X.prog X.w H' h') : Inv X pins σ H' { s with heap := h', toks := t' } := by
  obtain ⟨m, ⟨o, es, ep, ho, r⟩, _⟩ := id I.loc
  obtain ⟨sl, hL⟩ := u.any ho I.free (by simp)
  exact I.step (g' := s.gens) (d' := s.drawn) (ch := []) (fun _ z => nomatch z) (fun b o _ hb _ e n => u.keep b o e n hb (by simp)) (fun b o _ hb _ e n => u.slot b o e n hb (by simp)) (fun b o _ e n => u.free b o e n (by simp)) (fun b o _ e => u.there b o e (by simp)) u.tups u.frzs u.tbls (fun m' hm => by
    obtain ⟨o', es', ep', ho', r'⟩ := hm
    rw [ho] at ho'; cases ho'
    exact ⟨_, es', ep', hL, r'⟩) hok I.bare
/-- behind a call (or a comprehension's block): the slots of this frame may have changed too, the records at ch may have turned -/
theorem Inv.call {g' : Array GenState} {t' : Nat} {d' : Drawn} {ch : List Addr} (I : Inv X pins σ H s) (u : Un (frs X.stack) ch H H' s.heap h') (hok : HOk X.prog X.w H' h') (hg : AllBare g')
    (hch : ∀ b ∈ ch, (b ∈ X.ex ∨ X.s₀.heap.objs.size ≤ b) ∧ b ≠ X.env.locals ∧ (∀ x c, X.env.cells.lookup x = some c → c ≠ b) ∧ ∀ p ∈ X.pn ++ pins, p.1 ≠ b) :
    Inv X pins σ H' { s with heap := h', gens := g', drawn := d', toks := t' } := by
  obtain ⟨m, ⟨o, es, ep, ho, r⟩, _⟩ := id I.loc
  obtain ⟨sl, hL⟩ := u.any ho I.free fun z => (hch _ z).2.1 rfl
  exact I.step (ch := ch) hch (fun b o hL hb hc e n => u.keep b o e n (fun z => (List.mem_cons.mp (I.stkSub b z)).elim hL hb) hc) (fun b o _ _ hc e n => u.any e n hc) (fun b o hc e n => u.free b o e n hc) (fun b o hc e => u.there b o e hc) u.tups u.frzs u.tbls (fun m' hm => by
    obtain ⟨o', es', ep', ho', r'⟩ := hm
    rw [ho] at ho'; cases ho'
    exact ⟨_, es', ep', hL, r'⟩) hok hg
/-- an untracked record of ours (an iterator) has turned -/
theorem Inv.turned {t' : Nat} {it : Addr} (I : Inv X pins σ H s) (k : ∀ b o, b ≠ it → s.heap.get? b = some o → h'.get? b = some o) (hn : H it = none) (hL : it ≠ X.env.locals)
    (h1 : it ∈ X.ex ∨ X.s₀.heap.objs.size ≤ it) (h2 : ∀ x c, X.env.cells.lookup x = some c → c ≠ it) (h3 : ∀ p ∈ X.pn ++ pins, p.1 ≠ it) : Inv X pins σ H { s with heap := h', toks := t' } := by
  have nit : ∀ b u, H b = some u → b ≠ it := fun b u e z => by rw [z, hn] at e; cases e
  refine I.step (g' := s.gens) (d' := s.drawn) (ch := [it]) (fun b hb => ?_) (fun b o _ _ hc e _ => k b o (fun z => hc (by simp [z])) e) (fun b o _ _ hc e _ => ⟨o.slots, k b o (fun z => hc (by simp [z])) e⟩) (fun _ _ _ _ n => n)
    (fun b o hc e => ⟨o, k b o (fun z => hc (by simp [z])) e⟩) (fun _ _ e => e) (fun _ _ _ e => e) (fun b ps e => ⟨#[], by rw [e]; simp⟩) (fun m hm => ?_) (fun b u e => ?_) I.bare
  · have e : b = it := by simpa using hb
    subst e
    exact ⟨h1, hL, h2, h3⟩
  · obtain ⟨o, es, ep, ho, r⟩ := hm
    exact ⟨o, es, ep, k _ o (Ne.symm hL) ho, r⟩
  · refine (I.hok b u e).stay (fun c v hc q => k c v ?_ q) (fun _ q => q) fun _ _ q => q
    rcases hc with z | z
    · rw [z]; exact nit b u e
    · exact nit c _ z
theorem Inv.tok (I : Inv X pins σ H s) (t : Nat) : Inv X pins σ H { s with toks := t } := I.un (h' := s.heap) (t' := t) Un.refl I.hok
/-- all objects kept -/
theorem Inv.kept {t' : Nat} (I : Inv X pins σ H s) (k : ∀ b u, s.heap.get? b = some u → h'.get? b = some u) : Inv X pins σ H { s with heap := h', toks := t' } := I.un (Un.kept k) (I.hok.kept k)
/-- a new object laid and tracked -/
theorem Inv.laid {a : Addr} {o : HO} {t' : Nat} (I : Inv X pins σ H s) (k : ∀ b u, s.heap.get? b = some u → h'.get? b = some u) (hp : s.heap.objs.size ≤ a) (new : ObjOk X.prog X.w (upd H a o) h' a o) :
    Inv X pins σ (upd H a o) { s with heap := h', toks := t' } := I.un (Un.laid k hp (I.hok.fresh hp)) (I.hok.laid k hp new)
/-- an object written -/
theorem Inv.write {x e : Addr} {o : HO} {t' : Nat} (I : Inv X pins σ H s) (mu : Mut (H x)) (he : e = x ∨ H e = some (.own x)) (k : ∀ b u, b ≠ e → s.heap.get? b = some u → h'.get? b = some u) (heo : ∃ u, h'.get? e = some u)
    (new : ObjOk X.prog X.w (upd H x o) h' x o) : Inv X pins σ (upd H x o) { s with heap := h', toks := t' } := I.un (Un.write mu he k heo) (I.hok.write mu he k heo new)
theorem Inv.pins_of {pins' : List (Addr × Obj)} (I : Inv X pins σ H s) (h : ∀ p ∈ pins', s.heap.get? p.1 = some p.2 ∧ H p.1 = none ∧ p.1 ≠ X.env.locals ∧ p.1 ∉ X.fs ∧ ∀ v, p.2.data ≠ .cell v) : Inv X pins' σ H s :=
  ⟨I.ok, I.os, I.bare, I.base, I.loc, I.cell, I.free, I.freeC, fun p hp => (List.mem_append.mp hp).elim (fun z => I.pin p (List.mem_append_left _ z)) (h p), I.hok, I.len⟩

theorem nodup_ix {N : List Str} (hN : N.Nodup) {i j : Nat} {x : Str} (a : N[i]? = some x) (b : N[j]? = some x) : i = j := by
  obtain ⟨h1, e1⟩ := List.getElem?_eq_some_iff.mp a
  obtain ⟨h2, e2⟩ := List.getElem?_eq_some_iff.mp b
  exact (List.getElem_inj hN).mp (e1.trans e2.symm)

/-- a name is stored; what changed -/
theorem store_ok2 {M : Model} {A : Around} {E : Value → Shared → Prop} {i : Nat} {x : Str} {v : V} {u : Value} {Q : Unit → Shared → Prop} (I : Inv X pins σ H s) (hN : X.N.Nodup) (hi : X.N[i]? = some x) (hx : Loc X.env.scope x) (r : RelV v u)
    (h : ∀ s', Inv X pins (σ.set i (some v)) H s' → (∃ a, Heap.SameBut a s.heap s'.heap ∧ (a = X.env.locals ∨ X.env.cells.lookup x = some a)) → Q () s') (hf : X.fn x = true ∨ X.env.scope.names.lookup x = some .local := by first | exact .inl rfl | exact .inr rfl | assumption) : wpAny M A (storeName X.env x u) Q E s := by
  obtain ⟨m, hn, hl⟩ := id I.loc
  have hcls : (X.env.scope.kind == .class || (X.env.scope.kind == .module && X.env.locals != X.env.globals)) = false := by rw [I.ok.kind]; rfl
  have hiσ : i < σ.length := by rw [I.len]; exact (List.getElem?_eq_some_iff.mp hi).1
  have cne := I.cne
  have tracked : ∀ {a : Addr} {h' : Heap}, (∃ o, s.heap.get? a = some o ∧ H a = none) → Heap.SameBut a s.heap h' → HOk X.prog X.w H h' := fun {a h'} ha hs b ob e => by
    obtain ⟨_, _, hfree⟩ := ha
    refine (I.hok b ob e).stay (fun c w' hc q => (hs.2 c ?_).trans q) (fun _ q => q) fun _ _ q => q
    rintro rfl
    rcases hc with rfl | hc
    · rw [hfree] at e; cases e
    · rw [hfree] at hc; cases hc
  rcases hx with hk | hk
  · refine wpAny_storeName_local hk hn (fun h' hn' hs => ?_) hcls
    obtain ⟨oL, _, _, hoL, _⟩ := id hn
    refine h _ ⟨I.ok, I.os, I.bare, ⟨fun b o e n hb hx => ?_, fun b o e n hb hx => ?_, I.base.free, fun b o e hx => ?_, I.base.tups, I.base.frzs, I.base.tbls⟩, ⟨_, hn', fun j y v' e1 e2 e3 => ?_⟩, fun y c e => ?_, I.free, I.freeC, fun p hp => ?_, tracked ⟨oL, hoL, I.free⟩ hs, by simpa using I.len⟩ ⟨_, hs, .inl rfl⟩
    · exact (hs.2 b (Nat.ne_of_lt (Nat.lt_of_lt_of_le (Heap.lt_size e) I.ok.above))).trans (I.base.keep b o e n hb hx)
    · obtain ⟨sl, e1⟩ := I.base.slot b o e n hb hx
      exact ⟨sl, (hs.2 b (Nat.ne_of_lt (Nat.lt_of_lt_of_le (Heap.lt_size e) I.ok.above))).trans e1⟩
    · obtain ⟨o', e1⟩ := I.base.there b o e hx
      exact ⟨o', (hs.2 b (Nat.ne_of_lt (Nat.lt_of_lt_of_le (Heap.lt_size e) I.ok.above))).trans e1⟩
    · by_cases hj : j = i
      · subst hj
        rw [hi] at e1; cases e1
        rw [List.getElem?_set_self hiσ] at e2
        cases e2
        exact ⟨u, r, .inl ⟨hk, by simp⟩⟩
      · rw [List.getElem?_set_ne (Ne.symm hj)] at e2
        obtain ⟨u', r', q⟩ := hl j y v' e1 e2 e3
        refine ⟨u', r', ?_⟩
        rcases q with ⟨k, e⟩ | ⟨k, c, e, z⟩
        · refine .inl ⟨k, ?_⟩
          have : y ≠ x := fun e => hj (nodup_ix hN e1 (e ▸ hi))
          simp [this, e]
        · exact .inr ⟨k, c, e, z.sameBut hs (cne y c e)⟩
    · obtain ⟨w', z⟩ := I.cell y c e
      exact ⟨w', z.sameBut hs (cne y c e)⟩
    · obtain ⟨e, n, ne, nf, d⟩ := I.pin p hp
      exact ⟨(hs.2 p.1 ne).trans e, n, ne, nf, d⟩
  · have hfn : X.fn x = true := by
      rcases hf with z | z
      · exact z
      · rw [z] at hk; cases hk
    obtain ⟨c, hc⟩ := I.ok.has x (.inl hk)
    obtain ⟨w', z⟩ := I.cell x c hc
    refine wpAny_storeName_cell I.ok.kind hk hc z (fun h' hc' hs => ?_)
    obtain ⟨oc, hoc, hocd⟩ := id z
    refine h { s with heap := h' } ⟨I.ok, I.os, I.bare, ⟨fun b o e n hb hx => ?_, fun b o e n hb hx => ?_, I.base.free, fun b o e hx => ?_, I.base.tups, I.base.frzs, I.base.tbls⟩, ⟨m, hn.sameBut hs (Ne.symm (cne x c hc)), fun j y v' e1 e2 e3 => ?_⟩, fun y c' e => ?_, I.free, I.freeC, fun p hp => ?_, tracked ⟨oc, hoc, I.freeC x c hc⟩ hs, by simpa using I.len⟩ ⟨c, hs, .inr hc⟩
    · exact (hs.2 b (Nat.ne_of_lt (Nat.lt_of_lt_of_le (Heap.lt_size e) (I.ok.cab x c hfn hc)))).trans (I.base.keep b o e n hb hx)
    · obtain ⟨sl, e1⟩ := I.base.slot b o e n hb hx
      exact ⟨sl, (hs.2 b (Nat.ne_of_lt (Nat.lt_of_lt_of_le (Heap.lt_size e) (I.ok.cab x c hfn hc)))).trans e1⟩
    · obtain ⟨o', e1⟩ := I.base.there b o e hx
      exact ⟨o', (hs.2 b (Nat.ne_of_lt (Nat.lt_of_lt_of_le (Heap.lt_size e) (I.ok.cab x c hfn hc)))).trans e1⟩
    · by_cases hj : j = i
      · subst hj
        rw [hi] at e1; cases e1
        rw [List.getElem?_set_self hiσ] at e2
        cases e2
        exact ⟨u, r, .inr ⟨.inl hk, c, hc, hc'⟩⟩
      · rw [List.getElem?_set_ne (Ne.symm hj)] at e2
        obtain ⟨u', r', q⟩ := hl j y v' e1 e2 e3
        refine ⟨u', r', ?_⟩
        rcases q with q | ⟨k, c', e, z'⟩
        · exact .inl q
        · refine .inr ⟨k, c', e, z'.sameBut hs ?_⟩
          rintro rfl
          exact hj (nodup_ix hN e1 (I.ok.inj _ _ _ e hc ▸ hi))
    · by_cases hcc : c' = c
      · subst hcc; exact ⟨_, hc'⟩
      · obtain ⟨w2, z2⟩ := I.cell y c' e
        exact ⟨w2, z2.sameBut hs hcc⟩
    · obtain ⟨e, n, ne, nf, d⟩ := I.pin p hp
      refine ⟨(hs.2 p.1 ?_).trans e, n, ne, nf, d⟩
      intro q
      rw [q, hoc] at e
      have q' : oc = p.2 := Option.some.inj e
      exact d w' (by rw [← q']; exact hocd)
theorem store_ok {M : Model} {A : Around} {E : Value → Shared → Prop} {i : Nat} {x : Str} {v : V} {u : Value} {Q : Unit → Shared → Prop} (I : Inv X pins σ H s) (hN : X.N.Nodup) (hi : X.N[i]? = some x) (hx : Loc X.env.scope x) (r : RelV v u)
    (h : ∀ s', Inv X pins (σ.set i (some v)) H s' → Q () s') (hf : X.fn x = true ∨ X.env.scope.names.lookup x = some .local := by first | exact .inl rfl | exact .inr rfl | assumption) : wpAny M A (storeName X.env x u) Q E s :=
  store_ok2 I hN hi hx r (fun s' I' _ => h s' I') hf
/-- behind a call or a block, the state as it is -/
theorem Inv.call' {s' : Shared} {ch : List Addr} (I : Inv X pins σ H s) (ho : s'.os = s.os) (u : Un (frs X.stack) ch H H' s.heap s'.heap) (hok : HOk X.prog X.w H' s'.heap) (hg : AllBare s'.gens)
    (hch : ∀ b ∈ ch, (b ∈ X.ex ∨ X.s₀.heap.objs.size ≤ b) ∧ b ≠ X.env.locals ∧ (∀ x c, X.env.cells.lookup x = some c → c ≠ b) ∧ ∀ p ∈ X.pn ++ pins, p.1 ≠ b) : Inv X pins σ H' s' := by
  obtain ⟨h', g', d', t', o'⟩ := s'
  have e : o' = s.os := ho
  subst e
  exact I.call (g' := g') (t' := t') (d' := d') u hok hg hch
end

/-! ### the judgements -/
/-- an exception: its class, its own dict's address (where it has one), the abstract heap behind it -/
abbrev XK := Value → Option Addr → Hp → Prop
abbrev St := List (Option V)
abbrev VK := V → Hp → Prop
/-- an expression's reading; a test's; an argument list's -/
abbrev TE := St → Hp → VK → Prop
abbrev TT := St → Hp → (Bool → Hp → Prop) → Prop
abbrev TA := St → Hp → (List V → Hp → Prop) → Prop
/-- what is wanted behind a statement -/
structure Ends where
  nx : St → Hp → Prop
  rt : VK
  bk : St → Hp → Prop := fun _ _ => False
  ct : St → Hp → Prop := fun _ _ => False
abbrev TS := Ends → St → Hp → Prop

def EP (X : Cx) (pins : List (Addr × Obj)) (σ : St) (Q : VK) (u : Value) (s' : Shared) : Prop := ∃ v H', Inv X pins σ H' s' ∧ RelV v u ∧ Q v H'
def TP (X : Cx) (pins : List (Addr × Obj)) (σ : St) (Q : Bool → Hp → Prop) (b : Bool) (s' : Shared) : Prop := ∃ H', Inv X pins σ H' s' ∧ Q b H'
def AP (X : Cx) (pins : List (Addr × Obj)) (σ : St) (Q : List V → Hp → Prop) (us : List Value) (s' : Shared) : Prop := ∃ vs H', Inv X pins σ H' s' ∧ Vals vs us ∧ Q vs H'
def SP (X : Cx) (pins : List (Addr × Obj)) (D : Ends) (f : Flow) (s' : Shared) : Prop :=
  match f with
  | .next => ∃ σ' H', Inv X pins σ' H' s' ∧ D.nx σ' H'
  | .brk => ∃ σ' H', Inv X pins σ' H' s' ∧ D.bk σ' H'
  | .cont => ∃ σ' H', Inv X pins σ' H' s' ∧ D.ct σ' H'
  | .ret u => ∃ v σ' H', Inv X pins σ' H' s' ∧ RelV v u ∧ D.rt v H'

def PE (X : Cx) (e : Expr) (t : TE) : Prop :=
  ∀ (pins : List (Addr × Obj)) (s : Shared) (σ : St) (H : Hp) (Q : VK), Inv X pins σ H s → t σ H Q → wpAny (model X.prog X.w) X.A (eval e X.env) (EP X pins σ Q) X.xe s
def PT (X : Cx) (e : Expr) (t : TT) : Prop :=
  ∀ (pins : List (Addr × Obj)) (s : Shared) (σ : St) (H : Hp) (Q : Bool → Hp → Prop), Inv X pins σ H s → t σ H Q → wpAny (model X.prog X.w) X.A (isTrue e X.env (eval e X.env)) (TP X pins σ Q) X.xe s
/-- a test whatever its 'whole' is (and, or) -/
def PW (X : Cx) (e : Expr) (t : TT) : Prop :=
  ∀ (whole : Sem Value) (pins : List (Addr × Obj)) (s : Shared) (σ : St) (H : Hp) (Q : Bool → Hp → Prop), Inv X pins σ H s → t σ H Q → wpAny (model X.prog X.w) X.A (isTrue e X.env whole) (TP X pins σ Q) X.xe s
theorem PW.pt {X : Cx} {e : Expr} {t : TT} (h : PW X e t) : PT X e t := h _
/-- an argument list (no star), from the left -/
def PA (X : Cx) (es : List Expr) (t : TA) : Prop :=
  ∀ (pos : Pos) (pins : List (Addr × Obj)) (s : Shared) (σ : St) (H : Hp) (Q : List V → Hp → Prop), Inv X pins σ H s → t σ H Q → wpAny (model X.prog X.w) X.A (spliced (backTo pos (starEach es X.env))) (AP X pins σ Q) X.xe s
def PS (X : Cx) (st : Stmt) (t : TS) : Prop :=
  ∀ (pins : List (Addr × Obj)) (s : Shared) (σ : St) (H : Hp) (D : Ends), Inv X pins σ H s → t D σ H → wpAny (model X.prog X.w) X.A (exec st X.env) (SP X pins D) X.xe s
def PSs (X : Cx) (st : List Stmt) (t : TS) : Prop :=
  ∀ (pins : List (Addr × Obj)) (s : Shared) (σ : St) (H : Hp) (D : Ends), Inv X pins σ H s → t D σ H → wpAny (model X.prog X.w) X.A (execs st X.env) (SP X pins D) X.xe s
/-- weaken the end -/
theorem thn {α : Type} {t : Sem α} {Q Q' : α → Shared → Prop} {M : Model} {A : Around} {E : Value → Shared → Prop} {s : Shared} (h : wpAny M A t Q E s) (hQ : ∀ a s, Q a s → Q' a s) : wpAny M A t Q' E s := wpAny_mono h hQ fun _ _ x => x
end L2

namespace L2
open PySem PySem.Spec PyProof.Rows
section
variable {X : Cx}

/-! ### names and constants -/
def tVar (i : Nat) : TE := fun σ H Q => ∃ v, σ[i]? = some (some v) ∧ Q v H
def tC (v : V) : TE := fun _ H Q => Q v H
theorem pe_var {i : Nat} {x : Str} {pos : Pos} (hN : X.N[i]? = some x) (hv : Vis X.env.scope x) (hd : (x == ("__debug__" : Str)) = false := by decide) (hcd : (x == ("__classdict__" : Str)) = false := by decide) : PE X (.Name x pos) (tVar i) := by
  intro pins s σ H Q I h
  obtain ⟨v, e, h⟩ := h
  obtain ⟨m, hn, hl⟩ := I.loc
  obtain ⟨u, r, l⟩ := hl i x v hN e hv
  have fin : EP X pins σ Q u s := ⟨v, H, I, r, h⟩
  rcases l with ⟨hk, hm⟩ | ⟨hk, c, hc, hcell⟩
  · exact wpAny_Name (wpAny_loadName_local I.ok.kind hk hn hm fin) hd
  · rcases hk with hk | hk
    · exact wpAny_Name (wpAny_loadName_cell I.ok.kind hk hc hcell fin) hd
    · exact wpAny_Name (wpAny_loadName_free I.ok.kind hk hc hcell fin hcd) hd
theorem pe_int {i j pos} : PE X (.Constant (.int i) j pos) (tC (.int i)) := fun _ _ _ H _ I h => wpAny_Constant_int ⟨.int i, H, I.tok _, ⟨_, rfl⟩, h⟩
theorem pe_bl {b j pos} : PE X (.Constant (.bool b) j pos) (tC (.bl b)) := fun _ _ _ H _ I h => Constant_bool ⟨.bl b, H, I, rfl, h⟩
theorem pe_non {j pos} : PE X (.Constant .none j pos) (tC .non) := fun _ _ _ H _ I h => Constant_none ⟨.non, H, I, rfl, h⟩
theorem pe_str {x j pos} : PE X (.Constant (.str x) j pos) (tC (.str x)) := fun _ _ _ H _ I h => Calls.Constant_str ⟨.str x, H, I.tok _, ⟨_, rfl⟩, h⟩

/-- a global name of the def -/
def Gl (X : Cx) (x : Str) : Prop := X.env.kindOf x = some .globalImplicit
theorem ld_glob {E : Value → Shared → Prop} {pins : List (Addr × Obj)} {s : Shared} {σ : St} {H : Hp} {x : Str} {u : Value} {pos : Pos} {Q : Value → Shared → Prop} (I : Inv X pins σ H s) (hg : Gl X x) (hm : X.mg x = some u) (h : Q u s)
    (hd : (x == ("__debug__" : Str)) = false := by decide) : wpAny (model X.prog X.w) X.A (eval (.Name x pos) X.env) Q E s :=
  Calls.Name_function_global I.ok.kind hg (Calls.loadGlobal_global (by rw [I.ok.glob]; exact I.mod.glob.keeps I.bk) hm h) hd
theorem ld_blt {E : Value → Shared → Prop} {pins : List (Addr × Obj)} {s : Shared} {σ : St} {H : Hp} {x : Str} {u : Value} {pos : Pos} {Q : Value → Shared → Prop} (I : Inv X pins σ H s) (hg : Gl X x) (hm : X.mg x = none) (hv : bootBuiltins x = some u) (h : Q u s)
    (hn : x ≠ "__name__" := by decide) (hd : (x == ("__debug__" : Str)) = false := by decide) : wpAny (model X.prog X.w) X.A (eval (.Name x pos) X.env) Q E s := by
  obtain ⟨mb, h1, h2⟩ := I.mod.blt
  exact Calls.Name_function_global I.ok.kind hg (Calls.loadGlobal_builtin (by rw [I.ok.glob]; exact I.mod.glob.keeps I.bk) hm (by rw [I.ok.blt]; exact h1.keeps I.bk) ((h2 x hn).trans hv) h) hd
/-! ### arithmetic -/
/-- two ints -/
def t2I (ta tb : TE) (k : Int → Int → Hp → Prop) : St → Hp → Prop := fun σ H => ta σ H fun x H1 => tb σ H1 fun y H2 => ∃ i j, x = .int i ∧ y = .int j ∧ k i j H2
def tAdd (ta tb : TE) : TE := fun σ H Q => t2I ta tb (fun i j H2 => Q (.int (i + j)) H2) σ H
def tSub (ta tb : TE) : TE := fun σ H Q => t2I ta tb (fun i j H2 => Q (.int (i - j)) H2) σ H
/-- the left factor below 2^64 -/
def tMul (ta tb : TE) : TE := fun σ H Q => t2I ta tb (fun i j H2 => (-(2 ^ 64) < i ∧ i < 2 ^ 64) ∧ Q (.int (i * j)) H2) σ H
variable {a b : Expr} {ta tb : TE} {pos : Pos}
/-! ### comparisons -/
def PC (X : Cx) (op : CmpOp) (a b : Expr) (t : TE) : Prop :=
  ∀ (pins : List (Addr × Obj)) (s : Shared) (σ : St) (H : Hp) (Q : VK), Inv X pins σ H s → t σ H Q →
    wpAny (model X.prog X.w) X.A (eval a X.env) (fun v s₁ => wpAny (model X.prog X.w) X.A (eval b X.env) (fun u s₂ => wpAny (model X.prog X.w) X.A (compareOp op v u) (EP X pins σ Q) X.xe s₂) X.xe s₁) X.xe s
def tCmp (p : Int → Int → Bool) (ta tb : TE) : TE := fun σ H Q => t2I ta tb (fun i j H2 => Q (.bl (p i j)) H2) σ H
abbrev tLt : TE → TE → TE := tCmp fun i j => decide (i < j)
abbrev tLe : TE → TE → TE := tCmp fun i j => decide (i ≤ j)
abbrev tGt : TE → TE → TE := tCmp fun i j => decide (j < i)
abbrev tGe : TE → TE → TE := tCmp fun i j => decide (j ≤ i)
abbrev tEqI : TE → TE → TE := tCmp fun i j => decide (i = j)
abbrev tNeI : TE → TE → TE := tCmp fun i j => !decide (i = j)
/-- is None -/
def tIsN (ta : TE) : TE := fun σ H Q => ta σ H fun x H1 => Q (.bl (decide (x = .non))) H1
def tNotN (ta : TE) : TE := fun σ H Q => ta σ H fun x H1 => Q (.bl (!decide (x = .non))) H1
/-- a comparison as a value, as a test -/
def tB (t : TE) : TT := fun σ H Q => t σ H fun x H1 => ∃ c, x = .bl c ∧ Q c H1
/-- an expression whose value is a bool, as a test -/
theorem pt_val {e : Expr} {t : TE} (h : PE X e t) (he : ∀ whole, isTrue e X.env whole = (do let v ← whole; standAt e.pos; holding [v] (truthy v)) := by intro _; rfl) : PT X e (tB t) := by
  intro pins s σ H Q I hw
  refine isTrue_plain (thn (h pins s σ H _ I hw) fun v s1 ⟨x, H1, I1, r1, q1⟩ => ?_) (he _)
  obtain ⟨d, rfl, q⟩ := q1
  cases r1
  exact wpAny_truthy_bool ⟨H1, I1, q⟩

/-! ### and, or, not -/
variable {tA tB' : TT} {rest : List Expr}
def tAnd (t u : TT) : TT := fun σ H Q => t σ H fun c H1 => if c = true then u σ H1 Q else Q false H1
def tOr (t u : TT) : TT := fun σ H Q => t σ H fun c H1 => if c = true then Q true H1 else u σ H1 Q
def tNot (t : TT) : TT := fun σ H Q => t σ H fun c H1 => Q (!c) H1
theorem pw_and1 (ha : PT X a tA) : PW X (.BoolOp .And [a] pos) tA := by
  intro wh pins s σ H Q I h
  refine isTrue_and (thn (ha pins s σ H Q I h) fun c s1 e => ?_)
  cases c with
  | true => exact isTrue_and_nil e
  | false => exact e
theorem pw_or1 (ha : PT X a tA) : PW X (.BoolOp .Or [a] pos) tA := by
  intro wh pins s σ H Q I h
  refine isTrue_or (thn (ha pins s σ H Q I h) fun c s1 e => ?_)
  cases c with
  | false => exact isTrue_or_nil e
  | true => exact e
theorem pw_and (ha : PT X a tA) (hb : PW X (.BoolOp .And (b :: rest) pos) tB') : PW X (.BoolOp .And (a :: b :: rest) pos) (tAnd tA tB') := by
  intro wh pins s σ H Q I h
  refine isTrue_and (thn (ha pins s σ H _ I h) fun c s1 ⟨H1, I1, q1⟩ => ?_)
  cases c with
  | true => exact hb wh pins s1 σ H1 Q I1 q1
  | false => exact ⟨H1, I1, q1⟩
theorem pw_or (ha : PT X a tA) (hb : PW X (.BoolOp .Or (b :: rest) pos) tB') : PW X (.BoolOp .Or (a :: b :: rest) pos) (tOr tA tB') := by
  intro wh pins s σ H Q I h
  refine isTrue_or (thn (ha pins s σ H _ I h) fun c s1 ⟨H1, I1, q1⟩ => ?_)
  cases c with
  | true => exact ⟨H1, I1, q1⟩
  | false => exact hb wh pins s1 σ H1 Q I1 q1
theorem pt_not (ha : PT X a tA) : PT X (.UnaryOp .Not a pos) (tNot tA) := by
  intro pins s σ H Q I h
  exact isTrue_not (ha pins s σ H (fun c H1 => Q (!c) H1) I h)
/-- .. as values (bools) -/
def tAndV (ta tb : TE) : TE := fun σ H Q => ta σ H fun x H1 => ∃ c, x = .bl c ∧ if c = true then tb σ H1 Q else Q (.bl false) H1
def tOrV (ta tb : TE) : TE := fun σ H Q => ta σ H fun x H1 => ∃ c, x = .bl c ∧ if c = true then Q (.bl true) H1 else tb σ H1 Q
def tNotV (ta : TE) : TE := fun σ H Q => ta σ H fun x H1 => ∃ c, x = .bl c ∧ Q (.bl (!c)) H1
theorem pe_one {op} {t : TE} (h : PE X a t) : PE X (.BoolOp op [a] pos) t := fun pins s σ H Q I hw => BoolOp_one (h pins s σ H Q I hw)
theorem pe_and (ha : PE X a ta) (hb : PE X (.BoolOp .And (b :: rest) pos) tb) : PE X (.BoolOp .And (a :: b :: rest) pos) (tAndV ta tb) := by
  intro pins s σ H Q I h
  refine BoolOp_and (thn (ha pins s σ H _ I h) fun v s1 ⟨x, H1, I1, r1, q1⟩ => ?_)
  obtain ⟨c, rfl, q1⟩ := q1
  cases r1
  refine wpAny_truthy_bool ?_
  cases c with
  | true => exact hb pins s1 σ H1 Q I1 q1
  | false => exact ⟨.bl false, H1, I1, rfl, q1⟩
/-- a if t else b -/
def tIf (t : TT) (ta tb : TE) : TE := fun σ H Q => t σ H fun c H1 => if c = true then ta σ H1 Q else tb σ H1 Q
theorem pe_ifExp {c : Expr} (hc : PT X c tA) (ha : PE X a ta) (hb : PE X b tb) : PE X (.IfExp c a b pos) (tIf tA ta tb) := by
  intro pins s σ H Q I h
  refine wpAny_IfExp (thn (hc pins s σ H _ I h) fun d s1 ⟨H1, I1, q1⟩ => ?_)
  cases d with
  | true => exact ha pins s1 σ H1 Q I1 q1
  | false => exact hb pins s1 σ H1 Q I1 q1
end
end L2

namespace L2
open PySem PySem.Spec PyProof.Rows

/-! ### a list, a tuple that is read: tracked, frozen, or an object of the module -/
def SqL (K : PySem.W.Frag) (H : Hp) (a : Addr) (xs : List V) : Prop :=
  Rd H a (.lst xs) ∨
    ∃ (o : Obj) (its : Array Value) (n : Nat), K.lookup a = some o ∧ o.cls = .type "list" ∧ o.dict = none ∧ o.data = .seq its n ∧ its.size ≤ sizeLine ∧ Vals xs its.toList
def SqT (K : PySem.W.Frag) (H : Hp) (a : Addr) (xs : List V) : Prop :=
  Rd H a (.tup xs) ∨
    ∃ (o : Obj) (its : Array Value) (n : Nat), K.lookup a = some o ∧ o.cls = .type "tuple" ∧ o.data = .seq its n ∧ its.size ≤ sizeLine ∧ Vals xs its.toList
def absV : Value → Option V
  | .none => some .non
  | .bool b => some (.bl b)
  | .int i _ => some (.int i)
  | .str x _ => some (.str x)
  | .bytes b _ => some (.byt b)
  | .float b _ => some (.flt b)
  | .ref a => some (.ref a)
  | .type n => some (.ty n)
  | _ => none
theorem RelV.abs {x : V} {u : Value} (r : RelV x u) : absV u = some x := by
  cases x with
  | non => cases r; rfl
  | bl _ => cases r; rfl
  | int _ => obtain ⟨t, rfl⟩ := r; rfl
  | str _ => obtain ⟨t, rfl⟩ := r; rfl
  | byt _ => obtain ⟨t, rfl⟩ := r; rfl
  | flt _ => obtain ⟨t, rfl⟩ := r; rfl
  | ref _ => cases r; rfl
  | ty _ => cases r; rfl
theorem RelV.inj {x y : V} {u : Value} (r : RelV x u) (q : RelV y u) : x = y := Option.some.inj (r.abs.symm.trans q.abs)
theorem Vals.inj : ∀ {xs ys : List V} {us : List Value}, Vals xs us → Vals ys us → xs = ys
  | _, _, _, .nil, .nil => rfl
  | _, _, _, .cons r t, .cons r' t' => by rw [r.inj r', Vals.inj t t']
section
variable {X : Cx} {pins : List (Addr × Obj)} {σ : St} {H : Hp} {s : Shared} {a : Addr} {xs ys : List V}
theorem SqL.of {K : PySem.W.Frag} (h : H a = some (.lst xs)) : SqL K H a xs := .inl (.inl h)
theorem SqT.of {K : PySem.W.Frag} (h : H a = some (.tup xs)) : SqT K H a xs := .inl (.inl h)
theorem Inv.list (I : Inv X pins σ H s) (h : SqL X.K H a xs) : ∃ its : List Value, Vals xs its ∧ PlainL s.heap a its.toArray ∧ xs.length ≤ sizeLine := by
  rcases h with h | ⟨o, its, n, hk, hc, hd, hs, hz, r⟩
  · obtain ⟨z, its, n, r, e⟩ := h.ok I.hok
    exact ⟨its, r, ⟨_, n, e, rfl, rfl, rfl⟩, z⟩
  · refine ⟨its.toList, r, ⟨o, n, I.kIn a o hk, hc, hd, by simpa using hs⟩, ?_⟩
    have e := r.length
    simp only [Array.length_toList] at e
    omega
theorem Inv.tuple (I : Inv X pins σ H s) (h : SqT X.K H a xs) : ∃ its : List Value, Vals xs its ∧ IsTup s.heap a its.toArray ∧ xs.length ≤ sizeLine := by
  rcases h with h | ⟨o, its, n, hk, hc, hs, hz, r⟩
  · obtain ⟨z, its, r, p⟩ := h.ok I.hok
    exact ⟨its, r, p, z⟩
  · refine ⟨its.toList, r, ⟨o, I.kIn a o hk, hc, n, by simpa using hs⟩, ?_⟩
    have e := r.length
    simp only [Array.length_toList] at e
    omega
theorem Inv.list_inj (I : Inv X pins σ H s) (h : SqL X.K H a xs) (h' : SqL X.K H a ys) : xs = ys := by
  obtain ⟨its, r, ⟨o, n, e, _, _, d⟩, _⟩ := I.list h
  obtain ⟨its', r', ⟨o', n', e', _, _, d'⟩, _⟩ := I.list h'
  rw [e] at e'; cases e'
  rw [d] at d'
  injection d' with d1 _
  have : its = its' := by simpa using congrArg Array.toList d1
  subst this
  exact r.inj r'
theorem Inv.tuple_inj (I : Inv X pins σ H s) (h : SqT X.K H a xs) (h' : SqT X.K H a ys) : xs = ys := by
  obtain ⟨its, r, ⟨o, e, _, n, d⟩, _⟩ := I.tuple h
  obtain ⟨its', r', ⟨o', e', _, n', d'⟩, _⟩ := I.tuple h'
  rw [e] at e'; cases e'
  rw [d] at d'
  injection d' with d1 _
  have : its = its' := by simpa using congrArg Array.toList d1
  subst this
  exact r.inj r'
end

/-! ### another wish about exceptions -/
abbrev Cx.wish (X : Cx) (E : Value → Shared → Prop) : Cx := { X with xe := E }
/-- no exception leaves -/
abbrev Cx.nox (X : Cx) : Cx := X.wish fun _ _ => False
theorem Cx.Ok.wish {X : Cx} (ok : X.Ok) (E : Value → Shared → Prop) : (X.wish E).Ok :=
  ⟨ok.mod, ok.kind, ok.glob, ok.blt, ok.above, ok.inj, ok.has, ok.cab, ok.hd, ok.frames, ok.stk, ok.exf, ok.bs, ok.bsz, ok.noex, ok.exfs, ok.funs, ok.frf⟩
theorem Cx.Ok.unwish {X : Cx} {E : Value → Shared → Prop} (ok : (X.wish E).Ok) : X.Ok :=
  ⟨ok.mod, ok.kind, ok.glob, ok.blt, ok.above, ok.inj, ok.has, ok.cab, ok.hd, ok.frames, ok.stk, ok.exf, ok.bs, ok.bsz, ok.noex, ok.exfs, ok.funs, ok.frf⟩
section
variable {X : Cx} {pins : List (Addr × Obj)} {σ : St} {H : Hp} {s : Shared} {E : Value → Shared → Prop}
theorem Inv.wish (I : Inv X pins σ H s) (E : Value → Shared → Prop) : Inv (X.wish E) pins σ H s := ⟨I.ok.wish E, I.os, I.bare, I.base, I.loc, I.cell, I.free, I.freeC, I.pin, I.hok, I.len⟩
theorem Inv.unwish (I : Inv (X.wish E) pins σ H s) : Inv X pins σ H s := ⟨I.ok.unwish, I.os, I.bare, I.base, I.loc, I.cell, I.free, I.freeC, I.pin, I.hok, I.len⟩
theorem SP.unwish {D : Ends} {f : Flow} {s' : Shared} (h : SP (X.wish E) pins D f s') : SP X pins D f s' := by
  cases f with
  | next => obtain ⟨σ', H', I, q⟩ := h; exact ⟨σ', H', I.unwish, q⟩
  | brk => obtain ⟨σ', H', I, q⟩ := h; exact ⟨σ', H', I.unwish, q⟩
  | cont => obtain ⟨σ', H', I, q⟩ := h; exact ⟨σ', H', I.unwish, q⟩
  | ret u => obtain ⟨v, σ', H', I, r, q⟩ := h; exact ⟨v, σ', H', I.unwish, r, q⟩
theorem PE.nox {e : Expr} {t : TE} (h : PE X.nox e t) : PE X e t := fun pins s σ H Q I hw =>
  wpAny_mono (h pins s σ H Q (I.wish _) hw) (fun _ _ ⟨v, H', I', r, q⟩ => ⟨v, H', I'.unwish, r, q⟩) fun _ _ z => False.elim z
theorem PT.nox {e : Expr} {t : TT} (h : PT X.nox e t) : PT X e t := fun pins s σ H Q I hw =>
  wpAny_mono (h pins s σ H Q (I.wish _) hw) (fun _ _ ⟨H', I', q⟩ => ⟨H', I'.unwish, q⟩) fun _ _ z => False.elim z
theorem PSs.nox {st : List Stmt} {t : TS} (h : PSs X.nox st t) : PSs X st t := fun pins s σ H D I hw =>
  wpAny_mono (h pins s σ H D (I.wish _) hw) (fun _ _ q => q.unwish) fun _ _ z => False.elim z
end

/-! ### blocks and small statements -/
section
variable {X : Cx} {st : Stmt} {rest : List Stmt} {t u : TS} {e : Expr} {te : TE} {pos : Pos}
def tNext : TS := fun D σ H => D.nx σ H
def tSeq (t u : TS) : TS := fun D σ H => t { D with nx := u D } σ H
theorem pss_nil : PSs X [] tNext := fun _ _ σ H _ I h => wpAny_execs_nil ⟨σ, H, I, h⟩
theorem pss_cons (h1 : PS X st t) (h2 : PSs X rest u) : PSs X (st :: rest) (tSeq t u) := by
  intro pins s σ H D I h
  refine wpAny_execs_cons (thn (h1 pins s σ H { D with nx := u D } I h) fun f s1 q => ?_)
  cases f with
  | next =>
    obtain ⟨σ', H', I', q⟩ := q
    exact h2 pins s1 σ' H' D I' q
  | ret v => exact q
  | brk => exact q
  | cont => exact q
theorem pss_one (h1 : PS X st t) : PSs X [st] t := by
  intro pins s σ H D I h
  refine wpAny_execs_cons (thn (h1 pins s σ H D I h) fun f s1 q => ?_)
  cases f with
  | next => exact wpAny_execs_nil q
  | ret v => exact q
  | brk => exact q
  | cont => exact q
def tBreak : TS := fun D σ H => D.bk σ H
def tCont : TS := fun D σ H => D.ct σ H
theorem ps_continue : PS X (.Continue pos) tCont := fun _ _ σ H _ I h => wpAny_Continue ⟨σ, H, I, h⟩
/-- in a def's body nothing is shown -/
theorem Inv.quiet {pins : List (Addr × Obj)} {σ : St} {H : Hp} {s : Shared} (I : Inv X pins σ H s) : interactive X.env = false := by simp [interactive, I.ok.kind]
/-- an expression whose value is dropped -/
def tDrop (te : TE) : TS := fun D σ H => te σ H fun _ H1 => D.nx σ H1
theorem ps_expr (he : PE X e te) (hs : swapsWith e none pos.line X.env = pure false := by rfl) : PS X (.Expr e pos) (tDrop te) := by
  intro pins s σ H D I h
  exact wpAny_Expr_any (thn (he pins s σ H _ I h) fun v s1 ⟨x, H1, I1, r1, q1⟩ => ⟨σ, H1, I1, q1⟩) I.quiet hs
def tRet (te : TE) : TS := fun D σ H => te σ H D.rt
theorem ps_ret (he : PE X e te) : PS X (.Return (some e) pos) (tRet te) := by
  intro pins s σ H D I h
  exact wpAny_Return_some (thn (he pins s σ H _ I h) fun v s1 ⟨x, H1, I1, r1, q1⟩ => ⟨x, σ, H1, I1, r1, q1⟩)
def tRetN : TS := fun D _ H => D.rt .non H
def tIfS (c : TT) (t u : TS) : TS := fun D σ H => c σ H fun b H1 => if b = true then t D σ H1 else u D σ H1
theorem ps_if {c : Expr} {a b : List Stmt} {tc : TT} (hc : PT X c tc) (ha : PSs X a t) (hb : PSs X b u) : PS X (.If c a b pos) (tIfS tc t u) := by
  intro pins s σ H D I h
  refine wpAny_If (thn (hc pins s σ H _ I h) fun d s1 ⟨H1, I1, q1⟩ => ?_)
  cases d with
  | true => exact ha pins s1 σ H1 D I1 q1
  | false => exact hb pins s1 σ H1 D I1 q1
/-- code that the proof never comes to -/
def tNever : TS := fun _ _ _ => False
end

/-! ### targets -/
abbrev TG := V → St → Hp → (St → Hp → Prop) → Prop
abbrev TGs := List V → St → Hp → (St → Hp → Prop) → Prop
def PG (X : Cx) (target : Expr) (t : TG) : Prop :=
  ∀ (pins : List (Addr × Obj)) (s : Shared) (σ : St) (H : Hp) (v : V) (u : Value) (Q : St → Hp → Prop), Inv X pins σ H s → RelV v u → t v σ H Q →
    wpAny (model X.prog X.w) X.A (assign target X.env u) (fun _ s' => ∃ σ' H', Inv X pins σ' H' s' ∧ Q σ' H') X.xe s
/-- several targets, one after another -/
def PGs (X : Cx) (ts : List Expr) (t : TGs) : Prop :=
  ∀ (pins : List (Addr × Obj)) (s : Shared) (σ : St) (H : Hp) (vs : List V) (us : List Value) (Q : St → Hp → Prop), Inv X pins σ H s → Vals vs us → t vs σ H Q →
    wpAny (model X.prog X.w) X.A (assignInOrder ((assignEach ts X.env).map (·.2)) us) (fun _ s' => ∃ σ' H', Inv X pins σ' H' s' ∧ Q σ' H') X.xe s
/-- o[i] = v, by values -/
abbrev TSet := V → V → V → Hp → (Hp → Prop) → Prop
def PSet (X : Cx) (t : TSet) : Prop :=
  ∀ (pins : List (Addr × Obj)) (s : Shared) (σ : St) (H : Hp) (o i v : V) (ov iv u : Value) (Q : Hp → Prop), Inv X pins σ H s → RelV o ov → RelV i iv → RelV v u → t o i v H Q →
    wpAny (model X.prog X.w) X.A (setItem ov iv u) (fun _ s' => ∃ H', Inv X pins σ H' s' ∧ Q H') X.xe s
/-- a op= b, by values -/
abbrev TIp := V → V → Hp → VK → Prop
def PIp (X : Cx) (op : Operator) (t : TIp) : Prop :=
  ∀ (pins : List (Addr × Obj)) (s : Shared) (σ : St) (H : Hp) (x y : V) (v u : Value) (Q : VK), Inv X pins σ H s → RelV x v → RelV y u → t x y H Q →
    wpAny (model X.prog X.w) X.A (inplaceOp op v u) (EP X pins σ Q) X.xe s
section
variable {X : Cx} {pos : Pos}
def gName (i : Nat) : TG := fun v σ H Q => Q (σ.set i (some v)) H
theorem pg_name {i : Nat} {x : Str} (hN : X.N.Nodup) (hi : X.N[i]? = some x) (hx : Loc X.env.scope x) (hf : X.fn x = true ∨ X.env.scope.names.lookup x = some .local := by first | exact .inl rfl | exact .inr rfl | assumption) : PG X (.Name x pos) (gName i) := by
  intro pins s σ H v u Q I r h
  exact wpAny_assign_Name (store_ok I hN hi hx r (fun s' I' => ⟨_, H, I', h⟩) hf)
def gNil : TGs := fun vs σ H Q => vs = [] ∧ Q σ H
def gCons (t : TG) (u : TGs) : TGs := fun vs σ H Q => ∃ v r, vs = v :: r ∧ t v σ H fun σ' H' => u r σ' H' Q
/-- (a, b, ..) = a tuple of that length -/
def gTup (K : PySem.W.Frag) (n : Nat) (t : TGs) : TG := fun v σ H Q => ∃ a xs, v = .ref a ∧ SqT K H a xs ∧ xs.length = n ∧ t xs σ H Q
/-- o[i] = .. -/
def gSub (to ti : TE) (t : TSet) : TG := fun v σ H Q => to σ H fun o H1 => ti σ H1 fun i H2 => t o i v H2 fun H3 => Q σ H3
/-- target = value -/
def tAsg (te : TE) (g : TG) : TS := fun D σ H => te σ H fun x H1 => g x σ H1 D.nx
/-- name = value -/
theorem ps_set {i : Nat} {x : Str} {e : Expr} {te : TE} {pos' : Pos} (hN : X.N.Nodup) (hi : X.N[i]? = some x) (hx : Loc X.env.scope x) (he : PE X e te) (hs : swapsWith e (some (.Name x pos')) pos.line X.env = pure false := by rfl) (hf : X.fn x = true ∨ X.env.scope.names.lookup x = some .local := by first | exact .inl rfl | exact .inr rfl | assumption) :
    PS X (.Assign [.Name x pos'] e pos) (tAsg te (gName i)) := by
  intro pins s σ H D I h
  refine wpAny_Assign_Name (thn (he pins s σ H _ I h) fun v s1 ⟨y, H1, I1, r1, q1⟩ => ?_) hs
  exact store_ok I1 hN hi hx r1 (fun s2 I2 => ⟨_, H1, I2, q1⟩) hf
/-- a, b = x, y with plain local names: stored from the right; the pair itself is not tracked (the opening rows as in PyProof/Rows/TupAssign.lean:23) -/
def tPar (i j : Nat) (ta : TA) : TS := fun D σ H => ta σ H fun vs H1 => ∃ v w, vs = [v, w] ∧ D.nx ((σ.set i (some v)).set j (some w)) H1
/-- name op= e -/
def tAug (i : Nat) (te : TE) (ti : TIp) : TS := fun D σ H => ∃ x, σ[i]? = some (some x) ∧ te σ H fun y H1 => ti x y H1 fun z H2 => D.nx (σ.set i (some z)) H2
/-- o[i] op= e -/
def tAugS (to ti te : TE) (tget : V → V → Hp → VK → Prop) (tip : TIp) (tset : TSet) : TS := fun D σ H => to σ H fun o H1 => ti σ H1 fun i H2 => tget o i H2 fun x H3 => te σ H3 fun y H4 => tip x y H4 fun z H5 => tset o i z H5 fun H6 => D.nx σ H6
/-- o[i], by values -/
def PGet (X : Cx) (t : V → V → Hp → VK → Prop) : Prop :=
  ∀ (pins : List (Addr × Obj)) (s : Shared) (σ : St) (H : Hp) (o i : V) (ov iv : Value) (Q : VK), Inv X pins σ H s → RelV o ov → RelV i iv → t o i H Q →
    wpAny (model X.prog X.w) X.A (getItem ov iv) (EP X pins σ Q) X.xe s
/-- ints -/
def ipI (f : Int → Int → Int) : TIp := fun x y H Q => ∃ i j, x = .int i ∧ y = .int j ∧ Q (.int (f i j)) H
end

/-! ### while -/
section
variable {X : Cx} {pos : Pos}
/-- the invariant W with its measure -/
def tWhile (c : TT) (tb : TS) : TS := fun D σ H => ∃ W : Nat → St → Hp → Prop, (∃ m, W m σ H) ∧ ∀ m σ H, W m σ H →
  c σ H fun b H1 => if b = true then ∃ N : St → Hp → Prop, (∀ σ' H', N σ' H' → ∃ m', m' < m ∧ W m' σ' H') ∧ tb { D with nx := N, ct := N, bk := D.nx } σ H1 else D.nx σ H1
end

/-! ### what a loop or a comprehension walks -/
/-- at turn i: it yields x (the heap may grow), or it stops -/
structure It where
  go : Nat → Hp → Prop
  yld : Nat → Hp → V → Hp → Prop
  stop : Nat → Hp → Prop
/-- the iterator's own objects may turn: they are not the frame's, not pinned, younger than the entry (or a comprehension's own) -/
def FpOk (X : Cx) (pins : List (Addr × Obj)) (H : Hp) (b : Addr) : Prop :=
  H b = none ∧ b ≠ X.env.locals ∧ b ∉ X.fs ∧ (b ∈ X.ex ∨ X.s₀.heap.objs.size ≤ b) ∧ (∀ x c, X.env.cells.lookup x = some c → c ≠ b) ∧ ∀ p ∈ X.pn ++ pins, p.1 ≠ b
theorem Inv.fpOk {X : Cx} {pins : List (Addr × Obj)} {σ : St} {H H' : Hp} {s : Shared} {b : Addr} (I : Inv X pins σ H s) (hb : s.heap.objs.size ≤ b) (hn : H' b = none) : FpOk X pins H' b := by
  refine ⟨hn, Nat.ne_of_gt (Nat.lt_of_lt_of_le I.lt hb), I.nofs hb, .inr (Nat.le_trans I.sz hb), fun x c e z => ?_, fun p hp z => ?_⟩
  · obtain ⟨v, q⟩ := I.cell x c e
    exact absurd (Nat.lt_of_lt_of_le q.lt (by rw [z]; exact hb)) (Nat.lt_irrefl _)
  · exact absurd (Nat.lt_of_lt_of_le (Heap.lt_size (I.pin p hp).1) (by rw [z]; exact hb)) (Nat.lt_irrefl _)
structure Turn (P : Program) (w : World) (K : PySem.W.Frag) (tg : Expr) (J : It) (fp : List Addr) (it : Addr) (tn : Nat → Heap → Prop) : Prop where
  mem : it ∈ fp
  obj : ∀ i h, tn i h → ∀ b ∈ fp, ∃ o, h.get? b = some o ∧ ∀ v, o.data ≠ .cell v
  keep : ∀ i h h', tn i h → (∀ b ∈ fp, ∀ o, h.get? b = some o → h'.get? b = some o) → tn i h'
  item : ∀ (X : Cx), X.prog = P → X.w = w → X.K = K → X.calm = true → ∀ (i : Nat) (pins : List (Addr × Obj)) (s : Shared) (σ : St) (H : Hp) (E : Value → Shared → Prop), Inv X pins σ H s → (∀ b ∈ fp, FpOk X pins H b) → tn i s.heap → J.go i H →
    wpAny (model P w) X.A (pyNext (.ref it)) (fun r s1 => ∃ u, r = some u ∧
      wpAny (model P w) X.A (letOwnedTupleGo tg (.ref it) u) (fun _ s2 => ∃ x H', Inv X pins σ H' s2 ∧ RelV x u ∧ J.yld i H x H' ∧ tn (i + 1) s2.heap ∧ ∀ b ∈ fp, H' b = none) E s1) E s
  done : ∀ (X : Cx), X.prog = P → X.w = w → X.K = K → X.calm = true → ∀ (i : Nat) (pins : List (Addr × Obj)) (s : Shared) (σ : St) (H : Hp) (E : Value → Shared → Prop), Inv X pins σ H s → (∀ b ∈ fp, FpOk X pins H b) → tn i s.heap → J.stop i H →
    wpAny (model P w) X.A (pyNext (.ref it)) (fun r s1 => r = none ∧ Inv X pins σ H s1) E s
  self : ∀ (A : Around) (i : Nat) (s : Shared) (Q : Value → Shared → Prop) (E : Value → Shared → Prop), tn i s.heap → Q (.ref it) s → wpAny (model P w) A (pyIter (.ref it)) Q E s
abbrev TI := St → Hp → (It → Hp → Prop) → Prop
/-- an iterator has come -/
def PIE (X : Cx) (pins : List (Addr × Obj)) (σ : St) (tg : Expr) (R : It → Hp → Prop) (itv : Value) (s2 : Shared) : Prop :=
  ∃ (it : Addr) (fp : List Addr) (tn : Nat → Heap → Prop) (J : It) (H' : Hp), itv = .ref it ∧ Inv X pins σ H' s2 ∧ Turn X.prog X.w X.K tg J fp it tn ∧ tn 0 s2.heap ∧ (∀ b ∈ fp, FpOk X pins H' b) ∧ R J H'
def PI (X : Cx) (tg iter : Expr) (wi : TI) : Prop :=
  ∀ (pins : List (Addr × Obj)) (s : Shared) (σ : St) (H : Hp) (R : It → Hp → Prop), Inv X pins σ H s → wi σ H R →
    wpAny (model X.prog X.w) X.A (eval iter X.env) (fun v s1 => wpAny (model X.prog X.w) X.A (pyIter v) (PIE X pins σ tg R) X.xe s1) X.xe s

/-- the step ahead of the store is nothing for an iterator that keeps no tuple -/
theorem go_of {M : Model} {A : Around} {E : Value → Shared → Prop} {s : Shared} {tg : Expr} {it : Addr} {u : Value} {o : Obj} {n : String} {vs : Array Value} {Q : Unit → Shared → Prop} (ho : s.heap.get? it = some o) (hc : o.cls = .type n) (hd : o.data = .fields vs)
    (hn : ["enumerate", "zip", "dict_itemiterator", "dict_reverseitemiterator", "odict_iterator", "itertools.zip_longest", "itertools.pairwise"].contains n = false) (hQ : Q () s) : wpAny M A (letOwnedTupleGo tg (.ref it) u) Q E s := by
  unfold letOwnedTupleGo
  cases tg <;> first
    | exact wpAny_pure hQ
    | (cases u <;> first
        | exact wpAny_pure hQ
        | (refine wpAny_bind (wpAny_load ho ?_)
           rw [hc, hd]
           show wpAny M A (if (["enumerate", "zip", "dict_itemiterator", "dict_reverseitemiterator", "odict_iterator", "itertools.zip_longest", "itertools.pairwise"].contains n && vs[0]? == some (rawInt _)) = true then _ else _) Q E s
           rw [if_neg (by intro h; rw [hn, Bool.false_and] at h; cases h)]
           exact wpAny_pure hQ))

/-- the list at a, as it stands at each turn (a loop may append to it) -/
def Itl (K : PySem.W.Frag) (a : Addr) : It :=
  ⟨fun i H => ∃ xs x, SqL K H a xs ∧ xs[i]? = some x, fun i H x H' => H' = H ∧ ∀ xs, SqL K H a xs → xs[i]? = some x, fun i H => ∃ xs, SqL K H a xs ∧ xs.length ≤ i⟩
def Itt (K : PySem.W.Frag) (a : Addr) : It :=
  ⟨fun i H => ∃ xs x, SqT K H a xs ∧ xs[i]? = some x, fun i H x H' => H' = H ∧ ∀ xs, SqT K H a xs → xs[i]? = some x, fun i H => ∃ xs, SqT K H a xs ∧ xs.length ≤ i⟩
/-- lo, lo + 1, .. (n of them) -/
def Itr (lo : Int) (n : Nat) : It := ⟨fun i _ => i < n, fun i H x H' => H' = H ∧ x = .int (lo + i), fun i _ => n ≤ i⟩
theorem turn_list {P : Program} {w : World} {K : PySem.W.Frag} {tg : Expr} (a it : Addr) : Turn P w K tg (Itl K a) [it] it (fun i h => h.IsListIter it a i) where
  mem := by simp
  obj := fun i h st b hb => by
    have e : b = it := by simpa using hb
    subst e
    obtain ⟨o, e, c, d⟩ := st
    exact ⟨o, e, fun v z => by rw [d] at z; cases z⟩
  keep := fun i h h' st k => st.at fun o e => k it (by simp) o e
  item := by
    intro X hP hw hK hc i pins s σ H E I hf st hg
    subst hP hw hK
    obtain ⟨xs, x, hq, hx⟩ := hg
    obtain ⟨its, rv, p, hz⟩ := I.list hq
    obtain ⟨u, hu, ru⟩ := rv.get hx
    obtain ⟨f0, f1, f2, f3, f4, f5⟩ := hf it (by simp)
    refine wpAny_pyNext_list_item st p.isList (x := u) (by simpa using hu) fun h' st' sb => ?_
    have I1 : Inv X pins σ H { s with heap := h' } := I.turned (t' := s.toks) (fun b o hb e => (sb.2 b hb).trans e) f0 f1 f3 f4 f5
    obtain ⟨o, e, c, d⟩ := id st'
    exact ⟨u, rfl, go_of (s := { s with heap := h' }) e c d (by decide) ⟨x, H, I1, ru, ⟨rfl, fun ys hy => by rw [I.list_inj hy hq]; exact hx⟩, st', fun b hb => (hf b hb).1⟩⟩
  done := by
    intro X hP hw hK hc i pins s σ H E I hf st hg
    subst hP hw hK
    obtain ⟨xs, hq, hx⟩ := hg
    obtain ⟨its, rv, p, hz⟩ := I.list hq
    obtain ⟨f0, f1, f2, f3, f4, f5⟩ := hf it (by simp)
    have hl := rv.length
    exact wpAny_pyNext_list_end (I.ok.hd hc) st p.isList (by simp; omega) fun h' eb => ⟨rfl, I.turned (t' := s.toks) (fun b o hb e => eb b o hb e) f0 f1 f3 f4 f5⟩
  self := fun _ _ _ _ _ st h => wpAny_pyIter_listiter st h
theorem turn_tuple {P : Program} {w : World} {K : PySem.W.Frag} {tg : Expr} (a it : Addr) : Turn P w K tg (Itt K a) [it] it (fun i h => h.IsTupleIter it a i) where
  mem := by simp
  obj := fun i h st b hb => by
    have e : b = it := by simpa using hb
    subst e
    obtain ⟨o, e, c, d⟩ := st
    exact ⟨o, e, fun v z => by rw [d] at z; cases z⟩
  keep := fun i h h' st k => st.at fun o e => k it (by simp) o e
  item := by
    intro X hP hw hK hc i pins s σ H E I hf st hg
    subst hP hw hK
    obtain ⟨xs, x, hq, hx⟩ := hg
    obtain ⟨its, rv, p, hz⟩ := I.tuple hq
    obtain ⟨u, hu, ru⟩ := rv.get hx
    obtain ⟨f0, f1, f2, f3, f4, f5⟩ := hf it (by simp)
    refine wpAny_pyNext_tuple_item st (show s.heap.IsTuple a its.toArray from p) (x := u) (by simpa using hu) fun h' st' sb => ?_
    have I1 : Inv X pins σ H { s with heap := h' } := I.turned (t' := s.toks) (fun b o hb e => (sb.2 b hb).trans e) f0 f1 f3 f4 f5
    obtain ⟨o, e, c, d⟩ := id st'
    exact ⟨u, rfl, go_of (s := { s with heap := h' }) e c d (by decide) ⟨x, H, I1, ru, ⟨rfl, fun ys hy => by rw [I.tuple_inj hy hq]; exact hx⟩, st', fun b hb => (hf b hb).1⟩⟩
  done := by
    intro X hP hw hK hc i pins s σ H E I hf st hg
    subst hP hw hK
    obtain ⟨xs, hq, hx⟩ := hg
    obtain ⟨its, rv, p, hz⟩ := I.tuple hq
    obtain ⟨f0, f1, f2, f3, f4, f5⟩ := hf it (by simp)
    have hl := rv.length
    exact wpAny_pyNext_tuple_end (I.ok.hd hc) st (show s.heap.IsTuple a its.toArray from p) (by simp; omega) fun h' eb => ⟨rfl, I.turned (t' := s.toks) (fun b o hb e => eb b o hb e) f0 f1 f3 f4 f5⟩
  self := fun _ _ _ _ _ st h => wpAny_pyIter_tupleiter st h
theorem turn_range {P : Program} {w : World} {K : PySem.W.Frag} {tg : Expr} (it : Addr) (lo : Int) (n : Nat) : Turn P w K tg (Itr lo n) [it] it (fun i h => IsRangeIter h it (lo + (i : Nat) * 1) ((n : Int) - (i : Nat)) 1) where
  mem := by simp
  obj := fun i h st b hb => by
    have e : b = it := by simpa using hb
    subst e
    exact ⟨_, st, fun v z => by
      have z' : Data.fields _ = Data.cell v := z
      cases z'⟩
  keep := fun i h h' st k => k it (by simp) _ st
  item := by
    intro X hP hw hK hc i pins s σ H E I hf st hg
    subst hP hw hK
    obtain ⟨f0, f1, f2, f3, f4, f5⟩ := hf it (by simp)
    have W := Walks.range (prog := X.prog) (w := X.w) (I.ok.hd hc) it lo 1 n
    refine W.item i s _ _ hg st fun v h' tk hv st' kk => ?_
    obtain ⟨t, rfl⟩ := hv
    have I1 : Inv X pins σ H { s with heap := h', toks := tk } := I.turned (fun b o hb e => kk b o (by simpa using hb) e) f0 f1 f3 f4 f5
    refine ⟨_, rfl, go_of (s := { s with heap := h', toks := tk }) (n := "range_iterator") st' rfl rfl (by decide) ⟨.int (lo + i), H, I1, ⟨t, ?_⟩, ⟨rfl, rfl⟩, st', fun b hb => (hf b hb).1⟩⟩
    rw [Int.mul_one]
  done := by
    intro X hP hw hK hc i pins s σ H E I hf st hg
    subst hP hw hK
    obtain ⟨f0, f1, f2, f3, f4, f5⟩ := hf it (by simp)
    exact wpAny_pyNext_range_end (I.ok.hd hc) st (by have : n ≤ i := hg; omega) fun h' eb => ⟨rfl, I.turned (t' := s.toks) (fun b o hb e => eb b o hb e) f0 f1 f3 f4 f5⟩
  self := fun _ _ _ _ _ st h => wpAny_pyIter_rangeiter st h
end L2

namespace L2
open PySem PySem.Spec PyProof.Rows
section
variable {X : Cx} {tg : Expr}
def iList (K : PySem.W.Frag) (tl : TE) : TI := fun σ H R => tl σ H fun x H1 => ∃ a, x = .ref a ∧ (∃ xs, SqL K H1 a xs) ∧ R (Itl K a) H1
def iTup (K : PySem.W.Frag) (tl : TE) : TI := fun σ H R => tl σ H fun x H1 => ∃ a, x = .ref a ∧ (∃ xs, SqT K H1 a xs) ∧ R (Itt K a) H1
theorem pi_list {l : Expr} {tl : TE} (hl : PE X l tl) : PI X tg l (iList X.K tl) := by
  intro pins s σ H R I h
  refine thn (hl pins s σ H _ I h) fun v s1 ⟨x, H1, I1, r1, q1⟩ => ?_
  obtain ⟨a, e, ⟨xs, hq⟩, q⟩ := q1
  subst e
  cases r1
  obtain ⟨its, rv, p, hz⟩ := I1.list hq
  refine wpAny_pyIter_list p.isList ?_
  refine ⟨s1.heap.objs.size, [s1.heap.objs.size], _, _, H1, rfl, I1.kept (t' := s1.toks) fun b o e => Heap.get?_push_of_some _ e, turn_list a _, ⟨_, Heap.get?_push_size _ rfl, rfl, rfl⟩, fun b hb => ?_, q⟩
  have e : b = s1.heap.objs.size := by simpa using hb
  subst e
  exact I1.fpOk (Nat.le_refl _) (I1.hok.fresh (Nat.le_refl _))
theorem pi_tup {l : Expr} {tl : TE} (hl : PE X l tl) : PI X tg l (iTup X.K tl) := by
  intro pins s σ H R I h
  refine thn (hl pins s σ H _ I h) fun v s1 ⟨x, H1, I1, r1, q1⟩ => ?_
  obtain ⟨a, e, ⟨xs, hq⟩, q⟩ := q1
  subst e
  cases r1
  obtain ⟨its, rv, p, hz⟩ := I1.tuple hq
  refine wpAny_pyIter_tuple (show s1.heap.IsTuple a its.toArray from p) ?_
  refine ⟨s1.heap.objs.size, [s1.heap.objs.size], _, _, H1, rfl, I1.kept (t' := s1.toks) fun b o e => Heap.get?_push_of_some _ e, turn_tuple a _, ⟨_, Heap.get?_push_size _ rfl, rfl, rfl⟩, fun b hb => ?_, q⟩
  have e : b = s1.heap.objs.size := by simpa using hb
  subst e
  exact I1.fpOk (Nat.le_refl _) (I1.hok.fresh (Nat.le_refl _))
/-- a range object just made, walked -/
theorem range_it {pins : List (Addr × Obj)} {σ : St} {H : Hp} {s : Shared} {R : It → Hp → Prop} {E : Value → Shared → Prop} {lo hi : Int} {t u v : Tok} {tk : Nat} (I : Inv X pins σ H s) (h1 : -(2 ^ 62) ≤ lo) (h2 : lo < 2 ^ 62) (h3 : -(2 ^ 62) ≤ hi) (h4 : hi < 2 ^ 62)
    (q : R (Itr lo (hi - lo).toNat) H) : wpAny (model X.prog X.w) X.A (pyIter (.ref s.heap.objs.size)) (PIE X pins σ tg R) E { s with heap := s.heap.push { cls := .type "range", data := .fields #[.int lo t, .int hi u, .int 1 v] }, toks := tk } := by
  refine wpAny_pyIter_range (IsRange.new ..) (small_one h1 h2 h3 h4) ?_
  have I1 : Inv X pins σ H { s with heap := s.heap.push { cls := .type "range", data := .fields #[.int lo t, .int hi u, .int 1 v] }, toks := tk } := I.kept fun b o e => Heap.get?_push_of_some _ e
  refine ⟨(s.heap.push { cls := .type "range", data := .fields #[.int lo t, .int hi u, .int 1 v] }).objs.size, [(s.heap.push { cls := .type "range", data := .fields #[.int lo t, .int hi u, .int 1 v] }).objs.size], _, _, H, rfl,
    I1.kept (t' := tk) fun b o e => Heap.get?_push_of_some _ e, turn_range _ lo (hi - lo).toNat, ?_, fun b hb => ?_, q⟩
  · have e1 : lo + ((0 : Nat) : Int) * 1 = lo := by simp
    have e2 : (((hi - lo).toNat : Nat) : Int) - ((0 : Nat) : Int) = Builtin.Range.rangeSize lo hi 1 := by rw [rangeSize_one]; split <;> omega
    show IsRangeIter _ _ (lo + ((0 : Nat) : Int) * 1) ((((hi - lo).toNat : Nat) : Int) - ((0 : Nat) : Int)) 1
    rw [e1, e2]
    exact Heap.get?_push_size _ rfl
  · have e : b = (s.heap.push { cls := .type "range", data := .fields #[.int lo t, .int hi u, .int 1 v] }).objs.size := by simpa using hb
    subst e
    exact I1.fpOk (Nat.le_refl _) (I1.hok.fresh (Nat.le_refl _))
def iRng1 (ta : TA) : TI := fun σ H R => ta σ H fun vs H1 => ∃ j : Int, vs = [.int j] ∧ -(2 ^ 62) ≤ j ∧ j < 2 ^ 62 ∧ R (Itr 0 j.toNat) H1
def iRng2 (ta : TA) : TI := fun σ H R => ta σ H fun vs H1 => ∃ i j : Int, vs = [.int i, .int j] ∧ (-(2 ^ 62) ≤ i ∧ i < 2 ^ 62 ∧ -(2 ^ 62) ≤ j ∧ j < 2 ^ 62) ∧ R (Itr i (j - i).toNat) H1
theorem pi_range1 {a : Expr} {ta : TA} {p pos : Pos} (hg : Gl X "range") (hm : X.mg "range" = none) (ha : PA X [a] ta) (hs : starEach [a] X.env = [(false, eval a X.env)] := by rfl) : PI X tg (.Call (.Name "range" p) [a] [] pos) (iRng1 ta) := by
  intro pins s σ H R I h
  refine Call_ (ld_blt I hg hm boot_range (PyProof.Rows.callWith_type1 (thn (ha pos pins s σ H _ I h) fun us s1 ⟨vs, H1, I1, r1, q1⟩ => ?_) hs rfl))
  obtain ⟨j, e, q1, q2, q⟩ := q1
  subst e
  cases r1 with
  | cons r rr =>
    cases rr
    obtain ⟨t, rfl⟩ := r
    exact call_range_1 (range_it I1 (by omega) (by omega) q1 q2 (by simpa using q))
/-! ### for -/
/-- W: the invariant by the turn and a measure; N: what the body is to reach -/
def tFor (wi : TI) (g : TG) (tb : TS) : TS := fun D σ H => wi σ H fun J H1 => ∃ W : Nat → Nat → St → Hp → Prop, (∃ m, W 0 m σ H1) ∧ ∀ i m σ H, W i m σ H →
  (J.stop i H ∧ D.nx σ H) ∨ (J.go i H ∧ ∃ N : St → Hp → Prop, (∀ σ' H', N σ' H' → ∃ m', m' < m ∧ W (i + 1) m' σ' H') ∧ ∀ x H', J.yld i H x H' → g x σ H' fun σ2 H2 => tb { D with nx := N, ct := N, bk := D.nx } σ2 H2)
/-- the records at fp as they stand -/
def pinsAt (fp : List Addr) (h : Heap) : List (Addr × Obj) := fp.filterMap fun b => (h.get? b).map fun o => (b, o)
theorem mem_pinsAt {fp : List Addr} {h : Heap} {b : Addr} {o : Obj} (hb : b ∈ fp) (e : h.get? b = some o) : (b, o) ∈ pinsAt fp h := List.mem_filterMap.mpr ⟨b, hb, by rw [e]; rfl⟩
theorem of_pinsAt {fp : List Addr} {h : Heap} {p : Addr × Obj} (hp : p ∈ pinsAt fp h) : p.1 ∈ fp ∧ h.get? p.1 = some p.2 := by
  obtain ⟨b, hb, e⟩ := List.mem_filterMap.mp hp
  cases q : h.get? b with
  | none => rw [q] at e; cases e
  | some o =>
    rw [q] at e
    have e' : (b, o) = p := Option.some.inj e
    subst e'
    exact ⟨hb, q⟩
theorem Inv.pinned {pins : List (Addr × Obj)} {σ : St} {H : Hp} {s : Shared} {fp : List Addr} (I : Inv X pins σ H s) (hf : ∀ b ∈ fp, FpOk X pins H b) (ho : ∀ b ∈ fp, ∃ o, s.heap.get? b = some o ∧ ∀ v, o.data ≠ .cell v) : Inv X (pins ++ pinsAt fp s.heap) σ H s :=
  I.pins_of fun p hp => (List.mem_append.mp hp).elim (fun z => I.pin p (List.mem_append_right _ z)) fun z => by
    obtain ⟨hb, e⟩ := of_pinsAt z
    obtain ⟨f0, f1, f2, _⟩ := hf p.1 hb
    obtain ⟨o, e', d⟩ := ho p.1 hb
    rw [e] at e'; cases e'
    exact ⟨e, f0, f1, f2, d⟩
theorem Inv.unpinned {pins pl : List (Addr × Obj)} {σ : St} {H : Hp} {s : Shared} (I : Inv X (pins ++ pl) σ H s) : Inv X pins σ H s := I.pins_of fun p hp => I.pin p (List.mem_append_right _ (List.mem_append_left _ hp))
theorem ps_for {iter : Expr} {body : List Stmt} {wi : TI} {g : TG} {tb : TS} {pos : Pos} (hp : PassesOwn (model X.prog X.w) X.A X.env X.xe) (hc : X.calm = true) (hi : PI X tg iter wi) (hg : PG X tg g) (hb : PSs X body tb)
    (hs : ∀ x, foldedSetIterable iter X.env x = pure x := by intro _; rfl) : PS X (.For tg iter body [] pos) (tFor wi g tb) := by
  intro pins s σ H D I h
  refine wpAny_For (thn (hi pins s σ H _ I h) fun v s1 h1 => thn h1 fun itv s2 h2 => ?_) hs
  obtain ⟨it, fp, tn, J, H2, e, I2, T, st2, f2, W, ⟨m0, w0⟩, turn⟩ := h2
  subst e
  -- what stays true of the iterator's objects through the loop
  have stat : ∀ {H' : Hp}, (∀ b ∈ fp, H' b = none) → ∀ b ∈ fp, FpOk X pins H' b := fun hn b hb => ⟨hn b hb, (f2 b hb).2⟩
  refine codeAny_forLoop_any (fun n s' => ∃ i σ' H', Inv X pins σ' H' s' ∧ tn i s'.heap ∧ (∀ b ∈ fp, H' b = none) ∧ W i n σ' H') ?_ m0 ⟨0, σ, H2, I2, st2, fun b hb => (f2 b hb).1, w0⟩
  rintro n s3 ⟨i, σ3, H3, I3, st3, fr3, w3⟩
  rcases turn i n σ3 H3 w3 with ⟨stop, qn⟩ | ⟨go, N, hN, step⟩
  · refine wpAny_passesOwn hp (thn (T.done X rfl rfl rfl hc i pins s3 σ3 H3 X.xe I3 (stat fr3) st3 stop) fun r s4 ⟨hr, I4⟩ => ?_)
    subst hr
    exact wpAny_execs_nil ⟨σ3, H3, I4, qn⟩
  · refine wpAny_passesOwn hp (thn (T.item X rfl rfl rfl hc i pins s3 σ3 H3 X.xe I3 (stat fr3) st3 go) fun r s4 ⟨u, hr, h4⟩ => ?_)
    subst hr
    refine wpAny_passesOwn hp (thn h4 fun _ s5 ⟨x, H5, I5, r5, y5, st5, fr5⟩ => ?_)
    have I5' := I5.pinned (stat fr5) (T.obj _ _ st5)
    refine wpAny_passesOwn hp (thn (hg _ s5 σ3 H5 x u _ I5' r5 (step x H5 y5)) fun _ s6 ⟨σ6, H6, I6, q6⟩ => ?_)
    refine wpAny_passesOwn hp (thn (hb _ s6 σ6 H6 _ I6 q6) fun f s7 q7 => ?_)
    have again : ∀ {σ7 : St} {H7 : Hp}, Inv X (pins ++ pinsAt fp s5.heap) σ7 H7 s7 → N σ7 H7 → ∃ m, m < n ∧ ∃ i σ' H', Inv X pins σ' H' s7 ∧ tn i s7.heap ∧ (∀ b ∈ fp, H' b = none) ∧ W i m σ' H' := fun {σ7 H7} I7 n7 => by
      obtain ⟨m', hm, w7⟩ := hN σ7 H7 n7
      refine ⟨m', hm, i + 1, σ7, H7, I7.unpinned, T.keep _ _ _ st5 fun b hb o e => (I7.pin (b, o) (List.mem_append_right _ (List.mem_append_right _ (mem_pinsAt hb e)))).1, fun b hb => ?_, w7⟩
      obtain ⟨o, e, d⟩ := T.obj _ _ st5 b hb
      exact (I7.pin (b, o) (List.mem_append_right _ (List.mem_append_right _ (mem_pinsAt hb e)))).2.1
    cases f with
    | next => obtain ⟨σ7, H7, I7, n7⟩ := q7; exact again I7 n7
    | cont => obtain ⟨σ7, H7, I7, n7⟩ := q7; exact again I7 n7
    | brk => obtain ⟨σ7, H7, I7, q7⟩ := q7; exact ⟨σ7, H7, I7.unpinned, q7⟩
    | ret v => obtain ⟨x7, σ7, H7, I7, r7, q7⟩ := q7; exact ⟨x7, σ7, H7, I7.unpinned, r7, q7⟩
end

/-! ### the forms one uses -/
/-- over a list that the body leaves as it is -/
theorem for_list {K : PySem.W.Frag} {a : Addr} {xs : List V} {g : TG} {tb : TS} {D : Ends} {σ : St} {H : Hp} (Pv : Nat → St → Hp → Prop) (h0 : Pv 0 σ H) (hl : ∀ i σ H, i ≤ xs.length → Pv i σ H → SqL K H a xs)
    (hs : ∀ i x σ H, xs[i]? = some x → Pv i σ H → g x σ H fun σ2 H2 => tb { D with nx := Pv (i + 1), ct := Pv (i + 1), bk := D.nx } σ2 H2) (hd : ∀ σ H, Pv xs.length σ H → D.nx σ H) :
    ∃ W : Nat → Nat → St → Hp → Prop, (∃ m, W 0 m σ H) ∧ ∀ i m σ H, W i m σ H →
      ((Itl K a).stop i H ∧ D.nx σ H) ∨ ((Itl K a).go i H ∧ ∃ N : St → Hp → Prop, (∀ σ' H', N σ' H' → ∃ m', m' < m ∧ W (i + 1) m' σ' H') ∧ ∀ x H', (Itl K a).yld i H x H' → g x σ H' fun σ2 H2 => tb { D with nx := N, ct := N, bk := D.nx } σ2 H2) := by
  refine ⟨fun i m σ H => m = xs.length - i ∧ i ≤ xs.length ∧ Pv i σ H, ⟨xs.length, by simp, Nat.zero_le _, h0⟩, ?_⟩
  rintro i m σ H ⟨rfl, hi, p⟩
  have q := hl i σ H hi p
  by_cases hlt : i < xs.length
  · refine .inr ⟨⟨xs, xs[i], q, by simp [hlt]⟩, Pv (i + 1), fun σ' H' p' => ⟨xs.length - (i + 1), by omega, rfl, hlt, p'⟩, fun x H' y => ?_⟩
    obtain ⟨e, y⟩ := y
    subst e
    exact hs i x σ _ (y xs q) p
  · have e : i = xs.length := by omega
    subst e
    exact .inl ⟨⟨xs, q, Nat.le_refl _⟩, hd σ H p⟩
theorem for_range {lo : Int} {n : Nat} {g : TG} {tb : TS} {D : Ends} {σ : St} {H : Hp} (Pv : Nat → St → Hp → Prop) (h0 : Pv 0 σ H)
    (hs : ∀ i σ H, i < n → Pv i σ H → g (.int (lo + i)) σ H fun σ2 H2 => tb { D with nx := Pv (i + 1), ct := Pv (i + 1), bk := D.nx } σ2 H2) (hd : ∀ σ H, Pv n σ H → D.nx σ H) :
    ∃ W : Nat → Nat → St → Hp → Prop, (∃ m, W 0 m σ H) ∧ ∀ i m σ H, W i m σ H →
      ((Itr lo n).stop i H ∧ D.nx σ H) ∨ ((Itr lo n).go i H ∧ ∃ N : St → Hp → Prop, (∀ σ' H', N σ' H' → ∃ m', m' < m ∧ W (i + 1) m' σ' H') ∧ ∀ x H', (Itr lo n).yld i H x H' → g x σ H' fun σ2 H2 => tb { D with nx := N, ct := N, bk := D.nx } σ2 H2) := by
  refine ⟨fun i m σ H => m = n - i ∧ i ≤ n ∧ Pv i σ H, ⟨n, by simp, Nat.zero_le _, h0⟩, ?_⟩
  rintro i m σ H ⟨rfl, hi, p⟩
  by_cases hlt : i < n
  · refine .inr ⟨hlt, Pv (i + 1), fun σ' H' p' => ⟨n - (i + 1), by omega, rfl, hlt, p'⟩, fun x H' y => ?_⟩
    obtain ⟨e, y⟩ := y
    subst e y
    exact hs i σ _ hlt p
  · have e : i = n := by omega
    subst e
    exact .inl ⟨Nat.le_refl _, hd σ H p⟩
end L2

namespace L2
open PySem PySem.Spec PyProof.Rows

abbrev R2 := V → V → Hp → VK → Prop
/-- a two-place operation on values: f is binaryOp op, inplaceOp op or compareOp op -/
def OpR (X : Cx) (f : Value → Value → Sem Value) (r : R2) : Prop :=
  ∀ (pins : List (Addr × Obj)) (s : Shared) (σ : St) (H : Hp) (x y : V) (v u : Value) (Q : VK), Inv X pins σ H s → RelV x v → RelV y u → r x y H Q →
    wpAny (model X.prog X.w) X.A (f v u) (EP X pins σ Q) X.xe s
/-- a one-place operation -/
def UnR (X : Cx) (f : Value → Sem Value) (r : V → Hp → VK → Prop) : Prop :=
  ∀ (pins : List (Addr × Obj)) (s : Shared) (σ : St) (H : Hp) (x : V) (v : Value) (Q : VK), Inv X pins σ H s → RelV x v → r x H Q →
    wpAny (model X.prog X.w) X.A (f v) (EP X pins σ Q) X.xe s
/-- a call of a value that is known (a builtin, a type) with values -/
def CallR (X : Cx) (f : Value) (r : List V → Hp → VK → Prop) : Prop :=
  ∀ (pins : List (Addr × Obj)) (s : Shared) (σ : St) (H : Hp) (xs : List V) (us : List Value) (Q : VK), Inv X pins σ H s → Vals xs us → r xs H Q →
    wpAny (model X.prog X.w) X.A (call f us) (EP X pins σ Q) X.xe s
/-- a value's truth -/
def TruR (X : Cx) (r : V → Hp → (Bool → Hp → Prop) → Prop) : Prop :=
  ∀ (pins : List (Addr × Obj)) (s : Shared) (σ : St) (H : Hp) (x : V) (v : Value) (Q : Bool → Hp → Prop), Inv X pins σ H s → RelV x v → r x H Q →
    wpAny (model X.prog X.w) X.A (truthy v) (TP X pins σ Q) X.xe s

def tOp (r : R2) (ta tb : TE) : TE := fun σ H Q => ta σ H fun x H1 => tb σ H1 fun y H2 => r x y H2 Q
def tUn (r : V → Hp → VK → Prop) (ta : TE) : TE := fun σ H Q => ta σ H fun x H1 => r x H1 Q
/-- ints in, under C, and a value out -/
def rI (C : Int → Int → Prop) (g : Int → Int → V) : R2 := fun x y H Q => ∃ i j, x = .int i ∧ y = .int j ∧ C i j ∧ Q (g i j) H
def rI0 (g : Int → Int → V) : R2 := fun x y H Q => ∃ i j, x = .int i ∧ y = .int j ∧ Q (g i j) H
def rU (g : Int → V) : V → Hp → VK → Prop := fun x H Q => ∃ i, x = .int i ∧ Q (g i) H

section
variable {X : Cx} {a b c : Expr} {ta tb tc : TE} {pos : Pos}

theorem binT (ha : PE X a ta) (hb : PE X b tb) {pins : List (Addr × Obj)} {s : Shared} {σ : St} {H : Hp} {R : V → V → Hp → Prop} (I : Inv X pins σ H s)
    (h : ta σ H fun x H1 => tb σ H1 fun y H2 => R x y H2) {Q : Value → Shared → Prop} {f : Value → Value → Sem Value}
    (hf : ∀ v u s2 x y H2, Inv X pins σ H2 s2 → RelV x v → RelV y u → R x y H2 → wpAny (model X.prog X.w) X.A (f v u) Q X.xe s2) :
    wpAny (model X.prog X.w) X.A (eval a X.env) (fun v s₁ => wpAny (model X.prog X.w) X.A (eval b X.env) (fun u s₂ => wpAny (model X.prog X.w) X.A (f v u) Q X.xe s₂) X.xe s₁) X.xe s := by
  refine thn (ha pins s σ H _ I h) fun v s1 ⟨x, H1, I1, r1, q1⟩ => ?_
  refine thn (hb pins s1 σ H1 _ I1 q1) fun u s2 ⟨y, H2, I2, r2, q2⟩ => ?_
  exact hf v u s2 x y H2 I2 r1 r2 q2

theorem pe_op {op : Operator} {r : R2} (ho : OpR X (binaryOp op) r) (ha : PE X a ta) (hb : PE X b tb) : PE X (.BinOp a op b pos) (tOp r ta tb) := by
  intro pins s σ H Q I h
  exact wpAny_BinOp (binT ha hb I h fun v u s2 x y H2 I2 rx ry q => ho pins s2 σ H2 x y v u Q I2 rx ry q)
theorem pe_un {op : UnaryOp} {r : V → Hp → VK → Prop} (ho : UnR X (unaryOp op) r) (ha : PE X a ta) : PE X (.UnaryOp op a pos) (tUn r ta) := by
  intro pins s σ H Q I h
  exact UnaryOp_ (thn (ha pins s σ H _ I h) fun v s1 ⟨x, H1, I1, r1, q1⟩ => ho pins s1 σ H1 x v Q I1 r1 q1)
/-! ### ints -/
theorem opI {f : Value → Value → Sem Value} {C : Int → Int → Prop} {g : Int → Int → Int}
    (rule : ∀ (i j : Int) (t u : Tok) (s : Shared) (Q : Value → Shared → Prop) (E : Value → Shared → Prop), C i j → Q (.int (g i j) s.toks) { s with toks := s.toks + 1 } → wpAny (model X.prog X.w) X.A (f (.int i t) (.int j u)) Q E s) :
    OpR X f (rI C fun i j => .int (g i j)) := by
  intro pins s σ H x y v u Q I rx ry h
  obtain ⟨i, j, rfl, rfl, hc, q⟩ := h
  obtain ⟨t, rfl⟩ := rx
  obtain ⟨t', rfl⟩ := ry
  exact rule i j t t' s _ _ hc ⟨.int (g i j), H, I.tok _, ⟨_, rfl⟩, q⟩
theorem opI0 {f : Value → Value → Sem Value} {g : Int → Int → Int}
    (rule : ∀ (i j : Int) (t u : Tok) (s : Shared) (Q : Value → Shared → Prop) (E : Value → Shared → Prop), Q (.int (g i j) s.toks) { s with toks := s.toks + 1 } → wpAny (model X.prog X.w) X.A (f (.int i t) (.int j u)) Q E s) :
    OpR X f (rI0 fun i j => .int (g i j)) := by
  intro pins s σ H x y v u Q I rx ry h
  obtain ⟨i, j, rfl, rfl, q⟩ := h
  obtain ⟨t, rfl⟩ := rx
  obtain ⟨t', rfl⟩ := ry
  exact rule i j t t' s _ _ ⟨.int (g i j), H, I.tok _, ⟨_, rfl⟩, q⟩
theorem opB0 {f : Value → Value → Sem Value} {g : Int → Int → Bool}
    (rule : ∀ (i j : Int) (t u : Tok) (s : Shared) (Q : Value → Shared → Prop) (E : Value → Shared → Prop), Q (.bool (g i j)) s → wpAny (model X.prog X.w) X.A (f (.int i t) (.int j u)) Q E s) :
    OpR X f (rI0 fun i j => .bl (g i j)) := by
  intro pins s σ H x y v u Q I rx ry h
  obtain ⟨i, j, rfl, rfl, q⟩ := h
  obtain ⟨t, rfl⟩ := rx
  obtain ⟨t', rfl⟩ := ry
  exact rule i j t t' s _ _ ⟨.bl (g i j), H, I, rfl, q⟩

def CDiv (i j : Int) : Prop := 0 < j ∧ j < 1073741824
def CDivN (i j : Int) : Prop := j ≠ 0 ∧ j.natAbs < 1073741824
def CPow (i j : Int) : Prop := 0 ≤ j ∧ j ≤ 1000000 ∧ i.natAbs < 2 ^ 64
def CMul (i j : Int) : Prop := (-(2 ^ 64) < i ∧ i < 2 ^ 64) ∨ (-(2 ^ 64) < j ∧ j < 2 ^ 64)
theorem CMul.ok {i j : Int} (h : CMul i j) : IntMulOk i j := by
  rcases h with ⟨h1, h2⟩ | ⟨h1, h2⟩
  · exact .of_left (intBits_le_64 h1 h2)
  · exact .of_right (intBits_le_64 h1 h2)
theorem op_add : OpR X (binaryOp .Add) (rI0 fun i j => .int (i + j)) := opI0 fun _ _ _ _ _ _ _ q => add_int q
theorem op_sub : OpR X (binaryOp .Sub) (rI0 fun i j => .int (i - j)) := opI0 fun _ _ _ _ _ _ _ q => sub_int q
theorem op_mul : OpR X (binaryOp .Mult) (rI CMul fun i j => .int (i * j)) := opI fun _ _ _ _ _ _ _ hc q => mul_int q hc.ok
/-- // by a positive divisor -/
theorem op_fdiv : OpR X (binaryOp .FloorDiv) (rI CDiv fun i j => .int (i / j)) := opI fun i j _ _ _ _ _ hc q => by
  have h1 : (0 : Int) < j := hc.1
  have h2 : j < 1073741824 := hc.2
  exact floordiv_int (by omega) (by rw [Int.fdiv_eq_ediv_of_nonneg i (by omega)]; exact q) (.inl (PyProof.noPylong_small (by omega)))
theorem op_fdivN : OpR X (binaryOp .FloorDiv) (rI CDivN fun i j => .int (i.fdiv j)) := opI fun _ _ _ _ _ _ _ hc q => floordiv_int hc.1 q (.inl (PyProof.noPylong_small hc.2))
/-- % by a positive divisor of any size -/
theorem op_mod : OpR X (binaryOp .Mod) (rI (fun _ j => 0 < j) fun i j => .int (i % j)) := opI fun i j _ _ _ _ _ hc q => by
  have h1 : (0 : Int) < j := hc
  exact mod_int' (by omega) (by rw [Int.fmod_eq_emod_of_nonneg i (by omega)]; exact q)
theorem unI {f : Value → Sem Value} {g : Int → Int}
    (rule : ∀ (i : Int) (t : Tok) (s : Shared) (Q : Value → Shared → Prop) (E : Value → Shared → Prop), Q (.int (g i) s.toks) { s with toks := s.toks + 1 } → wpAny (model X.prog X.w) X.A (f (.int i t)) Q E s) :
    UnR X f (rU fun i => .int (g i)) := by
  intro pins s σ H x v Q I rx h
  obtain ⟨i, rfl, q⟩ := h
  obtain ⟨t, rfl⟩ := rx
  exact rule i t s _ _ ⟨.int (g i), H, I.tok _, ⟨_, rfl⟩, q⟩
theorem un_neg : UnR X (unaryOp .USub) (rU fun i => .int (-i)) := unI fun _ _ _ _ _ q => neg_int q
/-! ### bools among ints: n += (a < b) -/
end

/-! ### comparisons -/
/-- the scalars that == tells apart as data does -/
def scal : V → V → Bool
  | .non, .non => true | .non, .int _ => true | .int _, .non => true | .non, .bl _ => true | .bl _, .non => true | .non, .str _ => true | .str _, .non => true
  | .int _, .int _ => true | .bl _, .bl _ => true | .str _, .str _ => true | .byt _, .byt _ => true
  | .int _, .str _ => true | .str _, .int _ => true | .bl _, .str _ => true | .str _, .bl _ => true
  | _, _ => false
def rEq : R2 := fun x y H Q => scal x y = true ∧ Q (.bl (decide (x = y))) H
def rNe : R2 := fun x y H Q => scal x y = true ∧ Q (.bl (!decide (x = y))) H

theorem dec_int {i j : Int} : decide (V.int i = V.int j) = (i == j) := by
  rw [Bool.eq_iff_iff]
  simp
theorem dec_bl {i j : Bool} : decide (V.bl i = V.bl j) = (i == j) := by
  rw [Bool.eq_iff_iff]
  simp
theorem dec_str {i j : Str} : decide (V.str i = V.str j) = (i == j) := by
  rw [Bool.eq_iff_iff]
  simp
theorem dec_byt {i j : Array UInt8} : decide (V.byt i = V.byt j) = (i.toList == j.toList) := by
  rw [Bool.eq_iff_iff]
  cases i
  cases j
  simp

section
variable {X : Cx} {a b c : Expr} {ta tb tc : TE} {pos : Pos}
theorem fin_bl {pins : List (Addr × Obj)} {σ : St} {H : Hp} {s : Shared} {Q : VK} {k k' : Bool} (I : Inv X pins σ H s) (q : Q (.bl k) H) (e : k = k') : EP X pins σ Q (.bool k') s := by
  subst e
  exact ⟨.bl k, H, I, rfl, q⟩
theorem op_eq : OpR X (compareOp .Eq) rEq := by
  intro pins s σ H x y v u Q I rx ry h
  obtain ⟨hs, q⟩ := h
  cases x with
  | non =>
    cases rx
    cases y with
    | non => cases ry; exact PySem.EqNone.eq_none_none (fin_bl I q (by simp))
    | bl j => cases ry; exact PySem.EqNone.eq_none_bool (fin_bl I q (by simp))
    | int j => obtain ⟨t', rfl⟩ := ry; exact PySem.EqNone.eq_none_int (fin_bl I q (by simp))
    | str j => obtain ⟨t', rfl⟩ := ry; exact PySem.EqNone.eq_none_str (fin_bl I q (by simp))
    | _ => exact absurd (show false = true from hs) Bool.false_ne_true
  | bl i =>
    cases rx
    cases y with
    | non => cases ry; exact PySem.EqNone.eq_bool_none (fin_bl I q (by simp))
    | bl j => cases ry; exact eq_bool (fin_bl I q dec_bl)
    | str j => obtain ⟨t', rfl⟩ := ry; exact PySem.EqMixed.eq_bool_str (fin_bl I q (by simp))
    | _ => exact absurd (show false = true from hs) Bool.false_ne_true
  | int i =>
    obtain ⟨t, rfl⟩ := rx
    cases y with
    | non => cases ry; exact PySem.EqNone.eq_int_none (fin_bl I q (by simp))
    | int j => obtain ⟨t', rfl⟩ := ry; exact eq_int (fin_bl I q dec_int)
    | str j => obtain ⟨t', rfl⟩ := ry; exact PySem.EqMixed.eq_int_str (fin_bl I q (by simp))
    | _ => exact absurd (show false = true from hs) Bool.false_ne_true
  | str i =>
    obtain ⟨t, rfl⟩ := rx
    cases y with
    | non => cases ry; exact PySem.EqNone.eq_str_none (fin_bl I q (by simp))
    | bl j => cases ry; exact PySem.EqMixed.eq_str_bool (fin_bl I q (by simp))
    | int j => obtain ⟨t', rfl⟩ := ry; exact PySem.EqMixed.eq_str_int (fin_bl I q (by simp))
    | str j => obtain ⟨t', rfl⟩ := ry; exact eq_str (fin_bl I q dec_str)
    | _ => exact absurd (show false = true from hs) Bool.false_ne_true
  | byt i =>
    obtain ⟨t, rfl⟩ := rx
    cases y with
    | byt j => obtain ⟨t', rfl⟩ := ry; exact PySem.W.eq_bytes (fin_bl I q dec_byt)
    | _ => exact absurd (show false = true from hs) Bool.false_ne_true
  | _ => cases y <;> exact absurd (show false = true from hs) Bool.false_ne_true
theorem op_ne : OpR X (compareOp .NotEq) rNe := by
  intro pins s σ H x y v u Q I rx ry h
  obtain ⟨hs, q⟩ := h
  cases x with
  | non =>
    cases rx
    cases y with
    | non => cases ry; exact PySem.EqNone.ne_none_none (fin_bl I q (by simp))
    | bl j => cases ry; exact PySem.EqNone.ne_none_bool (fin_bl I q (by simp))
    | int j => obtain ⟨t', rfl⟩ := ry; exact PySem.EqNone.ne_none_int (fin_bl I q (by simp))
    | str j => obtain ⟨t', rfl⟩ := ry; exact PySem.EqNone.ne_none_str (fin_bl I q (by simp))
    | _ => exact absurd (show false = true from hs) Bool.false_ne_true
  | bl i =>
    cases rx
    cases y with
    | non => cases ry; exact PySem.EqNone.ne_bool_none (fin_bl I q (by simp))
    | bl j => cases ry; exact ne_bool (fin_bl I q (congrArg not dec_bl))
    | str j => obtain ⟨t', rfl⟩ := ry; exact PySem.EqMixed.ne_bool_str (fin_bl I q (by simp))
    | _ => exact absurd (show false = true from hs) Bool.false_ne_true
  | int i =>
    obtain ⟨t, rfl⟩ := rx
    cases y with
    | non => cases ry; exact PySem.EqNone.ne_int_none (fin_bl I q (by simp))
    | int j => obtain ⟨t', rfl⟩ := ry; exact ne_int (fin_bl I q (congrArg not dec_int))
    | str j => obtain ⟨t', rfl⟩ := ry; exact PySem.EqMixed.ne_int_str (fin_bl I q (by simp))
    | _ => exact absurd (show false = true from hs) Bool.false_ne_true
  | str i =>
    obtain ⟨t, rfl⟩ := rx
    cases y with
    | non => cases ry; exact PySem.EqNone.ne_str_none (fin_bl I q (by simp))
    | bl j => cases ry; exact PySem.EqMixed.ne_str_bool (fin_bl I q (by simp))
    | int j => obtain ⟨t', rfl⟩ := ry; exact PySem.EqMixed.ne_str_int (fin_bl I q (by simp))
    | str j => obtain ⟨t', rfl⟩ := ry; exact ne_str (fin_bl I q (congrArg not dec_str))
    | _ => exact absurd (show false = true from hs) Bool.false_ne_true
  | byt i =>
    obtain ⟨t, rfl⟩ := rx
    cases y with
    | byt j => obtain ⟨t', rfl⟩ := ry; exact PySem.W.ne_bytes (fin_bl I q (congrArg not dec_byt))
    | _ => exact absurd (show false = true from hs) Bool.false_ne_true
  | _ => cases y <;> exact absurd (show false = true from hs) Bool.false_ne_true

theorem op_lt : OpR X (compareOp .Lt) (rI0 fun i j => .bl (decide (i < j))) := opB0 fun _ _ _ _ _ _ _ q => lt_int q
theorem op_le : OpR X (compareOp .LtE) (rI0 fun i j => .bl (decide (i ≤ j))) := opB0 fun _ _ _ _ _ _ _ q => le_int q
theorem op_gt : OpR X (compareOp .Gt) (rI0 fun i j => .bl (decide (j < i))) := opB0 fun _ _ _ _ _ _ _ q => gt_int q
/-- the one string within the other -/
theorem op_in_str : OpR X (compareOp .In) (fun x y H Q => ∃ i j, x = .str i ∧ y = .str j ∧ Q (.bl (!(Builtin.Str.occurrences j i 0 j.length 1).isEmpty)) H) := by
  intro pins s σ H x y v u Q I rx ry h
  obtain ⟨i, j, rfl, rfl, q⟩ := h
  obtain ⟨t, rfl⟩ := rx
  obtain ⟨t', rfl⟩ := ry
  exact in_str (fin_bl I q rfl)

/-- is None, is not None: the right side a value none -/
theorem op_isN : OpR X (compareOp .Is) (fun x y H Q => y = .non ∧ Q (.bl (decide (x = .non))) H) := by
  intro pins s σ H x y v u Q I rx ry h
  obtain ⟨rfl, q⟩ := h
  cases ry
  refine is_none_gen (fin_bl I q ?_)
  cases x <;> first
    | (cases rx; rfl)
    | (obtain ⟨t, rfl⟩ := rx; rfl)
theorem op_notN : OpR X (compareOp .IsNot) (fun x y H Q => y = .non ∧ Q (.bl (!decide (x = .non))) H) := by
  intro pins s σ H x y v u Q I rx ry h
  obtain ⟨rfl, q⟩ := h
  cases ry
  refine isnot_none_gen (fin_bl I q ?_)
  cases x <;> first
    | (cases rx; rfl)
    | (obtain ⟨t, rfl⟩ := rx; rfl)

/-- is, is not of two objects that are tracked lists or instances -/
def isObj : HO → Bool
  | .lst _ => true
  | .ins _ _ _ => true
  | _ => false
/-- two rules for one operation: by cases -/
theorem OpR.or {f : Value → Value → Sem Value} {r r' : R2} (h : OpR X f r) (h' : OpR X f r') : OpR X f (fun x y H Q => r x y H Q ∨ r' x y H Q) := by
  intro pins s σ H x y v u Q I rx ry q
  rcases q with q | q
  · exact h pins s σ H x y v u Q I rx ry q
  · exact h' pins s σ H x y v u Q I rx ry q

theorem nomark (b : Expr) {op : CmpOp} (h : op ≠ .In := by decide) (h2 : op ≠ .NotIn := by decide) : behindInMarks op b = false := by
  have e1 : (op == CmpOp.In) = false := by cases op <;> first | rfl | exact absurd rfl h
  have e2 : (op == CmpOp.NotIn) = false := by cases op <;> first | rfl | exact absurd rfl h2
  cases b <;> simp [behindInMarks, e1, e2]
/-- a comparison as a value; hm: nomark b, or (for in, not in) by with_unfolding_all rfl -/
theorem pe_cmpR {op : CmpOp} {r : R2} (ho : OpR X (compareOp op) r) (ha : PE X a ta) (hb : PE X b tb) (hm : behindInMarks op b = false) : PE X (.Compare a [op] [b] pos) (tOp r ta tb) := by
  intro pins s σ H Q I h
  exact wpAny_Compare1 (binT ha hb I h fun v u s2 x y H2 I2 rx ry q => ho pins s2 σ H2 x y v u Q I2 rx ry q) hm
/-- a reading of a value as a test -/
def tTest (t : TE) : TT := fun σ H Q => t σ H fun x H' => ∃ k, x = .bl k ∧ Q k H'
theorem pt_cmpR {op : CmpOp} {r : R2} (ho : OpR X (compareOp op) r) (ha : PE X a ta) (hb : PE X b tb) (hm : behindInMarks op b = false) : PT X (.Compare a [op] [b] pos) (tTest (tOp r ta tb)) := by
  intro pins s σ H Q I h
  refine wpAny_isTrue_Compare1 (thn (ha pins s σ H _ I h) fun v s1 ⟨x, H1, I1, r1, q1⟩ => thn (hb pins s1 σ H1 _ I1 q1) fun u s2 ⟨y, H2, I2, r2, q2⟩ =>
    thn (ho pins s2 σ H2 x y v u _ I2 r1 r2 q2) fun c s3 ⟨z, H3, I3, r3, k, e, q3⟩ => ?_) hm
  subst e
  cases r3
  exact wpAny_truthy_bool ⟨H3, I3, q3⟩
/-- a op1 b op2 c -/
def tChain (r r' : R2) (ta tb tc : TE) : TE := fun σ H Q => ta σ H fun x H1 => tb σ H1 fun y H2 => r x y H2 fun z H3 => ∃ k, z = .bl k ∧
  (if k = true then tc σ H3 fun w' H4 => r' y w' H4 Q else Q (.bl false) H3)
theorem pt_chain {op op' : CmpOp} {r r' : R2} (ho : OpR X (compareOp op) r) (ho' : OpR X (compareOp op') r') (ha : PE X a ta) (hb : PE X b tb) (hc : PE X c tc)
    (hm : lastMarks [op, op'] [b, c] = false := by with_unfolding_all rfl) : PT X (.Compare a [op, op'] [b, c] pos) (tTest (tChain r r' ta tb tc)) := by
  intro pins s σ H Q I h
  refine isTrue_chain (thn (ha pins s σ H _ I h) fun v s1 ⟨x, H1, I1, r1, q1⟩ => test_link (thn (hb pins s1 σ H1 _ I1 q1) fun u s2 ⟨y, H2, I2, r2, q2⟩ =>
    thn (ho pins s2 σ H2 x y v u _ I2 r1 r2 q2) fun d s3 ⟨z, H3, I3, r3, k, e, q3⟩ => ?_)) hm
  subst e
  cases r3
  refine wpAny_truthy_bool ?_
  cases k with
  | false =>
    obtain ⟨k', e', q'⟩ := q3
    cases e'
    exact ite_ff ⟨H3, I3, q'⟩
  | true =>
    refine ite_tt (test_last (thn (hc pins s3 σ H3 _ I3 q3) fun w' s4 ⟨z', H4, I4, r4, q4⟩ => thn (ho' pins s4 σ H4 y z' u w' _ I4 r2 r4 q4) fun d' s5 ⟨z2, H5, I5, r5, k2, e2, q5⟩ => ?_))
    subst e2
    cases r5
    exact wpAny_truthy_bool ⟨H5, I5, q5⟩

/-! ### truth -/
/-- a value's truth by the abstract heap -/
def TruV (K : PySem.W.Frag) (x : V) (H : Hp) (k : Bool) : Prop :=
  match x with
  | .non => k = false
  | .bl b => k = b
  | .int i => k = (i != 0)
  | .str y => y.length ≤ sizeLine ∧ k = ((y.length : Int) != 0)
  | .byt y => y.size ≤ sizeLine ∧ k = ((y.size : Int) != 0)
  | .ref p => (∃ xs, SqL K H p xs ∧ k = !xs.isEmpty) ∨ (∃ xs, SqT K H p xs ∧ k = !xs.isEmpty) ∨ ∃ kvs, H p = some (.dK kvs) ∧ k = !kvs.isEmpty
  | _ => False
theorem line63 : (sizeLine : Nat) < 2 ^ 63 := by rw [sizeLine_eq]; decide
/-! ### strs and bytes -/
def PlainIxT (b : Expr) : Prop := ∀ o i, subscripted b false o i = operate [o, i] (getItem o i)
/-! ### scalar builtins, by CallR -/
theorem vals1 {x : V} {us : List Value} (r : Vals [x] us) : ∃ u, us = [u] ∧ RelV x u := by
  cases r with
  | cons r1 r2 => cases r2; exact ⟨_, rfl, r1⟩
theorem vals2 {x y : V} {us : List Value} (r : Vals [x, y] us) : ∃ u w', us = [u, w'] ∧ RelV x u ∧ RelV y w' := by
  cases r with
  | cons r1 r2 =>
    cases r2 with
    | cons r3 r4 => cases r4; exact ⟨_, _, rfl, r1, r3⟩
theorem call_max2 (hc : X.calm = true) : CallR X (.builtin "max") (fun xs H Q => ∃ i j, xs = [.int i, .int j] ∧ Q (.int (if j > i then j else i)) H) := by
  intro pins s σ H xs us Q I r h
  obtain ⟨i, j, rfl, q⟩ := h
  obtain ⟨u, w', rfl, ⟨t, rfl⟩, ⟨t', rfl⟩⟩ := vals2 r
  refine max_two_ints (I.ok.hd hc) fun h' tk k => ⟨_, H, I.kept k, ?_, q⟩
  by_cases hj : j > i
  · rw [if_pos hj, if_pos hj]; exact ⟨_, rfl⟩
  · rw [if_neg hj, if_neg hj]; exact ⟨_, rfl⟩
theorem call_min2 (hc : X.calm = true) : CallR X (.builtin "min") (fun xs H Q => ∃ i j, xs = [.int i, .int j] ∧ Q (.int (if j < i then j else i)) H) := by
  intro pins s σ H xs us Q I r h
  obtain ⟨i, j, rfl, q⟩ := h
  obtain ⟨u, w', rfl, ⟨t, rfl⟩, ⟨t', rfl⟩⟩ := vals2 r
  refine min_two_ints (I.ok.hd hc) fun h' tk k => ⟨_, H, I.kept k, ?_, q⟩
  by_cases hj : j < i
  · rw [if_pos hj, if_pos hj]; exact ⟨_, rfl⟩
  · rw [if_neg hj, if_neg hj]; exact ⟨_, rfl⟩
theorem call_int1 : CallR X (.type "int") (fun xs H Q => (∃ i, xs = [.int i] ∧ Q (.int i) H) ∨ ∃ k, xs = [.bl k] ∧ Q (.int (if k then 1 else 0)) H) := by
  intro pins s σ H xs us Q I r h
  rcases h with ⟨i, rfl, q⟩ | ⟨k, rfl, q⟩
  · obtain ⟨u, rfl, t, rfl⟩ := vals1 r
    exact call_int_int ⟨.int i, H, I, ⟨_, rfl⟩, q⟩
  · obtain ⟨u, rfl, r1⟩ := vals1 r
    cases r1
    exact call_int_bool ⟨.int (if k then 1 else 0), H, I.tok _, ⟨_, rfl⟩, q⟩
/-- len of a str, a bytes, a list, a tuple -/
def LenV (K : PySem.W.Frag) (x : V) (H : Hp) (n : Nat) : Prop :=
  match x with
  | .str y => y.length ≤ sizeLine ∧ n = y.length
  | .byt y => y.size ≤ sizeLine ∧ n = y.size
  | .ref p => (∃ xs, SqL K H p xs ∧ n = xs.length) ∨ ∃ xs, SqT K H p xs ∧ n = xs.length
  | _ => False
end
end L2

namespace L2
open PySem PySem.Spec PyProof.Rows

/-! ### an instance, its attributes a map -/
structure ObjM (h : Heap) (x dx C : Addr) (mA : Str → Option Value) : Prop where
  obj : h.get? x = some (PySem.W.instObj C dx)
  ns : h.Ns1 dx mA
  ne : dx ≠ x

theorem lookIn_ns {h : Heap} {dx : Addr} {mA : Str → Option Value} (n : h.Ns1 dx mA) : ∃ od, h.get? dx = some od ∧ ∀ name, PySem.W.lookIn name od = some (mA name) := by
  obtain ⟨o, es, ep, ho, hd, hk, _, hm⟩ := n
  refine ⟨o, ho, fun name => ?_⟩
  have e := hm name
  unfold nsFind findBy at e
  rw [← Array.find?_toList] at e
  unfold PySem.W.lookIn
  rw [hd]
  dsimp only
  split
  · rename_i y q
    rw [q] at e
    exact congrArg some e
  · rename_i q
    rw [q] at e
    have a : es.toList.any (·.refKey) = false := by
      rw [List.any_eq_false]
      intro y hy
      obtain ⟨z, t, hkey⟩ := hk y (Array.mem_toList_iff.mp hy)
      simp [DictEntry.refKey, hkey]
    have a' : ¬ es.toList.any (·.refKey) = true := by rw [a]; exact Bool.false_ne_true
    rw [if_neg a']
    exact congrArg some e

theorem ObjM.look {h : Heap} {x dx C : Addr} {mA : Str → Option Value} (I : ObjM h x dx C mA) : ∃ od, PySem.W.InstAt h x (PySem.W.instObj C dx) C (some od) ∧ ∀ name, PySem.W.lookIn name od = some (mA name) :=
  let ⟨od, ho, hl⟩ := lookIn_ns I.ns
  ⟨od, ⟨I.obj, rfl, rfl, ho⟩, hl⟩

section
variable {prog : Program} {w : World} {A : Around} {E : Value → Shared → Prop} {s : Shared} {K : PySem.W.Frag} {x dx C f : Addr} {mA : Str → Option Value} {name : Str} {v : Value}

end

/-! ### the attributes as a list of pairs -/
def putF (f : Str) (v : V) : List (Str × V) → List (Str × V)
  | [] => [(f, v)]
  | (g, x) :: r => if g = f then (g, v) :: r else (g, x) :: putF f v r
section
variable {P : Program} {w : World} {H H' : Hp} {h h' : Heap} {a C dx : Addr} {fs fs' : List (Str × V)}
end

/-! ### what of the text a class must have -/
structure Cls (K : PySem.W.Frag) (C : Addr) : Prop where
  pg : PySem.W.plainGet K C Str.empty = true
  hd : PySem.W.hasDictIn K C = true
  po : PySem.W.plainOver K C = true
  sa : PySem.W.findIn K (.ref C) "__setattr__" = some (some (.builtin "object.__setattr__"))
theorem Cls.get {K : PySem.W.Frag} {C : Addr} (c : Cls K C) (f : Str) : PySem.W.plainGet K C f = true := c.pg
/-- no class of it has the name -/
def NoAttr (K : PySem.W.Frag) (C : Addr) (f : Str) : Prop := PySem.W.findIn K (.ref C) f = some none
/-- a constant of the class -/
structure Con (K : PySem.W.Frag) (C : Addr) (f : Str) (v : V) (u : Value) : Prop where
  at_ : PySem.W.findIn K (.ref C) f = some (some u)
  rel : RelV v u
  get : PySem.W.specialIn K u "__get__" = some none
  cp : PySem.W.copiedNames.contains f = false
/-- a method: a plain def of the class or of one above it -/
structure Meth (K : PySem.W.Frag) (C : Addr) (m : Str) (f : Addr) : Prop where
  at_ : PySem.W.findIn K (.ref C) m = some (some (.ref f))
  fn : PySem.W.isFn K (.ref f) = true
  kp : PySem.W.keepIn K (.ref f) = true

section
variable {X : Cx} {pins : List (Addr × Obj)} {σ : St} {H : Hp} {s : Shared} {a C dx : Addr} {fs : List (Str × V)} {f : Str} {v : V} {A : Around} {E : Value → Shared → Prop}

/-- a new instance, tracked, without attributes -/
theorem Inv.made (I : Inv X pins σ H s) : Inv X pins σ (upd (upd H s.heap.objs.size (.own (s.heap.objs.size + 1))) (s.heap.objs.size + 1) (.ins C s.heap.objs.size []))
    { s with heap := (s.heap.push PySem.W.emptyDict).push (PySem.W.instObj C s.heap.objs.size) } := by
  have e1 : (s.heap.push PySem.W.emptyDict).get? s.heap.objs.size = some PySem.W.emptyDict := Heap.get?_push_size s.heap rfl
  have e2 : ((s.heap.push PySem.W.emptyDict).push (PySem.W.instObj C s.heap.objs.size)).get? (s.heap.objs.size + 1) = some (PySem.W.instObj C s.heap.objs.size) := by
    have := Heap.get?_push_size (s.heap.push PySem.W.emptyDict) (o := PySem.W.instObj C s.heap.objs.size) rfl
    rwa [Heap.size_push] at this
  have e3 : (s.heap.push PySem.W.emptyDict).Ns s.heap.objs.size (fun _ => none) := ⟨PySem.W.emptyDict, #[], _, e1, rfl, (fun e he => absurd he (by simp)), fun _ => rfl⟩
  have I1 := I.laid (a := s.heap.objs.size) (o := .own (s.heap.objs.size + 1)) (h' := s.heap.push PySem.W.emptyDict) (t' := s.toks) (fun b u q => Heap.get?_push_of_some _ q) (Nat.le_refl _) ⟨_, e1⟩
  refine I1.laid (a := s.heap.objs.size + 1) (o := .ins C s.heap.objs.size []) (t' := s.toks) (fun b u q => Heap.get?_push_of_some _ q) (Nat.le_of_eq (Heap.size_push _ _)) ?_
  have ne : s.heap.objs.size ≠ s.heap.objs.size + 1 := Nat.ne_of_lt (Nat.lt_succ_self _)
  refine ⟨by rw [upd_ne ne, upd_same], Nat.zero_le _, ne, e2, fun _ => none, (Heap.Ns1.of_empty e3).at fun o q => Heap.get?_push_of_some _ q, fun _ => True.intro, fun y hy => absurd rfl hy⟩

end

/-! ### readings and rules -/
/-- e.f, an attribute of the instance -/
def tFld (K : PySem.W.Frag) (ta : TE) (f : Str) : TE := fun σ H Q => ta σ H fun x H1 => ∃ a C dx fs v, x = .ref a ∧ H1 a = some (.ins C dx fs) ∧ Cls K C ∧ NoAttr K C f ∧ fs.lookup f = some v ∧ Q v H1
/-- e.f, a constant of the class -/
def tCon (K : PySem.W.Frag) (ta : TE) (f : Str) : TE := fun σ H Q => ta σ H fun x H1 => ∃ a C dx fs v u, x = .ref a ∧ H1 a = some (.ins C dx fs) ∧ Cls K C ∧ Con K C f v u ∧ fs.lookup f = none ∧ Q v H1
/-- e.f = value -/
def sFld (K : PySem.W.Frag) (ta tv : TE) (f : Str) : TS := fun D σ H => tv σ H fun y H1 => ta σ H1 fun x H2 => ∃ a C dx fs, x = .ref a ∧ H2 a = some (.ins C dx fs) ∧ Cls K C ∧ NoAttr K C f ∧ fs.length < 1000 ∧
  D.nx σ (upd H2 a (.ins C dx (putF f y fs)))
/-- an augmented operator on two values -/
def InOp (X : Cx) (op : Operator) (rd : V → V → Hp → VK → Prop) : Prop :=
  ∀ (pins : List (Addr × Obj)) (s : Shared) (σ : St) (H : Hp) (x y : V) (u v : Value) (Q : VK), Inv X pins σ H s → RelV x u → RelV y v → rd x y H Q → wpAny (model X.prog X.w) X.A (inplaceOp op u v) (EP X pins σ Q) X.xe s
/-- e.f op= value -/
def sFldAug (K : PySem.W.Frag) (ta tv : TE) (rd : V → V → Hp → VK → Prop) (f : Str) : TS := fun D σ H => ta σ H fun x H1 => ∃ a C dx fs v, x = .ref a ∧ H1 a = some (.ins C dx fs) ∧ Cls K C ∧ NoAttr K C f ∧ fs.lookup f = some v ∧
  tv σ H1 fun y H2 => rd v y H2 fun z H3 => ∃ dx' fs', H3 a = some (.ins C dx' fs') ∧ fs'.length < 1000 ∧ D.nx σ (upd H3 a (.ins C dx' (putF f z fs')))

section
variable {X : Cx} {o e value : Expr} {f : Str} {pos pos' tpos : Pos} {ta tv : TE}
def rAdd : V → V → Hp → VK → Prop := fun x y H Q => ∃ i j, x = .int i ∧ y = .int j ∧ Q (.int (i + j)) H
def rSub : V → V → Hp → VK → Prop := fun x y H Q => ∃ i j, x = .int i ∧ y = .int j ∧ Q (.int (i - j)) H
end

/-! ### isinstance -/
section
variable {X : Cx} {pins : List (Addr × Obj)} {σ : St} {H : Hp} {s : Shared} {A : Around} {E : Value → Shared → Prop} {Q : Value → Shared → Prop} {c : Value} {b : Bool}
/-- the type of a value, as the fragment's deciders take it; for an instance its class -/
inductive TyOf (K : PySem.W.Frag) (H : Hp) : V → Value → Prop where
  | non : TyOf K H .non (.type "NoneType")
  | bl (x : Bool) : TyOf K H (.bl x) (.type "bool")
  | int (i : Int) : TyOf K H (.int i) (.type "int")
  | str (x : Str) : TyOf K H (.str x) (.type "str")
  | flt (x : UInt64) : TyOf K H (.flt x) (.type "float")
  | lst {a : Addr} {xs : List V} (e : H a = some (.lst xs)) : TyOf K H (.ref a) (.type "list")
  | frz {a : Addr} {o : Obj} {xs : List V} (e : H a = some (.frz o (.lst xs))) : TyOf K H (.ref a) (.type "list")
  | tup {a : Addr} {xs : List V} (e : H a = some (.tup xs)) : TyOf K H (.ref a) (.type "tuple")
  | dK {a : Addr} {kvs : List (Key × V)} (e : H a = some (.dK kvs)) : TyOf K H (.ref a) (.type "dict")
  | dT {a : Addr} {kvs : List (List Key × V)} (e : H a = some (.dT kvs)) : TyOf K H (.ref a) (.type "dict")
  | ins {a C dx : Addr} {fs : List (Str × V)} (e : H a = some (.ins C dx fs)) (cl : Cls K C) (ha : PySem.W.findIn K (.ref C) "__class__" = some (some (.builtin "object.__class__")))
      (hn : PySem.W.specialIn K (.builtin "object.__class__") "__get__" = some (some (.builtin "getset_descriptor.__get__"))) (htk : PySem.W.takesIn K (.builtin "object.__class__") = some true)
      (hm : PySem.W.mroIn K C (.type "object") = some true) : TyOf K H (.ref a) (.ref C)
end
end L2

namespace L2
open PySem PySem.Spec PyProof.Rows

/-! ### room -/
structure Room (k : Nat) (A : Around) : Prop where
  hd : A.handled = none
  dp : A.depth + 3 * k + 5 < recursionLimit
  un : A.units + 16 * k + 200 < cLine
theorem Room.mono {j k : Nat} {A : Around} (r : Room k A) (h : j ≤ k) : Room j A := ⟨r.hd, by have := r.dp; omega, by have := r.un; omega⟩
theorem Room.deeper {k : Nat} {A : Around} (r : Room (k + 1) A) (env : Env) : Room k (A.deeper env) :=
  ⟨r.hd, by have := r.dp; show A.depth + 1 + 3 * k + 5 < _; omega, by have := r.un; show A.units + 3 + 16 * k + 200 < _; omega⟩
theorem Room.in1 {k : Nat} {A : Around} (r : Room (k + 1) A) : Room k A.in1 :=
  ⟨r.hd, by have := r.dp; show A.depth + 3 * k + 5 < _; omega, by have := r.un; show A.units + 1 + 16 * k + 200 < _; omega⟩
theorem Room.depth {k : Nat} {A : Around} (r : Room k A) : A.depth < recursionLimit := by have := r.dp; omega
theorem Room.units {k : Nat} {A : Around} (r : Room k A) : A.units + 64 < cLine := by have := r.un; omega
/-! ### argument lists and displays -/
def tNil : TA := fun _ H Q => Q [] H
def tCons (ta : TE) (tr : TA) : TA := fun σ H Q => ta σ H fun x H1 => tr σ H1 fun xs H2 => Q (x :: xs) H2
section
variable {X : Cx} {e : Expr} {es : List Expr} {te : TE} {t : TA} {pos : Pos}
theorem pa_nil : PA X [] tNil := fun _ _ _ _ H Q I h => Calls.spliced_nil ⟨[], H, I, .nil, h⟩
theorem pa_cons (ha : PE X e te) (hr : PA X es t) (hs : starEach (e :: es) X.env = (false, eval e X.env) :: starEach es X.env := by rfl) : PA X (e :: es) (tCons te t) := by
  intro pos pins s σ H Q I h
  rw [hs]
  show wpAny _ _ (spliced ((false, eval e X.env) :: backTo pos (starEach es X.env))) _ _ s
  refine Calls.spliced_cons (thn (ha pins s σ H _ I h) fun u s1 ⟨x, H1, I1, r1, q1⟩ => ?_)
  exact thn (hr pos pins s1 σ H1 _ I1 q1) fun us s2 ⟨xs, H2, I2, r2, q2⟩ => ⟨x :: xs, H2, I2, .cons r1 r2, q2⟩

/-- a tuple, a list of written items -/
def tTup (t : TA) : TE := fun σ H Q => t σ H fun xs H1 => xs.length ≤ sizeLine ∧ ∀ p, H1 p = none → Q (.ref p) (upd H1 p (.tup xs))
def tLst (t : TA) : TE := fun σ H Q => t σ H fun xs H1 => xs.length ≤ sizeLine ∧ ∀ p, H1 p = none → Q (.ref p) (upd H1 p (.lst xs))
theorem pe_tup {x1} (h : PA X es t) : PE X (.Tuple es x1 pos) (tTup t) := by
  intro pins s σ H Q I hq
  refine wpAny_Tuple_spliced (thn (h pos pins s σ H _ I hq) fun us s1 ⟨xs, H1, I1, r, z, q⟩ => ⟨by rw [← r.length]; exact z, ?_⟩)
  have hf : H1 s1.heap.objs.size = none := I1.hok.fresh (Nat.le_refl _)
  refine ⟨.ref s1.heap.objs.size, upd H1 s1.heap.objs.size (.tup xs), I1.laid (t' := s1.toks) (fun b u e => Heap.get?_push_of_some _ e) (Nat.le_refl _) ?_, rfl, q _ hf⟩
  exact ⟨z, us, r, ⟨_, Heap.get?_push_size _ rfl, rfl, _, rfl⟩⟩
theorem pe_lst (h : PA X es t) : PE X (.List es pos) (tLst t) := by
  intro pins s σ H Q I hq
  refine wpAny_List_spliced (thn (h pos pins s σ H _ I hq) fun us s1 ⟨xs, H1, I1, r, z, q⟩ => ⟨by rw [← r.length]; exact z, ?_⟩)
  have hf : H1 s1.heap.objs.size = none := I1.hok.fresh (Nat.le_refl _)
  refine ⟨.ref s1.heap.objs.size, upd H1 s1.heap.objs.size (.lst xs), I1.laid (t' := s1.toks) (fun b u e => Heap.get?_push_of_some _ e) (Nat.le_refl _) ?_, rfl, q _ hf⟩
  exact ⟨z, us, 0, r, Heap.get?_push_size _ rfl⟩
end

/-! ### what a def promises -/
/-- a def's promise: the bound arguments in the parameters' order, the heap, the wanted end, the wanted exception -/
abbrev Sp := List V → Hp → VK → XK → Prop
/-- how an exception lies behind a call (file 08 gives it): the callers' frames, abstract heap and state ahead of the call, the wish, the exception, the state -/
abbrev CXT := List Env → Hp → Shared → XK → Value → Shared → Prop

/-- the state at a call -/
structure Env0 (P : Program) (w : World) (K : PySem.W.Frag) (mg : Str → Option Value) (base : Heap) (A : Around) (outer : List Env) (s : Shared) (H : Hp) : Prop where
  frames : A.frames = some outer
  mod : Mod K mg base
  bs : ∀ b o, base.get? b = some o → s.heap.get? b = some o ∧ H b = none
  bsz : base.objs.size ≤ s.heap.objs.size
  funs : s.heap.FunFrames base outer
  frf : ∀ b ∈ frs outer, H b = none
  hok : HOk P w H s.heap
  bare : AllBare s.gens
/-- a call's end -/
def CE (outer : List Env) (P : Program) (w : World) (H : Hp) (s : Shared) (Q : VK) (u : Value) (s' : Shared) : Prop :=
  ∃ v H', s'.os = s.os ∧ AllBare s'.gens ∧ Un (frs outer) [] H H' s.heap s'.heap ∧ HOk P w H' s'.heap ∧ RelV v u ∧ Q v H'
def CR (CX : CXT) (outer : List Env) (P : Program) (w : World) (H : Hp) (s : Shared) (Q : VK) (E : XK) (r : Result) (s' : Shared) : Prop :=
  match r with
  | .ok (.ret u) => CE outer P w H s Q u s'
  | .ok _ => False
  | .error e => CX outer H s E e s'
structure FnOk (P : Program) (w : World) (K : PySem.W.Frag) (mg : Str → Option Value) (base : Heap) (CX : CXT) (k : Nat) (f : Addr) (fd : FuncData) (ps : List Str) (sp : Sp) : Prop where
  len : ∀ vs H Q E, sp vs H Q E → vs.length = ps.length
  run : ∀ (A : Around) (outer : List Env) (s : Shared) (H : Hp) (args : Args) (us : List Value) (vs : List V) (Q : VK) (E : XK), Room k A → Env0 P w K mg base A outer s H → BindsTo s fd args (ps.zip us) → Vals vs us → sp vs H Q E →
    codeAny (model P w) A (.call (.ref f) args) (CR CX outer P w H s Q E) s
theorem FnOk.mono {P : Program} {w : World} {K : PySem.W.Frag} {mg : Str → Option Value} {base : Heap} {CX : CXT} {j k : Nat} {f : Addr} {fd : FuncData} {ps : List Str} {sp : Sp} (F : FnOk P w K mg base CX j f fd ps sp) (h : j ≤ k) :
    FnOk P w K mg base CX k f fd ps sp := ⟨F.len, fun A outer s H args us vs Q E hr => F.run A outer s H args us vs Q E (hr.mono h)⟩
theorem Env0.in1 {P : Program} {w : World} {K : PySem.W.Frag} {mg : Str → Option Value} {base : Heap} {A : Around} {outer : List Env} {s : Shared} {H : Hp} (e : Env0 P w K mg base A outer s H) :
    Env0 P w K mg base A.in1 outer s H := ⟨e.frames, e.mod, e.bs, e.bsz, e.funs, e.frf, e.hok, e.bare⟩

section
variable {X : Cx} {pins : List (Addr × Obj)} {σ : St} {H : Hp} {s s' : Shared}
/-- from a body: what a callee wants -/
theorem Inv.env0 (I : Inv X pins σ H s) : Env0 X.prog X.w X.K X.mg X.base X.A X.stack s H :=
  ⟨I.ok.frames, I.ok.mod, I.bs, Nat.le_trans I.ok.bsz I.sz, I.stack, I.stkFree, I.hok, I.bare⟩
/-- behind a call -/
theorem Inv.after {Q : VK} {u : Value} (I : Inv X pins σ H s) (h : CE X.stack X.prog X.w H s Q u s') : EP X pins σ Q u s' := by
  obtain ⟨v, H', os, bare, un, hok, r, q⟩ := h
  obtain ⟨hh, g, d, t, os'⟩ := s'
  obtain rfl : os' = s.os := os
  exact ⟨v, H', I.call (h' := hh) (g' := g) (d' := d) (t' := t) (ch := []) un hok bare (fun b z => absurd z (by simp)), r, q⟩
end

/-! ### calls -/
/-- f(..): the written arguments, then the defaults dvs; E: what is wanted of an exception -/
def tCall (sp : Sp) (dvs : List V) (E : XK) (t : TA) : TE := fun σ H Q => t σ H fun vs H1 => sp (vs ++ dvs) H1 Q E
/-- o.m(..) of an instance of the class at C -/
def tMeth (C : Addr) (m : Str) (sp : Sp) (dvs : List V) (E : XK) (ta : TE) (t : TA) : TE := fun σ H Q => ta σ H fun x H1 => ∃ a dx fs, x = .ref a ∧ H1 a = some (.ins C dx fs) ∧ fs.lookup m = none ∧
  t σ H1 fun vs H2 => sp (x :: (vs ++ dvs)) H2 Q E
/-- C(..): a new instance and its dict, then __init__ -/
def tMake (C : Addr) (sp : Sp) (dvs : List V) (E : XK) (t : TA) : TE := fun σ H Q => t σ H fun vs H1 => ∀ x dx, H1 x = none → H1 dx = none → dx ≠ x →
  sp (.ref x :: (vs ++ dvs)) (upd (upd H1 dx (.own x)) x (.ins C dx [])) (fun v H2 => v = .non ∧ Q (.ref x) H2) E

/-- how the parameters are bound: us the positional arguments, kw the keywords' values by name, ds the defaults that fill up -/
def Binds (K : PySem.W.Frag) (fd : FuncData) (ps : List Str) (ds : List Value) : Prop :=
  ∀ (s : Shared) (us : List Value), K.In s.heap → (us ++ ds).length = ps.length → BindsTo s fd ⟨us, []⟩ (ps.zip (us ++ ds))
/-- every parameter is given -/
theorem Binds.all {K : PySem.W.Frag} {fd : FuncData} {ps : List Str} (h : ∀ us : List Value, us.length = ps.length → bindArgs fd ⟨us, []⟩ = pure (ps.zip us)) : Binds K fd ps [] := fun s us _ hl => by
  rw [List.append_nil] at hl ⊢
  exact .of_eq (h us hl)

/-- an exception of a callee reaches what this body wants of exceptions -/
def Passes (CX : CXT) (X : Cx) (E : XK) : Prop := ∀ (pins : List (Addr × Obj)) (σ : St) (H : Hp) (s : Shared) (e : Value) (s' : Shared), Inv X pins σ H s → CX X.stack H s E e s' → X.xe e s'

section
variable {X : Cx} {CX : CXT} {k : Nat} {f C : Addr} {fd : FuncData} {ps : List Str} {sp : Sp} {dvs : List V} {ds : List Value} {E : XK} {x m : Str} {p pos apos : Pos} {e o : Expr} {es : List Expr} {ta : TE} {t : TA}

/-- the callee runs -/
theorem run_fn {pins : List (Addr × Obj)} {σ : St} {H : Hp} {s : Shared} {Q : VK} {us : List Value} {vs : List V} (F : FnOk X.prog X.w X.K X.mg X.base CX k f fd ps sp) (hr : Room k X.A) (hb : Binds X.K fd ps ds) (hd : Vals dvs ds) (hx : Passes CX X E)
    (I : Inv X pins σ H s) (r : Vals vs us) (h : sp (vs ++ dvs) H Q E) : wpAny (model X.prog X.w) X.A (call (.ref f) us) (EP X pins σ Q) X.xe s := by
  have r2 : Vals (vs ++ dvs) (us ++ ds) := r.append hd
  have hl : (us ++ ds).length = ps.length := by rw [← r2.length]; exact F.len _ _ _ _ h
  refine wpAny_call (codeAny_mono (F.run X.A X.stack s H ⟨us, []⟩ (us ++ ds) (vs ++ dvs) Q E hr I.env0 (hb s us I.kIn hl) r2 h) fun r s' hq => ?_)
  cases r with
  | error e => exact hx pins σ H s e s' I hq
  | ok fl =>
    cases fl with
    | ret u => exact I.after hq
    | next => exact False.elim hq
    | brk => exact False.elim hq
    | cont => exact False.elim hq

/-- what a class must have to be made -/
structure Mk (K : PySem.W.Frag) (C f : Addr) : Prop where
  makes : PySem.W.makesIn K C = true
  init : PySem.W.findIn K (.ref C) "__init__" = some (some (.ref f))
  fn : PySem.W.isFn K (.ref f) = true
  kp : PySem.W.keepIn K (.ref C) = true

end

/-! ### keywords -/
/-- the values of the keywords, from the left -/
def PK (X : Cx) (kws : List Keyword) (t : TA) : Prop :=
  ∀ (pos : Pos) (pins : List (Addr × Obj)) (s : Shared) (σ : St) (H : Hp) (Q : List V → Hp → Prop), Inv X pins σ H s → t σ H Q → wpAny (model X.prog X.w) X.A (evalAll ((backToKw pos (keywordEach kws X.env)).map (·.2))) (AP X pins σ Q) X.xe s
section
variable {X : Cx} {CX : CXT} {k : Nat} {f C : Addr} {fd : FuncData} {ps ks : List Str} {sp : Sp} {E : XK} {x m : Str} {p pos apos kpos : Pos} {e o : Expr} {es : List Expr} {kws : List Keyword} {te ta : TE} {t tk : TA} {nm : Option Str}
/-- how a call with keywords binds: g puts the positional values us and the keywords' values ws (names ks) in the parameters' order, defaults among them -/
structure KBinds (K : PySem.W.Frag) (fd : FuncData) (ps ks : List Str) (g : List Value → List Value → List Value) (gV : List V → List V → List V) : Prop where
  to : ∀ (s : Shared) (us ws : List Value), K.In s.heap → (g us ws).length = ps.length → BindsTo s fd ⟨us, ks.zip ws⟩ (ps.zip (g us ws))
  rel : ∀ {vs : List V} {us : List Value} {zs : List V} {ws : List Value}, Vals vs us → Vals zs ws → Vals (gV vs zs) (g us ws)
def tCallK (sp : Sp) (gV : List V → List V → List V) (E : XK) (t tk : TA) : TE := fun σ H Q => t σ H fun vs H1 => tk σ H1 fun zs H2 => sp (gV vs zs) H2 Q E
variable {g : List Value → List Value → List Value} {gV : List V → List V → List V}
end

/-! ### a def's body keeps its promise -/
/-- names: the parameters first -/
structure FnScope (N P : List Str) (sc : Scope) : Prop where
  kind : sc.kind = .function
  co : sc.isCoroutine = false
  gen : sc.isGenerator = false
  nd : N.Nodup
  pre : N.take P.length = P
  par : ∀ x ∈ P, sc.names.lookup x = some .local ∨ sc.names.lookup x = some .cell
  nofree : ∀ y ∈ sc.names, y.2 ≠ .free

theorem bindL_out {kindOf : Str → Option NameKind} {x : Str} : ∀ {binds : List (Str × Value)} {m : Str → Option Value}, (∀ v, (x, v) ∉ binds) → bindL kindOf binds m x = m x
  | [], _, _ => rfl
  | (n, v) :: r, m, h => by
    unfold bindL
    rw [bindL_out fun w hw => h w (List.mem_cons_of_mem _ hw)]
    split
    · have : x ≠ n := by rintro rfl; exact h v List.mem_cons_self
      simp [this]
    · rfl
theorem bindC_out {kindOf : Str → Option NameKind} {x : Str} : ∀ {binds : List (Str × Value)} {m : Str → Option Value}, (∀ v, (x, v) ∉ binds) → bindC kindOf binds m x = m x
  | [], _, _ => rfl
  | (n, v) :: r, m, h => by
    unfold bindC
    rw [bindC_out fun w hw => h w (List.mem_cons_of_mem _ hw)]
    split
    · rfl
    · have : x ≠ n := by rintro rfl; exact h v List.mem_cons_self
      simp [this]
theorem bindL_get {kindOf : Str → Option NameKind} {x : Str} {v : Value} : ∀ {P : List Str} {vs : List Value} {i : Nat} {m : Str → Option Value}, P.Nodup → P[i]? = some x → vs[i]? = some v → kindOf x = some .local →
    bindL kindOf (P.zip vs) m x = some v
  | [], _, _, _, _, h, _, _ => by simp at h
  | _ :: _, [], _, _, _, _, h, _ => by simp at h
  | p :: P, w :: vs, 0, m, nd, h1, h2, hk => by
    simp at h1 h2; subst h1; subst h2
    show bindL kindOf ((p, w) :: P.zip vs) m p = _
    unfold bindL
    rw [bindL_out fun v hv => (List.nodup_cons.mp nd).1 (List.of_mem_zip hv).1, if_pos hk]
    simp
  | p :: P, w :: vs, i + 1, m, nd, h1, h2, hk => by
    show bindL kindOf ((p, w) :: P.zip vs) m x = _
    unfold bindL
    exact bindL_get (i := i) (List.nodup_cons.mp nd).2 (by simpa using h1) (by simpa using h2) hk
theorem bindC_get {kindOf : Str → Option NameKind} {x : Str} {v : Value} : ∀ {P : List Str} {vs : List Value} {i : Nat} {m : Str → Option Value}, P.Nodup → P[i]? = some x → vs[i]? = some v → kindOf x ≠ some .local →
    bindC kindOf (P.zip vs) m x = some v
  | [], _, _, _, _, h, _, _ => by simp at h
  | _ :: _, [], _, _, _, _, h, _ => by simp at h
  | p :: P, w :: vs, 0, m, nd, h1, h2, hk => by
    simp at h1 h2; subst h1; subst h2
    show bindC kindOf ((p, w) :: P.zip vs) m p = _
    unfold bindC
    rw [bindC_out fun v hv => (List.nodup_cons.mp nd).1 (List.of_mem_zip hv).1, if_neg hk]
    simp
  | p :: P, w :: vs, i + 1, m, nd, h1, h2, hk => by
    show bindC kindOf ((p, w) :: P.zip vs) m x = _
    unfold bindC
    exact bindC_get (i := i) (List.nodup_cons.mp nd).2 (by simpa using h1) (by simpa using h2) hk

/-- the names' values at the entry -/
def start (N : List Str) (vs : List V) : St := vs.map some ++ List.replicate (N.length - vs.length) none

/-- the context of a def's body, at its entry; an exception leaves the frame, then lies as CX says -/
def cxOf (CX : CXT) (P : Program) (w : World) (K : PySem.W.Frag) (mg : Str → Option Value) (base : Heap) (N : List Str) (qual : Str) (scope : Scope) (f : Addr) (cd : Value) (A : Around) (outer : List Env) (s : Shared) (H : Hp) (E : XK) : Cx where
  prog := P
  w := w
  K := K
  mg := mg
  base := base
  A := A.deeper (envOfC qual scope s.heap.objs.size f cd)
  N := N
  s₀ := s
  H₀ := H
  env := envOfC qual scope s.heap.objs.size f cd
  outer := outer
  stack := envOfC qual scope s.heap.objs.size f cd :: outer
  ex := []
  calm := true
  fn := fun _ => true
  pn := []
  xe := fun e s' => wpAny (model P w) (A.deeper (envOfC qual scope s.heap.objs.size f cd)) (leaving (envOfC qual scope s.heap.objs.size f cd) e) (fun _ s'' => CX outer H s E e s'') (fun e' s'' => CX outer H s E e' s'') s'

theorem cell_has {sc : Scope} {n : Nat} {x : Str} (h : sc.names.lookup x = some .cell) : ∃ c, (cellsFrom n sc.names []).lookup x = some c := by
  have q := PySem.W.cellsFrom_some sc.names n [] (.inl h)
  exact Option.isSome_iff_exists.mp q

theorem inv_start {CX : CXT} {P : Program} {w : World} {K : PySem.W.Frag} {mg : Str → Option Value} {base : Heap} {N ps : List Str} {qual : Str} {scope : Scope} {f : Addr} {cd : Value} {A : Around} {outer : List Env} {s s1 : Shared} {H : Hp} {E : XK} {us : List Value} {vs : List V}
    (S : FnScope N ps scope) (hd : A.handled = none) (e0 : Env0 P w K mg base A outer s H) (hl : vs.length = ps.length) (r : Vals vs us)
    (x : InCallC s s.heap.objs.size (bindL (envOfC qual scope s.heap.objs.size f cd).kindOf (ps.zip us) fun _ => none) (cellsFrom (s.heap.objs.size + 1) scope.names []) (bindC (envOfC qual scope s.heap.objs.size f cd).kindOf (ps.zip us) fun _ => none) s1) :
    Inv (cxOf CX P w K mg base N qual scope f cd A outer s H E) [] (start N vs) H s1 := by
  have hpl : ps.length ≤ N.length := by have := congrArg List.length S.pre; rw [List.length_take] at this; omega
  obtain ⟨h1, tk, rfl, hk⟩ := x.done
  have noA : ∀ b : Addr, b ∉ (cxOf CX P w K mg base N qual scope f cd A outer s H E).ex := fun b z => absurd (show b ∈ ([] : List Addr) from z) (by simp)
  refine ⟨⟨e0.mod, S.kind, rfl, rfl, Nat.le_refl _, fun y z c h1 h2 => ?_, fun y hy => ?_, fun y c _ h => ?_, fun _ => hd, Around.frames_deeper e0.frames, .inr ⟨rfl, rfl⟩, fun b z => absurd z (noA b), e0.bs, e0.bsz, fun b _ _ => noA b, fun b z => absurd z (noA b), e0.funs, e0.frf⟩,
    rfl, e0.bare, Un.kept hk, ⟨_, x.toInCall.ns, fun i y v h1 h2 h3 => ?_⟩, fun y c h => ⟨_, x.cell y c h⟩, e0.hok.fresh (Nat.le_refl _), fun y c h => ?_, fun p hp => absurd (show p ∈ ([] : List (Addr × Obj)) from hp) (by simp), e0.hok.kept hk, ?_⟩
  · exact name_of_addr x.apart (PySem.mem_of_lookup h1) (PySem.mem_of_lookup h2)
  · have hy : scope.names.lookup y = some .cell ∨ scope.names.lookup y = some .free := hy
    rcases hy with hy | hy
    · exact cell_has hy
    · exact absurd rfl (S.nofree _ (PySem.mem_of_lookup hy))
  · exact Nat.le_of_lt (x.above y c (PySem.mem_of_lookup h))
  · have hi : i < vs.length := by
      unfold start at h2
      by_cases hi : i < vs.length
      · exact hi
      · rw [List.getElem?_append_right (by simpa using hi)] at h2
        rw [List.getElem?_replicate] at h2
        split at h2 <;> cases h2
    have ha : vs[i]? = some v := by
      unfold start at h2
      rw [List.getElem?_append_left (by simpa using hi), List.getElem?_map] at h2
      cases e : vs[i]? with
      | none => rw [e] at h2; cases h2
      | some a => rw [e] at h2; cases h2; rfl
    obtain ⟨u, hu, rv⟩ := r.get ha
    have hp : ps[i]? = some y := by
      rw [← S.pre, List.getElem?_take_of_lt (by omega)]; exact h1
    have ndP : ps.Nodup := by rw [← S.pre]; exact S.nd.sublist (List.take_sublist _ _)
    refine ⟨u, rv, ?_⟩
    rcases S.par y (List.mem_of_getElem? hp) with k | k
    · exact .inl ⟨k, bindL_get ndP hp hu k⟩
    · obtain ⟨c, e⟩ := cell_has (n := s.heap.objs.size + 1) k
      refine .inr ⟨.inl k, c, e, ?_⟩
      have q := x.cell y c e
      rw [bindC_get ndP hp hu (by show scope.names.lookup y ≠ _; rw [k]; decide)] at q
      exact q
  · exact e0.hok.fresh (Nat.le_of_lt (x.above y c (PySem.mem_of_lookup h)))
  · unfold start
    show _ = N.length
    rw [List.length_append, List.length_map, List.length_replicate]
    omega

/-- THE RULE: a def (or a method) of the text, by its body. The body's reading t is chosen for each entry; it is run at the parameters' values -/
theorem fn_of {CX : CXT} {P : Program} {w : World} {K : PySem.W.Frag} {mg : Str → Option Value} {base : Heap} {k : Nat} {f : Addr} {name qual : Str} {params : Arguments} {body : List Stmt} {scope : Scope} {dV kV doc pm cdv ct oc : Value} {an od : Option Addr}
    {osl : Array (Option Value)} {N ps : List Str} {sp : Sp} (lk : K.lookup f = some ⟨oc, od, .func (PySem.W.fnOf name qual params body scope dV kV doc pm an cdv ct), osl⟩) (hcd : PySem.W.codeIn K cdv qual = true) (S : FnScope N ps scope)
    (len : ∀ vs H Q E, sp vs H Q E → vs.length = ps.length)
    (hbody : ∀ (A : Around) (outer : List Env) (s : Shared) (H : Hp) (vs : List V) (Q : VK) (E : XK), Room k (A.deeper (envOfC qual scope s.heap.objs.size f cdv)) → sp vs H Q E →
      ∃ t, PSs (cxOf CX P w K mg base N qual scope f cdv A outer s H E) body t ∧ t { nx := fun _ H' => Q .non H', rt := Q } (start N vs) H) :
    FnOk P w K mg base CX (k + 1) f (PySem.W.fnOf name qual params body scope dV kV doc pm an cdv ct) ps sp := by
  refine ⟨len, fun A outer s H args us vs Q E hr e0 hb r hsp => ?_⟩
  have hl := len _ _ _ _ hsp
  have KX : K.In s.heap := e0.mod.kin.keeps fun b o e => (e0.bs b o e).1
  have lim : s.heap.NoLimit := e0.mod.nolimit.keeps fun b o e => (e0.bs b o e).1
  have hkind : ∀ y ∈ ps.zip us, scope.names.lookup y.1 = some .local ∨ (scope.names.lookup y.1 = some .cell ∧ ((cellsFrom (s.heap.objs.size + 1) scope.names []).lookup y.1).isSome = true) := fun ⟨n, v⟩ hy => by
    rcases S.par n (List.of_mem_zip hy).1 with q | q
    · exact .inl q
    · exact .inr ⟨q, PySem.W.cellsFrom_some _ _ _ (.inl q)⟩
  refine codeAny_call_function hr.depth (KX _ _ lk) rfl S.co S.gen rfl (PySem.W.codeRec_of KX hcd) (hb _ _ _ _ ?_)
  refine wpAny_newFunctionEnv_cells S.kind hkind fun env he s1 x => ?_
  subst he
  refine ⟨lim.keeps x.toInCall.keep, codeAny_func ?_⟩
  obtain ⟨t, ht, hq⟩ := hbody A outer s H vs Q E (hr.deeper _) hsp
  have I : Inv (cxOf CX P w K mg base N qual scope f cdv A outer s H E) [] (start N vs) H s1 := inv_start S hr.hd e0 hl r x
  refine wpAny_mono (ht [] s1 (start N vs) H _ I hq) (fun fl s' hs => ?_) fun e s' hs => hs
  have fin : ∀ {σ' : St} {H' : Hp} {v : V} {u : Value}, Inv (cxOf CX P w K mg base N qual scope f cdv A outer s H E) [] σ' H' s' → RelV v u → Q v H' → CE outer P w H s Q u s' :=
    fun {σ' H' v u} J rv q => ⟨v, H', J.os, J.bare, J.base, J.hok, rv, q⟩
  cases fl with
  | ret u =>
    obtain ⟨v, σ', H', J, rv, q⟩ := hs
    exact fin J rv q
  | next =>
    obtain ⟨σ', H', J, q⟩ := hs
    exact fin (v := V.non) (u := Value.none) J rfl q
  | brk =>
    obtain ⟨_, _, _, q⟩ := hs
    exact False.elim q
  | cont =>
    obtain ⟨_, _, _, q⟩ := hs
    exact False.elim q
end L2

namespace L2
open PySem PySem.Spec PyProof.Rows
section
variable {X : Cx} {x : Str} {p pos : Pos} {e : Expr} {es : List Expr} {t : TA} {id T : String} {r : List V → Hp → VK → Prop}

def tCB (r : List V → Hp → VK → Prop) (t : TA) : TE := fun σ H Q => t σ H fun vs H1 => r vs H1 Q
/-- f(e, ..), f a built-in function -/
theorem pe_callB (hc : CallR X (.builtin id) r) (hg : Gl X x) (hm : X.mg x = none) (hv : bootBuiltins x = some (.builtin id)) (ha : PA X (e :: es) t) (hn : x ≠ "__name__" := by decide) (hdb : (x == ("__debug__" : Str)) = false := by decide)
    (he : starEach (e :: es) X.env = (false, eval e X.env) :: starEach es X.env := by rfl) (hpl : (backTo pos (starEach es X.env)).any (·.1) = false := by rfl) : PE X (.Call (.Name x p) (e :: es) [] pos) (tCB r t) := by
  intro pins s σ H Q I h
  refine wpAny_Call_Name_kw (ld_blt I hg hm hv ?_ hn hdb)
  exact PyProof.Rows.callWith_builtin1 (thn (ha pos pins s σ H _ I h) fun us s1 ⟨vs, H1, I1, r1, q1⟩ => hc pins s1 σ H1 vs us Q I1 r1 q1) he hpl
/-- T(e, ..), T a built-in type -/
theorem pe_callTy (hc : CallR X (.type T) r) (hg : Gl X x) (hm : X.mg x = none) (hv : bootBuiltins x = some (.type T)) (ha : PA X (e :: es) t) (hn : x ≠ "__name__" := by decide) (hdb : (x == ("__debug__" : Str)) = false := by decide)
    (he : starEach (e :: es) X.env = (false, eval e X.env) :: starEach es X.env := by rfl) (hpl : (backTo pos (starEach es X.env)).any (·.1) = false := by rfl) : PE X (.Call (.Name x p) (e :: es) [] pos) (tCB r t) := by
  intro pins s σ H Q I h
  refine wpAny_Call_Name_kw (ld_blt I hg hm hv ?_ hn hdb)
  exact PyProof.Rows.callWith_type1 (thn (ha pos pins s σ H _ I h) fun us s1 ⟨vs, H1, I1, r1, q1⟩ => hc pins s1 σ H1 vs us Q I1 r1 q1) he hpl
end
end L2

namespace HT
open PySem PyProof.Rows

/-- t < u of tuples of ints -/
def lexLt : List Int → List Int → Bool
  | [], [] => false
  | [], _ :: _ => true
  | _ :: _, [] => false
  | x :: xs, y :: ys => if x = y then lexLt xs ys else decide (x < y)
section
open PySem.SeqAt
open PySem.AutoSeq1 (wpAny_loadPart')
open PySem.MeetsSeq PySem.MeetsSeq2 PySem.MeetsSeq3

end

section
variable {prog : Program} {w : World} {A : Around} {E : Value → Shared → Prop} {s : Shared}

/-! ### t[a:b], not the whole -/
/-- a slice's bound as a place among n (d where it is left out) -/
def sIx (n d : Nat) : Option Int → Nat
  | none => d
  | some v => if v < 0 then (v + (n : Int)).toNat else min v.toNat n
end
end HT

namespace L2
open PySem PySem.Spec PyProof.Rows

/-! ### the parts of a slice -/
abbrev TO := St → Hp → (Option Int → Hp → Prop) → Prop
/-- a slice's part (left out, or an int) -/
def PO (X : Cx) (e : Option Expr) (t : TO) : Prop :=
  ∀ (pins : List (Addr × Obj)) (s : Shared) (σ : St) (H : Hp) (Q : Option Int → Hp → Prop), Inv X pins σ H s → t σ H Q →
    wpAny (model X.prog X.w) X.A (evalPart e X.env) (fun u s' => ∃ o H', Inv X pins σ H' s' ∧ IsPart u o ∧ Q o H') X.xe s
def tNoPart : TO := fun _ H Q => Q none H
def tPart (t : TE) : TO := fun σ H Q => t σ H fun x H1 => ∃ i, x = .int i ∧ Q (some i) H1

theorem intsAre_of {ns : List Int} : ∀ {us : List Value}, Vals (ns.map V.int) us → IntsAre us ns := by
  induction ns with
  | nil => intro us r; rw [List.map_nil] at r; cases r; exact .nil
  | cons n ns ih =>
    intro us r
    rw [List.map_cons] at r
    cases r with
    | cons r1 r2 =>
      obtain ⟨t, e⟩ := r1
      subst e
      exact .cons n t (ih r2)

section
variable {X : Cx} {e : Expr} {te : TE} {lo hi : Option Expr} {tl th : TO} {pos p2 : Pos}

/-- what a slice of a value is, by values: the slice object stands at sl -/
def SlR (X : Cx) (r : V → Option Int → Option Int → Hp → VK → Prop) : Prop :=
  ∀ (pins : List (Addr × Obj)) (s : Shared) (σ : St) (H : Hp) (x : V) (v vl vu : Value) (lo hi : Option Int) (sl : Addr) (Q : VK), Inv X pins σ H s → RelV x v → s.heap.IsSliceOf sl vl vu .none → IsPart vl lo → IsPart vu hi → r x lo hi H Q →
    ∃ T id, typeLookup (.type T) "__getitem__" = pure (some (.builtin id)) ∧ s.TypeIs v T ∧ wpAny (model X.prog X.w) X.A (getItem v (.ref sl)) (EP X pins σ Q) X.xe s
theorem SlR.or {r r' : V → Option Int → Option Int → Hp → VK → Prop} (h : SlR X r) (h' : SlR X r') : SlR X (fun x lo hi H Q => r x lo hi H Q ∨ r' x lo hi H Q) := by
  intro pins s σ H x v vl vu lo hi sl Q I rx hs pl pu q
  rcases q with q | q
  · exact h pins s σ H x v vl vu lo hi sl Q I rx hs pl pu q
  · exact h' pins s σ H x v vl vu lo hi sl Q I rx hs pl pu q
def tSl (r : V → Option Int → Option Int → Hp → VK → Prop) (te : TE) (tl th : TO) : TE := fun σ H Q => te σ H fun x H1 => tl σ H1 fun l H2 => th σ H2 fun u H3 => r x l u H3 Q
/-- the items of xs[lo:hi] -/
def cutV (xs : List V) (lo hi : Option Int) : List V := (xs.drop (HT.sIx xs.length 0 lo)).take (HT.sIx xs.length xs.length hi - HT.sIx xs.length 0 lo)
/-- t[lo:hi], not the whole of it (the whole would be t itself) -/
def rSlT (K : PySem.W.Frag) : V → Option Int → Option Int → Hp → VK → Prop := fun x lo hi H Q => ∃ a xs, x = .ref a ∧ SqT K H a xs ∧
  ¬ (HT.sIx xs.length 0 lo = 0 ∧ HT.sIx xs.length xs.length hi = xs.length) ∧ ∀ p, H p = none → Q (.ref p) (upd H p (.tup (cutV xs lo hi)))
/-! ### t < u, t + u -/
def rLtT (K : PySem.W.Frag) : R2 := fun x y H Q => ∃ a b ns ms, x = .ref a ∧ y = .ref b ∧ SqT K H a (ns.map V.int) ∧ SqT K H b (ms.map V.int) ∧ Q (.bl (HT.lexLt ns ms)) H
/-- t + u, t not empty: u empty gives t itself -/
def rCatT (K : PySem.W.Frag) : R2 := fun x y H Q => ∃ a b xs ys, x = .ref a ∧ y = .ref b ∧ SqT K H a xs ∧ SqT K H b ys ∧ xs ≠ [] ∧ xs.length + ys.length ≤ sizeLine ∧
  (ys = [] → Q (.ref a) H) ∧ (ys ≠ [] → ∀ p, H p = none → Q (.ref p) (upd H p (.tup (xs ++ ys))))
end
end L2

namespace L2
open PySem PySem.Spec PyProof.Rows

/-! ### places -/
/-- the place that an index of any sign means -/
def ixN (n : Nat) (i : Int) : Option Nat := if 0 ≤ i then (if i < n then some i.toNat else none) else if -(n : Int) ≤ i then some (i + n).toNat else none
def atI {α : Type} (xs : List α) (i : Int) : Option α := (ixN xs.length i).bind fun j => xs[j]?
theorem ixN_seq {n : Nat} {i : Int} {j : Nat} (h : ixN n i = some j) : seqIndex? i n = some j ∧ j < n ∧ -(n : Int) ≤ i ∧ i < n := by
  unfold ixN at h
  by_cases h0 : 0 ≤ i
  · rw [if_pos h0] at h
    by_cases h1 : i < n
    · rw [if_pos h1] at h
      have e : i.toNat = j := Option.some.inj h
      exact ⟨by rw [seqIndex_of h0 h1, e], by omega, by omega, h1⟩
    · rw [if_neg h1] at h; cases h
  · rw [if_neg h0] at h
    by_cases h1 : -(n : Int) ≤ i
    · rw [if_pos h1] at h
      have e : (i + n).toNat = j := Option.some.inj h
      exact ⟨by rw [seqIndex_neg (by omega) h1, e], by omega, h1, by omega⟩
    · rw [if_neg h1] at h; cases h
theorem atI_get {α : Type} {xs : List α} {i : Int} {v : α} (h : atI xs i = some v) : ∃ j, seqIndex? i xs.length = some j ∧ xs[j]? = some v ∧ j < xs.length ∧ -(xs.length : Int) ≤ i ∧ i < xs.length := by
  unfold atI at h
  cases e : ixN xs.length i with
  | none => rw [e] at h; cases h
  | some j =>
    rw [e] at h
    obtain ⟨h1, h2, h3, h4⟩ := ixN_seq e
    exact ⟨j, h1, h, h2, h3, h4⟩
theorem atI_nat {α : Type} {xs : List α} {j : Nat} {v : α} (h : xs[j]? = some v) : atI xs (j : Int) = some v := by
  have hj : j < xs.length := (List.getElem?_eq_some_iff.mp h).1
  have e : ixN xs.length (j : Int) = some j := by
    unfold ixN
    rw [if_pos (by omega), if_pos (by omega)]; simp
  unfold atI; rw [e]; exact h
/-! ### what may be subscripted -/
/-- what stands as an index of a plain subscript -/
def PlainIx (b : Expr) : Prop := ∀ o i, subscripted b false o i = operate [o, i] (getItem o i)
/-- a subscript by values -/
def IxR (X : Cx) (r : R2) : Prop :=
  ∀ (value slice : Expr) (pins : List (Addr × Obj)) (s : Shared) (σ : St) (H : Hp) (x y : V) (v u : Value) (Q : VK), Inv X pins σ H s → RelV x v → RelV y u → r x y H Q →
    subscripted slice false v u = operate [v, u] (getItem v u) → wpAny (model X.prog X.w) X.A (subscriptTail value slice v u) (EP X pins σ Q) X.xe s
/-- a call of a builtin's method by values: the receiver, the arguments -/
def MtR (X : Cx) (id : String) (r : V → List V → Hp → VK → Prop) : Prop :=
  ∀ (pins : List (Addr × Obj)) (s : Shared) (σ : St) (H : Hp) (x : V) (xs : List V) (v : Value) (us : List Value) (Q : VK), Inv X pins σ H s → RelV x v → Vals xs us → r x xs H Q →
    wpAny (model X.prog X.w) X.A (call (.builtin id) (v :: us)) (EP X pins σ Q) X.xe s
section
variable {X : Cx} {a b : Expr} {ta tb : TE} {pos : Pos}
theorem IxR.or {r r' : R2} (h : IxR X r) (h' : IxR X r') : IxR X (fun x y H Q => r x y H Q ∨ r' x y H Q) := by
  intro value slice pins s σ H x y v u Q I rx ry q hs
  rcases q with q | q
  · exact h value slice pins s σ H x y v u Q I rx ry q hs
  · exact h' value slice pins s σ H x y v u Q I rx ry q hs
theorem MtR.or {id : String} {r r' : V → List V → Hp → VK → Prop} (h : MtR X id r) (h' : MtR X id r') : MtR X id (fun x xs H Q => r x xs H Q ∨ r' x xs H Q) := by
  intro pins s σ H x xs v us Q I rx rs q
  rcases q with q | q
  · exact h pins s σ H x xs v us Q I rx rs q
  · exact h' pins s σ H x xs v us Q I rx rs q
/-- a[b] -/
theorem pe_ix {r : R2} (hr : IxR X r) (ha : PE X a ta) (hb : PE X b tb) (hs : PlainIx b) : PE X (.Subscript a b pos) (tOp r ta tb) := by
  intro pins s σ H Q I h
  exact Subscript_ (binT ha hb I h fun v u s2 x y H2 I2 rx ry q => hr a b pins s2 σ H2 x y v u Q I2 rx ry q (hs _ _))

def rIxL (K : PySem.W.Frag) : R2 := fun x y H Q => ∃ p xs i v, x = .ref p ∧ y = .int i ∧ SqL K H p xs ∧ atI xs i = some v ∧ Q v H
def rIxT (K : PySem.W.Frag) : R2 := fun x y H Q => ∃ p xs i v, x = .ref p ∧ y = .int i ∧ SqT K H p xs ∧ atI xs i = some v ∧ Q v H
def rIxS : R2 := fun x y H Q => ∃ z i c, x = .str z ∧ y = .int i ∧ z.length ≤ sizeLine ∧ atI z.cps.toList i = some c ∧ Q (.str ⟨#[c]⟩) H
theorem ix_list : IxR X (rIxL X.K) := by
  intro value slice pins s σ H x y v u Q I rx ry h hs
  obtain ⟨p, xs, i, z, rfl, rfl, hq, he, q⟩ := h
  cases rx
  obtain ⟨t, rfl⟩ := ry
  obtain ⟨its, r, pl, hz⟩ := I.list hq
  obtain ⟨j, h1, h2, h3, h4, h5⟩ := atI_get he
  obtain ⟨w, ew, rw'⟩ := r.get h2
  have hl := r.length
  have hn := line63
  have fin : EP X pins σ Q w s := ⟨z, H, I, rw', q⟩
  by_cases h0 : 0 ≤ i
  · have hj : i.toNat = j := by
      rw [seqIndex_of h0 h5] at h1
      exact Option.some.inj h1
    exact item_listR pl.isList h0 (by omega) (by rw [hj]; simpa using ew) fin hs
  · have hj : (i + (its.toArray.size : Int)).toNat = j := by
      rw [seqIndex_neg (by omega) h4] at h1
      rw [List.size_toArray, ← hl]
      exact Option.some.inj h1
    exact subscriptTail_builtinR (x := w) pl.isList.typeIs slot_list_getitem.lookup
      (wpAny_getItem_list_neg (Q := fun r s' => r = w ∧ EP X pins σ Q r s') pl.isList (by omega) (by rw [List.size_toArray] <;> omega) (by omega) (by rw [hj]; simpa using ew) ⟨rfl, fin⟩) hs
theorem ix_tup : IxR X (rIxT X.K) := by
  intro value slice pins s σ H x y v u Q I rx ry h hs
  obtain ⟨p, xs, i, z, rfl, rfl, hq, he, q⟩ := h
  cases rx
  obtain ⟨t, rfl⟩ := ry
  obtain ⟨its, r, pl, hz⟩ := I.tuple hq
  obtain ⟨j, h1, h2, h3, h4, h5⟩ := atI_get he
  obtain ⟨w, ew, rw'⟩ := r.get h2
  have hl := r.length
  have hn := line63
  have fin : EP X pins σ Q w s := ⟨z, H, I, rw', q⟩
  exact subscriptTail_builtinR (x := w) pl.typeIs slot_tuple_getitem.lookup
    (getItem_tuple (j := j) (Q := fun r s' => r = w ∧ EP X pins σ Q r s') pl (by omega) (by omega) (by rw [List.size_toArray, ← hl]; exact h1) (by simpa using ew) ⟨rfl, fin⟩) hs
/-- list, tuple or str -/
def rIx (K : PySem.W.Frag) : R2 := fun x y H Q => rIxL K x y H Q ∨ rIxT K x y H Q ∨ rIxS x y H Q
/-! ### xs[i] = v, any sign -/
theorem Inv.lst {pins : List (Addr × Obj)} {σ : St} {H : Hp} {s : Shared} {p : Addr} {xs : List V} (I : Inv X pins σ H s) (h : H p = some (.lst xs)) :
    ∃ (its : List Value) (n : Nat), Vals xs its ∧ s.heap.get? p = some { cls := .type "list", data := .seq its.toArray n } ∧ xs.length ≤ sizeLine := by
  obtain ⟨z, its, n, r, e⟩ := I.hok p _ h
  exact ⟨its, n, r, e, z⟩
def rSetL : V → V → V → Hp → (Hp → Prop) → Prop := fun o i v H Q => ∃ p xs k j, o = .ref p ∧ i = .int k ∧ H p = some (.lst xs) ∧ ixN xs.length k = some j ∧ Q (upd H p (.lst (xs.set j v)))
/-! ### slices -/
/-- xs[lo:hi] of a list: a new list -/
def rSlL (K : PySem.W.Frag) : V → Option Int → Option Int → Hp → VK → Prop := fun x lo hi H Q => ∃ a xs, x = .ref a ∧ SqL K H a xs ∧ ∀ p, H p = none → Q (.ref p) (upd H p (.lst (cutV xs lo hi)))
/-! ### in, not in: flat items -/
def flatV : V → Bool
  | .non => true
  | .bl _ => true
  | .int _ => true
  | .str _ => true
  | _ => false
/-- == of flat values -/
def eqV : V → V → Bool
  | .non, .non => true
  | .bl a, .bl b => a == b
  | .bl a, .int b => (if a then 1 else 0) == b
  | .int a, .bl b => a == (if b then 1 else 0)
  | .int a, .int b => a == b
  | .str a, .str b => a == b
  | _, _ => false
theorem eqAt_V {A : Around} {s : Shared} {y x : V} {u v : Value} (ry : RelV y u) (rx : RelV x v) (fy : flatV y = true) (fx : flatV x = true) : SeqAt.EqAt A s u v (eqV y x) := by
  cases y with
  | non =>
    cases ry
    cases x with
    | non => cases rx; exact SeqAt.EqAt.same _
    | bl b => cases rx; exact SeqAt.EqAt.none_bool b
    | int b => obtain ⟨t, rfl⟩ := rx; exact SeqAt.EqAt.none_int b t
    | str b => obtain ⟨t, rfl⟩ := rx; exact SeqAt.EqAt.none_str b t
    | _ => exact absurd (show false = true from fx) Bool.false_ne_true
  | bl a =>
    cases ry
    cases x with
    | non => cases rx; exact SeqAt.EqAt.bool_none a
    | bl b => cases rx; exact SeqAt.EqAt.bool_bool a b
    | int b => obtain ⟨t, rfl⟩ := rx; exact SeqAt.EqAt.bool_int a b t
    | str b => obtain ⟨t, rfl⟩ := rx; exact SeqAt.EqAt.bool_str a b t
    | _ => exact absurd (show false = true from fx) Bool.false_ne_true
  | int a =>
    obtain ⟨t', rfl⟩ := ry
    cases x with
    | non => cases rx; exact SeqAt.EqAt.int_none a t'
    | bl b => cases rx; exact SeqAt.EqAt.int_bool a t' b
    | int b => obtain ⟨t, rfl⟩ := rx; exact SeqAt.EqAt.int_int a t' b t
    | str b => obtain ⟨t, rfl⟩ := rx; exact SeqAt.EqAt.int_str a t' b t
    | _ => exact absurd (show false = true from fx) Bool.false_ne_true
  | str a =>
    obtain ⟨t', rfl⟩ := ry
    cases x with
    | non => cases rx; exact SeqAt.EqAt.str_none a t'
    | bl b => cases rx; exact SeqAt.EqAt.str_bool a t' b
    | int b => obtain ⟨t, rfl⟩ := rx; exact SeqAt.EqAt.str_int a t' b t
    | str b => obtain ⟨t, rfl⟩ := rx; exact SeqAt.EqAt.str_str a t' b t
    | _ => exact absurd (show false = true from fx) Bool.false_ne_true
  | _ => exact absurd (show false = true from fy) Bool.false_ne_true
/-- the items' answers, read off the values (a value's own answer does not lean on its token) -/
def eqU (x : V) (u : Value) : Bool := match u with
  | .none => eqV .non x
  | .bool b => eqV (.bl b) x
  | .int i _ => eqV (.int i) x
  | .str z _ => eqV (.str z) x
  | _ => false
theorem eqU_of {x y : V} {u : Value} (r : RelV y u) (f : flatV y = true) : eqU x u = eqV y x := by
  cases y with
  | non => cases r; rfl
  | bl b => cases r; rfl
  | int i => obtain ⟨t, rfl⟩ := r; rfl
  | str z => obtain ⟨t, rfl⟩ := r; rfl
  | _ => exact absurd (show false = true from f) Bool.false_ne_true
theorem any_eqU {x : V} : ∀ {xs : List V} {us : List Value}, Vals xs us → xs.all flatV = true → us.any (eqU x) = xs.any fun y => eqV y x
  | _, _, .nil, _ => rfl
  | y :: xs, u :: us, .cons r t, f => by
    rw [List.all_cons, Bool.and_eq_true] at f
    rw [List.any_cons, List.any_cons, eqU_of r f.1, any_eqU t f.2]
theorem mem_eqAt {A : Around} {s : Shared} {x : V} {v : Value} (rx : RelV x v) (fx : flatV x = true) : ∀ {xs : List V} {us : List Value}, Vals xs us → xs.all flatV = true → ∀ u ∈ us, SeqAt.EqAt A s u v (eqU x u)
  | _, _, .nil, _ => fun u hu => by cases hu
  | y :: xs, u :: us, .cons r t, f => fun u' hu => by
    rw [List.all_cons, Bool.and_eq_true] at f
    rcases List.mem_cons.mp hu with rfl | hu
    · rw [eqU_of r f.1]; exact eqAt_V r rx f.1 fx
    · exact mem_eqAt rx fx t f.2 u' hu
def inV (x : V) (xs : List V) : Bool := xs.any fun y => eqV y x
/-- x in a list or tuple of flat items -/
def rIn (K : PySem.W.Frag) (neg : Bool) : R2 := fun x y H Q => ∃ p xs, y = .ref p ∧ (SqL K H p xs ∨ SqT K H p xs) ∧ flatV x = true ∧ xs.all flatV = true ∧ Q (.bl (if neg then !inV x xs else inV x xs)) H
theorem op_in_seq : OpR X (compareOp .In) (rIn X.K false) := by
  intro pins s σ H x y v u Q I rx ry h
  obtain ⟨p, xs, rfl, hq, fx, fs, q⟩ := h
  cases ry
  rcases hq with hq | hq
  · obtain ⟨its, r, pl, hz⟩ := I.list hq
    refine SeqAt.in_listAt (eqU x) pl.isList (fun w hw => mem_eqAt rx fx r fs w (by simpa using hw)) ⟨.bl _, H, I, rfl, ?_⟩
    rw [show its.toArray.any (eqU x) = its.any (eqU x) by simp, any_eqU r fs]
    exact q
  · obtain ⟨its, r, pl, hz⟩ := I.tuple hq
    refine SeqAt.in_tupleAt (eqU x) pl (fun w hw => mem_eqAt rx fx r fs w (by simpa using hw)) ⟨.bl _, H, I, rfl, ?_⟩
    rw [show its.toArray.any (eqU x) = its.any (eqU x) by simp, any_eqU r fs]
    exact q
theorem op_notIn_seq : OpR X (compareOp .NotIn) (rIn X.K true) := by
  intro pins s σ H x y v u Q I rx ry h
  obtain ⟨p, xs, rfl, hq, fx, fs, q⟩ := h
  cases ry
  rcases hq with hq | hq
  · obtain ⟨its, r, pl, hz⟩ := I.list hq
    refine SeqAt.notIn_listAt (eqU x) pl.isList (fun w hw => mem_eqAt rx fx r fs w (by simpa using hw)) ⟨.bl _, H, I, rfl, ?_⟩
    rw [show its.toArray.any (eqU x) = its.any (eqU x) by simp, any_eqU r fs]
    exact q
  · obtain ⟨its, r, pl, hz⟩ := I.tuple hq
    refine SeqAt.notIn_tupleAt (eqU x) pl (fun w hw => mem_eqAt rx fx r fs w (by simpa using hw)) ⟨.bl _, H, I, rfl, ?_⟩
    rw [show its.toArray.any (eqU x) = its.any (eqU x) by simp, any_eqU r fs]
    exact q
theorem op_notIn_str : OpR X (compareOp .NotIn) (fun x y H Q => ∃ i j, x = .str i ∧ y = .str j ∧ Q (.bl (!(!(Builtin.Str.occurrences j i 0 j.length 1).isEmpty))) H) := by
  intro pins s σ H x y v u Q I rx ry h
  obtain ⟨i, j, rfl, rfl, q⟩ := h
  obtain ⟨t, rfl⟩ := rx
  obtain ⟨t', rfl⟩ := ry
  exact notIn_str ⟨.bl _, H, I, rfl, q⟩

/-! ### len, list(x), tuple(x) of any list or tuple that is read -/
theorem call_len_seq : CallR X (.builtin "len") (fun xs H Q => ∃ p ys, xs = [.ref p] ∧ (SqL X.K H p ys ∨ SqT X.K H p ys) ∧ Q (.int ys.length) H) := by
  intro pins s σ H xs us Q I r h
  obtain ⟨p, ys, rfl, hq, q⟩ := h
  obtain ⟨u, rfl, rx⟩ := vals1 r
  cases rx
  have hn := line63
  rcases hq with hq | hq
  · obtain ⟨its, r', pl, hz⟩ := I.list hq
    have hlen := r'.length
    exact Calls.call_len_list pl.isList (by simp only [List.size_toArray] <;> omega) ⟨.int ys.length, H, I.tok _, ⟨s.toks + 1, by rw [List.size_toArray, hlen]⟩, q⟩
  · obtain ⟨its, r', pl, hz⟩ := I.tuple hq
    have hlen := r'.length
    exact len_tuple pl (by simp only [List.size_toArray] <;> omega) ⟨.int ys.length, H, I.tok _, ⟨s.toks + 1, by rw [List.size_toArray, hlen]⟩, q⟩
theorem call_len_str : CallR X (.builtin "len") (fun xs H Q => ∃ z, xs = [.str z] ∧ z.length ≤ sizeLine ∧ Q (.int z.length) H) := by
  intro pins s σ H xs us Q I r h
  obtain ⟨z, rfl, hz, q⟩ := h
  obtain ⟨u, rfl, t, rfl⟩ := vals1 r
  have hn := line63
  exact len_str (by omega) ⟨.int z.length, H, I.tok _, ⟨_, rfl⟩, q⟩
theorem CallR.or {f : Value} {r r' : List V → Hp → VK → Prop} (h : CallR X f r) (h' : CallR X f r') : CallR X f (fun xs H Q => r xs H Q ∨ r' xs H Q) := by
  intro pins s σ H xs us Q I rs q
  rcases q with q | q
  · exact h pins s σ H xs us Q I rs q
  · exact h' pins s σ H xs us Q I rs q
/-! ### the call of a builtin's method: o.m(..) -/
/-- the value is of that builtin type -/
def tyV (K : PySem.W.Frag) (T : String) (x : V) (H : Hp) : Prop := match x with
  | .str _ => T = "str"
  | .int _ => T = "int"
  | .ref p => (T = "list" ∧ ∃ xs, SqL K H p xs) ∨ (T = "tuple" ∧ ∃ o, K.lookup p = some o ∧ o.cls = .type "tuple" ∧ o.dict = none) ∨
      (T = "dict" ∧ ((∃ kvs, H p = some (.dK kvs)) ∨ ∃ kvs, H p = some (.dT kvs))) ∨ (T = "set" ∧ ∃ S n, H p = some (.set S n))
  | _ => False
theorem tyV_is {pins : List (Addr × Obj)} {σ : St} {H : Hp} {s : Shared} {T : String} {x : V} {v : Value} (I : Inv X pins σ H s) (r : RelV x v) (ty : tyV X.K T x H) :
    s.TypeIs v T ∧ ∀ a, v = .ref a → ∃ ob, s.heap.get? a = some ob ∧ ob.dict = none := by
  cases x with
  | str z =>
    obtain ⟨t, rfl⟩ := r
    cases (show T = "str" from ty)
    exact ⟨typeIs_str s z t, fun _ e => nomatch e⟩
  | int i =>
    obtain ⟨t, rfl⟩ := r
    cases (show T = "int" from ty)
    exact ⟨typeIs_int s i t, fun _ e => nomatch e⟩
  | ref p =>
    cases r
    rcases ty with ⟨rfl, xs, hq⟩ | ⟨rfl, o, hk, hc, hd⟩ | ⟨rfl, hk⟩ | ⟨rfl, S, n, hk⟩
    · obtain ⟨its, _, pl, _⟩ := I.list hq
      refine ⟨pl.isList.typeIs, fun a e => ?_⟩
      cases e
      obtain ⟨o, n, e, c, hd, _⟩ := pl
      exact ⟨o, e, hd⟩
    · refine ⟨⟨o, I.kIn p o hk, hc⟩, fun a e => ?_⟩
      cases e
      exact ⟨o, I.kIn _ o hk, hd⟩
    · have z : ∃ o, s.heap.get? p = some o ∧ o.ExactDict := by
        rcases hk with ⟨kvs, hk⟩ | ⟨kvs, hk⟩
        · obtain ⟨_, _, _, _, o, _, _, e, ex, _⟩ := I.hok p _ hk
          exact ⟨o, e, ex⟩
        · obtain ⟨_, _, _, _, o, _, _, e, ex, _⟩ := I.hok p _ hk
          exact ⟨o, e, ex⟩
      obtain ⟨o, e, ex⟩ := z
      refine ⟨⟨o, e, ex.1⟩, fun a e2 => ?_⟩
      cases e2
      exact ⟨o, e, ex.2.1⟩
    · obtain ⟨o, _, _, _, e, ex, _⟩ := I.hok p _ hk
      refine ⟨⟨o, e, ex.1⟩, fun a e2 => ?_⟩
      cases e2
      exact ⟨o, e, ex.2.1⟩
  | _ => exact False.elim ty
def tBM0 (K : PySem.W.Frag) (T : String) (r : V → List V → Hp → VK → Prop) (to : TE) : TE := fun σ H Q => to σ H fun x H1 => tyV K T x H1 ∧ r x [] H1 Q
def tBM (K : PySem.W.Frag) (T : String) (r : V → List V → Hp → VK → Prop) (to : TE) (t : TA) : TE := fun σ H Q => to σ H fun x H1 => tyV K T x H1 ∧ t σ H1 fun xs H2 => r x xs H2 Q
variable {o e : Expr} {es : List Expr} {to : TE} {t : TA} {name : Str} {apos cpos : Pos} {T id : String} {r : V → List V → Hp → VK → Prop}
theorem pe_bm (pa : PlainAttrs T) (slot : Slot T name id) (hty : typeOf (.builtin id) = pure (.type "method_descriptor")) (hm : MtR X id r) (ho : PE X o to) (ha : PA X (e :: es) t)
    (hbase : attributeBase o name X.env (eval o X.env) = eval o X.env := by rfl)
    (hfew : ((backTo cpos (starEach (e :: es) X.env)).all (fun x => !x.1) && (backToKw cpos (keywordEach [] X.env)).all (fun x => x.1.isSome)
      && decide ((e :: es).length + ([] : List Keyword).length + (if ([] : List Keyword).isEmpty then 0 else 1) < 30)) = true := by rfl)
    (hline : (apos.endLine == cpos.line) = true := by rfl) (hs : starEach (e :: es) X.env = (false, eval e X.env) :: starEach es X.env := by rfl) (hplain : (backTo cpos (starEach es X.env)).any (·.1) = false := by rfl) :
    PE X (.Call (.Attribute o name apos) (e :: es) [] cpos) (tBM X.K T r to t) := by
  intro pins s σ H Q I h
  refine wpAny_Call_method_late hbase hfew hline rfl (thn (ho pins s σ H _ I h) fun v s1 ⟨x, H1, I1, r1, ty, q1⟩ => ?_)
  obtain ⟨h1, h2⟩ := tyV_is I1 r1 ty
  refine ⟨T, id, pa, slot, hty, h1, h2, ?_⟩
  have hA := ha cpos pins s1 σ H1 _ I1 q1
  rw [hs] at hA ⊢
  refine Calls.callWith_builtin (by show (false || (backTo cpos (starEach es X.env)).any (·.1)) = false; rw [hplain] <;> rfl) (Calls.evalArgs_plain ?_)
  exact thn hA fun us s2 ⟨vs, H2, I2, r2, q2⟩ => hm pins s2 σ H2 x vs v us Q I2 r1 r2 q2
/- xs.append(e), list.index on a module's tuple .. are MtR facts of 06m -/
end
end L2

namespace L2
open PySem PySem.Spec PyProof.Rows

def MtM (X : Cx) (id : String) (r : V → List V → Hp → VK → Prop) : Prop :=
  ∀ (pins : List (Addr × Obj)) (s : Shared) (σ : St) (H : Hp) (x : V) (xs : List V) (v : Value) (us : List Value) (Q : VK), Inv X pins σ H s → RelV x v → Vals xs us → r x xs H Q →
    wpAny (model X.prog X.w) X.A (call (.builtin id) (v :: us)) (EP X pins σ Q) X.xe s

/-! ### lists of values -/
theorem Vals.one : ∀ {x : V} {us : List Value}, Vals [x] us → ∃ u, us = [u] ∧ RelV x u
  | _, _, .cons r .nil => ⟨_, rfl, r⟩
theorem Vals.two : ∀ {x y : V} {us : List Value}, Vals [x, y] us → ∃ u v, us = [u, v] ∧ RelV x u ∧ RelV y v
  | _, _, _, .cons r (.cons q .nil) => ⟨_, _, rfl, r, q⟩
theorem Vals.zero : ∀ {us : List Value}, Vals [] us → us = []
  | _, .nil => rfl
theorem Vals.dropLast {xs : List V} {us : List Value} (h : Vals xs us) : Vals xs.dropLast us.dropLast := by
  induction h with
  | nil => exact .nil
  | cons r t ih =>
    cases t with
    | nil => exact .nil
    | cons q t' => exact .cons r ih
theorem Vals.eraseIdx : ∀ {xs : List V} {us : List Value} (i : Nat), Vals xs us → Vals (xs.eraseIdx i) (us.eraseIdx i)
  | _, _, _, .nil => .nil
  | _, _, 0, .cons _ t => t
  | _, _, i + 1, .cons r t => .cons r (Vals.eraseIdx i t)
theorem Vals.reverse {xs : List V} {us : List Value} (h : Vals xs us) : Vals xs.reverse us.reverse := by
  induction h with
  | nil => exact .nil
  | cons r t ih => rw [List.reverse_cons, List.reverse_cons]; exact Vals.append ih (.cons r .nil)
theorem foldl_rep (its : List Value) : ∀ (k : Nat) (acc : List Value),
    List.foldl (fun x1 x2 => x1 ++ x2) acc.toArray (List.replicate k its.toArray) = (acc ++ (List.replicate k its).flatten).toArray
  | 0, acc => by simp
  | k + 1, acc => by
    have e : acc.toArray ++ its.toArray = (acc ++ its).toArray := by simp
    have e2 : (acc ++ its) ++ (List.replicate k its).flatten = acc ++ (List.replicate (k + 1) its).flatten := by
      rw [List.replicate_succ, List.flatten_cons, List.append_assoc]
    rw [← e2, ← foldl_rep its k (acc ++ its), ← e, List.replicate_succ, List.foldl_cons]

section
variable {X : Cx} {pins : List (Addr × Obj)} {σ : St} {H : Hp} {s : Shared} {l b : Addr} {xs ys zs : List V}

/-! ### the two steps: a tracked list is rewritten, a new list is laid -/
theorem Inv.lset {its its' : List Value} {n : Nat} {f : Array Value → Array Value} {t' : Nat} (I : Inv X pins σ H s) (hH : H l = some (.lst xs))
    (e : s.heap.get? l = some { cls := .type "list", data := .seq its.toArray n }) (hf : f its.toArray = its'.toArray) (hv : Vals ys its') (hz : ys.length ≤ sizeLine) :
    Inv X pins σ (upd H l (.lst ys)) { s with heap := s.heap.update l (Obj.mapSeq f), toks := t' } := by
  have q := PySem.IsL.update e f
  rw [hf] at q
  refine I.write (x := l) (e := l) (by rw [hH]; exact trivial) (.inl rfl) (fun b' u hb hu => (Heap.get?_update_other s.heap (Obj.mapSeq f) (Ne.symm hb)).trans hu) ⟨_, q⟩ ?_
  exact ⟨hz, its', _, hv, q⟩
theorem Inv.fresh (I : Inv X pins σ H s) : H s.heap.objs.size = none := I.hok.fresh (Nat.le_refl _)
theorem Inv.lstM (I : Inv X pins σ H s) (hH : H l = some (.lst xs)) : xs.length ≤ sizeLine ∧ ∃ (its : List Value) (n : Nat), Vals xs its ∧ xs.length = its.length ∧ s.heap.get? l = some { cls := .type "list", data := .seq its.toArray n } := by
  obtain ⟨z, its, n, r, e⟩ := I.hok l _ hH
  exact ⟨z, its, n, r, r.length, e⟩

theorem notLongL {n : Nat} (h : n ≤ sizeLine) : Builtin.List.listTooLong n = false := by
  unfold Builtin.List.listTooLong
  exact decide_eq_false (by omega)
end

section
variable {X : Cx}

/-! ### methods -/
def rAppend : V → List V → Hp → VK → Prop := fun x vs H Q => ∃ l xs y, x = .ref l ∧ vs = [y] ∧ H l = some (.lst xs) ∧ xs.length < sizeLine ∧ Q .non (upd H l (.lst (xs ++ [y])))
def rExtend : V → List V → Hp → VK → Prop := fun x vs H Q => ∃ l b xs zs, x = .ref l ∧ vs = [.ref b] ∧ H l = some (.lst xs) ∧ H b = some (.lst zs) ∧ xs.length + zs.length ≤ sizeLine ∧ Q .non (upd H l (.lst (xs ++ zs)))
theorem mt_extend : MtM X "list.extend" rExtend := by
  intro pins s σ H x vs v us Q I rx rv h
  obtain ⟨l, b, xs, zs, rfl, rfl, hH, hB, hz, q⟩ := h
  cases rx
  obtain ⟨u, rfl, ru⟩ := rv.one
  cases ru
  obtain ⟨z, its, n, r, hl, e⟩ := I.lstM hH
  obtain ⟨z2, its2, n2, r2, hl2, e2⟩ := I.lstM hB
  have hsz : its.toArray.size + its2.toArray.size ≤ sizeLine := by rw [List.size_toArray, List.size_toArray]; omega
  have hlong : ¬ (!its.toArray.isEmpty && Builtin.List.listTooLong (its.toArray.size + its2.toArray.size)) = true := by
    rw [notLongL hsz, Bool.and_false]
    exact Bool.false_ne_true
  refine call_meets F.slot_list_extend ⟨_, e, rfl⟩ F.entry_list_extend (F.args_list_extend_2 _ _)
    (AutoSeq1.list_extend_list_list_0 l its.toArray n b its2.toArray n2 hlong (by rw [List.size_toArray]; omega) (by omega)) ⟨e, e2, ?_⟩
  refine ⟨.non, _, I.lset (its' := its ++ its2) hH e (by simp) (r.append r2) ?_, rfl, q⟩
  rw [List.length_append]
  omega

def rPop : V → List V → Hp → VK → Prop := fun x vs H Q => ∃ l xs y, x = .ref l ∧ vs = [] ∧ H l = some (.lst xs) ∧ xs[xs.length - 1]? = some y ∧ Q y (upd H l (.lst xs.dropLast))
def rPopAt : V → List V → Hp → VK → Prop := fun x vs H Q => ∃ l xs i k y, x = .ref l ∧ vs = [.int i] ∧ H l = some (.lst xs) ∧ -(2 ^ 63) ≤ i ∧ i < 2 ^ 63 ∧ seqIndex? i xs.length = some k ∧ xs[k]? = some y ∧ Q y (upd H l (.lst (xs.eraseIdx k)))
def rReverse : V → List V → Hp → VK → Prop := fun x vs H Q => ∃ l xs, x = .ref l ∧ vs = [] ∧ H l = some (.lst xs) ∧ Q .non (upd H l (.lst xs.reverse))
def rClear : V → List V → Hp → VK → Prop := fun x vs H Q => ∃ l xs, x = .ref l ∧ vs = [] ∧ H l = some (.lst xs) ∧ Q .non (upd H l (.lst []))
/-! ### list + list, list += list, list * int -/
def rCat : R2 := fun x y H Q => ∃ l b xs zs, x = .ref l ∧ y = .ref b ∧ H l = some (.lst xs) ∧ H b = some (.lst zs) ∧ xs.length + zs.length ≤ sizeLine ∧ ∀ p, H p = none → Q (.ref p) (upd H p (.lst (xs ++ zs)))
/-- a list times an int (a negative one is nothing) -/
def rRep : R2 := fun x y H Q => ∃ l k xs, x = .ref l ∧ y = .int k ∧ H l = some (.lst xs) ∧ -(2 ^ 63) ≤ k ∧ k < 2 ^ 63 ∧ xs.length * k.toNat ≤ sizeLine ∧
  ∀ p, H p = none → Q (.ref p) (upd H p (.lst (List.replicate k.toNat xs).flatten))
theorem len_rep {α : Type} (xs : List α) (k : Nat) : (List.replicate k xs).flatten.length = k * xs.length := by
  induction k with
  | zero => simp
  | succ k ih => rw [List.replicate_succ, List.flatten_cons, List.length_append, ih, Nat.succ_mul, Nat.add_comm]
/-! ### del xs[i] -/
end

/-! ### xs[a:b] = ys -/
section
variable {prog : Program} {w : World} {A : Around} {E : Value → Shared → Prop} {s : Shared}
theorem bounds_run {a c n : Nat} (hac : a ≤ c) (hc : c ≤ n) : sliceBounds (some (a : Int)) (some (c : Int)) none n = ((a : Int), (c : Int), 1) := by
  simp only [sliceBounds, Option.getD_none]
  have h1 : ¬ ((a : Int) < 0) := by omega
  have h2 : ¬ ((c : Int) < 0) := by omega
  simp only [h1, h2, if_false, show (1 : Int) > 0 by decide, if_true]
  congr 1
  · omega
  · congr 1; omega
set_option maxRecDepth 100000 in
/-- list.__setitem__ with a slice of step one and another list -/
theorem setItem_slice {l b sl : Addr} {items new : Array Value} {n n2 : Nat} {vl vu : Value} {a c : Nat} {Q : Unit → Shared → Prop}
    (e : s.heap.get? l = some { cls := .type "list", data := .seq items n }) (e2 : s.heap.get? b = some { cls := .type "list", data := .seq new n2 }) (hne : l ≠ b)
    (hs : s.heap.IsSliceOf sl vl vu .none) (pl : IsPart vl (some (a : Int))) (pu : IsPart vu (some (c : Int))) (hac : a ≤ c) (hc : c ≤ items.size)
    (hsz : items.size + new.size ≤ sizeLine) (h : Q () { s with heap := s.heap.update l (Obj.mapSeq fun xs => xs.extract 0 a ++ new ++ xs.extract c xs.size) }) :
    wpAny (model prog w) A (setItem (.ref l) (.ref sl) (.ref b)) Q E s := by
  have hl : s.heap.IsList l items := PySem.IsL.isList e
  have hb : s.heap.IsList b new := PySem.IsL.isList e2
  obtain ⟨os, hos, hcs, hds⟩ := id hs
  have hTs : s.TypeIs (.ref sl) "slice" := ⟨os, hos, hcs⟩
  have hstep : ¬ ((rawPart none == rawInt 0) = true) := Bool.false_ne_true
  have hsame : Builtin.List.listSameRef (.ref l) (.ref b) = false := by
    unfold Builtin.List.listSameRef
    exact beq_eq_false_iff_ne.mpr hne
  have hmax : (max (a : Int) (c : Int)).toNat = c := by omega
  have hz' : ((fun xs : Array Value => xs.extract 0 a ++ new ++ xs.extract c xs.size) items).size ≤ sizeLine + 1 := by
    simp only [Array.size_append, Array.size_extract]
    omega
  unfold setItem
  try with_reducible refine wpAny_holding ?_
  first | refine wpAny_bind (wpAny_pure ?_) | skip
  refine wpAny_bind (wpAny_sequenceKey hl.typeIs (by decide) ?_)
  refine wpAny_bind (wpAny_callSpecial?_slot (name := Str.ofString "__setitem__") hl.typeIs slot_list_setitem
    (wpAny_call_entry slot_list_setitem hl.typeIs entry_list_setitem ?_ (args_list_setitem _ _ _)))
  show wpAny _ _ (Builtin.List.listSubscript? (.ref sl) >>= _) _ _ s
  refine wpAny_bind ?_
  unfold Builtin.List.listSubscript?
  refine wpAny_bind (wpAny_specialOf hTs slice_no_index ?_)
  simp only [Option.isNone_none, if_true]
  refine wpAny_pure ?_
  show wpAny _ _ (typeOf (.ref sl) >>= _) _ _ s
  refine wpAny_bind (wpAny_typeOf hTs ?_)
  first
    | rw [if_neg (by decide)]
    | refine PySem.W.KFB.if_not (by decide) ?_
  rw [listSliceParts_eq]
  refine wpAny_bind (wpAny_bind (wpAny_field hos hds (x := .none) rfl (wpAny_bind (wpAny_listPart .none ?_))))
  rw [if_neg hstep]
  refine wpAny_bind (wpAny_field hos hds (x := vl) rfl (wpAny_bind (wpAny_listPart pl ?_)))
  refine wpAny_bind (wpAny_field hos hds (x := vu) rfl (wpAny_bind (wpAny_listPart pu (wpAny_pure ?_))))
  first
    | simp only [hsame, Bool.false_eq_true, if_false]
    | refine PySem.W.KFB.if_not hsame ?_
    | (dsimp only
       rw [if_neg (by rw [hsame]; exact Bool.false_ne_true)])
  refine wpAny_bind (m := Builtin.List.listAllItems (.ref b) "must assign iterable to extended slice") ?_
  unfold Builtin.List.listAllItems
  refine wpAny_bind (wpAny_typeOf hb.typeIs ?_)
  first
    | refine PySem.W.KFB.if_so (by decide) ?_
    | rw [if_pos (by decide)]
    | simp only [beq_self_eq_true, Bool.true_or, if_true]
  unfold Builtin.List.listItems
  refine wpAny_bind (wpAny_seqItems e2 rfl (wpAny_pure ?_))
  refine wpAny_bind (wpAny_bind (wpAny_seqItems e rfl (wpAny_pure ?_)))
  refine wpAny_bind (wpAny_of_eq ((sliceIndices_raw (some (a : Int)) (some (c : Int)) none items.size (by simp)).trans (congrArg (pure : Int × Int × Int → Sem (Int × Int × Int)) (bounds_run hac hc))) ?_)
  show wpAny _ _ (if ((1 : Int) == 1) = true then _ else _) _ _ s
  rw [if_pos (by decide)]
  refine wpAny_bind (wpAny_rule ?_)
  first
    | simp only [notLongL hsz, Bool.false_eq_true, if_false]
    | refine PySem.W.KFB.if_not (notLongL hsz) ?_
  first | refine wpAny_bind (wpAny_pure ?_) | skip
  show wpAny _ _ (updateSeq l (fun xs => xs.extract 0 ((a : Int)).toNat ++ new ++ xs.extract (max (a : Int) (c : Int)).toNat xs.size) >>= _) _ _ s
  rw [hmax, Int.toNat_natCast]
  refine wpAny_bind (wpAny_updateSeq (hz := Nat.le_trans (Nat.le_add_right _ _) hsz) (_hz' := hz') e rfl ?_)
  refine wpAny_bind (wpAny_letGo ?_)
  first
    | exact wpAny_bind (wpAny_pure (wpAny_pure ⟨.none, rfl, wpAny_pure h⟩))
    | exact wpAny_pure ⟨.none, rfl, wpAny_pure h⟩
end

section
variable {X : Cx}
end
end L2

namespace Att
open PySem PySem.W PySem.Calls PyProof.Rows

/-! ### the script -/
theorem ints_of_wellAll {P : Params} {h : Heap} : ∀ (ns : List Int) (vs : List Value), WellAll P h vs (ns.map WData.int) → IntsAre vs ns := by
  intro ns
  induction ns with
  | nil =>
    intro vs w
    rw [List.map_nil] at w
    cases w
    exact .nil
  | cons n ns ih =>
    intro vs w
    rw [List.map_cons] at w
    cases w with
    | cons a b =>
      cases a
      exact .cons _ _ (ih _ b)

theorem script_of {l : OpenLaw} {n : Nat} (hn : l.most = some n) {P : Params} {h : Heap} {args : List WData} {vals : List Value}
    (hpre : l.row.toRowW.claim.pre args = true) (hwl : WellAll P h vals args) :
    ∃ a vs ns, vals = [Value.ref a] ∧ args = [WData.list (ns.map WData.int)] ∧ h.get? a = some { cls := .type "list", data := .seq vs.toArray } ∧ IntsAre vs ns ∧ ns.length ≤ n := by
  have hsh : WShape.hasAll [] args [.list .int] = true := (pre_splitW hpre).1
  have hc : l.pre.holds [] { args := args } = true := (pre_splitW hpre).2
  obtain ⟨d, r, rfl, h1, h2⟩ := hasAllW_cons hsh
  obtain rfl := hasAllW_nil h2
  obtain ⟨xs, rfl, h3⟩ := hasW_list h1
  obtain ⟨ns, rfl⟩ := items_int h3
  have hlen : ns.length ≤ n := by
    unfold OpenLaw.pre at hc
    have h4 : (WTm.not (.lt (.lit (.int (n : Int))) (.len (.arg 0)))).holds [] { args := [.list (ns.map .int)] } = true := by
      have h4 := (holds_andW hc).1
      rw [hn] at h4
      exact h4
    have h5 := condW_of h4 (w_not (w_lt w_lit (w_len_list (w_arg rfl))))
    rw [List.length_map] at h5
    refine Nat.le_of_not_lt fun q => ?_
    have q' : (n : Int) < ((ns.length : Nat) : Int) := by omega
    first
      | (rw [decide_eq_true q'] at h5; exact absurd h5 (by decide))
      | (simp at h5; omega)
  cases hwl with
  | cons w1 w2 =>
    cases w2
    cases w1 with
    | list ho hall => exact ⟨_, _, ns, rfl, rfl, ho, ints_of_wellAll ns _ hall, hlen⟩

theorem post_true (l : OpenLaw) (args : List WData) : l.row.toRowW.claim.post args (.bool true) args = true :=
  postW_of (r := l.row.toRowW) (X := (true == true))
    (show WShape.has [] (.bool true) .bool = true by first | rfl | decide | simp [WShape.has, WShape.arms, WShape.armsAll])
    (show (WTm.eq .res (.lit (.bool true))).value [] { args := args, res := some (.bool true), after := args } = some (.bool (true == true)) from w_eq_bool (w_res rfl) w_lit) rfl

/-! ### the attachment: holds_open's last premise (the goal 'hc' behind k_head) from a wpAny of the law's body -/
/-- the same from a codeAny of the CALL (for a layer whose function contracts speak of calls) -/
theorem attach_call {l : OpenLaw} {n : Nat} {q : Program} {loose : List Str} {XP : (Str → Option Value) → Heap → Prop} {YP : World → Heap → Prop} {d : DefRec}
    (hn : l.most = some n) (hdf : d.params.defaults = [])
    (call : ∀ (w : World) (s₀ s₁ : Shared) (mg mb : Str → Option Value) (fa : Addr) (o : Obj) (pm cd doc : Value) (a : Addr) (vs : List Value) (ns : List Int),
      Ground q loose [] XP w s₀ mg mb s₁.heap → YP w s₁.heap →
      s₁.heap.get? fa = some o → o.data = .func (docDef d.name d.params d.body d.scope pm cd doc) → s₁.heap.CodeRec cd d.name → mg d.name = some (.ref fa) →
      s₁.heap.get? a = some { cls := .type "list", data := .seq vs.toArray } → IntsAre vs ns → ns.length ≤ n → s₁.gens = #[] →
      codeAny (model l.prog w) callerA (.call (.ref fa) ⟨[.ref a], []⟩) (fun r s' => r = .ok (.ret (.bool true)) ∧ OldK s₁.heap s'.heap ∧ s'.os = s₁.os ∧ AllBare s'.gens) s₁) :
    WalkO q loose XP YP l.row.toRowW d [] (fun f vs => PySem.call f vs) := by
  intro w s₀ s₁ mg mb G Y fa o pm cd doc dV kV ho hd hcd hD hmg hg args vals as hpre hlay hrd hwl hlo
  obtain rfl : dV = .none := Dflts.none hD hdf
  obtain rfl : kV = .none := Dflts.noKw hD
  obtain ⟨a, vs, ns, rfl, rfl, hobj, hints, hlen⟩ := script_of hn hpre hwl
  refine enter_call (codeAny_mono (call w s₀ s₁ mg mb fa o pm cd doc a vs ns G Y ho (fd_plain hd) hcd hmg hobj hints hlen hg) fun r s' hq => ?_)
  obtain ⟨rfl, h2, h3, h4⟩ := hq
  exact ⟨.inl ⟨.bool true, .bool true, [], rfl, fun _ => rfl, .bool true, post_true l _, fun _ => ⟨List.Pairwise.nil, fun _ hm => (nomatch hm)⟩⟩, h2, h3, h4⟩

/-! ### rules over ANY heap (no ledger) from facts about the written part K: the library's own take a ledger (News) for what they write -/
section
variable {prog : Program} {w : World} {A : Around} {E : Value → Shared → Prop} {s : Shared} {K : Frag}

/-! the whole heap as the ledger: makes every rule that writes through a ledger a rule over any heap -/
def noObjs (h : Heap) : Heap := { h with objs := #[] }
def ledger (h : Heap) (L d : Addr) : List (Addr × Obj) := (List.range h.objs.size).filterMap fun a => if a = L ∨ a = d then none else (h.get? a).map fun o => (a, o)
end
end Att

namespace L2
open PySem PySem.Spec PyProof.Rows

theorem vals_ints : ∀ {vs : List Value} {ns : List Int}, IntsAre vs ns → Vals (ns.map V.int) vs
  | _, _, .nil => .nil
  | _, _, .cons n t h => .cons ⟨t, rfl⟩ (vals_ints h)

/-- nothing is tracked but the script, known to the object (or it is an object of the module) -/
def Only (H : Hp) : Prop := ∀ b, H b = none ∨ ∃ o xs, H b = some (.frz o (.lst xs))

/-- THE HEAD: the law's promise, at the heap behind the top. F, the promise of the law's def, may use that base is part of the heap (so K.In base, base.Ns mainGlobals mg stand in Mod) -/
theorem law_call {P : Program} {w : World} {K : PySem.W.Frag} {mg mb : Str → Option Value} {CX : CXT} {k : Nat} {fa a : Addr} {fd : FuncData} {x : Str} {sp : Sp} {s₁ : Shared} {vs : List Value} {ns : List Int}
    (KX : K.In s₁.heap) (hns : s₁.heap.Ns mainGlobals mg) (hb : s₁.heap.Ns builtinsNs mb) (hbb : ∀ x : Str, x ≠ "__name__" → mb x = bootBuiltins x) (hlim : s₁.heap.NoLimit) (hg : s₁.gens = #[])
    (ha : s₁.heap.get? a = some { cls := .type "list", data := .seq vs.toArray }) (hi : IntsAre vs ns) (hl : ns.length ≤ sizeLine) (hr : Room k callerA)
    (F : ∀ base : Heap, K.In base → base.Ns mainGlobals mg → FnOk P w K mg base CX k fa fd [x] sp) (hbind : ∀ (s : Shared) (u : Value), BindsTo s fd ⟨[u], []⟩ [(x, u)])
    (hsp : ∀ H : Hp, Only H → SqL K H a (ns.map V.int) → sp [.ref a] H (fun v _ => v = .bl true) fun _ _ _ => False)
    (hCX : ∀ H e s', CX [] H s₁ (fun _ _ _ => False) e s' → False) :
    codeAny (model P w) callerA (.call (.ref fa) ⟨[.ref a], []⟩) (fun r s' => r = .ok (.ret (.bool true)) ∧ OldK s₁.heap s'.heap ∧ s'.os = s₁.os ∧ AllBare s'.gens) s₁ := by
  have rv := vals_ints hi
  have lenV := hi.length
  -- from an abstract heap in which nothing but the script may be tracked
  have core : ∀ H : Hp, Only H → SqL K H a (ns.map V.int) → HOk P w H s₁.heap → (∀ b, H b ≠ none → b = a) → (H a ≠ none → K.lookup a = none) →
      codeAny (model P w) callerA (.call (.ref fa) ⟨[.ref a], []⟩) (fun r s' => r = .ok (.ret (.bool true)) ∧ OldK s₁.heap s'.heap ∧ s'.os = s₁.os ∧ AllBare s'.gens) s₁ := by
    intro H hO hS hok hA hK
    have base_of : ∀ {b : Addr} {o : Obj}, s₁.heap.get? b = some o → H b = none → (hidT s₁.heap H).get? b = some o := fun e n => hidT_get e n
    have noA : ∀ {b : Addr} {o : Obj} {es : Array DictEntry} {ep : Nat}, s₁.heap.get? b = some o → o.data = .dict es ep → H b = none := fun {b o es ep} e d => by
      cases q : H b with
      | none => rfl
      | some u =>
        have e' : b = a := hA b (by rw [q]; simp)
        subst e'
        rw [ha] at e; cases e
        have d' : Data.seq vs.toArray _ = Data.dict es ep := d
        cases d'
    have nsK : ∀ {b : Addr} {m : Str → Option Value}, s₁.heap.Ns b m → (hidT s₁.heap H).Ns b m := fun {b m} ⟨o, es, ep, e, d, r⟩ => ⟨o, es, ep, base_of e (noA e d), d, r⟩
    have hKb : K.In (hidT s₁.heap H) := fun b o e => base_of (KX b o e) (by
      cases q : H b with
      | none => rfl
      | some u =>
        have e' : b = a := hA b (by rw [q]; simp)
        subst e'
        rw [hK (by rw [q]; simp)] at e; cases e)
    have hM : Mod K mg (hidT s₁.heap H) := ⟨hKb, nsK hns, ⟨mb, nsK hb, hbb⟩, let ⟨mc, h1, h2⟩ := hlim; ⟨mc, nsK h1, h2⟩⟩
    have e0 : Env0 P w K mg (hidT s₁.heap H) callerA [] s₁ H := ⟨rfl, hM, fun b o e => of_hidT e, Nat.le_of_eq (hidT_size _ _), trivial, fun b hb => absurd (show b ∈ ([] : List Addr) from hb) (by simp), hok, .of_eq hg⟩
    refine codeAny_mono ((F _ hKb (nsK hns)).run callerA [] s₁ H ⟨[.ref a], []⟩ [.ref a] [.ref a] _ _ hr e0 (hbind s₁ (.ref a)) (.cons rfl .nil) (hsp H hO hS)) fun r s' h => ?_
    cases r with
    | error e => exact (hCX H e s' h).elim
    | ok fl =>
      cases fl with
      | next => exact False.elim h
      | brk => exact False.elim h
      | cont => exact False.elim h
      | ret u =>
        obtain ⟨v, H', os, bare, un, hok', r', q⟩ := h
        have q' : v = .bl true := q
        subst q'
        obtain rfl : u = Value.bool true := r'
        refine ⟨rfl, OldK.of_keep fun b o e => ?_, os, bare⟩
        cases q : H b with
        | none => exact un.keep b o e q (by intro z; exact absurd (show b ∈ ([] : List Addr) from z) (by simp)) (by simp)
        | some u =>
          rcases hO b with z | ⟨ob, xs, z⟩
          · rw [q] at z; cases z
          · have z2 := un.frzs b ob _ z
            obtain ⟨e1, _⟩ := hok b _ z
            obtain ⟨e2, _⟩ := hok' b _ z2
            rw [e] at e1; cases e1
            exact e2
  cases hk : K.lookup a with
  | some o =>
    -- the script is one of the module's own objects
    have e := KX a o hk
    rw [ha] at e
    cases e
    refine core (fun _ => none) (fun _ => .inl rfl) (.inr ⟨_, vs.toArray, _, hk, rfl, rfl, rfl, by rw [List.size_toArray, lenV]; exact hl, by simpa using rv⟩) (fun b u z => by have z' : (none : Option HO) = some u := z; cases z') (fun b z => absurd rfl z) fun z => absurd rfl z
  | none =>
    refine core (fun b => if b = a then some (.frz { cls := .type "list", data := .seq vs.toArray } (.lst (ns.map V.int))) else none) (fun b => ?_) (.inl (.inr ⟨{ cls := .type "list", data := .seq vs.toArray }, if_pos rfl⟩)) (fun b u z => ?_) (fun b z => ?_) fun _ => hk
    · by_cases hb : b = a
      · exact .inr ⟨_, _, if_pos hb⟩
      · exact .inl (if_neg hb)
    · by_cases hb : b = a
      · have z' := (if_pos hb).symm.trans z
        cases z'
        subst hb
        exact ⟨ha, by rw [List.length_map]; exact hl, vs, _, rv, ha⟩
      · have z' := (if_neg hb).symm.trans z
        cases z'
    · by_cases hb : b = a
      · exact hb
      · exact absurd (if_neg hb) z
end L2

namespace L2
open PySem PySem.Spec PyProof.Rows

abbrev KOf {K : PySem.W.Frag} {h : Heap} (_ : K.In h) : PySem.W.Frag := K

/-- the goal that k_head leaves (case hc), from the law's promise. F gives the function object fd (K's own) once, then the promise over every base -/
theorem walk_of {l : PySem.W.OpenLaw} {n k : Nat} {q : Program} {loose : List Str} {XP : (Str → Option Value) → Heap → Prop} {YP : World → Heap → Prop} {d : DefRec} {K : Params → PySem.W.Frag} {CX : World → CXT} {sp : World → Sp} {x : Str}
    (hn : l.most = some n) (hn2 : n ≤ sizeLine) (hdf : d.params.defaults = []) (hr : Room k callerA)
    (hY : ∀ (w : World) (h : Heap), YP w h → (K w.params).In h)
    (F : ∀ (w : World) (mg : Str → Option Value) (fa : Addr) (h : Heap), (K w.params).In h → h.Ns mainGlobals mg → mg d.name = some (.ref fa) →
      ∃ fd : FuncData, (∀ (s : Shared) (u : Value), BindsTo s fd ⟨[u], []⟩ [(x, u)]) ∧
        ∀ base : Heap, (K w.params).In base → base.Ns mainGlobals mg → FnOk l.prog w (K w.params) mg base (CX w) k fa fd [x] (sp w))
    (hsp : ∀ (w : World) (H : Hp) (a : Addr) (ns : List Int), ns.length ≤ n → Only H → SqL (K w.params) H a (ns.map V.int) → sp w [.ref a] H (fun v _ => v = .bl true) fun _ _ _ => False)
    (hCX : ∀ (w : World) (H : Hp) (s : Shared) (e : Value) (s' : Shared), CX w [] H s (fun _ _ _ => False) e s' → False) :
    PySem.W.WalkO q loose XP YP l.row.toRowW d [] (fun f vs => PySem.call f vs) := by
  refine Att.attach_call hn hdf fun w s₀ s₁ mg mb fa o pm cd doc a vs ns G Y ho hd hcd hmg hobj hints hlen hg => ?_
  have KX := hY w _ Y
  obtain ⟨fd, hb, hF⟩ := F w mg fa _ KX G.T.g hmg
  exact law_call KX G.T.g G.T.b G.T.builtins G.T.nolimit hg hobj hints (Nat.le_trans hlen hn2) hr hF hb (fun H hO hS => hsp w H a ns hlen hO hS) fun H e s' => hCX w H s₁ e s'
end L2

/- THE LAST THEOREM (shape; LID, My.* are yours):
   My.Adr: a structure of the addresses that your layer names (classes, functions); My.Txt K t: a structure (Prop) of the equations over K;
   My.txt_mk : {K} {implicit addresses ..} (e1 : nsIn K mainGlobals "law" = some (some (.ref f))) (e2 : K.lookup f = some ⟨oc, od, .func (fnOf "law" "law" params body scope dV kV doc pm an cdv ct), sl⟩) (e3 : codeIn K cdv "law" = true) .. : ∃ t, My.Txt K t

set_option maxRecDepth 100000 in
set_option maxHeartbeats 0 in
theorem PySem.Challenge.cw_LID_holds : PySem.Challenge.rw_LID.Holds := by
  w_on; o_law; k_head; (case hw => w_witness2)
  k_fill
  refine L2.walk_of (l := PySem.Challenge.rw_LID) (n := 63) (k := 40) (x := "script") (CX := fun w => ..) (sp := fun _ => My.sp_law) rfl (by decide) rfl ⟨rfl, by decide, by decide⟩ (fun w h Y => PySem.W.kIn_of Y) ?F ?S ?C
  case F =>
    intro w mg fa h KX G hmg
    have T : ∃ t, My.Txt (L2.KOf KX) t := by
      dsimp only [L2.KOf]                          -- K must stand as «<heap const> w.params» for k_is
      refine' My.txt_mk ?e1 ?e2 ?e3 ..
      (case e1 => PySem.W.k_is)                    -- in the order: a name -> its address -> its object -> its parts
      (case e2 => PySem.W.k_is)
      ..
    obtain ⟨t, T⟩ := T
    have e0 := hmg.symm.trans (PySem.W.mg_of KX G T.law)
    cases e0                                       -- fa is the law's own address
    exact ⟨_, fun s u => .of_eq rfl, fun base kb nb => My.law_fn T kb nb⟩     -- if «.of_eq rfl» comes too early: refine' ⟨_, ?b, fun base kb nb => My.law_fn T kb nb⟩; exact fun s u => .of_eq rfl
  case S => exact fun w H a ns hl hO hS => ..
  case C => exact ..
(the tactic k_is has no namespace: write k_is) -/

/-! SHORT WORDS over the layer: a def of the text, its body, what a loop and a test want. -/
namespace L2
open PySem PySem.Spec PyProof.Rows

/-! ### the text by places -/
/-- the j-th statement of a class's body -/
def inClass (s : Stmt) (j : Nat) : Stmt := match s with
  | .ClassDef _ _ _ body _ _ _ _ _ _ _ => body.getD j (.Pass ⟨0, 0, 0, 0⟩)
  | _ => .Pass ⟨0, 0, 0, 0⟩
def defArgs (s : Stmt) : Arguments := match s with
  | .FunctionDef _ a _ _ _ _ _ _ _ _ => a
  | _ => { posonlyargs := [], args := [], vararg := none, kwonlyargs := [], kw_defaults := [], kwarg := none, defaults := [] }
def defBody (s : Stmt) : List Stmt := match s with
  | .FunctionDef _ _ b _ _ _ _ _ _ _ => b
  | _ => []
def defScope (s : Stmt) : Scope := match s with
  | .FunctionDef _ _ _ _ _ _ sc _ _ _ => sc
  | _ => { kind := .function, names := [], isGenerator := false, isCoroutine := false }

/-! ### no exception leaves a def -/
abbrev CX0 : CXT := fun _ _ _ _ _ _ => False
abbrev E0 : XK := fun _ _ _ => False
/-! ### a def (or method) of the text as it stands behind the top -/
structure Fun (K : PySem.W.Frag) (x qual : Str) (st : Stmt) (f : Addr) (fd : FuncData) : Prop where
  ex : ∃ (oc : Value) (od : Option Addr) (kV doc pm : Value) (an : Option Addr) (cdv ct : Value) (osl : Array (Option Value)),
    fd = PySem.W.fnOf x qual (defArgs st) (defBody st) (defScope st) .none kV doc pm an cdv ct ∧ K.lookup f = some ⟨oc, od, .func fd, osl⟩ ∧ PySem.W.codeIn K cdv qual = true
  kp : PySem.W.keepIn K (.ref f) = true
section
variable {P : Program} {w : World} {K : PySem.W.Frag} {mg : Str → Option Value} {base : Heap}
/-- THE RULE for a def: its body as a term of rules, and the reading of that term -/
theorem Fun.ok {x qual : Str} {st : Stmt} {f : Addr} {fd : FuncData} {N ps : List Str} {k : Nat} {sp : Sp} (F : Fun K x qual st f fd) (S : FnScope N ps (defScope st)) (len : ∀ vs H Q E, sp vs H Q E → vs.length = ps.length)
    (hbody : ∀ (cdv : Value) (A : Around) (outer : List Env) (s : Shared) (H : Hp) (vs : List V) (Q : VK) (E : XK), Room k (A.deeper (envOfC qual (defScope st) s.heap.objs.size f cdv)) → sp vs H Q E →
      ∃ t, PSs (cxOf CX0 P w K mg base N qual (defScope st) f cdv A outer s H E).nox (defBody st) t ∧ t { nx := fun _ H' => Q .non H', rt := Q } (start N vs) H) : FnOk P w K mg base CX0 (k + 1) f fd ps sp := by
  obtain ⟨oc, od, kV, doc, pm, an, cdv, ct, osl, rfl, lk, hcd⟩ := F.ex
  refine fn_of lk hcd S len fun A outer s H vs Q E hr hsp => ?_
  obtain ⟨t, h, q⟩ := hbody cdv A outer s H vs Q E hr hsp
  exact ⟨t, h.nox, q⟩
/-- how its arguments bind (no defaults): h is «fun _ _ _ _ _ _ us hl => match us, hl with | [_, _], _ => rfl», one _ a parameter -/
theorem Fun.binds {x qual : Str} {st : Stmt} {f : Addr} {fd : FuncData} {ps : List Str} (F : Fun K x qual st f fd)
    (h : ∀ (kV doc pm : Value) (an : Option Addr) (cdv ct : Value) (us : List Value), us.length = ps.length → bindArgs (PySem.W.fnOf x qual (defArgs st) (defBody st) (defScope st) .none kV doc pm an cdv ct) ⟨us, []⟩ = pure (ps.zip us)) : Binds K fd ps [] := by
  obtain ⟨oc, od, kV, doc, pm, an, cdv, ct, osl, rfl, lk, hcd⟩ := F.ex
  exact .all (h kV doc pm an cdv ct)
theorem fun_mk {x qual : Str} {st : Stmt} {f : Addr} {oc : Value} {od an : Option Addr} {osl : Array (Option Value)} {kV doc pm cdv ct : Value} (l : K.lookup f = some ⟨oc, od, .func (PySem.W.fnOf x qual (defArgs st) (defBody st) (defScope st) .none kV doc pm an cdv ct), osl⟩)
    (c : PySem.W.codeIn K cdv qual = true) (k : PySem.W.keepIn K (.ref f) = true) : Fun K x qual st f (PySem.W.fnOf x qual (defArgs st) (defBody st) (defScope st) .none kV doc pm an cdv ct) := ⟨⟨oc, od, kV, doc, pm, an, cdv, ct, osl, rfl, l, c⟩, k⟩
end
theorem small1000 {n : Nat} (h : n ≤ 1000) : n < sizeLine := Nat.lt_of_le_of_lt h (by decide)

/-! ### expressions in short: the name that stands in the i-th slot -/
section
variable {X : Cx}
theorem pv (i : Nat) {x : Str} {pos : Pos} (hN : X.N[i]? = some x := by rfl) (hv : Vis X.env.scope x := by first | exact Or.inl rfl | exact Or.inr (Or.inl rfl) | exact Or.inr (Or.inr rfl)) (hd : (x == ("__debug__" : Str)) = false := by decide)
    (hcd : (x == ("__classdict__" : Str)) = false := by decide) : PE X (.Name x pos) (tVar i) := pe_var hN hv hd hcd
end

/-! ### tests -/
/-! ### heaps -/
/-- all that was tracked is as it was -/
def Same (H H' : Hp) : Prop := ∀ b o, H b = some o → H' b = some o
theorem Same.refl (H : Hp) : Same H H := fun _ _ h => h
theorem Same.trans {H H1 H2 : Hp} (a : Same H H1) (b : Same H1 H2) : Same H H2 := fun c o h => b c o (a c o h)
theorem Same.free {H H' : Hp} (e : Same H H') {l : Addr} (h : H' l = Option.none) : H l = Option.none := by
  cases q : H l with
  | none => rfl
  | some o =>
    rw [e l o q] at h
    cases h
theorem Same.seq {K : PySem.W.Frag} {H H' : Hp} {a : Addr} {xs : List V} (e : Same H H') (h : SqL K H a xs) : SqL K H' a xs := by
  rcases h with (h | ⟨o, h⟩) | h
  · exact .inl (.inl (e _ _ h))
  · exact .inl (.inr ⟨o, e _ _ h⟩)
  · exact .inr h

end L2


set_option Elab.async false
set_option linter.all false
set_option maxRecDepth 100000
/-! LIST COMPREHENSIONS of one clause, with at most one test, over the hand layer -/
namespace L2
open PySem PySem.Spec PyProof.Rows

/-! ### the closure -/
theorem clos_go (env : Env) : ∀ (names : List (Str × NameKind)) (acc : List (Str × Addr)), (∀ y ∈ names, y.2 = .free → ∃ c, env.cells.lookup y.1 = some c) → (∀ x c, acc.lookup x = some c → env.cells.lookup x = some c) →
    ∃ cl, (forIn names acc fun (p : Str × NameKind) (r : List (Str × Addr)) => (match p with | (name, kind) => if (kind == NameKind.free) = true then (do let c ← cellOf env name; pure (ForInStep.yield ((name, c) :: r))) else pure (ForInStep.yield r)) : Sem (List (Str × Addr))) = pure cl ∧
      (∀ x c, cl.lookup x = some c → env.cells.lookup x = some c) ∧ (∀ x, (∃ c, acc.lookup x = some c) → ∃ c, cl.lookup x = some c) ∧ (∀ y ∈ names, y.2 = .free → ∃ c, cl.lookup y.1 = some c)
  | [], acc, _, ha => ⟨acc, by simp, ha, fun _ h => h, fun _ h => absurd h (by simp)⟩
  | (n, k) :: r, acc, hn, ha => by
    by_cases hk : k = .free
    · obtain ⟨c, hc⟩ := hn (n, k) List.mem_cons_self hk
      have ha' : ∀ x c', ((n, c) :: acc).lookup x = some c' → env.cells.lookup x = some c' := fun x c' h => by
        by_cases hx : x = n
        · subst hx
          rw [List.lookup_cons_self] at h
          cases h; exact hc
        · have hx' : (x == n) = false := by simpa using hx
          simp only [List.lookup_cons, hx'] at h
          exact ha x c' h
      obtain ⟨cl, e, p1, p2, p3⟩ := clos_go env r ((n, c) :: acc) (fun y hy => hn y (List.mem_cons_of_mem _ hy)) ha'
      refine ⟨cl, ?_, p1, fun x ⟨c', hc'⟩ => p2 x ?_, fun y hy hf => ?_⟩
      · have hco : cellOf env n = pure c := by unfold cellOf; rw [hc]
        rw [List.forIn_cons]
        subst hk
        simp only [beq_self_eq_true, if_true, hco, pure_bind]
        exact e
      · by_cases hx : x = n
        · exact ⟨c, by subst hx; rw [List.lookup_cons_self]⟩
        · have hx' : (x == n) = false := by simpa using hx
          exact ⟨c', by simp only [List.lookup_cons, hx']; exact hc'⟩
      · rcases List.mem_cons.mp hy with rfl | hy
        · exact p2 _ ⟨c, by rw [List.lookup_cons_self]⟩
        · exact p3 y hy hf
    · obtain ⟨cl, e, p1, p2, p3⟩ := clos_go env r acc (fun y hy => hn y (List.mem_cons_of_mem _ hy)) ha
      refine ⟨cl, ?_, p1, p2, fun y hy hf => ?_⟩
      · have hb : (k == NameKind.free) = false := by simpa using hk
        rw [List.forIn_cons]
        simp only [hb, Bool.false_eq_true, if_false, pure_bind]
        exact e
      · rcases List.mem_cons.mp hy with rfl | hy
        · exact absurd hf hk
        · exact p3 y hy hf
theorem clos_of {scope : Scope} {env : Env} (h : ∀ y ∈ scope.names, y.2 = .free → ∃ c, env.cells.lookup y.1 = some c) :
    ∃ cl, closureFor scope env = pure cl ∧ (∀ x c, cl.lookup x = some c → env.cells.lookup x = some c) ∧ (∀ y ∈ scope.names, y.2 = .free → ∃ c, cl.lookup y.1 = some c) := by
  obtain ⟨cl, e, p1, _, p3⟩ := clos_go env scope.names [] h (fun x c q => by simp at q)
  refine ⟨cl, ?_, p1, p3⟩
  unfold closureFor
  simp only [bind_pure]
  exact e

theorem lookup_relabel {env : Env} : ∀ {names : List (Str × NameKind)} {x : Str} {k : NameKind}, (names.map fun (n, k) => if (k == NameKind.free && env.scope.kind == .function && env.kindOf n == some .cell) then (n, NameKind.cell) else (n, k)).lookup x = some k →
    (∀ y ∈ names, y.2 ≠ .cell) → k = .cell ∨ k = .free → names.lookup x = some .free
  | [], _, _, h, _, _ => by simp at h
  | (n, k0) :: r, x, k, h, hc, hk => by
    have ih := @lookup_relabel env r x k
    rw [List.map_cons] at h
    cases hx : x == n with
    | true =>
      have hn : k0 ≠ .cell := hc (n, k0) List.mem_cons_self
      simp only [List.lookup_cons, hx]
      by_cases hcnd : (k0 == NameKind.free && env.scope.kind == .function && env.kindOf n == some .cell) = true
      · have : k0 = .free := by
          simp only [Bool.and_eq_true, beq_iff_eq] at hcnd
          exact hcnd.1.1
        rw [this]
      · dsimp only at h
        rw [if_neg hcnd] at h
        simp only [List.lookup_cons, hx] at h
        have h : k0 = k := by simpa using h
        subst h
        rcases hk with hk | hk
        · exact absurd hk hn
        · rw [hk]
    | false =>
      simp only [List.lookup_cons, hx]
      refine ih ?_ (fun y hy => hc y (List.mem_cons_of_mem _ hy)) hk
      by_cases hcnd : (k0 == NameKind.free && env.scope.kind == .function && env.kindOf n == some .cell) = true
      · dsimp only at h
        rw [if_pos hcnd] at h
        simp only [List.lookup_cons, hx] at h; exact h
      · dsimp only at h
        rw [if_neg hcnd] at h
        simp only [List.lookup_cons, hx] at h; exact h

/-! ### the block's context -/
def cxComp (X : Cx) (N' : List Str) (scope : Scope) (cl : List (Str × Addr)) (C : Addr) (s₀ : Shared) (H₀ : Hp) (ex : List Addr) : Cx :=
  { X with N := N', s₀ := s₀, H₀ := H₀, env := compEnvC scope cl C X.env, outer := X.stack, stack := X.stack, ex := ex, fn := fun _ => false, pn := [], xe := fun _ _ => False }
/-- the block's slots: its own names empty, those from outside with their values -/
def subσ (mp : List (Option Nat)) (σ : St) : St := mp.map fun o => match o with | none => none | some i => (σ[i]?).getD none
def compOk (N : List Str) (on inn : List (Str × NameKind)) (N' : List Str) (mp : List (Option Nat)) : Bool :=
  mp.length == N'.length && (N'.zip mp).all fun p => match p.2 with
    | none => true
    | some i => N[i]? == some p.1 && inn.lookup p.1 == some .free && on.lookup p.1 == some .cell
/-- tests of the clause -/
def PIf (X : Cx) (ifs : List Expr) (t : TT) : Prop :=
  ∀ (pins : List (Addr × Obj)) (s : Shared) (σ : St) (H : Hp) (Q : Bool → Hp → Prop), Inv X pins σ H s → t σ H Q →
    wpAny (model X.prog X.w) X.A (forIn ifs true fun c r => if r = true then do let ok ← isTrue c X.env (eval c X.env); pure (ForInStep.yield ok) else pure (ForInStep.yield r)) (TP X pins σ Q) X.xe s
def tYes : TT := fun _ H Q => Q true H
theorem pif_nil {X : Cx} : PIf X [] tYes := fun pins s σ H Q I h => wpAny_tests_nil ⟨H, I, h⟩
theorem pif_one {X : Cx} {c : Expr} {t : TT} (h : PT X c t) : PIf X [c] t := fun pins s σ H Q I q => wpAny_tests_one (h pins s σ H Q I q)

theorem comp_loop {prog : Program} {w : World} {A : Around} {s : Shared} {elt target iter : PySem.Expr} {ifs : List PySem.Expr} {scope : Scope} {pos : Pos} {it acc : Value} {env : Env} {R : Result → Shared → Prop} (I : Nat → Shared → Prop)
    (turn : ∀ n s, I n s → wpAny (model prog w) A (pyNext it) (fun r s₁ => match r with
      | none => R (.ok .next) s₁
      | some v => wpAny (model prog w) A (letOwnedTupleGo target it v) (fun _ s₀ => wpAny (model prog w) A (assign target env v) (fun _ s₂ =>
          wpAny (model prog w) A (forIn ifs true fun c r => if r = true then do let ok ← isTrue c env (eval c env); pure (ForInStep.yield ok) else pure (ForInStep.yield r)) (fun ok s₃ => if ok = true then wpAny (model prog w) A (eval elt env) (fun x s₄ =>
            wpAny (model prog w) A (call (.builtin "list.append") [acc, x]) (fun _ s₅ => ∃ m, m < n ∧ I m s₅) (fun _ _ => False) s₄) (fun _ _ => False) s₃
            else ∃ m, m < n ∧ I m s₃) (fun _ _ => False) s₂)
          (fun _ _ => False) s₀) (fun _ _ => False) s₁) (fun _ _ => False) s)
    (n : Nat) (h : I n s) : codeAny (model prog w) A (.compLoop (.ListComp elt [⟨target, iter, ifs, 0⟩] scope pos) 0 it acc env) R s := by
  refine codeAny_loop rfl I (fun n s hI => ?_) n h
  show wpAny _ A ((compTurn (.ListComp elt [⟨target, iter, ifs, 0⟩] scope pos) 0 it acc env).onRaise (fun x => do noteFrame x env; theTreesLotGoes x)) _ _ s
  refine wpAny_noted ?_
  rw [compTurn_list]
  refine wpAny_bind (wpAny_standAt (wpAny_bind (wpAny_mono (turn n s hI) (fun r s₁ h₁ => ?_) fun _ _ h' => h'.elim)))
  cases r with
  | none => exact wpAny_pure h₁
  | some v =>
    refine wpAny_bind (wpAny_mono h₁ (fun _ s₀ h₀' => ?_) fun _ _ h' => h'.elim)
    refine wpAny_bind (wpAny_mono h₀' (fun _ s₂ h₂ => ?_) fun _ _ h' => h'.elim)
    refine wpAny_bind (wpAny_mono h₂ (fun okb s₃ h₃ => ?_) fun _ _ h' => h'.elim)
    cases okb with
    | false => exact wpAny_pure ⟨rfl, h₃⟩
    | true => exact wpAny_bind (wpAny_bind (wpAny_mono h₃ (fun x s₄ h₄ => wpAny_bind (wpAny_mono h₄ (fun _ s₅ h₅ => wpAny_pure (wpAny_pure ⟨rfl, h₅⟩)) fun _ _ h' => h'.elim)) fun _ _ h' => h'.elim))

/-- a record of ours is tracked from now on -/
theorem Inv.track {X : Cx} {pins : List (Addr × Obj)} {σ : St} {H : Hp} {s : Shared} {a : Addr} {o : HO} (I : Inv X pins σ H s) (hn : H a = none) (f : FpOk X pins H a) (new : ObjOk X.prog X.w (upd H a o) s.heap a o) : Inv X pins σ (upd H a o) s := by
  obtain ⟨_, f1, f2, f3, f4, f5⟩ := f
  have na : ∀ b u, H b = some u → b ≠ a := fun b u e => ne_of_none e hn
  have J := I.step (g' := s.gens) (t' := s.toks) (d' := s.drawn) (ch := [a]) (h' := s.heap) (H' := upd H a o) (fun b hb => by
      have e : b = a := by simpa using hb
      subst e
      exact ⟨f3, f1, f4, f5⟩) (fun b o _ _ _ e _ => e) (fun b o _ _ _ e _ => ⟨o.slots, e⟩) (fun b o hb _ n => by rw [upd_ne (by simpa using hb)]; exact n) (fun b o _ e => ⟨o, e⟩)
    (fun b xs e => by rw [upd_ne (na b _ e)]; exact e) (fun b o u e => by rw [upd_ne (na b _ e)]; exact e) (fun b ps e => ⟨#[], by rw [upd_ne (na b _ e), e]; simp⟩) (fun m hm => hm) (fun b u e => by
      by_cases hb : b = a
      · subst hb; rw [upd_same] at e; cases e; exact new
      · rw [upd_ne hb] at e
        exact (I.hok b u e).stay (fun c v _ q => q) (fun c q => by rw [upd_ne (na c _ q)]; exact q) fun c xs q => by rw [upd_ne (na c _ q)]; exact q) I.bare
  exact J

def tComp (wi : TI) (g : TG) (tt : TT) (te : TE) (mp : List (Option Nat)) : TE := fun σ H Q => wi σ H fun J H1 => ∃ W : Nat → Nat → List V → St → Hp → Prop, (∃ m, W 0 m [] (subσ mp σ) H1) ∧ ∀ i m ys σ H, W i m ys σ H →
  (J.stop i H ∧ ys.length ≤ sizeLine ∧ ∀ p, H p = none → Q (.ref p) (upd H p (.lst ys))) ∨ (J.go i H ∧ ys.length < sizeLine ∧ ∃ N : List V → St → Hp → Prop, (∀ ys' σ' H', N ys' σ' H' → ∃ m', m' < m ∧ W (i + 1) m' ys' σ' H') ∧ ∀ x H', J.yld i H x H' → g x σ H' fun σ2 H2 => tt σ2 H2 fun b H3 =>
    if b = true then te σ2 H3 (fun v H4 => N (ys ++ [v]) σ2 H4) else N ys σ2 H3)

/-- all that the clause needs of the scopes -/
structure CompS (X : Cx) (N' : List Str) (scope : Scope) (mp : List (Option Nat)) : Prop where
  kind : scope.kind = .function
  nocell : ∀ y ∈ scope.names, y.2 ≠ .cell
  locs : ∀ y ∈ scope.names, y.2 = .local → scope.names.lookup y.1 = some .local
  frees : ∀ y ∈ scope.names, y.2 = .free → X.env.scope.names.lookup y.1 = some .cell
  ok : compOk X.N X.env.scope.names scope.names N' mp = true

theorem compOk_get {N : List Str} {on inn : List (Str × NameKind)} {N' : List Str} {mp : List (Option Nat)} (h : compOk N on inn N' mp = true) : mp.length = N'.length ∧ ∀ (j : Nat) (x : Str) (i : Nat), N'[j]? = some x → mp[j]? = some (some i) → N[i]? = some x ∧ inn.lookup x = some .free ∧ on.lookup x = some .cell := by
  unfold compOk at h
  rw [Bool.and_eq_true] at h
  obtain ⟨h1, h2⟩ := h
  refine ⟨by simpa using h1, fun j x i e1 e2 => ?_⟩
  have hm : (x, some i) ∈ N'.zip mp := by
    refine List.mem_of_getElem? (i := j) ?_
    rw [List.getElem?_zip_eq_some]
    exact ⟨e1, e2⟩
  have q := List.all_eq_true.mp h2 _ hm
  simp only [Bool.and_eq_true, beq_iff_eq] at q
  exact ⟨q.1.1, q.1.2, q.2⟩
theorem subσ_get {mp : List (Option Nat)} {σ : St} {j : Nat} {v : V} (h : (subσ mp σ)[j]? = some (some v)) : ∃ i, mp[j]? = some (some i) ∧ σ[i]? = some (some v) := by
  unfold subσ at h
  rw [List.getElem?_map] at h
  cases e : mp[j]? with
  | none => rw [e] at h; cases h
  | some o =>
    rw [e] at h
    cases o with
    | none => simp at h
    | some i =>
      refine ⟨i, rfl, ?_⟩
      cases e2 : σ[i]? with
      | none => simp [e2] at h
      | some z =>
        simp [e2] at h
        rw [h]

section
variable {X : Cx} {pins : List (Addr × Obj)} {σ : St} {H : Hp}
/-- the core: behind the iterator; RR is what the comprehension wants of its end -/
theorem comp_core {elt tg iter : Expr} {ifs : List Expr} {scope : Scope} {pos : Pos} {N' : List Str} {mp : List (Option Nat)} {g : TG} {tt : TT} {te : TE} {s₂ : Shared} {it : Addr} {fp : List Addr} {tn : Nat → Heap → Prop} {J : It} {cl : List (Str × Addr)}
    {Qe : V → Hp → Prop} {RR : Value → Addr → Result → Shared → Prop} {E : Value → Shared → Prop} (hc : X.calm = true) (S : CompS X N' scope mp)
    (hcl : ∀ x c, cl.lookup x = some c → X.env.cells.lookup x = some c) (hcf : ∀ y ∈ scope.names, y.2 = .free → ∃ c, cl.lookup y.1 = some c)
    (hg : ∀ C s₀ H₀ ex, PG (cxComp X N' scope cl C s₀ H₀ ex) tg g) (ht : ∀ C s₀ H₀ ex, PIf (cxComp X N' scope cl C s₀ H₀ ex) ifs tt) (he : ∀ C s₀ H₀ ex, PE (cxComp X N' scope cl C s₀ H₀ ex) elt te)
    (I : Inv X pins σ H s₂) (T : Turn X.prog X.w X.K tg J fp it tn) (st : tn 0 s₂.heap) (hf : ∀ b ∈ fp, FpOk X pins H b)
    (hw : ∃ W : Nat → Nat → List V → St → Hp → Prop, (∃ m, W 0 m [] (subσ mp σ) H) ∧ ∀ i m ys σ H, W i m ys σ H →
      (J.stop i H ∧ ys.length ≤ sizeLine ∧ ∀ p, H p = none → Qe (.ref p) (upd H p (.lst ys))) ∨ (J.go i H ∧ ys.length < sizeLine ∧ ∃ N : List V → St → Hp → Prop, (∀ ys' σ' H', N ys' σ' H' → ∃ m', m' < m ∧ W (i + 1) m' ys' σ' H') ∧ ∀ x H', J.yld i H x H' → g x σ H' fun σ2 H2 => tt σ2 H2 fun b H3 =>
    if b = true then te σ2 H3 (fun v H4 => N (ys ++ [v]) σ2 H4) else N ys σ2 H3))
    (hR : ∀ (D C : Addr) (H' : Hp) (s' : Shared), Inv X pins σ H' s' → Qe (.ref D) H' → (∃ m, s'.heap.Ns C m) → FpOk X pins H' C → RR (.ref D) C (.ok .next) s') :
    wpAny (model X.prog X.w) X.A (newList []) (fun acc s₃ => wpAny (model X.prog X.w) X.A (newFunctionEnv scope X.env.globals cl [] X.env.qual none .none (some X.env)) (fun cenv s₄ =>
      codeAny (model X.prog X.w) X.A (.compStart (.ListComp elt [⟨tg, iter, ifs, 0⟩] scope pos) 0 (.ref it) acc { cenv with scope := relabel scope X.env }) (RR acc cenv.locals) s₄) E s₃) E s₂ := by
  obtain ⟨W, ⟨m0, w0⟩, turn⟩ := hw
  refine wpAny_newObj_type (wpAny_newFunctionEnv S.nocell (by intro y hy; simp at hy) (fun h₁ hns₁ hsb₁ => ?_) S.kind)
  dsimp only at hns₁ hsb₁ ⊢
  generalize hH2 : s₂.heap.push { cls := .type "list", dict := none, data := .seq ([] : List Value).toArray } = H2 at hns₁ hsb₁ ⊢
  have hCs : H2.objs.size = s₂.heap.objs.size + 1 := by rw [← hH2, Heap.size_push]
  have I3 : Inv X pins σ H { s₂ with heap := H2 } := by
    rw [← hH2]
    exact I.kept (t' := s₂.toks) fun b o e => Heap.get?_push_of_some _ e
  have k1 : ∀ b u, H2.get? b = some u → h₁.get? b = some u := fun b u e => hsb₁.extBut b u (Nat.ne_of_lt (Heap.lt_size e)) (Heap.get?_push_of_some _ e)
  have accOk : FpOk X pins H s₂.heap.objs.size := I.fpOk (Nat.le_refl _) (I.hok.fresh (Nat.le_refl _))
  have COk : FpOk X pins H H2.objs.size := I3.fpOk (Nat.le_refl _) (I3.hok.fresh (Nat.le_refl _))
  have fpLt : ∀ b ∈ fp, b < s₂.heap.objs.size := fun b hb => let ⟨o, e, _⟩ := T.obj 0 _ st b hb; Heap.lt_size e
  have accNf : s₂.heap.objs.size ∉ fp := fun z => absurd (fpLt _ z) (Nat.lt_irrefl _)
  have accNC : s₂.heap.objs.size ≠ H2.objs.size := by rw [hCs]; exact Nat.ne_of_lt (Nat.lt_succ_self _)
  have exAll : ∀ b ∈ s₂.heap.objs.size :: fp, FpOk X pins H b := fun b hb => (List.mem_cons.mp hb).elim (fun e => e ▸ accOk) (hf b)
  have exNC : ∀ b ∈ s₂.heap.objs.size :: fp, b ≠ H2.objs.size := fun b hb => (List.mem_cons.mp hb).elim (fun e => e ▸ accNC) fun z => Nat.ne_of_lt (Nat.lt_trans (fpLt b z) (by rw [hCs]; exact Nat.lt_succ_self _))
  have stkN : ∀ b, FpOk X pins H b → b ∉ frs X.stack := fun b f z => (List.mem_cons.mp (I.stkSub b z)).elim f.2.1 f.2.2.1
  -- the block's context
  have ok' : (cxComp X N' scope cl H2.objs.size { s₂ with heap := H2 } H (s₂.heap.objs.size :: fp)).Ok := by
    refine ⟨I.ok.mod, S.kind, I.ok.glob, I.ok.blt, Nat.le_refl _, fun x y c h1 h2 => I.ok.inj x y c (hcl x c h1) (hcl y c h2), fun x hx => ?_, fun x c hx => absurd hx (by show ¬ false = true; decide), I.ok.hd, I.ok.frames, .inl rfl,
      fun b hb => ⟨exNC b hb, fun x c e => (exAll b hb).2.2.2.2.1 x c (hcl x c e)⟩, fun b o e => I3.bs b o e, Nat.le_trans I.ok.bsz I3.sz, fun b o e hb => ?_, fun b hb => stkN b (exAll b hb), I3.stack, I3.stkFree⟩
    · have hx' : (relabel scope X.env).names.lookup x = some .cell ∨ (relabel scope X.env).names.lookup x = some .free := hx
      have hfree : scope.names.lookup x = some .free := by
        rcases hx' with z | z
        · exact lookup_relabel z S.nocell (.inl rfl)
        · exact lookup_relabel z S.nocell (.inr rfl)
      exact hcf (x, .free) (PySem.mem_of_lookup hfree) rfl
    · rcases (exAll b hb).2.2.2.1 with z | z
      · exact I.ok.noex b o e z
      · exact absurd (Nat.lt_of_lt_of_le (Heap.lt_size e) (Nat.le_trans I.ok.bsz z)) (Nat.lt_irrefl _)
  obtain ⟨hml, hmp⟩ := compOk_get S.ok
  let XC := cxComp X N' scope cl H2.objs.size { s₂ with heap := H2 } H (s₂.heap.objs.size :: fp)
  have J4 : Inv (cxComp X N' scope cl H2.objs.size { s₂ with heap := H2 } H (s₂.heap.objs.size :: fp)) [] (subσ mp σ) H { s₂ with heap := h₁, toks := s₂.toks + ([] : List (Str × Value)).length } := by
    refine ⟨ok', rfl, I.bare, Un.kept k1, ⟨_, hns₁, fun j x v e1 e2 e3 => ?_⟩, fun x c e => ?_, COk.1, fun x c e => I.freeC x c (hcl x c e), fun p hp => absurd (show p ∈ ([] : List (Addr × Obj)) from hp) (by simp), I3.hok.kept k1, by show (subσ mp σ).length = N'.length; unfold subσ; rw [List.length_map, hml]⟩
    · obtain ⟨i, q1, q2⟩ := subσ_get e2
      obtain ⟨n1, n2, n3⟩ := hmp j x i e1 q1
      obtain ⟨m, hn, hl⟩ := I3.loc
      obtain ⟨u, ru, lk⟩ := hl i x v n1 q2 (.inr (.inl n3))
      refine ⟨u, ru, ?_⟩
      rcases lk with ⟨z, _⟩ | ⟨_, c, ec, z⟩
      · have z' : X.env.scope.names.lookup x = some .local := z
        rw [n3] at z'; cases z'
      · obtain ⟨c', ec'⟩ := hcf (x, .free) (PySem.mem_of_lookup n2) rfl
        have e4 := hcl x c' ec'
        rw [ec] at e4; cases e4
        refine .inr ⟨?_, c, ec', ?_⟩
        · have z3 : (relabel scope X.env).names.lookup x = some .local ∨ (relabel scope X.env).names.lookup x = some .cell ∨ (relabel scope X.env).names.lookup x = some .free := e3
          rcases z3 with z3 | z3 | z3
          · exfalso
            have : ∀ (names : List (Str × NameKind)), names.lookup x = some .free → (names.map fun (n, k) => if (k == NameKind.free && X.env.scope.kind == .function && X.env.kindOf n == some .cell) then (n, NameKind.cell) else (n, k)).lookup x ≠ some .local := by
              intro names
              induction names with
              | nil => intro h; simp at h
              | cons p r ih =>
                obtain ⟨n, k⟩ := p
                intro h
                cases hx : x == n with
                | true =>
                  simp only [List.lookup_cons, hx] at h
                  cases h
                  rw [List.map_cons]
                  dsimp only
                  split <;> simp [List.lookup_cons, hx]
                | false =>
                  simp only [List.lookup_cons, hx] at h
                  rw [List.map_cons]
                  dsimp only
                  split <;> (simp only [List.lookup_cons, hx]; exact ih h)
            exact this scope.names n2 z3
          · exact .inl z3
          · exact .inr z3
        · obtain ⟨o, ho, hd⟩ := z
          exact ⟨o, k1 _ _ ho, hd⟩
    · obtain ⟨v, o, ho, hd⟩ := I3.cell x c (hcl x c e)
      exact ⟨v, o, k1 _ _ ho, hd⟩
  have acc4 : h₁.get? s₂.heap.objs.size = some { cls := .type "list", data := .seq ([] : List Value).toArray 0 } := k1 _ _ (by rw [← hH2]; exact Heap.get?_push_size _ rfl)
  have st4 : tn 0 h₁ := T.keep _ _ _ st fun b _ o e => k1 b o (by rw [← hH2]; exact Heap.get?_push_of_some _ e)
  have fp4 : ∀ {H' : Hp}, (∀ b ∈ fp, H' b = none) → ∀ b ∈ fp, FpOk (cxComp X N' scope cl H2.objs.size { s₂ with heap := H2 } H (s₂.heap.objs.size :: fp)) [] H' b := fun hn b hb =>
    ⟨hn b hb, exNC b (List.mem_cons_of_mem _ hb), stkN b (hf b hb), .inl (List.mem_cons_of_mem _ hb), fun x c e => (hf b hb).2.2.2.2.1 x c (hcl x c e), fun p hp => absurd (show p ∈ ([] : List (Addr × Obj)) from hp) (by simp)⟩
  have acc5 : ∀ {H' : Hp}, H' s₂.heap.objs.size = none → FpOk (cxComp X N' scope cl H2.objs.size { s₂ with heap := H2 } H (s₂.heap.objs.size :: fp)) [] H' s₂.heap.objs.size := fun hn =>
    ⟨hn, accNC, stkN _ accOk, .inl List.mem_cons_self, fun x c e => accOk.2.2.2.2.1 x c (hcl x c e), fun p hp => absurd (show p ∈ ([] : List (Addr × Obj)) from hp) (by simp)⟩
  have loop : ∀ s₃ : Shared, s₃ = { s₂ with heap := h₁, toks := s₂.toks + ([] : List (Str × Value)).length } →
      codeAny (model X.prog X.w) X.A (.compLoop (.ListComp elt [⟨tg, iter, ifs, 0⟩] scope pos) 0 (.ref it) (.ref s₂.heap.objs.size) (compEnvC scope cl H2.objs.size X.env)) (RR (.ref s₂.heap.objs.size) H2.objs.size) s₃ := by
    rintro s₃ rfl
    refine comp_loop (fun n s' => ∃ i σ' H' ys its k, Inv (cxComp X N' scope cl H2.objs.size { s₂ with heap := H2 } H (s₂.heap.objs.size :: fp)) [] σ' H' s' ∧ tn i s'.heap ∧ (∀ b ∈ fp, H' b = none) ∧ H' s₂.heap.objs.size = none ∧
      Vals ys its ∧ s'.heap.get? s₂.heap.objs.size = some { cls := .type "list", data := .seq its.toArray k } ∧ W i n ys σ' H') ?_ m0 ⟨0, subσ mp σ, H, [], [], 0, J4, st4, fun b hb => (hf b hb).1, accOk.1, .nil, acc4, w0⟩
    rintro n s5 ⟨i, σ5, H5, ys, its, k, J5, st5, fr5, an5, vy, ea, w5⟩
    have zv : its.length = ys.length := vy.length.symm
    have pinOk : ∀ {σ' : St} {H' : Hp} {s' : Shared} {o : Obj}, Inv XC [] σ' H' s' → H' s₂.heap.objs.size = none → s'.heap.get? s₂.heap.objs.size = some o → (∀ v, o.data ≠ .cell v) → Inv XC [(s₂.heap.objs.size, o)] σ' H' s' := fun {σ' H' s' o} J a1 a2 a3 => J.pins_of fun p hp => by
      have e : p = (s₂.heap.objs.size, o) := by simpa using hp
      subst e
      exact ⟨a2, a1, accNC, stkN _ accOk, a3⟩
    have fp5 : ∀ {H' : Hp} {o : Obj}, (∀ b ∈ fp, H' b = none) → ∀ b ∈ fp, FpOk XC [(s₂.heap.objs.size, o)] H' b := fun {H' o} hn b hb => by
      obtain ⟨c1, c2, c3, c4, c5, _⟩ := fp4 hn b hb
      refine ⟨c1, c2, c3, c4, c5, fun p hp => ?_⟩
      have e : p = (s₂.heap.objs.size, o) := by
        have hp' : p ∈ ([] ++ [(s₂.heap.objs.size, o)] : List (Addr × Obj)) := hp
        simpa using hp'
      subst e
      intro z
      exact accNf (by rw [show s₂.heap.objs.size = b from z]; exact hb)
    have noc : ∀ (us : List Value) (k : Nat) (v : Option Value), ({ cls := .type "list", data := .seq us.toArray k } : Obj).data ≠ .cell v := fun us k v z => by
      have z' : Data.seq us.toArray k = Data.cell v := z
      cases z'
    have J5p := pinOk J5 an5 ea (noc its k)
    rcases turn i n ys σ5 H5 w5 with ⟨stop, zl, qn⟩ | ⟨go, zl, N, hN, step⟩
    · refine thn (T.done XC rfl rfl rfl hc i _ s5 σ5 H5 _ J5p (fp5 fr5) st5 stop) fun r s6 ⟨hr, J6⟩ => ?_
      subst hr
      have I6 : Inv X pins σ H5 s6 := I3.call' (ch := s₂.heap.objs.size :: fp) (show s6.os = _ from J6.os) J6.base J6.hok J6.bare fun b hb => let ⟨_, a1, _, a3, a4, a5⟩ := exAll b hb; ⟨a3, a1, a4, a5⟩
      have ea6 : s6.heap.get? s₂.heap.objs.size = some { cls := .type "list", data := .seq its.toArray k } := (J6.pin _ (List.mem_append_right _ (List.mem_singleton.mpr rfl))).1
      have I7 : Inv X pins σ (upd H5 s₂.heap.objs.size (.lst ys)) s6 := I6.track an5 ⟨an5, accOk.2⟩ ⟨zl, its, k, vy, ea6⟩
      obtain ⟨m, hm, _⟩ := J6.loc
      exact hR _ _ _ s6 I7 (qn _ an5) ⟨m, hm⟩ ⟨by rw [upd_ne (Ne.symm accNC)]; exact J6.free, COk.2⟩
    · refine thn (T.item XC rfl rfl rfl hc i _ s5 σ5 H5 _ J5p (fp5 fr5) st5 go) fun r s6 ⟨u, hr, h6⟩ => ?_
      subst hr
      refine thn h6 fun _ s7 ⟨x, H7, J7, r7, y7, st7, fr7⟩ => ?_
      have an7 : H7 s₂.heap.objs.size = none := (J7.pin _ (List.mem_append_right _ (List.mem_singleton.mpr rfl))).2.1
      have J7' := J7.pinned (fp5 fr7) (T.obj _ _ st7)
      refine thn (hg _ _ _ _ _ s7 σ5 H7 x u _ J7' r7 (step x H7 y7)) fun _ s8 ⟨σ8, H8, J8, q8⟩ => ?_
      refine thn (ht _ _ _ _ _ s8 σ8 H8 _ J8 q8) fun b s9 ⟨H9, J9, q9⟩ => ?_
      have back : ∀ {σ' : St} {H' : Hp} {s' : Shared}, Inv XC ([(s₂.heap.objs.size, ({ cls := .type "list", data := .seq its.toArray k } : Obj))] ++ pinsAt fp s7.heap) σ' H' s' →
          Inv XC [] σ' H' s' ∧ tn (i + 1) s'.heap ∧ (∀ b ∈ fp, H' b = none) ∧ H' s₂.heap.objs.size = none ∧ s'.heap.get? s₂.heap.objs.size = some { cls := .type "list", data := .seq its.toArray k } := fun {σ' H' s'} K => by
        have pa := K.pin (s₂.heap.objs.size, { cls := .type "list", data := .seq its.toArray k }) (List.mem_append_right _ (List.mem_append_left _ (List.mem_singleton.mpr rfl)))
        refine ⟨K.pins_of (fun p hp => absurd hp (by simp)), T.keep _ _ _ st7 fun b hb o e => (K.pin (b, o) (List.mem_append_right _ (List.mem_append_right _ (mem_pinsAt hb e)))).1, fun b hb => ?_, pa.2.1, pa.1⟩
        obtain ⟨o, e, d⟩ := T.obj _ _ st7 b hb
        exact (K.pin (b, o) (List.mem_append_right _ (List.mem_append_right _ (mem_pinsAt hb e)))).2.1
      cases b with
      | false =>
        rw [if_neg Bool.false_ne_true] at q9
        rw [if_neg Bool.false_ne_true]
        obtain ⟨m', hm', w'⟩ := hN _ _ _ q9
        obtain ⟨K1, K2, K3, K4, K5⟩ := back J9
        exact ⟨m', hm', i + 1, σ8, H9, ys, its, k, K1, K2, K3, K4, vy, K5, w'⟩
      | true =>
        rw [if_pos rfl] at q9
        rw [if_pos rfl]
        refine thn (he _ _ _ _ _ s9 σ8 H9 _ J9 q9) fun z s10 ⟨v, H10, J10, r10, q10⟩ => ?_
        obtain ⟨m', hm', w'⟩ := hN _ _ _ q10
        obtain ⟨K1, K2, K3, K4, K5⟩ := back J10
        refine call_meets F.slot_list_append ⟨_, K5, rfl⟩ F.entry_list_append (F.args_list_append_2 _ _) (PySem.list_append s₂.heap.objs.size its.toArray k z (by rw [List.size_toArray]; omega)) ⟨K5, ?_⟩
        have qa := PySem.IsL.update K5 (fun x_1 => x_1.push z)
        have eqa : its.toArray.push z = (its ++ [z]).toArray := by simp
        rw [eqa] at qa
        have kk : ∀ b o, b ≠ s₂.heap.objs.size → s10.heap.get? b = some o → (s10.heap.update s₂.heap.objs.size (Obj.mapSeq fun x_1 => x_1.push z)).get? b = some o := fun b o hb hu => (Heap.get?_update_other s10.heap (Obj.mapSeq fun x_1 => x_1.push z) (Ne.symm hb)).trans hu
        obtain ⟨d0, d1, d2, d3, d4, d5⟩ := acc5 K4
        have K1' := K1.turned (h' := s10.heap.update s₂.heap.objs.size (Obj.mapSeq fun x_1 => x_1.push z)) (t' := s10.toks) kk d0 d1 d3 d4 d5
        exact ⟨m', hm', i + 1, σ8, H10, ys ++ [v], its ++ [z], _, K1', T.keep _ _ _ K2 (fun b hb o e => kk b o (fun y => accNf (by rw [← y]; exact hb)) e), K3, K4, vy.append (.cons r10 .nil), qa, w'⟩
  exact codeAny_compStart_list (loop _ rfl) (T.self _ _ _ _ _ st4 (loop _ rfl))

/-- [elt for tg in iter if ..] -/
theorem pe_comp {elt tg iter : Expr} {ifs : List Expr} {scope : Scope} {pos : Pos} (N' : List Str) (mp : List (Option Nat)) {wi : TI} {g : TG} {tt : TT} {te : TE} (hc : X.calm = true) (S : CompS X N' scope mp) (hi : PI X tg iter wi)
    (hg : ∀ cl C s₀ H₀ ex, PG (cxComp X N' scope cl C s₀ H₀ ex) tg g) (ht : ∀ cl C s₀ H₀ ex, PIf (cxComp X N' scope cl C s₀ H₀ ex) ifs tt) (he : ∀ cl C s₀ H₀ ex, PE (cxComp X N' scope cl C s₀ H₀ ex) elt te)
    (hs : ∀ x, foldedSetIterable iter X.env x = pure x := by intro _; rfl) : PE X (.ListComp elt [⟨tg, iter, ifs, 0⟩] scope pos) (tComp wi g tt te mp) := by
  intro pins s σ H Q I h
  obtain ⟨cl, e0, e1, e2⟩ := clos_of (scope := scope) (env := X.env) fun y hy hf => I.ok.has y.1 (.inl (S.frees y hy hf))
  rw [eval_ListComp]
  refine wpAny_comprehension_free (use := none) rfl hs e0 S.kind S.locs (thn (hi pins s σ H _ I h) fun v s1 h1 => thn h1 fun itv s2 h2 => ?_)
  obtain ⟨it, fp, tn, J, H2, e, I2, T, st2, f2, hw⟩ := h2
  subst e
  refine comp_core (Qe := Q) (RR := fun acc C => compPost (model X.prog X.w) X.A X.xe none (EP X pins σ Q) acc C) hc S e1 e2 (hg cl) (ht cl) (he cl) I2 T st2 f2 hw fun D C H' s' I' q ⟨m, hm⟩ ⟨f0, f1, _, f3, f4, f5⟩ => ?_
  exact ⟨m, hm, fun h' sb => ⟨.ref D, H', I'.turned (t' := s'.toks) (fun b o hb e => (sb.2 b hb).trans e) f0 f1 f3 f4 f5, rfl, q⟩⟩
/-- name = [elt for ..] -/
theorem ps_setc {elt tg iter : Expr} {ifs : List Expr} {scope : Scope} {pos pos' cpos : Pos} {i : Nat} {x : Str} (N' : List Str) (mp : List (Option Nat)) {wi : TI} {g : TG} {tt : TT} {te : TE} (hN : X.N.Nodup) (hxi : X.N[i]? = some x) (hx : Loc X.env.scope x)
    (hc : X.calm = true) (S : CompS X N' scope mp) (hi : PI X tg iter wi)
    (hg : ∀ cl C s₀ H₀ ex, PG (cxComp X N' scope cl C s₀ H₀ ex) tg g) (ht : ∀ cl C s₀ H₀ ex, PIf (cxComp X N' scope cl C s₀ H₀ ex) ifs tt) (he : ∀ cl C s₀ H₀ ex, PE (cxComp X N' scope cl C s₀ H₀ ex) elt te)
    (hsw : swapsWith (.ListComp elt [⟨tg, iter, ifs, 0⟩] scope cpos) (some (.Name x pos')) pos.line X.env = pure true := by rfl)
    (hs : ∀ x, foldedSetIterable iter X.env x = pure x := by intro _; rfl) (hf : X.fn x = true ∨ X.env.scope.names.lookup x = some .local := by first | exact .inl rfl | exact .inr rfl | assumption) :
    PS X (.Assign [.Name x pos'] (.ListComp elt [⟨tg, iter, ifs, 0⟩] scope cpos) pos) (tAsg (tComp wi g tt te mp) (gName i)) := by
  intro pins s σ H D I h
  obtain ⟨cl, e0, e1, e2⟩ := clos_of (scope := scope) (env := X.env) fun y hy hf => I.ok.has y.1 (.inl (S.frees y hy hf))
  rw [exec_Assign_Name_used _ _ _ _ hsw]
  refine wpAny_bind (wpAny_standAt (wpAny_bind ?_))
  show wpAny _ X.A (do let _ ← comprehension (.ListComp elt [⟨tg, iter, ifs, 0⟩] scope cpos) scope X.env _ (newList []) false (eval iter X.env) (some (assign (.Name x pos') X.env))) _ _ s
  refine wpAny_bind (wpAny_mono (wpAny_comprehension_free (use := some (assign (.Name x pos') X.env)) (Q := fun _ s' => SP X pins D .next s') rfl hs e0 S.kind S.locs
    (thn (hi pins s σ H _ I h) fun v s1 h1 => thn h1 fun itv s2 h2 => ?_)) (fun _ s' hq => wpAny_pure (wpAny_pure hq)) fun _ _ e => e)
  obtain ⟨it, fp, tn, J, H2, e, I2, T, st2, f2, hw⟩ := h2
  subst e
  refine comp_core (Qe := fun x H1 => gName i x σ H1 D.nx) (RR := fun acc C => compPost (model X.prog X.w) X.A X.xe (some (assign (.Name x pos') X.env)) (fun _ s' => SP X pins D .next s') acc C) hc S e1 e2 (hg cl) (ht cl) (he cl) I2 T st2 f2 hw fun D' C H' s' I' q ⟨m, hm⟩ ⟨f0, f1, _, f3, f4, f5⟩ => ?_
  show wpAny _ X.A (assign (.Name x pos') X.env (.ref D')) _ _ _
  refine wpAny_assign_Name (store_ok2 I' hN hxi hx (v := .ref D') rfl (fun s'' I'' ⟨a, sb, ha⟩ => ?_) hf)
  have hCa : C ≠ a := by
    rcases ha with ha | ha
    · rw [ha]; exact f1
    · exact fun z => f4 x a ha z.symm
  refine ⟨m, hm.sameBut sb hCa, fun h' sb' => ?_⟩
  exact ⟨_, H', I''.turned (t' := s''.toks) (fun b o hb e => (sb'.2 b hb).trans e) f0 f1 f3 f4 f5, q⟩
end

/-! ### the forms one uses: over a list, a tuple, a range -/
section
variable {K : PySem.W.Frag} {a : Addr} {xs : List V} {g : TG} {tt : TT} {te : TE} {σ : St} {H : Hp} {Q : VK}
abbrev CompW (J : It) (g : TG) (tt : TT) (te : TE) (Q : VK) (σ : St) (H : Hp) : Prop := ∃ W : Nat → Nat → List V → St → Hp → Prop, (∃ m, W 0 m [] σ H) ∧ ∀ i m ys σ H, W i m ys σ H →
  (J.stop i H ∧ ys.length ≤ sizeLine ∧ ∀ p, H p = none → Q (.ref p) (upd H p (.lst ys))) ∨ (J.go i H ∧ ys.length < sizeLine ∧ ∃ N : List V → St → Hp → Prop, (∀ ys' σ' H', N ys' σ' H' → ∃ m', m' < m ∧ W (i + 1) m' ys' σ' H') ∧ ∀ x H', J.yld i H x H' → g x σ H' fun σ2 H2 => tt σ2 H2 fun b H3 =>
    if b = true then te σ2 H3 (fun v H4 => N (ys ++ [v]) σ2 H4) else N ys σ2 H3)
theorem comp_list (Pv : Nat → List V → St → Hp → Prop) (h0 : Pv 0 [] σ H) (hz : xs.length < sizeLine) (hy : ∀ i ys σ H, Pv i ys σ H → ys.length ≤ i) (hl : ∀ i ys σ H, i ≤ xs.length → Pv i ys σ H → SqL K H a xs)
    (hs : ∀ i ys x σ H, xs[i]? = some x → Pv i ys σ H → g x σ H fun σ2 H2 => tt σ2 H2 fun b H3 => if b = true then te σ2 H3 (fun v H4 => Pv (i + 1) (ys ++ [v]) σ2 H4) else Pv (i + 1) ys σ2 H3)
    (hd : ∀ ys σ H, Pv xs.length ys σ H → ∀ p, H p = none → Q (.ref p) (upd H p (.lst ys))) : CompW (Itl K a) g tt te Q σ H := by
  refine ⟨fun i m ys σ H => m = xs.length - i ∧ i ≤ xs.length ∧ Pv i ys σ H, ⟨xs.length, by simp, Nat.zero_le _, h0⟩, ?_⟩
  rintro i m ys σ H ⟨rfl, hi, p⟩
  have q := hl i ys σ H hi p
  have hyl := hy i ys σ H p
  by_cases hlt : i < xs.length
  · refine .inr ⟨⟨xs, xs[i], q, by simp [hlt]⟩, by omega, Pv (i + 1), fun ys' σ' H' p' => ⟨xs.length - (i + 1), by omega, rfl, hlt, p'⟩, fun x H' y => ?_⟩
    obtain ⟨e, y⟩ := y
    subst e
    exact hs i ys x σ _ (y xs q) p
  · have e : i = xs.length := by omega
    subst e
    exact .inl ⟨⟨xs, q, Nat.le_refl _⟩, by omega, hd ys σ H p⟩
theorem comp_tup (Pv : Nat → List V → St → Hp → Prop) (h0 : Pv 0 [] σ H) (hz : xs.length < sizeLine) (hy : ∀ i ys σ H, Pv i ys σ H → ys.length ≤ i) (hl : ∀ i ys σ H, i ≤ xs.length → Pv i ys σ H → SqT K H a xs)
    (hs : ∀ i ys x σ H, xs[i]? = some x → Pv i ys σ H → g x σ H fun σ2 H2 => tt σ2 H2 fun b H3 => if b = true then te σ2 H3 (fun v H4 => Pv (i + 1) (ys ++ [v]) σ2 H4) else Pv (i + 1) ys σ2 H3)
    (hd : ∀ ys σ H, Pv xs.length ys σ H → ∀ p, H p = none → Q (.ref p) (upd H p (.lst ys))) : CompW (Itt K a) g tt te Q σ H := by
  refine ⟨fun i m ys σ H => m = xs.length - i ∧ i ≤ xs.length ∧ Pv i ys σ H, ⟨xs.length, by simp, Nat.zero_le _, h0⟩, ?_⟩
  rintro i m ys σ H ⟨rfl, hi, p⟩
  have q := hl i ys σ H hi p
  have hyl := hy i ys σ H p
  by_cases hlt : i < xs.length
  · refine .inr ⟨⟨xs, xs[i], q, by simp [hlt]⟩, by omega, Pv (i + 1), fun ys' σ' H' p' => ⟨xs.length - (i + 1), by omega, rfl, hlt, p'⟩, fun x H' y => ?_⟩
    obtain ⟨e, y⟩ := y
    subst e
    exact hs i ys x σ _ (y xs q) p
  · have e : i = xs.length := by omega
    subst e
    exact .inl ⟨⟨xs, q, Nat.le_refl _⟩, by omega, hd ys σ H p⟩
end
end L2


set_option Elab.async false
set_option linter.all false
set_option maxRecDepth 100000
/-! MORE OPERATIONS over the hand layer -/
namespace L2
open PySem PySem.Spec PyProof.Rows

section
variable {X : Cx}
/-! ### tuple + tuple, whatever is empty -/
def rCatT2 (K : PySem.W.Frag) : R2 := fun x y H Q => ∃ a b xs ys, x = .ref a ∧ y = .ref b ∧ SqT K H a xs ∧ SqT K H b ys ∧ xs.length + ys.length ≤ sizeLine ∧
  (xs = [] → Q (.ref b) H) ∧ (xs ≠ [] → ys = [] → Q (.ref a) H) ∧ (xs ≠ [] → ys ≠ [] → ∀ p, H p = none → Q (.ref p) (upd H p (.tup (xs ++ ys))))
/-! ### == and != of two lists of flat items -/
def datV : V → PyData
  | .bl b => .bool b
  | .int i => .int i
  | .str x => .str x
  | _ => .none
theorem reads_flat {h : Heap} {x : V} {u : Value} (r : RelV x u) (f : flatV x = true) : Reads h u (datV x) [] := by
  cases x with
  | non => cases r; exact .none
  | bl b => cases r; exact .bool b
  | int i => obtain ⟨t, rfl⟩ := r; exact .int i t
  | str z => obtain ⟨t, rfl⟩ := r; exact .str z t
  | _ => exact absurd (show false = true from f) Bool.false_ne_true
theorem readsAll_flat {h : Heap} : ∀ {xs : List V} {us : List Value}, Vals xs us → xs.all flatV = true → ReadsAll h us (xs.map datV) []
  | _, _, .nil, _ => .nil
  | _ :: _, _ :: _, .cons r t, f => by
    rw [List.all_cons, Bool.and_eq_true] at f
    exact .cons (reads_flat r f.1) (readsAll_flat t f.2)
def okV : V → Bool
  | .non => true
  | .bl _ => true
  | .int _ => true
  | .str z => PyData.strOk z
  | _ => false
theorem okV.flat {x : V} (h : okV x = true) : flatV x = true := by
  cases x <;> first | rfl | exact absurd (show false = true from h) Bool.false_ne_true
theorem okV.all {xs : List V} (h : xs.all okV = true) : xs.all flatV = true := List.all_eq_true.mpr fun x hx => okV.flat (List.all_eq_true.mp h x hx)
theorem lay_flat : ∀ (xs : List V), xs.all okV = true → PyData.canLayAll0 (xs.map datV) = true ∧ PyData.depthAll (xs.map datV) ≤ 1
  | [], _ => by simp [PyData.canLayAll0, PyData.depthAll]
  | x :: xs, hz => by
    rw [List.all_cons, Bool.and_eq_true] at hz
    have h1 : (datV x).canLay0 = true ∧ (datV x).depth ≤ 1 := by
      cases x with
      | str z => exact ⟨by simpa [datV, PyData.canLay0, okV] using hz.1, by simp [datV, PyData.depth]⟩
      | _ => exact ⟨by simp [datV, PyData.canLay0], by simp [datV, PyData.depth]⟩
    have h2 := lay_flat xs hz.2
    simp only [List.map_cons, PyData.canLayAll0, PyData.depthAll, h1.1, h2.1, Bool.and_self, true_and]
    have a1 := h1.2
    have a2 := h2.2
    omega
theorem shaped_flat {xs : List V} (h : xs.all okV = true) : SeqAt.shaped (.list (xs.map datV)) = true := by
  have q := lay_flat xs h
  unfold SeqAt.shaped
  simp only [PyData.canLay0, PyData.depth, q.1, Bool.true_and]
  have := q.2
  exact decide_eq_true (by omega)
theorem Inv.readsL {pins : List (Addr × Obj)} {σ : St} {H : Hp} {s : Shared} {a : Addr} {xs : List V} (I : Inv X pins σ H s) (h : SqL X.K H a xs) (f : xs.all okV = true) : ∃ as, Reads s.heap (.ref a) (.list (xs.map datV)) as := by
  obtain ⟨its, r, ⟨o, n, e, c, _, d⟩, _⟩ := I.list h
  exact ⟨_, .list e c d (by simpa using readsAll_flat r (okV.all f))⟩
def eqL (xs ys : List V) : Bool := PyData.eqv (.list (xs.map datV)) (.list (ys.map datV))
def rEqL (K : PySem.W.Frag) (neg : Bool) : R2 := fun x y H Q => ∃ a b xs ys, x = .ref a ∧ y = .ref b ∧ SqL K H a xs ∧ SqL K H b ys ∧ xs.all okV = true ∧ ys.all okV = true ∧ Q (.bl (if neg then !eqL xs ys else eqL xs ys)) H
theorem op_eqL (hu : X.A.units + 64 < cLine) : OpR X (compareOp .Eq) (rEqL X.K false) := by
  intro pins s σ H x y v u Q I rx ry h
  obtain ⟨a, b, xs, ys, rfl, rfl, ha, hb, fa, fb, q⟩ := h
  cases rx; cases ry
  obtain ⟨as, ra⟩ := I.readsL ha fa
  obtain ⟨bs, rb⟩ := I.readsL hb fb
  exact eq_dataH ra rb (shaped_flat fa) (shaped_flat fb) hu ⟨.bl _, H, I, rfl, q⟩
theorem op_neL (hu : X.A.units + 64 < cLine) : OpR X (compareOp .NotEq) (rEqL X.K true) := by
  intro pins s σ H x y v u Q I rx ry h
  obtain ⟨a, b, xs, ys, rfl, rfl, ha, hb, fa, fb, q⟩ := h
  cases rx; cases ry
  obtain ⟨as, ra⟩ := I.readsL ha fa
  obtain ⟨bs, rb⟩ := I.readsL hb fb
  exact ne_dataH ra rb (shaped_flat fa) (shaped_flat fb) hu ⟨.bl _, H, I, rfl, q⟩
theorem eqL_nil (xs : List V) : eqL xs [] = xs.isEmpty := by
  cases xs <;> simp [eqL, PyData.eqv, PyData.eqvAll]

/-! ### texts by their order; truths by is -/
/-! ### isinstance with a built-in type -/
/-! ### all of a list of truths -/
/-! ### a text, sign by sign -/
def Its (z : Str) : It := ⟨fun i _ => i < z.cps.size, fun i H x H' => H' = H ∧ ∃ c, z.cps[i]? = some c ∧ x = .str ⟨#[c]⟩, fun i _ => i = z.cps.size⟩
def iStr (tl : TE) : TI := fun σ H R => tl σ H fun x H1 => ∃ z, x = .str z ∧ R (Its z) H1
/-! ### a tuple times an int above 1 -/
open PySem.AutoSeq1 (wpAny_loadPart') in
theorem tuple_mul2 (l : Addr) (items : Array Value) (n : Nat) (dd : Option Addr) (sl : Array (Option Value)) (x : Int) (u : Tok) (h2 : 2 ≤ x) (hx : x < 2 ^ 62) (hne : items.isEmpty = false) (hz : items.size * x.toNat ≤ sizeLine) :
    Meets (Builtin.«tuple.__mul__» ⟨[.ref l, .int x u], []⟩) (fun _ R s => s.heap.get? l = some { cls := .type "tuple", dict := dd, data := .seq items n, slots := sl } ∧ R (.ok (.ret (Value.ref s.heap.objs.size))) { s with heap := s.heap.push { cls := Value.type "tuple", data := Data.seq (List.foldl (fun x1 x2 => x1 ++ x2) #[] (List.replicate x.toNat items)) }, toks := s.toks }) :=
  .of_wp fun prog w A R s h => by
    obtain ⟨hp, g, d, tk, os⟩ := s; obtain ⟨hl, h⟩ := h
    have f1 := AutoSeq1.idx_int
    have hs : sizeLine = 16777216 := sizeLine_eq
    have hm : ((items.size * x.toNat : Nat) : Int) = (items.size : Int) * x := by
      rw [Int.natCast_mul, Int.toNat_of_nonneg (by omega)]
    have c0 : ¬ (decide (x < -2 ^ 63) || decide (x ≥ 2 ^ 63)) = true := by
      simp only [Bool.or_eq_true, decide_eq_true_eq, not_or]
      omega
    have c1 : ¬ (items.isEmpty || x == 1) = true := by
      rw [hne, Bool.false_or]
      simp only [beq_iff_eq]
      omega
    have c2 : ¬ (decide (x ≤ 0) || items.isEmpty) = true := by
      rw [hne, Bool.or_false]
      simp only [decide_eq_true_eq]
      omega
    have c3 : ¬ ((items.size : Int) * x > (2 ^ 63 - 1) / 8) := by
      rw [← hm]
      have : (2 ^ 63 - 1 : Int) / 8 = 1152921504606846975 := by decide
      rw [this]
      omega
    have c4 : ¬ Builtin.Tuple.tupleTooMany ((items.size : Int) * x) = true := by
      unfold Builtin.Tuple.tupleTooMany
      simp only [decide_eq_true_eq]
      rw [← hm]
      omega
    wp_walk using wpAny_loadPart' hl
    refine PySem.W.KFB.if_not (Bool.eq_false_iff.mpr c0) ?_
    wp_walk using wpAny_loadPart' hl
    refine PySem.W.KFB.if_not (Bool.eq_false_iff.mpr c1) ?_
    refine PySem.W.KFB.if_not (Bool.eq_false_iff.mpr c2) ?_
    dsimp only
    rw [if_neg c3]
    refine PySem.W.KFB.if_not (Bool.eq_false_iff.mpr c4) ?_
    refine wpAny_bind (wpAny_newObj_type (wpAny_pure ⟨_, rfl, h⟩) ?_)
    show (List.foldl (fun x1 x2 => x1 ++ x2) #[] (List.replicate x.toNat items)).size ≤ sizeLine
    have e := foldl_rep items.toList x.toNat []
    rw [List.nil_append] at e
    have e2 : items.toList.toArray = items := by simp
    rw [e2] at e
    rw [show ([] : List Value).toArray = #[] from rfl] at e
    rw [e, List.size_toArray, len_rep, Array.length_toList, Nat.mul_comm]
    exact hz
def rRepT (K : PySem.W.Frag) : R2 := fun x y H Q => ∃ l k xs, x = .ref l ∧ y = .int k ∧ SqT K H l xs ∧ 2 ≤ k ∧ k < 2 ^ 62 ∧ xs ≠ [] ∧ xs.length * k.toNat ≤ sizeLine ∧
  ∀ p, H p = none → Q (.ref p) (upd H p (.tup (List.replicate k.toNat xs).flatten))
end
end L2


set_option Elab.async false
set_option linter.all false
set_option maxRecDepth 100000
/-! ONE RULE for each written operation, whatever the kinds; callees; data -/
namespace L2
open PySem PySem.Spec PyProof.Rows
section
variable {X : Cx}
/-! ### a list or a tuple is no text, and not None -/
def Seq (K : PySem.W.Frag) (H : Hp) (a : Addr) : Prop := (∃ xs, SqL K H a xs) ∨ ∃ xs, SqT K H a xs
theorem op_eq_rs (hu : X.A.units + 64 < cLine) : OpR X (compareOp .Eq) (fun x y H Q => ∃ a z, x = .ref a ∧ y = .str z ∧ Seq X.K H a ∧ Q (.bl false) H) := by
  intro pins s σ H x y v u Q I rx ry h
  obtain ⟨a, z, rfl, rfl, hq, q⟩ := h
  cases rx
  obtain ⟨t, rfl⟩ := ry
  show wpAny _ _ (richCompare .Eq _ _) _ _ _
  rcases hq with ⟨xs, hq⟩ | ⟨xs, hq⟩
  · obtain ⟨its, r, pl, hz⟩ := I.list hq
    exact SeqAt.RcAt.list_str z t pl.isList (by omega) _ _ _ _ ⟨.bl false, H, I, rfl, q⟩
  · obtain ⟨its, r, pl, hz⟩ := I.tuple hq
    exact SeqAt.RcAt.tuple_str z t (show s.heap.IsTuple a its.toArray from pl) (by omega) _ _ _ _ ⟨.bl false, H, I, rfl, q⟩
def isN : V → Bool
  | .non => true
  | _ => false
def isNU : Value → Bool
  | .none => true
  | _ => false
/-- None in a list of tuples and Nones -/
theorem op_in_none (hu : X.A.units + 64 < cLine) : OpR X (compareOp .In) (fun x y H Q => ∃ p xs, x = .non ∧ y = .ref p ∧ SqL X.K H p xs ∧ (∀ v ∈ xs, v = .non ∨ ∃ a ys, v = .ref a ∧ SqT X.K H a ys) ∧ Q (.bl (xs.any isN)) H) := by
  intro pins s σ H x y v u Q I rx ry h
  obtain ⟨p, xs, rfl, rfl, hq, hall, q⟩ := h
  cases rx; cases ry
  obtain ⟨its, r, pl, hz⟩ := I.list hq
  have hmem : ∀ (xs : List V) (us : List Value), Vals xs us → (∀ v ∈ xs, v = .non ∨ ∃ a ys, v = .ref a ∧ SqT X.K H a ys) → (∀ u ∈ us, SeqAt.EqAt X.A.in1 s u .none (isNU u)) ∧ us.any isNU = xs.any isN := by
    intro xs us rv
    induction rv with
    | nil => intro _; exact ⟨fun u hu => (by cases hu), rfl⟩
    | cons rr _ ih =>
      intro ha
      obtain ⟨i1, i2⟩ := ih fun v hv => ha v (List.mem_cons_of_mem _ hv)
      rcases ha _ List.mem_cons_self with e | ⟨a, ys, e, hs⟩
      · subst e
        cases rr
        refine ⟨fun u hu' => ?_, by rw [List.any_cons, List.any_cons, i2]; rfl⟩
        rcases List.mem_cons.mp hu' with rfl | h'
        · exact SeqAt.EqAt.same _
        · exact i1 u h'
      · subst e
        cases rr
        refine ⟨fun u hu' => ?_, by rw [List.any_cons, List.any_cons, i2]; rfl⟩
        rcases List.mem_cons.mp hu' with rfl | h'
        · obtain ⟨its, _, ht, _⟩ := I.tuple hs
          exact SeqAt.EqAt.tuple_none (show s.heap.IsTuple a its.toArray from ht) (by show X.A.units + 1 < _; omega)
        · exact i1 u h'
  obtain ⟨h1, h2⟩ := hmem xs its r hall
  refine SeqAt.in_listAt isNU pl.isList (fun w hw => h1 w (by simpa using hw)) ⟨.bl _, H, I, rfl, ?_⟩
  rw [show its.toArray.any isNU = its.any isNU by simp, h2]
  exact q

/-! ### one rule each -/
def rLeS : R2 := fun x y H Q => ∃ i j, x = .str i ∧ y = .str j ∧ Q (.bl (!decide (j.cps.toList < i.cps.toList))) H
def rLtS : R2 := fun x y H Q => ∃ i j, x = .str i ∧ y = .str j ∧ Q (.bl (decide (i.cps.toList < j.cps.toList))) H
def rInS : R2 := fun x y H Q => ∃ i j, x = .str i ∧ y = .str j ∧ Q (.bl (!(Builtin.Str.occurrences j i 0 j.length 1).isEmpty)) H
def rNotInS : R2 := fun x y H Q => ∃ i j, x = .str i ∧ y = .str j ∧ Q (.bl (!(!(Builtin.Str.occurrences j i 0 j.length 1).isEmpty))) H
def rInN (K : PySem.W.Frag) : R2 := fun x y H Q => ∃ p xs, x = .non ∧ y = .ref p ∧ SqL K H p xs ∧ (∀ v ∈ xs, v = .non ∨ ∃ a ys, v = .ref a ∧ SqT K H a ys) ∧ Q (.bl (xs.any isN)) H
def rEqRS (K : PySem.W.Frag) : R2 := fun x y H Q => ∃ a z, x = .ref a ∧ y = .str z ∧ Seq K H a ∧ Q (.bl false) H
/-- what two values come to by ==; whether the one is in the other; how long one is: each told once -/
def EqOf (K : PySem.W.Frag) (x y : V) (H : Hp) (b : Bool) : Prop := (scal x y = true ∧ b = decide (x = y)) ∨
  (∃ a c xs ys, x = .ref a ∧ y = .ref c ∧ SqL K H a xs ∧ SqL K H c ys ∧ xs.all okV = true ∧ ys.all okV = true ∧ b = eqL xs ys) ∨ (∃ a z, x = .ref a ∧ y = .str z ∧ Seq K H a ∧ b = false)
def qEq (K : PySem.W.Frag) : R2 := fun x y H Q => ∃ b, EqOf K x y H b ∧ Q (.bl b) H
def qNe (K : PySem.W.Frag) : R2 := fun x y H Q => ∃ b, ((scal x y = true ∧ b = decide (x = y)) ∨ (∃ a c xs ys, x = .ref a ∧ y = .ref c ∧ SqL K H a xs ∧ SqL K H c ys ∧ xs.all okV = true ∧ ys.all okV = true ∧ b = eqL xs ys)) ∧ Q (.bl (!b)) H
def InOf (K : PySem.W.Frag) (x y : V) (H : Hp) (b : Bool) : Prop := (∃ p xs, y = .ref p ∧ (SqL K H p xs ∨ SqT K H p xs) ∧ flatV x = true ∧ xs.all flatV = true ∧ b = inV x xs) ∨
  (∃ i j, x = .str i ∧ y = .str j ∧ b = !(Builtin.Str.occurrences j i 0 j.length 1).isEmpty) ∨
  (∃ p xs, x = .non ∧ y = .ref p ∧ SqL K H p xs ∧ (∀ v ∈ xs, v = .non ∨ ∃ a ys, v = .ref a ∧ SqT K H a ys) ∧ b = xs.any isN)
def qIn (K : PySem.W.Frag) : R2 := fun x y H Q => ∃ b, InOf K x y H b ∧ Q (.bl b) H
def NotInOf (K : PySem.W.Frag) (x y : V) (H : Hp) (b : Bool) : Prop := (∃ p xs, y = .ref p ∧ (SqL K H p xs ∨ SqT K H p xs) ∧ flatV x = true ∧ xs.all flatV = true ∧ b = !inV x xs) ∨
  (∃ i j, x = .str i ∧ y = .str j ∧ b = !(!(Builtin.Str.occurrences j i 0 j.length 1).isEmpty)) ∨
  (∃ a p xs, x = .ref a ∧ y = .ref p ∧ Seq K H a ∧ SqT K H p xs ∧ (∀ v ∈ xs, ∃ z, v = .str z) ∧ b = true)
def qNotIn (K : PySem.W.Frag) : R2 := fun x y H Q => ∃ b, NotInOf K x y H b ∧ Q (.bl b) H
def LenOf (K : PySem.W.Frag) (x : V) (H : Hp) (n : Nat) : Prop := (∃ p ys, x = .ref p ∧ (SqL K H p ys ∨ SqT K H p ys) ∧ n = ys.length) ∨ ∃ z, x = .str z ∧ z.length ≤ sizeLine ∧ n = z.length
def qLen (K : PySem.W.Frag) : List V → Hp → VK → Prop := fun xs H Q => ∃ x n, xs = [x] ∧ LenOf K x H n ∧ Q (.int n) H
def qIsN : R2 := fun x y H Q => y = .non ∧ Q (.bl (decide (x = .non))) H
def qNotN : R2 := fun x y H Q => y = .non ∧ Q (.bl (!decide (x = .non))) H
def qIsB : R2 := fun x y H Q => ∃ a b, x = .bl a ∧ y = .bl b ∧ Q (.bl (a == b)) H
def qNotB : R2 := fun x y H Q => ∃ a b, x = .bl a ∧ y = .bl b ∧ Q (.bl (a != b)) H
theorem op_notIn_rs (hu : X.A.units + 64 < cLine) : OpR X (compareOp .NotIn) (fun x y H Q => ∃ a p xs, x = .ref a ∧ y = .ref p ∧ Seq X.K H a ∧ SqT X.K H p xs ∧ (∀ v ∈ xs, ∃ z, v = .str z) ∧ Q (.bl true) H) := by
  intro pins s σ H x y v u Q I rx ry h
  obtain ⟨a, p, xs, rfl, rfl, hq, hp, hall, q⟩ := h
  cases rx; cases ry
  obtain ⟨its, r, pl, hz⟩ := I.tuple hp
  have hmem : ∀ (xs : List V) (us : List Value), Vals xs us → (∀ v ∈ xs, ∃ z, v = .str z) → ∀ u ∈ us, SeqAt.EqAt X.A.in1 s u (.ref a) ((fun _ => false) u) := by
    intro xs us rv
    induction rv with
    | nil => intro _ u hu; cases hu
    | cons rr _ ih =>
      intro ha u hu'
      rcases List.mem_cons.mp hu' with rfl | h'
      · obtain ⟨z, e⟩ := ha _ List.mem_cons_self
        subst e
        obtain ⟨t, rfl⟩ := rr
        rcases hq with ⟨ys, hq⟩ | ⟨ys, hq⟩
        · obtain ⟨its, _, pl, _⟩ := I.list hq
          exact SeqAt.EqAt.str_list z t pl.isList (by show X.A.units + 1 < _; omega)
        · obtain ⟨its, _, pl, _⟩ := I.tuple hq
          exact SeqAt.EqAt.str_tuple z t (show s.heap.IsTuple a its.toArray from pl) (by show X.A.units + 1 < _; omega)
      · exact ih (fun v hv => ha v (List.mem_cons_of_mem _ hv)) u h'
  refine SeqAt.notIn_tupleAt (fun _ => false) pl (fun w hw => hmem xs its r hall w (by simpa using hw)) ⟨.bl _, H, I, rfl, ?_⟩
  have e : (!its.toArray.any fun _ => false) = true := by simp
  rw [e]
  exact q
theorem gEq (hu : X.A.units + 64 < cLine) : OpR X (compareOp .Eq) (qEq X.K) := by
  intro pins s σ H x y v u Q I rx ry h
  obtain ⟨b, h, q⟩ := h
  rcases h with ⟨h, rfl⟩ | ⟨a, c, xs, ys, h1, h2, h3, h4, h5, h6, rfl⟩ | ⟨a, z, h1, h2, h3, rfl⟩
  · exact op_eq pins s σ H x y v u Q I rx ry ⟨h, q⟩
  · exact op_eqL hu pins s σ H x y v u Q I rx ry ⟨a, c, xs, ys, h1, h2, h3, h4, h5, h6, q⟩
  · exact op_eq_rs hu pins s σ H x y v u Q I rx ry ⟨a, z, h1, h2, h3, q⟩
theorem gNe (hu : X.A.units + 64 < cLine) : OpR X (compareOp .NotEq) (qNe X.K) := by
  intro pins s σ H x y v u Q I rx ry h
  obtain ⟨b, h, q⟩ := h
  rcases h with ⟨h, rfl⟩ | ⟨a, c, xs, ys, h1, h2, h3, h4, h5, h6, rfl⟩
  · exact op_ne pins s σ H x y v u Q I rx ry ⟨h, q⟩
  · exact op_neL hu pins s σ H x y v u Q I rx ry ⟨a, c, xs, ys, h1, h2, h3, h4, h5, h6, q⟩
theorem gIn (hu : X.A.units + 64 < cLine) : OpR X (compareOp .In) (qIn X.K) := by
  intro pins s σ H x y v u Q I rx ry h
  obtain ⟨b, h, q⟩ := h
  rcases h with ⟨p, xs, h1, h2, h3, h4, rfl⟩ | ⟨i, j, h1, h2, rfl⟩ | ⟨p, xs, h1, h2, h3, h4, rfl⟩
  · exact op_in_seq pins s σ H x y v u Q I rx ry ⟨p, xs, h1, h2, h3, h4, q⟩
  · exact op_in_str pins s σ H x y v u Q I rx ry ⟨i, j, h1, h2, q⟩
  · exact op_in_none hu pins s σ H x y v u Q I rx ry ⟨p, xs, h1, h2, h3, h4, q⟩
theorem gNotIn (hu : X.A.units + 64 < cLine) : OpR X (compareOp .NotIn) (qNotIn X.K) := by
  intro pins s σ H x y v u Q I rx ry h
  obtain ⟨b, h, q⟩ := h
  rcases h with ⟨p, xs, h1, h2, h3, h4, rfl⟩ | ⟨i, j, h1, h2, rfl⟩ | ⟨a, p, xs, h1, h2, h3, h4, h5, rfl⟩
  · exact op_notIn_seq pins s σ H x y v u Q I rx ry ⟨p, xs, h1, h2, h3, h4, q⟩
  · exact op_notIn_str pins s σ H x y v u Q I rx ry ⟨i, j, h1, h2, q⟩
  · exact op_notIn_rs hu pins s σ H x y v u Q I rx ry ⟨a, p, xs, h1, h2, h3, h4, h5, q⟩
theorem gLen : CallR X (.builtin "len") (qLen X.K) := by
  intro pins s σ H xs us Q I r h
  obtain ⟨x, n, rfl, h, q⟩ := h
  rcases h with ⟨p, ys, rfl, h, rfl⟩ | ⟨z, rfl, hz, rfl⟩
  · exact call_len_seq pins s σ H _ us Q I r ⟨p, ys, rfl, h, q⟩
  · exact call_len_str pins s σ H _ us Q I r ⟨z, rfl, hz, q⟩
theorem op_eqI : OpR X (compareOp .Eq) (rI0 fun i j => .bl (decide (i = j))) := by
  intro pins s σ H x y v u Q I rx ry h
  obtain ⟨i, j, rfl, rfl, q⟩ := h
  refine op_eq pins s σ H _ _ v u Q I rx ry ⟨rfl, ?_⟩
  have e : decide (V.int i = V.int j) = decide (i = j) := by simp
  rw [e]; exact q
theorem op_neI : OpR X (compareOp .NotEq) (rI0 fun i j => .bl (!decide (i = j))) := by
  intro pins s σ H x y v u Q I rx ry h
  obtain ⟨i, j, rfl, rfl, q⟩ := h
  refine op_ne pins s σ H _ _ v u Q I rx ry ⟨rfl, ?_⟩
  have e : decide (V.int i = V.int j) = decide (i = j) := by simp
  rw [e]; exact q
theorem gIsN : OpR X (compareOp .Is) qIsN := op_isN
theorem gNotN : OpR X (compareOp .IsNot) qNotN := op_notN
def qInst (K : PySem.W.Frag) : List V → Hp → VK → Prop := fun xs H Q => ∃ x n b, xs = [x, .ty n] ∧ (∃ t, TyOf K H x t ∧ PySem.W.kitOne K t (.type n) = some b) ∧ Q (.bl b) H
end
/-! ### argument lists without a look into eval -/
def isStar : Expr → Bool
  | .Starred .. => true
  | _ => false
def noStars : List Expr → Bool
  | [] => true
  | e :: r => !isStar e && noStars r
theorem starEach_plain {e : Expr} {es : List Expr} {env : Env} (h : isStar e = false) : starEach (e :: es) env = (false, eval e env) :: starEach es env := by
  cases e <;> first | rfl | exact absurd (show true = false from h) (by decide)
theorem noStars_any {pos : Pos} {env : Env} : ∀ {es : List Expr}, noStars es = true → (backTo pos (starEach es env)).any (·.1) = false
  | [], _ => rfl
  | e :: r, h => by
    rw [noStars, Bool.and_eq_true, Bool.not_eq_true'] at h
    rw [starEach_plain h.1]
    have q := noStars_any (pos := pos) (env := env) h.2
    show (false || (backTo pos (starEach r env)).any (·.1)) = false
    rw [q]; rfl
theorem pa_c {X : Cx} {e : Expr} {es : List Expr} {te : TE} {t : TA} (ha : PE X e te) (hr : PA X es t) (h : isStar e = false := by rfl) : PA X (e :: es) (tCons te t) := pa_cons ha hr (starEach_plain h)
/-! ### callees and constants of the text -/
structure Callee (P : Program) (w : World) (K : PySem.W.Frag) (mg : Str → Option Value) (base : Heap) (x : Str) (ps : List Str) (k : Nat) (sp : Sp) : Prop where
  ex : ∃ f fd, FnOk P w K mg base CX0 k f fd ps sp ∧ mg x = some (.ref f) ∧ PySem.W.keepIn K (.ref f) = true ∧ Binds K fd ps []
theorem Callee.mono {P : Program} {w : World} {K : PySem.W.Frag} {mg : Str → Option Value} {base : Heap} {x : Str} {ps : List Str} {j k : Nat} {sp : Sp} (h : Callee P w K mg base x ps j sp) (hk : j ≤ k) : Callee P w K mg base x ps k sp := by
  obtain ⟨f, fd, a, b, c, d⟩ := h
  exact ⟨f, fd, a.mono hk, b, c, d⟩
theorem pe_cc {X : Cx} {x : Str} {ps : List Str} {k j : Nat} {sp : Sp} {e : Expr} {es : List Expr} {t : TA} {p pos : Pos} (C : Callee X.prog X.w X.K X.mg X.base x ps k sp) (hr : Room j X.A) (hk : k ≤ j) (ha : PA X (e :: es) t) (hg : Gl X x := by rfl)
    (hdb : (x == ("__debug__" : Str)) = false := by decide) (hst : noStars (e :: es) = true := by rfl) :
    PE X (.Call (.Name x p) (e :: es) [] pos) (tCall sp [] E0 t) := by
  have hst' := hst
  rw [noStars, Bool.and_eq_true, Bool.not_eq_true'] at hst'
  have he := starEach_plain (es := es) (env := X.env) hst'.1
  have hpl := noStars_any (pos := pos) (env := X.env) hst'.2
  obtain ⟨f, fd, F, hm, hkp, hb⟩ := C
  intro pins s σ H Q I h
  refine wpAny_Call_Name_kw (ld_glob I hg hm ?_ hdb)
  refine PySem.W.callWith_K (h₀ := X.base) I.ok.mod.kin hkp (thn (ha pos pins s σ H _ I h) fun us s1 ⟨vs, H1, I1, r, q⟩ => ⟨I1.kIn, ?_⟩) he hpl
  exact run_fn F (hr.mono hk) hb .nil (fun _ _ _ _ _ _ _ z => z.elim) I1 r q
theorem pe_cB {X : Cx} {x : Str} {p pos : Pos} {e : Expr} {es : List Expr} {t : TA} {id : String} {r : List V → Hp → VK → Prop} (hc : CallR X (.builtin id) r) (hg : Gl X x) (hm : X.mg x = none) (hv : bootBuiltins x = some (.builtin id)) (ha : PA X (e :: es) t) (hn : x ≠ "__name__") (hdb : (x == ("__debug__" : Str)) = false)
    (hst : noStars (e :: es) = true := by rfl) : PE X (.Call (.Name x p) (e :: es) [] pos) (tCB r t) := by
  have hst' := hst
  rw [noStars, Bool.and_eq_true, Bool.not_eq_true'] at hst'
  exact pe_callB hc hg hm hv ha hn hdb (starEach_plain hst'.1) (noStars_any hst'.2)
theorem pe_cT {X : Cx} {x : Str} {p pos : Pos} {e : Expr} {es : List Expr} {t : TA} {T : String} {r : List V → Hp → VK → Prop} (hc : CallR X (.type T) r) (hg : Gl X x) (hm : X.mg x = none) (hv : bootBuiltins x = some (.type T)) (ha : PA X (e :: es) t) (hn : x ≠ "__name__") (hdb : (x == ("__debug__" : Str)) = false)
    (hst : noStars (e :: es) = true := by rfl) : PE X (.Call (.Name x p) (e :: es) [] pos) (tCB r t) := by
  have hst' := hst
  rw [noStars, Bool.and_eq_true, Bool.not_eq_true'] at hst'
  exact pe_callTy hc hg hm hv ha hn hdb (starEach_plain hst'.1) (noStars_any hst'.2)
structure GC (mg : Str → Option Value) (x : Str) (v : V) : Prop where
  ex : ∃ u, mg x = some u ∧ RelV v u
/-- a comprehension's scopes, by one look -/
def compChk (N : List Str) (on : List (Str × NameKind)) (sc : Scope) (N' : List Str) (mp : List (Option Nat)) : Bool :=
  sc.kind == .function && sc.names.all (fun y => y.2 != .cell) && sc.names.all (fun y => y.2 != .local || sc.names.lookup y.1 == some .local) && sc.names.all (fun y => y.2 != .free || on.lookup y.1 == some .cell) && compOk N on sc.names N' mp
theorem CompS.of {X : Cx} {N' : List Str} {sc : Scope} {mp : List (Option Nat)} (h : compChk X.N X.env.scope.names sc N' mp = true) : CompS X N' sc mp := by
  unfold compChk at h
  simp only [Bool.and_eq_true, beq_iff_eq] at h
  obtain ⟨⟨⟨⟨h1, h2⟩, h3⟩, h4⟩, h5⟩ := h
  refine ⟨h1, fun y hy => ?_, fun y hy e => ?_, fun y hy e => ?_, h5⟩
  · have := List.all_eq_true.mp h2 y hy
    simpa using this
  · have := List.all_eq_true.mp h3 y hy
    simp only [e, Bool.or_eq_true, beq_iff_eq] at this
    rcases this with z | z
    · exact absurd z (by decide)
    · exact z
  · have := List.all_eq_true.mp h4 y hy
    simp only [e, Bool.or_eq_true, beq_iff_eq] at this
    rcases this with z | z
    · exact absurd z (by decide)
    · exact z

/-! ### the written part by its name (within comprehensions) -/
theorem opK {X : Cx} {K : PySem.W.Frag} {f : Value → Value → Sem Value} {r : PySem.W.Frag → R2} (h : OpR X f (r X.K)) (hK : X.K = K) : OpR X f (r K) := hK ▸ h
theorem ixK {X : Cx} {K : PySem.W.Frag} {r : PySem.W.Frag → R2} (h : IxR X (r X.K)) (hK : X.K = K) : IxR X (r K) := hK ▸ h
def isComp : Expr → Bool
  | .ListComp .. => true
  | .SetComp .. => true
  | .DictComp .. => true
  | _ => false
theorem swaps_plain {e : Expr} {t : Option Expr} {l : Nat} {env : Env} (h : isComp e = false) : swapsWith e t l env = pure false := by
  cases e <;> first | rfl | exact absurd (show true = false from h) (by decide)
/-! ### data: what a value means, lists left closed -/
inductive Dm where
  | non | bl (b : Bool) | int (i : Int) | str (x : Str) | tup (ds : List Dm) | lst
mutual
inductive Dt (H : Hp) : V → Dm → Prop where
  | non : Dt H .non .non
  | bl (b : Bool) : Dt H (.bl b) (.bl b)
  | int (i : Int) : Dt H (.int i) (.int i)
  | str (x : Str) : Dt H (.str x) (.str x)
  | tup {a : Addr} {xs : List V} {ds : List Dm} : H a = some (.tup xs) → DtA H xs ds → Dt H (.ref a) (.tup ds)
  | lst {a : Addr} {xs : List V} : H a = some (.lst xs) → Dt H (.ref a) .lst
inductive DtA (H : Hp) : List V → List Dm → Prop where
  | nil : DtA H [] []
  | cons {x : V} {xs : List V} {d : Dm} {ds : List Dm} : Dt H x d → DtA H xs ds → DtA H (x :: xs) (d :: ds)
end
/-- tuples stay, lists stay lists -/
structure Kp (H H' : Hp) : Prop where
  t : ∀ b xs, H b = some (.tup xs) → H' b = some (.tup xs)
  l : ∀ b xs, H b = some (.lst xs) → ∃ ys, H' b = some (.lst ys)
theorem Kp.refl (H : Hp) : Kp H H := ⟨fun _ _ h => h, fun _ xs h => ⟨xs, h⟩⟩
theorem Kp.trans {H H1 H2 : Hp} (a : Kp H H1) (b : Kp H1 H2) : Kp H H2 := ⟨fun c xs h => b.t c xs (a.t c xs h), fun c xs h => let ⟨ys, e⟩ := a.l c xs h; b.l c ys e⟩
theorem Same.kp {H H' : Hp} (s : Same H H') : Kp H H' := ⟨fun b xs h => s b _ h, fun b xs h => ⟨xs, s b _ h⟩⟩
theorem same_new {H : Hp} {p : Addr} (h : H p = none) (o : HO) : Same H (upd H p o) := fun b u q => by rw [upd_ne (ne_of_none q h)]; exact q
theorem Kp.new {H : Hp} {p : Addr} (h : H p = none) (o : HO) : Kp H (upd H p o) := (same_new h o).kp
theorem Kp.set {H : Hp} {p : Addr} {xs ys : List V} (h : H p = some (.lst xs)) : Kp H (upd H p (.lst ys)) :=
  ⟨fun b zs e => by rw [upd_ne (ne_of e h (by intro z; cases z))]; exact e, fun b zs e => by
    by_cases hb : b = p
    · subst hb; exact ⟨ys, upd_same⟩
    · exact ⟨zs, by rw [upd_ne hb]; exact e⟩⟩
mutual
theorem Dt.kp {H H' : Hp} (k : Kp H H') : ∀ {v : V} {d : Dm}, Dt H v d → Dt H' v d
  | _, _, .non => .non
  | _, _, .bl b => .bl b
  | _, _, .int i => .int i
  | _, _, .str x => .str x
  | _, _, .tup e r => .tup (k.t _ _ e) (DtA.kp k r)
  | _, _, .lst e => let ⟨_, e'⟩ := k.l _ _ e; .lst e'
theorem DtA.kp {H H' : Hp} (k : Kp H H') : ∀ {xs : List V} {ds : List Dm}, DtA H xs ds → DtA H' xs ds
  | _, _, .nil => .nil
  | _, _, .cons r t => .cons (Dt.kp k r) (DtA.kp k t)
end
theorem DtA.length {H : Hp} : ∀ {xs : List V} {ds : List Dm}, DtA H xs ds → xs.length = ds.length
  | _, _, .nil => rfl
  | _, _, .cons _ t => by rw [List.length_cons, List.length_cons, DtA.length t]
theorem DtA.append {H : Hp} : ∀ {xs ys : List V} {ds es : List Dm}, DtA H xs ds → DtA H ys es → DtA H (xs ++ ys) (ds ++ es)
  | _, _, _, _, .nil, h => h
  | _, _, _, _, .cons r t, h => .cons r (DtA.append t h)
theorem DtA.get {H : Hp} : ∀ {xs : List V} {ds : List Dm} {i : Nat} {x : V}, DtA H xs ds → xs[i]? = some x → ∃ d, ds[i]? = some d ∧ Dt H x d
  | _, _, _, _, .nil, e => by simp at e
  | _, _, 0, _, .cons r _, e => by simp at e; subst e; exact ⟨_, rfl, r⟩
  | _, _, i + 1, x, .cons _ t, e => by
    obtain ⟨d, h1, h2⟩ := DtA.get (i := i) (x := x) t (by simpa using e)
    exact ⟨d, by simpa using h1, h2⟩
end L2


set_option Elab.async false
set_option linter.all false
set_option maxRecDepth 100000
/-! least and greatest of a list, sorted ints, list(range()), == of nested data -/
namespace L2
open PySem PySem.Spec PyProof.Rows
section
variable {X : Cx}
theorem vals_of_ints : ∀ {ns : List Int} {us : List Value}, IntsAre us ns → Vals (ns.map V.int) us
  | _, _, .nil => .nil
  | _, _, .cons n t h => .cons ⟨t, rfl⟩ (vals_of_ints h)
def qMinL (K : PySem.W.Frag) : List V → Hp → VK → Prop := fun xs H Q => ∃ (a : Addr) (ns : List Int), xs = [.ref a] ∧ SqL K H a (ns.map V.int) ∧ 0 < ns.length ∧ ∀ M, M ∈ ns → (∀ a ∈ ns, M ≤ a) → Q (.int M) H
def qMaxL (K : PySem.W.Frag) : List V → Hp → VK → Prop := fun xs H Q => ∃ (a : Addr) (ns : List Int), xs = [.ref a] ∧ SqL K H a (ns.map V.int) ∧ 0 < ns.length ∧ ∀ M, M ∈ ns → (∀ a ∈ ns, a ≤ M) → Q (.int M) H
theorem call_minL (hc : X.calm = true) : CallR X (.builtin "min") (qMinL X.K) := by
  intro pins s σ H xs us Q I r h
  obtain ⟨a, ns, rfl, hq, hne, q⟩ := h
  obtain ⟨u, rfl, r1⟩ := r.one
  cases r1
  obtain ⟨its, rv, pl, hz⟩ := I.list hq
  have hi := intsAre_of rv
  obtain ⟨xs, e⟩ := hi.allInts.items
  have hns : ns = xs.toList.map (·.1) := by
    rw [← hi.numsOf, ← nums_intItems, ← e]
  have hsz : 0 < xs.size := by
    have h3 := hne; rw [hns, List.length_map, Array.length_toList] at h3; exact h3
  have hl := pl.isList
  rw [e] at hl
  refine min_intList (I.ok.hd hc) hl hsz fun v h' tk hv hk => ?_
  obtain ⟨t, rfl⟩ := intItems_at hv
  obtain ⟨h1, h2⟩ := argBest_lt (numAt xs) (xs.size - 1)
  refine ⟨.int _, H, I.kept hk, ⟨_, rfl⟩, q _ ?_ fun a ha => ?_⟩
  · rw [hns, numAt_eq]; exact getD_mem (by rw [List.length_map, Array.length_toList]; omega)
  · rw [hns] at ha
    obtain ⟨j, hj, rfl⟩ := mem_getD ha
    rw [List.length_map, Array.length_toList] at hj
    rw [← numAt_eq]; exact h2 j (by omega)
theorem call_maxL (hc : X.calm = true) : CallR X (.builtin "max") (qMaxL X.K) := by
  intro pins s σ H xs us Q I r h
  obtain ⟨a, ns, rfl, hq, hne, q⟩ := h
  obtain ⟨u, rfl, r1⟩ := r.one
  cases r1
  obtain ⟨its, rv, pl, hz⟩ := I.list hq
  have hi := intsAre_of rv
  obtain ⟨xs, e⟩ := hi.allInts.items
  have hns : ns = xs.toList.map (·.1) := by
    rw [← hi.numsOf, ← nums_intItems, ← e]
  have hsz : 0 < xs.size := by
    have h3 := hne; rw [hns, List.length_map, Array.length_toList] at h3; exact h3
  have hl := pl.isList
  rw [e] at hl
  refine max_intList (I.ok.hd hc) hl hsz fun v h' tk hv hk => ?_
  obtain ⟨t, rfl⟩ := intItems_at hv
  obtain ⟨h1, h2⟩ := argBest_gt (numAt xs) (xs.size - 1)
  refine ⟨.int _, H, I.kept hk, ⟨_, rfl⟩, q _ ?_ fun a ha => ?_⟩
  · rw [hns, numAt_eq]; exact getD_mem (by rw [List.length_map, Array.length_toList]; omega)
  · rw [hns] at ha
    obtain ⟨j, hj, rfl⟩ := mem_getD ha
    rw [List.length_map, Array.length_toList] at hj
    rw [← numAt_eq]; exact h2 j (by omega)
def qSortI (K : PySem.W.Frag) : List V → Hp → VK → Prop := fun xs H Q => ∃ (a : Addr) (ns : List Int), xs = [.ref a] ∧ SqL K H a (ns.map V.int) ∧ ns.length < 64 ∧ ∀ (l : Addr) (ms : List Int), H l = none → ms.Perm ns → ms.Pairwise (· ≤ ·) → Q (.ref l) (upd H l (.lst (ms.map V.int)))
theorem call_sortedI : CallR X (.builtin "sorted") (qSortI X.K) := by
  intro pins s σ H xs us Q I r h
  obtain ⟨a, ns, rfl, hq, h64, q⟩ := h
  obtain ⟨u, rfl, r1⟩ := r.one
  cases r1
  obtain ⟨its, rv, pl, hz⟩ := I.list hq
  have hi := intsAre_of rv
  have hlen := rv.length
  rw [List.length_map] at hlen hz
  refine sorted_ints pl.isList hi (by omega) fun out ms a1 a2 a3 => ?_
  obtain ⟨e, he⟩ := sortedAll_at s.heap its out
  refine ⟨.ref (s.heap.objs.size + 1), _, I.laid (t' := s.toks) (fun b o e => sortedAll_old e) (Nat.le_succ _) (show ObjOk X.prog X.w _ _ _ (.lst (ms.map V.int)) from ⟨?_, out.toList, e, vals_of_ints a1, ?_⟩), rfl, q _ _ (I.hok.fresh (Nat.le_succ _)) a2 a3⟩
  · rw [List.length_map, a2.length_eq]; exact hz
  · simpa [seqObj] using he
def rngInts (lo : Int) (n : Nat) : List Int := (List.range n).map fun (i : Nat) => lo + (i : Int)
/-! ### a conditional as a test -/
def tIfT (t ta tb : TT) : TT := fun σ H Q => t σ H fun c H1 => if c = true then ta σ H1 Q else tb σ H1 Q
theorem pt_ifExp {c a b : Expr} {tc ta tb : TT} {pos : Pos} (hc : PT X c tc) (ha : PT X a ta) (hb : PT X b tb) : PT X (.IfExp c a b pos) (tIfT tc ta tb) := by
  intro pins s σ H Q I h
  refine isTrue_IfExp (thn (hc pins s σ H _ I h) fun d s1 ⟨H1, I1, q1⟩ => ?_)
  cases d with
  | true => exact ha pins s1 σ H1 Q I1 q1
  | false => exact hb pins s1 σ H1 Q I1 q1
/-! ### nested data -/
mutual
def Dm.dat : Dm → PyData
  | .non => .none
  | .bl b => .bool b
  | .int i => .int i
  | .str x => .str x
  | .tup ds => .tuple (datA ds)
  | .lst => .none
def datA : List Dm → List PyData
  | [] => []
  | d :: ds => d.dat :: datA ds
end
mutual
def Dm.shut : Dm → Bool
  | .tup ds => shutA ds
  | .lst => false
  | .str x => PyData.strOk x
  | _ => true
def shutA : List Dm → Bool
  | [] => true
  | d :: ds => d.shut && shutA ds
end
mutual
theorem Dt.reads {pins : List (Addr × Obj)} {σ : St} {H : Hp} {s : Shared} (I : Inv X pins σ H s) : ∀ {x : V} {d : Dm} {u : Value}, Dt H x d → d.shut = true → RelV x u → ∃ as, Reads s.heap u d.dat as
  | _, _, _, .non, _, r => by cases r; exact ⟨_, .none⟩
  | _, _, _, .bl b, _, r => by cases r; exact ⟨_, .bool b⟩
  | _, _, _, .int i, _, r => by obtain ⟨t, rfl⟩ := r; exact ⟨_, .int i t⟩
  | _, _, _, .str x, _, r => by obtain ⟨t, rfl⟩ := r; exact ⟨_, .str x t⟩
  | _, _, _, .tup e ra, hs, r => by
    cases r
    obtain ⟨its, rv, ⟨o, ho, hc, n, hd⟩, _⟩ := I.tuple (SqT.of e)
    obtain ⟨as, q⟩ := DtA.reads I ra (by simpa [Dm.shut] using hs) rv
    exact ⟨as, by rw [Dm.dat]; exact .tuple ho hc hd (by simpa using q)⟩
  | _, _, _, .lst _, hs, _ => absurd hs (by simp [Dm.shut])
theorem DtA.reads {pins : List (Addr × Obj)} {σ : St} {H : Hp} {s : Shared} (I : Inv X pins σ H s) : ∀ {xs : List V} {ds : List Dm} {us : List Value}, DtA H xs ds → shutA ds = true → Vals xs us → ∃ as, ReadsAll s.heap us (datA ds) as
  | _, _, _, .nil, _, .nil => ⟨[], by rw [datA]; exact .nil⟩
  | _, _, _, .cons r t, hs, .cons rv rt => by
    rw [shutA, Bool.and_eq_true] at hs
    obtain ⟨as, q1⟩ := Dt.reads I r hs.1 rv
    obtain ⟨bs, q2⟩ := DtA.reads I t hs.2 rt
    exact ⟨as ++ bs, by rw [datA]; exact .cons q1 q2⟩
end
def EqD (H : Hp) (x y : V) (b : Bool) : Prop := ∃ d e, Dt H x d ∧ Dt H y e ∧ (d.shut = true ∧ SeqAt.shaped d.dat = true) ∧ (e.shut = true ∧ SeqAt.shaped e.dat = true) ∧ b = PyData.eqv d.dat e.dat
def qEqD (_ : PySem.W.Frag) : R2 := fun x y H Q => ∃ b, EqD H x y b ∧ Q (.bl b) H
def qNeD (_ : PySem.W.Frag) : R2 := fun x y H Q => ∃ b, EqD H x y b ∧ Q (.bl (!b)) H
theorem dEq (hu : X.A.units + 64 < cLine) : OpR X (compareOp .Eq) (qEqD X.K) := by
  intro pins s σ H x y v u Q I rx ry h
  obtain ⟨b, ⟨d, e, dx, dy, ⟨s1, s2⟩, ⟨s3, s4⟩, rfl⟩, q⟩ := h
  obtain ⟨as, ra⟩ := Dt.reads I dx s1 rx
  obtain ⟨bs, rb⟩ := Dt.reads I dy s3 ry
  exact eq_dataH ra rb s2 s4 hu ⟨.bl _, H, I, rfl, q⟩
theorem dNe (hu : X.A.units + 64 < cLine) : OpR X (compareOp .NotEq) (qNeD X.K) := by
  intro pins s σ H x y v u Q I rx ry h
  obtain ⟨b, ⟨d, e, dx, dy, ⟨s1, s2⟩, ⟨s3, s4⟩, rfl⟩, q⟩ := h
  obtain ⟨as, ra⟩ := Dt.reads I dx s1 rx
  obtain ⟨bs, rb⟩ := Dt.reads I dy s3 ry
  exact ne_dataH ra rb s2 s4 hu ⟨.bl _, H, I, rfl, q⟩
end
end L2


set_option Elab.async false
set_option linter.all false
set_option maxRecDepth 100000
namespace L2
open PySem PySem.Spec PyProof.Rows

/-! ### lists of pairs as tables -/
section
variable {κ : Type} [DecidableEq κ]
def valV (kvs : List (κ × V)) (k : κ) : Option V := (kvs.find? fun kv => decide (kv.1 = k)).map (·.2)
/-- in its place, or at the end -/
def putK (kvs : List (κ × V)) (k : κ) (v : V) : List (κ × V) :=
  if (kvs.any fun kv => decide (kv.1 = k)) = true then kvs.map (fun kv => if kv.1 = k then (kv.1, v) else kv) else kvs ++ [(k, v)]
def dropK (kvs : List (κ × V)) (k : κ) : List (κ × V) := kvs.filter fun kv => decide (kv.1 ≠ k)

theorem valV_pos {p : κ × V} {r : List (κ × V)} {k : κ} (e : p.1 = k) : valV (p :: r) k = some p.2 := by simp [valV, List.find?_cons, e]
theorem valV_neg {p : κ × V} {r : List (κ × V)} {k : κ} (e : ¬ p.1 = k) : valV (p :: r) k = valV r k := by simp [valV, List.find?_cons, e]
theorem valV_any (k : κ) : ∀ kvs : List (κ × V), (kvs.any fun kv => decide (kv.1 = k)) = (valV kvs k).isSome
  | [] => rfl
  | p :: r => by
    rw [List.any_cons]
    by_cases e : p.1 = k
    · simp only [valV_pos e, decide_eq_true e, Bool.true_or, Option.isSome_some]
    · rw [valV_neg e, decide_eq_false e, Bool.false_or]; exact valV_any k r
theorem RelO.isSome_eq {o : Option V} {u : Option Value} (r : RelO o u) : o.isSome = u.isSome := by
  cases o with
  | none => cases u with
    | none => rfl
    | some _ => exact (show False from r).elim
  | some _ => cases u with
    | none => exact (show False from r).elim
    | some _ => rfl
theorem RelO.getD {o : Option V} {u : Option Value} {d : V} {d' : Value} (r : RelO o u) (rd : RelV d d') : RelV (o.getD d) (u.getD d') := by
  cases o with
  | none => cases u with
    | none => exact rd
    | some _ => exact (show False from r).elim
  | some _ => cases u with
    | none => exact (show False from r).elim
    | some _ => exact r

/-- raw tables of the same keys -/
theorem KV.val {kvs : List (κ × V)} {vs : List (κ × Value)} (r : KV kvs vs) (k : κ) : RelO (valV kvs k) (valueAt vs k) := by
  unfold KV at r
  induction r with
  | nil => exact True.intro
  | @cons p q ps qs h t ih =>
    obtain ⟨h1, h2⟩ := h
    by_cases e : p.1 = k
    · have e' : q.1 = k := h1.symm.trans e
      have b : valueAt (q :: qs) k = some q.2 := by simp [valueAt, List.find?_cons, e']
      rw [valV_pos e, b]; exact h2
    · have e' : ¬ q.1 = k := fun z => e (h1.trans z)
      have b : valueAt (q :: qs) k = valueAt qs k := by simp [valueAt, List.find?_cons, e']
      rw [valV_neg e, b]; exact ih
theorem KV.any {kvs : List (κ × V)} {vs : List (κ × Value)} (r : KV kvs vs) (k : κ) : (kvs.any fun kv => decide (kv.1 = k)) = vs.any fun kv => decide (kv.1 = k) := by
  unfold KV at r
  induction r with
  | nil => rfl
  | cons h t ih => rw [List.any_cons, List.any_cons, ih, h.1]
theorem KV.repl {kvs : List (κ × V)} {vs : List (κ × Value)} (r : KV kvs vs) (k : κ) {y : V} {u : Value} (ry : RelV y u) :
    KV (kvs.map fun kv => if kv.1 = k then (kv.1, y) else kv) (vs.map fun kv => if kv.1 = k then (kv.1, u) else kv) := by
  unfold KV at r ⊢
  induction r with
  | nil => exact .nil
  | @cons p q ps qs h t ih =>
    rw [List.map_cons, List.map_cons]
    refine .cons ?_ ih
    obtain ⟨h1, h2⟩ := h
    by_cases e : p.1 = k
    · rw [if_pos e, if_pos (h1.symm.trans e)]; exact ⟨h1, ry⟩
    · rw [if_neg e, if_neg (fun z => e (h1.trans z))]; exact ⟨h1, h2⟩
theorem KV.put {kvs : List (κ × V)} {vs : List (κ × Value)} (r : KV kvs vs) (k : κ) {y : V} {u : Value} (ry : RelV y u) : KV (putK kvs k y) (stored vs k u) := by
  unfold putK stored
  rw [r.any k]
  by_cases e : (vs.any fun kv => decide (kv.1 = k)) = true
  · rw [if_pos e, if_pos e]; exact r.repl k ry
  · rw [if_neg e, if_neg e]; exact Paired.snoc r ⟨rfl, ry⟩
theorem KV.drop {kvs : List (κ × V)} {vs : List (κ × Value)} (r : KV kvs vs) (k : κ) : KV (dropK kvs k) (without vs k) := by
  unfold KV at r ⊢
  unfold dropK without
  induction r with
  | nil => exact .nil
  | @cons p q ps qs h t ih =>
    obtain ⟨h1, h2⟩ := h
    rw [List.filter_cons, List.filter_cons]
    by_cases e : p.1 = k
    · have a : ¬ decide (p.1 ≠ k) = true := by simp [e]
      have b : ¬ decide (q.1 ≠ k) = true := by simp [h1.symm.trans e]
      rw [if_neg a, if_neg b]; exact ih
    · have e' : ¬ q.1 = k := fun z => e (h1.trans z)
      have a : decide (p.1 ≠ k) = true := by simp [e]
      have b : decide (q.1 ≠ k) = true := by simp [e']
      rw [if_pos a, if_pos b]; exact .cons ⟨h1, h2⟩ ih
theorem KV.keys {kvs : List (κ × V)} {vs : List (κ × Value)} (r : KV kvs vs) : kvs.map (·.1) = vs.map (·.1) := by
  unfold KV at r
  induction r with
  | nil => rfl
  | cons h t ih => rw [List.map_cons, List.map_cons, ih, h.1]
theorem KV.length {kvs : List (κ × V)} {vs : List (κ × Value)} (r : KV kvs vs) : kvs.length = vs.length := Paired.length r
end


/-! ### a tracked dict, its keys ints and texts or tuples of these -/
/-- raw entries of a dict with tuple keys -/
abbrev KT (H : Hp) : List (List Key × V) → List (List Key × Addr × Value) → Prop := Paired fun p q => p.1 = q.1 ∧ H q.2.1 = some (.tup (p.1.map kV)) ∧ RelV p.2 q.2.2
theorem KT.val {H : Hp} {kvs : List (List Key × V)} {xs : List (List Key × Addr × Value)} (r : KT H kvs xs) (k : List Key) : RelO (valV kvs k) ((atKey xs k).map (·.2)) := by
  induction r with
  | nil => exact True.intro
  | @cons p q ps qs h t ih =>
    obtain ⟨h1, _, h2⟩ := h
    by_cases e : p.1 = k
    · have e' : q.1 = k := h1.symm.trans e
      have b : atKey (q :: qs) k = some q.2 := by simp [atKey, List.find?_cons, e']
      rw [valV_pos e, b]; exact h2
    · have e' : ¬ q.1 = k := fun z => e (h1.trans z)
      have b : atKey (q :: qs) k = atKey qs k := by simp [atKey, List.find?_cons, e']
      rw [valV_neg e, b]; exact ih
theorem KT.repl {H : Hp} {kvs : List (List Key × V)} {xs : List (List Key × Addr × Value)} (r : KT H kvs xs) (k : List Key) {y : V} {u : Value} (ry : RelV y u) :
    KT H (kvs.map fun kv => if kv.1 = k then (kv.1, y) else kv) (xs.map (putAt k u)) := by
  induction r with
  | nil => exact .nil
  | @cons p q ps qs h t ih =>
    rw [List.map_cons, List.map_cons]
    refine .cons ?_ ih
    obtain ⟨h1, h2, h3⟩ := h
    unfold putAt
    by_cases e : p.1 = k
    · rw [if_pos e, if_pos (h1.symm.trans e)]; exact ⟨h1, h2, ry⟩
    · rw [if_neg e, if_neg (fun z => e (h1.trans z))]; exact ⟨h1, h2, h3⟩
theorem KT.put {H : Hp} {kvs : List (List Key × V)} {xs : List (List Key × Addr × Value)} (r : KT H kvs xs) (k : List Key) {b : Addr} {y : V} {u : Value} (hb : H b = some (.tup (k.map kV))) (ry : RelV y u) :
    KT H (putK kvs k y) (storedH xs k b u) := by
  have e : (kvs.any fun kv => decide (kv.1 = k)) = (atKey xs k).isSome := by
    rw [valV_any, (r.val k).isSome_eq, Option.isSome_map]
  unfold putK storedH
  rw [e]
  by_cases q : (atKey xs k).isSome = true
  · rw [if_pos q, if_pos q]; exact r.repl k ry
  · rw [if_neg q, if_neg q]; exact Paired.snoc r ⟨rfl, hb, ry⟩
theorem KT.keeps {H H' : Hp} {kvs : List (List Key × V)} {xs : List (List Key × Addr × Value)} (r : KT H kvs xs) (ht : ∀ b ys, H b = some (.tup ys) → H' b = some (.tup ys)) : KT H' kvs xs :=
  Paired.mapP r fun _ _ z => ⟨z.1, ht _ _ z.2.1, z.2.2⟩

section
variable {P : Program} {w : World} {H : Hp} {h : Heap} {a : Addr}
end

/-- what the dict at a holds at the key y -/
def DGet (H : Hp) (a : Addr) (y : V) (r : Option V) : Prop :=
  (∃ kvs k, Rd H a (.dK kvs) ∧ y = kV k ∧ r = valV kvs k) ∨ ∃ kvs k b, Rd H a (.dT kvs) ∧ y = .ref b ∧ H b = some (.tup (k.map kV)) ∧ r = valV kvs k
/-- the heap behind a[y] = v -/
def DPut (H : Hp) (a : Addr) (y v : V) (H' : Hp) : Prop :=
  (∃ kvs k, H a = some (.dK kvs) ∧ y = kV k ∧ kvs.length < sizeLine ∧ H' = upd H a (.dK (putK kvs k v))) ∨
  ∃ kvs k b, H a = some (.dT kvs) ∧ y = .ref b ∧ H b = some (.tup (k.map kV)) ∧ kvs.length < sizeLine ∧ H' = upd H a (.dT (putK kvs k v))
theorem DGet.k {H : Hp} {a : Addr} {kvs : List (Key × V)} {k : Key} (e : H a = some (.dK kvs)) : DGet H a (kV k) (valV kvs k) := .inl ⟨kvs, k, .inl e, rfl, rfl⟩
theorem DGet.t {H : Hp} {a b : Addr} {kvs : List (List Key × V)} {k : List Key} (e : H a = some (.dT kvs)) (eb : H b = some (.tup (k.map kV))) : DGet H a (.ref b) (valV kvs k) := .inr ⟨kvs, k, b, .inl e, rfl, eb, rfl⟩
theorem DPut.k {H : Hp} {a : Addr} {kvs : List (Key × V)} {k : Key} {v : V} (e : H a = some (.dK kvs)) (hl : kvs.length < sizeLine) : DPut H a (kV k) v (upd H a (.dK (putK kvs k v))) := .inl ⟨kvs, k, e, rfl, hl, rfl⟩
theorem DPut.t {H : Hp} {a b : Addr} {kvs : List (List Key × V)} {k : List Key} {v : V} (e : H a = some (.dT kvs)) (eb : H b = some (.tup (k.map kV))) (hl : kvs.length < sizeLine) :
    DPut H a (.ref b) v (upd H a (.dT (putK kvs k v))) := .inr ⟨kvs, k, b, e, rfl, eb, hl, rfl⟩


section
variable {X : Cx} {pins : List (Addr × Obj)} {σ : St} {H : Hp} {s : Shared} {a : Addr} {y v : V} {u r : Value} {o : Option V} {A : Around} {E : Value → Shared → Prop}

end

section
variable {X : Cx} {pins : List (Addr × Obj)} {σ : St} {H : Hp} {s : Shared} {a : Addr} {kvs : List (Key × V)} {k : Key} {u : Value} {A : Around} {E : Value → Shared → Prop}
end


/-! ### readings and rules -/
/-- the element of a subscription, not a slice -/
def NoSl (i : Expr) : Prop := ∀ ov iv, subscripted i false ov iv = operate [ov, iv] (getItem ov iv)
/-- d[y] -/
def tDGet (td ty : TE) : TE := fun σ H Q => td σ H fun x H1 => ty σ H1 fun y H2 => ∃ a v, x = .ref a ∧ DGet H2 a y (some v) ∧ Q v H2
/-- y in d, y not in d -/
def tDIn (ty td : TE) : TE := fun σ H Q => ty σ H fun y H1 => td σ H1 fun x H2 => ∃ a o, x = .ref a ∧ DGet H2 a y o ∧ Q (.bl o.isSome) H2
def tDNotIn (ty td : TE) : TE := fun σ H Q => ty σ H fun y H1 => td σ H1 fun x H2 => ∃ a o, x = .ref a ∧ DGet H2 a y o ∧ Q (.bl (!o.isSome)) H2
/-- d[y] = v -/
def sDPut (td ty tv : TE) : TS := fun D σ H => tv σ H fun v H1 => td σ H1 fun x H2 => ty σ H2 fun y H3 => ∃ a H4, x = .ref a ∧ DPut H3 a y v H4 ∧ D.nx σ H4
/-- d[y] op= v -/
def sDAug (td ty tv : TE) (rd : V → V → Hp → VK → Prop) : TS := fun D σ H => td σ H fun x H1 => ty σ H1 fun y H2 => ∃ a v, x = .ref a ∧ DGet H2 a y (some v) ∧
  tv σ H2 fun y2 H3 => rd v y2 H3 fun z H4 => ∃ H5, DPut H4 a y z H5 ∧ D.nx σ H5
/-- del d[y] -/
def sDDel (td ty : TE) : TS := fun D σ H => td σ H fun x H1 => ty σ H1 fun y H2 => ∃ a kvs k, x = .ref a ∧ H2 a = some (.dK kvs) ∧ y = kV k ∧ (valV kvs k).isSome = true ∧ D.nx σ (upd H2 a (.dK (dropK kvs k)))

section
variable {X : Cx} {o i e value : Expr} {pos pos' tpos : Pos} {td ty tv : TE}
end


/-! ### displays -/
/-- {}, to be a dict of the kind that is wanted -/
def tDNewK : TE := fun _ H Q => ∀ p, H p = none → Q (.ref p) (upd H p (.dK []))
def tDNewT : TE := fun _ H Q => ∀ p, H p = none → Q (.ref p) (upd H p (.dT []))
section
variable {X : Cx} {pos : Pos}
end

/-- the pairs of a display, from the left -/
def tPairs : List (TE × TE) → St → Hp → (List (V × V) → Hp → Prop) → Prop
  | [], _, H, Q => Q [] H
  | (tk, tv) :: r, σ, H, Q => tk σ H fun x H1 => tv σ H1 fun y H2 => tPairs r σ H2 fun ps H3 => Q ((x, y) :: ps) H3
abbrev VV : List (V × V) → List (Value × Value) → Prop := Paired fun p q => RelV p.1 q.1 ∧ RelV p.2 q.2
def PPs (X : Cx) (pos : Pos) (keys : List (Option Expr)) (values : List Expr) (trs : List (TE × TE)) : Prop :=
  ∀ (pins : List (Addr × Obj)) (s : Shared) (σ : St) (H : Hp) (Q : List (V × V) → Hp → Prop), Inv X pins σ H s → tPairs trs σ H Q →
    wpAny (model X.prog X.w) X.A (evalPairs (pairTrees keys values X.env pos)) (fun vs s' => ∃ ps H', Inv X pins σ H' s' ∧ VV ps vs ∧ Q ps H') X.xe s
def mergeK (kvs more : List (Key × V)) : List (Key × V) := more.foldl (fun acc kv => putK acc kv.1 kv.2) kvs
/-- {k: v, ..} with keys ints and texts; the new dict stands empty while the pairs are made -/
def tDisp (trs : List (TE × TE)) : TE := fun σ H Q => ∀ p, H p = none → tPairs trs σ (upd H p (.dK [])) fun ps H2 => H2 p = some (.dK []) ∧ ∃ kvs : List (Key × V), ps = kvs.map (fun kv => (kV kv.1, kv.2)) ∧ kvs.length ≤ 15 ∧ Q (.ref p) (upd H2 p (.dK (mergeK [] kvs)))
/-! ### methods -/
/-- a method call o.m(e) of a built-in, with one argument: what must be seen of the text -/
structure M1 (X : Cx) (o : Expr) (m : Str) (apos : Pos) (e : Expr) (cpos : Pos) : Prop where
  base : attributeBase o m X.env (eval o X.env) = eval o X.env
  few : ((backTo cpos (starEach [e] X.env)).all (fun x => !x.1) && (backToKw cpos (keywordEach [] X.env)).all (fun x => x.1.isSome)
    && decide (([e] : List Expr).length + ([] : List Keyword).length + (if ([] : List Keyword).isEmpty then 0 else 1) < 30)) = true
  line : (apos.endLine == cpos.line) = true
  trees : backTo cpos (starEach [e] X.env) = [(false, eval e X.env)]
structure M2 (X : Cx) (o : Expr) (m : Str) (apos : Pos) (e f : Expr) (cpos : Pos) : Prop where
  base : attributeBase o m X.env (eval o X.env) = eval o X.env
  few : ((backTo cpos (starEach [e, f] X.env)).all (fun x => !x.1) && (backToKw cpos (keywordEach [] X.env)).all (fun x => x.1.isSome)
    && decide (([e, f] : List Expr).length + ([] : List Keyword).length + (if ([] : List Keyword).isEmpty then 0 else 1) < 30)) = true
  line : (apos.endLine == cpos.line) = true
  trees : backTo cpos (starEach [e, f] X.env) = [(false, eval e X.env), (false, eval f X.env)]

/-- a is a dict, whatever its keys -/
def IsD (H : Hp) (a : Addr) : Prop := (∃ kvs, Rd H a (.dK kvs)) ∨ ∃ kvs, Rd H a (.dT kvs)
section
variable {X : Cx} {pins : List (Addr × Obj)} {σ : St} {H : Hp} {s : Shared} {a : Addr} {y d : V} {u r : Value} {o : Option V} {A : Around} {E : Value → Shared → Prop}
end

def tDGet1 (td ty : TE) : TE := fun σ H Q => td σ H fun x H1 => ∃ a, x = .ref a ∧ IsD H1 a ∧ ty σ H1 fun y H2 => ∃ o, DGet H2 a y o ∧ Q (o.getD .non) H2
def tDGet2 (td ty tx : TE) : TE := fun σ H Q => td σ H fun x H1 => ∃ a, x = .ref a ∧ IsD H1 a ∧ ty σ H1 fun y H2 => tx σ H2 fun z H3 => ∃ o, DGet H3 a y o ∧ Q (o.getD z) H3
/-- d.pop(k): there; d.pop(k, x): there or not -/
def tDPop1 (td ty : TE) : TE := fun σ H Q => td σ H fun x H1 => ∃ a, x = .ref a ∧ IsD H1 a ∧ ty σ H1 fun y H2 => ∃ kvs k v, H2 a = some (.dK kvs) ∧ y = kV k ∧ valV kvs k = some v ∧ Q v (upd H2 a (.dK (dropK kvs k)))
def tDPop2 (td ty tx : TE) : TE := fun σ H Q => td σ H fun x H1 => ∃ a, x = .ref a ∧ IsD H1 a ∧ ty σ H1 fun y H2 => tx σ H2 fun z H3 => ∃ kvs k, H3 a = some (.dK kvs) ∧ y = kV k ∧
  (∀ v, valV kvs k = some v → Q v (upd H3 a (.dK (dropK kvs k)))) ∧ (valV kvs k = none → Q z H3)
section
variable {X : Cx} {o e f : Expr} {apos cpos : Pos} {td ty tx : TE}
end

/-! ### dict(d): a copy -/
section
variable {X : Cx} {pins : List (Addr × Obj)} {σ : St} {H : Hp} {s : Shared} {a : Addr} {kvs : List (Key × V)} {A : Around} {E : Value → Shared → Prop}
end


section
variable {X : Cx} {pins : List (Addr × Obj)} {σ : St} {H : Hp} {s : Shared} {a : Addr} {y : V} {u : Value} {A : Around} {E : Value → Shared → Prop}
end
section
variable {X : Cx}
end
/-! ### a dict's pairs: keys that differ -/
section
variable {κ : Type} [DecidableEq κ]
end
end L2


set_option Elab.async false
set_option linter.all false
set_option maxRecDepth 100000
/-! a dict of the text's top, by ints -/
namespace L2
open PySem PySem.Spec PyProof.Rows
section
variable {X : Cx}
def KMap (K : PySem.W.Frag) (a : Addr) (f : Int → Option Value) : Prop := ∃ o es ep, K.lookup a = some o ∧ o.ExactDict ∧ o.data = .dict es ep ∧ (∀ e ∈ es, ∃ k, Value.isInt k e.key = true ∧ e.hash = hashInt k) ∧ ∀ k, findBy Value.isInt es k = f k
def tKGet (K : PySem.W.Frag) (td ty : TE) : TE := fun σ H Q => td σ H fun x H1 => ty σ H1 fun y H2 => ∃ a k u v f, x = .ref a ∧ y = .int k ∧ KMap K a f ∧ f k = some u ∧ RelV v u ∧ Q v H2
end
end L2


set_option Elab.async false
set_option linter.all false
set_option maxRecDepth 100000
/-! enumerate and zip over lists -/
namespace L2
open PySem PySem.Spec PyProof.Rows
section
variable {X : Cx} {pins : List (Addr × Obj)} {σ : List (Option V)} {H : Hp} {s : Shared} {h' : Heap}
end
/-- a pair for each turn: new tuples -/
def Ite (K : PySem.W.Frag) (a : Addr) : It :=
  ⟨fun i H => ∃ xs x, SqL K H a xs ∧ xs[i]? = some x, fun i H x H' => ∃ T v, x = .ref T ∧ H T = none ∧ H' = upd H T (.tup [.int i, v]) ∧ ∀ xs, SqL K H a xs → xs[i]? = some v, fun i H => ∃ xs, SqL K H a xs ∧ xs.length ≤ i⟩
def Itz (K : PySem.W.Frag) (a b : Addr) : It :=
  ⟨fun i H => ∃ xs ys x y, SqL K H a xs ∧ SqL K H b ys ∧ xs[i]? = some x ∧ ys[i]? = some y, fun i H x H' => ∃ T u v, x = .ref T ∧ H T = none ∧ H' = upd H T (.tup [u, v]) ∧ (∀ xs, SqL K H a xs → xs[i]? = some u) ∧ ∀ ys, SqL K H b ys → ys[i]? = some v,
    fun i H => ∃ xs ys, SqL K H a xs ∧ SqL K H b ys ∧ (xs.length ≤ i ∨ ys.length ≤ i)⟩
section
variable {X : Cx}
def iEnum (K : PySem.W.Frag) (ta : TA) : TI := fun σ H R => ta σ H fun vs H1 => ∃ a, vs = [.ref a] ∧ (∃ xs, SqL K H1 a xs) ∧ R (Ite K a) H1
end
section
variable {X : Cx}
def iZip (K : PySem.W.Frag) (ta : TA) : TI := fun σ H R => ta σ H fun vs H1 => ∃ a b, vs = [.ref a, .ref b] ∧ (∃ xs, SqL K H1 a xs) ∧ (∃ ys, SqL K H1 b ys) ∧ R (Itz K a b) H1
end
end L2


set_option Elab.async false
set_option linter.all false
set_option maxRecDepth 100000
/-! dicts copied and listed, texts sorted, a list or a tuple walked -/
namespace L2
open PySem PySem.Spec PyProof.Rows
section
variable {X : Cx}
def qSortS (K : PySem.W.Frag) : List V → Hp → VK → Prop := fun xs H Q => ∃ (a : Addr) (ns : List Str), xs = [.ref a] ∧ SqL K H a (ns.map V.str) ∧ ns.length < 64 ∧ ∀ (l : Addr) (ms : List Str), H l = none → ms.Perm ns → sortedS ms = true → Q (.ref l) (upd H l (.lst (ms.map V.str)))
/-! ### a chain of three comparisons, as a test -/
def tChain3 (r r' r'' : R2) (ta tb tc td : TE) : TT := fun σ H Q => ta σ H fun x H1 => tb σ H1 fun y H2 => r x y H2 fun z H3 => ∃ k, z = .bl k ∧ (if k = true then tc σ H3 fun w H4 => r' y w H4 fun z H5 => ∃ k, z = .bl k ∧
  (if k = true then td σ H5 fun v H6 => r'' w v H6 fun z H7 => ∃ k, z = .bl k ∧ Q k H7 else Q false H5) else Q false H3)
/-! ### a list or a tuple, walked -/
def iSeq (K : PySem.W.Frag) (tl : TE) : TI := fun σ H R => tl σ H fun x H1 => ∃ a, x = .ref a ∧ (((∃ xs, SqL K H1 a xs) ∧ R (Itl K a) H1) ∨ ((∃ xs, SqT K H1 a xs) ∧ R (Itt K a) H1))
end
/-! ### == of lists of nested data -/
section
variable {X : Cx}
def EqDL (K : PySem.W.Frag) (H : Hp) (x y : V) (b : Bool) : Prop := ∃ a c xs ys ds es, x = .ref a ∧ y = .ref c ∧ SqL K H a xs ∧ SqL K H c ys ∧ DtA H xs ds ∧ DtA H ys es ∧ shutA ds = true ∧ shutA es = true ∧ SeqAt.shaped (.list (datA ds)) = true ∧ SeqAt.shaped (.list (datA es)) = true ∧ b = PyData.eqv (.list (datA ds)) (.list (datA es))
def qEqDL (K : PySem.W.Frag) : R2 := fun x y H Q => ∃ b, EqDL K H x y b ∧ Q (.bl b) H
def qNeDL (K : PySem.W.Frag) : R2 := fun x y H Q => ∃ b, EqDL K H x y b ∧ Q (.bl (!b)) H
end
end L2


set_option Elab.async false
set_option linter.all false
set_option maxRecDepth 100000
/-! SETS of ints or texts: made of a list, walked in whatever order, sorted -/
namespace L2
open PySem PySem.Spec PyProof.Rows

/-! ### a set's table: its places rise -/
def Ris (xs : Array Nat) : Prop := xs.toList.Pairwise (· < ·)
theorem Ris.lt {xs : Array Nat} (h : Ris xs) {i j : Nat} (hij : i < j) (hj : j < xs.size) (d : Nat) : xs.getD i d < xs.getD j d := by
  have e := List.pairwise_iff_getElem.mp h i j (by simp; omega) (by simpa using hj) hij
  simpa [Array.getD, hj, Nat.lt_trans hij hj] using e
theorem below_go {xs : Array Nat} {j : Nat} (hs : Ris xs) : ∀ (fuel lo hi : Nat), hi - lo ≤ fuel → lo ≤ hi → hi ≤ xs.size → (∀ i, i < lo → xs.getD i j < j) → (∀ i, hi ≤ i → i < xs.size → j ≤ xs.getD i j) →
    SetTable.below.go xs j fuel lo hi ≤ xs.size ∧ (∀ i, i < SetTable.below.go xs j fuel lo hi → xs.getD i j < j) ∧ (∀ i, SetTable.below.go xs j fuel lo hi ≤ i → i < xs.size → j ≤ xs.getD i j)
  | 0, lo, hi, hf, hl, hh, h1, h2 => by
    obtain rfl : lo = hi := by omega
    exact ⟨hh, h1, h2⟩
  | fuel + 1, lo, hi, hf, hl, hh, h1, h2 => by
    unfold SetTable.below.go
    by_cases c : lo < hi
    · rw [if_pos c]
      dsimp only
      by_cases d : xs.getD ((lo + hi) / 2) j < j
      · rw [if_pos d]
        refine below_go hs fuel _ hi (by omega) (by omega) hh (fun i hi' => ?_) h2
        by_cases e : i = (lo + hi) / 2
        · rw [e]; exact d
        · exact Nat.lt_trans (hs.lt (show i < (lo + hi) / 2 by omega) (by omega) j) d
      · rw [if_neg d]
        refine below_go hs fuel lo _ (by omega) (by omega) (by omega) h1 (fun i hi' hx => ?_)
        by_cases e : i = (lo + hi) / 2
        · rw [e]; omega
        · have := hs.lt (show (lo + hi) / 2 < i by omega) hx j
          omega
    · rw [if_neg c]
      obtain rfl : lo = hi := by omega
      exact ⟨hh, h1, h2⟩
theorem below_spec {xs : Array Nat} (hs : Ris xs) (j : Nat) : SetTable.below xs j ≤ xs.size ∧ (∀ i, i < SetTable.below xs j → xs.getD i j < j) ∧ (∀ i, SetTable.below xs j ≤ i → i < xs.size → j ≤ xs.getD i j) :=
  below_go hs _ 0 _ (by omega) (Nat.zero_le _) (Nat.le_refl _) (fun i h => absurd h (by omega)) (fun i h h' => absurd h' (by omega))
theorem below_mem {xs : Array Nat} (hs : Ris xs) {j : Nat} (h : j ∈ xs.toList) : xs[SetTable.below xs j]? = some j := by
  obtain ⟨h0, h1, h2⟩ := below_spec hs j
  obtain ⟨i, hi, e⟩ := List.getElem_of_mem h
  have hi' : i < xs.size := by simpa using hi
  have e' : xs.getD i j = j := by simpa [Array.getD, hi'] using e
  have c1 : SetTable.below xs j ≤ i := by
    rcases Nat.lt_or_ge i (SetTable.below xs j) with z | z
    · have := h1 i z; omega
    · exact z
  have c2 : SetTable.below xs j = i := by
    rcases Nat.lt_or_ge (SetTable.below xs j) i with z | z
    · have a := h2 _ (Nat.le_refl _) (by omega)
      have b := hs.lt z hi' j
      omega
    · omega
  rw [c2]
  simpa [hi'] using e
theorem getD_below {xs : Array Nat} (hs : Ris xs) {i : Nat} (hi : i < xs.size) : SetTable.below xs (xs.getD i 0 + 1) = i + 1 := by
  obtain ⟨h0, h1, h2⟩ := below_spec hs (xs.getD i 0 + 1)
  have g : ∀ k, k < xs.size → ∀ d, xs.getD k d = xs.getD k 0 := fun k hk d => by simp [Array.getD, hk]
  generalize SetTable.below xs (xs.getD i 0 + 1) = b at h0 h1 h2
  rcases Nat.lt_trichotomy b (i + 1) with z | z | z
  · have q := h2 i (by omega) hi
    rw [g i hi (xs.getD i 0 + 1)] at q
    omega
  · exact z
  · have a := h1 (i + 1) z
    have c := hs.lt (show i < i + 1 by omega) (show i + 1 < xs.size by omega) 0
    rw [g (i + 1) (by omega) (xs.getD i 0 + 1)] at a
    omega
theorem below_zero {xs : Array Nat} (hs : Ris xs) : SetTable.below xs 0 = 0 := by
  obtain ⟨h0, h1, _⟩ := below_spec hs 0
  rcases Nat.eq_zero_or_pos (SetTable.below xs 0) with z | z
  · exact z
  · have := h1 0 z; omega
theorem ris_insert {xs : Array Nat} (hs : Ris xs) {j : Nat} (h : xs[SetTable.below xs j]? ≠ some j) : Ris (SetTable.insertAt xs (SetTable.below xs j) j) := by
  have hn : j ∉ xs.toList := fun z => h (below_mem hs z)
  obtain ⟨h0, h1, h2⟩ := below_spec hs j
  unfold Ris
  rw [SetTable.toList_insertAt]
  refine List.pairwise_append.mpr ⟨hs.sublist (List.take_sublist _ _), List.pairwise_cons.mpr ⟨fun a ha => ?_, hs.sublist (List.drop_sublist _ _)⟩, fun a ha b hb => ?_⟩
  · obtain ⟨i, hi, e⟩ := List.getElem_of_mem ha
    have hm : a ∈ xs.toList := List.mem_of_mem_drop ha
    rw [List.getElem_drop] at e
    have hx : SetTable.below xs j + i < xs.size := by simp at hi; omega
    have := h2 _ (Nat.le_add_right _ i) hx
    have e' : xs.getD (SetTable.below xs j + i) j = a := by simpa [Array.getD, hx] using e
    have : a ≠ j := fun z => hn (z ▸ hm)
    omega
  · have la : a < j := by
      obtain ⟨i, hi, e⟩ := List.getElem_of_mem ha
      rw [List.getElem_take] at e
      have hx : i < xs.size := by simp at hi; omega
      have := h1 i (by simp at hi; omega)
      have e' : xs.getD i j = a := by simpa [Array.getD, hx] using e
      omega
    rcases List.mem_cons.mp hb with rfl | hb
    · exact la
    · obtain ⟨i, hi, e⟩ := List.getElem_of_mem hb
      rw [List.getElem_drop] at e
      have hx : SetTable.below xs j + i < xs.size := by simp at hi; omega
      have := h2 _ (Nat.le_add_right _ i) hx
      have e' : xs.getD (SetTable.below xs j + i) j = b := by simpa [Array.getD, hx] using e
      omega
theorem ris_range (n : Nat) : Ris (Array.range n) := by
  unfold Ris
  rw [Array.toList_range]
  exact List.pairwise_lt_range
theorem slot_not {t : SetTable} {j : Nat} (h : ∀ i, t.slot j ≠ .live i) : t.place[SetTable.below t.place j]? ≠ some j := by
  intro e
  refine h (SetTable.below t.place j) ?_
  unfold SetTable.slot
  simp [e]
theorem probe_go {t : SetTable} {hashAt : Nat → Int} {h : Int} : ∀ (fuel : Nat) (p : SetTable.Probe) (j : Nat) (d : Option Nat), SetTable.probe.go t hashAt h fuel p = some (.empty j d) → (∀ e, p.dummy = some e → ∀ i, t.slot e ≠ .live i) → ∀ i, t.slot (d.getD j) ≠ .live i
  | 0, p, j, d, e, _ => by simp [SetTable.probe.go] at e
  | fuel + 1, p, j, d, e, hd => by
    unfold SetTable.probe.go at e
    cases hs : t.slot p.j with
    | empty =>
      rw [hs] at e
      dsimp only at e
      cases e
      cases hp : p.dummy with
      | none => intro i; simp [hs]
      | some q => exact hd q hp
    | dummy =>
      rw [hs] at e
      refine probe_go fuel _ j d e fun q hq => ?_
      have : q = p.j := by
        unfold SetTable.advance at hq
        split at hq <;> (dsimp only at hq; cases hq; rfl)
      rw [this, hs]
      intro i
      simp
    | live i0 =>
      rw [hs] at e
      dsimp only at e
      split at e
      · cases e
      · refine probe_go fuel _ j d e fun q hq => hd q ?_
        unfold SetTable.advance at hq
        split at hq <;> exact hq
theorem free_not {t : SetTable} {h : Int} {j : Nat} {b : Bool} (e : t.freeSlot h = some (j, b)) : t.place[SetTable.below t.place j]? ≠ some j := by
  unfold SetTable.freeSlot at e
  split at e
  · rename_i k d hp
    cases e
    exact slot_not (probe_go _ _ _ _ hp fun q hq => by simp [SetTable.probeStart] at hq)
  · cases e
theorem layNew_ris {t : SetTable} (hs : Ris t.place) (es : Array (Int × Value)) (h : Int) (x : Value) : Ris (layNew t es h x).2.1.place ∧ (layNew t es h x).2.1.led = t.led := by
  unfold layNew
  split
  · rename_i j b e
    dsimp only
    unfold SetTable.orStandIn
    split
    · exact ⟨ris_insert hs (free_not e), rfl⟩
    · exact ⟨ris_range _, rfl⟩
  · exact ⟨ris_range _, rfl⟩
theorem ris_live (owner : Nat → Option Nat) : ∀ l : List Nat, l.Pairwise (· < ·) → ((l.filterMap fun j => (owner j).map (j, ·)).map (·.1)).Pairwise (· < ·) ∧ ∀ x ∈ (l.filterMap fun j => (owner j).map (j, ·)).map (·.1), x ∈ l
  | [], _ => ⟨.nil, fun x h => h⟩
  | j :: l, h => by
    obtain ⟨h1, h2⟩ := List.pairwise_cons.mp h
    obtain ⟨i1, i2⟩ := ris_live owner l h2
    cases e : owner j with
    | none =>
      rw [List.filterMap_cons_none (by rw [e]; rfl)]
      exact ⟨i1, fun x hx => List.mem_cons_of_mem _ (i2 x hx)⟩
    | some k =>
      rw [List.filterMap_cons_some (b := (j, k)) (by rw [e]; rfl)]
      refine ⟨List.pairwise_cons.mpr ⟨fun x hx => h1 x (i2 x hx), i1⟩, fun x hx => ?_⟩
      rcases List.mem_cons.mp hx with rfl | hx
      · exact List.mem_cons_self
      · exact List.mem_cons_of_mem _ (i2 x hx)
theorem relayAll_ris (t : SetTable) (es : Array (Int × Value)) (wanted : Nat) : Ris (relayAll t es wanted).2.1.place ∧ (relayAll t es wanted).2.1.led = t.led := by
  unfold relayAll
  split
  · rename_i t' order e
    dsimp only
    split
    · unfold SetTable.relaid SetTable.laid at e
      obtain ⟨ow, _, e⟩ := Option.bind_eq_some_iff.mp e
      cases e
      exact ⟨(ris_live (fun j => ow.getD j none) _ List.pairwise_lt_range).1, rfl⟩
    · exact ⟨ris_range _, rfl⟩
  · exact ⟨ris_range _, rfl⟩
end L2


set_option Elab.async false
set_option linter.all false
set_option maxRecDepth 100000
/-! SETS: a key put in, a set made of a list -/
namespace L2
open PySem PySem.Spec PyProof.Rows

/-! ### a set of keys, its elements in some order -/
section
variable {prog : Program} {w : World} {κ : Type} [DecidableEq κ] (knd : PySem.KeyKind prog w κ) (key : Value → κ)
/-- at a lies a set whose keys, in the order in which they are laid, are ks -/
def SetX (a : Addr) (L : Bool) (ks : List κ) (h : Heap) : Prop :=
  ∃ o es ep t, h.get? a = some o ∧ o.ExactSet ∧ o.data = .set es ep t ∧ ElemsOf knd es.toList ∧ ks = es.toList.map (fun e => key e.2) ∧ ks.Nodup ∧ es.size < scanBound ∧ t.fits es.size = true ∧ Ris t.place ∧ t.led = L
variable {knd key} {A : Around} {E : Value → Shared → Prop} {s : Shared} {a : Addr} {L : Bool} {ks : List κ}
theorem SetX.moved {h h' : Heap} (x : SetX knd key a L ks h) (k : ∀ o, h.get? a = some o → h'.get? a = some o) : SetX knd key a L ks h' := by
  obtain ⟨o, es, ep, t, e, r⟩ := x
  exact ⟨o, es, ep, t, k o e, r⟩
theorem SetX.len {h : Heap} (x : SetX knd key a L ks h) : ks.length < scanBound := by
  obtain ⟨o, es, ep, t, _, _, _, _, rfl, _, hb, _⟩ := x
  simpa using hb
/-- what is stored last -/
theorem setX_put {h : Heap} {o : Obj} {es : Array (Int × Value)} {ep : Nat} {t : SetTable} (e : h.get? a = some o) (x : o.ExactSet) (d : o.data = .set es ep t) {es' : Array (Int × Value)} {t' : SetTable}
    (hel : ElemsOf knd es'.toList) (hn : (es'.toList.map fun q => key q.2).Nodup) (hb : es'.size < scanBound) (hf : t'.fits es'.size = true) (hr : Ris t'.place) (hl : t'.led = L) :
    SetX knd key a L (es'.toList.map fun q => key q.2) (h.update a (Obj.putSet es' t')) ∧ (h.update a (Obj.putSet es' t')).get? a = some { o with data := .set es' (ep + 1) t' } := by
  have g : (h.update a (Obj.putSet es' t')).get? a = some (Obj.putSet es' t' o) := Heap.get?_update_self _ e (by rw [putSet_of es' t' d]; rfl)
  rw [putSet_of es' t' d] at g
  exact ⟨⟨_, es', ep + 1, t', g, x, rfl, hel, rfl, hn, hb, hf, hr, hl⟩, g⟩
theorem add_setX {k : κ} {x : Value} {Q : Bool → Shared → Prop} (hkey : ∀ k v, knd.is k v = true → key v = k) (hi : knd.is k x = true) (hsc : x.scannable = true) (hS : SetX knd key a L ks s.heap) (hroom : ks.length + 1 < scanBound)
    (h : ∀ (b : Bool) (h' : Heap) (ks' : List κ), Heap.SameBut a s.heap h' → SetX knd key a L ks' h' → ks'.Perm (if k ∈ ks then ks else ks ++ [k]) → Q b { s with heap := h' }) :
    wpAny (model prog w) A (setAddHashed a x (knd.hash k)) Q E s := by
  obtain ⟨o, es, ep, t, e, xo, d, hel, hks, hnd, hb, hf, hr, hl⟩ := id hS
  have hz : es.size = ks.length := by rw [hks]; simp
  unfold setAddHashed setAddHashedIn
  refine wpAny_holding (wpAny_bind (wpAny_setState_of e d hf ?_))
  dsimp only
  rw [byScan_of hsc hb hel, if_pos rfl]
  unfold setAddByScan
  refine wpAny_bind (wpAny_bind (wpAny_rule (wpAny_bind (wpAny_setScan_of hi e d hf hel ?_))))
  have hin : k ∈ ks ↔ ∃ q ∈ es.toList, knd.is k q.2 = true := by
    rw [hks, List.mem_map]
    constructor
    · rintro ⟨q, hq, rfl⟩
      obtain ⟨⟨k', hk', _⟩, _⟩ := hel q hq
      exact ⟨q, hq, by rw [hkey _ _ hk']; exact hk'⟩
    · rintro ⟨q, hq, z⟩
      exact ⟨q, hq, hkey _ _ z⟩
  cases hfi : List.findIdx? (fun e => knd.is k e.2) es.toList with
  | some j =>
    obtain ⟨hj, z, _⟩ := List.findIdx?_eq_some_iff_getElem.mp hfi
    have hm : k ∈ ks := hin.mpr ⟨_, List.getElem_mem hj, z⟩
    refine wpAny_pure (wpAny_pure ?_)
    exact h _ s.heap ks (Heap.SameBut.refl a s.heap) hS (by rw [if_pos hm])
  | none =>
    have hm : k ∉ ks := fun z => by
      obtain ⟨q, hq, z⟩ := hin.mp z
      have y := List.findIdx?_eq_none_iff.mp hfi q hq
      rw [z] at y
      cases y
    rw [if_neg hm] at h
    have p1 := layNew_perm t es (knd.hash k) x
    have p2 := layNew_fits t es (knd.hash k) x
    obtain ⟨p3, p4⟩ := layNew_ris hr es (knd.hash k) x
    generalize layNew t es (knd.hash k) x = N at p1 p2 p3 p4 ⊢
    obtain ⟨es1, t1, was, gave⟩ := N
    dsimp only at p1 p2 p3 p4 ⊢
    rw [Array.toList_push] at p1
    have q1 : (es1.toList.map fun q => key q.2).Perm (ks ++ [k]) := by
      have z := p1.map fun q => key q.2
      rw [List.map_append, ← hks] at z
      simpa [hkey _ _ hi] using z
    have q2 : ElemsOf knd es1.toList := (hel.push hi hsc).perm p1
    have q3 : (es1.toList.map fun q => key q.2).Nodup := q1.nodup_iff.mpr (List.nodup_append.mpr ⟨hnd, by simp, fun y hy z hz e => hm (by rw [List.mem_singleton] at hz; rw [← hz, ← e]; exact hy)⟩)
    have q4 : es1.size = ks.length + 1 := by
      have z := q1.length_eq
      simpa using z
    have gw : ∀ (b : Bool) {s₁ : Shared} {Q' : Unit → Shared → Prop}, Q' () s₁ → wpAny (model prog w) A (match b with | true => rule "set.scan.the-table-gave-way" | false => pure ()) Q' E s₁ := fun b s₁ Q' z => by
      cases b
      · exact wpAny_pure z
      · exact wpAny_rule z
    refine wpAny_bind (gw gave ?_)
    have last : ∀ (t2 : SetTable), t2.fits es1.size = true → Ris t2.place → t2.led = L → wpAny (model prog w) A (do
        storeSet a es1 t2
        if (!was && t2.tooFull) = true then do
            (match (relayAll t2 es1 (SetTable.grown es1.size)).2.2 with | true => rule "set.scan.the-table-gave-way" | false => pure ())
            storeSet a (relayAll t2 es1 (SetTable.grown es1.size)).1 (relayAll t2 es1 (SetTable.grown es1.size)).2.1
            pure (some true)
          else pure (some true)) (fun r s' => ∃ h', r = some true ∧ s' = { s with heap := h' } ∧ Q true s') E s := fun t2 f2 r2 l2 => by
      refine wpAny_bind (wpAny_storeSet_of e d ?_ (fits_of_scanBound (by omega)))
      obtain ⟨x1, g1⟩ := setX_put (knd := knd) (key := key) e xo d q2 q3 (by omega) f2 r2 l2
      have b1 := Heap.SameBut.update s.heap a (Obj.putSet es1 t2)
      split
      · have r1 := relayAll_perm t2 es1 (SetTable.grown es1.size)
        have r2' := relayAll_fits t2 es1 (SetTable.grown es1.size)
        obtain ⟨r3, r4⟩ := relayAll_ris t2 es1 (SetTable.grown es1.size)
        generalize relayAll t2 es1 (SetTable.grown es1.size) = N at r1 r2' r3 r4 ⊢
        obtain ⟨es2, t3, gave2⟩ := N
        dsimp only at r1 r2' r3 r4 ⊢
        have z2 := r1.map fun q => key q.2
        have hsz : es2.size = es1.size := by simpa using r1.length_eq
        refine wpAny_bind (gw gave2 (wpAny_bind (wpAny_storeSet_of g1 rfl ?_ (fits_of_scanBound (by omega)))))
        obtain ⟨x2, _⟩ := setX_put (knd := knd) (key := key) (L := L) g1 xo rfl (q2.perm r1) (z2.nodup_iff.mpr q3) (by omega) r2' r3 (r4.trans l2)
        exact wpAny_pure ⟨_, rfl, rfl, h true _ _ (b1.trans (Heap.SameBut.update _ a _)) x2 (z2.trans q1)⟩
      · exact wpAny_pure ⟨_, rfl, rfl, h true _ _ b1 x1 q1⟩
    have fin : ∀ (r : Option Bool) (s' : Shared), (∃ h', r = some true ∧ s' = { s with heap := h' } ∧ Q true s') → wpAny (model prog w) A (match r with | some added => pure added | none => setAddHashedIn a x (knd.hash k) 99999) Q E s' := by
      rintro r s' ⟨h', rfl, rfl, z⟩
      exact wpAny_pure z
    split
    · rw [hashByValue_scannable 8 hsc]
      refine wpAny_bind (wpAny_pure ?_)
      refine thn (last _ ?_ ?_ ?_) fin
      · split
        · exact p2
        · exact SetTable.fits_plain_off p2
      · split <;> exact p3
      · split <;> exact p4.trans hl
    · refine wpAny_bind (wpAny_pure ?_)
      exact thn (last _ p2 p3 (p4.trans hl)) fin
theorem upd_loop {R : Result → Shared → Prop} {I S : Addr} {fp wr : List Addr} {G : Array GenState → Array GenState → Prop} {n : Nat} {P : Nat → Value → Prop} {St : Nat → Shared → Prop} (W : WalksS prog w A.in1 I fp wr G n P St) (hSf : S ∉ fp)
    (hkey : ∀ k v, knd.is k v = true → key v = k) (val : Nat → κ) (hval : ∀ i v, P i v → knd.is (val i) v = true ∧ v.scannable = true) (hb : n + 1 < scanBound) :
    ∀ (m i : Nat) (s : Shared) (ks : List κ), i + m = n → St i s → SetX knd key S L ks s.heap → ks.length ≤ i → (∀ x, x ∈ ks ↔ ∃ j, j < i ∧ val j = x) →
      (∀ s' ks', Moved (S :: wr) G s s' → SetX knd key S L ks' s'.heap → ks'.length ≤ n → (∀ x, x ∈ ks' ↔ ∃ j, j < n ∧ val j = x) → R (.ok (.ret .none)) s') →
      codeAny (model prog w) A (.builtin "set.update.loop" ⟨[.ref S, .ref I], []⟩) R s := by
  have hw : S ∉ wr := fun z => hSf (W.sub _ z)
  have hm : ∀ b ∈ wr, b ∈ S :: wr := fun b z => .tail _ z
  intro m
  induction m with
  | zero =>
    intro i s ks e st x hl hx q
    obtain rfl : i = n := e
    refine codeAny_builtin F.entry_set_update_loop ?_
    rw [Around.under_plainId F.plain_set_update_loop]
    refine wpAny_bind (W.done s _ _ st fun s' mv => ?_)
    exact wpAny_pure (q s' ks (mv.mono hm) (x.moved fun o z => mv.heap S o hw z) hl hx)
  | succ m ih =>
    intro i s ks e st x hl hx q
    refine codeAny_builtin F.entry_set_update_loop ?_
    rw [Around.under_plainId F.plain_set_update_loop]
    refine wpAny_bind (W.item i s _ _ (by omega) st fun v s1 hP st1 mv => ?_)
    obtain ⟨hi, hsc⟩ := hval i v hP
    refine wpAny_bind (wpAny_holding ?_)
    unfold setAdd
    refine wpAny_holding (wpAny_bind (knd.pyHash hi ?_))
    refine add_setX (s := { s1 with toks := s1.toks + 1 }) hkey hi hsc (x.moved fun o z => mv.heap S o hw z) (by omega) fun b h' ks' sb x' pm => ?_
    refine wpAny_pure ⟨plainId_quiet F.plain_set_update_loop _, ih (i + 1) _ ks' (by omega) (W.frame _ s1 _ _ st1 (Nat.le_succ _) fun b hb' o z => ?_) x' ?_ (fun y => ?_) fun s2 ks2 mv2 x2 => q s2 ks2 (Moved.trans W.gtrans ((mv.mono hm).then_heap (Nat.le_succ _) fun b o hb' z => ?_) mv2) x2⟩
    · rw [sb.2 b fun z : b = S => hSf (z ▸ hb')]; exact z
    · rw [pm.length_eq]
      split
      · omega
      · simp; omega
    · rw [pm.mem_iff]
      have step : (∃ j, j < i + 1 ∧ val j = y) ↔ y ∈ ks ∨ y = val i := by
        rw [hx y]
        constructor
        · rintro ⟨j, hj, rfl⟩
          by_cases c : j = i
          · exact .inr (by rw [c])
          · exact .inl ⟨j, by omega, rfl⟩
        · rintro (⟨j, hj, rfl⟩ | rfl)
          · exact ⟨j, by omega, rfl⟩
          · exact ⟨i, by omega, rfl⟩
      rw [step]
      split
      · rename_i c
        exact ⟨.inl, fun z => z.elim id fun z => z ▸ c⟩
      · simp
    · rw [sb.2 b fun z : b = S => hb' (z ▸ List.mem_cons_self)]; exact z
abbrev byTxt (w : World) : Bool := w.params.followText "set-order"
abbrev freshSet (L : Bool) : Obj := { cls := .type "set", dict := none, data := .set #[] 0 (.fresh 0 0 L) }
theorem set_new (v : Value) {Q₁ : Value → Shared → Prop} (h : Q₁ (.ref s.heap.objs.size) { s with heap := s.heap.push (freshSet (!byTxt w)) }) :
    codeAny (model prog w) A (.call (.builtin "set.__new__") ⟨[.type "set", v], []⟩) (wants Q₁ E) s := by
  have hsub := sub_set_self
  refine codeAny_call_builtin PySem.F.plain_set_new PySem.F.entry_set_new ?_
  rw [PySem.F.newCall_set_1 v]
  refine wpAny_pure ?_
  unfold Builtin.«set.__new__» Builtin.Frozenset.newClass
  obtain ⟨hp, g, d, tk, os⟩ := s
  wp_walk
  refine wpAny_askSetting (wpAny_pure ?_)
  exact wpAny_newObj_type (wpAny_pure h)
/-- a call of a built-in type whose __init__ is run as a call -/
theorem callType_own {T newId initId : String} {args : List Value} {Q Q₁ : Value → Shared → Prop} (ft : TypeCalled T newId initId) (hct : checkTypeCall T ⟨args, []⟩ = pure ())
    (hnew : codeAny (model prog w) A.in1 (.call (.builtin newId) ⟨.type T :: args, []⟩) (wants Q₁ E) s)
    (hinit : ∀ obj s₁, Q₁ obj s₁ → s₁.TypeIs obj T ∧ codeAny (model prog w) A.in1 (.call (.builtin initId) ⟨obj :: args, []⟩) (wants (fun r s₂ => r = .none ∧ Q obj s₂) E) s₁) :
    wpAny (model prog w) A (call (.type T) args) Q E s := by
  obtain ⟨c, tl, hm⟩ := ft.mro
  have f1 := ft.made
  have f2 := ft.sub
  have f3 := ft.notType
  have f4 := ft.canCreate
  refine wpAny_call (codeAny_of_tree (wpAny_pure ⟨Code.quiet_builtin _ (by decide +kernel), codeAny_builtin PySem.F.entry_type_call ?_⟩))
  rw [Around.under_plain (weight_type_call_type T args []) rfl]
  repeat (any_goals (first | assumption | wp_step))
  refine codeAny_mono hnew fun r s₁ z => ?_
  match r, z with
  | .error e, z => exact z
  | .ok (.ret obj), z =>
    obtain ⟨hT, hc⟩ := hinit _ _ z
    have g1 := ft.init.lookup
    have g2 := ft.init.bind obj
    repeat (any_goals (first | assumption | wp_step))
    refine codeAny_mono hc fun r s₂ z => ?_
    match r, z with
    | .error e, z => exact z
    | .ok (.ret v), z =>
      obtain ⟨rfl, q⟩ := z
      repeat (any_goals (first | assumption | wp_step))
theorem call_setX {l : Addr} {items : Array Value} {val : Nat → κ} {Q : Value → Shared → Prop} (hh : A.handled = none) (hl : s.heap.IsList l items) (hkey : ∀ k v, knd.is k v = true → key v = k)
    (hv : ∀ (i : Nat) v, items[i]? = some v → knd.is (val i) v = true ∧ v.scannable = true) (hb : items.size + 1 < scanBound)
    (h : ∀ (h' : Heap) (tk : Nat) (ks : List κ), SetX knd key s.heap.objs.size (!byTxt w) ks h' → ks.length ≤ items.size → (∀ x, x ∈ ks ↔ ∃ j, j < items.size ∧ val j = x) → (∀ b o, s.heap.get? b = some o → h'.get? b = some o) →
      Q (.ref s.heap.objs.size) { s with heap := h', toks := tk }) :
    wpAny (model prog w) A (call (.type "set") [.ref l]) Q E s := by
  refine callType_own (Q₁ := fun obj s₁ => obj = .ref s.heap.objs.size ∧ s₁ = { s with heap := s.heap.push (freshSet (!byTxt w)) }) PySem.F.called_set (PySem.F.typeCall_set_1 _) (set_new _ ⟨rfl, rfl⟩) ?_
  rintro obj s₁ ⟨rfl, rfl⟩
  have eS : (s.heap.push (freshSet (!byTxt w))).get? s.heap.objs.size = some (freshSet (!byTxt w)) := Heap.get?_push_size _ rfl
  have hT : Shared.TypeIs { s with heap := s.heap.push (freshSet (!byTxt w)) } (.ref s.heap.objs.size) "set" := ⟨_, eS, rfl⟩
  refine ⟨hT, codeAny_call_builtin PySem.F.called_set.init.plain PySem.F.entry_set_init (check_set_init_1 hT ?_)⟩
  obtain ⟨ol, hol, hcl, nl, hdl⟩ := id hl
  have hol' : (s.heap.push (freshSet (!byTxt w))).get? l = some ol := Heap.get?_push_of_some _ hol
  have hl1 : (s.heap.push (freshSet (!byTxt w))).IsList l items := ⟨_, hol', hcl, nl, hdl⟩
  have hTl : Shared.TypeIs { s with heap := s.heap.push (freshSet (!byTxt w)) } (.ref l) "list" := ⟨_, hol', hcl⟩
  have s1 := PySem.F.sub_list_set
  have s2 := PySem.F.sub_list_frozenset
  unfold Builtin.«set.__init__» noKeywords Builtin.Frozenset.updateFrom
  generalize hPI : pyIter = PI
  wp_walk
  subst hPI
  refine wpAny_pyIter_list hl1 (wpAny_bind (wpAny_runValue ?_))
  have n1 : (s.heap.push (freshSet (!byTxt w))).objs.size = s.heap.objs.size + 1 := size_push' _ _
  have lS : l < s.heap.objs.size := Heap.lt_size hol
  have nI : l ≠ (s.heap.push (freshSet (!byTxt w))).objs.size := Nat.ne_of_lt (by rw [n1]; exact Nat.lt_succ_of_lt lS)
  have sf : s.heap.objs.size ∉ [(s.heap.push (freshSet (!byTxt w))).objs.size, l] := by
    rw [n1]
    simp only [List.mem_cons, List.not_mem_nil, or_false, not_or]
    exact ⟨Nat.ne_of_lt (Nat.lt_succ_self _), Nat.ne_of_gt lS⟩
  refine upd_loop (knd := knd) (key := key) (L := !byTxt w) ((Walks.list (by simp [hh]) _ l nI items).toS) sf hkey val hv hb items.size 0 _ [] (Nat.zero_add _) ⟨⟨_, Heap.get?_push_size _ rfl, rfl, rfl⟩, hl1.push _⟩
    ⟨_, #[], 0, _, Heap.get?_push_of_some _ eS, ⟨rfl, rfl, rfl⟩, rfl, (fun e he => by simp at he), rfl, .nil, by decide, rfl, .nil, rfl⟩ (Nat.le_refl _) (fun x => by simp) fun s' ks mv x hlen hmem => ?_
  refine wpAny_pure (wpAny_pure ⟨rfl, ?_⟩)
  obtain ⟨h', g', d', tk', os'⟩ := s'
  have z1 : g' = s.gens := mv.gens
  have z2 : d' = s.drawn := mv.drawn
  have z3 : os' = s.os := mv.os
  subst z1 z2 z3
  refine h h' tk' ks x hlen hmem fun b o e => ?_
  have lb := Heap.lt_size e
  refine mv.heap b o ?_ (Heap.get?_push_of_some _ (Heap.get?_push_of_some _ e))
  rw [n1]
  simp only [List.mem_cons, List.not_mem_nil, or_false, not_or]
  exact ⟨Nat.ne_of_lt lb, Nat.ne_of_lt (Nat.lt_succ_of_lt lb)⟩
end
end L2


set_option Elab.async false
set_option linter.all false
set_option maxRecDepth 100000
/-! SETS: walked, sorted -/
namespace L2
open PySem PySem.Spec PyProof.Rows
theorem slot_si_next : Slot "set_iterator" "__next__" "set_iterator.__next__" := .of (owner := "set_iterator") (n := "__next__") (by rw [typeLookup_type, builtinLookup_eq_fast]; kernel_rfl) (by decide +kernel) (by decide +kernel) (by decide +kernel) (by first | exact .inl (by decide +kernel) | exact .inr (by decide +kernel)) (by rw [isSubtype_type]; kernel_rfl)
theorem slot_si_iter : Slot "set_iterator" "__iter__" "set_iterator.__iter__" := .of (owner := "set_iterator") (n := "__iter__") (by rw [typeLookup_type, builtinLookup_eq_fast]; kernel_rfl) (by decide +kernel) (by decide +kernel) (by decide +kernel) (by first | exact .inl (by decide +kernel) | exact .inr (by decide +kernel)) (by rw [isSubtype_type]; kernel_rfl)
theorem entry_si_next : entryFor table "set_iterator.__next__" = some Builtin.«set_iterator.__next__» := entryFor_of_tree (by kernel_rfl)
theorem entry_set_iter : entryFor table "set.__iter__" = some Builtin.«frozenset.__iter__» := entryFor_alias (id' := "frozenset.__iter__") (by kernel_rfl) rfl (by decide +kernel) (by kernel_rfl)
theorem args_si_next (a : Value) : argsOk "set_iterator.__next__" ⟨[a], []⟩ := by unfold argsOk; kernel_rfl
theorem slot_set_len' : Slot "set" "__len__" "set.__len__" := .of (owner := "set") (n := "__len__") (by rw [typeLookup_type, builtinLookup_eq_fast]; kernel_rfl) (by decide +kernel) (by decide +kernel) (by decide +kernel) (by first | exact .inl (by decide +kernel) | exact .inr (by decide +kernel)) (by rw [isSubtype_type]; kernel_rfl)
abbrev sIter (f : Value) (i : Nat) (S : Addr) (n ep : Nat) : Obj := { cls := .type "set_iterator", data := .fields #[f, rawInt i, .ref S, rawInt n, rawInt ep] }
section
variable {prog : Program} {w : World} {A : Around} {E : Value → Shared → Prop} {s : Shared} {S I : Addr} {es : Array (Int × Value)} {ep : Nat} {t : SetTable} {o : Obj}
theorem erase_perm {α : Type} {l : List α} {i : Nat} {x : α} (h : l[i]? = some x) : (x :: l.eraseIdx i).Perm l := by
  obtain ⟨hi, rfl⟩ := List.getElem?_eq_some_iff.mp h
  have e : l = l.take i ++ l[i] :: l.drop (i + 1) := by simp
  rw [List.eraseIdx_eq_take_drop_succ]
  exact List.perm_middle.symm.trans (.of_eq e.symm)
theorem pick_go {α : Type} (next : Nat → Nat) : ∀ (fuel k : Nat) (left : List α) (out : Array α), left.length ≤ fuel → (pickOrder.go next fuel k left out).toList.Perm (out.toList ++ left)
  | 0, k, left, out, h => by
    obtain rfl : left = [] := List.length_eq_zero_iff.mp (by omega)
    simp [pickOrder.go]
  | fuel + 1, k, left, out, h => by
    unfold pickOrder.go
    cases e : left[next k % left.length]? with
    | none =>
      cases left with
      | nil => simp
      | cons a l =>
        rw [List.getElem?_eq_none_iff] at e
        exact absurd (Nat.mod_lt (next k) (show 0 < (a :: l).length by simp)) (by omega)
    | some x =>
      have p := erase_perm e
      refine (pick_go next fuel (k + 1) _ (out.push x) ?_).trans ?_
      · have := p.length_eq
        simp at this
        omega
      · rw [Array.toList_push, List.append_assoc]
        exact p.append_left _
theorem pick_perm {α : Type} (next : Nat → Nat) (xs : Array α) : (pickOrder next xs).toList.Perm xs.toList := by
  have := pick_go next xs.size 0 xs.toList #[] (by simp)
  simpa [pickOrder] using this
theorem wp_draw {α : Type} : ∀ (n : Nat) (xs : List α) (s : Shared) (Q : List α → Shared → Prop), xs.length ≤ n → (∀ ys d', ys.Perm xs → Q ys { s with drawn := d' }) → wpAny (model prog w) A (drawOrder n xs) Q E s
  | 0, xs, s, Q, h, q => by
    obtain rfl : xs = [] := List.length_eq_zero_iff.mp (by omega)
    unfold drawOrder
    exact wpAny_pure (q [] s.drawn .nil)
  | n + 1, [], s, Q, h, q => by
    unfold drawOrder
    exact wpAny_pure (q [] s.drawn .nil)
  | n + 1, a :: l, s, Q, h, q => by
    unfold drawOrder
    refine wpAny_bind fun Γ p hΓ => ?_
    unfold choose
    rw [Sem.wp_choose]
    refine ⟨by simp, ?_⟩
    have hlt := Nat.mod_lt ((model prog w).w.draws .order (s.drawn.get .order)) (show 0 < (a :: l).length by simp)
    generalize (model prog w).w.draws .order (s.drawn.get .order) % (a :: l).length = i at hlt ⊢
    obtain ⟨x, hx⟩ : ∃ x, (a :: l)[i]? = some x := ⟨_, List.getElem?_eq_getElem hlt⟩
    have pm := erase_perm hx
    show wpAny (model prog w) A (match (a :: l)[i]? with
            | some x => do
              let r ← drawOrder n ((a :: l).eraseIdx i)
              pure (x :: r)
            | none => unsupported "internal:drawOrder") Q E { s with drawn := s.drawn.bump .order }
    rw [hx]
    refine wpAny_bind (wp_draw n _ _ _ (by have := pm.length_eq; simp only [List.length_cons] at this h; omega) fun ys d' py => ?_)
    exact wpAny_pure (q (x :: ys) d' ((py.cons x).trans pm))
def drw (es : Array (Int × Value)) (t : SetTable) : Bool := !t.plain && decide (es.size > 1)
/-- how a set's walk stands: f the iterator's first field, vs what it gives, i the next -/
def Goes (w : World) (S : Addr) (es : Array (Int × Value)) (ep : Nat) (t : SetTable) (vs : List Value) (f : Value) (i : Nat) (h : Heap) : Prop :=
  (byTxt w = true ∧ vs = (pickOrder (w.params.setOrder S ep) es).toList.map (·.2) ∧ ∃ z : Nat, f = rawInt z) ∨
  (byTxt w = false ∧ drw es t = false ∧ vs = es.toList.map (·.2) ∧ ∃ z : Nat, f = rawInt z ∧ SetTable.below t.place z = i) ∨
  (∃ (T : Addr) (ds : List Nat), f = .ref T ∧ h.get? T = some { cls := .type "tuple", data := .seq (ds.map fun (k : Nat) => rawInt k).toArray } ∧ vs.length = ds.length ∧ ∀ (j : Nat) v, vs[j]? = some v → ∃ k e, ds[j]? = some k ∧ es[k]? = some e ∧ e.2 = v)
theorem Goes.moved {S : Addr} {es : Array (Int × Value)} {ep : Nat} {t : SetTable} {vs : List Value} {f : Value} {i : Nat} {h h' : Heap} (g : Goes w S es ep t vs f i h) (k : ∀ T, f = .ref T → ∀ u, h.get? T = some u → h'.get? T = some u) : Goes w S es ep t vs f i h' := by
  rcases g with g | g | ⟨T, ds, rfl, e, r⟩
  · exact .inl g
  · exact .inr (.inl g)
  · exact .inr (.inr ⟨T, ds, rfl, k T rfl _ e, r⟩)
theorem range_map {α : Type} {xs : Array α} {ds : List Nat} (h : ds.Perm (List.range xs.size)) : ∃ ys : List α, ys.Perm xs.toList ∧ ys.length = ds.length ∧ ∀ (j : Nat) y, ys[j]? = some y → ∃ k, ds[j]? = some k ∧ xs[k]? = some y := by
  have all : ∀ k ∈ ds, k < xs.size := fun k hk => List.mem_range.mp (h.mem_iff.mp hk)
  have p := h.filterMap fun i => xs[i]?
  rw [filterMap_getElem?_range] at p
  have len : ∀ ds : List Nat, (∀ k ∈ ds, k < xs.size) → (ds.filterMap fun i => xs[i]?).length = ds.length ∧ ∀ (j : Nat) y, (ds.filterMap fun i => xs[i]?)[j]? = some y → ∃ k, ds[j]? = some k ∧ xs[k]? = some y := by
    intro ds
    induction ds with
    | nil => intro _; exact ⟨rfl, fun j y e => by simp at e⟩
    | cons k l ih =>
      intro hk
      obtain ⟨i1, i2⟩ := ih fun x hx => hk x (.tail _ hx)
      have hlt := hk k (.head _)
      rw [List.filterMap_cons_some (b := xs[k]) (by simp [hlt])]
      refine ⟨by simp [i1], fun j y e => ?_⟩
      cases j with
      | zero => exact ⟨k, rfl, by simpa [hlt] using e⟩
      | succ j => exact i2 j y (by simpa using e)
  exact ⟨_, p, (len ds all).1, (len ds all).2⟩
theorem iter_set {Q : Value → Shared → Prop} (e : s.heap.get? S = some o) (x : o.ExactSet) (d : o.data = .set es ep t) (hf : t.fits es.size = true) (hr : Ris t.place) (hb : es.size < scanBound)
    (q : ∀ h' d' I f vs, vs.Perm (es.toList.map (·.2)) → Goes w S es ep t vs f 0 h' → (∀ b u, s.heap.get? b = some u → h'.get? b = some u) → s.heap.objs.size ≤ I → h'.get? I = some (sIter f 0 S es.size ep) → (∀ T, f = .ref T → T ≠ I) → Q (.ref I) { s with heap := h', drawn := d' }) : wpAny (model prog w) A (pyIter (.ref S)) Q E s := by
  have hT : s.TypeIs (.ref S) "set" := ⟨_, e, x.1⟩
  refine wpAny_pyIter_slot hT PySem.F.slot_set_iter (wpAny_call_entry PySem.F.slot_set_iter hT entry_set_iter ?_ (PySem.F.args_set_iter_1 _))
  unfold Builtin.«frozenset.__iter__» setDrawn setsByText
  wp_walk using wpAny_setState_of e d hf, wpAny_setEntries_of e d hf, wpAny_setEpoch_of e d hf
  refine wpAny_askSetting (wpAny_pure (wpAny_pure ?_))
  refine wpAny_ite_split (fun c => ?_) (fun c => ?_)
  · refine wpAny_bind (wp_draw _ _ _ _ (by simp) fun ds d' pd => wpAny_bind (wpAny_newTuple ?_ (by rw [List.length_map, pd.length_eq, List.length_range]; exact fits_of_scanBound hb)))
    have e1 := Heap.get?_push_of_some { cls := .type "tuple", data := .seq (ds.map fun (k : Nat) => rawInt k).toArray } e
    refine wpAny_bind (wpAny_setEpoch_of e1 d hf ?_)
    refine wpAny_bind (wpAny_newObj_type (wpAny_pure ⟨_, rfl, "set_iterator", _, ⟨_, Heap.get?_push_size _ rfl, rfl⟩, slot_si_next.lookup, ?_⟩))
    obtain ⟨ys, p1, p2, p3⟩ := range_map pd
    refine q _ d' _ _ (ys.map (·.2)) (p1.map _) (.inr (.inr ⟨s.heap.objs.size, ds, rfl, Heap.get?_push_of_some _ (Heap.get?_push_size _ rfl), by simpa using p2, fun j v hv => ?_⟩)) (fun b u z => Heap.get?_push_of_some _ (Heap.get?_push_of_some _ z)) ?_ (Heap.get?_push_size _ rfl) ?_
    · rw [List.getElem?_map] at hv
      cases ej : ys[j]? with
      | none => rw [ej] at hv; cases hv
      | some y =>
        rw [ej] at hv
        cases hv
        obtain ⟨k, k1, k2⟩ := p3 j y ej
        exact ⟨k, y, k1, k2, rfl⟩
    · show s.heap.objs.size ≤ (s.heap.push _).objs.size
      rw [size_push']
      exact Nat.le_succ _
    · rintro T ⟨⟩
      show s.heap.objs.size ≠ (s.heap.push _).objs.size
      rw [size_push']
      exact Nat.ne_of_lt (Nat.lt_succ_self _)
  · refine wpAny_bind (wpAny_pure (wpAny_bind (wpAny_setEpoch_of e d hf ?_)))
    refine wpAny_bind (wpAny_newObj_type (wpAny_pure ⟨_, rfl, "set_iterator", _, ⟨_, Heap.get?_push_size _ rfl, rfl⟩, slot_si_next.lookup, ?_⟩))
    have fin : ∀ vs, vs.Perm (es.toList.map (·.2)) → Goes w S es ep t vs (rawInt 0) 0 (s.heap.push (sIter (rawInt 0) 0 S es.size ep)) → Q (.ref s.heap.objs.size) { s with heap := s.heap.push (sIter (rawInt 0) 0 S es.size ep) } :=
      fun vs p g => q _ s.drawn _ _ vs p g (fun b u z => Heap.get?_push_of_some _ z) (Nat.le_refl _) (Heap.get?_push_size _ rfl) (fun T z => by cases z)
    cases hb : byTxt w with
    | true => exact fin _ ((pick_perm (w.params.setOrder S ep) es).map _) (.inl ⟨hb, rfl, 0, rfl⟩)
    | false =>
      have c' : drw es t = false := by
        have z : ¬ ((!byTxt w && drw es t) = true) := c
        rw [hb] at z
        simpa using z
      exact fin _ (.refl _) (.inr (.inl ⟨hb, c', rfl, 0, rfl, below_zero hr⟩))
theorem led_ok {Q : Unit → Shared → Prop} (h : t.led = true) (q : Q () s) : wpAny (model prog w) A (if (!t.led && !es.isEmpty) = true then unsupported "set:maker-not-led" else pure ()) Q E s := by
  rw [h]
  exact wpAny_pure q
theorem setNext_ok {Q : Option (Value × Nat) → Shared → Prop} {vs : List Value} {z i : Nat} (e : s.heap.get? S = some o) (d : o.data = .set es ep t) (hf : t.fits es.size = true) (hr : Ris t.place) (hl : t.led = !byTxt w)
    (g : Goes w S es ep t vs (rawInt z) i s.heap)
    (q1 : ∀ v (z' : Nat), vs[i]? = some v → Goes w S es ep t vs (rawInt z') (i + 1) s.heap → Q (some (v, z')) s) (q2 : vs[i]? = none → Q none s) : wpAny (model prog w) A (setNext S z i ep) Q E s := by
  unfold setNext setsByText
  refine wpAny_bind (wpAny_setState_of e d hf ?_)
  refine wpAny_bind (wpAny_bind (wpAny_askSetting (wpAny_pure ?_)))
  rcases g with ⟨hb, rfl, z0, _⟩ | ⟨hb, hd, rfl, z0, ez, hz⟩ | ⟨T, ds, ef, _⟩
  · refine wpAny_ite_split (fun _ => ?_) (fun c => absurd hb c)
    refine wpAny_ite_split (fun c => absurd c (by simp)) (fun _ => ?_)
    refine wpAny_bind ?_
    unfold setWalk setsByText
    refine wpAny_bind (wpAny_setState_of e d hf ?_)
    refine wpAny_bind (wpAny_bind (wpAny_askSetting (wpAny_pure ?_)))
    refine wpAny_ite_split (fun _ => ?_) (fun c => absurd hb c)
    refine wpAny_bind (wpAny_askSetting (wpAny_pure (wpAny_pure ?_)))
    show Q (((pickOrder (w.params.setOrder S ep) es)[i]?).map fun e => (e.2, z)) s
    cases ei : (pickOrder (w.params.setOrder S ep) es)[i]? with
    | none => exact q2 (by simp [ei])
    | some p => exact q1 p.2 z (by simp [ei]) (.inl ⟨hb, rfl, z, rfl⟩)
  · obtain rfl : z = z0 := by
      simp only [rawInt, Value.int.injEq] at ez
      exact Int.ofNat.inj ez.1
    refine wpAny_ite_split (fun c => absurd (show byTxt w = true from c) (by rw [hb]; decide)) (fun _ => ?_)
    refine wpAny_ite_split (fun c => absurd c (show ¬ (drw es t = true) by rw [hd]; decide)) (fun _ => ?_)
    refine wpAny_bind (led_ok (by rw [hl, hb]; rfl) (wpAny_pure ?_))
    have hsz : t.place.size = es.size := by
      simp only [SetTable.fits, Bool.and_eq_true, beq_iff_eq] at hf
      exact hf.1
    rw [hz]
    cases ei : es[i]? with
    | none => exact q2 (by simp [ei])
    | some p =>
      have hi : i < es.size := by
        rcases Nat.lt_or_ge i es.size with c | c
        · exact c
        · rw [Array.getElem?_eq_none c] at ei; cases ei
      have hp : t.place[i]? = some (t.place.getD i 0) := by simp [Array.getD, hsz, hi]
      rw [hp]
      exact q1 p.2 _ (by simp [ei]) (.inr (.inl ⟨hb, hd, rfl, _, rfl, getD_below hr (by omega)⟩))
  · simp [rawInt] at ef
set_option maxHeartbeats 4000000 in
theorem next_set {Q : Option Value → Shared → Prop} {f : Value} {i : Nat} {vs : List Value} (hh : A.handled = none) (eI : s.heap.get? I = some (sIter f i S es.size ep)) (e : s.heap.get? S = some o) (x : o.ExactSet) (d : o.data = .set es ep t) (hf : t.fits es.size = true) (hr : Ris t.place) (hl : t.led = !byTxt w)
    (g : Goes w S es ep t vs f i s.heap) (hSI : S ≠ I) (hTI : ∀ T, f = .ref T → T ≠ I)
    (q1 : ∀ h' f' v, vs[i]? = some v → Heap.SameBut I s.heap h' → h'.get? I = some (sIter f' (i + 1) S es.size ep) → Goes w S es ep t vs f' (i + 1) h' → (∀ T, f' = .ref T → f = .ref T) → Q (some v) { s with heap := h' })
    (q2 : ∀ h', vs[i]? = none → Heap.ExtBut I s.heap h' → Q none { s with heap := h' }) : wpAny (model prog w) A (pyNext (.ref I)) Q E s := by
  have hT : s.TypeIs (.ref I) "set_iterator" := ⟨_, eI, rfl⟩
  unfold pyNext
  refine wpAny_bind (wpAny_attempt (wpAny_callSpecial?_slot (name := "__next__") hT slot_si_next (wpAny_call_entry slot_si_next hT entry_si_next ?_ (args_si_next _))))
  unfold Builtin.«set_iterator.__next__»
  wp_walk using wpAny_setEntries_of e d hf
  have hh' : A.in1.handled = none := hh
  have kinds : (∃ z : Nat, f = rawInt z) ∨ ∃ (T : Addr) (ds : List Nat), f = .ref T ∧ s.heap.get? T = some { cls := .type "tuple", data := .seq (ds.map fun (k : Nat) => rawInt k).toArray } ∧ vs.length = ds.length ∧ ∀ (j : Nat) v, vs[j]? = some v → ∃ k e, ds[j]? = some k ∧ es[k]? = some e ∧ e.2 = v := by
    rcases g with ⟨_, _, z⟩ | ⟨_, _, _, z, ez, _⟩ | z
    · exact .inl z
    · exact .inl ⟨z, ez⟩
    · exact .inr z
  rcases kinds with ⟨z, rfl⟩ | ⟨T, ds, rfl, eT, hlen, hds⟩
  · refine wpAny_bind (setNext_ok (i := i) (z := z) e d hf hr hl g (fun v z' hv g' => ?_) (fun hn => ?_))
    · wp_walk
      exact ⟨_, rfl, wpAny_pure (q1 _ (rawInt z') v hv ((Heap.SameBut.update ..).trans (Heap.SameBut.update ..)) (Heap.get?_update_self _ (Heap.get?_update_self _ eI rfl) rfl) (g'.moved fun T z => by cases z) fun T z => by cases z)⟩
    · wp_walk
      rw [raiseNew]
      wp_walk
      refine wpAny_of_eq isSubtype_stop (wpAny_pure ?_)
      exact q2 _ hn (((Heap.SameBut.update ..).extBut.push _).push _)
  · wp_walk
    rw [show ((i : Int)).toNat = i from rfl, List.getElem?_toArray, List.getElem?_map]
    cases ej : ds[i]? with
    | none =>
      have hn : vs[i]? = none := by
        rw [List.getElem?_eq_none_iff] at ej ⊢
        omega
      dsimp only [Option.map]
      wp_walk
      rw [raiseNew]
      wp_walk
      refine wpAny_of_eq isSubtype_stop (wpAny_pure ?_)
      exact (q2 _ hn (((((Heap.SameBut.update ..).trans (Heap.SameBut.update ..)).extBut.push _).push _)))
    | some k =>
      obtain ⟨v, hv⟩ : ∃ v, vs[i]? = some v := by
        have := (List.getElem?_eq_some_iff.mp ej).1
        exact ⟨_, List.getElem?_eq_getElem (by omega)⟩
      obtain ⟨k', y, k1, k2, k3⟩ := hds i v hv
      obtain rfl : k = k' := by rw [ej] at k1; exact Option.some.inj k1
      subst k3
      dsimp only [Option.map, rawInt]
      unfold setNextDrawn
      refine wpAny_bind (wpAny_bind (wpAny_setState_of e d hf ?_))
      refine wpAny_ite_split (fun c => absurd c (by simp)) (fun _ => ?_)
      rw [show ((k : Int)).toNat = k from rfl, k2]
      wp_walk
      have hTn := hTI T rfl
      exact ⟨_, rfl, wpAny_pure (q1 _ (.ref T) _ hv (Heap.SameBut.update ..) (Heap.get?_update_self _ eI rfl) (.inr (.inr ⟨T, ds, rfl, (Heap.get?_update_other _ _ (Ne.symm hTn)).trans eT, hlen, hds⟩)) fun T' z => z)⟩
end
end L2


set_option Elab.async false
set_option linter.all false
set_option maxRecDepth 100000
/-! SETS: sorted -/
namespace L2
open PySem PySem.Spec PyProof.Rows
theorem entry_si_iter : entryFor table "set_iterator.__iter__" = some Builtin.«dict_keyiterator.__iter__» := entryFor_alias (id' := "dict_keyiterator.__iter__") (by kernel_rfl) rfl (by decide +kernel) (by kernel_rfl)
theorem args_si_iter (a : Value) : argsOk "set_iterator.__iter__" ⟨[a], []⟩ := by unfold argsOk; kernel_rfl
section
variable {prog : Program} {w : World} {A : Around} {E : Value → Shared → Prop} {s : Shared} {S I : Addr} {es : Array (Int × Value)} {ep : Nat} {t : SetTable} {o : Obj}
def keyI : Value → Int
  | .int k _ => k
  | _ => 0
def SetSt (w : World) (I S : Addr) (o : Obj) (es : Array (Int × Value)) (ep : Nat) (t : SetTable) (vs : List Value) (Ts : List Addr) (i : Nat) (h : Heap) : Prop :=
  ∃ f, h.get? I = some (sIter f i S es.size ep) ∧ h.get? S = some o ∧ Goes w S es ep t vs f i h ∧ ∀ T, f = .ref T → T ≠ I ∧ T ∈ Ts
theorem walks_set (hh : A.handled = none) (x : o.ExactSet) (d : o.data = .set es ep t) (hf : t.fits es.size = true) (hr : Ris t.place) (hl : t.led = !byTxt w) (hSI : S ≠ I) (vs : List Value) (Ts : List Addr) :
    Walks prog w A I (I :: S :: Ts) [I] vs.length (fun i v => vs[i]? = some v) (SetSt w I S o es ep t vs Ts) where
  sub := fun b hb => by simp at hb; simp [hb]
  frame := fun i h h' st hk => by
    obtain ⟨f, e1, e2, g, hT⟩ := st
    exact ⟨f, hk I (by simp) _ e1, hk S (by simp) _ e2, g.moved fun T z u hu => hk T (by simp [(hT T z).2]) u hu, hT⟩
  item := fun i s Q E hi st q => by
    obtain ⟨f, e1, e2, g, hT⟩ := st
    refine next_set hh e1 e2 x d hf hr hl g hSI (fun T z => (hT T z).1) (fun h' f' v hv sb e3 g' hT' => ?_) fun h' hn _ => ?_
    · refine q v h' s.toks hv ⟨f', e3, (sb.2 S hSI).trans e2, g', fun T z => hT T (hT' T z)⟩ fun b u hb z => (sb.2 b (by simpa using hb)).trans z
    · rw [List.getElem?_eq_none_iff] at hn
      omega
  done := fun s Q E st q => by
    obtain ⟨f, e1, e2, g, hT⟩ := st
    refine next_set hh e1 e2 x d hf hr hl g hSI (fun T z => (hT T z).1) (fun h' f' v hv _ _ _ _ => ?_) fun h' _ sb => q h' s.toks fun b u hb z => sb b u (by simpa using hb) z
    simp at hv
  self := fun i s Q E st q => by
    obtain ⟨f, e1, _⟩ := st
    have hT : s.TypeIs (.ref I) "set_iterator" := ⟨_, e1, rfl⟩
    refine wpAny_pyIter_slot hT slot_si_iter (wpAny_call_entry slot_si_iter hT entry_si_iter ?_ (args_si_iter _))
    exact wpAny_pure ⟨_, rfl, "set_iterator", _, hT, slot_si_next.lookup, q⟩
theorem hint_set {Q : Bool → Shared → Prop} (hT : s.TypeIs (.ref S) "set") (q : Q false s) : wpAny (model prog w) A (Builtin.List.listLengthHint (.ref S)) Q E s := by
  unfold Builtin.List.listLengthHint
  refine wpAny_bind (wpAny_specialOf hT slot_set_len'.lookup ?_)
  generalize hid : ("set.__len__" : String) = id0
  wp_delta
  rw [show splitId id0 = some ("set", "__len__") from by subst hid; decide +kernel]
  subst hid
  refine wpAny_bind (wpAny_isInstance (T := "set") (b := true) hT (by rw [isSubtype_type]; kernel_rfl) ?_)
  refine wpAny_ite_split (fun hab => absurd hab (by decide)) (fun _ => ?_)
  refine wpAny_ite_split (fun _ => ?_) (fun hab => absurd (by decide +kernel) hab)
  refine wpAny_bind (wpAny_typeOf hT ?_)
  exact wpAny_pure q
theorem collect_set {Q : List Value → Shared → Prop} (hh : A.handled = none) (e : s.heap.get? S = some o) (x : o.ExactSet) (d : o.data = .set es ep t) (hf : t.fits es.size = true) (hr : Ris t.place) (hb : es.size < scanBound) (hl : t.led = !byTxt w)
    (q : ∀ (vs : List Value) (h' : Heap) (d' : Drawn) (tk : Nat), vs.Perm (es.toList.map (·.2)) → s.heap.objs.size ≤ h'.objs.size → (∀ b u, s.heap.get? b = some u → h'.get? b = some u) → Q vs { s with heap := h', drawn := d', toks := tk }) :
    wpAny (model prog w) A (collect (.ref S)) Q E s := by
  unfold collect
  refine wpAny_bind (wpAny_runValue (codeAny_builtin PySem.F.entry_proto_collect ?_))
  rw [Around.under_plainId PySem.F.plain_proto_collect]
  refine wpAny_bind (wpAny_newList (wpAny_pure ⟨plainId_quiet PySem.F.plain_list_iadd _, codeAny_builtin PySem.F.entry_list_iadd ?_⟩))
  rw [Around.under_plainId PySem.F.plain_list_iadd]
  have lS : S < s.heap.objs.size := Heap.lt_size e
  have e1 : (s.heap.push (seqObj "list" #[] 0)).get? S = some o := Heap.get?_push_of_some _ e
  have hT : Shared.TypeIs { s with heap := s.heap.push (seqObj "list" #[] 0) } (.ref S) "set" := ⟨_, e1, x.1⟩
  show wpAny _ _ (Builtin.List.listExtendWith (.ref s.heap.objs.size) (.ref S) (.ref s.heap.objs.size)) _ _ { s with heap := s.heap.push (seqObj "list" #[] 0) }
  unfold Builtin.List.listExtendWith
  refine wpAny_bind (wpAny_typeOf hT ?_)
  refine wpAny_ite_split (fun c => absurd c ?_) (fun _ => ?_)
  · have : Builtin.List.listSameRef (.ref s.heap.objs.size) (.ref S) = false := by
      simp only [Builtin.List.listSameRef, beq_eq_false_iff_ne]
      exact Nat.ne_of_gt lS
    rw [this]
    decide
  refine wpAny_bind (iter_set e1 x d hf hr hb fun h' d' I f vs pv g k hI eI hTI => ?_)
  refine wpAny_bind (wpAny_holding (hint_set ⟨_, k _ _ e1, x.1⟩ ?_))
  refine wpAny_ite_split (fun _ => ?_) (fun c => absurd (by decide +kernel) c)
  have eL : h'.get? s.heap.objs.size = some (seqObj "list" #[] 0) := k _ _ (Heap.get?_push_size _ rfl)
  have nI : s.heap.objs.size < I := by
    have z : (s.heap.push (seqObj "list" #[] 0)).objs.size ≤ I := hI
    rw [size_push'] at z
    exact z
  have nIL : s.heap.objs.size ≠ I := Nat.ne_of_lt nI
  have nSI : S ≠ I := Nat.ne_of_lt (Nat.lt_trans lS nI)
  have nSL : S ≠ s.heap.objs.size := Nat.ne_of_lt lS
  refine wpAny_bind (wpAny_rule (wpAny_bind ?_))
  unfold Builtin.List.listTouch
  refine wpAny_bind (listUpdate_at eL rfl ?_)
  have eL1 := get?_update_seq eL (·.push Value.none)
  refine listUpdate_at eL1 rfl (wpAny_pure ⟨plainId_quiet PySem.F.plain_extend_loop _, ?_⟩)
  obtain ⟨c2, eL2⟩ : ∃ c, ((h'.update s.heap.objs.size (Obj.mapSeq (·.push Value.none))).update s.heap.objs.size (Obj.mapSeq (·.pop))).get? s.heap.objs.size = some (seqObj "list" #[] c) := ⟨_, get?_update_seq eL1 (·.pop)⟩
  have old : ∀ b u, b ≠ s.heap.objs.size → h'.get? b = some u → ((h'.update s.heap.objs.size (Obj.mapSeq (·.push Value.none))).update s.heap.objs.size (Obj.mapSeq (·.pop))).get? b = some u :=
    fun b u nb z => (Heap.get?_update_other _ _ (Ne.symm nb)).trans ((Heap.get?_update_other _ _ (Ne.symm nb)).trans z)
  generalize (h'.update s.heap.objs.size (Obj.mapSeq (·.push Value.none))).update s.heap.objs.size (Obj.mapSeq (·.pop)) = h2 at eL2 old ⊢
  obtain ⟨Ts, hTs, hL⟩ : ∃ Ts : List Addr, (∀ T, f = .ref T → T ∈ Ts) ∧ s.heap.objs.size ∉ Ts := by
    rcases g with ⟨_, _, z, rfl⟩ | ⟨_, _, _, z, rfl, _⟩ | ⟨T, ds, rfl, eT, _⟩
    · exact ⟨[], fun T z => (by cases z), by simp⟩
    · exact ⟨[], fun T z => (by cases z), by simp⟩
    · refine ⟨[T], fun T' z => by cases z; simp, fun z => ?_⟩
      obtain rfl := List.mem_singleton.mp z
      rw [eL] at eT
      simp [seqObj] at eT
  have W := (walks_set (prog := prog) (A := A.in1) (w := w) (S := S) (I := I) (by simp [hh]) x d hf hr hl nSI vs Ts).toS
  have hn : vs.length ≤ sizeLine := by
    rw [pv.length_eq, List.length_map, Array.length_toList]
    exact fits_of_scanBound hb
  refine codeAny_extend_loopS W hn s.heap.objs.size ?_ _ vs.length 0 _ #[] c2 (by omega) (Nat.zero_le _) ?st ?el (ItemsOf.nil _) ?_
  case st => exact ⟨f, old _ _ (Ne.symm nIL) eI, old _ _ nSL (k _ _ e1), g.moved fun T z u hu => old T u (fun c => hL (c ▸ hTs T z)) hu, fun T z => ⟨hTI T z, hTs T z⟩⟩
  case el => exact eL2
  · simp only [List.mem_cons, not_or]
    exact ⟨nIL, Ne.symm nSL, hL⟩
  intro s3 acc c mv eL3 hacc
  refine wpAny_bind (wpAny_load eL3 (wpAny_pure ?_))
  have ev : acc.toList = vs := by
    refine List.ext_getElem? fun j => ?_
    rcases Nat.lt_or_ge j acc.size with c | c
    · rw [Array.getElem?_toList, Array.getElem?_eq_getElem c]
      exact (hacc.2 j _ (Array.getElem?_eq_getElem c)).symm
    · rw [Array.getElem?_toList, Array.getElem?_eq_none c, List.getElem?_eq_none (by rw [← hacc.1]; exact c)]
  rw [ev]
  obtain ⟨h3, g3, d3, tk3, os3⟩ := s3
  have z1 : g3 = s.gens := mv.gens
  have z3 : os3 = s.os := mv.os
  subst z1 z3
  refine q vs h3 d3 tk3 pv (Nat.le_of_lt (Heap.lt_size eL3)) fun b u hu => ?_
  have lb : b < s.heap.objs.size := Heap.lt_size hu
  refine mv.heap b u ?_ (old b u (Nat.ne_of_lt lb) (k b u (Heap.get?_push_of_some _ hu)))
  simp only [List.mem_cons, List.not_mem_nil, or_false, not_or]
  exact ⟨Nat.ne_of_lt lb, Nat.ne_of_lt (Nat.lt_trans lb nI)⟩
theorem isInt_is {k : Int} {v : Value} (h : (intKind prog w).is k v = true) : ∃ t, v = .int k t := by
  cases v <;> simp [intKind, Value.isInt] at h
  exact ⟨_, by rw [h]⟩
theorem keyI_is (k : Int) (v : Value) (h : (intKind prog w).is k v = true) : keyI v = k := by
  obtain ⟨t, rfl⟩ := isInt_is h
  rfl
theorem ints_keyI : ∀ vs : List Value, (∀ v ∈ vs, ∃ k t, v = .int k t) → IntsAre vs (vs.map keyI)
  | [], _ => .nil
  | v :: l, h => by
    obtain ⟨k, t, rfl⟩ := h v (.head _)
    exact .cons _ _ (ints_keyI l fun x hx => h x (.tail _ hx))
/-- sorted of a set of ints -/
theorem sorted_set {ks : List Int} {Q : Value → Shared → Prop} (hh : A.handled = none) (X : SetX (intKind prog w) keyI S (!byTxt w) ks s.heap) (h64 : ks.length < 64)
    (q : ∀ (h' : Heap) (d' : Drawn) (tk : Nat) (l : Addr) (out : Array Value) (n : Nat) (ms : List Int), s.heap.objs.size ≤ l → (∀ b u, s.heap.get? b = some u → h'.get? b = some u) → h'.get? l = some (seqObj "list" out n) → IntsAre out.toList ms → ms.Perm ks → ms.Pairwise (· ≤ ·) →
      Q (.ref l) { s with heap := h', drawn := d', toks := tk }) : wpAny (model prog w) A (call (.builtin "sorted") [.ref S]) Q E s := by
  obtain ⟨o, es, ep, t, e, x, d, hel, rfl, hnd, hb, hf, hr, hl⟩ := X
  refine Calls.call_function_entry kind_sorted plain_sorted entry_sorted (args_sorted1 _) ?_
  unfold Builtin.«sorted»
  refine wpAny_bind (m := checkCount "sorted" 1 1 _) (wpAny_pure (wpAny_bind (collect_set (by simpa using hh) e x d hf hr hb hl fun vs h1 d1 tk1 pv z1 k1 => ?_)))
  have hn : vs.length = es.size := by rw [pv.length_eq, List.length_map, Array.length_toList]
  have hI := ints_keyI vs fun v hv => by
    obtain ⟨q, hq, rfl⟩ := List.mem_map.mp (pv.mem_iff.mp hv)
    obtain ⟨⟨k, hk, _⟩, _⟩ := hel q hq
    obtain ⟨t, ht⟩ := isInt_is hk
    exact ⟨k, t, ht⟩
  have pk : (vs.map keyI).Perm (es.toList.map fun e => keyI e.2) := by
    have z := pv.map keyI
    rwa [List.map_map] at z
  refine wpAny_bind (wpAny_newList ?_ (by rw [hn]; exact fits_of_scanBound hb))
  have eL : (h1.push (seqObj "list" vs.toArray 0)).get? h1.objs.size = some (seqObj "list" vs.toArray 0) := Heap.get?_push_size _ rfl
  refine wpAny_bind (wpAny_holding (wpAny_call_entry slot_list_sort ⟨_, eL, rfl⟩ entry_list_sort (list_sort_tree eL hI (by rw [pk.length_eq.symm.trans (List.length_map ..)] at h64; exact h64) fun out ms a1 a2 a3 => ⟨_, rfl, ?_⟩) (args_list_sort _)))
  refine wpAny_pure ⟨_, rfl, ?_⟩
  obtain ⟨n, en⟩ := sortedHeap_at (out := out) eL
  refine q _ d1 tk1 h1.objs.size out n ms ?_ (fun b u hu => ?_) en a1 (a2.trans pk) a3
  · exact z1
  · have lb := Heap.lt_size (k1 b u hu)
    rw [sortedHeap_old (Nat.ne_of_lt lb) (by rw [size_push']; exact Nat.lt_succ_of_lt lb)]
    exact Heap.get?_push_of_some _ (k1 b u hu)
end
end L2


set_option Elab.async false
set_option linter.all false
set_option maxRecDepth 100000
namespace L2
open PySem PySem.Spec PyProof.Rows

/-! ### the layer's rules -/
def setO (P : Program) (w : World) (p : Addr) (ks : List Int) : HO := .ext (SetX (intKind P w) keyI p (!byTxt w) ks)
def qSetI (P : Program) (w : World) (K : PySem.W.Frag) : List V → Hp → VK → Prop := fun xs H Q => ∃ (a : Addr) (ns : List Int), xs = [.ref a] ∧ SqL K H a (ns.map V.int) ∧ ns.length ≤ 1000 ∧
  ∀ (p : Addr) (ks : List Int), H p = none → ks.Nodup → (∀ x, x ∈ ks ↔ x ∈ ns) → ks.length ≤ ns.length → Q (.ref p) (upd H p (setO P w p ks))
def qSortSet (P : Program) (w : World) : List V → Hp → VK → Prop := fun xs H Q => ∃ (a : Addr) (ks : List Int), xs = [.ref a] ∧ H a = some (setO P w a ks) ∧ ks.length < 64 ∧
  ∀ (l : Addr) (ms : List Int), H l = none → ms.Perm ks → ms.Pairwise (· ≤ ·) → Q (.ref l) (upd H l (.lst (ms.map V.int)))
section
variable {X : Cx}
theorem Inv.drew {pins : List (Addr × Obj)} {σ : List (Option V)} {H : Hp} {s : Shared} (d : Drawn) (I : Inv X pins σ H s) : Inv X pins σ H { s with drawn := d } :=
  ⟨I.ok, I.os, I.bare, I.base, I.loc, I.cell, I.free, I.freeC, I.pin, I.hok, I.len⟩
theorem call_setI (hc : X.calm = true) : CallR X (.type "set") (qSetI X.prog X.w X.K) := by
  intro pins s σ H xs us Q I r h
  obtain ⟨a, ns, rfl, hq, hz, q⟩ := h
  obtain ⟨u, rfl, r1⟩ := r.one
  cases r1
  obtain ⟨its, rv, pl, _⟩ := I.list hq
  have hi := intsAre_of rv
  have hlen : its.length = ns.length := by have := rv.length; rw [List.length_map] at this; exact this.symm
  refine call_setX (knd := intKind X.prog X.w) (key := keyI) (val := fun i => ns.getD i 0) (I.ok.hd hc) pl.isList keyI_is (fun i v hv => ?_) (by rw [List.size_toArray]; unfold scanBound; omega) fun h' tk ks x hl hm k => ?_
  · obtain ⟨t, rfl⟩ := hi.int_at i v (by simpa using hv)
    exact ⟨intKind_is _ _ _ _, rfl⟩
  · have hnd : ks.Nodup := by
      obtain ⟨_, _, _, _, _, _, _, _, _, z, _⟩ := x
      exact z
    rw [List.size_toArray] at hl
    refine ⟨.ref s.heap.objs.size, _, I.laid (t' := tk) k (Nat.le_refl _) (show ObjOk X.prog X.w _ _ _ (setO X.prog X.w s.heap.objs.size ks) from ⟨x, ?_, fun h1 h2 z y => z.moved y⟩), rfl, q _ ks (I.hok.fresh (Nat.le_refl _)) hnd (fun y => ?_) (by omega)⟩
    · obtain ⟨o, _, _, _, e, _⟩ := x
      exact ⟨o, e⟩
    · rw [hm y, List.size_toArray, hlen]
      constructor
      · rintro ⟨j, hj, rfl⟩
        exact getD_mem hj
      · intro z
        obtain ⟨j, hj, e⟩ := mem_getD z
        exact ⟨j, hj, e⟩
theorem call_sortedSet (hc : X.calm = true) : CallR X (.builtin "sorted") (qSortSet X.prog X.w) := by
  intro pins s σ H xs us Q I r h
  obtain ⟨a, ks, rfl, e, h64, q⟩ := h
  obtain ⟨u, rfl, r1⟩ := r.one
  cases r1
  have x : SetX (intKind X.prog X.w) keyI a (!byTxt X.w) ks s.heap := (show ObjOk X.prog X.w H s.heap a (setO X.prog X.w a ks) from I.hok a _ e).1
  refine sorted_set (I.ok.hd hc) x h64 fun h' d' tk l out n ms hl k en a1 a2 a3 => ?_
  refine ⟨.ref l, _, Inv.drew d' (I.laid (t' := tk) k hl (show ObjOk X.prog X.w _ _ _ (.lst (ms.map V.int)) from ⟨?_, out.toList, n, vals_of_ints a1, ?_⟩)), rfl, q l ms (I.hok.fresh hl) a2 a3⟩
  · rw [List.length_map, a2.length_eq]
    exact Nat.le_of_lt (small1000 (by omega))
  · simpa [seqObj] using en
end
end L2


set_option Elab.async false
set_option linter.all false
set_option maxRecDepth 100000
set_option maxHeartbeats 0
namespace SR
open PySem L2
def top (i : Nat) : Stmt := PySem.Challenge.pw_smallrooms_k21_whole_great_stretches.main.body.getD i (.Pass ⟨0, 0, 0, 0⟩)
-- s_worth_of s_joined s_met s_is_within s_between s_stretch_of s_stretch_of_same s_stretch_of_ends s_law_cell s_law_pick s_law_reckoned s_law_stretch s_law_ends s_law
theorem bt_int : bootBuiltins "int" = some (.type "int") := by decide +kernel
theorem bt_len : bootBuiltins "len" = some (.builtin "len") := by decide +kernel
theorem bt_max : bootBuiltins "max" = some (.builtin "max") := by decide +kernel
theorem bt_min : bootBuiltins "min" = some (.builtin "min") := by decide +kernel
theorem bt_set : bootBuiltins "set" = some (.type "set") := by decide +kernel
theorem bt_sorted : bootBuiltins "sorted" = some (.builtin "sorted") := by decide +kernel
theorem cd__law_at : (("_law_at" : Str) == ("__classdict__" : Str)) = false := by decide +kernel
theorem cd__law_drawn : (("_law_drawn" : Str) == ("__classdict__" : Str)) = false := by decide +kernel
theorem cd__law_ends_here : (("_law_ends_here" : Str) == ("__classdict__" : Str)) = false := by decide +kernel
theorem cd__law_k : (("_law_k" : Str) == ("__classdict__" : Str)) = false := by decide +kernel
theorem cd__law_less : (("_law_less" : Str) == ("__classdict__" : Str)) = false := by decide +kernel
theorem cd__law_many : (("_law_many" : Str) == ("__classdict__" : Str)) = false := by decide +kernel
theorem cd__law_mine : (("_law_mine" : Str) == ("__classdict__" : Str)) = false := by decide +kernel
theorem cd__law_n : (("_law_n" : Str) == ("__classdict__" : Str)) = false := by decide +kernel
theorem cd__law_one : (("_law_one" : Str) == ("__classdict__" : Str)) = false := by decide +kernel
theorem cd__law_other : (("_law_other" : Str) == ("__classdict__" : Str)) = false := by decide +kernel
theorem cd__law_script : (("_law_script" : Str) == ("__classdict__" : Str)) = false := by decide +kernel
theorem cd__law_stretch_here : (("_law_stretch_here" : Str) == ("__classdict__" : Str)) = false := by decide +kernel
theorem cd__law_told : (("_law_told" : Str) == ("__classdict__" : Str)) = false := by decide +kernel
theorem cd__law_word : (("_law_word" : Str) == ("__classdict__" : Str)) = false := by decide +kernel
theorem cd__law_worth_here : (("_law_worth_here" : Str) == ("__classdict__" : Str)) = false := by decide +kernel
theorem cd__law_worths : (("_law_worths" : Str) == ("__classdict__" : Str)) = false := by decide +kernel
theorem cd__law_yours : (("_law_yours" : Str) == ("__classdict__" : Str)) = false := by decide +kernel
theorem cd_above : (("above" : Str) == ("__classdict__" : Str)) = false := by decide +kernel
theorem cd_below : (("below" : Str) == ("__classdict__" : Str)) = false := by decide +kernel
theorem cd_can_be : (("can_be" : Str) == ("__classdict__" : Str)) = false := by decide +kernel
theorem cd_ends : (("ends" : Str) == ("__classdict__" : Str)) = false := by decide +kernel
theorem cd_high : (("high" : Str) == ("__classdict__" : Str)) = false := by decide +kernel
theorem cd_is_sure : (("is_sure" : Str) == ("__classdict__" : Str)) = false := by decide +kernel
theorem cd_low : (("low" : Str) == ("__classdict__" : Str)) = false := by decide +kernel
theorem cd_low_or_high : (("low_or_high" : Str) == ("__classdict__" : Str)) = false := by decide +kernel
theorem cd_one : (("one" : Str) == ("__classdict__" : Str)) = false := by decide +kernel
theorem cd_other : (("other" : Str) == ("__classdict__" : Str)) = false := by decide +kernel
theorem cd_word : (("word" : Str) == ("__classdict__" : Str)) = false := by decide +kernel
theorem db__law_at : (("_law_at" : Str) == ("__debug__" : Str)) = false := by decide +kernel
theorem db__law_cell : (("_law_cell" : Str) == ("__debug__" : Str)) = false := by decide +kernel
theorem db__law_drawn : (("_law_drawn" : Str) == ("__debug__" : Str)) = false := by decide +kernel
theorem db__law_ends : (("_law_ends" : Str) == ("__debug__" : Str)) = false := by decide +kernel
theorem db__law_ends_here : (("_law_ends_here" : Str) == ("__debug__" : Str)) = false := by decide +kernel
theorem db__law_k : (("_law_k" : Str) == ("__debug__" : Str)) = false := by decide +kernel
theorem db__law_less : (("_law_less" : Str) == ("__debug__" : Str)) = false := by decide +kernel
theorem db__law_many : (("_law_many" : Str) == ("__debug__" : Str)) = false := by decide +kernel
theorem db__law_mine : (("_law_mine" : Str) == ("__debug__" : Str)) = false := by decide +kernel
theorem db__law_n : (("_law_n" : Str) == ("__debug__" : Str)) = false := by decide +kernel
theorem db__law_one : (("_law_one" : Str) == ("__debug__" : Str)) = false := by decide +kernel
theorem db__law_other : (("_law_other" : Str) == ("__debug__" : Str)) = false := by decide +kernel
theorem db__law_pick : (("_law_pick" : Str) == ("__debug__" : Str)) = false := by decide +kernel
theorem db__law_reckoned : (("_law_reckoned" : Str) == ("__debug__" : Str)) = false := by decide +kernel
theorem db__law_script : (("_law_script" : Str) == ("__debug__" : Str)) = false := by decide +kernel
theorem db__law_stretch : (("_law_stretch" : Str) == ("__debug__" : Str)) = false := by decide +kernel
theorem db__law_stretch_here : (("_law_stretch_here" : Str) == ("__debug__" : Str)) = false := by decide +kernel
theorem db__law_told : (("_law_told" : Str) == ("__debug__" : Str)) = false := by decide +kernel
theorem db__law_word : (("_law_word" : Str) == ("__debug__" : Str)) = false := by decide +kernel
theorem db__law_worth_here : (("_law_worth_here" : Str) == ("__debug__" : Str)) = false := by decide +kernel
theorem db__law_worths : (("_law_worths" : Str) == ("__debug__" : Str)) = false := by decide +kernel
theorem db__law_yours : (("_law_yours" : Str) == ("__debug__" : Str)) = false := by decide +kernel
theorem db_above : (("above" : Str) == ("__debug__" : Str)) = false := by decide +kernel
theorem db_below : (("below" : Str) == ("__debug__" : Str)) = false := by decide +kernel
theorem db_between : (("between" : Str) == ("__debug__" : Str)) = false := by decide +kernel
theorem db_can_be : (("can_be" : Str) == ("__debug__" : Str)) = false := by decide +kernel
theorem db_ends : (("ends" : Str) == ("__debug__" : Str)) = false := by decide +kernel
theorem db_high : (("high" : Str) == ("__debug__" : Str)) = false := by decide +kernel
theorem db_int : (("int" : Str) == ("__debug__" : Str)) = false := by decide +kernel
theorem db_is_sure : (("is_sure" : Str) == ("__debug__" : Str)) = false := by decide +kernel
theorem db_is_within : (("is_within" : Str) == ("__debug__" : Str)) = false := by decide +kernel
theorem db_joined : (("joined" : Str) == ("__debug__" : Str)) = false := by decide +kernel
theorem db_len : (("len" : Str) == ("__debug__" : Str)) = false := by decide +kernel
theorem db_low : (("low" : Str) == ("__debug__" : Str)) = false := by decide +kernel
theorem db_low_or_high : (("low_or_high" : Str) == ("__debug__" : Str)) = false := by decide +kernel
theorem db_max : (("max" : Str) == ("__debug__" : Str)) = false := by decide +kernel
theorem db_met : (("met" : Str) == ("__debug__" : Str)) = false := by decide +kernel
theorem db_min : (("min" : Str) == ("__debug__" : Str)) = false := by decide +kernel
theorem db_one : (("one" : Str) == ("__debug__" : Str)) = false := by decide +kernel
theorem db_other : (("other" : Str) == ("__debug__" : Str)) = false := by decide +kernel
theorem db_set : (("set" : Str) == ("__debug__" : Str)) = false := by decide +kernel
theorem db_sorted : (("sorted" : Str) == ("__debug__" : Str)) = false := by decide +kernel
theorem db_stretch_of : (("stretch_of" : Str) == ("__debug__" : Str)) = false := by decide +kernel
theorem db_stretch_of_ends : (("stretch_of_ends" : Str) == ("__debug__" : Str)) = false := by decide +kernel
theorem db_stretch_of_same : (("stretch_of_same" : Str) == ("__debug__" : Str)) = false := by decide +kernel
theorem db_word : (("word" : Str) == ("__debug__" : Str)) = false := by decide +kernel
theorem db_worth_of : (("worth_of" : Str) == ("__debug__" : Str)) = false := by decide +kernel
theorem nn_int : ("int" : Str) ≠ "__name__" := by decide +kernel
theorem nn_len : ("len" : Str) ≠ "__name__" := by decide +kernel
theorem nn_max : ("max" : Str) ≠ "__name__" := by decide +kernel
theorem nn_min : ("min" : Str) ≠ "__name__" := by decide +kernel
theorem nn_set : ("set" : Str) ≠ "__name__" := by decide +kernel
theorem nn_sorted : ("sorted" : Str) ≠ "__name__" := by decide +kernel
abbrev s_worth_of : Stmt := top 1
theorem sc_worth_of : FnScope ["word", "one", "other"] ["word", "one", "other"] (defScope s_worth_of) := ⟨rfl, rfl, rfl, by decide +kernel, rfl, by decide +kernel, by decide +kernel⟩
theorem gl_worth_of_max : (defScope s_worth_of).names.lookup ("max" : Str) = some NameKind.globalImplicit := by decide +kernel
theorem gl_worth_of_min : (defScope s_worth_of).names.lookup ("min" : Str) = some NameKind.globalImplicit := by decide +kernel
theorem vis_worth_of_one : Vis (defScope s_worth_of) "one" := Or.inl (by decide +kernel)
theorem vis_worth_of_other : Vis (defScope s_worth_of) "other" := Or.inl (by decide +kernel)
theorem vis_worth_of_word : Vis (defScope s_worth_of) "word" := Or.inl (by decide +kernel)
abbrev s_joined : Stmt := top 3
theorem sc_joined : FnScope ["one", "other"] ["one", "other"] (defScope s_joined) := ⟨rfl, rfl, rfl, by decide +kernel, rfl, by decide +kernel, by decide +kernel⟩
theorem gl_joined_max : (defScope s_joined).names.lookup ("max" : Str) = some NameKind.globalImplicit := by decide +kernel
theorem gl_joined_min : (defScope s_joined).names.lookup ("min" : Str) = some NameKind.globalImplicit := by decide +kernel
theorem vis_joined_one : Vis (defScope s_joined) "one" := Or.inl (by decide +kernel)
theorem vis_joined_other : Vis (defScope s_joined) "other" := Or.inl (by decide +kernel)
abbrev s_met : Stmt := top 4
theorem sc_met : FnScope ["one", "other"] ["one", "other"] (defScope s_met) := ⟨rfl, rfl, rfl, by decide +kernel, rfl, by decide +kernel, by decide +kernel⟩
theorem gl_met_between : (defScope s_met).names.lookup ("between" : Str) = some NameKind.globalImplicit := by decide +kernel
theorem gl_met_max : (defScope s_met).names.lookup ("max" : Str) = some NameKind.globalImplicit := by decide +kernel
theorem gl_met_min : (defScope s_met).names.lookup ("min" : Str) = some NameKind.globalImplicit := by decide +kernel
theorem vis_met_one : Vis (defScope s_met) "one" := Or.inl (by decide +kernel)
theorem vis_met_other : Vis (defScope s_met) "other" := Or.inl (by decide +kernel)
abbrev s_is_within : Stmt := top 5
theorem sc_is_within : FnScope ["one", "other"] ["one", "other"] (defScope s_is_within) := ⟨rfl, rfl, rfl, by decide +kernel, rfl, by decide +kernel, by decide +kernel⟩
theorem gl_is_within_met : (defScope s_is_within).names.lookup ("met" : Str) = some NameKind.globalImplicit := by decide +kernel
theorem vis_is_within_one : Vis (defScope s_is_within) "one" := Or.inl (by decide +kernel)
theorem vis_is_within_other : Vis (defScope s_is_within) "other" := Or.inl (by decide +kernel)
abbrev s_between : Stmt := top 6
theorem sc_between : FnScope ["low", "high"] ["low", "high"] (defScope s_between) := ⟨rfl, rfl, rfl, by decide +kernel, rfl, by decide +kernel, by decide +kernel⟩
theorem vis_between_high : Vis (defScope s_between) "high" := Or.inl (by decide +kernel)
theorem vis_between_low : Vis (defScope s_between) "low" := Or.inl (by decide +kernel)
abbrev s_stretch_of : Stmt := top 7
theorem sc_stretch_of : FnScope ["word", "one", "other", "below", "above"] ["word", "one", "other"] (defScope s_stretch_of) := ⟨rfl, rfl, rfl, by decide +kernel, rfl, by decide +kernel, by decide +kernel⟩
theorem gl_stretch_of_between : (defScope s_stretch_of).names.lookup ("between" : Str) = some NameKind.globalImplicit := by decide +kernel
theorem gl_stretch_of_joined : (defScope s_stretch_of).names.lookup ("joined" : Str) = some NameKind.globalImplicit := by decide +kernel
theorem gl_stretch_of_max : (defScope s_stretch_of).names.lookup ("max" : Str) = some NameKind.globalImplicit := by decide +kernel
theorem gl_stretch_of_min : (defScope s_stretch_of).names.lookup ("min" : Str) = some NameKind.globalImplicit := by decide +kernel
theorem gl_stretch_of_stretch_of_ends : (defScope s_stretch_of).names.lookup ("stretch_of_ends" : Str) = some NameKind.globalImplicit := by decide +kernel
theorem gl_stretch_of_stretch_of_same : (defScope s_stretch_of).names.lookup ("stretch_of_same" : Str) = some NameKind.globalImplicit := by decide +kernel
theorem loc_stretch_of_above : Loc (defScope s_stretch_of) "above" := Or.inl (by decide +kernel)
theorem loc_stretch_of_below : Loc (defScope s_stretch_of) "below" := Or.inl (by decide +kernel)
theorem vis_stretch_of_above : Vis (defScope s_stretch_of) "above" := Or.inl (by decide +kernel)
theorem vis_stretch_of_below : Vis (defScope s_stretch_of) "below" := Or.inl (by decide +kernel)
theorem vis_stretch_of_one : Vis (defScope s_stretch_of) "one" := Or.inl (by decide +kernel)
theorem vis_stretch_of_other : Vis (defScope s_stretch_of) "other" := Or.inl (by decide +kernel)
theorem vis_stretch_of_word : Vis (defScope s_stretch_of) "word" := Or.inl (by decide +kernel)
abbrev s_stretch_of_same : Stmt := top 8
theorem sc_stretch_of_same : FnScope ["one", "other", "is_sure", "can_be"] ["one", "other"] (defScope s_stretch_of_same) := ⟨rfl, rfl, rfl, by decide +kernel, rfl, by decide +kernel, by decide +kernel⟩
theorem gl_stretch_of_same_met : (defScope s_stretch_of_same).names.lookup ("met" : Str) = some NameKind.globalImplicit := by decide +kernel
theorem loc_stretch_of_same_can_be : Loc (defScope s_stretch_of_same) "can_be" := Or.inl (by decide +kernel)
theorem loc_stretch_of_same_is_sure : Loc (defScope s_stretch_of_same) "is_sure" := Or.inl (by decide +kernel)
theorem vis_stretch_of_same_can_be : Vis (defScope s_stretch_of_same) "can_be" := Or.inl (by decide +kernel)
theorem vis_stretch_of_same_is_sure : Vis (defScope s_stretch_of_same) "is_sure" := Or.inl (by decide +kernel)
theorem vis_stretch_of_same_one : Vis (defScope s_stretch_of_same) "one" := Or.inl (by decide +kernel)
theorem vis_stretch_of_same_other : Vis (defScope s_stretch_of_same) "other" := Or.inl (by decide +kernel)
abbrev s_stretch_of_ends : Stmt := top 9
theorem sc_stretch_of_ends : FnScope ["word", "one", "other", "ends"] ["word", "one", "other"] (defScope s_stretch_of_ends) := ⟨rfl, rfl, rfl, by decide +kernel, rfl, by decide +kernel, by decide +kernel⟩
theorem gl_stretch_of_ends_max : (defScope s_stretch_of_ends).names.lookup ("max" : Str) = some NameKind.globalImplicit := by decide +kernel
theorem gl_stretch_of_ends_min : (defScope s_stretch_of_ends).names.lookup ("min" : Str) = some NameKind.globalImplicit := by decide +kernel
theorem loc_stretch_of_ends_ends : Loc (defScope s_stretch_of_ends) "ends" := Or.inl (by decide +kernel)
theorem vis_stretch_of_ends_ends : Vis (defScope s_stretch_of_ends) "ends" := Or.inl (by decide +kernel)
theorem vis_stretch_of_ends_one : Vis (defScope s_stretch_of_ends) "one" := Or.inl (by decide +kernel)
theorem vis_stretch_of_ends_other : Vis (defScope s_stretch_of_ends) "other" := Or.inr <| Or.inl (by decide +kernel)
abbrev s_law_cell : Stmt := top 11
theorem sc_law_cell : FnScope ["_law_script", "_law_k"] ["_law_script", "_law_k"] (defScope s_law_cell) := ⟨rfl, rfl, rfl, by decide +kernel, rfl, by decide +kernel, by decide +kernel⟩
theorem gl_law_cell_len : (defScope s_law_cell).names.lookup ("len" : Str) = some NameKind.globalImplicit := by decide +kernel
theorem vis_law_cell__law_k : Vis (defScope s_law_cell) "_law_k" := Or.inl (by decide +kernel)
theorem vis_law_cell__law_script : Vis (defScope s_law_cell) "_law_script" := Or.inl (by decide +kernel)
abbrev s_law_pick : Stmt := top 12
theorem sc_law_pick : FnScope ["_law_script", "_law_k", "_law_many", "_law_drawn"] ["_law_script", "_law_k", "_law_many"] (defScope s_law_pick) := ⟨rfl, rfl, rfl, by decide +kernel, rfl, by decide +kernel, by decide +kernel⟩
theorem gl_law_pick__law_cell : (defScope s_law_pick).names.lookup ("_law_cell" : Str) = some NameKind.globalImplicit := by decide +kernel
theorem loc_law_pick__law_drawn : Loc (defScope s_law_pick) "_law_drawn" := Or.inl (by decide +kernel)
theorem vis_law_pick__law_drawn : Vis (defScope s_law_pick) "_law_drawn" := Or.inl (by decide +kernel)
theorem vis_law_pick__law_k : Vis (defScope s_law_pick) "_law_k" := Or.inl (by decide +kernel)
theorem vis_law_pick__law_many : Vis (defScope s_law_pick) "_law_many" := Or.inl (by decide +kernel)
theorem vis_law_pick__law_script : Vis (defScope s_law_pick) "_law_script" := Or.inl (by decide +kernel)
abbrev s_law_reckoned : Stmt := top 13
theorem sc_law_reckoned : FnScope ["_law_word", "_law_one", "_law_other"] ["_law_word", "_law_one", "_law_other"] (defScope s_law_reckoned) := ⟨rfl, rfl, rfl, by decide +kernel, rfl, by decide +kernel, by decide +kernel⟩
theorem gl_law_reckoned_sorted : (defScope s_law_reckoned).names.lookup ("sorted" : Str) = some NameKind.globalImplicit := by decide +kernel
theorem vis_law_reckoned__law_one : Vis (defScope s_law_reckoned) "_law_one" := Or.inl (by decide +kernel)
theorem vis_law_reckoned__law_other : Vis (defScope s_law_reckoned) "_law_other" := Or.inl (by decide +kernel)
theorem vis_law_reckoned__law_word : Vis (defScope s_law_reckoned) "_law_word" := Or.inl (by decide +kernel)
abbrev s_law_stretch : Stmt := top 17
theorem sc_law_stretch : FnScope ["_law_script", "_law_at", "_law_ends_here"] ["_law_script", "_law_at"] (defScope s_law_stretch) := ⟨rfl, rfl, rfl, by decide +kernel, rfl, by decide +kernel, by decide +kernel⟩
theorem gl_law_stretch__law_pick : (defScope s_law_stretch).names.lookup ("_law_pick" : Str) = some NameKind.globalImplicit := by decide +kernel
theorem gl_law_stretch_max : (defScope s_law_stretch).names.lookup ("max" : Str) = some NameKind.globalImplicit := by decide +kernel
theorem gl_law_stretch_min : (defScope s_law_stretch).names.lookup ("min" : Str) = some NameKind.globalImplicit := by decide +kernel
theorem loc_law_stretch__law_ends_here : Loc (defScope s_law_stretch) "_law_ends_here" := Or.inl (by decide +kernel)
theorem vis_law_stretch__law_at : Vis (defScope s_law_stretch) "_law_at" := Or.inl (by decide +kernel)
theorem vis_law_stretch__law_ends_here : Vis (defScope s_law_stretch) "_law_ends_here" := Or.inl (by decide +kernel)
theorem vis_law_stretch__law_script : Vis (defScope s_law_stretch) "_law_script" := Or.inl (by decide +kernel)
abbrev s_law_ends : Stmt := top 18
theorem sc_law_ends : FnScope ["_law_stretch_here"] ["_law_stretch_here"] (defScope s_law_ends) := ⟨rfl, rfl, rfl, by decide +kernel, rfl, by decide +kernel, by decide +kernel⟩
theorem gl_law_ends_set : (defScope s_law_ends).names.lookup ("set" : Str) = some NameKind.globalImplicit := by decide +kernel
theorem gl_law_ends_sorted : (defScope s_law_ends).names.lookup ("sorted" : Str) = some NameKind.globalImplicit := by decide +kernel
theorem vis_law_ends__law_stretch_here : Vis (defScope s_law_ends) "_law_stretch_here" := Or.inr <| Or.inl (by decide +kernel)
abbrev s_law : Stmt := top 19
theorem sc_law : FnScope ["_law_script", "_law_one", "_law_other", "_law_word", "_law_told", "_law_worths", "_law_mine", "_law_k", "_law_yours", "_law_less"] ["_law_script"] (defScope s_law) := ⟨rfl, rfl, rfl, by decide +kernel, rfl, by decide +kernel, by decide +kernel⟩
theorem gl_law__law_ends : (defScope s_law).names.lookup ("_law_ends" : Str) = some NameKind.globalImplicit := by decide +kernel
theorem gl_law__law_pick : (defScope s_law).names.lookup ("_law_pick" : Str) = some NameKind.globalImplicit := by decide +kernel
theorem gl_law__law_reckoned : (defScope s_law).names.lookup ("_law_reckoned" : Str) = some NameKind.globalImplicit := by decide +kernel
theorem gl_law__law_stretch : (defScope s_law).names.lookup ("_law_stretch" : Str) = some NameKind.globalImplicit := by decide +kernel
theorem gl_law_int : (defScope s_law).names.lookup ("int" : Str) = some NameKind.globalImplicit := by decide +kernel
theorem gl_law_is_within : (defScope s_law).names.lookup ("is_within" : Str) = some NameKind.globalImplicit := by decide +kernel
theorem gl_law_max : (defScope s_law).names.lookup ("max" : Str) = some NameKind.globalImplicit := by decide +kernel
theorem gl_law_min : (defScope s_law).names.lookup ("min" : Str) = some NameKind.globalImplicit := by decide +kernel
theorem gl_law_range : (defScope s_law).names.lookup ("range" : Str) = some NameKind.globalImplicit := by decide +kernel
theorem gl_law_stretch_of : (defScope s_law).names.lookup ("stretch_of" : Str) = some NameKind.globalImplicit := by decide +kernel
theorem loc_law__law_k : Loc (defScope s_law) "_law_k" := Or.inl (by decide +kernel)
theorem loc_law__law_less : Loc (defScope s_law) "_law_less" := Or.inl (by decide +kernel)
theorem loc_law__law_mine : Loc (defScope s_law) "_law_mine" := Or.inr (by decide +kernel)
theorem loc_law__law_one : Loc (defScope s_law) "_law_one" := Or.inl (by decide +kernel)
theorem loc_law__law_other : Loc (defScope s_law) "_law_other" := Or.inl (by decide +kernel)
theorem loc_law__law_told : Loc (defScope s_law) "_law_told" := Or.inr (by decide +kernel)
theorem loc_law__law_word : Loc (defScope s_law) "_law_word" := Or.inr (by decide +kernel)
theorem loc_law__law_worths : Loc (defScope s_law) "_law_worths" := Or.inl (by decide +kernel)
theorem loc_law__law_yours : Loc (defScope s_law) "_law_yours" := Or.inl (by decide +kernel)
theorem vis_law__law_k : Vis (defScope s_law) "_law_k" := Or.inl (by decide +kernel)
theorem vis_law__law_less : Vis (defScope s_law) "_law_less" := Or.inl (by decide +kernel)
theorem vis_law__law_mine : Vis (defScope s_law) "_law_mine" := Or.inr <| Or.inl (by decide +kernel)
theorem vis_law__law_one : Vis (defScope s_law) "_law_one" := Or.inl (by decide +kernel)
theorem vis_law__law_other : Vis (defScope s_law) "_law_other" := Or.inl (by decide +kernel)
theorem vis_law__law_script : Vis (defScope s_law) "_law_script" := Or.inl (by decide +kernel)
theorem vis_law__law_told : Vis (defScope s_law) "_law_told" := Or.inr <| Or.inl (by decide +kernel)
theorem vis_law__law_word : Vis (defScope s_law) "_law_word" := Or.inr <| Or.inl (by decide +kernel)
theorem vis_law__law_worths : Vis (defScope s_law) "_law_worths" := Or.inl (by decide +kernel)
theorem vis_law__law_yours : Vis (defScope s_law) "_law_yours" := Or.inl (by decide +kernel)
/-! ### the readings of loops and comprehensions, folded -/
abbrev ForW (J : It) (g : TG) (tb : TS) (D : Ends) (σ : St) (H : Hp) : Prop := ∃ W : Nat → Nat → St → Hp → Prop, (∃ m, W 0 m σ H) ∧ ∀ i m σ H, W i m σ H →
  (J.stop i H ∧ D.nx σ H) ∨ (J.go i H ∧ ∃ N : St → Hp → Prop, (∀ σ' H', N σ' H' → ∃ m', m' < m ∧ W (i + 1) m' σ' H') ∧ ∀ x H', J.yld i H x H' → g x σ H' fun σ2 H2 => tb { D with nx := N, ct := N, bk := D.nx } σ2 H2)
theorem tFor_tup {K : PySem.W.Frag} {tl : TE} {g : TG} {tb : TS} {D : Ends} {σ : St} {H : Hp} : tFor (iTup K tl) g tb D σ H = tl σ H fun x H1 => ∃ a, x = .ref a ∧ (∃ xs, SqT K H1 a xs) ∧ ForW (Itt K a) g tb D σ H1 := rfl
theorem tFor_list {K : PySem.W.Frag} {tl : TE} {g : TG} {tb : TS} {D : Ends} {σ : St} {H : Hp} : tFor (iList K tl) g tb D σ H = tl σ H fun x H1 => ∃ a, x = .ref a ∧ (∃ xs, SqL K H1 a xs) ∧ ForW (Itl K a) g tb D σ H1 := rfl
theorem tFor_rng1 {ta : TA} {g : TG} {tb : TS} {D : Ends} {σ : St} {H : Hp} : tFor (iRng1 ta) g tb D σ H = ta σ H fun vs H1 => ∃ j : Int, vs = [.int j] ∧ -(2 ^ 62) ≤ j ∧ j < 2 ^ 62 ∧ ForW (Itr 0 j.toNat) g tb D σ H1 := rfl
theorem tComp_tup {K : PySem.W.Frag} {tl : TE} {g : TG} {tt : TT} {te : TE} {mp : List (Option Nat)} {σ : St} {H : Hp} {Q : VK} : tComp (iTup K tl) g tt te mp σ H Q = tl σ H fun x H1 => ∃ a, x = .ref a ∧ (∃ xs, SqT K H1 a xs) ∧ CompW (Itt K a) g tt te Q (subσ mp σ) H1 := rfl
theorem tComp_list {K : PySem.W.Frag} {tl : TE} {g : TG} {tt : TT} {te : TE} {mp : List (Option Nat)} {σ : St} {H : Hp} {Q : VK} : tComp (iList K tl) g tt te mp σ H Q = tl σ H fun x H1 => ∃ a, x = .ref a ∧ (∃ xs, SqL K H1 a xs) ∧ CompW (Itl K a) g tt te Q (subσ mp σ) H1 := rfl
theorem tComp_str {tl : TE} {g : TG} {tt : TT} {te : TE} {mp : List (Option Nat)} {σ : St} {H : Hp} {Q : VK} : tComp (iStr tl) g tt te mp σ H Q = tl σ H fun x H1 => ∃ z, x = .str z ∧ CompW (Its z) g tt te Q (subσ mp σ) H1 := rfl
/-! ### programs as data -/
inductive Wd where
  | add | sub | mul | quo | less | same | min | max
  deriving DecidableEq
def Wd.str : Wd → Str
  | .add => "add" | .sub => "sub" | .mul => "mul" | .quo => "quo" | .less => "less" | .same => "same" | .min => "min" | .max => "max"
inductive T where
  | num (i : Int) | nm (x : Str) | op (w : Wd) (a b : T)
def T.enc : T → Dm
  | .num i => .tup [.str "num", .int i]
  | .nm x => .tup [.str "name", .str x]
  | .op w a b => .tup [.str w.str, a.enc, b.enc]
/-- so deep at most, of these names, its numbers in the wide room -/
def T.ok (g : List Str) : Nat → T → Prop
  | 0, _ => False
  | _ + 1, .num i => -32768 ≤ i ∧ i ≤ 32767
  | _ + 1, .nm x => x ∈ g
  | n + 1, .op _ a b => T.ok g n a ∧ T.ok g n b
theorem T.ok.mono {g g' : List Str} (hg : ∀ x ∈ g, x ∈ g') : ∀ {n m : Nat} {t : T}, T.ok g n t → n ≤ m → T.ok g' m t
  | 0, _, _, h, _ => h.elim
  | n + 1, 0, _, _, h => absurd h (by omega)
  | n + 1, m + 1, .num i, h, _ => h
  | n + 1, m + 1, .nm x, h, _ => hg x h
  | n + 1, m + 1, .op w a b, h, hm => ⟨T.ok.mono hg h.1 (by omega), T.ok.mono hg h.2 (by omega)⟩
inductive D where
  | set (x : Str) (t : T) | ite (t : T) (b c : List D) | whl (t : T) (m : Int) (b : List D)
mutual
def D.enc : D → Dm
  | .set x t => .tup [.str "set", .str x, t.enc]
  | .ite t b c => .tup [.str "if", t.enc, .tup (encB b), .tup (encB c)]
  | .whl t m b => .tup [.str "while", t.enc, .int m, .tup (encB b)]
def encB : List D → List Dm
  | [] => []
  | d :: r => d.enc :: encB r
end
def pool : List Str := ["a", "b", "c", "dd"]
/-- blocks so deep at most -/
def okB : Nat → List D → Prop
  | 0, _ => False
  | n + 1, b => b.length ≤ 6 ∧ ∀ d ∈ b, match d with
    | .set x t => x ∈ pool ∧ t.ok pool 5
    | .ite t b c => t.ok pool 5 ∧ okB n b ∧ okB n c
    | .whl t m b => t.ok pool 5 ∧ 0 ≤ m ∧ m ≤ 20 ∧ okB n b
abbrev okD (n : Nat) (d : D) : Prop := match d with
  | .set x t => x ∈ pool ∧ t.ok pool 5
  | .ite t b c => t.ok pool 5 ∧ okB n b ∧ okB n c
  | .whl t m b => t.ok pool 5 ∧ 0 ≤ m ∧ m ≤ 20 ∧ okB n b
/-! what is known, as the program tells it -/
def T.knows (p : List Str) : T → Bool
  | .num _ => true
  | .nm x => p.contains x
  | .op _ a b => a.knows p && b.knows p
mutual
def kbD (p : List Str) : D → Option (List Str)
  | .set x t => if t.knows p then some (p ++ [x]) else none
  | .ite t b c => if t.knows p then (match kbB p b, kbB p c with | some q, some r => some (q.filter fun x => r.contains x) | _, _ => none) else none
  | .whl t _ b => if t.knows p then (match kbB p b with | some _ => some p | none => none) else none
def kbB (p : List Str) : List D → Option (List Str)
  | [] => some p
  | d :: r => match kbD p d with
    | some q => kbB q r
    | none => none
end
theorem kbB_append (p : List Str) : ∀ (b c : List D), kbB p (b ++ c) = match kbB p b with | some q => kbB q c | none => none
  | [], c => by simp [kbB]
  | d :: b, c => by
    rw [List.cons_append, kbB, kbB]
    cases kbD p d with
    | none => rfl
    | some q => exact kbB_append q b c
def Sub (g p : List Str) : Prop := ∀ x ∈ g, x ∈ p
theorem Sub.refl (g : List Str) : Sub g g := fun _ h => h
theorem Sub.trans {a b c : List Str} (h : Sub a b) (k : Sub b c) : Sub a c := fun x hx => k x (h x hx)
theorem T.ok.knows {g p : List Str} (hg : Sub g p) : ∀ {n : Nat} {t : T}, T.ok g n t → t.knows p = true
  | 0, _, h => h.elim
  | n + 1, .num i, _ => rfl
  | n + 1, .nm x, h => by simpa [T.knows] using hg x h
  | n + 1, .op w a b, h => by simp [T.knows, T.ok.knows hg h.1, T.ok.knows hg h.2]
/-- with g known ahead, a block is gone through, and g' is known behind -/
def Knows (g : List Str) (b : List D) (g' : List Str) : Prop := ∀ p, Sub g p → ∃ q, kbB p b = some q ∧ Sub g' q ∧ Sub p q
def KnowsD (g : List Str) (d : D) (g' : List Str) : Prop := ∀ p, Sub g p → ∃ q, kbD p d = some q ∧ Sub g' q ∧ Sub p q
theorem Knows.nil (g : List Str) : Knows g [] g := fun p h => ⟨p, by simp [kbB], h, Sub.refl p⟩
theorem Knows.snoc {g g1 g2 : List Str} {b : List D} {d : D} (h : Knows g b g1) (k : KnowsD g1 d g2) : Knows g (b ++ [d]) g2 := fun p hp => by
  obtain ⟨q, e, s1, s2⟩ := h p hp
  obtain ⟨r, e2, s3, s4⟩ := k q s1
  refine ⟨r, ?_, s3, s2.trans s4⟩
  rw [kbB_append, e]
  simp [kbB, e2]
theorem KnowsD.set {g g' : List Str} {x : Str} {t : T} {n : Nat} (ht : t.ok g n) (hs : ∀ y ∈ g', y ∈ g ∨ y = x) : KnowsD g (.set x t) g' := fun p hp => by
  refine ⟨p ++ [x], by simp [kbD, ht.knows hp], fun y hy => ?_, fun y hy => List.mem_append_left _ hy⟩
  rcases hs y hy with z | z
  · exact List.mem_append_left _ (hp y z)
  · exact List.mem_append_right _ (by simp [z])
theorem KnowsD.ite {g m y g' : List Str} {t : T} {b c : List D} {n : Nat} (ht : t.ok g n) (hb : Knows g b m) (hc : Knows g c y) (hs : ∀ x ∈ g', x ∈ m ∧ x ∈ y) : KnowsD g (.ite t b c) g' := fun p hp => by
  obtain ⟨q, e, s1, s2⟩ := hb p hp
  obtain ⟨r, e2, s3, s4⟩ := hc p hp
  refine ⟨q.filter fun x => r.contains x, by simp [kbD, ht.knows hp, e, e2], fun x hx => ?_, fun x hx => ?_⟩
  · exact List.mem_filter.mpr ⟨s1 x (hs x hx).1, by simpa using s3 x (hs x hx).2⟩
  · exact List.mem_filter.mpr ⟨s2 x hx, by simpa using s4 x hx⟩
theorem KnowsD.whl {g g1 : List Str} {t : T} {m : Int} {b : List D} {n : Nat} (ht : t.ok g n) (hb : Knows g b g1) : KnowsD g (.whl t m b) g := fun p hp => by
  obtain ⟨q, e, s1, s2⟩ := hb p hp
  exact ⟨p, by simp [kbD, ht.knows hp, e], hp, Sub.refl p⟩
theorem Knows.sub {g g1 : List Str} {b : List D} (h : Knows g b g1) : Knows g b g := fun p hp => by
  obtain ⟨q, e, s1, s2⟩ := h p hp
  exact ⟨q, e, hp.trans s2, s2⟩
/-! ### small facts for the readings -/
theorem atI_lt {xs : List V} {k : Int} (h0 : 0 ≤ k) (h : k < (xs.length : Int)) : ∃ v, xs[k.toNat]? = some v ∧ atI xs k = some v := by
  have hk : k.toNat < xs.length := by omega
  have ek : k = ((k.toNat : Nat) : Int) := by omega
  refine ⟨xs[k.toNat], List.getElem?_eq_getElem hk, ?_⟩
  have q : atI xs ((k.toNat : Nat) : Int) = some xs[k.toNat] := atI_nat (List.getElem?_eq_getElem hk)
  rw [← ek] at q
  exact q
theorem atI_map {α : Type} {c : α → V} {ns : List α} {k : Int} (h0 : 0 ≤ k) (h : k < (ns.length : Int)) : ∃ v ∈ ns, atI (ns.map c) k = some (c v) := by
  obtain ⟨v, e1, e2⟩ := atI_lt (xs := ns.map c) h0 (by rw [List.length_map]; exact h)
  rw [List.getElem?_map] at e1
  cases e : ns[k.toNat]? with
  | none => rw [e] at e1; cases e1
  | some i => rw [e] at e1; cases e1; exact ⟨i, List.mem_of_getElem? e, e2⟩
theorem okInts (ns : List Int) : (ns.map V.int).all okV = true := by simp [okV]
theorem zl (n : Nat) (h : n ≤ 1000) : n ≤ sizeLine := Nat.le_of_lt (small1000 h)
theorem lenL {K : PySem.W.Frag} {H : Hp} {a : Addr} {xs : List V} (h : SqL K H a xs) : LenOf K (.ref a) H xs.length := .inl ⟨a, xs, rfl, .inl h, rfl⟩
theorem eqNil {K : PySem.W.Frag} {H : Hp} {a p : Addr} {xs : List V} (h : SqL K H a xs) (ho : xs.all okV = true) (hp : SqL K H p []) : EqOf K (.ref a) (.ref p) H xs.isEmpty := .inr (.inl ⟨a, p, xs, [], rfl, rfl, h, hp, ho, rfl, (eqL_nil xs).symm⟩)
/-! ### words and stretches, as numbers -/
def Wd.worth : Wd → Int → Int → Int
  | .add, a, b => a + b
  | .sub, a, b => a - b
  | .mul, a, b => a * b
  | .quo, a, b => a.fdiv b
  | .less, a, b => if a < b then 1 else 0
  | .same, a, b => if a = b then 1 else 0
  | .min, a, b => if b < a then b else a
  | .max, a, b => if b > a then b else a
def Btw (l v h : Int) : Prop := (l ≤ v ∧ v ≤ h) ∨ (h ≤ v ∧ v ≤ l)
theorem fdiv_neg' (x y : Int) (hy : y < 0) : x.fdiv y = (-x) / (-y) := by
  rw [← Int.neg_fdiv_neg, Int.fdiv_eq_ediv_of_nonneg _ (by omega)]
theorem ediv_mono_r {x y z : Int} (hy : 0 < y) (h : y ≤ z) : (0 ≤ x → x / z ≤ x / y) ∧ (x < 0 → x / y ≤ x / z) := by
  have hz : 0 < z := by omega
  constructor
  · intro hx
    rw [Int.le_ediv_iff_mul_le hy]
    have h0 : 0 ≤ x / z := Int.ediv_nonneg hx (by omega)
    have h1 : x / z * y ≤ x / z * z := Int.mul_le_mul_of_nonneg_left h h0
    have h2 : x / z * z ≤ x := Int.ediv_mul_le x (by omega)
    omega
  · intro hx
    rw [Int.le_ediv_iff_mul_le hz]
    have h0 : x / y < 0 := Int.ediv_neg_of_neg_of_pos hx hy
    have h1 : x / y * z ≤ x / y * y := by
      have := Int.mul_le_mul_of_nonneg_left h (show 0 ≤ -(x / y) by omega)
      rw [Int.neg_mul, Int.neg_mul] at this
      omega
    have h2 : x / y * y ≤ x := Int.ediv_mul_le x (by omega)
    omega
/-- no 0 in what is divided by -/
def Sgn (w : Wd) (c d : Int) : Prop := w = .quo → (0 < c ∨ d < 0)
theorem btw1 {w : Wd} (hs : w ≠ .same) {a b x c d y : Int} (h1 : a ≤ x) (h2 : x ≤ b) (h3 : c ≤ y) (h4 : y ≤ d) (hq : Sgn w c d) : Btw (w.worth a y) (w.worth x y) (w.worth b y) := by
  cases w <;> simp only [Wd.worth, Btw]
  · omega
  · omega
  · rcases Int.le_total 0 y with h | h
    · exact .inl ⟨Int.mul_le_mul_of_nonneg_right h1 h, Int.mul_le_mul_of_nonneg_right h2 h⟩
    · exact .inr ⟨Int.mul_le_mul_of_nonpos_right h2 h, Int.mul_le_mul_of_nonpos_right h1 h⟩
  · rcases hq rfl with h | h
    · have hy : 0 < y := by omega
      rw [Int.fdiv_eq_ediv_of_nonneg _ (by omega), Int.fdiv_eq_ediv_of_nonneg _ (by omega), Int.fdiv_eq_ediv_of_nonneg _ (by omega)]
      exact .inl ⟨Int.ediv_le_ediv hy h1, Int.ediv_le_ediv hy h2⟩
    · have hy : y < 0 := by omega
      rw [fdiv_neg' _ _ hy, fdiv_neg' _ _ hy, fdiv_neg' _ _ hy]
      exact .inr ⟨Int.ediv_le_ediv (by omega) (by omega), Int.ediv_le_ediv (by omega) (by omega)⟩
  · right; constructor <;> (repeat' split) <;> omega
  · exact absurd rfl hs
  · left; constructor <;> (repeat' split) <;> omega
  · left; constructor <;> (repeat' split) <;> omega
theorem btw2 {w : Wd} (hs : w ≠ .same) {x c d y : Int} (h3 : c ≤ y) (h4 : y ≤ d) (hq : Sgn w c d) : Btw (w.worth x c) (w.worth x y) (w.worth x d) := by
  cases w <;> simp only [Wd.worth, Btw]
  · omega
  · omega
  · rcases Int.le_total 0 x with h | h
    · exact .inl ⟨Int.mul_le_mul_of_nonneg_left h3 h, Int.mul_le_mul_of_nonneg_left h4 h⟩
    · exact .inr ⟨Int.mul_le_mul_of_nonpos_left h h4, Int.mul_le_mul_of_nonpos_left h h3⟩
  · rcases hq rfl with h | h
    · rw [Int.fdiv_eq_ediv_of_nonneg _ (by omega), Int.fdiv_eq_ediv_of_nonneg _ (by omega), Int.fdiv_eq_ediv_of_nonneg _ (by omega)]
      rcases (show x < 0 ∨ 0 ≤ x by omega) with hx | hx
      · exact .inl ⟨(ediv_mono_r (by omega) h3).2 hx, (ediv_mono_r (by omega) h4).2 hx⟩
      · exact .inr ⟨(ediv_mono_r (by omega) h4).1 hx, (ediv_mono_r (by omega) h3).1 hx⟩
    · rw [fdiv_neg' _ _ (by omega), fdiv_neg' _ _ (by omega), fdiv_neg' _ _ (by omega)]
      rcases (show -x < 0 ∨ 0 ≤ -x by omega) with hx | hx
      · exact .inr ⟨(ediv_mono_r (by omega) (by omega)).2 hx, (ediv_mono_r (by omega) (by omega)).2 hx⟩
      · exact .inl ⟨(ediv_mono_r (by omega) (by omega)).1 hx, (ediv_mono_r (by omega) (by omega)).1 hx⟩
  · left; constructor <;> (repeat' split) <;> omega
  · exact absurd rfl hs
  · left; constructor <;> (repeat' split) <;> omega
  · left; constructor <;> (repeat' split) <;> omega
/-- a stretch: none, or from low to high -/
abbrev S := Option (Int × Int)
/-- what the word comes to for worths of two stretches -/
def Val (w : Wd) (a b c d v : Int) : Prop := ∃ x y, a ≤ x ∧ x ≤ b ∧ c ≤ y ∧ y ≤ d ∧ (w = .quo → y ≠ 0) ∧ v = w.worth x y
/-- .. at ends -/
def ValE (w : Wd) (a b c d v : Int) : Prop := ∃ x y, (x = a ∨ x = b) ∧ (y = c ∨ y = d ∨ y = -1 ∨ y = 1) ∧ a ≤ x ∧ x ≤ b ∧ c ≤ y ∧ y ≤ d ∧ (w = .quo → y ≠ 0) ∧ v = w.worth x y
/-- the least stretch of these -/
def IsS (w : Wd) (a b c d : Int) (r : S) : Prop := match r with
  | none => ∀ v, ¬ Val w a b c d v
  | some (lo, hi) => Val w a b c d lo ∧ Val w a b c d hi ∧ (∀ v, Val w a b c d v → lo ≤ v ∧ v ≤ hi) ∧ (w ≠ .same → ValE w a b c d lo ∧ ValE w a b c d hi)
theorem ValE.val {w : Wd} {a b c d v : Int} (h : ValE w a b c d v) : Val w a b c d v := by
  obtain ⟨x, y, _, _, h1, h2, h3, h4, h5, h6⟩ := h
  exact ⟨x, y, h1, h2, h3, h4, h5, h6⟩
theorem Val.mono {w : Wd} {a b c d a' b' c' d' v : Int} (h : Val w a b c d v) (h1 : a' ≤ a) (h2 : b ≤ b') (h3 : c' ≤ c) (h4 : d ≤ d') : Val w a' b' c' d' v := by
  obtain ⟨x, y, k1, k2, k3, k4, k5, k6⟩ := h
  exact ⟨x, y, by omega, by omega, by omega, by omega, k5, k6⟩
/-- the least and the greatest of some -/
structure Hull (ns : List Int) (lo hi : Int) : Prop where
  l : lo ∈ ns
  h : hi ∈ ns
  all : ∀ a ∈ ns, lo ≤ a ∧ a ≤ hi
def corners (w : Wd) (a b c d : Int) : List Int := [w.worth a c, w.worth b c, w.worth a d, w.worth b d]
theorem ends_all {w : Wd} (hs : w ≠ .same) {a b c d lo hi : Int} (hcd : c ≤ d) (hq : Sgn w c d) (h : Hull (corners w a b c d) lo hi) {v : Int} (hv : Val w a b c d v) : lo ≤ v ∧ v ≤ hi := by
  obtain ⟨x, y, h1, h2, h3, h4, _, rfl⟩ := hv
  have k1 := h.all (w.worth a c) (by simp [corners])
  have k2 := h.all (w.worth b c) (by simp [corners])
  have k3 := h.all (w.worth a d) (by simp [corners])
  have k4 := h.all (w.worth b d) (by simp [corners])
  have e := btw1 hs h1 h2 h3 h4 hq
  have ea := btw2 hs (x := a) h3 h4 hq
  have eb := btw2 hs (x := b) h3 h4 hq
  simp only [Btw] at e ea eb
  omega
theorem corner_val {w : Wd} {a b c d v : Int} (hab : a ≤ b) (hcd : c ≤ d) (hq : Sgn w c d) (h : v ∈ corners w a b c d) : ValE w a b c d v := by
  have hc : w = .quo → c ≠ 0 := fun e => by rcases hq e with z | z <;> omega
  have hd : w = .quo → d ≠ 0 := fun e => by rcases hq e with z | z <;> omega
  simp only [corners, List.mem_cons, List.not_mem_nil, or_false] at h
  rcases h with rfl | rfl | rfl | rfl
  · exact ⟨a, c, .inl rfl, .inl rfl, Int.le_refl _, hab, Int.le_refl _, hcd, hc, rfl⟩
  · exact ⟨b, c, .inr rfl, .inl rfl, hab, Int.le_refl _, Int.le_refl _, hcd, hc, rfl⟩
  · exact ⟨a, d, .inl rfl, .inr (.inl rfl), Int.le_refl _, hab, hcd, Int.le_refl _, hd, rfl⟩
  · exact ⟨b, d, .inr rfl, .inr (.inl rfl), hab, Int.le_refl _, hcd, Int.le_refl _, hd, rfl⟩
theorem ends_isS {w : Wd} (hs : w ≠ .same) {a b c d lo hi : Int} (hab : a ≤ b) (hcd : c ≤ d) (hq : Sgn w c d) (h : Hull (corners w a b c d) lo hi) : IsS w a b c d (some (lo, hi)) :=
  ⟨(corner_val hab hcd hq h.l).val, (corner_val hab hcd hq h.h).val, fun _ hv => ends_all hs hcd hq h hv, fun _ => ⟨corner_val hab hcd hq h.l, corner_val hab hcd hq h.h⟩⟩
def bet (l h : Int) : S := if l > h then none else some (l, h)
def mn (i j : Int) : Int := if j < i then j else i
def mx (i j : Int) : Int := if j > i then j else i
def join : S → S → S
  | none, y => y
  | x, none => x
  | some (a, b), some (c, d) => some (mn a c, mx b d)
def meet : S → S → S
  | none, _ => none
  | _, none => none
  | some (a, b), some (c, d) => bet (mx a c) (mn b d)
def within (x y : S) : Bool := decide (meet x y = x)
/-- the stretch by ends, of a part of what is divided by -/
def IsE (w : Wd) (a b : Int) (o r : S) : Prop := match o with
  | none => r = none
  | some (c, d) => ∃ lo hi, r = some (lo, hi) ∧ Hull (corners w a b c d) lo hi
theorem quo_isS {a b c d : Int} (hab : a ≤ b) (hcd : c ≤ d) {r1 r2 : S} (h1 : IsE .quo a b (bet c (mn d (-1))) r1) (h2 : IsE .quo a b (bet (mx c 1) d) r2) : IsS .quo a b c d (join r1 r2) := by
  have hmn : mn d (-1) ≤ d ∧ mn d (-1) ≤ -1 ∧ (mn d (-1) = d ∨ mn d (-1) = -1) := by unfold mn; split <;> omega
  have hmx : c ≤ mx c 1 ∧ 1 ≤ mx c 1 ∧ (mx c 1 = c ∨ mx c 1 = 1) := by unfold mx; split <;> omega
  have split : ∀ v, Val .quo a b c d v → Val .quo a b c (mn d (-1)) v ∨ Val .quo a b (mx c 1) d v := by
    rintro v ⟨x, y, k1, k2, k3, k4, k5, k6⟩
    have := k5 rfl
    rcases Int.lt_or_gt_of_ne this with z | z
    · exact .inl ⟨x, y, k1, k2, k3, by unfold mn; split <;> omega, k5, k6⟩
    · exact .inr ⟨x, y, k1, k2, by unfold mx; split <;> omega, k4, k5, k6⟩
  have e1 : ∀ v, Val .quo a b c (mn d (-1)) v → Val .quo a b c d v := fun v h => h.mono (Int.le_refl _) (Int.le_refl _) (Int.le_refl _) hmn.1
  have e2 : ∀ v, Val .quo a b (mx c 1) d v → Val .quo a b c d v := fun v h => h.mono (Int.le_refl _) (Int.le_refl _) hmx.1 (Int.le_refl _)
  have f1 : ∀ v, ValE .quo a b c (mn d (-1)) v → ValE .quo a b c d v := by
    rintro v ⟨x, y, k1, k2, k3, k4, k5, k6, k7⟩
    exact ⟨x, y, k1, by omega, k3, k4, k5, by omega, k7⟩
  have f2 : ∀ v, ValE .quo a b (mx c 1) d v → ValE .quo a b c d v := by
    rintro v ⟨x, y, k1, k2, k3, k4, k5, k6, k7⟩
    exact ⟨x, y, k1, by omega, k3, k4, by omega, k6, k7⟩
  have g1 : ∀ v, c > mn d (-1) → ¬ Val .quo a b c (mn d (-1)) v := by
    rintro v h ⟨x, y, k1, k2, k3, k4, _⟩; omega
  have g2 : ∀ v, mx c 1 > d → ¬ Val .quo a b (mx c 1) d v := by
    rintro v h ⟨x, y, k1, k2, k3, k4, _⟩; omega
  by_cases q1 : c > mn d (-1)
  · rw [show bet c (mn d (-1)) = none from if_pos q1] at h1
    have hr1 : r1 = none := h1
    subst hr1
    by_cases q2 : mx c 1 > d
    · rw [show bet (mx c 1) d = none from if_pos q2] at h2
      have hr2 : r2 = none := h2
      subst hr2
      intro v hv
      rcases split v hv with z | z
      · exact g1 v q1 z
      · exact g2 v q2 z
    · rw [show bet (mx c 1) d = some (mx c 1, d) from if_neg q2] at h2
      obtain ⟨lo, hi, rfl, hh⟩ := h2
      have I := ends_isS (w := .quo) (fun z => nomatch z) hab (by omega) (fun _ => .inl (by omega)) hh
      refine ⟨e2 _ I.1, e2 _ I.2.1, fun v hv => ?_, fun n => ⟨f2 _ (I.2.2.2 n).1, f2 _ (I.2.2.2 n).2⟩⟩
      rcases split v hv with z | z
      · exact absurd z (g1 v q1)
      · exact I.2.2.1 v z
  · rw [show bet c (mn d (-1)) = some (c, mn d (-1)) from if_neg q1] at h1
    obtain ⟨lo, hi, rfl, hh⟩ := h1
    have I := ends_isS (w := .quo) (fun z => nomatch z) hab (by omega) (fun _ => .inr (by omega)) hh
    by_cases q2 : mx c 1 > d
    · rw [show bet (mx c 1) d = none from if_pos q2] at h2
      have hr2 : r2 = none := h2
      subst hr2
      refine ⟨e1 _ I.1, e1 _ I.2.1, fun v hv => ?_, fun n => ⟨f1 _ (I.2.2.2 n).1, f1 _ (I.2.2.2 n).2⟩⟩
      rcases split v hv with z | z
      · exact I.2.2.1 v z
      · exact absurd z (g2 v q2)
    · rw [show bet (mx c 1) d = some (mx c 1, d) from if_neg q2] at h2
      obtain ⟨lo', hi', rfl, hh'⟩ := h2
      have J := ends_isS (w := .quo) (fun z => nomatch z) hab (by omega) (fun _ => .inl (by omega)) hh'
      have p1 : mn lo lo' = lo ∨ mn lo lo' = lo' := by unfold mn; split <;> omega
      have p2 : mx hi hi' = hi ∨ mx hi hi' = hi' := by unfold mx; split <;> omega
      have p3 : mn lo lo' ≤ lo ∧ mn lo lo' ≤ lo' := by unfold mn; split <;> omega
      have p4 : hi ≤ mx hi hi' ∧ hi' ≤ mx hi hi' := by unfold mx; split <;> omega
      refine ⟨?_, ?_, fun v hv => ?_, fun n => ⟨?_, ?_⟩⟩
      · rcases p1 with z | z <;> rw [z]
        · exact e1 _ I.1
        · exact e2 _ J.1
      · rcases p2 with z | z <;> rw [z]
        · exact e1 _ I.2.1
        · exact e2 _ J.2.1
      · rcases split v hv with z | z
        · have := I.2.2.1 v z; omega
        · have := J.2.2.1 v z; omega
      · rcases p1 with z | z <;> rw [z]
        · exact f1 _ (I.2.2.2 n).1
        · exact f2 _ (J.2.2.2 n).1
      · rcases p2 with z | z <;> rw [z]
        · exact f1 _ (I.2.2.2 n).2
        · exact f2 _ (J.2.2.2 n).2
theorem same_isS {a b c d : Int} (hab : a ≤ b) (hcd : c ≤ d) : IsS .same a b c d (some (if (a = c ∧ b = d) ∧ a = b then 1 else 0, if meet (some (a, b)) (some (c, d)) ≠ none then 1 else 0)) := by
  have hm : (meet (some (a, b)) (some (c, d)) ≠ none) ↔ (a ≤ d ∧ c ≤ b) := by
    show bet (mx a c) (mn b d) ≠ none ↔ _
    unfold bet mx mn
    constructor
    · intro h
      by_cases q : (if c > a then c else a) > (if d < b then d else b)
      · rw [if_pos q] at h; exact absurd rfl h
      · revert q; (repeat' split) <;> omega
    · intro h
      rw [if_neg]
      · exact fun z => nomatch z
      · (repeat' split) <;> omega
  refine ⟨?_, ?_, ?_, fun n => absurd rfl n⟩
  · by_cases q : (a = c ∧ b = d) ∧ a = b
    · rw [if_pos q]
      exact ⟨a, c, Int.le_refl _, hab, Int.le_refl _, hcd, (fun z => nomatch z), by simp only [Wd.worth]; rw [if_pos q.1.1]⟩
    · rw [if_neg q]
      by_cases k : a = c
      · by_cases k2 : b = d
        · exact ⟨a, d, Int.le_refl _, hab, hcd, Int.le_refl _, (fun z => nomatch z), by simp only [Wd.worth]; rw [if_neg]; omega⟩
        · by_cases k3 : a = b
          · exact ⟨a, d, Int.le_refl _, hab, hcd, Int.le_refl _, (fun z => nomatch z), by simp only [Wd.worth]; rw [if_neg]; omega⟩
          · exact ⟨b, c, hab, Int.le_refl _, Int.le_refl _, hcd, (fun z => nomatch z), by simp only [Wd.worth]; rw [if_neg]; omega⟩
      · exact ⟨a, c, Int.le_refl _, hab, Int.le_refl _, hcd, (fun z => nomatch z), by simp only [Wd.worth]; rw [if_neg k]⟩
  · by_cases q : meet (some (a, b)) (some (c, d)) ≠ none
    · rw [if_pos q]
      have q2 := hm.mp q
      by_cases k : a ≤ c
      · exact ⟨c, c, by omega, by omega, by omega, by omega, (fun z => nomatch z), by simp [Wd.worth]⟩
      · exact ⟨a, a, by omega, by omega, by omega, by omega, (fun z => nomatch z), by simp [Wd.worth]⟩
    · rw [if_neg q]
      refine ⟨a, c, by omega, by omega, by omega, by omega, (fun z => nomatch z), ?_⟩
      simp only [Wd.worth]
      rw [if_neg]
      intro k
      exact q (hm.mpr (by omega))
  · rintro v ⟨x, y, k1, k2, k3, k4, _, rfl⟩
    simp only [Wd.worth]
    by_cases q : (a = c ∧ b = d) ∧ a = b
    · have : x = y := by omega
      rw [if_pos q, if_pos this, if_pos (hm.mpr (by omega))]
      omega
    · rw [if_neg q]
      by_cases k : x = y
      · rw [if_pos k, if_pos (hm.mpr (by omega))]; omega
      · rw [if_neg k]; split <;> omega
/-! ### hulls of lists -/
def IsH (w : Wd) (a b c d : Int) (r : S) : Prop := match r with
  | none => ∀ v, ¬ Val w a b c d v
  | some (lo, hi) => Val w a b c d lo ∧ Val w a b c d hi ∧ ∀ v, Val w a b c d v → lo ≤ v ∧ v ≤ hi
/-- the stretch of a list's numbers -/
def HullS (ns : List Int) (r : S) : Prop := match r with
  | none => ns = []
  | some (lo, hi) => Hull ns lo hi
def rng (lo : Int) (n : Nat) : List Int := (List.range n).map fun (i : Nat) => lo + (i : Int)
def fitL (w : Wd) (ys : List Int) : List Int := ys.filter fun y => decide (w ≠ .quo) || decide (y ≠ 0)
def allW (w : Wd) (xs ys : List Int) : List Int := xs.flatMap fun x => (fitL w ys).map (w.worth x)
def inBoth (xs ys : List Int) : List Int := xs.filter fun x => ys.contains x
def inOne (xs ys : List Int) : List Int := xs.filter fun x => !ys.contains x
theorem cxOf_K (CX : CXT) (P : Program) (w : World) (K : PySem.W.Frag) (mg : Str → Option Value) (base : Heap) (N : List Str) (qual : Str) (scope : Scope) (f : Addr) (cd : Value) (A : Around) (outer : List Env) (s : Shared) (H : Hp) (E : XK) : (cxOf CX P w K mg base N qual scope f cd A outer s H E).K = K := rfl
theorem cxOf_nox_K (CX : CXT) (P : Program) (w : World) (K : PySem.W.Frag) (mg : Str → Option Value) (base : Heap) (N : List Str) (qual : Str) (scope : Scope) (f : Addr) (cd : Value) (A : Around) (outer : List Env) (s : Shared) (H : Hp) (E : XK) : (cxOf CX P w K mg base N qual scope f cd A outer s H E).nox.K = K := rfl
theorem cxComp_K (X : Cx) (N' : List Str) (scope : Scope) (cl : List (Str × Addr)) (C : Addr) (s₀ : Shared) (H₀ : Hp) (ex : List Addr) : (cxComp X N' scope cl C s₀ H₀ ex).K = X.K := rfl
theorem tFor_enum {K : PySem.W.Frag} {ta : TA} {g : TG} {tb : TS} {D : Ends} {σ : St} {H : Hp} : tFor (iEnum K ta) g tb D σ H = ta σ H fun vs H1 => ∃ a, vs = [.ref a] ∧ (∃ xs, SqL K H1 a xs) ∧ ForW (Ite K a) g tb D σ H1 := rfl
theorem tFor_zip {K : PySem.W.Frag} {ta : TA} {g : TG} {tb : TS} {D : Ends} {σ : St} {H : Hp} : tFor (iZip K ta) g tb D σ H = ta σ H fun vs H1 => ∃ a b, vs = [.ref a, .ref b] ∧ (∃ xs, SqL K H1 a xs) ∧ (∃ ys, SqL K H1 b ys) ∧ ForW (Itz K a b) g tb D σ H1 := rfl
theorem tFor_rng2 {ta : TA} {g : TG} {tb : TS} {D : Ends} {σ : St} {H : Hp} : tFor (iRng2 ta) g tb D σ H = ta σ H fun vs H1 => ∃ i j : Int, vs = [.int i, .int j] ∧ (-(2 ^ 62) ≤ i ∧ i < 2 ^ 62 ∧ -(2 ^ 62) ≤ j ∧ j < 2 ^ 62) ∧ ForW (Itr i (j - i).toNat) g tb D σ H1 := rfl
theorem tComp_seq {K : PySem.W.Frag} {tl : TE} {g : TG} {tt : TT} {te : TE} {mp : List (Option Nat)} {σ : St} {H : Hp} {Q : VK} : tComp (iSeq K tl) g tt te mp σ H Q = tl σ H fun x H1 => ∃ a, x = .ref a ∧ (((∃ xs, SqL K H1 a xs) ∧ CompW (Itl K a) g tt te Q (subσ mp σ) H1) ∨ ((∃ xs, SqT K H1 a xs) ∧ CompW (Itt K a) g tt te Q (subσ mp σ) H1)) := rfl
theorem cxOf_prog (CX : CXT) (P : Program) (w : World) (K : PySem.W.Frag) (mg : Str → Option Value) (base : Heap) (N : List Str) (qual : Str) (scope : Scope) (f : Addr) (cd : Value) (A : Around) (outer : List Env) (s : Shared) (H : Hp) (E : XK) : (cxOf CX P w K mg base N qual scope f cd A outer s H E).prog = P := rfl
theorem cxOf_w (CX : CXT) (P : Program) (w : World) (K : PySem.W.Frag) (mg : Str → Option Value) (base : Heap) (N : List Str) (qual : Str) (scope : Scope) (f : Addr) (cd : Value) (A : Around) (outer : List Env) (s : Shared) (H : Hp) (E : XK) : (cxOf CX P w K mg base N qual scope f cd A outer s H E).w = w := rfl
theorem cxOf_nox_prog (CX : CXT) (P : Program) (w : World) (K : PySem.W.Frag) (mg : Str → Option Value) (base : Heap) (N : List Str) (qual : Str) (scope : Scope) (f : Addr) (cd : Value) (A : Around) (outer : List Env) (s : Shared) (H : Hp) (E : XK) : (cxOf CX P w K mg base N qual scope f cd A outer s H E).nox.prog = P := rfl
theorem cxOf_nox_w (CX : CXT) (P : Program) (w : World) (K : PySem.W.Frag) (mg : Str → Option Value) (base : Heap) (N : List Str) (qual : Str) (scope : Scope) (f : Addr) (cd : Value) (A : Around) (outer : List Env) (s : Shared) (H : Hp) (E : XK) : (cxOf CX P w K mg base N qual scope f cd A outer s H E).nox.w = w := rfl
local macro_rules | `(tactic| walk_at "rd") => `(tactic| simp only [tSeq, tIfS, tTest, tOp, tVar, tC, tAsg, gName, gTup, gCons, gNil, tRet, tRetN, tDrop, tNext, tCB, tCons, tNil, tCall, tUn, rU, rI0, rI, tAnd, tOr, tNot, tB, tAndV, tOrV, tNotV, tIf, tIfT, tKGet, tChain, tDGet, tDGet1, sDPut, tDNewK, tDisp, tPairs, tCont, tSl, tNoPart, tPart, rSlT, tChain3, qSortS, qEqDL, qNeDL, tFor_enum, tFor_zip, tFor_rng2, tComp_seq, qSetI, qSortSet, cxOf_prog, cxOf_w, cxOf_nox_prog, cxOf_nox_w, tTup, tLst, tBM,
  qEq, qNe, qIn, qNotIn, qIsN, qNotN, qIsB, qNotB, qLen, qInst, qEqD, qNeD, qMinL, qMaxL, qSortI, rIx, rIxL, rIxT, rIxS, rCat, rCatT2, rRep, rRepT, rLeS, rLtS, rAppend, rExtend, tNever, tBreak, tYes,
  tFor_tup, tFor_list, tFor_rng1, tComp_tup, tComp_list, tComp_str, L2.start, cxOf_K, cxOf_nox_K, cxComp_K, List.map_cons, List.map_nil, List.length_cons, List.length_nil, List.replicate_succ, List.replicate_zero, Nat.reduceAdd, Nat.reduceSub, Nat.zero_add, Nat.add_zero, Nat.sub_zero, Nat.sub_self, Nat.add_sub_cancel,
  List.getElem?_cons_zero, List.getElem?_cons_succ, List.set_cons_zero, List.set_cons_succ, List.cons_append, List.nil_append, List.append_nil, List.cons.injEq, Option.some.injEq, V.int.injEq, V.ref.injEq, V.str.injEq, V.bl.injEq, V.ty.injEq,
  reduceCtorEq, false_and, and_false, and_true, true_and, exists_false, exists_const, false_or, or_false, exists_eq_left, exists_eq_left', exists_eq_right, exists_eq_right', exists_and_left, decide_eq_true_eq, Bool.not_eq_true', Bool.decide_eq_true, exists_eq, true_or, or_true, Bool.false_eq_true, if_true, if_false, Bool.true_eq_false, Bool.not_true, Bool.not_false, decide_true, decide_false, List.isEmpty_cons, List.isEmpty_nil, Bool.true_and, Bool.false_and, bne_self_eq_false, beq_self_eq_true])
section
variable {P : Program} {w : World} {K : PySem.W.Frag} {mg : Str → Option Value} {base : Heap} {f : Addr} {fd : FuncData}
def spCell (K : PySem.W.Frag) : Sp := fun vs H Q _ => ∃ (a : Addr) (ns : List Int) (k : Int), vs = [.ref a, .int k] ∧ SqL K H a (ns.map V.int) ∧ 0 ≤ k ∧ ∀ (i : Int) (H' : Hp), Same H H' → Q (.int i) H'
theorem ok_cell (F : Fun K "_law_cell" "_law_cell" s_law_cell f fd) (b_len : mg "len" = none) : FnOk P w K mg base CX0 1 f fd ["_law_script", "_law_k"] (spCell K) := by
  refine F.ok sc_law_cell (fun vs H Q E h => ?_) (fun cdv A outer s H vs Q E hr h => ?_)
  · obtain ⟨a, ns, k, rfl, _⟩ := h
    rfl
  obtain ⟨a, ns, k, rfl, hS, h0, q⟩ := h
  refine ⟨_, (pss_cons (ps_if (pt_cmpR op_lt (pe_var (i := 1) rfl vis_law_cell__law_k db__law_k cd__law_k) (pe_cB gLen gl_law_cell_len b_len bt_len (pa_c (pe_var (i := 0) rfl vis_law_cell__law_script db__law_script cd__law_script) pa_nil) nn_len db_len) (nomark _)) (pss_one (ps_ret (pe_ix ix_list (pe_var (i := 0) rfl vis_law_cell__law_script db__law_script cd__law_script) (pe_var (i := 1) rfl vis_law_cell__law_k db__law_k cd__law_k) (fun _ _ => rfl)))) pss_nil)
  (pss_cons (ps_if (pt_cmpR (gEq hr.units) (pe_var (i := 0) rfl vis_law_cell__law_script db__law_script cd__law_script) (pe_lst pa_nil) (nomark _)) (pss_one (ps_ret pe_int)) pss_nil)
  (pss_one (ps_ret (pe_op op_add (pe_op op_mul (pe_ix ix_list (pe_var (i := 0) rfl vis_law_cell__law_script db__law_script cd__law_script) (pe_op op_mod (pe_var (i := 1) rfl vis_law_cell__law_k db__law_k cd__law_k) (pe_cB gLen gl_law_cell_len b_len bt_len (pa_c (pe_var (i := 0) rfl vis_law_cell__law_script db__law_script cd__law_script) pa_nil) nn_len db_len)) (fun _ _ => rfl)) pe_int) (pe_var (i := 1) rfl vis_law_cell__law_k db__law_k cd__law_k)))))), ?_⟩
  walk_at "rd"
  refine ⟨_, lenL hS, ?_⟩
  rw [List.length_map]
  split
  · rename_i hk
    obtain ⟨i, _, e⟩ := atI_map (c := V.int) h0 hk
    exact ⟨_, hS, _, e, q i H (Same.refl _)⟩
  · refine ⟨Nat.zero_le _, fun p hp => ?_⟩
    have s1 := same_new hp (.lst [])
    refine ⟨_, eqNil (s1.seq hS) (okInts ns) (SqL.of upd_same), ?_⟩
    split
    · exact q 0 _ s1
    · rename_i hne
      have hl : 0 < (ns.length : Int) := by
        cases ns with
        | nil => exact absurd rfl hne
        | cons a r => simp only [List.length_cons]; omega
      obtain ⟨i, _, e⟩ := atI_map (c := V.int) (ns := ns) (k := k % (ns.length : Int)) (Int.emod_nonneg _ (by omega)) (Int.emod_lt_of_pos _ hl)
      exact ⟨_, lenL (s1.seq hS), by rw [List.length_map]; exact hl, _, s1.seq hS, _, by rw [List.length_map]; exact e, i, rfl, .inr ⟨by decide, by decide⟩, q _ _ s1⟩
def spPick (K : PySem.W.Frag) : Sp := fun vs H Q _ => ∃ (a : Addr) (ns : List Int) (k m : Int), vs = [.ref a, .int k, .int m] ∧ SqL K H a (ns.map V.int) ∧ 0 ≤ k ∧ 0 < m ∧ ∀ (i : Int) (H' : Hp), 0 ≤ i → i < m → Same H H' → Q (.int i) H'
theorem ok_pick (F : Fun K "_law_pick" "_law_pick" s_law_pick f fd) (c_law_cell : Callee P w K mg base "_law_cell" ["_law_script", "_law_k"] 1 (spCell K)) : FnOk P w K mg base CX0 2 f fd ["_law_script", "_law_k", "_law_many"] (spPick K) := by
  refine F.ok sc_law_pick (fun vs H Q E h => ?_) (fun cdv A outer s H vs Q E hr h => ?_)
  · obtain ⟨a, ns, k, m, rfl, _⟩ := h
    rfl
  obtain ⟨a, ns, k, m, rfl, hS, h0, hm, q⟩ := h
  refine ⟨_, (pss_cons (ps_set (i := 3) sc_law_pick.nd rfl loc_law_pick__law_drawn (pe_op op_mod (pe_op op_mul (pe_op op_add (pe_cc c_law_cell hr (by omega) (pa_c (pe_var (i := 0) rfl vis_law_pick__law_script db__law_script cd__law_script) (pa_c (pe_var (i := 1) rfl vis_law_pick__law_k db__law_k cd__law_k) pa_nil)) gl_law_pick__law_cell db__law_cell) (pe_op op_mul pe_int (pe_op op_add (pe_var (i := 1) rfl vis_law_pick__law_k db__law_k cd__law_k) pe_int))) pe_int) pe_int) (swaps_plain rfl))
  (pss_one (ps_ret (pe_op op_mod (pe_op op_mod (pe_op op_add (pe_op op_mul (pe_var (i := 3) rfl vis_law_pick__law_drawn db__law_drawn cd__law_drawn) (pe_var (i := 3) rfl vis_law_pick__law_drawn db__law_drawn cd__law_drawn)) (pe_op op_fdiv (pe_var (i := 3) rfl vis_law_pick__law_drawn db__law_drawn cd__law_drawn) pe_int)) pe_int) (pe_var (i := 2) rfl vis_law_pick__law_many db__law_many cd__law_many))))), ?_⟩
  walk_at "rd"
  refine ⟨a, ns, k, rfl, hS, h0, fun i H' s1 => ?_⟩
  walk_at "rd"
  refine ⟨.inl ⟨by decide, by decide⟩, .inr ⟨by decide, by decide⟩, by decide, ?_⟩
  have e1 : 0 ≤ (i + 6151 * (k + 1)) * 40692 % 2147483399 := Int.emod_nonneg _ (by decide)
  have e2 : (i + 6151 * (k + 1)) * 40692 % 2147483399 < 2147483399 := Int.emod_lt_of_pos _ (by decide)
  refine ⟨.inl ⟨by omega, by omega⟩, ⟨by decide, by decide⟩, by decide, hm, q _ _ (Int.emod_nonneg _ (by omega)) (Int.emod_lt_of_pos _ hm) s1⟩
/-- a def of the text, for the callers -/
structure Df (K : PySem.W.Frag) (mg : Str → Option Value) (x : Str) (st : Stmt) (ps : List Str) (f : Addr) (fd : FuncData) : Prop where
  F : Fun K x x st f fd
  m : mg x = some (.ref f)
  b : Binds K fd ps []
theorem Df.callee {x : Str} {st : Stmt} {ps : List Str} {k : Nat} {sp : Sp} (d : Df K mg x st ps f fd) (h : FnOk P w K mg base CX0 k f fd ps sp) : Callee P w K mg base x ps k sp := ⟨f, fd, h, d.m, d.F.kp, d.b⟩
theorem same_upd {H H' : Hp} {p : Addr} {o : HO} (s : Same H H') (h : H p = none) : Same H (upd H' p o) := fun b u q => by rw [upd_ne (ne_of_none q h)]; exact s b u q
end
end SR


set_option Elab.async false
set_option linter.all false
set_option maxRecDepth 100000
set_option maxHeartbeats 0
namespace SR
open PySem L2
local macro_rules | `(tactic| walk_at "rd") => `(tactic| simp only [tSeq, tIfS, tTest, tOp, tVar, tC, tAsg, gName, gTup, gCons, gNil, tRet, tRetN, tDrop, tNext, tCB, tCons, tNil, tCall, tUn, rU, rI0, rI, tAnd, tOr, tNot, tB, tAndV, tOrV, tNotV, tIf, tIfT, tKGet, tChain, tDGet, tDGet1, sDPut, tDNewK, tDisp, tPairs, tCont, tSl, tNoPart, tPart, rSlT, tChain3, qSortS, qEqDL, qNeDL, tFor_enum, tFor_zip, tFor_rng2, tComp_seq, qSetI, qSortSet, cxOf_prog, cxOf_w, cxOf_nox_prog, cxOf_nox_w, tTup, tLst, tBM,
  qEq, qNe, qIn, qNotIn, qIsN, qNotN, qIsB, qNotB, qLen, qInst, qEqD, qNeD, qMinL, qMaxL, qSortI, rIx, rIxL, rIxT, rIxS, rCat, rCatT2, rRep, rRepT, rLeS, rLtS, rAppend, rExtend, tNever, tBreak, tYes,
  tFor_tup, tFor_list, tFor_rng1, tComp_tup, tComp_list, tComp_str, L2.start, cxOf_K, cxOf_nox_K, cxComp_K, List.map_cons, List.map_nil, List.length_cons, List.length_nil, List.replicate_succ, List.replicate_zero, Nat.reduceAdd, Nat.reduceSub, Nat.zero_add, Nat.add_zero, Nat.sub_zero, Nat.sub_self, Nat.add_sub_cancel,
  List.getElem?_cons_zero, List.getElem?_cons_succ, List.set_cons_zero, List.set_cons_succ, List.cons_append, List.nil_append, List.append_nil, List.cons.injEq, Option.some.injEq, V.int.injEq, V.ref.injEq, V.str.injEq, V.bl.injEq, V.ty.injEq,
  reduceCtorEq, false_and, and_false, and_true, true_and, exists_false, exists_const, false_or, or_false, exists_eq_left, exists_eq_left', exists_eq_right, exists_eq_right', exists_and_left, decide_eq_true_eq, Bool.not_eq_true', Bool.decide_eq_true, exists_eq, true_or, or_true, Bool.false_eq_true, if_true, if_false, Bool.true_eq_false, Bool.not_true, Bool.not_false, decide_true, decide_false, List.isEmpty_cons, List.isEmpty_nil, Bool.true_and, Bool.false_and, bne_self_eq_false, beq_self_eq_true])
/-! ### the stretches' defs -/
section
variable {P : Program} {w : World} {K : PySem.W.Frag} {mg : Str → Option Value} {base : Heap} {f : Addr} {fd : FuncData}
def encS : S → Dm
  | none => .non
  | some (a, b) => .tup [.int a, .int b]
theorem encS_shut (s : S) : (encS s).shut = true ∧ SeqAt.shaped (encS s).dat = true := by
  match s with
  | none => exact ⟨rfl, rfl⟩
  | some (a, b) => exact ⟨rfl, rfl⟩
theorem encS_eqv (s t : S) : PyData.eqv (encS s).dat (encS t).dat = decide (s = t) := by
  match s, t with
  | none, none => rfl
  | none, some (c, d) => rfl
  | some (a, b), none => rfl
  | some (a, b), some (c, d) =>
    simp only [encS, Dm.dat, datA, PyData.eqv, PyData.eqvAll, Bool.and_true]
    rw [Bool.eq_iff_iff]
    simp
theorem eqS_of {H : Hp} {x y : V} {s t : S} (h : Dt H x (encS s)) (k : Dt H y (encS t)) : EqD H x y (decide (s = t)) :=
  ⟨_, _, h, k, encS_shut s, encS_shut t, (encS_eqv s t).symm⟩
theorem dtS {H : Hp} {x : V} {s : S} (h : Dt H x (encS s)) : (s = none ∧ x = .non) ∨ ∃ a b p, s = some (a, b) ∧ x = .ref p ∧ H p = some (.tup [.int a, .int b]) := by
  match s, h with
  | none, .non => exact .inl ⟨rfl, rfl⟩
  | some (a, b), .tup e r =>
    rcases r with _ | ⟨r1, _ | ⟨r2, _ | _⟩⟩
    cases r1; cases r2
    exact .inr ⟨a, b, _, rfl, rfl, e⟩
theorem dtS_mk {H : Hp} {p : Addr} {a b : Int} (h : H p = some (.tup [.int a, .int b])) : Dt H (.ref p) (encS (some (a, b))) := .tup h (.cons (.int a) (.cons (.int b) .nil))
theorem eqW {H : Hp} (w v : Wd) : EqOf K (.str w.str) (.str v.str) H (decide (w = v)) := .inl ⟨rfl, by cases w <;> cases v <;> decide +kernel⟩
def spWorth : Sp := fun vs H Q _ => ∃ (w : Wd) (a b : Int), vs = [.str w.str, .int a, .int b] ∧ (w = .quo → b ≠ 0) ∧ b.natAbs < 1073741824 ∧ Q (.int (w.worth a b)) H
theorem ok_worth_of (F : Fun K "worth_of" "worth_of" s_worth_of f fd) (b_min : mg "min" = none) (b_max : mg "max" = none) : FnOk P w K mg base CX0 1 f fd ["word", "one", "other"] spWorth := by
  refine F.ok sc_worth_of (fun vs H Q E h => ?_) (fun cdv A outer s H vs Q E hr h => ?_)
  · obtain ⟨w, a, b, rfl, _⟩ := h
    rfl
  obtain ⟨w, a, b, rfl, hq, hb, q⟩ := h
  refine ⟨_, (pss_cons (ps_if (pt_cmpR (gEq hr.units) (pe_var (i := 0) rfl vis_worth_of_word db_word cd_word) pe_str (nomark _)) (pss_one (ps_ret (pe_op op_add (pe_var (i := 1) rfl vis_worth_of_one db_one cd_one) (pe_var (i := 2) rfl vis_worth_of_other db_other cd_other)))) pss_nil)
  (pss_cons (ps_if (pt_cmpR (gEq hr.units) (pe_var (i := 0) rfl vis_worth_of_word db_word cd_word) pe_str (nomark _)) (pss_one (ps_ret (pe_op op_sub (pe_var (i := 1) rfl vis_worth_of_one db_one cd_one) (pe_var (i := 2) rfl vis_worth_of_other db_other cd_other)))) pss_nil)
  (pss_cons (ps_if (pt_cmpR (gEq hr.units) (pe_var (i := 0) rfl vis_worth_of_word db_word cd_word) pe_str (nomark _)) (pss_one (ps_ret (pe_op op_mul (pe_var (i := 1) rfl vis_worth_of_one db_one cd_one) (pe_var (i := 2) rfl vis_worth_of_other db_other cd_other)))) pss_nil)
  (pss_cons (ps_if (pt_cmpR (gEq hr.units) (pe_var (i := 0) rfl vis_worth_of_word db_word cd_word) pe_str (nomark _)) (pss_one (ps_ret (pe_op op_fdivN (pe_var (i := 1) rfl vis_worth_of_one db_one cd_one) (pe_var (i := 2) rfl vis_worth_of_other db_other cd_other)))) pss_nil)
  (pss_cons (ps_if (pt_cmpR (gEq hr.units) (pe_var (i := 0) rfl vis_worth_of_word db_word cd_word) pe_str (nomark _)) (pss_one (ps_ret (pe_ifExp (pt_cmpR op_lt (pe_var (i := 1) rfl vis_worth_of_one db_one cd_one) (pe_var (i := 2) rfl vis_worth_of_other db_other cd_other) (nomark _)) pe_int pe_int))) pss_nil)
  (pss_cons (ps_if (pt_cmpR (gEq hr.units) (pe_var (i := 0) rfl vis_worth_of_word db_word cd_word) pe_str (nomark _)) (pss_one (ps_ret (pe_ifExp (pt_cmpR op_eqI (pe_var (i := 1) rfl vis_worth_of_one db_one cd_one) (pe_var (i := 2) rfl vis_worth_of_other db_other cd_other) (nomark _)) pe_int pe_int))) pss_nil)
  (pss_cons (ps_if (pt_cmpR (gEq hr.units) (pe_var (i := 0) rfl vis_worth_of_word db_word cd_word) pe_str (nomark _)) (pss_one (ps_ret (pe_cB (call_min2 rfl) gl_worth_of_min b_min bt_min (pa_c (pe_var (i := 1) rfl vis_worth_of_one db_one cd_one) (pa_c (pe_var (i := 2) rfl vis_worth_of_other db_other cd_other) pa_nil)) nn_min db_min))) pss_nil)
  (pss_one (ps_ret (pe_cB (call_max2 rfl) gl_worth_of_max b_max bt_max (pa_c (pe_var (i := 1) rfl vis_worth_of_one db_one cd_one) (pa_c (pe_var (i := 2) rfl vis_worth_of_other db_other cd_other) pa_nil)) nn_max db_max)))))))))), ?_⟩
  walk_at "rd"
  have hm : CMul a b := .inr ⟨by omega, by omega⟩
  refine ⟨_, eqW w .add, ?_⟩
  split
  · rename_i e; cases of_decide_eq_true e; exact q
  rename_i n1
  refine ⟨_, eqW w .sub, ?_⟩
  split
  · rename_i e; cases of_decide_eq_true e; exact q
  rename_i n2
  refine ⟨_, eqW w .mul, ?_⟩
  split
  · rename_i e; cases of_decide_eq_true e; exact ⟨hm, q⟩
  rename_i n3
  refine ⟨_, eqW w .quo, ?_⟩
  split
  · rename_i e; cases of_decide_eq_true e; exact ⟨⟨hq rfl, hb⟩, q⟩
  rename_i n4
  refine ⟨_, eqW w .less, ?_⟩
  split
  · rename_i e; cases of_decide_eq_true e
    have q : Q (.int (if a < b then 1 else 0)) H := q
    split
    · rename_i c; rw [if_pos c] at q; exact q
    · rename_i c; rw [if_neg c] at q; exact q
  rename_i n5
  refine ⟨_, eqW w .same, ?_⟩
  split
  · rename_i e; cases of_decide_eq_true e
    have q : Q (.int (if a = b then 1 else 0)) H := q
    split
    · rename_i c; rw [if_pos c] at q; exact q
    · rename_i c; rw [if_neg c] at q; exact q
  rename_i n6
  refine ⟨_, eqW w .min, ?_⟩
  split
  · rename_i e; cases of_decide_eq_true e; exact ⟨_, _, ⟨rfl, rfl⟩, q⟩
  rename_i n7
  have e : w = .max := by
    cases w <;> first | rfl | exact absurd rfl (by assumption)
  cases e
  exact ⟨_, _, ⟨rfl, rfl⟩, q⟩
def spBetween : Sp := fun vs H Q _ => ∃ (l h : Int), vs = [.int l, .int h] ∧ ∀ (r : V) (H' : Hp), Same H H' → Dt H' r (encS (bet l h)) → Q r H'
theorem ok_between (F : Fun K "between" "between" s_between f fd) : FnOk P w K mg base CX0 1 f fd ["low", "high"] spBetween := by
  refine F.ok sc_between (fun vs H Q E h => ?_) (fun cdv A outer s H vs Q E hr h => ?_)
  · obtain ⟨l, h, rfl, _⟩ := h
    rfl
  obtain ⟨l, h, rfl, q⟩ := h
  refine ⟨_, (pss_cons (ps_if (pt_cmpR op_gt (pe_var (i := 0) rfl vis_between_low db_low cd_low) (pe_var (i := 1) rfl vis_between_high db_high cd_high) (nomark _)) (pss_one (ps_ret pe_non)) pss_nil)
  (pss_one (ps_ret (pe_tup (pa_c (pe_var (i := 0) rfl vis_between_low db_low cd_low) (pa_c (pe_var (i := 1) rfl vis_between_high db_high cd_high) pa_nil)))))), ?_⟩
  walk_at "rd"
  split
  · rename_i c
    rw [show bet l h = none from if_pos c] at q
    exact q _ _ (Same.refl _) .non
  · rename_i c
    rw [show bet l h = some (l, h) from if_neg c] at q
    exact ⟨zl 2 (by decide), fun p hp => q _ _ (same_new hp _) (dtS_mk upd_same)⟩
def spS2 (g : S → S → S) : Sp := fun vs H Q _ => ∃ (x y : V) (s t : S), vs = [x, y] ∧ Dt H x (encS s) ∧ Dt H y (encS t) ∧ ∀ (r : V) (H' : Hp), Same H H' → Dt H' r (encS (g s t)) → Q r H'
theorem ok_joined (F : Fun K "joined" "joined" s_joined f fd) (b_min : mg "min" = none) (b_max : mg "max" = none) : FnOk P w K mg base CX0 1 f fd ["one", "other"] (spS2 join) := by
  refine F.ok sc_joined (fun vs H Q E h => ?_) (fun cdv A outer s H vs Q E hr h => ?_)
  · obtain ⟨x, y, s, t, rfl, _⟩ := h
    rfl
  obtain ⟨x, y, s, t, rfl, hx, hy, q⟩ := h
  refine ⟨_, (pss_cons (ps_if (pt_cmpR gIsN (pe_var (i := 0) rfl vis_joined_one db_one cd_one) pe_non (nomark _)) (pss_one (ps_ret (pe_var (i := 1) rfl vis_joined_other db_other cd_other))) pss_nil)
  (pss_cons (ps_if (pt_cmpR gIsN (pe_var (i := 1) rfl vis_joined_other db_other cd_other) pe_non (nomark _)) (pss_one (ps_ret (pe_var (i := 0) rfl vis_joined_one db_one cd_one))) pss_nil)
  (pss_one (ps_ret (pe_tup (pa_c (pe_cB (call_min2 rfl) gl_joined_min b_min bt_min (pa_c (pe_ix ix_tup (pe_var (i := 0) rfl vis_joined_one db_one cd_one) pe_int (fun _ _ => rfl)) (pa_c (pe_ix ix_tup (pe_var (i := 1) rfl vis_joined_other db_other cd_other) pe_int (fun _ _ => rfl)) pa_nil)) nn_min db_min) (pa_c (pe_cB (call_max2 rfl) gl_joined_max b_max bt_max (pa_c (pe_ix ix_tup (pe_var (i := 0) rfl vis_joined_one db_one cd_one) pe_int (fun _ _ => rfl)) (pa_c (pe_ix ix_tup (pe_var (i := 1) rfl vis_joined_other db_other cd_other) pe_int (fun _ _ => rfl)) pa_nil)) nn_max db_max) pa_nil))))))), ?_⟩
  rcases dtS hx with ⟨rfl, rfl⟩ | ⟨a, b, p, rfl, rfl, hp⟩ <;> rcases dtS hy with ⟨rfl, rfl⟩ | ⟨c, d, p2, rfl, rfl, hp2⟩ <;> walk_at "rd"
  · exact q _ _ (Same.refl _) hy
  · exact q _ _ (Same.refl _) hy
  · exact q _ _ (Same.refl _) hx
  · exact ⟨_, SqT.of hp, _, rfl, _, SqT.of hp2, _, rfl, _, _, ⟨rfl, rfl⟩, _, SqT.of hp, _, rfl, _, SqT.of hp2, _, rfl, _, _, ⟨rfl, rfl⟩, zl 2 (by decide), fun p3 hp3 => q _ _ (same_new hp3 _) (dtS_mk upd_same)⟩
theorem ok_met (F : Fun K "met" "met" s_met f fd) (b_min : mg "min" = none) (b_max : mg "max" = none) (c_between : Callee P w K mg base "between" ["low", "high"] 1 spBetween) : FnOk P w K mg base CX0 2 f fd ["one", "other"] (spS2 meet) := by
  refine F.ok sc_met (fun vs H Q E h => ?_) (fun cdv A outer s H vs Q E hr h => ?_)
  · obtain ⟨x, y, s, t, rfl, _⟩ := h
    rfl
  obtain ⟨x, y, s, t, rfl, hx, hy, q⟩ := h
  refine ⟨_, (pss_cons (ps_if (PW.pt (pw_or (pt_cmpR gIsN (pe_var (i := 0) rfl vis_met_one db_one cd_one) pe_non (nomark _)) (pw_or1 (pt_cmpR gIsN (pe_var (i := 1) rfl vis_met_other db_other cd_other) pe_non (nomark _))))) (pss_one (ps_ret pe_non)) pss_nil)
  (pss_one (ps_ret (pe_cc c_between hr (by omega) (pa_c (pe_cB (call_max2 rfl) gl_met_max b_max bt_max (pa_c (pe_ix ix_tup (pe_var (i := 0) rfl vis_met_one db_one cd_one) pe_int (fun _ _ => rfl)) (pa_c (pe_ix ix_tup (pe_var (i := 1) rfl vis_met_other db_other cd_other) pe_int (fun _ _ => rfl)) pa_nil)) nn_max db_max) (pa_c (pe_cB (call_min2 rfl) gl_met_min b_min bt_min (pa_c (pe_ix ix_tup (pe_var (i := 0) rfl vis_met_one db_one cd_one) pe_int (fun _ _ => rfl)) (pa_c (pe_ix ix_tup (pe_var (i := 1) rfl vis_met_other db_other cd_other) pe_int (fun _ _ => rfl)) pa_nil)) nn_min db_min) pa_nil)) gl_met_between db_between)))), ?_⟩
  rcases dtS hx with ⟨rfl, rfl⟩ | ⟨a, b, p, rfl, rfl, hp⟩ <;> rcases dtS hy with ⟨rfl, rfl⟩ | ⟨c, d, p2, rfl, rfl, hp2⟩ <;> walk_at "rd"
  · exact q _ _ (Same.refl _) .non
  · exact q _ _ (Same.refl _) .non
  · exact q _ _ (Same.refl _) .non
  · exact ⟨_, SqT.of hp, _, rfl, _, SqT.of hp2, _, rfl, _, _, ⟨rfl, rfl⟩, _, SqT.of hp, _, rfl, _, SqT.of hp2, _, rfl, _, _, ⟨rfl, rfl⟩, _, _, rfl, fun r H' s1 hr' => q _ _ s1 hr'⟩
def sameF : S → S → S
  | some (a, b), some (c, d) => some (if (a = c ∧ b = d) ∧ a = b then 1 else 0, if meet (some (a, b)) (some (c, d)) ≠ none then 1 else 0)
  | _, _ => none
theorem ok_stretch_of_same (F : Fun K "stretch_of_same" "stretch_of_same" s_stretch_of_same f fd) (c_met : Callee P w K mg base "met" ["one", "other"] 2 (spS2 meet)) : FnOk P w K mg base CX0 3 f fd ["one", "other"] (spS2 sameF) := by
  refine F.ok sc_stretch_of_same (fun vs H Q E h => ?_) (fun cdv A outer s H vs Q E hr h => ?_)
  · obtain ⟨x, y, s, t, rfl, _⟩ := h
    rfl
  obtain ⟨x, y, s, t, rfl, hx, hy, q⟩ := h
  refine ⟨_, (pss_cons (ps_if (PW.pt (pw_or (pt_cmpR gIsN (pe_var (i := 0) rfl vis_stretch_of_same_one db_one cd_one) pe_non (nomark _)) (pw_or1 (pt_cmpR gIsN (pe_var (i := 1) rfl vis_stretch_of_same_other db_other cd_other) pe_non (nomark _))))) (pss_one (ps_ret pe_non)) pss_nil)
  (pss_cons (ps_set (i := 2) sc_stretch_of_same.nd rfl loc_stretch_of_same_is_sure (pe_and (pe_cmpR (dEq hr.units) (pe_var (i := 0) rfl vis_stretch_of_same_one db_one cd_one) (pe_var (i := 1) rfl vis_stretch_of_same_other db_other cd_other) (nomark _)) (pe_one (pe_cmpR op_eqI (pe_ix ix_tup (pe_var (i := 0) rfl vis_stretch_of_same_one db_one cd_one) pe_int (fun _ _ => rfl)) (pe_ix ix_tup (pe_var (i := 0) rfl vis_stretch_of_same_one db_one cd_one) pe_int (fun _ _ => rfl)) (nomark _)))) (swaps_plain rfl))
  (pss_cons (ps_set (i := 3) sc_stretch_of_same.nd rfl loc_stretch_of_same_can_be (pe_cmpR gNotN (pe_cc c_met hr (by omega) (pa_c (pe_var (i := 0) rfl vis_stretch_of_same_one db_one cd_one) (pa_c (pe_var (i := 1) rfl vis_stretch_of_same_other db_other cd_other) pa_nil)) gl_stretch_of_same_met db_met) pe_non (nomark _)) (swaps_plain rfl))
  (pss_one (ps_ret (pe_tup (pa_c (pe_ifExp (pt_val (pe_var (i := 2) rfl vis_stretch_of_same_is_sure db_is_sure cd_is_sure)) pe_int pe_int) (pa_c (pe_ifExp (pt_val (pe_var (i := 3) rfl vis_stretch_of_same_can_be db_can_be cd_can_be)) pe_int pe_int) pa_nil)))))))), ?_⟩
  rcases dtS hx with ⟨rfl, rfl⟩ | ⟨a, b, p, rfl, rfl, hp⟩ <;> rcases dtS hy with ⟨rfl, rfl⟩ | ⟨c, d, p2, rfl, rfl, hp2⟩ <;> walk_at "rd"
  · exact q _ _ (Same.refl _) .non
  · exact q _ _ (Same.refl _) .non
  · exact q _ _ (Same.refl _) .non
  · have fin : ∀ u : Int, u = (if (a = c ∧ b = d) ∧ a = b then 1 else 0) → spS2 meet [V.ref p, V.ref p2] H (fun x H1 =>
        if decide (x = V.non) = false then 2 ≤ sizeLine ∧ ∀ (p : Addr), H1 p = none → Q (V.ref p) (upd H1 p (HO.tup [V.int u, V.int 1]))
        else 2 ≤ sizeLine ∧ ∀ (p : Addr), H1 p = none → Q (V.ref p) (upd H1 p (HO.tup [V.int u, V.int 0]))) E0 := by
      intro u hu
      refine ⟨_, _, _, _, rfl, hx, hy, fun r H' s1 dr => ?_⟩
      have hF : ∀ v : Int, v = (if meet (some (a, b)) (some (c, d)) ≠ none then 1 else 0) → sameF (some (a, b)) (some (c, d)) = some (u, v) := by
        intro v hv
        rw [hu, hv]; rfl
      rcases dtS dr with ⟨e, rfl⟩ | ⟨a1, b1, p3, e, rfl, _⟩
      · dsimp only
        rw [if_neg (by simp)]
        rw [hF 0 (by rw [if_neg (by rw [e]; simp)])] at q
        exact ⟨zl 2 (by decide), fun p3 hp3 => q _ _ (s1.trans (same_new hp3 _)) (dtS_mk upd_same)⟩
      · dsimp only
        rw [if_pos (by simp)]
        rw [hF 1 (by rw [if_pos (by rw [e]; simp)])] at q
        exact ⟨zl 2 (by decide), fun p3 hp3 => q _ _ (s1.trans (same_new hp3 _)) (dtS_mk upd_same)⟩
    refine ⟨_, eqS_of hx hy, ?_⟩
    split
    · rename_i e
      have e := of_decide_eq_true e
      injection e with e
      injection e with e1 e2
      refine ⟨_, SqT.of hp, _, rfl, _, SqT.of hp, _, rfl, _, rfl, _, rfl, ?_⟩
      by_cases hab : a = b
      · simp only [if_pos hab]
        exact fin 1 (by rw [if_pos ⟨⟨e1, e2⟩, hab⟩])
      · simp only [if_neg hab]
        exact fin 0 (by rw [if_neg fun z => hab z.2])
    · rename_i e
      refine fin 0 (by rw [if_neg]; rintro ⟨⟨h1, h2⟩, _⟩; exact e (decide_eq_true (by rw [h1, h2])))
def EndsRel (w : Wd) (s t r : S) : Prop := match s, t with
  | some (a, b), some (c, d) => ∃ lo hi, r = some (lo, hi) ∧ Hull (corners w a b c d) lo hi
  | _, _ => r = none
def Small (w : Wd) (t : S) : Prop := match t with
  | none => True
  | some (c, d) => (w = .quo → c ≠ 0 ∧ d ≠ 0) ∧ c.natAbs < 1073741824 ∧ d.natAbs < 1073741824
def spEnds : Sp := fun vs H Q _ => ∃ (w : Wd) (x y : V) (s t : S), vs = [.str w.str, x, y] ∧ Dt H x (encS s) ∧ Dt H y (encS t) ∧ Small w t ∧ ∀ (r : V) (H' : Hp) (o : S), Same H H' → EndsRel w s t o → Dt H' r (encS o) → Q r H'
def EInv (H : Hp) (w : Wd) (p2 : Addr) (ns : List Int) (k : Int) (i : Nat) (ys : List V) (σ' : St) (H' : Hp) : Prop := H' = H ∧ (∃ t, σ' = [t, some (.str w.str), some (.ref p2)]) ∧ ys = ((ns.take i).map fun x => w.worth x k).map V.int
theorem ok_stretch_of_ends (F : Fun K "stretch_of_ends" "stretch_of_ends" s_stretch_of_ends f fd) (b_min : mg "min" = none) (b_max : mg "max" = none) (c_worth_of : Callee P w K mg base "worth_of" ["word", "one", "other"] 1 spWorth) : FnOk P w K mg base CX0 2 f fd ["word", "one", "other"] spEnds := by
  refine F.ok sc_stretch_of_ends (fun vs H Q E h => ?_) (fun cdv A outer s H vs Q E hr h => ?_)
  · obtain ⟨w, x, y, s, t, rfl, _⟩ := h
    rfl
  obtain ⟨w, x, y, s, t, rfl, hx, hy, hsm, q⟩ := h
  refine ⟨_, (pss_cons (ps_if (PW.pt (pw_or (pt_cmpR gIsN (pe_var (i := 1) rfl vis_stretch_of_ends_one db_one cd_one) pe_non (nomark _)) (pw_or1 (pt_cmpR gIsN (pe_var (i := 2) rfl vis_stretch_of_ends_other db_other cd_other) pe_non (nomark _))))) (pss_one (ps_ret pe_non)) pss_nil)
  (pss_cons (ps_setc (i := 3) ["low_or_high", "word", "other"] [none, some 0, some 2] sc_stretch_of_ends.nd rfl loc_stretch_of_ends_ends rfl (CompS.of (by rfl)) (pi_tup (pe_var (i := 1) rfl vis_stretch_of_ends_one db_one cd_one)) (fun _ _ _ _ _ => (pg_name (i := 0) (show List.Nodup (["low_or_high", "word", "other"] : List Str) from by decide +kernel) rfl (Or.inl rfl))) (fun _ _ _ _ _ => pif_nil) (fun _ _ _ _ _ => (pe_cc c_worth_of hr (by omega) (pa_c (pe_var (i := 1) rfl (by first | exact Or.inl rfl | exact Or.inr (Or.inl rfl) | exact Or.inr (Or.inr rfl)) db_word cd_word) (pa_c (pe_var (i := 0) rfl (by first | exact Or.inl rfl | exact Or.inr (Or.inl rfl) | exact Or.inr (Or.inr rfl)) db_low_or_high cd_low_or_high) (pa_c (pe_ix (ixK (r := rIxT) (K := K) ix_tup rfl) (pe_var (i := 2) rfl (by first | exact Or.inl rfl | exact Or.inr (Or.inl rfl) | exact Or.inr (Or.inr rfl)) db_other cd_other) pe_int (fun _ _ => rfl)) pa_nil))) rfl db_worth_of)))
  (pss_cons (ps_expr (pe_bm PySem.F.plainAttrs_list PySem.F.slot_list_extend PySem.F.type_list_extend mt_extend (pe_var (i := 3) rfl vis_stretch_of_ends_ends db_ends cd_ends) (pa_c (pe_comp ["low_or_high", "word", "other"] [none, some 0, some 2] rfl (CompS.of (by rfl)) (pi_tup (pe_var (i := 1) rfl vis_stretch_of_ends_one db_one cd_one)) (fun _ _ _ _ _ => (pg_name (i := 0) (show List.Nodup (["low_or_high", "word", "other"] : List Str) from by decide +kernel) rfl (Or.inl rfl))) (fun _ _ _ _ _ => pif_nil) (fun _ _ _ _ _ => (pe_cc c_worth_of hr (by omega) (pa_c (pe_var (i := 1) rfl (by first | exact Or.inl rfl | exact Or.inr (Or.inl rfl) | exact Or.inr (Or.inr rfl)) db_word cd_word) (pa_c (pe_var (i := 0) rfl (by first | exact Or.inl rfl | exact Or.inr (Or.inl rfl) | exact Or.inr (Or.inr rfl)) db_low_or_high cd_low_or_high) (pa_c (pe_ix (ixK (r := rIxT) (K := K) ix_tup rfl) (pe_var (i := 2) rfl (by first | exact Or.inl rfl | exact Or.inr (Or.inl rfl) | exact Or.inr (Or.inr rfl)) db_other cd_other) pe_int (fun _ _ => rfl)) pa_nil))) rfl db_worth_of))) pa_nil)) (swaps_plain rfl))
  (pss_one (ps_ret (pe_tup (pa_c (pe_cB (call_minL rfl) gl_stretch_of_ends_min b_min bt_min (pa_c (pe_var (i := 3) rfl vis_stretch_of_ends_ends db_ends cd_ends) pa_nil) nn_min db_min) (pa_c (pe_cB (call_maxL rfl) gl_stretch_of_ends_max b_max bt_max (pa_c (pe_var (i := 3) rfl vis_stretch_of_ends_ends db_ends cd_ends) pa_nil) nn_max db_max) pa_nil)))))))), ?_⟩
  rcases dtS hx with ⟨rfl, rfl⟩ | ⟨a, b, p, rfl, rfl, hp⟩ <;> rcases dtS hy with ⟨rfl, rfl⟩ | ⟨c, d, p2, rfl, rfl, hp2⟩ <;> walk_at "rd"
  · exact q _ _ none (Same.refl _) rfl .non
  · exact q _ _ none (Same.refl _) rfl .non
  · exact q _ _ none (Same.refl _) rfl .non
  · obtain ⟨hq1, hc, hd⟩ := hsm
    have comp : ∀ (H1 : Hp) (j k : Int) (t : Option V) (Q' : VK), H1 p = some (.tup [.int a, .int b]) → H1 p2 = some (.tup [.int c, .int d]) → atI [V.int c, V.int d] j = some (.int k) → (w = .quo → k ≠ 0) → k.natAbs < 1073741824 →
        (∀ p3, H1 p3 = none → Q' (.ref p3) (upd H1 p3 (.lst ([w.worth a k, w.worth b k].map V.int)))) →
        CompW (Itt K p) (gName 0) tYes (tCall spWorth [] E0 (tCons (tVar 1) (tCons (tVar 0) (tCons (tOp (rIxT K) (tVar 2) (tC (V.int j))) tNil)))) Q' [t, some (V.str w.str), some (V.ref p2)] H1 := by
      intro H1 j k t Q' g1 g2 hj hk0 hk fin
      refine comp_tup (K := K) (a := p) (xs := [a, b].map V.int) (EInv H1 w p2 [a, b] k) ⟨rfl, ⟨_, rfl⟩, rfl⟩ (small1000 (by simp)) ?_ ?_ ?_ ?_
      · rintro i ys σ' H' ⟨_, _, rfl⟩
        rw [List.length_map, List.length_map, List.length_take]
        omega
      · rintro i ys σ' H' _ ⟨rfl, _, _⟩
        exact SqT.of g1
      · rintro i ys v σ' H' hxi ⟨rfl, ⟨t, rfl⟩, rfl⟩
        rw [List.getElem?_map] at hxi
        cases hr' : ([a, b] : List Int)[i]? with
        | none => rw [hr'] at hxi; cases hxi
        | some x =>
          rw [hr'] at hxi
          have ev : V.int x = v := by simpa using hxi
          subst ev
          walk_at "rd"
          refine ⟨_, SqT.of g2, _, hj, w, x, k, rfl, hk0, hk, rfl, ⟨_, rfl⟩, ?_⟩
          rw [List.take_add_one, hr', List.map_append, List.map_append]
          rfl
      · rintro ys σ' H' ⟨rfl, _, rfl⟩ p3 hp3
        exact fin p3 hp3
    refine ⟨⟨_, SqT.of hp⟩, comp H 0 c none _ hp hp2 rfl (fun e => (hq1 e).1) hc fun p3 hp3 => ?_⟩
    have s1 := same_new hp3 (.lst ([w.worth a c, w.worth b c].map V.int))
    have e3 : (upd H p3 (.lst ([w.worth a c, w.worth b c].map V.int))) p3 = _ := upd_same
    generalize upd H p3 (.lst ([w.worth a c, w.worth b c].map V.int)) = U1 at s1 e3 ⊢
    refine ⟨.inl ⟨rfl, _, SqL.of e3⟩, ⟨_, SqT.of (s1 _ _ hp)⟩, comp U1 1 d none _ (s1 _ _ hp) (s1 _ _ hp2) rfl (fun e => (hq1 e).2) hd fun p4 hp4 => ?_⟩
    have s2 := same_new hp4 (.lst ([w.worth a d, w.worth b d].map V.int))
    have e4 : (upd U1 p4 (.lst ([w.worth a d, w.worth b d].map V.int))) p4 = _ := upd_same
    generalize upd U1 p4 (.lst ([w.worth a d, w.worth b d].map V.int)) = U2 at s2 e4 ⊢
    have e5 : upd U2 p3 (.lst (([w.worth a c, w.worth b c].map V.int) ++ ([w.worth a d, w.worth b d].map V.int))) p3 = some (.lst ((corners w a b c d).map V.int)) := upd_same
    have s3 : Same H (upd U2 p3 (.lst (([w.worth a c, w.worth b c].map V.int) ++ ([w.worth a d, w.worth b d].map V.int)))) := same_upd (s1.trans s2) hp3
    refine ⟨_, rfl, _, rfl, _, s2 _ _ e3, _, e4, zl 4 (by decide), ?_⟩
    generalize upd U2 p3 (.lst (([w.worth a c, w.worth b c].map V.int) ++ ([w.worth a d, w.worth b d].map V.int))) = U3 at e5 s3 ⊢
    refine ⟨_, rfl, _, SqL.of e5, by simp [corners], fun lo hlo hlo2 => ⟨_, rfl, _, SqL.of e5, by simp [corners], fun hi hhi hhi2 => ⟨zl 2 (by decide), fun p5 hp5 => ?_⟩⟩⟩
    exact q _ _ (some (lo, hi)) (s3.trans (same_new hp5 _)) ⟨lo, hi, rfl, hlo, hhi, fun v hv => ⟨hlo2 v hv, hhi2 v hv⟩⟩ (dtS_mk upd_same)
/-- what stretch_of tells -/
def OfRel (w : Wd) (s t r : S) : Prop := match s, t with
  | some (a, b), some (c, d) => IsS w a b c d r
  | _, _ => r = none
def okS (n : Nat) (s : S) : Prop := match s with
  | none => True
  | some (a, b) => a ≤ b ∧ a.natAbs < n ∧ b.natAbs < n
def spOf : Sp := fun vs H Q _ => ∃ (w : Wd) (x y : V) (s t : S), vs = [.str w.str, x, y] ∧ Dt H x (encS s) ∧ Dt H y (encS t) ∧ okS 1073741824 s ∧ okS 1073741824 t ∧ ∀ (r : V) (H' : Hp) (o : S), Same H H' → OfRel w s t o → Dt H' r (encS o) → Q r H'
theorem ok_stretch_of (F : Fun K "stretch_of" "stretch_of" s_stretch_of f fd) (b_min : mg "min" = none) (b_max : mg "max" = none) (c_between : Callee P w K mg base "between" ["low", "high"] 1 spBetween) (c_joined : Callee P w K mg base "joined" ["one", "other"] 1 (spS2 join))
    (c_stretch_of_same : Callee P w K mg base "stretch_of_same" ["one", "other"] 3 (spS2 sameF)) (c_stretch_of_ends : Callee P w K mg base "stretch_of_ends" ["word", "one", "other"] 2 spEnds) : FnOk P w K mg base CX0 4 f fd ["word", "one", "other"] spOf := by
  refine F.ok sc_stretch_of (fun vs H Q E h => ?_) (fun cdv A outer s H vs Q E hr h => ?_)
  · obtain ⟨w, x, y, s, t, rfl, _⟩ := h
    rfl
  obtain ⟨w, x, y, s, t, rfl, hx, hy, hs, ht, q⟩ := h
  refine ⟨_, (pss_cons (ps_if (pt_cmpR (gEq hr.units) (pe_var (i := 0) rfl vis_stretch_of_word db_word cd_word) pe_str (nomark _)) (pss_one (ps_ret (pe_cc c_stretch_of_same hr (by omega) (pa_c (pe_var (i := 1) rfl vis_stretch_of_one db_one cd_one) (pa_c (pe_var (i := 2) rfl vis_stretch_of_other db_other cd_other) pa_nil)) gl_stretch_of_stretch_of_same db_stretch_of_same))) pss_nil)
  (pss_cons (ps_if (PW.pt (pw_and (pt_cmpR (gEq hr.units) (pe_var (i := 0) rfl vis_stretch_of_word db_word cd_word) pe_str (nomark _)) (pw_and1 (pt_cmpR gNotN (pe_var (i := 2) rfl vis_stretch_of_other db_other cd_other) pe_non (nomark _))))) (pss_cons (ps_set (i := 3) sc_stretch_of.nd rfl loc_stretch_of_below (pe_cc c_between hr (by omega) (pa_c (pe_ix ix_tup (pe_var (i := 2) rfl vis_stretch_of_other db_other cd_other) pe_int (fun _ _ => rfl)) (pa_c (pe_cB (call_min2 rfl) gl_stretch_of_min b_min bt_min (pa_c (pe_ix ix_tup (pe_var (i := 2) rfl vis_stretch_of_other db_other cd_other) pe_int (fun _ _ => rfl)) (pa_c (pe_un un_neg pe_int) pa_nil)) nn_min db_min) pa_nil)) gl_stretch_of_between db_between) (swaps_plain rfl))
  (pss_cons (ps_set (i := 4) sc_stretch_of.nd rfl loc_stretch_of_above (pe_cc c_between hr (by omega) (pa_c (pe_cB (call_max2 rfl) gl_stretch_of_max b_max bt_max (pa_c (pe_ix ix_tup (pe_var (i := 2) rfl vis_stretch_of_other db_other cd_other) pe_int (fun _ _ => rfl)) (pa_c pe_int pa_nil)) nn_max db_max) (pa_c (pe_ix ix_tup (pe_var (i := 2) rfl vis_stretch_of_other db_other cd_other) pe_int (fun _ _ => rfl)) pa_nil)) gl_stretch_of_between db_between) (swaps_plain rfl))
  (pss_one (ps_ret (pe_cc c_joined hr (by omega) (pa_c (pe_cc c_stretch_of_ends hr (by omega) (pa_c (pe_var (i := 0) rfl vis_stretch_of_word db_word cd_word) (pa_c (pe_var (i := 1) rfl vis_stretch_of_one db_one cd_one) (pa_c (pe_var (i := 3) rfl vis_stretch_of_below db_below cd_below) pa_nil))) gl_stretch_of_stretch_of_ends db_stretch_of_ends) (pa_c (pe_cc c_stretch_of_ends hr (by omega) (pa_c (pe_var (i := 0) rfl vis_stretch_of_word db_word cd_word) (pa_c (pe_var (i := 1) rfl vis_stretch_of_one db_one cd_one) (pa_c (pe_var (i := 4) rfl vis_stretch_of_above db_above cd_above) pa_nil))) gl_stretch_of_stretch_of_ends db_stretch_of_ends) pa_nil)) gl_stretch_of_joined db_joined))))) pss_nil)
  (pss_one (ps_ret (pe_cc c_stretch_of_ends hr (by omega) (pa_c (pe_var (i := 0) rfl vis_stretch_of_word db_word cd_word) (pa_c (pe_var (i := 1) rfl vis_stretch_of_one db_one cd_one) (pa_c (pe_var (i := 2) rfl vis_stretch_of_other db_other cd_other) pa_nil))) gl_stretch_of_stretch_of_ends db_stretch_of_ends))))), ?_⟩
  walk_at "rd"
  refine ⟨_, eqW w .same, ?_⟩
  split
  · rename_i e
    cases of_decide_eq_true e
    refine ⟨x, y, s, t, rfl, hx, hy, fun r H' s1 dr => q r H' _ s1 ?_ dr⟩
    match s, t, hs, ht with
    | none, none, _, _ => exact rfl
    | none, some (c, d), _, _ => exact rfl
    | some (a, b), none, _, _ => exact rfl
    | some (a, b), some (c, d), hs, ht => exact same_isS hs.1 ht.1
  rename_i n1
  have n1 : w ≠ .same := fun z => n1 (decide_eq_true z)
  refine ⟨_, eqW w .quo, ?_⟩
  split
  · rename_i e
    cases of_decide_eq_true e
    rcases dtS hy with ⟨rfl, rfl⟩ | ⟨c, d, p2, rfl, rfl, hp2⟩
    · rw [if_neg (by simp)]
      refine ⟨.quo, x, .non, s, none, rfl, hx, hy, trivial, fun r H' o s1 rel dr => q r H' o s1 ?_ dr⟩
      match s, rel with
      | none, rel => exact rel
      | some (a, b), rel => exact rel
    · rw [if_pos (by simp)]
      obtain ⟨hcd, hc, hd⟩ := ht
      refine ⟨_, rfl, _, SqT.of hp2, _, rfl, _, rfl, _, SqT.of hp2, _, rfl, _, _, ⟨rfl, rfl⟩, _, _, rfl, fun r1 H1 s1 d1 => ?_⟩
      have d1 : Dt H1 r1 (encS (bet c (mn d (-1)))) := d1
      refine ⟨_, rfl, _, SqT.of (s1 _ _ hp2), _, rfl, _, _, ⟨rfl, rfl⟩, _, rfl, _, SqT.of (s1 _ _ hp2), _, rfl, _, _, rfl, fun r2 H2 s2 d2 => ?_⟩
      have d2 : Dt H2 r2 (encS (bet (mx c 1) d)) := d2
      have sm1 : Small .quo (bet c (mn d (-1))) := by
        unfold bet
        split
        · trivial
        · rename_i h
          unfold mn at h ⊢
          split at h <;> rename_i g <;> simp only [g, if_true, if_false] <;> exact ⟨fun _ => ⟨by omega, by omega⟩, by omega, by omega⟩
      have sm2 : Small .quo (bet (mx c 1) d) := by
        unfold bet
        split
        · trivial
        · rename_i h
          unfold mx at h ⊢
          split at h <;> rename_i g <;> simp only [g, if_true, if_false] <;> exact ⟨fun _ => ⟨by omega, by omega⟩, by omega, by omega⟩
      refine ⟨.quo, x, r1, s, _, rfl, hx.kp (s1.trans s2).kp, d1.kp s2.kp, sm1, fun r3 H3 o3 s3 rel3 d3 => ?_⟩
      refine ⟨.quo, x, r2, s, _, rfl, hx.kp (s1.trans (s2.trans s3)).kp, d2.kp s3.kp, sm2, fun r4 H4 o4 s4 rel4 d4 => ?_⟩
      refine ⟨r3, r4, o3, o4, rfl, d3.kp s4.kp, d4, fun r5 H5 s5 d5 => q r5 H5 _ (s1.trans (s2.trans (s3.trans (s4.trans s5)))) ?_ d5⟩
      match s, hs, rel3, rel4 with
      | none, _, rel3, rel4 =>
        have e3 : o3 = none := by
          revert rel3
          cases bet c (mn d (-1)) <;> exact id
        have e4 : o4 = none := by
          revert rel4
          cases bet (mx c 1) d <;> exact id
        rw [e3, e4]; exact rfl
      | some (a, b), hs, rel3, rel4 =>
        refine quo_isS hs.1 hcd ?_ ?_
        · revert rel3
          cases bet c (mn d (-1)) <;> exact id
        · revert rel4
          cases bet (mx c 1) d <;> exact id
  · rename_i n2
    have n2 : w ≠ .quo := fun z => n2 (decide_eq_true z)
    refine ⟨w, x, y, s, t, rfl, hx, hy, ?_, fun r H' o s1 rel dr => q r H' o s1 ?_ dr⟩
    · match t, ht with
      | none, _ => trivial
      | some (c, d), ht => exact ⟨fun z => absurd z n2, ht.2.1, ht.2.2⟩
    · match s, t, hs, ht, rel with
      | none, none, _, _, rel => exact rel
      | none, some (c, d), _, _, rel => exact rel
      | some (a, b), none, _, _, rel => exact rel
      | some (a, b), some (c, d), hs, ht, rel =>
        obtain ⟨lo, hi, rfl, hh⟩ := rel
        exact ends_isS n1 hs.1 ht.1 (fun z => absurd z n2) hh
end
section
variable {P : Program} {w : World} {K : PySem.W.Frag} {mg : Str → Option Value} {base : Heap} {f : Addr} {fd : FuncData}
def spWithin : Sp := fun vs H Q _ => ∃ (x y : V) (s t : S), vs = [x, y] ∧ Dt H x (encS s) ∧ Dt H y (encS t) ∧ ∀ (H' : Hp), Same H H' → Q (.bl (within s t)) H'
theorem ok_is_within (F : Fun K "is_within" "is_within" s_is_within f fd) (c_met : Callee P w K mg base "met" ["one", "other"] 2 (spS2 meet)) : FnOk P w K mg base CX0 3 f fd ["one", "other"] spWithin := by
  refine F.ok sc_is_within (fun vs H Q E h => ?_) (fun cdv A outer s H vs Q E hr h => ?_)
  · obtain ⟨x, y, s, t, rfl, _⟩ := h
    rfl
  obtain ⟨x, y, s, t, rfl, hx, hy, q⟩ := h
  refine ⟨_, (pss_one (ps_ret (pe_cmpR (dEq hr.units) (pe_cc c_met hr (by omega) (pa_c (pe_var (i := 0) rfl vis_is_within_one db_one cd_one) (pa_c (pe_var (i := 1) rfl vis_is_within_other db_other cd_other) pa_nil)) gl_is_within_met db_met) (pe_var (i := 0) rfl vis_is_within_one db_one cd_one) (nomark _)))), ?_⟩
  walk_at "rd"
  refine ⟨x, y, s, t, rfl, hx, hy, fun r H' s1 dr => ?_⟩
  exact ⟨_, eqS_of dr (hx.kp s1.kp), q _ s1⟩
end
/-! ### a comprehension over ints -/
def MInv (H : Hp) (rest : St) (ns : List Int) (p : Int → Bool) (f : Int → Int) (i : Nat) (ys : List V) (σ' : St) (H' : Hp) : Prop := Same H H' ∧ (∃ t, σ' = t :: rest) ∧ ys = (((ns.take i).filter p).map f).map V.int
theorem comp_ints {K : PySem.W.Frag} {a : Addr} {ns : List Int} {g : TG} {tt : TT} {te : TE} {H : Hp} {Q : VK} {t0 : Option V} {rest : St} (p : Int → Bool) (f : Int → Int) (hS : SqL K H a (ns.map V.int)) (hn : ns.length ≤ 1000)
    (hs : ∀ (n : Int) (t : Option V) (H' : Hp) (R1 : V → St → Hp → Prop) (R0 : St → Hp → Prop), n ∈ ns → Same H H' → (p n = true → ∀ t H4, Same H H4 → R1 (.int (f n)) (t :: rest) H4) → (p n = false → ∀ t H3, Same H H3 → R0 (t :: rest) H3) →
      g (.int n) (t :: rest) H' fun σ2 H2 => tt σ2 H2 fun b H3 => if b = true then te σ2 H3 (fun v H4 => R1 v σ2 H4) else R0 σ2 H3)
    (hd : ∀ (H' : Hp) (l : Addr), Same H H' → H' l = none → Q (.ref l) (upd H' l (.lst (((ns.filter p).map f).map V.int)))) : CompW (Itl K a) g tt te Q (t0 :: rest) H := by
  refine comp_list (K := K) (a := a) (xs := ns.map V.int) (MInv H rest ns p f) ⟨Same.refl _, ⟨_, rfl⟩, rfl⟩ (small1000 (by rw [List.length_map]; exact hn)) ?_ ?_ ?_ ?_
  · rintro i ys σ' H' ⟨_, _, rfl⟩
    rw [List.length_map, List.length_map]
    exact Nat.le_trans (List.length_filter_le _ _) (by rw [List.length_take]; omega)
  · rintro i ys σ' H' _ ⟨s, _, _⟩
    exact s.seq hS
  · rintro i ys v σ' H' hxi ⟨s, ⟨t, rfl⟩, rfl⟩
    rw [List.getElem?_map] at hxi
    cases hr' : ns[i]? with
    | none => rw [hr'] at hxi; cases hxi
    | some x =>
      rw [hr'] at hxi
      have ev : V.int x = v := by simpa using hxi
      subst ev
      have et : ns.take (i + 1) = ns.take i ++ [x] := by rw [List.take_add_one, hr']; rfl
      refine hs x t H' (fun v σ2 H4 => MInv H rest ns p f (i + 1) ((((ns.take i).filter p).map f).map V.int ++ [v]) σ2 H4) (fun σ2 H3 => MInv H rest ns p f (i + 1) ((((ns.take i).filter p).map f).map V.int) σ2 H3) (List.mem_of_getElem? hr') s (fun e t H4 s4 => ⟨s4, ⟨t, rfl⟩, ?_⟩) (fun e t H3 s3 => ⟨s3, ⟨t, rfl⟩, ?_⟩)
      · rw [et, List.filter_append, List.map_append, List.map_append]
        simp [e]
      · rw [et, List.filter_append, List.map_append, List.map_append]
        simp [e]
  · rintro ys σ' H' ⟨s, _, rfl⟩ l hl
    have := hd H' l s hl
    rw [List.length_map, List.take_length]
    exact this
section
variable {P : Program} {w : World} {K : PySem.W.Frag} {mg : Str → Option Value} {base : Heap} {f : Addr} {fd : FuncData}
def MInvG {α : Type} (H : Hp) (rest : St) (ns : List α) (p : α → Bool) (f : α → V) (i : Nat) (ys : List V) (σ' : St) (H' : Hp) : Prop := Same H H' ∧ (∃ t, σ' = t :: rest) ∧ ys = ((ns.take i).filter p).map f
theorem MInvG.step {α : Type} {H : Hp} {rest : St} {ns : List α} {c : α → V} {p : α → Bool} {f : α → V} {g : TG} {tt : TT} {te : TE}
    (hs : ∀ (n : α) (t : Option V) (H' : Hp) (R1 : V → St → Hp → Prop) (R0 : St → Hp → Prop), n ∈ ns → Same H H' → (p n = true → ∀ t H4, Same H H4 → R1 (f n) (t :: rest) H4) → (p n = false → ∀ t H3, Same H H3 → R0 (t :: rest) H3) →
      g (c n) (t :: rest) H' fun σ2 H2 => tt σ2 H2 fun b H3 => if b = true then te σ2 H3 (fun v H4 => R1 v σ2 H4) else R0 σ2 H3)
    (i : Nat) (ys : List V) (v : V) (σ' : St) (H' : Hp) (hxi : (ns.map c)[i]? = some v) (h : MInvG H rest ns p f i ys σ' H') :
    g v σ' H' fun σ2 H2 => tt σ2 H2 fun b H3 => if b = true then te σ2 H3 (fun v H4 => MInvG H rest ns p f (i + 1) (ys ++ [v]) σ2 H4) else MInvG H rest ns p f (i + 1) ys σ2 H3 := by
  obtain ⟨s, ⟨t, rfl⟩, rfl⟩ := h
  rw [List.getElem?_map] at hxi
  cases hr' : ns[i]? with
  | none => rw [hr'] at hxi; cases hxi
  | some x =>
    rw [hr'] at hxi
    have ev : c x = v := by simpa using hxi
    subst ev
    have et : ns.take (i + 1) = ns.take i ++ [x] := by rw [List.take_add_one, hr']; rfl
    refine hs x t H' (fun v σ2 H4 => MInvG H rest ns p f (i + 1) (((ns.take i).filter p).map f ++ [v]) σ2 H4) (fun σ2 H3 => MInvG H rest ns p f (i + 1) (((ns.take i).filter p).map f) σ2 H3) (List.mem_of_getElem? hr') s (fun e t H4 s4 => ⟨s4, ⟨t, rfl⟩, ?_⟩) (fun e t H3 s3 => ⟨s3, ⟨t, rfl⟩, ?_⟩)
    · rw [et, List.filter_append, List.map_append]
      simp [e]
    · rw [et, List.filter_append, List.map_append]
      simp [e]
theorem MInvG.len {α : Type} {H : Hp} {rest : St} {ns : List α} {p : α → Bool} {f : α → V} (i : Nat) (ys : List V) (σ' : St) (H' : Hp) (h : MInvG H rest ns p f i ys σ' H') : ys.length ≤ i := by
  obtain ⟨_, _, rfl⟩ := h
  rw [List.length_map]
  exact Nat.le_trans (List.length_filter_le _ _) (by rw [List.length_take]; omega)
theorem comp_genT {α : Type} {a : Addr} {ns : List α} {g : TG} {tt : TT} {te : TE} {H : Hp} {Q : VK} {t0 : Option V} {rest : St} (c : α → V) (p : α → Bool) (f : α → V) (hS : H a = some (.tup (ns.map c))) (hn : ns.length ≤ 1000)
    (hs : ∀ (n : α) (t : Option V) (H' : Hp) (R1 : V → St → Hp → Prop) (R0 : St → Hp → Prop), n ∈ ns → Same H H' → (p n = true → ∀ t H4, Same H H4 → R1 (f n) (t :: rest) H4) → (p n = false → ∀ t H3, Same H H3 → R0 (t :: rest) H3) →
      g (c n) (t :: rest) H' fun σ2 H2 => tt σ2 H2 fun b H3 => if b = true then te σ2 H3 (fun v H4 => R1 v σ2 H4) else R0 σ2 H3)
    (hd : ∀ (H' : Hp) (l : Addr), Same H H' → H' l = none → Q (.ref l) (upd H' l (.lst ((ns.filter p).map f)))) : CompW (Itt K a) g tt te Q (t0 :: rest) H := by
  refine comp_tup (K := K) (a := a) (xs := ns.map c) (MInvG H rest ns p f) ⟨Same.refl _, ⟨_, rfl⟩, rfl⟩ (small1000 (by rw [List.length_map]; exact hn)) MInvG.len ?_ (MInvG.step hs) ?_
  · rintro i ys σ' H' _ ⟨s, _, _⟩
    exact SqT.of (s _ _ hS)
  · rintro ys σ' H' ⟨s, _, rfl⟩ l hl
    have := hd H' l s hl
    rw [List.length_map, List.take_length]
    exact this
end
section
variable {P : Program} {w : World} {K : PySem.W.Frag} {mg : Str → Option Value} {base : Heap} {f : Addr} {fd : FuncData}
def spRk : Sp := fun vs H Q _ => ∃ (w : Wd) (a b : Int), vs = [.str w.str, .int a, .int b] ∧ (w = .quo → b ≠ 0) ∧ b.natAbs < 1073741824 ∧ ∀ H', Same H H' → Q (.int (w.worth a b)) H'
theorem ok_law_reckoned (F : Fun K "_law_reckoned" "_law_reckoned" s_law_reckoned f fd) (b_sorted : mg "sorted" = none) : FnOk P w K mg base CX0 1 f fd ["_law_word", "_law_one", "_law_other"] spRk := by
  refine F.ok sc_law_reckoned (fun vs H Q E h => ?_) (fun cdv A outer s H vs Q E hr h => ?_)
  · obtain ⟨w, a, b, rfl, _⟩ := h
    rfl
  obtain ⟨w, a, b, rfl, hq, hb, q⟩ := h
  refine ⟨_, (pss_cons (ps_if (pt_cmpR (gEq hr.units) (pe_var (i := 0) rfl vis_law_reckoned__law_word db__law_word cd__law_word) pe_str (nomark _)) (pss_one (ps_ret (pe_op op_add (pe_var (i := 1) rfl vis_law_reckoned__law_one db__law_one cd__law_one) (pe_var (i := 2) rfl vis_law_reckoned__law_other db__law_other cd__law_other)))) pss_nil)
  (pss_cons (ps_if (pt_cmpR (gEq hr.units) (pe_var (i := 0) rfl vis_law_reckoned__law_word db__law_word cd__law_word) pe_str (nomark _)) (pss_one (ps_ret (pe_op op_sub (pe_var (i := 1) rfl vis_law_reckoned__law_one db__law_one cd__law_one) (pe_var (i := 2) rfl vis_law_reckoned__law_other db__law_other cd__law_other)))) pss_nil)
  (pss_cons (ps_if (pt_cmpR (gEq hr.units) (pe_var (i := 0) rfl vis_law_reckoned__law_word db__law_word cd__law_word) pe_str (nomark _)) (pss_one (ps_ret (pe_op op_mul (pe_var (i := 1) rfl vis_law_reckoned__law_one db__law_one cd__law_one) (pe_var (i := 2) rfl vis_law_reckoned__law_other db__law_other cd__law_other)))) pss_nil)
  (pss_cons (ps_if (pt_cmpR (gEq hr.units) (pe_var (i := 0) rfl vis_law_reckoned__law_word db__law_word cd__law_word) pe_str (nomark _)) (pss_one (ps_ret (pe_op op_fdivN (pe_var (i := 1) rfl vis_law_reckoned__law_one db__law_one cd__law_one) (pe_var (i := 2) rfl vis_law_reckoned__law_other db__law_other cd__law_other)))) pss_nil)
  (pss_cons (ps_if (pt_cmpR (gIn hr.units) (pe_var (i := 0) rfl vis_law_reckoned__law_word db__law_word cd__law_word) (pe_tup (pa_c pe_str (pa_c pe_str pa_nil))) (by with_unfolding_all rfl)) (pss_one (ps_ret (pe_ifExp (pt_ifExp (pt_cmpR (gEq hr.units) (pe_var (i := 0) rfl vis_law_reckoned__law_word db__law_word cd__law_word) pe_str (nomark _)) (pt_cmpR op_lt (pe_var (i := 1) rfl vis_law_reckoned__law_one db__law_one cd__law_one) (pe_var (i := 2) rfl vis_law_reckoned__law_other db__law_other cd__law_other) (nomark _)) (pt_cmpR op_eqI (pe_var (i := 1) rfl vis_law_reckoned__law_one db__law_one cd__law_one) (pe_var (i := 2) rfl vis_law_reckoned__law_other db__law_other cd__law_other) (nomark _))) pe_int pe_int))) pss_nil)
  (pss_one (ps_ret (pe_ix ix_list (pe_cB call_sortedI gl_law_reckoned_sorted b_sorted bt_sorted (pa_c (pe_lst (pa_c (pe_var (i := 1) rfl vis_law_reckoned__law_one db__law_one cd__law_one) (pa_c (pe_var (i := 2) rfl vis_law_reckoned__law_other db__law_other cd__law_other) pa_nil))) pa_nil) nn_sorted db_sorted) (pe_ifExp (pt_cmpR (gEq hr.units) (pe_var (i := 0) rfl vis_law_reckoned__law_word db__law_word cd__law_word) pe_str (nomark _)) pe_int pe_int) (fun _ _ => rfl))))))))), ?_⟩
  walk_at "rd"
  have hm : CMul a b := .inr ⟨by omega, by omega⟩
  refine ⟨_, eqW w .add, ?_⟩
  split
  · rename_i e; cases of_decide_eq_true e; exact q _ (Same.refl _)
  rename_i n1
  refine ⟨_, eqW w .sub, ?_⟩
  split
  · rename_i e; cases of_decide_eq_true e; exact q _ (Same.refl _)
  rename_i n2
  refine ⟨_, eqW w .mul, ?_⟩
  split
  · rename_i e; cases of_decide_eq_true e; exact ⟨hm, q _ (Same.refl _)⟩
  rename_i n3
  refine ⟨_, eqW w .quo, ?_⟩
  split
  · rename_i e; cases of_decide_eq_true e; exact ⟨⟨hq rfl, hb⟩, q _ (Same.refl _)⟩
  rename_i n4
  refine ⟨zl 2 (by decide), fun p hp => ?_⟩
  have s1 := same_new hp (HO.tup [V.str (Wd.str .less), V.str (Wd.str .same)])
  have e1 : upd H p (HO.tup [V.str (Wd.str .less), V.str (Wd.str .same)]) p = _ := upd_same
  have hin : InOf K (V.str w.str) (V.ref p) (upd H p (HO.tup [V.str (Wd.str .less), V.str (Wd.str .same)])) (decide (w = .less ∨ w = .same)) :=
    .inl ⟨p, _, rfl, .inr (SqT.of e1), rfl, rfl, by cases w <;> decide +kernel⟩
  refine ⟨_, hin, ?_⟩
  split
  · rename_i e
    refine ⟨_, eqW w .less, ?_⟩
    split
    · rename_i e; cases of_decide_eq_true e
      have q : Q (.int (if a < b then 1 else 0)) _ := q _ s1
      split
      · rename_i c; rw [if_pos c] at q; exact q
      · rename_i c; rw [if_neg c] at q; exact q
    · rename_i e2
      have e : w = .same := (of_decide_eq_true e).resolve_left fun z => e2 (decide_eq_true z)
      cases e
      have q : Q (.int (if a = b then 1 else 0)) _ := q _ s1
      split
      · rename_i c; rw [if_pos c] at q; exact q
      · rename_i c; rw [if_neg c] at q; exact q
  · rename_i e
    refine ⟨zl 2 (by decide), fun p1 hp1 => ⟨[a, b], SqL.of upd_same, by simp, fun l ms hl hpm hpw => ?_⟩⟩
    have s2 := same_new hp1 (HO.lst [V.int a, V.int b])
    have s3 := same_new hl (HO.lst (ms.map V.int))
    obtain ⟨x, y, rfl⟩ : ∃ x y, ms = [x, y] := by
      have := hpm.length_eq
      match ms, this with
      | [x, y], _ => exact ⟨x, y, rfl⟩
    have hxy : x ≤ y := by
      have := List.pairwise_cons.mp hpw
      exact this.1 y (by simp)
    have hmem : (x = a ∧ y = b) ∨ (x = b ∧ y = a) := by
      have h1 : x ∈ [a, b] := hpm.mem_iff.mp (by simp)
      have h2 : y ∈ [a, b] := hpm.mem_iff.mp (by simp)
      have h3 : a ∈ [x, y] := hpm.mem_iff.mpr (by simp)
      have h4 : b ∈ [x, y] := hpm.mem_iff.mpr (by simp)
      simp only [List.mem_cons, List.not_mem_nil, or_false] at h1 h2 h3 h4
      omega
    refine ⟨_, eqW w .min, ?_⟩
    split
    · rename_i e2; cases of_decide_eq_true e2
      refine ⟨_, SqL.of upd_same, V.int x, rfl, ?_⟩
      have q : Q (.int (if b < a then b else a)) _ := q _ (s1.trans (s2.trans s3))
      have ex : x = if b < a then b else a := by split <;> omega
      rw [← ex] at q; exact q
    · rename_i e2
      have e5 : w = .max := by
        cases w <;> first | rfl | exact absurd rfl (by assumption)
      cases e5
      refine ⟨_, SqL.of upd_same, V.int y, rfl, ?_⟩
      have q : Q (.int (if b > a then b else a)) _ := q _ (s1.trans (s2.trans s3))
      have ex : y = if b > a then b else a := by split <;> omega
      rw [← ex] at q; exact q
end
end SR


set_option Elab.async false
set_option linter.all false
set_option maxRecDepth 100000
set_option maxHeartbeats 0
namespace SR
open PySem L2
local macro_rules | `(tactic| walk_at "rd") => `(tactic| simp only [tSeq, tIfS, tTest, tOp, tVar, tC, tAsg, gName, gTup, gCons, gNil, tRet, tRetN, tDrop, tNext, tCB, tCons, tNil, tCall, tUn, rU, rI0, rI, tAnd, tOr, tNot, tB, tAndV, tOrV, tNotV, tIf, tIfT, tKGet, tChain, tDGet, tDGet1, sDPut, tDNewK, tDisp, tPairs, tCont, tSl, tNoPart, tPart, rSlT, tChain3, qSortS, qEqDL, qNeDL, tFor_enum, tFor_zip, tFor_rng2, tComp_seq, qSetI, qSortSet, cxOf_prog, cxOf_w, cxOf_nox_prog, cxOf_nox_w, tTup, tLst, tBM,
  qEq, qNe, qIn, qNotIn, qIsN, qNotN, qIsB, qNotB, qLen, qInst, qEqD, qNeD, qMinL, qMaxL, qSortI, rIx, rIxL, rIxT, rIxS, rCat, rCatT2, rRep, rRepT, rLeS, rLtS, rAppend, rExtend, tNever, tBreak, tYes,
  tFor_tup, tFor_list, tFor_rng1, tComp_tup, tComp_list, tComp_str, L2.start, cxOf_K, cxOf_nox_K, cxComp_K, List.map_cons, List.map_nil, List.length_cons, List.length_nil, List.replicate_succ, List.replicate_zero, Nat.reduceAdd, Nat.reduceSub, Nat.zero_add, Nat.add_zero, Nat.sub_zero, Nat.sub_self, Nat.add_sub_cancel,
  List.getElem?_cons_zero, List.getElem?_cons_succ, List.set_cons_zero, List.set_cons_succ, List.cons_append, List.nil_append, List.append_nil, List.cons.injEq, Option.some.injEq, V.int.injEq, V.ref.injEq, V.str.injEq, V.bl.injEq, V.ty.injEq,
  reduceCtorEq, false_and, and_false, and_true, true_and, exists_false, exists_const, false_or, or_false, exists_eq_left, exists_eq_left', exists_eq_right, exists_eq_right', exists_and_left, decide_eq_true_eq, Bool.not_eq_true', Bool.decide_eq_true, exists_eq, true_or, or_true, Bool.false_eq_true, if_true, if_false, Bool.true_eq_false, Bool.not_true, Bool.not_false, decide_true, decide_false, List.isEmpty_cons, List.isEmpty_nil, Bool.true_and, Bool.false_and, bne_self_eq_false, beq_self_eq_true])
section
variable {P : Program} {w : World} {K : PySem.W.Frag} {mg : Str → Option Value} {base : Heap} {f : Addr} {fd : FuncData}
def spStr (K : PySem.W.Frag) : Sp := fun vs H Q _ => ∃ (a : Addr) (ns : List Int) (k : Int), vs = [.ref a, .int k] ∧ SqL K H a (ns.map V.int) ∧ 0 ≤ k ∧ ∀ (p : Addr) (H' : Hp) (lo hi : Int), Same H H' → H' p = some (.tup [.int lo, .int hi]) → lo ≤ hi → -32768 ≤ lo → hi ≤ 32767 → Q (.ref p) H'
theorem ok_law_stretch (F : Fun K "_law_stretch" "_law_stretch" s_law_stretch f fd) (b_min : mg "min" = none) (b_max : mg "max" = none) (c_law_pick : Callee P w K mg base "_law_pick" ["_law_script", "_law_k", "_law_many"] 2 (spPick K)) : FnOk P w K mg base CX0 3 f fd ["_law_script", "_law_at"] (spStr K) := by
  refine F.ok sc_law_stretch (fun vs H Q E h => ?_) (fun cdv A outer s H vs Q E hr h => ?_)
  · obtain ⟨a, ns, k, rfl, _⟩ := h
    rfl
  obtain ⟨a, ns, k, rfl, hS, hk, q⟩ := h
  refine ⟨_, (pss_cons (ps_set (i := 2) sc_law_stretch.nd rfl loc_law_stretch__law_ends_here (pe_lst (pa_c (pe_op op_sub (pe_cc c_law_pick hr (by omega) (pa_c (pe_var (i := 0) rfl vis_law_stretch__law_script db__law_script cd__law_script) (pa_c (pe_var (i := 1) rfl vis_law_stretch__law_at db__law_at cd__law_at) (pa_c pe_int pa_nil))) gl_law_stretch__law_pick db__law_pick) pe_int) (pa_c (pe_op op_sub (pe_cc c_law_pick hr (by omega) (pa_c (pe_var (i := 0) rfl vis_law_stretch__law_script db__law_script cd__law_script) (pa_c (pe_op op_add (pe_var (i := 1) rfl vis_law_stretch__law_at db__law_at cd__law_at) pe_int) (pa_c pe_int pa_nil))) gl_law_stretch__law_pick db__law_pick) pe_int) pa_nil))) (swaps_plain rfl))
  (pss_cons (ps_if (pt_cmpR op_eqI (pe_cc c_law_pick hr (by omega) (pa_c (pe_var (i := 0) rfl vis_law_stretch__law_script db__law_script cd__law_script) (pa_c (pe_op op_add (pe_var (i := 1) rfl vis_law_stretch__law_at db__law_at cd__law_at) pe_int) (pa_c pe_int pa_nil))) gl_law_stretch__law_pick db__law_pick) pe_int (nomark _)) (pss_one (ps_set (i := 2) sc_law_stretch.nd rfl loc_law_stretch__law_ends_here (pe_lst (pa_c (pe_ix ix_list (pe_var (i := 2) rfl vis_law_stretch__law_ends_here db__law_ends_here cd__law_ends_here) pe_int (fun _ _ => rfl)) (pa_c (pe_cB (call_min2 rfl) gl_law_stretch_min b_min bt_min (pa_c pe_int (pa_c (pe_op op_add (pe_ix ix_list (pe_var (i := 2) rfl vis_law_stretch__law_ends_here db__law_ends_here cd__law_ends_here) pe_int (fun _ _ => rfl)) (pe_cc c_law_pick hr (by omega) (pa_c (pe_var (i := 0) rfl vis_law_stretch__law_script db__law_script cd__law_script) (pa_c (pe_op op_add (pe_var (i := 1) rfl vis_law_stretch__law_at db__law_at cd__law_at) pe_int) (pa_c pe_int pa_nil))) gl_law_stretch__law_pick db__law_pick)) pa_nil)) nn_min db_min) pa_nil))) (swaps_plain rfl))) pss_nil)
  (pss_cons (ps_if (pt_cmpR op_eqI (pe_cc c_law_pick hr (by omega) (pa_c (pe_var (i := 0) rfl vis_law_stretch__law_script db__law_script cd__law_script) (pa_c (pe_op op_add (pe_var (i := 1) rfl vis_law_stretch__law_at db__law_at cd__law_at) pe_int) (pa_c pe_int pa_nil))) gl_law_stretch__law_pick db__law_pick) pe_int (nomark _)) (pss_one (ps_set (i := 2) sc_law_stretch.nd rfl loc_law_stretch__law_ends_here (pe_lst (pa_c (pe_op op_fdiv (pe_ix ix_list (pe_var (i := 2) rfl vis_law_stretch__law_ends_here db__law_ends_here cd__law_ends_here) pe_int (fun _ _ => rfl)) pe_int) (pa_c (pe_op op_fdiv (pe_ix ix_list (pe_var (i := 2) rfl vis_law_stretch__law_ends_here db__law_ends_here cd__law_ends_here) pe_int (fun _ _ => rfl)) pe_int) pa_nil))) (swaps_plain rfl))) pss_nil)
  (pss_one (ps_ret (pe_tup (pa_c (pe_cB (call_minL rfl) gl_law_stretch_min b_min bt_min (pa_c (pe_var (i := 2) rfl vis_law_stretch__law_ends_here db__law_ends_here cd__law_ends_here) pa_nil) nn_min db_min) (pa_c (pe_cB (call_maxL rfl) gl_law_stretch_max b_max bt_max (pa_c (pe_var (i := 2) rfl vis_law_stretch__law_ends_here db__law_ends_here cd__law_ends_here) pa_nil) nn_max db_max) pa_nil)))))))), ?_⟩
  walk_at "rd"
  have fin : ∀ (H1 : Hp) (p : Addr) (x y : Int), Same H H1 → H1 p = some (.lst [.int x, .int y]) → (-32768 ≤ x ∧ x ≤ 32767) → (-32768 ≤ y ∧ y ≤ 32767) →
      ∃ l : List Int, SqL K H1 p (l.map V.int) ∧ 0 < l.length ∧ ∀ M, M ∈ l → (∀ a, a ∈ l → M ≤ a) → ∃ l2 : List Int, SqL K H1 p (l2.map V.int) ∧ 0 < l2.length ∧ ∀ N, N ∈ l2 → (∀ a, a ∈ l2 → a ≤ N) → 2 ≤ sizeLine ∧ ∀ p2, H1 p2 = none → Q (V.ref p2) (upd H1 p2 (HO.tup [V.int M, V.int N])) := by
    intro H1 p x y s e hx hy
    refine ⟨[x, y], SqL.of e, by simp, fun M m1 m2 => ⟨[x, y], SqL.of e, by simp, fun N n1 n2 => ⟨zl 2 (by decide), fun p2 hp2 => ?_⟩⟩⟩
    have i1 : ∀ v, v ∈ [x, y] → -32768 ≤ v ∧ v ≤ 32767 := by
      intro v hv
      simp only [List.mem_cons, List.not_mem_nil, or_false] at hv
      rcases hv with rfl | rfl
      · exact hx
      · exact hy
    exact q _ _ M N (s.trans (same_new hp2 _)) upd_same (m2 N n1) (i1 M m1).1 (i1 N n1).2
  have dv : ∀ x : Int, (-32768 ≤ x ∧ x ≤ 32767) → -32768 ≤ x / 4096 ∧ x / 4096 ≤ 32767 := by
    intro x hx
    omega
  refine ⟨a, ns, k, 65536, rfl, hS, hk, by decide, fun i1 H1 g1 g2 t1 => ⟨_, rfl, ?_⟩⟩
  refine ⟨a, ns, _, 65536, rfl, t1.seq hS, by omega, by decide, fun i2 H2 g3 g4 t2 => ⟨_, rfl, zl 2 (by decide), fun p hp => ?_⟩⟩
  have s1 := (t1.trans t2).trans (same_new hp (HO.lst [V.int (i1 - 32768), V.int (i2 - 32768)]))
  have e1 : upd H2 p (HO.lst [V.int (i1 - 32768), V.int (i2 - 32768)]) p = _ := upd_same
  generalize upd H2 p (HO.lst [V.int (i1 - 32768), V.int (i2 - 32768)]) = U1 at s1 e1 ⊢
  refine ⟨a, ns, _, 3, rfl, s1.seq hS, by omega, by decide, fun i3 H3 g5 g6 t3 => ⟨_, rfl, ?_⟩⟩
  have e3 := t3 _ _ e1
  have s3 := s1.trans t3
  by_cases c : i3 = 0
  case' pos =>
    rw [if_pos c]
    refine ⟨_, SqL.of e3, _, rfl, _, SqL.of e3, _, rfl, a, ns, _, 40, rfl, s3.seq hS, by omega, by decide, fun i4 H4 g7 g8 t4 => ⟨_, rfl, _, rfl, _, _, ⟨rfl, rfl⟩, zl 2 (by decide), fun p' hp' => ?_⟩⟩
    have hy : -32768 ≤ (if i1 - 32768 + i4 < 32767 then i1 - 32768 + i4 else 32767) ∧ (if i1 - 32768 + i4 < 32767 then i1 - 32768 + i4 else 32767) ≤ 32767 := by split <;> omega
    generalize (if i1 - 32768 + i4 < 32767 then i1 - 32768 + i4 else 32767) = y at hy ⊢
    have hx : -32768 ≤ i1 - 32768 ∧ i1 - 32768 ≤ 32767 := by omega
    generalize i1 - 32768 = x at hx e3 ⊢
    have s5 := (s3.trans t4).trans (same_new hp' (HO.lst [V.int x, V.int y]))
    have e5 : upd H4 p' (HO.lst [V.int x, V.int y]) p' = _ := upd_same
    generalize upd H4 p' (HO.lst [V.int x, V.int y]) = U5 at s5 e5 ⊢
  case' neg =>
    rw [if_neg c]
    have hx : -32768 ≤ i1 - 32768 ∧ i1 - 32768 ≤ 32767 := by omega
    have hy : -32768 ≤ i2 - 32768 ∧ i2 - 32768 ≤ 32767 := by omega
    generalize i1 - 32768 = x at hx e3
    generalize i2 - 32768 = y at hy e3
    have s5 := s3
    have e5 := e3
  all_goals
    refine ⟨a, ns, _, 3, rfl, s5.seq hS, by omega, by decide, fun i6 H6 g9 g10 t6 => ⟨_, rfl, ?_⟩⟩
    have e6 := t6 _ _ e5
    have s6 := s5.trans t6
    by_cases c' : i6 = 0
    · rw [if_pos c']
      refine ⟨_, SqL.of e6, _, rfl, _, rfl, ⟨by decide, by decide⟩, _, SqL.of e6, _, rfl, _, rfl, ⟨by decide, by decide⟩, zl 2 (by decide), fun p7 hp7 => ?_⟩
      exact fin _ _ _ _ (s6.trans (same_new hp7 _)) upd_same (dv x hx) (dv y hy)
    · rw [if_neg c']
      exact fin _ _ _ _ s6 e6 hx hy
def Ends (lo hi v : Int) : Prop := (v = lo ∨ v = hi ∨ v = -1 ∨ v = 1) ∧ lo ≤ v ∧ v ≤ hi
def spEd (K : PySem.W.Frag) : Sp := fun vs H Q _ => ∃ (p : Addr) (lo hi : Int), vs = [.ref p] ∧ H p = some (.tup [.int lo, .int hi]) ∧ lo ≤ hi ∧ ∀ (l : Addr) (H' : Hp) (ms : List Int), Same H H' → H' l = some (.lst (ms.map V.int)) → (∀ v, v ∈ ms ↔ Ends lo hi v) → ms.length ≤ 4 → Q (.ref l) H'
theorem ok_law_ends (F : Fun K "_law_ends" "_law_ends" s_law_ends f fd) (b_sorted : mg "sorted" = none) (b_set : mg "set" = none) : FnOk P w K mg base CX0 1 f fd ["_law_stretch_here"] (spEd K) := by
  refine F.ok sc_law_ends (fun vs H Q E h => ?_) (fun cdv A outer s H vs Q E hr h => ?_)
  · obtain ⟨p, lo, hi, rfl, _⟩ := h
    rfl
  obtain ⟨p, lo, hi, rfl, hp, hle, q⟩ := h
  refine ⟨_, (pss_one (ps_ret (pe_cB (call_sortedSet rfl) gl_law_ends_sorted b_sorted bt_sorted (pa_c (pe_cT (call_setI rfl) gl_law_ends_set b_set bt_set (pa_c (pe_comp ["_law_n", "_law_stretch_here"] [none, some 0] rfl (CompS.of (by rfl)) (pi_tup (pe_tup (pa_c (pe_ix ix_tup (pe_var (i := 0) rfl vis_law_ends__law_stretch_here db__law_stretch_here cd__law_stretch_here) pe_int (fun _ _ => rfl)) (pa_c (pe_ix ix_tup (pe_var (i := 0) rfl vis_law_ends__law_stretch_here db__law_stretch_here cd__law_stretch_here) pe_int (fun _ _ => rfl)) (pa_c (pe_un un_neg pe_int) (pa_c pe_int pa_nil)))))) (fun _ _ _ _ _ => (pg_name (i := 0) (show List.Nodup (["_law_n", "_law_stretch_here"] : List Str) from by decide +kernel) rfl (Or.inl rfl))) (fun _ _ _ _ _ => (pif_one (pt_chain op_le op_le (pe_ix (ixK (r := rIxT) (K := K) ix_tup rfl) (pe_var (i := 1) rfl (by first | exact Or.inl rfl | exact Or.inr (Or.inl rfl) | exact Or.inr (Or.inr rfl)) db__law_stretch_here cd__law_stretch_here) pe_int (fun _ _ => rfl)) (pe_var (i := 0) rfl (by first | exact Or.inl rfl | exact Or.inr (Or.inl rfl) | exact Or.inr (Or.inr rfl)) db__law_n cd__law_n) (pe_ix (ixK (r := rIxT) (K := K) ix_tup rfl) (pe_var (i := 1) rfl (by first | exact Or.inl rfl | exact Or.inr (Or.inl rfl) | exact Or.inr (Or.inr rfl)) db__law_stretch_here cd__law_stretch_here) pe_int (fun _ _ => rfl))))) (fun _ _ _ _ _ => (pe_var (i := 0) rfl (by first | exact Or.inl rfl | exact Or.inr (Or.inl rfl) | exact Or.inr (Or.inr rfl)) db__law_n cd__law_n))) pa_nil) nn_set db_set) pa_nil) nn_sorted db_sorted))), ?_⟩
  walk_at "rd"
  refine ⟨_, SqT.of hp, _, rfl, _, SqT.of hp, _, rfl, zl 4 (by decide), fun p1 hp1 => ?_⟩
  have s1 := same_new hp1 (HO.tup [V.int lo, V.int hi, V.int (-1), V.int 1])
  have e1 : upd H p1 (HO.tup [V.int lo, V.int hi, V.int (-1), V.int 1]) p1 = _ := upd_same
  generalize upd H p1 (HO.tup [V.int lo, V.int hi, V.int (-1), V.int 1]) = U at s1 e1 ⊢
  refine ⟨⟨_, SqT.of e1⟩, comp_genT (ns := [lo, hi, -1, 1]) (rest := [some (.ref p)]) (t0 := none) V.int (fun v => decide (lo ≤ v) && decide (v ≤ hi)) V.int e1 (by simp) ?_ ?_⟩
  · intro n t H' R1 R0 hn sn r1 r0
    have hp' := sn _ _ (s1 _ _ hp)
    walk_at "rd"
    refine ⟨_, SqT.of hp', _, rfl, _, rfl, ?_⟩
    by_cases c1 : lo ≤ n
    · rw [if_pos c1]
      refine ⟨_, SqT.of hp', _, rfl, _, rfl, ?_⟩
      by_cases c2 : n ≤ hi
      · rw [if_pos c2]
        exact r1 (by simp [c1, c2]) _ _ sn
      · rw [if_neg c2]
        exact r0 (by simp [c2]) _ _ sn
    · rw [if_neg c1]
      exact r0 (by simp [c1]) _ _ sn
  intro H2 l s2 hl
  have u2 := same_new hl (HO.lst (([lo, hi, -1, 1].filter fun v => decide (lo ≤ v) && decide (v ≤ hi)).map V.int))
  have e2 : upd H2 l (HO.lst (([lo, hi, -1, 1].filter fun v => decide (lo ≤ v) && decide (v ≤ hi)).map V.int)) l = _ := upd_same
  generalize upd H2 l (HO.lst (([lo, hi, -1, 1].filter fun v => decide (lo ≤ v) && decide (v ≤ hi)).map V.int)) = U2 at u2 e2 ⊢
  have hlen : ([lo, hi, -1, 1].filter fun v => decide (lo ≤ v) && decide (v ≤ hi)).length ≤ 4 := List.length_filter_le _ _
  have hmem : ∀ v, v ∈ ([lo, hi, -1, 1].filter fun v => decide (lo ≤ v) && decide (v ≤ hi)) ↔ Ends lo hi v := fun v => by
    simp [Ends]
  generalize ([lo, hi, -1, 1].filter fun v => decide (lo ≤ v) && decide (v ≤ hi)) = ns at e2 hlen hmem
  refine ⟨_, rfl, ns, SqL.of e2, by omega, fun p3 ks hp3 hnd hks hkl => ⟨ks, upd_same, by omega, fun l4 ms hl4 pm _ => ?_⟩⟩
  refine q _ _ ms (s1.trans (s2.trans (u2.trans ((same_new hp3 _).trans (same_new hl4 _))))) upd_same (fun v => ?_) (by rw [pm.length_eq]; omega)
  rw [pm.mem_iff, hks, hmem]
/-! ### what the law's ends come to -/
theorem ValE.ends {w : Wd} {a b c d v : Int} (h : ValE w a b c d v) : ∃ x y, Ends a b x ∧ Ends c d y ∧ (w = .quo → y ≠ 0) ∧ v = w.worth x y := by
  obtain ⟨x, y, h1, h2, h3, h4, h5, h6, h7, h8⟩ := h
  exact ⟨x, y, ⟨h1.elim .inl fun z => .inr (.inl z), h3, h4⟩, ⟨h2, h5, h6⟩, h7, h8⟩
theorem none_quo {w : Wd} {a b c d : Int} (hab : a ≤ b) (hcd : c ≤ d) (h : IsS w a b c d none) : w = .quo ∧ c = 0 ∧ d = 0 := by
  have hq : w = .quo := by
    by_cases e : w = .quo
    · exact e
    · exact absurd ⟨a, c, Int.le_refl _, hab, Int.le_refl _, hcd, fun z => absurd z e, rfl⟩ (h (w.worth a c))
  have hc : c = 0 := by
    by_cases e : c = 0
    · exact e
    · exact absurd ⟨a, c, Int.le_refl _, hab, Int.le_refl _, hcd, fun _ => e, rfl⟩ (h (w.worth a c))
  have hd : d = 0 := by
    by_cases e : d = 0
    · exact e
    · exact absurd ⟨a, d, Int.le_refl _, hab, hcd, Int.le_refl _, fun _ => e, rfl⟩ (h (w.worth a d))
  exact ⟨hq, hc, hd⟩
theorem less_is {a b c d : Int} (hab : a ≤ b) (hcd : c ≤ d) {u v : Int} (h : IsS .less a b c d (some (u, v))) : u = (if b < c then 1 else 0) ∧ v = (if a < d then 1 else 0) := by
  have k1 : ∀ x y, Wd.less.worth x y = if x < y then 1 else 0 := fun x y => rfl
  obtain ⟨⟨x1, y1, g1, g2, g3, g4, _, g5⟩, ⟨x2, y2, g6, g7, g8, g9, _, g10⟩, hall, _⟩ := h
  have z1 := hall _ ⟨b, c, hab, Int.le_refl _, Int.le_refl _, hcd, fun z => (by cases z), rfl⟩
  have z2 := hall _ ⟨a, d, Int.le_refl _, hab, hcd, Int.le_refl _, fun z => (by cases z), rfl⟩
  rw [k1] at g5 g10 z1 z2
  constructor
  · by_cases e : b < c
    · rw [if_pos e]
      rw [if_pos (by omega)] at g5
      exact g5
    · rw [if_neg e] at z1 ⊢
      split at g5 <;> omega
  · by_cases e : a < d
    · rw [if_pos e] at z2 ⊢
      split at g10 <;> omega
    · rw [if_neg e]
      rw [if_neg (by omega)] at g10
      exact g10
theorem within_less {w : Wd} {a b b' c d : Int} {u v : Int} {o : S} (hb : b' ≤ b) (h : IsS w a b c d (some (u, v))) (h' : IsS w a b' c d o) : within o (some (u, v)) = true := by
  unfold within
  rw [decide_eq_true_eq]
  cases o with
  | none => rfl
  | some p =>
    obtain ⟨u', v'⟩ := p
    have e1 := h.2.2.1 _ (h'.1.mono (Int.le_refl _) hb (Int.le_refl _) (Int.le_refl _))
    have e2 := h.2.2.1 _ (h'.2.1.mono (Int.le_refl _) hb (Int.le_refl _) (Int.le_refl _))
    have e3 := h'.2.2.1 _ h'.2.1
    have m1 : mx u' u = u' := by unfold mx; split <;> omega
    have m2 : mn v' v = v' := by unfold mn; split <;> omega
    show bet (mx u' u) (mn v' v) = _
    rw [m1, m2]
    unfold bet
    rw [if_neg (by omega)]
def words8 : List Wd := [.add, .sub, .mul, .quo, .less, .same, .min, .max]
theorem eqWd (w v : Wd) : decide (w = v) = decide (w.str = v.str) := by cases w <;> cases v <;> decide +kernel
def LI (H : Hp) (a p1 p2 : Addr) (j : Nat) (σ : St) (Hc : Hp) : Prop := ∃ x3 x4 x5 x6 x7 x8 x9 : Option V, σ = [some (.ref a), some (.ref p1), some (.ref p2), x3, x4, x5, x6, x7, x8, x9] ∧ Same H Hc
/-- what is among the worths once so many of the one's ends are gone through -/
def Among (wd : Wd) (xs : List Int) (c d v : Int) : Prop := ∃ x ∈ xs, ∃ y, Ends c d y ∧ (wd = .quo → y ≠ 0) ∧ v = wd.worth x y
def FI (H : Hp) (a p1 p2 pq pw pe : Addr) (wd : Wd) (xs : List Int) (c d : Int) (y7 y8 y9 : Option V) (i : Nat) (σ : St) (Hc : Hp) : Prop := ∃ (x6 : Option V) (ws : List Int), σ = [some (.ref a), some (.ref p1), some (.ref p2), some (.str wd.str), some (.ref pq), some (.ref pw), x6, y7, y8, y9] ∧ Same H Hc ∧ Hc pe = some (.lst (xs.map V.int)) ∧ Hc pw = some (.lst (ws.map V.int)) ∧ ws.length ≤ 4 * i ∧ ∀ v, v ∈ ws ↔ Among wd (xs.take i) c d v
def GI (H : Hp) (a p1 p2 pq pw : Addr) (wd : Wd) (y9 : Option V) (i : Nat) (σ : St) (Hc : Hp) : Prop := ∃ (x6 x7 x8 : Option V), σ = [some (.ref a), some (.ref p1), some (.ref p2), some (.str wd.str), some (.ref pq), some (.ref pw), x6, x7, x8, y9] ∧ Same H Hc
theorem way_on {Hy C : Hp → Prop} {G : Prop} (h1 : (∀ Hx, Hy Hx → C Hx) → G) (h2 : ∀ Hx, Hy Hx → C Hx) : G := h1 h2
def spLaw (K : PySem.W.Frag) : Sp := fun vs H Q _ => ∃ (a : Addr) (ns : List Int), vs = [.ref a] ∧ SqL K H a (ns.map V.int) ∧ ns.length ≤ 63 ∧ ∀ H', Q (.bl true) H'
theorem ok_law (F : Fun K "law" "law" s_law f fd) (b_range : mg "range" = none) (b_min : mg "min" = none) (b_max : mg "max" = none) (b_int : mg "int" = none)
    (c_law_pick : Callee P w K mg base "_law_pick" ["_law_script", "_law_k", "_law_many"] 2 (spPick K)) (c_law_stretch : Callee P w K mg base "_law_stretch" ["_law_script", "_law_at"] 3 (spStr K)) (c_law_ends : Callee P w K mg base "_law_ends" ["_law_stretch_here"] 1 (spEd K))
    (c_law_reckoned : Callee P w K mg base "_law_reckoned" ["_law_word", "_law_one", "_law_other"] 1 spRk) (c_stretch_of : Callee P w K mg base "stretch_of" ["word", "one", "other"] 4 spOf) (c_is_within : Callee P w K mg base "is_within" ["one", "other"] 3 spWithin) : FnOk P w K mg base CX0 6 f fd ["_law_script"] (spLaw K) := by
  refine F.ok sc_law (fun vs H Q E h => ?_) (fun cdv A outer s H vs Q E hr h => ?_)
  · obtain ⟨a, ns, rfl, _⟩ := h
    rfl
  obtain ⟨a, ns, rfl, hS, hl, q⟩ := h
  refine ⟨_, (pss_cons (ps_set (i := 1) sc_law.nd rfl loc_law__law_one (pe_cc c_law_stretch hr (by omega) (pa_c (pe_var (i := 0) rfl vis_law__law_script db__law_script cd__law_script) (pa_c pe_int pa_nil)) gl_law__law_stretch db__law_stretch) (swaps_plain rfl))
  (pss_cons (ps_set (i := 2) sc_law.nd rfl loc_law__law_other (pe_cc c_law_stretch hr (by omega) (pa_c (pe_var (i := 0) rfl vis_law__law_script db__law_script cd__law_script) (pa_c pe_int pa_nil)) gl_law__law_stretch db__law_stretch) (swaps_plain rfl))
  (pss_cons (ps_for PassesOwn.never rfl (pi_list (pe_lst (pa_c pe_str (pa_c pe_str (pa_c pe_str (pa_c pe_str (pa_c pe_str (pa_c pe_str (pa_c pe_str (pa_c pe_str pa_nil)))))))))) (pg_name (i := 3) sc_law.nd rfl loc_law__law_word)
  (pss_cons (ps_set (i := 4) sc_law.nd rfl loc_law__law_told (pe_cc c_stretch_of hr (by omega) (pa_c (pe_var (i := 3) rfl vis_law__law_word db__law_word cd__law_word) (pa_c (pe_var (i := 1) rfl vis_law__law_one db__law_one cd__law_one) (pa_c (pe_var (i := 2) rfl vis_law__law_other db__law_other cd__law_other) pa_nil))) gl_law_stretch_of db_stretch_of) (swaps_plain rfl))
  (pss_cons (ps_if (pt_cmpR gIsN (pe_var (i := 4) rfl vis_law__law_told db__law_told cd__law_told) pe_non (nomark _)) (pss_cons (ps_if (PW.pt (pw_or (pt_cmpR (gNe hr.units) (pe_var (i := 3) rfl vis_law__law_word db__law_word cd__law_word) pe_str (nomark _)) (pw_or1 (pt_cmpR (dNe hr.units) (pe_var (i := 2) rfl vis_law__law_other db__law_other cd__law_other) (pe_tup (pa_c pe_int (pa_c pe_int pa_nil))) (nomark _))))) (pss_one (ps_ret pe_bl)) pss_nil)
  (pss_one ps_continue)) pss_nil)
  (pss_cons (ps_set (i := 5) sc_law.nd rfl loc_law__law_worths (pe_lst pa_nil) (swaps_plain rfl))
  (pss_cons (ps_for PassesOwn.never rfl (pi_list (pe_cc c_law_ends hr (by omega) (pa_c (pe_var (i := 1) rfl vis_law__law_one db__law_one cd__law_one) pa_nil) gl_law__law_ends db__law_ends)) (pg_name (i := 6) sc_law.nd rfl loc_law__law_mine)
  (pss_one (ps_expr (pe_bm PySem.F.plainAttrs_list PySem.F.slot_list_extend PySem.F.type_list_extend mt_extend (pe_var (i := 5) rfl vis_law__law_worths db__law_worths cd__law_worths) (pa_c (pe_comp ["_law_n", "_law_word", "_law_mine"] [none, some 3, some 6] rfl (CompS.of (by rfl)) (pi_list (pe_cc c_law_ends hr (by omega) (pa_c (pe_var (i := 2) rfl vis_law__law_other db__law_other cd__law_other) pa_nil) gl_law__law_ends db__law_ends)) (fun _ _ _ _ _ => (pg_name (i := 0) (show List.Nodup (["_law_n", "_law_word", "_law_mine"] : List Str) from by decide +kernel) rfl (Or.inl rfl))) (fun _ _ _ _ _ => (pif_one (PW.pt (pw_or (pt_cmpR (opK (r := qNe) (K := K) (gNe hr.units) rfl) (pe_var (i := 1) rfl (by first | exact Or.inl rfl | exact Or.inr (Or.inl rfl) | exact Or.inr (Or.inr rfl)) db__law_word cd__law_word) pe_str (nomark _)) (pw_or1 (pt_cmpR op_neI (pe_var (i := 0) rfl (by first | exact Or.inl rfl | exact Or.inr (Or.inl rfl) | exact Or.inr (Or.inr rfl)) db__law_n cd__law_n) pe_int (nomark _))))))) (fun _ _ _ _ _ => (pe_cc c_law_reckoned hr (by omega) (pa_c (pe_var (i := 1) rfl (by first | exact Or.inl rfl | exact Or.inr (Or.inl rfl) | exact Or.inr (Or.inr rfl)) db__law_word cd__law_word) (pa_c (pe_var (i := 2) rfl (by first | exact Or.inl rfl | exact Or.inr (Or.inl rfl) | exact Or.inr (Or.inr rfl)) db__law_mine cd__law_mine) (pa_c (pe_var (i := 0) rfl (by first | exact Or.inl rfl | exact Or.inr (Or.inl rfl) | exact Or.inr (Or.inr rfl)) db__law_n cd__law_n) pa_nil))) rfl db__law_reckoned))) pa_nil)) (swaps_plain rfl))))
  (pss_cons (ps_for PassesOwn.never rfl (pi_range1 gl_law_range b_range (pa_c pe_int pa_nil)) (pg_name (i := 7) sc_law.nd rfl loc_law__law_k)
  (pss_cons (ps_set (i := 6) sc_law.nd rfl loc_law__law_mine (pe_op op_add (pe_ix ix_tup (pe_var (i := 1) rfl vis_law__law_one db__law_one cd__law_one) pe_int (fun _ _ => rfl)) (pe_cc c_law_pick hr (by omega) (pa_c (pe_var (i := 0) rfl vis_law__law_script db__law_script cd__law_script) (pa_c (pe_op op_add pe_int (pe_op op_mul pe_int (pe_var (i := 7) rfl vis_law__law_k db__law_k cd__law_k))) (pa_c (pe_op op_add (pe_op op_sub (pe_ix ix_tup (pe_var (i := 1) rfl vis_law__law_one db__law_one cd__law_one) pe_int (fun _ _ => rfl)) (pe_ix ix_tup (pe_var (i := 1) rfl vis_law__law_one db__law_one cd__law_one) pe_int (fun _ _ => rfl))) pe_int) pa_nil))) gl_law__law_pick db__law_pick)) (swaps_plain rfl))
  (pss_cons (ps_set (i := 8) sc_law.nd rfl loc_law__law_yours (pe_op op_add (pe_ix ix_tup (pe_var (i := 2) rfl vis_law__law_other db__law_other cd__law_other) pe_int (fun _ _ => rfl)) (pe_cc c_law_pick hr (by omega) (pa_c (pe_var (i := 0) rfl vis_law__law_script db__law_script cd__law_script) (pa_c (pe_op op_add pe_int (pe_op op_mul pe_int (pe_var (i := 7) rfl vis_law__law_k db__law_k cd__law_k))) (pa_c (pe_op op_add (pe_op op_sub (pe_ix ix_tup (pe_var (i := 2) rfl vis_law__law_other db__law_other cd__law_other) pe_int (fun _ _ => rfl)) (pe_ix ix_tup (pe_var (i := 2) rfl vis_law__law_other db__law_other cd__law_other) pe_int (fun _ _ => rfl))) pe_int) pa_nil))) gl_law__law_pick db__law_pick)) (swaps_plain rfl))
  (pss_one (ps_if (PW.pt (pw_and (PW.pt (pw_or (pt_cmpR (gNe hr.units) (pe_var (i := 3) rfl vis_law__law_word db__law_word cd__law_word) pe_str (nomark _)) (pw_or1 (pt_cmpR op_neI (pe_var (i := 8) rfl vis_law__law_yours db__law_yours cd__law_yours) pe_int (nomark _))))) (pw_and1 (pt_not (pt_chain op_le op_le (pe_ix ix_tup (pe_var (i := 4) rfl vis_law__law_told db__law_told cd__law_told) pe_int (fun _ _ => rfl)) (pe_cc c_law_reckoned hr (by omega) (pa_c (pe_var (i := 3) rfl vis_law__law_word db__law_word cd__law_word) (pa_c (pe_var (i := 6) rfl vis_law__law_mine db__law_mine cd__law_mine) (pa_c (pe_var (i := 8) rfl vis_law__law_yours db__law_yours cd__law_yours) pa_nil))) gl_law__law_reckoned db__law_reckoned) (pe_ix ix_tup (pe_var (i := 4) rfl vis_law__law_told db__law_told cd__law_told) pe_int (fun _ _ => rfl))))))) (pss_one (ps_ret pe_bl)) pss_nil)))))
  (pss_cons (ps_if (PW.pt (pw_and (pt_cmpR (gNotIn hr.units) (pe_var (i := 3) rfl vis_law__law_word db__law_word cd__law_word) (pe_tup (pa_c pe_str (pa_c pe_str pa_nil))) (by with_unfolding_all rfl)) (pw_and1 (pt_cmpR (dNe hr.units) (pe_var (i := 4) rfl vis_law__law_told db__law_told cd__law_told) (pe_tup (pa_c (pe_cB (call_minL rfl) gl_law_min b_min bt_min (pa_c (pe_var (i := 5) rfl vis_law__law_worths db__law_worths cd__law_worths) pa_nil) nn_min db_min) (pa_c (pe_cB (call_maxL rfl) gl_law_max b_max bt_max (pa_c (pe_var (i := 5) rfl vis_law__law_worths db__law_worths cd__law_worths) pa_nil) nn_max db_max) pa_nil))) (nomark _))))) (pss_one (ps_ret pe_bl)) pss_nil)
  (pss_cons (ps_if (pt_cmpR (gNe hr.units) (pe_comp ["_law_worth_here", "_law_told"] [none, some 4] rfl (CompS.of (by rfl)) (pi_list (pe_var (i := 5) rfl vis_law__law_worths db__law_worths cd__law_worths)) (fun _ _ _ _ _ => (pg_name (i := 0) (show List.Nodup (["_law_worth_here", "_law_told"] : List Str) from by decide +kernel) rfl (Or.inl rfl))) (fun _ _ _ _ _ => (pif_one (pt_not (pt_chain op_le op_le (pe_ix (ixK (r := rIxT) (K := K) ix_tup rfl) (pe_var (i := 1) rfl (by first | exact Or.inl rfl | exact Or.inr (Or.inl rfl) | exact Or.inr (Or.inr rfl)) db__law_told cd__law_told) pe_int (fun _ _ => rfl)) (pe_var (i := 0) rfl (by first | exact Or.inl rfl | exact Or.inr (Or.inl rfl) | exact Or.inr (Or.inr rfl)) db__law_worth_here cd__law_worth_here) (pe_ix (ixK (r := rIxT) (K := K) ix_tup rfl) (pe_var (i := 1) rfl (by first | exact Or.inl rfl | exact Or.inr (Or.inl rfl) | exact Or.inr (Or.inr rfl)) db__law_told cd__law_told) pe_int (fun _ _ => rfl)))))) (fun _ _ _ _ _ => (pe_var (i := 0) rfl (by first | exact Or.inl rfl | exact Or.inr (Or.inl rfl) | exact Or.inr (Or.inr rfl)) db__law_worth_here cd__law_worth_here))) (pe_lst pa_nil) (nomark _)) (pss_one (ps_ret pe_bl)) pss_nil)
  (pss_cons (ps_set (i := 9) sc_law.nd rfl loc_law__law_less (pe_tup (pa_c (pe_ix ix_tup (pe_var (i := 1) rfl vis_law__law_one db__law_one cd__law_one) pe_int (fun _ _ => rfl)) (pa_c (pe_op op_add (pe_ix ix_tup (pe_var (i := 1) rfl vis_law__law_one db__law_one cd__law_one) pe_int (fun _ _ => rfl)) (pe_cc c_law_pick hr (by omega) (pa_c (pe_var (i := 0) rfl vis_law__law_script db__law_script cd__law_script) (pa_c pe_int (pa_c (pe_op op_add (pe_op op_sub (pe_ix ix_tup (pe_var (i := 1) rfl vis_law__law_one db__law_one cd__law_one) pe_int (fun _ _ => rfl)) (pe_ix ix_tup (pe_var (i := 1) rfl vis_law__law_one db__law_one cd__law_one) pe_int (fun _ _ => rfl))) pe_int) pa_nil))) gl_law__law_pick db__law_pick)) pa_nil))) (swaps_plain rfl))
  (pss_cons (ps_if (pt_not (pt_val (pe_cc c_is_within hr (by omega) (pa_c (pe_cc c_stretch_of hr (by omega) (pa_c (pe_var (i := 3) rfl vis_law__law_word db__law_word cd__law_word) (pa_c (pe_var (i := 9) rfl vis_law__law_less db__law_less cd__law_less) (pa_c (pe_var (i := 2) rfl vis_law__law_other db__law_other cd__law_other) pa_nil))) gl_law_stretch_of db_stretch_of) (pa_c (pe_var (i := 4) rfl vis_law__law_told db__law_told cd__law_told) pa_nil)) gl_law_is_within db_is_within))) (pss_one (ps_ret pe_bl)) pss_nil)
  (pss_one (ps_if (PW.pt (pw_and (pt_cmpR (gEq hr.units) (pe_var (i := 3) rfl vis_law__law_word db__law_word cd__law_word) pe_str (nomark _)) (pw_and1 (pt_cmpR (dNe hr.units) (pe_var (i := 4) rfl vis_law__law_told db__law_told cd__law_told) (pe_tup (pa_c (pe_cT call_int1 gl_law_int b_int bt_int (pa_c (pe_cmpR op_lt (pe_ix ix_tup (pe_var (i := 1) rfl vis_law__law_one db__law_one cd__law_one) pe_int (fun _ _ => rfl)) (pe_ix ix_tup (pe_var (i := 2) rfl vis_law__law_other db__law_other cd__law_other) pe_int (fun _ _ => rfl)) (nomark _)) pa_nil) nn_int db_int) (pa_c (pe_cT call_int1 gl_law_int b_int bt_int (pa_c (pe_cmpR op_lt (pe_ix ix_tup (pe_var (i := 1) rfl vis_law__law_one db__law_one cd__law_one) pe_int (fun _ _ => rfl)) (pe_ix ix_tup (pe_var (i := 2) rfl vis_law__law_other db__law_other cd__law_other) pe_int (fun _ _ => rfl)) (nomark _)) pa_nil) nn_int db_int) pa_nil))) (nomark _))))) (pss_one (ps_ret pe_bl)) pss_nil))))))))))))
  (pss_one (ps_ret pe_bl))))), ?_⟩
  walk_at "rd"
  refine ⟨a, ns, 0, rfl, hS, by decide, fun p1 H1 a1 b1 t1 e1 h1 h2 h3 => ?_⟩
  refine ⟨a, ns, 10, rfl, t1.seq hS, by decide, fun p2 H2 a2 b2 t2 e2 k1 k2 k3 => ⟨zl 8 (by decide), fun pl hpl => ?_⟩⟩
  have u3 := same_new hpl (HO.lst (words8.map fun w => V.str w.str))
  have e3 : upd H2 pl (HO.lst (words8.map fun w => V.str w.str)) pl = _ := upd_same
  rw [show (HO.lst [V.str (Str.ofString "add"), V.str (Str.ofString "sub"), V.str (Str.ofString "mul"), V.str (Str.ofString "quo"), V.str (Str.ofString "less"), V.str (Str.ofString "same"), V.str (Str.ofString "min"), V.str (Str.ofString "max")]) = HO.lst (words8.map fun w => V.str w.str) from rfl]
  generalize upd H2 pl (HO.lst (words8.map fun w => V.str w.str)) = U at u3 e3 ⊢
  have f1 := u3 _ _ (t2 _ _ e1)
  have f2 := u3 _ _ e2
  have hSU := (t1.trans (t2.trans u3)).seq hS
  refine ⟨⟨_, SqL.of e3⟩, ?_⟩
  refine for_list (K := K) (a := pl) (xs := words8.map fun w => V.str w.str) (LI U a p1 p2) ?w0 ?wl ?ws ?wd
  case w0 => exact ⟨_, _, _, _, _, _, _, rfl, Same.refl _⟩
  case wl =>
    rintro i σ He _ ⟨_, _, _, _, _, _, _, rfl, t⟩
    exact SqL.of (t _ _ e3)
  case wd =>
    rintro σ He ⟨_, _, _, _, _, _, _, rfl, t⟩
    walk_at "rd"
    exact q _
  case ws =>
    rintro i x σ Hc hx ⟨x3, x4, x5, x6, x7, x8, x9, rfl, tc⟩
    obtain ⟨wd, rfl⟩ : ∃ wd : Wd, V.str wd.str = x := by
      rw [List.getElem?_map] at hx
      cases er : words8[i]? with
      | none => rw [er] at hx; cases hx
      | some wd => exact ⟨wd, by rw [er] at hx; simpa using hx⟩
    walk_at "rd"
    have g1 := tc _ _ f1
    have g2 := tc _ _ f2
    have ok1 : okS 1073741824 (some (a1, b1)) := ⟨h1, by omega, by omega⟩
    have ok2 : okS 1073741824 (some (a2, b2)) := ⟨k1, by omega, by omega⟩
    refine ⟨wd, .ref p1, .ref p2, _, _, rfl, dtS_mk g1, dtS_mk g2, ok1, ok2, fun r Hd o td rel dr => ?_⟩
    have rel : IsS wd a1 b1 a2 b2 o := rel
    rcases dtS dr with ⟨rfl, rfl⟩ | ⟨u, v, pq, rfl, rfl, hq⟩
    · obtain ⟨rfl, rfl, rfl⟩ := none_quo h1 k1 rel
      dsimp only
      rw [if_pos rfl]
      refine ⟨_, ⟨rfl, eqWd .quo .quo⟩, ?_⟩
      rw [if_neg (by decide)]
      refine ⟨zl 2 (by decide), fun p hp => ?_⟩
      have sp := same_new hp (HO.tup [V.int 0, V.int 0])
      refine ⟨_, eqS_of (dtS_mk (sp _ _ (td _ _ g2))) (dtS_mk upd_same), ?_⟩
      rw [if_neg (by simp)]
      exact ⟨_, _, _, _, _, _, _, rfl, tc.trans (td.trans sp)⟩
    · dsimp only
      rw [if_neg (by simp)]
      refine ⟨Nat.zero_le _, fun pw hpw => ?_⟩
      have sw := same_new hpw (HO.lst [])
      have ew : upd Hd pw (HO.lst []) pw = _ := upd_same
      generalize upd Hd pw (HO.lst []) = U4 at sw ew ⊢
      have j1 := td _ _ g1
      have j2 := td _ _ g2
      have hSd := (tc.trans td).seq hSU
      refine ⟨p1, a1, b1, rfl, sw _ _ j1, h1, fun pe H5 ms t5 e5 hms hml => ⟨_, rfl, ⟨_, SqL.of e5⟩, ?_⟩⟩
      have npe : pe ≠ pw := fun z => by
        have y := t5 _ _ ew
        rw [← z, e5] at y
        have : a1 ∈ ms := (hms a1).mpr ⟨.inl rfl, Int.le_refl _, h1⟩
        cases ms with
        | nil => cases this
        | cons m l => simp at y
      refine for_list (K := K) (a := pe) (xs := ms.map V.int) (FI Hd a p1 p2 pq pw pe wd ms a2 b2 x7 x8 x9) ?f0 ?fl ?fs ?fd
      case f0 => exact ⟨_, [], rfl, sw.trans t5, e5, t5 _ _ ew, by simp, fun v => ⟨fun z => (by cases z), fun ⟨x, hx, _⟩ => (by simp at hx)⟩⟩
      case fl =>
        rintro i1 σ He _ ⟨_, _, rfl, _, t, _⟩
        exact SqL.of t
      case fs =>
        rintro i1 x σ He hx ⟨y6, ws, rfl, te, he5, hw, hwl, hwm⟩
        obtain ⟨x1, hx1, rfl⟩ : ∃ x1, ms[i1]? = some x1 ∧ V.int x1 = x := by
          rw [List.getElem?_map] at hx
          cases er : ms[i1]? with
          | none => rw [er] at hx; cases hx
          | some x1 => exact ⟨x1, rfl, by rw [er] at hx; simpa using hx⟩
        have hi1 : i1 < 4 := Nat.lt_of_lt_of_le (List.getElem?_eq_some_iff.mp hx1).1 hml
        have et : ms.take (i1 + 1) = ms.take i1 ++ [x1] := by rw [List.take_add_one, hx1]; rfl
        walk_at "rd"
        refine ⟨.inl ⟨rfl, _, SqL.of hw⟩, p2, a2, b2, rfl, te _ _ j2, k1, fun pf H6 ms2 t6 e6 hms2 hml2 => ⟨_, rfl, ⟨_, SqL.of e6⟩, ?_⟩⟩
        refine comp_ints (t0 := none) (rest := [some (.str wd.str), some (.int x1)]) (fun y => decide (wd ≠ .quo) || decide (y ≠ 0)) (fun y => wd.worth x1 y) (SqL.of e6) (by omega) ?_ ?_
        · intro y t H' R1 R0 hy s hp1 hp0
          have hy' := (hms2 y).mp hy
          have hyb : y.natAbs < 1073741824 := by
            have := hy'.2
            omega
          walk_at "rd"
          refine ⟨_, ⟨rfl, eqWd wd .quo⟩, ?_⟩
          by_cases hq' : wd = .quo
          · rw [if_neg (by simp [hq'])]
            by_cases hy0 : y = 0
            · rw [if_neg (by simp [hy0])]
              exact hp0 (by simp [hq', hy0]) _ _ s
            · rw [if_pos (by simp [hy0])]
              exact ⟨wd, x1, y, rfl, fun _ => hy0, hyb, fun H4 s4 => hp1 (by simp [hy0]) _ _ (s.trans s4)⟩
          · rw [if_pos (by simp [hq'])]
            exact ⟨wd, x1, y, rfl, fun z => absurd z hq', hyb, fun H4 s4 => hp1 (by simp [hq']) _ _ (s.trans s4)⟩
        · intro H7 l t7 hl
          have u7 := same_new hl (HO.lst (((ms2.filter fun y => decide (wd ≠ .quo) || decide (y ≠ 0)).map fun y => wd.worth x1 y).map V.int))
          have sz : ((ms2.filter fun y => decide (wd ≠ .quo) || decide (y ≠ 0)).map fun y => wd.worth x1 y).length ≤ 4 := by
            rw [List.length_map]
            exact Nat.le_trans (List.length_filter_le _ _) hml2
          refine ⟨_, rfl, _, (t6.trans (t7.trans u7)) _ _ hw, _, upd_same, by rw [List.length_map, List.length_map]; exact zl _ (by omega), ?_⟩
          refine ⟨_, ws ++ (ms2.filter fun y => decide (wd ≠ .quo) || decide (y ≠ 0)).map fun y => wd.worth x1 y, rfl, same_upd (te.trans (t6.trans (t7.trans u7))) hpw, ?_, by rw [upd_same, List.map_append], by rw [List.length_append]; omega, fun v => ?_⟩
          · rw [upd_ne npe]
            exact (t6.trans (t7.trans u7)) _ _ he5
          · rw [List.mem_append, hwm v, et]
            constructor
            · rintro (⟨x, hx, r⟩ | z)
              · exact ⟨x, List.mem_append_left _ hx, r⟩
              · obtain ⟨y, hy, rfl⟩ := List.mem_map.mp z
                obtain ⟨y1, y2⟩ := List.mem_filter.mp hy
                refine ⟨x1, by simp, y, (hms2 y).mp y1, fun e => ?_, rfl⟩
                rw [e] at y2
                simpa using y2
            · rintro ⟨x, hx, y, y1, y2, rfl⟩
              rcases List.mem_append.mp hx with hx | hx
              · exact .inl ⟨x, hx, y, y1, y2, rfl⟩
              · obtain rfl := List.mem_singleton.mp hx
                refine .inr (List.mem_map.mpr ⟨y, List.mem_filter.mpr ⟨(hms2 y).mpr y1, ?_⟩, rfl⟩)
                by_cases e : wd = .quo
                · simp [y2 e]
                · simp [e]
      case fd =>
        rintro σ He ⟨y6, ws, rfl, te, he5, hw, hwl, hwm⟩
        rw [List.length_map] at hwl
        rw [List.length_map, List.take_length] at hwm
        walk_at "rd"
        refine ⟨by decide, by decide, ?_⟩
        refine for_range (lo := 0) (n := Int.toNat 6) (GI He a p1 p2 pq pw wd x9) ?r1 ?r2 ?r3
        case r1 => exact ⟨_, _, _, rfl, Same.refl _⟩
        case r2 =>
          rintro i1 σ Hf hi ⟨y6, y7, y8, rfl, tf⟩
          walk_at "rd"
          have m1 := tf _ _ (te _ _ j1)
          have m2 := tf _ _ (te _ _ j2)
          have hi6 : i1 < 6 := hi
          refine ⟨_, SqT.of m1, _, rfl, ?_, _, SqT.of m1, _, rfl, _, SqT.of m1, _, rfl, _, rfl, _, rfl, a, ns, _, _, rfl, (te.trans tf).seq hSd, by omega, by omega, fun n1 Hg c1 c2 t8 => ?_⟩
          · exact .inl ⟨by decide, by decide⟩
          have m3 := t8 _ _ m2
          refine ⟨_, rfl, _, rfl, _, SqT.of m3, _, rfl, ?_, _, SqT.of m3, _, rfl, _, SqT.of m3, _, rfl, _, rfl, _, rfl, a, ns, _, _, rfl, (te.trans (tf.trans t8)).seq hSd, by omega, by omega, fun n2 Hh c3 c4 t9 => ⟨_, rfl, _, rfl, ?_⟩⟩
          · exact .inl ⟨by decide, by decide⟩
          have mq := t9 _ _ (t8 _ _ (tf _ _ (te _ _ hq)))
          have good : (wd = .quo → a2 + n2 ≠ 0) → u ≤ wd.worth (a1 + n1) (a2 + n2) ∧ wd.worth (a1 + n1) (a2 + n2) ≤ v := fun z => rel.2.2.1 _ ⟨a1 + n1, a2 + n2, by omega, by omega, by omega, by omega, z, rfl⟩
          have ends : ∀ Hi, Same Hh Hi → GI He a p1 p2 pq pw wd x9 (i1 + 1) [some (V.ref a), some (V.ref p1), some (V.ref p2), some (V.str wd.str), some (V.ref pq), some (V.ref pw), some (V.int (a1 + n1)), some (V.int (0 + (i1 : Int))), some (V.int (a2 + n2)), x9] Hi := fun Hi ti => ⟨_, _, _, rfl, tf.trans (t8.trans (t9.trans ti))⟩
          refine ⟨_, ⟨rfl, eqWd wd .quo⟩, ?_⟩
          have hyb : (a2 + n2).natAbs < 1073741824 := by omega
          by_cases hq' : wd = .quo
          · rw [if_neg (by simp [hq'])]
            by_cases hz : a2 + n2 = 0
            · rw [if_neg (by simp [hz])]
              exact ends _ (Same.refl _)
            · rw [if_pos (by simp [hz])]
              have g := good fun _ => hz
              refine ⟨_, SqT.of mq, _, rfl, wd, _, _, rfl, fun _ => hz, hyb, fun Hi ti => ⟨_, rfl, _, rfl, ?_⟩⟩
              rw [if_pos g.1]
              refine ⟨_, SqT.of (ti _ _ mq), _, rfl, _, rfl, _, rfl, ?_⟩
              rw [if_neg (by simp [g.2])]
              exact ends _ ti
          · rw [if_pos (by simp [hq'])]
            have g := good fun z => absurd z hq'
            refine ⟨_, SqT.of mq, _, rfl, wd, _, _, rfl, fun z => absurd z hq', hyb, fun Hi ti => ⟨_, rfl, _, rfl, ?_⟩⟩
            rw [if_pos g.1]
            refine ⟨_, SqT.of (ti _ _ mq), _, rfl, _, rfl, _, rfl, ?_⟩
            rw [if_neg (by simp [g.2])]
            exact ends _ ti
        case r3 =>
          rintro σ Hf ⟨y6, y7, y8, rfl, tf⟩
          walk_at "rd"
          have within : ∀ x, x ∈ ws → u ≤ x ∧ x ≤ v := fun x hx => by
            obtain ⟨x1, g1, y1, g2, g3, rfl⟩ := (hwm x).mp hx
            have g1 := (hms x1).mp g1
            exact rel.2.2.1 _ ⟨x1, y1, g1.2.1, g1.2.2, g2.2.1, g2.2.2, g3, rfl⟩
          have mq := tf _ _ (te _ _ hq)
          have mw := tf _ _ hw
          refine ⟨zl 2 (by decide), fun p5 hp5 => ?_⟩
          have s5 := same_new hp5 (HO.tup [V.str "less", V.str "same"])
          have e5' : upd Hf p5 (HO.tup [V.str "less", V.str "same"]) p5 = _ := upd_same
          rw [show (HO.tup [V.str (Str.ofString "less"), V.str (Str.ofString "same")]) = HO.tup [V.str "less", V.str "same"] from rfl]
          generalize upd Hf p5 (HO.tup [V.str "less", V.str "same"]) = U5 at s5 e5' ⊢
          refine ⟨decide (wd ≠ .less ∧ wd ≠ .same), .inl ⟨p5, _, rfl, .inr (SqT.of e5'), rfl, rfl, by cases wd <;> decide +kernel⟩, ?_⟩
          refine way_on (Hy := fun Hx => Same Hf Hx) (C := ?cc) ?kk ?_
          case kk =>
            intro key
            by_cases hn : wd ≠ .less ∧ wd ≠ .same
            · rw [if_pos (by simpa using hn)]
              obtain ⟨xe1, xe2⟩ := rel.2.2.2 hn.2
              have in1 : u ∈ ws := by
                obtain ⟨x, y, z1, z2, z3, z4⟩ := xe1.ends
                exact (hwm u).mpr ⟨x, (hms x).mpr z1, y, z2, z3, z4⟩
              have in2 : v ∈ ws := by
                obtain ⟨x, y, z1, z2, z3, z4⟩ := xe2.ends
                exact (hwm v).mpr ⟨x, (hms x).mpr z1, y, z2, z3, z4⟩
              have hpos : 0 < ws.length := List.length_pos_of_mem in1
              refine ⟨ws, SqL.of (s5 _ _ mw), hpos, fun M n1 n2 => ⟨ws, SqL.of (s5 _ _ mw), hpos, fun N n3 n4 => ⟨zl 2 (by decide), fun p6 hp6 => ?_⟩⟩⟩
              have eM : M = u := by
                have := n2 u in1
                have := (within M n1).1
                omega
              have eN : N = v := by
                have := n4 v in2
                have := (within N n3).2
                omega
              subst eM eN
              have s6 := same_new hp6 (HO.tup [V.int M, V.int N])
              refine ⟨_, eqS_of (dtS_mk (s6 _ _ (s5 _ _ mq))) (dtS_mk upd_same), ?_⟩
              rw [if_neg (by simp)]
              have s6' := s5.trans s6
              generalize upd U5 p6 (HO.tup [V.int M, V.int N]) = Hx at s6' ⊢
              exact key Hx s6'
            · rw [if_neg (by simpa using hn)]
              exact key U5 s5
          intro Hx sx
          refine ⟨⟨_, SqL.of (sx _ _ mw)⟩, ?_⟩
          refine comp_ints (t0 := none) (rest := [some (.ref pq)]) (fun x => !(decide (u ≤ x) && decide (x ≤ v))) (fun x => x) (SqL.of (sx _ _ mw)) (by omega) ?_ ?_
          · intro n t H' R1 R0 hn s hp1 hp0
            walk_at "rd"
            have gw := within n hn
            have mq' := s _ _ (sx _ _ mq)
            refine ⟨_, SqT.of mq', _, rfl, _, rfl, ?_⟩
            rw [if_pos gw.1]
            refine ⟨_, SqT.of mq', _, rfl, _, rfl, ?_⟩
            rw [if_neg (by simp [gw.2])]
            exact hp0 (by simp [gw.1, gw.2]) _ _ s
          intro H8 l8 t8 hl8
          rw [show (ws.filter fun x => !(decide (u ≤ x) && decide (x ≤ v))) = [] from List.filter_eq_nil_iff.mpr fun x hx => by simp [within x hx]]
          refine ⟨Nat.zero_le _, fun p9 hp9 => ?_⟩
          have u8 := same_new hl8 (HO.lst ((([] : List Int).map fun x => x).map V.int))
          have u9 := same_new hp9 (HO.lst [])
          have q8 := u9 _ _ (upd_same (H := H8) (a := l8) (o := HO.lst ((([] : List Int).map fun x => x).map V.int)))
          have q9 : upd (upd H8 l8 (HO.lst ((([] : List Int).map fun x => x).map V.int))) p9 (HO.lst []) p9 = _ := upd_same
          have s9 := t8.trans (u8.trans u9)
          generalize upd (upd H8 l8 (HO.lst ((([] : List Int).map fun x => x).map V.int))) p9 (HO.lst []) = U9 at s9 q8 q9 ⊢
          refine ⟨_, .inr ⟨_, rfl, _, SqL.of q8, _, SqL.of q9, rfl, rfl, rfl⟩, ?_⟩
          rw [if_neg (by decide)]
          have sf := te.trans (tf.trans (sx.trans s9))
          have m1 := sf _ _ j1
          have m2 := sf _ _ j2
          have mq9 := s9 _ _ (sx _ _ mq)
          refine ⟨_, SqT.of m1, _, rfl, _, SqT.of m1, _, rfl, _, SqT.of m1, _, rfl, _, SqT.of m1, _, rfl, _, rfl, _, rfl, a, ns, _, _, rfl, sf.seq hSd, by decide, by omega, fun n1 Ha c1 c2 ta => ⟨_, rfl, _, rfl, zl 2 (by decide), fun pa hpa => ?_⟩⟩
          have ua := same_new hpa (HO.tup [V.int a1, V.int (a1 + n1)])
          have ea : upd Ha pa (HO.tup [V.int a1, V.int (a1 + n1)]) pa = _ := upd_same
          generalize upd Ha pa (HO.tup [V.int a1, V.int (a1 + n1)]) = Ua at ua ea ⊢
          have tu := ta.trans ua
          have ok3 : okS 1073741824 (some (a1, a1 + n1)) := ⟨by omega, by omega, by omega⟩
          refine ⟨wd, .ref pa, .ref p2, _, _, rfl, dtS_mk ea, dtS_mk (tu _ _ m2), ok3, ok2, fun r2 Hb o2 tb rel2 dr2 => ?_⟩
          have rel2 : IsS wd a1 (a1 + n1) a2 b2 o2 := rel2
          refine ⟨r2, .ref pq, o2, _, rfl, dr2, dtS_mk (tb _ _ (tu _ _ mq9)), fun Hd' td' => ⟨_, rfl, ?_⟩⟩
          rw [within_less (by omega) rel rel2, if_neg (by decide)]
          have sg := tu.trans (tb.trans td')
          have n1' := sg _ _ m1
          have n2' := sg _ _ m2
          have nq := sg _ _ mq9
          have done : ∀ Hz, Same Hd' Hz → LI U a p1 p2 (i + 1) [some (V.ref a), some (V.ref p1), some (V.ref p2), some (V.str wd.str), some (V.ref pq), some (V.ref pw), y6, y7, y8, some (V.ref pa)] Hz := fun Hz tz => ⟨_, _, _, _, _, _, _, rfl, tc.trans (td.trans (sf.trans (sg.trans tz)))⟩
          refine ⟨_, eqW wd .less, ?_⟩
          by_cases hl' : wd = .less
          · rw [if_pos (by simp [hl'])]
            subst hl'
            obtain ⟨l1, l2⟩ := less_is h1 k1 rel
            refine ⟨_, SqT.of n1', _, rfl, _, SqT.of n2', _, rfl, _, rfl, _, rfl, _, SqT.of n1', _, rfl, _, SqT.of n2', _, rfl, _, rfl, _, rfl, zl 2 (by decide), fun pz hpz => ?_⟩
            rw [← l1, ← l2]
            have uz := same_new hpz (HO.tup [V.int u, V.int v])
            refine ⟨_, eqS_of (dtS_mk (uz _ _ nq)) (dtS_mk upd_same), ?_⟩
            rw [if_neg (by simp)]
            exact done _ uz
          · rw [if_neg (by simp [hl'])]
            exact done _ (Same.refl _)
end
end SR


set_option Elab.async false
set_option linter.all false
set_option maxRecDepth 100000
set_option maxHeartbeats 0
namespace SR
open PySem L2

theorem all_mk {l : PySem.W.OpenLaw} {w : World} {K : PySem.W.Frag} {h : Heap} {mg : Str → Option Value} {fa f0 f1 f2 f3 f4 f5 f6 f7 f8 f9 f10 f11 f12 f13 : Addr} (X : K.In h) (G : h.Ns mainGlobals mg) (hfa : mg "law" = some (.ref fa))
    {od0 an0 od1 an1 od2 an2 od3 an3 od4 an4 od5 an5 od6 an6 od7 an7 od8 an8 od9 an9 od10 an10 od11 an11 od12 an12 od13 an13 : Option Addr} {sl0 sl1 sl2 sl3 sl4 sl5 sl6 sl7 sl8 sl9 sl10 sl11 sl12 sl13 : Array (Option Value)} {oc0 kV0 dc0 pm0 cd0 ct0 oc1 kV1 dc1 pm1 cd1 ct1 oc2 kV2 dc2 pm2 cd2 ct2 oc3 kV3 dc3 pm3 cd3 ct3 oc4 kV4 dc4 pm4 cd4 ct4 oc5 kV5 dc5 pm5 cd5 ct5 oc6 kV6 dc6 pm6 cd6 ct6 oc7 kV7 dc7 pm7 cd7 ct7 oc8 kV8 dc8 pm8 cd8 ct8 oc9 kV9 dc9 pm9 cd9 ct9 oc10 kV10 dc10 pm10 cd10 ct10 oc11 kV11 dc11 pm11 cd11 ct11 oc12 kV12 dc12 pm12 cd12 ct12 oc13 kV13 dc13 pm13 cd13 ct13 : Value}
    (a0 : PySem.W.nsIn K mainGlobals "worth_of" = some (some (.ref f0))) (l0 : K.lookup f0 = some ⟨oc0, od0, .func (PySem.W.fnOf "worth_of" "worth_of" (defArgs s_worth_of) (defBody s_worth_of) (defScope s_worth_of) .none kV0 dc0 pm0 an0 cd0 ct0), sl0⟩) (c0 : PySem.W.codeIn K cd0 "worth_of" = true) (k0 : PySem.W.keepIn K (.ref f0) = true)
    (a1 : PySem.W.nsIn K mainGlobals "joined" = some (some (.ref f1))) (l1 : K.lookup f1 = some ⟨oc1, od1, .func (PySem.W.fnOf "joined" "joined" (defArgs s_joined) (defBody s_joined) (defScope s_joined) .none kV1 dc1 pm1 an1 cd1 ct1), sl1⟩) (c1 : PySem.W.codeIn K cd1 "joined" = true) (k1 : PySem.W.keepIn K (.ref f1) = true)
    (a2 : PySem.W.nsIn K mainGlobals "met" = some (some (.ref f2))) (l2 : K.lookup f2 = some ⟨oc2, od2, .func (PySem.W.fnOf "met" "met" (defArgs s_met) (defBody s_met) (defScope s_met) .none kV2 dc2 pm2 an2 cd2 ct2), sl2⟩) (c2 : PySem.W.codeIn K cd2 "met" = true) (k2 : PySem.W.keepIn K (.ref f2) = true)
    (a3 : PySem.W.nsIn K mainGlobals "is_within" = some (some (.ref f3))) (l3 : K.lookup f3 = some ⟨oc3, od3, .func (PySem.W.fnOf "is_within" "is_within" (defArgs s_is_within) (defBody s_is_within) (defScope s_is_within) .none kV3 dc3 pm3 an3 cd3 ct3), sl3⟩) (c3 : PySem.W.codeIn K cd3 "is_within" = true) (k3 : PySem.W.keepIn K (.ref f3) = true)
    (a4 : PySem.W.nsIn K mainGlobals "between" = some (some (.ref f4))) (l4 : K.lookup f4 = some ⟨oc4, od4, .func (PySem.W.fnOf "between" "between" (defArgs s_between) (defBody s_between) (defScope s_between) .none kV4 dc4 pm4 an4 cd4 ct4), sl4⟩) (c4 : PySem.W.codeIn K cd4 "between" = true) (k4 : PySem.W.keepIn K (.ref f4) = true)
    (a5 : PySem.W.nsIn K mainGlobals "stretch_of" = some (some (.ref f5))) (l5 : K.lookup f5 = some ⟨oc5, od5, .func (PySem.W.fnOf "stretch_of" "stretch_of" (defArgs s_stretch_of) (defBody s_stretch_of) (defScope s_stretch_of) .none kV5 dc5 pm5 an5 cd5 ct5), sl5⟩) (c5 : PySem.W.codeIn K cd5 "stretch_of" = true) (k5 : PySem.W.keepIn K (.ref f5) = true)
    (a6 : PySem.W.nsIn K mainGlobals "stretch_of_same" = some (some (.ref f6))) (l6 : K.lookup f6 = some ⟨oc6, od6, .func (PySem.W.fnOf "stretch_of_same" "stretch_of_same" (defArgs s_stretch_of_same) (defBody s_stretch_of_same) (defScope s_stretch_of_same) .none kV6 dc6 pm6 an6 cd6 ct6), sl6⟩) (c6 : PySem.W.codeIn K cd6 "stretch_of_same" = true) (k6 : PySem.W.keepIn K (.ref f6) = true)
    (a7 : PySem.W.nsIn K mainGlobals "stretch_of_ends" = some (some (.ref f7))) (l7 : K.lookup f7 = some ⟨oc7, od7, .func (PySem.W.fnOf "stretch_of_ends" "stretch_of_ends" (defArgs s_stretch_of_ends) (defBody s_stretch_of_ends) (defScope s_stretch_of_ends) .none kV7 dc7 pm7 an7 cd7 ct7), sl7⟩) (c7 : PySem.W.codeIn K cd7 "stretch_of_ends" = true) (k7 : PySem.W.keepIn K (.ref f7) = true)
    (a8 : PySem.W.nsIn K mainGlobals "_law_cell" = some (some (.ref f8))) (l8 : K.lookup f8 = some ⟨oc8, od8, .func (PySem.W.fnOf "_law_cell" "_law_cell" (defArgs s_law_cell) (defBody s_law_cell) (defScope s_law_cell) .none kV8 dc8 pm8 an8 cd8 ct8), sl8⟩) (c8 : PySem.W.codeIn K cd8 "_law_cell" = true) (k8 : PySem.W.keepIn K (.ref f8) = true)
    (a9 : PySem.W.nsIn K mainGlobals "_law_pick" = some (some (.ref f9))) (l9 : K.lookup f9 = some ⟨oc9, od9, .func (PySem.W.fnOf "_law_pick" "_law_pick" (defArgs s_law_pick) (defBody s_law_pick) (defScope s_law_pick) .none kV9 dc9 pm9 an9 cd9 ct9), sl9⟩) (c9 : PySem.W.codeIn K cd9 "_law_pick" = true) (k9 : PySem.W.keepIn K (.ref f9) = true)
    (a10 : PySem.W.nsIn K mainGlobals "_law_reckoned" = some (some (.ref f10))) (l10 : K.lookup f10 = some ⟨oc10, od10, .func (PySem.W.fnOf "_law_reckoned" "_law_reckoned" (defArgs s_law_reckoned) (defBody s_law_reckoned) (defScope s_law_reckoned) .none kV10 dc10 pm10 an10 cd10 ct10), sl10⟩) (c10 : PySem.W.codeIn K cd10 "_law_reckoned" = true) (k10 : PySem.W.keepIn K (.ref f10) = true)
    (a11 : PySem.W.nsIn K mainGlobals "_law_stretch" = some (some (.ref f11))) (l11 : K.lookup f11 = some ⟨oc11, od11, .func (PySem.W.fnOf "_law_stretch" "_law_stretch" (defArgs s_law_stretch) (defBody s_law_stretch) (defScope s_law_stretch) .none kV11 dc11 pm11 an11 cd11 ct11), sl11⟩) (c11 : PySem.W.codeIn K cd11 "_law_stretch" = true) (k11 : PySem.W.keepIn K (.ref f11) = true)
    (a12 : PySem.W.nsIn K mainGlobals "_law_ends" = some (some (.ref f12))) (l12 : K.lookup f12 = some ⟨oc12, od12, .func (PySem.W.fnOf "_law_ends" "_law_ends" (defArgs s_law_ends) (defBody s_law_ends) (defScope s_law_ends) .none kV12 dc12 pm12 an12 cd12 ct12), sl12⟩) (c12 : PySem.W.codeIn K cd12 "_law_ends" = true) (k12 : PySem.W.keepIn K (.ref f12) = true)
    (a13 : PySem.W.nsIn K mainGlobals "law" = some (some (.ref f13))) (l13 : K.lookup f13 = some ⟨oc13, od13, .func (PySem.W.fnOf "law" "law" (defArgs s_law) (defBody s_law) (defScope s_law) .none kV13 dc13 pm13 an13 cd13 ct13), sl13⟩) (c13 : PySem.W.codeIn K cd13 "law" = true) (k13 : PySem.W.keepIn K (.ref f13) = true)
    (z_min : PySem.W.nsIn K mainGlobals "min" = some none)
    (z_max : PySem.W.nsIn K mainGlobals "max" = some none)
    (z_sorted : PySem.W.nsIn K mainGlobals "sorted" = some none)
    (z_range : PySem.W.nsIn K mainGlobals "range" = some none)
    (z_len : PySem.W.nsIn K mainGlobals "len" = some none)
    (z_set : PySem.W.nsIn K mainGlobals "set" = some none)
    (z_int : PySem.W.nsIn K mainGlobals "int" = some none)
    : ∃ fd : FuncData, (∀ (s : Shared) (v : Value), BindsTo s fd ⟨[v], []⟩ [("_law_script", v)]) ∧ ∀ base : Heap, K.In base → base.Ns mainGlobals mg → FnOk l.prog w K mg base CX0 6 fa fd ["_law_script"] (spLaw K) := by
  have e := hfa.symm.trans (PySem.W.mg_of X G a13)
  cases e
  have F_worth_of := fun_mk (st := s_worth_of) l0 c0 k0
  have B_worth_of := F_worth_of.binds (ps := ["word", "one", "other"]) fun _ _ _ _ _ _ us hl => match us, hl with | [_, _, _], _ => rfl
  have d_worth_of : Df K mg "worth_of" s_worth_of ["word", "one", "other"] f0 _ := ⟨F_worth_of, PySem.W.mg_of X G a0, B_worth_of⟩
  have F_joined := fun_mk (st := s_joined) l1 c1 k1
  have B_joined := F_joined.binds (ps := ["one", "other"]) fun _ _ _ _ _ _ us hl => match us, hl with | [_, _], _ => rfl
  have d_joined : Df K mg "joined" s_joined ["one", "other"] f1 _ := ⟨F_joined, PySem.W.mg_of X G a1, B_joined⟩
  have F_met := fun_mk (st := s_met) l2 c2 k2
  have B_met := F_met.binds (ps := ["one", "other"]) fun _ _ _ _ _ _ us hl => match us, hl with | [_, _], _ => rfl
  have d_met : Df K mg "met" s_met ["one", "other"] f2 _ := ⟨F_met, PySem.W.mg_of X G a2, B_met⟩
  have F_is_within := fun_mk (st := s_is_within) l3 c3 k3
  have B_is_within := F_is_within.binds (ps := ["one", "other"]) fun _ _ _ _ _ _ us hl => match us, hl with | [_, _], _ => rfl
  have d_is_within : Df K mg "is_within" s_is_within ["one", "other"] f3 _ := ⟨F_is_within, PySem.W.mg_of X G a3, B_is_within⟩
  have F_between := fun_mk (st := s_between) l4 c4 k4
  have B_between := F_between.binds (ps := ["low", "high"]) fun _ _ _ _ _ _ us hl => match us, hl with | [_, _], _ => rfl
  have d_between : Df K mg "between" s_between ["low", "high"] f4 _ := ⟨F_between, PySem.W.mg_of X G a4, B_between⟩
  have F_stretch_of := fun_mk (st := s_stretch_of) l5 c5 k5
  have B_stretch_of := F_stretch_of.binds (ps := ["word", "one", "other"]) fun _ _ _ _ _ _ us hl => match us, hl with | [_, _, _], _ => rfl
  have d_stretch_of : Df K mg "stretch_of" s_stretch_of ["word", "one", "other"] f5 _ := ⟨F_stretch_of, PySem.W.mg_of X G a5, B_stretch_of⟩
  have F_stretch_of_same := fun_mk (st := s_stretch_of_same) l6 c6 k6
  have B_stretch_of_same := F_stretch_of_same.binds (ps := ["one", "other"]) fun _ _ _ _ _ _ us hl => match us, hl with | [_, _], _ => rfl
  have d_stretch_of_same : Df K mg "stretch_of_same" s_stretch_of_same ["one", "other"] f6 _ := ⟨F_stretch_of_same, PySem.W.mg_of X G a6, B_stretch_of_same⟩
  have F_stretch_of_ends := fun_mk (st := s_stretch_of_ends) l7 c7 k7
  have B_stretch_of_ends := F_stretch_of_ends.binds (ps := ["word", "one", "other"]) fun _ _ _ _ _ _ us hl => match us, hl with | [_, _, _], _ => rfl
  have d_stretch_of_ends : Df K mg "stretch_of_ends" s_stretch_of_ends ["word", "one", "other"] f7 _ := ⟨F_stretch_of_ends, PySem.W.mg_of X G a7, B_stretch_of_ends⟩
  have F_law_cell := fun_mk (st := s_law_cell) l8 c8 k8
  have B_law_cell := F_law_cell.binds (ps := ["_law_script", "_law_k"]) fun _ _ _ _ _ _ us hl => match us, hl with | [_, _], _ => rfl
  have d_law_cell : Df K mg "_law_cell" s_law_cell ["_law_script", "_law_k"] f8 _ := ⟨F_law_cell, PySem.W.mg_of X G a8, B_law_cell⟩
  have F_law_pick := fun_mk (st := s_law_pick) l9 c9 k9
  have B_law_pick := F_law_pick.binds (ps := ["_law_script", "_law_k", "_law_many"]) fun _ _ _ _ _ _ us hl => match us, hl with | [_, _, _], _ => rfl
  have d_law_pick : Df K mg "_law_pick" s_law_pick ["_law_script", "_law_k", "_law_many"] f9 _ := ⟨F_law_pick, PySem.W.mg_of X G a9, B_law_pick⟩
  have F_law_reckoned := fun_mk (st := s_law_reckoned) l10 c10 k10
  have B_law_reckoned := F_law_reckoned.binds (ps := ["_law_word", "_law_one", "_law_other"]) fun _ _ _ _ _ _ us hl => match us, hl with | [_, _, _], _ => rfl
  have d_law_reckoned : Df K mg "_law_reckoned" s_law_reckoned ["_law_word", "_law_one", "_law_other"] f10 _ := ⟨F_law_reckoned, PySem.W.mg_of X G a10, B_law_reckoned⟩
  have F_law_stretch := fun_mk (st := s_law_stretch) l11 c11 k11
  have B_law_stretch := F_law_stretch.binds (ps := ["_law_script", "_law_at"]) fun _ _ _ _ _ _ us hl => match us, hl with | [_, _], _ => rfl
  have d_law_stretch : Df K mg "_law_stretch" s_law_stretch ["_law_script", "_law_at"] f11 _ := ⟨F_law_stretch, PySem.W.mg_of X G a11, B_law_stretch⟩
  have F_law_ends := fun_mk (st := s_law_ends) l12 c12 k12
  have B_law_ends := F_law_ends.binds (ps := ["_law_stretch_here"]) fun _ _ _ _ _ _ us hl => match us, hl with | [_], _ => rfl
  have d_law_ends : Df K mg "_law_ends" s_law_ends ["_law_stretch_here"] f12 _ := ⟨F_law_ends, PySem.W.mg_of X G a12, B_law_ends⟩
  have F_law := fun_mk (st := s_law) l13 c13 k13
  have b_min := PySem.W.mg_none_of X G z_min
  have b_max := PySem.W.mg_none_of X G z_max
  have b_sorted := PySem.W.mg_none_of X G z_sorted
  have b_range := PySem.W.mg_none_of X G z_range
  have b_len := PySem.W.mg_none_of X G z_len
  have b_set := PySem.W.mg_none_of X G z_set
  have b_int := PySem.W.mg_none_of X G z_int
  refine ⟨PySem.W.fnOf "law" "law" (defArgs s_law) (defBody s_law) (defScope s_law) .none kV13 dc13 pm13 an13 cd13 ct13, fun s v => .of_eq rfl, fun base _ _ => ?_⟩
  have c_worth_of := d_worth_of.callee (ok_worth_of (P := l.prog) (w := w) (base := base) F_worth_of b_min b_max)
  have c_between := d_between.callee (ok_between (P := l.prog) (w := w) (base := base) F_between)
  have c_joined := d_joined.callee (ok_joined (P := l.prog) (w := w) (base := base) F_joined b_min b_max)
  have c_met := d_met.callee (ok_met F_met b_min b_max c_between)
  have c_is_within := d_is_within.callee (ok_is_within F_is_within c_met)
  have c_same := d_stretch_of_same.callee (ok_stretch_of_same F_stretch_of_same c_met)
  have c_ends := d_stretch_of_ends.callee (ok_stretch_of_ends F_stretch_of_ends b_min b_max c_worth_of)
  have c_of := d_stretch_of.callee (ok_stretch_of F_stretch_of b_min b_max c_between c_joined c_same c_ends)
  have c_cell := d_law_cell.callee (ok_cell (P := l.prog) (w := w) (base := base) F_law_cell b_len)
  have c_pick := d_law_pick.callee (ok_pick F_law_pick c_cell)
  have c_rk := d_law_reckoned.callee (ok_law_reckoned (P := l.prog) (w := w) (base := base) F_law_reckoned b_sorted)
  have c_str := d_law_stretch.callee (ok_law_stretch F_law_stretch b_min b_max c_pick)
  have c_ed := d_law_ends.callee (ok_law_ends (P := l.prog) (w := w) (base := base) F_law_ends b_sorted b_set)
  exact ok_law F_law b_range b_min b_max b_int c_pick c_str c_ed c_rk c_of c_is_within
theorem walk {l : PySem.W.OpenLaw} {q : Program} {loose : List Str} {XP : (Str → Option Value) → Heap → Prop} {YP : World → Heap → Prop} {d : DefRec} {K : Params → PySem.W.Frag} (hn : l.most = some 63) (hdf : d.params.defaults = [])
    (hY : ∀ (w : World) (h : Heap), YP w h → (K w.params).In h)
    (F : ∀ (w : World) (mg : Str → Option Value) (fa : Addr) (h : Heap), (K w.params).In h → h.Ns mainGlobals mg → mg d.name = some (.ref fa) →
      ∃ fd : FuncData, (∀ (s : Shared) (u : Value), BindsTo s fd ⟨[u], []⟩ [("_law_script", u)]) ∧ ∀ base : Heap, (K w.params).In base → base.Ns mainGlobals mg → FnOk l.prog w (K w.params) mg base CX0 6 fa fd ["_law_script"] (spLaw (K w.params))) :
    PySem.W.WalkO q loose XP YP l.row.toRowW d [] (fun f vs => PySem.call f vs) :=
  L2.walk_of (n := 63) (k := 6) (x := "_law_script") (CX := fun _ => CX0) (sp := fun w => spLaw (K w.params)) hn (by decide) hdf ⟨rfl, by decide, by decide⟩ hY F (fun _ _ a ns hl _ hS => ⟨a, ns, rfl, hS, hl, fun _ => rfl⟩) fun _ _ _ _ _ z => z
end SR
open PySem PySem.W PyProof.Rows
set_option maxRecDepth 100000 in
set_option maxHeartbeats 0 in
theorem PySem.Challenge.cw_smallrooms_k21_whole_great_stretches_holds : PySem.Challenge.rw_smallrooms_k21_whole_great_stretches.Holds := by
  w_on; o_law; k_head; (case hw => w_witness2)
  k_fill
  refine SR.walk (l := PySem.Challenge.rw_smallrooms_k21_whole_great_stretches) rfl rfl (fun w h Y => PySem.W.kIn_of Y) ?F
  case F =>
    intro w mg fa h KX G hmg
    refine' SR.all_mk KX G hmg ?a0 ?l0 ?c0 ?k0 ?a1 ?l1 ?c1 ?k1 ?a2 ?l2 ?c2 ?k2 ?a3 ?l3 ?c3 ?k3 ?a4 ?l4 ?c4 ?k4 ?a5 ?l5 ?c5 ?k5 ?a6 ?l6 ?c6 ?k6 ?a7 ?l7 ?c7 ?k7 ?a8 ?l8 ?c8 ?k8 ?a9 ?l9 ?c9 ?k9 ?a10 ?l10 ?c10 ?k10 ?a11 ?l11 ?c11 ?k11 ?a12 ?l12 ?c12 ?k12 ?a13 ?l13 ?c13 ?k13 ?z_min ?z_max ?z_sorted ?z_range ?z_len ?z_set ?z_int
    (case a0 => k_is); (case l0 => k_is); (case c0 => k_is); (case k0 => k_is)
    (case a1 => k_is); (case l1 => k_is); (case c1 => k_is); (case k1 => k_is)
    (case a2 => k_is); (case l2 => k_is); (case c2 => k_is); (case k2 => k_is)
    (case a3 => k_is); (case l3 => k_is); (case c3 => k_is); (case k3 => k_is)
    (case a4 => k_is); (case l4 => k_is); (case c4 => k_is); (case k4 => k_is)
    (case a5 => k_is); (case l5 => k_is); (case c5 => k_is); (case k5 => k_is)
    (case a6 => k_is); (case l6 => k_is); (case c6 => k_is); (case k6 => k_is)
    (case a7 => k_is); (case l7 => k_is); (case c7 => k_is); (case k7 => k_is)
    (case a8 => k_is); (case l8 => k_is); (case c8 => k_is); (case k8 => k_is)
    (case a9 => k_is); (case l9 => k_is); (case c9 => k_is); (case k9 => k_is)
    (case a10 => k_is); (case l10 => k_is); (case c10 => k_is); (case k10 => k_is)
    (case a11 => k_is); (case l11 => k_is); (case c11 => k_is); (case k11 => k_is)
    (case a12 => k_is); (case l12 => k_is); (case c12 => k_is); (case k12 => k_is)
    (case a13 => k_is); (case l13 => k_is); (case c13 => k_is); (case k13 => k_is)
    (case z_min => k_is); (case z_max => k_is); (case z_sorted => k_is); (case z_range => k_is)
    (case z_len => k_is); (case z_set => k_is); (case z_int => k_is)

